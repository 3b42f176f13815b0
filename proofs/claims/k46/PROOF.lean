import PyProof.Rows.All
import Wide.All
import OpenK.AllK
import Wide.FinOn
import Lean
import PyProof.EqAt
import PyProof.EqKinds
import PyProof.TupleCall
import PyProof.AttrMissHeap
import PyProof.Rows.RegFStrParts
import PySem.Challenge.RW_noteboard_k46_entries_judged
set_option Elab.async false
set_option linter.all false
set_option maxRecDepth 100000
open PySem renaming wpAny_bind -> Aa, PyData -> Ab, wpAny_pure -> Af, Value -> Ag, Shared -> Ai, wpAny -> Av, starEach -> Aw, sizeLine -> A2, model -> A7, Program -> Bn, wpAny_newObj_type -> Bq, Around -> Bt, bootBuiltins -> Bx, World -> By, wpAny_callSpecial?_slot -> Bz, compareOp -> B4, wpAny_call_entry -> Ca, wpAny_holding -> Cg, wpAny_seqItems -> Ct, wpAny_field -> Cu, sizeLine_eq -> Cw, SetTable -> Cz, FuncData -> C7, rawInt -> Da, codeAny_builtin -> Df, wpAny_setState_of -> Dk, wpAny_setField -> Dn, wpAny_mono -> Dv, wpAny_truthy_bool -> Dw, backTo -> D2, Builtin -> D8, mainGlobals -> Eb, pyNext -> Eg, wpAny_attempt -> Eh, firstArgMember -> Em, strKind -> Ep, assignEach -> Es, IsPair -> Eu, wpAny_setEntries_of -> Ex, wpAny_typeOf -> Ez, behindInMarks -> E1, wpAny_isInstance -> E2, wpAny_setField_rec -> E4, isSubtype_type -> E5, foldedSetIterable -> Fc, cLine -> Fo, binaryOp -> Fp, Scope -> Fu, wpAny_rule -> Fw, codeAny_mono -> Fx, swapsWith -> F1, plainId_quiet -> F2, wpAny_storeSet_of -> F5, mem_of_lookup -> F7, wpAny_fieldsOf -> Gi, Reads -> Gj, codeAny -> Gm, attributeBase -> Gx, wpAny_pyIter_tuple -> G1, sysModules -> G2, wpAny_of_eq -> G3, putSet_of -> G4, isSubtype_stop -> G8, ReadsAll -> G9, wpAny_forIn_list -> Hb, entryFor_of_tree -> Hd, wpAny_newList -> Hh, wpAny_typeNameOfWhole_keyiter -> Hi, sliceBounds -> Hj, wpAny_passesOwn -> Hr, wpAny_Call_Name_kw -> Hw, wpAny_typeNameOf_keyiter -> Hx
open List renaming length_map -> Ad, getElem?_eq_getElem -> Ah, mem_cons -> Al, mem_cons_self -> Am, length_append -> Ao, size_toArray -> Ap, mem_cons_of_mem -> Ar, length_cons -> Ax, getElem?_map -> A0, mem_append_right -> A1, not_mem_nil -> A3, map_cons -> A5, mem_append -> A6, mem_singleton -> A8, length_singleton -> Ba, set -> Bg, range -> Bh, mem_map -> Bk, getElem?_eq_some_iff -> Bo, mem_range -> Bs, append_assoc -> Bu, append_nil -> Bv, mem_of_getElem? -> B6, set_cons_zero -> B8, map_nil -> Ck, getElem?_cons_zero -> Cm, all_eq_true -> Cq, nil_append -> Cr, length_range -> Cs, map_append -> Cy, length_take -> C4, getElem?_cons_succ -> C5, toArray -> Dg, all_cons -> Dl, length_drop -> Dm, set_cons_succ -> Dx, pairwise_cons -> Dy, mem_append_left -> Dz, getElem?_set_ne -> D0, replicate -> D4, length_set -> D6, getElem_mem -> Ed, pairwise_singleton -> Ei, nodup_cons -> Ek, length_reverse -> Eo, map_map -> Er, map_id -> Et, ext_getElem -> Ew, mem_of_mem_take -> E6, filterMap_cons -> Fd, getElem?_replicate -> Ff, eq_nil_of_length_eq_zero -> Fl, getElem?_eq_none -> Fv, map_eq_cons_iff -> F3, pairwise_iff_getElem -> Gc, getElem?_append_left -> Gd, drop_eq_getElem_cons -> Ge, map_eq_nil_iff -> Gh, of_mem_zip -> Gn, mem_filter -> Gp, zip_cons_cons -> Gr, not_lt -> Gt, getElem?_set_self' -> Gu, pairwise_map -> Gy, all_map -> G0, take_length -> G7, mem_map_of_mem -> He, map_congr_left -> Hf, getElem_of_mem -> Hg, getElem?_append_right -> Hm, getD_eq_getElem?_getD -> Ho
open PySem.Heap renaming get?_push_of_some -> Ae, lt_size -> An, get?_push_size -> As, get?_update_self -> B1, size_push -> Ci, SameBut -> Dh, get?_update_other -> D5
open PySem.W renaming Frag -> Aj, keepIn -> Di, kia_one -> Dr, kas_rev -> Fb, fnOf -> F0, mg_of -> F8, kas_sort -> Gw
open And renaming intro -> Ak
open Nat renaming le_refl -> Aq, zero_le -> Bc, ne_of_lt -> Be, lt_of_lt_of_le -> Bj, le_trans -> B7, lt_irrefl -> C2, ne_of_gt -> Ee, lt_succ_of_lt -> Ej, lt_succ_self -> Ga, le_of_lt -> Gb, le_succ -> Ha, lt_of_le_of_lt -> Hs
open Bool renaming false_ne_true -> Au, and_eq_true -> Ay, false_eq_true -> A9, true_and -> Cf, eq_iff_iff -> D7, and_false -> Fg, not_true -> Fq, and_true -> Fs
open Array renaming length_toList -> Az, getElem?_toList -> Bp, getElem?_eq_getElem -> Cn, getElem?_eq_some_iff -> D3, mem_toList_iff -> Ef, mem_of_getElem? -> Ft, toList_inj -> F4, forIn_toList -> Gq, perm_iff_toList_perm -> Hl
open PySem.SetTable renaming insertAt -> A4, below -> Dp, grown -> Ec
open PySem.Heap.SameBut renaming update -> Bb
open PySem.Value renaming none -> Bd, ref -> Bf, type -> C9, str -> G5
open Option.some renaming inj -> Bi
open PySem.PyData renaming canLay0 -> Bm, eqv -> Bw, eqvAll -> B3, canLayAll0 -> Cb, depth -> Ce, depthAll -> Cj, tuple -> De, str -> D9, strOk -> Fk
open PyProof.Rows renaming seqObj -> Br, slot_tuple_getitem -> Dd, envOfC -> E3, get?_update_seq -> E9, listUpdate_at -> Fh, callWith_type1 -> Fi
open PySem.Obj renaming mapSeq -> B5, data_mapFields -> Cc, putSet -> Dq, isFreed_of_fields -> Dt, cls_mapFields -> E7
open Int renaming toNat_natCast -> B9, eq_ofNat_of_zero_le -> El, natCast_nonneg -> Ht, emod_lt_of_pos -> Hu
open PySem.Builtin.SmallTypes renaming nextOf -> Cp, ownedTupleIsFree -> C1, ownedTupleHandOut -> Hq
open PySem.Str renaming ofString -> C0
open PySem.Builtin.Slice renaming slicePlaces -> C3, sliceAdjust -> D1, sliceApplied -> Fn
open Or renaming inr -> C6, inl -> Ea
open PySem.Builtin.Tuple renaming tupleExact -> C8, tupleItemsOf -> Fm
open PySem.Builtin.List renaming listExtendWith -> Dc, listTooLong -> Ey, listSameRef -> Fz
open PySem.Around renaming under_plainId -> Dj
open Exists renaming intro -> Du
open Option renaming map_eq_some_iff -> En, bind -> Fj, map -> Fy, isSome_iff_exists -> Hv
open PySem.F renaming plainAttrs_list -> E8, args_tuple_add_2 -> F9, slot_tuple_iterator_next -> Gg, entry_tuple_add -> Gk, slot_tuple_add -> Gs, slot_zip_next -> Gv
open PySem.SeqAt.ReadsAll renaming length -> F6
open List.Pairwise renaming nil -> Gf
open List.cons renaming inj -> Gz
open ForInStep renaming yield -> G6
open PySem.Builtin.Str renaming occurrences -> Hk
open Option renaming some -> ae, none -> af
open Bool renaming true -> ah, false -> ai
noncomputable section
local macro_rules|`(tactic|omega)=>`(tactic|lia)
local macro_rules|`(⋯)=>`(by omega)
local macro_rules|`(∅)=>`(by decide +kernel)
local macro_rules|`(∎)=>`(by decide)
set_option maxHeartbeats 4000000
namespace L2
open PySem PySem.Spec PyProof.Rows
def jK(s:Stmt):Arguments:=match s with
 |.FunctionDef _ a _ _ _ _ _ _ _ _=>a
 |_=>{ posonlyargs:=[],args:=[],vararg:=af,kwonlyargs:=[],kw_defaults:=[],kwarg:=af,defaults:=[]}
def fh(s:Stmt):List Stmt:=match s with
 |.FunctionDef _ _ b _ _ _ _ _ _ _=>b
 |_=>[]
def cv(s:Stmt):Fu:=match s with
 |.FunctionDef _ _ _ _ _ _ sc _ _ _=>sc
 |_=>{ kind:=.function,names:=[],isGenerator:=ai,isCoroutine:=ai}
end L2
namespace Nb
open PySem L2
def cG(i:Nat):Stmt:=PySem.Challenge.pw_noteboard_k46_entries_judged.main.body.getD i (.Pass ⟨0,0,0,0⟩)
abbrev BJ:Stmt:=cG 38
abbrev Ig:Stmt:=cG 39
abbrev m6:Stmt:=cG 61
abbrev zi:Stmt:=BJ
abbrev xN:Stmt:=Ig
abbrev oT(t:String)(d:Data):Obj:=⟨.type t,af,d,#[]⟩
structure Ds where
 i:Nat
 x:Str
 t:Nat
 l:Nat
 n:Nat
 r:Nat
 b:Bool
 v:Nat
 m:Nat
abbrev Ds.c(d:Ds):Nat:=if d.b then d.r+5 else d.r+3
abbrev Ds.f(d:Ds):Nat:=if d.b then d.r+6 else d.r+4
abbrev JR(m:Nat):Ag:=[(.str "noteboard.values" 187),(.str "noteboard.patterns" 281),(.str "noteboard.programs" 289),(.str "noteboard.stands" 308),(.str "noteboard.entries" 364),(.str "law_noteboard_k46_entries_judged" 394)].getD m .none
abbrev jw(d:Ds):C7:=F0 d.x d.x (jK (cG d.i)) (fh (cG d.i)) (cv (cG d.i)) .none .none .none (JR d.m) af (.ref d.c) .none
abbrev oF(d:Ds):Obj:=oT "function" (.func (jw d))
abbrev oC(d:Ds):Obj:=oT "code" (.fields #[.str d.x d.t,.str d.x (d.t+1),.str "/claim/cut.py" (d.t+2),.int d.l 0,.int d.n 0,.int 0 0,.int 0 0,.int 3 0,.ref d.r,.bool ah,.int 181 0,.ref (d.r+1),.none,if d.b then .ref (d.r+2)else .none,if d.b then .ref (d.r+3)else .none,.ref (if d.b then d.r+4 else d.r+2),.int d.v 0,.int d.l 0,.str "/claim/cut.py" (d.v+1)])
abbrev eN(P:Params)(x:Str)(t:Nat)(v:Ag):DictEntry:=⟨PyData.keyHash P x,.str x t,v⟩
abbrev en(P:Params)(d:Ds):DictEntry:=eN P d.x (d.v+2) (.ref d.f)
def dL:List Ds:=[⟨6,"is_whole",199,7,1,15,ah,203,0⟩,⟨7,"is_letters",206,9,2,22,ai,209,0⟩,⟨8,"is_word",212,13,1,27,ah,216,0⟩,⟨9,"is_number",219,15,1,34,ah,223,0⟩,⟨10,"is_value",226,17,1,41,ah,230,0⟩,⟨11,"is_name",233,19,1,48,ah,237,0⟩,⟨12,"is_row",240,21,1,55,ai,243,0⟩,⟨13,"is_age",246,25,1,60,ah,250,0⟩,⟨14,"is_note",253,27,1,67,ah,257,0⟩,⟨15,"value_key",260,29,1,74,ah,264,0⟩,⟨16,"row_key",267,33,1,81,ai,270,0⟩,⟨17,"ahead",273,35,2,86,ah,278,0⟩,⟨19,"binds",283,38,1,93,ai,286,1⟩,⟨22,"known_at",295,42,3,99,ah,305,2⟩,⟨24,"is_named_value",310,51,1,106,ah,314,3⟩,⟨25,"is_names",317,53,1,113,ai,320,3⟩,⟨26,"has_hands_form",323,57,1,118,ai,326,3⟩,⟨27,"has_stand_form",329,59,1,123,ah,333,3⟩,⟨28,"is_within",336,63,2,130,ah,341,3⟩,⟨29,"is_placed",344,65,2,137,ah,349,3⟩,⟨30,"has_known_names",352,67,2,144,ai,355,3⟩,⟨31,"fault_of",358,71,2,149,ai,361,3⟩,⟨33,"is_many",366,85,1,154,ah,370,4⟩,⟨34,"is_count",373,87,1,161,ah,377,4⟩,⟨35,"is_counts",380,89,1,168,ai,383,4⟩,⟨36,"is_entry",386,93,2,173,ah,391,4⟩,⟨38,"_law_tape",396,98,1,180,ah,400,5⟩,⟨39,"_law_draw",403,100,2,187,ah,412,5⟩,⟨40,"_law_value",415,115,1,194,ah,419,5⟩,⟨41,"_law_size",422,117,1,201,ah,426,5⟩,⟨42,"_law_pattern",429,119,2,208,ah,440,5⟩,⟨43,"_law_template",443,136,2,215,ah,451,5⟩,⟨44,"_law_term",454,145,2,222,ah,459,5⟩,⟨45,"_law_act",462,149,3,229,ah,472,5⟩,⟨46,"_law_program",475,162,1,236,ai,478,5⟩,⟨47,"_law_notes",481,179,2,241,ai,484,5⟩,⟨48,"_law_programs",487,185,1,246,ai,490,5⟩,⟨49,"_law_known",493,190,3,251,ai,496,5⟩,⟨50,"_law_stand",499,196,3,256,ai,502,5⟩,⟨51,"_law_odd",505,204,1,261,ah,510,5⟩,⟨52,"_law_bent",513,208,2,268,ah,520,5⟩,⟨53,"_law_is_text",523,218,2,275,ai,526,5⟩,⟨54,"_law_is_whole",529,221,3,280,ah,535,5⟩,⟨55,"_law_is_row",538,223,1,287,ai,541,5⟩,⟨56,"_law_is_hand",544,227,2,292,ai,547,5⟩,⟨57,"_law_are_hands",550,235,2,297,ai,553,5⟩,⟨58,"_law_key",556,239,1,302,ai,559,5⟩,⟨59,"_law_counts",562,241,2,307,ai,565,5⟩,⟨60,"_law_is_entry",568,244,2,312,ai,571,5⟩,⟨61,"law",574,256,1,317,ah,588,5⟩]
def KK(P:Params):Aj:=let e:=eN P
 (3,oT "dict" (.dict ([e "__name__" 165 (.str "law_noteboard_k46_entries_judged" 394),e "__doc__" 166 .none,e "__package__" 167 .none,e "__loader__" 168 (.builtin "__main__.__loader__#opaque"),e "__spec__" 169 .none,e "__annotations__" 170 (.ref 6),e "__builtins__" 171 (.ref 4),e "__file__" 173 (.str "/claim/cut.py" 172),e "__cached__" 174 .none,e "LONGEST_WORD" 190 (.int 8 189),e "LONGEST_NAME" 192 (.int 4 191),e "LONGEST_ROW" 194 (.int 4 193),e "GREATEST_NUMBER" 196 (.int 99 195),e "GREATEST_AGE" 198 (.int 20 197)]++((dL.drop 0).take 13).map (en P)++[e "GETTING" 294 (.ref 98)]++((dL.drop 13).take 37).map (en P)).toArray 65))::(dL.flatMap λd=>[(d.c,oC d),(d.f,oF d)])++[(98,oT "tuple" (.seq #[(.str "take" 291),(.str "read" 292),(.str "look" 293)] 0))]
def aS:List Addr:=3::(dL.flatMap λd=>[d.c,d.f])++[98]
abbrev pp:Bn:=PySem.Challenge.pw_noteboard_k46_entries_judged
abbrev qq:Bn:=PySem.W.view pp [61]
def lO:List Str:=(["LONGEST_WORD","LONGEST_NAME","LONGEST_ROW","GREATEST_NUMBER","GREATEST_AGE","is_whole","is_letters","is_word","is_number","is_value","is_name","is_row","is_age","is_note","value_key","row_key","ahead","binds","GETTING","known_at","is_named_value","is_names","has_hands_form","has_stand_form","is_within","is_placed","has_known_names","fault_of","is_many","is_count","is_counts","is_entry","_law_tape","_law_draw","_law_value","_law_size","_law_pattern","_law_template","_law_term","_law_act","_law_program","_law_notes","_law_programs","_law_known","_law_stand","_law_odd","_law_bent","_law_is_text","_law_is_whole","_law_is_row","_law_is_hand","_law_are_hands","_law_key","_law_counts","_law_is_entry"]:List String).map C0
abbrev xT:Ai->Bool:=λs=>PySem.W.xlAt qq [] s&&PySem.W.recOk (PySem.W.RowW.records PySem.Challenge.rw_noteboard_k46_entries_judged.row.toRowW) s
theorem said_:PySem.Challenge.rw_noteboard_k46_entries_judged.wellSaid=ah:=by kernel_rfl
theorem aK:∀P,aS=(KK P).map (·.1):=λP=>by kernel_rfl
abbrev hK:PySem.W.Hook:=PySem.W.kHook KK aS aK
theorem left_:PySem.W.LeftO pp qq lO xT hK.obs hK.val 3000:=λw=>by kernel_rfl
def MV(s:Stmt):Pos:=match s with
 |.FunctionDef _ _ _ _ _ _ _ _ _ p=>p
 |_=>⟨0,0,0,0⟩
def dW:DefRec:=⟨"law",jK m6,fh m6,cv m6,MV m6⟩
theorem Mq(P:Params):(dL.map λd=>(PySem.W.nsIn (KK P) Eb d.x,(KK P).lookup d.f,PySem.W.codeIn (KK P) (.ref d.c) d.x))=dL.map λd=>(ae (ae (.ref d.f)),ae (oF d),ah):=by kernel_rfl
theorem xq{α β:Type}{f g:α->β}{l:List α}(h:l.map f=l.map g){j:Nat}{a:α}(e:l[j]?=ae a):f a=g a:=by
 have:=congrArg (λl=>l[j]?) h;simp only[A0,e,Option.map_some]at this;exact Bi this
end Nb
namespace L2
open PySem PySem.Spec PyProof.Rows
abbrev bA:=Sum Int Str
def jV:bA->Ag->Bool
 |.inl k,v=>Value.isInt k v
 |.inr x,v=>Value.isStrOf x v
def ja(w:By):bA->Int
 |.inl k=>hashInt k
 |.inr x=>hashStr w x
theorem hZ:∀{k:bA}{v:Ag},jV k v=ah->(∃i t,k=Sum.inl i/\v=Value.int i t)\/(∃x t,k=Sum.inr x/\v=G5 x t)
 |.inl i,v,h=>by
  obtain⟨t,e⟩:=Value.isInt_shape (k:=i) (v:=v) h;exact .inl ⟨i,t,rfl,e⟩
 |.inr x,v,h=>by
  obtain⟨t,e⟩:=Value.isStrOf_shape (x:=x) (v:=v) h;exact .inr ⟨x,t,rfl,e⟩
theorem DN(i:Int)(t:Tok):jV (.inl i) (.int i t)=ah:=by simp[jV,Value.isInt]
theorem Mf(x:Str)(t:Tok):jV (.inr x) (.str x t)=ah:=by simp[jV,Value.isStrOf]
theorem Iz(a b:Int):decide ((Sum.inl a:bA)=Sum.inl b)=(a==b):=by
 by_cases e:a=b
 ·subst e;simp
 ·have h:¬(Sum.inl a:bA)=Sum.inl b:=λq=>e (Sum.inl.inj q);rw[decide_eq_false h];exact(beq_eq_false_iff_ne.mpr e).symm
theorem BM(a b:Str):decide ((Sum.inr a:bA)=Sum.inr b)=decide (a=b):=by
 by_cases e:a=b
 ·subst e;simp
 ·have h:¬(Sum.inr a:bA)=Sum.inr b:=λq=>e (Sum.inr.inj q);rw[decide_eq_false h,decide_eq_false e]
theorem EJ(a:Int)(b:Str):decide ((Sum.inl a:bA)=Sum.inr b)=ai:=decide_eq_false (λq=>nomatch q)
theorem Lf(a:Str)(b:Int):decide ((Sum.inr a:bA)=Sum.inl b)=ai:=decide_eq_false (λq=>nomatch q)
def fv(prog:Bn)(w:By):PySem.KeyKind prog w bA where
 is:=jV
 hash:=ja w
 inj:=λv a b ha hb=>by
  rcases hZ ha with⟨i,t,rfl,rfl⟩|⟨x,t,rfl,rfl⟩
  ·rcases hZ hb with⟨j,u,rfl,e⟩|⟨y,u,rfl,e⟩
   ·injection e with e1 _;rw[e1]
   ·exact nomatch e
  ·rcases hZ hb with⟨j,u,rfl,e⟩|⟨y,u,rfl,e⟩
   ·exact nomatch e
   ·injection e with e1 _;rw[e1]
 byValue:=λk v h=>by
  rcases hZ h with⟨i,t,rfl,rfl⟩|⟨x,t,rfl,rfl⟩<;>rfl
 pyHash:=λhv h=>by
  rcases hZ hv with⟨i,t,rfl,rfl⟩|⟨x,t,rfl,rfl⟩
  ·exact wpAny_pyHash_int h
  ·exact wpAny_pyHash_str h
 eqBool:=λhu hv h=>by
  rcases hZ hu with⟨i,t,rfl,rfl⟩|⟨x,t,rfl,rfl⟩
  ·rcases hZ hv with⟨j,u,rfl,rfl⟩|⟨y,u,rfl,rfl⟩
   ·rw[Iz]at h;exact wpAny_eqBool_int h
   ·rw[EJ]at h;exact SeqAt.EqAt.int_str i t y u _ _ _ _ h
  ·rcases hZ hv with⟨j,u,rfl,rfl⟩|⟨y,u,rfl,rfl⟩
   ·rw[Lf]at h;exact SeqAt.EqAt.str_int x t j u _ _ _ _ h
   ·rw[BM]at h;exact wpAny_eqBool_str h
 «strs»:=λk x t v h=>by
  rcases hZ h with⟨i,u,rfl,e⟩|⟨y,u,rfl,e⟩
  ·exact nomatch e
  ·injection e with e1 _;subst e1;cases v<;>rfl
theorem uJ(prog:Bn)(w:By)(i:Int)(t:Tok):(fv prog w).is (.inl i) (.int i t)=ah:=DN i t
theorem v5(prog:Bn)(w:By)(x:Str)(t:Tok):(fv prog w).is (.inr x) (.str x t)=ah:=Mf x t
inductive V where
 |non|bl (b:Bool)|int (i:Int)|str (x:Str)|byt (b:Array UInt8)|flt (b:UInt64)|ref (a:Addr)|ty (n:String)
 deriving DecidableEq
def RelV:V->Ag->Prop
 |.non,u=>u=Bd
 |.bl b,u=>u=Value.bool b
 |.int i,u=>∃t,u=Value.int i t
 |.str x,u=>∃t,u=G5 x t
 |.byt b,u=>∃t,u=Value.bytes b t
 |.flt b,u=>∃t,u=Value.float b t
 |.ref a,u=>u=Bf a
 |.ty n,u=>u=C9 n
abbrev Vals:List V->List Ag->Prop:=Paired RelV
theorem Vals.length{xs:List V}{us:List Ag}(r:Vals xs us):xs.length=us.length:=Paired.length r
theorem Vals.get:∀{xs:List V}{us:List Ag}{i:Nat}{x:V},Vals xs us->xs[i]?=ae x->∃u,us[i]?=ae u/\RelV x u
 |_,_,_,_,.nil,e=>by simp at e
 |_,_,0,_,.cons r _,e=>by simp at e;subst e;exact⟨_,rfl,r⟩
 |_,_,i+1,x,.cons _ t,e=>by
  obtain⟨u,h1,h2⟩:=Vals.get (i:=i) (x:=x) t (by simpa using e);exact⟨u,by simpa using h1,h2⟩
theorem Vals.set{x:V}{u:Ag}(r:RelV x u):∀{xs:List V}{us:List Ag}(i:Nat),Vals xs us->Vals (xs.set i x) (us.set i u)
 |_,_,_,.nil=>.nil
 |_,_,0,.cons _ t=>.cons r t
 |_,_,i+1,.cons q t=>.cons q (Vals.set r i t)
theorem Vals.append:∀{xs ys:List V}{us ws:List Ag},Vals xs us->Vals ys ws->Vals (xs++ys) (us++ws)
 |_,_,_,_,.nil,s=>s
 |_,_,_,_,.cons r t,s=>.cons r (Vals.append t s)
theorem Vals.take:∀{xs:List V}{us:List Ag}(n:Nat),Vals xs us->Vals (xs.take n) (us.take n)
 |_,_,0,_=>.nil
 |_,_,_+1,.nil=>.nil
 |_,_,n+1,.cons r t=>.cons r (Vals.take n t)
theorem Vals.drop:∀{xs:List V}{us:List Ag}(n:Nat),Vals xs us->Vals (xs.drop n) (us.drop n)
 |_,_,0,r=>r
 |_,_,_+1,.nil=>.nil
 |_,_,n+1,.cons _ t=>Vals.drop n t
def jQ:Option V->Option Ag->Prop
 |some v,ae u=>RelV v u
 |none,af=>True
 |_,_=>False
def KV{κ:Type}:List (κ×V)->List (κ×Ag)->Prop:=Paired λ(p:κ×V)(q:κ×Ag)=>p.1=q.1/\RelV p.2 q.2
def kV:bA->V
 |.inl i=>.int i
 |.inr x=>.str x
inductive HO where
 |lst (xs:List V)
 |tup (xs:List V)
 |dK (kvs:List (bA×V))|dT (kvs:List (List bA×V))
 |set (S:Int->Bool) (n:Nat)
 |ins (C dx:Addr) (fs:List (Str×V))
 |own (x:Addr)
 |xd (fs:List (Str×V))
 |met (f x:Addr)
 |rng (lo hi:Int)
 |frz (o:Obj) (u:HO)
 |tbl (ps:Array Ag)
 |ext (φ:Heap->Prop)
abbrev Hp:=Addr->Option HO
def upd(H:Hp)(a:Addr)(o:HO):Hp:=λb=>if b=a then ae o else H b
theorem bI{H:Hp}{a:Addr}{o:HO}:upd H a o a=ae o:=by unfold upd;rw[if_pos rfl]
theorem aX{H:Hp}{a b:Addr}{o:HO}(h:b≠a):upd H a o b=H b:=by unfold upd;rw[if_neg h]
theorem ID{H:Hp}{a b:Addr}{o u:HO}(h:H a=ae o)(h':H b=ae u)(d:o≠u):a≠b:=by
 intro e;subst e;rw[h]at h';exact d (Bi h')
theorem b7{H:Hp}{a b:Addr}{o:HO}(h:H a=ae o)(h':H b=af):a≠b:=by
 intro e;subst e;rw[h]at h';cases h'
def IsTupP(h:Heap)(a:Addr)(items:Array Ag):Prop:=∃o,h.get? a=ae o/\o.cls=.type "tuple"/\(∃n,o.data=.seq items n)/\o.dict=af
theorem IsTupP.tup{h:Heap}{a:Addr}{items:Array Ag}(x:IsTupP h a items):IsTup h a items:=let⟨o,e,c,d,_⟩:=x;⟨o,e,c,d⟩
theorem IsTupP.lt{h:Heap}{a:Addr}{items:Array Ag}(x:IsTupP h a items):a < h.objs.size:=let⟨_,e,_⟩:=x;An e
theorem IsTupP.new(h:Heap)(items:Array Ag):IsTupP (h.push {cls:=.type "tuple",data:=.seq items}) h.objs.size items:=⟨_,As _ rfl,rfl,⟨_,rfl⟩,rfl⟩
section
variable(P:Bn)(w:By)
def ObjOk(H:Hp)(h:Heap)(a:Addr):HO->Prop
 |.lst xs=>xs.length<=A2/\∃(its:List Ag)(n:Nat),Vals xs its/\h.get? a=ae {cls:=.type "list",data:=.seq its.toArray n}
 |.tup xs=>xs.length<=A2/\∃its:List Ag,Vals xs its/\IsTupP h a its.toArray
 |.dK kvs=>kvs.length<=A2/\(a==G2)=ai/\∃vs,KV kvs vs/\h.DictOf (fv P w) a vs
 |.dT kvs=>kvs.length<=A2/\(a==G2)=ai/\∃xs:List (List bA×Addr×Ag),
   Paired (λ(p:List bA×V)(q:List bA×Addr×Ag)=>p.1=q.1/\H q.2.1=ae (.tup (p.1.map kV))/\RelV p.2 q.2.2) kvs xs /\
   ∃o es ep,h.get? a=ae o/\o.ExactDict/\o.data=.dict es ep/\es.toList=xs.map (entryOfKey (tupleKind (fv P w)))/\(xs.map (·.1)).Nodup
 |.set S n=>h.SetOf (intKind P w) a S n
 |.ins C dx fs=>H dx=ae (.own a)/\fs.length<=1000/\dx≠a/\h.get? a=ae (PySem.W.instObj C dx) /\
   ∃mA,h.Ns1 dx mA/\(∀f,jQ (fs.lookup f) (mA f))/\PySem.Within mA (fs.map (·.1))
 |.own _=>∃o,h.get? a=ae o
 |.xd fs=>∃mA,h.Ns1 a mA/\∀f,jQ (fs.lookup f) (mA f)
 |.rng lo hi=>∃t u v,h.get? a=ae {cls:=.type "range",data:=.fields #[.int lo t,.int hi u,.int 1 v]}
 |.frz o u=>h.get? a=ae o/\ObjOk H h a u
 |.tbl ps=>h.get? a=ae {cls:=.none,data:=.fields ps}
 |.met f x=>h.get? a=ae (PySem.W.methodObj (.ref f) (.ref x))
 |.ext φ=>φ h/\(∃o,h.get? a=ae o)/\∀h1 h2:Heap,φ h1->(∀o,h1.get? a=ae o->h2.get? a=ae o)->φ h2
def HOk(H:Hp)(h:Heap):Prop:=∀a o,H a=ae o->ObjOk P w H h a o
end
section
variable{P:Bn}{w:By}{H H':Hp}{h h':Heap}{a:Addr}{o:HO}
theorem ObjOk.lt(x:ObjOk P w H h a o):a < h.objs.size:=by
 cases o with
 |lst xs=>obtain⟨_,_,_,_,e⟩:=x;exact An e
 |tup xs=>obtain⟨_,_,_,p⟩:=x;exact p.lt
 |dK kvs=>obtain⟨_,_,_,_,o,_,_,e,_⟩:=x;exact An e
 |dT kvs=>obtain⟨_,_,_,_,o,_,_,e,_⟩:=x;exact An e
 |set S n=>obtain⟨o,_,_,_,e,_⟩:=x;exact An e
 |ins C dx fs=>obtain⟨_,_,_,e,_⟩:=x;exact An e
 |own y=>obtain⟨_,e⟩:=x;exact An e
 |xd fs=>obtain⟨_,⟨_,_,_,e,_⟩,_⟩:=x;exact An e
 |rng lo hi=>obtain⟨_,_,_,e⟩:=x;exact An e
 |frz ob u=>obtain⟨e,_⟩:=x;exact An e
 |tbl ps=>exact An (show h.get? a=ae _ from x)
 |met f y=>exact An (show h.get? a=ae _ from x)
 |ext φ=>obtain⟨_,⟨_,e⟩,_⟩:=x;exact An e
theorem Paired.mapP{α β:Type}{F G:α->β->Prop}:∀{l₁:List α}{l₂:List β},Paired F l₁ l₂->(∀a b,F a b->G a b)->Paired G l₁ l₂
 |_,_,.nil,_=>.nil
 |_,_,.cons r t,f=>.cons (f _ _ r) (Paired.mapP t f)
theorem ObjOk.stay(x:ObjOk P w H h a o)(k:∀b u,(b=a\/H b=ae (.own a))->h.get? b=ae u->h'.get? b=ae u)
  (ho:∀b,H b=ae (.own a)->H' b=ae (.own a)) (ht:∀b xs,H b=ae (.tup xs)->H' b=ae (.tup xs)):ObjOk P w H' h' a o:=by
 induction o with
 |lst xs=>obtain⟨z,its,n,r,e⟩:=x;exact⟨z,its,n,r,k _ _ (.inl rfl) e⟩
 |tup xs=>obtain⟨z,its,r,ob,e,c⟩:=x;exact⟨z,its,r,ob,k _ _ (.inl rfl) e,c⟩
 |dK kvs=>obtain⟨z,y,vs,r,ob,es,ep,e,c⟩:=x;exact⟨z,y,vs,r,ob,es,ep,k _ _ (.inl rfl) e,c⟩
 |dT kvs=>
  obtain⟨z,y,xs,r,ob,es,ep,e,c⟩:=x;exact⟨z,y,xs,Paired.mapP r λp q z=>⟨z.1,ht _ _ z.2.1,z.2.2⟩,ob,es,ep,k _ _ (.inl rfl) e,c⟩
 |set S n=>obtain⟨ob,es,ep,t,e,c⟩:=x;exact⟨ob,es,ep,t,k _ _ (.inl rfl) e,c⟩
 |ins C dx fs=>
  obtain⟨d,z,ne,e,mA,⟨od,es,ep,e2,c⟩,r⟩:=x;exact⟨ho _ d,z,ne,k _ _ (.inl rfl) e,mA,⟨od,es,ep,k _ _ (.inr d) e2,c⟩,r⟩
 |own y=>obtain⟨ob,e⟩:=x;exact⟨ob,k _ _ (.inl rfl) e⟩
 |xd fs=>obtain⟨mA,⟨od,es,ep,e,c⟩,r⟩:=x;exact⟨mA,⟨od,es,ep,k _ _ (.inl rfl) e,c⟩,r⟩
 |rng lo hi=>obtain⟨t,u,v,e⟩:=x;exact⟨t,u,v,k _ _ (.inl rfl) e⟩
 |frz ob u ih=>obtain⟨e,q⟩:=x;exact⟨k _ _ (.inl rfl) e,ih q⟩
 |tbl ps=>
  have e:h.get? a=ae {cls:=.none,data:=.fields ps}:=x;show h'.get? a=ae {cls:=.none,data:=.fields ps};exact k a _ (.inl rfl) e
 |met f y=>
  have e:h.get? a=ae (PySem.W.methodObj (.ref f) (.ref y)):=x;show h'.get? a=ae (PySem.W.methodObj (.ref f) (.ref y));exact k a _ (.inl rfl) e
 |ext φ=>obtain⟨p,⟨o,e⟩,st⟩:=x;exact⟨st _ _ p λo q=>k _ _ (.inl rfl) q,⟨o,k _ _ (.inl rfl) e⟩,st⟩
theorem HOk.lt(x:HOk P w H h)(e:H a=ae o):a < h.objs.size:=(x a o e).lt
theorem HOk.fresh(x:HOk P w H h)(e:h.objs.size<=a):H a=af:=by
 cases q:H a with
 |none=>rfl
 |some u=>exact absurd (Bj (x.lt q) e) (C2 _)
theorem HOk.kept(x:HOk P w H h)(k:∀b u,h.get? b=ae u->h'.get? b=ae u):HOk P w H h':=λa o e=>
 (x a o e).stay (λb u _ q=>k b u q) (λ_ q=>q) λ_ _ q=>q
theorem HOk.laid(x:HOk P w H h)(k:∀b u,h.get? b=ae u->h'.get? b=ae u)(hp:h.objs.size<=a)(new:ObjOk P w (upd H a o) h' a o):HOk P w (upd H a o) h':=λb u e=>by
 have hn:=x.fresh hp;by_cases hb:b=a
 ·subst hb;rw[bI]at e;cases e;exact new
 ·rw[aX hb]at e;exact(x b u e).stay (λc v _ q=>k c v q) (λc q=>by rw[aX (b7 q hn)];exact q) λc xs q=>by rw[aX (b7 q hn)];exact q
end
def Rd(H:Hp)(a:Addr)(u:HO):Prop:=H a=ae u\/∃o,H a=ae (.frz o u)
theorem Rd.ok{P:Bn}{w:By}{H:Hp}{h:Heap}{a:Addr}{u:HO}(r:Rd H a u)(x:HOk P w H h):ObjOk P w H h a u:=by
 rcases r with r|⟨o,r⟩
 ·exact x a u r
 ·obtain⟨_,q⟩:=x a _ r;exact q
def nR:Option HO->Prop
 |some (.lst _)=>True
 |some (.dK _)=>True
 |some (.dT _)=>True
 |some (.set _ _)=>True
 |some (.ins _ _ _)=>True
 |some (.ext _)=>True
 |_=>False
section
variable{P:Bn}{w:By}{H:Hp}{h h':Heap}{x e:Addr}{o':HO}
theorem HOk.write(ok:HOk P w H h)(mu:nR (H x))(he:e=x\/H e=ae (.own x))(k:∀b u,b≠e->h.get? b=ae u->h'.get? b=ae u)(heo:∃u,h'.get? e=ae u)
  (new:ObjOk P w (upd H x o') h' x o'):HOk P w (upd H x o') h':=λb u q=>by
 have nown:∀c y,H c=ae (.own y)->c≠x:=λc y r z=>by subst z;rw[r]at mu;exact mu
 have ntup:∀c xs,H c=ae (.tup xs)->c≠x:=λc xs r z=>by subst z;rw[r]at mu;exact mu
 by_cases hb:b=x
 ·subst hb;rw[bI]at q;cases q;exact new
 ·rw[aX hb]at q;by_cases hbe:b=e
  ·have q':H b=ae (.own x):=by
    rcases he with z|z
    ·exact absurd (hbe.trans z) hb
    ·rw[hbe];exact z
   rw[q]at q';cases q';obtain⟨v,hv⟩:=heo;exact⟨v,by rw[hbe];exact hv⟩
  ·refine(ok b u q).stay (λc v hc r=>k c v ?_ r) (λc r=>by rw[aX (nown c b r)];exact r) λc xs r=>by rw[aX (ntup c xs r)];exact r
   rcases hc with rfl|hc
   ·exact hbe
   ·rintro rfl
    rcases he with z|z
    ·exact nown c b hc z
    ·rw[hc]at z;cases z;exact hb rfl
end
structure Un(fs ex:List Addr)(H H':Hp)(h h':Heap):Prop where
 keep:∀b o,h.get? b=ae o->H b=af->b∉fs->b∉ex->h'.get? b=ae o
 slot:∀b o,h.get? b=ae o->H b=af->b∈fs->b∉ex->∃sl,h'.get? b=ae {o with slots:=sl}
 free:∀b o,h.get? b=ae o->H b=af->b∉ex->H' b=af
 there:∀b o,h.get? b=ae o->b∉ex->∃o',h'.get? b=ae o'
 tups:∀b xs,H b=ae (.tup xs)->H' b=ae (.tup xs)
 frzs:∀b o u,H b=ae (.frz o u)->H' b=ae (.frz o u)
 tbls:∀b ps,H b=ae (.tbl ps)->∃more,H' b=ae (.tbl (ps++more))
section
variable{fs fs' ex ex':List Addr}{H H1 H2:Hp}{h h1 h2 h':Heap}{a x e:Addr}{o:HO}
theorem Un.any(u:Un fs ex H H1 h h1){b:Addr}{ob:Obj}(q:h.get? b=ae ob)(n:H b=af)(hx:b∉ex):∃sl,h1.get? b=ae {ob with slots:=sl}:=by
 by_cases hb:b∈fs
 ·exact u.slot b ob q n hb hx
 ·exact⟨ob.slots,u.keep b ob q n hb hx⟩
theorem Un.kept(k:∀b u,h.get? b=ae u->h'.get? b=ae u):Un fs ex H H h h':=
 ⟨λb ob q _ _ _=>k b ob q,λb ob q _ _ _=>⟨ob.slots,k b ob q⟩,λ_ _ _ n _=>n,λb ob q _=>⟨ob,k b ob q⟩,λ_ _ q=>q,λ_ _ _ q=>q,λ_ ps q=>⟨#[],by rw[q];simp⟩⟩
theorem Un.refl:Un fs ex H H h h:=Un.kept λ_ _ q=>q
theorem Un.laid(k:∀b u,h.get? b=ae u->h'.get? b=ae u)(hp:h.objs.size<=a)(hn:H a=af):Un fs ex H (upd H a o) h h' where
 keep:=λb u q _ _ _=>k b u q
 slot:=λb u q _ _ _=>⟨u.slots,k b u q⟩
 free:=λb u q n _=>by rw[aX (Be (Bj (An q) hp))];exact n
 there:=λb u q _=>⟨u,k b u q⟩
 tups:=λb xs q=>by rw[aX (b7 q hn)];exact q
 frzs:=λb u xs q=>by rw[aX (b7 q hn)];exact q
 tbls:=λb ps q=>⟨#[],by rw[aX (b7 q hn),q];simp⟩
theorem Un.write(mu:nR (H x))(he:e=x\/H e=ae (.own x))(k:∀b u,b≠e->h.get? b=ae u->h'.get? b=ae u)(heo:∃u,h'.get? e=ae u):Un fs ex H (upd H x o) h h':=by
 have hx:∀b,H b=af->b≠x:=λb n z=>by subst z;rw[n]at mu;exact mu
 have hb:∀b,H b=af->b≠e:=λb n z=>by
  subst z;rcases he with r|r
  ·exact hx b n r
  ·rw[n]at r;cases r
 have hm:∀b u,H b=ae u->¬nR (ae u)->b≠x:=λb u q nm z=>by subst z;rw[q]at mu;exact nm mu
 refine⟨λb u q n _ _=>k b u (hb b n) q,λb u q n _ _=>⟨u.slots,k b u (hb b n) q⟩,λb u q n _=>by rw[aX (hx b n)];exact n,λb u q _=>?_,
  λb xs q=>by rw[aX (hm b _ q λz=>z)];exact q,λb u xs q=>by rw[aX (hm b _ q λz=>z)];exact q,λb ps q=>⟨#[],by rw[aX (hm b _ q λz=>z),q];simp⟩⟩
 by_cases hbe:b=e
 ·subst hbe;exact heo
 ·exact⟨u,k b u hbe q⟩
end
def m8(h:Heap)(H:Hp):List Addr:=(Bh h.objs.size).filter λa=>(H a).isSome
def eu(h:Heap)(H:Hp):Heap:=PySem.W.hideAll h (m8 h H)
theorem MU(h:Heap)(H:Hp):(eu h H).objs.size=h.objs.size:=PySem.W.hideAll_size _ _
theorem M6{h:Heap}{H:Hp}{b:Addr}{o:Obj}(e:h.get? b=ae o)(n:H b=af):(eu h H).get? b=ae o:=
 PySem.W.hideAll_get _ e λhm=>by
  have q:(H b).isSome=ah:=(Gp.mp hm).2;rw[n]at q;simp at q
theorem O2{h:Heap}{H:Hp}{b:Addr}{o:Obj}(e:(eu h H).get? b=ae o):h.get? b=ae o/\H b=af:=by
 have e':h.get? b=ae o:=PySem.W.of_hideAll (m8 h H) e;refine⟨e',?_⟩;cases q:H b with
 |none=>rfl
 |some x=>
  have hm:b∈m8 h H:=Gp.mpr ⟨Bs.mpr (An e'),by simp[q]⟩;have z:(eu h H).get? b=af:=PySem.W.hideAll_none (m8 h H) hm;rw[z]at e;cases e
def M3(g h:Heap)(L:Addr):List (Addr×Obj):=(Bh h.objs.size).filterMap λa=>if a=L\/(g.get? a).isSome=ah then af else(h.get? a).map λo=>(a,o)
def rest(g h:Heap)(L d:Addr):List (Addr×Obj):=(M3 g h L).filter λp=>decide (p.1≠d)
structure Mod(K:Aj)(mg:Str->Option Ag)(base:Heap):Prop where
 kin:K.In base
 glob:base.Ns Eb mg
 blt:∃mb,base.Ns builtinsNs mb/\∀x:Str,x≠"__name__"->mb x=Bx x
 nolimit:base.NoLimit
structure Cx where
 prog:Bn
 w:By
 K:Aj
 mg:Str->Option Ag
 base:Heap
 A:Bt
 N:List Str
 s₀:Ai
 H₀:Hp
 env:Env
 outer:List Env
 stack:List Env
 ex:List Addr
 fn:Str->Bool
 calm:Bool
 pn:List (Addr×Obj)
 xe:Ag->Ai->Prop
def fU(l:List Env):List Addr:=l.filterMap (·.frame)
abbrev Cx.fs(X:Cx):List Addr:=fU X.outer
def fq(sc:Fu)(x:Str):Prop:=sc.names.lookup x=ae .local\/sc.names.lookup x=ae .cell\/sc.names.lookup x=ae .free
def ju(sc:Fu)(x:Str):Prop:=sc.names.lookup x=ae .local\/sc.names.lookup x=ae .cell
def qW(env:Env)(h:Heap)(m:Str->Option Ag)(x:Str)(u:Ag):Prop:=
 (env.kindOf x=ae .local/\m x=ae u)\/((env.kindOf x=ae .cell\/env.kindOf x=ae .free)/\∃c,env.cells.lookup x=ae c/\h.IsCell c (ae u))
structure Cx.Ok(X:Cx):Prop where
 mod:Mod X.K X.mg X.base
 kind:X.env.scope.kind=.function
 glob:X.env.globals=Eb
 blt:X.env.builtins=builtinsNs
 above:X.s₀.heap.objs.size<=X.env.locals
 inj:∀x y c,X.env.cells.lookup x=ae c->X.env.cells.lookup y=ae c->x=y
 has:∀x,(X.env.kindOf x=ae .cell\/X.env.kindOf x=ae .free)->∃c,X.env.cells.lookup x=ae c
 cab:∀x c,X.fn x=ah->X.env.cells.lookup x=ae c->X.s₀.heap.objs.size<=c
 hd:X.calm=ah->X.A.handled=af
 frames:X.A.frames=ae X.stack
 stk:X.stack=X.outer\/(X.stack=X.env::X.outer/\X.env.frame=ae X.env.locals)
 exf:∀b∈X.ex,b≠X.env.locals/\∀x c,X.env.cells.lookup x=ae c->c≠b
 bs:∀b o,X.base.get? b=ae o->X.s₀.heap.get? b=ae o/\X.H₀ b=af
 bsz:X.base.objs.size<=X.s₀.heap.objs.size
 noex:∀b o,X.base.get? b=ae o->b∉X.ex
 exfs:∀b∈X.ex,b∉X.fs
 funs:X.s₀.heap.FunFrames X.base X.outer
 frf:∀b∈X.fs,X.H₀ b=af
structure Inv(X:Cx)(pins:List (Addr×Obj))(σ:List (Option V))(H:Hp)(s:Ai):Prop where
 ok:X.Ok
 os:s.os=X.s₀.os
 bare:AllBare s.gens
 base:Un X.fs X.ex X.H₀ H X.s₀.heap s.heap
 loc:∃m,s.heap.Ns X.env.locals m/\∀(i:Nat)(x:Str)(v:V),X.N[i]?=ae x->σ[i]?=ae (ae v)->fq X.env.scope x->∃u,RelV v u/\qW X.env s.heap m x u
 cell:∀x c,X.env.cells.lookup x=ae c->∃v,s.heap.IsCell c v
 free:H X.env.locals=af
 freeC:∀x c,X.env.cells.lookup x=ae c->H c=af
 pin:∀p∈X.pn++pins,s.heap.get? p.1=ae p.2/\H p.1=af/\p.1≠X.env.locals/\p.1∉X.fs/\∀v,p.2.data≠.cell v
 hok:HOk X.prog X.w H s.heap
 len:σ.length=X.N.length
section
variable{X:Cx}{pins:List (Addr×Obj)}{σ:List (Option V)}{H H':Hp}{s:Ai}{h':Heap}
theorem Cx.Ok.nofr(ok:X.Ok){b:Addr}{o:Obj}(e:X.base.get? b=ae o):b∉X.fs:=λhb=>by
 have:=(ok.funs.mem hb).1;rw[e]at this;cases this
theorem Inv.bs(I:Inv X pins σ H s):∀b o,X.base.get? b=ae o->s.heap.get? b=ae o/\H b=af:=λb o e=>
 ⟨I.base.keep b o (I.ok.bs b o e).1 (I.ok.bs b o e).2 (I.ok.nofr e) (I.ok.noex b o e),I.base.free b o (I.ok.bs b o e).1 (I.ok.bs b o e).2 (I.ok.noex b o e)⟩
theorem Inv.bk(I:Inv X pins σ H s):∀b o,X.base.get? b=ae o->s.heap.get? b=ae o:=λb o e=>(I.bs b o e).1
theorem Inv.mod(I:Inv X pins σ H s):Mod X.K X.mg X.base:=I.ok.mod
theorem Inv.kIn(I:Inv X pins σ H s):X.K.In s.heap:=I.ok.mod.kin.keeps I.bk
theorem Inv.lt(I:Inv X pins σ H s):X.env.locals < s.heap.objs.size:=let⟨_,hn,_⟩:=I.loc;hn.lt
theorem Inv.sz(I:Inv X pins σ H s):X.s₀.heap.objs.size<=s.heap.objs.size:=B7 I.ok.above (Gb I.lt)
theorem Inv.nofs(I:Inv X pins σ H s){a:Addr}(h:s.heap.objs.size<=a):a∉X.fs:=λhb=>by
 obtain⟨_,o,ho,_⟩:=I.ok.funs.mem hb;exact absurd (Bj (An ho) (B7 I.sz h)) (C2 _)
theorem Inv.cne(I:Inv X pins σ H s):∀x c,X.env.cells.lookup x=ae c->c≠X.env.locals:=λx c e z=>by
 obtain⟨v,o,ho,hd⟩:=I.cell x c e;obtain⟨m,⟨o',es,ep,ho',hd',_⟩,_⟩:=I.loc;rw[z,ho']at ho;cases ho;rw[hd']at hd;cases hd
theorem Inv.funs(I:Inv X pins σ H s):s.heap.FunFrames X.base X.outer:=by
 have all:∀(l:List Env),(∀b∈fU l,b∈X.fs)->X.s₀.heap.FunFrames X.base l->s.heap.FunFrames X.base l:=by
  intro l
  induction l with
  |nil=>intro _ _;trivial
  |cons env r ih=>
   intro hs hl;obtain⟨hk,⟨L,o,hf,hn,ho,hd⟩,hr⟩:=hl;have hL:L∈X.fs:=hs L (by unfold fU;rw[Fd,hf];exact Am);obtain⟨sl,e⟩:=I.base.slot L o ho (I.ok.frf L hL) hL λz=>I.ok.exfs L z hL;exact⟨hk,⟨L,_,hf,hn,e,hd⟩,ih (λb hb=>hs b (by unfold fU;rw[Fd,hf];exact Ar _ hb)) hr⟩
 exact all X.outer (λ_ hb=>hb) I.ok.funs
theorem Inv.stack(I:Inv X pins σ H s):s.heap.FunFrames X.base X.stack:=by
 rcases I.ok.stk with e|⟨e,hf⟩
 ·rw[e];exact I.funs
 ·rw[e];obtain⟨m,hn,_⟩:=I.loc;refine .cons (by rw[I.ok.kind];decide) hf hn ?_ I.funs;exact Heap.get?_none_of_le (B7 I.ok.bsz I.ok.above)
theorem Inv.stkSub(I:Inv X pins σ H s):∀b∈fU X.stack,b∈X.env.locals::X.fs:=λb hb=>by
 rcases I.ok.stk with e|⟨e,hf⟩
 ·rw[e]at hb;exact Ar _ hb
 ·rw[e]at hb;unfold fU at hb;rw[Fd,hf]at hb;exact hb
theorem Inv.stkFree(I:Inv X pins σ H s):∀b∈fU X.stack,H b=af:=λb hb=>by
 rcases Al.mp (I.stkSub b hb)with e|hb
 ·rw[e];exact I.free
 ·obtain⟨_,o,ho,_⟩:=I.ok.funs.mem hb;exact I.base.free b o ho (I.ok.frf b hb) λz=>I.ok.exfs b z hb
theorem Inv.step{g':Array GenState}{t':Nat}{d':Drawn}{ch:List Addr}(I:Inv X pins σ H s)
  (hch:∀b∈ch,(b∈X.ex\/X.s₀.heap.objs.size<=b)/\b≠X.env.locals/\(∀x c,X.env.cells.lookup x=ae c->c≠b)/\∀p∈X.pn++pins,p.1≠b)
  (keep:∀b o,b≠X.env.locals->b∉X.fs->b∉ch->s.heap.get? b=ae o->H b=af->h'.get? b=ae o)
  (slot:∀b o,b≠X.env.locals->b∈X.fs->b∉ch->s.heap.get? b=ae o->H b=af->∃sl,h'.get? b=ae {o with slots:=sl}) (free:∀b o,b∉ch->s.heap.get? b=ae o->H b=af->H' b=af)
  (there:∀b o,b∉ch->s.heap.get? b=ae o->∃o',h'.get? b=ae o')
  (tups:∀b xs,H b=ae (.tup xs)->H' b=ae (.tup xs)) (frzs:∀b o u,H b=ae (.frz o u)->H' b=ae (.frz o u)) (tbls:∀b ps,H b=ae (.tbl ps)->∃more,H' b=ae (.tbl (ps++more)))
  (ns:∀m,s.heap.Ns X.env.locals m->h'.Ns X.env.locals m) (hok:HOk X.prog X.w H' h') (hg:AllBare g'):
  Inv X pins σ H' {s with heap:=h',gens:=g',drawn:=d',toks:=t'}:=by
 have neL:∀b o,X.s₀.heap.get? b=ae o->b≠X.env.locals:=λb o e=>Be (Bj (An e) I.ok.above);have neC:∀b o,X.s₀.heap.get? b=ae o->b∉X.ex->b∉ch:=λb o e hx hb=>by
  rcases(hch b hb).1 with z|z
  ·exact hx z
  ·exact absurd (Bj (An e) z) (C2 _)
 have cellK:∀x c,X.env.cells.lookup x=ae c->∀v,s.heap.IsCell c v->h'.IsCell c v:=λx c e v ⟨o,ho,hd⟩=>by
  have nch:c∉ch:=λz=>(hch c z).2.2.1 x c e rfl;by_cases hc:c∈X.fs
  ·obtain⟨sl,q⟩:=slot c o (I.cne x c e) hc nch ho (I.freeC x c e);exact⟨_,q,hd⟩
  ·exact⟨o,keep c o (I.cne x c e) hc nch ho (I.freeC x c e),hd⟩
 refine⟨I.ok,I.os,hg,⟨λb o e n hb hx=>?_,λb o e n hb hx=>?_,λb o e n hx=>?_,λb o e hx=>?_,λb xs e=>tups b xs (I.base.tups b xs e),λb o xs e=>frzs b o xs (I.base.frzs b o xs e),λb ps e=>?_⟩,?_,λx c e=>?_,?_,λx c e=>?_,λp hp=>?_,hok,I.len⟩
 ·exact keep b o (neL b o e) hb (neC b o e hx) (I.base.keep b o e n hb hx) (I.base.free b o e n hx)
 ·obtain⟨sl,e1⟩:=I.base.slot b o e n hb hx;obtain⟨sl',e2⟩:=slot b _ (neL b o e) hb (neC b o e hx) e1 (I.base.free b o e n hx);exact⟨sl',e2⟩
 ·obtain⟨o',e1⟩:=I.base.there b o e hx;exact free b o' (neC b o e hx) e1 (I.base.free b o e n hx)
 ·obtain⟨o',e1⟩:=I.base.there b o e hx;exact there b o' (neC b o e hx) e1
 ·obtain⟨m1,e1⟩:=I.base.tbls b ps e;obtain⟨m2,e2⟩:=tbls b _ e1;exact⟨m1++m2,by rw[e2,Array.append_assoc]⟩
 ·obtain⟨m,hn,hl⟩:=I.loc;refine⟨m,ns m hn,λi x v e1 e2 e3=>?_⟩;obtain⟨u,r,l⟩:=hl i x v e1 e2 e3;refine⟨u,r,?_⟩;rcases l with l|⟨k,c,e,z⟩
  ·exact .inl l
  ·exact .inr ⟨k,c,e,cellK x c e _ z⟩
 ·obtain⟨v,z⟩:=I.cell x c e;exact⟨v,cellK x c e v z⟩
 ·obtain⟨m,⟨o,_,_,ho,_⟩,_⟩:=I.loc;exact free _ o (λz=>(hch _ z).2.1 rfl) ho I.free
 ·obtain⟨v,o,ho,hd⟩:=I.cell x c e;exact free c o (λz=>(hch c z).2.2.1 x c e rfl) ho (I.freeC x c e)
 ·obtain⟨e,n,ne,nf,d⟩:=I.pin p hp;have nch:p.1∉ch:=λz=>(hch p.1 z).2.2.2 p hp rfl;exact⟨keep p.1 p.2 ne nf nch e n,free p.1 p.2 nch e n,ne,nf,d⟩
theorem Inv.un{t':Nat}(I:Inv X pins σ H s)(u:Un X.fs [] H H' s.heap h')(hok:HOk X.prog X.w H' h'):Inv X pins σ H' {s with heap:=h',toks:=t'}:=by
 obtain⟨m,⟨o,es,ep,ho,r⟩,_⟩:=id I.loc;obtain⟨sl,hL⟩:=u.any ho I.free (by simp);exact I.step (g':=s.gens) (d':=s.drawn) (ch:=[]) (λ_ z=>nomatch z) (λb o _ hb _ e n=>u.keep b o e n hb (by simp)) (λb o _ hb _ e n=>u.slot b o e n hb (by simp)) (λb o _ e n=>u.free b o e n (by simp)) (λb o _ e=>u.there b o e (by simp)) u.tups u.frzs u.tbls (λm' hm=>by
  obtain⟨o',es',ep',ho',r'⟩:=hm;rw[ho]at ho';cases ho';exact⟨_,es',ep',hL,r'⟩) hok I.bare
theorem Inv.call{g':Array GenState}{t':Nat}{d':Drawn}{ch:List Addr}(I:Inv X pins σ H s)(u:Un (fU X.stack) ch H H' s.heap h')(hok:HOk X.prog X.w H' h')(hg:AllBare g')
  (hch:∀b∈ch,(b∈X.ex\/X.s₀.heap.objs.size<=b)/\b≠X.env.locals/\(∀x c,X.env.cells.lookup x=ae c->c≠b)/\∀p∈X.pn++pins,p.1≠b):
  Inv X pins σ H' {s with heap:=h',gens:=g',drawn:=d',toks:=t'}:=by
 obtain⟨m,⟨o,es,ep,ho,r⟩,_⟩:=id I.loc;obtain⟨sl,hL⟩:=u.any ho I.free λz=>(hch _ z).2.1 rfl;exact I.step (ch:=ch) hch (λb o hL hb hc e n=>u.keep b o e n (λz=>(Al.mp (I.stkSub b z)).elim hL hb) hc) (λb o _ _ hc e n=>u.any e n hc) (λb o hc e n=>u.free b o e n hc) (λb o hc e=>u.there b o e hc) u.tups u.frzs u.tbls (λm' hm=>by
  obtain⟨o',es',ep',ho',r'⟩:=hm;rw[ho]at ho';cases ho';exact⟨_,es',ep',hL,r'⟩) hok hg
theorem Inv.turned{t':Nat}{it:Addr}(I:Inv X pins σ H s)(k:∀b o,b≠it->s.heap.get? b=ae o->h'.get? b=ae o)(hn:H it=af)(hL:it≠X.env.locals)
  (h1:it∈X.ex\/X.s₀.heap.objs.size<=it) (h2:∀x c,X.env.cells.lookup x=ae c->c≠it) (h3:∀p∈X.pn++pins,p.1≠it):Inv X pins σ H {s with heap:=h',toks:=t'}:=by
 have nit:∀b u,H b=ae u->b≠it:=λb u e z=>by rw[z,hn]at e;cases e
 refine I.step (g':=s.gens) (d':=s.drawn) (ch:=[it]) (λb hb=>?_) (λb o _ _ hc e _=>k b o (λz=>hc (by simp[z])) e) (λb o _ _ hc e _=>⟨o.slots,k b o (λz=>hc (by simp[z])) e⟩) (λ_ _ _ _ n=>n)
  (λb o hc e=>⟨o,k b o (λz=>hc (by simp[z])) e⟩) (λ_ _ e=>e) (λ_ _ _ e=>e) (λb ps e=>⟨#[],by rw[e];simp⟩) (λm hm=>?_) (λb u e=>?_) I.bare
 ·have e:b=it:=by simpa using hb
  subst e;exact⟨h1,hL,h2,h3⟩
 ·obtain⟨o,es,ep,ho,r⟩:=hm;exact⟨o,es,ep,k _ o (Ne.symm hL) ho,r⟩
 ·refine(I.hok b u e).stay (λc v hc q=>k c v ?_ q) (λ_ q=>q) λ_ _ q=>q;rcases hc with z|z
  ·rw[z];exact nit b u e
  ·exact nit c _ z
theorem Inv.tok(I:Inv X pins σ H s)(t:Nat):Inv X pins σ H {s with toks:=t}:=I.un (h':=s.heap) (t':=t) Un.refl I.hok
theorem Inv.kept{t':Nat}(I:Inv X pins σ H s)(k:∀b u,s.heap.get? b=ae u->h'.get? b=ae u):Inv X pins σ H {s with heap:=h',toks:=t'}:=I.un (Un.kept k) (I.hok.kept k)
theorem Inv.laid{a:Addr}{o:HO}{t':Nat}(I:Inv X pins σ H s)(k:∀b u,s.heap.get? b=ae u->h'.get? b=ae u)(hp:s.heap.objs.size<=a)(new:ObjOk X.prog X.w (upd H a o) h' a o):
  Inv X pins σ (upd H a o) {s with heap:=h',toks:=t'}:=I.un (Un.laid k hp (I.hok.fresh hp)) (I.hok.laid k hp new)
theorem Inv.write{x e:Addr}{o:HO}{t':Nat}(I:Inv X pins σ H s)(mu:nR (H x))(he:e=x\/H e=ae (.own x))(k:∀b u,b≠e->s.heap.get? b=ae u->h'.get? b=ae u)(heo:∃u,h'.get? e=ae u)
  (new:ObjOk X.prog X.w (upd H x o) h' x o):Inv X pins σ (upd H x o) {s with heap:=h',toks:=t'}:=I.un (Un.write mu he k heo) (I.hok.write mu he k heo new)
theorem Inv.pins_of{pins':List (Addr×Obj)}(I:Inv X pins σ H s)(h:∀p∈pins',s.heap.get? p.1=ae p.2/\H p.1=af/\p.1≠X.env.locals/\p.1∉X.fs/\∀v,p.2.data≠.cell v):Inv X pins' σ H s:=
 ⟨I.ok,I.os,I.bare,I.base,I.loc,I.cell,I.free,I.freeC,λp hp=>(A6.mp hp).elim (λz=>I.pin p (Dz _ z)) (h p),I.hok,I.len⟩
theorem wI{N:List Str}(hN:N.Nodup){i j:Nat}{x:Str}(a:N[i]?=ae x)(b:N[j]?=ae x):i=j:=by
 obtain⟨h1,e1⟩:=Bo.mp a;obtain⟨h2,e2⟩:=Bo.mp b;exact(List.getElem_inj hN).mp (e1.trans e2.symm)
theorem tP{M:Model}{A:Bt}{E:Ag->Ai->Prop}{i:Nat}{x:Str}{v:V}{u:Ag}{Q:Unit->Ai->Prop}(I:Inv X pins σ H s)(hN:X.N.Nodup)(hi:X.N[i]?=ae x)(hx:ju X.env.scope x)(r:RelV v u)
  (h:∀s',Inv X pins (σ.set i (ae v)) H s'->(∃a,Dh a s.heap s'.heap/\(a=X.env.locals\/X.env.cells.lookup x=ae a))->Q () s') (hf:X.fn x=ah\/X.env.scope.names.lookup x=ae .local:=by first|exact .inl rfl|exact .inr rfl|assumption):Av M A (storeName X.env x u) Q E s:=by
 obtain⟨m,hn,hl⟩:=id I.loc;have hcls:(X.env.scope.kind==.class || (X.env.scope.kind==.module&&X.env.locals != X.env.globals))=ai:=by rw[I.ok.kind];rfl
 have hiσ:i < σ.length:=by rw[I.len];exact(Bo.mp hi).1
 have cne:=I.cne;have tracked:∀{a:Addr}{h':Heap},(∃o,s.heap.get? a=ae o/\H a=af)->Dh a s.heap h'->HOk X.prog X.w H h':=λ{a h'} ha hs b ob e=>by
  obtain⟨_,_,hfree⟩:=ha;refine(I.hok b ob e).stay (λc w' hc q=>(hs.2 c ?_).trans q) (λ_ q=>q) λ_ _ q=>q
  rintro rfl
  rcases hc with rfl|hc
  ·rw[hfree]at e;cases e
  ·rw[hfree]at hc;cases hc
 rcases hx with hk|hk
 ·refine wpAny_storeName_local hk hn (λh' hn' hs=>?_) hcls;obtain⟨oL,_,_,hoL,_⟩:=id hn;refine h _ ⟨I.ok,I.os,I.bare,⟨λb o e n hb hx=>?_,λb o e n hb hx=>?_,I.base.free,λb o e hx=>?_,I.base.tups,I.base.frzs,I.base.tbls⟩,⟨_,hn',λj y v' e1 e2 e3=>?_⟩,λy c e=>?_,I.free,I.freeC,λp hp=>?_,tracked ⟨oL,hoL,I.free⟩ hs,by simpa using I.len⟩ ⟨_,hs,.inl rfl⟩
  ·exact(hs.2 b (Be (Bj (An e) I.ok.above))).trans (I.base.keep b o e n hb hx)
  ·obtain⟨sl,e1⟩:=I.base.slot b o e n hb hx;exact⟨sl,(hs.2 b (Be (Bj (An e) I.ok.above))).trans e1⟩
  ·obtain⟨o',e1⟩:=I.base.there b o e hx;exact⟨o',(hs.2 b (Be (Bj (An e) I.ok.above))).trans e1⟩
  ·by_cases hj:j=i
   ·subst hj;rw[hi]at e1;cases e1;rw[List.getElem?_set_self hiσ]at e2;cases e2;exact⟨u,r,.inl ⟨hk,by simp⟩⟩
   ·rw[D0 (Ne.symm hj)]at e2;obtain⟨u',r',q⟩:=hl j y v' e1 e2 e3;refine⟨u',r',?_⟩;rcases q with⟨k,e⟩|⟨k,c,e,z⟩
    ·refine .inl ⟨k,?_⟩;have:y≠x:=λe=>hj (wI hN e1 (e▸hi));simp[this,e]
    ·exact .inr ⟨k,c,e,z.sameBut hs (cne y c e)⟩
  ·obtain⟨w',z⟩:=I.cell y c e;exact⟨w',z.sameBut hs (cne y c e)⟩
  ·obtain⟨e,n,ne,nf,d⟩:=I.pin p hp;exact⟨(hs.2 p.1 ne).trans e,n,ne,nf,d⟩
 ·have hfn:X.fn x=ah:=by
   rcases hf with z|z
   ·exact z
   ·rw[z]at hk;cases hk
  obtain⟨c,hc⟩:=I.ok.has x (.inl hk);obtain⟨w',z⟩:=I.cell x c hc;refine wpAny_storeName_cell I.ok.kind hk hc z (λh' hc' hs=>?_);obtain⟨oc,hoc,hocd⟩:=id z;refine h {s with heap:=h'} ⟨I.ok,I.os,I.bare,⟨λb o e n hb hx=>?_,λb o e n hb hx=>?_,I.base.free,λb o e hx=>?_,I.base.tups,I.base.frzs,I.base.tbls⟩,⟨m,hn.sameBut hs (Ne.symm (cne x c hc)),λj y v' e1 e2 e3=>?_⟩,λy c' e=>?_,I.free,I.freeC,λp hp=>?_,tracked ⟨oc,hoc,I.freeC x c hc⟩ hs,by simpa using I.len⟩ ⟨c,hs,.inr hc⟩
  ·exact(hs.2 b (Be (Bj (An e) (I.ok.cab x c hfn hc)))).trans (I.base.keep b o e n hb hx)
  ·obtain⟨sl,e1⟩:=I.base.slot b o e n hb hx;exact⟨sl,(hs.2 b (Be (Bj (An e) (I.ok.cab x c hfn hc)))).trans e1⟩
  ·obtain⟨o',e1⟩:=I.base.there b o e hx;exact⟨o',(hs.2 b (Be (Bj (An e) (I.ok.cab x c hfn hc)))).trans e1⟩
  ·by_cases hj:j=i
   ·subst hj;rw[hi]at e1;cases e1;rw[List.getElem?_set_self hiσ]at e2;cases e2;exact⟨u,r,.inr ⟨.inl hk,c,hc,hc'⟩⟩
   ·rw[D0 (Ne.symm hj)]at e2;obtain⟨u',r',q⟩:=hl j y v' e1 e2 e3;refine⟨u',r',?_⟩;rcases q with q|⟨k,c',e,z'⟩
    ·exact .inl q
    ·refine .inr ⟨k,c',e,z'.sameBut hs ?_⟩
     rintro rfl
     exact hj (wI hN e1 (I.ok.inj _ _ _ e hc▸hi))
  ·by_cases hcc:c'=c
   ·subst hcc;exact⟨_,hc'⟩
   ·obtain⟨w2,z2⟩:=I.cell y c' e;exact⟨w2,z2.sameBut hs hcc⟩
  ·obtain⟨e,n,ne,nf,d⟩:=I.pin p hp;refine⟨(hs.2 p.1 ?_).trans e,n,ne,nf,d⟩;intro q;rw[q,hoc]at e;have q':oc=p.2:=Bi e;exact d w' (by rw[<-q'];exact hocd)
theorem xf{M:Model}{A:Bt}{E:Ag->Ai->Prop}{i:Nat}{x:Str}{v:V}{u:Ag}{Q:Unit->Ai->Prop}(I:Inv X pins σ H s)(hN:X.N.Nodup)(hi:X.N[i]?=ae x)(hx:ju X.env.scope x)(r:RelV v u)
  (h:∀s',Inv X pins (σ.set i (ae v)) H s'->Q () s') (hf:X.fn x=ah\/X.env.scope.names.lookup x=ae .local:=by first|exact .inl rfl|exact .inr rfl|assumption):Av M A (storeName X.env x u) Q E s:=
 tP I hN hi hx r (λs' I' _=>h s' I') hf
theorem Inv.call'{s':Ai}{ch:List Addr}(I:Inv X pins σ H s)(ho:s'.os=s.os)(u:Un (fU X.stack) ch H H' s.heap s'.heap)(hok:HOk X.prog X.w H' s'.heap)(hg:AllBare s'.gens)
  (hch:∀b∈ch,(b∈X.ex\/X.s₀.heap.objs.size<=b)/\b≠X.env.locals/\(∀x c,X.env.cells.lookup x=ae c->c≠b)/\∀p∈X.pn++pins,p.1≠b):Inv X pins σ H' s':=by
 obtain⟨h',g',d',t',o'⟩:=s';have e:o'=s.os:=ho;subst e;exact I.call (g':=g') (t':=t') (d':=d') u hok hg hch
end
abbrev XK:=Ag->Option Addr->Hp->Prop
abbrev St:=List (Option V)
abbrev VK:=V->Hp->Prop
abbrev TE:=St->Hp->VK->Prop
abbrev TT:=St->Hp->(Bool->Hp->Prop)->Prop
abbrev TA:=St->Hp->(List V->Hp->Prop)->Prop
structure Ends where
 nx:St->Hp->Prop
 rt:VK
 bk:St->Hp->Prop:=λ_ _=>False
 ct:St->Hp->Prop:=λ_ _=>False
abbrev TS:=Ends->St->Hp->Prop
def EP(X:Cx)(pins:List (Addr×Obj))(σ:St)(Q:VK)(u:Ag)(s':Ai):Prop:=∃v H',Inv X pins σ H' s'/\RelV v u/\Q v H'
def TP(X:Cx)(pins:List (Addr×Obj))(σ:St)(Q:Bool->Hp->Prop)(b:Bool)(s':Ai):Prop:=∃H',Inv X pins σ H' s'/\Q b H'
def AP(X:Cx)(pins:List (Addr×Obj))(σ:St)(Q:List V->Hp->Prop)(us:List Ag)(s':Ai):Prop:=∃vs H',Inv X pins σ H' s'/\Vals vs us/\Q vs H'
def SP(X:Cx)(pins:List (Addr×Obj))(D:Ends)(f:Flow)(s':Ai):Prop:=
 match f with
 |.next=>∃σ' H',Inv X pins σ' H' s'/\D.nx σ' H'
 |.brk=>∃σ' H',Inv X pins σ' H' s'/\D.bk σ' H'
 |.cont=>∃σ' H',Inv X pins σ' H' s'/\D.ct σ' H'
 |.ret u=>∃v σ' H',Inv X pins σ' H' s'/\RelV v u/\D.rt v H'
def PE(X:Cx)(e:Expr)(t:TE):Prop:=
 ∀(pins:List (Addr×Obj))(s:Ai)(σ:St)(H:Hp)(Q:VK),Inv X pins σ H s->t σ H Q->Av (A7 X.prog X.w) X.A (eval e X.env) (EP X pins σ Q) X.xe s
def PT(X:Cx)(e:Expr)(t:TT):Prop:=
 ∀(pins:List (Addr×Obj))(s:Ai)(σ:St)(H:Hp)(Q:Bool->Hp->Prop),Inv X pins σ H s->t σ H Q->Av (A7 X.prog X.w) X.A (isTrue e X.env (eval e X.env)) (TP X pins σ Q) X.xe s
def PW(X:Cx)(e:Expr)(t:TT):Prop:=
 ∀(whole:Sem Ag)(pins:List (Addr×Obj))(s:Ai)(σ:St)(H:Hp)(Q:Bool->Hp->Prop),Inv X pins σ H s->t σ H Q->Av (A7 X.prog X.w) X.A (isTrue e X.env whole) (TP X pins σ Q) X.xe s
theorem PW.pt{X:Cx}{e:Expr}{t:TT}(h:PW X e t):PT X e t:=h _
def PA(X:Cx)(es:List Expr)(t:TA):Prop:=
 ∀(pos:Pos)(pins:List (Addr×Obj))(s:Ai)(σ:St)(H:Hp)(Q:List V->Hp->Prop),Inv X pins σ H s->t σ H Q->Av (A7 X.prog X.w) X.A (spliced (D2 pos (Aw es X.env))) (AP X pins σ Q) X.xe s
def PS(X:Cx)(st:Stmt)(t:TS):Prop:=
 ∀(pins:List (Addr×Obj))(s:Ai)(σ:St)(H:Hp)(D:Ends),Inv X pins σ H s->t D σ H->Av (A7 X.prog X.w) X.A (exec st X.env) (SP X pins D) X.xe s
def PSs(X:Cx)(st:List Stmt)(t:TS):Prop:=
 ∀(pins:List (Addr×Obj))(s:Ai)(σ:St)(H:Hp)(D:Ends),Inv X pins σ H s->t D σ H->Av (A7 X.prog X.w) X.A (execs st X.env) (SP X pins D) X.xe s
theorem aT{α:Type}{t:Sem α}{Q Q':α->Ai->Prop}{M:Model}{A:Bt}{E:Ag->Ai->Prop}{s:Ai}(h:Av M A t Q E s)(hQ:∀a s,Q a s->Q' a s):Av M A t Q' E s:=Dv h hQ λ_ _ x=>x
section
variable{X:Cx}
theorem Pj{a b:Expr}{ta tb:TE}(ha:PE X a ta)(hb:PE X b tb){pins:List (Addr×Obj)}{s:Ai}{σ:St}{H:Hp}{R:V->V->Hp->Prop}(I:Inv X pins σ H s)(h:ta σ H λx H1=>tb σ H1 λy H2=>R x y H2)
  {α:Type} {Q:α->Ai->Prop} {f:Ag->Ag->Sem α}
  (hf:∀v u s2 x y H2,Inv X pins σ H2 s2->RelV x v->RelV y u->R x y H2->Av (A7 X.prog X.w) X.A (f v u) Q X.xe s2):
  Av (A7 X.prog X.w) X.A (eval a X.env) (λv s₁=>Av (A7 X.prog X.w) X.A (eval b X.env) (λu s₂=>Av (A7 X.prog X.w) X.A (f v u) Q X.xe s₂) X.xe s₁) X.xe s:=by
 refine aT (ha pins s σ H _ I h) λv s1 ⟨x,H1,I1,r1,q1⟩=>?_;refine aT (hb pins s1 σ H1 _ I1 q1) λu s2 ⟨y,H2,I2,r2,q2⟩=>?_;exact hf v u s2 x y H2 I2 r1 r2 q2
def dc(i:Nat):TE:=λσ H Q=>∃v,σ[i]?=ae (ae v)/\Q v H
def tC(v:V):TE:=λ_ H Q=>Q v H
theorem gM{i:Nat}{x:Str}{pos:Pos}(hN:X.N[i]?=ae x)(hv:fq X.env.scope x)(hd:(x==("__debug__":Str))=ai:=by decide)(hcd:(x==("__classdict__":Str))=ai:=by decide):PE X (.Name x pos) (dc i):=by
 intro pins s σ H Q I h;obtain⟨v,e,h⟩:=h;obtain⟨m,hn,hl⟩:=I.loc;obtain⟨u,r,l⟩:=hl i x v hN e hv;have fin:EP X pins σ Q u s:=⟨v,H,I,r,h⟩;rcases l with⟨hk,hm⟩|⟨hk,c,hc,hcell⟩
 ·exact wpAny_Name (wpAny_loadName_local I.ok.kind hk hn hm fin) hd
 ·rcases hk with hk|hk
  ·exact wpAny_Name (wpAny_loadName_cell I.ok.kind hk hc hcell fin) hd
  ·exact wpAny_Name (wpAny_loadName_free I.ok.kind hk hc hcell fin hcd) hd
theorem bV{i j pos}:PE X (.Constant (.int i) j pos) (tC (.int i)):=λ_ _ _ H _ I h=>wpAny_Constant_int ⟨.int i,H,I.tok _,⟨_,rfl⟩,h⟩
theorem AU{b j pos}:PE X (.Constant (.bool b) j pos) (tC (.bl b)):=λ_ _ _ H _ I h=>Constant_bool ⟨.bl b,H,I,rfl,h⟩
theorem nz{j pos}:PE X (.Constant .none j pos) (tC .non):=λ_ _ _ H _ I h=>Constant_none ⟨.non,H,I,rfl,h⟩
theorem CU{x j pos}:PE X (.Constant (.str x) j pos) (tC (.str x)):=λ_ _ _ H _ I h=>Calls.Constant_str ⟨.str x,H,I.tok _,⟨_,rfl⟩,h⟩
def Gl(X:Cx)(x:Str):Prop:=X.env.kindOf x=ae .globalImplicit
theorem sA{E:Ag->Ai->Prop}{pins:List (Addr×Obj)}{s:Ai}{σ:St}{H:Hp}{x:Str}{u:Ag}{pos:Pos}{Q:Ag->Ai->Prop}(I:Inv X pins σ H s)(hg:Gl X x)(hm:X.mg x=ae u)(h:Q u s)
  (hd:(x==("__debug__":Str))=ai:=by decide):Av (A7 X.prog X.w) X.A (eval (.Name x pos) X.env) Q E s:=
 Calls.Name_function_global I.ok.kind hg (Calls.loadGlobal_global (by rw[I.ok.glob];exact I.mod.glob.keeps I.bk) hm h) hd
theorem jB{E:Ag->Ai->Prop}{pins:List (Addr×Obj)}{s:Ai}{σ:St}{H:Hp}{x:Str}{u:Ag}{pos:Pos}{Q:Ag->Ai->Prop}(I:Inv X pins σ H s)(hg:Gl X x)(hm:X.mg x=af)(hv:Bx x=ae u)(h:Q u s)
  (hn:x≠"__name__":=by decide) (hd:(x==("__debug__":Str))=ai:=by decide):Av (A7 X.prog X.w) X.A (eval (.Name x pos) X.env) Q E s:=by
 obtain⟨mb,h1,h2⟩:=I.mod.blt;exact Calls.Name_function_global I.ok.kind hg (Calls.loadGlobal_builtin (by rw[I.ok.glob];exact I.mod.glob.keeps I.bk) hm (by rw[I.ok.blt];exact h1.keeps I.bk) ((h2 x hn).trans hv) h) hd
theorem xB{x:Str}{v:V}{u:Ag}{pos:Pos}(hg:Gl X x)(hm:X.mg x=ae u)(r:RelV v u)(hd:(x==("__debug__":Str))=ai:=by decide):PE X (.Name x pos) (tC v):=
 λ_ _ _ H _ I h=>sA I hg hm ⟨v,H,I,r,h⟩ hd
theorem Ip{x:Str}{v:V}{u:Ag}{pos:Pos}(hg:Gl X x)(hm:X.mg x=af)(hv:Bx x=ae u)(r:RelV v u)(hn:x≠"__name__":=by decide)(hd:(x==("__debug__":Str))=ai:=by decide):PE X (.Name x pos) (tC v):=
 λ_ _ _ H _ I h=>jB I hg hm hv ⟨v,H,I,r,h⟩ hn hd
variable{a b:Expr}{ta tb:TE}{pos:Pos}
def PC(X:Cx)(op:CmpOp)(a b:Expr)(t:TE):Prop:=
 ∀(pins:List (Addr×Obj))(s:Ai)(σ:St)(H:Hp)(Q:VK),Inv X pins σ H s->t σ H Q->
  Av (A7 X.prog X.w) X.A (eval a X.env) (λv s₁=>Av (A7 X.prog X.w) X.A (eval b X.env) (λu s₂=>Av (A7 X.prog X.w) X.A (B4 op v u) (EP X pins σ Q) X.xe s₂) X.xe s₁) X.xe s
theorem Ko(b:Expr){op:CmpOp}(h:op≠.In)(h2:op≠.NotIn):E1 op b=ai:=by
 have e1:(op==CmpOp.In)=ai:=by cases op<;>first|rfl|exact absurd rfl h
 have e2:(op==CmpOp.NotIn)=ai:=by cases op<;>first|rfl|exact absurd rfl h2
 cases b<;>simp[E1,e1,e2]
def tB(t:TE):TT:=λσ H Q=>t σ H λx H1=>∃c,x=.bl c/\Q c H1
theorem Pn{op:CmpOp}{t:TE}(h:PC X op a b t)(h1:E1 op b=ai:=by first|exact Ko _ ∎ ∎|rfl):PT X (.Compare a [op] [b] pos) (tB t):=by
 intro pins s σ H Q I hw;refine wpAny_isTrue_Compare1 (aT (h pins s σ H _ I hw) λv s1 h1=>aT h1 λu s2 h2=>aT h2 λc s3 ⟨x,H1,I1,r1,q1⟩=>?_) h1;obtain⟨d,rfl,q⟩:=q1;cases r1;exact Dw ⟨H1,I1,q⟩
theorem J6{e:Expr}{t:TE}(h:PE X e t)(he:∀whole,isTrue e X.env whole=(do let v <-whole;standAt e.pos;holding [v] (truthy v)):=by intro _;rfl):PT X e (tB t):=by
 intro pins s σ H Q I hw;refine isTrue_plain (aT (h pins s σ H _ I hw) λv s1 ⟨x,H1,I1,r1,q1⟩=>?_) (he _);obtain⟨d,rfl,q⟩:=q1;cases r1;exact Dw ⟨H1,I1,q⟩
variable{tA tB':TT}{rest:List Expr}
def lj(t u:TT):TT:=λσ H Q=>t σ H λc H1=>if c=ah then u σ H1 Q else Q ai H1
def wH(t u:TT):TT:=λσ H Q=>t σ H λc H1=>if c=ah then Q ah H1 else u σ H1 Q
def l4(t:TT):TT:=λσ H Q=>t σ H λc H1=>Q (!c) H1
theorem wQ(ha:PT X a tA):PW X (.BoolOp .And [a] pos) tA:=by
 intro wh pins s σ H Q I h;refine isTrue_and (aT (ha pins s σ H Q I h) λc s1 e=>?_);cases c with
 |true=>exact isTrue_and_nil e
 |false=>exact e
theorem GG(ha:PT X a tA):PW X (.BoolOp .Or [a] pos) tA:=by
 intro wh pins s σ H Q I h;refine isTrue_or (aT (ha pins s σ H Q I h) λc s1 e=>?_);cases c with
 |false=>exact isTrue_or_nil e
 |true=>exact e
theorem uz(ha:PT X a tA)(hb:PW X (.BoolOp .And (b::rest) pos) tB'):PW X (.BoolOp .And (a::b::rest) pos) (lj tA tB'):=by
 intro wh pins s σ H Q I h;refine isTrue_and (aT (ha pins s σ H _ I h) λc s1 ⟨H1,I1,q1⟩=>?_);cases c with
 |true=>exact hb wh pins s1 σ H1 Q I1 q1
 |false=>exact⟨H1,I1,q1⟩
theorem Kd(ha:PT X a tA)(hb:PW X (.BoolOp .Or (b::rest) pos) tB'):PW X (.BoolOp .Or (a::b::rest) pos) (wH tA tB'):=by
 intro wh pins s σ H Q I h;refine isTrue_or (aT (ha pins s σ H _ I h) λc s1 ⟨H1,I1,q1⟩=>?_);cases c with
 |true=>exact⟨H1,I1,q1⟩
 |false=>exact hb wh pins s1 σ H1 Q I1 q1
theorem HE(ha:PT X a tA):PT X (.UnaryOp .Not a pos) (l4 tA):=by
 intro pins s σ H Q I h;exact isTrue_not (ha pins s σ H (λc H1=>Q (!c) H1) I h)
def vP(ta tb:TE):TE:=λσ H Q=>ta σ H λx H1=>∃c,x=.bl c/\if c=ah then tb σ H1 Q else Q (.bl ai) H1
def mE(ta tb:TE):TE:=λσ H Q=>ta σ H λx H1=>∃c,x=.bl c/\if c=ah then Q (.bl ah) H1 else tb σ H1 Q
def yU(ta:TE):TE:=λσ H Q=>ta σ H λx H1=>∃c,x=.bl c/\Q (.bl (!c)) H1
theorem Jf{op}{t:TE}(h:PE X a t):PE X (.BoolOp op [a] pos) t:=λpins s σ H Q I hw=>BoolOp_one (h pins s σ H Q I hw)
theorem BO(ha:PE X a ta)(hb:PE X (.BoolOp .And (b::rest) pos) tb):PE X (.BoolOp .And (a::b::rest) pos) (vP ta tb):=by
 intro pins s σ H Q I h;refine BoolOp_and (aT (ha pins s σ H _ I h) λv s1 ⟨x,H1,I1,r1,q1⟩=>?_);obtain⟨c,rfl,q1⟩:=q1;cases r1;refine Dw ?_;cases c with
 |true=>exact hb pins s1 σ H1 Q I1 q1
 |false=>exact⟨.bl ai,H1,I1,rfl,q1⟩
theorem CF(ha:PE X a ta)(hb:PE X (.BoolOp .Or (b::rest) pos) tb):PE X (.BoolOp .Or (a::b::rest) pos) (mE ta tb):=by
 intro pins s σ H Q I h;refine BoolOp_or (aT (ha pins s σ H _ I h) λv s1 ⟨x,H1,I1,r1,q1⟩=>?_);obtain⟨c,rfl,q1⟩:=q1;cases r1;refine Dw ?_;cases c with
 |false=>exact hb pins s1 σ H1 Q I1 q1
 |true=>exact⟨.bl ah,H1,I1,rfl,q1⟩
theorem LW(ha:PE X a ta):PE X (.UnaryOp .Not a pos) (yU ta):=by
 intro pins s σ H Q I h;refine UnaryOp_ (aT (ha pins s σ H _ I h) λv s1 ⟨x,H1,I1,r1,q1⟩=>?_);obtain⟨c,rfl,q1⟩:=q1;cases r1;exact not_of (Dw ⟨.bl (!c),H1,I1,rfl,q1⟩)
end
def SqL(K:Aj)(H:Hp)(a:Addr)(xs:List V):Prop:=
 Rd H a (.lst xs) \/
  ∃(o:Obj)(its:Array Ag)(n:Nat),K.lookup a=ae o/\o.cls=.type "list"/\o.dict=af/\o.data=.seq its n/\its.size<=A2/\Vals xs its.toList
def SqT(K:Aj)(H:Hp)(a:Addr)(xs:List V):Prop:=
 Rd H a (.tup xs) \/
  ∃(o:Obj)(its:Array Ag)(n:Nat),K.lookup a=ae o/\o.cls=.type "tuple"/\o.data=.seq its n/\its.size<=A2/\Vals xs its.toList
def si:Ag->Option V
 |.none=>ae .non
 |.bool b=>ae (.bl b)
 |.int i _=>ae (.int i)
 |.str x _=>ae (.str x)
 |.bytes b _=>ae (.byt b)
 |.float b _=>ae (.flt b)
 |.ref a=>ae (.ref a)
 |.type n=>ae (.ty n)
 |_=>af
theorem RelV.abs{x:V}{u:Ag}(r:RelV x u):si u=ae x:=by
 cases x with
 |non=>cases r;rfl
 |bl _=>cases r;rfl
 |int _=>obtain⟨t,rfl⟩:=r;rfl
 |str _=>obtain⟨t,rfl⟩:=r;rfl
 |byt _=>obtain⟨t,rfl⟩:=r;rfl
 |flt _=>obtain⟨t,rfl⟩:=r;rfl
 |ref _=>cases r;rfl
 |ty _=>cases r;rfl
theorem RelV.inj{x y:V}{u:Ag}(r:RelV x u)(q:RelV y u):x=y:=Bi (r.abs.symm.trans q.abs)
theorem Vals.inj:∀{xs ys:List V}{us:List Ag},Vals xs us->Vals ys us->xs=ys
 |_,_,_,.nil,.nil=>rfl
 |_,_,_,.cons r t,.cons r' t'=>by rw[r.inj r',Vals.inj t t']
section
variable{X:Cx}{pins:List (Addr×Obj)}{σ:St}{H:Hp}{s:Ai}{a:Addr}{xs ys:List V}
theorem SqL.of{K:Aj}(h:H a=ae (.lst xs)):SqL K H a xs:=.inl (.inl h)
theorem SqT.of{K:Aj}(h:H a=ae (.tup xs)):SqT K H a xs:=.inl (.inl h)
theorem Inv.list(I:Inv X pins σ H s)(h:SqL X.K H a xs):∃its:List Ag,Vals xs its/\PlainL s.heap a its.toArray/\xs.length<=A2:=by
 rcases h with h|⟨o,its,n,hk,hc,hd,hs,hz,r⟩
 ·obtain⟨z,its,n,r,e⟩:=h.ok I.hok;exact⟨its,r,⟨_,n,e,rfl,rfl,rfl⟩,z⟩
 ·refine⟨its.toList,r,⟨o,n,I.kIn a o hk,hc,hd,by simpa using hs⟩,?_⟩;have e:=r.length;simp only[Az]at e;omega
theorem Inv.tuple(I:Inv X pins σ H s)(h:SqT X.K H a xs):∃its:List Ag,Vals xs its/\IsTup s.heap a its.toArray/\xs.length<=A2:=by
 rcases h with h|⟨o,its,n,hk,hc,hs,hz,r⟩
 ·obtain⟨z,its,r,p⟩:=h.ok I.hok;exact⟨its,r,p.tup,z⟩
 ·refine⟨its.toList,r,⟨o,I.kIn a o hk,hc,n,by simpa using hs⟩,?_⟩;have e:=r.length;simp only[Az]at e;omega
theorem Inv.list_inj(I:Inv X pins σ H s)(h:SqL X.K H a xs)(h':SqL X.K H a ys):xs=ys:=by
 obtain⟨its,r,⟨o,n,e,_,_,d⟩,_⟩:=I.list h;obtain⟨its',r',⟨o',n',e',_,_,d'⟩,_⟩:=I.list h';rw[e]at e';cases e';rw[d]at d';injection d' with d1 _;have:its=its':=by simpa using congrArg Array.toList d1
 subst this;exact r.inj r'
theorem Inv.tuple_inj(I:Inv X pins σ H s)(h:SqT X.K H a xs)(h':SqT X.K H a ys):xs=ys:=by
 obtain⟨its,r,⟨o,e,_,n,d⟩,_⟩:=I.tuple h;obtain⟨its',r',⟨o',e',_,n',d'⟩,_⟩:=I.tuple h';rw[e]at e';cases e';rw[d]at d';injection d' with d1 _;have:its=its':=by simpa using congrArg Array.toList d1
 subst this;exact r.inj r'
end
abbrev Cx.wish(X:Cx)(E:Ag->Ai->Prop):Cx:={ X with xe:=E}
abbrev Cx.nox(X:Cx):Cx:=X.wish λ_ _=>False
theorem Cx.Ok.wish{X:Cx}(ok:X.Ok)(E:Ag->Ai->Prop):(X.wish E).Ok:=
 ⟨ok.mod,ok.kind,ok.glob,ok.blt,ok.above,ok.inj,ok.has,ok.cab,ok.hd,ok.frames,ok.stk,ok.exf,ok.bs,ok.bsz,ok.noex,ok.exfs,ok.funs,ok.frf⟩
theorem Cx.Ok.unwish{X:Cx}{E:Ag->Ai->Prop}(ok:(X.wish E).Ok):X.Ok:=
 ⟨ok.mod,ok.kind,ok.glob,ok.blt,ok.above,ok.inj,ok.has,ok.cab,ok.hd,ok.frames,ok.stk,ok.exf,ok.bs,ok.bsz,ok.noex,ok.exfs,ok.funs,ok.frf⟩
section
variable{X:Cx}{pins:List (Addr×Obj)}{σ:St}{H:Hp}{s:Ai}{E:Ag->Ai->Prop}
theorem Inv.wish(I:Inv X pins σ H s)(E:Ag->Ai->Prop):Inv (X.wish E) pins σ H s:=⟨I.ok.wish E,I.os,I.bare,I.base,I.loc,I.cell,I.free,I.freeC,I.pin,I.hok,I.len⟩
theorem Inv.unwish(I:Inv (X.wish E) pins σ H s):Inv X pins σ H s:=⟨I.ok.unwish,I.os,I.bare,I.base,I.loc,I.cell,I.free,I.freeC,I.pin,I.hok,I.len⟩
theorem SP.unwish{D:Ends}{f:Flow}{s':Ai}(h:SP (X.wish E) pins D f s'):SP X pins D f s':=by
 cases f with
 |next=>obtain⟨σ',H',I,q⟩:=h;exact⟨σ',H',I.unwish,q⟩
 |brk=>obtain⟨σ',H',I,q⟩:=h;exact⟨σ',H',I.unwish,q⟩
 |cont=>obtain⟨σ',H',I,q⟩:=h;exact⟨σ',H',I.unwish,q⟩
 |ret u=>obtain⟨v,σ',H',I,r,q⟩:=h;exact⟨v,σ',H',I.unwish,r,q⟩
theorem PSs.nox{st:List Stmt}{t:TS}(h:PSs X.nox st t):PSs X st t:=λpins s σ H D I hw=>
 Dv (h pins s σ H D (I.wish _) hw) (λ_ _ q=>q.unwish) λ_ _ z=>False.elim z
end
section
variable{X:Cx}{st:Stmt}{rest:List Stmt}{t u:TS}{e:Expr}{te:TE}{pos:Pos}
def yV:TS:=λD σ H=>D.nx σ H
def mi(t u:TS):TS:=λD σ H=>t {D with nx:=u D} σ H
theorem mR:PSs X [] yV:=λ_ _ σ H _ I h=>wpAny_execs_nil ⟨σ,H,I,h⟩
theorem gg(h1:PS X st t)(h2:PSs X rest u):PSs X (st::rest) (mi t u):=by
 intro pins s σ H D I h;refine wpAny_execs_cons (aT (h1 pins s σ H {D with nx:=u D} I h) λf s1 q=>?_);cases f with
 |next=>
  obtain⟨σ',H',I',q⟩:=q;exact h2 pins s1 σ' H' D I' q
 |ret v=>exact q
 |brk=>exact q
 |cont=>exact q
theorem jX(h1:PS X st t):PSs X [st] t:=by
 intro pins s σ H D I h;refine wpAny_execs_cons (aT (h1 pins s σ H D I h) λf s1 q=>?_);cases f with
 |next=>exact wpAny_execs_nil q
 |ret v=>exact q
 |brk=>exact q
 |cont=>exact q
theorem Inv.quiet{pins:List (Addr×Obj)}{σ:St}{H:Hp}{s:Ai}(I:Inv X pins σ H s):interactive X.env=ai:=by simp[interactive,I.ok.kind]
def j5(te:TE):TS:=λD σ H=>te σ H λ_ H1=>D.nx σ H1
theorem kR(he:PE X e te)(hs:F1 e af pos.line X.env=pure ai:=by rfl):PS X (.Expr e pos) (j5 te):=by
 intro pins s σ H D I h;exact wpAny_Expr_any (aT (he pins s σ H _ I h) λv s1 ⟨x,H1,I1,r1,q1⟩=>⟨σ,H1,I1,q1⟩) I.quiet hs
def jz(te:TE):TS:=λD σ H=>te σ H D.rt
theorem jT(he:PE X e te):PS X (.Return (ae e) pos) (jz te):=by
 intro pins s σ H D I h;exact wpAny_Return_some (aT (he pins s σ H _ I h) λv s1 ⟨x,H1,I1,r1,q1⟩=>⟨x,σ,H1,I1,r1,q1⟩)
def l8(c:TT)(t u:TS):TS:=λD σ H=>c σ H λb H1=>if b=ah then t D σ H1 else u D σ H1
theorem nJ{c:Expr}{a b:List Stmt}{tc:TT}(hc:PT X c tc)(ha:PSs X a t)(hb:PSs X b u):PS X (.If c a b pos) (l8 tc t u):=by
 intro pins s σ H D I h;refine wpAny_If (aT (hc pins s σ H _ I h) λd s1 ⟨H1,I1,q1⟩=>?_);cases d with
 |true=>exact ha pins s1 σ H1 D I1 q1
 |false=>exact hb pins s1 σ H1 D I1 q1
end
abbrev TG:=V->St->Hp->(St->Hp->Prop)->Prop
abbrev fS:=List V->St->Hp->(St->Hp->Prop)->Prop
def PG(X:Cx)(target:Expr)(t:TG):Prop:=
 ∀(pins:List (Addr×Obj))(s:Ai)(σ:St)(H:Hp)(v:V)(u:Ag)(Q:St->Hp->Prop),Inv X pins σ H s->RelV v u->t v σ H Q->
  Av (A7 X.prog X.w) X.A (assign target X.env u) (λ_ s'=>∃σ' H',Inv X pins σ' H' s'/\Q σ' H') X.xe s
def k9(X:Cx)(ts:List Expr)(t:fS):Prop:=
 ∀(pins:List (Addr×Obj))(s:Ai)(σ:St)(H:Hp)(vs:List V)(us:List Ag)(Q:St->Hp->Prop),Inv X pins σ H s->Vals vs us->t vs σ H Q->
  Av (A7 X.prog X.w) X.A (assignInOrder ((Es ts X.env).map (·.2)) us) (λ_ s'=>∃σ' H',Inv X pins σ' H' s'/\Q σ' H') X.xe s
abbrev jg:=V->V->V->Hp->(Hp->Prop)->Prop
def l5(X:Cx)(t:jg):Prop:=
 ∀(pins:List (Addr×Obj))(s:Ai)(σ:St)(H:Hp)(o i v:V)(ov iv u:Ag)(Q:Hp->Prop),Inv X pins σ H s->RelV o ov->RelV i iv->RelV v u->t o i v H Q->
  Av (A7 X.prog X.w) X.A (setItem ov iv u) (λ_ s'=>∃H',Inv X pins σ H' s'/\Q H') X.xe s
section
variable{X:Cx}{pos:Pos}
def gc(i:Nat):TG:=λv σ H Q=>Q (σ.set i (ae v)) H
theorem IQ{i:Nat}{x:Str}(hN:X.N.Nodup)(hi:X.N[i]?=ae x)(hx:ju X.env.scope x)(hf:X.fn x=ah\/X.env.scope.names.lookup x=ae .local:=by first|exact .inl rfl|exact .inr rfl|assumption):PG X (.Name x pos) (gc i):=by
 intro pins s σ H v u Q I r h;exact wpAny_assign_Name (xf I hN hi hx r (λs' I'=>⟨_,H,I',h⟩) hf)
def ml:fS:=λvs σ H Q=>vs=[]/\Q σ H
def tw(t:TG)(u:fS):fS:=λvs σ H Q=>∃v r,vs=v::r/\t v σ H λσ' H'=>u r σ' H' Q
theorem NV:k9 X [] ml:=by
 intro pins s σ H vs us Q I r h;obtain⟨e,h⟩:=h;subst e;cases r;exact assignInOrder_nil ⟨σ,H,I,h⟩
theorem J3{e:Expr}{es:List Expr}{t:TG}{u:fS}(h1:PG X e t)(h2:k9 X es u)
  (hs:(Es (e::es) X.env).map (·.2)=assign e X.env::(Es es X.env).map (·.2):=by rfl):k9 X (e::es) (tw t u):=by
 intro pins s σ H vs us Q I r h;obtain⟨v,vr,e1,h⟩:=h;subst e1;cases r with
 |cons r rr=>
  rw[hs];refine assignInOrder_cons (aT (h1 pins s σ H _ _ _ I r h) λ_ s1 ⟨σ1,H1,I1,q1⟩=>?_);exact h2 pins s1 σ1 H1 _ _ Q I1 rr q1
def js(K:Aj)(n:Nat)(t:fS):TG:=λv σ H Q=>∃a xs,v=.ref a/\SqT K H a xs/\xs.length=n/\t xs σ H Q
theorem Od{es:List Expr}{k:Nat}{t:fS}{n:Nat}(hc:X.calm=ah)(h:k9 X es t)
  (hn:(Es es X.env).length=n:=by rfl) (hst:(Es es X.env).findIdx? (·.1)=af:=by rfl):PG X (.Tuple es k pos) (js X.K n t):=by
 intro pins s σ H v u Q I r hw;obtain⟨a,xs,e1,hq,hl,hw⟩:=hw;subst e1;cases r;obtain⟨its,rv,ht,hz⟩:=I.tuple hq;refine assign_Tuple_tuple (I.ok.hd hc) ht (by simp[hn,<-hl,rv.length]) hst λh' hx=>?_;have I1:Inv X pins σ H {s with heap:=h'}:=I.kept (t':=s.toks) λb o e=>hx b o (Be (An e)) e;exact h pins _ σ H xs _ Q I1 (by simpa using rv) hw
def mq(to ti:TE)(t:jg):TG:=λv σ H Q=>to σ H λo H1=>ti σ H1 λi H2=>t o i v H2 λH3=>Q σ H3
theorem nt{o i:Expr}{to ti:TE}{t:jg}(ho:PE X o to)(hi:PE X i ti)(hs:l5 X t)
  (ha:∀v,assign (.Subscript o i pos) X.env v=(do
   let ov <-holding [v] (eval o X.env)
   let iv <-holding [v,ov] (eval i X.env)
   standAt pos
   holding [v,ov,iv] (setItem ov iv v)
   release [v,ov,iv] []):=by intro _;rfl):PG X (.Subscript o i pos) (mq to ti t):=by
 intro pins s σ H v u Q I r h;rw[ha];refine Aa (Cg (aT (ho pins s σ H _ I h) λov s1 ⟨x,H1,I1,r1,q1⟩=>?_));refine Aa (Cg (aT (hi pins s1 σ H1 _ I1 q1) λiv s2 ⟨y,H2,I2,r2,q2⟩=>?_));refine Aa (wpAny_standAt (Aa (Cg (aT (hs pins s2 σ H2 x y v ov iv u _ I2 r1 r2 r q2) λ_ s3 ⟨H3,I3,q3⟩=>?_))));exact wpAny_release ⟨σ,H3,I3,q3⟩
def c6(te:TE)(g:TG):TS:=λD σ H=>te σ H λx H1=>g x σ H1 D.nx
theorem mr{tg e:Expr}{te:TE}{g:TG}(he:PE X e te)(hg:PG X tg g)(hs:swapsWithSole [tg] e pos.line X.env=pure ai:=by rfl)(hw:swappedStores [tg] e X.env=pure af:=by rfl)
  (h1:(Es [tg] X.env).map (·.2)=[assign tg X.env]:=by rfl):PS X (.Assign [tg] e pos) (c6 te g):=by
 intro pins s σ H D I h;refine wpAny_Assign_stores (aT (he pins s σ H _ I h) λv s1 ⟨x,H1,I1,r1,q1⟩=>?_) hs hw;rw[h1];exact aT (hg pins s1 σ H1 x v _ I1 r1 q1) λ_ s2 q=>q
theorem iY{i:Nat}{x:Str}{e:Expr}{te:TE}{pos':Pos}(hN:X.N.Nodup)(hi:X.N[i]?=ae x)(hx:ju X.env.scope x)(he:PE X e te)(hs:F1 e (ae (.Name x pos')) pos.line X.env=pure ai:=by rfl)(hf:X.fn x=ah\/X.env.scope.names.lookup x=ae .local:=by first|exact .inl rfl|exact .inr rfl|assumption):
  PS X (.Assign [.Name x pos'] e pos) (c6 te (gc i)):=by
 intro pins s σ H D I h;refine wpAny_Assign_Name (aT (he pins s σ H _ I h) λv s1 ⟨y,H1,I1,r1,q1⟩=>?_) hs;exact xf I1 hN hi hx r1 (λs2 I2=>⟨_,H1,I2,q1⟩) hf
end
structure It where
 go:Nat->Hp->Prop
 yld:Nat->Hp->V->Hp->Prop
 stop:Nat->Hp->Prop
def cm(X:Cx)(pins:List (Addr×Obj))(H:Hp)(b:Addr):Prop:=
 H b=af/\b≠X.env.locals/\b∉X.fs/\(b∈X.ex\/X.s₀.heap.objs.size<=b)/\(∀x c,X.env.cells.lookup x=ae c->c≠b)/\∀p∈X.pn++pins,p.1≠b
theorem Inv.fpOk{X:Cx}{pins:List (Addr×Obj)}{σ:St}{H H':Hp}{s:Ai}{b:Addr}(I:Inv X pins σ H s)(hb:s.heap.objs.size<=b)(hn:H' b=af):cm X pins H' b:=by
 refine⟨hn,Ee (Bj I.lt hb),I.nofs hb,.inr (B7 I.sz hb),λx c e z=>?_,λp hp z=>?_⟩
 ·obtain⟨v,q⟩:=I.cell x c e;exact absurd (Bj q.lt (by rw[z];exact hb)) (C2 _)
 ·exact absurd (Bj (An (I.pin p hp).1) (by rw[z];exact hb)) (C2 _)
structure Turn(P:Bn)(w:By)(K:Aj)(tg:Expr)(J:It)(fp:List Addr)(it:Addr)(tn:Nat->Heap->Prop):Prop where
 mem:it∈fp
 obj:∀i h,tn i h->∀b∈fp,∃o,h.get? b=ae o/\∀v,o.data≠.cell v
 keep:∀i h h',tn i h->(∀b∈fp,∀o,h.get? b=ae o->h'.get? b=ae o)->tn i h'
 item:∀(X:Cx),X.prog=P->X.w=w->X.K=K->X.calm=ah->∀(i:Nat)(pins:List (Addr×Obj))(s:Ai)(σ:St)(H:Hp)(E:Ag->Ai->Prop),Inv X pins σ H s->(∀b∈fp,cm X pins H b)->tn i s.heap->J.go i H->
  Av (A7 P w) X.A (Eg (.ref it)) (λr s1=>∃u,r=ae u /\
   Av (A7 P w) X.A (letOwnedTupleGo tg (.ref it) u) (λ_ s2=>∃x H',Inv X pins σ H' s2/\RelV x u/\J.yld i H x H'/\tn (i+1) s2.heap/\∀b∈fp,H' b=af) E s1) E s
 done:∀(X:Cx),X.prog=P->X.w=w->X.K=K->X.calm=ah->∀(i:Nat)(pins:List (Addr×Obj))(s:Ai)(σ:St)(H:Hp)(E:Ag->Ai->Prop),Inv X pins σ H s->(∀b∈fp,cm X pins H b)->tn i s.heap->J.stop i H->
  Av (A7 P w) X.A (Eg (.ref it)) (λr s1=>r=af/\Inv X pins σ H s1) E s
 self:∀(A:Bt)(i:Nat)(s:Ai)(Q:Ag->Ai->Prop)(E:Ag->Ai->Prop),tn i s.heap->Q (.ref it) s->Av (A7 P w) A (pyIter (.ref it)) Q E s
abbrev TI:=St->Hp->(It->Hp->Prop)->Prop
def xM(X:Cx)(pins:List (Addr×Obj))(σ:St)(tg:Expr)(R:It->Hp->Prop)(itv:Ag)(s2:Ai):Prop:=
 ∃(it:Addr)(fp:List Addr)(tn:Nat->Heap->Prop)(J:It)(H':Hp),itv=.ref it/\Inv X pins σ H' s2/\Turn X.prog X.w X.K tg J fp it tn/\tn 0 s2.heap/\(∀b∈fp,cm X pins H' b)/\R J H'
def PI(X:Cx)(tg iter:Expr)(wi:TI):Prop:=
 ∀(pins:List (Addr×Obj))(s:Ai)(σ:St)(H:Hp)(R:It->Hp->Prop),Inv X pins σ H s->wi σ H R->
  Av (A7 X.prog X.w) X.A (eval iter X.env) (λv s1=>Av (A7 X.prog X.w) X.A (pyIter v) (xM X pins σ tg R) X.xe s1) X.xe s
theorem mJ{M:Model}{A:Bt}{E:Ag->Ai->Prop}{s:Ai}{tg:Expr}{it:Addr}{u:Ag}{o:Obj}{n:String}{vs:Array Ag}{Q:Unit->Ai->Prop}(ho:s.heap.get? it=ae o)(hc:o.cls=.type n)(hd:o.data=.fields vs)
  (hn:["enumerate","zip","dict_itemiterator","dict_reverseitemiterator","odict_iterator","itertools.zip_longest","itertools.pairwise"].contains n=ai) (hQ:Q () s):Av M A (letOwnedTupleGo tg (.ref it) u) Q E s:=by
 unfold letOwnedTupleGo;cases tg<;>first
  |exact Af hQ
  | (cases u<;>first
    |exact Af hQ
    | (refine Aa (wpAny_load ho ?_)
       rw[hc,hd];show Av M A (if (["enumerate","zip","dict_itemiterator","dict_reverseitemiterator","odict_iterator","itertools.zip_longest","itertools.pairwise"].contains n&&vs[0]?==ae (Da _))=ah then _ else _) Q E s;rw[if_neg (by intro h;rw[hn,Bool.false_and]at h;cases h)];exact Af hQ))
def ui(K:Aj)(a:Addr):It:=
 ⟨λi H=>∃xs x,SqL K H a xs/\xs[i]?=ae x,λi H x H'=>H'=H/\∀xs,SqL K H a xs->xs[i]?=ae x,λi H=>∃xs,SqL K H a xs/\xs.length<=i⟩
def ua(K:Aj)(a:Addr):It:=
 ⟨λi H=>∃xs x,SqT K H a xs/\xs[i]?=ae x,λi H x H'=>H'=H/\∀xs,SqT K H a xs->xs[i]?=ae x,λi H=>∃xs,SqT K H a xs/\xs.length<=i⟩
def nj(lo:Int)(n:Nat):It:=⟨λi _=>i < n,λi H x H'=>H'=H/\x=.int (lo+i),λi _=>n<=i⟩
theorem Ky{P:Bn}{w:By}{K:Aj}{tg:Expr}(a it:Addr):Turn P w K tg (ui K a) [it] it (λi h=>h.IsListIter it a i) where
 mem:=by simp
 obj:=λi h st b hb=>by
  have e:b=it:=by simpa using hb
  subst e;obtain⟨o,e,c,d⟩:=st;exact⟨o,e,λv z=>by rw[d]at z;cases z⟩
 keep:=λi h h' st k=>st.at λo e=>k it (by simp) o e
 item:=by
  intro X hP hw hK hc i pins s σ H E I hf st hg;subst hP hw hK;obtain⟨xs,x,hq,hx⟩:=hg;obtain⟨its,rv,p,hz⟩:=I.list hq;obtain⟨u,hu,ru⟩:=rv.get hx;obtain⟨f0,f1,f2,f3,f4,f5⟩:=hf it (by simp);refine wpAny_pyNext_list_item st p.isList (x:=u) (by simpa using hu) λh' st' sb=>?_;have I1:Inv X pins σ H {s with heap:=h'}:=I.turned (t':=s.toks) (λb o hb e=>(sb.2 b hb).trans e) f0 f1 f3 f4 f5;obtain⟨o,e,c,d⟩:=id st';exact⟨u,rfl,mJ (s:={ s with heap:=h'}) e c d ∎ ⟨x,H,I1,ru,⟨rfl,λys hy=>by rw[I.list_inj hy hq];exact hx⟩,st',λb hb=>(hf b hb).1⟩⟩
 done:=by
  intro X hP hw hK hc i pins s σ H E I hf st hg;subst hP hw hK;obtain⟨xs,hq,hx⟩:=hg;obtain⟨its,rv,p,hz⟩:=I.list hq;obtain⟨f0,f1,f2,f3,f4,f5⟩:=hf it (by simp);have hl:=rv.length;exact wpAny_pyNext_list_end (I.ok.hd hc) st p.isList (by simp;omega) λh' eb=>⟨rfl,I.turned (t':=s.toks) (λb o hb e=>eb b o hb e) f0 f1 f3 f4 f5⟩
 self:=λ_ _ _ _ _ st h=>wpAny_pyIter_listiter st h
theorem FE{P:Bn}{w:By}{K:Aj}{tg:Expr}(a it:Addr):Turn P w K tg (ua K a) [it] it (λi h=>h.IsTupleIter it a i) where
 mem:=by simp
 obj:=λi h st b hb=>by
  have e:b=it:=by simpa using hb
  subst e;obtain⟨o,e,c,d⟩:=st;exact⟨o,e,λv z=>by rw[d]at z;cases z⟩
 keep:=λi h h' st k=>st.at λo e=>k it (by simp) o e
 item:=by
  intro X hP hw hK hc i pins s σ H E I hf st hg;subst hP hw hK;obtain⟨xs,x,hq,hx⟩:=hg;obtain⟨its,rv,p,hz⟩:=I.tuple hq;obtain⟨u,hu,ru⟩:=rv.get hx;obtain⟨f0,f1,f2,f3,f4,f5⟩:=hf it (by simp);refine wpAny_pyNext_tuple_item st (show s.heap.IsTuple a its.toArray from p) (x:=u) (by simpa using hu) λh' st' sb=>?_;have I1:Inv X pins σ H {s with heap:=h'}:=I.turned (t':=s.toks) (λb o hb e=>(sb.2 b hb).trans e) f0 f1 f3 f4 f5;obtain⟨o,e,c,d⟩:=id st';exact⟨u,rfl,mJ (s:={ s with heap:=h'}) e c d ∎ ⟨x,H,I1,ru,⟨rfl,λys hy=>by rw[I.tuple_inj hy hq];exact hx⟩,st',λb hb=>(hf b hb).1⟩⟩
 done:=by
  intro X hP hw hK hc i pins s σ H E I hf st hg;subst hP hw hK;obtain⟨xs,hq,hx⟩:=hg;obtain⟨its,rv,p,hz⟩:=I.tuple hq;obtain⟨f0,f1,f2,f3,f4,f5⟩:=hf it (by simp);have hl:=rv.length;exact wpAny_pyNext_tuple_end (I.ok.hd hc) st (show s.heap.IsTuple a its.toArray from p) (by simp;omega) λh' eb=>⟨rfl,I.turned (t':=s.toks) (λb o hb e=>eb b o hb e) f0 f1 f3 f4 f5⟩
 self:=λ_ _ _ _ _ st h=>wpAny_pyIter_tupleiter st h
theorem HQ{P:Bn}{w:By}{K:Aj}{tg:Expr}(it:Addr)(lo:Int)(n:Nat):Turn P w K tg (nj lo n) [it] it (λi h=>IsRangeIter h it (lo+(i:Nat)*1) ((n:Int)-(i:Nat)) 1) where
 mem:=by simp
 obj:=λi h st b hb=>by
  have e:b=it:=by simpa using hb
  subst e;exact⟨_,st,λv z=>by
   have z':Data.fields _=Data.cell v:=z;cases z'⟩
 keep:=λi h h' st k=>k it (by simp) _ st
 item:=by
  intro X hP hw hK hc i pins s σ H E I hf st hg;subst hP hw hK;obtain⟨f0,f1,f2,f3,f4,f5⟩:=hf it (by simp);have W:=Walks.range (prog:=X.prog) (w:=X.w) (I.ok.hd hc) it lo 1 n;refine W.item i s _ _ hg st λv h' tk hv st' kk=>?_;obtain⟨t,rfl⟩:=hv;have I1:Inv X pins σ H {s with heap:=h',toks:=tk}:=I.turned (λb o hb e=>kk b o (by simpa using hb) e) f0 f1 f3 f4 f5;refine⟨_,rfl,mJ (s:={ s with heap:=h',toks:=tk}) (n:="range_iterator") st' rfl rfl ∎ ⟨.int (lo+i),H,I1,⟨t,?_⟩,⟨rfl,rfl⟩,st',λb hb=>(hf b hb).1⟩⟩;rw[Int.mul_one]
 done:=by
  intro X hP hw hK hc i pins s σ H E I hf st hg;subst hP hw hK;obtain⟨f0,f1,f2,f3,f4,f5⟩:=hf it (by simp);exact wpAny_pyNext_range_end (I.ok.hd hc) st (by have:n<=i:=hg;omega) λh' eb=>⟨rfl,I.turned (t':=s.toks) (λb o hb e=>eb b o hb e) f0 f1 f3 f4 f5⟩
 self:=λ_ _ _ _ _ st h=>wpAny_pyIter_rangeiter st h
section
variable{X:Cx}{tg:Expr}
def qQ(K:Aj)(tl:TE):TI:=λσ H R=>tl σ H λx H1=>∃a,x=.ref a/\(∃xs,SqL K H1 a xs)/\R (ui K a) H1
def jN(K:Aj)(tl:TE):TI:=λσ H R=>tl σ H λx H1=>∃a,x=.ref a/\(∃xs,SqT K H1 a xs)/\R (ua K a) H1
theorem MI{l:Expr}{tl:TE}(hl:PE X l tl):PI X tg l (qQ X.K tl):=by
 intro pins s σ H R I h;refine aT (hl pins s σ H _ I h) λv s1 ⟨x,H1,I1,r1,q1⟩=>?_;obtain⟨a,e,⟨xs,hq⟩,q⟩:=q1;subst e;cases r1;obtain⟨its,rv,p,hz⟩:=I1.list hq;refine wpAny_pyIter_list p.isList ?_;refine⟨s1.heap.objs.size,[s1.heap.objs.size],_,_,H1,rfl,I1.kept (t':=s1.toks) λb o e=>Ae _ e,Ky a _,⟨_,As _ rfl,rfl,rfl⟩,λb hb=>?_,q⟩;have e:b=s1.heap.objs.size:=by simpa using hb
 subst e;exact I1.fpOk (Aq _) (I1.hok.fresh (Aq _))
theorem KJ{l:Expr}{tl:TE}(hl:PE X l tl):PI X tg l (jN X.K tl):=by
 intro pins s σ H R I h;refine aT (hl pins s σ H _ I h) λv s1 ⟨x,H1,I1,r1,q1⟩=>?_;obtain⟨a,e,⟨xs,hq⟩,q⟩:=q1;subst e;cases r1;obtain⟨its,rv,p,hz⟩:=I1.tuple hq;refine G1 (show s1.heap.IsTuple a its.toArray from p) ?_;refine⟨s1.heap.objs.size,[s1.heap.objs.size],_,_,H1,rfl,I1.kept (t':=s1.toks) λb o e=>Ae _ e,FE a _,⟨_,As _ rfl,rfl,rfl⟩,λb hb=>?_,q⟩;have e:b=s1.heap.objs.size:=by simpa using hb
 subst e;exact I1.fpOk (Aq _) (I1.hok.fresh (Aq _))
theorem EZ{pins:List (Addr×Obj)}{σ:St}{H:Hp}{s:Ai}{R:It->Hp->Prop}{E:Ag->Ai->Prop}{lo hi:Int}{t u v:Tok}{tk:Nat}(I:Inv X pins σ H s)(h1:-(2 ^ 62)<=lo)(h2:lo < 2 ^ 62)(h3:-(2 ^ 62)<=hi)(h4:hi < 2 ^ 62)
  (q:R (nj lo (hi-lo).toNat) H):Av (A7 X.prog X.w) X.A (pyIter (.ref s.heap.objs.size)) (xM X pins σ tg R) E {s with heap:=s.heap.push {cls:=.type "range",data:=.fields #[.int lo t,.int hi u,.int 1 v]},toks:=tk}:=by
 refine wpAny_pyIter_range (IsRange.new ..) (small_one h1 h2 h3 h4) ?_;have I1:Inv X pins σ H {s with heap:=s.heap.push {cls:=.type "range",data:=.fields #[.int lo t,.int hi u,.int 1 v]},toks:=tk}:=I.kept λb o e=>Ae _ e;refine⟨(s.heap.push {cls:=.type "range",data:=.fields #[.int lo t,.int hi u,.int 1 v]}).objs.size,[(s.heap.push {cls:=.type "range",data:=.fields #[.int lo t,.int hi u,.int 1 v]}).objs.size],_,_,H,rfl,
  I1.kept (t':=tk) λb o e=>Ae _ e,HQ _ lo (hi-lo).toNat,?_,λb hb=>?_,q⟩
 ·have e1:lo+((0:Nat):Int)*1=lo:=by simp
  have e2:(((hi-lo).toNat:Nat):Int)-((0:Nat):Int)=Builtin.Range.rangeSize lo hi 1:=by rw[rangeSize_one];split<;>omega
  show IsRangeIter _ _ (lo+((0:Nat):Int)*1) ((((hi-lo).toNat:Nat):Int)-((0:Nat):Int)) 1;rw[e1,e2];exact As _ rfl
 ·have e:b=(s.heap.push {cls:=.type "range",data:=.fields #[.int lo t,.int hi u,.int 1 v]}).objs.size:=by simpa using hb
  subst e;exact I1.fpOk (Aq _) (I1.hok.fresh (Aq _))
def yz(ta:TA):TI:=λσ H R=>ta σ H λvs H1=>∃j:Int,vs=[.int j]/\-(2 ^ 62)<=j/\j < 2 ^ 62/\R (nj 0 j.toNat) H1
theorem EG{a:Expr}{ta:TA}{p pos:Pos}(hg:Gl X "range")(hm:X.mg "range"=af)(ha:PA X [a] ta)(hs:Aw [a] X.env=[(ai,eval a X.env)]:=by rfl):PI X tg (.Call (.Name "range" p) [a] [] pos) (yz ta):=by
 intro pins s σ H R I h;refine Call_ (jB I hg hm boot_range (Fi (aT (ha pos pins s σ H _ I h) λus s1 ⟨vs,H1,I1,r1,q1⟩=>?_) hs rfl));obtain⟨j,e,q1,q2,q⟩:=q1;subst e;cases r1 with
 |cons r rr=>
  cases rr;obtain⟨t,rfl⟩:=r;exact call_range_1 (EZ I1 ⋯ ⋯ q1 q2 (by simpa using q))
def kI(wi:TI)(g:TG)(tb:TS):TS:=λD σ H=>wi σ H λJ H1=>∃W:Nat->Nat->St->Hp->Prop,(∃m,W 0 m σ H1)/\∀i m σ H,W i m σ H->
 (J.stop i H/\D.nx σ H)\/(J.go i H/\∃N:St->Hp->Prop,(∀σ' H',N σ' H'->∃m',m' < m/\W (i+1) m' σ' H')/\∀x H',J.yld i H x H'->g x σ H' λσ2 H2=>tb {D with nx:=N,ct:=N,bk:=D.nx} σ2 H2)
def jS(fp:List Addr)(h:Heap):List (Addr×Obj):=fp.filterMap λb=>(h.get? b).map λo=>(b,o)
theorem j3{fp:List Addr}{h:Heap}{b:Addr}{o:Obj}(hb:b∈fp)(e:h.get? b=ae o):(b,o)∈jS fp h:=List.mem_filterMap.mpr ⟨b,hb,by rw[e];rfl⟩
theorem Nv{fp:List Addr}{h:Heap}{p:Addr×Obj}(hp:p∈jS fp h):p.1∈fp/\h.get? p.1=ae p.2:=by
 obtain⟨b,hb,e⟩:=List.mem_filterMap.mp hp;cases q:h.get? b with
 |none=>rw[q]at e;cases e
 |some o=>
  rw[q]at e;have e':(b,o)=p:=Bi e;subst e';exact⟨hb,q⟩
theorem Inv.pinned{pins:List (Addr×Obj)}{σ:St}{H:Hp}{s:Ai}{fp:List Addr}(I:Inv X pins σ H s)(hf:∀b∈fp,cm X pins H b)(ho:∀b∈fp,∃o,s.heap.get? b=ae o/\∀v,o.data≠.cell v):Inv X (pins++jS fp s.heap) σ H s:=
 I.pins_of λp hp=>(A6.mp hp).elim (λz=>I.pin p (A1 _ z)) λz=>by
  obtain⟨hb,e⟩:=Nv z;obtain⟨f0,f1,f2,_⟩:=hf p.1 hb;obtain⟨o,e',d⟩:=ho p.1 hb;rw[e]at e';cases e';exact⟨e,f0,f1,f2,d⟩
theorem Inv.unpinned{pins pl:List (Addr×Obj)}{σ:St}{H:Hp}{s:Ai}(I:Inv X (pins++pl) σ H s):Inv X pins σ H s:=I.pins_of λp hp=>I.pin p (A1 _ (Dz _ hp))
theorem GR{iter:Expr}{body:List Stmt}{wi:TI}{g:TG}{tb:TS}{pos:Pos}(hp:PassesOwn (A7 X.prog X.w) X.A X.env X.xe)(hc:X.calm=ah)(hi:PI X tg iter wi)(hg:PG X tg g)(hb:PSs X body tb)
  (hs:∀x,Fc iter X.env x=pure x:=by intro _;rfl):PS X (.For tg iter body [] pos) (kI wi g tb):=by
 intro pins s σ H D I h;refine wpAny_For (aT (hi pins s σ H _ I h) λv s1 h1=>aT h1 λitv s2 h2=>?_) hs;obtain⟨it,fp,tn,J,H2,e,I2,T,st2,f2,W,⟨m0,w0⟩,turn⟩:=h2;subst e
 have stat:∀{H':Hp},(∀b∈fp,H' b=af)->∀b∈fp,cm X pins H' b:=λhn b hb=>⟨hn b hb,(f2 b hb).2⟩;refine codeAny_forLoop_any (λn s'=>∃i σ' H',Inv X pins σ' H' s'/\tn i s'.heap/\(∀b∈fp,H' b=af)/\W i n σ' H') ?_ m0 ⟨0,σ,H2,I2,st2,λb hb=>(f2 b hb).1,w0⟩
 rintro n s3 ⟨i,σ3,H3,I3,st3,fr3,w3⟩
 rcases turn i n σ3 H3 w3 with⟨stop,qn⟩|⟨go,N,hN,step⟩
 ·refine Hr hp (aT (T.done X rfl rfl rfl hc i pins s3 σ3 H3 X.xe I3 (stat fr3) st3 stop) λr s4 ⟨hr,I4⟩=>?_);subst hr;exact wpAny_execs_nil ⟨σ3,H3,I4,qn⟩
 ·refine Hr hp (aT (T.item X rfl rfl rfl hc i pins s3 σ3 H3 X.xe I3 (stat fr3) st3 go) λr s4 ⟨u,hr,h4⟩=>?_);subst hr;refine Hr hp (aT h4 λ_ s5 ⟨x,H5,I5,r5,y5,st5,fr5⟩=>?_);have I5':=I5.pinned (stat fr5) (T.obj _ _ st5);refine Hr hp (aT (hg _ s5 σ3 H5 x u _ I5' r5 (step x H5 y5)) λ_ s6 ⟨σ6,H6,I6,q6⟩=>?_);refine Hr hp (aT (hb _ s6 σ6 H6 _ I6 q6) λf s7 q7=>?_);have again:∀{σ7:St}{H7:Hp},Inv X (pins++jS fp s5.heap) σ7 H7 s7->N σ7 H7->∃m,m < n/\∃i σ' H',Inv X pins σ' H' s7/\tn i s7.heap/\(∀b∈fp,H' b=af)/\W i m σ' H':=λ{σ7 H7} I7 n7=>by
   obtain⟨m',hm,w7⟩:=hN σ7 H7 n7;refine⟨m',hm,i+1,σ7,H7,I7.unpinned,T.keep _ _ _ st5 λb hb o e=>(I7.pin (b,o) (A1 _ (A1 _ (j3 hb e)))).1,λb hb=>?_,w7⟩;obtain⟨o,e,d⟩:=T.obj _ _ st5 b hb;exact(I7.pin (b,o) (A1 _ (A1 _ (j3 hb e)))).2.1
  cases f with
  |next=>obtain⟨σ7,H7,I7,n7⟩:=q7;exact again I7 n7
  |cont=>obtain⟨σ7,H7,I7,n7⟩:=q7;exact again I7 n7
  |brk=>obtain⟨σ7,H7,I7,q7⟩:=q7;exact⟨σ7,H7,I7.unpinned,q7⟩
  |ret v=>obtain⟨x7,σ7,H7,I7,r7,q7⟩:=q7;exact⟨x7,σ7,H7,I7.unpinned,r7,q7⟩
end
abbrev R2:=V->V->Hp->VK->Prop
def OpR(X:Cx)(f:Ag->Ag->Sem Ag)(r:R2):Prop:=
 ∀(pins:List (Addr×Obj))(s:Ai)(σ:St)(H:Hp)(x y:V)(v u:Ag)(Q:VK),Inv X pins σ H s->RelV x v->RelV y u->r x y H Q->
  Av (A7 X.prog X.w) X.A (f v u) (EP X pins σ Q) X.xe s
def rf(X:Cx)(f:Ag->Sem Ag)(r:V->Hp->VK->Prop):Prop:=
 ∀(pins:List (Addr×Obj))(s:Ai)(σ:St)(H:Hp)(x:V)(v:Ag)(Q:VK),Inv X pins σ H s->RelV x v->r x H Q->
  Av (A7 X.prog X.w) X.A (f v) (EP X pins σ Q) X.xe s
def CallR(X:Cx)(f:Ag)(r:List V->Hp->VK->Prop):Prop:=
 ∀(pins:List (Addr×Obj))(s:Ai)(σ:St)(H:Hp)(xs:List V)(us:List Ag)(Q:VK),Inv X pins σ H s->Vals xs us->r xs H Q->
  Av (A7 X.prog X.w) X.A (call f us) (EP X pins σ Q) X.xe s
def d4(r:R2)(ta tb:TE):TE:=λσ H Q=>ta σ H λx H1=>tb σ H1 λy H2=>r x y H2 Q
def oS(r:V->Hp->VK->Prop)(ta:TE):TE:=λσ H Q=>ta σ H λx H1=>r x H1 Q
def rI(C:Int->Int->Prop)(g:Int->Int->V):R2:=λx y H Q=>∃i j,x=.int i/\y=.int j/\C i j/\Q (g i j) H
def eK(g:Int->Int->V):R2:=λx y H Q=>∃i j,x=.int i/\y=.int j/\Q (g i j) H
def rU(g:Int->V):V->Hp->VK->Prop:=λx H Q=>∃i,x=.int i/\Q (g i) H
section
variable{X:Cx}{a b c:Expr}{ta tb tc:TE}{pos:Pos}
theorem jr(ha:PE X a ta)(hb:PE X b tb){pins:List (Addr×Obj)}{s:Ai}{σ:St}{H:Hp}{R:V->V->Hp->Prop}(I:Inv X pins σ H s)
  (h:ta σ H λx H1=>tb σ H1 λy H2=>R x y H2) {Q:Ag->Ai->Prop} {f:Ag->Ag->Sem Ag}
  (hf:∀v u s2 x y H2,Inv X pins σ H2 s2->RelV x v->RelV y u->R x y H2->Av (A7 X.prog X.w) X.A (f v u) Q X.xe s2):
  Av (A7 X.prog X.w) X.A (eval a X.env) (λv s₁=>Av (A7 X.prog X.w) X.A (eval b X.env) (λu s₂=>Av (A7 X.prog X.w) X.A (f v u) Q X.xe s₂) X.xe s₁) X.xe s:=by
 refine aT (ha pins s σ H _ I h) λv s1 ⟨x,H1,I1,r1,q1⟩=>?_;refine aT (hb pins s1 σ H1 _ I1 q1) λu s2 ⟨y,H2,I2,r2,q2⟩=>?_;exact hf v u s2 x y H2 I2 r1 r2 q2
theorem dD{op:Operator}{r:R2}(ho:OpR X (Fp op) r)(ha:PE X a ta)(hb:PE X b tb):PE X (.BinOp a op b pos) (d4 r ta tb):=by
 intro pins s σ H Q I h;exact wpAny_BinOp (jr ha hb I h λv u s2 x y H2 I2 rx ry q=>ho pins s2 σ H2 x y v u Q I2 rx ry q)
theorem yi{op:UnaryOp}{r:V->Hp->VK->Prop}(ho:rf X (unaryOp op) r)(ha:PE X a ta):PE X (.UnaryOp op a pos) (oS r ta):=by
 intro pins s σ H Q I h;exact UnaryOp_ (aT (ha pins s σ H _ I h) λv s1 ⟨x,H1,I1,r1,q1⟩=>ho pins s1 σ H1 x v Q I1 r1 q1)
theorem m5{f:Ag->Ag->Sem Ag}{C:Int->Int->Prop}{g:Int->Int->Int}
  (rule:∀(i j:Int)(t u:Tok)(s:Ai)(Q:Ag->Ai->Prop)(E:Ag->Ai->Prop),C i j->Q (.int (g i j) s.toks) {s with toks:=s.toks+1}->Av (A7 X.prog X.w) X.A (f (.int i t) (.int j u)) Q E s):
  OpR X f (rI C λi j=>.int (g i j)):=by
 intro pins s σ H x y v u Q I rx ry h;obtain⟨i,j,rfl,rfl,hc,q⟩:=h;obtain⟨t,rfl⟩:=rx;obtain⟨t',rfl⟩:=ry;exact rule i j t t' s _ _ hc ⟨.int (g i j),H,I.tok _,⟨_,rfl⟩,q⟩
theorem lD{f:Ag->Ag->Sem Ag}{g:Int->Int->Int}
  (rule:∀(i j:Int)(t u:Tok)(s:Ai)(Q:Ag->Ai->Prop)(E:Ag->Ai->Prop),Q (.int (g i j) s.toks) {s with toks:=s.toks+1}->Av (A7 X.prog X.w) X.A (f (.int i t) (.int j u)) Q E s):
  OpR X f (eK λi j=>.int (g i j)):=by
 intro pins s σ H x y v u Q I rx ry h;obtain⟨i,j,rfl,rfl,q⟩:=h;obtain⟨t,rfl⟩:=rx;obtain⟨t',rfl⟩:=ry;exact rule i j t t' s _ _ ⟨.int (g i j),H,I.tok _,⟨_,rfl⟩,q⟩
theorem ir{f:Ag->Ag->Sem Ag}{g:Int->Int->Bool}
  (rule:∀(i j:Int)(t u:Tok)(s:Ai)(Q:Ag->Ai->Prop)(E:Ag->Ai->Prop),Q (.bool (g i j)) s->Av (A7 X.prog X.w) X.A (f (.int i t) (.int j u)) Q E s):
  OpR X f (eK λi j=>.bl (g i j)):=by
 intro pins s σ H x y v u Q I rx ry h;obtain⟨i,j,rfl,rfl,q⟩:=h;obtain⟨t,rfl⟩:=rx;obtain⟨t',rfl⟩:=ry;exact rule i j t t' s _ _ ⟨.bl (g i j),H,I,rfl,q⟩
def pY(i j:Int):Prop:=0 < j/\j < 1073741824
def dB(i j:Int):Prop:=0<=j/\j<=1000000/\i.natAbs < 2 ^ 64
def CMul(i j:Int):Prop:=(-(2 ^ 64) < i/\i < 2 ^ 64)\/(-(2 ^ 64) < j/\j < 2 ^ 64)
theorem CMul.ok{i j:Int}(h:CMul i j):IntMulOk i j:=by
 rcases h with⟨h1,h2⟩|⟨h1,h2⟩
 ·exact .of_left (intBits_le_64 h1 h2)
 ·exact .of_right (intBits_le_64 h1 h2)
theorem op_add:OpR X (Fp .Add) (eK λi j=>.int (i+j)):=lD λ_ _ _ _ _ _ _ q=>add_int q
theorem AY:OpR X (Fp .Sub) (eK λi j=>.int (i-j)):=lD λ_ _ _ _ _ _ _ q=>sub_int q
theorem ki:OpR X (Fp .Mult) (rI CMul λi j=>.int (i*j)):=m5 λ_ _ _ _ _ _ _ hc q=>mul_int q hc.ok
theorem zu:OpR X (Fp .FloorDiv) (rI pY λi j=>.int (i / j)):=m5 λi j _ _ _ _ _ hc q=>by
 have h1:(0:Int) < j:=hc.1;have h2:j < 1073741824:=hc.2;exact floordiv_int ⋯ (by rw[Int.fdiv_eq_ediv_of_nonneg i ⋯];exact q) (.inl (PyProof.noPylong_small ⋯))
theorem i5:OpR X (Fp .Mod) (rI (λ_ j=>0 < j) λi j=>.int (i % j)):=m5 λi j _ _ _ _ _ hc q=>by
 have h1:(0:Int) < j:=hc;exact mod_int' ⋯ (by rw[Int.fmod_eq_emod_of_nonneg i ⋯];exact q)
theorem zx:OpR X (Fp .Pow) (rI dB λi j=>.int (i ^ j.toNat)):=m5 λ_ _ _ _ _ _ _ hc q=>pow_int_small hc.1 hc.2.1 hc.2.2 q
theorem Ni{f:Ag->Sem Ag}{g:Int->Int}
  (rule:∀(i:Int)(t:Tok)(s:Ai)(Q:Ag->Ai->Prop)(E:Ag->Ai->Prop),Q (.int (g i) s.toks) {s with toks:=s.toks+1}->Av (A7 X.prog X.w) X.A (f (.int i t)) Q E s):
  rf X f (rU λi=>.int (g i)):=by
 intro pins s σ H x v Q I rx h;obtain⟨i,rfl,q⟩:=h;obtain⟨t,rfl⟩:=rx;exact rule i t s _ _ ⟨.int (g i),H,I.tok _,⟨_,rfl⟩,q⟩
theorem yf:rf X (unaryOp .USub) (rU λi=>.int (-i)):=Ni λ_ _ _ _ _ q=>neg_int q
end
def md:V->V->Bool
 |.non,.non=>ah|.non,.int _=>ah|.int _,.non=>ah|.non,.bl _=>ah|.bl _,.non=>ah|.non,.str _=>ah|.str _,.non=>ah
 |.int _,.int _=>ah|.bl _,.bl _=>ah|.str _,.str _=>ah|.byt _,.byt _=>ah
 |.int _,.str _=>ah|.str _,.int _=>ah|.bl _,.str _=>ah|.str _,.bl _=>ah
 |_,_=>ai
def oD:R2:=λx y H Q=>md x y=ah/\Q (.bl (decide (x=y))) H
def tT:R2:=λx y H Q=>md x y=ah/\Q (.bl (!decide (x=y))) H
theorem w6{i j:Int}:decide (V.int i=V.int j)=(i==j):=by
 rw[D7];simp
theorem xQ{i j:Bool}:decide (V.bl i=V.bl j)=(i==j):=by
 rw[D7];simp
theorem uN{i j:Str}:decide (V.str i=V.str j)=(i==j):=by
 rw[D7];simp
theorem v7{i j:Array UInt8}:decide (V.byt i=V.byt j)=(i.toList==j.toList):=by
 rw[D7];cases i;cases j;simp
section
variable{X:Cx}{a b c:Expr}{ta tb tc:TE}{pos:Pos}
theorem bR{pins:List (Addr×Obj)}{σ:St}{H:Hp}{s:Ai}{Q:VK}{k k':Bool}(I:Inv X pins σ H s)(q:Q (.bl k) H)(e:k=k'):EP X pins σ Q (.bool k') s:=by
 subst e;exact⟨.bl k,H,I,rfl,q⟩
theorem op_eq:OpR X (B4 .Eq) oD:=by
 intro pins s σ H x y v u Q I rx ry h;obtain⟨hs,q⟩:=h;cases x with
 |non=>
  cases rx;cases y with
  |non=>cases ry;exact PySem.EqNone.eq_none_none (bR I q (by simp))
  |bl j=>cases ry;exact PySem.EqNone.eq_none_bool (bR I q (by simp))
  |int j=>obtain⟨t',rfl⟩:=ry;exact PySem.EqNone.eq_none_int (bR I q (by simp))
  |str j=>obtain⟨t',rfl⟩:=ry;exact PySem.EqNone.eq_none_str (bR I q (by simp))
  |_=>exact absurd (show ai=ah from hs) Au
 |bl i=>
  cases rx;cases y with
  |non=>cases ry;exact PySem.EqNone.eq_bool_none (bR I q (by simp))
  |bl j=>cases ry;exact eq_bool (bR I q xQ)
  |str j=>obtain⟨t',rfl⟩:=ry;exact PySem.EqMixed.eq_bool_str (bR I q (by simp))
  |_=>exact absurd (show ai=ah from hs) Au
 |int i=>
  obtain⟨t,rfl⟩:=rx;cases y with
  |non=>cases ry;exact PySem.EqNone.eq_int_none (bR I q (by simp))
  |int j=>obtain⟨t',rfl⟩:=ry;exact eq_int (bR I q w6)
  |str j=>obtain⟨t',rfl⟩:=ry;exact PySem.EqMixed.eq_int_str (bR I q (by simp))
  |_=>exact absurd (show ai=ah from hs) Au
 |str i=>
  obtain⟨t,rfl⟩:=rx;cases y with
  |non=>cases ry;exact PySem.EqNone.eq_str_none (bR I q (by simp))
  |bl j=>cases ry;exact PySem.EqMixed.eq_str_bool (bR I q (by simp))
  |int j=>obtain⟨t',rfl⟩:=ry;exact PySem.EqMixed.eq_str_int (bR I q (by simp))
  |str j=>obtain⟨t',rfl⟩:=ry;exact eq_str (bR I q uN)
  |_=>exact absurd (show ai=ah from hs) Au
 |byt i=>
  obtain⟨t,rfl⟩:=rx;cases y with
  |byt j=>obtain⟨t',rfl⟩:=ry;exact PySem.W.eq_bytes (bR I q v7)
  |_=>exact absurd (show ai=ah from hs) Au
 |_=>cases y<;>exact absurd (show ai=ah from hs) Au
theorem MQ:OpR X (B4 .NotEq) tT:=by
 intro pins s σ H x y v u Q I rx ry h;obtain⟨hs,q⟩:=h;cases x with
 |non=>
  cases rx;cases y with
  |non=>cases ry;exact PySem.EqNone.ne_none_none (bR I q (by simp))
  |bl j=>cases ry;exact PySem.EqNone.ne_none_bool (bR I q (by simp))
  |int j=>obtain⟨t',rfl⟩:=ry;exact PySem.EqNone.ne_none_int (bR I q (by simp))
  |str j=>obtain⟨t',rfl⟩:=ry;exact PySem.EqNone.ne_none_str (bR I q (by simp))
  |_=>exact absurd (show ai=ah from hs) Au
 |bl i=>
  cases rx;cases y with
  |non=>cases ry;exact PySem.EqNone.ne_bool_none (bR I q (by simp))
  |bl j=>cases ry;exact ne_bool (bR I q (congrArg not xQ))
  |str j=>obtain⟨t',rfl⟩:=ry;exact PySem.EqMixed.ne_bool_str (bR I q (by simp))
  |_=>exact absurd (show ai=ah from hs) Au
 |int i=>
  obtain⟨t,rfl⟩:=rx;cases y with
  |non=>cases ry;exact PySem.EqNone.ne_int_none (bR I q (by simp))
  |int j=>obtain⟨t',rfl⟩:=ry;exact ne_int (bR I q (congrArg not w6))
  |str j=>obtain⟨t',rfl⟩:=ry;exact PySem.EqMixed.ne_int_str (bR I q (by simp))
  |_=>exact absurd (show ai=ah from hs) Au
 |str i=>
  obtain⟨t,rfl⟩:=rx;cases y with
  |non=>cases ry;exact PySem.EqNone.ne_str_none (bR I q (by simp))
  |bl j=>cases ry;exact PySem.EqMixed.ne_str_bool (bR I q (by simp))
  |int j=>obtain⟨t',rfl⟩:=ry;exact PySem.EqMixed.ne_str_int (bR I q (by simp))
  |str j=>obtain⟨t',rfl⟩:=ry;exact ne_str (bR I q (congrArg not uN))
  |_=>exact absurd (show ai=ah from hs) Au
 |byt i=>
  obtain⟨t,rfl⟩:=rx;cases y with
  |byt j=>obtain⟨t',rfl⟩:=ry;exact PySem.W.ne_bytes (bR I q (congrArg not v7))
  |_=>exact absurd (show ai=ah from hs) Au
 |_=>cases y<;>exact absurd (show ai=ah from hs) Au
theorem op_lt:OpR X (B4 .Lt) (eK λi j=>.bl (decide (i < j))):=ir λ_ _ _ _ _ _ _ q=>lt_int q
theorem op_le:OpR X (B4 .LtE) (eK λi j=>.bl (decide (i<=j))):=ir λ_ _ _ _ _ _ _ q=>le_int q
theorem op_gt:OpR X (B4 .Gt) (eK λi j=>.bl (decide (j < i))):=ir λ_ _ _ _ _ _ _ q=>gt_int q
theorem op_ge:OpR X (B4 .GtE) (eK λi j=>.bl (decide (j<=i))):=ir λ_ _ _ _ _ _ _ q=>ge_int q
theorem Il:OpR X (B4 .Lt) (λx y H Q=>∃i j,x=.str i/\y=.str j/\Q (.bl (decide (i.cps.toList < j.cps.toList))) H):=by
 intro pins s σ H x y v u Q I rx ry h;obtain⟨i,j,rfl,rfl,q⟩:=h;obtain⟨t,rfl⟩:=rx;obtain⟨t',rfl⟩:=ry;exact lt_str (bR I q rfl)
theorem KY:OpR X (B4 .In) (λx y H Q=>∃i j,x=.str i/\y=.str j/\Q (.bl (!(Hk j i 0 j.length 1).isEmpty)) H):=by
 intro pins s σ H x y v u Q I rx ry h;obtain⟨i,j,rfl,rfl,q⟩:=h;obtain⟨t,rfl⟩:=rx;obtain⟨t',rfl⟩:=ry;exact in_str (bR I q rfl)
theorem Nh:OpR X (B4 .Is) (λx y H Q=>y=.non/\Q (.bl (decide (x=.non))) H):=by
 intro pins s σ H x y v u Q I rx ry h;obtain⟨rfl,q⟩:=h;cases ry;refine is_none_gen (bR I q ?_);cases x<;>first
  | (cases rx;rfl)
  | (obtain⟨t,rfl⟩:=rx;rfl)
theorem J5:OpR X (B4 .IsNot) (λx y H Q=>y=.non/\Q (.bl (!decide (x=.non))) H):=by
 intro pins s σ H x y v u Q I rx ry h;obtain⟨rfl,q⟩:=h;cases ry;refine isnot_none_gen (bR I q ?_);cases x<;>first
  | (cases rx;rfl)
  | (obtain⟨t,rfl⟩:=rx;rfl)
theorem OpR.or{f:Ag->Ag->Sem Ag}{r r':R2}(h:OpR X f r)(h':OpR X f r'):OpR X f (λx y H Q=>r x y H Q\/r' x y H Q):=by
 intro pins s σ H x y v u Q I rx ry q;rcases q with q|q
 ·exact h pins s σ H x y v u Q I rx ry q
 ·exact h' pins s σ H x y v u Q I rx ry q
theorem mG(b:Expr){op:CmpOp}(h:op≠.In:=by decide)(h2:op≠.NotIn:=by decide):E1 op b=ai:=by
 have e1:(op==CmpOp.In)=ai:=by cases op<;>first|rfl|exact absurd rfl h
 have e2:(op==CmpOp.NotIn)=ai:=by cases op<;>first|rfl|exact absurd rfl h2
 cases b<;>simp[E1,e1,e2]
theorem CC{op:CmpOp}{r:R2}(ho:OpR X (B4 op) r)(ha:PE X a ta)(hb:PE X b tb)(hm:E1 op b=ai):PE X (.Compare a [op] [b] pos) (d4 r ta tb):=by
 intro pins s σ H Q I h;exact wpAny_Compare1 (jr ha hb I h λv u s2 x y H2 I2 rx ry q=>ho pins s2 σ H2 x y v u Q I2 rx ry q) hm
def jf(t:TE):TT:=λσ H Q=>t σ H λx H'=>∃k,x=.bl k/\Q k H'
theorem jZ{op:CmpOp}{r:R2}(ho:OpR X (B4 op) r)(ha:PE X a ta)(hb:PE X b tb)(hm:E1 op b=ai):PT X (.Compare a [op] [b] pos) (jf (d4 r ta tb)):=by
 intro pins s σ H Q I h;refine wpAny_isTrue_Compare1 (aT (ha pins s σ H _ I h) λv s1 ⟨x,H1,I1,r1,q1⟩=>aT (hb pins s1 σ H1 _ I1 q1) λu s2 ⟨y,H2,I2,r2,q2⟩=>
  aT (ho pins s2 σ H2 x y v u _ I2 r1 r2 q2) λc s3 ⟨z,H3,I3,r3,k,e,q3⟩=>?_) hm
 subst e;cases r3;exact Dw ⟨H3,I3,q3⟩
def l7(r r':R2)(ta tb tc:TE):TE:=λσ H Q=>ta σ H λx H1=>tb σ H1 λy H2=>r x y H2 λz H3=>∃k,z=.bl k /\
 (if k=ah then tc σ H3 λw' H4=>r' y w' H4 Q else Q (.bl ai) H3)
theorem Oa{op op':CmpOp}{r r':R2}(ho:OpR X (B4 op) r)(ho':OpR X (B4 op') r')(ha:PE X a ta)(hb:PE X b tb)(hc:PE X c tc)
  (hm:lastMarks [op,op'] [b,c]=ai:=by with_unfolding_all rfl):PE X (.Compare a [op,op'] [b,c] pos) (l7 r r' ta tb tc):=by
 intro pins s σ H Q I h;refine Compare_chain (aT (ha pins s σ H _ I h) λv s1 ⟨x,H1,I1,r1,q1⟩=>chain_link (aT (hb pins s1 σ H1 _ I1 q1) λu s2 ⟨y,H2,I2,r2,q2⟩=>
  aT (ho pins s2 σ H2 x y v u _ I2 r1 r2 q2) λd s3 ⟨z,H3,I3,r3,k,e,q3⟩=>?_)) hm
 subst e;cases r3;refine Dw ?_;cases k with
 |false=>exact ite_ff ⟨.bl ai,H3,I3,rfl,q3⟩
 |true=>exact ite_tt (chain_last (aT (hc pins s3 σ H3 _ I3 q3) λw' s4 ⟨z',H4,I4,r4,q4⟩=>ho' pins s4 σ H4 y z' u w' Q I4 r2 r4 q4))
theorem FZ{op op':CmpOp}{r r':R2}(ho:OpR X (B4 op) r)(ho':OpR X (B4 op') r')(ha:PE X a ta)(hb:PE X b tb)(hc:PE X c tc)
  (hm:lastMarks [op,op'] [b,c]=ai:=by with_unfolding_all rfl):PT X (.Compare a [op,op'] [b,c] pos) (jf (l7 r r' ta tb tc)):=by
 intro pins s σ H Q I h;refine isTrue_chain (aT (ha pins s σ H _ I h) λv s1 ⟨x,H1,I1,r1,q1⟩=>test_link (aT (hb pins s1 σ H1 _ I1 q1) λu s2 ⟨y,H2,I2,r2,q2⟩=>
  aT (ho pins s2 σ H2 x y v u _ I2 r1 r2 q2) λd s3 ⟨z,H3,I3,r3,k,e,q3⟩=>?_)) hm
 subst e;cases r3;refine Dw ?_;cases k with
 |false=>
  obtain⟨k',e',q'⟩:=q3;cases e';exact ite_ff ⟨H3,I3,q'⟩
 |true=>
  refine ite_tt (test_last (aT (hc pins s3 σ H3 _ I3 q3) λw' s4 ⟨z',H4,I4,r4,q4⟩=>aT (ho' pins s4 σ H4 y z' u w' _ I4 r2 r4 q4) λd' s5 ⟨z2,H5,I5,r5,k2,e2,q5⟩=>?_));subst e2;cases r5;exact Dw ⟨H5,I5,q5⟩
theorem kh:(A2:Nat) < 2 ^ 63:=by rw[Cw];decide
theorem op_add_str:OpR X (Fp .Add) (λx y H Q=>∃i j,x=.str i/\y=.str j/\i.length+j.length<=A2/\Q (.str (i++j)) H):=by
 intro pins s σ H x y v u Q I rx ry h;obtain⟨i,j,rfl,rfl,hz,q⟩:=h;obtain⟨t,rfl⟩:=rx;obtain⟨t',rfl⟩:=ry;exact add_str (λt' tk=>⟨.str (i++j),H,I.tok _,⟨_,rfl⟩,q⟩) hz
theorem fe{x:V}{us:List Ag}(r:Vals [x] us):∃u,us=[u]/\RelV x u:=by
 cases r with
 |cons r1 r2=>cases r2;exact⟨_,rfl,r1⟩
theorem qx{x y:V}{us:List Ag}(r:Vals [x,y] us):∃u w',us=[u,w']/\RelV x u/\RelV y w':=by
 cases r with
 |cons r1 r2=>
  cases r2 with
  |cons r3 r4=>cases r4;exact⟨_,_,rfl,r1,r3⟩
theorem HU:CallR X (.type "int") (λxs H Q=>(∃i,xs=[.int i]/\Q (.int i) H)\/∃k,xs=[.bl k]/\Q (.int (if k then 1 else 0)) H):=by
 intro pins s σ H xs us Q I r h;rcases h with⟨i,rfl,q⟩|⟨k,rfl,q⟩
 ·obtain⟨u,rfl,t,rfl⟩:=fe r;exact call_int_int ⟨.int i,H,I,⟨_,rfl⟩,q⟩
 ·obtain⟨u,rfl,r1⟩:=fe r;cases r1;exact call_int_bool ⟨.int (if k then 1 else 0),H,I.tok _,⟨_,rfl⟩,q⟩
end
structure ObjM(h:Heap)(x dx C:Addr)(mA:Str->Option Ag):Prop where
 obj:h.get? x=ae (PySem.W.instObj C dx)
 ns:h.Ns1 dx mA
 ne:dx≠x
theorem Nl{h:Heap}{dx:Addr}{mA:Str->Option Ag}(n:h.Ns1 dx mA):∃od,h.get? dx=ae od/\∀name,PySem.W.lookIn name od=ae (mA name):=by
 obtain⟨o,es,ep,ho,hd,hk,_,hm⟩:=n;refine⟨o,ho,λname=>?_⟩;have e:=hm name;unfold nsFind findBy at e;rw[<-Array.find?_toList]at e;unfold PySem.W.lookIn;rw[hd];dsimp only
 split
 ·rename_i y q;rw[q]at e;exact congrArg ae e
 ·rename_i q;rw[q]at e;have a:es.toList.any (·.refKey)=ai:=by
   rw[List.any_eq_false];intro y hy;obtain⟨z,t,hkey⟩:=hk y (Ef.mp hy);simp[DictEntry.refKey,hkey]
  have a':¬es.toList.any (·.refKey)=ah:=by rw[a];exact Au
  rw[if_neg a'];exact congrArg ae e
theorem ObjM.look{h:Heap}{x dx C:Addr}{mA:Str->Option Ag}(I:ObjM h x dx C mA):∃od,PySem.W.InstAt h x (PySem.W.instObj C dx) C (ae od)/\∀name,PySem.W.lookIn name od=ae (mA name):=
 let⟨od,ho,hl⟩:=Nl I.ns
 ⟨od,⟨I.obj,rfl,rfl,ho⟩,hl⟩
section
variable{P:Bn}{w:By}{H H':Hp}{h h':Heap}{a C dx:Addr}{fs fs':List (Str×V)}
theorem ins_get(hok:HOk P w H h)(e:H a=ae (.ins C dx fs)):∃mA,ObjM h a dx C mA/\(∀f,jQ (fs.lookup f) (mA f))/\PySem.Within mA (fs.map (·.1))/\fs.length<=1000/\H dx=ae (.own a):=by
 obtain⟨d,z,ne,ob,mA,n,r,q⟩:=(show ObjOk P w H h a (.ins C dx fs)from hok a _ e);exact⟨mA,⟨ob,n,ne⟩,r,q,z,d⟩
end
structure Cls(K:Aj)(C:Addr):Prop where
 pg:PySem.W.plainGet K C Str.empty=ah
 hd:PySem.W.hasDictIn K C=ah
 po:PySem.W.plainOver K C=ah
 sa:PySem.W.findIn K (.ref C) "__setattr__"=ae (ae (.builtin "object.__setattr__"))
theorem Cls.get{K:Aj}{C:Addr}(c:Cls K C)(f:Str):PySem.W.plainGet K C f=ah:=c.pg
section
variable{X:Cx}{pins:List (Addr×Obj)}{σ:St}{H:Hp}{s:Ai}{A:Bt}{E:Ag->Ai->Prop}{Q:Ag->Ai->Prop}{c:Ag}{b:Bool}
inductive TyOf(K:Aj)(H:Hp):V->Ag->Prop where
 |non:TyOf K H .non (.type "NoneType")
 |bl (x:Bool):TyOf K H (.bl x) (.type "bool")
 |int (i:Int):TyOf K H (.int i) (.type "int")
 |str (x:Str):TyOf K H (.str x) (.type "str")
 |flt (x:UInt64):TyOf K H (.flt x) (.type "float")
 |lst {a:Addr} {xs:List V} (e:H a=ae (.lst xs)):TyOf K H (.ref a) (.type "list")
 |frz {a:Addr} {o:Obj} {xs:List V} (e:H a=ae (.frz o (.lst xs))):TyOf K H (.ref a) (.type "list")
 |tup {a:Addr} {xs:List V} (e:H a=ae (.tup xs)):TyOf K H (.ref a) (.type "tuple")
 |dK {a:Addr} {kvs:List (bA×V)} (e:H a=ae (.dK kvs)):TyOf K H (.ref a) (.type "dict")
 |dT {a:Addr} {kvs:List (List bA×V)} (e:H a=ae (.dT kvs)):TyOf K H (.ref a) (.type "dict")
 |ins {a C dx:Addr} {fs:List (Str×V)} (e:H a=ae (.ins C dx fs)) (cl:Cls K C) (ha:PySem.W.findIn K (.ref C) "__class__"=ae (ae (.builtin "object.__class__")))
   (hn:PySem.W.specialIn K (.builtin "object.__class__") "__get__"=ae (ae (.builtin "getset_descriptor.__get__"))) (htk:PySem.W.takesIn K (.builtin "object.__class__")=ae ah)
   (hm:PySem.W.mroIn K C (.type "object")=ae ah):TyOf K H (.ref a) (.ref C)
theorem JL{x:V}{u t:Ag}(I:Inv X pins σ H s)(rx:RelV x u)(ty:TyOf X.K H x t)(e:PySem.W.kitOne X.K t c=ae b)(h:∀tk,Q (.bool b) {s with toks:=tk}):
  Av (A7 X.prog X.w) A (call (.builtin "isinstance") [u,c]) Q E s:=by
 cases ty with
 |non=>cases(show u=Bd from rx);exact Dr PySem.W.kitx_none I.kIn True.intro e (λz=>nomatch z) h
 |bl y=>cases(show u=Value.bool y from rx);exact Dr PySem.W.kitx_bool I.kIn True.intro e (λz=>nomatch z) h
 |int i=>obtain⟨t,q⟩:=(show ∃t,u=Value.int i t from rx);cases q;exact Dr PySem.W.kitx_int I.kIn True.intro e (λz=>nomatch z) h
 |str y=>obtain⟨t,q⟩:=(show ∃t,u=G5 y t from rx);cases q;exact Dr PySem.W.kitx_str I.kIn True.intro e (λz=>nomatch z) h
 |flt y=>obtain⟨t,q⟩:=(show ∃t,u=Value.float y t from rx);cases q;exact Dr PySem.W.kitx_float I.kIn True.intro e (λz=>nomatch z) h
 |@lst a xs ea=>
  cases(show u=Bf a from rx);obtain⟨_,_,n,_,h1⟩:=(show ObjOk X.prog X.w H s.heap a (.lst xs)from I.hok a _ ea);exact Dr PySem.W.kitx_list I.kIn ⟨_,h1,rfl⟩ e (λz=>nomatch z) h
 |@frz a ob xs ea=>
  cases(show u=Bf a from rx);obtain⟨_,_,_,n,_,h1⟩:=(show ObjOk X.prog X.w H s.heap a (.frz ob (.lst xs))from I.hok a _ ea);exact Dr PySem.W.kitx_list I.kIn ⟨_,h1,rfl⟩ e (λz=>nomatch z) h
 |@tup a xs ea=>
  cases(show u=Bf a from rx);obtain⟨_,_,_,p⟩:=(show ObjOk X.prog X.w H s.heap a (.tup xs)from I.hok a _ ea);obtain⟨o,h1,h2,_⟩:=p;exact Dr PySem.W.kitx_tuple I.kIn ⟨o,h1,h2⟩ e (λz=>nomatch z) h
 |@dK a kvs ea=>
  cases(show u=Bf a from rx);obtain⟨_,_,vs,_,p⟩:=(show ObjOk X.prog X.w H s.heap a (.dK kvs)from I.hok a _ ea);obtain⟨o,es,ep,h1,h2,_⟩:=p;exact Dr PySem.W.kitx_dict I.kIn ⟨o,h1,h2.1⟩ e (λz=>nomatch z) h
 |@dT a kvs ea=>
  cases(show u=Bf a from rx);obtain⟨_,_,xs,_,o,es,ep,h1,h2,_⟩:=(show ObjOk X.prog X.w H s.heap a (.dT kvs)from I.hok a _ ea);exact Dr PySem.W.kitx_dict I.kIn ⟨o,h1,h2.1⟩ e (λz=>nomatch z) h
 |@ins a C dx fs ea cl ha hn htk hm=>
  cases(show u=Bf a from rx);obtain⟨mA,O,_⟩:=ins_get I.hok ea;obtain⟨od,J,_⟩:=O.look;exact Dr (PySem.W.kitx_own (cl.get _) cl.hd ha hn htk hm) I.kIn J e (λz=>nomatch z) h
end
structure Room(k:Nat)(A:Bt):Prop where
 hd:A.handled=af
 dp:A.depth+3*k+5 < recursionLimit
 un:A.units+16*k+200 < Fo
 gd:A.guards=ae []
theorem Room.mono{j k:Nat}{A:Bt}(r:Room k A)(h:j<=k):Room j A:=⟨r.hd,by have:=r.dp;omega,by have:=r.un;omega,r.gd⟩
theorem Room.deeper{k:Nat}{A:Bt}(r:Room (k+1) A)(env:Env):Room k (A.deeper env):=
 ⟨r.hd,by have:=r.dp;show A.depth+1+3*k+5 < _;omega,by have:=r.un;show A.units+3+16*k+200 < _;omega,r.gd⟩
theorem Room.in1{k:Nat}{A:Bt}(r:Room (k+1) A):Room k A.in1:=
 ⟨r.hd,by have:=r.dp;show A.depth+3*k+5 < _;omega,by have:=r.un;show A.units+1+16*k+200 < _;omega,r.gd⟩
theorem Room.depth{k:Nat}{A:Bt}(r:Room k A):A.depth < recursionLimit:=by have:=r.dp;omega
theorem Room.units{k:Nat}{A:Bt}(r:Room k A):A.units+64 < Fo:=by have:=r.un;omega
theorem Room.units0{k:Nat}{A:Bt}(r:Room k A):A.units < Fo:=by have:=r.un;omega
def bF:TA:=λ_ H Q=>Q [] H
def c9(ta:TE)(tr:TA):TA:=λσ H Q=>ta σ H λx H1=>tr σ H1 λxs H2=>Q (x::xs) H2
section
variable{X:Cx}{e:Expr}{es:List Expr}{te:TE}{t:TA}{pos:Pos}
theorem dz:PA X [] bF:=λ_ _ _ _ H Q I h=>Calls.spliced_nil ⟨[],H,I,.nil,h⟩
theorem bY(ha:PE X e te)(hr:PA X es t)(hs:Aw (e::es) X.env=(ai,eval e X.env)::Aw es X.env:=by rfl):PA X (e::es) (c9 te t):=by
 intro pos pins s σ H Q I h;rw[hs];show Av _ _ (spliced ((ai,eval e X.env)::D2 pos (Aw es X.env))) _ _ s;refine Calls.spliced_cons (aT (ha pins s σ H _ I h) λu s1 ⟨x,H1,I1,r1,q1⟩=>?_);exact aT (hr pos pins s1 σ H1 _ I1 q1) λus s2 ⟨xs,H2,I2,r2,q2⟩=>⟨x::xs,H2,I2,.cons r1 r2,q2⟩
def lL(t:TA):TE:=λσ H Q=>t σ H λxs H1=>xs.length<=A2/\∀p,H1 p=af->Q (.ref p) (upd H1 p (.tup xs))
def kL(t:TA):TE:=λσ H Q=>t σ H λxs H1=>xs.length<=A2/\∀p,H1 p=af->Q (.ref p) (upd H1 p (.lst xs))
theorem CK{x1}(h:PA X es t):PE X (.Tuple es x1 pos) (lL t):=by
 intro pins s σ H Q I hq;refine wpAny_Tuple_spliced (aT (h pos pins s σ H _ I hq) λus s1 ⟨xs,H1,I1,r,z,q⟩=>⟨by rw[<-r.length];exact z,?_⟩);have hf:H1 s1.heap.objs.size=af:=I1.hok.fresh (Aq _);refine⟨.ref s1.heap.objs.size,upd H1 s1.heap.objs.size (.tup xs),I1.laid (t':=s1.toks) (λb u e=>Ae _ e) (Aq _) ?_,rfl,q _ hf⟩;exact⟨z,us,r,IsTupP.new _ _⟩
theorem pD(h:PA X es t):PE X (.List es pos) (kL t):=by
 intro pins s σ H Q I hq;refine wpAny_List_spliced (aT (h pos pins s σ H _ I hq) λus s1 ⟨xs,H1,I1,r,z,q⟩=>⟨by rw[<-r.length];exact z,?_⟩);have hf:H1 s1.heap.objs.size=af:=I1.hok.fresh (Aq _);refine⟨.ref s1.heap.objs.size,upd H1 s1.heap.objs.size (.lst xs),I1.laid (t':=s1.toks) (λb u e=>Ae _ e) (Aq _) ?_,rfl,q _ hf⟩;exact⟨z,us,0,r,As _ rfl⟩
end
abbrev Sp:=List V->Hp->VK->XK->Prop
abbrev gm:=List Env->Hp->Ai->XK->Ag->Ai->Prop
structure Env0(P:Bn)(w:By)(K:Aj)(mg:Str->Option Ag)(base:Heap)(A:Bt)(outer:List Env)(s:Ai)(H:Hp):Prop where
 frames:A.frames=ae outer
 mod:Mod K mg base
 bs:∀b o,base.get? b=ae o->s.heap.get? b=ae o/\H b=af
 bsz:base.objs.size<=s.heap.objs.size
 funs:s.heap.FunFrames base outer
 frf:∀b∈fU outer,H b=af
 hok:HOk P w H s.heap
 bare:AllBare s.gens
def CE(outer:List Env)(P:Bn)(w:By)(H:Hp)(s:Ai)(Q:VK)(u:Ag)(s':Ai):Prop:=
 ∃v H',s'.os=s.os/\AllBare s'.gens/\Un (fU outer) [] H H' s.heap s'.heap/\HOk P w H' s'.heap/\RelV v u/\Q v H'
def CR(CX:gm)(outer:List Env)(P:Bn)(w:By)(H:Hp)(s:Ai)(Q:VK)(E:XK)(r:Result)(s':Ai):Prop:=
 match r with
 |.ok (.ret u)=>CE outer P w H s Q u s'
 |.ok _=>False
 |.error e=>CX outer H s E e s'
structure FnOk(P:Bn)(w:By)(K:Aj)(mg:Str->Option Ag)(base:Heap)(CX:gm)(k:Nat)(f:Addr)(fd:C7)(ps:List Str)(sp:Sp):Prop where
 len:∀vs H Q E,sp vs H Q E->vs.length=ps.length
 run:∀(A:Bt)(outer:List Env)(s:Ai)(H:Hp)(args:Args)(us:List Ag)(vs:List V)(Q:VK)(E:XK),Room k A->Env0 P w K mg base A outer s H->BindsTo s fd args (ps.zip us)->Vals vs us->sp vs H Q E->
  Gm (A7 P w) A (.call (.ref f) args) (CR CX outer P w H s Q E) s
theorem FnOk.imp{P:Bn}{w:By}{K:Aj}{mg:Str->Option Ag}{base:Heap}{CX:gm}{k:Nat}{f:Addr}{fd:C7}{ps:List Str}{sp sp':Sp}(F:FnOk P w K mg base CX k f fd ps sp)
  (h:∀vs H Q E,sp' vs H Q E->sp vs H Q E):FnOk P w K mg base CX k f fd ps sp':=
 ⟨λvs H Q E q=>F.len vs H Q E (h _ _ _ _ q),λA outer s H args us vs Q E hr he hb hv hs=>F.run A outer s H args us vs Q E hr he hb hv (h _ _ _ _ hs)⟩
theorem Env0.in1{P:Bn}{w:By}{K:Aj}{mg:Str->Option Ag}{base:Heap}{A:Bt}{outer:List Env}{s:Ai}{H:Hp}(e:Env0 P w K mg base A outer s H):
  Env0 P w K mg base A.in1 outer s H:=⟨e.frames,e.mod,e.bs,e.bsz,e.funs,e.frf,e.hok,e.bare⟩
section
variable{X:Cx}{pins:List (Addr×Obj)}{σ:St}{H:Hp}{s s':Ai}
theorem Inv.env0(I:Inv X pins σ H s):Env0 X.prog X.w X.K X.mg X.base X.A X.stack s H:=
 ⟨I.ok.frames,I.ok.mod,I.bs,B7 I.ok.bsz I.sz,I.stack,I.stkFree,I.hok,I.bare⟩
theorem Inv.after{Q:VK}{u:Ag}(I:Inv X pins σ H s)(h:CE X.stack X.prog X.w H s Q u s'):EP X pins σ Q u s':=by
 obtain⟨v,H',os,bare,un,hok,r,q⟩:=h;obtain⟨hh,g,d,t,os'⟩:=s';obtain rfl:os'=s.os:=os;exact⟨v,H',I.call (h':=hh) (g':=g) (d':=d) (t':=t) (ch:=[]) un hok bare (λb z=>absurd z (by simp)),r,q⟩
end
def gT(sp:Sp)(dvs:List V)(E:XK)(t:TA):TE:=λσ H Q=>t σ H λvs H1=>sp (vs++dvs) H1 Q E
def Binds(K:Aj)(fd:C7)(ps:List Str)(ds:List Ag):Prop:=
 ∀(s:Ai)(us:List Ag),K.In s.heap->(us++ds).length=ps.length->BindsTo s fd ⟨us,[]⟩ (ps.zip (us++ds))
theorem Binds.all{K:Aj}{fd:C7}{ps:List Str}(h:∀us:List Ag,us.length=ps.length->bindArgs fd ⟨us,[]⟩=pure (ps.zip us)):Binds K fd ps []:=λs us _ hl=>by
 rw[Bv]at hl ⊢;exact .of_eq (h us hl)
def pF(CX:gm)(X:Cx)(E:XK):Prop:=∀(pins:List (Addr×Obj))(σ:St)(H:Hp)(s:Ai)(e:Ag)(s':Ai),Inv X pins σ H s->CX X.stack H s E e s'->X.xe e s'
section
variable{X:Cx}{CX:gm}{k:Nat}{f C:Addr}{fd:C7}{ps:List Str}{sp:Sp}{dvs:List V}{ds:List Ag}{E:XK}{x m:Str}{p pos apos:Pos}{e o:Expr}{es:List Expr}{ta:TE}{t:TA}
theorem Ju{pins:List (Addr×Obj)}{σ:St}{H:Hp}{s:Ai}{Q:VK}{us:List Ag}{vs:List V}(F:FnOk X.prog X.w X.K X.mg X.base CX k f fd ps sp)(hr:Room k X.A)(hb:Binds X.K fd ps ds)(hd:Vals dvs ds)(hx:pF CX X E)
  (I:Inv X pins σ H s) (r:Vals vs us) (h:sp (vs++dvs) H Q E):Av (A7 X.prog X.w) X.A (call (.ref f) us) (EP X pins σ Q) X.xe s:=by
 have r2:Vals (vs++dvs) (us++ds):=r.append hd;have hl:(us++ds).length=ps.length:=by rw[<-r2.length];exact F.len _ _ _ _ h
 refine wpAny_call (Fx (F.run X.A X.stack s H ⟨us,[]⟩ (us++ds) (vs++dvs) Q E hr I.env0 (hb s us I.kIn hl) r2 h) λr s' hq=>?_);cases r with
 |error e=>exact hx pins σ H s e s' I hq
 |ok fl=>
  cases fl with
  |ret u=>exact I.after hq
  |next=>exact False.elim hq
  |brk=>exact False.elim hq
  |cont=>exact False.elim hq
theorem qo(F:FnOk X.prog X.w X.K X.mg X.base CX k f fd ps sp)(hr:Room k X.A)(hg:Gl X x)(hm:X.mg x=ae (.ref f))(hk:Di X.K (.ref f)=ah)(hb:Binds X.K fd ps ds)(hd:Vals dvs ds)(hx:pF CX X E)
  (ha:PA X (e::es) t) (hdb:(x==("__debug__":Str))=ai:=by decide) (he:Aw (e::es) X.env=(ai,eval e X.env)::Aw es X.env:=by rfl) (hpl:(D2 pos (Aw es X.env)).any (·.1)=ai:=by rfl):
  PE X (.Call (.Name x p) (e::es) [] pos) (gT sp dvs E t):=by
 intro pins s σ H Q I h;refine Hw (sA I hg hm ?_ hdb);refine PySem.W.callWith_K (h₀:=X.base) I.ok.mod.kin hk (aT (ha pos pins s σ H _ I h) λus s1 ⟨vs,H1,I1,r,q⟩=>⟨I1.kIn,?_⟩) he hpl;exact Ju F hr hb hd hx I1 r q
end
structure FnScope(N P:List Str)(sc:Fu):Prop where
 kind:sc.kind=.function
 co:sc.isCoroutine=ai
 gen:sc.isGenerator=ai
 nd:N.Nodup
 pre:N.take P.length=P
 par:∀x∈P,sc.names.lookup x=ae .local\/sc.names.lookup x=ae .cell
 nofree:∀y∈sc.names,y.2≠.free
theorem uv{kindOf:Str->Option NameKind}{x:Str}:∀{binds:List (Str×Ag)}{m:Str->Option Ag},(∀v,(x,v)∉binds)->bindL kindOf binds m x=m x
 |[],_,_=>rfl
 | (n,v)::r,m,h=>by
  unfold bindL;rw[uv λw hw=>h w (Ar _ hw)]
  split
  ·have:x≠n:=by rintro rfl;exact h v Am
   simp[this]
  ·rfl
theorem uR{kindOf:Str->Option NameKind}{x:Str}:∀{binds:List (Str×Ag)}{m:Str->Option Ag},(∀v,(x,v)∉binds)->bindC kindOf binds m x=m x
 |[],_,_=>rfl
 | (n,v)::r,m,h=>by
  unfold bindC;rw[uR λw hw=>h w (Ar _ hw)]
  split
  ·rfl
  ·have:x≠n:=by rintro rfl;exact h v Am
   simp[this]
theorem xV{kindOf:Str->Option NameKind}{x:Str}{v:Ag}:∀{P:List Str}{vs:List Ag}{i:Nat}{m:Str->Option Ag},P.Nodup->P[i]?=ae x->vs[i]?=ae v->kindOf x=ae .local->
  bindL kindOf (P.zip vs) m x=ae v
 |[],_,_,_,_,h,_,_=>by simp at h
 |_::_,[],_,_,_,_,h,_=>by simp at h
 |p::P,w::vs,0,m,nd,h1,h2,hk=>by
  simp at h1 h2;subst h1;subst h2;show bindL kindOf ((p,w)::P.zip vs) m p=_;unfold bindL;rw[uv λv hv=>(Ek.mp nd).1 (Gn hv).1,if_pos hk];simp
 |p::P,w::vs,i+1,m,nd,h1,h2,hk=>by
  show bindL kindOf ((p,w)::P.zip vs) m x=_;unfold bindL;exact xV (i:=i) (Ek.mp nd).2 (by simpa using h1) (by simpa using h2) hk
theorem zD{kindOf:Str->Option NameKind}{x:Str}{v:Ag}:∀{P:List Str}{vs:List Ag}{i:Nat}{m:Str->Option Ag},P.Nodup->P[i]?=ae x->vs[i]?=ae v->kindOf x≠ae .local->
  bindC kindOf (P.zip vs) m x=ae v
 |[],_,_,_,_,h,_,_=>by simp at h
 |_::_,[],_,_,_,_,h,_=>by simp at h
 |p::P,w::vs,0,m,nd,h1,h2,hk=>by
  simp at h1 h2;subst h1;subst h2;show bindC kindOf ((p,w)::P.zip vs) m p=_;unfold bindC;rw[uR λv hv=>(Ek.mp nd).1 (Gn hv).1,if_neg hk];simp
 |p::P,w::vs,i+1,m,nd,h1,h2,hk=>by
  show bindC kindOf ((p,w)::P.zip vs) m x=_;unfold bindC;exact zD (i:=i) (Ek.mp nd).2 (by simpa using h1) (by simpa using h2) hk
def start(N:List Str)(vs:List V):St:=vs.map ae++D4 (N.length-vs.length) af
def c7(CX:gm)(P:Bn)(w:By)(K:Aj)(mg:Str->Option Ag)(base:Heap)(N:List Str)(qual:Str)(scope:Fu)(f:Addr)(cd:Ag)(A:Bt)(outer:List Env)(s:Ai)(H:Hp)(E:XK):Cx where
 prog:=P
 w:=w
 K:=K
 mg:=mg
 base:=base
 A:=A.deeper (envOfC qual scope s.heap.objs.size f cd)
 N:=N
 s₀:=s
 H₀:=H
 env:=envOfC qual scope s.heap.objs.size f cd
 outer:=outer
 stack:=envOfC qual scope s.heap.objs.size f cd::outer
 ex:=[]
 calm:=ah
 fn:=λ_=>ah
 pn:=[]
 xe:=λe s'=>Av (A7 P w) (A.deeper (envOfC qual scope s.heap.objs.size f cd)) (leaving (envOfC qual scope s.heap.objs.size f cd) e) (λ_ s''=>CX outer H s E e s'') (λe' s''=>CX outer H s E e' s'') s'
theorem v3{sc:Fu}{n:Nat}{x:Str}(h:sc.names.lookup x=ae .cell):∃c,(cellsFrom n sc.names []).lookup x=ae c:=by
 have q:=PySem.W.cellsFrom_some sc.names n [] (.inl h);exact Hv.mp q
theorem HX{CX:gm}{P:Bn}{w:By}{K:Aj}{mg:Str->Option Ag}{base:Heap}{N ps:List Str}{qual:Str}{scope:Fu}{f:Addr}{cd:Ag}{A:Bt}{outer:List Env}{s s1:Ai}{H:Hp}{E:XK}{us:List Ag}{vs:List V}
  (S:FnScope N ps scope) (hd:A.handled=af) (e0:Env0 P w K mg base A outer s H) (hl:vs.length=ps.length) (r:Vals vs us)
  (x:InCallC s s.heap.objs.size (bindL (envOfC qual scope s.heap.objs.size f cd).kindOf (ps.zip us) λ_=>af) (cellsFrom (s.heap.objs.size+1) scope.names []) (bindC (envOfC qual scope s.heap.objs.size f cd).kindOf (ps.zip us) λ_=>af) s1):
  Inv (c7 CX P w K mg base N qual scope f cd A outer s H E) [] (start N vs) H s1:=by
 have hpl:ps.length<=N.length:=by have:=congrArg List.length S.pre;rw[C4]at this;omega
 obtain⟨h1,tk,rfl,hk⟩:=x.done;have noA:∀b:Addr,b∉(c7 CX P w K mg base N qual scope f cd A outer s H E).ex:=λb z=>absurd (show b∈([]:List Addr)from z) (by simp);refine⟨⟨e0.mod,S.kind,rfl,rfl,Aq _,λy z c h1 h2=>?_,λy hy=>?_,λy c _ h=>?_,λ_=>hd,Around.frames_deeper e0.frames,.inr ⟨rfl,rfl⟩,λb z=>absurd z (noA b),e0.bs,e0.bsz,λb _ _=>noA b,λb z=>absurd z (noA b),e0.funs,e0.frf⟩,
  rfl,e0.bare,Un.kept hk,⟨_,x.toInCall.ns,λi y v h1 h2 h3=>?_⟩,λy c h=>⟨_,x.cell y c h⟩,e0.hok.fresh (Aq _),λy c h=>?_,λp hp=>absurd (show p∈([]:List (Addr×Obj))from hp) (by simp),e0.hok.kept hk,?_⟩
 ·exact name_of_addr x.apart (F7 h1) (F7 h2)
 ·have hy:scope.names.lookup y=ae .cell\/scope.names.lookup y=ae .free:=hy;rcases hy with hy|hy
  ·exact v3 hy
  ·exact absurd rfl (S.nofree _ (F7 hy))
 ·exact Gb (x.above y c (F7 h))
 ·have hi:i < vs.length:=by
   unfold start at h2;by_cases hi:i < vs.length
   ·exact hi
   ·rw[Hm (by simpa using hi)]at h2;rw[Ff]at h2
    split at h2<;>cases h2
  have ha:vs[i]?=ae v:=by
   unfold start at h2;rw[Gd (by simpa using hi),A0]at h2;cases e:vs[i]? with
   |none=>rw[e]at h2;cases h2
   |some a=>rw[e]at h2;cases h2;rfl
  obtain⟨u,hu,rv⟩:=r.get ha;have hp:ps[i]?=ae y:=by
   rw[<-S.pre,List.getElem?_take_of_lt ⋯];exact h1
  have ndP:ps.Nodup:=by rw[<-S.pre];exact S.nd.sublist (List.take_sublist _ _)
  refine⟨u,rv,?_⟩;rcases S.par y (B6 hp)with k|k
  ·exact .inl ⟨k,xV ndP hp hu k⟩
  ·obtain⟨c,e⟩:=v3 (n:=s.heap.objs.size+1) k;refine .inr ⟨.inl k,c,e,?_⟩;have q:=x.cell y c e;rw[zD ndP hp hu (by show scope.names.lookup y≠_;rw[k];decide)]at q;exact q
 ·exact e0.hok.fresh (Gb (x.above y c (F7 h)))
 ·unfold start;show _=N.length;rw[Ao,Ad,List.length_replicate];omega
theorem DH{CX:gm}{P:Bn}{w:By}{K:Aj}{mg:Str->Option Ag}{base:Heap}{k:Nat}{f:Addr}{name qual:Str}{params:Arguments}{body:List Stmt}{scope:Fu}{dV kV doc pm cdv ct oc:Ag}{an od:Option Addr}
  {osl:Array (Option Ag)} {N ps:List Str} {sp:Sp} (lk:K.lookup f=ae ⟨oc,od,.func (F0 name qual params body scope dV kV doc pm an cdv ct),osl⟩) (hcd:PySem.W.codeIn K cdv qual=ah) (S:FnScope N ps scope)
  (len:∀vs H Q E,sp vs H Q E->vs.length=ps.length)
  (hbody:∀(A:Bt)(outer:List Env)(s:Ai)(H:Hp)(vs:List V)(Q:VK)(E:XK),Room k (A.deeper (envOfC qual scope s.heap.objs.size f cdv))->sp vs H Q E->
   ∃t,PSs (c7 CX P w K mg base N qual scope f cdv A outer s H E) body t/\t {nx:=λ_ H'=>Q .non H',rt:=Q} (start N vs) H):
  FnOk P w K mg base CX (k+1) f (F0 name qual params body scope dV kV doc pm an cdv ct) ps sp:=by
 refine⟨len,λA outer s H args us vs Q E hr e0 hb r hsp=>?_⟩;have hl:=len _ _ _ _ hsp;have KX:K.In s.heap:=e0.mod.kin.keeps λb o e=>(e0.bs b o e).1;have lim:s.heap.NoLimit:=e0.mod.nolimit.keeps λb o e=>(e0.bs b o e).1;have hkind:∀y∈ps.zip us,scope.names.lookup y.1=ae .local\/(scope.names.lookup y.1=ae .cell/\((cellsFrom (s.heap.objs.size+1) scope.names []).lookup y.1).isSome=ah):=λ⟨n,v⟩ hy=>by
  rcases S.par n (Gn hy).1 with q|q
  ·exact .inl q
  ·exact .inr ⟨q,PySem.W.cellsFrom_some _ _ _ (.inl q)⟩
 refine codeAny_call_function hr.depth (KX _ _ lk) rfl S.co S.gen rfl (PySem.W.codeRec_of KX hcd) (hb _ _ _ _ ?_);refine wpAny_newFunctionEnv_cells S.kind hkind λenv he s1 x=>?_;subst he;refine⟨lim.keeps x.toInCall.keep,codeAny_func ?_⟩;obtain⟨t,ht,hq⟩:=hbody A outer s H vs Q E (hr.deeper _) hsp;have I:Inv (c7 CX P w K mg base N qual scope f cdv A outer s H E) [] (start N vs) H s1:=HX S hr.hd e0 hl r x;refine Dv (ht [] s1 (start N vs) H _ I hq) (λfl s' hs=>?_) λe s' hs=>hs;have fin:∀{σ':St}{H':Hp}{v:V}{u:Ag},Inv (c7 CX P w K mg base N qual scope f cdv A outer s H E) [] σ' H' s'->RelV v u->Q v H'->CE outer P w H s Q u s':=
  λ{σ' H' v u} J rv q=>⟨v,H',J.os,J.bare,J.base,J.hok,rv,q⟩
 cases fl with
 |ret u=>
  obtain⟨v,σ',H',J,rv,q⟩:=hs;exact fin J rv q
 |next=>
  obtain⟨σ',H',J,q⟩:=hs;exact fin (v:=V.non) (u:=Bd) J rfl q
 |brk=>
  obtain⟨_,_,_,q⟩:=hs;exact False.elim q
 |cont=>
  obtain⟨_,_,_,q⟩:=hs;exact False.elim q
section
variable{X:Cx}{x:Str}{p pos:Pos}{e:Expr}{es:List Expr}{t:TA}{id T:String}{r:List V->Hp->VK->Prop}
def eR(r:List V->Hp->VK->Prop)(t:TA):TE:=λσ H Q=>t σ H λvs H1=>r vs H1 Q
theorem iX(hc:CallR X (.builtin id) r)(hg:Gl X x)(hm:X.mg x=af)(hv:Bx x=ae (.builtin id))(ha:PA X (e::es) t)(hn:x≠"__name__":=by decide)(hdb:(x==("__debug__":Str))=ai:=by decide)
  (he:Aw (e::es) X.env=(ai,eval e X.env)::Aw es X.env:=by rfl) (hpl:(D2 pos (Aw es X.env)).any (·.1)=ai:=by rfl):PE X (.Call (.Name x p) (e::es) [] pos) (eR r t):=by
 intro pins s σ H Q I h;refine Hw (jB I hg hm hv ?_ hn hdb);exact PyProof.Rows.callWith_builtin1 (aT (ha pos pins s σ H _ I h) λus s1 ⟨vs,H1,I1,r1,q1⟩=>hc pins s1 σ H1 vs us Q I1 r1 q1) he hpl
theorem kQ(hc:CallR X (.type T) r)(hg:Gl X x)(hm:X.mg x=af)(hv:Bx x=ae (.type T))(ha:PA X (e::es) t)(hn:x≠"__name__":=by decide)(hdb:(x==("__debug__":Str))=ai:=by decide)
  (he:Aw (e::es) X.env=(ai,eval e X.env)::Aw es X.env:=by rfl) (hpl:(D2 pos (Aw es X.env)).any (·.1)=ai:=by rfl):PE X (.Call (.Name x p) (e::es) [] pos) (eR r t):=by
 intro pins s σ H Q I h;refine Hw (jB I hg hm hv ?_ hn hdb);exact Fi (aT (ha pos pins s σ H _ I h) λus s1 ⟨vs,H1,I1,r1,q1⟩=>hc pins s1 σ H1 vs us Q I1 r1 q1) he hpl
end
end L2
namespace HT
open PySem PyProof.Rows
section
variable{prog:Bn}{w:By}{A:Bt}{E:Ag->Ai->Prop}{s:Ai}
theorem cat_tup{t b:Addr}{vs ws:List Ag}{Q:Ag->Ai->Prop}(ht:IsTup s.heap t vs.toArray)(hb:IsTup s.heap b ws.toArray)(hv:vs≠[])
  (h1:ws=[]->Q (.ref t) s) (h2:ws≠[]->Q (.ref s.heap.objs.size) {s with heap:=s.heap.push {cls:=.type "tuple",data:=.seq (vs++ws).toArray}})
  (hsz:vs.length+ws.length<=A2):Av (A7 prog w) A (Fp .Add (.ref t) (.ref b)) Q E s:=by
 obtain⟨⟨cls,dd,data,sl⟩,ho,hc,n,hd⟩:=id ht;obtain⟨⟨cls2,dd2,data2,sl2⟩,ho2,hc2,n2,hd2⟩:=id hb;simp only at hc hd hc2 hd2;subst hc hd hc2 hd2;have e:vs.toArray++ws.toArray=(vs++ws).toArray:=by simp
 by_cases hw:ws=[]
 ·exact concat_meets ⟨_,ho,rfl⟩ ⟨_,ho2,rfl⟩ noFill_tuple_add seq_tuple_add Gs Gk (F9 _ _)
   (tuple_addW1 t b vs.toArray ws.toArray n n2 dd dd2 sl sl2 (by simpa using hv) (by simp[hw])) ⟨ho,ho2,h1 hw⟩
 ·refine concat_meets ⟨_,ho,rfl⟩ ⟨_,ho2,rfl⟩ noFill_tuple_add seq_tuple_add Gs Gk (F9 _ _)
   (tuple_addW2 t b vs.toArray ws.toArray n n2 dd dd2 sl sl2 (by simpa using hv) (by simpa using hw) (by rw[Ap,Ap];exact hsz)) ⟨ho,ho2,?_⟩
  rw[e];exact h2 hw
def sIx(n d:Nat):Option Int->Nat
 |none=>d
 |some v=>if v < 0 then(v+(n:Int)).toNat else min v.toNat n
theorem sIx_none(n d:Nat):sIx n d af=d:=rfl
theorem sIx_nat(n d k:Nat):sIx n d (ae (k:Int))=min k n:=by
 show(if (k:Int) < 0 then((k:Int)+(n:Int)).toNat else min (k:Int).toNat n)=min k n;rw[if_neg ⋯,B9]
theorem JE(n d:Nat)(hd:d<=n)(o:Option Int):sIx n d o<=n:=by
 cases o with
 |none=>exact hd
 |some v=>
  show(if v < 0 then(v+(n:Int)).toNat else min v.toNat n)<=n;by_cases hv:v < 0
  ·rw[if_pos hv];omega
  ·rw[if_neg hv];exact Nat.min_le_right _ _
theorem xn(v:Int)(n d:Nat):(if v < 0 then max (v+(n:Int)) 0 else min v (n:Int))=((sIx n d (ae v):Nat):Int):=by
 show(if v < 0 then max (v+(n:Int)) 0 else min v (n:Int))=(((if v < 0 then(v+(n:Int)).toNat else min v.toNat n):Nat):Int);by_cases hv:v < 0
 ·simp only[if_pos hv];omega
 ·simp only[if_neg hv];omega
theorem Mk(lo hi:Option Int)(n:Nat):D1 lo hi 1 (n:Int)=(((sIx n 0 lo:Nat):Int),((sIx n n hi:Nat):Int)):=by
 have h1:¬((1:Int) < 0):=by omega
 unfold D1;simp only[h1,if_false];refine Prod.ext ?_ ?_
 ·cases lo with
  |none=>rfl
  |some v=>exact xn v n 0
 ·cases hi with
  |none=>rfl
  |some v=>exact xn v n n
theorem AV(i j:Nat):C3 (i:Int) (j:Int) 1=j-i:=by
 unfold C3;have h1:(1:Int) > 0:=by omega
 simp only[h1,if_true,Int.ediv_one]
 split<;>omega
theorem xl{v:Ag}{o:Option Int}{Q:Option Int->Ai->Prop}(p:IsPart v o)(h:Q o s):Av (A7 prog w) A (Builtin.Slice.slicePartIndex v) Q E s:=by
 cases p with
 |none=>exact slicePart_none h
 |int i t=>exact slicePart_int h
theorem u7{sl:Addr}{vl vu:Ag}{lo hi:Option Int}{n:Nat}{Q:Int×Int×Nat->Ai->Prop}(hs:s.heap.IsSliceOf sl vl vu .none)(pl:IsPart vl lo)(pu:IsPart vu hi)
  (h:Q (((sIx n 0 lo:Nat):Int),1,sIx n n hi-sIx n 0 lo) s):Av (A7 prog w) A (Fn (.ref sl) (pure (n:Int))) Q E s:=by
 obtain⟨os,hos,hcs,hds⟩:=id hs;unfold Fn Builtin.Slice.sliceFields;refine Aa (Aa (Cu hos hds (x:=vl) rfl (Aa (Cu hos hds (x:=vu) rfl (Aa (Cu hos hds (x:=.none) rfl (Af ?_)))))));refine Aa (slicePart_none ?_);show Av _ _ (if ((1:Int)==0)=ah then _ else _) _ _ s;rw[if_neg ∎];refine Aa (xl pl (Aa (xl pu (Aa (Af ?_)))));show Av _ _ (match D1 lo hi 1 (n:Int)with|(lo,hi)=>pure (lo,(1:Int),C3 lo hi 1)) _ _ s;rw[Mk lo hi n];show Av _ _ (pure (((sIx n 0 lo:Nat):Int),(1:Int),C3 ((sIx n 0 lo:Nat):Int) ((sIx n n hi:Nat):Int) 1)) _ _ s;rw[AV];exact Af h
theorem K8(xs:Array Ag)(i k:Nat):((Bh k).filterMap λ(m:Nat)=>xs[((i:Int)+(m:Int)*1).toNat]?).toArray=((xs.toList.drop i).take k).toArray:=by
 have e:(λ(m:Nat)=>xs[((i:Int)+(m:Int)*1).toNat]?)=λm=>xs[i+m]?:=by
  funext m
  have:((i:Int)+(m:Int)*1).toNat=i+m:=by omega
  rw[this]
 rw[e];have:=pick_run xs i k;rw[List.filterMap_map]at this;have e2:((λx=>xs[x]?) ∘ λx=>i+x)=λm=>xs[i+m]?:=rfl;rw[e2]at this;rw[this]
theorem getItem_tuple_cut{t sl:Addr}{items:Array Ag}{vl vu:Ag}{lo hi:Option Int}{Q:Ag->Ai->Prop}(ht:IsTup s.heap t items)(hs:s.heap.IsSliceOf sl vl vu .none)(pl:IsPart vl lo)(pu:IsPart vu hi)
  (hw:¬(sIx items.size 0 lo=0/\sIx items.size items.size hi=items.size))
  (h:Q (.ref s.heap.objs.size) {s with heap:=s.heap.push {cls:=.type "tuple",data:=.seq ((items.toList.drop (sIx items.size 0 lo)).take (sIx items.size items.size hi-sIx items.size 0 lo)).toArray}})
  (hsz:items.size<=A2):Av (A7 prog w) A (getItem (.ref t) (.ref sl)) Q E s:=by
 have htake:sizeOk (.seq ((items.toList.drop (sIx items.size 0 lo)).take (sIx items.size items.size hi-sIx items.size 0 lo)).toArray):=by
  show((items.toList.drop (sIx items.size 0 lo)).take (sIx items.size items.size hi-sIx items.size 0 lo)).toArray.size<=A2;rw[Ap,C4,Dm,Az];omega
 have hj:sIx items.size items.size hi<=items.size:=JE _ _ (Aq _) hi;obtain⟨os,hos,hcs,hds⟩:=id hs;have hTs:s.TypeIs (.ref sl) "slice":=⟨os,hos,hcs⟩;unfold getItem
 try with_reducible refine Cg ?_
 first|refine Aa (Af ?_)|skip
 refine Aa (wpAny_sequenceKey ht.typeIs ∎ ?_);refine Aa (Bz (name:=C0 "__getitem__") ht.typeIs Dd
  (Ca Dd ht.typeIs entry_tuple_getitem ?_ (args_tuple_getitem _ _)))
 show Av _ _ (Fm (.ref t)>>=_) _ _ s;refine Aa (tupleItemsOf_ ht ?_);refine Aa (Ez hTs ?_);rw[if_pos ∎];refine Aa (u7 hs pl pu ?_);have hno:¬((((sIx items.size 0 lo:Nat):Int)==0&&(1:Int)==1&&(sIx items.size items.size hi-sIx items.size 0 lo)==items.size)=ah):=by
  intro q;rw[Ay,Ay]at q;have q1:((sIx items.size 0 lo:Nat):Int)=0:=eq_of_beq q.1.1;have q2:sIx items.size items.size hi-sIx items.size 0 lo=items.size:=eq_of_beq q.2;exact hw ⟨by omega,by omega⟩
 show Av _ _ (if (((sIx items.size 0 lo:Nat):Int)==0&&(1:Int)==1&&(sIx items.size items.size hi-sIx items.size 0 lo)==items.size)=ah then _ else _) _ _ s;rw[if_neg hno,K8]
 first
  |exact Aa (m:=C8 _) (Bq (Af ⟨_,rfl,Af h⟩) htake)
  |exact Aa (m:=C8 _) (Bq (Aa (Af (Af ⟨_,rfl,Af h⟩))) htake)
  |exact Aa (Aa (m:=C8 _) (Bq (Af (Af ⟨_,rfl,Af h⟩)) htake))
  |exact Aa (Aa (m:=C8 _) (Bq (Af ⟨_,rfl,Af h⟩) htake))
end
end HT
namespace L2
open PySem PySem.Spec PyProof.Rows
abbrev TO:=St->Hp->(Option Int->Hp->Prop)->Prop
def PO(X:Cx)(e:Option Expr)(t:TO):Prop:=
 ∀(pins:List (Addr×Obj))(s:Ai)(σ:St)(H:Hp)(Q:Option Int->Hp->Prop),Inv X pins σ H s->t σ H Q->
  Av (A7 X.prog X.w) X.A (evalPart e X.env) (λu s'=>∃o H',Inv X pins σ H' s'/\IsPart u o/\Q o H') X.xe s
def tV:TO:=λ_ H Q=>Q af H
def tQ(t:TE):TO:=λσ H Q=>t σ H λx H1=>∃i,x=.int i/\Q (ae i) H1
section
variable{X:Cx}{e:Expr}{te:TE}{lo hi:Option Expr}{tl th:TO}{pos p2:Pos}
theorem vc:PO X af tV:=by
 intro pins s σ H Q I h;rw[evalPart_none];exact Af ⟨af,H,I,.none,h⟩
theorem uP(h:PE X e te):PO X (ae e) (tQ te):=by
 intro pins s σ H Q I hw;rw[evalPart_some];refine aT (h pins s σ H _ I hw) λu s1 ⟨x,H1,I1,r1,q1⟩=>?_;obtain⟨i,rfl,q⟩:=q1;obtain⟨t,rfl⟩:=r1;exact⟨ae i,H1,I1,.int i t,q⟩
def SlR(X:Cx)(r:V->Option Int->Option Int->Hp->VK->Prop):Prop:=
 ∀(pins:List (Addr×Obj))(s:Ai)(σ:St)(H:Hp)(x:V)(v vl vu:Ag)(lo hi:Option Int)(sl:Addr)(Q:VK),Inv X pins σ H s->RelV x v->s.heap.IsSliceOf sl vl vu .none->IsPart vl lo->IsPart vu hi->r x lo hi H Q->
  ∃T id,typeLookup (.type T) "__getitem__"=pure (ae (.builtin id))/\s.TypeIs v T/\Av (A7 X.prog X.w) X.A (getItem v (.ref sl)) (EP X pins σ Q) X.xe s
theorem SlR.or{r r':V->Option Int->Option Int->Hp->VK->Prop}(h:SlR X r)(h':SlR X r'):SlR X (λx lo hi H Q=>r x lo hi H Q\/r' x lo hi H Q):=by
 intro pins s σ H x v vl vu lo hi sl Q I rx hs pl pu q;rcases q with q|q
 ·exact h pins s σ H x v vl vu lo hi sl Q I rx hs pl pu q
 ·exact h' pins s σ H x v vl vu lo hi sl Q I rx hs pl pu q
def tM(r:V->Option Int->Option Int->Hp->VK->Prop)(te:TE)(tl th:TO):TE:=λσ H Q=>te σ H λx H1=>tl σ H1 λl H2=>th σ H2 λu H3=>r x l u H3 Q
theorem wX{r:V->Option Int->Option Int->Hp->VK->Prop}(hr:SlR X r)(he:PE X e te)(hl:PO X lo tl)(hu:PO X hi th):PE X (.Subscript e (.Slice lo hi af p2) pos) (tM r te tl th):=by
 intro pins s σ H Q I h;refine Subscript_ (aT (he pins s σ H _ I h) λv s1 ⟨x,H1,I1,r1,q1⟩=>?_);refine wpAny_Slice (aT (hl pins s1 σ H1 _ I1 q1) λvl s2 ⟨l,H2,I2,pl,q2⟩=>aT (hu pins s2 σ H2 _ I2 q2) λvu s3 ⟨u,H3,I3,pu,q3⟩=>?_);rw[evalPart_none];refine Af ?_;have I4:Inv X pins σ H3 {s3 with heap:=s3.heap.push {cls:=.type "slice",data:=.fields #[vl,vu,.none]}}:=I3.kept (t':=s3.toks) λb ob q=>Ae _ q;obtain⟨T,id,hT,ht,hg⟩:=hr pins {s3 with heap:=s3.heap.push {cls:=.type "slice",data:=.fields #[vl,vu,.none]}} σ H3 x v vl vu l u s3.heap.objs.size Q I4 r1 (Heap.IsSliceOf.new ..) pl pu q3;show Av (A7 X.prog X.w) X.A (subscriptTail e (.Slice lo hi af p2) v (.ref s3.heap.objs.size)) (EP X pins σ Q) X.xe {s3 with heap:=s3.heap.push {cls:=.type "slice",data:=.fields #[vl,vu,.none]}};exact tail_any (ops:=[.ref s3.heap.objs.size,v]) ht hT hg (by with_unfolding_all rfl)
def d7(xs:List V)(lo hi:Option Int):List V:=(xs.drop (HT.sIx xs.length 0 lo)).take (HT.sIx xs.length xs.length hi-HT.sIx xs.length 0 lo)
theorem rj(xs:List V)(lo hi:Option Int):(d7 xs lo hi).length<=xs.length:=by
 unfold d7;rw[C4,Dm];omega
def lP(K:Aj):V->Option Int->Option Int->Hp->VK->Prop:=λx lo hi H Q=>∃a xs,x=.ref a/\SqT K H a xs /\
 ¬(HT.sIx xs.length 0 lo=0/\HT.sIx xs.length xs.length hi=xs.length)/\∀p,H p=af->Q (.ref p) (upd H p (.tup (d7 xs lo hi)))
theorem sl_tup:SlR X (lP X.K):=by
 intro pins s σ H x v vl vu lo hi sl Q I rx hs pl pu h;obtain⟨a,xs,rfl,hx,hw,q⟩:=h;cases rx;obtain⟨its,r,ht,hz⟩:=I.tuple hx;have hlen:its.toArray.size=xs.length:=by rw[Ap];exact r.length.symm
 refine⟨"tuple",_,PyProof.Rows.slot_tuple_getitem.lookup,ht.typeIs,?_⟩;refine HT.getItem_tuple_cut ht hs pl pu (by rw[hlen];exact hw) ?_ (by rw[hlen];exact hz);rw[hlen];refine⟨.ref s.heap.objs.size,_,I.laid (t':=s.toks) (o:=.tup (d7 xs lo hi)) (λb ob q=>Ae _ q) (Aq _) ?_,rfl,q _ (I.hok.fresh (Aq _))⟩;exact⟨B7 (rj xs lo hi) hz,_,(r.drop (HT.sIx xs.length 0 lo)).take (HT.sIx xs.length xs.length hi-HT.sIx xs.length 0 lo),IsTupP.new _ _⟩
def xw(K:Aj):R2:=λx y H Q=>∃a b xs ys,x=.ref a/\y=.ref b/\SqT K H a xs/\SqT K H b ys/\xs≠[]/\xs.length+ys.length<=A2 /\
 (ys=[]->Q (.ref a) H)/\(ys≠[]->∀p,H p=af->Q (.ref p) (upd H p (.tup (xs++ys))))
theorem Vals.nil_iff{xs:List V}{us:List Ag}(r:Vals xs us):us=[]↔xs=[]:=by
 cases r with
 |nil=>simp
 |cons _ _=>simp
theorem op_catT:OpR X (Fp .Add) (xw X.K):=by
 intro pins s σ H x y v u Q I rx ry h;obtain⟨a,b,xs,ys,rfl,rfl,ha,hb,hx,hz,q1,q2⟩:=h;cases rx;cases ry;obtain⟨its,r1,p1,_⟩:=I.tuple ha;obtain⟨its2,r2,p2,_⟩:=I.tuple hb;refine HT.cat_tup p1 p2 (λz=>hx (r1.nil_iff.mp z)) (λz=>⟨.ref a,H,I,rfl,q1 (r2.nil_iff.mp z)⟩) (λz=>?_) (by rw[<-r1.length,<-r2.length];exact hz);refine⟨.ref s.heap.objs.size,_,I.laid (t':=s.toks) (o:=.tup (xs++ys)) (λb ob q=>Ae _ q) (Aq _) ?_,rfl,q2 (λw=>z (r2.nil_iff.mpr w)) _ (I.hok.fresh (Aq _))⟩;exact⟨by rw[Ao];exact hz,_,r1.append r2,IsTupP.new _ _⟩
end
def ic(n:Nat)(i:Int):Option Nat:=if 0<=i then(if i < n then ae i.toNat else af)else if -(n:Int)<=i then ae (i+n).toNat else af
def cM{α:Type}(xs:List α)(i:Int):Option α:=(ic xs.length i).bind λj=>xs[j]?
theorem sX{n:Nat}{i:Int}{j:Nat}(h:ic n i=ae j):seqIndex? i n=ae j/\j < n/\-(n:Int)<=i/\i < n:=by
 unfold ic at h;by_cases h0:0<=i
 ·rw[if_pos h0]at h;by_cases h1:i < n
  ·rw[if_pos h1]at h;have e:i.toNat=j:=Bi h;exact⟨by rw[seqIndex_of h0 h1,e],by omega,by omega,h1⟩
  ·rw[if_neg h1]at h;cases h
 ·rw[if_neg h0]at h;by_cases h1:-(n:Int)<=i
  ·rw[if_pos h1]at h;have e:(i+n).toNat=j:=Bi h;exact⟨by rw[seqIndex_neg ⋯ h1,e],by omega,h1,by omega⟩
  ·rw[if_neg h1]at h;cases h
theorem pI{α:Type}{xs:List α}{i:Int}{v:α}(h:cM xs i=ae v):∃j,seqIndex? i xs.length=ae j/\xs[j]?=ae v/\j < xs.length/\-(xs.length:Int)<=i/\i < xs.length:=by
 unfold cM at h;cases e:ic xs.length i with
 |none=>rw[e]at h;cases h
 |some j=>
  rw[e]at h;obtain⟨h1,h2,h3,h4⟩:=sX e;exact⟨j,h1,h,h2,h3,h4⟩
theorem eE{α:Type}{xs:List α}{j:Nat}{v:α}(h:xs[j]?=ae v):cM xs (j:Int)=ae v:=by
 have hj:j < xs.length:=(Bo.mp h).1;have e:ic xs.length (j:Int)=ae j:=by
  unfold ic;rw[if_pos ⋯,if_pos ⋯];simp
 unfold cM;rw[e];exact h
def nH(b:Expr):Prop:=∀o i,subscripted b ai o i=operate [o,i] (getItem o i)
def IxR(X:Cx)(r:R2):Prop:=
 ∀(value slice:Expr)(pins:List (Addr×Obj))(s:Ai)(σ:St)(H:Hp)(x y:V)(v u:Ag)(Q:VK),Inv X pins σ H s->RelV x v->RelV y u->r x y H Q->
  subscripted slice ai v u=operate [v,u] (getItem v u)->Av (A7 X.prog X.w) X.A (subscriptTail value slice v u) (EP X pins σ Q) X.xe s
def yM(X:Cx)(id:String)(r:V->List V->Hp->VK->Prop):Prop:=
 ∀(pins:List (Addr×Obj))(s:Ai)(σ:St)(H:Hp)(x:V)(xs:List V)(v:Ag)(us:List Ag)(Q:VK),Inv X pins σ H s->RelV x v->Vals xs us->r x xs H Q->
  Av (A7 X.prog X.w) X.A (call (.builtin id) (v::us)) (EP X pins σ Q) X.xe s
section
variable{X:Cx}{a b:Expr}{ta tb:TE}{pos:Pos}
theorem IxR.or{r r':R2}(h:IxR X r)(h':IxR X r'):IxR X (λx y H Q=>r x y H Q\/r' x y H Q):=by
 intro value slice pins s σ H x y v u Q I rx ry q hs;rcases q with q|q
 ·exact h value slice pins s σ H x y v u Q I rx ry q hs
 ·exact h' value slice pins s σ H x y v u Q I rx ry q hs
theorem fY{r:R2}(hr:IxR X r)(ha:PE X a ta)(hb:PE X b tb)(hs:nH b):PE X (.Subscript a b pos) (d4 r ta tb):=by
 intro pins s σ H Q I h;exact Subscript_ (jr ha hb I h λv u s2 x y H2 I2 rx ry q=>hr a b pins s2 σ H2 x y v u Q I2 rx ry q (hs _ _))
def lE(K:Aj):R2:=λx y H Q=>∃p xs i v,x=.ref p/\y=.int i/\SqL K H p xs/\cM xs i=ae v/\Q v H
def me(K:Aj):R2:=λx y H Q=>∃p xs i v,x=.ref p/\y=.int i/\SqT K H p xs/\cM xs i=ae v/\Q v H
def lG:R2:=λx y H Q=>∃z i c,x=.str z/\y=.int i/\z.length<=A2/\cM z.cps.toList i=ae c/\Q (.str ⟨#[c]⟩) H
theorem ix_list:IxR X (lE X.K):=by
 intro value slice pins s σ H x y v u Q I rx ry h hs;obtain⟨p,xs,i,z,rfl,rfl,hq,he,q⟩:=h;cases rx;obtain⟨t,rfl⟩:=ry;obtain⟨its,r,pl,hz⟩:=I.list hq;obtain⟨j,h1,h2,h3,h4,h5⟩:=pI he;obtain⟨w,ew,rw'⟩:=r.get h2;have hl:=r.length;have hn:=kh;have fin:EP X pins σ Q w s:=⟨z,H,I,rw',q⟩;by_cases h0:0<=i
 ·have hj:i.toNat=j:=by
   rw[seqIndex_of h0 h5]at h1;exact Bi h1
  exact item_listR pl.isList h0 ⋯ (by rw[hj];simpa using ew) fin hs
 ·have hj:(i+(its.toArray.size:Int)).toNat=j:=by
   rw[seqIndex_neg ⋯ h4]at h1;rw[Ap,<-hl];exact Bi h1
  exact subscriptTail_builtinR (x:=w) pl.isList.typeIs slot_list_getitem.lookup
   (wpAny_getItem_list_neg (Q:=λr s'=>r=w/\EP X pins σ Q r s') pl.isList ⋯ (by rw[Ap]<;>omega) ⋯ (by rw[hj];simpa using ew) ⟨rfl,fin⟩) hs
theorem ix_tup:IxR X (me X.K):=by
 intro value slice pins s σ H x y v u Q I rx ry h hs;obtain⟨p,xs,i,z,rfl,rfl,hq,he,q⟩:=h;cases rx;obtain⟨t,rfl⟩:=ry;obtain⟨its,r,pl,hz⟩:=I.tuple hq;obtain⟨j,h1,h2,h3,h4,h5⟩:=pI he;obtain⟨w,ew,rw'⟩:=r.get h2;have hl:=r.length;have hn:=kh;have fin:EP X pins σ Q w s:=⟨z,H,I,rw',q⟩;exact subscriptTail_builtinR (x:=w) pl.typeIs slot_tuple_getitem.lookup
  (getItem_tuple (j:=j) (Q:=λr s'=>r=w/\EP X pins σ Q r s') pl ⋯ ⋯ (by rw[Ap,<-hl];exact h1) (by simpa using ew) ⟨rfl,fin⟩) hs
theorem Ma:IxR X lG:=by
 intro value slice pins s σ H x y v u Q I rx ry h hs;obtain⟨z,i,c,rfl,rfl,hz,he,q⟩:=h;obtain⟨t,rfl⟩:=rx;obtain⟨t',rfl⟩:=ry;obtain⟨j,h1,h2,h3,h4,h5⟩:=pI he;have hl:z.cps.toList.length=z.length:=by simp[Str.length]
 rw[hl]at h1 h4 h5;have hn:=kh;exact tail_any (typeIs_str s z t) slot_str_getitem.lookup (getItem_str (c:=c) (by
  have e1:decide (i < -(2 ^ 63:Int))=ai:=decide_eq_false ⋯;have e2:decide (i ≥ 2 ^ 63)=ai:=decide_eq_false ⋯;rw[e1,e2,Bool.or_false]) (by rw[h1];simpa using h2) ⟨.str ⟨#[c]⟩,H,I.tok _,⟨_,rfl⟩,q⟩) hs
def jm(K:Aj):R2:=λx y H Q=>lE K x y H Q\/me K x y H Q\/lG x y H Q
theorem r8:IxR X (jm X.K):=ix_list.or (ix_tup.or Ma)
theorem BQ(its:List Ag)(n j:Nat)(u:Ag):B5 (·.setIfInBounds j u) {cls:=.type "list",data:=.seq its.toArray n}={ cls:=.type "list",data:=.seq (its.set j u).toArray n}:=by
 simp[B5]
theorem Inv.lst{pins:List (Addr×Obj)}{σ:St}{H:Hp}{s:Ai}{p:Addr}{xs:List V}(I:Inv X pins σ H s)(h:H p=ae (.lst xs)):
  ∃(its:List Ag)(n:Nat),Vals xs its/\s.heap.get? p=ae {cls:=.type "list",data:=.seq its.toArray n}/\xs.length<=A2:=by
 obtain⟨z,its,n,r,e⟩:=I.hok p _ h;exact⟨its,n,r,e,z⟩
theorem Inv.lstUpd{pins:List (Addr×Obj)}{σ:St}{H:Hp}{s:Ai}{p:Addr}{xs ys:List V}{its its':List Ag}{n n':Nat}{f:Obj->Obj}(I:Inv X pins σ H s)(h:H p=ae (.lst xs))
  (ho:s.heap.get? p=ae {cls:=.type "list",data:=.seq its.toArray n}) (hf:f {cls:=.type "list",data:=.seq its.toArray n}={ cls:=.type "list",data:=.seq its'.toArray n'}) (r:Vals ys its') (hz:ys.length<=A2) (t:Nat):
  Inv X pins σ (upd H p (.lst ys)) {s with heap:=s.heap.update p f,toks:=t}:=by
 have e:(s.heap.update p f).get? p=ae {cls:=.type "list",data:=.seq its'.toArray n'}:=by
  rw[B1 f ho (by rw[hf]<;>rfl),hf]
 refine I.write (x:=p) (e:=p) (by rw[h];trivial) (.inl rfl) (λb u hb q=>(D5 _ _ (Ne.symm hb)).trans q) ⟨_,e⟩ ?_;exact⟨hz,its',n',r,e⟩
def ue:V->V->V->Hp->(Hp->Prop)->Prop:=λo i v H Q=>∃p xs k j,o=.ref p/\i=.int k/\H p=ae (.lst xs)/\ic xs.length k=ae j/\Q (upd H p (.lst (xs.set j v)))
theorem nE:l5 X ue:=by
 intro pins s σ H o i v ov iv u Q I ro ri rv h;obtain⟨p,xs,k,j,rfl,rfl,hp,hj,q⟩:=h;cases ro;obtain⟨t,rfl⟩:=ri;obtain⟨its,n,r,ho,hz⟩:=I.lst hp;obtain⟨h1,h2,h3,h4⟩:=sX hj;have hl:=r.length;have hn:=kh;have I':Inv X pins σ (upd H p (.lst (xs.set j v))) {s with heap:=s.heap.update p (B5 (·.setIfInBounds j u))}:=
  I.lstUpd hp ho (BQ its n j u) (r.set rv j) (by rw[D6];exact hz) s.toks
 by_cases h0:0<=k
 ·have hk:k.toNat=j:=by
   rw[seqIndex_of h0 h4]at h1;exact Bi h1
  exact PySem.W.ki_setAt ho h0 ⋯ (by rw[Ap,<-hl];exact h4) (by rw[hk];exact⟨_,I',q⟩)
 ·have hk:(k+(its.toArray.size:Int)).toNat=j:=by
   rw[seqIndex_neg ⋯ h3]at h1;rw[Ap,<-hl];exact Bi h1
  exact PySem.W.ki_setBack ho ⋯ (by rw[Ap,<-hl];exact h3) ⋯ (by rw[hk];exact⟨_,I',q⟩)
theorem CB(lo hi:Option Int)(n:Nat):(Hj lo hi af n).1=((HT.sIx n 0 lo:Nat):Int)/\(Hj lo hi af n).2.1=((HT.sIx n n hi:Nat):Int)/\(Hj lo hi af n).2.2=1:=by
 refine⟨?_,?_,rfl⟩
 ·cases lo with
  |none=>simp[Hj,HT.sIx]
  |some i=>
   simp only[Hj,HT.sIx,Option.getD_none,show(1:Int) > 0 by decide,if_true];by_cases h:i < 0
   ·simp only[h,if_true]<;>omega
   ·simp only[h,if_false]<;>omega
 ·cases hi with
  |none=>simp[Hj,HT.sIx]
  |some i=>
   simp only[Hj,HT.sIx,Option.getD_none,show(1:Int) > 0 by decide,if_true];by_cases h:i < 0
   ·simp only[h,if_true]<;>omega
   ·simp only[h,if_false]<;>omega
theorem Jx(its:List Ag)(lo hi:Option Int):slicePick its.toArray lo hi af=((its.drop (HT.sIx its.length 0 lo)).take (HT.sIx its.length its.length hi-HT.sIx its.length 0 lo)).toArray:=by
 obtain⟨h1,h2,h3⟩:=CB lo hi its.toArray.size;unfold slicePick;rw[h1,h2,h3];simp only[sliceRange_one,pick_run,Ap]<;>rfl
def sr(K:Aj):V->Option Int->Option Int->Hp->VK->Prop:=λx lo hi H Q=>∃a xs,x=.ref a/\SqL K H a xs/\∀p,H p=af->Q (.ref p) (upd H p (.lst (d7 xs lo hi)))
theorem LR:SlR X (sr X.K):=by
 intro pins s σ H x v vl vu lo hi sl Q I rx hs pl pu h;obtain⟨a,xs,rfl,hx,q⟩:=h;cases rx;obtain⟨its,r,ht,hz⟩:=I.list hx;have hlen:=r.length;refine⟨"list",_,slot_list_getitem.lookup,ht.isList.typeIs,?_⟩;refine wpAny_getItem_list_slice ht.isList hs pl pu .none (by simp) ?_ (by rw[Ap]<;>omega);rw[Jx,<-hlen];refine⟨.ref s.heap.objs.size,_,I.laid (t':=s.toks) (o:=.lst (d7 xs lo hi)) (λb ob q=>Ae _ q) (Aq _) ?_,rfl,q _ (I.hok.fresh (Aq _))⟩;exact⟨B7 (rj xs lo hi) hz,_,0,(r.drop (HT.sIx xs.length 0 lo)).take (HT.sIx xs.length xs.length hi-HT.sIx xs.length 0 lo),As _ rfl⟩
def gR:V->Bool
 |.non=>ah
 |.bl _=>ah
 |.int _=>ah
 |.str _=>ah
 |_=>ai
def iz:V->V->Bool
 |.non,.non=>ah
 |.bl a,.bl b=>a==b
 |.bl a,.int b=>(if a then 1 else 0)==b
 |.int a,.bl b=>a==(if b then 1 else 0)
 |.int a,.int b=>a==b
 |.str a,.str b=>a==b
 |_,_=>ai
theorem GS{A:Bt}{s:Ai}{y x:V}{u v:Ag}(ry:RelV y u)(rx:RelV x v)(fy:gR y=ah)(fx:gR x=ah):SeqAt.EqAt A s u v (iz y x):=by
 cases y with
 |non=>
  cases ry;cases x with
  |non=>cases rx;exact SeqAt.EqAt.same _
  |bl b=>cases rx;exact SeqAt.EqAt.none_bool b
  |int b=>obtain⟨t,rfl⟩:=rx;exact SeqAt.EqAt.none_int b t
  |str b=>obtain⟨t,rfl⟩:=rx;exact SeqAt.EqAt.none_str b t
  |_=>exact absurd (show ai=ah from fx) Au
 |bl a=>
  cases ry;cases x with
  |non=>cases rx;exact SeqAt.EqAt.bool_none a
  |bl b=>cases rx;exact SeqAt.EqAt.bool_bool a b
  |int b=>obtain⟨t,rfl⟩:=rx;exact SeqAt.EqAt.bool_int a b t
  |str b=>obtain⟨t,rfl⟩:=rx;exact SeqAt.EqAt.bool_str a b t
  |_=>exact absurd (show ai=ah from fx) Au
 |int a=>
  obtain⟨t',rfl⟩:=ry;cases x with
  |non=>cases rx;exact SeqAt.EqAt.int_none a t'
  |bl b=>cases rx;exact SeqAt.EqAt.int_bool a t' b
  |int b=>obtain⟨t,rfl⟩:=rx;exact SeqAt.EqAt.int_int a t' b t
  |str b=>obtain⟨t,rfl⟩:=rx;exact SeqAt.EqAt.int_str a t' b t
  |_=>exact absurd (show ai=ah from fx) Au
 |str a=>
  obtain⟨t',rfl⟩:=ry;cases x with
  |non=>cases rx;exact SeqAt.EqAt.str_none a t'
  |bl b=>cases rx;exact SeqAt.EqAt.str_bool a t' b
  |int b=>obtain⟨t,rfl⟩:=rx;exact SeqAt.EqAt.str_int a t' b t
  |str b=>obtain⟨t,rfl⟩:=rx;exact SeqAt.EqAt.str_str a t' b t
  |_=>exact absurd (show ai=ah from fx) Au
 |_=>exact absurd (show ai=ah from fy) Au
def ff(x:V)(u:Ag):Bool:=match u with
 |.none=>iz .non x
 |.bool b=>iz (.bl b) x
 |.int i _=>iz (.int i) x
 |.str z _=>iz (.str z) x
 |_=>ai
theorem zj{x y:V}{u:Ag}(r:RelV y u)(f:gR y=ah):ff x u=iz y x:=by
 cases y with
 |non=>cases r;rfl
 |bl b=>cases r;rfl
 |int i=>obtain⟨t,rfl⟩:=r;rfl
 |str z=>obtain⟨t,rfl⟩:=r;rfl
 |_=>exact absurd (show ai=ah from f) Au
theorem kW{x:V}:∀{xs:List V}{us:List Ag},Vals xs us->xs.all gR=ah->us.any (ff x)=xs.any λy=>iz y x
 |_,_,.nil,_=>rfl
 |y::xs,u::us,.cons r t,f=>by
  rw[Dl,Ay]at f;rw[List.any_cons,List.any_cons,zj r f.1,kW t f.2]
theorem mC{A:Bt}{s:Ai}{x:V}{v:Ag}(rx:RelV x v)(fx:gR x=ah):∀{xs:List V}{us:List Ag},Vals xs us->xs.all gR=ah->∀u∈us,SeqAt.EqAt A s u v (ff x u)
 |_,_,.nil,_=>λu hu=>by cases hu
 |y::xs,u::us,.cons r t,f=>λu' hu=>by
  rw[Dl,Ay]at f;rcases Al.mp hu with rfl|hu
  ·rw[zj r f.1];exact GS r rx f.1 fx
  ·exact mC rx fx t f.2 u' hu
def og(x:V)(xs:List V):Bool:=xs.any λy=>iz y x
def iM(K:Aj)(neg:Bool):R2:=λx y H Q=>∃p xs,y=.ref p/\(SqL K H p xs\/SqT K H p xs)/\gR x=ah/\xs.all gR=ah/\Q (.bl (if neg then !og x xs else og x xs)) H
theorem KP:OpR X (B4 .In) (iM X.K ai):=by
 intro pins s σ H x y v u Q I rx ry h;obtain⟨p,xs,rfl,hq,fx,fs,q⟩:=h;cases ry;rcases hq with hq|hq
 ·obtain⟨its,r,pl,hz⟩:=I.list hq;refine SeqAt.in_listAt (ff x) pl.isList (λw hw=>mC rx fx r fs w (by simpa using hw)) ⟨.bl _,H,I,rfl,?_⟩;rw[show its.toArray.any (ff x)=its.any (ff x) by simp,kW r fs];exact q
 ·obtain⟨its,r,pl,hz⟩:=I.tuple hq;refine SeqAt.in_tupleAt (ff x) pl (λw hw=>mC rx fx r fs w (by simpa using hw)) ⟨.bl _,H,I,rfl,?_⟩;rw[show its.toArray.any (ff x)=its.any (ff x) by simp,kW r fs];exact q
theorem EV:OpR X (B4 .NotIn) (iM X.K ah):=by
 intro pins s σ H x y v u Q I rx ry h;obtain⟨p,xs,rfl,hq,fx,fs,q⟩:=h;cases ry;rcases hq with hq|hq
 ·obtain⟨its,r,pl,hz⟩:=I.list hq;refine SeqAt.notIn_listAt (ff x) pl.isList (λw hw=>mC rx fx r fs w (by simpa using hw)) ⟨.bl _,H,I,rfl,?_⟩;rw[show its.toArray.any (ff x)=its.any (ff x) by simp,kW r fs];exact q
 ·obtain⟨its,r,pl,hz⟩:=I.tuple hq;refine SeqAt.notIn_tupleAt (ff x) pl (λw hw=>mC rx fx r fs w (by simpa using hw)) ⟨.bl _,H,I,rfl,?_⟩;rw[show its.toArray.any (ff x)=its.any (ff x) by simp,kW r fs];exact q
theorem nZ:CallR X (.builtin "len") (λxs H Q=>∃p ys,xs=[.ref p]/\(SqL X.K H p ys\/SqT X.K H p ys)/\Q (.int ys.length) H):=by
 intro pins s σ H xs us Q I r h;obtain⟨p,ys,rfl,hq,q⟩:=h;obtain⟨u,rfl,rx⟩:=fe r;cases rx;have hn:=kh;rcases hq with hq|hq
 ·obtain⟨its,r',pl,hz⟩:=I.list hq;have hlen:=r'.length;exact Calls.call_len_list pl.isList (by simp only[Ap]<;>omega) ⟨.int ys.length,H,I.tok _,⟨s.toks+1,by rw[Ap,hlen]⟩,q⟩
 ·obtain⟨its,r',pl,hz⟩:=I.tuple hq;have hlen:=r'.length;exact len_tuple pl (by simp only[Ap]<;>omega) ⟨.int ys.length,H,I.tok _,⟨s.toks+1,by rw[Ap,hlen]⟩,q⟩
theorem call_len_str:CallR X (.builtin "len") (λxs H Q=>∃z,xs=[.str z]/\z.length<=A2/\Q (.int z.length) H):=by
 intro pins s σ H xs us Q I r h;obtain⟨z,rfl,hz,q⟩:=h;obtain⟨u,rfl,t,rfl⟩:=fe r;have hn:=kh;exact len_str ⋯ ⟨.int z.length,H,I.tok _,⟨_,rfl⟩,q⟩
theorem CallR.or{f:Ag}{r r':List V->Hp->VK->Prop}(h:CallR X f r)(h':CallR X f r'):CallR X f (λxs H Q=>r xs H Q\/r' xs H Q):=by
 intro pins s σ H xs us Q I rs q;rcases q with q|q
 ·exact h pins s σ H xs us Q I rs q
 ·exact h' pins s σ H xs us Q I rs q
theorem Kk:CallR X (.type "list") (λxs H Q=>∃p ys,xs=[.ref p]/\(SqL X.K H p ys\/SqT X.K H p ys)/\∀l,H l=af->Q (.ref l) (upd H l (.lst ys))):=by
 intro pins s σ H xs us Q I r h;obtain⟨p,ys,rfl,hq,q⟩:=h;obtain⟨u,rfl,rx⟩:=fe r;cases rx;have fin:∀(its:List Ag),Vals ys its->ys.length<=A2->∀(h':Heap)(c':Nat),(∀b o',s.heap.get? b=ae o'->h'.get? b=ae o')->
   h'.get? s.heap.objs.size=ae {cls:=.type "list",dict:=af,data:=.seq its.toArray c',slots:=#[]}->EP X pins σ Q (.ref s.heap.objs.size) {s with heap:=h'}:=λits r' hz h' c' kp e=>
  ⟨.ref s.heap.objs.size,_,I.laid (t':=s.toks) kp (Aq _) (show ObjOk X.prog X.w _ h' _ (.lst ys)from⟨hz,its,c',r',e⟩),rfl,q _ (I.hok.fresh (Aq _))⟩
 rcases hq with hq|hq
 ·obtain⟨its,r',pl,hz⟩:=I.list hq;have hlen:=r'.length;obtain⟨o,ho,hc,n,hd⟩:=pl.isList;exact call_list_seq p (.inl rfl) ho hc hd (λh' c' kp e=>fin its r' hz h' c' kp e) (by simp only[Ap]<;>omega)
 ·obtain⟨its,r',pl,hz⟩:=I.tuple hq;have hlen:=r'.length;obtain⟨o,ho,hc,n,hd⟩:=pl;exact call_list_seq p (.inr rfl) ho hc hd (λh' c' kp e=>fin its r' hz h' c' kp e) (by simp only[Ap]<;>omega)
theorem OX:CallR X (.type "tuple") (λxs H Q=>∃p ys,xs=[.ref p]/\((SqL X.K H p ys/\∀l,H l=af->Q (.ref l) (upd H l (.tup ys)))\/(SqT X.K H p ys/\Q (.ref p) H))):=by
 intro pins s σ H xs us Q I r h;obtain⟨p,ys,rfl,h⟩:=h;obtain⟨u,rfl,rx⟩:=fe r;cases rx;rcases h with⟨hq,q⟩|⟨hq,q⟩
 ·obtain⟨its,r',pl,hz⟩:=I.list hq;have hlen:=r'.length;refine call_tuple_list pl.isList (λh' kp=>?_) (by simp only[Ap]<;>omega);have I1:Inv X pins σ H {s with heap:=h'}:=I.kept (t':=s.toks) kp;have I2:Inv X pins σ (upd H h'.objs.size (.tup ys)) {s with heap:=h'.push {cls:=.type "tuple",data:=.seq its.toArray}}:=
   I1.laid (t':=s.toks) (λb o e=>Ae _ e) (Aq _) (show ObjOk X.prog X.w _ _ _ (.tup ys)from⟨hz,its,r',IsTupP.new _ _⟩)
  exact⟨.ref h'.objs.size,_,I2,rfl,q _ (I1.hok.fresh (Aq _))⟩
 ·obtain⟨its,r',pl,hz⟩:=I.tuple hq;exact call_tuple_same pl ⟨.ref p,H,I,rfl,q⟩
def sv(K:Aj)(T:String)(x:V)(H:Hp):Prop:=match x with
 |.str _=>T="str"
 |.int _=>T="int"
 |.ref p=>(T="list"/\∃xs,SqL K H p xs)\/(T="tuple"/\∃o,K.lookup p=ae o/\o.cls=.type "tuple"/\o.dict=af) \/
   (T="dict"/\((∃kvs,H p=ae (.dK kvs))\/∃kvs,H p=ae (.dT kvs)))\/(T="set"/\∃S n,H p=ae (.set S n))
 |_=>False
theorem yw{pins:List (Addr×Obj)}{σ:St}{H:Hp}{s:Ai}{T:String}{x:V}{v:Ag}(I:Inv X pins σ H s)(r:RelV x v)(ty:sv X.K T x H):
  s.TypeIs v T/\∀a,v=.ref a->∃ob,s.heap.get? a=ae ob/\ob.dict=af:=by
 cases x with
 |str z=>
  obtain⟨t,rfl⟩:=r;cases(show T="str" from ty);exact⟨typeIs_str s z t,λ_ e=>nomatch e⟩
 |int i=>
  obtain⟨t,rfl⟩:=r;cases(show T="int" from ty);exact⟨typeIs_int s i t,λ_ e=>nomatch e⟩
 |ref p=>
  cases r;rcases ty with⟨rfl,xs,hq⟩|⟨rfl,o,hk,hc,hd⟩|⟨rfl,hk⟩|⟨rfl,S,n,hk⟩
  ·obtain⟨its,_,pl,_⟩:=I.list hq;refine⟨pl.isList.typeIs,λa e=>?_⟩;cases e;obtain⟨o,n,e,c,hd,_⟩:=pl;exact⟨o,e,hd⟩
  ·refine⟨⟨o,I.kIn p o hk,hc⟩,λa e=>?_⟩;cases e;exact⟨o,I.kIn _ o hk,hd⟩
  ·have z:∃o,s.heap.get? p=ae o/\o.ExactDict:=by
    rcases hk with⟨kvs,hk⟩|⟨kvs,hk⟩
    ·obtain⟨_,_,_,_,o,_,_,e,ex,_⟩:=I.hok p _ hk;exact⟨o,e,ex⟩
    ·obtain⟨_,_,_,_,o,_,_,e,ex,_⟩:=I.hok p _ hk;exact⟨o,e,ex⟩
   obtain⟨o,e,ex⟩:=z;refine⟨⟨o,e,ex.1⟩,λa e2=>?_⟩;cases e2;exact⟨o,e,ex.2.1⟩
  ·obtain⟨o,_,_,_,e,ex,_⟩:=I.hok p _ hk;refine⟨⟨o,e,ex.1⟩,λa e2=>?_⟩;cases e2;exact⟨o,e,ex.2.1⟩
 |_=>exact False.elim ty
def lV(K:Aj)(T:String)(r:V->List V->Hp->VK->Prop)(to:TE):TE:=λσ H Q=>to σ H λx H1=>sv K T x H1/\r x [] H1 Q
def lh(K:Aj)(T:String)(r:V->List V->Hp->VK->Prop)(to:TE)(t:TA):TE:=λσ H Q=>to σ H λx H1=>sv K T x H1/\t σ H1 λxs H2=>r x xs H2 Q
variable{o e:Expr}{es:List Expr}{to:TE}{t:TA}{name:Str}{apos cpos:Pos}{T id:String}{r:V->List V->Hp->VK->Prop}
theorem OI(pa:PlainAttrs T)(slot:Slot T name id)(hty:typeOf (.builtin id)=pure (.type "method_descriptor"))(hm:yM X id r)(ho:PE X o to)
  (hbase:Gx o name X.env (eval o X.env)=eval o X.env:=by rfl) (hline:(apos.endLine==cpos.line)=ah:=by rfl):PE X (.Call (.Attribute o name apos) [] [] cpos) (lV X.K T r to):=by
 intro pins s σ H Q I h;refine wpAny_Call_method0_late hbase hline (aT (ho pins s σ H _ I h) λv s1 ⟨x,H1,I1,r1,ty,q1⟩=>?_);obtain⟨h1,h2⟩:=yw I1 r1 ty;exact⟨T,id,pa,slot,hty,h1,h2,Calls.callWith_builtin rfl (PySem.evalArgs_none (hm pins s1 σ H1 x [] v [] Q I1 r1 .nil q1))⟩
theorem mQ(pa:PlainAttrs T)(slot:Slot T name id)(hty:typeOf (.builtin id)=pure (.type "method_descriptor"))(hm:yM X id r)(ho:PE X o to)(ha:PA X (e::es) t)
  (hbase:Gx o name X.env (eval o X.env)=eval o X.env:=by rfl)
  (hfew:((D2 cpos (Aw (e::es) X.env)).all (λx=>!x.1)&&(backToKw cpos (keywordEach [] X.env)).all (λx=>x.1.isSome)
   && decide ((e::es).length+([]:List Keyword).length+(if ([]:List Keyword).isEmpty then 0 else 1) < 30))=ah:=by rfl)
  (hline:(apos.endLine==cpos.line)=ah:=by rfl) (hs:Aw (e::es) X.env=(ai,eval e X.env)::Aw es X.env:=by rfl) (hplain:(D2 cpos (Aw es X.env)).any (·.1)=ai:=by rfl):
  PE X (.Call (.Attribute o name apos) (e::es) [] cpos) (lh X.K T r to t):=by
 intro pins s σ H Q I h;refine wpAny_Call_method_late hbase hfew hline rfl (aT (ho pins s σ H _ I h) λv s1 ⟨x,H1,I1,r1,ty,q1⟩=>?_);obtain⟨h1,h2⟩:=yw I1 r1 ty;refine⟨T,id,pa,slot,hty,h1,h2,?_⟩;have hA:=ha cpos pins s1 σ H1 _ I1 q1;rw[hs]at hA ⊢;refine Calls.callWith_builtin (by show(ai || (D2 cpos (Aw es X.env)).any (·.1))=ai;rw[hplain]<;>rfl) (Calls.evalArgs_plain ?_);exact aT hA λus s2 ⟨vs,H2,I2,r2,q2⟩=>hm pins s2 σ H2 x vs v us Q I2 r1 r2 q2
end
def kj(X:Cx)(id:String)(r:V->List V->Hp->VK->Prop):Prop:=
 ∀(pins:List (Addr×Obj))(s:Ai)(σ:St)(H:Hp)(x:V)(xs:List V)(v:Ag)(us:List Ag)(Q:VK),Inv X pins σ H s->RelV x v->Vals xs us->r x xs H Q->
  Av (A7 X.prog X.w) X.A (call (.builtin id) (v::us)) (EP X pins σ Q) X.xe s
theorem Vals.one:∀{x:V}{us:List Ag},Vals [x] us->∃u,us=[u]/\RelV x u
 |_,_,.cons r .nil=>⟨_,rfl,r⟩
theorem Vals.zero:∀{us:List Ag},Vals [] us->us=[]
 |_,.nil=>rfl
theorem Vals.dropLast{xs:List V}{us:List Ag}(h:Vals xs us):Vals xs.dropLast us.dropLast:=by
 induction h with
 |nil=>exact .nil
 |cons r t ih=>
  cases t with
  |nil=>exact .nil
  |cons q t'=>exact .cons r ih
theorem Vals.reverse{xs:List V}{us:List Ag}(h:Vals xs us):Vals xs.reverse us.reverse:=by
 induction h with
 |nil=>exact .nil
 |cons r t ih=>rw[List.reverse_cons,List.reverse_cons];exact Vals.append ih (.cons r .nil)
theorem FQ{α:Type}(l:List α):l.eraseIdx (l.length-1)=l.dropLast:=by
 induction l with
 |nil=>rfl
 |cons a r ih=>
  cases r with
  |nil=>rfl
  |cons b r=>
   have e:(a::b::r).length-1=((b::r).length-1)+1:=by
    have h1:(a::b::r).length=r.length+2:=rfl;have h2:(b::r).length=r.length+1:=rfl;omega
   rw[e,List.eraseIdx_cons_succ,ih]
   all_goals rfl
section
variable{X:Cx}{pins:List (Addr×Obj)}{σ:St}{H:Hp}{s:Ai}{l b:Addr}{xs ys zs:List V}
theorem Inv.lset{its its':List Ag}{n:Nat}{f:Array Ag->Array Ag}{t':Nat}(I:Inv X pins σ H s)(hH:H l=ae (.lst xs))
  (e:s.heap.get? l=ae {cls:=.type "list",data:=.seq its.toArray n}) (hf:f its.toArray=its'.toArray) (hv:Vals ys its') (hz:ys.length<=A2):
  Inv X pins σ (upd H l (.lst ys)) {s with heap:=s.heap.update l (B5 f),toks:=t'}:=by
 have q:=PySem.IsL.update e f;rw[hf]at q;refine I.write (x:=l) (e:=l) (by rw[hH];exact trivial) (.inl rfl) (λb' u hb hu=>(D5 s.heap (B5 f) (Ne.symm hb)).trans hu) ⟨_,q⟩ ?_;exact⟨hz,its',_,hv,q⟩
theorem Inv.lnew{its:List Ag}{t':Nat}(I:Inv X pins σ H s)(hv:Vals ys its)(hz:ys.length<=A2):
  Inv X pins σ (upd H s.heap.objs.size (.lst ys)) {s with heap:=s.heap.push {cls:=.type "list",data:=.seq its.toArray},toks:=t'}:=
 I.laid (λ_ _ q=>Ae _ q) (Aq _) ⟨hz,its,0,hv,As _ rfl⟩
theorem Inv.fresh(I:Inv X pins σ H s):H s.heap.objs.size=af:=I.hok.fresh (Aq _)
theorem Inv.lstM(I:Inv X pins σ H s)(hH:H l=ae (.lst xs)):xs.length<=A2/\∃(its:List Ag)(n:Nat),Vals xs its/\xs.length=its.length/\s.heap.get? l=ae {cls:=.type "list",data:=.seq its.toArray n}:=by
 obtain⟨z,its,n,r,e⟩:=I.hok l _ hH;exact⟨z,its,n,r,r.length,e⟩
theorem zP{n:Nat}(h:n<=A2):Ey n=ai:=by
 unfold Ey;exact decide_eq_false ⋯
end
section
variable{X:Cx}
def vL:V->List V->Hp->VK->Prop:=λx vs H Q=>∃l xs y,x=.ref l/\vs=[y]/\H l=ae (.lst xs)/\xs.length < A2/\Q .non (upd H l (.lst (xs++[y])))
theorem rm:kj X "list.append" vL:=by
 intro pins s σ H x vs v us Q I rx rv h;obtain⟨l,xs,y,rfl,rfl,hH,hz,q⟩:=h;cases rx;obtain⟨u,rfl,ru⟩:=rv.one;obtain⟨z,its,n,r,hl,e⟩:=I.lstM hH;refine call_meets F.slot_list_append ⟨_,e,rfl⟩ F.entry_list_append (F.args_list_append_2 _ _) (PySem.list_append l its.toArray n u (by rw[Ap];omega)) ⟨e,?_⟩;refine⟨.non,_,I.lset (its':=its++[u]) hH e (by simp) (r.append (.cons ru .nil)) ?_,rfl,q⟩;rw[Ao,Ba];omega
def yH:V->List V->Hp->VK->Prop:=λx vs H Q=>∃l b xs zs,x=.ref l/\vs=[.ref b]/\H l=ae (.lst xs)/\H b=ae (.lst zs)/\xs.length+zs.length<=A2/\Q .non (upd H l (.lst (xs++zs)))
theorem AJ:kj X "list.extend" yH:=by
 intro pins s σ H x vs v us Q I rx rv h;obtain⟨l,b,xs,zs,rfl,rfl,hH,hB,hz,q⟩:=h;cases rx;obtain⟨u,rfl,ru⟩:=rv.one;cases ru;obtain⟨z,its,n,r,hl,e⟩:=I.lstM hH;obtain⟨z2,its2,n2,r2,hl2,e2⟩:=I.lstM hB;have hsz:its.toArray.size+its2.toArray.size<=A2:=by rw[Ap,Ap];omega
 have hlong:¬(!its.toArray.isEmpty&&Ey (its.toArray.size+its2.toArray.size))=ah:=by
  rw[zP hsz,Fg];exact Au
 refine call_meets F.slot_list_extend ⟨_,e,rfl⟩ F.entry_list_extend (F.args_list_extend_2 _ _)
  (AutoSeq1.list_extend_list_list_0 l its.toArray n b its2.toArray n2 hlong (by rw[Ap];omega) ⋯) ⟨e,e2,?_⟩
 refine⟨.non,_,I.lset (its':=its++its2) hH e (by simp) (r.append r2) ?_,rfl,q⟩;rw[Ao];omega
def qD:V->List V->Hp->VK->Prop:=λx vs H Q=>∃l xs y,x=.ref l/\vs=[]/\H l=ae (.lst xs)/\xs[xs.length-1]?=ae y/\Q y (upd H l (.lst xs.dropLast))
theorem Pk:kj X "list.pop" qD:=by
 intro pins s σ H x vs v us Q I rx rv h;obtain⟨l,xs,y,rfl,rfl,hH,hy,q⟩:=h;cases rx;have hus:=rv.zero;subst hus;obtain⟨z,its,n,r,hl,e⟩:=I.lstM hH;obtain⟨u,hu,ru⟩:=r.get hy;have hy':its.toArray[its.toArray.size-1]?=ae u:=by
  show its.toArray[its.length-1]?=ae u;rw[<-Bp,<-hl];exact hu
 refine call_meets F.slot_list_pop ⟨_,e,rfl⟩ F.entry_list_pop (F.args_list_pop_1 _) (MeetsSeq.list_pop_last l its.toArray n u hy' (by rw[Ap];omega)) ⟨e,?_⟩;refine⟨y,_,I.lset (its':=its.dropLast) hH e ?_ (Vals.dropLast r) ?_,ru,q⟩
 ·show its.toArray.eraseIdxIfInBounds (its.toArray.size-1)=its.dropLast.toArray;rw[Ap,List.eraseIdxIfInBounds_toArray,FQ]
 ·rw[List.length_dropLast];omega
def yC:V->List V->Hp->VK->Prop:=λx vs H Q=>∃l xs,x=.ref l/\vs=[]/\H l=ae (.lst xs)/\Q .non (upd H l (.lst xs.reverse))
theorem Oh:kj X "list.reverse" yC:=by
 intro pins s σ H x vs v us Q I rx rv h;obtain⟨l,xs,rfl,rfl,hH,q⟩:=h;cases rx;have hus:=rv.zero;subst hus;obtain⟨z,its,n,r,hl,e⟩:=I.lstM hH;refine call_meets F.slot_list_reverse ⟨_,e,rfl⟩ F.entry_list_reverse (F.args_list_reverse_1 _) (AutoSeq1.list_reverse_list_0 l its.toArray n (by rw[Ap];omega)) ⟨e,?_⟩;refine⟨.non,_,I.lset (its':=its.reverse) hH e (by simp) r.reverse ?_,rfl,q⟩;rw[Eo];omega
def ia:R2:=λx y H Q=>∃l b xs zs,x=.ref l/\y=.ref b/\H l=ae (.lst xs)/\H b=ae (.lst zs)/\xs.length+zs.length<=A2/\∀p,H p=af->Q (.ref p) (upd H p (.lst (xs++zs)))
theorem zV:OpR X (Fp .Add) ia:=by
 intro pins s σ H x y v u Q I rx ry h;obtain⟨l,b,xs,zs,rfl,rfl,hH,hB,hz,q⟩:=h;cases rx;cases ry;obtain⟨z,its,n,r,hl,e⟩:=I.lstM hH;obtain⟨z2,its2,n2,r2,hl2,e2⟩:=I.lstM hB;refine PySem.P.add_list e e2 ?_ (by rw[Ap,Ap];omega);have ea:its.toArray++its2.toArray=(its++its2).toArray:=by simp
 rw[ea];exact⟨.ref _,_,I.lnew (t':=s.toks) (r.append r2) (by rw[Ao];omega),rfl,q _ I.fresh⟩
end
theorem Nx{P:Bn}{w:By}{k:bA}{u:Ag}(r:RelV (kV k) u):(fv P w).is k u=ah:=by
 cases k with
 |inl i=>obtain⟨t,e⟩:=(show ∃t,u=Value.int i t from r);subst e;exact uJ P w i t
 |inr x=>obtain⟨t,e⟩:=(show ∃t,u=G5 x t from r);subst e;exact v5 P w x t
theorem uu{P:Bn}{w:By}:∀{ks:List bA}{us:List Ag},Vals (ks.map kV) us->ItemsAre (fv P w) ks us
 |[],_,r=>by rw[Ck]at r;cases r;exact .nil
 |k::ks,_,r=>by
  rw[A5]at r;cases r with
  |cons h t=>exact .cons (Nx h) (uu t)
section
variable{P:Bn}{w:By}{H:Hp}{h:Heap}{a:Addr}
theorem uD{ks:List bA}(ok:HOk P w H h)(e:H a=ae (.tup (ks.map kV))):(tupleKind (fv P w)).is h ks a:=by
 obtain⟨_,its,r,o,h1,h2,⟨n,h3⟩,_⟩:=(show ObjOk P w H h a (.tup (ks.map kV))from ok a _ e);exact⟨o,its.toArray,n,h1,h2,h3,by simpa using uu r⟩
end
section
variable{X:Cx}{pins:List (Addr×Obj)}{σ:St}{H:Hp}{s:Ai}{a:Addr}{y v:V}{u r:Ag}{o:Option V}{A:Bt}{E:Ag->Ai->Prop}
theorem Inv.big(I:Inv X pins σ H s):G2 < s.heap.objs.size:=by
 have h:Eb < s.heap.objs.size:=(I.mod.glob.keeps I.bk).lt;exact Nat.lt_trans ∎ h
end
end L2
namespace Att
open PySem PySem.W PySem.Calls PyProof.Rows
theorem J1{P:Params}{h:Heap}:∀(ns:List Int)(vs:List Ag),WellAll P h vs (ns.map WData.int)->IntsAre vs ns:=by
 intro ns
 induction ns with
 |nil=>
  intro vs w;rw[Ck]at w;cases w;exact .nil
 |cons n ns ih=>
  intro vs w;rw[A5]at w;cases w with
  |cons a b=>
   cases a;exact .cons _ _ (ih _ b)
theorem Nk{l:OpenLaw}{n:Nat}(hn:l.most=ae n){P:Params}{h:Heap}{args:List WData}{vals:List Ag}
  (hpre:l.row.toRowW.claim.pre args=ah) (hwl:WellAll P h vals args):
  ∃a vs ns,vals=[Bf a]/\args=[WData.list (ns.map WData.int)]/\h.get? a=ae {cls:=.type "list",data:=.seq vs.toArray}/\IntsAre vs ns/\ns.length<=n:=by
 have hsh:WShape.hasAll [] args [.list .int]=ah:=(pre_splitW hpre).1;have hc:l.pre.holds [] {args:=args}=ah:=(pre_splitW hpre).2;obtain⟨d,r,rfl,h1,h2⟩:=hasAllW_cons hsh;obtain rfl:=hasAllW_nil h2;obtain⟨xs,rfl,h3⟩:=hasW_list h1;obtain⟨ns,rfl⟩:=items_int h3;have hlen:ns.length<=n:=by
  unfold OpenLaw.pre at hc;have h4:(WTm.not (.lt (.lit (.int (n:Int))) (.len (.arg 0)))).holds [] {args:=[.list (ns.map .int)]}=ah:=by
   have h4:=(holds_andW hc).1;rw[hn]at h4;exact h4
  have h5:=condW_of h4 (w_not (w_lt w_lit (w_len_list (w_arg rfl))));rw[Ad]at h5;refine Nat.le_of_not_lt λq=>?_;have q':(n:Int) < ((ns.length:Nat):Int):=by omega
  first
   | (rw[decide_eq_true q']at h5;exact absurd h5 ∎)
   | (simp at h5;omega)
 cases hwl with
 |cons w1 w2=>
  cases w2;cases w1 with
  |list ho hall=>exact⟨_,_,ns,rfl,rfl,ho,J1 ns _ hall,hlen⟩
theorem N7(l:OpenLaw)(args:List WData):l.row.toRowW.claim.post args (.bool ah) args=ah:=
 postW_of (r:=l.row.toRowW) (X:=(ah==ah))
  (show WShape.has [] (.bool ah) .bool=ah by first|rfl|decide|simp[WShape.has,WShape.arms,WShape.armsAll])
  (show(WTm.eq .res (.lit (.bool ah))).value [] {args:=args,res:=ae (.bool ah),after:=args}=ae (.bool (ah==ah))from w_eq_bool (w_res rfl) w_lit) rfl
theorem attach_call{l:OpenLaw}{n:Nat}{q:Bn}{loose:List Str}{XP:(Str->Option Ag)->Heap->Prop}{YP:By->Heap->Prop}{d:DefRec}
  (hn:l.most=ae n) (hdf:d.params.defaults=[])
  (call:∀(w:By)(s₀ s₁:Ai)(mg mb:Str->Option Ag)(fa:Addr)(o:Obj)(pm cd doc:Ag)(a:Addr)(vs:List Ag)(ns:List Int),
   Ground q loose [] XP w s₀ mg mb s₁.heap->YP w s₁.heap->
   s₁.heap.get? fa=ae o->o.data=.func (docDef d.name d.params d.body d.scope pm cd doc)->s₁.heap.CodeRec cd d.name->mg d.name=ae (.ref fa)->
   s₁.heap.get? a=ae {cls:=.type "list",data:=.seq vs.toArray}->IntsAre vs ns->ns.length<=n->s₁.gens=#[]->
   Gm (A7 l.prog w) callerA (.call (.ref fa) ⟨[.ref a],[]⟩) (λr s'=>r=.ok (.ret (.bool ah))/\OldK s₁.heap s'.heap/\s'.os=s₁.os/\AllBare s'.gens) s₁):
  WalkO q loose XP YP l.row.toRowW d [] (λf vs=>PySem.call f vs):=by
 intro w s₀ s₁ mg mb G Y fa o pm cd doc dV kV ho hd hcd hD hmg hg args vals as hpre hlay hrd hwl hlo;obtain rfl:dV=.none:=Dflts.none hD hdf;obtain rfl:kV=.none:=Dflts.noKw hD;obtain⟨a,vs,ns,rfl,rfl,hobj,hints,hlen⟩:=Nk hn hpre hwl;refine enter_call (Fx (call w s₀ s₁ mg mb fa o pm cd doc a vs ns G Y ho (fd_plain hd) hcd hmg hobj hints hlen hg) λr s' hq=>?_);obtain⟨rfl,h2,h3,h4⟩:=hq;exact⟨.inl ⟨.bool ah,.bool ah,[],rfl,λ_=>rfl,.bool ah,N7 l _,λ_=>⟨Gf,λ_ hm=>(nomatch hm)⟩⟩,h2,h3,h4⟩
end Att
namespace L2
open PySem PySem.Spec PyProof.Rows
theorem yj:∀{vs:List Ag}{ns:List Int},IntsAre vs ns->Vals (ns.map V.int) vs
 |_,_,.nil=>.nil
 |_,_,.cons n t h=>.cons ⟨t,rfl⟩ (yj h)
def jG(H:Hp):Prop:=∀b,H b=af\/∃o xs,H b=ae (.frz o (.lst xs))
theorem IC{P:Bn}{w:By}{K:Aj}{mg mb:Str->Option Ag}{CX:gm}{k:Nat}{fa a:Addr}{fd:C7}{x:Str}{sp:Sp}{s₁:Ai}{vs:List Ag}{ns:List Int}
  (KX:K.In s₁.heap) (hns:s₁.heap.Ns Eb mg) (hb:s₁.heap.Ns builtinsNs mb) (hbb:∀x:Str,x≠"__name__"->mb x=Bx x) (hlim:s₁.heap.NoLimit) (hg:s₁.gens=#[])
  (ha:s₁.heap.get? a=ae {cls:=.type "list",data:=.seq vs.toArray}) (hi:IntsAre vs ns) (hl:ns.length<=A2) (hr:Room k callerA)
  (F:∀base:Heap,K.In base->base.Ns Eb mg->FnOk P w K mg base CX k fa fd [x] sp) (hbind:∀(s:Ai)(u:Ag),BindsTo s fd ⟨[u],[]⟩ [(x,u)])
  (hsp:∀H:Hp,jG H->SqL K H a (ns.map V.int)->sp [.ref a] H (λv _=>v=.bl ah) λ_ _ _=>False)
  (hCX:∀H e s',CX [] H s₁ (λ_ _ _=>False) e s'->False):
  Gm (A7 P w) callerA (.call (.ref fa) ⟨[.ref a],[]⟩) (λr s'=>r=.ok (.ret (.bool ah))/\OldK s₁.heap s'.heap/\s'.os=s₁.os/\AllBare s'.gens) s₁:=by
 have rv:=yj hi;have lenV:=hi.length
 have core:∀H:Hp,jG H->SqL K H a (ns.map V.int)->HOk P w H s₁.heap->(∀b,H b≠af->b=a)->(H a≠af->K.lookup a=af)->
   Gm (A7 P w) callerA (.call (.ref fa) ⟨[.ref a],[]⟩) (λr s'=>r=.ok (.ret (.bool ah))/\OldK s₁.heap s'.heap/\s'.os=s₁.os/\AllBare s'.gens) s₁:=by
  intro H hO hS hok hA hK;have base_of:∀{b:Addr}{o:Obj},s₁.heap.get? b=ae o->H b=af->(eu s₁.heap H).get? b=ae o:=λe n=>M6 e n;have noA:∀{b:Addr}{o:Obj}{es:Array DictEntry}{ep:Nat},s₁.heap.get? b=ae o->o.data=.dict es ep->H b=af:=λ{b o es ep} e d=>by
   cases q:H b with
   |none=>rfl
   |some u=>
    have e':b=a:=hA b (by rw[q];simp);subst e';rw[ha]at e;cases e;have d':Data.seq vs.toArray _=Data.dict es ep:=d;cases d'
  have nsK:∀{b:Addr}{m:Str->Option Ag},s₁.heap.Ns b m->(eu s₁.heap H).Ns b m:=λ{b m} ⟨o,es,ep,e,d,r⟩=>⟨o,es,ep,base_of e (noA e d),d,r⟩;have hKb:K.In (eu s₁.heap H):=λb o e=>base_of (KX b o e) (by
   cases q:H b with
   |none=>rfl
   |some u=>
    have e':b=a:=hA b (by rw[q];simp);subst e';rw[hK (by rw[q];simp)]at e;cases e)
  have hM:Mod K mg (eu s₁.heap H):=⟨hKb,nsK hns,⟨mb,nsK hb,hbb⟩,let⟨mc,h1,h2⟩:=hlim;⟨mc,nsK h1,h2⟩⟩;have e0:Env0 P w K mg (eu s₁.heap H) callerA [] s₁ H:=⟨rfl,hM,λb o e=>O2 e,Nat.le_of_eq (MU _ _),trivial,λb hb=>absurd (show b∈([]:List Addr)from hb) (by simp),hok,.of_eq hg⟩;refine Fx ((F _ hKb (nsK hns)).run callerA [] s₁ H ⟨[.ref a],[]⟩ [.ref a] [.ref a] _ _ hr e0 (hbind s₁ (.ref a)) (.cons rfl .nil) (hsp H hO hS)) λr s' h=>?_;cases r with
  |error e=>exact(hCX H e s' h).elim
  |ok fl=>
   cases fl with
   |next=>exact False.elim h
   |brk=>exact False.elim h
   |cont=>exact False.elim h
   |ret u=>
    obtain⟨v,H',os,bare,un,hok',r',q⟩:=h;have q':v=.bl ah:=q;subst q';obtain rfl:u=Value.bool ah:=r';refine⟨rfl,OldK.of_keep λb o e=>?_,os,bare⟩;cases q:H b with
    |none=>exact un.keep b o e q (by intro z;exact absurd (show b∈([]:List Addr)from z) (by simp)) (by simp)
    |some u=>
     rcases hO b with z|⟨ob,xs,z⟩
     ·rw[q]at z;cases z
     ·have z2:=un.frzs b ob _ z;obtain⟨e1,_⟩:=hok b _ z;obtain⟨e2,_⟩:=hok' b _ z2;rw[e]at e1;cases e1;exact e2
 cases hk:K.lookup a with
 |some o=>
  have e:=KX a o hk;rw[ha]at e;cases e;refine core (λ_=>af) (λ_=>.inl rfl) (.inr ⟨_,vs.toArray,_,hk,rfl,rfl,rfl,by rw[Ap,lenV];exact hl,by simpa using rv⟩) (λb u z=>by have z':(af:Option HO)=ae u:=z;cases z') (λb z=>absurd rfl z) λz=>absurd rfl z
 |none=>
  refine core (λb=>if b=a then ae (.frz {cls:=.type "list",data:=.seq vs.toArray} (.lst (ns.map V.int)))else af) (λb=>?_) (.inl (.inr ⟨{cls:=.type "list",data:=.seq vs.toArray},if_pos rfl⟩)) (λb u z=>?_) (λb z=>?_) λ_=>hk
  ·by_cases hb:b=a
   ·exact .inr ⟨_,_,if_pos hb⟩
   ·exact .inl (if_neg hb)
  ·by_cases hb:b=a
   ·have z':=(if_pos hb).symm.trans z;cases z';subst hb;exact⟨ha,by rw[Ad];exact hl,vs,_,rv,ha⟩
   ·have z':=(if_neg hb).symm.trans z;cases z'
  ·by_cases hb:b=a
   ·exact hb
   ·exact absurd (if_neg hb) z
theorem walk_of{l:PySem.W.OpenLaw}{n k:Nat}{q:Bn}{loose:List Str}{XP:(Str->Option Ag)->Heap->Prop}{YP:By->Heap->Prop}{d:DefRec}{K:Params->Aj}{CX:By->gm}{sp:By->Sp}{x:Str}
  (hn:l.most=ae n) (hn2:n<=A2) (hdf:d.params.defaults=[]) (hr:Room k callerA)
  (hY:∀(w:By)(h:Heap),YP w h->(K w.params).In h)
  (F:∀(w:By)(mg:Str->Option Ag)(fa:Addr)(h:Heap),(K w.params).In h->h.Ns Eb mg->mg d.name=ae (.ref fa)->
   ∃fd:C7,(∀(s:Ai)(u:Ag),BindsTo s fd ⟨[u],[]⟩ [(x,u)]) /\
    ∀base:Heap,(K w.params).In base->base.Ns Eb mg->FnOk l.prog w (K w.params) mg base (CX w) k fa fd [x] (sp w))
  (hsp:∀(w:By)(H:Hp)(a:Addr)(ns:List Int),ns.length<=n->jG H->SqL (K w.params) H a (ns.map V.int)->sp w [.ref a] H (λv _=>v=.bl ah) λ_ _ _=>False)
  (hCX:∀(w:By)(H:Hp)(s:Ai)(e:Ag)(s':Ai),CX w [] H s (λ_ _ _=>False) e s'->False):
  PySem.W.WalkO q loose XP YP l.row.toRowW d [] (λf vs=>PySem.call f vs):=by
 refine Att.attach_call hn hdf λw s₀ s₁ mg mb fa o pm cd doc a vs ns G Y ho hd hcd hmg hobj hints hlen hg=>?_;have KX:=hY w _ Y;obtain⟨fd,hb,hF⟩:=F w mg fa _ KX G.T.g hmg;exact IC KX G.T.g G.T.b G.T.builtins G.T.nolimit hg hobj hints (B7 hlen hn2) hr hF hb (λH hO hS=>hsp w H a ns hlen hO hS) λH e s'=>hCX w H s₁ e s'
abbrev b5:gm:=λ_ _ _ _ _ _=>False
abbrev E0:XK:=λ_ _ _=>False
theorem rH{X:Cx}:pF b5 X E0:=λ_ _ _ _ _ _ _ h=>h.elim
structure Fun(K:Aj)(x qual:Str)(st:Stmt)(f:Addr)(fd:C7):Prop where
 ex:∃(oc:Ag)(od:Option Addr)(kV doc pm:Ag)(an:Option Addr)(cdv ct:Ag)(osl:Array (Option Ag)),
  fd=F0 x qual (jK st) (fh st) (cv st) .none kV doc pm an cdv ct/\K.lookup f=ae ⟨oc,od,.func fd,osl⟩/\PySem.W.codeIn K cdv qual=ah
 kp:Di K (.ref f)=ah
section
variable{P:Bn}{w:By}{K:Aj}{mg:Str->Option Ag}{base:Heap}
theorem Fun.ok{x qual:Str}{st:Stmt}{f:Addr}{fd:C7}{N ps:List Str}{k:Nat}{sp:Sp}(F:Fun K x qual st f fd)(S:FnScope N ps (cv st))(len:∀vs H Q E,sp vs H Q E->vs.length=ps.length)
  (hbody:∀(cdv:Ag)(A:Bt)(outer:List Env)(s:Ai)(H:Hp)(vs:List V)(Q:VK)(E:XK),Room k (A.deeper (envOfC qual (cv st) s.heap.objs.size f cdv))->sp vs H Q E->
   ∃t,PSs (c7 b5 P w K mg base N qual (cv st) f cdv A outer s H E).nox (fh st) t/\t {nx:=λ_ H'=>Q .non H',rt:=Q} (start N vs) H):FnOk P w K mg base b5 (k+1) f fd ps sp:=by
 obtain⟨oc,od,kV,doc,pm,an,cdv,ct,osl,rfl,lk,hcd⟩:=F.ex;refine DH lk hcd S len λA outer s H vs Q E hr hsp=>?_;obtain⟨t,h,q⟩:=hbody cdv A outer s H vs Q E hr hsp;exact⟨t,h.nox,q⟩
theorem Fun.binds{x qual:Str}{st:Stmt}{f:Addr}{fd:C7}{ps:List Str}(F:Fun K x qual st f fd)
  (h:∀(kV doc pm:Ag)(an:Option Addr)(cdv ct:Ag)(us:List Ag),us.length=ps.length->bindArgs (F0 x qual (jK st) (fh st) (cv st) .none kV doc pm an cdv ct) ⟨us,[]⟩=pure (ps.zip us)):Binds K fd ps []:=by
 obtain⟨oc,od,kV,doc,pm,an,cdv,ct,osl,rfl,lk,hcd⟩:=F.ex;exact .all (h kV doc pm an cdv ct)
theorem Lz{x qual:Str}{st:Stmt}{f:Addr}{oc:Ag}{od an:Option Addr}{osl:Array (Option Ag)}{kV doc pm cdv ct:Ag}(l:K.lookup f=ae ⟨oc,od,.func (F0 x qual (jK st) (fh st) (cv st) .none kV doc pm an cdv ct),osl⟩)
  (c:PySem.W.codeIn K cdv qual=ah) (k:Di K (.ref f)=ah):Fun K x qual st f (F0 x qual (jK st) (fh st) (cv st) .none kV doc pm an cdv ct):=⟨⟨oc,od,kV,doc,pm,an,cdv,ct,osl,rfl,l,c⟩,k⟩
end
theorem tO{n:Nat}(h:n<=1000):n < A2:=Hs h ∎
section
variable{X:Cx}
theorem pv(i:Nat){x:Str}{pos:Pos}(hN:X.N[i]?=ae x:=by rfl)(hv:fq X.env.scope x:=by first|exact Ea rfl|exact C6 (Ea rfl)|exact C6 (C6 rfl))(hd:(x==("__debug__":Str))=ai:=by decide)
  (hcd:(x==("__classdict__":Str))=ai:=by decide):PE X (.Name x pos) (dc i):=gM hN hv hd hcd
end
theorem sH{A B:Prop}(h:B):if ai=ah then A else B:=by
 rw[if_neg Au];exact h
theorem gZ{c A B:Prop}[Decidable c](h1:c->A)(h2:¬c->B):if c then A else B:=by
 by_cases h:c
 ·rw[if_pos h];exact h1 h
 ·rw[if_neg h];exact h2 h
def kG(H H':Hp):Prop:=∀b o,H b=ae o->H' b=ae o
end L2
namespace Nb
open PySem L2
def lR:Bool:=ah
def nA:List V:=[.non,.non,.non,.int 1,.int 2,.int 3,.int 20]
def jh:List Ab:=[.none,.none,.none,.int 1,.int 2,.int 3,.int 20]
end Nb
namespace L2
open PySem PySem.Spec PyProof.Rows
section
variable{prog:Bn}{w:By}{A:Bt}{R:Result->Ai->Prop}{s:Ai}
theorem wm{elt target iter:Expr}{ifs:List Expr}{scope:Fu}{pos:Pos}{it acc:Ag}{env:Env}(I:Nat->Ai->Prop)
  (turn:∀n s,I n s->Av (A7 prog w) A (Eg it) (λr s₁=>match r with
   |none=>R (.ok .next) s₁
   |some v=>Av (A7 prog w) A (letOwnedTupleGo target it v) (λ_ s₁'=>Av (A7 prog w) A (assign target env v) (λ_ s₂=>
     Av (A7 prog w) A (forIn ifs ah λc r=>if r=ah then do let ok <-isTrue c env (eval c env);pure (G6 ok)else pure (G6 r)) (λok s₃=>
      if ok=ah then Av (A7 prog w) A (eval elt env) (λx s₄=>
       Av (A7 prog w) A (call (.builtin "list.append") [acc,x]) (λ_ s₅=>∃m,m < n/\I m s₅) (λ_ _=>False) s₄) (λ_ _=>False) s₃
      else ∃m,m < n/\I m s₃) (λ_ _=>False) s₂) (λ_ _=>False) s₁') (λ_ _=>False) s₁) (λ_ _=>False) s)
  (n:Nat) (h:I n s):Gm (A7 prog w) A (.compLoop (.ListComp elt [⟨target,iter,ifs,0⟩] scope pos) 0 it acc env) R s:=by
 refine codeAny_loop rfl I (λn s hI=>?_) n h;show Av _ A ((compTurn (.ListComp elt [⟨target,iter,ifs,0⟩] scope pos) 0 it acc env).onRaise (λx=>do noteFrame x env;theTreesLotGoes x)) _ _ s;refine wpAny_noted ?_;rw[compTurn_list];refine Aa (wpAny_standAt (Aa (Dv (turn n s hI) (λr s₁ h₁=>?_) λ_ _ f=>f.elim)));cases r with
 |none=>exact Af h₁
 |some v=>
  refine Aa (Dv h₁ (λ_ s₁' h₁'=>?_) λ_ _ f=>f.elim);refine Aa (Dv h₁' (λ_ s₂ h₂=>Aa (Dv h₂ (λok s₃ h₃=>?_) λ_ _ f=>f.elim)) λ_ _ f=>f.elim);cases ok with
  |false=>exact Af ⟨rfl,h₃⟩
  |true=>
   exact Aa (Aa (Dv h₃ (λx s₄ h₄=>Aa (Dv h₄ (λ_ s₅ h₅=>Af (Af ⟨rfl,h₅⟩)) λ_ _ f=>f.elim)) λ_ _ f=>f.elim))
end
def cu(X:Cx)(N:List Str)(scope:Fu)(cl:List (Str×Addr))(s:Ai)(H:Hp)(fp:List Addr):Cx:=
 { X with N:=N,s₀:=s,H₀:=H,env:=compEnvC scope cl s.heap.objs.size X.env,outer:=X.stack,ex:=fp,fn:=λ_=>ai,pn:=[],xe:=λ_ _=>False}
structure CompSc(X:Cx)(N:List Str)(scope:Fu)(cl:List (Str×Addr))(fr:List (Option Nat)):Prop where
 clos:closureFor scope X.env=pure cl
 kind:scope.kind=.function
 nocell:∀y∈scope.names,y.2≠.cell
 names:∀y∈scope.names,y.2=.local->scope.names.lookup y.1=ae .local
 sub:∀x c,cl.lookup x=ae c->X.env.cells.lookup x=ae c
 has:∀x,((relabel scope X.env).names.lookup x=ae .cell\/(relabel scope X.env).names.lookup x=ae .free)->∃c,cl.lookup x=ae c
 len:fr.length=N.length
 fre:∀(j i:Nat),fr[j]?=ae (ae i)->∃x,N[j]?=ae x/\X.N[i]?=ae x/\fq X.env.scope x/\(X.env.kindOf x=ae .cell\/X.env.kindOf x=ae .free) /\
  ((relabel scope X.env).names.lookup x=ae .cell\/(relabel scope X.env).names.lookup x=ae .free)/\cl.lookup x=X.env.cells.lookup x
theorem nP{κ:Type}:∀{l:List (Str×κ)}{x:Str}{k:κ},l.lookup x=ae k->(x,k)∈l
 |[],_,_,h=>nomatch h
 | (y,k')::r,x,k,h=>by
  rw[List.lookup_cons]at h;cases e:x==y with
  |true=>
   rw[e]at h;have e':x=y:=by simpa using e
   have h':k'=k:=Bi h;rw[e',h'];exact Am
  |false=>
   rw[e]at h;exact Ar _ (nP h)
theorem v9{κ:Type}:∀{l:List (Str×κ)}{x:Str},x∈l.map (·.1)->∃k,l.lookup x=ae k
 |[],_,h=>absurd h (by simp)
 | (y,k')::r,x,h=>by
  rw[List.lookup_cons];cases e:x==y with
  |true=>exact⟨k',rfl⟩
  |false=>
   have ne:¬x=y:=λz=>by rw[z]at e;simp at e
   have h':x∈y::r.map (·.1):=h;rcases Al.mp h' with z|z
   ·exact absurd z ne
   ·exact v9 z
theorem IH{X:Cx}{scope:Fu}{cl:List (Str×Addr)}(nm:List (Str×NameKind))(ks:List Str)(hrel:(relabel scope X.env).names=nm)(hks:cl.map (·.1)=ks)(h3:∀y∈nm,(y.2=.cell\/y.2=.free)->y.1∈ks):
  ∀x,((relabel scope X.env).names.lookup x=ae .cell\/(relabel scope X.env).names.lookup x=ae .free)->∃c,cl.lookup x=ae c:=by
 intro x h;rw[hrel]at h;refine v9 ?_;rw[hks];rcases h with h|h
 ·exact h3 _ (nP h) (.inl rfl)
 ·exact h3 _ (nP h) (.inr rfl)
def cW(fr:List (Option Nat))(σ:St):St:=fr.map λo=>o.bind λi=>(σ[i]?).bind id
theorem MD{fr:List (Option Nat)}{σ:St}{j:Nat}{v:V}(h:(cW fr σ)[j]?=ae (ae v)):∃i,fr[j]?=ae (ae i)/\σ[i]?=ae (ae v):=by
 unfold cW at h;rw[A0]at h;cases e:fr[j]? with
 |none=>rw[e]at h;cases h
 |some o=>
  rw[e]at h;cases o with
  |none=>cases h
  |some i=>
   refine⟨i,rfl,?_⟩;have h':(σ[i]?).bind id=ae v:=Bi h;cases e2:σ[i]? with
   |none=>rw[e2]at h';cases h'
   |some o2=>
    rw[e2]at h';have h2:o2=ae v:=h';rw[h2]
def kK(X:Cx)(ifs:List Expr)(tt:TT):Prop:=
 ∀(pins:List (Addr×Obj))(s:Ai)(σ:St)(H:Hp)(Q:Bool->Hp->Prop),Inv X pins σ H s->tt σ H Q->
  Av (A7 X.prog X.w) X.A (forIn ifs ah λc r=>if r=ah then do let ok <-isTrue c X.env (eval c X.env);pure (G6 ok)else pure (G6 r)) (TP X pins σ Q) X.xe s
def vU:TT:=λ_ H Q=>Q ah H
theorem JX{X:Cx}:kK X [] vU:=λ_ _ _ H _ I h=>wpAny_tests_nil ⟨H,I,h⟩
theorem NF{X:Cx}{c:Expr}{tt:TT}(h:PT X c tt):kK X [c] tt:=λpins s σ H Q I q=>wpAny_tests_one (h pins s σ H Q I q)
def mx(fr:List (Option Nat))(wi:TI)(g:TG)(tt:TT)(te:TE):TE:=λσ H Q=>wi σ H λJ H1=>∀D,H1 D=af->
 ∃W:Nat->Nat->List V->St->Hp->Prop,(∃m,W 0 m [] (cW fr σ) (upd H1 D (.lst [])))/\∀i m ys τ H,W i m ys τ H->
  ((J.stop i H/\Q (.ref D) H)\/(J.go i H/\ys.length < A2/\∀x H',J.yld i H x H'->g x τ H' λτ2 H2=>tt τ2 H2 λb H3=>
   if b=ah then te τ2 H3 (λy H4=>H4 D=ae (.lst ys)/\∃m',m' < m/\W (i+1) m' (ys++[y]) τ2 (upd H4 D (.lst (ys++[y]))))else ∃m',m' < m/\W (i+1) m' ys τ2 H3))
section
variable{X:Cx}{N:List Str}{scope:Fu}{cl:List (Str×Addr)}{fr:List (Option Nat)}{pins:List (Addr×Obj)}{σ:St}{H:Hp}{s:Ai}{fp:List Addr}
theorem Mw(S:CompSc X N scope cl fr)(I:Inv X pins σ H s)(hf:∀b∈fp,cm X pins H b)(hlt:∀b∈fp,b < s.heap.objs.size):(cu X N scope cl s H fp).Ok where
 mod:=I.ok.mod
 kind:=S.kind
 glob:=I.ok.glob
 blt:=I.ok.blt
 above:=Aq _
 inj:=λx y c a b=>I.ok.inj x y c (S.sub x c a) (S.sub y c b)
 has:=λx h=>S.has x h
 cab:=λx c h=>nomatch h
 hd:=I.ok.hd
 frames:=I.ok.frames
 stk:=.inl rfl
 exf:=λb hb=>⟨Be (hlt b hb),λx c e=>(hf b hb).2.2.2.2.1 x c (S.sub x c e)⟩
 bs:=I.bs
 bsz:=B7 I.ok.bsz I.sz
 noex:=λb o e hb=>by
  rcases(hf b hb).2.2.2.1 with z|z
  ·exact I.ok.noex b o e z
  ·exact absurd (Bj (An (I.ok.bs b o e).1) z) (C2 _)
 exfs:=λb hb z=>by
  rcases Al.mp (I.stkSub b z)with e|e
  ·exact(hf b hb).2.1 e
  ·exact(hf b hb).2.2.1 e
 funs:=I.stack
 frf:=I.stkFree
theorem vV{h₁:Heap}{t':Nat}(S:CompSc X N scope cl fr)(I:Inv X pins σ H s)(hf:∀b∈fp,cm X pins H b)(hlt:∀b∈fp,b < s.heap.objs.size)
  {ob:Obj} (hsb:Dh s.heap.objs.size (s.heap.push ob) h₁) {m:Str->Option Ag} (hn:h₁.Ns s.heap.objs.size m):
  Inv (cu X N scope cl s H fp) [] (cW fr σ) H {s with heap:=h₁,toks:=t'}:=by
 have old:∀b o,s.heap.get? b=ae o->h₁.get? b=ae o:=λb o e=>(hsb.2 b (Be (An e))).trans (Ae _ e);refine⟨Mw S I hf hlt,rfl,I.bare,Un.kept old,⟨m,hn,λj x v e1 e2 e3=>?_⟩,λx c e=>?_,I.fresh,λx c e=>I.freeC x c (S.sub x c e),λp hp=>?_,I.hok.kept old,?_⟩
 ·obtain⟨i,f1,f2⟩:=MD e2;obtain⟨y,g1,g2,g3,g4,g5,g6⟩:=S.fre j i f1;have e1':N[j]?=ae x:=e1;rw[g1]at e1';have exy:y=x:=Bi e1';subst exy;obtain⟨m0,hn0,hl⟩:=I.loc;obtain⟨u,r,l⟩:=hl i y v g2 f2 g3;refine⟨u,r,.inr ⟨g5,?_⟩⟩;rcases l with⟨k,_⟩|⟨k,c,e,z⟩
  ·rcases g4 with q|q
   ·rw[q]at k;cases k
   ·rw[q]at k;cases k
  ·exact⟨c,g6.trans e,z.keeps old⟩
 ·obtain⟨v,z⟩:=I.cell x c (S.sub x c e);exact⟨v,z.keeps old⟩
 ·exact absurd hp (by simp[cu])
 ·show(cW fr σ).length=N.length;unfold cW;rw[Ad,S.len]
theorem vb{H':Hp}{τ:St}{s0 s':Ai}{h':Heap}(I:Inv X pins σ H s0)(hf:∀b∈fp,cm X pins H b)(I':Inv (cu X N scope cl s0 H fp) [] τ H' s')(hs:Dh s0.heap.objs.size s'.heap h'):
  Inv X pins σ H' {s' with heap:=h'}:=by
 have hC:H' s0.heap.objs.size=af:=I'.free;have u:Un (fU X.stack) fp H H' s0.heap s'.heap:=I'.base;have ne:∀b o,s0.heap.get? b=ae o->b≠s0.heap.objs.size:=λb o e=>Be (An e);have hok':HOk X.prog X.w H' h':=λb o e=>by
  have q:ObjOk X.prog X.w H' s'.heap b o:=I'.hok b o e;refine q.stay (λc v hc z=>(hs.2 c ?_).trans z) (λ_ z=>z) λ_ _ z=>z
  rintro rfl
  rcases hc with z|z
  ·rw[<-z,hC]at e;cases e
  ·rw[hC]at z;cases z
 refine I.call' (s':={ s' with heap:=h'}) (ch:=fp) I'.os ?_ hok' I'.bare λb hb=>?_
 ·refine⟨λb o e n h1 h2=>(hs.2 b (ne b o e)).trans (u.keep b o e n h1 h2),λb o e n h1 h2=>?_,u.free,λb o e h2=>?_,u.tups,u.frzs,u.tbls⟩
  ·obtain⟨sl,z⟩:=u.slot b o e n h1 h2;exact⟨sl,(hs.2 b (ne b o e)).trans z⟩
  ·obtain⟨o',z⟩:=u.there b o e h2;exact⟨o',(hs.2 b (ne b o e)).trans z⟩
 ·obtain⟨_,f1,_,f3,f4,f5⟩:=hf b hb;exact⟨f3,f1,f4,f5⟩
end
theorem IV{X:Cx}{elt tg iter:Expr}{ifs:List Expr}{scope:Fu}{cl:List (Str×Addr)}{pos:Pos}{N:List Str}{fr:List (Option Nat)}{wi:TI}{g:TG}{tt:TT}{te:TE}
  (hc:X.calm=ah) (S:CompSc X N scope cl fr) (hi:PI X tg iter wi) (hg:∀s H fp,PG (cu X N scope cl s H fp) tg g) (ht:∀s H fp,kK (cu X N scope cl s H fp) ifs tt)
  (he:∀s H fp,PE (cu X N scope cl s H fp) elt te) (hs:∀x,Fc iter X.env x=pure x:=by intro _;rfl):
  PE X (.ListComp elt [⟨tg,iter,ifs,0⟩] scope pos) (mx fr wi g tt te):=by
 intro pins s σ H Q I h;rw[eval_ListComp];refine wpAny_comprehension_free (use:=af) (cl:=cl) rfl hs S.clos S.kind S.names (aT (hi pins s σ H _ I h) λv s1 h1=>aT h1 λitv s2 h2=>?_);obtain⟨it,fp,tn,J,H2,e,I2,T,st2,f2,q⟩:=h2;subst e;refine Bq (wpAny_newFunctionEnv S.nocell (by intro y hy;simp at hy) (λh₁ hn hsb=>?_) S.kind);dsimp only at hn hsb ⊢;obtain⟨W,⟨m0,w0⟩,turn⟩:=q s2.heap.objs.size I2.fresh
 have I3:Inv X pins σ (upd H2 s2.heap.objs.size (.lst [])) {s2 with heap:=s2.heap.push {cls:=.type "list",dict:=af,data:=.seq ([]:List Ag).toArray}}:=I2.lnew (its:=[]) (t':=s2.toks) .nil (Bc _);have key:∀s3:Ai,s3={ s2 with heap:=s2.heap.push {cls:=.type "list",dict:=af,data:=.seq ([]:List Ag).toArray}}->Inv X pins σ (upd H2 s2.heap.objs.size (.lst [])) s3->
   ∀(ob:Obj)(mm:Str->Option Ag),Dh s3.heap.objs.size (s3.heap.push ob) h₁->h₁.Ns s3.heap.objs.size mm->
   Gm (A7 X.prog X.w) X.A (.compStart (.ListComp elt [⟨tg,iter,ifs,0⟩] scope pos) 0 (.ref it) (.ref s2.heap.objs.size) (compEnvC scope cl s3.heap.objs.size X.env))
    (compPost (A7 X.prog X.w) X.A X.xe af (EP X pins σ Q) (.ref s2.heap.objs.size) s3.heap.objs.size) {s3 with heap:=h₁,toks:=s3.toks+([]:List (Str×Ag)).length}:=?key
 ·exact key _ rfl I3 _ _ hsb hn
 clear I3 hn hsb;intro s3 hs3 I3 ob mm hsb hn;have hfp:∀b∈fp,∃o,s2.heap.get? b=ae o:=λb hb=>let⟨o,e,_⟩:=T.obj _ _ st2 b hb;⟨o,e⟩;have up:∀b o,s2.heap.get? b=ae o->s3.heap.get? b=ae o:=λb o e=>by rw[hs3];exact Ae _ e
 have f3:∀b∈fp,cm X pins (upd H2 s2.heap.objs.size (.lst [])) b:=λb hb=>by
  obtain⟨o,e⟩:=hfp b hb;obtain⟨g0,gr⟩:=f2 b hb;exact⟨by rw[aX (Be (An e))];exact g0,gr⟩
 have hlt:∀b∈fp,b < s3.heap.objs.size:=λb hb=>let⟨o,e⟩:=hfp b hb;An (up b o e);generalize hH3:upd H2 s2.heap.objs.size (.lst [])=H3 at I3 f3 w0;have I4:=vV (t':=s3.toks+([]:List (Str×Ag)).length) S I3 f3 hlt hsb hn;have st4:tn 0 h₁:=T.keep _ _ _ st2 λb hb o e=>(hsb.2 b (Be (An (up b o e)))).trans (Ae _ (up b o e));have stat:∀{H':Hp},(∀b∈fp,H' b=af)->∀b∈fp,cm (cu X N scope cl s3 H3 fp) [] H' b:=λhn b hb=>by
  obtain⟨_,k1,k2,k3,k4,k5⟩:=f3 b hb;refine⟨hn b hb,Be (hlt b hb),λz=>?_,.inl hb,λx c e=>k4 x c (S.sub x c e),λp hp=>absurd hp (by simp[cu])⟩;rcases Al.mp (I3.stkSub b z)with e|e
  ·exact k1 e
  ·exact k2 e
 have loop:Gm (A7 X.prog X.w) X.A (.compLoop (.ListComp elt [⟨tg,iter,ifs,0⟩] scope pos) 0 (.ref it) (.ref s2.heap.objs.size) (compEnvC scope cl s3.heap.objs.size X.env))
   (compPost (A7 X.prog X.w) X.A X.xe af (EP X pins σ Q) (.ref s2.heap.objs.size) s3.heap.objs.size) {s3 with heap:=h₁,toks:=s3.toks+([]:List (Str×Ag)).length}:=by
  refine wm (λn s'=>∃i ys τ Hc,Inv (cu X N scope cl s3 H3 fp) [] τ Hc s'/\tn i s'.heap/\(∀b∈fp,Hc b=af)/\W i n ys τ Hc) ?_ m0 ⟨0,[],cW fr σ,H3,I4,st4,λb hb=>(f3 b hb).1,w0⟩
  rintro n s5 ⟨i,ys,τ,Hc,I5,st5,fr5,w5⟩
  rcases turn i n ys τ Hc w5 with⟨stop,qn⟩|⟨go,hz,step⟩
  ·refine aT (T.done (cu X N scope cl s3 H3 fp) rfl rfl rfl hc i [] s5 τ Hc (λ_ _=>False) I5 (stat fr5) st5 stop) λr s6 ⟨hr,I6⟩=>?_;subst hr;obtain⟨mm,hm,_⟩:=I6.loc;exact⟨mm,hm,λh' hs'=>⟨.ref s2.heap.objs.size,Hc,vb I3 f3 I6 hs',rfl,qn⟩⟩
  ·refine aT (T.item (cu X N scope cl s3 H3 fp) rfl rfl rfl hc i [] s5 τ Hc (λ_ _=>False) I5 (stat fr5) st5 go) λr s6 ⟨u,hr,h6⟩=>?_;subst hr;refine aT h6 λ_ s7 ⟨x,H7,I7,r7,y7,st7,fr7⟩=>?_;have I7':=I7.pinned (stat fr7) (T.obj _ _ st7);refine aT (hg s3 H3 fp _ s7 τ H7 x u _ I7' r7 (step x H7 y7)) λ_ s8 ⟨τ8,H8,I8,q8⟩=>?_;refine aT (ht s3 H3 fp _ s8 τ8 H8 _ I8 q8) λok s9 ⟨H9,I9,q9⟩=>?_;have keep:∀{st:Ai}{τ':St}{H':Hp},Inv (cu X N scope cl s3 H3 fp) ([]++jS fp s7.heap) τ' H' st->tn (i+1) st.heap/\∀b∈fp,H' b=af:=λ{st τ' H'} Ix=>by
    refine⟨T.keep _ _ _ st7 λb hb o e=>(Ix.pin (b,o) (A1 _ (A1 _ (j3 hb e)))).1,λb hb=>?_⟩;obtain⟨o,e,d⟩:=T.obj _ _ st7 b hb;exact(Ix.pin (b,o) (A1 _ (A1 _ (j3 hb e)))).2.1
   cases ok with
   |false=>
    rw[if_neg Au]at q9 ⊢;obtain⟨m',hm,w9⟩:=q9;obtain⟨k1,k2⟩:=keep I9;exact⟨m',hm,i+1,ys,τ8,H9,I9.unpinned,k1,k2,w9⟩
   |true=>
    rw[if_pos rfl]at q9 ⊢;refine aT (he s3 H3 fp _ s9 τ8 H9 _ I9 q9) λxv s10 ⟨y,H10,I10,r10,hD,m',hm,w10⟩=>?_;refine aT (rm _ s10 τ8 H10 (.ref s2.heap.objs.size) [y] (.ref s2.heap.objs.size) [xv] (λz H'=>∃m',m' < n/\W (i+1) m' (ys++[y]) τ8 H') I10 rfl (.cons r10 .nil) ⟨_,ys,y,rfl,rfl,hD,hz,m',hm,w10⟩) λz s11 ⟨z',H11,I11,_,m'',hm',w11⟩=>?_;obtain⟨k1,k2⟩:=keep I11;exact⟨m'',hm',i+1,ys++[y],τ8,H11,I11.unpinned,k1,k2,w11⟩
 exact codeAny_compStart_list loop (T.self _ 0 _ _ _ st4 loop)
mutual
inductive RdD(K:Aj)(H:Hp):V->Ab->Prop
 |non:RdD K H .non .none
 |bl (b:Bool):RdD K H (.bl b) (.bool b)
 |int (i:Int):RdD K H (.int i) (.int i)
 |str (x:Str):RdD K H (.str x) (.str x)
 |lst {a:Addr} {xs:List V} {ds:List Ab}:SqL K H a xs->RdAll K H xs ds->RdD K H (.ref a) (.list ds)
 |tup {a:Addr} {xs:List V} {ds:List Ab}:SqT K H a xs->RdAll K H xs ds->RdD K H (.ref a) (.tuple ds)
inductive RdAll(K:Aj)(H:Hp):List V->List Ab->Prop
 |nil:RdAll K H [] []
 |cons {x:V} {xs:List V} {d:Ab} {ds:List Ab}:RdD K H x d->RdAll K H xs ds->RdAll K H (x::xs) (d::ds)
end
section
variable{X:Cx}{pins:List (Addr×Obj)}{σ:St}{H:Hp}{s:Ai}
mutual
theorem RdD.reads(I:Inv X pins σ H s):∀{v:V}{d:Ab}{u:Ag},RdD X.K H v d->RelV v u->∃as,Gj s.heap u d as
 |_,_,u,.non,r=>by
  cases(show u=Bd from r);exact⟨_,.none⟩
 |_,_,u,.bl b,r=>by
  cases(show u=Value.bool b from r);exact⟨_,.bool b⟩
 |_,_,u,.int i,r=>by
  obtain⟨t,rfl⟩:=(show ∃t,u=Value.int i t from r);exact⟨_,.int i t⟩
 |_,_,u,.str x,r=>by
  obtain⟨t,rfl⟩:=(show ∃t,u=G5 x t from r);exact⟨_,.str x t⟩
 |_,_,u,.lst (a:=a) h1 h2,r=>by
  cases(show u=Bf a from r);obtain⟨its,rv,⟨o,n,e,c,_,d⟩,_⟩:=I.list h1;obtain⟨as,ha⟩:=RdAll.reads I h2 rv;exact⟨_,.list e c d (by simpa using ha)⟩
 |_,_,u,.tup (a:=a) h1 h2,r=>by
  cases(show u=Bf a from r);obtain⟨its,rv,⟨o,e,c,n,d⟩,_⟩:=I.tuple h1;obtain⟨as,ha⟩:=RdAll.reads I h2 rv;exact⟨_,.tuple e c d (by simpa using ha)⟩
theorem RdAll.reads(I:Inv X pins σ H s):∀{vs:List V}{ds:List Ab}{us:List Ag},RdAll X.K H vs ds->Vals vs us->∃as,G9 s.heap us ds as
 |_,_,_,.nil,.nil=>⟨_,.nil⟩
 |_,_,_,.cons h1 h2,.cons r1 r2=>by
  obtain⟨as,ha⟩:=RdD.reads I h1 r1;obtain⟨bs,hb⟩:=RdAll.reads I h2 r2;exact⟨_,.cons ha hb⟩
end
end
def yx(d:Ab):Prop:=Bm d=ah/\Ce d<=20/\PyData.weight d<=2 ^ 20/\PyData.intsShort 13 d=ah/\PyData.showable d=ah
def nu(K:Aj):R2:=λx y H Q=>∃a b xs,x=.ref a/\y=.ref b/\SqL K H a xs/\SqL K H b []/\Q (.bl xs.isEmpty) H
theorem BX{X:Cx}(hu:X.A.units < Fo):OpR X (B4 .Eq) (nu X.K):=by
 intro pins s σ H x y v u Q I rx ry h;obtain⟨a,b,xs,rfl,rfl,ha,hb,q⟩:=h;cases(show v=Bf a from rx);cases(show u=Bf b from ry);obtain⟨its,r1,p1,_⟩:=I.list ha;obtain⟨its2,r2,p2,_⟩:=I.list hb;have e2:its2=[]:=Vals.zero r2;subst e2;cases r1 with
 |nil=>exact PySem.SeqAt.eq_listAt (e:=λ_=>ah) p1.isList p2.isList rfl hu (λj h1=>absurd h1 (by simp)) ⟨.bl ah,H,I,(by rfl),q⟩
 |cons r1 r3=>exact PySem.SeqAt.eq_list_lengthsAt p1.isList p2.isList (by simp) hu ⟨.bl ai,H,I,rfl,q⟩
def sZ(K:Aj):R2:=λx y H Q=>∃a b xs ys,x=.ref a/\y=.ref b/\SqT K H a xs/\SqT K H b ys/\ys≠[]/\xs.length+ys.length<=A2 /\
 (xs=[]->Q (.ref b) H)/\(xs≠[]->∀p,H p=af->Q (.ref p) (upd H p (.tup (xs++ys))))
theorem op_catA{X:Cx}:OpR X (Fp .Add) (sZ X.K):=by
 intro pins s σ H x y v u Q I rx ry h;obtain⟨a,b,xs,ys,rfl,rfl,ha,hb,hy,hz,q0,q2⟩:=h;by_cases hx:xs=[]
 ·cases(show v=Bf a from rx);cases(show u=Bf b from ry);obtain⟨its,r1,p1,_⟩:=I.tuple ha;obtain⟨its2,r2,p2,_⟩:=I.tuple hb;obtain⟨⟨cls,dd,data,sl⟩,ho,hc,n,hd⟩:=id p1;obtain⟨⟨cls2,dd2,data2,sl2⟩,ho2,hc2,n2,hd2⟩:=id p2;simp only at hc hd hc2 hd2;subst hc hd hc2 hd2;have hi:its=[]:=r1.nil_iff.mpr hx;exact concat_meets ⟨_,ho,rfl⟩ ⟨_,ho2,rfl⟩ noFill_tuple_add seq_tuple_add Gs Gk (F9 _ _)
   (tuple_addW0 a b its.toArray its2.toArray n n2 dd dd2 sl sl2 (by simp[hi])) ⟨ho,ho2,⟨.ref b,H,I,rfl,q0 hx⟩⟩
 ·exact op_catT pins s σ H (.ref a) (.ref b) v u Q I rx ry ⟨a,b,xs,ys,rfl,rfl,ha,hb,hx,hz,λe=>absurd e hy,λ_=>q2 hx⟩
theorem BZ{X:Cx}{T:String}:CallR X (.builtin "isinstance") (λxs H Q=>∃x t b,xs=[x,.ty T]/\TyOf X.K H x t/\PySem.W.kitOne X.K t (.type T)=ae b/\Q (.bl b) H):=by
 intro pins s σ H xs us Q I r h;obtain⟨x,t,b,rfl,ty,e,q⟩:=h;obtain⟨u,u',rfl,ru,ru'⟩:=qx r;cases(show u'=C9 T from ru');exact JL I ru ty e λtk=>⟨.bl b,H,I.tok tk,rfl,q⟩
section
variable{prog:Bn}{w:By}{A:Bt}{E:Ag->Ai->Prop}{s:Ai}
theorem vC:entryFor table "dict.update.loop"=ae D8.«dict.update.loop»:=Hd (by kernel_rfl)
theorem oG:plainId "dict.update.loop"=ah:=by decide +kernel
theorem FT:typeLookup (.type "tuple") "keys"=pure af:=by rw[typeLookup_type,builtinLookup_eq_fast];kernel_rfl
theorem DK{a:Addr}{its:List Ag}{Q:List Ag->Ai->Prop}(p:IsTup s.heap a its.toArray)(h:Q its s):Av (A7 prog w) A (Builtin.Dict.pairItems (.ref a)) Q E s:=by
 obtain⟨o,ho,hc,n,hd⟩:=id p;unfold Builtin.Dict.pairItems;refine Aa (Ez (show s.TypeIs (.ref a) "tuple" from⟨o,ho,hc⟩) ?_);rw[if_pos ∎];refine Aa (Ct ho hd (Af ?_));simpa using h
set_option maxRecDepth 8000 in
theorem LS{a:Addr}{o:Obj}{xs:Array Ag}{k:Nat}{name:Str}{Q:Option Ag->Ai->Prop}
  (hx:s.heap.get? a=ae o) (hc:o.cls=.type "tuple") (hdat:o.data=.seq xs k) (hd:o.dict=af) (hmiss:typeLookup (.type "tuple") name=pure af) (hname:(["__module__","__name__","__qualname__","__doc__","__annotations__"]:List Str).contains name=ai) (hA:A.handled=af)
  (h:∀h' tk e,Heap.NewExcOf s.heap h' e "AttributeError"->Q af {s with heap:=h',toks:=tk}) (hsz:name.length+100<=A2:=by size_fits):
  Av (A7 prog w) A (getAttr? (.ref a) name) Q E s:=by
 obtain⟨c,dct,dat,sl⟩:=o;simp only at hc hdat hd;subst hc hdat hd;obtain⟨hp,g,d,tk,os⟩:=s;have hT:∀tk',(⟨hp,g,d,tk',os⟩:Ai).TypeIs (.ref a) "tuple":=λ_=>⟨_,hx,rfl⟩;have f1:=sub_AttributeError;have f3:=F.slot_tuple_getattribute.lookup;have f4:=F.slot_tuple_getattribute.bind (.ref a);have f5:=am_tuple_getattr_none;unfold getAttr? getAttrBy? getAttrBy
 repeat (any_goals (first|assumption|exact hT _|((with_reducible show Av _ _ (call (Value.builtin "tuple.__getattribute__") _ _) _ _ _);refine call_meets F.slot_tuple_getattribute (hT _) am_entry_tuple_getattribute (F.args_tuple_getattribute_2 _ _) (meets_getattribute_miss_tuple a xs k sl name _ hmiss hname hsz) ⟨hx,hA,λh' tk' e hx'=>?_⟩)|wp_step))
 obtain⟨t',u',he⟩:=hx'.there;show Av _ _ (getattributeRaised _ _ _ _ _ _ _) _ _ _;unfold getattributeRaised
 repeat (any_goals (first|assumption|wp_step))
 exact h _ _ _ hx'.of
end
section
variable{X:Cx}{pins:List (Addr×Obj)}{σ:St}{A:Bt}{R:Result->Ai->Prop}
theorem gS{n:Nat}(h:n<=1000):n<=A2:=Gb (tO h)
end
def vH(x:Str):It:=⟨λi _=>i < x.cps.size,λi H y H'=>H'=H/\∃c,x.cps[i]?=ae c/\y=.str ⟨#[c]⟩,λi _=>i=x.cps.size⟩
theorem xO{P:Bn}{w:By}{K:Aj}{tg:Expr}{T:String}{x:Str}{t:Tok}(it:Addr)
  (hn:["enumerate","zip","dict_itemiterator","dict_reverseitemiterator","odict_iterator","itertools.zip_longest","itertools.pairwise"].contains T=ai)
  (hW:∀A:Bt,A.handled=af->Walks P w A it [it] [it] x.cps.size (SignAt x) (λi h=>h.IsStrIter it T x t i))
  (hS:∀(A:Bt)(i:Nat)(s:Ai)(Q:Ag->Ai->Prop)(E:Ag->Ai->Prop),s.heap.IsStrIter it T x t i->Q (.ref it) s->Av (A7 P w) A (pyIter (.ref it)) Q E s):
  Turn P w K tg (vH x) [it] it (λi h=>h.IsStrIter it T x t i) where
 mem:=by simp
 obj:=λi h st b hb=>by
  have e:b=it:=by simpa using hb
  subst e;obtain⟨o,e,c,d⟩:=st;exact⟨o,e,λv z=>by rw[d]at z;cases z⟩
 keep:=λi h h' st k=>let⟨o,ho,r⟩:=st;⟨o,k it (by simp) o ho,r⟩
 item:=by
  intro X hP hw hK hc i pins s σ H E I hf st hg;subst hP hw hK;obtain⟨f0,f1,f2,f3,f4,f5⟩:=hf it (by simp);refine(hW X.A (I.ok.hd hc)).item i s _ _ hg st λv h' tk hv st' kk=>?_;obtain⟨c,u,hcu,rfl⟩:=hv;have I1:Inv X pins σ H {s with heap:=h',toks:=tk}:=I.turned (λb o hb e=>kk b o (by simpa using hb) e) f0 f1 f3 f4 f5;obtain⟨o,e,cc,d⟩:=id st';exact⟨_,rfl,mJ (s:={ s with heap:=h',toks:=tk}) e cc d hn ⟨.str ⟨#[c]⟩,H,I1,⟨u,rfl⟩,⟨rfl,c,hcu,rfl⟩,st',λb hb=>(hf b hb).1⟩⟩
 done:=by
  intro X hP hw hK hc i pins s σ H E I hf st hg;subst hP hw hK;obtain⟨f0,f1,f2,f3,f4,f5⟩:=hf it (by simp);have hi:i=x.cps.size:=hg;subst hi;exact(hW X.A (I.ok.hd hc)).done s _ _ st λh' tk kk=>⟨rfl,I.turned (λb o hb e=>kk b o (by simpa using hb) e) f0 f1 f3 f4 f5⟩
 self:=λA i s Q E st h=>hS A i s Q E st h
def lZ(tl:TE):TI:=λσ H R=>tl σ H λv H1=>∃x,v=.str x/\R (vH x) H1
theorem L6{X:Cx}{tg l:Expr}{tl:TE}(hl:PE X l tl):PI X tg l (lZ tl):=by
 intro pins s σ H R I h;refine aT (hl pins s σ H _ I h) λv s1 ⟨y,H1,I1,r1,q1⟩=>?_;obtain⟨x,e,q⟩:=q1;subst e;obtain⟨t,rfl⟩:=(show ∃t,v=G5 x t from r1);have fp:∀(o:Obj)(b:Addr),b∈[s1.heap.objs.size]->cm X pins H1 b:=λo b hb=>by
  have e:b=s1.heap.objs.size:=by simpa using hb
  subst e;exact I1.fpOk (Aq _) (I1.hok.fresh (Aq _))
 cases ha:x.cps.all (· < 128)
 ·refine wpAny_pyIter_wide ha ?_;exact⟨s1.heap.objs.size,[s1.heap.objs.size],_,_,H1,rfl,I1.kept (t':=s1.toks) λb o e=>Ae _ e,
   xO (T:="str_iterator") (t:=t) _ ∎ (λA hA=>Walks.strWide hA _ x t) (λ_ _ _ _ _ st h=>wpAny_pyIter_striter_wide st h),⟨_,As _ rfl,rfl,rfl⟩,fp default,q⟩
 ·refine wpAny_pyIter_ascii ha ?_;exact⟨s1.heap.objs.size,[s1.heap.objs.size],_,_,H1,rfl,I1.kept (t':=s1.toks) λb o e=>Ae _ e,
   xO (T:="str_ascii_iterator") (t:=t) _ ∎ (λA hA=>Walks.strAscii hA _ x t) (λ_ _ _ _ _ st h=>wpAny_pyIter_striter_ascii st h),⟨_,As _ rfl,rfl,rfl⟩,fp default,q⟩
theorem Ms(bs:List Bool):((Bh bs.length).all λi=>(bs[i]?).getD ah)=bs.all id:=by
 rw[D7,Cq,Cq]
 constructor
 ·intro h b hb;obtain⟨i,hi,rfl⟩:=List.mem_iff_getElem.mp hb;have:=h i (Bs.mpr hi);rw[Ah hi]at this;exact this
 ·intro h i hi;have hi':=Bs.mp hi;rw[Ah hi'];exact h _ (Ed hi')
theorem EO{X:Cx}(hh:X.A.handled=af):CallR X (.builtin "all") (λxs H Q=>∃(p:Addr)(bs:List Bool),xs=[.ref p]/\H p=ae (.lst (bs.map V.bl))/\Q (.bl (bs.all id)) H):=by
 intro pins s σ H xs us Q I r h;obtain⟨p,bs,rfl,hp,q⟩:=h;obtain⟨u,rfl,ru⟩:=fe r;cases(show u=Bf p from ru);obtain⟨its,rv,pl,_⟩:=I.list (SqL.of (K:=X.K) hp);have hl:s.heap.IsList p its.toArray:=pl.isList;have hlt:p < s.heap.objs.size:=by obtain⟨_,e,_⟩:=hl;exact An e
 have hlen:bs.length=its.length:=by have:=rv.length;rwa [Ad]at this
 refine call_all_walk (wpAny_pyIter_list hl ?_);refine⟨s.heap.objs.size,[s.heap.objs.size,p],[s.heap.objs.size],its.toArray.size,_,_,λi=>(bs[i]?).getD ah,rfl,Walks.list (A:=X.A.in1) hh _ p (Be hlt) its.toArray,
  ⟨⟨_,As _ rfl,rfl,rfl⟩,hl.push _⟩,λi v s' Q' E' hP hQ=>?_,λh' tk hk=>?_⟩
 ·have hi:its[i]?=ae v:=by simpa using hP
  have hib:i < bs.length:=by rw[hlen];exact(Bo.mp hi).1
  have hx:(bs.map V.bl)[i]?=ae (V.bl bs[i]):=by simp[hib]
  obtain⟨u,hu,ru⟩:=rv.get hx;rw[hi]at hu;cases(Bi hu);cases(show v=Value.bool bs[i]from ru);dsimp only at hQ;rw[Ah hib,Option.getD_some]at hQ;exact Dw hQ
 ·have e:((Bh its.toArray.size).all λi=>(bs[i]?).getD ah)=bs.all id:=by
   rw[Ap,<-hlen];exact Ms bs
  rw[e];refine⟨.bl (bs.all id),H,I.kept λb x e=>hk b x (λhm=>?_) (Ae _ e),rfl,q⟩;rw[A8.mp hm]at e;exact C2 _ (An e)
theorem EX{X:Cx}:OpR X (B4 .LtE) (λx y H Q=>∃i j,x=.str i/\y=.str j/\Q (.bl (!decide (j.cps.toList < i.cps.toList))) H):=by
 intro pins s σ H x y v u Q I rx ry h;obtain⟨i,j,rfl,rfl,q⟩:=h;obtain⟨t,rfl⟩:=rx;obtain⟨t',rfl⟩:=ry;exact P.le_str (bR I q rfl)
theorem OE{X:Cx}:OpR X (B4 .Gt) (λx y H Q=>∃i j,x=.str i/\y=.str j/\Q (.bl (decide (j.cps.toList < i.cps.toList))) H):=by
 intro pins s σ H x y v u Q I rx ry h;obtain⟨i,j,rfl,rfl,q⟩:=h;obtain⟨t,rfl⟩:=rx;obtain⟨t',rfl⟩:=ry;exact P.gt_str (bR I q rfl)
def ou:Ab->String
 |.none=>"NoneType"
 |.bool _=>"bool"
 |.int _=>"int"
 |.str _=>"str"
 |.list _=>"list"
 |.tuple _=>"tuple"
 |.dict _=>"dict"
def bE(T:String)(d:Ab):Bool:=ou d==T || (T=="int"&&ou d=="bool")
def eZ(h:Str):Ab->Bool
 |.str x=>decide (x=h)
 |_=>ai
theorem uh{X:Cx}{elt tg iter:Expr}{ifs:List Expr}{scope:Fu}{cl:List (Str×Addr)}{cpos pos pos':Pos}{N:List Str}{fr:List (Option Nat)}{wi:TI}{g:TG}{tt:TT}{te:TE}{i:Nat}{x:Str}
  (hN:X.N.Nodup) (hix:X.N[i]?=ae x) (hx:X.env.scope.names.lookup x=ae .local)
  (hc:X.calm=ah) (S:CompSc X N scope cl fr) (hi:PI X tg iter wi) (hg:∀s H fp,PG (cu X N scope cl s H fp) tg g) (ht:∀s H fp,kK (cu X N scope cl s H fp) ifs tt)
  (he:∀s H fp,PE (cu X N scope cl s H fp) elt te) (hs:∀x,Fc iter X.env x=pure x:=by intro _;rfl)
  (hsw:F1 (.ListComp elt [⟨tg,iter,ifs,0⟩] scope cpos) (ae (.Name x pos')) pos.line X.env=pure ah:=by rfl):
  PS X (.Assign [.Name x pos'] (.ListComp elt [⟨tg,iter,ifs,0⟩] scope cpos) pos) (c6 (mx fr wi g tt te) (gc i)):=by
 intro pins s σ H D I h;rw[exec_Assign_Name_used _ _ _ _ hsw];refine Aa (wpAny_standAt (Aa ?_));show Av _ _ (do let _ <-comprehension (.ListComp elt [⟨tg,iter,ifs,0⟩] scope cpos) scope X.env (firstIterPos [⟨tg,iter,ifs,0⟩] cpos) (newList []) (firstAsync [⟨tg,iter,ifs,0⟩]) (firstIter [⟨tg,iter,ifs,0⟩] X.env) (ae (assign (.Name x pos') X.env))) _ _ s;refine Aa ?_;have fin:∀(u:Unit)(s':Ai),SP X pins D .next s'->Av (A7 X.prog X.w) X.A (pure Flow.next) (SP X pins D) X.xe s':=λ_ s' z=>Af z
 refine aT (Q:=λ_ s'=>SP X pins D .next s') ?_ λ_ s' z=>Af (Af z);refine wpAny_comprehension_free (use:=ae (assign (.Name x pos') X.env)) (cl:=cl) rfl hs S.clos S.kind S.names (aT (hi pins s σ H _ I h) λv s1 h1=>aT h1 λitv s2 h2=>?_);obtain⟨it,fp,tn,J,H2,e,I2,T,st2,f2,q⟩:=h2;subst e;refine Bq (wpAny_newFunctionEnv S.nocell (by intro y hy;simp at hy) (λh₁ hn hsb=>?_) S.kind);dsimp only at hn hsb ⊢;obtain⟨W,⟨m0,w0⟩,turn⟩:=q s2.heap.objs.size I2.fresh
 have I3:Inv X pins σ (upd H2 s2.heap.objs.size (.lst [])) {s2 with heap:=s2.heap.push {cls:=.type "list",dict:=af,data:=.seq ([]:List Ag).toArray}}:=I2.lnew (its:=[]) (t':=s2.toks) .nil (Bc _);have key:∀s3:Ai,s3={ s2 with heap:=s2.heap.push {cls:=.type "list",dict:=af,data:=.seq ([]:List Ag).toArray}}->Inv X pins σ (upd H2 s2.heap.objs.size (.lst [])) s3->
   ∀(ob:Obj)(mm:Str->Option Ag),Dh s3.heap.objs.size (s3.heap.push ob) h₁->h₁.Ns s3.heap.objs.size mm->
   Gm (A7 X.prog X.w) X.A (.compStart (.ListComp elt [⟨tg,iter,ifs,0⟩] scope cpos) 0 (.ref it) (.ref s2.heap.objs.size) (compEnvC scope cl s3.heap.objs.size X.env))
    (compPost (A7 X.prog X.w) X.A X.xe (ae (assign (.Name x pos') X.env)) (λ_ s'=>SP X pins D .next s') (.ref s2.heap.objs.size) s3.heap.objs.size) {s3 with heap:=h₁,toks:=s3.toks+([]:List (Str×Ag)).length}:=?key
 ·exact key _ rfl I3 _ _ hsb hn
 clear I3 hn hsb;intro s3 hs3 I3 ob mm hsb hn;have hfp:∀b∈fp,∃o,s2.heap.get? b=ae o:=λb hb=>let⟨o,e,_⟩:=T.obj _ _ st2 b hb;⟨o,e⟩;have up:∀b o,s2.heap.get? b=ae o->s3.heap.get? b=ae o:=λb o e=>by rw[hs3];exact Ae _ e
 have f3:∀b∈fp,cm X pins (upd H2 s2.heap.objs.size (.lst [])) b:=λb hb=>by
  obtain⟨o,e⟩:=hfp b hb;obtain⟨g0,gr⟩:=f2 b hb;exact⟨by rw[aX (Be (An e))];exact g0,gr⟩
 have hlt:∀b∈fp,b < s3.heap.objs.size:=λb hb=>let⟨o,e⟩:=hfp b hb;An (up b o e);generalize hH3:upd H2 s2.heap.objs.size (.lst [])=H3 at I3 f3 w0;have I4:=vV (t':=s3.toks+([]:List (Str×Ag)).length) S I3 f3 hlt hsb hn;have st4:tn 0 h₁:=T.keep _ _ _ st2 λb hb o e=>(hsb.2 b (Be (An (up b o e)))).trans (Ae _ (up b o e));have stat:∀{H':Hp},(∀b∈fp,H' b=af)->∀b∈fp,cm (cu X N scope cl s3 H3 fp) [] H' b:=λhn b hb=>by
  obtain⟨_,k1,k2,k3,k4,k5⟩:=f3 b hb;refine⟨hn b hb,Be (hlt b hb),λz=>?_,.inl hb,λx c e=>k4 x c (S.sub x c e),λp hp=>absurd hp (by simp[cu])⟩;rcases Al.mp (I3.stkSub b z)with e|e
  ·exact k1 e
  ·exact k2 e
 have loop:Gm (A7 X.prog X.w) X.A (.compLoop (.ListComp elt [⟨tg,iter,ifs,0⟩] scope cpos) 0 (.ref it) (.ref s2.heap.objs.size) (compEnvC scope cl s3.heap.objs.size X.env))
   (compPost (A7 X.prog X.w) X.A X.xe (ae (assign (.Name x pos') X.env)) (λ_ s'=>SP X pins D .next s') (.ref s2.heap.objs.size) s3.heap.objs.size) {s3 with heap:=h₁,toks:=s3.toks+([]:List (Str×Ag)).length}:=by
  refine wm (λn s'=>∃i ys τ Hc,Inv (cu X N scope cl s3 H3 fp) [] τ Hc s'/\tn i s'.heap/\(∀b∈fp,Hc b=af)/\W i n ys τ Hc) ?_ m0 ⟨0,[],cW fr σ,H3,I4,st4,λb hb=>(f3 b hb).1,w0⟩
  rintro n s5 ⟨i,ys,τ,Hc,I5,st5,fr5,w5⟩
  rcases turn i n ys τ Hc w5 with⟨stop,qn⟩|⟨go,hz,step⟩
  ·refine aT (T.done (cu X N scope cl s3 H3 fp) rfl rfl rfl hc i [] s5 τ Hc (λ_ _=>False) I5 (stat fr5) st5 stop) λr s6 ⟨hr,I6⟩=>?_;subst hr;obtain⟨mm,hm,_⟩:=I6.loc;have I6x:Inv X pins σ Hc s6:=vb I3 f3 I6 (Heap.SameBut.refl _ _);have hC:Hc s3.heap.objs.size=af:=I6.free;obtain⟨_,c1,_,c3,c4,c5⟩:=I3.fpOk (H':=Hc) (Aq _) hC;show Av (A7 X.prog X.w) X.A (assign (.Name x pos') X.env (.ref s2.heap.objs.size)) _ X.xe s6;refine wpAny_assign_Name (tP I6x hN hix (.inl hx) (show RelV (.ref s2.heap.objs.size) (Bf s2.heap.objs.size)from rfl) (λs7 I7 hsb=>?_) (.inr hx));obtain⟨ad,hsb,had⟩:=hsb;have hne:s3.heap.objs.size≠ad:=by
    rcases had with z|z
    ·rw[z];exact c1
    ·exact λq=>c4 x ad z q.symm
   obtain⟨oo,es,ep,ho,rr⟩:=hm;refine⟨mm,⟨oo,es,ep,(hsb.2 _ hne).trans ho,rr⟩,λh' hs'=>⟨_,Hc,?_,qn⟩⟩;have ne:∀b,b∉[s3.heap.objs.size]->b≠s3.heap.objs.size:=λb z q=>z (by rw[q];exact A8.mpr rfl);have hok':HOk X.prog X.w Hc h':=λb o e=>by
    refine(I7.hok b o e).stay (λc v hc z=>(hs'.2 c ?_).trans z) (λ_ z=>z) λ_ _ z=>z
    rintro rfl
    rcases hc with z|z
    ·rw[<-z,hC]at e;cases e
    ·rw[hC]at z;cases z
   refine I7.call' (s':={ s7 with heap:=h'}) (ch:=[s3.heap.objs.size]) rfl ?_ hok' I7.bare λb hb=>?_
   ·exact⟨λb o e n h1 h2=>(hs'.2 b (ne b h2)).trans e,λb o e n h1 h2=>⟨o.slots,(hs'.2 b (ne b h2)).trans e⟩,λb o e n h2=>n,λb o e h2=>⟨o,(hs'.2 b (ne b h2)).trans e⟩,λ_ _ z=>z,λ_ _ _ z=>z,λb ps z=>⟨#[],by rw[Array.append_empty];exact z⟩⟩
   ·cases A8.mp hb;exact⟨c3,c1,c4,c5⟩
  ·refine aT (T.item (cu X N scope cl s3 H3 fp) rfl rfl rfl hc i [] s5 τ Hc (λ_ _=>False) I5 (stat fr5) st5 go) λr s6 ⟨u,hr,h6⟩=>?_;subst hr;refine aT h6 λ_ s7 ⟨x,H7,I7,r7,y7,st7,fr7⟩=>?_;have I7':=I7.pinned (stat fr7) (T.obj _ _ st7);refine aT (hg s3 H3 fp _ s7 τ H7 x u _ I7' r7 (step x H7 y7)) λ_ s8 ⟨τ8,H8,I8,q8⟩=>?_;refine aT (ht s3 H3 fp _ s8 τ8 H8 _ I8 q8) λok s9 ⟨H9,I9,q9⟩=>?_;have keep:∀{st:Ai}{τ':St}{H':Hp},Inv (cu X N scope cl s3 H3 fp) ([]++jS fp s7.heap) τ' H' st->tn (i+1) st.heap/\∀b∈fp,H' b=af:=λ{st τ' H'} Ix=>by
    refine⟨T.keep _ _ _ st7 λb hb o e=>(Ix.pin (b,o) (A1 _ (A1 _ (j3 hb e)))).1,λb hb=>?_⟩;obtain⟨o,e,d⟩:=T.obj _ _ st7 b hb;exact(Ix.pin (b,o) (A1 _ (A1 _ (j3 hb e)))).2.1
   cases ok with
   |false=>
    rw[if_neg Au]at q9 ⊢;obtain⟨m',hm,w9⟩:=q9;obtain⟨k1,k2⟩:=keep I9;exact⟨m',hm,i+1,ys,τ8,H9,I9.unpinned,k1,k2,w9⟩
   |true=>
    rw[if_pos rfl]at q9 ⊢;refine aT (he s3 H3 fp _ s9 τ8 H9 _ I9 q9) λxv s10 ⟨y,H10,I10,r10,hD,m',hm,w10⟩=>?_;refine aT (rm _ s10 τ8 H10 (.ref s2.heap.objs.size) [y] (.ref s2.heap.objs.size) [xv] (λz H'=>∃m',m' < n/\W (i+1) m' (ys++[y]) τ8 H') I10 rfl (.cons r10 .nil) ⟨_,ys,y,rfl,rfl,hD,hz,m',hm,w10⟩) λz s11 ⟨z',H11,I11,_,m'',hm',w11⟩=>?_;obtain⟨k1,k2⟩:=keep I11;exact⟨m'',hm',i+1,ys++[y],τ8,H11,I11.unpinned,k1,k2,w11⟩
 exact codeAny_compStart_list loop (T.self _ 0 _ _ _ st4 loop)
end L2
set_option Elab.async false
set_option maxRecDepth 100000
namespace Nb
open PySem L2
def Kp(t:Addr)(H H':Hp):Prop:=∀b o,H b=ae o->b≠t->H' b=ae o
theorem Kp.refl(t:Addr)(H:Hp):Kp t H H:=λ_ _ h _=>h
theorem Kp.trans{t:Addr}{H H1 H2:Hp}(a:Kp t H H1)(b:Kp t H1 H2):Kp t H H2:=λc o h n=>b c o (a c o h n) n
theorem Kp.new{t p:Addr}{H:Hp}{o:HO}(h:H p=af):Kp t H (upd H p o):=λc o' e _=>by
 rw[aX (b7 e h)];exact e
theorem Kp.tape{t:Addr}{H:Hp}{o:HO}:Kp t H (upd H t o):=λc o' e n=>by
 rw[aX n];exact e
structure TL where
 s:Addr
 g:Addr
def ig(l:TL):List V:=if lR=ah then[.ref l.g]else[]
structure Tp(H:Hp)(t:Addr)(l:TL)(ns:List Int)(n:Int):Prop where
 ob:∃a b:Int,H t=ae (.lst (.ref l.s::.int a::.int b::ig l))/\0<=a/\a<=n
 ls:H l.s=ae (.lst (ns.map V.int))
 len:ns.length<=63
 ag:lR=ah->H l.g=ae (.lst nA)
 gne:l.g≠t
theorem Tp.ne{H:Hp}{t:Addr}{l:TL}{ns:List Int}{n:Int}(T:Tp H t l ns n):t≠l.s:=by
 obtain⟨a,b,h,_⟩:=T.ob;refine ID h T.ls λz=>?_;have z':(.ref l.s::.int a::.int b::ig l:List V)=ns.map V.int:=HO.lst.inj z;cases ns with
 |nil=>cases z'
 |cons m r=>
  rw[A5]at z';have:=(Gz z').1;cases this
theorem Tp.other{H:Hp}{t p:Addr}{l:TL}{ns:List Int}{n:Int}{o:HO}(T:Tp H t l ns n)(h1:t≠p)(h2:l.s≠p)(h3:lR=ah->l.g≠p):Tp (upd H p o) t l ns n:=by
 obtain⟨a,b,e,h⟩:=T.ob;exact⟨⟨a,b,by rw[aX h1];exact e,h⟩,by rw[aX h2];exact T.ls,T.len,λz=>by rw[aX (h3 z)];exact T.ag z,T.gne⟩
theorem Tp.new{H:Hp}{t p:Addr}{l:TL}{ns:List Int}{n:Int}{o:HO}(T:Tp H t l ns n)(h:H p=af):Tp (upd H p o) t l ns n:=by
 obtain⟨a,b,e,_⟩:=T.ob;exact T.other (b7 e h) (b7 T.ls h) λz=>b7 (T.ag z) h
theorem HL{xs:List V}{r:Int}(h0:0<=r)(h1:r < xs.length):∃v,cM xs r=ae v/\v∈xs:=by
 obtain⟨j,rfl⟩:=El h0;have hj:j < xs.length:=by omega
 exact⟨xs[j],eE (Ah hj),Ed hj⟩
theorem lH{n:Nat}(h:n<=1000):n<=A2:=Gb (tO h)
theorem Ow:Bx "tuple"=ae (.type "tuple"):=by decide +kernel
theorem Jt:Bx "dict"=ae (.type "dict"):=by decide +kernel
theorem Jp:Bx "int"=ae (.type "int"):=by decide +kernel
theorem Nr:Bx "str"=ae (.type "str"):=by decide +kernel
theorem CZ:Bx "repr"=ae (.builtin "repr"):=by decide +kernel
theorem uH:Bx "isinstance"=ae (.builtin "isinstance"):=by decide +kernel
theorem Ly:Bx "all"=ae (.builtin "all"):=by decide +kernel
theorem pq:Bx "list"=ae (.type "list"):=by decide +kernel
theorem FJ:Bx "bool"=ae (.type "bool"):=by decide +kernel
theorem GV{xs:List V}(h:xs.length<=63):d7 xs af (ae 63)=xs:=by
 unfold d7;have e1:HT.sIx xs.length 0 af=0:=rfl;have e2:HT.sIx xs.length xs.length (ae 63)=xs.length:=by
  have e:=HT.sIx_nat xs.length xs.length 63;rw[show((63:Nat):Int)=63 from rfl]at e;rw[e];omega
 rw[e1,e2,List.drop_zero,Nat.sub_zero,G7]
def l6(K:Aj):Sp:=λvs H Q _=>∃(a:Addr)(ns:List Int),vs=[.ref a]/\SqL K H a (ns.map V.int)/\ns.length<=63 /\
 ∀(t:Addr)(l:TL)(H':Hp),Tp H' t l ns 0->(∀b o,H b=ae o->H' b=ae o)->Q (.ref t) H'
def ze:Sp:=λvs H Q _=>∃(t:Addr)(l:TL)(ns:List Int)(n many:Int),vs=[.ref t,.int many]/\Tp H t l ns n/\n < 2 ^ 40/\0 < many/\many < 1073741824 /\
 ∀(r:Int)(H':Hp),0<=r->r < many->Tp H' t l ns (n+1)->Kp t H H'->Q (.int r) H'
end Nb
namespace DL
open PySem L2 Nb
abbrev D:=Ab
mutual
inductive RdX(H:Hp)(B:Addr->Prop):V->Ab->Prop
 |non:RdX H B .non .none
 |bl (b:Bool):RdX H B (.bl b) (.bool b)
 |int (i:Int):RdX H B (.int i) (.int i)
 |str (x:Str) (h:x.length<=A2):RdX H B (.str x) (.str x)
 |lst {a:Addr} {xs:List V} {ds:List Ab}:H a=ae (.lst xs)->¬B a->xs.length<=A2->RdXs H B xs ds->RdX H B (.ref a) (.list ds)
 |tup {a:Addr} {xs:List V} {ds:List Ab}:H a=ae (.tup xs)->¬B a->xs.length<=A2->RdXs H B xs ds->RdX H B (.ref a) (.tuple ds)
inductive RdXs(H:Hp)(B:Addr->Prop):List V->List Ab->Prop
 |nil:RdXs H B [] []
 |cons {x:V} {xs:List V} {d:Ab} {ds:List Ab}:RdX H B x d->RdXs H B xs ds->RdXs H B (x::xs) (d::ds)
end
mutual
theorem RdX.move{H H':Hp}{B B':Addr->Prop}(k:∀b o,H b=ae o->¬B b->H' b=ae o/\¬B' b):∀{v:V}{d:Ab},RdX H B v d->RdX H' B' v d
 |_,_,.non=>.non
 |_,_,.bl b=>.bl b
 |_,_,.int i=>.int i
 |_,_,.str x h=>.str x h
 |_,_,.lst h1 h2 h3 h4=>.lst (k _ _ h1 h2).1 (k _ _ h1 h2).2 h3 (RdXs.move k h4)
 |_,_,.tup h1 h2 h3 h4=>.tup (k _ _ h1 h2).1 (k _ _ h1 h2).2 h3 (RdXs.move k h4)
theorem RdXs.move{H H':Hp}{B B':Addr->Prop}(k:∀b o,H b=ae o->¬B b->H' b=ae o/\¬B' b):∀{vs:List V}{ds:List Ab},RdXs H B vs ds->RdXs H' B' vs ds
 |_,_,.nil=>.nil
 |_,_,.cons h1 h2=>.cons (RdX.move k h1) (RdXs.move k h2)
end
section
variable{H H':Hp}{B B':Addr->Prop}{v:V}{d:Ab}{vs ws:List V}{ds es:List Ab}{t:Addr}
theorem RdX.kp(k:Kp t H H')(ht:B t)(h:RdX H B v d):RdX H' B v d:=h.move λb o e n=>⟨k b o e λz=>n (z▸ht),n⟩
theorem RdXs.kp(k:Kp t H H')(ht:B t)(h:RdXs H B vs ds):RdXs H' B vs ds:=h.move λb o e n=>⟨k b o e λz=>n (z▸ht),n⟩
theorem RdX.less(k:∀b,B' b->B b)(h:RdX H B v d):RdX H B' v d:=h.move λb o e n=>⟨e,λz=>n (k b z)⟩
theorem RdXs.less(k:∀b,B' b->B b)(h:RdXs H B vs ds):RdXs H B' vs ds:=h.move λb o e n=>⟨e,λz=>n (k b z)⟩
theorem RdXs.keep(k:∀b o,H b=ae o->¬B b->H' b=ae o)(h:RdXs H B vs ds):RdXs H' B vs ds:=h.move λb o e n=>⟨k b o e n,n⟩
theorem RdXs.len:∀{vs:List V}{ds:List Ab},RdXs H B vs ds->vs.length=ds.length
 |_,_,.nil=>rfl
 |_,_,.cons _ t=>by rw[Ax,Ax,RdXs.len t]
theorem RdXs.getD:∀{vs:List V}{ds:List Ab}{i:Nat}{d:Ab},RdXs H B vs ds->ds[i]?=ae d->∃v,vs[i]?=ae v/\RdX H B v d
 |_,_,_,_,.nil,e=>by simp at e
 |_,_,0,_,.cons h _,e=>by
  simp at e;subst e;exact⟨_,rfl,h⟩
 |_,_,i+1,d,.cons _ t,e=>by
  obtain⟨v,h1,h2⟩:=RdXs.getD (i:=i) (d:=d) t (by simpa using e);exact⟨v,by simpa using h1,h2⟩
theorem RdXs.append:∀{vs ws:List V}{ds es:List Ab},RdXs H B vs ds->RdXs H B ws es->RdXs H B (vs++ws) (ds++es)
 |_,_,_,_,.nil,h=>h
 |_,_,_,_,.cons h1 h2,h=>.cons h1 (RdXs.append h2 h)
theorem RdXs.set:∀{vs:List V}{ds:List Ab}(i:Nat){v:V}{d:Ab},RdXs H B vs ds->RdX H B v d->RdXs H B (vs.set i v) (ds.set i d)
 |_,_,_,_,_,.nil,_=>.nil
 |_,_,0,_,_,.cons _ t,h=>.cons h t
 |_,_,i+1,_,_,.cons q t,h=>.cons q (RdXs.set i t h)
theorem RdXs.take:∀{vs:List V}{ds:List Ab}(n:Nat),RdXs H B vs ds->RdXs H B (vs.take n) (ds.take n)
 |_,_,0,_=>.nil
 |_,_,_+1,.nil=>.nil
 |_,_,n+1,.cons r t=>.cons r (RdXs.take n t)
theorem RdXs.drop:∀{vs:List V}{ds:List Ab}(n:Nat),RdXs H B vs ds->RdXs H B (vs.drop n) (ds.drop n)
 |_,_,0,r=>r
 |_,_,_+1,.nil=>.nil
 |_,_,n+1,.cons _ t=>RdXs.drop n t
end
mutual
theorem RdX.rd{K:Aj}{H:Hp}{B:Addr->Prop}:∀{v:V}{d:Ab},RdX H B v d->RdD K H v d
 |_,_,.non=>.non
 |_,_,.bl b=>.bl b
 |_,_,.int i=>.int i
 |_,_,.str x h=>.str x
 |_,_,.lst h1 h2 h3 h4=>.lst (SqL.of h1) (RdXs.rd h4)
 |_,_,.tup h1 h2 h3 h4=>.tup (SqT.of h1) (RdXs.rd h4)
theorem RdXs.rd{K:Aj}{H:Hp}{B:Addr->Prop}:∀{vs:List V}{ds:List Ab},RdXs H B vs ds->RdAll K H vs ds
 |_,_,.nil=>.nil
 |_,_,.cons h1 h2=>.cons (RdX.rd h1) (RdXs.rd h2)
end
inductive Ob where
 |o|p (d:Ab)|k (m:List (bA×Ab))|q (d:Ab) (m:List (bA×Ab))
inductive Wv where
 |d (x:Ab)|tp|dk (kvs:List (bA×Ab))|ln (ds:List Ab)|ob (o:Ob)
def Wv.lent:Wv->Bool
 |.dk _=>ah
 |.ln _=>ah
 |_=>ai
inductive SV where
 |w (x:Wv)|own (ds:List Ab)|odk (kvs:List (bA×Ab))|odt (kvs:List (List bA×Ab))
abbrev Sl:=List (Option SV)
def RdK(H:Hp)(B:Addr->Prop):List (bA×V)->List (bA×Ab)->Prop:=Paired λp q=>p.1=q.1/\RdX H B p.2 q.2
theorem RdK.move{H H':Hp}{B B':Addr->Prop}(k:∀b o,H b=ae o->¬B b->H' b=ae o/\¬B' b){l:List (bA×V)}{m:List (bA×Ab)}(h:RdK H B l m):RdK H' B' l m:=
 Paired.mapP h λ_ _ z=>⟨z.1,z.2.move k⟩
def RdT(H:Hp)(B:Addr->Prop):List (List bA×V)->List (List bA×Ab)->Prop:=Paired λp q=>p.1=q.1/\RdX H B p.2 q.2
theorem RdT.move{H H':Hp}{B B':Addr->Prop}(k:∀b o,H b=ae o->¬B b->H' b=ae o/\¬B' b){l:List (List bA×V)}{m:List (List bA×Ab)}(h:RdT H B l m):RdT H' B' l m:=
 Paired.mapP h λ_ _ z=>⟨z.1,z.2.move k⟩
def ORel(H:Hp)(B:Addr->Prop)(v:V):Ob->Prop
 |.o=>∃a,v=.ref a
 |.p d=>∃a x y,v=.ref a/\H a=ae (.tup [x,y])/\¬B a/\RdX H B x d
 |.k m=>∃a l,v=.ref a/\H a=ae (.dK l)/\¬B a/\RdK H B l m
 |.q d m=>∃a x b l,v=.ref a/\H a=ae (.tup [x,.ref b])/\¬B a/\RdX H B x d/\H b=ae (.dK l)/\¬B b/\RdK H B l m
theorem ORel.move{H H':Hp}{B B':Addr->Prop}(k:∀b o,H b=ae o->¬B b->H' b=ae o/\¬B' b){v:V}{o:Ob}(h:ORel H B v o):ORel H' B' v o:=by
 cases o with
 |o=>exact h
 |p d=>
  obtain⟨a,x,y,e,h1,h2,h3⟩:=h;exact⟨a,x,y,e,(k _ _ h1 h2).1,(k _ _ h1 h2).2,h3.move k⟩
 |k m=>
  obtain⟨a,l,e,h1,h2,h3⟩:=h;exact⟨a,l,e,(k _ _ h1 h2).1,(k _ _ h1 h2).2,h3.move k⟩
 |q d m=>
  obtain⟨a,x,b,l,e,h1,h2,h3,h4,h5,h6⟩:=h;exact⟨a,x,b,l,e,(k _ _ h1 h2).1,(k _ _ h1 h2).2,h3.move k,(k _ _ h4 h5).1,(k _ _ h4 h5).2,h6.move k⟩
def WRel(H:Hp)(B:Addr->Prop)(t:Addr)(v:V):Wv->Prop
 |.d x=>RdX H B v x
 |.tp=>v=.ref t
 |.dk kvs=>∃a l,v=.ref a/\H a=ae (.dK l)/\a≠t/\RdK H B l kvs
 |.ln ds=>∃a xs,v=.ref a/\H a=ae (.lst xs)/\a≠t/\xs.length<=A2/\RdXs H B xs ds
 |.ob o=>ORel H B v o
def SRel(H0:Hp)(H:Hp)(B:Addr->Prop)(t:Addr)(v:V):SV->Prop
 |.w x=>WRel H B t v x/\(x.lent=ah->∃a,v=.ref a/\H0 a≠af)
 |.own ds=>∃a xs,v=.ref a/\H a=ae (.lst xs)/\B a/\H0 a=af/\xs.length<=A2/\RdXs H B xs ds
 |.odk kvs=>∃a l,v=.ref a/\H a=ae (.dK l)/\B a/\H0 a=af/\l.length<=1000/\RdK H B l kvs
 |.odt kvs=>∃a l,v=.ref a/\H a=ae (.dT l)/\B a/\H0 a=af/\l.length<=1000/\RdT H B l kvs
def SV.isOwn:SV->Bool
 |.w _=>ai
 |_=>ah
structure Ctx where
 t:Addr
 l:TL
 ns:List Int
 H0:Hp
 B0:Addr->Prop
 fz:Hp
structure Rel(C:Ctx)(H:Hp)(B:Addr->Prop)(σ:St)(δ:Sl)(n:Int):Prop where
 tp:Tp H C.t C.l C.ns n
 kp:Kp C.t C.H0 H
 t0:C.H0 C.t≠af
 l0:C.H0 C.l.s≠af
 g0:lR=ah->C.H0 C.l.g≠af
 fz:∀b o,C.fz b=ae o->H b=ae o/\¬B b
 bt:B C.t
 b0:∀b,C.B0 b->B b
 ba:∀b,B b->H b≠af
 a0:∀b,C.B0 b->C.H0 b≠af
 sl:∀(i:Nat)(x:SV),δ[i]?=ae (ae x)->∃v,σ[i]?=ae (ae v)/\SRel C.H0 H B C.t v x
 ow:∀(i j:Nat)(x y:SV)(v:V),δ[i]?=ae (ae x)->δ[j]?=ae (ae y)->x.isOwn=ah->y.isOwn=ah->σ[i]?=ae (ae v)->σ[j]?=ae (ae v)->i=j
 len:σ.length=δ.length
theorem WRel.kp{H H':Hp}{B:Addr->Prop}{t:Addr}{v:V}{x:Wv}(k:Kp t H H')(ht:B t)(h:WRel H B t v x):WRel H' B t v x:=by
 cases x with
 |d x=>exact RdX.kp k ht h
 |tp=>exact h
 |dk kvs=>
  obtain⟨a,l,e,h1,h2,h3⟩:=h;exact⟨a,l,e,k _ _ h1 h2,h2,h3.move λb o e n=>⟨k b o e λz=>n (z▸ht),n⟩⟩
 |ln ds=>
  obtain⟨a,l,e,h1,h2,h3,h4⟩:=h;exact⟨a,l,e,k _ _ h1 h2,h2,h3,h4.kp k ht⟩
 |ob o=>exact ORel.move (λb o e n=>⟨k b o e λz=>n (z▸ht),n⟩) h
theorem WRel.less{H:Hp}{B B':Addr->Prop}{t:Addr}{v:V}{x:Wv}(k:∀b,B' b->B b)(h:WRel H B t v x):WRel H B' t v x:=by
 cases x with
 |d x=>exact RdX.less k h
 |tp=>exact h
 |dk kvs=>
  obtain⟨a,l,e,h1,h2,h3⟩:=h;exact⟨a,l,e,h1,h2,h3.move λb o e n=>⟨e,λz=>n (k b z)⟩⟩
 |ln ds=>
  obtain⟨a,l,e,h1,h2,h3,h4⟩:=h;exact⟨a,l,e,h1,h2,h3,h4.less k⟩
 |ob o=>exact ORel.move (λb o e n=>⟨e,λz=>n (k b z)⟩) h
theorem SRel.kp{H0 H H':Hp}{B:Addr->Prop}{t:Addr}{v:V}{x:SV}(k:Kp t H H')(ht:B t)(t0:H0 t≠af)(h:SRel H0 H B t v x):SRel H0 H' B t v x:=by
 cases x with
 |w x=>exact⟨h.1.kp k ht,h.2⟩
 |own ds=>
  obtain⟨a,xs,e,h1,h2,h3,h4,h5⟩:=h;exact⟨a,xs,e,k _ _ h1 (λz=>t0 (z▸h3)),h2,h3,h4,h5.kp k ht⟩
 |odk kvs=>
  obtain⟨a,l,e,h1,h2,h3,h4,h5⟩:=h;exact⟨a,l,e,k _ _ h1 (λz=>t0 (z▸h3)),h2,h3,h4,h5.move λb o e n=>⟨k b o e λz=>n (z▸ht),n⟩⟩
 |odt kvs=>
  obtain⟨a,l,e,h1,h2,h3,h4,h5⟩:=h;exact⟨a,l,e,k _ _ h1 (λz=>t0 (z▸h3)),h2,h3,h4,h5.move λb o e n=>⟨k b o e λz=>n (z▸ht),n⟩⟩
theorem Rel.step{C:Ctx}{H H':Hp}{B:Addr->Prop}{σ:St}{δ:Sl}{n n':Int}(R:Rel C H B σ δ n)(T:Tp H' C.t C.l C.ns n')(k:Kp C.t H H'):Rel C H' B σ δ n' where
 tp:=T
 kp:=R.kp.trans k
 t0:=R.t0
 l0:=R.l0
 g0:=R.g0
 fz:=λb o e=>⟨k b o (R.fz b o e).1 λz=>(R.fz b o e).2 (z▸R.bt),(R.fz b o e).2⟩
 bt:=R.bt
 b0:=R.b0
 ba:=λb hb e=>by
  by_cases z:b=C.t
  ·subst z;obtain⟨x,y,h,_⟩:=T.ob;rw[h]at e;cases e
  ·cases q:H b with
   |none=>exact R.ba b hb q
   |some o=>rw[k b o q z]at e;cases e
 a0:=R.a0
 sl:=λi x e=>by
  obtain⟨v,h1,h2⟩:=R.sl i x e;exact⟨v,h1,h2.kp k R.bt R.t0⟩
 ow:=R.ow
 len:=R.len
theorem Rel.new{C:Ctx}{H:Hp}{B:Addr->Prop}{σ:St}{δ:Sl}{n:Int}{p:Addr}{o:HO}(R:Rel C H B σ δ n)(h:H p=af):Rel C (upd H p o) B σ δ n:=R.step (R.tp.new h) (Kp.new h)
theorem Rel.nb{C:Ctx}{H:Hp}{B:Addr->Prop}{σ:St}{δ:Sl}{n:Int}{p:Addr}(R:Rel C H B σ δ n)(h:H p=af):¬B p:=λz=>R.ba p z h
theorem eY{α:Type}{l:List (Option α)}{i j:Nat}{x y:α}(h:(l.set i (ae x))[j]?=ae (ae y)):(j=i/\y=x)\/(j≠i/\l[j]?=ae (ae y)):=by
 by_cases e:i=j
 ·subst e;rw[Gu]at h;cases q:l[i]? with
  |none=>rw[q]at h;cases h
  |some z=>
   rw[q]at h;exact .inl ⟨rfl,(Bi (Bi h)).symm⟩
 ·rw[D0 e]at h;exact .inr ⟨λz=>e z.symm,h⟩
theorem oH{α:Type}{l:List (Option α)}{i:Nat}{x y:Option α}(h:(l.set i x)[i]?=ae y):i < l.length:=by
 have:=(Bo.mp h).1;rwa [D6]at this
theorem oM{α:Type}{l:List (Option α)}{i:Nat}{x:α}(h:i < l.length):(l.set i (ae x))[i]?=ae (ae x):=by simp[h]
theorem iV{α:Type}{l:List (Option α)}{i j:Nat}{x:α}(h:j≠i):(l.set i (ae x))[j]?=l[j]?:=D0 (λz=>h z.symm)
theorem Rel.set{C:Ctx}{H:Hp}{B:Addr->Prop}{σ:St}{δ:Sl}{n:Int}{i:Nat}{v:V}{x:Wv}(R:Rel C H B σ δ n)(h:WRel H B C.t v x)(hx:x.lent=ai):Rel C H B (σ.set i (ae v)) (δ.set i (ae (.w x))) n where
 tp:=R.tp
 kp:=R.kp
 t0:=R.t0
 l0:=R.l0
 g0:=R.g0
 fz:=R.fz
 bt:=R.bt
 b0:=R.b0
 ba:=R.ba
 a0:=R.a0
 sl:=λj y e=>by
  rcases eY e with⟨rfl,rfl⟩|⟨ne,e'⟩
  ·exact⟨v,oM (by rw[R.len];exact oH e),h,λz=>by rw[hx]at z;cases z⟩
  ·obtain⟨u,h1,h2⟩:=R.sl j y e';exact⟨u,by rw[iV ne];exact h1,h2⟩
 ow:=λj k y z u e1 e2 o1 o2 f1 f2=>by
  rcases eY e1 with⟨rfl,rfl⟩|⟨ne1,e1'⟩
  ·cases o1
  ·rcases eY e2 with⟨rfl,rfl⟩|⟨ne2,e2'⟩
   ·cases o2
   ·rw[iV ne1]at f1;rw[iV ne2]at f2;exact R.ow j k y z u e1' e2' o1 o2 f1 f2
 len:=by rw[D6,D6];exact R.len
theorem Rel.mut{C:Ctx}{H:Hp}{B:Addr->Prop}{σ:St}{δ:Sl}{n:Int}{a:Addr}{o:HO}(R:Rel C H B σ δ n)(hb:B a)(h0:C.H0 a=af)
  (ho:∀(i:Nat)(x:SV),δ[i]?=ae (ae x)->x.isOwn=ah->σ[i]?≠ae (ae (.ref a))):Rel C (upd H a o) B σ δ n where
 tp:=R.tp.other (λz=>R.t0 (z▸h0)) (λz=>R.l0 (z▸h0)) (λe z=>R.g0 e (z▸h0))
 kp:=λb o' e ne=>by
  rw[aX (b7 e h0)];exact R.kp b o' e ne
 t0:=R.t0
 l0:=R.l0
 g0:=R.g0
 fz:=λb o' e=>⟨by rw[aX λ(z:b=a)=>(R.fz b o' e).2 (z▸hb)];exact(R.fz b o' e).1,(R.fz b o' e).2⟩
 bt:=R.bt
 b0:=R.b0
 ba:=λb hb' e=>by
  by_cases z:b=a
  ·rw[z,bI]at e;cases e
  ·rw[aX z]at e;exact R.ba b hb' e
 a0:=R.a0
 sl:=λi x e=>by
  obtain⟨v,h1,h2⟩:=R.sl i x e;have mv:∀b o',H b=ae o'->¬B b->upd H a o b=ae o'/\¬B b:=λb o' e n=>⟨by rw[aX λ(z:b=a)=>n (z▸hb)];exact e,n⟩;refine⟨v,h1,?_⟩;cases x with
  |w x=>
   refine⟨?_,h2.2⟩;cases x with
   |d x=>exact h2.1.move mv
   |tp=>exact h2.1
   |dk kvs=>
    obtain⟨a',l,e1,e2,e3,e4⟩:=h2.1;obtain⟨a'',f1,f2⟩:=h2.2 rfl;rw[e1]at f1;cases f1;exact⟨a',l,e1,by rw[aX λ(z:a'=a)=>f2 (z▸h0)];exact e2,e3,e4.move mv⟩
   |ln ds=>
    obtain⟨a',l,e1,e2,e3,e4,e5⟩:=h2.1;obtain⟨a'',f1,f2⟩:=h2.2 rfl;rw[e1]at f1;cases f1;exact⟨a',l,e1,by rw[aX λ(z:a'=a)=>f2 (z▸h0)];exact e2,e3,e4,e5.move mv⟩
   |ob o=>exact ORel.move mv h2.1
  |own ds=>
   obtain⟨a',xs,e1,e2,e3,e4,e5,e6⟩:=h2;have ne:a'≠a:=λz=>ho i _ e rfl (by rw[h1,e1,z]);exact⟨a',xs,e1,by rw[aX ne];exact e2,e3,e4,e5,e6.move mv⟩
  |odk kvs=>
   obtain⟨a',xs,e1,e2,e3,e4,e5,e6⟩:=h2;have ne:a'≠a:=λz=>ho i _ e rfl (by rw[h1,e1,z]);exact⟨a',xs,e1,by rw[aX ne];exact e2,e3,e4,e5,e6.move mv⟩
  |odt kvs=>
   obtain⟨a',xs,e1,e2,e3,e4,e5,e6⟩:=h2;have ne:a'≠a:=λz=>ho i _ e rfl (by rw[h1,e1,z]);exact⟨a',xs,e1,by rw[aX ne];exact e2,e3,e4,e5,e6.move mv⟩
 ow:=R.ow
 len:=R.len
theorem Rel.mutOwn{C:Ctx}{H:Hp}{B:Addr->Prop}{σ:St}{δ:Sl}{n:Int}{i:Nat}{x x':SV}{a:Addr}{o:HO}(R:Rel C H B σ δ n)(hi:δ[i]?=ae (ae x))(hx:x.isOwn=ah)(hσ:σ[i]?=ae (ae (.ref a)))(hb:B a)(h0:C.H0 a=af)
  (h:SRel C.H0 (upd H a o) B C.t (.ref a) x') (hx':x'.isOwn=ah):Rel C (upd H a o) B σ (δ.set i (ae x')) n:=by
 have R1:Rel C H B σ (δ.set i af) n:={
  tp:=R.tp,kp:=R.kp,t0:=R.t0,l0:=R.l0,g0:=R.g0,fz:=R.fz,bt:=R.bt,b0:=R.b0,ba:=R.ba,a0:=R.a0
  sl:=λj y e=>by
   by_cases z:i=j
   ·subst z;rw[Gu]at e;rw[hi]at e;cases e
   ·rw[D0 z]at e;exact R.sl j y e
  ow:=λj k y z u e1 e2 o1 o2 f1 f2=>by
   have g:∀{m:Nat}{w:SV},(δ.set i af)[m]?=ae (ae w)->δ[m]?=ae (ae w):=λ{m w} e=>by
    by_cases q:i=m
    ·subst q;rw[Gu,hi]at e;cases e
    ·rwa [D0 q]at e
   exact R.ow j k y z u (g e1) (g e2) o1 o2 f1 f2
  len:=by rw[D6];exact R.len}
 have R2:Rel C (upd H a o) B σ (δ.set i af) n:=R1.mut hb h0 λj y e oy f=>by
  by_cases z:i=j
  ·subst z;rw[Gu,hi]at e;cases e
  ·rw[D0 z]at e;exact z (R.ow i j x y _ hi e hx oy hσ f)
 have hlt:i < δ.length:=(Bo.mp hi).1;exact{
  tp:=R2.tp,kp:=R2.kp,t0:=R2.t0,l0:=R2.l0,g0:=R2.g0,fz:=R2.fz,bt:=R2.bt,b0:=R2.b0,ba:=R2.ba,a0:=R2.a0
  sl:=λj y e=>by
   rcases eY e with⟨rfl,rfl⟩|⟨ne,e'⟩
   ·exact⟨_,hσ,h⟩
   ·exact R2.sl j y (by rw[D0 λz=>ne z.symm];exact e')
  ow:=λj k y z u e1 e2 o1 o2 f1 f2=>by
   rcases eY e1 with⟨rfl,rfl⟩|⟨ne1,e1'⟩
   ·rcases eY e2 with⟨rfl,rfl⟩|⟨ne2,e2'⟩
    ·rfl
    ·exact R.ow _ _ x z u hi e2' hx o2 f1 f2
   ·rcases eY e2 with⟨rfl,rfl⟩|⟨ne2,e2'⟩
    ·exact R.ow _ _ y x u e1' hi o1 hx f1 f2
    ·exact R.ow j k y z u e1' e2' o1 o2 f1 f2
  len:=by rw[D6];exact R.len}
theorem Rel.own{C:Ctx}{H H':Hp}{B:Addr->Prop}{σ:St}{δ:Sl}{n n':Int}{i:Nat}{a:Addr}{x:SV}(R:Rel C H B σ δ n)(R':Rel C H' B σ δ n')(k:Kp C.t H H')(h0:H a=af)(h1:H' a≠af)(hx:x.isOwn=ah)
  (h:SRel C.H0 H' (λb=>B b\/b=a) C.t (.ref a) x):Rel C H' (λb=>B b\/b=a) (σ.set i (ae (.ref a))) (δ.set i (ae x)) n' where
 tp:=R'.tp
 kp:=R'.kp
 t0:=R'.t0
 l0:=R'.l0
 g0:=R'.g0
 fz:=λb o e=>⟨(R'.fz b o e).1,λz=>z.elim (R'.fz b o e).2 λq=>b7 (R.fz b o e).1 h0 q⟩
 bt:=.inl R.bt
 b0:=λb z=>.inl (R.b0 b z)
 ba:=λb z=>z.elim (R'.ba b) λq=>q▸h1
 a0:=R.a0
 sl:=λj y e=>by
  have hta:C.t≠a:=λz=>by
   obtain⟨_,_,q,_⟩:=R.tp.ob;rw[z,h0]at q;cases q
  have mv:∀b o',H b=ae o'->¬B b->H' b=ae o'/\¬(B b\/b=a):=λb o' e n=>⟨k b o' e λz=>n (z▸R.bt),λz=>z.elim n λq=>b7 e h0 q⟩;rcases eY e with⟨rfl,rfl⟩|⟨ne,e'⟩
  ·exact⟨_,oM (by rw[R.len];exact oH e),h⟩
  ·obtain⟨v,f1,f2⟩:=R.sl j y e';refine⟨v,by rw[iV ne];exact f1,?_⟩;cases y with
   |w y=>
    refine⟨?_,f2.2⟩;cases y with
    |d y=>exact f2.1.move mv
    |tp=>exact f2.1
    |dk kvs=>
     obtain⟨a',l,e1,e2,e3,e4⟩:=f2.1;exact⟨a',l,e1,k _ _ e2 e3,e3,e4.move mv⟩
    |ln ds=>
     obtain⟨a',l,e1,e2,e3,e4,e5⟩:=f2.1;exact⟨a',l,e1,k _ _ e2 e3,e3,e4,e5.move mv⟩
    |ob o=>exact ORel.move mv f2.1
   |own ds=>
    obtain⟨a',xs,e1,e2,e3,e4,e5,e6⟩:=f2;exact⟨a',xs,e1,k _ _ e2 (λz=>R.t0 (z▸e4)),.inl e3,e4,e5,e6.move mv⟩
   |odk kvs=>
    obtain⟨a',xs,e1,e2,e3,e4,e5,e6⟩:=f2;exact⟨a',xs,e1,k _ _ e2 (λz=>R.t0 (z▸e4)),.inl e3,e4,e5,e6.move mv⟩
   |odt kvs=>
    obtain⟨a',xs,e1,e2,e3,e4,e5,e6⟩:=f2;exact⟨a',xs,e1,k _ _ e2 (λz=>R.t0 (z▸e4)),.inl e3,e4,e5,e6.move mv⟩
 ow:=λj m y z u e1 e2 o1 o2 f1 f2=>by
  have out:∀{p:Nat}{w:SV},δ[p]?=ae (ae w)->w.isOwn=ah->σ[p]?=ae (ae (.ref a))->False:=λ{p w} e ow f=>by
   obtain⟨v,g1,g2⟩:=R.sl p w e;rw[f]at g1;cases g1;cases w with
   |w _=>cases ow
   |own ds=>
    obtain⟨a',xs,e1,e2,_⟩:=g2;cases e1;rw[h0]at e2;cases e2
   |odk ds=>
    obtain⟨a',xs,e1,e2,_⟩:=g2;cases e1;rw[h0]at e2;cases e2
   |odt ds=>
    obtain⟨a',xs,e1,e2,_⟩:=g2;cases e1;rw[h0]at e2;cases e2
  rcases eY e1 with⟨rfl,rfl⟩|⟨ne1,e1'⟩
  ·rcases eY e2 with⟨rfl,rfl⟩|⟨ne2,e2'⟩
   ·rfl
   ·rw[oM (by rw[R.len];exact oH e1)]at f1;rw[iV ne2]at f2;cases f1;exact(out e2' o2 f2).elim
  ·rcases eY e2 with⟨rfl,rfl⟩|⟨ne2,e2'⟩
   ·rw[oM (by rw[R.len];exact oH e2)]at f2;rw[iV ne1]at f1;cases f2;exact(out e1' o1 f1).elim
   ·rw[iV ne1]at f1;rw[iV ne2]at f2;exact R.ow j m y z u e1' e2' o1 o2 f1 f2
 len:=by rw[D6,D6];exact R.len
theorem Rel.give{C:Ctx}{H:Hp}{B:Addr->Prop}{σ:St}{δ:Sl}{n:Int}{i:Nat}{x:SV}{y:Wv}{a:Addr}(R:Rel C H B σ δ n)(hi:δ[i]?=ae (ae x))(ox:x.isOwn=ah)(hv:σ[i]?=ae (ae (.ref a)))(e4:C.H0 a=af)(hy:WRel H (λb=>B b/\b≠a) C.t (.ref a) y)(hl:y.lent=ai):Rel C H (λb=>B b/\b≠a) σ (δ.set i (ae (.w y))) n:=by
 have less:∀b,(B b/\b≠a)->B b:=λb z=>z.1;exact{
  tp:=R.tp,kp:=R.kp,t0:=R.t0,l0:=R.l0,g0:=R.g0
  fz:=λb o e=>⟨(R.fz b o e).1,λz=>(R.fz b o e).2 z.1⟩
  bt:=⟨R.bt,λz=>R.t0 (z▸e4)⟩
  b0:=λb z=>⟨R.b0 b z,λq=>R.a0 b z (q▸e4)⟩
  ba:=λb z=>R.ba b z.1
  a0:=R.a0
  sl:=λj y' e=>by
   rcases eY e with⟨rfl,rfl⟩|⟨ne,e'⟩
   ·exact⟨_,hv,hy,λz=>by rw[hl]at z;cases z⟩
   ·obtain⟨u,f1,f2⟩:=R.sl j y' e';refine⟨u,f1,?_⟩;cases y' with
    |w y=>exact⟨f2.1.less less,f2.2⟩
    |own ds'=>
     obtain⟨a',xs',g1,g2,g3,g4,g5,g6⟩:=f2;refine⟨a',xs',g1,g2,⟨g3,λz=>?_⟩,g4,g5,g6.less less⟩;exact ne (R.ow j i _ _ _ e' hi rfl ox f1 (by rw[hv,g1,z]))
    |odk ds'=>
     obtain⟨a',xs',g1,g2,g3,g4,g5,g6⟩:=f2;refine⟨a',xs',g1,g2,⟨g3,λz=>?_⟩,g4,g5,g6.move λb o e n=>⟨e,λz=>n z.1⟩⟩;exact ne (R.ow j i _ _ _ e' hi rfl ox f1 (by rw[hv,g1,z]))
    |odt ds'=>
     obtain⟨a',xs',g1,g2,g3,g4,g5,g6⟩:=f2;refine⟨a',xs',g1,g2,⟨g3,λz=>?_⟩,g4,g5,g6.move λb o e n=>⟨e,λz=>n z.1⟩⟩;exact ne (R.ow j i _ _ _ e' hi rfl ox f1 (by rw[hv,g1,z]))
  ow:=λj k y z u e1 e2 o1 o2 f1 f2=>by
   rcases eY e1 with⟨rfl,rfl⟩|⟨ne1,e1'⟩
   ·cases o1
   ·rcases eY e2 with⟨rfl,rfl⟩|⟨ne2,e2'⟩
    ·cases o2
    ·exact R.ow j k y z u e1' e2' o1 o2 f1 f2
  len:=by rw[D6];exact R.len}
theorem Rel.frz{C:Ctx}{H:Hp}{B:Addr->Prop}{σ:St}{δ:Sl}{n:Int}{i:Nat}{ds:List Ab}(R:Rel C H B σ δ n)(hi:δ[i]?=ae (ae (.own ds))):∃B',Rel C H B' σ (δ.set i (ae (.w (.d (.list ds))))) n:=by
 obtain⟨v,hv,a,xs,rfl,e2,e3,e4,e5,e6⟩:=R.sl i _ hi;exact⟨_,R.give hi rfl hv e4 (show RdX H _ (.ref a) (.list ds)from .lst e2 (λz=>z.2 rfl) e5 (e6.less λb z=>z.1)) rfl⟩
theorem Rel.frzK{C:Ctx}{H:Hp}{B:Addr->Prop}{σ:St}{δ:Sl}{n:Int}{i:Nat}{m:List (bA×Ab)}(R:Rel C H B σ δ n)(hi:δ[i]?=ae (ae (.odk m))):∃B',Rel C H B' σ (δ.set i (ae (.w (.ob (.k m))))) n:=by
 obtain⟨v,hv,a,xs,rfl,e2,e3,e4,e5,e6⟩:=R.sl i _ hi;exact⟨_,R.give hi rfl hv e4 ⟨a,xs,rfl,e2,λz=>z.2 rfl,e6.move λb o e n=>⟨e,λz=>n z.1⟩⟩ rfl⟩
abbrev DQ:=Wv->Int->Prop
abbrev DT:=Sl->Int->DQ->Prop
abbrev cj:=Sl->Int->(Bool->Int->Prop)->Prop
abbrev dZ:=Sl->Int->(List Wv->Int->Prop)->Prop
inductive ARel(H:Hp)(B:Addr->Prop)(t:Addr):List V->List Wv->Prop
 |nil:ARel H B t [] []
 |cons {v:V} {vs:List V} {x:Wv} {xs:List Wv}:WRel H B t v x->ARel H B t vs xs->ARel H B t (v::vs) (x::xs)
theorem ARel.kp{H H':Hp}{B:Addr->Prop}{t:Addr}(k:Kp t H H')(ht:B t):∀{vs:List V}{xs:List Wv},ARel H B t vs xs->ARel H' B t vs xs
 |_,_,.nil=>.nil
 |_,_,.cons a b=>.cons (a.kp k ht) (ARel.kp k ht b)
theorem ARel.len{H:Hp}{B:Addr->Prop}{t:Addr}:∀{vs:List V}{xs:List Wv},ARel H B t vs xs->vs.length=xs.length
 |_,_,.nil=>rfl
 |_,_,.cons _ b=>by rw[Ax,Ax,ARel.len b]
def eP(t:TE)(w:DT):Prop:=∀(C:Ctx)(H:Hp)(B:Addr->Prop)(σ:St)(δ:Sl)(n:Int)(Q:DQ)(Q':VK),Rel C H B σ δ n->w δ n Q->
 (∀v x H' n',Rel C H' B σ δ n'->Kp C.t H H'->WRel H' B C.t v x->Q x n'->Q' v H')->t σ H Q'
def iK(t:TT)(w:cj):Prop:=∀(C:Ctx)(H:Hp)(B:Addr->Prop)(σ:St)(δ:Sl)(n:Int)(Q:Bool->Int->Prop)(Q':Bool->Hp->Prop),Rel C H B σ δ n->w δ n Q->
 (∀b H' n',Rel C H' B σ δ n'->Kp C.t H H'->Q b n'->Q' b H')->t σ H Q'
def ij(t:TA)(w:dZ):Prop:=∀(C:Ctx)(H:Hp)(B:Addr->Prop)(σ:St)(δ:Sl)(n:Int)(Q:List Wv->Int->Prop)(Q':List V->Hp->Prop),Rel C H B σ δ n->w δ n Q->
 (∀vs xs H' n',Rel C H' B σ δ n'->Kp C.t H H'->ARel H' B C.t vs xs->Q xs n'->Q' vs H')->t σ H Q'
abbrev dX:=Sl->Int->(List Ab->Int->Prop)->Prop
def iA(t:TE)(w:dX):Prop:=∀(C:Ctx)(H:Hp)(B:Addr->Prop)(σ:St)(δ:Sl)(n:Int)(Q:List Ab->Int->Prop)(Q':VK),Rel C H B σ δ n->w δ n Q->
 (∀a xs ds H' n',Rel C H' B σ δ n'->Kp C.t H H'->H a=af->H' a=ae (.lst xs)->xs.length<=A2->RdXs H' (λb=>B b\/b=a) xs ds->Q ds n'->Q' (.ref a) H')->t σ H Q'
structure DE(X:Cx)(e:Expr)(t:TE)(w:DT):Prop where
 pe:PE X e t
 sd:eP t w
structure DC(X:Cx)(e:Expr)(t:TT)(w:cj):Prop where
 pt:PT X e t
 sd:iK t w
structure DCW(X:Cx)(e:Expr)(t:TT)(w:cj):Prop where
 pw:PW X e t
 sd:iK t w
structure DA(X:Cx)(es:List Expr)(t:TA)(w:dZ):Prop where
 pa:PA X es t
 sd:ij t w
structure DF(X:Cx)(e:Expr)(t:TE)(w:dX):Prop where
 pe:PE X e t
 sd:iA t w
variable{X:Cx}{a b c e:Expr}{ta tb tc te:TE}{wa wb wc we:DT}{pos:Pos}
def aj(i:Nat):DT:=λδ n Q=>match δ[i]? with
 |some (ae (.w x))=>Q x n
 |_=>False
theorem AI(i:Nat){x:Str}{p:Pos}(hN:X.N[i]?=ae x:=by rfl)(hv:fq X.env.scope x:=by first|exact Ea rfl|exact C6 (Ea rfl)|exact C6 (C6 rfl))(hd:(x==("__debug__":Str))=ai:=by decide)
  (hcd:(x==("__classdict__":Str))=ai:=by decide):DE X (.Name x p) (dc i) (aj i):=⟨gM hN hv hd hcd,λC H B σ δ n Q Q' R h k=>by
 unfold aj at h
 split at h
 ·rename_i x e;obtain⟨v,h1,h2⟩:=R.sl i _ e;exact⟨v,h1,k v x H n R (Kp.refl _ _) h2.1 h⟩
 ·exact h.elim⟩
def wC(d:Ab):DT:=λ_ n Q=>Q (.d d) n
theorem lW{v:V}{d:Ab}(h:∀H B,RdX H B v d):eP (tC v) (wC d):=λC H B σ δ n Q Q' R q k=>k v (.d d) H n R (Kp.refl _ _) (h H B) q
theorem IU{i j p}:DE X (.Constant (.int i) j p) (tC (.int i)) (wC (.int i)):=⟨bV,lW λ_ _=>.int i⟩
theorem ph{i j p}:DE X (.Constant (.bool i) j p) (tC (.bl i)) (wC (.bool i)):=⟨AU,lW λ_ _=>.bl i⟩
theorem OQ{j p}:DE X (.Constant .none j p) (tC .non) (wC .none):=⟨nz,lW λ_ _=>.non⟩
theorem LC{x j p}(h:Str.length x<=A2:=by decide +kernel):DE X (.Constant (.str x) j p) (tC (.str x)) (wC (.str x)):=⟨CU,lW λ_ _=>.str x h⟩
theorem IA{x:Str}{i:Int}{tk:Tok}{p:Pos}(hg:Gl X x)(hm:X.mg x=ae (.int i tk))(hd:(x==("__debug__":Str))=ai:=by decide):DE X (.Name x p) (tC (.int i)) (wC (.int i)):=⟨xB hg hm ⟨tk,rfl⟩ hd,lW λ_ _=>.int i⟩
def w2(wa wb:DT)(g:Wv->Wv->Int->DQ->Prop):DT:=λδ n Q=>wa δ n λx n1=>wb δ n1 λy n2=>g x y n2 Q
def bj(r:R2)(g:Wv->Wv->Int->DQ->Prop):Prop:=∀(C:Ctx)(H:Hp)(B:Addr->Prop)(σ:St)(δ:Sl)(n:Int)(x y:V)(p q:Wv)(Q:DQ)(Q':VK),Rel C H B σ δ n->WRel H B C.t x p->WRel H B C.t y q->g p q n Q->
 (∀v x H' n',Rel C H' B σ δ n'->Kp C.t H H'->WRel H' B C.t v x->Q x n'->Q' v H')->r x y H Q'
theorem l3{r:R2}{g:Wv->Wv->Int->DQ->Prop}(hr:bj r g)(ha:eP ta wa)(hb:eP tb wb):eP (d4 r ta tb) (w2 wa wb g):=λC H B σ δ n Q Q' R h k=>
 ha C H B σ δ n _ _ R h λv x H1 n1 R1 k1 r1 q1=>hb C H1 B σ δ n1 _ _ R1 q1 λu y H2 n2 R2 k2 r2 q2=>
  hr C H2 B σ δ n2 v u x y Q Q' R2 (r1.kp k2 R1.bt) r2 q2 λz p H3 n3 R3 k3 r3 q3=>k z p H3 n3 R3 ((k1.trans k2).trans k3) r3 q3
theorem gw{op:Operator}{r:R2}{g:Wv->Wv->Int->DQ->Prop}(ho:OpR X (Fp op) r)(hr:bj r g)(ha:DE X a ta wa)(hb:DE X b tb wb):DE X (.BinOp a op b pos) (d4 r ta tb) (w2 wa wb g):=
 ⟨dD ho ha.pe hb.pe,l3 hr ha.sd hb.sd⟩
theorem iO{op:CmpOp}{r:R2}{g:Wv->Wv->Int->DQ->Prop}(ho:OpR X (B4 op) r)(hr:bj r g)(ha:DE X a ta wa)(hb:DE X b tb wb)(hm:E1 op b=ai):DE X (.Compare a [op] [b] pos) (d4 r ta tb) (w2 wa wb g):=
 ⟨CC ho ha.pe hb.pe hm,l3 hr ha.sd hb.sd⟩
def cT(w:DT):cj:=λδ n Q=>w δ n λx n'=>match x with
 |.d (.bool k)=>Q k n'
 |_=>False
theorem wd{H:Hp}{B:Addr->Prop}{t:Addr}{v:V}{d:Ab}(h:RdX H B v d):WRel H B t v (.d d):=h
theorem oA{t:TE}{w:DT}(h:eP t w):iK (jf t) (cT w):=λC H B σ δ n Q Q' R q k=>
 h C H B σ δ n _ _ R q λv x H' n' R' k' r' q'=>by
  split at q'
  ·rename_i b;cases(show RdX H' B v (.bool b)from r');exact⟨b,rfl,k b H' n' R' k' q'⟩
  ·exact q'.elim
theorem iW{op:CmpOp}{r:R2}{g:Wv->Wv->Int->DQ->Prop}(ho:OpR X (B4 op) r)(hr:bj r g)(ha:DE X a ta wa)(hb:DE X b tb wb)(hm:E1 op b=ai):DC X (.Compare a [op] [b] pos) (jf (d4 r ta tb)) (cT (w2 wa wb g)):=
 ⟨jZ ho ha.pe hb.pe hm,oA (l3 hr ha.sd hb.sd)⟩
theorem Oi{t:TE}{w:DT}(h:DE X e t w)(he:∀whole,isTrue e X.env whole=(do let v <-whole;standAt e.pos;holding [v] (truthy v)):=by intro _;rfl):DC X e (jf t) (cT w):=⟨J6 h.pe he,oA h.sd⟩
def gk(x:Wv)(A B:Prop):Prop:=match x with
 |.d (.bool ah)=>A
 |.d (.bool ai)=>B
 |_=>False
theorem f7(b:Bool)(A B:Prop):gk (.d (.bool b)) A B=if b=ah then A else B:=by cases b<;>simp[gk]
def cZ(g g':Wv->Wv->Int->DQ->Prop)(wa wb wc:DT):DT:=λδ n Q=>wa δ n λx n1=>wb δ n1 λy n2=>g x y n2 λz n3=>gk z (wc δ n3 λu n4=>g' y u n4 Q) (Q (.d (.bool ai)) n3)
theorem vp{r r':R2}{g g':Wv->Wv->Int->DQ->Prop}(hr:bj r g)(hr':bj r' g')(ha:eP ta wa)(hb:eP tb wb)(hc:eP tc wc):eP (l7 r r' ta tb tc) (cZ g g' wa wb wc):=λC H B σ δ n Q Q' R h k=>
 ha C H B σ δ n _ _ R h λv x H1 n1 R1 k1 r1 q1=>hb C H1 B σ δ n1 _ _ R1 q1 λu y H2 n2 R2 k2 r2 q2=>
  hr C H2 B σ δ n2 v u x y _ _ R2 (r1.kp k2 R1.bt) r2 q2 λz p H3 n3 R3 k3 r3 q3=>by
   have k13:=(k1.trans k2).trans k3;unfold gk at q3
   split at q3
   ·cases(show RdX H3 B z (.bool ah)from r3);refine⟨ah,rfl,?_⟩;rw[if_pos rfl];exact hc C H3 B σ δ n3 _ _ R3 q3 λw0 x0 H4 n4 R4 k4 r4 q4=>hr' C H4 B σ δ n4 u w0 y x0 Q Q' R4 ((r2.kp k3 R2.bt).kp k4 R3.bt) r4 q4 λz p H5 n5 R5 k5 r5 q5=>k z p H5 n5 R5 ((k13.trans k4).trans k5) r5 q5
   ·cases(show RdX H3 B z (.bool ai)from r3);refine⟨ai,rfl,?_⟩;rw[if_neg Au];exact k _ _ H3 n3 R3 k13 (wd (.bl ai)) q3
   ·exact q3.elim
theorem Iu{op op':CmpOp}{r r':R2}{g g':Wv->Wv->Int->DQ->Prop}(ho:OpR X (B4 op) r)(hr:bj r g)(ho':OpR X (B4 op') r')(hr':bj r' g')(ha:DE X a ta wa)(hb:DE X b tb wb)(hc:DE X c tc wc)
  (hm:lastMarks [op,op'] [b,c]=ai:=by with_unfolding_all rfl):DE X (.Compare a [op,op'] [b,c] pos) (l7 r r' ta tb tc) (cZ g g' wa wb wc):=⟨Oa ho ho' ha.pe hb.pe hc.pe hm,vp hr hr' ha.sd hb.sd hc.sd⟩
theorem O6{op op':CmpOp}{r r':R2}{g g':Wv->Wv->Int->DQ->Prop}(ho:OpR X (B4 op) r)(hr:bj r g)(ho':OpR X (B4 op') r')(hr':bj r' g')(ha:DE X a ta wa)(hb:DE X b tb wb)(hc:DE X c tc wc)
  (hm:lastMarks [op,op'] [b,c]=ai:=by with_unfolding_all rfl):DC X (.Compare a [op,op'] [b,c] pos) (jf (l7 r r' ta tb tc)) (cT (cZ g g' wa wb wc)):=⟨FZ ho ho' ha.pe hb.pe hc.pe hm,oA (vp hr hr' ha.sd hb.sd hc.sd)⟩
variable{tA tB':TT}{cA cB:cj}{rest:List Expr}
def b9(u v:cj):cj:=λδ n Q=>u δ n λb n1=>if b=ah then v δ n1 Q else Q ai n1
def cI(u v:cj):cj:=λδ n Q=>u δ n λb n1=>if b=ah then Q ah n1 else v δ n1 Q
def aI(u:cj):cj:=λδ n Q=>u δ n λb n1=>Q (!b) n1
theorem cw_and1(h:DC X a tA cA):DCW X (.BoolOp .And [a] pos) tA cA:=⟨wQ h.pt,h.sd⟩
theorem cw_or1(h:DC X a tA cA):DCW X (.BoolOp .Or [a] pos) tA cA:=⟨GG h.pt,h.sd⟩
theorem cw_and(h:DC X a tA cA)(h2:DCW X (.BoolOp .And (b::rest) pos) tB' cB):DCW X (.BoolOp .And (a::b::rest) pos) (lj tA tB') (b9 cA cB):=⟨uz h.pt h2.pw,λC H B σ δ n Q Q' R q k=>
 h.sd C H B σ δ n _ _ R q λb H1 n1 R1 k1 q1=>by
  cases b with
  |true=>
   rw[if_pos rfl]at q1 ⊢;exact h2.sd C H1 B σ δ n1 _ _ R1 q1 λb H2 n2 R2 k2 q2=>k b H2 n2 R2 (k1.trans k2) q2
  |false=>
   rw[if_neg Au]at q1 ⊢;exact k ai H1 n1 R1 k1 q1⟩
theorem cw_or(h:DC X a tA cA)(h2:DCW X (.BoolOp .Or (b::rest) pos) tB' cB):DCW X (.BoolOp .Or (a::b::rest) pos) (wH tA tB') (cI cA cB):=⟨Kd h.pt h2.pw,λC H B σ δ n Q Q' R q k=>
 h.sd C H B σ δ n _ _ R q λb H1 n1 R1 k1 q1=>by
  cases b with
  |true=>
   rw[if_pos rfl]at q1 ⊢;exact k ah H1 n1 R1 k1 q1
  |false=>
   rw[if_neg Au]at q1 ⊢;exact h2.sd C H1 B σ δ n1 _ _ R1 q1 λb H2 n2 R2 k2 q2=>k b H2 n2 R2 (k1.trans k2) q2⟩
theorem DCW.cc(h:DCW X a tA cA):DC X a tA cA:=⟨h.pw.pt,h.sd⟩
theorem KR(h:DC X a tA cA):DC X (.UnaryOp .Not a pos) (l4 tA) (aI cA):=⟨HE h.pt,λC H B σ δ n Q Q' R q k=>h.sd C H B σ δ n _ _ R q λb H1 n1 R1 k1 q1=>k (!b) H1 n1 R1 k1 q1⟩
def aO(u v:DT):DT:=λδ n Q=>u δ n λx n1=>gk x (v δ n1 Q) (Q (.d (.bool ai)) n1)
def eG(u v:DT):DT:=λδ n Q=>u δ n λx n1=>gk x (Q (.d (.bool ah)) n1) (v δ n1 Q)
def cY(u:DT):DT:=λδ n Q=>u δ n λx n1=>match x with
 |.d (.bool b)=>Q (.d (.bool !b)) n1
 |_=>False
theorem Jm{op}(h:DE X a ta wa):DE X (.BoolOp op [a] pos) ta wa:=⟨Jf h.pe,h.sd⟩
theorem IL(h:DE X a ta wa)(h2:DE X (.BoolOp .And (b::rest) pos) tb wb):DE X (.BoolOp .And (a::b::rest) pos) (vP ta tb) (aO wa wb):=⟨BO h.pe h2.pe,λC H B σ δ n Q Q' R q k=>
 h.sd C H B σ δ n _ _ R q λv x H1 n1 R1 k1 r1 q1=>by
  unfold gk at q1
  split at q1
  ·cases(show RdX H1 B v (.bool ah)from r1);refine⟨ah,rfl,?_⟩;rw[if_pos rfl];exact h2.sd C H1 B σ δ n1 _ _ R1 q1 λv x H2 n2 R2 k2 r2 q2=>k v x H2 n2 R2 (k1.trans k2) r2 q2
  ·cases(show RdX H1 B v (.bool ai)from r1);refine⟨ai,rfl,?_⟩;rw[if_neg Au];exact k _ _ H1 n1 R1 k1 (wd (.bl ai)) q1
  ·exact q1.elim⟩
theorem ql(h:DE X a ta wa)(h2:DE X (.BoolOp .Or (b::rest) pos) tb wb):DE X (.BoolOp .Or (a::b::rest) pos) (mE ta tb) (eG wa wb):=⟨CF h.pe h2.pe,λC H B σ δ n Q Q' R q k=>
 h.sd C H B σ δ n _ _ R q λv x H1 n1 R1 k1 r1 q1=>by
  unfold gk at q1
  split at q1
  ·cases(show RdX H1 B v (.bool ah)from r1);refine⟨ah,rfl,?_⟩;rw[if_pos rfl];exact k _ _ H1 n1 R1 k1 (wd (.bl ah)) q1
  ·cases(show RdX H1 B v (.bool ai)from r1);refine⟨ai,rfl,?_⟩;rw[if_neg Au];exact h2.sd C H1 B σ δ n1 _ _ R1 q1 λv x H2 n2 R2 k2 r2 q2=>k v x H2 n2 R2 (k1.trans k2) r2 q2
  ·exact q1.elim⟩
theorem KW(h:DE X a ta wa):DE X (.UnaryOp .Not a pos) (yU ta) (cY wa):=⟨LW h.pe,λC H B σ δ n Q Q' R q k=>
 h.sd C H B σ δ n _ _ R q λv x H1 n1 R1 k1 r1 q1=>by
  split at q1
  ·rename_i b;cases(show RdX H1 B v (.bool b)from r1);exact⟨b,rfl,k _ _ H1 n1 R1 k1 (wd (.bl _)) q1⟩
  ·exact q1.elim⟩
variable{es:List Expr}{tR:TA}{wR:dZ}
def ak:dZ:=λ_ n Q=>Q [] n
def ao(w:DT)(r:dZ):dZ:=λδ n Q=>w δ n λx n1=>r δ n1 λxs n2=>Q (x::xs) n2
theorem M0:DA X [] bF ak:=⟨dz,λC H B σ δ n Q Q' R q k=>k [] [] H n R (Kp.refl _ _) .nil q⟩
theorem Na(h:DE X e te we)(hr:DA X es tR wR)(hs:Aw (e::es) X.env=(ai,eval e X.env)::Aw es X.env:=by rfl):DA X (e::es) (c9 te tR) (ao we wR):=⟨bY h.pe hr.pa hs,λC H B σ δ n Q Q' R q k=>
 h.sd C H B σ δ n _ _ R q λv x H1 n1 R1 k1 r1 q1=>hr.sd C H1 B σ δ n1 _ _ R1 q1 λvs xs H2 n2 R2 k2 r2 q2=>k (v::vs) (x::xs) H2 n2 R2 (k1.trans k2) (.cons (r1.kp k2 R1.bt) r2) q2⟩
def dw:List Wv->Option (List Ab)
 |[]=>ae []
 |.d x::r=>(dw r).map (x::·)
 |_::_=>af
theorem ARel.plain{H:Hp}{B:Addr->Prop}{t:Addr}:∀{vs:List V}{xs:List Wv}{ds:List Ab},ARel H B t vs xs->dw xs=ae ds->RdXs H B vs ds
 |_,_,_,.nil,h=>by
  cases h;exact .nil
 |_,_,ds,.cons (x:=x) (xs:=xs) a b,h=>by
  cases x with
  |d x=>
   have h':(dw xs).map (x::·)=ae ds:=h;cases e:dw xs with
   |none=>rw[e]at h';cases h'
   |some es=>
    rw[e]at h';cases h';exact .cons a (ARel.plain b e)
  |tp=>cases h
  |dk _=>cases h
  |ln _=>cases h
  |ob _=>cases h
theorem RdXs.fresh{H:Hp}{B:Addr->Prop}{vs:List V}{ds:List Ab}{p:Addr}{o:HO}(h:RdXs H B vs ds)(hp:H p=af):RdXs (upd H p o) (λb=>B b\/b=p) vs ds:=
 h.move λb o' e n=>⟨by rw[aX (b7 e hp)];exact e,λz=>z.elim n λq=>b7 e hp q⟩
def aA(w:dZ):DT:=λδ n Q=>w δ n λxs n1=>match dw xs with
 |some ds=>ds.length<=1000/\Q (.d (.tuple ds)) n1
 |none=>False
theorem Nz{x1}(h:DA X es tR wR):DE X (.Tuple es x1 pos) (lL tR) (aA wR):=⟨CK h.pa,λC H B σ δ n Q Q' R q k=>
 h.sd C H B σ δ n _ _ R q λvs xs H1 n1 R1 k1 r1 q1=>by
  split at q1
  ·rename_i ds e;have r:=r1.plain e;have hl:vs.length<=A2:=by rw[r.len];exact lH q1.1
   refine⟨hl,λp hp=>k _ _ _ n1 (R1.new hp) (k1.trans (Kp.new hp)) (wd (show RdX _ B (.ref p) (.tuple ds)from ?_)) q1.2⟩;exact .tup bI (R1.nb hp) hl ((r.fresh hp).less λb z=>.inl z)
  ·exact q1.elim⟩
def aN(w:dZ):dX:=λδ n Q=>w δ n λxs n1=>match dw xs with
 |some ds=>ds.length<=1000/\Q ds n1
 |none=>False
theorem LJ(h:DA X es tR wR):DF X (.List es pos) (kL tR) (aN wR):=⟨pD h.pa,λC H B σ δ n Q Q' R q k=>
 h.sd C H B σ δ n _ _ R q λvs xs H1 n1 R1 k1 r1 q1=>by
  split at q1
  ·rename_i ds e;have r:=r1.plain e;have hl:vs.length<=A2:=by rw[r.len];exact lH q1.1
   have hn:∀p,H1 p=af->H p=af:=λp hp=>by
    cases q:H p with
    |none=>rfl
    |some o=>
     by_cases z:p=C.t
     ·subst z;obtain⟨_,_,h,_⟩:=R1.tp.ob;rw[h]at hp;cases hp
     ·rw[k1 p o q z]at hp;cases hp
   exact⟨hl,λp hp=>k p vs ds _ n1 (R1.new hp) (k1.trans (Kp.new hp)) (hn p hp) bI hl (r.fresh hp) q1.2⟩
  ·exact q1.elim⟩
def aP(w:dX):DT:=λδ n Q=>w δ n λds n1=>Q (.d (.list ds)) n1
theorem M8{t:TE}{w:dX}(h:iA t w):eP t (aP w):=λC H B σ δ n Q Q' R q k=>
 h C H B σ δ n _ _ R q λa xs ds H' n' R' k' h0 h1 h2 h3 q'=>k _ _ H' n' R' k' (wd (show RdX H' B (.ref a) (.list ds)from .lst h1 (R.nb h0) h2 (h3.less λb z=>.inl z))) q'
theorem DF.d{w:dX}{t:TE}(h:DF X e t w):DE X e t (aP w):=⟨h.pe,M8 h.sd⟩
theorem Rel.was{C:Ctx}{H H1:Hp}{B:Addr->Prop}{σ:St}{δ:Sl}{n1:Int}(R1:Rel C H1 B σ δ n1)(k1:Kp C.t H H1){p:Addr}(hp:H1 p=af):H p=af:=by
 cases q:H p with
 |none=>rfl
 |some o=>
  by_cases z:p=C.t
  ·subst z;obtain⟨_,_,h,_⟩:=R1.tp.ob;rw[h]at hp;cases hp
  ·rw[k1 p o q z]at hp;cases hp
abbrev bx:=List Wv->Int->DQ->Prop
def dt(S:bx):Sp:=λvs H Q _=>∃(t:Addr)(l:TL)(ns:List Int)(B:Addr->Prop)(ws:List Wv)(n:Int)(Q0:DQ),Tp H t l ns n/\B t/\(∀b,B b->H b≠af)/\ARel H B t vs ws/\S ws n Q0 /\
 ∀w n',Q0 w n'->∀v H',Tp H' t l ns n'->Kp t H H'->WRel H' B t v w->Q v H'
section
variable{X:Cx}{e:Expr}{es:List Expr}{pos p:Pos}{tR:TA}{wR:dZ}
def az(S:bx)(w:dZ):DT:=λδ n Q=>w δ n λxs n1=>S xs n1 Q
theorem O7{S:bx}{t:TA}{w:dZ}(h:ij t w):eP (gT (dt S) [] E0 t) (az S w):=λC H B σ δ n Q Q' R q k=>
 h C H B σ δ n _ _ R q λvs xs H1 n1 R1 k1 r1 q1=>by
  refine⟨C.t,C.l,C.ns,B,xs,n1,Q,R1.tp,R1.bt,R1.ba,by rw[Bv];exact r1,q1,λw n' q2 v H' T' k' r'=>?_⟩;exact k v w H' n' (R1.step T' k') (k1.trans k') r' q2
theorem EW{k:Nat}{f:Addr}{fd:C7}{ps:List Str}{S:bx}{x:Str}(F:FnOk X.prog X.w X.K X.mg X.base b5 k f fd ps (dt S))(hr:Room k X.A)(hg:Gl X x)(hm:X.mg x=ae (.ref f))(hk:Di X.K (.ref f)=ah)(hb:Binds X.K fd ps [])
  (ha:DA X (e::es) tR wR) (hdb:(x==("__debug__":Str))=ai:=by decide) (he:Aw (e::es) X.env=(ai,eval e X.env)::Aw es X.env:=by rfl) (hpl:(D2 pos (Aw es X.env)).any (·.1)=ai:=by rfl):
  DE X (.Call (.Name x p) (e::es) [] pos) (gT (dt S) [] E0 tR) (az S wR):=⟨qo F hr hg hm hk hb .nil rH ha.pa hdb he hpl,O7 ha.sd⟩
def cK(r:List V->Hp->VK->Prop)(g:List Wv->Int->DQ->Prop):Prop:=∀(C:Ctx)(H:Hp)(B:Addr->Prop)(σ:St)(δ:Sl)(n:Int)(vs:List V)(xs:List Wv)(Q:DQ)(Q':VK),Rel C H B σ δ n->ARel H B C.t vs xs->g xs n Q->
 (∀v x H' n',Rel C H' B σ δ n'->Kp C.t H H'->WRel H' B C.t v x->Q x n'->Q' v H')->r vs H Q'
def wB(g:List Wv->Int->DQ->Prop)(w:dZ):DT:=λδ n Q=>w δ n λxs n1=>g xs n1 Q
theorem xH{r:List V->Hp->VK->Prop}{g:List Wv->Int->DQ->Prop}{t:TA}{w:dZ}(hr:cK r g)(h:ij t w):eP (eR r t) (wB g w):=λC H B σ δ n Q Q' R q k=>
 h C H B σ δ n _ _ R q λvs xs H1 n1 R1 k1 r1 q1=>hr C H1 B σ δ n1 vs xs Q Q' R1 r1 q1 λv x H2 n2 R2 k2 r2 q2=>k v x H2 n2 R2 (k1.trans k2) r2 q2
theorem mX{id:String}{x:Str}{r:List V->Hp->VK->Prop}{g:List Wv->Int->DQ->Prop}(hc:CallR X (.builtin id) r)(hr:cK r g)(hg:Gl X x)(hm:X.mg x=af)(hv:Bx x=ae (.builtin id))(ha:DA X (e::es) tR wR)(hn:x≠"__name__":=by decide)(hdb:(x==("__debug__":Str))=ai:=by decide)
  (he:Aw (e::es) X.env=(ai,eval e X.env)::Aw es X.env:=by rfl) (hpl:(D2 pos (Aw es X.env)).any (·.1)=ai:=by rfl):DE X (.Call (.Name x p) (e::es) [] pos) (eR r tR) (wB g wR):=⟨iX hc hg hm hv ha.pa hn hdb he hpl,xH hr ha.sd⟩
theorem m4{T:String}{x:Str}{r:List V->Hp->VK->Prop}{g:List Wv->Int->DQ->Prop}(hc:CallR X (.type T) r)(hr:cK r g)(hg:Gl X x)(hm:X.mg x=af)(hv:Bx x=ae (.type T))(ha:DA X (e::es) tR wR)(hn:x≠"__name__":=by decide)(hdb:(x==("__debug__":Str))=ai:=by decide)
  (he:Aw (e::es) X.env=(ai,eval e X.env)::Aw es X.env:=by rfl) (hpl:(D2 pos (Aw es X.env)).any (·.1)=ai:=by rfl):DE X (.Call (.Name x p) (e::es) [] pos) (eR r tR) (wB g wR):=⟨kQ hc hg hm hv ha.pa hn hdb he hpl,xH hr ha.sd⟩
end
structure DEnds where
 nx:Sl->Int->Prop
 rt:DQ
 bk:Sl->Int->Prop:=λ_ _=>False
 ct:Sl->Int->Prop:=λ_ _=>False
 rn:List Ab->Int->Prop:=λ_ _=>False
abbrev aM:=Sl->Int->DEnds->Prop
structure EndsOk(C:Ctx)(K:DEnds)(D:Ends):Prop where
 nx:∀H B σ δ n,Rel C H B σ δ n->K.nx δ n->D.nx σ H
 rt:∀H B σ δ n v w,Rel C H B σ δ n->WRel H B C.t v w->K.rt w n->D.rt v H
 bk:∀H B σ δ n,Rel C H B σ δ n->K.bk δ n->D.bk σ H
 ct:∀H B σ δ n,Rel C H B σ δ n->K.ct δ n->D.ct σ H
 rn:∀H B σ δ n a xs ds,Rel C H B σ δ n->C.H0 a=af->H a=ae (.lst xs)->xs.length<=A2->RdXs H (λb=>B b\/b=a) xs ds->K.rn ds n->D.rt (.ref a) H
def ie(T:TS)(W:aM):Prop:=∀(C:Ctx)(H:Hp)(B:Addr->Prop)(σ:St)(δ:Sl)(n:Int)(K:DEnds)(D:Ends),Rel C H B σ δ n->W δ n K->EndsOk C K D->T D σ H
structure DS(X:Cx)(st:Stmt)(T:TS)(W:aM):Prop where
 ps:PS X st T
 sd:ie T W
structure DSs(X:Cx)(st:List Stmt)(T:TS)(W:aM):Prop where
 ps:PSs X st T
 sd:ie T W
section
variable{X:Cx}{st:Stmt}{rest:List Stmt}{T U:TS}{W V':aM}{e:Expr}{te:TE}{we:DT}{pos:Pos}
def aV:aM:=λδ n K=>K.nx δ n
def aq(W V:aM):aM:=λδ n K=>W δ n {K with nx:=λδ n=>V δ n K}
theorem DW:DSs X [] yV aV:=⟨mR,λC H B σ δ n K D R h E=>E.nx H B σ δ n R h⟩
theorem BC(h:DS X st T W)(h2:DSs X rest U V'):DSs X (st::rest) (mi T U) (aq W V'):=⟨gg h.ps h2.ps,λC H B σ δ n K D R q E=>
 h.sd C H B σ δ n _ _ R q ⟨λH B σ δ n R q=>h2.sd C H B σ δ n K D R q E,E.rt,E.bk,E.ct,E.rn⟩⟩
theorem IW(h:DS X st T W):DSs X [st] T W:=⟨jX h.ps,h.sd⟩
def aw(w:DT):aM:=λδ n K=>w δ n K.rt
theorem IK(h:DE X e te we):DS X (.Return (ae e) pos) (jz te) (aw we):=⟨jT h.pe,λC H B σ δ n K D R q E=>
 h.sd C H B σ δ n _ _ R q λv x H' n' R' _ r' q'=>E.rt H' B σ δ n' v x R' r' q'⟩
def bb(c:cj)(W V:aM):aM:=λδ n K=>c δ n λb n1=>if b=ah then W δ n1 K else V δ n1 K
theorem sL{c:Expr}{a b:List Stmt}{tc:TT}{cc:cj}(hc:DC X c tc cc)(ha:DSs X a T W)(hb:DSs X b U V'):DS X (.If c a b pos) (l8 tc T U) (bb cc W V'):=⟨nJ hc.pt ha.ps hb.ps,λC H B σ δ n K D R q E=>
 hc.sd C H B σ δ n _ _ R q λb H1 n1 R1 _ q1=>by
  cases b with
  |true=>
   rw[if_pos rfl]at q1 ⊢;exact ha.sd C H1 B σ δ n1 K D R1 q1 E
  |false=>
   rw[if_neg Au]at q1 ⊢;exact hb.sd C H1 B σ δ n1 K D R1 q1 E⟩
def aJ(i:Nat)(w:DT):aM:=λδ n K=>w δ n λx n1=>match x with
 |.d d=>K.nx (δ.set i (ae (.w (.d d)))) n1
 |.tp=>K.nx (δ.set i (ae (.w .tp))) n1
 |.dk _=>False
 |.ln _=>False
 |.ob o=>K.nx (δ.set i (ae (.w (.ob o)))) n1
theorem HB{i:Nat}{x:Str}{pos':Pos}(hN:X.N.Nodup)(hi:X.N[i]?=ae x)(hx:ju X.env.scope x)(he:DE X e te we)(hs:F1 e (ae (.Name x pos')) pos.line X.env=pure ai:=by rfl)(hf:X.fn x=ah\/X.env.scope.names.lookup x=ae .local:=by first|exact .inl rfl|exact .inr rfl|assumption):
  DS X (.Assign [.Name x pos'] e pos) (c6 te (gc i)) (aJ i we):=⟨iY hN hi hx he.pe hs hf,λC H B σ δ n K D R q E=>
 he.sd C H B σ δ n _ _ R q λv x H1 n1 R1 _ r1 q1=>by
  cases x with
  |d d=>exact E.nx _ _ _ _ _ (R1.set r1 rfl) q1
  |tp=>exact E.nx _ _ _ _ _ (R1.set r1 rfl) q1
  |dk _=>exact q1.elim
  |ln _=>exact q1.elim
  |ob o=>exact E.nx _ _ _ _ _ (R1.set r1 rfl) q1⟩
def bu(i:Nat)(w:dX):aM:=λδ n K=>w δ n λds n1=>K.nx (δ.set i (ae (.own ds))) n1
theorem Rel.h0{C:Ctx}{H:Hp}{B:Addr->Prop}{σ:St}{δ:Sl}{n:Int}{a:Addr}(R:Rel C H B σ δ n)(h:H a=af):C.H0 a=af:=R.was R.kp h
theorem JZ{i:Nat}{x:Str}{pos':Pos}{w:dX}(hN:X.N.Nodup)(hi:X.N[i]?=ae x)(hx:ju X.env.scope x)(he:DF X e te w)(hs:F1 e (ae (.Name x pos')) pos.line X.env=pure ai:=by rfl)(hf:X.fn x=ah\/X.env.scope.names.lookup x=ae .local:=by first|exact .inl rfl|exact .inr rfl|assumption):
  DS X (.Assign [.Name x pos'] e pos) (c6 te (gc i)) (bu i w):=⟨iY hN hi hx he.pe hs hf,λC H B σ δ n K D R q E=>
 he.sd C H B σ δ n _ _ R q λa xs ds H1 n1 R1 k1 h0 h1 h2 h3 q1=>by
  refine E.nx _ _ _ _ _ (R.own R1 k1 h0 (by rw[h1];exact λz=>nomatch z) rfl ?_) q1;exact⟨a,xs,rfl,h1,.inr rfl,R.h0 h0,h2,h3⟩⟩
def bQ(i:Nat)(W:aM):aM:=λδ n K=>match δ[i]? with
 |some (ae (.own ds))=>W (δ.set i (ae (.w (.d (.list ds))))) n K
 |some (ae (.odk m))=>W (δ.set i (ae (.w (.ob (.k m))))) n K
 |_=>W δ n K
theorem Kc(i:Nat){sts:List Stmt}(h:DSs X sts T W):DSs X sts T (bQ i W):=⟨h.ps,λC H B σ δ n K D R q E=>by
 unfold bQ at q
 split at q
 ·rename_i ds e;obtain⟨B',R'⟩:=R.frz e;exact h.sd C H B' σ _ n K D R' q E
 ·rename_i m e;obtain⟨B',R'⟩:=R.frzK e;exact h.sd C H B' σ _ n K D R' q E
 ·exact h.sd C H B σ δ n K D R q E⟩
def bw(i:Nat)(w:DT):aM:=λδ n K=>match δ[i]? with
 |some (ae (.own ds))=>w δ n λx n1=>match x with
  |.d d=>ds.length < 1000000/\K.nx (δ.set i (ae (.own (ds++[d])))) n1
  |_=>False
 |_=>False
theorem zk{n:Nat}(h:n < 1000000):n < A2:=Nat.lt_trans h ∎
theorem L3{i:Nat}{x:Str}{xp ap cp:Pos}(hN:X.N[i]?=ae x)(he:DE X e te we)(hv:fq X.env.scope x:=by first|exact Ea rfl|exact C6 (Ea rfl)|exact C6 (C6 rfl))(hd:(x==("__debug__":Str))=ai:=by decide)
  (hcd:(x==("__classdict__":Str))=ai:=by decide)
  (hbase:Gx (.Name x xp) "append" X.env (eval (.Name x xp) X.env)=eval (.Name x xp) X.env:=by rfl)
  (hfew:((D2 cp (Aw [e] X.env)).all (λx=>!x.1)&&(backToKw cp (keywordEach [] X.env)).all (λx=>x.1.isSome)
   && decide ([e].length+([]:List Keyword).length+(if ([]:List Keyword).isEmpty then 0 else 1) < 30))=ah:=by rfl)
  (hline:(ap.endLine==cp.line)=ah:=by rfl) (hs:Aw [e] X.env=[(ai,eval e X.env)]:=by rfl) (hplain:(D2 cp (Aw [] X.env)).any (·.1)=ai:=by rfl)
  (hsw:F1 (.Call (.Attribute (.Name x xp) "append" ap) [e] [] cp) af pos.line X.env=pure ai:=by rfl):
  DS X (.Expr (.Call (.Attribute (.Name x xp) "append" ap) [e] [] cp) pos) (j5 (lh X.K "list" vL (dc i) (c9 te bF))) (bw i we):=
 ⟨kR (mQ E8 PySem.F.slot_list_append PySem.F.type_list_append rm (gM hN hv hd hcd) (bY he.pe dz hs) hbase hfew hline hs hplain) hsw,λC H B σ δ n K D R q E=>by
  unfold bw at q
  split at q
  ·rename_i ds ei;obtain⟨v,hv,a,xs,rfl,e2,e3,e4,e5,e6⟩:=R.sl i _ ei;refine⟨_,hv,.inl ⟨rfl,_,SqL.of e2⟩,he.sd C H B σ δ n _ _ R q λu y H1 n1 R1 k1 r1 q1=>?_⟩;cases y with
   |d d=>
    have hat:a≠C.t:=λz=>R.t0 (z▸e4);have e2':=k1 _ _ e2 hat;refine⟨a,xs,u,rfl,rfl,e2',zk (by rw[e6.len];exact q1.1),?_⟩;refine E.nx _ _ _ _ _ (R1.mutOwn ei rfl hv e3 e4 ?_ rfl) q1.2;refine⟨a,xs++[u],rfl,bI,e3,e4,?_,?_⟩
    ·rw[Ao,e6.len];exact zk q1.1
    ·refine RdXs.keep (λb o e n=>?_) ((e6.kp k1 R.bt).append (.cons r1 .nil));rw[aX λ(z:b=a)=>n (z▸e3)];exact e
   |tp=>exact q1.elim
   |dk _=>exact q1.elim
   |ln _=>exact q1.elim
   |ob _=>exact q1.elim
  ·exact q.elim⟩
end
def dh(N:List Str)(ws:List Wv):Sl:=ws.map (λx=>ae (.w x))++D4 (N.length-ws.length) af
def cq(S:bx)(W:aM)(N:List Str):Prop:=∀ws n Q,S ws n Q->W (dh N ws) n {nx:=λ_ n=>Q (.d .none) n,rt:=Q}
theorem ARel.get{H:Hp}{B:Addr->Prop}{t:Addr}:∀{vs:List V}{xs:List Wv}{i:Nat}{x:Wv},ARel H B t vs xs->xs[i]?=ae x->∃v,vs[i]?=ae v/\WRel H B t v x
 |_,_,_,_,.nil,e=>by simp at e
 |_,_,0,_,.cons h _,e=>by
  simp at e;subst e;exact⟨_,rfl,h⟩
 |_,_,i+1,x,.cons _ r,e=>by
  obtain⟨v,h1,h2⟩:=ARel.get (i:=i) (x:=x) r (by simpa using e);exact⟨v,by simpa using h1,h2⟩
theorem vY{H:Hp}{t:Addr}{l:TL}{ns:List Int}{B:Addr->Prop}{vs:List V}{ws:List Wv}{n:Int}{N:List Str}(T:Tp H t l ns n)(bt:B t)(ba:∀b,B b->H b≠af)(r:ARel H B t vs ws):Rel ⟨t,l,ns,H,B,λ_=>af⟩ H B (L2.start N vs) (dh N ws) n where
 tp:=T
 kp:=Kp.refl _ _
 t0:=by
  obtain⟨_,_,h,_⟩:=T.ob;show H t≠af;rw[h];exact λz=>nomatch z
 l0:=by
  show H l.s≠af;rw[T.ls];exact λz=>nomatch z
 g0:=λe=>by
  show H l.g≠af;rw[T.ag e];exact λz=>nomatch z
 fz:=λb o e=>nomatch e
 bt:=bt
 b0:=λ_ z=>z
 ba:=ba
 a0:=ba
 sl:=λi x e=>by
  have hl:=r.len;unfold dh at e;rw[List.getElem?_append]at e
  split at e
  ·rename_i hi;rw[Ad]at hi;rw[A0]at e;cases q:ws[i]? with
   |none=>rw[q]at e;cases e
   |some y=>
    rw[q]at e;cases e;obtain⟨v,h1,h2⟩:=r.get q;refine⟨v,?_,h2,λz=>?_⟩
    ·unfold L2.start;rw[Gd (by rw[Ad,hl];exact hi),A0,h1];rfl
    ·cases y with
     |d _=>cases z
     |tp=>cases z
     |dk _=>
      obtain⟨a,l',f1,f2,_⟩:=h2;exact⟨a,f1,by show H a≠af;rw[f2];exact λz=>nomatch z⟩
     |ln _=>
      obtain⟨a,l',f1,f2,_⟩:=h2;exact⟨a,f1,by show H a≠af;rw[f2];exact λz=>nomatch z⟩
     |ob _=>cases z
  ·rw[Ff]at e
   split at e
   ·cases e
   ·cases e
 ow:=λi j x y v e1 e2 o1 o2 _ _=>by
  unfold dh at e1;rw[List.getElem?_append]at e1
  split at e1
  ·rw[A0]at e1;cases q:ws[i]? with
   |none=>rw[q]at e1;cases e1
   |some y=>
    rw[q]at e1;cases e1;cases o1
  ·rw[Ff]at e1
   split at e1
   ·cases e1
   ·cases e1
 len:=by
  unfold L2.start dh;rw[Ao,Ao,Ad,Ad,List.length_replicate,List.length_replicate,r.len]
section
variable{P:Bn}{w:By}{K:Aj}{mg:Str->Option Ag}{base:Heap}
theorem Fun.okD{x qual:Str}{st:Stmt}{f:Addr}{fd:C7}{N ps:List Str}{k:Nat}{S:bx}(F:Fun K x qual st f fd)(Sc:FnScope N ps (cv st))(len:∀ws n Q,S ws n Q->ws.length=ps.length)
  (hbody:∀(cdv:Ag)(A:Bt)(outer:List Env)(s:Ai)(H:Hp)(E:XK),Room k (A.deeper (E3 qual (cv st) s.heap.objs.size f cdv))->
   ∃T W,DSs (c7 b5 P w K mg base N qual (cv st) f cdv A outer s H E).nox (fh st) T W/\∀ws n Q,S ws n Q->W (dh N ws) n {nx:=λ_ n=>Q (.d .none) n,rt:=Q}):FnOk P w K mg base b5 (k+1) f fd ps (dt S):=by
 refine F.ok Sc (λvs H Q E h=>?_) (λcdv A outer s H vs Q E hr h=>?_)
 ·obtain⟨t,l,ns,B,ws,n,Q0,_,_,_,r,q,_⟩:=h;rw[r.len];exact len ws n Q0 q
 ·obtain⟨t,l,ns,B,ws,n,Q0,T,bt,ba,r,q,kk⟩:=h;obtain⟨T',W,d,hw⟩:=hbody cdv A outer s H E hr;refine⟨T',d.ps,d.sd ⟨t,l,ns,H,B,λ_=>af⟩ H B _ _ n _ _ (vY T bt ba r) (hw ws n Q0 q) ⟨?_,?_,?_,?_,λ_ _ _ _ _ _ _ _ _ _ _ _ _ z=>z.elim⟩⟩
  ·exact λH' B' σ δ n' R' q'=>kk _ _ q' .non H' R'.tp R'.kp (show RdX H' B .non .none from .non)
  ·exact λH' B' σ δ n' v x R' r' q'=>kk _ _ q' v H' R'.tp R'.kp (r'.less R'.b0)
  ·exact λ_ _ _ _ _ _ z=>z.elim
  ·exact λ_ _ _ _ _ _ z=>z.elim
end
section
variable{X:Cx}{a b c e:Expr}{ta tb tc te:TE}{wa wb wc we:DT}{pos p:Pos}
def gI(Cd:Int->Int->Prop)(f:Int->Int->Ab):Wv->Wv->Int->DQ->Prop:=λx y n Q=>match x,y with
 |.d (.int i),.d (.int j)=>Cd i j/\Q (.d (f i j)) n
 |_,_=>False
theorem NS{Cd:Int->Int->Prop}{g:Int->Int->V}{f:Int->Int->Ab}(h:∀i j H B,RdX H B (g i j) (f i j)):bj (rI Cd g) (gI Cd f):=λC H B σ δ n x y p q Q Q' R rx ry h1 k=>by
 unfold gI at h1
 split at h1
 ·rename_i i j;cases(show RdX H B x (.int i)from rx);cases(show RdX H B y (.int j)from ry);exact⟨i,j,rfl,rfl,h1.1,k _ _ H n R (Kp.refl _ _) (wd (h i j H B)) h1.2⟩
 ·exact h1.elim
def cJ(f:Int->Int->Ab):Wv->Wv->Int->DQ->Prop:=λx y n Q=>match x,y with
 |.d (.int i),.d (.int j)=>Q (.d (f i j)) n
 |_,_=>False
theorem sQ{g:Int->Int->V}{f:Int->Int->Ab}(h:∀i j H B,RdX H B (g i j) (f i j)):bj (eK g) (cJ f):=λC H B σ δ n x y p q Q Q' R rx ry h1 k=>by
 unfold cJ at h1
 split at h1
 ·rename_i i j;cases(show RdX H B x (.int i)from rx);cases(show RdX H B y (.int j)from ry);exact⟨i,j,rfl,rfl,k _ _ H n R (Kp.refl _ _) (wd (h i j H B)) h1⟩
 ·exact h1.elim
theorem II(ha:DE X a ta wa)(hb:DE X b tb wb):DE X (.BinOp a .Sub b pos) (d4 (eK λi j=>.int (i-j)) ta tb) (w2 wa wb (cJ λi j=>.int (i-j))):=gw AY (sQ λ_ _ _ _=>.int _) ha hb
theorem IP(ha:DE X a ta wa)(hb:DE X b tb wb):DE X (.BinOp a .Pow b pos) (d4 (rI dB λi j=>.int (i ^ j.toNat)) ta tb) (w2 wa wb (gI dB λi j=>.int (i ^ j.toNat))):=gw zx (NS λ_ _ _ _=>.int _) ha hb
def dR(w:DT):DT:=λδ n Q=>w δ n λx n1=>match x with
 |.d (.int i)=>Q (.d (.int (-i))) n1
 |_=>False
theorem N2(ha:DE X a ta wa):DE X (.UnaryOp .USub a pos) (oS (rU λi=>.int (-i)) ta) (dR wa):=⟨yi yf ha.pe,λC H B σ δ n Q Q' R q k=>ha.sd C H B σ δ n _ _ R q λv x H1 n1 R1 k1 r1 q1=>by
 split at q1
 ·rename_i i;cases(show RdX H1 B v (.int i)from r1);exact⟨i,rfl,k _ _ H1 n1 R1 k1 (wd (.int _)) q1⟩
 ·exact q1.elim⟩
def g9:Wv->Wv->Int->DQ->Prop:=λx y n Q=>match x,y with
 |.d (.int i),.d (.int j)=>Q (.d (.int (i+j))) n
 |.d (.str i),.d (.str j)=>i.length+j.length<=A2/\Q (.d (.str (i++j))) n
 |.d (.tuple i),.d (.tuple j)=>(i≠[]\/j≠[])/\i.length+j.length<=A2/\Q (.d (.tuple (i++j))) n
 |.d (.list i),.d (.list j)=>i.length+j.length<=A2/\Q (.d (.list (i++j))) n
 |_,_=>False
def nX(K:Aj):R2:=λx y H Q=>(eK λi j=>.int (i+j)) x y H Q\/(∃i j,x=.str i/\y=.str j/\i.length+j.length<=A2/\Q (.str (i++j)) H)\/sZ K x y H Q\/xw K x y H Q\/ia x y H Q
theorem op_addA:OpR X (Fp .Add) (nX X.K):=
 op_add.or (op_add_str.or (op_catA.or (op_catT.or zV)))
theorem IJ(i j:Str):(i++j).length=i.length+j.length:=Array.size_append
theorem ME{K:Aj}:bj (nX K) g9:=λC H B σ δ n x y p q Q Q' R rx ry h1 k=>by
 unfold g9 at h1
 split at h1
 ·rename_i i j;cases(show RdX H B x (.int i)from rx);cases(show RdX H B y (.int j)from ry);exact .inl ⟨i,j,rfl,rfl,k _ _ H n R (Kp.refl _ _) (wd (.int _)) h1⟩
 ·rename_i i j;cases(show RdX H B x (.str i)from rx);cases(show RdX H B y (.str j)from ry);exact .inr (.inl ⟨i,j,rfl,rfl,h1.1,k _ _ H n R (Kp.refl _ _) (wd (show RdX H B _ (.str (i++j))from .str _ (by rw[IJ];exact h1.1))) h1.2⟩)
 ·rename_i i j;cases(show RdX H B x (.tuple i)from rx)with
  |@tup ax xs _ e1 e2 e3 e4=>
   cases(show RdX H B y (.tuple j)from ry)with
   |@tup ay ys _ f1 f2 f3 f4=>
    obtain⟨ne,hl,q⟩:=h1;have hl':xs.length+ys.length<=A2:=by rw[e4.len,f4.len];exact hl
    have new:∀pn,H pn=af->Q' (.ref pn) (upd H pn (.tup (xs++ys))):=λpn hp=>by
     refine k _ _ _ n (R.new hp) (Kp.new hp) (wd (show RdX _ B _ (.tuple (i++j))from .tup bI (R.nb hp) (by rw[Ao];exact hl') ?_)) q;exact((e4.append f4).fresh hp).less λb z=>.inl z
    by_cases hy:ys=[]
    ·have hx:xs≠[]:=λz=>by
      subst hy z;cases e4;cases f4;exact ne.elim (λq=>q rfl) λq=>q rfl
     refine .inr (.inr (.inr (.inl ⟨ax,ay,xs,ys,rfl,rfl,SqT.of e1,SqT.of f1,hx,hl',λ_=>?_,λ_=>new⟩)));subst hy;cases f4;rw[Bv]at q;exact k _ _ H n R (Kp.refl _ _) (wd (show RdX H B _ (.tuple i)from .tup e1 e2 e3 e4)) q
    ·refine .inr (.inr (.inl ⟨ax,ay,xs,ys,rfl,rfl,SqT.of e1,SqT.of f1,hy,hl',λz=>?_,λ_=>new⟩));subst z;cases e4;exact k _ _ H n R (Kp.refl _ _) (wd (show RdX H B _ (.tuple j)from .tup f1 f2 f3 f4)) q
 ·rename_i i j;cases(show RdX H B x (.list i)from rx)with
  |@lst ax xs _ e1 e2 e3 e4=>
   cases(show RdX H B y (.list j)from ry)with
   |@lst ay ys _ f1 f2 f3 f4=>
    obtain⟨hl,q⟩:=h1;have hl':xs.length+ys.length<=A2:=by rw[e4.len,f4.len];exact hl
    refine .inr (.inr (.inr (.inr ⟨ax,ay,xs,ys,rfl,rfl,e1,f1,hl',λpn hp=>?_⟩)));refine k _ _ _ n (R.new hp) (Kp.new hp) (wd (show RdX _ B _ (.list (i++j))from .lst bI (R.nb hp) (by rw[Ao];exact hl') ?_)) q;exact((e4.append f4).fresh hp).less λb z=>.inl z
 ·exact h1.elim
def bS(f:Int->Int->Bool)(h:List Nat->List Nat->Bool):Wv->Wv->Int->DQ->Prop:=λx y n Q=>match x,y with
 |.d (.int i),.d (.int j)=>Q (.d (.bool (f i j))) n
 |.d (.str i),.d (.str j)=>Q (.d (.bool (h i.cps.toList j.cps.toList))) n
 |_,_=>False
theorem nh{f:Int->Int->Bool}{h:List Nat->List Nat->Bool}:bj (λx y H Q=>(eK λi j=>.bl (f i j)) x y H Q\/∃i j,x=.str i/\y=.str j/\Q (.bl (h i.cps.toList j.cps.toList)) H) (bS f h):=λC H B σ δ n x y p q Q Q' R rx ry h1 k=>by
 unfold bS at h1
 split at h1
 ·rename_i i j;cases(show RdX H B x (.int i)from rx);cases(show RdX H B y (.int j)from ry);exact .inl ⟨i,j,rfl,rfl,k _ _ H n R (Kp.refl _ _) (wd (.bl _)) h1⟩
 ·rename_i i j;cases(show RdX H B x (.str i)from rx);cases(show RdX H B y (.str j)from ry);exact .inr ⟨i,j,rfl,rfl,k _ _ H n R (Kp.refl _ _) (wd (.bl _)) h1⟩
 ·exact h1.elim
theorem JS:OpR X (B4 .GtE) (λx y H Q=>∃i j,x=.str i/\y=.str j/\Q (.bl (!decide (i.cps.toList < j.cps.toList))) H):=by
 intro pins s σ H x y v u Q I rx ry h;obtain⟨i,j,rfl,rfl,q⟩:=h;obtain⟨t,rfl⟩:=rx;obtain⟨t',rfl⟩:=ry;exact P.ge_str (bR I q rfl)
abbrev f6:=bS (λi j=>decide (i < j)) (λi j=>decide (i < j))
abbrev di:=bS (λi j=>decide (i<=j)) (λi j=>!decide (j < i))
abbrev eF:=bS (λi j=>decide (j < i)) (λi j=>decide (j < i))
abbrev yv:=bS (λi j=>decide (j<=i)) (λi j=>!decide (i < j))
def kE:R2:=λx y H Q=>(eK λi j=>.bl (decide (i < j))) x y H Q\/∃i j,x=.str i/\y=.str j/\Q (.bl (decide (i.cps.toList < j.cps.toList))) H
theorem xP:OpR X (B4 .Lt) kE:=op_lt.or Il
def lu:R2:=λx y H Q=>(eK λi j=>.bl (decide (i<=j))) x y H Q\/∃i j,x=.str i/\y=.str j/\Q (.bl (!decide (j.cps.toList < i.cps.toList))) H
theorem nI:OpR X (B4 .LtE) lu:=op_le.or EX
def lY:R2:=λx y H Q=>(eK λi j=>.bl (decide (j < i))) x y H Q\/∃i j,x=.str i/\y=.str j/\Q (.bl (decide (j.cps.toList < i.cps.toList))) H
theorem vm:OpR X (B4 .Gt) lY:=op_gt.or OE
def kZ:R2:=λx y H Q=>(eK λi j=>.bl (decide (j<=i))) x y H Q\/∃i j,x=.str i/\y=.str j/\Q (.bl (!decide (i.cps.toList < j.cps.toList))) H
theorem Oe:OpR X (B4 .GtE) kZ:=op_ge.or JS
theorem uS:bj kE f6:=nh (f:=λi j=>decide (i < j)) (h:=λi j=>decide (i < j))
theorem nV:bj lu di:=nh (f:=λi j=>decide (i<=j)) (h:=λi j=>!decide (j < i))
theorem wN:bj lY eF:=nh (f:=λi j=>decide (j < i)) (h:=λi j=>decide (j < i))
theorem Ka:bj kZ yv:=nh (f:=λi j=>decide (j<=i)) (h:=λi j=>!decide (i < j))
def mw:Ab->Ab->Option Bool
 |.none,.none=>ae ah
 |.none,.int _=>ae ai
 |.int _,.none=>ae ai
 |.none,.bool _=>ae ai
 |.bool _,.none=>ae ai
 |.none,.str _=>ae ai
 |.str _,.none=>ae ai
 |.int i,.int j=>ae (decide (i=j))
 |.bool i,.bool j=>ae (decide (i=j))
 |.str i,.str j=>ae (decide (i=j))
 |.int _,.str _=>ae ai
 |.str _,.int _=>ae ai
 |.bool _,.str _=>ae ai
 |.str _,.bool _=>ae ai
 |.list _,.str _=>ae ai
 |.tuple _,.str _=>ae ai
 |.dict _,.str _=>ae ai
 |.list xs,.list []=>ae xs.isEmpty
 |_,_=>af
def nL:R2:=λx y H Q=>∃d h B,RdX H B x d/\y=.str h/\Q (.bl (eZ h d)) H
theorem o4(x y:Str):decide (V.str x=V.str y)=decide (x=y):=by
 by_cases z:x=y
 ·rw[z,decide_eq_true rfl,decide_eq_true rfl]
 ·rw[decide_eq_false z,decide_eq_false λw=>z (V.str.inj w)]
theorem wW(x y:Int):decide (V.int x=V.int y)=decide (x=y):=by
 by_cases z:x=y
 ·rw[z,decide_eq_true rfl,decide_eq_true rfl]
 ·rw[decide_eq_false z,decide_eq_false λw=>z (V.int.inj w)]
theorem sS(x y:Bool):decide (V.bl x=V.bl y)=decide (x=y):=by
 by_cases z:x=y
 ·rw[z,decide_eq_true rfl,decide_eq_true rfl]
 ·rw[decide_eq_false z,decide_eq_false λw=>z (V.bl.inj w)]
theorem FH(hu:X.A.units < Fo):OpR X (B4 .Eq) nL:=by
 intro pins s σ H x y v u Q I rx ry h;obtain⟨d,hh,B,hd,rfl,q⟩:=h;cases hd with
 |non=>exact op_eq pins s σ H _ _ v u Q I rx ry ⟨rfl,q⟩
 |bl b=>exact op_eq pins s σ H _ _ v u Q I rx ry ⟨rfl,q⟩
 |int i=>exact op_eq pins s σ H _ _ v u Q I rx ry ⟨rfl,q⟩
 |str x hx=>
  refine op_eq pins s σ H _ _ v u Q I rx ry ⟨rfl,?_⟩;rw[o4];exact q
 |@lst a xs ds h1 h2 h3 h4=>
  cases(show v=Bf a from rx);obtain⟨t,rfl⟩:=(show ∃t,u=G5 hh t from ry);obtain⟨its,_,p,_⟩:=I.list (SqL.of (K:=X.K) h1);exact PySem.SeqAt.RcAt.list_str hh t p.isList hu _ _ _ _ ⟨.bl ai,H,I,rfl,q⟩
 |@tup a xs ds h1 h2 h3 h4=>
  cases(show v=Bf a from rx);obtain⟨t,rfl⟩:=(show ∃t,u=G5 hh t from ry);obtain⟨its,_,p,_⟩:=I.tuple (SqT.of (K:=X.K) h1);exact PySem.SeqAt.RcAt.tuple_str hh t (show s.heap.IsTuple a its.toArray from p) hu _ _ _ _ ⟨.bl ai,H,I,rfl,q⟩
def ck:Wv->Wv->Int->DQ->Prop:=λx y n Q=>match x,y with
 |.d a,.d b=>match mw a b with
  |some r=>Q (.d (.bool r)) n
  |none=>False
 |_,_=>False
theorem MZ(hu:X.A.units < Fo):OpR X (B4 .Eq) (λx y H Q=>oD x y H Q\/nL x y H Q\/nu X.K x y H Q):=op_eq.or ((FH hu).or (BX hu))
theorem JO{K:Aj}:bj (λx y H Q=>oD x y H Q\/nL x y H Q\/nu K x y H Q) ck:=λC H B σ δ n x y p q Q Q' R rx ry h1 k=>by
 unfold ck at h1
 split at h1
 ·rename_i da db;have rx:RdX H B x da:=rx;have ry:RdX H B y db:=ry;have fin:∀r:Bool,Q (.d (.bool r)) n->Q' (.bl r) H:=λr q=>k _ _ H n R (Kp.refl _ _) (wd (.bl r)) q
  split at h1
  ·rename_i r er;have h1:=fin r h1;cases rx with
   |non=>cases ry<;>first|(cases er;done)|(cases er;exact .inl ⟨rfl,h1⟩)
   |bl i=>cases ry<;>first|(cases er;done)|(cases er;exact .inl ⟨rfl,by first|exact h1|(rw[sS];exact h1)⟩)
   |int i=>cases ry<;>first|(cases er;done)|(cases er;exact .inl ⟨rfl,by first|exact h1|(rw[wW];exact h1)⟩)
   |str i hi=>cases ry<;>first|(cases er;done)|(cases er;exact .inl ⟨rfl,by first|exact h1|(rw[o4];exact h1)⟩)
   |@lst ax xs ds e1 e2 e3 e4=>
    cases ry with
    |str j hj=>cases er;exact .inr (.inl ⟨_,j,B,.lst e1 e2 e3 e4,rfl,h1⟩)
    |@lst ay ys es f1 f2 f3 f4=>
     cases f4 with
     |nil=>
      have er:ae ds.isEmpty=ae r:=er;cases er;refine .inr (.inr ⟨ax,ay,xs,rfl,rfl,SqL.of e1,SqL.of f1,?_⟩);have:xs.isEmpty=ds.isEmpty:=by cases e4<;>rfl
      rw[this];exact h1
     |cons _ _=>cases er
    |_=>cases er
   |@tup ax xs ds e1 e2 e3 e4=>
    cases ry with
    |str j hj=>cases er;exact .inr (.inl ⟨_,j,B,.tup e1 e2 e3 e4,rfl,h1⟩)
    |_=>cases er
  ·exact h1.elim
 ·exact h1.elim
def IG(a b:Ab):Option Bool:=match a,b with
 |.list _,_=>af
 |.tuple _,_=>af
 |a,b=>(mw a b).map not
def dM:Wv->Wv->Int->DQ->Prop:=λx y n Q=>match x,y with
 |.d a,.d b=>match IG a b with
  |some r=>Q (.d (.bool r)) n
  |none=>False
 |_,_=>False
theorem HW:bj tT dM:=λC H B σ δ n x y p q Q Q' R rx ry h1 k=>by
 unfold dM at h1
 split at h1
 ·rename_i da db;have rx:RdX H B x da:=rx;have ry:RdX H B y db:=ry;have fin:∀r:Bool,Q (.d (.bool r)) n->Q' (.bl r) H:=λr q=>k _ _ H n R (Kp.refl _ _) (wd (.bl r)) q
  split at h1
  ·rename_i r er;have h1:=fin r h1;cases rx with
   |non=>cases ry<;>first|(cases er;done)|(cases er;exact⟨rfl,h1⟩)
   |bl i=>cases ry<;>first|(cases er;done)|(cases er;exact⟨rfl,by first|exact h1|(rw[sS];exact h1)⟩)
   |int i=>cases ry<;>first|(cases er;done)|(cases er;exact⟨rfl,by first|exact h1|(rw[wW];exact h1)⟩)
   |str i hi=>cases ry<;>first|(cases er;done)|(cases er;exact⟨rfl,by first|exact h1|(rw[o4];exact h1)⟩)
   |lst _ _ _ _=>cases er
   |tup _ _ _ _=>cases er
  ·exact h1.elim
 ·exact h1.elim
def iL:Ab->Bool
 |.none=>ah
 |_=>ai
def bL(neg:Bool):Wv->Wv->Int->DQ->Prop:=λx y n Q=>match x,y with
 |.d a,.d .none=>Q (.d (.bool (if neg then !iL a else iL a))) n
 |_,_=>False
theorem z9{H:Hp}{B:Addr->Prop}{v:V}{d:Ab}(h:RdX H B v d):decide (v=.non)=iL d:=by cases h<;>rfl
theorem CW:bj (λx y H Q=>y=.non/\Q (.bl (decide (x=.non))) H) (bL ai):=λC H B σ δ n x y p q Q Q' R rx ry h1 k=>by
 unfold bL at h1
 split at h1
 ·rename_i da;cases(show RdX H B y .none from ry);exact⟨rfl,k _ _ H n R (Kp.refl _ _) (wd (show RdX H B _ (.bool (iL da))from by rw[z9 rx];exact .bl _)) h1⟩
 ·exact h1.elim
theorem OD:bj (λx y H Q=>y=.non/\Q (.bl (!decide (x=.non))) H) (bL ah):=λC H B σ δ n x y p q Q Q' R rx ry h1 k=>by
 unfold bL at h1
 split at h1
 ·rename_i da;cases(show RdX H B y .none from ry);exact⟨rfl,k _ _ H n R (Kp.refl _ _) (wd (show RdX H B _ (.bool (!iL da))from by rw[z9 rx];exact .bl _)) h1⟩
 ·exact h1.elim
def gs:Ab->Bool
 |.none=>ah
 |.bool _=>ah
 |.int _=>ah
 |.str _=>ah
 |_=>ai
def qr:Ab->Ab->Bool
 |.none,.none=>ah
 |.bool a,.bool b=>a==b
 |.bool a,.int b=>(if a then 1 else 0)==b
 |.int a,.bool b=>a==(if b then 1 else 0)
 |.int a,.int b=>a==b
 |.str a,.str b=>a==b
 |_,_=>ai
def cQ(x:Ab)(ds:List Ab):Bool:=ds.any λy=>qr y x
theorem ll{H:Hp}{B:Addr->Prop}{v:V}{d:Ab}(h:RdX H B v d)(f:gs d=ah):gR v=ah:=by cases h<;>first|rfl|cases f
theorem kH{H:Hp}{B:Addr->Prop}:∀{vs:List V}{ds:List Ab},RdXs H B vs ds->ds.all gs=ah->vs.all gR=ah
 |_,_,.nil,_=>rfl
 |_,_,.cons h r,f=>by
  rw[Dl,Ay]at f ⊢;exact⟨ll h f.1,kH r f.2⟩
theorem CQ{H:Hp}{B:Addr->Prop}{v u:V}{d e:Ab}(h:RdX H B v d)(h2:RdX H B u e):iz v u=qr d e:=by cases h<;>cases h2<;>rfl
theorem lC{H:Hp}{B:Addr->Prop}{v:V}{d:Ab}(h:RdX H B v d):∀{vs:List V}{ds:List Ab},RdXs H B vs ds->og v vs=cQ d ds
 |_,_,.nil=>rfl
 |_,_,.cons h1 r=>by
  have:=lC h r;unfold og cQ at this ⊢;rw[List.any_cons,List.any_cons,this,CQ h1 h]
def iS(neg:Bool):Wv->Wv->Int->DQ->Prop:=λx y n Q=>match x,y with
 |.d a,.d (.tuple ds)=>gs a=ah/\ds.all gs=ah/\Q (.d (.bool (if neg then !cQ a ds else cQ a ds))) n
 |.d a,.d (.list ds)=>gs a=ah/\ds.all gs=ah/\Q (.d (.bool (if neg then !cQ a ds else cQ a ds))) n
 |_,_=>False
theorem lU{K:Aj}{neg:Bool}:bj (iM K neg) (iS neg):=λC H B σ δ n x y p q Q Q' R rx ry h1 k=>by
 unfold iS at h1
 split at h1
 ·rename_i da ds;obtain⟨f1,f2,q⟩:=h1;have rx:RdX H B x da:=rx;cases(show RdX H B y (.tuple ds)from ry)with
  |@tup ay ys _ e1 e2 e3 e4=>
   refine⟨ay,ys,rfl,.inr (SqT.of e1),ll rx f1,kH e4 f2,?_⟩;rw[lC rx e4];exact k _ _ H n R (Kp.refl _ _) (wd (.bl _)) q
 ·rename_i da ds;obtain⟨f1,f2,q⟩:=h1;have rx:RdX H B x da:=rx;cases(show RdX H B y (.list ds)from ry)with
  |@lst ay ys _ e1 e2 e3 e4=>
   refine⟨ay,ys,rfl,.inl (SqL.of e1),ll rx f1,kH e4 f2,?_⟩;rw[lC rx e4];exact k _ _ H n R (Kp.refl _ _) (wd (.bl _)) q
 ·exact h1.elim
def aC:Wv->Wv->Int->DQ->Prop:=λx y n Q=>match x,y with
 |.d (.list ds),.d (.int i)=>match cM ds i with
  |some d=>Q (.d d) n
  |none=>False
 |.d (.tuple ds),.d (.int i)=>match cM ds i with
  |some d=>Q (.d d) n
  |none=>False
 |.d (.str z),.d (.int i)=>match cM z.cps.toList i with
  |some c=>Q (.d (.str ⟨#[c]⟩)) n
  |none=>False
 |_,_=>False
theorem rh{H:Hp}{B:Addr->Prop}{vs:List V}{ds:List Ab}{i:Int}{d:Ab}(r:RdXs H B vs ds)(h:cM ds i=ae d):∃v,cM vs i=ae v/\RdX H B v d:=by
 unfold cM at h ⊢;rw[r.len];cases e:ic ds.length i with
 |none=>rw[e]at h;cases h
 |some j=>
  rw[e]at h;exact r.getD h
theorem kA{K:Aj}:bj (jm K) aC:=λC H B σ δ n x y p q Q Q' R rx ry h1 k=>by
 unfold aC at h1
 split at h1
 ·rename_i ds i
  split at h1
  ·rename_i d e;cases(show RdX H B y (.int i)from ry);cases(show RdX H B x (.list ds)from rx)with
   |@lst ay ys _ e1 e2 e3 e4=>
    obtain⟨v,f1,f2⟩:=rh e4 e;exact .inl ⟨ay,ys,i,v,rfl,rfl,SqL.of e1,f1,k _ _ H n R (Kp.refl _ _) (wd f2) h1⟩
  ·exact h1.elim
 ·rename_i ds i
  split at h1
  ·rename_i d e;cases(show RdX H B y (.int i)from ry);cases(show RdX H B x (.tuple ds)from rx)with
   |@tup ay ys _ e1 e2 e3 e4=>
    obtain⟨v,f1,f2⟩:=rh e4 e;exact .inr (.inl ⟨ay,ys,i,v,rfl,rfl,SqT.of e1,f1,k _ _ H n R (Kp.refl _ _) (wd f2) h1⟩)
  ·exact h1.elim
 ·rename_i z i
  split at h1
  ·rename_i c e;cases(show RdX H B y (.int i)from ry);cases(show RdX H B x (.str z)from rx)with
   |str _ hz=>exact .inr (.inr ⟨z,i,c,rfl,rfl,hz,e,k _ _ H n R (Kp.refl _ _) (wd (show RdX H B _ (.str ⟨#[c]⟩)from .str _ (by show 1<=A2;decide))) h1⟩)
  ·exact h1.elim
 ·exact h1.elim
theorem qg(ha:DE X a ta wa)(hb:DE X b tb wb)(hs:nH b:=by exact λ_ _=>rfl):DE X (.Subscript a b pos) (d4 (jm X.K) ta tb) (w2 wa wb aC):=⟨fY r8 ha.pe hb.pe hs,l3 kA ha.sd hb.sd⟩
def aH:List Wv->Int->DQ->Prop:=λxs n Q=>match xs with
 |[.d (.str x)]=>Q (.d (.int x.length)) n
 |[.d (.list ds)]=>Q (.d (.int ds.length)) n
 |[.d (.tuple ds)]=>Q (.d (.int ds.length)) n
 |_=>False
theorem NZ:CallR X (.builtin "len") (λxs H Q=>(∃z,xs=[.str z]/\z.length<=A2/\Q (.int z.length) H)\/∃p ys,xs=[.ref p]/\(SqL X.K H p ys\/SqT X.K H p ys)/\Q (.int ys.length) H):=call_len_str.or nZ
theorem Ia{K:Aj}:cK (λxs H Q=>(∃z,xs=[.str z]/\z.length<=A2/\Q (.int z.length) H)\/∃p ys,xs=[.ref p]/\(SqL K H p ys\/SqT K H p ys)/\Q (.int ys.length) H) aH:=λC H B σ δ n vs xs Q Q' R r h k=>by
 unfold aH at h
 split at h
 ·rename_i x;cases r with
  |cons r1 r2=>
   cases r2;cases(show RdX H B _ (.str x)from r1)with
   |str _ hz=>exact .inl ⟨x,rfl,hz,k _ _ H n R (Kp.refl _ _) (wd (.int _)) h⟩
 ·rename_i ds;cases r with
  |cons r1 r2=>
   cases r2;cases(show RdX H B _ (.list ds)from r1)with
   |@lst ay ys _ e1 e2 e3 e4=>
    refine .inr ⟨ay,ys,rfl,.inl (SqL.of e1),?_⟩;rw[e4.len];exact k _ _ H n R (Kp.refl _ _) (wd (.int _)) h
 ·rename_i ds;cases r with
  |cons r1 r2=>
   cases r2;cases(show RdX H B _ (.tuple ds)from r1)with
   |@tup ay ys _ e1 e2 e3 e4=>
    refine .inr ⟨ay,ys,rfl,.inr (SqT.of e1),?_⟩;rw[e4.len];exact k _ _ H n R (Kp.refl _ _) (wd (.int _)) h
 ·exact h.elim
theorem Kl{K:Aj}{H:Hp}{B:Addr->Prop}{v:V}{d:Ab}(h:RdX H B v d):TyOf K H v (.type (ou d)):=by
 cases h with
 |non=>exact .non
 |bl b=>exact .bl b
 |int i=>exact .int i
 |str x h=>exact .str x
 |lst h1 h2 h3 h4=>exact .lst h1
 |tup h1 h2 h3 h4=>exact .tup h1
theorem GH{K:Aj}{H:Hp}{B:Addr->Prop}{v:V}{d:Ab}(h:RdX H B v d){T:String}(hT:T="int"\/T="bool"\/T="str"\/T="tuple"\/T="list"):PySem.W.kitOne K (.type (ou d)) (.type T)=ae (bE T d):=by
 cases h<;>rcases hT with rfl|rfl|rfl|rfl|rfl<;>rfl
def aL(T:String)(w:DT):DT:=λδ n Q=>w δ n λx n1=>match x with
 |.d d=>Q (.d (.bool (bE T d))) n1
 |_=>False
theorem HI{T:String}{x:Str}{p p2:Pos}(hT:T="int"\/T="bool"\/T="str"\/T="tuple"\/T="list")(hg:Gl X "isinstance")(hm:X.mg "isinstance"=af)(hg2:Gl X x)(hm2:X.mg x=af)(hv:Bx x=ae (.type T))(ha:DE X a ta wa)(hn:x≠"__name__":=by decide)(hdb:(x==("__debug__":Str))=ai:=by decide)
  (he:Aw [a,.Name x p2] X.env=(ai,eval a X.env)::Aw [.Name x p2] X.env:=by rfl) (he2:Aw [.Name x p2] X.env=(ai,eval (.Name x p2) X.env)::Aw [] X.env:=by rfl) (hpl:(D2 pos (Aw [.Name x p2] X.env)).any (·.1)=ai:=by rfl):
  DE X (.Call (.Name "isinstance" p) [a,.Name x p2] [] pos) (eR (λxs H Q=>∃x t b,xs=[x,.ty T]/\TyOf X.K H x t/\PySem.W.kitOne X.K t (.type T)=ae b/\Q (.bl b) H) (c9 ta (c9 (tC (.ty T)) bF))) (aL T wa):=
 ⟨iX (BZ (T:=T)) hg hm uH (bY ha.pe (bY (Ip (v:=.ty T) hg2 hm2 hv rfl hn hdb) dz he2) he) ∎ ∎ he hpl,λC H B σ δ n Q Q' R q k=>ha.sd C H B σ δ n _ _ R q λv x H1 n1 R1 k1 r1 q1=>by
  cases x with
  |d d=>exact⟨v,_,_,rfl,Kl r1,GH (show RdX H1 B v d from r1) hT,k _ _ H1 n1 R1 k1 (wd (.bl _)) q1⟩
  |tp=>exact q1.elim
  |dk _=>exact q1.elim
  |ln _=>exact q1.elim
  |ob _=>exact q1.elim⟩
def MY:List Wv->Int->DQ->Prop:=λxs n Q=>match xs with
 |[.d (.list ds)]=>yx (.list ds)/\Q (.d (.str (PyData.shown (.list ds)))) n
 |[.d (.tuple ds)]=>yx (.tuple ds)/\Q (.d (.str (PyData.shown (.tuple ds)))) n
 |_=>False
def dU:List Ab->Option (List Bool)
 |[]=>ae []
 |.bool b::r=>(dU r).map (b::·)
 |_::_=>af
theorem xb{H:Hp}{B:Addr->Prop}:∀{vs:List V}{ds:List Ab}{bs:List Bool},RdXs H B vs ds->dU ds=ae bs->vs=bs.map V.bl
 |_,_,bs,.nil,h=>by
  cases h;rfl
 |_,_,bs,.cons (d:=d) (ds:=ds) h1 h2,h=>by
  cases h1 with
  |bl b=>
   have h':(dU ds).map (b::·)=ae bs:=h;cases e:dU ds with
   |none=>rw[e]at h';cases h'
   |some cs=>
    rw[e]at h';cases h';rw[xb h2 e];rfl
  |_=>cases h
def bc:List Wv->Int->DQ->Prop:=λxs n Q=>match xs with
 |[.d (.list ds)]=>match dU ds with
  |some bs=>Q (.d (.bool (bs.all id))) n
  |none=>False
 |_=>False
theorem NG:cK (λxs H Q=>∃(p:Addr)(bs:List Bool),xs=[.ref p]/\H p=ae (.lst (bs.map V.bl))/\Q (.bl (bs.all id)) H) bc:=λC H B σ δ n vs xs Q Q' R r h k=>by
 unfold bc at h
 split at h
 ·rename_i ds
  split at h
  ·rename_i bs e;cases r with
   |cons r1 r2=>
    cases r2;cases(show RdX H B _ (.list ds)from r1)with
    |@lst ay ys _ e1 e2 e3 e4=>
     exact⟨ay,bs,rfl,by rw[<-xb e4 e];exact e1,k _ _ H n R (Kp.refl _ _) (wd (.bl _)) h⟩
  ·exact h.elim
 ·exact h.elim
def fO:List Wv->Int->DQ->Prop:=λxs n Q=>match xs with
 |[.d (.list ds)]=>Q (.d (.tuple ds)) n
 |[.d (.tuple ds)]=>Q (.d (.tuple ds)) n
 |_=>False
theorem AS{K:Aj}:cK (λxs H Q=>∃p ys,xs=[.ref p]/\((SqL K H p ys/\∀l,H l=af->Q (.ref l) (upd H l (.tup ys)))\/(SqT K H p ys/\Q (.ref p) H))) fO:=λC H B σ δ n vs xs Q Q' R r h k=>by
 unfold fO at h
 split at h
 ·rename_i ds;cases r with
  |cons r1 r2=>
   cases r2;cases(show RdX H B _ (.list ds)from r1)with
   |@lst ay ys _ e1 e2 e3 e4=>
    refine⟨ay,ys,rfl,.inl ⟨SqL.of e1,λl hl=>?_⟩⟩;exact k _ _ _ n (R.new hl) (Kp.new hl) (wd (show RdX _ B _ (.tuple ds)from .tup bI (R.nb hl) e3 ((e4.fresh hl).less λb z=>.inl z))) h
 ·rename_i ds;cases r with
  |cons r1 r2=>
   cases r2;cases(show RdX H B _ (.tuple ds)from r1)with
   |@tup ay ys _ e1 e2 e3 e4=>exact⟨ay,ys,rfl,.inr ⟨SqT.of e1,k _ _ H n R (Kp.refl _ _) (wd (show RdX H B _ (.tuple ds)from .tup e1 e2 e3 e4)) h⟩⟩
 ·exact h.elim
def jM:List Wv->Int->DQ->Prop:=λxs n Q=>match xs with
 |[.d (.list ds)]=>Q (.d (.list ds)) n
 |[.d (.tuple ds)]=>Q (.d (.list ds)) n
 |_=>False
theorem Iv{K:Aj}:cK (λxs H Q=>∃p ys,xs=[.ref p]/\(SqL K H p ys\/SqT K H p ys)/\∀l,H l=af->Q (.ref l) (upd H l (.lst ys))) jM:=λC H B σ δ n vs xs Q Q' R r h k=>by
 unfold jM at h
 split at h
 ·rename_i ds;cases r with
  |cons r1 r2=>
   cases r2;cases(show RdX H B _ (.list ds)from r1)with
   |@lst ay ys _ e1 e2 e3 e4=>
    refine⟨ay,ys,rfl,.inl (SqL.of e1),λl hl=>?_⟩;exact k _ _ _ n (R.new hl) (Kp.new hl) (wd (show RdX _ B _ (.list ds)from .lst bI (R.nb hl) e3 ((e4.fresh hl).less λb z=>.inl z))) h
 ·rename_i ds;cases r with
  |cons r1 r2=>
   cases r2;cases(show RdX H B _ (.tuple ds)from r1)with
   |@tup ay ys _ e1 e2 e3 e4=>
    refine⟨ay,ys,rfl,.inr (SqT.of e1),λl hl=>?_⟩;exact k _ _ _ n (R.new hl) (Kp.new hl) (wd (show RdX _ B _ (.list ds)from .lst bI (R.nb hl) e3 ((e4.fresh hl).less λb z=>.inl z))) h
 ·exact h.elim
end
structure ItOk(fz:Hp)(J:It)(ds:List Ab):Prop where
 le:ds.length<=A2
 go:∀i H,(∀b o,fz b=ae o->H b=ae o)->i < ds.length->J.go i H
 stop:∀H,(∀b o,fz b=ae o->H b=ae o)->J.stop ds.length H
 yld:∀i H x H' d,(∀b o,fz b=ae o->H b=ae o)->ds[i]?=ae d->J.yld i H x H'->kG H H'/\∀B,(∀b o,fz b=ae o->¬B b)->(∀b,B b->H b≠af)->RdX H' B x d
def kO(H:Hp)(B:Addr->Prop)(fz:Hp):Prop:=(∀b o,fz b=ae o->H b=ae o/\¬B b)/\∀b o,H b=ae o->¬B b->fz b=ae o
abbrev fw:=Sl->Int->(List Ab->Int->Prop)->Prop
def rC(wi:TI)(v:fw):Prop:=∀(C:Ctx)(H:Hp)(B:Addr->Prop)(σ:St)(δ:Sl)(n:Int)(Q:List Ab->Int->Prop)(Q':It->Hp->Prop),Rel C H B σ δ n->v δ n Q->
 (∀J ds H' n',Rel C H' B σ δ n'->Kp C.t H H'->(∀fz,kO H' B fz->ItOk fz J ds)->Q ds n'->Q' J H')->wi σ H Q'
structure DI(X:Cx)(tg iter:Expr)(wi:TI)(v:fw):Prop where
 pi:PI X tg iter wi
 sd:rC wi v
section
variable{X:Cx}{tg a b c e:Expr}{ta tb te:TE}{wa wb we:DT}{pos p:Pos}
def fC(w:DT):fw:=λδ n Q=>w δ n λx n1=>match x with
 |.d (.list ds)=>Q ds n1
 |_=>False
def bD(w:DT):fw:=λδ n Q=>w δ n λx n1=>match x with
 |.d (.tuple ds)=>Q ds n1
 |_=>False
def f9(x:Str):List Ab:=x.cps.toList.map λc=>.str ⟨#[c]⟩
def fM(w:DT):fw:=λδ n Q=>w δ n λx n1=>match x with
 |.d (.str x)=>Q (f9 x) n1
 |_=>False
theorem BY(ha:DE X a ta wa):DI X tg a (qQ X.K ta) (fC wa):=⟨MI ha.pe,λC H B σ δ n Q Q' R q k=>ha.sd C H B σ δ n _ _ R q λv x H1 n1 R1 k1 r1 q1=>by
 split at q1
 ·rename_i ds;cases(show RdX H1 B v (.list ds)from r1)with
  |@lst ay ys _ e1 e2 e3 e4=>
   refine⟨ay,rfl,⟨ys,SqL.of e1⟩,k _ ds H1 n1 R1 k1 (λfz th=>?_) q1⟩;have hfz:fz ay=ae (.lst ys):=th.2 _ _ e1 e2;refine⟨by rw[<-e4.len];exact e3,λi H hH hi=>?_,λH hH=>?_,λi H x H' d hH hd hy=>?_⟩
   ·rw[<-e4.len]at hi;exact⟨ys,ys[i],SqL.of (hH _ _ hfz),Ah hi⟩
   ·exact⟨ys,SqL.of (hH _ _ hfz),by rw[e4.len];exact Aq _⟩
   ·obtain⟨rfl,hy⟩:=hy;refine⟨λ_ _ z=>z,λB' hB hBa=>?_⟩;obtain⟨u,hu,ru⟩:=e4.getD hd;have:=hy _ (SqL.of (hH _ _ hfz));rw[hu]at this;cases this;exact ru.move λb o e ne=>⟨hH _ _ (th.2 _ _ e ne),hB _ _ (th.2 _ _ e ne)⟩
 ·exact q1.elim⟩
theorem GK(ha:DE X a ta wa):DI X tg a (jN X.K ta) (bD wa):=⟨KJ ha.pe,λC H B σ δ n Q Q' R q k=>ha.sd C H B σ δ n _ _ R q λv x H1 n1 R1 k1 r1 q1=>by
 split at q1
 ·rename_i ds;cases(show RdX H1 B v (.tuple ds)from r1)with
  |@tup ay ys _ e1 e2 e3 e4=>
   refine⟨ay,rfl,⟨ys,SqT.of e1⟩,k _ ds H1 n1 R1 k1 (λfz th=>?_) q1⟩;have hfz:fz ay=ae (.tup ys):=th.2 _ _ e1 e2;refine⟨by rw[<-e4.len];exact e3,λi H hH hi=>?_,λH hH=>?_,λi H x H' d hH hd hy=>?_⟩
   ·rw[<-e4.len]at hi;exact⟨ys,ys[i],SqT.of (hH _ _ hfz),Ah hi⟩
   ·exact⟨ys,SqT.of (hH _ _ hfz),by rw[e4.len];exact Aq _⟩
   ·obtain⟨rfl,hy⟩:=hy;refine⟨λ_ _ z=>z,λB' hB hBa=>?_⟩;obtain⟨u,hu,ru⟩:=e4.getD hd;have:=hy _ (SqT.of (hH _ _ hfz));rw[hu]at this;cases this;exact ru.move λb o e ne=>⟨hH _ _ (th.2 _ _ e ne),hB _ _ (th.2 _ _ e ne)⟩
 ·exact q1.elim⟩
theorem J2(ha:DE X a ta wa):DI X tg a (lZ ta) (fM wa):=⟨L6 ha.pe,λC H B σ δ n Q Q' R q k=>ha.sd C H B σ δ n _ _ R q λv x H1 n1 R1 k1 r1 q1=>by
 split at q1
 ·rename_i x;cases(show RdX H1 B v (.str x)from r1)with
  |str _ hx=>
   have hl:(f9 x).length=x.cps.size:=by unfold f9;simp
   refine⟨x,rfl,k _ (f9 x) H1 n1 R1 k1 (λfz th=>⟨?_,λi H hH hi=>?_,λH hH=>?_,λi H y H' d hH hd hy=>?_⟩) q1⟩
   ·rw[hl];exact hx
   ·rw[hl]at hi;exact hi
   ·exact hl
   ·obtain⟨rfl,cc,hc,rfl⟩:=hy;refine⟨λ_ _ z=>z,λB' hB hBa=>?_⟩;unfold f9 at hd;rw[A0,Bp,hc]at hd;cases hd;exact .str _ (by show 1<=A2;decide)
 ·exact q1.elim⟩
def cy(lo:Int)(n:Nat):List Ab:=(Bh n).map λi=>.int (lo+(i:Nat))
def dC(w:DT):fw:=λδ n Q=>w δ n λx n1=>match x with
 |.d (.int j)=>(-(2 ^ 62)<=j/\j<=1000000)/\Q (cy 0 j.toNat) n1
 |_=>False
theorem GQ(fz:Hp)(lo:Int)(n:Nat)(hn:n<=1000000):ItOk fz (nj lo n) (cy lo n):=by
 have hl:(cy lo n).length=n:=by unfold cy;simp
 refine⟨?_,λi H hH hi=>?_,λH hH=>?_,λi H y H' d hH hd hy=>?_⟩
 ·rw[hl];exact B7 hn ∎
 ·rw[hl]at hi;exact hi
 ·show n<=(cy lo n).length;rw[hl];exact Aq _
 ·obtain⟨rfl,rfl⟩:=hy;refine⟨λ_ _ z=>z,λB' hB hBa=>?_⟩;unfold cy at hd;rw[A0]at hd;cases e:(Bh n)[i]? with
  |none=>rw[e]at hd;cases hd
  |some j=>
   rw[e]at hd;have:j=i:=by
    obtain⟨h1,h2⟩:=Bo.mp e;rw[List.getElem_range]at h2;exact h2.symm
   subst this;cases hd;exact .int _
theorem Oy{p:Pos}(hg:Gl X "range")(hm:X.mg "range"=af)(ha:DE X a ta wa)(hs:Aw [a] X.env=[(ai,eval a X.env)]:=by rfl):DI X tg (.Call (.Name "range" p) [a] [] pos) (yz (c9 ta bF)) (dC wa):=⟨EG hg hm (bY ha.pe dz hs) hs,λC H B σ δ n Q Q' R q k=>ha.sd C H B σ δ n _ _ R q λv x H1 n1 R1 k1 r1 q1=>by
 split at q1
 ·rename_i j;cases(show RdX H1 B v (.int j)from r1);refine⟨j,rfl,q1.1.1,by have:=q1.1.2;have:(2:Int)^62=4611686018427387904:=∎;omega,k _ (cy 0 j.toNat) H1 n1 R1 k1 (λfz _=>GQ fz 0 j.toNat (by have:=q1.1.2;omega)) q1.2⟩
 ·exact q1.elim⟩
end
abbrev dO:=Ab->Sl->(Sl->Prop)->Prop
def o5(g:TG)(v:dO):Prop:=∀(C:Ctx)(H:Hp)(B:Addr->Prop)(σ:St)(δ:Sl)(n:Int)(x:V)(d:Ab)(Q:Sl->Prop)(Q':St->Hp->Prop),Rel C H B σ δ n->RdX H B x d->v d δ Q->
 (∀σ' δ',Rel C H B σ' δ' n->Q δ'->Q' σ' H)->g x σ H Q'
structure DG(X:Cx)(tg:Expr)(g:TG)(v:dO):Prop where
 pg:PG X tg g
 sd:o5 g v
section
variable{X:Cx}{pos:Pos}
def aD(i:Nat):dO:=λd δ Q=>Q (δ.set i (ae (.w (.d d))))
theorem J7{i:Nat}{x:Str}(hN:X.N.Nodup)(hi:X.N[i]?=ae x)(hx:ju X.env.scope x)(hf:X.fn x=ah\/X.env.scope.names.lookup x=ae .local:=by first|exact .inl rfl|exact .inr rfl|assumption):DG X (.Name x pos) (gc i) (aD i):=
 ⟨IQ hN hi hx hf,λC H B σ δ n x d Q Q' R r q k=>k _ _ (R.set (x:=.d d) r rfl) q⟩
end
def ee(g:dO)(W:aM)(K:DEnds):List Ab->Sl->Int->Prop
 |[],δ,n=>K.nx δ n
 |d::r,δ,n=>g d δ λδ'=>W δ' n {K with nx:=ee g W K r,ct:=ee g W K r,bk:=K.nx}
def br(v:fw)(g:dO)(W:aM):aM:=λδ n K=>v δ n λds n1=>ee g W K ds δ n1
def c8(H:Hp)(B:Addr->Prop):Hp:=λb=>open Classical in if B b then af else H b
theorem kx(H:Hp)(B:Addr->Prop):kO H B (c8 H B):=by
 refine⟨λb o e=>?_,λb o e n=>?_⟩
 ·unfold c8 at e
  split at e
  ·cases e
  ·rename_i h;exact⟨e,h⟩
 ·unfold c8;rw[if_neg n];exact e
theorem Rel.refz{C:Ctx}{H:Hp}{B:Addr->Prop}{σ:St}{δ:Sl}{n:Int}(R:Rel C H B σ δ n):Rel {C with fz:=c8 H B} H B σ δ n:=
 ⟨R.tp,R.kp,R.t0,R.l0,R.g0,(kx H B).1,R.bt,R.b0,R.ba,R.a0,R.sl,R.ow,R.len⟩
theorem Rel.unfz{C:Ctx}{fz:Hp}{H:Hp}{B:Addr->Prop}{σ:St}{δ:Sl}{n:Int}(R:Rel {C with fz:=fz} H B σ δ n)(h:∀b o,C.fz b=ae o->fz b=ae o):Rel C H B σ δ n:=
 ⟨R.tp,R.kp,R.t0,R.l0,R.g0,λb o e=>R.fz b o (h b o e),R.bt,R.b0,R.ba,R.a0,R.sl,R.ow,R.len⟩
theorem Rel.same{C:Ctx}{H H':Hp}{B:Addr->Prop}{σ:St}{δ:Sl}{n:Int}(R:Rel C H B σ δ n)(k:kG H H'):Rel C H' B σ δ n:=by
 obtain⟨a,b,e,h⟩:=R.tp.ob;exact R.step ⟨⟨a,b,k _ _ e,h⟩,k _ _ R.tp.ls,R.tp.len,λz=>k _ _ (R.tp.ag z),R.tp.gne⟩ λb o e _=>k b o e
section
variable{X:Cx}{tg iter:Expr}{body:List Stmt}{wi:TI}{v:fw}{g:TG}{gd:dO}{T:TS}{W:aM}{pos:Pos}
theorem Ou(hi:DI X tg iter wi v)(hg:DG X tg g gd)(hb:DSs X body T W)(hp:PassesOwn (A7 X.prog X.w) X.A X.env X.xe:=by exact PassesOwn.never)(hc:X.calm=ah:=by rfl)
  (hs:∀x,Fc iter X.env x=pure x:=by intro _;rfl):DS X (.For tg iter body [] pos) (kI wi g T) (br v gd W):=⟨GR hp hc hi.pi hg.pg hb.ps hs,λC H B σ δ n K D R q E=>
 hi.sd C H B σ δ n _ _ R q λJ ds H1 n1 R1 k1 hJ q1=>by
  have ok:=hJ (c8 H1 B) (kx H1 B);have R1':=R1.refz;have back:∀{H B' σ δ n},Rel {C with fz:=c8 H1 B} H B' σ δ n->Rel C H B' σ δ n:=λR=>R.unfz λb o e=>(kx H1 B).2 b o (R1.fz b o e).1 (R1.fz b o e).2;refine⟨λi m σ H=>m=ds.length-i/\i<=ds.length/\∃B' δ n,Rel {C with fz:=c8 H1 B} H B' σ δ n/\ee gd W K (ds.drop i) δ n,⟨ds.length,by simp,Bc _,B,δ,n1,R1',by simpa using q1⟩,?_⟩
  rintro i m σ2 H2 ⟨rfl,hi,B2,δ2,n2,R2,q2⟩
  have hfz:∀b o,c8 H1 B b=ae o->H2 b=ae o:=λb o e=>(R2.fz b o e).1;by_cases hlt:i < ds.length
  ·rw[Ge hlt]at q2;refine .inr ⟨ok.go i H2 hfz hlt,λσ3 H3=>∃B' δ n,Rel {C with fz:=c8 H1 B} H3 B' σ3 δ n/\ee gd W K (ds.drop (i+1)) δ n,λσ' H' z=>⟨ds.length-(i+1),by omega,rfl,hlt,z⟩,λx H' hy=>?_⟩;obtain⟨sm,rd⟩:=ok.yld i H2 x H' ds[i] hfz (Ah hlt) hy;have R3:=R2.same sm;refine hg.sd _ H' B2 σ2 δ2 n2 x ds[i] _ _ R3 (rd B2 (λb o e=>(R2.fz b o e).2) R2.ba) q2 λσ' δ' R4 q4=>?_;refine hb.sd _ H' B2 σ' δ' n2 _ _ R4 q4 ⟨?_,?_,?_,?_,λH B σ δ n a xs ds R h0 h1 h2 h3 q=>E.rn H B σ δ n a xs ds (back R) h0 h1 h2 h3 q⟩
   ·exact λH B σ δ n R q=>⟨B,δ,n,R,q⟩
   ·exact λH B σ δ n v w R r q=>E.rt H B σ δ n v w (back R) r q
   ·exact λH B σ δ n R q=>E.nx H B σ δ n (back R) q
   ·exact λH B σ δ n R q=>⟨B,δ,n,R,q⟩
  ·have e:i=ds.length:=by omega
   subst e;rw[List.drop_length]at q2;exact .inl ⟨ok.stop H2 hfz,E.nx H2 B2 σ2 δ2 n2 (back R2) q2⟩⟩
end
def eD(fr:List (Option Nat))(δ:Sl):Sl:=fr.map λo=>o.bind λi=>match δ[i]? with
 |some (ae (.w x))=>ae (.w x)
 |some (ae (.odk kvs))=>ae (.w (.dk kvs))
 |some (ae (.own ds))=>ae (.w (.ln ds))
 |_=>af
def bN(g:dO)(c:cj)(w:DT)(Q:List Ab->Int->Prop):List Ab->List Ab->Sl->Int->Prop
 |[],acc,_,n=>Q acc n
 |d::r,acc,δ,n=>g d δ λδ'=>c δ' n λb n1=>if b=ah then w δ' n1 λx n2=>match x with
   |.d y=>bN g c w Q r (acc++[y]) δ' n2
   |_=>False
  else bN g c w Q r acc δ' n1
def bo(fr:List (Option Nat))(v:fw)(g:dO)(c:cj)(w:DT):dX:=λδ n Q=>v δ n λds n1=>bN g c w Q ds [] (eD fr δ) n1
structure DIf(X:Cx)(ifs:List Expr)(t:TT)(c:cj):Prop where
 pf:kK X ifs t
 sd:iK t c
def aG:cj:=λ_ n Q=>Q ah n
theorem IF{X:Cx}:DIf X [] vU aG:=⟨JX,λC H B σ δ n Q Q' R q k=>k ah H n R (Kp.refl _ _) q⟩
theorem L5{X:Cx}{c:Expr}{t:TT}{cc:cj}(h:DC X c t cc):DIf X [c] t cc:=⟨NF h.pt,h.sd⟩
theorem OV(fr:List (Option Nat))(σ:St):(cW fr σ).length=fr.length:=by unfold cW;rw[Ad]
theorem KZ(fr:List (Option Nat))(δ:Sl):(eD fr δ).length=fr.length:=by unfold eD;rw[Ad]
theorem pO{fr:List (Option Nat)}{δ:Sl}{j:Nat}{x:SV}(h:(eD fr δ)[j]?=ae (ae x)):∃i y,fr[j]?=ae (ae i)/\δ[i]?=ae (ae y)/\((∃z,x=.w z/\y=.w z)\/(∃kvs,x=.w (.dk kvs)/\y=.odk kvs)\/∃ds,x=.w (.ln ds)/\y=.own ds):=by
 unfold eD at h;rw[A0]at h;cases e:fr[j]? with
 |none=>rw[e]at h;cases h
 |some o=>
  rw[e]at h;cases o with
  |none=>cases h
  |some i=>
   have h':=Bi h;dsimp only[Fj]at h'
   split at h'
   ·rename_i z ez;cases h';exact⟨i,_,rfl,ez,.inl ⟨z,rfl,rfl⟩⟩
   ·rename_i kvs ez;cases h';exact⟨i,_,rfl,ez,.inr (.inl ⟨kvs,rfl,rfl⟩)⟩
   ·rename_i ds ez;cases h';exact⟨i,_,rfl,ez,.inr (.inr ⟨ds,rfl,rfl⟩)⟩
   ·cases h'
theorem GF{fr:List (Option Nat)}{σ:St}{j i:Nat}{v:V}(h:fr[j]?=ae (ae i))(h2:σ[i]?=ae (ae v)):(cW fr σ)[j]?=ae (ae v):=by
 unfold cW;rw[A0,h];show ae ((σ[i]?).bind id)=_;rw[h2];rfl
theorem JV{C:Ctx}{H:Hp}{B:Addr->Prop}{σ:St}{δ:Sl}{n:Int}{L:Addr}{fr:List (Option Nat)}(R:Rel C H B σ δ n)(hL:H L=af):
  Rel ⟨C.t,C.l,C.ns,H,B,c8 H B⟩ (upd H L (.lst [])) (λb=>B b\/b=L) (cW fr σ) (eD fr δ) n where
 tp:=R.tp.new hL
 kp:=Kp.new hL
 t0:=R.ba _ R.bt
 l0:=by
  show H C.l.s≠af;rw[R.tp.ls];exact λz=>nomatch z
 g0:=λe=>by
  show H C.l.g≠af;rw[R.tp.ag e];exact λz=>nomatch z
 fz:=λb o e=>by
  obtain⟨e1,e2⟩:=(kx H B).1 b o e;exact⟨by rw[aX (b7 e1 hL)];exact e1,λz=>z.elim e2 λq=>b7 e1 hL q⟩
 bt:=.inl R.bt
 b0:=λb z=>.inl z
 ba:=λb z e=>by
  by_cases q:b=L
  ·rw[q,bI]at e;cases e
  ·rw[aX q]at e;exact R.ba b (z.resolve_right q) e
 a0:=R.ba
 sl:=λj x e=>by
  have mv:∀b o',H b=ae o'->¬B b->upd H L (.lst []) b=ae o'/\¬(B b\/b=L):=λb o' e n=>⟨by rw[aX (b7 e hL)];exact e,λz=>z.elim n λq=>b7 e hL q⟩;obtain⟨i,y,e1,e2,hy⟩:=pO e;obtain⟨v,f1,f2⟩:=R.sl i y e2;refine⟨v,GF e1 f1,?_⟩;rcases hy with⟨z,rfl,rfl⟩|⟨kvs,rfl,rfl⟩|⟨ds,rfl,rfl⟩
  ·cases z with
   |d d=>exact⟨f2.1.move mv,λz=>by cases z⟩
   |tp=>exact⟨f2.1,λz=>by cases z⟩
   |ln ds=>
    obtain⟨a,l,g1,g2,g3,g4,g5⟩:=f2.1;exact⟨⟨a,l,g1,by rw[aX (b7 g2 hL)];exact g2,g3,g4,g5.move mv⟩,λ_=>⟨a,g1,by show H a≠af;rw[g2];exact λz=>nomatch z⟩⟩
   |dk kvs=>
    obtain⟨a,l,g1,g2,g3,g4⟩:=f2.1;exact⟨⟨a,l,g1,by rw[aX (b7 g2 hL)];exact g2,g3,g4.move mv⟩,λ_=>⟨a,g1,by show H a≠af;rw[g2];exact λz=>nomatch z⟩⟩
   |ob o=>
    refine⟨?_,λz=>by cases z⟩;exact ORel.move mv f2.1
  ·obtain⟨a,l,g1,g2,g3,g4,g5,g6⟩:=f2;exact⟨⟨a,l,g1,by rw[aX (b7 g2 hL)];exact g2,λz=>R.t0 (z▸g4),g6.move mv⟩,λ_=>⟨a,g1,by show H a≠af;rw[g2];exact λz=>nomatch z⟩⟩
  ·obtain⟨a,l,g1,g2,g3,g4,g5,g6⟩:=f2;exact⟨⟨a,l,g1,by rw[aX (b7 g2 hL)];exact g2,λz=>R.t0 (z▸g4),g5,g6.move mv⟩,λ_=>⟨a,g1,by show H a≠af;rw[g2];exact λz=>nomatch z⟩⟩
 ow:=λi j x y v e1 e2 o1 o2 _ _=>by
  obtain⟨_,_,_,_,hy⟩:=pO e1;rcases hy with⟨z,rfl,_⟩|⟨kvs,rfl,_⟩|⟨ds,rfl,_⟩
  ·cases o1
  ·cases o1
  ·cases o1
 len:=by rw[OV,KZ]
section
variable{X:Cx}{elt tg iter:Expr}{ifs:List Expr}{scope:Fu}{cl:List (Str×Addr)}{pos:Pos}{N:List Str}{fr:List (Option Nat)}{wi:TI}{v:fw}{g:TG}{gd:dO}{tt:TT}{cc:cj}{te:TE}{we:DT}
def gf(δ:Sl):Prop:=∀(i:Nat)(x:SV),δ[i]?=ae (ae x)->x.isOwn=ai
theorem Li(fr:List (Option Nat))(δ:Sl):gf (eD fr δ):=λi x e=>by
 obtain⟨_,_,_,_,hy⟩:=pO e;rcases hy with⟨z,rfl,_⟩|⟨kvs,rfl,_⟩|⟨ds,rfl,_⟩<;>rfl
def jy(v:dO):Prop:=∀d δ Q,gf δ->v d δ Q->v d δ λδ'=>gf δ'/\Q δ'
theorem su(i:Nat):jy (aD i):=λd δ Q h q=>⟨λj x e=>by
 rcases eY e with⟨_,rfl⟩|⟨_,e'⟩
 ·rfl
 ·exact h j x e',q⟩
theorem rQ(hc:X.calm=ah)(S:CompSc X N scope cl fr)(hi:DI X tg iter wi v)(hg:∀s H fp,DG (cu X N scope cl s H fp) tg g gd)(ht:∀s H fp,DIf (cu X N scope cl s H fp) ifs tt cc)
  (he:∀s H fp,DE (cu X N scope cl s H fp) elt te we) (hno:jy gd) (hs:∀x,Fc iter X.env x=pure x:=by intro _;rfl):
  DF X (.ListComp elt [⟨tg,iter,ifs,0⟩] scope pos) (mx fr wi g tt te) (bo fr v gd cc we):=by
 refine⟨IV hc S hi.pi (λs H fp=>(hg s H fp).pg) (λs H fp=>(ht s H fp).pf) (λs H fp=>(he s H fp).pe) hs,λC H B σ δ n Q Q' R q k=>hi.sd C H B σ δ n _ _ R q λJ ds H1 n1 R1 k1 hJ q1=>λL hL=>?_⟩;have sg:=(hg X.s₀ X.H₀ []).sd;have st:=(ht X.s₀ X.H₀ []).sd;have se:=(he X.s₀ X.H₀ []).sd;have ok:=hJ (c8 H1 B) (kx H1 B);have hLt:L≠C.t:=λz=>R1.ba _ R1.bt (z▸hL);refine⟨λi m ys τ H=>m=ds.length-i/\i<=ds.length/\ys.length<=i/\∃δ' n' acc,Rel ⟨C.t,C.l,C.ns,H1,B,c8 H1 B⟩ H (λb=>B b\/b=L) τ δ' n'/\gf δ'/\H L=ae (.lst ys)/\RdXs H (λb=>B b\/b=L) ys acc/\bN gd cc we Q (ds.drop i) acc δ' n',
  ⟨ds.length,by simp,Bc _,Bc _,eD fr δ,n1,[],JV R1 hL,Li fr δ,bI,.nil,by simpa using q1⟩,?_⟩
 rintro i m ys τ H2 ⟨rfl,hi,hys,δ2,n2,acc,R2,no2,hL2,rd2,q2⟩
 have hfz:∀b o,c8 H1 B b=ae o->H2 b=ae o:=λb o e=>(R2.fz b o e).1;by_cases hlt:i < ds.length
 ·rw[Ge hlt]at q2;refine .inr ⟨ok.go i H2 hfz hlt,Bj (Hs hys hlt) ok.le,λx H' hy=>?_⟩;obtain⟨sm,rd⟩:=ok.yld i H2 x H' ds[i] hfz (Ah hlt) hy;have R3:=R2.same sm;refine sg _ H' _ τ δ2 n2 x ds[i] _ _ R3 (rd _ (λb o e=>(R2.fz b o e).2) R2.ba) (hno _ _ _ no2 q2) λτ3 δ3 R4 ⟨no3,q4⟩=>?_;refine st _ H' _ τ3 δ3 n2 _ _ R4 q4 λb H4 n4 R5 k5 q5=>?_;have hL4:H4 L=ae (.lst ys):=k5 _ _ (sm _ _ hL2) hLt;have rd4:RdXs H4 (λb=>B b\/b=L) ys acc:=(rd2.keep λb o e _=>sm b o e).kp k5 R4.bt;cases b with
  |false=>
   rw[if_neg Au]at q5 ⊢;exact⟨ds.length-(i+1),by omega,rfl,hlt,by omega,δ3,n4,acc,R5,no3,hL4,rd4,q5⟩
  |true=>
   rw[if_pos rfl]at q5 ⊢;refine se _ H4 _ τ3 δ3 n4 _ _ R5 q5 λu y H5 n5 R6 k6 r6 q6=>?_;cases y with
   |d y=>
    have hL5:H5 L=ae (.lst ys):=k6 _ _ hL4 hLt;refine⟨hL5,ds.length-(i+1),by omega,rfl,hlt,by rw[Ao,Ba];omega,δ3,n5,acc++[y],R6.mut (.inr rfl) hL λj z e o=>absurd (no3 j z e) (by rw[o];exact λq=>nomatch q),no3,bI,?_,q6⟩;refine RdXs.keep (λb o e n=>?_) ((rd4.kp k6 R5.bt).append (.cons r6 .nil));rw[aX λ(z:b=L)=>n (.inr z)];exact e
   |tp=>exact q6.elim
   |dk _=>exact q6.elim
   |ln _=>exact q6.elim
   |ob _=>exact q6.elim
 ·have e:i=ds.length:=by omega
  subst e;rw[List.drop_length]at q2;refine .inl ⟨ok.stop H2 hfz,k L ys acc H2 n2 (R1.step R2.tp R2.kp) (k1.trans R2.kp) (R1.was k1 hL) hL2 (B7 hys ok.le) rd2 q2⟩
end
abbrev dy:=List Ab->Sl->(Sl->Prop)->Prop
def Kr(g:fS)(v:dy):Prop:=∀(C:Ctx)(H:Hp)(B:Addr->Prop)(σ:St)(δ:Sl)(n:Int)(xs:List V)(ds:List Ab)(Q:Sl->Prop)(Q':St->Hp->Prop),Rel C H B σ δ n->RdXs H B xs ds->v ds δ Q->
 (∀σ' δ',Rel C H B σ' δ' n->Q δ'->Q' σ' H)->g xs σ H Q'
structure DGs(X:Cx)(ts:List Expr)(g:fS)(v:dy):Prop where
 pg:k9 X ts g
 sd:Kr g v
def b6:dy:=λds δ Q=>match ds with
 |[]=>Q δ
 |_=>False
def bB(v:dO)(r:dy):dy:=λds δ Q=>match ds with
 |d::ds=>v d δ λδ'=>r ds δ' Q
 |[]=>False
def cz(n:Nat)(r:dy):dO:=λd δ Q=>match d with
 |.tuple ds=>ds.length=n/\r ds δ Q
 |_=>False
theorem BP:∀ds δ Q,gf δ->b6 ds δ Q->b6 ds δ λδ'=>gf δ'/\Q δ':=λds δ Q h q=>by
 cases ds with
 |nil=>exact⟨h,q⟩
 |cons _ _=>exact q
theorem vx{v:dO}{r:dy}(mono:∀d δ (Q Q':Sl->Prop),(∀δ',Q δ'->Q' δ')->v d δ Q->v d δ Q')(hv:jy v)(hr:∀ds δ Q,gf δ->r ds δ Q->r ds δ λδ'=>gf δ'/\Q δ'):∀ds δ Q,gf δ->bB v r ds δ Q->bB v r ds δ λδ'=>gf δ'/\Q δ':=λds δ Q h q=>by
 cases ds with
 |nil=>exact q
 |cons d ds=>exact mono d δ _ _ (λδ' z=>hr ds δ' Q z.1 z.2) (hv d δ _ h q)
theorem Mz{n:Nat}{r:dy}(hr:∀ds δ Q,gf δ->r ds δ Q->r ds δ λδ'=>gf δ'/\Q δ'):jy (cz n r):=λd δ Q h q=>by
 unfold cz at q ⊢
 split at q
 ·exact⟨q.1,hr _ _ _ h q.2⟩
 ·exact q.elim
theorem Jv(i j n:Nat):jy (cz n (bB (aD i) (bB (aD j) b6))):=
 Mz (vx (λ_ _ _ _ h q=>h _ q) (su i) (vx (λ_ _ _ _ h q=>h _ q) (su j) BP))
section
variable{X:Cx}{pos:Pos}
theorem Md:DGs X [] ml b6:=⟨NV,λC H B σ δ n xs ds Q Q' R r q k=>by
 cases r with
 |nil=>exact⟨rfl,k σ δ R q⟩
 |cons _ _=>exact q.elim⟩
end
section
variable{X:Cx}{pos:Pos}
theorem Lc{e:Expr}{es:List Expr}{t:TG}{u:fS}{v:dO}{r:dy}(h1:DG X e t v)(h2:DGs X es u r)
  (hs:(Es (e::es) X.env).map (·.2)=assign e X.env::(Es es X.env).map (·.2):=by rfl):DGs X (e::es) (tw t u) (bB v r):=⟨J3 h1.pg h2.pg hs,λC H B σ δ n xs ds Q Q' R rr q k=>by
 cases rr with
 |nil=>exact q.elim
 |cons r1 r2=>exact⟨_,_,rfl,h1.sd C H B σ δ n _ _ _ _ R r1 q λσ' δ' R' q'=>h2.sd C H B σ' δ' n _ _ _ _ R' r2 q' k⟩⟩
theorem FU{es:List Expr}{k:Nat}{t:fS}{n:Nat}{r:dy}(h:DGs X es t r)(hc:X.calm=ah:=by rfl)
  (hn:(Es es X.env).length=n:=by rfl) (hst:(Es es X.env).findIdx? (·.1)=af:=by rfl):DG X (.Tuple es k pos) (js X.K n t) (cz n r):=⟨Od hc h.pg hn hst,λC H B σ δ n' x d Q Q' R rr q k=>by
 unfold cz at q
 split at q
 ·rename_i ds;cases rr with
  |@tup ay ys _ e1 e2 e3 e4=>exact⟨ay,ys,rfl,SqT.of e1,by rw[e4.len];exact q.1,h.sd C H B σ δ n' _ _ _ _ R e4 q.2 k⟩
 ·exact q.elim⟩
def sq:List Ab->Option (List Str)
 |[]=>ae []
 |.str b::r=>(sq r).map (b::·)
 |_::_=>af
def Pr(w w':DT):DT:=λδ n Q=>w δ n λx n1=>match x with
 |.d (.str z)=>w' δ n1 λy n2=>match y with
  |.d (.list ds)=>match sq ds with
   |some ys=>(ys.map (·.length)).sum+ys.length*z.length<=16777216/\Q (.d (.str (Txt.join z ys))) n2
   |none=>False
  |.d (.tuple ds)=>match sq ds with
   |some ys=>(ys.map (·.length)).sum+ys.length*z.length<=16777216/\Q (.d (.str (Txt.join z ys))) n2
   |none=>False
  |_=>False
 |_=>False
def iH(i:Nat)(wj w:DT):aM:=λδ n K=>match δ[i]? with
 |some (ae (.own ds))=>w δ n λx n1=>wj δ n1 λj n2=>match x,j with
  |.d d,.d (.int k)=>match ic ds.length k with
   |some m=>K.nx (δ.set i (ae (.own (ds.set m d)))) n2
   |none=>False
  |_,_=>False
 |_=>False
theorem JG{i:Nat}{x:Str}{xp sp:Pos}{j e:Expr}{tj te:TE}{wj we:DT}(hN:X.N[i]?=ae x)(hj:DE X j tj wj)(he:DE X e te we)(hv:fq X.env.scope x:=by first|exact Ea rfl|exact C6 (Ea rfl)|exact C6 (C6 rfl))(hd:(x==("__debug__":Str))=ai:=by decide)
  (hcd:(x==("__classdict__":Str))=ai:=by decide)
  (ha:∀v,assign (.Subscript (.Name x xp) j sp) X.env v=(do
   let ov <-holding [v] (eval (.Name x xp) X.env)
   let iv <-holding [v,ov] (eval j X.env)
   standAt sp
   holding [v,ov,iv] (setItem ov iv v)
   release [v,ov,iv] []):=by intro _;rfl)
  (hs:swapsWithSole [.Subscript (.Name x xp) j sp] e pos.line X.env=pure ai:=by rfl) (hw:swappedStores [.Subscript (.Name x xp) j sp] e X.env=pure af:=by rfl)
  (h1:(Es [.Subscript (.Name x xp) j sp] X.env).map (·.2)=[assign (.Subscript (.Name x xp) j sp) X.env]:=by rfl):
  DS X (.Assign [.Subscript (.Name x xp) j sp] e pos) (c6 te (mq (dc i) tj ue)) (iH i wj we):=
 ⟨mr he.pe (nt (gM hN hv hd hcd) hj.pe nE ha) hs hw h1,λC H B σ δ n K D R q E=>by
  unfold iH at q
  split at q
  ·rename_i ds ei;refine he.sd C H B σ δ n _ _ R q λu y H1 n1 R1 k1 r1 q1=>?_;obtain⟨v,hv,a,xs,rfl,e2,e3,e4,e5,e6⟩:=R1.sl i _ ei;refine⟨_,hv,hj.sd C H1 B σ δ n1 _ _ R1 q1 λw z H2 n2 R2 k2 r2 q2=>?_⟩
   split at q2
   ·rename_i d k
    split at q2
    ·rename_i m em;cases(show RdX H2 B w (.int k)from r2);have hat:a≠C.t:=λz=>R.t0 (z▸e4);have e2':=k2 _ _ e2 hat;have r1':RdX H2 B u d:=r1.kp k2 R1.bt;refine⟨a,xs,k,m,rfl,rfl,e2',by rw[e6.len];exact em,?_⟩;refine E.nx _ _ _ _ _ (R2.mutOwn ei rfl hv e3 e4 ?_ rfl) q2;refine⟨a,xs.set m u,rfl,bI,e3,e4,by rw[D6];exact e5,?_⟩;refine RdXs.keep (λb o e n=>?_) (RdXs.set m (e6.kp k2 R1.bt) r1');rw[aX λ(z:b=a)=>n (z▸e3)];exact e
    ·exact q2.elim
   ·exact q2.elim
  ·exact q.elim⟩
end
structure Has(P:Bn)(w:By)(K:Aj)(mg:Str->Option Ag)(base:Heap)(k:Nat)(x:Str)(ps:List Str)(S:bx):Prop where
 ex:∃(f:Addr)(fd:C7),FnOk P w K mg base b5 k f fd ps (dt S)/\Binds K fd ps []/\mg x=ae (.ref f)/\Di K (.ref f)=ah
section
variable{P:Bn}{w:By}{K:Aj}{mg:Str->Option Ag}{base:Heap}
theorem Has.mk'{k:Nat}{x qual:Str}{st:Stmt}{ps:List Str}{S:bx}{f:Addr}{fd:C7}(F:Fun K x qual st f fd)(m:mg x=ae (.ref f))(b:Binds K fd ps [])(h:FnOk P w K mg base b5 k f fd ps (dt S)):Has P w K mg base k x ps S:=⟨f,fd,h,b,m,F.kp⟩
end
theorem O9{X:Cx}{e:Expr}{es:List Expr}{pos p:Pos}{tR:TA}{wR:dZ}{k:Nat}{ps:List Str}{S:bx}{x:Str}(h:Has X.prog X.w X.K X.mg X.base k x ps S)(hr:Room k X.A)(hg:Gl X x)
  (ha:DA X (e::es) tR wR) (hdb:(x==("__debug__":Str))=ai:=by decide) (he:Aw (e::es) X.env=(ai,eval e X.env)::Aw es X.env:=by rfl) (hpl:(D2 pos (Aw es X.env)).any (·.1)=ai:=by rfl):
  DE X (.Call (.Name x p) (e::es) [] pos) (gT (dt S) [] E0 tR) (az S wR):=by
 obtain⟨f,fd,h1,h2,h3,h4⟩:=h.ex;exact EW h1 hr hg h3 h4 h2 ha hdb he hpl
theorem GU{cl cells:List (Str×Addr)}(h:∀y∈cl,cells.lookup y.1=ae y.2):∀x c,cl.lookup x=ae c->cells.lookup x=ae c:=λx c e=>h _ (nP e)
def bC:bx:=λws n Q=>match ws with
 |[.tp,.d (.int many)]=>(n < 2 ^ 40/\0 < many/\many < 1073741824)/\∀r:Int,0<=r->r < many->Q (.d (.int r)) (n+1)
 |_=>False
section
variable{P:Bn}{w:By}{K:Aj}{mg:Str->Option Ag}{base:Heap}
theorem Kg{k:Nat}{f:Addr}{fd:C7}{ps:List Str}(h:FnOk P w K mg base b5 k f fd ps ze):FnOk P w K mg base b5 k f fd ps (dt bC):=h.imp λvs H Q E hs=>by
 obtain⟨t,l,ns,B,ws,n,Q0,T,bt,ba,r,q,kk⟩:=hs;unfold bC at q
 split at q
 ·rename_i many;cases r with
  |cons r1 r2=>
   cases r2 with
   |cons r3 r4=>
    cases r4;cases(show _=V.ref t from r1);cases(show RdX H B _ (.int many)from r3);exact⟨t,l,ns,n,many,rfl,T,q.1.1,q.1.2.1,q.1.2.2,λr H' h0 h1 T' k'=>kk _ _ (q.2 r h0 h1) _ H' T' k' (.int r)⟩
 ·exact q.elim
def spLaw(K:Aj):Sp:=λvs H Q _=>∃(a:Addr)(ns:List Int),vs=[.ref a]/\SqL K H a (ns.map V.int)/\ns.length<=63/\∀H',Q (.bl ah) H'
def lawEnds:DEnds:={ nx:=λ_ _=>False,rt:=λw _=>w=.d (.bool ah)}
theorem NO{H:Hp}{t:Addr}{l:TL}{ns:List Int}{a:V}{k:Nat}(T:Tp H t l ns 0):Rel ⟨t,l,ns,H,λb=>b=t,λ_=>af⟩ H (λb=>b=t) (ae a::ae (.ref t)::D4 k af) (af::ae (.w .tp)::D4 k af) 0 where
 tp:=T
 kp:=Kp.refl _ _
 t0:=by
  obtain⟨_,_,h,_⟩:=T.ob;show H t≠af;rw[h];exact λz=>nomatch z
 l0:=by
  show H l.s≠af;rw[T.ls];exact λz=>nomatch z
 g0:=λe=>by
  show H l.g≠af;rw[T.ag e];exact λz=>nomatch z
 fz:=λb o e=>nomatch e
 bt:=rfl
 b0:=λ_ z=>z
 ba:=λb z=>by
  obtain⟨_,_,h,_⟩:=T.ob;rw[z,h];exact λz=>nomatch z
 a0:=λb z=>by
  obtain⟨_,_,h,_⟩:=T.ob;show H b≠af;rw[show b=t from z,h];exact λz=>nomatch z
 sl:=λi x e=>by
  rcases i with _|_|i
  ·cases e
  ·cases e;exact⟨_,rfl,rfl,λz=>by cases z⟩
  ·have e':(D4 k (af:Option SV))[i]?=ae (ae x):=e;rw[Ff]at e'
   split at e'
   ·cases e'
   ·cases e'
 ow:=λi j x y v e1 e2 o1 o2 f1 f2=>by
  rcases i with _|_|i
  ·cases e1
  ·cases e1;cases o1
  ·have e':(D4 k (af:Option SV))[i]?=ae (ae x):=e1;rw[Ff]at e'
   split at e'
   ·cases e'
   ·cases e'
 len:=by simp
theorem ON{f fT:Addr}{fd fdT:C7}{st:Stmt}{N:List Str}{k:Nat}{W:aM}(F:Fun K "law" "law" st f fd)(Sc:FnScope N ["_law_script"] (cv st))
  (GT:FnOk P w K mg base b5 1 fT fdT ["_law_script"] (l6 K)) (bT:Binds K fdT ["_law_script"] []) (mT:mg "_law_tape"=ae (.ref fT)) (kT:Di K (.ref fT)=ah)
  (hN:∀v,start N [v]=ae v::af::D4 (N.length-2) af)
  (hW:W (af::ae (.w .tp)::D4 (N.length-2) af) 0 lawEnds)
  (hbody:∀(cdv:Ag)(A:Bt)(outer:List Env)(s:Ai)(H:Hp)(E:XK),Room k (A.deeper (E3 "law" (cv st) s.heap.objs.size f cdv))->
   ∃s0 rest T,fh st=s0::rest/\PS (c7 b5 P w K mg base N "law" (cv st) f cdv A outer s H E).nox s0 (c6 (gT (l6 K) [] E0 (c9 (dc 0) bF)) (gc 1))/\DSs (c7 b5 P w K mg base N "law" (cv st) f cdv A outer s H E).nox rest T W):
  FnOk P w K mg base b5 (k+1) f fd ["_law_script"] (spLaw K):=by
 refine F.ok Sc (λvs H Q E h=>?_) (λcdv A outer s H vs Q E hr h=>?_)
 ·obtain⟨a,ns,rfl,_⟩:=h;rfl
 ·obtain⟨a,ns,rfl,hS,hl,kk⟩:=h;obtain⟨s0,rest,T,e,p0,d⟩:=hbody cdv A outer s H E hr;rw[e];refine⟨_,gg p0 d.ps,?_⟩;rw[hN];refine⟨_,rfl,a,ns,rfl,hS,hl,λt l H1 T1 _=>?_⟩;refine d.sd ⟨t,l,ns,H1,λb=>b=t,λ_=>af⟩ H1 (λb=>b=t) _ _ 0 lawEnds _ (NO (a:=.ref a) (k:=N.length-2) T1) hW ⟨?_,?_,?_,?_,λ_ _ _ _ _ _ _ _ _ _ _ _ _ z=>z.elim⟩
  ·exact λ_ _ _ _ _ _ z=>z.elim
  ·intro H B σ δ n v w R r z;have z:w=.d (.bool ah):=z;subst z;cases(show RdX H B v (.bool ah)from r);exact kk H
  ·exact λ_ _ _ _ _ _ z=>z.elim
  ·exact λ_ _ _ _ _ _ z=>z.elim
end
section
variable{X:Cx}{elt tg iter:Expr}{ifs:List Expr}{scope:Fu}{cl:List (Str×Addr)}{cpos pos pos':Pos}{N:List Str}{fr:List (Option Nat)}{wi:TI}{v:fw}{g:TG}{gd:dO}{tt:TT}{cc:cj}{te:TE}{we:DT}{i:Nat}{x:Str}
theorem AW{t:TE}{w:dX}(h:iA t w):ie (c6 t (gc i)) (bu i w):=λC H B σ δ n K D R q E=>
 h C H B σ δ n _ _ R q λa xs ds H1 n1 R1 k1 h0 h1 h2 h3 q1=>by
  refine E.nx _ _ _ _ _ (R.own R1 k1 h0 (by rw[h1];exact λz=>nomatch z) rfl ?_) q1;exact⟨a,xs,rfl,h1,.inr rfl,R.h0 h0,h2,h3⟩
theorem Ng{t:TE}{w:DT}(h:eP t w):ie (c6 t (gc i)) (aJ i w):=λC H B σ δ n K D R q E=>
 h C H B σ δ n _ _ R q λv x H1 n1 R1 _ r1 q1=>by
  cases x with
  |d d=>exact E.nx _ _ _ _ _ (R1.set r1 rfl) q1
  |tp=>exact E.nx _ _ _ _ _ (R1.set r1 rfl) q1
  |dk _=>exact q1.elim
  |ln _=>exact q1.elim
  |ob _=>exact E.nx _ _ _ _ _ (R1.set r1 rfl) q1
theorem JW(hN:X.N.Nodup)(hix:X.N[i]?=ae x)(hx:X.env.scope.names.lookup x=ae .local)(hc:X.calm=ah)(S:CompSc X N scope cl fr)(hi:DI X tg iter wi v)(hg:∀s H fp,DG (cu X N scope cl s H fp) tg g gd)(ht:∀s H fp,DIf (cu X N scope cl s H fp) ifs tt cc)
  (he:∀s H fp,DE (cu X N scope cl s H fp) elt te we) (hno:jy gd) (hs:∀x,Fc iter X.env x=pure x:=by intro _;rfl)
  (hsw:F1 (.ListComp elt [⟨tg,iter,ifs,0⟩] scope cpos) (ae (.Name x pos')) pos.line X.env=pure ah:=by rfl):
  DS X (.Assign [.Name x pos'] (.ListComp elt [⟨tg,iter,ifs,0⟩] scope cpos) pos) (c6 (mx fr wi g tt te) (gc i)) (bu i (bo fr v gd cc we)):=
 ⟨uh hN hix hx hc S hi.pi (λs H fp=>(hg s H fp).pg) (λs H fp=>(ht s H fp).pf) (λs H fp=>(he s H fp).pe) hs hsw,AW (rQ (pos:=cpos) hc S hi hg ht he hno hs).sd⟩
theorem JK(hN:X.N.Nodup)(hix:X.N[i]?=ae x)(hx:X.env.scope.names.lookup x=ae .local)(hc:X.calm=ah)(S:CompSc X N scope cl fr)(hi:DI X tg iter wi v)(hg:∀s H fp,DG (cu X N scope cl s H fp) tg g gd)(ht:∀s H fp,DIf (cu X N scope cl s H fp) ifs tt cc)
  (he:∀s H fp,DE (cu X N scope cl s H fp) elt te we) (hno:jy gd) (hs:∀x,Fc iter X.env x=pure x:=by intro _;rfl)
  (hsw:F1 (.ListComp elt [⟨tg,iter,ifs,0⟩] scope cpos) (ae (.Name x pos')) pos.line X.env=pure ah:=by rfl):
  DS X (.Assign [.Name x pos'] (.ListComp elt [⟨tg,iter,ifs,0⟩] scope cpos) pos) (c6 (mx fr wi g tt te) (gc i)) (aJ i (aP (bo fr v gd cc we))):=
 ⟨uh hN hix hx hc S hi.pi (λs H fp=>(hg s H fp).pg) (λs H fp=>(ht s H fp).pf) (λs H fp=>(he s H fp).pe) hs hsw,Ng (rQ (pos:=cpos) hc S hi hg ht he hno hs).d.sd⟩
end
section
variable{X:Cx}{tg a b c e:Expr}{ta tb tc te:TE}{wa wb wc we:DT}{pos p:Pos}{K:Aj}
theorem MG(ha:DE X a ta wa)(hb:DE X b tb wb)(hK:X.K=K:=by rfl)(hs:nH b:=by exact λ_ _=>rfl):DE X (.Subscript a b pos) (d4 (jm K) ta tb) (w2 wa wb aC):=by subst hK;exact qg ha hb hs
def sD(K:Aj)(T:String):List V->Hp->VK->Prop:=λxs H Q=>∃x t b,xs=[x,.ty T]/\TyOf K H x t/\PySem.W.kitOne K t (.type T)=ae b/\Q (.bl b) H
theorem CO{T:String}{x:Str}{p p2:Pos}(hT:T="int"\/T="bool"\/T="str"\/T="tuple"\/T="list")(hg:Gl X "isinstance")(hm:X.mg "isinstance"=af)(hg2:Gl X x)(hm2:X.mg x=af)(hv:Bx x=ae (.type T))(ha:DE X a ta wa)(hK:X.K=K:=by rfl)(hn:x≠"__name__":=by decide)(hdb:(x==("__debug__":Str))=ai:=by decide)
  (he:Aw [a,.Name x p2] X.env=(ai,eval a X.env)::Aw [.Name x p2] X.env:=by rfl) (he2:Aw [.Name x p2] X.env=(ai,eval (.Name x p2) X.env)::Aw [] X.env:=by rfl) (hpl:(D2 pos (Aw [.Name x p2] X.env)).any (·.1)=ai:=by rfl):
  DE X (.Call (.Name "isinstance" p) [a,.Name x p2] [] pos) (eR (sD K T) (c9 ta (c9 (tC (.ty T)) bF))) (aL T wa):=by subst hK;exact HI hT hg hm hg2 hm2 hv ha hn hdb he he2 hpl
def jo(K:Aj):R2:=λx y H Q=>oD x y H Q\/nL x y H Q\/nu K x y H Q
theorem pQ(hu:X.A.units < Fo)(hK:X.K=K:=by rfl):OpR X (B4 .Eq) (jo K):=by subst hK;exact MZ hu
theorem pB:bj (jo K) ck:=JO
theorem wV(hK:X.K=K:=by rfl):OpR X (B4 .In) (iM K ai):=by subst hK;exact KP
theorem IX(hK:X.K=K:=by rfl):OpR X (B4 .NotIn) (iM K ah):=by subst hK;exact EV
def qP(K:Aj):List V->Hp->VK->Prop:=λxs H Q=>(∃z,xs=[.str z]/\z.length<=A2/\Q (.int z.length) H)\/∃p ys,xs=[.ref p]/\(SqL K H p ys\/SqT K H p ys)/\Q (.int ys.length) H
theorem yk(hK:X.K=K:=by rfl):CallR X (.builtin "len") (qP K):=by subst hK;exact NZ
theorem tK:cK (qP K) aH:=Ia
def sx(K:Aj):List V->Hp->VK->Prop:=λxs H Q=>∃p ys,xs=[.ref p]/\((SqL K H p ys/\∀l,H l=af->Q (.ref l) (upd H l (.tup ys)))\/(SqT K H p ys/\Q (.ref p) H))
theorem wU(hK:X.K=K:=by rfl):CallR X (.type "tuple") (sx K):=by subst hK;exact OX
theorem uT:cK (sx K) fO:=AS
def o3(K:Aj):List V->Hp->VK->Prop:=λxs H Q=>∃p ys,xs=[.ref p]/\(SqL K H p ys\/SqT K H p ys)/\∀l,H l=af->Q (.ref l) (upd H l (.lst ys))
theorem vF(hK:X.K=K:=by rfl):CallR X (.type "list") (o3 K):=by subst hK;exact Kk
theorem Kt:cK (o3 K) jM:=Iv
theorem CN(ha:DE X a ta wa)(hK:X.K=K:=by rfl):DI X tg a (qQ K ta) (fC wa):=by subst hK;exact BY ha
theorem KO(ha:DE X a ta wa)(hK:X.K=K:=by rfl):DI X tg a (jN K ta) (bD wa):=by subst hK;exact GK ha
theorem GB{es:List Expr}{k:Nat}{t:fS}{n:Nat}{r:dy}(h:DGs X es t r)(hc:X.calm=ah:=by rfl)(hK:X.K=K:=by rfl)
  (hn:(Es es X.env).length=n:=by rfl) (hst:(Es es X.env).findIdx? (·.1)=af:=by rfl):DG X (.Tuple es k pos) (js K n t) (cz n r):=by subst hK;exact FU h hc hn hst
end
end DL
local macro_rules|`(⇑$n:num)=>`(DL.wC (.int $n))
local macro_rules|`(↥$n:num)=>`(DL.aj $n)
namespace KS
open PySem PySem.W PyProof.Rows
def run{α:Type}(c:Nat->Nat->Bool):KasT α->α
 |.ret a=>a
 |.ask i j k=>run c (k (c i j))
theorem j8{α β:Type}(c:Nat->Nat->Bool)(f:α->KasT β):∀t:KasT α,run c (t.bind f)=run c (f (run c t))
 |.ret _=>rfl
 |.ask i j k=>j8 c f (k (c i j))
def Wi{α:Type}(n:Nat)(P:α->Prop):KasT α->Prop
 |.ret a=>P a
 |.ask i j k=>i < n/\j < n/\∀b,Wi n P (k b)
theorem Wi.bind{α β:Type}{n:Nat}{P:α->Prop}{R:β->Prop}{f:α->KasT β}(hf:∀a,P a->Wi n R (f a)):∀{t:KasT α},Wi n P t->Wi n R (t.bind f)
 |.ret a,h=>hf a h
 |.ask i j k,h=>⟨h.1,h.2.1,λb=>Wi.bind hf (h.2.2 b)⟩
theorem Wi.out{α:Type}{n:Nat}{P:α->Prop}(c:Nat->Nat->Bool):∀{t:KasT α},Wi n P t->P (run c t)
 |.ret a,h=>h
 |.ask i j k,h=>Wi.out c (t:=k (c i j)) (h.2.2 (c i j))
theorem wp_run{α:Type}{n:Nat}{P:α->Prop}{cmp:Nat->Nat->(Bool->Ai->Prop)->Ai->Prop}{c:Nat->Nat->Bool}{St:Ai->Prop}{Q:α->Ai->Prop}
  (hc:∀i j C s,i < n->j < n->St s->(∀s',St s'->C (c i j) s')->cmp i j C s):∀(t:KasT α)(s:Ai),Wi n P t->St s->(∀s',St s'->Q (run c t) s')->t.kasWp cmp Q s
 |.ret a,s,_,hs,h=>h s hs
 |.ask i j k,s,w,hs,h=>hc i j _ s w.1 w.2.1 hs λs' hs'=>wp_run hc (k (c i j)) s' (w.2.2 _) hs' h
def Lo(n:Nat)(p:Array Nat):Prop:=∀i,p.getD i 0 < n
theorem iZ(p:Array Nat)(i:Nat):p.getD i 0=(p[i]?).getD 0:=by simp
theorem Oo{n:Nat}{p:Array Nat}(hn:0 < n)(h:∀x∈p,x < n):Lo n p:=λi=>by
 rw[iZ];cases e:p[i]? with
 |none=>exact hn
 |some x=>exact h x (Ft e)
def Pm(n:Nat)(p:Array Nat):Prop:=p.Perm (Dg (Bh n))
theorem Pm.size{n:Nat}{p:Array Nat}(h:Pm n p):p.size=n:=by rw[Array.Perm.size_eq h];simp
theorem Pm.lo{n:Nat}{p:Array Nat}(hn:0 < n)(h:Pm n p):Lo n p:=Oo hn λx hx=>by
 have:x∈Dg (Bh n):=(Array.Perm.mem_iff h).mp hx;simpa using this
theorem Pm.rev{n:Nat}{p:Array Nat}(h:Pm n p)(i j:Nat):Pm n (Fb p i j):=(mirror_perm p i j _).trans h
theorem Pm.bub{n:Nat}{p:Array Nat}(h:Pm n p)(i j:Nat):Pm n (bubble p i j):=(bubble_perm p i j).trans h
section
variable{n:Nat}(hn:0 < n)
include hn
theorem qf{p:Array Nat}(h:Lo n p):∀f m,Wi n (λ_=>True) (kas_asc p f m)
 |0,m=>trivial
 |f+1,m=>⟨h _,h _,λb=>by
  cases b with
  |true=>exact trivial
  |false=>exact qf h f (m+1)⟩
theorem oJ:∀f (p:Array Nat) m q,Pm n p->Wi n (λr=>Pm n r.1) (kas_desc f p m q)
 |0,p,m,q,h=>h
 |f+1,p,m,q,h=>⟨h.lo hn _,h.lo hn _,λb=>by
  cases b with
  |true=>
   show Wi n _ (if q > 0 then _ else _)
   split
   ·exact oJ f _ _ _ (h.rev _ _)
   ·exact oJ f _ _ _ h
  |false=>exact⟨h.lo hn _,h.lo hn _,λd=>by
    cases d with
    |true=>exact h
    |false=>exact oJ f _ _ _ h⟩⟩
theorem AA(m nrem:Nat){p:Array Nat}(h:Pm n p):Wi n (λr=>Pm n r.2) (kas_tail3 m nrem p):=by
 unfold kas_tail3;refine Wi.bind (P:=λ_=>True) (λa _=>?_) (qf hn ((h.rev 0 m).lo hn) _ _);show Pm n (Fb p 0 m);exact h.rev _ _
theorem tJ(m nrem:Nat){p:Array Nat}(h:Pm n p):Wi n (λr=>Pm n r.2) (kas_descPart m nrem p):=
 Wi.bind (λr hr=>by
  show Wi n _ (if r.2.2 > 0 then _ else _)
  split
  ·exact AA hn _ _ (Pm.rev hr _ _)
  ·exact AA hn _ _ hr) (oJ hn _ p _ _ h)
theorem Pb(nrem:Nat){p:Array Nat}(h:Pm n p):Wi n (λr=>Pm n r.2) (kas_count nrem p):=
 Wi.bind (λm _=>by
  show Wi n _ (if (m==nrem)=ah then _ else if m > 1 then _ else _)
  split
  ·exact h
  ·split
   ·exact⟨h.lo hn _,h.lo hn _,λb=>by
     cases b with
     |true=>exact h
     |false=>exact tJ hn _ _ (h.rev _ _)⟩
   ·exact tJ hn _ _ h) (qf hn (h.lo hn) _ _)
theorem pX{p:Array Nat}(h:Lo n p)(k:Nat):∀f l r,Wi n (λ_=>True) (kas_place p k f l r)
 |0,l,r=>trivial
 |f+1,l,r=>by
  show Wi n _ (if l ≥ r then _ else _)
  split
  ·exact trivial
  ·exact⟨h _,h _,λb=>by
    cases b with
    |true=>exact pX h k f _ _
    |false=>exact pX h k f _ _⟩
theorem um:∀f (p:Array Nat) k,Pm n p->Wi n (Pm n) (kas_bin f p k)
 |0,p,k,h=>h
 |f+1,p,k,h=>Wi.bind (λl _=>um f _ _ (h.bub _ _)) (pX hn (h.lo hn) k _ _ _)
theorem wi_sort:Wi n (Pm n) (Gw n):=
 Wi.bind (λr hr=>by
  show Wi n _ (if r.1 < n then _ else _)
  split
  ·exact um hn _ _ _ hr
  ·exact hr) (Pb hn n (Array.Perm.refl _))
end
structure Ord(lt:Nat->Nat->Bool):Prop where
 asym:∀i j,lt i j=ah->lt j i=ai
 ltr:∀i j k,lt j i=ai->lt k j=ai->lt k i=ai
section
variable{lt:Nat->Nat->Bool}(O:Ord lt)
def g(p:Array Nat)(i:Nat):Nat:=p.getD i 0
def SP(lt:Nat->Nat->Bool)(p:Array Nat)(n:Nat):Prop:=∀i j,i < j->j < n->lt (g p j) (g p i)=ai
def DP(lt:Nat->Nat->Bool)(p:Array Nat)(n:Nat):Prop:=∀i j,i < j->j < n->lt (g p i) (g p j)=ai
def Sim(lt:Nat->Nat->Bool)(x y:Nat):Prop:=lt x y=ai/\lt y x=ai
include O
theorem irr(i:Nat):lt i i=ai:=by
 cases e:lt i i with
 |false=>rfl
 |true=>exact(O.asym i i e).symm.trans e |>.symm▸rfl
theorem Sim.eq{a b x y:Nat}(h1:Sim lt a x)(h2:Sim lt b y):lt a b=lt x y:=by
 cases e:lt x y with
 |false=>exact O.ltr _ _ _ h2.2 (O.ltr _ _ _ e h1.1)
 |true=>
  cases e2:lt a b with
  |true=>rfl
  |false=>
   have:lt x y=ai:=O.ltr _ _ _ h2.1 (O.ltr _ _ _ e2 h1.2);rw[this]at e;cases e
theorem SP.snoc{p:Array Nat}{n:Nat}(h:SP lt p n)(h1:1<=n)(e:lt (g p n) (g p (n-1))=ai):SP lt p (n+1):=λi j hij hj=>by
 by_cases q:j < n
 ·exact h i j hij q
 ·have:j=n:=by omega
  subst this;by_cases r:i=j-1
  ·subst r;exact e
  ·exact O.ltr _ _ _ (h i (j-1) ⋯ ⋯) e
theorem o8{p:Array Nat}:∀f n,1<=n->SP lt p n->n<=run lt (kas_asc p f n)/\run lt (kas_asc p f n)<=n+f/\SP lt p (run lt (kas_asc p f n))/\(run lt (kas_asc p f n)=n+f\/lt (g p (run lt (kas_asc p f n))) (g p (run lt (kas_asc p f n)-1))=ah)
 |0,n,h1,h=>⟨Aq _,Aq _,h,.inl rfl⟩
 |f+1,n,h1,h=>by
  have e:run lt (kas_asc p (f+1) n)=run lt (if lt (g p n) (g p (n-1))=ah then .ret n else kas_asc p f (n+1)):=rfl;rw[e];cases q:lt (g p n) (g p (n-1))with
  |true=>exact⟨Aq _,Nat.le_add_right _ _,h,.inr q⟩
  |false=>
   rw[if_neg Au];obtain⟨a1,a2,a3,a4⟩:=o8 f (n+1) ⋯ (SP.snoc O h h1 q);exact⟨by omega,by omega,a3,a4.imp (λz=>by omega) id⟩
omit O
theorem rZ{p:Array Nat}{i j:Nat}(hj:j<=p.size)(k:Nat):g (Fb p i j) k=if i<=k/\k < j then g p (i+j-1-k)else g p k:=by
 unfold g Fb;rw[iZ,iZ,iZ,getElem?_mirror hj _ ⋯];by_cases h:i<=k/\k < j
 ·rw[if_pos h];by_cases q:(i<=k/\k < i+(j-i) / 2)\/(j-(j-i) / 2<=k/\k < j)
  ·rw[if_pos q]
  ·rw[if_neg q];have:i+j-1-k=k:=by omega
   rw[this]
 ·rw[if_neg h,if_neg ⋯]
include O
theorem qR{p:Array Nat}{i j:Nat}(hj:j<=p.size)(h:∀a b,i<=a->a < j->i<=b->b < j->Sim lt (g p a) (g p b))(k:Nat):Sim lt (g (Fb p i j) k) (g p k):=by
 rw[rZ hj]
 split
 ·rename_i q;exact h _ _ ⋯ ⋯ q.1 q.2
 ·exact⟨irr O _,irr O _⟩
theorem DP.sim{p p':Array Nat}{n:Nat}(h:DP lt p n)(s:∀k,Sim lt (g p' k) (g p k)):DP lt p' n:=λi j hij hj=>(Sim.eq O (s i) (s j)).trans (h i j hij hj)
theorem DP.snoc{p:Array Nat}{n:Nat}(h:DP lt p n)(h1:1<=n)(e:lt (g p (n-1)) (g p n)=ai):DP lt p (n+1):=λi j hij hj=>by
 by_cases q:j < n
 ·exact h i j hij q
 ·have:j=n:=by omega
  subst this;by_cases r:i=j-1
  ·subst r;exact e
  ·exact O.ltr _ _ _ e (h i (j-1) ⋯ ⋯)
omit O
def pZ(lt:Nat->Nat->Bool)(sz n f:Nat)(r:Array Nat×Nat×Nat):Prop:=
 r.1.size=sz/\n<=r.2.1/\r.2.1<=n+f/\r.2.2+1<=r.2.1/\DP lt r.1 r.2.1/\(∀a b,r.2.1-(r.2.2+1)<=a->a < r.2.1->r.2.1-(r.2.2+1)<=b->b < r.2.1->Sim lt (g r.1 a) (g r.1 b))
def iq(lt:Nat->Nat->Bool)(sz nrem:Nat)(r:Nat×Array Nat):Prop:=r.2.size=sz/\1<=r.1/\r.1<=nrem/\SP lt r.2 r.1
def pV(lt:Nat->Nat->Bool)(p:Array Nat)(k m:Nat):Prop:=m<=k/\(∀i,i < m->lt (g p k) (g p i)=ai)/\(∀i,m<=i->i < k->lt (g p k) (g p i)=ah)
include O
theorem oP:∀f (p:Array Nat) n q,q+1<=n->n+f<=p.size->DP lt p n->(∀a b,n-(q+1)<=a->a < n->n-(q+1)<=b->b < n->Sim lt (g p a) (g p b))->
  pZ lt p.size n f (run lt (kas_desc f p n q))
 |0,p,n,q,h1,h2,h3,h4=>⟨rfl,Aq _,Aq _,h1,h3,h4⟩
 |f+1,p,n,q,h1,h2,h3,h4=>by
  have one:∀(p':Array Nat)(m:Nat)(a b:Nat),m+1-(0+1)<=a->a < m+1->m+1-(0+1)<=b->b < m+1->Sim lt (g p' a) (g p' b):=λp' m a b ha ha' hb hb'=>by
   have e1:a=m:=by omega
   have e2:b=m:=by omega
   rw[e1,e2];exact⟨irr O _,irr O _⟩
  show pZ lt p.size n (f+1) (run lt (if lt (g p n) (g p (n-1))=ah then(if q > 0 then kas_desc f (Fb p (n-(q+1)) n) (n+1) 0 else kas_desc f p (n+1) 0)else .ask (p.getD (n-1) 0) (p.getD n 0) λd=>if d=ah then .ret (p,n,q)else kas_desc f p (n+1) (q+1)));cases c1:lt (g p n) (g p (n-1))with
  |true=>
   rw[if_pos rfl];by_cases hq:q > 0
   ·rw[if_pos hq];have sim:=qR O (p:=p) (i:=n-(q+1)) (j:=n) ⋯ h4;have hd:DP lt (Fb p (n-(q+1)) n) (n+1):=DP.sim O (DP.snoc O h3 ⋯ (O.asym _ _ c1)) sim;have hs:(Fb p (n-(q+1)) n).size=p.size:=mirror_size _ _ _ _;obtain⟨a1,a2,a3,a4,a5,a6⟩:=oP f (Fb p (n-(q+1)) n) (n+1) 0 ⋯ (by rw[hs];omega) hd (one _ n);exact⟨a1.trans hs,by omega,by omega,a4,a5,a6⟩
   ·rw[if_neg hq];obtain⟨a1,a2,a3,a4,a5,a6⟩:=oP f p (n+1) 0 ⋯ ⋯ (DP.snoc O h3 ⋯ (O.asym _ _ c1)) (one _ n);exact⟨a1,by omega,by omega,a4,a5,a6⟩
  |false=>
   rw[if_neg Au];show pZ lt p.size n (f+1) (run lt (if lt (g p (n-1)) (g p n)=ah then .ret (p,n,q)else kas_desc f p (n+1) (q+1)));cases c2:lt (g p (n-1)) (g p n)with
   |true=>exact⟨rfl,Aq _,by show n<=n+(f+1);omega,h1,h3,h4⟩
   |false=>
    rw[if_neg Au];have s1:Sim lt (g p n) (g p (n-1)):=⟨c1,c2⟩;have tr:∀{x y z:Nat},Sim lt x y->Sim lt y z->Sim lt x z:=λh h'=>⟨O.ltr _ _ _ h'.1 h.1,O.ltr _ _ _ h.2 h'.2⟩;obtain⟨a1,a2,a3,a4,a5,a6⟩:=oP f p (n+1) (q+1) ⋯ ⋯ (DP.snoc O h3 ⋯ c2) (λa b ha ha' hb hb'=>by
     have key:∀x,n+1-(q+1+1)<=x->x < n+1->Sim lt (g p x) (g p (n-1)):=λx hx hx'=>by
      by_cases e:x=n
      ·rw[e];exact s1
      ·exact h4 x (n-1) ⋯ ⋯ ⋯ ⋯
     have kb:=key b hb hb';exact tr (key a ha ha') ⟨kb.2,kb.1⟩)
    exact⟨a1,by omega,by omega,a4,a5,a6⟩
theorem uq{p:Array Nat}{n nrem:Nat}(h1:1<=n)(hn:n<=nrem)(hz:nrem<=p.size)(h:DP lt p n):iq lt p.size nrem (run lt (kas_tail3 n nrem p)):=by
 unfold kas_tail3;rw[j8];have hs:(Fb p 0 n).size=p.size:=mirror_size _ _ _ _;have sp:SP lt (Fb p 0 n) n:=λi j hij hj=>by
  rw[rZ ⋯,rZ ⋯,if_pos ⟨Bc _,hj⟩,if_pos ⟨Bc _,by omega⟩];exact h _ _ ⋯ ⋯
 obtain⟨a1,a2,a3,_⟩:=o8 O (p:=Fb p 0 n) (nrem-n) n h1 sp;exact⟨hs,by show 1<=run lt (kas_asc (Fb p 0 n) (nrem-n) n);omega,by show run lt (kas_asc (Fb p 0 n) (nrem-n) n)<=nrem;omega,a3⟩
theorem zX{p:Array Nat}{n nrem:Nat}(h1:1<=n)(hn:n+1<=nrem)(hz:nrem<=p.size)(h:DP lt p (n+1)):iq lt p.size nrem (run lt (kas_descPart n nrem p)):=by
 unfold kas_descPart;rw[j8];obtain⟨a1,a2,a3,a4,a5,a6⟩:=oP O (nrem-(n+1)) p (n+1) 0 ⋯ ⋯ h (λa b ha ha' hb hb'=>by
  have e1:a=n:=by omega
  have e2:b=n:=by omega
  rw[e1,e2];exact⟨irr O _,irr O _⟩)
 generalize run lt (kas_desc (nrem-(n+1)) p (n+1) 0)=r at a1 a2 a3 a4 a5 a6;by_cases hq:r.2.2 > 0
 ·rw[if_pos hq];have hs:(Fb r.1 (r.2.1-(r.2.2+1)) r.2.1).size=r.1.size:=mirror_size _ _ _ _;obtain⟨b1,b2⟩:=uq O (p:=Fb r.1 (r.2.1-(r.2.2+1)) r.2.1) (n:=r.2.1) (nrem:=nrem) ⋯ ⋯ (by rw[hs];omega) (DP.sim O a5 (qR O ⋯ a6));exact⟨b1.trans (hs.trans a1),b2⟩
 ·rw[if_neg hq];obtain⟨b1,b2⟩:=uq O (p:=r.1) (n:=r.2.1) (nrem:=nrem) ⋯ ⋯ ⋯ a5;exact⟨b1.trans a1,b2⟩
theorem MO{p:Array Nat}{nrem:Nat}(h1:1<=nrem)(hz:nrem<=p.size):iq lt p.size nrem (run lt (kas_count nrem p)):=by
 unfold kas_count;rw[j8];obtain⟨a1,a2,a3,a4⟩:=o8 O (p:=p) (nrem-1) 1 (Aq _) (λi j hij hj=>by omega);generalize run lt (kas_asc p (nrem-1) 1)=m at a1 a2 a3 a4;by_cases q:(m==nrem)=ah
 ·rw[if_pos q];exact⟨rfl,a1,by show m<=nrem;omega,a3⟩
 ·rw[if_neg q];have hm:m≠nrem:=λz=>q (by rw[z];exact beq_self_eq_true _);have a4:lt (g p m) (g p (m-1))=ah:=a4.resolve_left ⋯;by_cases hm1:m > 1
  ·rw[if_pos hm1];show iq lt p.size nrem (run lt (if lt (g p 0) (g p (m-1))=ah then .ret (m,p)else kas_descPart m nrem (Fb p 0 m)));cases c:lt (g p 0) (g p (m-1))with
   |true=>exact⟨rfl,a1,by show m<=nrem;omega,a3⟩
   |false=>
    rw[if_neg Au];have hs:(Fb p 0 m).size=p.size:=mirror_size _ _ _ _;have up:∀a b,a < m->b < m->lt (g p b) (g p a)=ai:=λa b ha hb=>by
     have le0:lt (g p a) (g p 0)=ai:=by
      by_cases z:a=0
      ·rw[z];exact irr O _
      ·exact a3 0 a ⋯ ha
     have leb:lt (g p (m-1)) (g p b)=ai:=by
      by_cases z:b=m-1
      ·rw[z];exact irr O _
      ·exact a3 b (m-1) ⋯ ⋯
     have l1:lt (g p b) (g p 0)=ai:=by
      by_cases z:b=0
      ·rw[z];exact irr O _
      ·exact a3 0 b ⋯ hb
     have l2:lt (g p 0) (g p a)=ai:=O.ltr _ _ _ (by
      by_cases z:a=m-1
      ·rw[z];exact irr O _
      ·exact a3 a (m-1) ⋯ ⋯) c
     exact O.ltr _ _ _ l2 l1
    have all:∀a b,0<=a->a < m->0<=b->b < m->Sim lt (g p a) (g p b):=λa b _ ha _ hb=>⟨up b a hb ha,up a b ha hb⟩;have sim:=qR O (p:=p) (i:=0) (j:=m) ⋯ all;have dp:DP lt p (m+1):=DP.snoc O (λi j hij hj=>up j i hj ⋯) a1 (O.asym _ _ a4);obtain⟨b1,b2⟩:=zX O (p:=Fb p 0 m) (n:=m) (nrem:=nrem) a1 ⋯ (by rw[hs];omega) (DP.sim O dp sim);exact⟨b1.trans hs,b2⟩
  ·rw[if_neg hm1];have e:m=1:=by omega
   subst e;exact zX O (p:=p) (Aq _) ⋯ hz (DP.snoc O (λi j hij hj=>by omega) (Aq _) (O.asym _ _ a4))
theorem sJ{p:Array Nat}{k:Nat}(h:SP lt p k):∀f l r,l<=r->r<=k->r-l<=f->(∀i,i < l->lt (g p k) (g p i)=ai)->(∀i,r<=i->i < k->lt (g p k) (g p i)=ah)->
  pV lt p k (run lt (kas_place p k f l r))
 |0,l,r,hlr,hr,hf,h1,h2=>by
  have e:l=r:=by omega
  subst e;exact⟨hr,h1,h2⟩
 |f+1,l,r,hlr,hr,hf,h1,h2=>by
  show pV lt p k (run lt (if l ≥ r then .ret l else .ask (p.getD k 0) (p.getD ((l+r) / 2) 0) λc=>if c=ah then kas_place p k f l ((l+r) / 2)else kas_place p k f ((l+r) / 2+1) r));by_cases q:l ≥ r
  ·rw[if_pos q];have e:l=r:=by omega
   subst e;exact⟨hr,h1,h2⟩
  ·rw[if_neg q];show pV lt p k (run lt (if lt (g p k) (g p ((l+r) / 2))=ah then kas_place p k f l ((l+r) / 2)else kas_place p k f ((l+r) / 2+1) r));cases c:lt (g p k) (g p ((l+r) / 2))with
   |true=>
    rw[if_pos rfl];refine sJ h f l ((l+r) / 2) ⋯ ⋯ ⋯ h1 λi hi hik=>?_;by_cases e:i=(l+r) / 2
    ·rw[e];exact c
    ·cases z:lt (g p k) (g p i)with
     |true=>rfl
     |false=>
      have:=O.ltr _ _ _ (h ((l+r) / 2) i ⋯ hik) z;rw[this]at c;cases c
   |false=>
    rw[if_neg Au];refine sJ h f ((l+r) / 2+1) r ⋯ hr ⋯ (λi hi=>?_) h2;by_cases e:i=(l+r) / 2
    ·rw[e];exact c
    ·exact O.ltr _ _ _ (h i ((l+r) / 2) ⋯ ⋯) c
omit O
theorem va{p:Array Nat}{k l:Nat}(hk:k < p.size)(hl:l<=k)(i:Nat):g (bubble p k (k-l)) i=if i=l then g p k else if l < i/\i<=k then g p (i-1)else g p i:=by
 unfold g;rw[iZ,getElem?_bubble hk _ ⋯,iZ,iZ,iZ];have e:k-(k-l)=l:=by omega
 rw[e];by_cases h1:i=l
 ·rw[if_pos h1,if_pos h1]
 ·rw[if_neg h1,if_neg h1];by_cases h2:l < i/\i<=k
  ·rw[if_pos h2,if_pos h2]
  ·rw[if_neg h2,if_neg h2]
include O
theorem uX:∀f (p:Array Nat) k,1<=k->k+f<=p.size->SP lt p k->SP lt (run lt (kas_bin f p k)) (k+f)
 |0,p,k,h1,hz,h=>h
 |f+1,p,k,h1,hz,h=>by
  show SP lt (run lt ((kas_place p k k 0 k).bind λl=>kas_bin f (bubble p k (k-l)) (k+1))) (k+(f+1));rw[j8];obtain⟨b1,b2,b3⟩:=sJ O h k 0 k (Bc _) (Aq _) ⋯ (λi hi=>by omega) (λi hi hi'=>by omega);generalize run lt (kas_place p k k 0 k)=l at b1 b2 b3;have sp:SP lt (bubble p k (k-l)) (k+1):=λi j hij hj=>by
   rw[va ⋯ b1,va ⋯ b1];by_cases e1:j=l
   ·rw[if_pos e1,if_neg ⋯,if_neg ⋯];exact b2 i ⋯
   ·rw[if_neg e1];by_cases e2:l < j/\j<=k
    ·rw[if_pos e2];by_cases e3:i=l
     ·rw[if_pos e3];exact O.asym _ _ (b3 (j-1) ⋯ ⋯)
     ·rw[if_neg e3];by_cases e4:l < i/\i<=k
      ·rw[if_pos e4];exact h (i-1) (j-1) ⋯ ⋯
      ·rw[if_neg e4];exact h i (j-1) ⋯ ⋯
    ·rw[if_neg e2,if_neg ⋯,if_neg ⋯];exact h i j hij ⋯
  have:=uX f (bubble p k (k-l)) (k+1) ⋯ (by rw[bubble_size];omega) sp;have e:k+1+f=k+(f+1):=by omega
  rwa [e]at this
theorem sort_ok{n:Nat}(h1:1<=n):SP lt (run lt (Gw n)) n:=by
 unfold Gw;rw[j8];obtain⟨a1,a2,a3,a4⟩:=MO O (p:=Dg (Bh n)) (nrem:=n) h1 (by simp);generalize run lt (kas_count n (Dg (Bh n)))=r at a1 a2 a3 a4;have hs:r.2.size=n:=by rw[a1];simp
 by_cases q:r.1 < n
 ·rw[if_pos q];have e:max r.1 1=r.1:=by omega
  rw[e];have:=uX O (n-r.1) r.2 r.1 a2 ⋯ a4;have e2:r.1+(n-r.1)=n:=by omega
  rwa [e2]at this
 ·rw[if_neg q];have e:r.1=n:=by omega
  rw[e]at a4;exact a4
end
end KS
namespace KS
open PySem PySem.W PySem.Calls PyProof.Rows
section
variable{prog:Bn}{w:By}{A:Bt}{E:Ag->Ai->Prop}{s:Ai}{a:Addr}{vs:List Ag}
theorem ls_sort{n:Nat}{P:PySem.Fin->Ai->Prop}(ho:s.heap.get? a=ae (Br "list" vs.toArray n))(h2:2<=vs.length)(h64:vs.length < 64)
  (h:∀e1 h',h'.get? a=ae (Br "list" #[] e1)->(∀b o,b≠a->s.heap.get? b=ae o->h'.get? b=ae o)->
   Av (A7 prog w) A (keyKind' vs.toArray) (λκ s'=>(Gw vs.length).kasWp (kas_ask prog w A κ vs)
    (λp s''=>s''.heap.get? a=ae (Br "list" #[] e1)/\∀h3 c,Dh a s''.heap h3->h3.get? a=ae (Br "list" (Dg (p.toList.map λi=>vs.getD i Bd)) c)->P (.done (.ret .none)) {s'' with heap:=h3}) s') (λ_ _=>False) {s with heap:=h'}):
  Av (A7 prog w) A (D8.«list.sort» ⟨[.ref a],[]⟩) P E s:=by
 have ha:a < s.heap.objs.size:=An ho;have s1:=Bb s.heap a (B5 λ_=>(#[]:Array Ag));obtain⟨e1,ho1⟩:∃e1,(s.heap.update a (B5 λ_=>(#[]:Array Ag))).get? a=ae (Br "list" #[] e1):=⟨_,E9 ho λ_=>#[]⟩;have ask:=h e1 (((s.heap.update a (B5 λ_=>(#[]:Array Ag))).push (Br "tuple" vs.toArray 0)).push (Br "list" #[] 0)) (Ae _ (Ae _ ho1))
  λb o hb e=>Ae _ (Ae _ ((s1.2 b hb).trans e))
 rw[list_sort_plain];refine Aa (listItems_at ho rfl ?_);refine Aa (Fh ho rfl ?_ (by rw[Ap,Cw];omega) (Bc _));refine Aa (seqEpoch_at ho1 rfl ?_);refine Aa (wpAny_newTuple ?_ (by show vs.length<=_;rw[Cw];omega));refine Aa (Hh ?_ (Bc _));refine Cg ?_;show Av (A7 prog w) A _ P E {s with heap:=((s.heap.update a (B5 λ_=>(#[]:Array Ag))).push (Br "tuple" vs.toArray 0)).push (Br "list" #[] 0)};dsimp only;have hn2:¬vs.toArray.size < 2:=by rw[Ap];omega
 rw[if_neg hn2,if_neg hn2];refine Aa (Dv ask (λκ s0 hk=>?_) λ_ _ x=>x.elim);refine Aa (Dv (kat_run (Q:=λst' s'=>∃p:Array Nat,p.size=vs.length/\arrOf st'=p.map (kas_item (vs.toArray.zip vs.toArray))/\failedOf st'=af/\s'.heap.get? a=ae (Br "list" #[] e1)/\∀h3 c,Dh a s'.heap h3->h3.get? a=ae (Br "list" (Dg (p.toList.map λi=>vs.getD i Bd)) c)->P (.done (.ret .none)) {s' with heap:=h3})
  rfl h2 h64 (λp' st' s' a1 a2 a3 a4=>⟨p',a1,a2,a3,a4⟩) hk) ?_ λ_ _ e=>e)
 rintro⟨⟨⟩,st'⟩ s' ⟨p,hp,har,hf,na,k⟩
 dsimp only;have hout:=kat_snds rfl har;have hsz:(Dg (p.toList.map λi=>vs.getD i Bd)).size=vs.length:=by rw[Ap,Ad,Az,hp]
 rw[hout];have s2:=Bb s'.heap a (B5 λ_=>Dg (p.toList.map λi=>vs.getD i Bd));obtain⟨c2,hc2⟩:∃c2,(s'.heap.update a (B5 λ_=>Dg (p.toList.map λi=>vs.getD i Bd))).get? a=ae (Br "list" (Dg (p.toList.map λi=>vs.getD i Bd)) c2):=⟨_,E9 na λ_=>Dg (p.toList.map λi=>vs.getD i Bd)⟩;refine Aa (seqEpoch_at na rfl ?_);refine Aa (Fh na rfl ?_ (Bc _) (B7 (Nat.le_of_eq hsz) (by rw[Cw];omega)));rw[hf];simp only[bne_self_eq_false,A9,if_false];exact Af (k _ c2 s2 hc2)
theorem ls_short{n:Nat}{P:PySem.Fin->Ai->Prop}(ho:s.heap.get? a=ae (Br "list" vs.toArray n))(h2:vs.length < 2)
  (h:∀h' c,h'.get? a=ae (Br "list" vs.toArray c)->(∀b o,b≠a->s.heap.get? b=ae o->h'.get? b=ae o)->P (.done (.ret .none)) {s with heap:=h'}):
  Av (A7 prog w) A (D8.«list.sort» ⟨[.ref a],[]⟩) P E s:=by
 have ha:a < s.heap.objs.size:=An ho;have s1:=Bb s.heap a (B5 λ_=>(#[]:Array Ag));obtain⟨e1,ho1⟩:∃e1,(s.heap.update a (B5 λ_=>(#[]:Array Ag))).get? a=ae (Br "list" #[] e1):=⟨_,E9 ho λ_=>#[]⟩;have ho6:(((s.heap.update a (B5 λ_=>(#[]:Array Ag))).push (Br "tuple" vs.toArray 0)).push (Br "list" #[] 0)).get? a=ae (Br "list" #[] e1):=Ae _ (Ae _ ho1);rw[list_sort_plain];refine Aa (listItems_at ho rfl ?_);refine Aa (Fh ho rfl ?_ (by rw[Ap,Cw];omega) (Bc _));refine Aa (seqEpoch_at ho1 rfl ?_);refine Aa (wpAny_newTuple ?_ (by show vs.length<=_;rw[Cw];omega));refine Aa (Hh ?_ (Bc _));refine Cg ?_;show Av (A7 prog w) A _ P E {s with heap:=((s.heap.update a (B5 λ_=>(#[]:Array Ag))).push (Br "tuple" vs.toArray 0)).push (Br "list" #[] 0)};dsimp only;have hn2:vs.toArray.size < 2:=by rw[Ap];omega
 rw[if_pos hn2,if_pos hn2];refine Aa (Af ?_);rw[StateT.run_pure];refine Aa (Af ?_);dsimp only;refine Aa (seqEpoch_at ho6 rfl ?_);refine Aa (Fh ho6 rfl ?_ (hsz2:=by rw[Array.size_map];show(pairsOf vs).size<=_;rw[pairsOf_size,Cw];omega));simp only[bne_self_eq_false,A9,if_false];have e:(arrOf (SortSt.mk' general' (vs.toArray.zip vs.toArray) #[] 7 af)).map (·.2)=vs.toArray:=by
  show(vs.toArray.zip vs.toArray).map (·.2)=vs.toArray;apply F4.mp;simp only[Array.toList_map,Array.toList_zip];exact List.map_snd_zip (Aq _)
 have s2:=Bb (((s.heap.update a (B5 λ_=>(#[]:Array Ag))).push (Br "tuple" vs.toArray 0)).push (Br "list" #[] 0)) a (B5 λ_=>(arrOf (SortSt.mk' general' (vs.toArray.zip vs.toArray) #[] 7 af)).map (·.2));refine Af (h _ _ (by rw[e];exact E9 ho6 λ_=>vs.toArray) λb o hb q=>(s2.2 b hb).trans (Ae _ (Ae _ ((s1.2 b hb).trans q))))
theorem sorted_of{r:Ag}{Q:Ag->Ai->Prop}{R:List Ag->Ai->Prop}(hcol:Av (A7 prog w) A.in1 (collect r) R E s)
  (h:∀vs s1,R vs s1->vs.length<=A2/\Av (A7 prog w) A.in1.in1 (D8.«list.sort» ⟨[.ref s1.heap.objs.size],[]⟩) (λf s2=>f=.done (.ret .none)/\Q (.ref s1.heap.objs.size) s2) E {s1 with heap:=s1.heap.push (Br "list" vs.toArray 0)}):
  Av (A7 prog w) A (call (.builtin "sorted") [r]) Q E s:=by
 refine Calls.call_function_entry kind_sorted plain_sorted entry_sorted (args_sorted1 _) ?_;unfold D8.«sorted»;refine Aa (m:=checkCount "sorted" 1 1 _) (Af ?_);refine Aa (Dv hcol (λvs s1 hr=>?_) λ_ _ e=>e);obtain⟨hl,hs⟩:=h vs s1 hr;refine Aa (Hh ?_ hl);have hoL:(s1.heap.push (Br "list" vs.toArray 0)).get? s1.heap.objs.size=ae (Br "list" vs.toArray 0):=As _ rfl;refine Aa (Cg (Ca (s:={ s1 with heap:=s1.heap.push (Br "list" vs.toArray 0)}) slot_list_sort ⟨_,hoL,rfl⟩ entry_list_sort ?body (args_list_sort _)))
 case body=>
  refine Dv hs (λf s2 hf=>?_) λ_ _ e=>e;obtain⟨rfl,hq⟩:=hf;exact⟨_,rfl,Af ⟨_,rfl,hq⟩⟩
def ltK(ks:List Str)(i j:Nat):Bool:=decide ((ks.getD i ⟨#[]⟩).cps.toList < (ks.getD j ⟨#[]⟩).cps.toList)
theorem lt_asym'(x y:List Nat)(h:x < y):¬y < x:=λz=>List.lt_irrefl x (List.lt_trans h z)
theorem ordK(ks:List Str):Ord (ltK ks) where
 asym:=λi j h=>by
  unfold ltK at h ⊢;exact decide_eq_false (lt_asym' _ _ (of_decide_eq_true h))
 ltr:=λi j k h1 h2=>by
  unfold ltK at h1 h2 ⊢;have h1:=of_decide_eq_false h1;have h2:=of_decide_eq_false h2;refine decide_eq_false λz=>?_;have l1:=Gt.mp h1;have l2:=Gt.mp h2;exact absurd z (Gt.mpr (List.le_trans l1 l2))
end
end KS
namespace L2
open PySem PySem.Spec PyProof.Rows PySem.W
theorem Kf{ks:List Str}{p:Array Nat}{n:Nat}(hz:p.size=n)(h:KS.SP (KS.ltK ks) p n):(p.toList.map λi=>ks.getD i ⟨#[]⟩).Pairwise (λa b=>¬b.cps.toList < a.cps.toList):=by
 rw[Gc];intro i j hi hj hij;rw[Ad,Az,hz]at hi hj;have:=h i j hij hj;unfold KS.ltK KS.g at this;have e1:p.getD i 0=p[i]:=by simp[hz,hi]
 have e2:p.getD j 0=p[j]:=by simp[hz,hj]
 rw[e1,e2]at this;simp only[List.getElem_map,Array.getElem_toList];exact of_decide_eq_false this
def h9(vs:List Ag)(ks:List Str):Prop:=vs.length=ks.length/\∀(j:Nat) v,vs[j]?=ae v->∃k t,ks[j]?=ae k/\v=.str k t
theorem vf{vs:List Ag}{ks:List Str}(h:h9 vs ks):∀(idx:List Nat),(∀i∈idx,i < ks.length)->Vals ((idx.map λi=>ks.getD i ⟨#[]⟩).map V.str) (idx.map λi=>vs.getD i Bd)
 |[],_=>.nil
 |i::r,hi=>by
  have h1:=hi i Am;have h2:i < vs.length:=by rw[h.1];exact h1
  obtain⟨k,t,e1,e2⟩:=h.2 i vs[i] (Ah h2);refine .cons ⟨t,?_⟩ (vf h r λj hj=>hi j (Ar _ hj));simp[h2,e1,e2]
theorem NM{ks:List Str}{idx:List Nat}(h:idx.Perm (Bh ks.length)):(idx.map λi=>ks.getD i ⟨#[]⟩).Perm ks:=by
 have h1:=h.map λi=>ks.getD i (⟨#[]⟩:Str);have h2:(Bh ks.length).map (λi=>ks.getD i (⟨#[]⟩:Str))=ks:=by
  apply Ew (by simp);intro i h1 h2;simp[h2]
 rw[h2]at h1;exact h1
end L2
namespace L2
open PySem PySem.Spec PyProof.Rows
section
variable{prog:Bn}{w:By}{A:Bt}{E:Ag->Ai->Prop}{s:Ai}
theorem p8{it t:Addr}{i:Nat}{items:Array Ag}{x:Ag}{Q:Ag->Ai->Prop}(hit:s.heap.IsTupleIter it t i)(ht:s.heap.IsTuple t items)(hx:items[i]?=ae x)
  (hQ:∀h',h'.IsTupleIter it t (i+1)->Dh it s.heap h'->Q x {s with heap:=h'}):Av (A7 prog w) A (Cp (.ref it)) Q E s:=by
 obtain⟨o,ho,hc,hd⟩:=id hit;obtain⟨ol,hol,_,nl,hdl⟩:=ht;unfold Cp;refine Aa (Bz (name:=C0 "__next__") hit.typeIs Gg
  (Ca Gg hit.typeIs F.entry_tuple_iterator_next ?_ (F.args_tuple_iterator_next_1 _)))
 show Av _ _ (field (.ref it) 0>>=_) _ _ s;refine Aa (Cu ho hd (x:=.ref t) rfl ?_);show Av _ _ (if (Bf t==Bd)=ah then _ else _) _ _ s;rw[if_neg (show ¬((Bf t==Bd)=ah)from Au)];show Av _ _ (field (.ref it) 1>>=_) _ _ s;refine Aa (Cu ho hd (x:=.int i 0) rfl ?_);show Av _ _ (seqItems? (.ref t)>>=_) _ _ s;refine Aa (Ct hol hdl ?_);simp only[B9,hx];refine Aa (Dn ho hd (by simp) (Af ⟨x,rfl,Af (hQ _ ?_ (Bb ..))⟩));exact⟨_,B1 _ ho (Dt (Cc hd _)),(E7 ..).trans hc,by
  rw[Cc hd];simp[Da]⟩
theorem vQ{it t:Addr}{i:Nat}{items:Array Ag}{Q:Ag->Ai->Prop}(hh:A.handled=af)(hit:s.heap.IsTupleIter it t i)(ht:s.heap.IsTuple t items)(hx:items[i]?=af)
  (hE:∀h' e,Heap.ExtBut it s.heap h'->(∃o,h'.get? e=ae o/\o.cls=.type "StopIteration")->E (.ref e) {s with heap:=h'}):
  Av (A7 prog w) A (Cp (.ref it)) Q E s:=by
 obtain⟨o,ho,hc,hd⟩:=id hit;obtain⟨ol,hol,_,nl,hdl⟩:=ht;unfold Cp;refine Aa (Bz (name:=C0 "__next__") hit.typeIs Gg
  (Ca Gg hit.typeIs F.entry_tuple_iterator_next ?_ (F.args_tuple_iterator_next_1 _)))
 show Av _ _ (field (.ref it) 0>>=_) _ _ s;refine Aa (Cu ho hd (x:=.ref t) rfl ?_);show Av _ _ (if (Bf t==Bd)=ah then _ else _) _ _ s;rw[if_neg (show ¬((Bf t==Bd)=ah)from Au)];show Av _ _ (field (.ref it) 1>>=_) _ _ s;refine Aa (Cu ho hd (x:=.int i 0) rfl ?_);show Av _ _ (seqItems? (.ref t)>>=_) _ _ s;refine Aa (Ct hol hdl ?_);simp only[B9,hx];refine Aa (Fw (Aa (Dn ho hd (by simp) ?_)));show Av _ _ (newExc (.type "StopIteration") []>>=_) _ _ _;refine Aa ?_;simp only[newExc,newTuple];refine Aa (Bq ?_ (by size_fits));refine Aa (m:=Em _ _) (G3 (a:=Bd) (by first|rfl|(simp only[Em];rfl)) ?_);refine Bq ?_ (by size_fits);simp only[raiseNew];refine Aa (wpAny_handled ?_)
 first|rw[show A.in1.handled=af from hh]|rw[hh]
 refine Aa (Af (wpAny_throw ?_));exact hE _ _ (((Bb ..).extBut.push _).push _) ⟨_,As _ rfl,rfl⟩
theorem GX{z TI TO i1 i2 l1 l2:Addr}{k:Nat}{xs ys:Array Ag}{x y a b:Ag}{Q:Ag->Ai->Prop}(D:ZipApart z TI TO i1 i2 l1 l2)
  (hz:IsZip s.heap z TI TO .none) (hTI:Eu s.heap TI (.ref i1) (.ref i2)) (hTO:Eu s.heap TO a b)
  (h1:s.heap.IsTupleIter i1 l1 k) (h2:s.heap.IsTupleIter i2 l2 k) (hl1:s.heap.IsTuple l1 xs) (hl2:s.heap.IsTuple l2 ys) (hx:xs[k]?=ae x) (hy:ys[k]?=ae y)
  (hQ:∀h',IsZip h' z TI TO (Da s.heap.objs.size)->Eu h' TO x y->h'.IsTupleIter i1 l1 (k+1)->h'.IsTupleIter i2 l2 (k+1)->Eu h' s.heap.objs.size x y->h'.objs.size=s.heap.objs.size+1->
   (∀c o,c≠z->c≠TO->c≠i1->c≠i2->s.heap.get? c=ae o->h'.get? c=ae o)->Q (.ref s.heap.objs.size) {s with heap:=h'}):
  Av (A7 prog w) A (D8.«zip.__next__» ⟨[.ref z],[]⟩) (λfin s'=>∃v,fin=.done (.ret v)/\Q v s') E s:=by
 show Av _ _ (field (.ref z) 2>>=_) _ _ _;refine Aa (Cu hz rfl (x:=.bool ai) rfl ?_);show Av _ _ (field (.ref z) 3>>=_) _ _ _;refine Aa (Cu hz rfl (x:=.ref TI) rfl ?_);refine Aa (Ct hTI rfl ?_);show Av _ _ (C1 (.ref z)>>=_) _ _ _;refine Aa ?_;unfold C1;refine Aa (Cu hz rfl (x:=.none) rfl (Af ?_));simp only[if_true];refine Aa (Fw ?_);refine Aa (Cu hz rfl (x:=.ref TO) rfl ?_);refine Aa (E4 hz (by simp) λg1 hz1 s1=>?_)
 replace hz1:IsZip g1 z TI TO .ellipsis:=hz1
 refine Aa ?_;simp only[List.zipIdx_cons,List.zipIdx_nil,List.forIn_cons,List.forIn_nil];refine Aa (Aa (wpAny_onRaise ?_));show Av _ _ (Cp (.ref i1)>>=_) _ _ _;refine Aa (p8 (h1.extBut s1.extBut D.i1z) (hl1.extBut s1.extBut D.l1z) hx λg2 t2 s2=>Af ?_);have p2:Eu g2 TO a b:=s2.extBut _ _ D.TOi1 (s1.extBut _ _ D.TOz hTO);refine Aa (Ct p2 rfl ?_);refine Aa (wpAny_updateSeq_pair p2 λg3 p3 s3=>?_)
 replace p3:Eu g3 TO x b:=p3
 refine Aa (wpAny_letGo (Af ?_));refine Aa (Aa (wpAny_onRaise ?_));show Av _ _ (Cp (.ref i2)>>=_) _ _ _;refine Aa (p8 (((h2.extBut s1.extBut D.i2z).extBut s2.extBut D.i12.symm).extBut s3.extBut D.TOi2.symm)
  (((hl2.extBut s1.extBut D.l2z).extBut s2.extBut D.l2i1).extBut s3.extBut D.l2TO) hy λg4 t4 s4=>Af ?_)
 have p4:Eu g4 TO x b:=s4.extBut _ _ D.TOi2 p3;refine Aa (Ct p4 rfl ?_);refine Aa (wpAny_updateSeq_pair p4 λg5 p5 s5=>?_)
 replace p5:Eu g5 TO x y:=p5
 refine Aa (wpAny_letGo (Af (Af ?_)));refine Aa (Ct p5 rfl ?_);refine Aa (wpAny_newTuple ?_);have sz:g5.objs.size=s.heap.objs.size:=by rw[s5.1,s4.1,s3.1,s2.1,s1.1]
 have z5:IsZip g5 z TI TO .ellipsis:=s5.extBut _ _ D.TOz.symm (s4.extBut _ _ D.i2z.symm (s3.extBut _ _ D.TOz.symm (s2.extBut _ _ D.i1z.symm hz1)));have k5:∀c o,c≠z->c≠TO->c≠i1->c≠i2->s.heap.get? c=ae o->g5.get? c=ae o:=λc o c1 c2 c3 c4 e=>
  s5.extBut _ _ c2 (s4.extBut _ _ c4 (s3.extBut _ _ c2 (s2.extBut _ _ c3 (s1.extBut _ _ c1 e))))
 have u1:g5.IsTupleIter i1 l1 (k+1):=((t2.extBut s3.extBut D.TOi1.symm).extBut s4.extBut D.i12).extBut s5.extBut D.TOi1.symm;have u2:g5.IsTupleIter i2 l2 (k+1):=t4.extBut s5.extBut D.TOi2.symm;have zlt:z < g5.objs.size:=An z5;show Av _ _ (Hq (.ref z) (.ref g5.objs.size)>>=_) _ _ _;refine Aa ?_;unfold Hq;have z6:IsZip (g5.push {cls:=.type "tuple",data:=.seq #[x,y]}) z TI TO .ellipsis:=Ae _ z5;refine Aa (E4 z6 (by simp) λg7 z7 s7=>?_)
 replace z7:IsZip g7 z TI TO (Da g5.objs.size):=z7
 refine E4 z7 (by simp) λg8 z8 s8=>?_
 replace z8:IsZip g8 z TI TO (Da g5.objs.size):=z8
 have up:∀c o,c≠z->g5.get? c=ae o->g8.get? c=ae o:=λc o c1 e=>s8.extBut _ _ c1 (s7.extBut _ _ c1 (Ae _ e));have T8:Eu g8 g5.objs.size x y:=s8.extBut _ _ (Ee zlt) (s7.extBut _ _ (Ee zlt) (As _ rfl));have e8:g8.objs.size=g5.objs.size+1:=by rw[s8.1,s7.1,Ci]
 rw[sz]at z8 T8 e8;refine Af ⟨_,rfl,?_⟩;show Q (.ref g5.objs.size) _;rw[sz];exact hQ g8 z8 (up _ _ D.TOz p5) (u1.at λo e=>up _ o D.i1z e) (u2.at λo e=>up _ o D.i2z e) T8 e8 λc o c1 c2 c3 c4 e=>up c o c1 (k5 c o c1 c2 c3 c4 e)
theorem FY{z TI TO i1 i2 l1 l2:Addr}{k:Nat}{xs:Array Ag}{Q:Fin->Ai->Prop}(hh:A.handled=af)(D:ZipApart z TI TO i1 i2 l1 l2)
  (hz:IsZip s.heap z TI TO .none) (hTI:Eu s.heap TI (.ref i1) (.ref i2)) (h1:s.heap.IsTupleIter i1 l1 k) (hl1:s.heap.IsTuple l1 xs) (hx:xs[k]?=af)
  (hE:∀h' e,(∀c o,c≠z->c≠i1->s.heap.get? c=ae o->h'.get? c=ae o)->(∃o,h'.get? e=ae o/\o.cls=.type "StopIteration")->E (.ref e) {s with heap:=h'}):
  Av (A7 prog w) A (D8.«zip.__next__» ⟨[.ref z],[]⟩) Q E s:=by
 show Av _ _ (field (.ref z) 2>>=_) _ _ _;refine Aa (Cu hz rfl (x:=.bool ai) rfl ?_);show Av _ _ (field (.ref z) 3>>=_) _ _ _;refine Aa (Cu hz rfl (x:=.ref TI) rfl ?_);refine Aa (Ct hTI rfl ?_);show Av _ _ (C1 (.ref z)>>=_) _ _ _;refine Aa ?_;unfold C1;refine Aa (Cu hz rfl (x:=.none) rfl (Af ?_));simp only[if_true];refine Aa (Fw ?_);refine Aa (Cu hz rfl (x:=.ref TO) rfl ?_);refine Aa (E4 hz (by simp) λg1 hz1 s1=>?_)
 replace hz1:IsZip g1 z TI TO .ellipsis:=hz1
 refine Aa ?_;simp only[List.zipIdx_cons,List.zipIdx_nil,List.forIn_cons,List.forIn_nil];refine Aa (Aa (wpAny_onRaise ?_));show Av _ _ (Cp (.ref i1)>>=_) _ _ _;refine Aa (vQ hh (h1.extBut s1.extBut D.i1z) (hl1.extBut s1.extBut D.l1z) hx λg2 e s2 he=>?_);obtain⟨oe,hoe,hce⟩:=he;have z2:IsZip g2 z TI TO .ellipsis:=s2 _ _ D.i1z.symm hz1;have hez:e≠z:=λx=>by subst x;rw[z2]at hoe;cases hoe;simp at hce
 refine E4 z2 (by simp) λg3 _ s3=>hE g3 e (λc o c1 c3 x=>s3.extBut _ _ c1 (s2 _ _ c3 (s1.extBut _ _ c1 x))) ⟨oe,s3.extBut _ _ hez hoe,hce⟩
theorem xU{z TI TO i1 i2 l1 l2:Addr}{k:Nat}{xs ys:Array Ag}{x y a b:Ag}{Q:Option Ag->Ai->Prop}(D:ZipApart z TI TO i1 i2 l1 l2)
  (hz:IsZip s.heap z TI TO .none) (hTI:Eu s.heap TI (.ref i1) (.ref i2)) (hTO:Eu s.heap TO a b)
  (h1:s.heap.IsTupleIter i1 l1 k) (h2:s.heap.IsTupleIter i2 l2 k) (hl1:s.heap.IsTuple l1 xs) (hl2:s.heap.IsTuple l2 ys) (hx:xs[k]?=ae x) (hy:ys[k]?=ae y)
  (hQ:∀h',IsZip h' z TI TO (Da s.heap.objs.size)->Eu h' TO x y->h'.IsTupleIter i1 l1 (k+1)->h'.IsTupleIter i2 l2 (k+1)->Eu h' s.heap.objs.size x y->h'.objs.size=s.heap.objs.size+1->
   (∀c o,c≠z->c≠TO->c≠i1->c≠i2->s.heap.get? c=ae o->h'.get? c=ae o)->Q (ae (.ref s.heap.objs.size)) {s with heap:=h'}):
  Av (A7 prog w) A (Eg (.ref z)) Q E s:=by
 have hT:s.TypeIs (.ref z) "zip":=⟨_,hz,rfl⟩;unfold Eg;exact Aa (Eh (Bz (name:=C0 "__next__") hT Gv
  (Ca Gv hT F.entry_zip_next
   (GX D hz hTI hTO h1 h2 hl1 hl2 hx hy λh' a1 a2 a3 a4 a5 a6 a7=>Af (hQ h' a1 a2 a3 a4 a5 a6 a7)) (F.args_zip_next_1 _))))
theorem xE{z TI TO i1 i2 l1 l2:Addr}{k:Nat}{xs:Array Ag}{Q:Option Ag->Ai->Prop}(hh:A.handled=af)(D:ZipApart z TI TO i1 i2 l1 l2)
  (hz:IsZip s.heap z TI TO .none) (hTI:Eu s.heap TI (.ref i1) (.ref i2)) (h1:s.heap.IsTupleIter i1 l1 k) (hl1:s.heap.IsTuple l1 xs) (hx:xs[k]?=af)
  (hQ:∀h',(∀c o,c≠z->c≠i1->s.heap.get? c=ae o->h'.get? c=ae o)->Q af {s with heap:=h'}):Av (A7 prog w) A (Eg (.ref z)) Q E s:=by
 have hT:s.TypeIs (.ref z) "zip":=⟨_,hz,rfl⟩;unfold Eg;refine Aa (Eh (Bz (name:=C0 "__next__") hT Gv
  (Ca Gv hT F.entry_zip_next (FY hh D hz hTI h1 hl1 hx λh' e hk he=>?_) (F.args_zip_next_1 _))))
 obtain⟨o,ho,hc⟩:=he;refine Aa (E2 (T:="StopIteration") (b:=ah) ⟨o,ho,hc⟩ G8 ?_);exact Af (hQ _ hk)
end
abbrev nS(h:Heap)(l1:Addr):Heap:=h.push {cls:=.type "tuple_iterator",data:=.fields #[.ref l1,.int 0 0]}
abbrev oB(h:Heap)(l1 l2:Addr):Heap:=(nS h l1).push {cls:=.type "tuple_iterator",data:=.fields #[.ref l2,.int 0 0]}
abbrev mW(h:Heap)(l1 l2:Addr):Heap:=(oB h l1 l2).push {cls:=.type "tuple",data:=.seq #[.ref h.objs.size,.ref (nS h l1).objs.size]}
abbrev nG(h:Heap)(l1 l2:Addr):Heap:=(mW h l1 l2).push {cls:=.type "tuple",data:=.seq #[.none,.none]}
abbrev ka(h:Heap)(l1 l2:Addr):Heap:=(nG h l1 l2).push {cls:=.type "zip",data:=.fields #[.none,.bool ai,.bool ai,.ref (oB h l1 l2).objs.size,.ref (mW h l1 l2).objs.size]}
theorem HH(l1 l2:Addr)(xs ys:Array Ag):
  Meets (D8.«zip.__new__» ⟨[.type "zip",.ref l1,.ref l2],[]⟩) (λ_ R s=>s.heap.IsTuple l1 xs/\s.heap.IsTuple l2 ys /\
   R (.ok (.ret (.ref (nG s.heap l1 l2).objs.size))) {s with heap:=ka s.heap l1 l2}):=
 .of_wp λprog w A R s h=>by
  obtain⟨hp,g,d,tk,os⟩:=s;obtain⟨hl1,hl2,h⟩:=h;have hsub:=sub_zip;have hL1:Heap.IsTuple (Shared.heap ⟨hp,g,d,tk,os⟩) l1 xs:=hl1;have hL2:Heap.IsTuple (Shared.heap ⟨hp.push {cls:=.type "tuple_iterator",data:=.fields #[.ref l1,.int 0 0]},g,d,tk,os⟩) l2 ys:=Heap.IsTuple.push hl2 _
  wp_walk using G1 hL1,G1 hL2
  exact⟨_,rfl,h⟩
section
variable{prog:Bn}{w:By}{A:Bt}{E:Ag->Ai->Prop}{s:Ai}
theorem tZ{l1 l2:Addr}{xs ys:Array Ag}{Q:Ag->Ai->Prop}(hl1:s.heap.IsTuple l1 xs)(hl2:s.heap.IsTuple l2 ys)
  (h:∀h',IsZip h' (s.heap.objs.size+4) (s.heap.objs.size+2) (s.heap.objs.size+3) .none->Eu h' (s.heap.objs.size+2) (.ref s.heap.objs.size) (.ref (s.heap.objs.size+1))->
   Eu h' (s.heap.objs.size+3) .none .none->h'.IsTupleIter s.heap.objs.size l1 0->h'.IsTupleIter (s.heap.objs.size+1) l2 0->
   (∀c o,s.heap.get? c=ae o->h'.get? c=ae o)->Q (.ref (s.heap.objs.size+4)) {s with heap:=h'}):
  Av (A7 prog w) A (call (.type "zip") [.ref l1,.ref l2]) Q E s:=by
 refine callType_new F.called_zip ∎ (F.typeCall_zip_2 _ _) (F.newCall_zip_2 _ _) (λobj=>F.args_object_init_3 obj _ _) F.entry_zip_new
  (HH l1 l2 xs ys) ⟨hl1,hl2,?_⟩
 have z1:(nS s.heap l1).objs.size=s.heap.objs.size+1:=Ci ..;have z2:(oB s.heap l1 l2).objs.size=s.heap.objs.size+2:=by rw[Ci,z1]
 have z3:(mW s.heap l1 l2).objs.size=s.heap.objs.size+3:=by rw[Ci,z2]
 have z4:(nG s.heap l1 l2).objs.size=s.heap.objs.size+4:=by rw[Ci,z3]
 have g5:(ka s.heap l1 l2).get? (nG s.heap l1 l2).objs.size=ae _:=As _ rfl;have g4:(ka s.heap l1 l2).get? (mW s.heap l1 l2).objs.size=ae _:=Ae _ (As _ rfl);have g3:(ka s.heap l1 l2).get? (oB s.heap l1 l2).objs.size=ae _:=Ae _ (Ae _ (As _ rfl));have g2:(ka s.heap l1 l2).get? (nS s.heap l1).objs.size=ae _:=Ae _ (Ae _ (Ae _ (As _ rfl)));have g1:(ka s.heap l1 l2).get? s.heap.objs.size=ae _:=Ae _ (Ae _ (Ae _ (Ae _ (As _ rfl))));show _/\_;rw[z2,z3,z4]at g5;rw[z1,z2]at g3;rw[z3]at g4;rw[z1]at g2;rw[z4];exact⟨⟨_,g5,rfl⟩,h _ g5 g3 g4 ⟨_,g1,rfl,rfl⟩ ⟨_,g2,rfl,rfl⟩ λc o x=>
  Ae _ (Ae _ (Ae _ (Ae _ (Ae _ x))))⟩
end
def xk(K:Aj)(a b:Addr):It:=
 ⟨λi H=>∃xs ys x y,SqT K H a xs/\SqT K H b ys/\xs[i]?=ae x/\ys[i]?=ae y,
  λi H v H'=>∃T x y,v=.ref T/\H T=af/\H'=upd H T (.tup [x,y])/\(∀xs,SqT K H a xs->xs[i]?=ae x)/\∀ys,SqT K H b ys->ys[i]?=ae y,
  λi H=>∃xs,SqT K H a xs/\xs.length<=i⟩
theorem Inv.many{X:Cx}{pins:List (Addr×Obj)}{σ:St}{H:Hp}{s:Ai}{h':Heap}{t':Nat}{fp:List Addr}{a:Addr}{o:HO}(I:Inv X pins σ H s)(hf:∀b∈fp,cm X pins H b)(k:∀b u,b∉fp->s.heap.get? b=ae u->h'.get? b=ae u)
  (ha:s.heap.objs.size<=a) (new:ObjOk X.prog X.w (upd H a o) h' a o):Inv X pins σ (upd H a o) {s with heap:=h',toks:=t'}:=by
 have hn:H a=af:=I.hok.fresh ha;have nf:∀b u,H b=ae u->b∉fp:=λb u e z=>by rw[(hf b z).1]at e;cases e
 refine I.call' (s':={ s with heap:=h',toks:=t'}) (ch:=fp) rfl ⟨λb u q _ _ z=>k b u z q,λb u q _ _ z=>⟨u.slots,k b u z q⟩,λb u q n _=>?_,λb u q z=>⟨u,k b u z q⟩,λb xs q=>?_,λb u xs q=>?_,λb ps q=>⟨#[],?_⟩⟩ (λb u e=>?_) I.bare (λb hb=>?_)
 ·rw[aX (Be (Bj (An q) ha))];exact n
 ·rw[aX (b7 q hn)];exact q
 ·rw[aX (b7 q hn)];exact q
 ·rw[aX (b7 q hn),q];simp
 ·by_cases z:b=a
  ·subst z;rw[bI]at e;cases e;exact new
  ·rw[aX z]at e;refine(I.hok b u e).stay (λc v hc q=>k c v ?_ q) (λc q=>?_) λc ys q=>?_
   ·rcases hc with z|z
    ·rw[z];exact nf b u e
    ·exact nf c _ z
   ·rw[aX (b7 q hn)];exact q
   ·rw[aX (b7 q hn)];exact q
 ·obtain⟨f0,f1,f2,f3,f4,f5⟩:=hf b hb;exact⟨f3,f1,f4,f5⟩
theorem Inv.many0{X:Cx}{pins:List (Addr×Obj)}{σ:St}{H:Hp}{s:Ai}{h':Heap}{t':Nat}{fp:List Addr}(I:Inv X pins σ H s)(hf:∀b∈fp,cm X pins H b)(k:∀b u,b∉fp->s.heap.get? b=ae u->h'.get? b=ae u):Inv X pins σ H {s with heap:=h',toks:=t'}:=by
 have nf:∀b u,H b=ae u->b∉fp:=λb u e z=>by rw[(hf b z).1]at e;cases e
 refine I.call' (s':={ s with heap:=h',toks:=t'}) (ch:=fp) rfl ⟨λb u q _ _ z=>k b u z q,λb u q _ _ z=>⟨u.slots,k b u z q⟩,λb u q n _=>n,λb u q z=>⟨u,k b u z q⟩,λb xs q=>q,λb u xs q=>q,λb ps q=>⟨#[],by rw[q];simp⟩⟩ (λb u e=>?_) I.bare (λb hb=>?_)
 ·refine(I.hok b u e).stay (λc v hc q=>k c v ?_ q) (λc q=>q) λc ys q=>q;rcases hc with z|z
  ·rw[z];exact nf b u e
  ·exact nf c _ z
 ·obtain⟨f0,f1,f2,f3,f4,f5⟩:=hf b hb;exact⟨f3,f1,f4,f5⟩
theorem Nq{P:Bn}{w:By}{K:Aj}{elts:List Expr}{kk:Nat}{pos:Pos}{a b z TI TO i1 i2:Addr}(D:ZipApart z TI TO i1 i2 a b):Turn P w K (.Tuple elts kk pos) (xk K a b) [z,TI,TO,i1,i2] z
  (λi h=>IsZip h z TI TO .none/\Eu h TI (.ref i1) (.ref i2)/\(∃x y,Eu h TO x y)/\h.IsTupleIter i1 a i/\h.IsTupleIter i2 b i) where
 mem:=by simp
 obj:=λi h st c hc=>by
  obtain⟨hz,hI,⟨x,y,hO⟩,⟨o1,e1,c1,d1⟩,⟨o2,e2,c2,d2⟩⟩:=st;simp only[Al,A3,or_false]at hc;rcases hc with rfl|rfl|rfl|rfl|rfl
  ·exact⟨_,hz,λv q=>by have q':Data.fields _=Data.cell v:=q;cases q'⟩
  ·exact⟨_,hI,λv q=>by have q':Data.seq _ _=Data.cell v:=q;cases q'⟩
  ·exact⟨_,hO,λv q=>by have q':Data.seq _ _=Data.cell v:=q;cases q'⟩
  ·exact⟨o1,e1,λv q=>by rw[d1]at q;cases q⟩
  ·exact⟨o2,e2,λv q=>by rw[d2]at q;cases q⟩
 keep:=λi h h' st k=>by
  obtain⟨hz,hI,⟨x,y,hO⟩,h1,h2⟩:=st;exact⟨k z (by simp) _ hz,k TI (by simp) _ hI,⟨x,y,k TO (by simp) _ hO⟩,h1.at λo e=>k i1 (by simp) o e,h2.at λo e=>k i2 (by simp) o e⟩
 item:=by
  intro X hP hw hK hc i pins s σ H E I hf st hg;subst hP hw hK;obtain⟨hz,hI,⟨x0,y0,hO⟩,h1,h2⟩:=st;obtain⟨xs,ys,x,y,qa,qb,ex,ey⟩:=hg;obtain⟨its,rv,p,_⟩:=I.tuple qa;obtain⟨jts,rw',p',_⟩:=I.tuple qb;obtain⟨u,hu,ru⟩:=rv.get ex;obtain⟨u',hu',ru'⟩:=rw'.get ey;refine xU D hz hI hO h1 h2 (show s.heap.IsTuple a its.toArray from p) (show s.heap.IsTuple b jts.toArray from p') (x:=u) (y:=u') (by simpa using hu) (by simpa using hu') λh' a1 a2 a3 a4 a5 a6 a7=>⟨_,rfl,?_⟩;refine wpAny_letOwnedTupleGo_zip (s:={ s with heap:=h'}) a1 λh'' b1 b2=>?_;have T:h''.get? s.heap.objs.size=ae {cls:=.type "tuple",data:=.seq #[u,u']}:=b2.extBut _ _ (Ee (An hz)) a5;have Tn:H s.heap.objs.size=af:=I.hok.fresh (Aq _);have kp:∀c o,c∉[z,TI,TO,i1,i2]->s.heap.get? c=ae o->h''.get? c=ae o:=λc o hc e=>by
   simp only[Al,A3,or_false,not_or]at hc;exact b2.extBut _ _ hc.1 (a7 c o hc.1 hc.2.2.1 hc.2.2.2.1 hc.2.2.2.2 e)
  refine⟨.ref s.heap.objs.size,upd H s.heap.objs.size (.tup [x,y]),I.many (t':=s.toks) hf kp (Aq _) ⟨by show 2<=A2;decide,[u,u'],.cons ru (.cons ru' .nil),_,T,rfl,⟨_,rfl⟩,rfl⟩,rfl,⟨_,x,y,rfl,Tn,rfl,λzs q=>by rw[I.tuple_inj q qa];exact ex,λzs q=>by rw[I.tuple_inj q qb];exact ey⟩,
   ⟨b1,b2.extBut _ _ D.TIz (a7 _ _ D.TIz D.TITO D.TIi1 D.TIi2 hI),⟨_,_,b2.extBut _ _ D.TOz a2⟩,a3.extBut b2.extBut D.i1z,a4.extBut b2.extBut D.i2z⟩,λc hc=>?_⟩
  have hlt:c < s.heap.objs.size:=by
   simp only[Al,A3,or_false]at hc;rcases hc with rfl|rfl|rfl|rfl|rfl
   ·exact An hz
   ·exact An hI
   ·exact An hO
   ·obtain⟨_,e,_⟩:=h1;exact An e
   ·obtain⟨_,e,_⟩:=h2;exact An e
  rw[aX (Be hlt)];exact(hf c hc).1
 done:=by
  intro X hP hw hK hc i pins s σ H E I hf st hg;subst hP hw hK;obtain⟨hz,hI,_,h1,h2⟩:=st;obtain⟨xs,hq,hx⟩:=hg;obtain⟨its,rv,p,_⟩:=I.tuple hq;have hl:=rv.length;refine xE (I.ok.hd hc) D hz hI h1 (show s.heap.IsTuple a its.toArray from p) (by simp;omega) λh' k=>⟨rfl,I.many0 (t':=s.toks) hf λc o hc e=>?_⟩;simp only[Al,A3,or_false,not_or]at hc;exact k c o hc.1 hc.2.2.2.1 e
 self:=λ_ _ _ _ _ st h=>wpAny_pyIter_zip st.1 h
def mB(K:Aj)(ta:TA):TI:=λσ H R=>ta σ H λvs H1=>∃a b,vs=[.ref a,.ref b]/\(∃xs,SqT K H1 a xs)/\(∃ys,SqT K H1 b ys)/\R (xk K a b) H1
theorem vh:Bx "zip"=ae (.type "zip"):=by decide +kernel
theorem Ku{X:Cx}{elts:List Expr}{kk:Nat}{tpos:Pos}{e1 e2:Expr}{ta:TA}{p pos:Pos}(hg:Gl X "zip")(hm:X.mg "zip"=af)(ha:PA X [e1,e2] ta)(hs:Aw [e1,e2] X.env=[(ai,eval e1 X.env),(ai,eval e2 X.env)]:=by rfl)(hs2:Aw [e2] X.env=[(ai,eval e2 X.env)]:=by rfl):
  PI X (.Tuple elts kk tpos) (.Call (.Name "zip" p) [e1,e2] [] pos) (mB X.K ta):=by
 intro pins s σ H R I h;refine Call_ (jB I hg hm vh (Fi (aT (ha pos pins s σ H _ I h) λus s1 ⟨vs,H1,I1,r1,q1⟩=>?_) (by rw[hs,hs2]) (by rw[hs2];rfl)));obtain⟨a,b,e,⟨xs,qa⟩,⟨ys,qb⟩,q⟩:=q1;subst e;cases r1 with
 |cons r rr=>
  cases rr with
  |cons r' rr=>
   cases rr;cases r;cases r';obtain⟨its,rv,pp,_⟩:=I1.tuple qa;obtain⟨jts,rw',pp',_⟩:=I1.tuple qb;have la:a < s1.heap.objs.size:=by obtain⟨_,e,_⟩:=id pp;exact An e
   have lb:b < s1.heap.objs.size:=by obtain⟨_,e,_⟩:=id pp';exact An e
   refine tZ (show s1.heap.IsTuple a its.toArray from pp) (show s1.heap.IsTuple b jts.toArray from pp') λh' a1 a2 a3 a4 a5 a6=>wpAny_pyIter_zip (s:={ s1 with heap:=h'}) a1 ?_;refine⟨_,_,_,_,H1,rfl,I1.kept (t':=s1.toks) a6,Nq (zipApart_new la lb),⟨a1,a2,⟨_,_,a3⟩,a4,a5⟩,λc hc=>?_,q⟩;have hlt:s1.heap.objs.size<=c:=by
    simp only[Al,A3,or_false]at hc;rcases hc with rfl|rfl|rfl|rfl|rfl<;>omega
   exact I1.fpOk hlt (I1.hok.fresh hlt)
end L2
namespace DL
open PySem L2 Nb
def rR(kvs:List (bA×Ab))(k:bA):Option Ab:=(kvs.find? λkv=>decide (kv.1=k)).map (·.2)
section
variable{X:Cx}{a b c e o i f:Expr}{ta tb te td ty tx:TE}{wa wb we wd' wy wx:DT}{pos p:Pos}{K:Aj}
def JT(wd wy wx:DT):DT:=λδ n Q=>wd δ n λx n1=>match x with
 |.dk kvs=>wy δ n1 λy n2=>wx δ n2 λz n3=>match y,z with
  |.d (.str k),.d z=>Q (.d ((rR kvs (.inr k)).getD z)) n3
  |_,_=>False
 |_=>False
end
section
variable{X:Cx}{a b c e o i f:Expr}{ta tb te td ty tx:TE}{wa wb we wd' wy wx:DT}{pos p:Pos}{K:Aj}
def FX(ps:List (Str×Ab)):List (bA×Ab):=ps.map λp=>(Sum.inr p.1,p.2)
theorem sf{H:Hp}{B:Addr->Prop}:∀{ys:List Str},(∀y∈ys,y.length<=1000)->RdXs H B (ys.map V.str) (ys.map .str)
 |[],_=>.nil
 |y::r,h=>.cons (.str _ (gS (h y Am))) (sf λz hz=>h z (Ar _ hz))
def je:List Wv->Int->DQ->Prop:=λxs n Q=>match xs with
 |[.d (.int i)]=>Q (.d (.int i)) n
 |[.d (.bool b)]=>Q (.d (.int (if b then 1 else 0))) n
 |_=>False
def t9:List V->Hp->VK->Prop:=λxs H Q=>(∃i,xs=[.int i]/\Q (.int i) H)\/∃k,xs=[.bl k]/\Q (.int (if k then 1 else 0)) H
theorem Jb:CallR X (.type "int") t9:=HU
theorem Pc:cK t9 je:=λC H B σ δ n vs xs Q Q' R r h k=>by
 unfold je at h
 split at h
 ·rename_i i;cases r with
  |cons r1 r2=>
   cases r2;cases(show RdX H B _ (.int i)from r1);exact .inl ⟨i,rfl,k _ _ H n R (Kp.refl _ _) (wd (.int _)) h⟩
 ·rename_i i;cases r with
  |cons r1 r2=>
   cases r2;cases(show RdX H B _ (.bool i)from r1);exact .inr ⟨i,rfl,k _ _ H n R (Kp.refl _ _) (wd (.int _)) h⟩
 ·exact h.elim
def cU(xs ys:List Ab):List Ab:=List.zipWith (λx y=>.tuple [x,y]) xs ys
def iP(w w':DT):fw:=λδ n Q=>w δ n λx n1=>w' δ n1 λy n2=>match x,y with
 |.d (.tuple xs),.d (.tuple ys)=>xs.length=ys.length/\Q (cU xs ys) n2
 |_,_=>False
theorem OP{elts:List Expr}{kk:Nat}{tpos:Pos}(hg:Gl X "zip")(hm:X.mg "zip"=af)(ha:DE X a ta wa)(hb:DE X b tb wb)(hK:X.K=K:=by rfl)(hs:Aw [a,b] X.env=[(ai,eval a X.env),(ai,eval b X.env)]:=by rfl)(hs2:Aw [b] X.env=[(ai,eval b X.env)]:=by rfl)
  (he1:Aw [a,b] X.env=(ai,eval a X.env)::Aw [b] X.env:=by rfl) (he2:Aw [b] X.env=(ai,eval b X.env)::Aw [] X.env:=by rfl):
  DI X (.Tuple elts kk tpos) (.Call (.Name "zip" p) [a,b] [] pos) (mB K (c9 ta (c9 tb bF))) (iP wa wb):=by
 subst hK;refine⟨Ku hg hm (bY ha.pe (bY hb.pe dz he2) he1) hs hs2,λC H B σ δ n Q Q' R q k=>ha.sd C H B σ δ n _ _ R q λv x H1 n1 R1 k1 r1 q1=>hb.sd C H1 B σ δ n1 _ _ R1 q1 λu y H2 n2 R2 k2 r2 q2=>?_⟩;have r1':=r1.kp k2 R1.bt
 split at q2
 ·rename_i xs ys;cases(show RdX H2 B v (.tuple xs)from r1')with
  |@tup aa vs _ e1 e2 e3 e4=>
   cases(show RdX H2 B u (.tuple ys)from r2)with
   |@tup ab ws _ f1 f2 f3 f4=>
    refine⟨aa,ab,rfl,⟨vs,SqT.of e1⟩,⟨ws,SqT.of f1⟩,k _ (cU xs ys) H2 n2 R2 (k1.trans k2) (λfz th=>?_) q2.2⟩;have za:fz aa=ae (.tup vs):=th.2 _ _ e1 e2;have zb:fz ab=ae (.tup ws):=th.2 _ _ f1 f2;have lz:(cU xs ys).length=xs.length:=by unfold cU;rw[List.length_zipWith,q2.1,Nat.min_self]
    refine⟨by rw[lz,<-e4.len];exact e3,λi H hH hi=>?_,λH hH=>?_,λi H x H' d hH hd hy=>?_⟩
    ·rw[lz]at hi;have h1:i < vs.length:=by rw[e4.len];exact hi
     have h2:i < ws.length:=by rw[f4.len,<-q2.1];exact hi
     exact⟨vs,ws,vs[i],ws[i],SqT.of (hH _ _ za),SqT.of (hH _ _ zb),Ah h1,Ah h2⟩
    ·exact⟨vs,SqT.of (hH _ _ za),by rw[lz,e4.len];exact Aq _⟩
    ·obtain⟨T,x1,y1,rfl,hT,rfl,hx,hy⟩:=hy;refine⟨λb o e=>by rw[aX (b7 e hT)];exact e,λB' hB hBa=>?_⟩;have hi:i < xs.length:=by rw[<-lz];exact(Bo.mp hd).1
     have hi2:i < ys.length:=by rw[<-q2.1];exact hi
     have ed:d=.tuple [xs[i],ys[i]]:=by
      unfold cU at hd;rw[List.getElem?_zipWith,Ah hi,Ah hi2]at hd;exact(Bi hd).symm
     subst ed;obtain⟨u1,hu1,ru1⟩:=e4.getD (Ah hi);obtain⟨u2,hu2,ru2⟩:=f4.getD (Ah hi2);have t1:=hx _ (SqT.of (hH _ _ za));have t2:=hy _ (SqT.of (hH _ _ zb));rw[hu1]at t1;rw[hu2]at t2;cases t1;cases t2;have mv:∀b o,H2 b=ae o->¬B b->upd H T (.tup [x1,y1]) b=ae o/\¬B' b:=λb o e ne=>by
      have:=hH _ _ (th.2 _ _ e ne);exact⟨by rw[aX (b7 this hT)];exact this,hB _ _ (th.2 _ _ e ne)⟩
     exact .tup bI (λz=>hBa T z hT) (by show 2<=A2;decide) (.cons (ru1.move mv) (.cons (ru2.move mv) .nil))
 ·exact q2.elim
end
end DL
namespace L2
open PySem PySem.Spec PyProof.Rows PySem.SeqAt
def LtAt(A:Bt)(s:Ai)(x y:Ag)(b:Bool):Prop:=∀(prog:Bn)(w:By)(E:Ag->Ai->Prop)(Q:Ag->Ai->Prop),Q (.bool b) s->Av (A7 prog w) A (richCompare .Lt x y) Q E s
inductive LexAt(A:Bt)(s:Ai)(fin:Bool):List (Ag×Ag)->Bool->Prop
 |nil:LexAt A s fin [] fin
 |same {x y:Ag} {r:List (Ag×Ag)} {b:Bool}:EqAt A s x y ah->LexAt A s fin r b->LexAt A s fin ((x,y)::r) b
 |parts {x y:Ag} {r:List (Ag×Ag)} {b:Bool}:EqAt A s x y ai->LtAt A s x y b->LexAt A s fin ((x,y)::r) b
theorem Ir(l b:Addr)(xs ys:Array Ag)(n n2:Nat)(dd dd2:Option Addr)(sl sl2:Array (Option Ag))(k:Bool):
  Meets (D8.«tuple.__lt__» ⟨[.ref l,.ref b],[]⟩)
   (λA R s=>s.heap.get? l=ae {cls:=.type "tuple",dict:=dd,data:=.seq xs n,slots:=sl}/\s.heap.get? b=ae {cls:=.type "tuple",dict:=dd2,data:=.seq ys n2,slots:=sl2} /\
    LexAt A.in1 s (decide (xs.size < ys.size)) (xs.toList.zip ys.toList) k/\R (.ok (.ret (.bool k))) s):=
 .of_wp λprog w A R s h=>by
  obtain⟨hp,g,d,tk,os⟩:=s;obtain⟨hl,hb,he,h⟩:=h;have f2:=AutoSeq1.sub_tuple_tuple
  wp_walk using wpAny_loadPart' hl,wpAny_loadPart' hb,Hb _ (λrest b s'=>b.1=af/\s'=⟨hp,g,d,tk,os⟩/\LexAt A.in1 ⟨hp,g,d,tk,os⟩ (decide (xs.size < ys.size)) rest k) _
  case turn=>
   rintro⟨x,y⟩ rest b s' ⟨_,rfl,hm⟩
   cases hm with
   |same e1 hm'=>
    refine Aa (e1 prog w _ _ ?_)
    wp_walk
    exact⟨rfl,rfl,hm'⟩
   |parts e1 e3=>
    refine Aa (e1 prog w _ _ ?_);show Av _ _ (rule _>>=λ_=>_) _ _ _;refine Aa (Fw ?_);refine Aa (e3 prog w _ _ ?_)
    wp_walk
    exact⟨_,rfl,h⟩
  case fin=>
   rintro⟨b1,b2⟩ s' ⟨hb',rfl,hm⟩
   simp only at hb';subst hb';cases hm
   wp_walk
   exact⟨_,rfl,by simpa[Builtin.Tuple.tupleCompareSizes]using h⟩
  case h=>
   exact⟨rfl,rfl,he⟩
section
variable{A:Bt}{s:Ai}
theorem LtAt.tuples{l b:Addr}{xs ys:Array Ag}{k:Bool}(hl:s.heap.IsTuple l xs)(hb:s.heap.IsTuple b ys)(hu:A.units < Fo)
  (he:LexAt A.in1 s (decide (xs.size < ys.size)) (xs.toList.zip ys.toList) k):LtAt A s (.ref l) (.ref b) k:=λprog w E Q h=>by
 obtain⟨⟨cls,dd,data,sl⟩,ho,hc,n,hd⟩:=id hl;obtain⟨⟨cls2,dd2,data2,sl2⟩,ho2,hc2,n2,hd2⟩:=id hb;simp only at hc hd hc2 hd2;subst hc hd hc2 hd2;exact richCompare_meets_room (op:=.Lt) ⟨_,ho,rfl⟩ ⟨_,ho2,rfl⟩ F.slot_tuple_lt F.entry_tuple_lt (F.args_tuple_lt_2 _ _) (Ir l b xs ys n n2 dd dd2 sl sl2 k)
  ⟨ho,ho2,he,show Value.bool _≠Value.notImplemented/\Q (.bool _) s from⟨(λx=>nomatch x),h⟩⟩ hu
theorem LtAt.int(i j:Int)(t u:Tok):LtAt A s (.int i t) (.int j u) (decide (i < j)):=λ_ _ _ _ h=>P.lt_int h
theorem LtAt.str(x y:Str)(t u:Tok):LtAt A s (.str x t) (.str y u) (decide (x.cps.toList < y.cps.toList)):=λ_ _ _ _ h=>P.lt_str h
end
mutual
def d0:Ab->Ab->Option Bool
 |.int i,.int j=>ae (decide (i < j))
 |.str x,.str y=>ae (decide (x.cps.toList < y.cps.toList))
 |.tuple xs,.tuple ys=>fj xs ys
 |_,_=>af
def fj:List Ab->List Ab->Option Bool
 |[],[]=>ae ai
 |[],_::_=>ae ah
 |_::_,[]=>ae ai
 |x::xs,y::ys=>if Bw x y=ah then fj xs ys else d0 x y
end
mutual
theorem wO:∀(d e:Ab)(A:Bt)(s:Ai)(a b:Ag)(as bs:List Addr)(k:Bool),Gj s.heap a d as->Gj s.heap b e bs->d.canLay0=ah->e.canLay0=ah->A.units+d.depth+e.depth < Fo->d0 d e=ae k->LtAt A s a b k
 |.int i,e,A,s,_,_,_,_,k,ra,rb,_,_,_,h=>by
  cases e<;>first|(simp[d0]at h;done)|skip
  cases ra;cases rb;simp only[d0,Option.some.injEq]at h;subst h;exact LtAt.int _ _ _ _
 |.str x,e,A,s,_,_,_,_,k,ra,rb,_,_,_,h=>by
  cases e<;>first|(simp[d0]at h;done)|skip
  cases ra;cases rb;simp only[d0,Option.some.injEq]at h;subst h;exact LtAt.str _ _ _ _
 |.tuple xs,e,A,s,_,_,_,_,k,ra,rb,ca,cb,hu,h=>by
  cases e<;>first|(simp[d0]at h;done)|skip
  rename_i ys;cases ra with
  |tuple h1 h2 h3 h4=>
   cases rb with
   |tuple g1 g2 g3 g4=>
    rename_i o1 vs n1 a2 o2 ws n2;simp only[d0]at h;rw[Bm]at ca cb;rw[Ce,Ce]at hu;refine LtAt.tuples (xs:=vs) (ys:=ws) ⟨_,h1,h2,_,h3⟩ ⟨_,g1,g2,_,g3⟩ ⋯ ?_;have hsz:decide (vs.size < ws.size)=decide (xs.length < ys.length):=by
     have e1:=F6 _ _ _ h4;have e2:=F6 _ _ _ g4;rw[Az]at e1 e2;rw[e1,e2]
    rw[hsz];exact nQ xs ys A.in1 s _ _ _ _ k _ h4 g4 ca cb (by show A.units+1+_+_ < _;omega) h 0 (by simp)
 |.none,e,_,_,_,_,_,_,_,_,_,_,_,_,h=>by cases e<;>(simp[d0]at h)
 |.bool _,e,_,_,_,_,_,_,_,_,_,_,_,_,h=>by cases e<;>(simp[d0]at h)
 |.list _,e,_,_,_,_,_,_,_,_,_,_,_,_,h=>by cases e<;>(simp[d0]at h)
 |.dict _,e,_,_,_,_,_,_,_,_,_,_,_,_,h=>by cases e<;>(simp[d0]at h)
theorem nQ:∀(xs ys:List Ab)(A:Bt)(s:Ai)(vs ws:List Ag)(as bs:List Addr)(k fin:Bool),G9 s.heap vs xs as->G9 s.heap ws ys bs->Cb xs=ah->Cb ys=ah->A.units+Cj xs+Cj ys < Fo->fj xs ys=ae k->
  ∀m:Nat,fin=decide (m+xs.length < m+ys.length)->LexAt A s fin (vs.zip ws) k
 |[],ys,A,s,_,_,_,_,k,fin,ra,rb,_,_,_,h,m,hf=>by
  cases ra;rw[List.zip_nil_left];cases ys with
  |nil=>rw[fj]at h;cases h;rw[show fin=ai by rw[hf];simp];exact .nil
  |cons y ys=>rw[fj]at h;cases h;rw[show fin=ah by rw[hf];simp];exact .nil
 |x::xs,[],A,s,_,_,_,_,k,fin,ra,rb,_,_,_,h,m,hf=>by
  cases rb;rw[List.zip_nil_right];rw[fj]at h;cases h;rw[show fin=ai by rw[hf];simp];exact .nil
 |x::xs,y::ys,A,s,_,_,_,_,k,fin,ra,rb,ca,cb,hu,h,m,hf=>by
  cases ra with
  |cons r1 r2=>
   cases rb with
   |cons t1 t2=>
    rw[Cb,Ay]at ca cb;rw[Cj,Cj]at hu;rw[Gr];have he:=eqAt_reads x y A s _ _ _ _ r1 t1 ca.1 cb.1 ⋯;rw[fj]at h;cases q:Bw x y with
    |true=>
     rw[q]at he;rw[if_pos q]at h;exact .same he (nQ xs ys A s _ _ _ _ k fin r2 t2 ca.2 cb.2 ⋯ h m (by rw[hf,Ax,Ax];simp))
    |false=>
     rw[q]at he;rw[if_neg (by rw[q];exact Au)]at h;exact .parts he (wO x y A s _ _ _ _ k r1 t1 ca.1 cb.1 ⋯ h)
end
end L2
namespace DL
open PySem L2 Nb
section
variable{X:Cx}{K:Aj}
def rE(K:Aj)(f:Ab->Ab->Option Bool):R2:=λx y H Q=>∃d e b,RdD K H x d/\RdD K H y e/\d.canLay0=ah/\e.canLay0=ah/\d.depth<=20/\e.depth<=20/\f d e=ae b/\Q (.bl b) H
theorem AR(hu:X.A.units+64 < Fo)(hK:X.K=K:=by rfl):OpR X (B4 .Eq) (rE K λd e=>ae (Bw d e)):=by
 subst hK;intro pins s σ H x y v u Q I rx ry h;obtain⟨d,e,b,h1,h2,h3,h4,h5,h6,h7,q⟩:=h;cases h7;obtain⟨as,r1⟩:=RdD.reads I h1 rx;obtain⟨bs,r2⟩:=RdD.reads I h2 ry;exact SeqAt.compareEq_reads r1 r2 h3 h4 ⋯ ⟨.bl _,H,I,rfl,q⟩
theorem N6(hu:X.A.units+64 < Fo)(hK:X.K=K:=by rfl):OpR X (B4 .Lt) (rE K d0):=by
 subst hK;intro pins s σ H x y v u Q I rx ry h;obtain⟨d,e,b,h1,h2,h3,h4,h5,h6,h7,q⟩:=h;obtain⟨as,r1⟩:=RdD.reads I h1 rx;obtain⟨bs,r2⟩:=RdD.reads I h2 ry;exact wO d e X.A s v u as bs b r1 r2 h3 h4 ⋯ h7 X.prog X.w X.xe _ ⟨.bl _,H,I,rfl,q⟩
def jc(f:Ab->Ab->Option Bool):Wv->Wv->Int->DQ->Prop:=λx y n Q=>match x,y with
 |.d d,.d e=>d.canLay0=ah/\e.canLay0=ah/\d.depth<=20/\e.depth<=20/\∃b,f d e=ae b/\Q (.d (.bool b)) n
 |_,_=>False
theorem ud{f:Ab->Ab->Option Bool}:bj (rE K f) (jc f):=λC H B σ δ n x y p q Q Q' R rx ry h1 k=>by
 unfold jc at h1
 split at h1
 ·rename_i d e;obtain⟨a1,a2,a3,a4,b,a5,a6⟩:=h1;exact⟨d,e,b,RdX.rd rx,RdX.rd ry,a1,a2,a3,a4,a5,k _ _ H n R (Kp.refl _ _) (wd (.bl b)) a6⟩
 ·exact h1.elim
end
end DL
namespace L2
open PySem PySem.Spec PyProof.Rows PySem.W
section
variable{prog:Bn}{w:By}{A:Bt}{E:Ag->Ai->Prop}{s:Ai}
theorem K1{src:Source}{n:Nat}{Q:Nat->Ai->Prop}(hn:n≠0)(h:∀i dr,i < n->Q i {s with drawn:=dr}):Av (A7 prog w) A (choose src n) Q E s:=
 λ_ _ _=>⟨hn,h _ _ (Nat.mod_lt _ (Nat.pos_of_ne_zero hn))⟩
theorem qN{α:Type}:∀(l:List α)(i:Nat)(h:i < l.length),(l[i]::l.eraseIdx i).Perm l
 |x::r,0,_=>List.Perm.refl _
 |x::r,i+1,h=>(List.Perm.swap x (r[i]'(Nat.lt_of_succ_lt_succ h)) (r.eraseIdx i)).trans ((qN r i (Nat.lt_of_succ_lt_succ h)).cons x)
theorem sV{α:Type}:∀(n:Nat)(xs:List α)(s:Ai){Q:List α->Ai->Prop},xs.length=n->(∀ys dr,ys.Perm xs->Q ys {s with drawn:=dr})->Av (A7 prog w) A (drawOrder n xs) Q E s
 |0,xs,s,Q,hl,h=>by
  cases Fl hl;exact Af (h [] s.drawn (List.Perm.refl _))
 |n+1,[],s,Q,hl,h=>by cases hl
 |n+1,x::r,s,Q,hl,h=>by
  unfold drawOrder;refine Aa (K1 (by simp) λi dr hi=>?_);rw[Ah hi];dsimp only;refine Aa (sV n _ _ (by rw[List.length_eraseIdx_of_lt hi];simp at hl ⊢;omega) λys dr' hp=>Af (h _ dr' ?_));exact(hp.cons _).trans (qN _ _ hi)
theorem t8{α:Type}(next:Nat->Nat):∀(fuel k:Nat)(left:List α)(out:Array α),left.length=fuel->(pickOrder.go next fuel k left out).toList.Perm (out.toList++left)
 |0,k,left,out,hl=>by
  cases Fl hl;simp[pickOrder.go]
 |fuel+1,k,left,out,hl=>by
  have hi:next k % left.length < left.length:=Nat.mod_lt _ ⋯
  unfold pickOrder.go;rw[Ah hi];dsimp only;refine(t8 next fuel (k+1) _ _ (by rw[List.length_eraseIdx_of_lt hi];omega)).trans ?_;rw[Array.toList_push,Bu];exact List.Perm.append_left _ (qN _ _ hi)
theorem DB{α:Type}(next:Nat->Nat)(xs:Array α):(pickOrder next xs).toList.Perm xs.toList:=by
 have:=t8 next xs.size 0 xs.toList #[] (by simp)
 simpa[pickOrder]using this
def b8(w:By):Bool:=w.params.followText "set-order"
theorem nB{Q:Bool->Ai->Prop}(h:Q (b8 w) s):Av (A7 prog w) A setsByText Q E s:=by
 unfold setsByText;exact Aa (wpAny_askSetting (Af h))
structure SetTb(w:By)(h:Heap)(a:Addr)(es:Array (Int×Ag))(ep:Nat)(t:Cz):Prop where
 obj:∃o,h.get? a=ae o/\o.ExactSet/\o.data=.set es ep t
 fits:t.fits es.size=ah
 led:t.led=!b8 w
 plain:t.plain=ah->es.size=0
theorem SetTb.move{h h':Heap}{a:Addr}{es:Array (Int×Ag)}{ep:Nat}{t:Cz}(x:SetTb w h a es ep t)(k:∀o,h.get? a=ae o->h'.get? a=ae o):SetTb w h' a es ep t:=
 ⟨let⟨o,e,r⟩:=x.obj;⟨o,k o e,r⟩,x.fits,x.led,x.plain⟩
theorem SetTb.typeIs{a:Addr}{es:Array (Int×Ag)}{ep:Nat}{t:Cz}(x:SetTb w s.heap a es ep t):s.TypeIs (.ref a) "set":=let⟨o,e,r,_⟩:=x.obj;⟨o,e,r.1⟩
theorem SetTb.lt{h:Heap}{a:Addr}{es:Array (Int×Ag)}{ep:Nat}{t:Cz}(x:SetTb w h a es ep t):a < h.objs.size:=let⟨_,e,_⟩:=x.obj;An e
theorem MJ(t:Cz)(n:Nat):(t.orStandIn n).led=t.led:=by
 unfold SetTable.orStandIn
 split<;>rfl
theorem NI(t:Cz)(es:Array (Int×Ag))(h:Int)(x:Ag):(layNew t es h x).2.1.led=t.led:=by
 unfold layNew
 split
 ·exact MJ _ _
 ·rfl
theorem N3{t t':Cz}{hs:Array Int}{n:Nat}{ord:Array Nat}(h:t.relaid hs n=ae (t',ord)):t'.led=t.led/\t'.plain=t.plain:=by
 unfold SetTable.relaid SetTable.laid at h;cases hc:SetTable.layClean (SetTable.sizeAbove n-1) hs with
 |none=>rw[hc]at h;cases h
 |some ow=>
  rw[hc]at h;cases h;exact⟨rfl,rfl⟩
theorem xR(t:Cz)(es:Array (Int×Ag))(n:Nat):(relayAll t es n).2.1.led=t.led/\((relayAll t es n).2.1.plain=ah->t.plain=ah):=by
 unfold relayAll
 split
 ·rename_i t' ord he;obtain⟨h1,h2⟩:=N3 he;dsimp only
  split
  ·exact⟨h1,λz=>h2▸z⟩
  ·exact⟨rfl,λz=>by simp[SetTable.standIn]at z⟩
 ·exact⟨rfl,λz=>by simp[SetTable.standIn]at z⟩
def eO(v:Ag):Str:=match v with
 |.str k _=>k
 |_=>⟨#[]⟩
def bO(es:Array (Int×Ag)):List Str:=es.toList.map λe=>eO e.2
def TxEs(w:By)(es:Array (Int×Ag)):Prop:=∀e∈es.toList,∃k t,e.2=.str k t/\e.1=hashStr w k
theorem TxEs.elems{es:Array (Int×Ag)}(h:TxEs w es):ElemsOf (Ep prog w) es.toList:=λe he=>by
 obtain⟨k,t,e1,e2⟩:=h e he;refine⟨⟨k,?_,e2⟩,by rw[e1];rfl⟩;rw[e1];simp[Ep,Value.isStrOf]
def gA(w:By)(h:Heap)(a:Addr)(seen:List Str):Prop:=∃es ep t,SetTb w h a es ep t/\TxEs w es/\(bO es).Nodup/\(∀k,k∈bO es↔k∈seen)/\es.size<=seen.length
end
theorem oq:entryFor table "set.update.loop"=ae D8.«set.update.loop»:=Hd (by kernel_rfl)
theorem jU:plainId "set.update.loop"=ah:=by decide +kernel
section
variable{prog:Bn}{w:By}{A:Bt}{E:Ag->Ai->Prop}{s:Ai}
theorem BG{es es':Array (Int×Ag)}{seen:List Str}{k:Str}{tk:Tok}(hx:TxEs w es)(nd:(bO es).Nodup)(hm:∀k,k∈bO es↔k∈seen)(hl:es.size<=seen.length)(hk:k∉bO es)
  (p:es'.toList.Perm (es.toList++[(hashStr w k,.str k tk)])):TxEs w es'/\(bO es').Nodup/\(∀k',k'∈bO es'↔k'∈seen++[k])/\es'.size<=(seen++[k]).length/\es'.size=es.size+1:=by
 have pk:(bO es').Perm (bO es++[k]):=by
  have:=p.map λe=>eO e.2;rw[Cy]at this;exact this
 have hz:es'.size=es.size+1:=by
  have:=p.length_eq;simpa using this
 refine⟨λe he=>?_,pk.nodup_iff.mpr ?_,λk'=>?_,by rw[hz,Ao];exact Nat.succ_le_succ hl,hz⟩
 ·rcases A6.mp (p.mem_iff.mp he)with h|h
  ·exact hx e h
  ·rw[A8]at h;subst h;exact⟨k,tk,rfl,rfl⟩
 ·rw[List.nodup_append];exact⟨nd,Ei _ _,λa ha b hb e=>hk (by rw[A8]at hb;rw[<-hb,<-e];exact ha)⟩
 ·rw[pk.mem_iff,A6,A6,hm k']
theorem xW{es es':Array (Int×Ag)}(hx:TxEs w es)(nd:(bO es).Nodup)(p:es'.toList.Perm es.toList):TxEs w es'/\(bO es').Nodup/\(∀k',k'∈bO es'↔k'∈bO es)/\es'.size=es.size:=by
 have pk:(bO es').Perm (bO es):=List.Perm.map (λe:Int×Ag=>eO e.2) p;exact⟨λe he=>hx e (p.mem_iff.mp he),pk.nodup_iff.mpr nd,λk'=>pk.mem_iff,by have:=p.length_eq;simpa using this⟩
theorem HV{a:Addr}{k:Str}{tk:Tok}{seen:List Str}{Q:Bool->Ai->Prop}(hS:gA w s.heap a seen)(hb:seen.length < 1000)
  (h:∀b h',Dh a s.heap h'->gA w h' a (seen++[k])->Q b {s with heap:=h'}):Av (A7 prog w) A (setAddHashed a (.str k tk) (hashStr w k)) Q E s:=by
 obtain⟨es,ep,t,T,hx,nd,hm,hl⟩:=hS;obtain⟨o,ho,hex,hd⟩:=T.obj;have hel:ElemsOf (Ep prog w) es.toList:=hx.elems;have hsz:es.size < scanBound:=by unfold scanBound;omega
 have hkey:(Ep prog w).is k (.str k tk)=ah:=by simp[Ep,Value.isStrOf]
 unfold setAddHashed setAddHashedIn;refine Cg (Aa (Dk ho hd T.fits ?_));dsimp only;rw[byScan_of (knd:=Ep prog w) (x:=.str k tk) rfl hsz hel];simp only[↓reduceIte];unfold setAddByScan;refine Aa (Aa (Fw (Aa (wpAny_setScan_of (knd:=Ep prog w) (k:=k) hkey ho hd T.fits hel ?_))));cases hr:es.toList.findIdx? (λe=>(Ep prog w).is k e.2)with
 |some j=>
  dsimp only;obtain⟨hj,hpj,_⟩:=List.findIdx?_eq_some_iff_getElem.mp hr;have hk:k∈bO es:=by
   obtain⟨u,hu⟩:=Value.isStrOf_shape hpj;exact Bk.mpr ⟨es.toList[j],Ed hj,by rw[hu];rfl⟩
  refine Af (Af (h _ s.heap (Heap.SameBut.refl a s.heap) ⟨es,ep,t,T,hx,nd,λk'=>?_,by rw[Ao];omega⟩));rw[hm k',A6,A8];exact⟨.inl,λz=>z.elim id λe=>e▸(hm k).mp hk⟩
 |none=>
  dsimp only;have hk:k∉bO es:=λz=>by
   obtain⟨e,he,e2⟩:=Bk.mp z;obtain⟨k',t',e3,_⟩:=hx e he;have q:=List.findIdx?_eq_none_iff.mp hr e he;rw[e3]at e2 q;have e2:k'=k:=e2;subst e2;simp[Ep,Value.isStrOf]at q
  have hgw:∀(b:Bool){s₁:Ai}{Q':Unit->Ai->Prop},Q' () s₁->Av (A7 prog w) A (match b with|true=>rule "set.scan.the-table-gave-way"|false=>pure ()) Q' E s₁:=
   λb s₁ Q' hq=>by cases b with
    |true=>exact Fw hq
    |false=>exact Af hq
  have hp:=layNew_perm t es (hashStr w k) (.str k tk);have hf:=layNew_fits t es (hashStr w k) (.str k tk);have hle:=NI t es (hashStr w k) (.str k tk);have eh:(Ep prog w).hash k=hashStr w k:=rfl
  try rw[eh]
  generalize layNew t es (hashStr w k) (.str k tk)=L at hp hf hle ⊢;obtain⟨es1,t1,wd,gave⟩:=L;dsimp only at hp hf hle ⊢;rw[Array.toList_push]at hp;obtain⟨x1,n1,m1,l1,z1⟩:=BG hx nd hm hl hk hp;refine Aa (hgw _ ?_)
  split
  ·refine Aa ?_;rw[hashByValue_scannable 8 rfl];refine Af ?_;have hpl:({t1 with plain:=ai}:Cz).plain=ai:=rfl;have hft:({t1 with plain:=ai}:Cz).fits es1.size=ah:=SetTable.fits_plain_off hf;have hld:({t1 with plain:=ai}:Cz).led=t.led:=hle;simp only[plainKind,A9,↓reduceIte];generalize({t1 with plain:=ai}:Cz)=t2 at hpl hft hld ⊢;have hb1:es1.size < scanBound:=by unfold scanBound;omega
   refine Aa (F5 ho hd ?_ (fits_of_scanBound hb1));have g1:(s.heap.update a (Dq es1 t2)).get? a=ae {o with data:=.set es1 (ep+1) t2}:=by
    have:=B1 (Dq es1 t2) ho (by rw[G4 es1 t2 hd];rfl);rw[G4 es1 t2 hd]at this;exact this
   have sb1:=Bb s.heap a (Dq es1 t2)
   split
   ·have hp2:=relayAll_perm t2 es1 (Ec es1.size);have hf2:=relayAll_fits t2 es1 (Ec es1.size);obtain⟨hl2,hq2⟩:=xR t2 es1 (Ec es1.size);generalize relayAll t2 es1 (Ec es1.size)=R at hp2 hf2 hl2 hq2 ⊢;obtain⟨es2,t3,gave2⟩:=R;dsimp only at hp2 hf2 hl2 hq2 ⊢;obtain⟨x2,n2,m2,z2⟩:=xW x1 n1 hp2;refine Aa (hgw _ ?_);refine Aa (F5 g1 rfl ?_ (fits_of_scanBound (by rw[z2];exact hb1)));have g2:((s.heap.update a (Dq es1 t2)).update a (Dq es2 t3)).get? a=ae {o with data:=.set es2 (ep+1+1) t3}:=by
     have:=B1 (Dq es2 t3) g1 (by rw[G4 es2 t3 rfl];rfl);rw[G4 es2 t3 rfl]at this;exact this
    refine Af (Af (h _ _ (sb1.trans (Bb _ a _)) ⟨es2,ep+1+1,t3,⟨⟨_,g2,hex,rfl⟩,hf2,by rw[hl2,hld];exact T.led,λz=>?_⟩,x2,n2,λk'=>(m2 k').trans (m1 k'),by rw[z2];exact l1⟩));have:=hq2 z;rw[hpl]at this;cases this
   ·refine Af (Af (h _ _ sb1 ⟨es1,ep+1,t2,⟨⟨_,g1,hex,rfl⟩,hft,by rw[hld];exact T.led,λz=>?_⟩,x1,n1,m1,l1⟩));rw[hpl]at z;cases z
  ·rename_i hpl0;have hpl:t1.plain=ai:=by simpa using hpl0
   have hft:=hf;have hld:=hle;refine Aa (Af ?_);simp only[↓reduceIte];clear hf hle hpl0;generalize t1=t2 at hpl hft hld ⊢;have hb1:es1.size < scanBound:=by unfold scanBound;omega
   refine Aa (F5 ho hd ?_ (fits_of_scanBound hb1));have g1:(s.heap.update a (Dq es1 t2)).get? a=ae {o with data:=.set es1 (ep+1) t2}:=by
    have:=B1 (Dq es1 t2) ho (by rw[G4 es1 t2 hd];rfl);rw[G4 es1 t2 hd]at this;exact this
   have sb1:=Bb s.heap a (Dq es1 t2)
   split
   ·have hp2:=relayAll_perm t2 es1 (Ec es1.size);have hf2:=relayAll_fits t2 es1 (Ec es1.size);obtain⟨hl2,hq2⟩:=xR t2 es1 (Ec es1.size);generalize relayAll t2 es1 (Ec es1.size)=R at hp2 hf2 hl2 hq2 ⊢;obtain⟨es2,t3,gave2⟩:=R;dsimp only at hp2 hf2 hl2 hq2 ⊢;obtain⟨x2,n2,m2,z2⟩:=xW x1 n1 hp2;refine Aa (hgw _ ?_);refine Aa (F5 g1 rfl ?_ (fits_of_scanBound (by rw[z2];exact hb1)));have g2:((s.heap.update a (Dq es1 t2)).update a (Dq es2 t3)).get? a=ae {o with data:=.set es2 (ep+1+1) t3}:=by
     have:=B1 (Dq es2 t3) g1 (by rw[G4 es2 t3 rfl];rfl);rw[G4 es2 t3 rfl]at this;exact this
    refine Af (Af (h _ _ (sb1.trans (Bb _ a _)) ⟨es2,ep+1+1,t3,⟨⟨_,g2,hex,rfl⟩,hf2,by rw[hl2,hld];exact T.led,λz=>?_⟩,x2,n2,λk'=>(m2 k').trans (m1 k'),by rw[z2];exact l1⟩));have:=hq2 z;rw[hpl]at this;cases this
   ·refine Af (Af (h _ _ sb1 ⟨es1,ep+1,t2,⟨⟨_,g1,hex,rfl⟩,hft,by rw[hld];exact T.led,λz=>?_⟩,x1,n1,m1,l1⟩));rw[hpl]at z;cases z
def gK(ks:List Str)(i:Nat)(v:Ag):Prop:=∃k t,ks[i]?=ae k/\v=.str k t
theorem EA{R:Result->Ai->Prop}{I:Addr}{fp wr:List Addr}{G:Array GenState->Array GenState->Prop}{n:Nat}{St:Nat->Ai->Prop}{ks:List Str}(W:WalksS prog w A.in1 I fp wr G n (gK ks) St)(S:Addr)(hSf:S∉fp)(hn:ks.length=n)(hb:n < 64):
  ∀(m i:Nat)(s:Ai),n-i=m->i<=n->St i s->gA w s.heap S (ks.take i)->
   (∀s',Moved (S::wr) G s s'->gA w s'.heap S ks->R (.ok (.ret .none)) s')->Gm (A7 prog w) A (.builtin "set.update.loop" ⟨[.ref S,.ref I],[]⟩) R s:=by
 have hSw:S∉wr:=λh=>hSf (W.sub _ h);have hsub:∀b∈wr,b∈S::wr:=λb hb=>Ar _ hb;have mv:∀{h h':Heap}{seen:List Str},(∀o,h.get? S=ae o->h'.get? S=ae o)->gA w h S seen->gA w h' S seen:=λk x=>by
  obtain⟨es,ep,t,T,r⟩:=x;exact⟨es,ep,t,T.move k,r⟩
 intro m
 induction m with
 |zero=>
  intro i s hk hi hst hS hR;have hin:i=n:=by omega
  subst hin;refine Df oq ?_;rw[Dj jU _];show Av _ A.in1 (Eg (.ref I)>>=_) _ _ s;refine Aa (W.done s _ _ hst λs' hm=>?_);show Av _ A.in1 (ret Bd) _ _ s';rw[<-hn,G7]at hS;exact Af (hR s' (hm.mono hsub) (mv (λo e=>hm.heap S _ hSw e) hS))
 |succ m ih=>
  intro i s hk hi hst hS hR;have hlt:i < n:=by omega
  refine Df oq ?_;rw[Dj jU _];show Av _ A.in1 (Eg (.ref I)>>=_) _ _ s;refine Aa (W.item i s _ _ hlt hst λv s' hP hst' hm=>?_);obtain⟨k,t,hk1,rfl⟩:=hP;have hS':=mv (λo e=>hm.heap S _ hSw e) hS;show Av _ A.in1 (holding [G5 k t] (setAdd S (.str k t))>>=_) _ _ s';refine Aa (Cg ?_);unfold setAdd;refine Cg ?_;refine Aa (wpAny_pyHash_str ?_);refine HV (s:={ s' with toks:=s'.toks+1}) hS' (by rw[C4];omega) λb h' hsb hS2=>?_;have et:ks.take i++[k]=ks.take (i+1):=by
   rw[List.take_add_one,hk1];rfl
  rw[et]at hS2;refine Af ⟨F2 jU _,ih (i+1) _ ⋯ hlt (W.frame _ s' _ _ hst' (Ha _) λb hb o e=>?_) hS2 λs'' hm'' hS''=>?_⟩
  ·rw[hsb.2 b (λh:b=S=>hSf (by rw[<-h];exact hb))];exact e
  ·refine hR s'' (Moved.trans W.gtrans ((hm.mono hsub).then_heap (Ha _) λb o hb e=>?_) hm'') hS'';rw[hsb.2 b (λh:b=S=>hb (by rw[h];exact Am))];exact e
end
theorem slot_setit_next:Slot "set_iterator" "__next__" "set_iterator.__next__":=Slot.of (owner:="set_iterator") (n:="__next__") (by rw[typeLookup_type,builtinLookup_eq_fast];kernel_rfl)
 ∅ ∅ ∅ (by first|exact .inl ∅|exact .inr ∅) (by rw[E5];kernel_rfl)
theorem j2:entryFor table "set_iterator.__next__"=ae D8.«set_iterator.__next__»:=Hd (by kernel_rfl)
theorem kr(a:Ag):argsOk "set_iterator.__next__" ⟨[a],[]⟩:=by unfold argsOk;kernel_rfl
theorem zN:Slot "set_iterator" "__iter__" "set_iterator.__iter__":=Slot.of (owner:="set_iterator") (n:="__iter__") (by rw[typeLookup_type,builtinLookup_eq_fast];kernel_rfl)
 ∅ ∅ ∅ (by first|exact .inl ∅|exact .inr ∅) (by rw[E5];kernel_rfl)
theorem CA:entryFor table "set_iterator.__iter__"=ae D8.«dict_keyiterator.__iter__»:=by exact entryFor_alias (id':="dict_keyiterator.__iter__") (by kernel_rfl) rfl ∅ (by kernel_rfl)
theorem EH(a:Ag):argsOk "set_iterator.__iter__" ⟨[a],[]⟩:=by unfold argsOk;kernel_rfl
theorem K4:entryFor table "set.__iter__"=ae D8.«frozenset.__iter__»:=by exact entryFor_alias (id':="frozenset.__iter__") (by kernel_rfl) rfl ∅ (by kernel_rfl)
def SetIt(h:Heap)(I:Addr)(first:Ag)(i:Nat)(a:Addr)(n ep:Nat):Prop:=∃o,h.get? I=ae o/\o.cls=.type "set_iterator"/\o.data=.fields #[first,.int i 0,.ref a,.int n 0,.int ep 0]
section
variable{prog:Bn}{w:By}{A:Bt}{E:Ag->Ai->Prop}{s:Ai}{I a T:Addr}{n ep i j:Nat}{es:Array (Int×Ag)}{t:Cz}{first:Ag}
theorem SetIt.typeIs(x:SetIt s.heap I first i a n ep):s.TypeIs (.ref I) "set_iterator":=let⟨o,e,c,_⟩:=x;⟨o,e,c⟩
theorem SetIt.move{h h':Heap}(x:SetIt h I first i a n ep)(k:∀o,h.get? I=ae o->h'.get? I=ae o):SetIt h' I first i a n ep:=let⟨o,e,r⟩:=x;⟨o,k o e,r⟩
theorem lT{Q:Ag->Ai->Prop}(hit:SetIt s.heap I first i a n ep)(h:Q (.ref I) s):Av (A7 prog w) A (pyIter (.ref I)) Q E s:=by
 refine wpAny_pyIter_slot hit.typeIs zN (Ca zN hit.typeIs CA ?_ (EH _));show Av _ _ (ret (.ref I)) _ _ s;exact Af ⟨_,rfl,"set_iterator",_,hit.typeIs,slot_setit_next.lookup,h⟩
theorem Mg{pl:Array Ag}{x:Int×Ag}{Q:Option Ag->Ai->Prop}(hit:SetIt s.heap I (.ref T) i a n ep)(hs:SetTb w s.heap a es ep t)(hn:es.size=n)(hT:s.heap.IsTuple T pl)(hp:pl[i]?=ae (.int j 0))(hx:es[j]?=ae x)
  (hQ:∀h',SetIt h' I (.ref T) (i+1) a n ep->Dh I s.heap h'->Q (ae x.2) {s with heap:=h'}):Av (A7 prog w) A (Eg (.ref I)) Q E s:=by
 obtain⟨o,ho,hc,hd⟩:=id hit;obtain⟨oa,hoa,_,hda⟩:=hs.obj;obtain⟨ol,hol,_,nl,hdl⟩:=hT;unfold Eg;refine Aa (Eh (Bz (name:=C0 "__next__") hit.typeIs slot_setit_next (Ca slot_setit_next hit.typeIs j2 ?_ (kr _))));refine Aa (Af ?_);refine Aa (Gi ho hd ?_);dsimp only;refine Aa (Ex hoa hda hs.fits ?_);rw[if_neg (by rw[hn];simp)];refine Aa (Ct hol hdl ?_);simp only[B9,hp];refine Aa ?_;unfold setNextDrawn;refine Aa (Dk hoa hda hs.fits ?_);simp only[B9,bne_self_eq_false,A9,if_false,hx];refine Af ?_;refine Aa (Dn ho hd (by simp) (Af ⟨x.2,rfl,Af (hQ _ ?_ (Bb ..))⟩));exact⟨_,B1 _ ho (Dt (Cc hd _)),(E7 ..).trans hc,by
  rw[Cc hd];simp[Da]⟩
theorem FL{pl:Array Ag}{Q:Option Ag->Ai->Prop}(hh:A.handled=af)(hit:SetIt s.heap I (.ref T) i a n ep)(hs:SetTb w s.heap a es ep t)(hn:es.size=n)(hT:s.heap.IsTuple T pl)(hp:pl[i]?=af)
  (hQ:∀h',Heap.ExtBut I s.heap h'->Q af {s with heap:=h'}):Av (A7 prog w) A (Eg (.ref I)) Q E s:=by
 obtain⟨ol,hol,_,nl,hdl⟩:=hT;obtain⟨o,ho,hc,hd⟩:=id hit;obtain⟨oa,hoa,_,hda⟩:=hs.obj;unfold Eg;refine Aa (Eh (Bz (name:=C0 "__next__") hit.typeIs slot_setit_next (Ca slot_setit_next hit.typeIs j2 ?_ (kr _))));refine Aa (Af ?_);refine Aa (Gi ho hd ?_);dsimp only;refine Aa (Ex hoa hda hs.fits ?_);rw[if_neg (by rw[hn];simp)];refine Aa (Ct hol hdl ?_);simp only[B9,hp];refine Aa (Dn ho hd (by simp) ?_);have ho2:=B1 (Obj.mapFields (·.setIfInBounds 0 (Da 0))) ho (Dt (Cc hd _));have hd2:=Cc hd (·.setIfInBounds 0 (Da 0));refine Aa (Dn ho2 hd2 (by simp) ?_);refine Aa ?_;simp only[newExc,newTuple];refine Aa (Bq ?_ (by size_fits));refine Aa (m:=Em _ _) (G3 (a:=Bd) (by first|rfl|(simp only[Em];rfl)) ?_);refine Bq ?_ (by size_fits);simp only[raiseNew];refine Aa (wpAny_handled ?_)
 first|rw[show A.in1.handled=af from hh]|rw[hh]
 refine Aa (Af (wpAny_throw ?_));refine Aa (E2 (T:="StopIteration") (b:=ah) ⟨_,As _ rfl,rfl⟩ G8 ?_);exact Af (hQ _ (((((Bb ..).trans (Bb ..)).extBut).push _).push _))
def i8(w:By)(a:Addr)(ep:Nat)(es:Array (Int×Ag)):Array (Int×Ag):=pickOrder (w.params.setOrder a ep) es
theorem zw{Q:Option (Ag×Nat)->Ai->Prop}{k:Nat}(hb:b8 w=ah)(hs:SetTb w s.heap a es ep t)(h:Q (((i8 w a ep es)[i]?).map λe=>(e.2,k)) s):Av (A7 prog w) A (setNext a k i ep) Q E s:=by
 obtain⟨oa,hoa,_,hda⟩:=hs.obj;unfold setNext;refine Aa (Dk hoa hda hs.fits ?_);dsimp only;refine Aa (nB ?_);rw[hb];simp only[↓reduceIte,bne_self_eq_false,A9,if_false];refine Aa ?_;unfold setWalk;refine Aa (Dk hoa hda hs.fits ?_);dsimp only;refine Aa (nB ?_);rw[hb];simp only[↓reduceIte];refine Aa (wpAny_askSetting (Af (Af h)))
theorem MC{x:Int×Ag}{Q:Option Ag->Ai->Prop}(hb:b8 w=ah)(hit:SetIt s.heap I (.int 0 0) i a n ep)(hs:SetTb w s.heap a es ep t)(hn:es.size=n)(hx:(i8 w a ep es)[i]?=ae x)
  (hQ:∀h',SetIt h' I (.int 0 0) (i+1) a n ep->Dh I s.heap h'->Q (ae x.2) {s with heap:=h'}):Av (A7 prog w) A (Eg (.ref I)) Q E s:=by
 obtain⟨o,ho,hc,hd⟩:=id hit;obtain⟨oa,hoa,_,hda⟩:=hs.obj;unfold Eg;refine Aa (Eh (Bz (name:=C0 "__next__") hit.typeIs slot_setit_next (Ca slot_setit_next hit.typeIs j2 ?_ (kr _))));refine Aa (Af ?_);refine Aa (Gi ho hd ?_);dsimp only;refine Aa (Ex hoa hda hs.fits ?_);rw[if_neg (by rw[hn];simp)];refine Aa (zw hb hs ?_);simp only[B9,hx,Option.map_some];refine Aa (Dn ho hd (by simp) ?_);have ho2:=B1 (Obj.mapFields (·.setIfInBounds 0 (Da ((0:Int).toNat:Nat)))) ho (Dt (Cc hd _));have hd2:=Cc hd (·.setIfInBounds 0 (Da ((0:Int).toNat:Nat)));refine Aa (Dn ho2 hd2 (by simp) (Af ⟨x.2,rfl,Af (hQ _ ?_ ((Bb ..).trans (Bb ..)))⟩));exact⟨_,B1 _ ho2 (Dt (Cc hd2 _)),(E7 ..).trans ((E7 ..).trans hc),by
  rw[Cc hd2];simp[Da]⟩
theorem Nn{Q:Option Ag->Ai->Prop}(hh:A.handled=af)(hb:b8 w=ah)(hit:SetIt s.heap I (.int 0 0) i a n ep)(hs:SetTb w s.heap a es ep t)(hn:es.size=n)(hx:(i8 w a ep es)[i]?=af)
  (hQ:∀h',Heap.ExtBut I s.heap h'->Q af {s with heap:=h'}):Av (A7 prog w) A (Eg (.ref I)) Q E s:=by
 obtain⟨o,ho,hc,hd⟩:=id hit;obtain⟨oa,hoa,_,hda⟩:=hs.obj;unfold Eg;refine Aa (Eh (Bz (name:=C0 "__next__") hit.typeIs slot_setit_next (Ca slot_setit_next hit.typeIs j2 ?_ (kr _))));refine Aa (Af ?_);refine Aa (Gi ho hd ?_);dsimp only;refine Aa (Ex hoa hda hs.fits ?_);rw[if_neg (by rw[hn];simp)];refine Aa (zw hb hs ?_);simp only[B9,hx,Option.map_none];refine Aa (Dn ho hd (by simp) ?_);refine Aa ?_;simp only[newExc,newTuple];refine Aa (Bq ?_ (by size_fits));refine Aa (m:=Em _ _) (G3 (a:=Bd) (by first|rfl|(simp only[Em];rfl)) ?_);refine Bq ?_ (by size_fits);simp only[raiseNew];refine Aa (wpAny_handled ?_)
 first|rw[show A.in1.handled=af from hh]|rw[hh]
 refine Aa (Af (wpAny_throw ?_));refine Aa (E2 (T:="StopIteration") (b:=ah) ⟨_,As _ rfl,rfl⟩ G8 ?_);exact Af (hQ _ (((Bb ..).extBut.push _).push _))
theorem tW{Q:Option (Ag×Nat)->Ai->Prop}{k:Nat}(hb:b8 w=ai)(h1:es.size<=1)(hs:SetTb w s.heap a es ep t)
  (h:Q (match es[Dp t.place k]?,t.place[Dp t.place k]? with
   |some (_,x),ae j=>ae (x,j+1)
   |_,_=>af) s):Av (A7 prog w) A (setNext a k i ep) Q E s:=by
 obtain⟨oa,hoa,_,hda⟩:=hs.obj;have hl:t.led=ah:=by rw[hs.led,hb];rfl
 unfold setNext;refine Aa (Dk hoa hda hs.fits ?_);dsimp only;refine Aa (nB ?_);rw[hb];simp only[A9,↓reduceIte];have hd:(!t.plain&&decide (es.size > 1))=ai:=by
  have:decide (es.size > 1)=ai:=decide_eq_false ⋯;rw[this,Fg]
 split
 ·rename_i z;have z':(!t.plain&&decide (es.size > 1))=ah:=z;rw[hd]at z';cases z'
 ·refine Aa (G3 (a:=()) ?_ (Af h));show(if (!t.led&&!es.isEmpty)=ah then unsupported "set:maker-not-led" else pure ())=pure ();rw[hl];rfl
theorem xg{j:Nat}:Dp #[j] 0=0/\Dp #[j] (j+1)=1:=by
 constructor
 ·simp[Dp,SetTable.below.go]
 ·simp[Dp,SetTable.below.go]
theorem M5{x:Int×Ag}{Q:Option Ag->Ai->Prop}(hb:b8 w=ai)(hp:t.place=#[j])(he:es=#[x])(hit:SetIt s.heap I (.int 0 0) 0 a 1 ep)(hs:SetTb w s.heap a es ep t)
  (hQ:∀h',SetIt h' I (.int ((j+1:Nat):Int) 0) 1 a 1 ep->Dh I s.heap h'->Q (ae x.2) {s with heap:=h'}):Av (A7 prog w) A (Eg (.ref I)) Q E s:=by
 have hn:es.size=1:=by rw[he];rfl
 obtain⟨o,ho,hc,hd⟩:=id hit;obtain⟨oa,hoa,_,hda⟩:=hs.obj;unfold Eg;refine Aa (Eh (Bz (name:=C0 "__next__") hit.typeIs slot_setit_next (Ca slot_setit_next hit.typeIs j2 ?_ (kr _))));refine Aa (Af ?_);refine Aa (Gi ho hd ?_);dsimp only;refine Aa (Ex hoa hda hs.fits ?_);rw[if_neg (by rw[hn];simp)];refine Aa (tW hb ⋯ hs ?_);have b1:Dp t.place (0:Int).toNat=0:=by rw[hp];exact xg.1
 rw[b1,hp,he];show Av _ _ (setField (.ref I) 0 (Da ((j+1:Nat):Int))>>=_) _ _ _;refine Aa (Dn ho hd (by simp) ?_);have ho2:=B1 (Obj.mapFields (·.setIfInBounds 0 (Da ((j+1:Nat):Int)))) ho (Dt (Cc hd _));have hd2:=Cc hd (·.setIfInBounds 0 (Da ((j+1:Nat):Int)));refine Aa (Dn ho2 hd2 (by simp) (Af ⟨x.2,rfl,Af (hQ _ ?_ ((Bb ..).trans (Bb ..)))⟩));exact⟨_,B1 _ ho2 (Dt (Cc hd2 _)),(E7 ..).trans ((E7 ..).trans hc),by
  rw[Cc hd2];simp[Da]⟩
theorem uE{k:Nat}{Q:Option Ag->Ai->Prop}(hh:A.handled=af)(hb:b8 w=ai)(h1:es.size<=1)(hk:es[Dp t.place k]?=af)(hit:SetIt s.heap I (.int (k:Int) 0) i a n ep)(hs:SetTb w s.heap a es ep t)(hn:es.size=n)
  (hQ:∀h',Heap.ExtBut I s.heap h'->Q af {s with heap:=h'}):Av (A7 prog w) A (Eg (.ref I)) Q E s:=by
 obtain⟨o,ho,hc,hd⟩:=id hit;obtain⟨oa,hoa,_,hda⟩:=hs.obj;unfold Eg;refine Aa (Eh (Bz (name:=C0 "__next__") hit.typeIs slot_setit_next (Ca slot_setit_next hit.typeIs j2 ?_ (kr _))));refine Aa (Af ?_);refine Aa (Gi ho hd ?_);dsimp only;refine Aa (Ex hoa hda hs.fits ?_);rw[if_neg (by rw[hn];simp)];refine Aa (tW hb h1 hs ?_);rw[B9,hk];dsimp only;refine Aa (Dn ho hd (by simp) ?_);refine Aa ?_;simp only[newExc,newTuple];refine Aa (Bq ?_ (by size_fits));refine Aa (m:=Em _ _) (G3 (a:=Bd) (by first|rfl|(simp only[Em];rfl)) ?_);refine Bq ?_ (by size_fits);simp only[raiseNew];refine Aa (wpAny_handled ?_)
 first|rw[show A.in1.handled=af from hh]|rw[hh]
 refine Aa (Af (wpAny_throw ?_));refine Aa (E2 (T:="StopIteration") (b:=ah) ⟨_,As _ rfl,rfl⟩ G8 ?_);exact Af (hQ _ (((Bb ..).extBut.push _).push _))
end
section
variable{prog:Bn}{w:By}{A:Bt}{E:Ag->Ai->Prop}{s:Ai}{a:Addr}{ep:Nat}{es:Array (Int×Ag)}{t:Cz}
def i7(vs:List (Int×Ag))(i:Nat)(v:Ag):Prop:=∃e,vs[i]?=ae e/\v=e.2
structure SetWk(prog:Bn)(w:By)(sz:Nat)(h':Heap)(a I:Addr)(vs:List (Int×Ag)):Prop where
 above:sz<=I
 walk:∃(fp:List Addr)(St:Nat->Heap->Prop),(∀b∈fp,b=a\/sz<=b)/\(∀b∈fp,b < h'.objs.size)/\(∀A:Bt,A.handled=af->Walks prog w A I fp [I] vs.length (i7 vs) St)/\St 0 h'
theorem sC{α:Type}{xs:Array α}{j:Nat}{d:α}(h:j < xs.size):xs[j]?=ae (xs.getD j d):=by
 simp[h]
theorem Nf{ys:List Nat}{n:Nat}(hp:ys.Perm (Bh n))(hn:es.size=n):(ys.map λj=>es.getD j (0,Bd)).Perm es.toList:=by
 have h1:=hp.map λj=>es.getD j ((0:Int),Bd);have h2:(Bh n).map (λj=>es.getD j ((0:Int),Bd))=es.toList:=by
  apply Ew (by simp[hn]);intro i h1 h2;simp at h2;simp[h2]
 rw[h2]at h1;exact h1
theorem EF{I T:Addr}{ys:List Nat}{n:Nat}(hne:a≠I)(hTI:T≠I)(hp:ys.Perm (Bh n))(hn:es.size=n)(A:Bt)(hh:A.handled=af):
  Walks prog w A I [I,a,T] [I] (ys.map λj=>es.getD j (0,Bd)).length (i7 (ys.map λj=>es.getD j (0,Bd)))
   (λi h=>SetIt h I (.ref T) i a n ep/\SetTb w h a es ep t/\h.IsTuple T (ys.map λ(j:Nat)=>Value.int (j:Int) 0).toArray) where
 sub:=λb hb=>by simp at hb;simp[hb]
 frame:=λ_ _ _ st hk=>⟨st.1.move λo e=>hk I (by simp) o e,st.2.1.move λo e=>hk a (by simp) o e,let⟨o,e,r⟩:=st.2.2;⟨o,hk T (by simp) o e,r⟩⟩
 item:=λi s Q E hi st hQ=>by
  rw[Ad]at hi;have hj:ys[i] < es.size:=by rw[hn];exact Bs.mp (hp.mem_iff.mp (Ed hi))
  refine Mg (j:=ys[i]) st.1 st.2.1 hn st.2.2 (by simp[hi]) (sC (d:=(0,Bd)) hj) λh' hit' hs'=>?_;refine hQ _ h' s.toks ⟨_,by rw[A0,Ah hi];rfl,rfl⟩ ⟨hit',st.2.1.move λo e=>(hs'.2 a hne).trans e,let⟨o,e,r⟩:=st.2.2;⟨o,(hs'.2 T hTI).trans e,r⟩⟩ λb o hb e=>hs'.extBut b o (λh=>hb (by simp[h])) e
 done:=λs Q E st hQ=>FL hh st.1 st.2.1 hn st.2.2 (by simp) λh' he'=>hQ h' s.toks λb o hb e=>he' b o (λh=>hb (by simp[h])) e
 self:=λ_ _ _ _ st hQ=>lT st.1 hQ
theorem Le{I:Addr}{n:Nat}(hb:b8 w=ah)(hne:a≠I)(hn:es.size=n)(A:Bt)(hh:A.handled=af):
  Walks prog w A I [I,a] [I] (i8 w a ep es).toList.length (i7 (i8 w a ep es).toList) (λi h=>SetIt h I (.int 0 0) i a n ep/\SetTb w h a es ep t) where
 sub:=λb hb=>by simp at hb;simp[hb]
 frame:=λ_ _ _ st hk=>⟨st.1.move λo e=>hk I (by simp) o e,st.2.move λo e=>hk a (by simp) o e⟩
 item:=λi s Q E hi st hQ=>by
  rw[Az]at hi;have hx:(i8 w a ep es)[i]?=ae (i8 w a ep es)[i]:=Cn hi;refine MC hb st.1 st.2 hn hx λh' hit' hs'=>?_;exact hQ _ h' s.toks ⟨_,by rw[Bp];exact hx,rfl⟩ ⟨hit',st.2.move λo e=>(hs'.2 a hne).trans e⟩ λb o hb e=>hs'.extBut b o (λh=>hb (by simp[h])) e
 done:=λs Q E st hQ=>Nn hh hb st.1 st.2 hn (by simp) λh' he'=>hQ h' s.toks λb o hb e=>he' b o (λh=>hb (by simp[h])) e
 self:=λ_ _ _ _ st hQ=>lT st.1 hQ
theorem NU{I:Addr}(hb:b8 w=ai)(hn:es.size=0)(A:Bt)(hh:A.handled=af):
  Walks prog w A I [I,a] [I] ([]:List (Int×Ag)).length (i7 []) (λ_ h=>SetIt h I (.int ((0:Nat):Int) 0) 0 a 0 ep/\SetTb w h a es ep t) where
 sub:=λb hb=>by simp at hb;simp[hb]
 frame:=λ_ _ _ st hk=>⟨st.1.move λo e=>hk I (by simp) o e,st.2.move λo e=>hk a (by simp) o e⟩
 item:=λi s Q E hi st hQ=>by simp at hi
 done:=λs Q E st hQ=>uE (k:=0) hh hb ⋯ (by rw[Array.getElem?_eq_none];omega) st.1 st.2 hn λh' he'=>hQ h' s.toks λb o hb e=>he' b o (λh=>hb (by simp[h])) e
 self:=λ_ _ _ _ st hQ=>lT st.1 hQ
theorem O3{I:Addr}{x:Int×Ag}{j:Nat}(hb:b8 w=ai)(hne:a≠I)(he:es=#[x])(hp:t.place=#[j])(A:Bt)(hh:A.handled=af):
  Walks prog w A I [I,a] [I] [x].length (i7 [x]) (λi h=>((i=0/\SetIt h I (.int 0 0) 0 a 1 ep)\/(i=1/\SetIt h I (.int ((j+1:Nat):Int) 0) 1 a 1 ep))/\SetTb w h a es ep t) where
 sub:=λb hb=>by simp at hb;simp[hb]
 frame:=λ_ _ _ st hk=>⟨st.1.imp (λz=>⟨z.1,z.2.move λo e=>hk I (by simp) o e⟩) (λz=>⟨z.1,z.2.move λo e=>hk I (by simp) o e⟩),st.2.move λo e=>hk a (by simp) o e⟩
 item:=λi s Q E hi st hQ=>by
  have hi0:i=0:=by simpa using hi
  subst hi0;rcases st.1 with⟨_,z⟩|⟨z,_⟩
  ·refine M5 hb hp he z st.2 λh' hit' hs'=>?_;exact hQ _ h' s.toks ⟨x,rfl,rfl⟩ ⟨.inr ⟨rfl,hit'⟩,st.2.move λo e=>(hs'.2 a hne).trans e⟩ λb o hb e=>hs'.extBut b o (λh=>hb (by simp[h])) e
  ·cases z
 done:=λs Q E st hQ=>by
  rcases st.1 with⟨z,_⟩|⟨_,z⟩
  ·cases z
  ·refine uE (k:=j+1) hh hb (by rw[he];exact Aq 1) ?_ z st.2 (by rw[he];rfl) λh' he'=>hQ h' s.toks λb o hb e=>he' b o (λh=>hb (by simp[h])) e;rw[hp,xg.2,he];rfl
 self:=λi s Q E st hQ=>by
  rcases st.1 with⟨_,z⟩|⟨_,z⟩
  ·exact lT z hQ
  ·exact lT z hQ
theorem DD{Q:Ag->Ai->Prop}(hs:SetTb w s.heap a es ep t)(h64:es.size < 64)
  (h:∀(h':Heap)(dr:Drawn)(I:Addr)(vs:List (Int×Ag)),vs.Perm es.toList->(∀b o,s.heap.get? b=ae o->h'.get? b=ae o)->SetWk prog w s.heap.objs.size h' a I vs->Q (.ref I) {s with heap:=h',drawn:=dr}):
  Av (A7 prog w) A (pyIter (.ref a)) Q E s:=by
 obtain⟨oa,hoa,hex,hda⟩:=hs.obj;have hlt:=hs.lt;refine wpAny_pyIter_slot hs.typeIs F.slot_set_iter (Ca F.slot_set_iter hs.typeIs K4 ?_ (F.args_set_iter_1 _));refine Aa (Af ?_);refine Aa (Aa (Ex hoa hda hs.fits (Af ?_)));refine Aa ?_;unfold setDrawn;refine Aa (Dk hoa hda hs.fits ?_);dsimp only;refine Aa (nB ?_);refine Af ?_
 split
 ·rename_i hd;refine Aa (sV es.size (Bh es.size) s (by simp) λys dr hp=>?_);have hly:ys.length=es.size:=by rw[hp.length_eq,Cs]
  refine Aa (wpAny_newTuple ?_ (by rw[Ad,hly,Cw];omega));have hoa1:=Ae ({cls:=.type "tuple",data:=.seq (ys.map λ(i:Nat)=>Da i).toArray}:Obj) hoa;refine Aa (wpAny_setEpoch_of hoa1 hda hs.fits ?_);refine Aa (Bq (Af ⟨_,rfl,"set_iterator",_,⟨_,As _ rfl,rfl⟩,slot_setit_next.lookup,?_⟩));have hT:(s.heap.push ({cls:=.type "tuple",data:=.seq (ys.map λ(i:Nat)=>Da i).toArray}:Obj)).get? s.heap.objs.size=ae {cls:=.type "tuple",data:=.seq (ys.map λ(i:Nat)=>Da i).toArray}:=As _ rfl;refine h _ dr _ (ys.map λj=>es.getD j (0,Bd)) (Nf hp rfl) (λb o e=>Ae _ (Ae _ e)) ⟨by rw[Ci];exact Ha _,[_,a,s.heap.objs.size],_,λb hb=>?_,λb hb=>?_,λA hh=>EF (t:=t) (ep:=ep) (T:=s.heap.objs.size) (by rw[Ci];exact Be (Ej hlt)) (by rw[Ci];exact Be (Ga _)) hp rfl A hh,⟨⟨_,As _ rfl,rfl,rfl⟩,hs.move λo e=>Ae _ (Ae _ e),⟨_,Ae _ hT,rfl,_,rfl⟩⟩⟩
  ·simp only[Al,A3,or_false]at hb;rcases hb with rfl|rfl|rfl
   ·rw[Ci];exact .inr (Ha _)
   ·exact .inl rfl
   ·exact .inr (Aq _)
  ·simp only[Al,A3,or_false]at hb;rw[Ci,Ci];rcases hb with rfl|rfl|rfl
   ·rw[Ci];exact Ga _
   ·exact Ej (Ej hlt)
   ·exact Ej (Ga _)
 ·rename_i hd;refine Aa (Af ?_);refine Aa (wpAny_setEpoch_of hoa hda hs.fits ?_);refine Aa (Bq (Af ⟨_,rfl,"set_iterator",_,⟨_,As _ rfl,rfl⟩,slot_setit_next.lookup,?_⟩));have hit:SetIt (s.heap.push {cls:=.type "set_iterator",data:=.fields #[Da 0,Da 0,.ref a,Da es.size,Da ep]}) s.heap.objs.size (.int 0 0) 0 a es.size ep:=⟨_,As _ rfl,rfl,rfl⟩;have hst:SetTb w (s.heap.push {cls:=.type "set_iterator",data:=.fields #[Da 0,Da 0,.ref a,Da es.size,Da ep]}) a es ep t:=hs.move λo e=>Ae _ e;have kp:∀b o,s.heap.get? b=ae o->(s.heap.push {cls:=.type "set_iterator",data:=.fields #[Da 0,Da 0,.ref a,Da es.size,Da ep]}).get? b=ae o:=λb o e=>Ae _ e;have f1:∀b∈[s.heap.objs.size,a],b=a\/s.heap.objs.size<=b:=λb hb=>by
   simp only[Al,A3,or_false]at hb;rcases hb with rfl|rfl
   ·exact .inr (Aq _)
   ·exact .inl rfl
  have f2:∀b∈[s.heap.objs.size,a],b < (s.heap.push {cls:=.type "set_iterator",data:=.fields #[Da 0,Da 0,.ref a,Da es.size,Da ep]}).objs.size:=λb hb=>by
   simp only[Al,A3,or_false]at hb;rw[Ci];rcases hb with rfl|rfl
   ·exact Ga _
   ·exact Ej hlt
  have hne:a≠s.heap.objs.size:=Be hlt;cases hb:b8 w with
  |true=>exact h _ s.drawn _ (i8 w a ep es).toList (DB _ _) kp ⟨Aq _,[s.heap.objs.size,a],_,f1,f2,λA hh=>Le (t:=t) hb hne rfl A hh,⟨hit,hst⟩⟩
  |false=>
   have hd0:¬((!b8 w&&(!t.plain&&decide (es.size > 1)))=ah):=hd;have hd':(!b8 w&&(!t.plain&&decide (es.size > 1)))=ai:=by simpa using hd0
   have h1:es.size<=1:=by
    rw[hb]at hd';by_cases hz:es.size<=1
    ·exact hz
    ·have hg:decide (es.size > 1)=ah:=decide_eq_true ⋯;rw[hg]at hd';have hpl:t.plain=ah:=by simpa using hd'
     have:=hs.plain hpl;omega
   by_cases h0:es.size=0
   ·have e0:es.toList=[]:=Fl (by simpa using h0);refine h _ s.drawn _ [] (by rw[e0]) kp ⟨Aq _,[s.heap.objs.size,a],_,f1,f2,λA hh=>NU (t:=t) (ep:=ep) hb h0 A hh,⟨?_,hst⟩⟩;rw[h0]at hit ⊢;exact hit
   ·have h1':es.size=1:=by omega
    obtain⟨x,hx⟩:∃x,es=#[x]:=by
     have:es.toList.length=1:=by simpa using h1'
     obtain⟨x,hx⟩:=List.length_eq_one_iff.mp this;exact⟨x,F4.mp hx⟩
    have hps:t.place.size=1:=by
     have:=hs.fits;simp only[SetTable.fits,Ay,beq_iff_eq]at this;rw[this.1,h1']
    obtain⟨j,hj⟩:∃j,t.place=#[j]:=by
     have:t.place.toList.length=1:=by simpa using hps
     obtain⟨x,hx⟩:=List.length_eq_one_iff.mp this;exact⟨x,F4.mp hx⟩
    refine h _ s.drawn _ [x] (by rw[hx]) kp ⟨Aq _,[s.heap.objs.size,a],_,f1,f2,λA hh=>O3 (t:=t) (ep:=ep) hb hne hx hj A hh,⟨.inl ⟨rfl,?_⟩,hst⟩⟩;rw[h1']at hit ⊢;exact hit
end
theorem L0:entryFor table "proto.collect"=ae D8.«proto.collect»:=Hd (by kernel_rfl)
theorem KH:entryFor table "list.__iadd__"=ae D8.«list.__iadd__»:=Hd (by kernel_rfl)
section
variable{prog:Bn}{w:By}{A:Bt}{E:Ag->Ai->Prop}{s:Ai}{a:Addr}{ep:Nat}{es:Array (Int×Ag)}{t:Cz}
theorem CS{Q:Bool->Ai->Prop}(hT:s.TypeIs (.ref a) "set")(h:Q ai s):Av (A7 prog w) A (Builtin.List.listLengthHint (.ref a)) Q E s:=by
 unfold Builtin.List.listLengthHint;refine Aa (wpAny_specialOf hT F.slot_set_len.lookup ?_);generalize hid:("set.__len__":String)=id0
 wp_delta
 rw[show splitId id0=ae ("set","__len__")from by subst hid;decide +kernel];subst hid;refine Aa (E2 (T:="set") (b:=ah) hT (by rw[E5];kernel_rfl) ?_);refine wpAny_ite_split (λhab=>absurd hab ∎) (λ_=>?_);refine wpAny_ite_split (λ_=>?_) (λhab=>absurd ∅ hab);refine Aa (Ez hT ?_);exact Af h
theorem NB{R:Result->Ai->Prop}(hh:A.handled=af)(hs:SetTb w s.heap a es ep t)(h64:es.size < 64)(S:Addr)(hSa:S≠a)(res:Ag)(hS:s.heap.get? S=ae {cls:=.type "list",data:=.seq #[]})
  (hR:∀h' tk dr (vs:List (Int×Ag)) acc c,vs.Perm es.toList->(∀b o,b≠S->s.heap.get? b=ae o->h'.get? b=ae o)->h'.get? S=ae {cls:=.type "list",dict:=af,data:=.seq acc c,slots:=#[]}->ItemsOf (i7 vs) acc vs.length->R (.ok (.ret res)) {s with heap:=h',toks:=tk,drawn:=dr}):
  Av (A7 prog w) A.in1 (Dc (.ref S) (.ref a) res)
   (λfin s'=>match fin with|.done f=>R (.ok f) s'|.again c'=>c'.quiet=ah/\Gm (A7 prog w) A c' R s') (λe s'=>R (.error e) s') s:=by
 unfold Dc;refine Aa (Ez (T:="set") hs.typeIs ?_);have h1:Fz (.ref S) (.ref a)=ai:=by simp[Fz,hSa]
 have h2:(C9 "set"==C9 "list")=ai:=by decide
 have h3:(C9 "set"==C9 "tuple")=ai:=by decide
 simp only[h1,h2,h3,Bool.or_false,A9,if_false];refine Aa (DD (A:=A.in1) hs h64 λh' dr I vs hp hk hw=>?_);obtain⟨hI,fp,St,hf1,hf2,W,st⟩:=hw;have hSlt:S < s.heap.objs.size:=An hS;have hSf:S∉fp:=λhm=>(hf1 S hm).elim hSa λz=>C2 _ (Bj hSlt z);have hS1:=hk S _ hS;have hlen:vs.length=es.size:=by rw[hp.length_eq,Az]
 have key:∀(h:Heap)(c₁ tk:Nat),St 0 h->(∀b o,b≠S->s.heap.get? b=ae o->h.get? b=ae o)->
   h.get? S=ae {cls:=.type "list",data:=.seq #[] c₁}->Gm (A7 prog w) A (.builtin "list.extend.loop" ⟨[.ref S,.ref I,res],[]⟩) R {s with heap:=h,toks:=tk,drawn:=dr}:=by
  intro h c₁ tk hst hk2 hS₁;refine codeAny_extend_loopS (W A.in1 hh).toS (by rw[hlen,Cw];omega) S hSf res vs.length 0 _ #[] c₁ rfl (Bc _) hst hS₁ (ItemsOf.nil _) λs' acc' c' hm hS' hacc=>?_;rw[Moved.eq_with hm];refine hR s'.heap s'.toks dr vs acc' c' hp (λb o hb e=>hm.heap b o (λhmem=>?_) (hk2 b o hb e)) hS' hacc;rcases Al.mp hmem with e'|hmem
  ·exact hb e'
  ·have hbI:=A8.mp hmem;exact absurd (An e) (by rw[hbI];exact Nat.not_lt.mpr hI)
 refine Aa (Cg (CS (s:={ s with heap:=h',drawn:=dr}) (hs.move λo e=>hk a o e).typeIs ?_));refine wpAny_ite_split (λ_=>?_) (λ_=>Af ⟨F2 PySem.F.plain_extend_loop _,key _ 0 _ st (λb o _ e=>hk b o e) hS1⟩);refine Aa (Fw ?_);refine Aa ?_;show Av _ _ (updateSeq S (·.push .none)>>=λ_=>updateSeq S (·.pop)) _ _ _;refine Aa (wpAny_updateSeq hS1 rfl ?_);have hS₂:=B1 (B5 (·.push Bd)) hS1 rfl;refine wpAny_updateSeq (hz:=by seq_fits) hS₂ rfl ?_;have hS₃:=B1 (B5 (·.pop)) hS₂ rfl;refine Af ⟨F2 PySem.F.plain_extend_loop _,key _ _ _ ?_ (λb o hb e=>?_) hS₃⟩
 ·refine(W A hh).frame 0 _ _ st λb hb o e=>?_;have hbS:b≠S:=λh=>hSf (h▸hb);exact(D5 _ _ (Ne.symm hbS)).trans ((D5 _ _ (Ne.symm hbS)).trans e)
 ·exact(D5 _ _ (Ne.symm hb)).trans ((D5 _ _ (Ne.symm hb)).trans (hk b o e))
theorem zf{vs:List (Int×Ag)}{acc:Array Ag}(h:ItemsOf (i7 vs) acc vs.length):acc.toList=vs.map (·.2):=by
 apply List.ext_getElem?;intro i;by_cases hi:i < vs.length
 ·have hi2:i < acc.size:=by rw[h.1];exact hi
  obtain⟨e,e1,e2⟩:=h.2 i acc[i] (Cn hi2);rw[A0,e1,Bp,Cn hi2,e2];rfl
 ·rw[Fv (by rw[Az,h.1];omega),Fv (by rw[Ad];omega)]
theorem LI{R:List Ag->Ai->Prop}(hh:A.handled=af)(hs:SetTb w s.heap a es ep t)(h64:es.size < 64)
  (h:∀(h':Heap)(tk:Nat)(dr:Drawn)(vs:List (Int×Ag)),vs.Perm es.toList->(∀b o,s.heap.get? b=ae o->h'.get? b=ae o)->R (vs.map (·.2)) {s with heap:=h',toks:=tk,drawn:=dr}):
  Av (A7 prog w) A (collect (.ref a)) R E s:=by
 unfold collect;refine Aa (wpAny_runValue (Df L0 ?_));rw[Dj PySem.F.plain_proto_collect _];show Av _ A.in1 (newList []>>=λl=>again (.builtin "list.__iadd__" ⟨[l,.ref a],[]⟩)) _ _ s;refine Aa (Bq ?_);refine Af ⟨F2 PySem.F.plain_list_iadd _,Df KH ?_⟩;rw[Dj PySem.F.plain_list_iadd _];have hS₁:(s.heap.push {cls:=.type "list",data:=.seq ([]:List Ag).toArray}).get? s.heap.objs.size=ae {cls:=.type "list",data:=.seq #[]}:=As _ rfl;show Av _ A.in1 (Dc (.ref s.heap.objs.size) (.ref a) (.ref s.heap.objs.size)) _ _ _;have key:=NB (prog:=prog) (A:=A) (s:={ s with heap:=s.heap.push {cls:=.type "list",data:=.seq ([]:List Ag).toArray}})
  (R:=λ(q:Result)(s':Ai)=>∃(h':Heap)(tk:Nat)(dr:Drawn)(vs:List (Int×Ag))(acc':Array Ag)(c':Nat),q=.ok (.ret (.ref s.heap.objs.size))/\s'={ s with heap:=h',toks:=tk,drawn:=dr}/\vs.Perm es.toList /\
   (∀b o,s.heap.get? b=ae o->h'.get? b=ae o)/\h'.get? s.heap.objs.size=ae {cls:=.type "list",dict:=af,data:=.seq acc' c',slots:=#[]}/\ItemsOf (i7 vs) acc' vs.length)
  hh (hs.move λo e=>Ae _ e) h64 s.heap.objs.size (Ee hs.lt) (.ref s.heap.objs.size) hS₁
  (λh' tk dr vs acc' c' hp hk hS' hacc=>⟨h',tk,dr,vs,acc',c',rfl,rfl,hp,λb o e=>hk b o (Be (An e)) (Ae _ e),hS',hacc⟩)
 refine Dv key (λfin s' x=>?_) λe s' x=>?_
 ·cases fin with
  |done f=>
   obtain⟨h',tk,dr,vs,acc',c',e,rfl,hp,hk,hS',hacc⟩:=x;cases e;show Av _ A (load s.heap.objs.size>>=_) _ _ _;refine Aa (wpAny_load hS' ?_);refine Af ?_;rw[zf hacc];exact h h' tk dr vs hp hk
  |again c₁=>
   refine⟨x.1,Fx x.2 λq s₂ y=>?_⟩;obtain⟨h',tk,dr,vs,acc',c',rfl,rfl,hp,hk,hS',hacc⟩:=y;show Av _ A (load s.heap.objs.size>>=_) _ _ _;refine Aa (wpAny_load hS' ?_);refine Af ?_;rw[zf hacc];exact h h' tk dr vs hp hk
 ·obtain⟨_,_,_,_,_,_,z,_⟩:=x;cases z
end
def bz(w:By):Obj:={ cls:=.type "set",dict:=af,data:=.set #[] 0 (.fresh 0 0 (!b8 w))}
section
variable{prog:Bn}{w:By}{A:Bt}{E:Ag->Ai->Prop}{s:Ai}
theorem AN{h:Heap}{a:Addr}(e:h.get? a=ae (bz w)):gA w h a []:=
 ⟨#[],0,.fresh 0 0 (!b8 w),⟨⟨_,e,⟨rfl,rfl,rfl⟩,rfl⟩,rfl,rfl,λ_=>rfl⟩,λe he=>by simp at he,Gf,λk=>by simp[bO],Aq _⟩
theorem xC(a:Ag){Q₁:Ag->Ai->Prop}(h:Q₁ (.ref s.heap.objs.size) {s with heap:=s.heap.push (bz w)}):
  Gm (A7 prog w) A (.call (.builtin "set.__new__") ⟨[.type "set",a],[]⟩) (wants Q₁ E) s:=by
 refine codeAny_of_tree ?_;show Av _ A.in1 (do checkBuiltinCall "set.__new__" ⟨[.type "set",a],[]⟩;again (.builtin "set.__new__" ⟨[.type "set",a],[]⟩)) _ _ s;refine Aa (G3 (F.newCall_set_1 a) (Af ⟨F2 F.plain_set_new _,Df F.entry_set_new ?_⟩));rw[Dj F.plain_set_new _];unfold D8.«set.__new__» Builtin.Frozenset.newClass;have hsub:=sub_set_self;obtain⟨hp,g,d,tk,os⟩:=s;dsimp only
 wp_walk
 refine wpAny_askSetting (Af ?_);dsimp only;simp only[newObj];exact Aa (wpAny_alloc (Af (Af h)))
structure TxSrc(prog:Bn)(w:By)(T:String)(x:Addr)(ks:List Str)(OK:Heap->Prop):Prop where
 type:∀s:Ai,OK s.heap->s.TypeIs (.ref x) T
 there:∀h:Heap,OK h->x < h.objs.size
 keep:∀h h':Heap,OK h->(∀o,h.get? x=ae o->h'.get? x=ae o)->OK h'
 notSet:isSubtype (.type T) (.type "set")=pure ai
 notFrozen:isSubtype (.type T) (.type "frozenset")=pure ai
 notDict:(C9 T==C9 "dict")=ai
 iter:∀s:Ai,OK s.heap->∃(oI:Obj)(St:Nat->Heap->Prop),
  (∀(A:Bt)(E:Ag->Ai->Prop)(Q:Ag->Ai->Prop),Q (.ref s.heap.objs.size) {s with heap:=s.heap.push oI}->Av (A7 prog w) A (pyIter (.ref x)) Q E s) /\
  (∀A:Bt,A.handled=af->Walks prog w A s.heap.objs.size [s.heap.objs.size,x] [s.heap.objs.size] ks.length (gK ks) St)/\St 0 (s.heap.push oI)
set_option maxHeartbeats 3200000 in
theorem xF{T:String}{x:Addr}{ks:List Str}{OK:Heap->Prop}{Q:Ag->Ai->Prop}(K:TxSrc prog w T x ks OK)(hh:A.handled=af)(hok:OK s.heap)(h64:ks.length < 64)
  (h:∀(h':Heap)(tk:Nat),gA w h' s.heap.objs.size ks->(∀b o,b < s.heap.objs.size->s.heap.get? b=ae o->h'.get? b=ae o)->Q (.ref s.heap.objs.size) {s with heap:=h',toks:=tk}):
  Av (A7 prog w) A (call (.type "set") [.ref x]) Q E s:=by
 obtain⟨c,tl,hmro⟩:=F.called_set.mro;have hmade:=F.called_set.made;have hsub:=F.called_set.sub;refine wpAny_call (codeAny_of_tree ?_);show Av _ _ (callAny (.type "set") _) _ _ _;refine Af ⟨Code.quiet_builtin _ ∅,Df F.entry_type_call ?_⟩;rw[Around.under_plain (weight_type_call_type "set" [.ref x] []) rfl];have h1:=F.called_set.notType;have h2:=F.called_set.canCreate;have hct:=F.typeCall_set_1 (.ref x)
 repeat (any_goals (first|assumption|wp_step))
 refine Fx (xC (.ref x) (E:=E) (Q₁:=λobj s₁=>obj=.ref s.heap.objs.size/\s₁={ s with heap:=s.heap.push (bz w)}) ⟨rfl,rfl⟩) λr s₁ hr=>?_;cases r with
 |error e=>exact hr
 |ok fl=>
  cases fl with
  |ret obj=>
   obtain⟨rfl,rfl⟩:=hr;have hS:(s.heap.push (bz w)).get? s.heap.objs.size=ae (bz w):=As _ rfl;have hT:Shared.TypeIs {s with heap:=s.heap.push (bz w)} (.ref s.heap.objs.size) "set":=⟨_,hS,rfl⟩;have hli:=F.called_set.init.lookup;have hbi:=F.called_set.init.bind (.ref s.heap.objs.size)
   repeat (any_goals (first|assumption|wp_step))
   refine Fx (codeAny_call_builtin (R:=wants (λr s₂=>r=.none/\∃h' tk,s₂={ s with heap:=h',toks:=tk}/\gA w h' s.heap.objs.size ks /\
     (∀b o,b < s.heap.objs.size->s.heap.get? b=ae o->h'.get? b=ae o)) E) F.called_set.init.plain F.entry_set_init (check_set_init_1 hT ?_)) λr₂ s₂ hr₂=>?_
   ·have hok1:OK (s.heap.push (bz w)):=K.keep _ _ hok λo e=>Ae _ e;have hTx:Shared.TypeIs {s with heap:=s.heap.push (bz w)} (.ref x) T:=K.type {s with heap:=s.heap.push (bz w)} hok1;have hsls:=K.notSet;have hslf:=K.notFrozen;have hne:=K.notDict;unfold D8.«set.__init__» noKeywords Builtin.Frozenset.updateFrom;generalize hPI:pyIter=PI
    wp_walk
    subst hPI;have hh3:A.in1.in1.in1.handled=af:=by simp[hh]
    obtain⟨oI,St,hit,W,st⟩:=K.iter {s with heap:=s.heap.push (bz w)} hok1;refine hit _ _ _ ?_;refine Aa (wpAny_runValue ?_);have hxS:x < s.heap.objs.size:=K.there _ hok;have hSf:s.heap.objs.size∉[(s.heap.push (bz w)).objs.size,x]:=by
     rw[Ci];simp only[Al,A8,A3,or_false,not_or];exact⟨Be (Ga _),Ee hxS⟩
    refine EA (W _ hh3).toS s.heap.objs.size hSf rfl h64 (ks.length-0) 0 _ ⋯ (Bc _) st (AN (Ae _ hS)) ?_;intro s' hm hS';obtain⟨h',g',d',tk',os'⟩:=s';have eg:g'=s.gens:=hm.gens;have ed:d'=s.drawn:=hm.drawn;have eo:os'=s.os:=hm.os;subst eg;subst ed;subst eo;show Av _ _ _ _ _ _;refine Af ?_;show Av _ _ (ret Bd) _ _ _;refine Af ⟨rfl,h',tk',rfl,hS',λb o hb e=>?_⟩;have hb1:b≠s.heap.objs.size:=Be hb;have hb2:b≠(s.heap.push (bz w)).objs.size:=by
     rw[Ci];exact Be (Ej hb)
    exact hm.heap b o (by simp only[Al,A8,A3,or_false,not_or];exact⟨hb1,hb2⟩) (Ae _ (Ae _ e))
   ·cases r₂ with
    |error e=>exact hr₂
    |ok fl₂=>
     cases fl₂ with
     |ret r=>
      obtain⟨rfl,h',tk,rfl,hS',hk'⟩:=hr₂
      repeat (any_goals (first|assumption|wp_step))
      exact h _ _ hS' hk'
     |_=>exact hr₂.elim
  |_=>exact hr.elim
theorem KG{x:Addr}{ks:List Str}{items:Array Ag}(hk:∀i v,items[i]?=ae v->gK ks i v)(hl:items.size=ks.length):TxSrc prog w "list" x ks (λh=>h.IsList x items) where
 type:=λs h=>h.typeIs
 there:=λh hl=>let⟨_,e,_⟩:=hl;An e
 keep:=λh h' hl k=>let⟨o,e,r⟩:=hl;⟨o,k o e,r⟩
 notSet:=by rw[E5];kernel_rfl
 notFrozen:=by rw[E5];kernel_rfl
 notDict:=by decide
 iter:=λs hok=>⟨_,(λi h=>h.IsListIter s.heap.objs.size x i/\h.IsList x items),(λA E Q hq=>wpAny_pyIter_list hok hq),(λA hh=>by
  have W:=Walks.list (prog:=prog) (w:=w) hh s.heap.objs.size x (Be (let⟨_,e,_⟩:=hok;An e)) items;refine⟨W.sub,W.frame,λi s Q E hi st hQ=>W.item i s Q E (by rw[hl];exact hi) st λv h' tk hv a b=>hQ v h' tk (hk i v hv) a b,?_,W.self⟩;rw[<-hl];exact W.done),⟨⟨_,As _ rfl,rfl,rfl⟩,hok.push _⟩⟩
theorem OY{x:Addr}{ks:List Str}{items:Array Ag}(hk:∀i v,items[i]?=ae v->gK ks i v)(hl:items.size=ks.length):TxSrc prog w "tuple" x ks (λh=>h.IsTuple x items) where
 type:=λs h=>h.typeIs
 there:=λh hl=>let⟨_,e,_⟩:=hl;An e
 keep:=λh h' hl k=>let⟨o,e,r⟩:=hl;⟨o,k o e,r⟩
 notSet:=by rw[E5];kernel_rfl
 notFrozen:=by rw[E5];kernel_rfl
 notDict:=by decide
 iter:=λs hok=>⟨_,(λi h=>h.IsTupleIter s.heap.objs.size x i/\h.IsTuple x items),(λA E Q hq=>G1 hok hq),(λA hh=>by
  have W:=Walks.tuple (prog:=prog) (w:=w) hh s.heap.objs.size x (Be (let⟨_,e,_⟩:=hok;An e)) items;refine⟨W.sub,W.frame,λi s Q E hi st hQ=>W.item i s Q E (by rw[hl];exact hi) st λv h' tk hv a b=>hQ v h' tk (hk i v hv) a b,?_,W.self⟩;rw[<-hl];exact W.done),⟨⟨_,As _ rfl,rfl,rfl⟩,hok.push _⟩⟩
end
def gj(w:By)(v:Addr)(ks:List Str):HO:=.ext λh=>gA w h v ks
def o7(w:By):List V->Hp->VK->Prop:=λxs H Q=>∃(a:Addr)(ks:List Str),xs=[.ref a]/\(H a=ae (.lst (ks.map V.str))\/H a=ae (.tup (ks.map V.str)))/\ks.length < 64/\∀v,H v=af->Q (.ref v) (upd H v (gj w v ks))
theorem wD{ks:List Str}{vs:List Ag}(h:Vals (ks.map V.str) vs)(i:Nat)(v:Ag)(e:vs.toArray[i]?=ae v):gK ks i v:=by
 have e':vs[i]?=ae v:=by simpa using e
 have hl:=h.length;rw[Ad]at hl;have hi:i < ks.length:=by rw[hl];exact(Bo.mp e').1
 obtain⟨u,hu,ru⟩:=h.get (show(ks.map V.str)[i]?=ae (V.str ks[i]) by rw[A0,Ah hi];rfl);rw[e']at hu;cases hu;obtain⟨t,ht⟩:=ru;exact⟨ks[i],t,Ah hi,ht⟩
theorem uQ{ks:List Str}{vs:List Ag}(h:Vals (ks.map V.str) vs):vs.toArray.size=ks.length:=by
 have hl:=h.length;rw[Ad]at hl;rw[Ap,<-hl]
theorem AL{X:Cx}(hh:X.A.handled=af):CallR X (.type "set") (o7 X.w):=by
 intro pins s σ H xs us Q I r h;obtain⟨a,ks,rfl,ha,h64,q⟩:=h;obtain⟨u,rfl,ru⟩:=fe r;cases(show u=Bf a from ru);have fin:∀(h':Heap)(tk:Nat),gA X.w h' s.heap.objs.size ks->(∀b o,b < s.heap.objs.size->s.heap.get? b=ae o->h'.get? b=ae o)->EP X pins σ Q (.ref s.heap.objs.size) {s with heap:=h',toks:=tk}:=λh' tk hS hk=>by
  have hob:∃o,h'.get? s.heap.objs.size=ae o:=by
   obtain⟨es,ep,t,T,_⟩:=hS;obtain⟨o,e,_⟩:=T.obj;exact⟨o,e⟩
  refine⟨.ref s.heap.objs.size,_,I.laid (t':=tk) (o:=gj X.w s.heap.objs.size ks) (λb o e=>hk b o (An e) e) (Aq _) ⟨hS,hob,λh1 h2 q k=>?_⟩,rfl,q _ (I.hok.fresh (Aq _))⟩;obtain⟨es,ep,t,T,r⟩:=q;exact⟨es,ep,t,T.move λo e=>k _ e,r⟩
 rcases ha with ha|ha
 ·obtain⟨hl,vs,c,hv,hL⟩:=I.hok a _ ha;exact xF (KG (wD hv) (uQ hv)) hh ⟨_,hL,rfl,_,rfl⟩ h64 fin
 ·obtain⟨hl,vs,hv,o,ho,hc,⟨n,hd⟩,_⟩:=I.hok a _ ha;exact xF (OY (wD hv) (uQ hv)) hh ⟨o,ho,hc,n,hd⟩ h64 fin
theorem Inv.drew{X:Cx}{pins:List (Addr×Obj)}{σ:St}{H:Hp}{s:Ai}(I:Inv X pins σ H s)(dr:Drawn):Inv X pins σ H {s with drawn:=dr}:=⟨I.ok,I.os,I.bare,I.base,I.loc,I.cell,I.free,I.freeC,I.pin,I.hok,I.len⟩
theorem La{X:Cx}{pins:List (Addr×Obj)}{σ:St}{H:Hp}{s:Ai}{h':Heap}{tk:Nat}{vs:List Ag}{ks:List Str}{Q:VK}(I:Inv X pins σ H s)(hkp:∀b o,s.heap.get? b=ae o->h'.get? b=ae o)(hT:h9 vs ks)(h64:ks.length < 64)
  (q:∀(D:Addr)(ys:List Str),ys.Perm ks->ys.Pairwise (λa b=>¬b.cps.toList < a.cps.toList)->H D=af->Q (.ref D) (upd H D (.lst (ys.map V.str)))):
  vs.length<=A2/\Av (A7 X.prog X.w) X.A.in1.in1 (D8.«list.sort» ⟨[.ref h'.objs.size],[]⟩) (λf s2=>f=.done (.ret .none)/\EP X pins σ Q (.ref h'.objs.size) s2) X.xe {s with heap:=h'.push (Br "list" vs.toArray 0),toks:=tk}:=by
 have hl:=hT.1;refine⟨by rw[hl];exact gS ⋯,?_⟩;have hoL:(h'.push (Br "list" vs.toArray 0)).get? h'.objs.size=ae (Br "list" vs.toArray 0):=As _ rfl;have hs':∀b o,s.heap.get? b=ae o->b≠h'.objs.size:=λb o e=>Be (An (hkp b o e));have fin:∀(idx:List Nat)(h3:Heap)(c:Nat),idx.Perm (Bh ks.length)->(idx.map λi=>ks.getD i ⟨#[]⟩).Pairwise (λa b=>¬b.cps.toList < a.cps.toList)->
   (∀b o,b≠h'.objs.size->(h'.push (Br "list" vs.toArray 0)).get? b=ae o->h3.get? b=ae o)->h3.get? h'.objs.size=ae (Br "list" (Dg (idx.map λi=>vs.getD i Bd)) c)->EP X pins σ Q (.ref h'.objs.size) {s with heap:=h3,toks:=tk}:=λidx h3 c hp hw k3 hL=>by
  have I1:Inv X pins σ H {s with heap:=h',toks:=tk}:=I.kept hkp;have hn:H h'.objs.size=af:=I1.hok.fresh (Aq _);refine⟨.ref h'.objs.size,_,I1.laid (t':=tk) (h':=h3) (o:=.lst ((idx.map λi=>ks.getD i ⟨#[]⟩).map V.str)) (λb o e=>k3 b o (Be (An e)) (Ae _ e)) (Aq _) ⟨?_,_,c,vf hT idx (λi hi=>Bs.mp (hp.mem_iff.mp hi)),hL⟩,rfl,q _ _ (NM hp) hw hn⟩;rw[Ad,Ad,hp.length_eq,Cs];exact gS ⋯
 by_cases h2:2<=vs.length
 ·refine KS.ls_sort (s:={ s with heap:=h'.push (Br "list" vs.toArray 0),toks:=tk}) hoL h2 ⋯ λe1 h4 ha4 k4=>?_;refine kas_kind (s:={ s with heap:=h4,toks:=tk}) (T:=C9 "str") h2 (λf hf=>?_) rfl rfl ?_
  ·obtain⟨j,hj⟩:=List.mem_iff_getElem?.mp hf;obtain⟨k,t,_,rfl⟩:=hT.2 j f hj;exact .now
  ·have hn:0 < vs.length:=by omega
   have hwi:=KS.wi_sort hn;refine KS.wp_run (n:=vs.length) (P:=KS.Pm vs.length) (c:=KS.ltK ks) (St:=λs'=>s'={ s with heap:=h4,toks:=tk}) (λi j C s' hi hj hs hC=>?_) _ _ hwi rfl λs' hs'=>?_
   ·subst hs;obtain⟨k1,t1,a1,a2⟩:=hT.2 i vs[i] (Ah hi);obtain⟨k2,t2,b1,b2⟩:=hT.2 j vs[j] (Ah hj);unfold kas_ask;have g1:vs.getD i Bd=.str k1 t1:=by simp[hi,a2]
    have g2:vs.getD j Bd=.str k2 t2:=by simp[hj,b2]
    rw[g1,g2];have c1:ks.getD i ⟨#[]⟩=k1:=by simp[a1]
    have c2:ks.getD j ⟨#[]⟩=k2:=by simp[b1]
    have:=hC _ rfl;unfold KS.ltK at this;rw[c1,c2]at this;exact kas_lt_str this
   ·subst hs';refine⟨ha4,λh3 c sb hL3=>⟨rfl,?_⟩⟩;have hpm:KS.Pm vs.length (KS.run (KS.ltK ks) (Gw vs.length)):=KS.Wi.out _ hwi;have hsp:=KS.sort_ok (KS.ordK ks) (n:=vs.length) hn;have hsz:=hpm.size;have hidx:(KS.run (KS.ltK ks) (Gw vs.length)).toList.Perm (Bh vs.length):=by
     have:=Hl.mp hpm;simpa using this
    refine fin _ h3 c (by rw[<-hl];exact hidx) (Kf hsz hsp) (λb o hb e=>(sb.2 b hb).trans (k4 b o hb e)) hL3
 ·refine KS.ls_short (s:={ s with heap:=h'.push (Br "list" vs.toArray 0),toks:=tk}) hoL ⋯ λh4 c ha4 k4=>⟨rfl,?_⟩;have el:vs=(Bh ks.length).map λi=>vs.getD i Bd:=by
   apply Ew (by simp[hl]);intro i h1 h2;simp[h1]
  have ha5:h4.get? h'.objs.size=ae (Br "list" (Dg ((Bh ks.length).map λi=>vs.getD i Bd)) c):=by rw[<-el];exact ha4
  refine fin (Bh ks.length) h4 c (List.Perm.refl _) ?_ k4 ha5;have:(Bh ks.length).length<=1:=by simp;omega
  match hr:Bh ks.length,this with
  |[],_=>exact .nil
  |[i],_=>exact Ei _ _
def qX(w:By):List V->Hp->VK->Prop:=λxs H Q=>∃(v:Addr)(ks:List Str),xs=[.ref v]/\H v=ae (gj w v ks)/\ks.length < 64 /\
 ∀(D:Addr)(ys:List Str),ys.Nodup->(∀k,k∈ys↔k∈ks)->ys.Pairwise (λa b=>¬b.cps.toList < a.cps.toList)->H D=af->Q (.ref D) (upd H D (.lst (ys.map V.str)))
theorem Oj{w:By}{es vs:List (Int×Ag)}(h:∀e∈es,∃k t,e.2=.str k t/\e.1=hashStr w k)(p:vs.Perm es):h9 (vs.map (·.2)) (vs.map λe=>eO e.2):=by
 refine⟨by rw[Ad,Ad],λj v hj=>?_⟩;rw[A0]at hj;cases e:vs[j]? with
 |none=>rw[e]at hj;cases hj
 |some x=>
  rw[e]at hj;obtain⟨k,t,e1,_⟩:=h x (p.mem_iff.mp (B6 e));have hv:x.2=v:=Bi hj;refine⟨k,t,?_,hv▸e1⟩;rw[A0,e];show ae (eO x.2)=ae k;rw[e1];rfl
theorem CY{X:Cx}(hh:X.A.handled=af):CallR X (.builtin "sorted") (qX X.w):=by
 intro pins s σ H xs us Q I r h;obtain⟨v,ks,rfl,hv,h64,q⟩:=h;obtain⟨u,rfl,ru⟩:=fe r;cases(show u=Bf v from ru);obtain⟨es,ep,t,T,hx,nd,hm,hl⟩:=(I.hok v _ hv).1;have h64':es.size < 64:=Hs hl h64;refine KS.sorted_of (R:=λvs s1=>∃(h':Heap)(tk:Nat)(dr:Drawn)(ys:List Str),s1={ s with heap:=h',toks:=tk,drawn:=dr}/\(∀b o,s.heap.get? b=ae o->h'.get? b=ae o)/\h9 vs ys/\ys.Nodup/\(∀k,k∈ys↔k∈ks)/\ys.length < 64)
  (LI hh T h64' λh' tk dr vs hp hk=>?_) ?_
 ·have pk:(vs.map λe=>eO e.2).Perm (bO es):=List.Perm.map (λe:Int×Ag=>eO e.2) hp;exact⟨h',tk,dr,vs.map λe=>eO e.2,rfl,hk,Oj hx hp,pk.nodup_iff.mpr nd,λk=>pk.mem_iff.trans (hm k),by rw[Ad,hp.length_eq,Az];exact h64'⟩
 rintro vs s1 ⟨h',tk,dr,ys,rfl,hkp,hT,nd',hm',h64'⟩
 exact La (s:={ s with drawn:=dr}) (I.drew dr) hkp hT h64' λD zs hp hw hD=>q D zs (hp.nodup_iff.mpr nd') (λk=>hp.mem_iff.trans (hm' k)) hw hD
end L2
namespace DL
open PySem L2 Nb
section
variable{X:Cx}{o:Expr}{td:TE}{wd':DT}{pos p p2 ip:Pos}{W:By}
def mI(ys:List Str):Prop:=ys.Pairwise λa b=>¬b.cps.toList < a.cps.toList
def jJ(w:DT):dX:=λδ n Q=>w δ n λx n1=>∃ks:List Str,(x=.d (.list (ks.map .str))\/x=.d (.tuple (ks.map .str)))/\ks.length < 64/\(∀k∈ks,k.length<=1000) /\
 ∀ys:List Str,ys.Nodup->(∀k,k∈ys↔k∈ks)->mI ys->Q (ys.map .str) n1
theorem kJ{α:Type}:∀{xs ys:List α},xs.Nodup->(∀x∈xs,x∈ys)->xs.length<=ys.length
 |[],_,_,_=>Bc _
 |x::xs,ys,nd,h=>by
  obtain⟨h1,h2⟩:=Ek.mp nd;obtain⟨l,r,e⟩:=List.append_of_mem (h x Am);have:=kJ (ys:=l++r) h2 λz hz=>by
   have hm:=h z (Ar _ hz);rw[e]at hm;rcases A6.mp hm with q|q
   ·exact Dz _ q
   ·rcases Al.mp q with q|q
    ·exact absurd (q▸hz) h1
    ·exact A1 _ q
  rw[e];simp only[Ax,Ao]at this ⊢;omega
theorem rP{H:Hp}{B:Addr->Prop}:∀{xs:List V}{ks:List Str},RdXs H B xs (ks.map .str)->xs=ks.map V.str
 |[],[],_=>rfl
 |_::_,[],h=>nomatch h
 |[],_::_,h=>nomatch h
 |x::xs,k::ks,.cons h t=>by
  cases h;rw[rP t];rfl
theorem KC(hh:X.A.handled=af)(hg:Gl X "sorted")(hm:X.mg "sorted"=af)(hg2:Gl X "set")(hm2:X.mg "set"=af)(ho:DE X o td wd')(hW:X.w=W:=by rfl)(hv:Bx "sorted"=ae (.builtin "sorted"):=by decide +kernel)(hv2:Bx "set"=ae (.type "set"):=by decide +kernel)
  (he2:Aw [o] X.env=(ai,eval o X.env)::Aw [] X.env:=by rfl) (hpl2:(D2 ip (Aw [] X.env)).any (·.1)=ai:=by rfl)
  (he':Aw [Expr.Call (.Name "set" p2) [o] [] ip] X.env=(ai,eval (Expr.Call (.Name "set" p2) [o] [] ip) X.env)::Aw [] X.env:=by rfl) (hpl:(D2 pos (Aw [] X.env)).any (·.1)=ai:=by rfl):
  DF X (.Call (.Name "sorted" p) [.Call (.Name "set" p2) [o] [] ip] [] pos) (eR (qX W) (c9 (eR (o7 W) (c9 td bF)) bF)) (jJ wd'):=by
 subst hW;refine⟨iX (CY hh) hg hm hv (bY (kQ (AL hh) hg2 hm2 hv2 (bY ho.pe dz he2) ∎ ∎ he2 hpl2) dz he') ∎ ∎ he' hpl,λC H B σ δ n Q Q' R q k=>
  ho.sd C H B σ δ n _ _ R q λv x H1 n1 R1 k1 r1 q1=>?_⟩
 obtain⟨ks,hx,h64,hk,kq⟩:=q1;have key:∀a:Addr,v=.ref a->(H1 a=ae (.lst (ks.map V.str))\/H1 a=ae (.tup (ks.map V.str)))->eR (qX X.w) (c9 (λσ H Q=>o7 X.w [v] H Q) bF) σ H1 Q':=λa ea ha=>by
  subst ea;refine⟨a,ks,rfl,ha,h64,λu hu=>⟨u,ks,rfl,bI,h64,λD ys nd hm hw hD=>?_⟩⟩;have R2:=R1.new (o:=gj X.w u ks) hu;have hD1:H1 D=af:=by
   cases e:H1 D with
   |none=>rfl
   |some ob=>
    have:upd H1 u (gj X.w u ks) D=ae ob:=by rw[aX (b7 e hu)];exact e
    rw[hD]at this;cases this
  have hy:∀y∈ys,y.length<=1000:=λy hy=>hk y ((hm y).mp hy);refine k D _ _ _ n1 (R2.new hD) ((k1.trans (Kp.new hu)).trans (Kp.new hD)) (R1.was k1 hD1) bI ?_ (sf hy) (kq ys nd hm hw);rw[Ad];have:ys.length<=ks.length:=kJ nd λy hy=>(hm y).mp hy;exact gS ⋯
 rcases hx with rfl|rfl
 ·cases(show RdX H1 B v (.list (ks.map .str))from r1)with
  |@lst a xs _ e1 e2 e3 e4=>exact key a rfl (.inl (by rw[e1,rP e4]))
 ·cases(show RdX H1 B v (.tuple (ks.map .str))from r1)with
  |@tup a xs _ e1 e2 e3 e4=>exact key a rfl (.inr (by rw[e1,rP e4]))
variable{a:Expr}{ta:TE}{wa:DT}{K:Aj}
end
section
variable{X:Cx}{a b c e o i f:Expr}{ta tb te td ty tx:TE}{wa wb we wd' wy wx:DT}{pos p:Pos}{K:Aj}
def de(i:Nat):DT:=λδ n Q=>match δ[i]? with
 |some (ae (.own ds))=>Q (.ln ds) n
 |some (ae (.w x))=>Q x n
 |_=>False
theorem Lp(i:Nat){x:Str}{p:Pos}(hN:X.N[i]?=ae x:=by rfl)(hv:fq X.env.scope x:=by first|exact Ea rfl|exact C6 (Ea rfl)|exact C6 (C6 rfl))(hd:(x==("__debug__":Str))=ai:=by decide)
  (hcd:(x==("__classdict__":Str))=ai:=by decide):DE X (.Name x p) (dc i) (de i):=⟨gM hN hv hd hcd,λC H B σ δ n Q Q' R h k=>by
 unfold de at h
 split at h
 ·rename_i ds e;obtain⟨v,h1,a,xs,rfl,g2,g3,g4,g5,g6⟩:=R.sl i _ e;exact⟨_,h1,k _ (.ln ds) H n R (Kp.refl _ _) ⟨a,xs,rfl,g2,λz=>R.t0 (z▸g4),g5,g6⟩ h⟩
 ·rename_i x e;obtain⟨v,h1,h2⟩:=R.sl i _ e;exact⟨v,h1,k v x H n R (Kp.refl _ _) h2.1 h⟩
 ·exact h.elim⟩
def aY:Wv->Wv->Int->DQ->Prop:=λx y n Q=>match x with
 |.ln ds=>match y with
  |.d (.int i)=>match cM ds i with
   |some d=>Q (.d d) n
   |none=>False
  |_=>False
 |x=>aC x y n Q
theorem DX:bj (jm K) aY:=λC H B σ δ n x y p q Q Q' R rx ry h1 k=>by
 cases p with
 |ln ds=>
  unfold aY at h1;dsimp only at h1
  split at h1
  ·rename_i i
   split at h1
   ·rename_i d e;cases(show RdX H B y (.int i)from ry);obtain⟨ay,ys,rfl,e1,e2,e3,e4⟩:=rx;obtain⟨v,f1,f2⟩:=rh e4 e;exact .inl ⟨ay,ys,i,v,rfl,rfl,SqL.of e1,f1,k _ _ H n R (Kp.refl _ _) (wd f2) h1⟩
   ·exact h1.elim
  ·exact h1.elim
 |d _=>exact kA C H B σ δ n x y _ q Q Q' R rx ry h1 k
 |tp=>exact kA C H B σ δ n x y _ q Q Q' R rx ry h1 k
 |dk _=>exact kA C H B σ δ n x y _ q Q Q' R rx ry h1 k
 |ob _=>exact kA C H B σ δ n x y _ q Q Q' R rx ry h1 k
theorem Jh(ha:DE X a ta wa)(hb:DE X b tb wb)(hK:X.K=K:=by rfl)(hs:nH b:=by exact λ_ _=>rfl):DE X (.Subscript a b pos) (d4 (jm K) ta tb) (w2 wa wb aY):=by
 subst hK;exact⟨fY r8 ha.pe hb.pe hs,l3 DX ha.sd hb.sd⟩
def dE(neg:Bool):Wv->Wv->Int->DQ->Prop:=λx y n Q=>match y with
 |.ln ds=>match x with
  |.d a=>gs a=ah/\ds.all gs=ah/\Q (.d (.bool (if neg then !cQ a ds else cQ a ds))) n
  |_=>False
 |y=>iS neg x y n Q
theorem DM{neg:Bool}:bj (iM K neg) (dE neg):=λC H B σ δ n x y p q Q Q' R rx ry h1 k=>by
 cases q with
 |ln ds=>
  unfold dE at h1;dsimp only at h1
  split at h1
  ·rename_i da;obtain⟨f1,f2,q⟩:=h1;have rx:RdX H B x da:=rx;obtain⟨ay,ys,rfl,e1,e2,e3,e4⟩:=ry;refine⟨ay,ys,rfl,.inl (SqL.of e1),ll rx f1,kH e4 f2,?_⟩;rw[lC rx e4];exact k _ _ H n R (Kp.refl _ _) (wd (.bl _)) q
  ·exact h1.elim
 |d _=>exact lU C H B σ δ n x y p _ Q Q' R rx ry h1 k
 |tp=>exact lU C H B σ δ n x y p _ Q Q' R rx ry h1 k
 |dk _=>exact lU C H B σ δ n x y p _ Q Q' R rx ry h1 k
 |ob _=>exact lU C H B σ δ n x y p _ Q Q' R rx ry h1 k
def eB:List Wv->Int->DQ->Prop:=λxs n Q=>match xs with
 |[.ln ds]=>Q (.d (.int ds.length)) n
 |xs=>aH xs n Q
theorem DJ:cK (qP K) eB:=λC H B σ δ n vs xs Q Q' R r h k=>by
 unfold eB at h
 split at h
 ·rename_i ds;cases r with
  |cons r1 r2=>
   cases r2;obtain⟨ay,ys,rfl,e1,e2,e3,e4⟩:=r1;refine .inr ⟨ay,ys,rfl,.inl (SqL.of e1),?_⟩;rw[e4.len];exact k _ _ H n R (Kp.refl _ _) (wd (.int _)) h
 ·exact tK C H B σ δ n vs xs Q Q' R r h k
def bJ:Wv->Wv->Int->DQ->Prop:=λx y n Q=>match x,y with
 |.ln ds,.d (.list [])=>Q (.d (.bool ds.isEmpty)) n
 |x,y=>ck x y n Q
theorem M7:bj (jo K) bJ:=λC H B σ δ n x y p q Q Q' R rx ry h1 k=>by
 unfold bJ at h1
 split at h1
 ·rename_i ds;obtain⟨ax,xs,rfl,e1,e2,e3,e4⟩:=rx;cases(show RdX H B y (.list [])from ry)with
  |@lst ay ys _ f1 f2 f3 f4=>
   cases f4;refine .inr (.inr ⟨ax,ay,xs,rfl,rfl,SqL.of e1,SqL.of f1,?_⟩);have:xs.isEmpty=ds.isEmpty:=by cases e4<;>rfl
   rw[this];exact k _ _ H n R (Kp.refl _ _) (wd (.bl _)) h1
 ·exact pB C H B σ δ n x y p q Q Q' R rx ry h1 k
def gB:Wv->Option (List Ab)
 |.ln ds=>ae ds
 |.d (.list ds)=>ae ds
 |_=>af
def eT:Wv->Wv->Int->DQ->Prop:=λx y n Q=>match gB x,gB y with
 |some i,ae j=>i.length+j.length<=A2/\Q (.d (.list (i++j))) n
 |_,_=>False
theorem vn{H:Hp}{B:Addr->Prop}{t:Addr}{v:V}{x:Wv}{ds:List Ab}(h:WRel H B t v x)(e:gB x=ae ds):∃a xs,v=.ref a/\H a=ae (.lst xs)/\xs.length<=A2/\RdXs H B xs ds:=by
 cases x with
 |ln es=>
  cases e;obtain⟨a,xs,h1,h2,h3,h4,h5⟩:=h;exact⟨a,xs,h1,h2,h4,h5⟩
 |d y=>
  cases y with
  |list es=>
   cases e;cases(show RdX H B v (.list ds)from h)with
   |@lst a xs _ e1 e2 e3 e4=>exact⟨a,xs,rfl,e1,e3,e4⟩
  |_=>cases e
 |tp=>cases e
 |dk _=>cases e
 |ob _=>cases e
theorem OA:bj ia eT:=λC H B σ δ n x y p q Q Q' R rx ry h1 k=>by
 unfold eT at h1
 split at h1
 ·rename_i i j ei ej;obtain⟨ax,xs,rfl,e1,e3,e4⟩:=vn rx ei;obtain⟨ay,ys,rfl,f1,f3,f4⟩:=vn ry ej;obtain⟨hl,q⟩:=h1;have hl':xs.length+ys.length<=A2:=by rw[e4.len,f4.len];exact hl
  refine⟨ax,ay,xs,ys,rfl,rfl,e1,f1,hl',λpn hp=>?_⟩;refine k _ _ _ n (R.new hp) (Kp.new hp) (wd (show RdX _ B _ (.list (i++j))from .lst bI (R.nb hp) (by rw[Ao];exact hl') ?_)) q;exact((e4.append f4).fresh hp).less λb z=>.inl z
 ·exact h1.elim
theorem JB(ha:DE X a ta wa)(hb:DE X b tb wb):DE X (.BinOp a .Add b pos) (d4 ia ta tb) (w2 wa wb eT):=gw zV OA ha hb
end
section
variable{X:Cx}{a b c e o i f:Expr}{ta tb te td ty tx:TE}{wa wb we wd' wy wx:DT}{pos p:Pos}{K:Aj}
def d8(w:DT)(g:dO):aM:=λδ n K=>w δ n λx n1=>match x with
 |.d d=>g d δ λδ'=>K.nx δ' n1
 |_=>False
theorem Lm{tg:Expr}{g:TG}{gd:dO}(he:DE X e te we)(hg:DG X tg g gd)(hs:swapsWithSole [tg] e pos.line X.env=pure ai:=by rfl)(hw:swappedStores [tg] e X.env=pure af:=by rfl)
  (h1:(Es [tg] X.env).map (·.2)=[assign tg X.env]:=by rfl):DS X (.Assign [tg] e pos) (c6 te g) (d8 we gd):=⟨mr he.pe hg.pg hs hw h1,λC H B σ δ n K D R q E=>
 he.sd C H B σ δ n _ _ R q λv x H1 n1 R1 k1 r1 q1=>by
  cases x with
  |d d=>exact hg.sd C H1 B σ δ n1 v d _ _ R1 r1 q1 λσ' δ' R' q'=>E.nx _ _ _ _ _ R' q'
  |tp=>exact q1.elim
  |dk _=>exact q1.elim
  |ln _=>exact q1.elim
  |ob _=>exact q1.elim⟩
def kz:Wv->Option (List Ab)
 |.ln ds=>ae ds
 |.d (.list ds)=>ae ds
 |.d (.tuple ds)=>ae ds
 |_=>af
theorem FA{H:Hp}{B:Addr->Prop}{t:Addr}{v:V}{x:Wv}{ds:List Ab}(h:WRel H B t v x)(e:kz x=ae ds):∃a xs,v=.ref a/\(SqL K H a xs\/SqT K H a xs)/\xs.length<=A2/\RdXs H B xs ds:=by
 cases x with
 |ln es=>
  cases e;obtain⟨a,xs,h1,h2,h3,h4,h5⟩:=h;exact⟨a,xs,h1,.inl (SqL.of h2),h4,h5⟩
 |d y=>
  cases y with
  |list es=>
   cases e;cases(show RdX H B v (.list ds)from h)with
   |@lst a xs _ e1 e2 e3 e4=>exact⟨a,xs,rfl,.inl (SqL.of e1),e3,e4⟩
  |tuple es=>
   cases e;cases(show RdX H B v (.tuple ds)from h)with
   |@tup a xs _ e1 e2 e3 e4=>exact⟨a,xs,rfl,.inr (SqT.of e1),e3,e4⟩
  |_=>cases e
 |tp=>cases e
 |dk _=>cases e
 |ob _=>cases e
def iT(w:DT):dX:=λδ n Q=>w δ n λx n1=>match kz x with
 |some ds=>Q ds n1
 |none=>False
theorem BF(hg:Gl X "list")(hm:X.mg "list"=af)(ho:DE X o td wd')(hK:X.K=K:=by rfl)(he:Aw [o] X.env=(ai,eval o X.env)::Aw [] X.env:=by rfl)(hpl:(D2 pos (Aw [] X.env)).any (·.1)=ai:=by rfl):
  DF X (.Call (.Name "list" p) [o] [] pos) (eR (o3 K) (c9 td bF)) (iT wd'):=
 ⟨kQ (vF hK) hg hm pq (bY ho.pe dz he) ∎ ∎ he hpl,λC H B σ δ n Q Q' R q k=>ho.sd C H B σ δ n _ _ R q λv x H1 n1 R1 k1 r1 q1=>by
  split at q1
  ·rename_i ds ex;obtain⟨a,xs,rfl,h1,h2,h3⟩:=FA (K:=K) r1 ex;refine⟨a,xs,rfl,h1,λl hl=>?_⟩;exact k l xs ds _ n1 (R1.new hl) (k1.trans (Kp.new hl)) (R1.was k1 hl) bI h2 (h3.fresh hl) q1
  ·exact q1.elim⟩
def eQ:List Wv->Int->DQ->Prop:=λxs n Q=>match xs with
 |[.ln ds]=>Q (.d (.tuple ds)) n
 |xs=>fO xs n Q
theorem JA:cK (sx K) eQ:=λC H B σ δ n vs xs Q Q' R r h k=>by
 unfold eQ at h
 split at h
 ·rename_i ds;cases r with
  |cons r1 r2=>
   cases r2;obtain⟨ay,ys,rfl,e1,e2,e3,e4⟩:=r1;refine⟨ay,ys,rfl,.inl ⟨SqL.of e1,λl hl=>?_⟩⟩;refine k _ _ _ n (R.new hl) (Kp.new hl) (wd (show RdX _ B _ (.tuple ds)from .tup bI (R.nb hl) e3 ?_)) h;exact(e4.fresh hl).less λb z=>.inl z
 ·exact uT C H B σ δ n vs xs Q Q' R r h k
def eW(i:Nat)(w:DT):aM:=λδ n K=>match δ[i]? with
 |some (ae (.own ds))=>w δ n λx n1=>match x with
  |.d (.list es)=>(ds.length < 1000000/\es.length < 1000000)/\K.nx (δ.set i (ae (.own (ds++es)))) n1
  |_=>False
 |_=>False
theorem mO{n m:Nat}(h:n < 1000000)(h':m < 1000000):n+m<=A2:=by
 have:2000000<=A2:=by decide
 omega
theorem ND{i:Nat}{x:Str}{xp ap cp:Pos}(hN:X.N[i]?=ae x)(he:DE X e te we)(hv:fq X.env.scope x:=by first|exact Ea rfl|exact C6 (Ea rfl)|exact C6 (C6 rfl))(hd:(x==("__debug__":Str))=ai:=by decide)
  (hcd:(x==("__classdict__":Str))=ai:=by decide)
  (hbase:Gx (.Name x xp) "extend" X.env (eval (.Name x xp) X.env)=eval (.Name x xp) X.env:=by rfl)
  (hfew:((D2 cp (Aw [e] X.env)).all (λx=>!x.1)&&(backToKw cp (keywordEach [] X.env)).all (λx=>x.1.isSome)
   && decide ([e].length+([]:List Keyword).length+(if ([]:List Keyword).isEmpty then 0 else 1) < 30))=ah:=by rfl)
  (hline:(ap.endLine==cp.line)=ah:=by rfl) (hs:Aw [e] X.env=[(ai,eval e X.env)]:=by rfl) (hplain:(D2 cp (Aw [] X.env)).any (·.1)=ai:=by rfl)
  (hsw:F1 (.Call (.Attribute (.Name x xp) "extend" ap) [e] [] cp) af pos.line X.env=pure ai:=by rfl):
  DS X (.Expr (.Call (.Attribute (.Name x xp) "extend" ap) [e] [] cp) pos) (j5 (lh X.K "list" yH (dc i) (c9 te bF))) (eW i we):=
 ⟨kR (mQ E8 PySem.F.slot_list_extend PySem.F.type_list_extend AJ (gM hN hv hd hcd) (bY he.pe dz hs) hbase hfew hline hs hplain) hsw,λC H B σ δ n K D R q E=>by
  unfold eW at q
  split at q
  ·rename_i ds ei;obtain⟨v,hv,a,xs,rfl,e2,e3,e4,e5,e6⟩:=R.sl i _ ei;refine⟨_,hv,.inl ⟨rfl,_,SqL.of e2⟩,he.sd C H B σ δ n _ _ R q λu y H1 n1 R1 k1 r1 q1=>?_⟩
   split at q1
   ·rename_i es;have hat:a≠C.t:=λz=>R.t0 (z▸e4);have e2':=k1 _ _ e2 hat;cases(show RdX H1 B u (.list es)from r1)with
    |@lst b zs _ f1 f2 f3 f4=>
     have hl:xs.length+zs.length<=A2:=by rw[e6.len,f4.len];exact mO q1.1.1 q1.1.2
     refine⟨a,b,xs,zs,rfl,rfl,e2',f1,hl,?_⟩;refine E.nx _ _ _ _ _ (R1.mutOwn ei rfl hv e3 e4 ?_ rfl) q1.2;refine⟨a,xs++zs,rfl,bI,e3,e4,by rw[Ao];exact hl,?_⟩;refine RdXs.keep (λb o e n=>?_) ((e6.kp k1 R.bt).append f4);rw[aX λ(z:b=a)=>n (z▸e3)];exact e
   ·exact q1.elim
  ·exact q.elim⟩
def fE(i j:Str):Bool:=!(Hk j i 0 j.length 1).isEmpty
def jt(neg:Bool):Wv->Wv->Int->DQ->Prop:=λx y n Q=>match x,y with
 |.d (.str i),.d (.str j)=>Q (.d (.bool (if neg then !fE i j else fE i j))) n
 |_,_=>False
theorem Kz(H:Hp)(B:Addr->Prop):RdXs H B nA jh:=.cons .non (.cons .non (.cons .non (.cons (.int _) (.cons (.int _) (.cons (.int _) (.cons (.int _) .nil))))))
def dG(i:Nat):DT:=λδ n Q=>match δ[i]? with
 |some (ae (.w .tp))=>Q (.ln jh) n
 |_=>False
theorem Ks(i:Nat){x:Str}{ix:Int}{p p2:Pos}{jj}(hK:X.K=K:=by rfl)(hN:X.N[i]?=ae x:=by rfl)(hv:fq X.env.scope x:=by first|exact Ea rfl|exact C6 (Ea rfl)|exact C6 (C6 rfl))(hd:(x==("__debug__":Str))=ai:=by decide)
  (hcd:(x==("__classdict__":Str))=ai:=by decide):DE X (.Subscript (.Name x p) (.Constant (.int 3) jj p2) pos) (d4 (jm K) (dc i) (tC (.int 3))) (dG i):=by
 subst hK;refine⟨fY r8 (gM hN hv hd hcd) bV (λ_ _=>rfl),λC H B σ δ n Q Q' R h k=>?_⟩;unfold dG at h
 split at h
 ·rename_i e;obtain⟨v,h1,h2⟩:=R.sl i _ e;cases(show v=.ref C.t from h2.1);obtain⟨a,b,ho,_⟩:=R.tp.ob;refine⟨_,h1,.inl ⟨C.t,_,3,.ref C.l.g,rfl,rfl,SqL.of ho,eE (j:=3) rfl,k _ (.ln jh) H n R (Kp.refl _ _) ⟨C.l.g,nA,rfl,R.tp.ag rfl,R.tp.gne,by decide,Kz _ _⟩ h⟩⟩
 ·exact h.elim
end
end DL
namespace L2
open PySem PySem.Spec PyProof.Rows
end L2
namespace DL
open PySem L2 Nb
end DL
namespace HT
open PySem PyProof.Rows
open PySem.SeqAt
open PySem.AutoSeq1 (wpAny_loadPart')
open PySem.MeetsSeq PySem.MeetsSeq2 PySem.MeetsSeq3
section
variable{prog:Bn}{w:By}{A:Bt}{E:Ag->Ai->Prop}{s:Ai}
theorem getItem_tuple_whole{t sl:Addr}{items:Array Ag}{vl vu:Ag}{lo hi:Option Int}{Q:Ag->Ai->Prop}(ht:IsTup s.heap t items)(hs:s.heap.IsSliceOf sl vl vu .none)(pl:IsPart vl lo)(pu:IsPart vu hi)
  (h0:sIx items.size 0 lo=0) (h1:sIx items.size items.size hi=items.size) (h:Q (.ref t) s):Av (A7 prog w) A (getItem (.ref t) (.ref sl)) Q E s:=by
 obtain⟨os,hos,hcs,hds⟩:=id hs;have hTs:s.TypeIs (.ref sl) "slice":=⟨os,hos,hcs⟩;unfold getItem
 try with_reducible refine Cg ?_
 first|refine Aa (Af ?_)|skip
 refine Aa (wpAny_sequenceKey ht.typeIs ∎ ?_);refine Aa (Bz (name:=C0 "__getitem__") ht.typeIs Dd
  (Ca Dd ht.typeIs entry_tuple_getitem ?_ (args_tuple_getitem _ _)))
 show Av _ _ (Fm (.ref t)>>=_) _ _ s;refine Aa (tupleItemsOf_ ht ?_);refine Aa (Ez hTs ?_);rw[if_pos ∎];refine Aa (u7 hs pl pu ?_);have hyes:(((sIx items.size 0 lo:Nat):Int)==0&&(1:Int)==1&&(sIx items.size items.size hi-sIx items.size 0 lo)==items.size)=ah:=by
  rw[h0,h1];simp
 show Av _ _ (if (((sIx items.size 0 lo:Nat):Int)==0&&(1:Int)==1&&(sIx items.size items.size hi-sIx items.size 0 lo)==items.size)=ah then _ else _) _ _ s;rw[if_pos hyes];unfold Builtin.Tuple.tupleIsExact;refine Aa (Aa (Ez ht.typeIs (Af ?_)));rw[if_pos ∎];exact Aa (Fw (Af ⟨_,rfl,Af h⟩))
end
end HT
namespace L2
open PySem PySem.Spec PyProof.Rows
def kY(K:Aj):V->Option Int->Option Int->Hp->VK->Prop:=λx lo hi H Q=>∃a xs,x=.ref a/\SqT K H a xs/\HT.sIx xs.length 0 lo=0/\HT.sIx xs.length xs.length hi=xs.length/\Q (.ref a) H
theorem Jk{X:Cx}:SlR X (kY X.K):=by
 intro pins s σ H x v vl vu lo hi sl Q I rx hs pl pu h;obtain⟨a,xs,rfl,hx,h0,h1,q⟩:=h;cases rx;obtain⟨its,r,ht,hz⟩:=I.tuple hx;have hlen:its.toArray.size=xs.length:=by rw[Ap];exact r.length.symm
 refine⟨"tuple",_,PyProof.Rows.slot_tuple_getitem.lookup,ht.typeIs,?_⟩;exact HT.getItem_tuple_whole ht hs pl pu (by rw[hlen];exact h0) (by rw[hlen];exact h1) ⟨.ref a,H,I,rfl,q⟩
end L2
namespace DL
open PySem L2 Nb
section
variable{X:Cx}{e:Expr}{te:TE}{we:DT}{pos p2:Pos}{K:Aj}{lo hi:Option Expr}
abbrev j6:=Sl->Int->(Option Int->Int->Prop)->Prop
def bW:j6:=λ_ n Q=>Q af n
def bX(w:DT):j6:=λδ n Q=>w δ n λx n1=>match x with
 |.d (.int i)=>Q (ae i) n1
 |_=>False
def Ii(t:TO)(w:j6):Prop:=∀(C:Ctx)(H:Hp)(B:Addr->Prop)(σ:St)(δ:Sl)(n:Int)(Q:Option Int->Int->Prop)(Q':Option Int->Hp->Prop),Rel C H B σ δ n->w δ n Q->
 (∀o H' n',Rel C H' B σ δ n'->Kp C.t H H'->Q o n'->Q' o H')->t σ H Q'
structure DOp(X:Cx)(o:Option Expr)(t:TO)(w:j6):Prop where
 po:PO X o t
 sd:Ii t w
theorem BU:DOp X af tV bW:=⟨vc,λC H B σ δ n Q Q' R q k=>k af H n R (Kp.refl _ _) q⟩
theorem Jz(h:DE X e te we):DOp X (ae e) (tQ te) (bX we):=⟨uP h.pe,λC H B σ δ n Q Q' R q k=>h.sd C H B σ δ n _ _ R q λv x H1 n1 R1 k1 r1 q1=>by
 split at q1
 ·rename_i i;cases(show RdX H1 B v (.int i)from r1);exact⟨i,rfl,k (ae i) H1 n1 R1 k1 q1⟩
 ·exact q1.elim⟩
def bg(xs:List Ab)(lo hi:Option Int):List Ab:=(xs.drop (HT.sIx xs.length 0 lo)).take (HT.sIx xs.length xs.length hi-HT.sIx xs.length 0 lo)
def bZ(w:DT)(l u:j6):DT:=λδ n Q=>w δ n λx n1=>l δ n1 λa n2=>u δ n2 λb n3=>match x with
 |.d (.tuple ds)=>Q (.d (.tuple (bg ds a b))) n3
 |_=>False
def rq(K:Aj):V->Option Int->Option Int->Hp->VK->Prop:=λx lo hi H Q=>lP K x lo hi H Q\/kY K x lo hi H Q
theorem AM{tl th:TO}{wl wh:j6}(he:DE X e te we)(hl:DOp X lo tl wl)(hh:DOp X hi th wh)(hK:X.K=K:=by rfl):DE X (.Subscript e (.Slice lo hi af p2) pos) (tM (rq K) te tl th) (bZ we wl wh):=by
 subst hK;refine⟨wX (sl_tup.or Jk) he.pe hl.po hh.po,λC H B σ δ n Q Q' R q k=>he.sd C H B σ δ n _ _ R q λv x H1 n1 R1 k1 r1 q1=>
  hl.sd C H1 B σ δ n1 _ _ R1 q1 λa H2 n2 R2 k2 q2=>hh.sd C H2 B σ δ n2 _ _ R2 q2 λb H3 n3 R3 k3 q3=>?_⟩
 split at q3
 ·rename_i ds;have r3:RdX H3 B v (.tuple ds):=(r1.kp k2 R1.bt).kp k3 R2.bt;cases r3 with
  |@tup aa xs _ e1 e2 e3 e4=>
   have kk:=(k1.trans k2).trans k3;by_cases hw:HT.sIx xs.length 0 a=0/\HT.sIx xs.length xs.length b=xs.length
   ·refine .inr ⟨aa,xs,rfl,SqT.of e1,hw.1,hw.2,k _ _ H3 n3 R3 kk (wd (show RdX H3 B _ (.tuple ds)from .tup e1 e2 e3 e4)) ?_⟩;have:bg ds a b=ds:=by
     unfold bg;rw[<-e4.len,hw.1,hw.2,List.drop_zero,Nat.sub_zero,e4.len,G7]
    rw[this]at q3;exact q3
   ·refine .inl ⟨aa,xs,rfl,SqT.of e1,hw,λp hp=>?_⟩;refine k _ _ _ n3 (R3.new hp) (kk.trans (Kp.new hp)) (wd (show RdX _ B _ (.tuple (bg ds a b))from .tup bI (R3.nb hp) (B7 (rj xs a b) e3) ?_)) q3;unfold bg d7;rw[<-e4.len];exact(((e4.drop _).take _).fresh hp).less λb z=>.inl z
 ·exact q3.elim
end
end DL
namespace Nb
open PySem L2
section
variable{X:Cx}
theorem EC(S it:Addr)(mine:Array Ag)(n:Nat){o:Obj}(items:Array Ag)(n2:Nat)(hc:o.cls=.type "tuple")(hd:o.data=.seq items n2)
  (hlong:¬(!mine.isEmpty&&Ey (mine.size+items.size))=ah) (hz1:mine.size<=A2) (hz2:mine.size+items.size<=A2+1) (hz3:items.size<=A2):
  Meets (D8.«list.extend» ⟨[.ref S,.ref it],[]⟩) (λ_ R s=>s.heap.get? S=ae {cls:=.type "list",data:=.seq mine n}/\s.heap.get? it=ae o/\R (.ok (.ret Bd)) {s with heap:=s.heap.update S (B5 λx=>x++items),toks:=s.toks}):=λprog w A R s h=>by
 obtain⟨hS,ho,hR⟩:=h;show Av _ A.in1 (Dc (.ref S) (.ref it) .none) _ _ s;unfold Dc;refine Aa (Ez ⟨o,ho,hc⟩ ?_);have h1:(Fz (.ref S) (.ref it) || C9 "tuple"==C9 "list" || C9 "tuple"==C9 "tuple")=ah:=by simp
 simp only[h1,if_true];refine Aa ?_;unfold Builtin.List.listItems;refine Aa (Ct ho hd (Af ?_));refine Aa ?_;refine Aa (Ct hS rfl (Af ?_));simp only[hlong];show Av _ A.in1 (updateSeq S (·++items)>>=λ_=>ret Bd) _ _ s;refine Aa (wpAny_updateSeq hS rfl ?_ hz1 (by rw[Array.size_append];exact hz2));exact Af hR
def AD:V->List V->Hp->VK->Prop:=λx vs H Q=>∃l b xs zs,x=.ref l/\vs=[.ref b]/\H l=ae (.lst xs)/\H b=ae (.tup zs)/\xs.length+zs.length<=A2/\Q .non (upd H l (.lst (xs++zs)))
theorem LZ:kj X "list.extend" AD:=by
 intro pins s σ H x vs v us Q I rx rv h;obtain⟨l,b,xs,zs,rfl,rfl,hH,hB,hz,q⟩:=h;cases rx;obtain⟨u,rfl,ru⟩:=rv.one;cases ru;obtain⟨z,its,n,r,hl,e⟩:=I.lstM hH;obtain⟨its2,r2,⟨o2,e2,c2,n2,d2⟩,z2⟩:=I.tuple (SqT.of hB);have hl2:=r2.length;have hsz:its.toArray.size+its2.toArray.size<=A2:=by rw[Ap,Ap];omega
 have hlong:¬(!its.toArray.isEmpty&&Ey (its.toArray.size+its2.toArray.size))=ah:=by
  rw[zP hsz,Fg];exact Au
 refine call_meets F.slot_list_extend ⟨_,e,rfl⟩ F.entry_list_extend (F.args_list_extend_2 _ _)
  (EC l b its.toArray n its2.toArray n2 c2 d2 hlong (by rw[Ap];omega) ⋯ (by rw[Ap];omega)) ⟨e,e2,?_⟩
 refine⟨.non,_,I.lset (its':=its++its2) hH e (by simp) (r.append r2) ?_,rfl,q⟩;rw[Ao];omega
end
end Nb
namespace DL
open PySem L2 Nb
section
variable{X:Cx}{tg a b c e o i f:Expr}{ta tb te td ty tx:TE}{wa wb we wd' wy wx:DT}{pos p:Pos}{K:Aj}
def kd(i:Nat)(w:DT):aM:=λδ n K=>match δ[i]? with
 |some (ae (.own ds))=>w δ n λx n1=>match x with
  |.d (.tuple es)=>(ds.length < 1000000/\es.length < 1000000)/\K.nx (δ.set i (ae (.own (ds++es)))) n1
  |_=>False
 |_=>False
theorem IT{i:Nat}{x:Str}{xp ap cp:Pos}(hN:X.N[i]?=ae x)(he:DE X e te we)(hv:fq X.env.scope x:=by first|exact Ea rfl|exact C6 (Ea rfl)|exact C6 (C6 rfl))(hd:(x==("__debug__":Str))=ai:=by decide)
  (hcd:(x==("__classdict__":Str))=ai:=by decide)
  (hbase:Gx (.Name x xp) "extend" X.env (eval (.Name x xp) X.env)=eval (.Name x xp) X.env:=by rfl)
  (hfew:((D2 cp (Aw [e] X.env)).all (λx=>!x.1)&&(backToKw cp (keywordEach [] X.env)).all (λx=>x.1.isSome)
   && decide ([e].length+([]:List Keyword).length+(if ([]:List Keyword).isEmpty then 0 else 1) < 30))=ah:=by rfl)
  (hline:(ap.endLine==cp.line)=ah:=by rfl) (hs:Aw [e] X.env=[(ai,eval e X.env)]:=by rfl) (hplain:(D2 cp (Aw [] X.env)).any (·.1)=ai:=by rfl)
  (hsw:F1 (.Call (.Attribute (.Name x xp) "extend" ap) [e] [] cp) af pos.line X.env=pure ai:=by rfl):
  DS X (.Expr (.Call (.Attribute (.Name x xp) "extend" ap) [e] [] cp) pos) (j5 (lh X.K "list" AD (dc i) (c9 te bF))) (kd i we):=
 ⟨kR (mQ E8 PySem.F.slot_list_extend PySem.F.type_list_extend LZ (gM hN hv hd hcd) (bY he.pe dz hs) hbase hfew hline hs hplain) hsw,λC H B σ δ n K D R q E=>by
  unfold kd at q
  split at q
  ·rename_i ds ei;obtain⟨v,hv,a,xs,rfl,e2,e3,e4,e5,e6⟩:=R.sl i _ ei;refine⟨_,hv,.inl ⟨rfl,_,SqL.of e2⟩,he.sd C H B σ δ n _ _ R q λu y H1 n1 R1 k1 r1 q1=>?_⟩
   split at q1
   ·rename_i es;have hat:a≠C.t:=λz=>R.t0 (z▸e4);have e2':=k1 _ _ e2 hat;cases(show RdX H1 B u (.tuple es)from r1)with
    |@tup b zs _ f1 f2 f3 f4=>
     have hl:xs.length+zs.length<=A2:=by rw[e6.len,f4.len];exact mO q1.1.1 q1.1.2
     refine⟨a,b,xs,zs,rfl,rfl,e2',f1,hl,?_⟩;refine E.nx _ _ _ _ _ (R1.mutOwn ei rfl hv e3 e4 ?_ rfl) q1.2;refine⟨a,xs++zs,rfl,bI,e3,e4,by rw[Ao];exact hl,?_⟩;refine RdXs.keep (λb o e n=>?_) ((e6.kp k1 R.bt).append f4);rw[aX λ(z:b=a)=>n (z▸e3)];exact e
   ·exact q1.elim
  ·exact q.elim⟩
def fN(hs:List Str)(w:DT):DT:=λδ n Q=>w δ n λx n1=>match x with
 |.d a=>gs a=ah/\Q (.d (.bool (cQ a (hs.map .str)))) n1
 |_=>False
theorem EI{q:Addr}{hs:List Str}(hl:∀h∈hs,h.length<=1000)(hq:∀H,SqT K H q (hs.map V.str))(h:eP ta wa):eP (d4 (iM K ai) ta (tC (.ref q))) (fN hs wa):=λC H B σ δ n Q Q' R z k=>
 h C H B σ δ n _ _ R z λv x H1 n1 R1 k1 r1 q1=>by
  split at q1
  ·rename_i da;have r1:RdX H1 B v da:=r1;have rs:RdXs H1 B (hs.map V.str) (hs.map .str):=sf hl;refine⟨q,_,rfl,.inr (hq H1),ll r1 q1.1,kH rs ?_,k _ _ H1 n1 R1 k1 (wd (.bl _)) ?_⟩
   ·rw[G0];exact Cq.mpr λ_ _=>rfl
   ·rw[lC r1 rs];exact q1.2
  ·exact q1.elim
theorem Ml{q:Addr}{hs:List Str}{x:Str}{xp:Pos}(ha:DE X a ta wa)(hg:Gl X x)(hm:X.mg x=ae (.ref q))(hq:∀H,SqT K H q (hs.map V.str))(hl:∀h∈hs,h.length<=1000:=by decide +kernel)(hK:X.K=K:=by rfl)(hd:(x==("__debug__":Str))=ai:=by decide)
  (hmk:E1 .In (Expr.Name x xp)=ai:=by with_unfolding_all rfl):DC X (.Compare a [.In] [.Name x xp] pos) (jf (d4 (iM K ai) ta (tC (.ref q)))) (cT (fN hs wa)):=
 ⟨jZ (wV hK) ha.pe (xB hg hm rfl hd) hmk,oA (EI hl hq ha.sd)⟩
end
abbrev dS:=List Wv->Int->(List Ab->Int->Prop)->Prop
def jR(S:dS):Sp:=λvs H Q _=>∃(t:Addr)(l:TL)(ns:List Int)(B:Addr->Prop)(ws:List Wv)(n:Int)(Q0:List Ab->Int->Prop),Tp H t l ns n/\B t/\(∀b,B b->H b≠af)/\ARel H B t vs ws/\S ws n Q0 /\
 ∀ds n',Q0 ds n'->∀a xs H',Tp H' t l ns n'->Kp t H H'->H a=af->H' a=ae (.lst xs)->xs.length<=A2->RdXs H' (λb=>B b\/b=a) xs ds->Q (.ref a) H'
section
variable{X:Cx}{e:Expr}{es:List Expr}{pos p:Pos}{tR:TA}{wR:dZ}{te:TE}{we:DT}
def l9(S:dS)(w:dZ):dX:=λδ n Q=>w δ n λxs n1=>S xs n1 Q
theorem NW{S:dS}{t:TA}{w:dZ}(h:ij t w):iA (gT (jR S) [] E0 t) (l9 S w):=λC H B σ δ n Q Q' R q k=>
 h C H B σ δ n _ _ R q λvs xs H1 n1 R1 k1 r1 q1=>by
  refine⟨C.t,C.l,C.ns,B,xs,n1,Q,R1.tp,R1.bt,R1.ba,by rw[Bv];exact r1,q1,λds n' q2 a ys H' T' k' h0 h1 h2 h3=>?_⟩;exact k a ys ds H' n' (R1.step T' k') (k1.trans k') (R1.was k1 h0) h1 h2 h3 q2
structure HasN(P:Bn)(w:By)(K:Aj)(mg:Str->Option Ag)(base:Heap)(k:Nat)(x:Str)(ps:List Str)(S:dS):Prop where
 ex:∃(f:Addr)(fd:C7),FnOk P w K mg base b5 k f fd ps (jR S)/\Binds K fd ps []/\mg x=ae (.ref f)/\Di K (.ref f)=ah
theorem HasN.mk'{P:Bn}{w:By}{K:Aj}{mg:Str->Option Ag}{base:Heap}{k:Nat}{x qual:Str}{st:Stmt}{ps:List Str}{S:dS}{f:Addr}{fd:C7}(F:Fun K x qual st f fd)(m:mg x=ae (.ref f))(b:Binds K fd ps [])(h:FnOk P w K mg base b5 k f fd ps (jR S)):HasN P w K mg base k x ps S:=⟨f,fd,h,b,m,F.kp⟩
theorem NQ{k:Nat}{ps:List Str}{S:dS}{x:Str}(h:HasN X.prog X.w X.K X.mg X.base k x ps S)(hr:Room k X.A)(hg:Gl X x)
  (ha:DA X (e::es) tR wR) (hdb:(x==("__debug__":Str))=ai:=by decide) (he:Aw (e::es) X.env=(ai,eval e X.env)::Aw es X.env:=by rfl) (hpl:(D2 pos (Aw es X.env)).any (·.1)=ai:=by rfl):
  DF X (.Call (.Name x p) (e::es) [] pos) (gT (jR S) [] E0 tR) (l9 S wR):=by
 obtain⟨f,fd,h1,h2,h3,h4⟩:=h.ex;exact⟨qo h1 hr hg h3 h4 h2 .nil rH ha.pa hdb he hpl,NW ha.sd⟩
def nT(w:dX):aM:=λδ n K=>w δ n K.rn
theorem K0{w:dX}(h:DF X e te w):DS X (.Return (ae e) pos) (jz te) (nT w):=⟨jT h.pe,λC H B σ δ n K D R q E=>
 h.sd C H B σ δ n _ _ R q λa xs ds H' n' R' k' h0 h1 h2 h3 q'=>E.rn H' B σ δ n' a xs ds R' (R.h0 h0) h1 h2 h3 q'⟩
def Ph(i:Nat):aM:=λδ n K=>match δ[i]? with
 |some (ae (.own ds))=>K.rn ds n
 |_=>False
def gH(i:Nat):aM:=λδ n K=>match δ[i]? with
 |some (ae (.own ds))=>K.nx (δ.set i (ae (.own ds.reverse))) n
 |_=>False
theorem RdXs.rev{H:Hp}{B:Addr->Prop}:∀{vs:List V}{ds:List Ab},RdXs H B vs ds->RdXs H B vs.reverse ds.reverse
 |_,_,.nil=>.nil
 |_,_,.cons h r=>by
  rw[List.reverse_cons,List.reverse_cons];exact(RdXs.rev r).append (.cons h .nil)
theorem Ie{i:Nat}{x:Str}{xp ap cp:Pos}(hN:X.N[i]?=ae x)(hv:fq X.env.scope x:=by first|exact Ea rfl|exact C6 (Ea rfl)|exact C6 (C6 rfl))(hd:(x==("__debug__":Str))=ai:=by decide)
  (hcd:(x==("__classdict__":Str))=ai:=by decide)
  (hbase:Gx (.Name x xp) "reverse" X.env (eval (.Name x xp) X.env)=eval (.Name x xp) X.env:=by rfl) (hline:(ap.endLine==cp.line)=ah:=by rfl)
  (hsw:F1 (.Call (.Attribute (.Name x xp) "reverse" ap) [] [] cp) af pos.line X.env=pure ai:=by rfl):
  DS X (.Expr (.Call (.Attribute (.Name x xp) "reverse" ap) [] [] cp) pos) (j5 (lV X.K "list" yC (dc i))) (gH i):=
 ⟨kR (OI E8 PySem.F.slot_list_reverse PySem.F.type_list_reverse Oh (gM hN hv hd hcd) hbase hline) hsw,λC H B σ δ n K D R q E=>by
  unfold gH at q
  split at q
  ·rename_i ds ei;obtain⟨v,hv,a,xs,rfl,e2,e3,e4,e5,e6⟩:=R.sl i _ ei;refine⟨_,hv,.inl ⟨rfl,_,SqL.of e2⟩,a,xs,rfl,rfl,e2,?_⟩;refine E.nx _ _ _ _ _ (R.mutOwn ei rfl hv e3 e4 ?_ rfl) q;refine⟨a,xs.reverse,rfl,bI,e3,e4,by rw[Eo];exact e5,?_⟩;refine RdXs.keep (λb o e n=>?_) e6.rev;rw[aX λ(z:b=a)=>n (z▸e3)];exact e
  ·exact q.elim⟩
end
section
variable{P:Bn}{w:By}{K:Aj}{mg:Str->Option Ag}{base:Heap}
theorem Fun.okN{x qual:Str}{st:Stmt}{f:Addr}{fd:C7}{N ps:List Str}{k:Nat}{S:dS}(F:Fun K x qual st f fd)(Sc:FnScope N ps (cv st))(len:∀ws n Q,S ws n Q->ws.length=ps.length)
  (hbody:∀(cdv:Ag)(A:Bt)(outer:List Env)(s:Ai)(H:Hp)(E:XK),Room k (A.deeper (E3 qual (cv st) s.heap.objs.size f cdv))->
   ∃T W,DSs (c7 b5 P w K mg base N qual (cv st) f cdv A outer s H E).nox (fh st) T W/\∀ws n Q,S ws n Q->W (dh N ws) n {nx:=λ_ _=>False,rt:=λ_ _=>False,rn:=Q}):FnOk P w K mg base b5 (k+1) f fd ps (jR S):=by
 refine F.ok Sc (λvs H Q E h=>?_) (λcdv A outer s H vs Q E hr h=>?_)
 ·obtain⟨t,l,ns,B,ws,n,Q0,_,_,_,r,q,_⟩:=h;rw[r.len];exact len ws n Q0 q
 ·obtain⟨t,l,ns,B,ws,n,Q0,T,bt,ba,r,q,kk⟩:=h;obtain⟨T',W,d,hw⟩:=hbody cdv A outer s H E hr;refine⟨T',d.ps,d.sd ⟨t,l,ns,H,B,λ_=>af⟩ H B _ _ n _ _ (vY T bt ba r) (hw ws n Q0 q) ⟨?_,?_,?_,?_,?_⟩⟩
  ·exact λ_ _ _ _ _ _ z=>z.elim
  ·exact λ_ _ _ _ _ _ _ _ _ z=>z.elim
  ·exact λ_ _ _ _ _ _ z=>z.elim
  ·exact λ_ _ _ _ _ _ z=>z.elim
  ·exact λH' B' σ δ n' a xs ds R' h0 h1 h2 h3 q'=>kk _ _ q' a xs H' R'.tp R'.kp h0 h1 h2 (h3.less λb z=>z.elim (λz=>.inl (R'.b0 b z)) .inr)
end
end DL
namespace Nb
open PySem L2
end Nb
namespace DL
open PySem L2 Nb
section
variable{X:Cx}{a b c e o i f:Expr}{ta tb te ty:TE}{wa wb we wy:DT}{pos p xp:Pos}{K:Aj}{D:List (Str×Str)}{q:Addr}{x:Str}
theorem Mr{n:Nat}(h:n<=1000):n<=A2:=B7 h ∎
end
end DL
namespace L2
open PySem PySem.Spec PyProof.Rows PySem.SeqAt PySem.W
section
variable{prog:Bn}{w:By}{A:Bt}{E:Ag->Ai->Prop}{s:Ai}
theorem oY{fin:Bool}{Q:Bool->Ai->Prop}:∀{l:List (Ag×Ag)}{k:Bool}{i:Nat},LexAt A s fin l k->Q k s->KatLex prog w A ai fin Q l i s
 |_,_,_,.nil,h=>kat_nil h
 |_,_,_,.same e r,h=>by
  refine kat_cons ?_;refine e _ _ _ _ ?_;exact kat_yes (oY r h)
 |_,_,i,.parts e l,h=>by
  refine kat_cons ?_;refine e _ _ _ _ ?_;refine kat_no ?_;rw[Bool.false_and];refine kat_one _ _ ?_;exact l prog w _ _ h
theorem zy{a kS:Addr}{st:SortSt}{keys:Array Ag}{out:List Ag}{e e1:Nat}{P:PySem.Fin->Ai->Prop}(nk:s.heap.get? kS=ae (Br "list" keys e))(na:s.heap.get? a=ae (Br "list" #[] e1))(hka:kS≠a)(hkz:keys.size < 64)
  (ho:(arrOf st).map (·.2)=out.toArray) (h64:out.length < 64) (hf:failedOf st=af)
  (h:∀(h':Heap)(tk c:Nat),(∀b o,b≠a->b≠kS->s.heap.get? b=ae o->h'.get? b=ae o)->h'.get? a=ae (Br "list" out.toArray c)->P (.done (.ret .none)) {s with heap:=h',toks:=tk}):
  Av (A7 prog w) A (ksk_tail a ai e1 (.ref kS) st) P E s:=by
 have s1:=Bb s.heap kS (B5 λ_=>(#[]:Array Ag));have na1:(s.heap.update kS (B5 λ_=>(#[]:Array Ag))).get? a=ae (Br "list" #[] e1):=(s1.2 a hka.symm).trans na;have s2:=Bb (s.heap.update kS (B5 λ_=>(#[]:Array Ag))) a (B5 λ_=>out.toArray);obtain⟨c2,hc2⟩:∃c2,((s.heap.update kS (B5 λ_=>(#[]:Array Ag))).update a (B5 λ_=>out.toArray)).get? a=ae (Br "list" out.toArray c2):=⟨_,E9 na1 λ_=>out.toArray⟩;unfold ksk_tail;dsimp only;rw[ho];simp only[A9,if_false];refine Aa (Fh nk rfl ?_ (by rw[Cw];omega) (Bc _));refine Aa (wpAny_letGo ?_);refine Aa (seqEpoch_at na1 rfl ?_);refine Aa (Fh na1 rfl ?_ (Bc _) (by rw[Ap,Cw];omega));rw[hf];simp only[bne_self_eq_false,A9,if_false];exact Af (h _ _ c2 (λb o hb hk q=>(s2.2 b hb).trans ((s1.2 b hk).trans q)) hc2)
theorem HS{a kS:Addr}{keys vs:List Ag}{e e1:Nat}{lt:Nat->Nat->Bool}{P:PySem.Fin->Ai->Prop}(nk:s.heap.get? kS=ae (Br "list" keys.toArray e))(na:s.heap.get? a=ae (Br "list" #[] e1))(hka:kS≠a)
  (hl:keys.length=vs.length) (h64:vs.length < 64)
  (T:2<=vs.length->∃fs,KatTups s.heap keys fs/\0 < fs.length/\∀v∈fs,Looks (A7 prog w) s.heap (typeOf v) (C9 "tuple"))
  (ask:∀i j,i < vs.length->j < vs.length->∀C:Bool->Ai->Prop,C (lt i j) s->kas_ask prog w A (tuples' ai) keys i j C s)
  (h:∀(idx:List Nat)(h':Heap)(tk c:Nat),idx.Perm (Bh vs.length)->(∀b o,b≠a->b≠kS->s.heap.get? b=ae o->h'.get? b=ae o)->
   h'.get? a=ae (Br "list" (Dg (idx.map λi=>vs.getD i Bd)) c)->P (.done (.ret .none)) {s with heap:=h',toks:=tk}):
  Av (A7 prog w) A (ksk_end a ai vs.toArray e1 (.ref kS) keys.toArray) P E s:=by
 unfold ksk_end;dsimp only;simp only[A9,if_false];by_cases h2:vs.toArray.size < 2
 ·rw[if_pos h2,if_pos h2];refine Aa (Af ?_);rw[StateT.run_pure];refine Aa (Af ?_);dsimp only;rw[Ap]at h2;have el:vs=(Bh vs.length).map λi=>vs.getD i Bd:=by
   apply Ew (by simp);intro i h1 h2;simp[h1]
  refine zy nk na hka (by rw[Ap];omega) (out:=vs) ?_ h64 rfl λh' tk c k hL=>h (Bh vs.length) h' tk c (List.Perm.refl _) k (by rw[<-el];exact hL)
  ·show(keys.toArray.zip vs.toArray).map (·.2)=vs.toArray;apply F4.mp;simp only[Array.toList_map,Array.toList_zip];exact List.map_snd_zip (Nat.le_of_eq hl.symm)
 ·rw[if_neg h2,if_neg h2];rw[Ap]at h2;obtain⟨fs,t,hne,hT⟩:=T ⋯;refine Aa (kat_kind t hne hT rfl ?_);have hn:0 < vs.length:=by omega
  have hwi:=KS.wi_sort hn;refine Aa (Dv (kat_run (ks:=keys) (vs:=vs) (κ:=tuples' ai) (G:=λp s'=>s'=s/\p=KS.run lt (Gw vs.length)) (Q:=λst' s'=>∃p:Array Nat,p.size=vs.length/\arrOf st'=p.map (kas_item (keys.toArray.zip vs.toArray))/\failedOf st'=af/\s'=s/\p=KS.run lt (Gw vs.length))
   hl ⋯ h64 (λp' st' s' a1 a2 a3 a4=>⟨p',a1,a2,a3,a4⟩) ?_) ?_ λ_ _ e=>e)
  ·exact KS.wp_run (n:=vs.length) (P:=KS.Pm vs.length) (c:=lt) (St:=λs'=>s'=s) (λi j C s' hi hj hs hC=>by subst hs;exact ask i j hi hj C (hC _ rfl)) _ _ hwi rfl λs' hs'=>⟨hs',rfl⟩
  ·rintro⟨⟨⟩,st'⟩ s' ⟨p,hp,har,hf,rfl,rfl⟩
   dsimp only;have hpm:KS.Pm vs.length (KS.run lt (Gw vs.length)):=KS.Wi.out _ hwi;have hidx:(KS.run lt (Gw vs.length)).toList.Perm (Bh vs.length):=by
    have:=Hl.mp hpm;simpa using this
   exact zy nk na hka (by rw[Ap];omega) (kat_snds hl har) (by rw[Ad,Az,hp];exact h64) hf λh' tk c k hL=>h _ h' tk c hidx k hL
theorem CH{a:Addr}{f:Ag}{vs:List Ag}{n:Nat}{P:PySem.Fin->Ai->Prop}(ho:s.heap.get? a=ae (Br "list" vs.toArray n))(h64:vs.length < 64)
  (h:∀(h3:Heap)(e1:Nat),(∀b o,b≠a->s.heap.get? b=ae o->h3.get? b=ae o)->h3.get? a=ae (Br "list" #[] e1)->s.heap.objs.size<=h3.objs.size->
   Av (A7 prog w) A (ksk_rest a f ai vs.toArray e1 (.ref h3.objs.size)) P E {s with heap:=h3.push (Br "list" #[] 0)}):
  Av (A7 prog w) A (ksk_tree a f ai) P E s:=by
 have s1:=Bb s.heap a (B5 λ_=>(#[]:Array Ag));obtain⟨e1,ho1⟩:∃e1,(s.heap.update a (B5 λ_=>(#[]:Array Ag))).get? a=ae (Br "list" #[] e1):=⟨_,E9 ho λ_=>#[]⟩;unfold ksk_tree;refine Aa (listItems_at ho rfl ?_);refine Aa (Fh ho rfl ?_ (by rw[Ap,Cw];omega) (Bc _));refine Aa (seqEpoch_at ho1 rfl ?_);refine Aa (wpAny_newTuple ?_ (by show vs.length<=_;rw[Cw];omega));refine Aa (Hh ?_ (Bc _));refine Cg ?_;exact h ((s.heap.update a (B5 λ_=>(#[]:Array Ag))).push (Br "tuple" vs.toArray 0)) e1 (λb o hb q=>Ae _ ((s1.2 b hb).trans q)) (Ae _ ho1) (by rw[size_push',Heap.size_update];exact Ha _)
theorem yo{r:Ag}{q:Addr}{Q:Ag->Ai->Prop}{R:List Ag->Ai->Prop}(hcol:Av (A7 prog w) A.in1 (collect r) R E s)
  (h:∀vs s1,R vs s1->vs.length<=A2/\Av (A7 prog w) A.in1.in1 (ksk_tree s1.heap.objs.size (.ref q) ai) (λf s2=>f=.done (.ret .none)/\Q (.ref s1.heap.objs.size) s2) E {s1 with heap:=s1.heap.push (Br "list" vs.toArray 0)}):
  Av (A7 prog w) A (call (.builtin "sorted") [r] [(C0 "key",.ref q)]) Q E s:=by
 refine call_function_entry_kw kind_sorted plain_sorted entry_sorted (ksk_s1 _ _) ?_;unfold D8.«sorted»;refine Aa (m:=checkCount "sorted" 1 1 _) (Af ?_);refine Aa (Dv hcol (λvs s1 hr=>?_) λ_ _ e=>e);obtain⟨hl,hs⟩:=h vs s1 hr;refine Aa (Hh ?_ hl);have hoL:(s1.heap.push (Br "list" vs.toArray 0)).get? s1.heap.objs.size=ae (Br "list" vs.toArray 0):=As _ rfl;refine Aa (Cg (wpAny_call_entry_kw (s:={ s1 with heap:=s1.heap.push (Br "list" vs.toArray 0)}) slot_list_sort ⟨_,hoL,rfl⟩ entry_list_sort ?body (ksk_l1 _ _)))
 case body=>
  show Av (A7 prog w) A.in1.in1 (D8.«list.sort» ⟨[.ref s1.heap.objs.size],[(C0 "key",.ref q)]⟩) _ _ _;rw[ksk_t1];refine Dv hs (λf s2 hf=>?_) λ_ _ e=>e;obtain⟨rfl,hq⟩:=hf;exact⟨_,rfl,Af ⟨_,rfl,hq⟩⟩
end
end L2
namespace L2
open PySem PySem.Spec PyProof.Rows
def DEs(h:Heap)(d:Addr)(es:Array DictEntry)(ep:Nat):Prop:=∃o,h.get? d=ae o/\o.ExactDict/\o.data=.dict es ep
abbrev cS:=Addr×Addr×List bA×V
def iC(l:Addr)(ps:List cS):HO:=.ext λh=>(l==G2)=ai/\∃es ep,DEs h l es ep/\es.size<=ps.length/\∀e∈es.toList,∃p∈ps,e.key=.ref p.2.1
def jW(H:Hp)(ps:List cS):Prop:=∀p∈ps,H p.1=ae (.tup [.ref p.2.1,p.2.2.2])/\H p.2.1=ae (.tup (p.2.2.1.map kV))
section
variable{X:Cx}{pins:List (Addr×Obj)}{σ:St}{A:Bt}{R:Result->Ai->Prop}{H:Hp}{s:Ai}
abbrev gJ(ps:List cS)(xs:List (List bA×Addr×Ag)):Prop:=∀x∈xs,∃p∈ps,x.2.1=p.2.1
theorem CI{ps:List cS}{xs:List (List bA×Addr×Ag)}{p:cS}{v:Ag}(h:gJ ps xs)(hp:p∈ps):gJ ps (storedH xs p.2.2.1 p.2.1 v)/\(storedH xs p.2.2.1 p.2.1 v).length<=xs.length+1:=by
 unfold storedH
 split
 ·refine⟨λx hx=>?_,by rw[Ad];omega⟩;obtain⟨y,hy,rfl⟩:=Bk.mp hx;obtain⟨q,hq,e⟩:=h y hy;refine⟨q,hq,?_⟩;unfold putAt
  split<;>exact e
 ·refine⟨λx hx=>?_,by rw[Ao];exact Aq _⟩;rcases A6.mp hx with z|z
  ·exact h x z
  ·rw[A8]at z;subst z;exact⟨p,hp,rfl⟩
theorem LK(hA:A.handled=af)(hu:A.units+1 < Fo){src d it:Addr}(ps:List cS)(I0:Inv X pins σ H s)(h0:s.heap.objs.size<=it)(h1:s.heap.objs.size<=d)(hne:it≠d)(hs:H src=ae (.tup (ps.map λp=>.ref p.1)))(hp:jW H ps)(hl:ps.length<=1000)
  (hR:∀h' tk' xs',(∀b o,s.heap.get? b=ae o->h'.get? b=ae o)->h'.DictOfH (tupleKind (fv X.prog X.w)) d xs'->gJ ps xs'->xs'.length<=ps.length->R (.ok (.ret .none)) {s with heap:=h',toks:=tk'}):
  ∀(n i:Nat)(h:Heap)(tk:Nat)(xs:List (List bA×Addr×Ag)),n+i=ps.length->(∀b o,s.heap.get? b=ae o->h.get? b=ae o)->h.DictOfH (tupleKind (fv X.prog X.w)) d xs->gJ ps xs->xs.length<=i->h.IsTupleIter it src i->
  Gm (A7 X.prog X.w) A (.builtin "dict.update.loop" ⟨[.ref d,.ref it,Da i,.none],[]⟩) R {s with heap:=h,toks:=tk}:=by
 intro n
 induction n with
 |zero=>
  intro i h tk xs hn hk dd hx hxl st;have I:Inv X pins σ H {s with heap:=h,toks:=tk}:=I0.kept hk;obtain⟨its,rv,p,_⟩:=I.tuple (SqT.of (K:=X.K) hs);refine Df vC ?_;rw[Dj oG _];show Av _ _ (Eg (.ref it)>>=_) _ _ _;have hl:=rv.length;rw[Ad]at hl;refine Aa (wpAny_pyNext_tuple_end (A:=A.in1) (s:={ s with heap:=h,toks:=tk}) hA st (show h.IsTuple src its.toArray from p) (by simp;omega) λh' eb=>?_);show Av _ _ (Builtin.Dict.addKeywords d []>>=_) _ _ _;refine Aa (Af (Af (hR h' tk xs (λb o e=>eb b o (Be (Bj (An e) h0)) (hk b o e)) ?_ hx ⋯)));obtain⟨o,es,ep,q1,q2,q3,q4,q5,q6⟩:=dd;exact⟨o,es,ep,eb d o hne.symm q1,q2,q3,q4,λx hx'=>by
   obtain⟨p,hp',e⟩:=hx x hx';have hkp:=uD I.hok (hp p hp').2;rw[<-e]at hkp;have:=q5 x hx';obtain⟨ob,its',n',g1,g2⟩:=this;exact⟨ob,its',n',eb _ _ (λz=>by
    have:=(I0.hok.lt (hp p hp').2);rw[<-e,z]at this;exact C2 _ (Bj this h0)) g1,g2⟩,q6⟩
 |succ n ih=>
  intro i h tk xs hn hk dd hx hxl st;have I:Inv X pins σ H {s with heap:=h,toks:=tk}:=I0.kept hk;obtain⟨its,rv,p,_⟩:=I.tuple (SqT.of (K:=X.K) hs);have hi:i < ps.length:=by omega
  obtain⟨u,hu',ru⟩:=rv.get (show(ps.map λp=>V.ref p.1)[i]?=ae (V.ref (ps[i]).1) by simp[hi]);cases(show u=Bf (ps[i]).1 from ru);have hm:=Ed hi;obtain⟨hq,hky⟩:=hp _ hm;refine Df vC ?_;rw[Dj oG _];show Av _ _ (Eg (.ref it)>>=_) _ _ _;refine Aa (wpAny_pyNext_tuple_item (s:={ s with heap:=h,toks:=tk}) st (show h.IsTuple src its.toArray from p) (x:=Bf (ps[i]).1) (by simpa using hu') λg st1 sb=>?_);have kg:∀b o,s.heap.get? b=ae o->g.get? b=ae o:=λb o e=>(sb.2 b (Be (Bj (An e) h0))).trans (hk b o e);have I1:Inv X pins σ H {s with heap:=g,toks:=tk}:=I0.kept kg;obtain⟨its1,rv1,p1,_⟩:=I1.tuple (SqT.of (K:=X.K) hq);obtain⟨u1,u2,rfl,r1,r2⟩:=qx rv1;cases(show u1=Bf (ps[i]).2.1 from r1);refine Aa (Cg ?_);refine Aa (wpAny_tryCatch (DK p1 ?_));have dg:g.DictOfH (tupleKind (fv X.prog X.w)) d xs:=by
   obtain⟨o,es,ep,q1,q2,q3,q4,q5,q6⟩:=dd;exact⟨o,es,ep,(sb.2 d hne.symm).trans q1,q2,q3,q4,λx hx'=>by
    obtain⟨p,hp',e⟩:=hx x hx';obtain⟨ob,its',n',g1,g2⟩:=q5 x hx';exact⟨ob,its',n',(sb.2 _ (λz=>by
     have:=(I0.hok.lt (hp p hp').2);rw[<-e,z]at this;exact C2 _ (Bj this h0))).trans g1,g2⟩,q6⟩
  obtain⟨x1,x2⟩:=CI (v:=u2) hx hm;refine Cg (wpAny_dictSet_heap (s:={ s with heap:=g,toks:=tk}) (hsz:=gS ⋯) (tupleKind_room_in1 hu) (uD I1.hok hky) dg λh2 dd2 hs2=>?_);show Av _ _ (pure (Fin.again (.builtin "dict.update.loop" ⟨[.ref d,.ref it,Da ((i:Int)+1),.none],[]⟩))) _ _ _;refine Af ⟨F2 oG _,?_⟩;rw[show((i:Int)+1)=((i+1:Nat):Int) by push_cast;rfl];exact ih (i+1) h2 _ _ ⋯ (λb o e=>(hs2.2 b (Be (Bj (An e) h1))).trans (kg b o e)) dd2 x1 ⋯ (by
   obtain⟨o,e,r⟩:=st1;exact⟨o,(hs2.2 it hne).trans e,r⟩)
theorem OO{src:Addr}{ps:List cS}{Q:VK}(hh:X.A.handled=af)(hu:X.A.units+4 < Fo)(I:Inv X pins σ H s)(hs:H src=ae (.tup (ps.map λp=>V.ref p.1)))(hp:jW H ps)(hlen:ps.length<=1000)
  (k:∀g tk' xs',(∀b o,s.heap.get? b=ae o->g.get? b=ae o)->(s.heap.objs.size==G2)=ai->g.DictOfH (tupleKind (fv X.prog X.w)) s.heap.objs.size xs'->gJ ps xs'->xs'.length<=ps.length->EP X pins σ Q (.ref s.heap.objs.size) {s with heap:=g,toks:=tk'}):
  Av (A7 X.prog X.w) X.A (call (.type "dict") [.ref src]) (EP X pins σ Q) X.xe s:=by
 refine callType_codes (Q₁:=λobj s₁=>obj=.ref s.heap.objs.size/\s₁={ s with heap:=s.heap.push {cls:=.type "dict",data:=.dict #[]}}) F.kt_called_dict (F.kt_typeCall_dict_1 _) F.entry_dict_init (kt_code_dict_new _ ⟨rfl,rfl⟩) ?_
 rintro obj s₁ ⟨rfl,rfl⟩
 have I1:Inv X pins σ H {s with heap:=s.heap.push {cls:=.type "dict",data:=.dict #[]}}:=I.kept (t':=s.toks) λb o e=>Ae _ e;have hsys:(s.heap.objs.size==G2)=ai:=by
  have:=I.big;simp only[beq_eq_false_iff_ne];exact Ee this
 obtain⟨zz,its,rv,o,ho,hc,⟨n,hdat⟩,hd⟩:=(show ObjOk X.prog X.w _ _ src (.tup _)from I1.hok src _ hs);have hnew:(s.heap.push {cls:=.type "dict",data:=.dict #[]}).DictOfH (tupleKind (fv X.prog X.w)) s.heap.objs.size []:=Heap.DictOfH.new s.heap;refine⟨hnew.typeIs,F.args_dict_init_2 _ _,?_⟩;unfold D8.«dict.__init__»;refine Aa ?_;unfold Builtin.Dict.selfAndRest;refine Aa (wpAny_notOrdered_dict hnew.typeIs ?_);show Av _ _ (pure (s.heap.objs.size,[Bf src])) _ _ _;refine Af ?_;show Av _ _ (Builtin.Dict.updateFrom "dict.__init__" s.heap.objs.size (.ref src) [] .none) _ _ _;unfold Builtin.Dict.updateFrom;refine Aa (Ez (T:="tuple") ⟨o,ho,hc⟩ ?_);rw[if_pos ∎];refine Aa (LS ho hc hdat hd FT ∅ hh (λh' tk e ne=>?_));have p2:IsTup h' src its.toArray:=IsTup.keeps ⟨o,ho,hc,n,hdat⟩ ne.keeps;show Av _ _ (rule _>>=_) _ _ _;refine Aa (Fw ?_);refine Aa (G1 (show Heap.IsTuple h' src its.toArray from p2) ?_);refine Af ⟨F2 oG _,?_⟩;have e0:(s.heap.push ({cls:=.type "dict",data:=.dict #[]}:Obj)).get? s.heap.objs.size=ae {cls:=.type "dict",data:=.dict #[]}:=As _ rfl;have hlt:s.heap.objs.size < h'.objs.size:=An (ne.keeps _ _ e0);have kp:∀b u,s.heap.get? b=ae u->(h'.push {cls:=.type "tuple_iterator",data:=.fields #[.ref src,.int 0 0]}).get? b=ae u:=λb u e=>Ae _ (ne.keeps _ _ (Ae _ e));refine LK (A:=X.A.in1) hh (by show X.A.units+1+1 < Fo;omega) (it:=h'.objs.size) (d:=s.heap.objs.size) ps I (Gb hlt) (Aq _) (Ee hlt) hs hp hlen (λg tk' xs' hk dd hx hxl=>?_) ps.length 0 _ _ [] ⋯ kp ?_ (λx hx=>by simp at hx) (Aq _) ⟨_,As _ rfl,rfl,rfl⟩
 ·exact⟨rfl,k g tk' xs' hk hsys dd hx hxl⟩
 ·refine⟨{cls:=.type "dict",data:=.dict #[]},#[],0,Ae _ (ne.keeps _ _ e0),⟨rfl,rfl,rfl⟩,rfl,rfl,λx hx=>by simp at hx,by simp⟩
theorem AQ(hh:X.A.handled=af)(hu:X.A.units+4 < Fo):CallR X (.type "dict") (λxs H Q=>∃(src:Addr)(ps:List cS),xs=[.ref src]/\H src=ae (.tup (ps.map λp=>V.ref p.1))/\jW H ps/\ps.length<=1000 /\
  ∀l,H l=af->Q (.ref l) (L2.upd H l (iC l ps))):=by
 intro pins s σ H xs us Q I r h;obtain⟨src,ps,rfl,hs,hp,hlen,q⟩:=h;obtain⟨u,rfl,ru⟩:=fe r;cases(show u=Bf src from ru);refine OO hh hu I hs hp hlen λg tk' xs' hk hsys dd hx hxl=>?_;obtain⟨od,es,ep,q1,q2,q3,q4,q5,q6⟩:=dd;have hes:es.size=xs'.length:=by rw[<-Az,q4,Ad]
 refine⟨.ref s.heap.objs.size,_,I.laid (t':=tk') (h':=g) (o:=iC s.heap.objs.size ps) hk (Aq _) ⟨⟨hsys,es,ep,⟨od,q1,q2,q3⟩,by omega,λe he=>?_⟩,⟨od,q1⟩,λh1 h2 z k=>?_⟩,rfl,q _ I.fresh⟩
 ·rw[q4]at he;obtain⟨x,hx',rfl⟩:=Bk.mp he;obtain⟨p,hp',e⟩:=hx x hx';exact⟨p,hp',by show Bf x.2.1=_;rw[e]⟩
 ·obtain⟨z1,es,ep,⟨o,w1,w2⟩,z3⟩:=z;exact⟨z1,es,ep,⟨o,k o w1,w2⟩,z3⟩
end
end L2
namespace L2
open PySem PySem.Spec PyProof.Rows PySem.W
section
variable{prog:Bn}{w:By}{A:Bt}{E:Ag->Ai->Prop}{s:Ai}{d it:Addr}{es:Array DictEntry}{ep i:Nat}
theorem DEs.ty(x:DEs s.heap d es ep):s.TypeIs (.ref d) "dict":=let⟨o,e,c,_⟩:=x;⟨o,e,c.1⟩
theorem OL{Q:Ag->Ai->Prop}(hd:(d==G2)=ai)(x:DEs s.heap d es ep)
  (k:Q (.ref s.heap.objs.size) {s with heap:=s.heap.push {cls:=.type "dict_keyiterator",data:=.fields #[.ref d,.int 0 0,.int es.size 0,.int ep 0]}}):Av (A7 prog w) A (pyIter (.ref d)) Q E s:=by
 obtain⟨o,x1,x2,x3⟩:=id x;refine wpAny_pyIter_slot x.ty F.slot_dict_iter (Ca F.slot_dict_iter x.ty F.entry_dict_iter ?_ (F.args_dict_iter_1 _));unfold D8.«dict.__iter__»;refine Aa ?_;unfold Builtin.Dict.dictSlotNone;refine Aa (wpAny_notOrdered_dict x.ty ?_);refine(show Av _ _ (pure (Bf d)) _ _ s from Af ?_);refine(show Av _ _ (Builtin.Dict.showsAll d>>=_) _ _ s from ?_);unfold Builtin.Dict.showsAll;rw[if_neg (show ¬(d==G2)=ah by rw[hd];decide)];refine Aa (Af (Aa (wpAny_dictEntries x1 x3 (Aa (wpAny_dictEpoch x1 x3 ?_)))));refine Aa (Bq (Af ⟨_,rfl,"dict_keyiterator",_,⟨_,As _ rfl,rfl⟩,F.slot_dict_keyiterator_next.lookup,?_⟩));simpa[Da]using k
theorem tv{Q:Option Ag->Ai->Prop}(y:s.heap.IsKeyIter it d i es.size ep)(x:DEs s.heap d es ep)
  (hI:i < es.size->∀h',h'.IsKeyIter it d (i+1) es.size ep->Dh it s.heap h'->Q (ae (es.getD i ⟨0,.none,.none⟩).key) {s with heap:=h'})
  (hE:es.size<=i->A.handled=af/\∀h',Heap.ExtBut it s.heap h'->Q af {s with heap:=h'}):Av (A7 prog w) A (Eg (.ref it)) Q E s:=by
 obtain⟨u,y1,y2,y3⟩:=id y;obtain⟨o,x1,x2,x3⟩:=id x;unfold Eg;refine Aa (Eh (Bz (name:=C0 "__next__") y.typeIs F.slot_dict_keyiterator_next (Ca F.slot_dict_keyiterator_next y.typeIs F.entry_dict_keyiterator_next ?_ (F.args_dict_keyiterator_next_1 _))));refine Aa (Af (Aa (Aa ?_)))
 first|refine Aa (Hi y.typeIs (Af ?_))|refine Aa (Hx y.typeIs (Af ?_))
 refine Aa (Gi y1 y3 ?_);simp only[show Builtin.Dict_items.ownsTuple "dict_keyiterator"=ai by decide,A9,if_false];refine(show Av _ _ (if (Bf d==Bd)=ah then _ else _) _ _ s from ?_);rw[if_neg (show ¬((Bf d==Bd)=ah) by exact Au)];refine Aa (Af (Aa (wpAny_dictEntries x1 x3 ?_)));rw[if_neg (show ¬_ by simp)];refine Aa (Af (Aa (wpAny_dictEpoch x1 x3 ?_)));rw[if_neg (show ¬_ by simp)];refine Af ?_;by_cases hi:i < es.size
 ·simp only[show ¬((i:Int) < 0) by omega,if_false,B9,Cn hi];refine Aa ?_
  first|refine Aa (Hi y.typeIs (Af ?_))|refine Aa (Hx y.typeIs (Af ?_))
  refine Aa (wpAny_isOneOf_keyiter y.typeIs ?_);refine(show Av _ _ (setField (.ref it) 1 (Da ((i:Int)+1))>>=_) _ _ s from Aa (Dn y1 y3 (by simp) ?_));have z:(s.heap.update it (Obj.mapFields (·.setIfInBounds 1 (Da ((i:Int)+1))))).IsKeyIter it d (i+1) es.size ep:=
   ⟨_,B1 _ y1 (Dt (Cc y3 _)),(E7 ..).trans y2,by rw[Cc y3];simp[Da]⟩
  refine Aa (Cg (Aa (wpAny_isOneOf_keyiter (s:={ s with heap:=s.heap.update it (Obj.mapFields (·.setIfInBounds 1 (Da ((i:Int)+1))))}) z.typeIs ?_)));have kk:=hI hi _ z (Bb ..);rw[show es.getD i ⟨0,.none,.none⟩=es[i] by simp[hi]]at kk;exact(show Av _ _ (pure es[i].key) _ _ _ from Af (Af ⟨_,rfl,Af kk⟩))
 ·obtain⟨hh,kk⟩:=hE ⋯;simp only[show ¬((i:Int) < 0) by omega,if_false,B9,Array.getElem?_eq_none (show es.size<=i by omega)];refine Aa ?_
  first|refine Aa (Hi y.typeIs (Af ?_))|refine Aa (Hx y.typeIs (Af ?_))
  refine(show Av _ _ (setField (.ref it) 0 .none>>=_) _ _ s from Aa (Dn y1 y3 (by simp) ?_));refine(show Av _ _ (newExc (.type "StopIteration") []>>=_) _ _ _ from Aa ?_);simp only[newExc,newTuple];refine Aa (Bq (Aa (m:=Em _ _) (G3 (a:=Bd) (by first|rfl|(simp only[Em];rfl)) (Bq ?_ (by size_fits)))) (by size_fits));simp only[raiseNew];refine Aa (wpAny_handled ?_);rw[show A.in1.handled=af by exact hh];refine Aa (Af (wpAny_throw (?_:Av _ _ _ _ _ _)));refine Aa (E2 (T:="StopIteration") (b:=ah) ⟨_,As _ rfl,rfl⟩ G8 (?_:Av _ _ _ _ _ _));exact Af (kk _ (((Bb ..).extBut.push _).push _))
theorem DEs.keep{h h':Heap}(x:DEs h d es ep)(k:∀o,h.get? d=ae o->h'.get? d=ae o):DEs h' d es ep:=let⟨o,e,r⟩:=x;⟨o,k o e,r⟩
theorem Ld(lo:(d==G2)=ai):KdlSrc prog w "dict" d d es.size (λi v=>(es[i]?).map (·.key)=ae v) (λh=>DEs h d es ep) where
 type:=λ_ x=>x.ty
 there:=λ_ x=>let⟨_,e,_⟩:=x;⟨An e,An e⟩
 keep:=λ_ _ x k=>x.keep λo e=>k d (.inl rfl) o e
 notList:=by decide
 notTuple:=by decide
 hint:=λ_ _ _ _ x q=>kdl_hint_dict x.ty q
 iter:=λA s hh x=>by
  obtain⟨ob,x1,x2⟩:=id x;have hlt:d < s.heap.objs.size:=An x1;refine⟨{cls:=.type "dict_keyiterator",data:=.fields #[.ref d,.int 0 0,.int es.size 0,.int ep 0]},λi h=>h.IsKeyIter s.heap.objs.size d i es.size ep/\DEs h d es ep,λ_ _ q=>OL lo x q,?_,⟨_,As _ rfl,rfl,rfl⟩,x.keep λo e=>Ae _ e⟩;exact
   { sub:=λb hb=>by simp at hb;simp[hb],frame:=λ_ _ _ st hk=>⟨st.1.at λo e=>hk _ (by simp) o e,st.2.keep λo e=>hk d (by simp) o e⟩,item:=λi s' Q E hi st hQ=>tv st.1 st.2 (λhi' h' z sb=>hQ _ h' s'.toks (by simp[hi]) ⟨z,st.2.keep λo e=>sb.extBut d o (Be hlt) e⟩ λb o hb e=>sb.extBut b o (λh=>hb (by simp[h])) e) (λz=>absurd hi ⋯),done:=λs' Q E st hQ=>tv st.1 st.2 (λz=>absurd z ⋯) (λ_=>⟨hh,λh' he=>hQ h' s'.toks λb o hb e=>he b o (λh=>hb (by simp[h])) e⟩),self:=λ_ _ _ _ st hQ=>wpAny_pyIter_keyiter st.1 hQ}
end
end L2
namespace L2
open PySem PySem.Spec PyProof.Rows
end L2
namespace L2
open PySem PySem.Spec PyProof.Rows PySem.SeqAt PySem.W
def jD(sp:Sp):List V->Hp->(List V->Hp->Prop)->Prop
 |[],H,Q=>Q [] H
 |x::r,H,Q=>sp [x] H (λk H'=>jD sp r H' λks H''=>Q (k::ks) H'') E0
def lS(ds:List (List Ab))(lt:Nat->Nat->Bool):Prop:=
 (∀d∈ds,(∃y r,d=.tuple y::r)/\Cb d=ah/\Cj d<=20)/\∀i j x y,ds[i]?=ae x->ds[j]?=ae y->fj x y=ae (lt i j)
def pW(K:Aj)(xs:List V)(Q:VK):List V->Hp->Prop:=λks H1=>∃ds lt,ds.length=xs.length/\RdAll K H1 ks (ds.map De)/\lS ds lt /\
 ∀D,H1 D=af->∀idx:List Nat,idx.Perm (Bh xs.length)->Q (.ref D) (upd H1 D (.lst (idx.map λi=>xs.getD i .non)))
def qz(K:Aj)(sp:Sp):V->Hp->VK->Prop:=λx H Q=>(∃a xs,x=.ref a/\(SqL K H a xs\/SqT K H a xs)/\xs.length < 64/\jD sp xs H (pW K xs Q)) \/
 ∃d qs,x=.ref d/\H d=ae (iC d qs)/\qs.length < 64/\∀xs:List V,xs.length<=qs.length->(∀v∈xs,∃p∈qs,v=V.ref p.2.1)->jD sp xs H (pW K xs Q)
def rK(K:Aj)(sp:Sp)(t:TE):TE:=λσ H Q=>t σ H λx H1=>qz K sp x H1 Q
section
variable{prog:Bn}{w:By}{A:Bt}{E:Ag->Ai->Prop}{s:Ai}
theorem wu{l:Addr}{o:Obj}{T:String}{items:List Ag}{n:Nat}{Q:List Ag->Ai->Prop}(ho:s.heap.get? l=ae o)(hc:o.cls=.type T)(hT:T="list"\/T="tuple")(hd:o.data=.seq items.toArray n)(hz:items.length<=A2)
  (h:∀h',(∀b u,s.heap.get? b=ae u->h'.get? b=ae u)->s.heap.objs.size<=h'.objs.size->Q items {s with heap:=h'}):Av (A7 prog w) A (collect (.ref l)) Q E s:=by
 have sb:=Bb (s.heap.push (Br "list" #[] 0)) s.heap.objs.size (B5 (·++items.toArray));have q:=h ((s.heap.push (Br "list" #[] 0)).update s.heap.objs.size (B5 (·++items.toArray))) (λb u e=>(sb.2 b (Be (An e))).trans (Ae _ e)) (by rw[Heap.size_update,size_push'];exact Ha _);unfold collect;refine Aa (wpAny_runValue (Df entry_proto_collect' ?_));show Av _ _ (do again (.builtin "list.__iadd__" ⟨[<-newList [],.ref l],[]⟩)) _ _ s;refine Aa (Hh (Af ⟨Code.quiet_builtin _ ∅,Df entry_list_iadd' ?_⟩));show Av _ _ (Dc (.ref s.heap.objs.size) (.ref l) (.ref s.heap.objs.size)) _ _ {s with heap:=s.heap.push (Br "list" #[] 0)};unfold Dc;have ho':(s.heap.push (Br "list" #[] 0)).get? l=ae o:=Ae _ ho;refine Aa (Ez (T:=T) ⟨o,ho',hc⟩ ?_);have ht:(Fz (.ref s.heap.objs.size) (.ref l) || C9 T==C9 "list" || C9 T==C9 "tuple")=ah:=by
  rcases hT with rfl|rfl<;>simp
 rw[if_pos ht];refine Aa (listItems_at ho' hd ?_);refine Aa (listItems_at (xs:=#[]) (n:=0) (As _ rfl) rfl ?_);rw[if_neg (by simp)];refine Aa (Fh (xs:=#[]) (n:=0) (As _ rfl) rfl ?_ (Bc _) (by simp only[Array.size_append,Ap,List.length_nil];omega));refine Af ?_;show Av (A7 prog w) A (do
   let o <-load s.heap.objs.size
   match o.data with
   |.seq xs _=>pure xs.toList
   |_=>unsupported "internal:collect") Q E {s with heap:=(s.heap.push (Br "list" #[] 0)).update s.heap.objs.size (B5 (·++items.toArray))}
 refine Aa (wpAny_load (E9 (As _ rfl) _) ?_);show Av _ _ (pure ((#[]:Array Ag)++items.toArray).toList) Q E _;rw[show((#[]:Array Ag)++items.toArray).toList=items by simp];exact Af q
end
section
variable{X:Cx}{pins:List (Addr×Obj)}{σ:St}{H:Hp}{s:Ai}{k:Nat}{f:Addr}{fd:C7}{ps:List Str}{sp:Sp}
theorem Inv.collects{a:Addr}{xs:List V}(I:Inv X pins σ H s)(h:SqL X.K H a xs\/SqT X.K H a xs):∃its:List Ag,Vals xs its/\xs.length<=A2/\∀(A:Bt)(E:Ag->Ai->Prop)(Q:List Ag->Ai->Prop),
  (∀h',(∀b u,s.heap.get? b=ae u->h'.get? b=ae u)->s.heap.objs.size<=h'.objs.size->Q its {s with heap:=h'})->Av (A7 X.prog X.w) A (collect (.ref a)) Q E s:=by
 rcases h with h|h
 ·obtain⟨its,r,⟨o,n,e,c,_,d⟩,z⟩:=I.list h;exact⟨its,r,z,λA E Q q=>wu e c (.inl rfl) d (by rw[<-r.length];exact z) q⟩
 ·obtain⟨its,r,⟨o,e,c,n,d⟩,z⟩:=I.tuple h;exact⟨its,r,z,λA E Q q=>wu e c (.inr rfl) d (by rw[<-r.length];exact z) q⟩
theorem Ls{Q:VK}{u:Ag}{x:V}(F:FnOk X.prog X.w X.K X.mg X.base b5 k f fd ps sp)(hr:Room (k+2) X.A)(hb:Binds X.K fd ps [])(I:Inv X pins σ H s)(r:RelV x u)(h:sp [x] H Q E0):
  Av (A7 X.prog X.w) X.A.in1.in1 (call (.ref f) [u]) (EP X pins σ Q) (λ_ _=>False) s:=by
 have hl:([u]++[]).length=ps.length:=by have:=F.len _ _ _ _ h;simpa using this
 refine wpAny_call (Fx (F.run X.A.in1.in1 X.stack s H ⟨[u],[]⟩ ([u]++[]) [x] Q E0 hr.in1.in1 I.env0.in1.in1 (hb s [u] I.kIn hl) (.cons r .nil) h) λr s' hq=>?_);cases r with
 |error e=>exact False.elim hq
 |ok fl=>
  cases fl with
  |ret u=>exact I.after hq
  |next=>exact False.elim hq
  |brk=>exact False.elim hq
  |cont=>exact False.elim hq
structure Fre(X:Cx)(pins:List (Addr×Obj))(b:Addr):Prop where
 sz:X.s₀.heap.objs.size<=b
 cells:∀x c,X.env.cells.lookup x=ae c->c≠b
 pins:∀p∈X.pn++pins,p.1≠b
 loc:b≠X.env.locals
 fs:b∉X.fs
theorem Inv.fre(I:Inv X pins σ H s){b:Addr}(h:s.heap.objs.size<=b):Fre X pins b:=by
 refine⟨B7 I.sz h,λx c e z=>?_,λp hp z=>?_,λz=>?_,I.nofs h⟩
 ·obtain⟨v,o,ho,_⟩:=I.cell x c e;have:=An ho;rw[z]at this;exact absurd (Bj this h) (C2 _)
 ·have:=An (I.pin p hp).1;rw[z]at this;exact absurd (Bj this h) (C2 _)
 ·have:=I.lt;rw[<-z]at this;exact absurd (Bj this h) (C2 _)
theorem Inv.track{o:HO}{h':Heap}{t':Nat}{D kS:Addr}(I:Inv X pins σ H s)(k:∀b u,b≠D->b≠kS->s.heap.get? b=ae u->h'.get? b=ae u)(hD:H D=af)(hk:H kS=af)(fD:Fre X pins D)(fk:Fre X pins kS)
  (new:ObjOk X.prog X.w (upd H D o) h' D o):Inv X pins σ (upd H D o) {s with heap:=h',toks:=t'}:=by
 have nD:∀b u,H b=ae u->b≠D:=λb u e z=>by rw[z,hD]at e;cases e
 have nk:∀b u,H b=ae u->b≠kS:=λb u e z=>by rw[z,hk]at e;cases e
 have c1:∀{b:Addr},b∉[D,kS]->b≠D:=λhc z=>hc (by simp[z]);have c2:∀{b:Addr},b∉[D,kS]->b≠kS:=λhc z=>hc (by simp[z]);refine I.step (g':=s.gens) (d':=s.drawn) (ch:=[D,kS]) (λb hb=>?_) (λb o _ _ hc e _=>k b o (c1 hc) (c2 hc) e) (λb o _ _ hc e _=>⟨o.slots,k b o (c1 hc) (c2 hc) e⟩) (λb o hc e n=>by rw[aX (c1 hc)];exact n)
  (λb o hc e=>⟨o,k b o (c1 hc) (c2 hc) e⟩) (λb xs e=>by rw[aX (nD b _ e)];exact e) (λb o u e=>by rw[aX (nD b _ e)];exact e) (λb ps e=>⟨#[],by rw[aX (nD b _ e),e];simp⟩) (λm hm=>?_) (λb u e=>?_) I.bare
 ·have:b=D\/b=kS:=by simpa using hb
  rcases this with rfl|rfl
  ·exact⟨.inr fD.sz,fD.loc,fD.cells,fD.pins⟩
  ·exact⟨.inr fk.sz,fk.loc,fk.cells,fk.pins⟩
 ·obtain⟨o,es,ep,ho,r⟩:=hm;exact⟨o,es,ep,k _ o (Ne.symm fD.loc) (Ne.symm fk.loc) ho,r⟩
 ·by_cases hb:b=D
  ·subst hb;rw[bI]at e;cases e;exact new
  ·rw[aX hb]at e;refine(I.hok b u e).stay (λc v hc q=>k c v ?_ ?_ q) (λc q=>by rw[aX (nD c _ q)];exact q) λc xs q=>by rw[aX (nD c _ q)];exact q
   ·rcases hc with z|z
    ·rw[z];exact hb
    ·exact nD c _ z
   ·rcases hc with z|z
    ·rw[z];exact nk b u e
    ·exact nk c _ z
theorem oN(I:Inv X pins σ H s){ds:List Ab}:∀{ks:List V}{us:List Ag},RdAll X.K H ks ds->Vals ks us->us.length=ds.length/\∀(i:Nat)(u:Ag),us[i]?=ae u->∃d as,ds[i]?=ae d/\Gj s.heap u d as:=by
 induction ds with
 |nil=>intro ks us h v;cases h;cases v;exact⟨rfl,λi u e=>by simp at e⟩
 |cons d ds ih=>
  intro ks us h v;cases h with
  |cons r rs=>
   cases v with
   |@cons _ u _ _ q qs=>
    obtain⟨l,at'⟩:=ih rs qs;refine⟨by simp[l],λi v e=>?_⟩;cases i with
    |zero=>
     obtain⟨as,R⟩:=RdD.reads I r q;cases(show u=v by simpa using e);exact⟨d,as,rfl,R⟩
    |succ i=>simpa using at' i v (by simpa using e)
theorem xr(I:Inv X pins σ H s){ds:List (List Ab)}:∀{ks:List V}{us:List Ag},RdAll X.K H ks (ds.map De)->Vals ks us->(∀d∈ds,∃y r,d=De y::r)->
  ∃fs,KatTups s.heap us fs/\fs.length=us.length/\∀v∈fs,Looks (A7 X.prog X.w) s.heap (typeOf v) (C9 "tuple"):=by
 induction ds with
 |nil=>intro ks us h v _;cases h;cases v;exact⟨[],trivial,rfl,λv hv=>nomatch hv⟩
 |cons d ds ih=>
  intro ks us h v hd;cases h with
  |cons r rs=>
   cases v with
   |@cons _ u _ _ q qs=>
    obtain⟨fs,f1,f2,f3⟩:=ih rs qs λd hd'=>hd d (Ar _ hd');obtain⟨y,rr,rfl⟩:=hd d Am;obtain⟨as,R⟩:=RdD.reads I r q;cases R with
    |tuple h1 h2 h3 h4=>
     rename_i a' ob vs n;obtain⟨v,vr,ev⟩:∃v vr,vs.toList=v::vr:=by
      cases ev:vs.toList with
      |nil=>rw[ev]at h4;cases h4
      |cons v vr=>exact⟨v,vr,rfl⟩
     rw[ev]at h4;have hv0:vs[0]?=ae v:=by
      rw[<-Bp,ev];rfl
     cases h4 with
     |cons hv hr'=>
      refine⟨v::fs,.cons h1 h2 h3 hv0 f1,by simp[f2],λx hx=>?_⟩;rcases Al.mp hx with rfl|z
      ·cases hv with
       |tuple g1 g2 g3 g4=>
        rw[<-g2];exact(Looks.ld g1).andThen .now
      ·exact f3 x z
end
theorem zQ{xs:List V}{vs:List Ag}(h:Vals xs vs):∀{j:Nat}{u:Ag},vs[j]?=ae u->∃x,xs[j]?=ae x/\RelV x u:=by
 induction h with
 |nil=>intro j u e;simp at e
 |cons r _ ih=>
  intro j u e;cases j with
  |zero=>cases(show _=u by simpa using e);exact⟨_,rfl,r⟩
  |succ j=>simpa using ih (by simpa using e)
theorem oW{xs:List V}{vs:List Ag}(h:Vals xs vs):∀(idx:List Nat),(∀i∈idx,i < vs.length)->Vals (idx.map λi=>xs.getD i .non) (idx.map λi=>vs.getD i Bd)
 |[],_=>.nil
 |i::r,hi=>by
  have h1:=hi i Am;obtain⟨x,e,q⟩:=zQ h (Ah h1);refine .cons ?_ (oW h r λj hj=>hi j (Ar _ hj));have e1:xs.getD i .non=x:=by simp[e]
  have e2:vs.getD i Bd=vs[i]:=by simp[h1]
  show RelV (xs.getD i .non) (vs.getD i Bd);rw[e1,e2];exact q
section
variable{X:Cx}{pins:List (Addr×Obj)}{σ:St}{H:Hp}{s:Ai}{k:Nat}{f:Addr}{fd:C7}{ps:List Str}{sp:Sp}
theorem MF{a kS:Addr}{e1:Nat}{xs:List V}{vs:List Ag}{QK:List V->Hp->Prop}{P:PySem.Fin->Ai->Prop}{E:Ag->Ai->Prop}(F:FnOk X.prog X.w X.K X.mg X.base b5 k f fd ps sp)(hr:Room (k+2) X.A)(hb:Binds X.K fd ps [])(h64:vs.length < 64)(hv:Vals xs vs)(hka:kS≠a)(fk:Fre X pins kS)
  (I:Inv X ((kS,Br "list" #[] 0)::(a,Br "list" #[] e1)::pins) σ H s) (q:jD sp xs H QK)
  (fin:∀ks us e H1 s1,Inv X ((kS,Br "list" us.toArray e)::(a,Br "list" #[] e1)::pins) σ H1 s1->Vals ks us->us.length=vs.length->QK ks H1->Av (A7 X.prog X.w) X.A.in1.in1 (ksk_end a ai vs.toArray e1 (.ref kS) us.toArray) P E s1):
  Av (A7 X.prog X.w) X.A.in1.in1 (ksk_rest a (.ref f) ai vs.toArray e1 (.ref kS)) P E s:=by
 have hlx:xs.length=vs.length:=hv.length;unfold ksk_rest;refine Aa (Fw ?_)
 first
  |rw[List.forIn_toArray]
  | (rw[<-Gq];simp only[List.toList_toArray])
 refine Aa (ksk_fold (λi s'=>∃us e H' ks,Inv X ((kS,Br "list" us.toArray e)::(a,Br "list" #[] e1)::pins) σ H' s'/\us.length=i/\Vals ks us/\jD sp (xs.drop i) H' (λks' H''=>QK (ks++ks') H'')) vs 0 s
  ⟨[],0,H,[],I,rfl,.nil,by simpa using q⟩ ?step ?done)
 case step=>
  rintro j u s' hu ⟨us,e,H',ks,I',hl,hvs,hq⟩
  simp only[Nat.zero_add]at hl hq ⊢;have hj:j < vs.length:=(Bo.mp hu).1;obtain⟨x,hx,rx⟩:=zQ hv hu;have ed:xs.drop j=x::xs.drop (j+1):=by
   have hj':j < xs.length:=by omega
   rw[Ge hj'];rw[Ah hj']at hx;rw[Bi hx]
  rw[ed]at hq;refine Aa (Eh (Dv (Ls F hr hb I' rx hq) (λv s'' he=>?_) λ_ _ hF=>hF.elim));obtain⟨kv,H2,I2,rk,q2⟩:=he;dsimp only;have nk:=I2.pin (kS,Br "list" us.toArray e) (A1 _ (.head _));have s1:=Bb s''.heap kS (B5 (·.push v));obtain⟨c2,hc2⟩:∃c2,(s''.heap.update kS (B5 (·.push v))).get? kS=ae (Br "list" (us++[v]).toArray c2):=by
   have h:=E9 nk.1 (·.push v);rw[show us.toArray.push v=(us++[v]).toArray by simp]at h;exact⟨_,h⟩
  refine Aa (Fh nk.1 rfl ?_ (by rw[Ap,Cw];omega) (by rw[Array.size_push,Ap,Cw];omega));have I3:Inv X ((a,Br "list" #[] e1)::pins) σ H2 s'':=I2.pins_of λp hp=>I2.pin p (A1 _ (.tail _ hp));have I4:Inv X ((a,Br "list" #[] e1)::pins) σ H2 {s'' with heap:=s''.heap.update kS (B5 (·.push v))}:=by
   refine I3.turned (t':=s''.toks) (λb o hb q=>(s1.2 b hb).trans q) nk.2.1 fk.loc (.inr fk.sz) fk.cells λp hp=>?_;rcases A6.mp hp with z|z
   ·exact fk.pins p (Dz _ z)
   ·rcases Al.mp z with rfl|z
    ·exact hka.symm
    ·exact fk.pins p (A1 _ z)
  refine Af ⟨rfl,us++[v],c2,H2,ks++[kv],?_,by simp[hl],hvs.append (.cons rk .nil),?_⟩
  ·refine I4.pins_of λp hp=>?_;rcases Al.mp hp with rfl|hp
   ·exact⟨hc2,nk.2.1,fk.loc,fk.fs,λv z=>nomatch z⟩
   ·exact I4.pin p (A1 _ hp)
  ·have:(λks' H''=>QK (ks++[kv]++ks') H'')=λks' H''=>QK (ks++kv::ks') H'':=by funext ks' H'';simp
   rw[this];exact q2
 case done=>
  rintro s' ⟨us,e,H',ks,I',hl,hvs,hq⟩
  have hd:xs.drop (0+vs.length)=[]:=List.drop_of_length_le ⋯;rw[hd]at hq;have nk:=I'.pin (kS,Br "list" us.toArray e) (A1 _ (.head _));refine Aa (listItems_at nk.1 rfl ?_);exact fin ks us e H' s' I' hvs ⋯ (by have hq:QK (ks++[]) H':=hq;simpa using hq)
theorem zq{qs:List cS}:∀{es:List DictEntry},(∀e∈es,∃p∈qs,e.key=.ref p.2.1)->∃xs:List V,Vals xs (es.map (·.key))/\∀v∈xs,∃p∈qs,v=V.ref p.2.1
 |[],_=>⟨[],.nil,λv hv=>by simp at hv⟩
 |e::r,h=>by
  obtain⟨p,hp,ek⟩:=h e Am;obtain⟨xs,rv,hx⟩:=zq λx hx=>h x (Ar _ hx);exact⟨.ref p.2.1::xs,.cons ek rv,λv hv=>(Al.mp hv).elim (λz=>⟨p,hp,z⟩) (hx v)⟩
theorem AE{Q:VK}{xs:List V}{vs:List Ag}(F:FnOk X.prog X.w X.K X.mg X.base b5 k f fd ps sp)(hr:Room (k+2) X.A)(hb:Binds X.K fd ps [])(I:Inv X pins σ H s)(rv:Vals xs vs)(h64:xs.length < 64)(q:jD sp xs H (pW X.K xs Q)):
  Av (A7 X.prog X.w) X.A.in1.in1 (ksk_tree s.heap.objs.size (.ref f) ai) (λf s2=>f=.done (.ret .none)/\EP X pins σ Q (.ref s.heap.objs.size) s2) X.xe {s with heap:=s.heap.push (Br "list" vs.toArray 0)}:=by
 have hlen:vs.length=xs.length:=rv.length.symm;refine CH (s:={ s with heap:=s.heap.push (Br "list" vs.toArray 0)}) (As _ rfl) ⋯ λh3 e1 k3 ha3 hz3=>?_;have hp1:(s.heap.push (Br "list" vs.toArray 0)).objs.size=s.heap.objs.size+1:=size_push' ..;have hz3':(s.heap.push (Br "list" vs.toArray 0)).objs.size<=h3.objs.size:=hz3;have hDk:s.heap.objs.size < h3.objs.size:=by omega
 have keep:∀b u,s.heap.get? b=ae u->(h3.push (Br "list" #[] 0)).get? b=ae u:=λb u e=>
  Ae _ (k3 b u (Be (An e)) (Ae _ e))
 have fD:=I.fre (Aq _);have fk:=I.fre (b:=h3.objs.size) ⋯;have I1:Inv X pins σ H {s with heap:=h3.push (Br "list" #[] 0)}:=I.kept (t':=s.toks) keep;have I2:Inv X ((h3.objs.size,Br "list" #[] 0)::(s.heap.objs.size,Br "list" #[] e1)::pins) σ H {s with heap:=h3.push (Br "list" #[] 0)}:=by
  refine I1.pins_of λp hp=>?_;rcases Al.mp hp with rfl|hp
  ·exact⟨As _ rfl,I.hok.fresh ⋯,fk.loc,fk.fs,λv z=>nomatch z⟩
  ·rcases Al.mp hp with rfl|hp
   ·exact⟨Ae _ ha3,I.hok.fresh (Aq _),fD.loc,fD.fs,λv z=>nomatch z⟩
   ·exact I1.pin p (A1 _ hp)
 refine MF (xs:=xs) F hr hb ⋯ rv (Ee hDk) fk I2 q ?_;intro ks us e H1 s1 I3 hks hul hq;obtain⟨ds,lt,hdl,hrd,⟨hds,hlt⟩,kq⟩:=hq;have nk:=I3.pin (h3.objs.size,Br "list" us.toArray e) (A1 _ (.head _));have na:=I3.pin (s.heap.objs.size,Br "list" #[] e1) (A1 _ (.tail _ (.head _)));obtain⟨hul2,hat⟩:=oN I3 hrd hks;refine HS (lt:=lt) nk.1 na.1 (Ee hDk) hul ⋯ (λh2=>?_) (λi j hi hj C hC=>?_) λidx h4 tk c hidx k4 hL=>⟨rfl,?_⟩
 ·obtain⟨fs,f1,f2,f3⟩:=xr I3 hrd hks λd hd=>(hds d hd).1;exact⟨fs,f1,by omega,f3⟩
 ·unfold kas_ask;have hi':i < us.length:=by omega
  have hj':j < us.length:=by omega
  have g1:us.getD i Bd=us[i]:=by simp[hi']
  have g2:us.getD j Bd=us[j]:=by simp[hj']
  rw[g1,g2];obtain⟨d1,as1,e1',R1⟩:=hat i us[i] (Ah hi');obtain⟨d2,as2,e2',R2⟩:=hat j us[j] (Ah hj');rw[A0,En]at e1' e2';obtain⟨x1,y1,rfl⟩:=e1';obtain⟨x2,y2,rfl⟩:=e2';have lt12:=hlt i j x1 x2 y1 y2;obtain⟨_,c1,c1'⟩:=hds x1 (B6 y1);obtain⟨_,c2,c2'⟩:=hds x2 (B6 y2);generalize us[i]=u1 at R1 ⊢;generalize us[j]=u2 at R2 ⊢;cases R1 with
  |tuple h1 h2 h3 h4=>
   cases R2 with
   |tuple g1 g2 g3 g4=>
    refine kat_lt h1 h3 g1 g3 ?_;rename_i o1 vs1 n1 a2 o2 vs2 n2;have hsz:decide (vs1.size < vs2.size)=decide (x1.length < x2.length):=by
     have e1:=F6 _ _ _ h4;have e2:=F6 _ _ _ g4;rw[Az]at e1 e2;rw[e1,e2]
    rw[hsz];exact oY (nQ x1 x2 _ _ _ _ _ _ _ _ h4 g4 c1 c2 (by have:=hr.units;show X.A.units+1+1+_+_ < _;omega) lt12 0 (by simp)) hC
 ·have I4:Inv X pins σ H1 s1:=I3.pins_of λp hp=>I3.pin p (A1 _ (.tail _ (.tail _ hp)));refine⟨.ref s.heap.objs.size,_,I4.track (o:=.lst (idx.map λi=>xs.getD i .non)) (t':=tk) k4 na.2.1 nk.2.1 fD fk ⟨?_,_,c,oW rv idx λi hi=>Bs.mp (hidx.mem_iff.mp hi),hL⟩,rfl,kq _ na.2.1 idx (by rw[<-hlen];exact hidx)⟩;rw[Ad,hidx.length_eq,Cs,Cw];omega
theorem AO{Q:VK}{x:V}{u:Ag}(F:FnOk X.prog X.w X.K X.mg X.base b5 k f fd ps sp)(hr:Room (k+2) X.A)(hb:Binds X.K fd ps [])(I:Inv X pins σ H s)(r:RelV x u)(h:qz X.K sp x H Q):
  Av (A7 X.prog X.w) X.A (call (.builtin "sorted") [u] [(C0 "key",.ref f)]) (EP X pins σ Q) X.xe s:=by
 rcases h with⟨a,xs,rfl,hs,h64,q⟩|⟨d,qs,rfl,hd,h64,q⟩
 ·obtain rfl:u=Bf a:=r;obtain⟨its,rv,z,col⟩:=I.collects hs;refine yo (R:=λvs s1=>vs=its/\Inv X pins σ H s1) (col _ _ _ λh' k1 k2=>⟨rfl,I.kept (t':=s.toks) k1⟩) ?_
  rintro vs s1 ⟨rfl,I1⟩
  exact⟨by rw[<-rv.length];exact z,AE F hr hb I1 rv h64 q⟩
 ·obtain rfl:u=Bf d:=r;obtain⟨⟨hsys,es,ep,hD,hz,hk⟩,_,_⟩:=(show ObjOk X.prog X.w H s.heap d (iC d qs)from I.hok d _ hd);have hh:X.A.in1.handled=af:=hr.hd;obtain⟨xs,rv,hxq⟩:=zq hk;have hxl:xs.length=es.size:=by rw[show xs.length=(es.toList.map (·.key)).length from rv.length,Ad,Az]
  refine yo (R:=λvs s1=>vs=es.toList.map (·.key)/\Inv X pins σ H s1) (kdu_collect (Ld (es:=es) (ep:=ep) hsys) hh hD (by rw[Cw];omega) λh' tk acc hk hI=>⟨?_,I.kept hk⟩) ?_
  ·apply List.ext_getElem?;intro j;by_cases hj:j < es.size
   ·have hja:j < acc.toList.length:=by rw[Az,hI.1];exact hj
    have this:(es[j]?).map (·.key)=ae (acc.toList[j]):=hI.2 j (acc.toList[j]) (by rw[<-Bp,Ah hja]);rw[Ah hja,A0,Bp,this]
   ·rw[Fv (by rw[Az,hI.1];omega),Fv (by rw[Ad,Az];omega)]
  rintro vs s1 ⟨rfl,I1⟩
  exact⟨by rw[Ad,Az,Cw];omega,AE F hr hb I1 rv ⋯ (q xs ⋯ hxq)⟩
theorem MM{o:Expr}{td:TE}{x:Str}{pp pos kp kpos:Pos}(F:FnOk X.prog X.w X.K X.mg X.base b5 k f fd ps sp)(hr:Room (k+2) X.A)(hb:Binds X.K fd ps [])(hg:Gl X "sorted")(hm:X.mg "sorted"=af)(hgf:Gl X x)(hmf:X.mg x=ae (.ref f))(ho:PE X o td)
  (hv:Bx "sorted"=ae (.builtin "sorted"):=by decide +kernel) (hdb:(x==("__debug__":Str))=ai:=by decide) (he:Aw [o] X.env=(ai,eval o X.env)::Aw [] X.env:=by rfl):
  PE X (.Call (.Name "sorted" pp) [o] [⟨ae "key",.Name x kp,kpos⟩] pos) (rK X.K sp td):=by
 intro pins s σ H Q I h;refine Hw (jB I hg hm hv ?_ ∎ ∎);refine callWith_kw (aT ((bY ho dz he) pos pins s σ H (λvs H1=>match vs with|[x]=>qz X.K sp x H1 Q|_=>False) I ?_) λus s1 ⟨vs,H1,I1,r,q⟩=>?_) (by rw[he];rfl) (by rw[he];rfl)
 ·exact h
 ·match vs,q with
  |[],q=>exact q.elim
  |_::_::_,q=>exact q.elim
  |[v],q=>
  obtain⟨u,rfl,ru⟩:=fe r;refine kws_cons (sA I1 hgf hmf (kws_nil ?_) hdb);exact AO F hr hb I1 ru q
end
section
variable{X:Cx}
theorem FP{i:Int}(h0:0<=i)(h1:i<=1000):Builtin.List.listFitsIndex i=ah:=fitsIndex_both ⋯ ⋯
def zH:V->List V->Hp->VK->Prop:=λx vs H Q=>∃l xs i y,x=.ref l/\vs=[.int i,y]/\H l=ae (.lst xs)/\0<=i/\i<=xs.length/\xs.length < 1000/\Q .non (upd H l (.lst (xs.take i.toNat++y::xs.drop i.toNat)))
theorem vW{xs:List V}{vs:List Ag}(h:Vals xs vs):∀k:Nat,Vals (xs.take k) (vs.take k)/\Vals (xs.drop k) (vs.drop k):=by
 induction h with
 |nil=>intro k;rw[List.take_nil,List.take_nil,List.drop_nil,List.drop_nil];exact⟨.nil,.nil⟩
 |cons r hr ih=>
  intro k;cases k with
  |zero=>exact⟨.nil,.cons r hr⟩
  |succ k=>exact⟨.cons r (ih k).1,(ih k).2⟩
theorem Kn:kj X "list.insert" zH:=by
 intro pins s σ H x vs v us Q I rx rv h;obtain⟨l,xs,i,y,rfl,rfl,hH,h0,h1,h2,q⟩:=h;cases rx;obtain⟨u1,u,rfl,⟨t,rfl⟩,ru⟩:=qx rv;obtain⟨z,its,n,r,hl,e⟩:=I.lstM hH;refine call_meets F.slot_list_insert ⟨_,e,rfl⟩ F.entry_list_insert (F.args_list_insert_3 _ _ _) (AutoSeq1.list_insert_list_int_val_1 l its.toArray n i t u (by rw[FP h0 ⋯];simp) (by rw[Ap];omega)) ⟨e,?_⟩;refine⟨.non,_,I.lset (its':=its.take i.toNat++u::its.drop i.toNat) hH e ?_ ((vW r _).1.append (.cons ru (vW r _).2)) ?_,rfl,q⟩
 ·have e1:(if i < 0 then(i+((its.toArray.size:Nat):Int)).toNat else min i.toNat its.toArray.size)=i.toNat:=by
   rw[if_neg ⋯,Ap];omega
  show(its.toArray.extract 0 (if i < 0 then(i+((its.toArray.size:Nat):Int)).toNat else min i.toNat its.toArray.size)).push u++its.toArray.extract (if i < 0 then(i+((its.toArray.size:Nat):Int)).toNat else min i.toNat its.toArray.size) its.toArray.size=_;rw[e1];apply F4.mp;simp;exact List.take_of_length_le (by rw[Dm];exact Aq _)
 ·rw[Ao,Ax,C4,Dm,Cw];omega
end
end L2
namespace DL
open PySem L2 Nb
section
variable{X:Cx}{a b c e o i f:Expr}{ta tb te td ty tx:TE}{wa wb we wd' wy wx:DT}{pos p:Pos}{K:Aj}
theorem uo{S:bx}{C:Ctx}{B:Addr->Prop}{σ:St}{δ:Sl}{n:Int}:∀{vs:List V}{xs:List Ab}{ds:List (List Ab)}{H:Hp}{QK:List V->Hp->Prop},RdXs H B vs xs->ds.length=xs.length->Rel C H B σ δ n->
  (∀(i:Nat) x d,xs[i]?=ae x->ds[i]?=ae d->∀m (Q0:DQ),Q0 (.d (.tuple d)) m->S [.d x] m Q0)->
  (∀ks H2,Rel C H2 B σ δ n->Kp C.t H H2->RdXs H2 B ks (ds.map De)->QK ks H2)->jD (dt S) vs H QK
 |[],_,ds,H,QK,.nil,hl,R,_,k=>by
  cases ds with
  |nil=>exact k [] H R (Kp.refl _ _) .nil
  |cons _ _=>cases hl
 |v::vs,x::xs,ds,H,QK,.cons r rs,hl,R,hS,k=>by
  cases ds with
  |nil=>cases hl
  |cons d ds=>
   refine⟨C.t,C.l,C.ns,B,[.d x],n,λw m=>w=.d (.tuple d)/\m=n,R.tp,R.bt,R.ba,.cons r .nil,hS 0 x d rfl rfl n _ ⟨rfl,rfl⟩,?_⟩
   rintro w n' ⟨rfl,rfl⟩ v' H' T' k' r'
   have R':=R.step T' k';refine uo (RdXs.kp k' R.bt rs) (by simpa using hl) R' (λi y z e1 e2=>hS (i+1) y z (by simpa using e1) (by simpa using e2)) λks H2 R2 k2 r2=>k _ H2 R2 (k'.trans k2) (.cons ?_ r2);have r'':WRel H' B C.t v' (.d (.tuple d)):=r';exact WRel.kp k2 R.bt r''
theorem sF{H:Hp}{B:Addr->Prop}{vs:List V}{xs:List Ab}(h:RdXs H B vs xs):∀(idx:List Nat),(∀i∈idx,i < xs.length)->RdXs H B (idx.map λi=>vs.getD i .non) (idx.map λi=>xs.getD i .none)
 |[],_=>.nil
 |i::r,hi=>by
  have h1:=hi i Am;obtain⟨v,e,q⟩:=h.getD (Ah h1);refine .cons ?_ (sF h r λj hj=>hi j (Ar _ hj));have e1:vs.getD i .non=v:=by simp[e]
  have e2:xs.getD i .none=xs[i]:=by simp[h1]
  show RdX H B (vs.getD i .non) (xs.getD i .none);rw[e1,e2];exact q
def gy(i:Nat)(wa wb:DT):aM:=λδ n K=>match δ[i]? with
 |some (ae (.own ds))=>wa δ n λx n1=>wb δ n1 λy n2=>match x,y with
  |.d (.int k),.d d=>(0<=k/\k<=ds.length/\ds.length < 1000)/\K.nx (δ.set i (ae (.own (ds.take k.toNat++d::ds.drop k.toNat)))) n2
  |_,_=>False
 |_=>False
theorem RdXs.takes{H:Hp}{B:Addr->Prop}:∀{vs:List V}{ds:List Ab},RdXs H B vs ds->∀k:Nat,RdXs H B (vs.take k) (ds.take k)/\RdXs H B (vs.drop k) (ds.drop k)
 |_,_,.nil,k=>by rw[List.take_nil,List.take_nil,List.drop_nil,List.drop_nil];exact⟨.nil,.nil⟩
 |_,_,.cons h r,0=>⟨.nil,.cons h r⟩
 |_,_,.cons h r,k+1=>⟨.cons h (RdXs.takes r k).1,(RdXs.takes r k).2⟩
theorem KU{i:Nat}{x:Str}{xp ap cp:Pos}(hN:X.N[i]?=ae x)(ha:DE X a ta wa)(hb:DE X b tb wb)(hv:fq X.env.scope x:=by first|exact Ea rfl|exact C6 (Ea rfl)|exact C6 (C6 rfl))(hd:(x==("__debug__":Str))=ai:=by decide)
  (hcd:(x==("__classdict__":Str))=ai:=by decide)
  (hbase:Gx (.Name x xp) "insert" X.env (eval (.Name x xp) X.env)=eval (.Name x xp) X.env:=by rfl)
  (hfew:((D2 cp (Aw [a,b] X.env)).all (λx=>!x.1)&&(backToKw cp (keywordEach [] X.env)).all (λx=>x.1.isSome)
   && decide ([a,b].length+([]:List Keyword).length+(if ([]:List Keyword).isEmpty then 0 else 1) < 30))=ah:=by rfl)
  (hline:(ap.endLine==cp.line)=ah:=by rfl) (hs:Aw [a,b] X.env=(ai,eval a X.env)::Aw [b] X.env:=by rfl) (hs2:Aw [b] X.env=(ai,eval b X.env)::Aw [] X.env:=by rfl) (hplain:(D2 cp (Aw [b] X.env)).any (·.1)=ai:=by rfl)
  (hsw:F1 (.Call (.Attribute (.Name x xp) "insert" ap) [a,b] [] cp) af pos.line X.env=pure ai:=by rfl):
  DS X (.Expr (.Call (.Attribute (.Name x xp) "insert" ap) [a,b] [] cp) pos) (j5 (lh X.K "list" zH (dc i) (c9 ta (c9 tb bF)))) (gy i wa wb):=
 ⟨kR (mQ E8 PySem.F.slot_list_insert PySem.F.type_list_insert Kn (gM hN hv hd hcd) (bY ha.pe (bY hb.pe dz hs2) hs) hbase hfew hline hs hplain) hsw,λC H B σ δ n K D R q E=>by
  unfold gy at q
  split at q
  ·rename_i ds ei;obtain⟨v,hv,aa,xs,rfl,e2,e3,e4,e5,e6⟩:=R.sl i _ ei;refine⟨_,hv,.inl ⟨rfl,_,SqL.of e2⟩,ha.sd C H B σ δ n _ _ R q λu x H1 n1 R1 k1 r1 q1=>hb.sd C H1 B σ δ n1 _ _ R1 q1 λu2 y H2 n2 R2 k2 r2 q2=>?_⟩
   split at q2
   ·rename_i kk d;obtain⟨⟨q3,q4,q5⟩,q6⟩:=q2;cases(show RdX H1 B u (.int kk)from r1);have hat:aa≠C.t:=λz=>R.t0 (z▸e4);have e2':=k2 _ _ (k1 _ _ e2 hat) hat;have hle:=e6.len;have r3:RdXs H2 B xs ds:=(e6.kp k1 R.bt).kp k2 R.bt;refine⟨aa,xs,kk,u2,rfl,rfl,e2',q3,by omega,by omega,?_⟩;refine E.nx _ _ _ _ _ (R2.mutOwn ei rfl hv e3 e4 ?_ rfl) q6;refine⟨aa,xs.take kk.toNat++u2::xs.drop kk.toNat,rfl,bI,e3,e4,?_,?_⟩
    ·rw[Ao,Ax,C4,Dm];exact gS ⋯
    ·refine RdXs.keep (λb o e n=>?_) ((r3.takes _).1.append (.cons r2 (r3.takes _).2));rw[aX λ(z:b=aa)=>n (z▸e3)];exact e
   ·exact q2.elim
  ·exact q.elim⟩
end
end DL
namespace L2
open PySem PySem.Spec PyProof.Rows PySem.SeqAt PySem.W
end L2
namespace DL
open PySem L2 Nb
section
variable{X:Cx}{o:Expr}{td:TE}{wd':DT}{pos p p2:Pos}{K:Aj}
def vD:bA->Ab
 |.inl i=>.int i
 |.inr x=>.str x
def rowD(k:List bA):Ab:=.tuple (k.map vD)
def pE(S:bx)(w:DT):dX:=λδ n Q=>w δ n λx n1=>∃(ps:List (List bA×Ab))(kf:List bA->List Ab),x=.d (.tuple (ps.map λp=>.tuple [rowD p.1,p.2]))/\ps.length < 64 /\
 (∀p∈ps,∀(m:Int)(Q0:DQ),Q0 (.d (.tuple (kf p.1))) m->S [.d (rowD p.1)] m Q0)/\(∀ks:List (List bA),(∀k∈ks,k∈ps.map (·.1))->∃lt,lS (ks.map kf) lt) /\
 ∀out:List (List bA),out.length<=ps.length->(∀k∈out,k∈ps.map (·.1))->Q (out.map rowD) n1
theorem O0{H:Hp}{B:Addr->Prop}{k:List bA}:∀{vs:List V},RdXs H B vs (k.map vD)->vs=k.map kV:=by
 induction k with
 |nil=>intro vs h;cases h;rfl
 |cons x k ih=>
  intro vs h;cases h with
  |cons h t=>
   rw[ih t];cases x with
   |inl i=>cases(show RdX H B _ (.int i)from h);rfl
   |inr x=>cases(show RdX H B _ (.str x)from h);rfl
theorem IE{H:Hp}{B:Addr->Prop}{ps:List (List bA×Ab)}:∀{vs:List V},RdXs H B vs (ps.map λp=>.tuple [rowD p.1,p.2])->∃qs:List cS,vs=qs.map (λq=>V.ref q.1)/\jW H qs/\qs.length=ps.length/\∀q∈qs,q.2.2.1∈ps.map (·.1)/\RdX H B (.ref q.2.1) (rowD q.2.2.1):=by
 induction ps with
 |nil=>intro vs h;cases h;exact⟨[],rfl,λq hq=>by simp at hq,rfl,λq hq=>by simp at hq⟩
 |cons p ps ih=>
  intro vs h;cases h with
  |cons h t=>
   obtain⟨qs,rfl,h1,h2,h3⟩:=ih t;cases(show RdX H B _ (.tuple [rowD p.1,p.2])from h)with
   |@tup a ys _ e1 e2 e3 e4=>
    cases e4 with
    |@cons y1 r1 _ _ f1 f2=>
     cases f2 with
     |@cons y2 r2 _ _ g1 g2=>
      cases g2;have f1':=f1;cases(show RdX H B y1 (.tuple (p.1.map vD))from f1)with
      |@tup b zs _ i1 i2 i3 i4=>
       have ez:=O0 i4;subst ez;refine⟨(a,b,p.1,y2)::qs,rfl,λq hq=>?_,by rw[Ax,Ax,h2],λq hq=>?_⟩
       ·rcases Al.mp hq with rfl|hq
        ·exact⟨e1,i1⟩
        ·exact h1 q hq
       ·rcases Al.mp hq with rfl|hq
        ·exact⟨Am,f1'⟩
        ·exact⟨Ar _ (h3 q hq).1,(h3 q hq).2⟩
theorem O5{H:Hp}{B:Addr->Prop}{qs:List cS}{L:List (List bA)}(h:∀q∈qs,q.2.2.1∈L/\RdX H B (.ref q.2.1) (rowD q.2.2.1)){xs:List V}:(∀v∈xs,∃q∈qs,v=V.ref q.2.1)->∃ks:List (List bA),RdXs H B xs (ks.map rowD)/\∀k∈ks,k∈L:=by
 induction xs with
 |nil=>intro _;exact⟨[],.nil,λk hk=>by simp at hk⟩
 |cons v xs ih=>
  intro hx;obtain⟨q,hq,rfl⟩:=hx v Am;obtain⟨ks,r,hk⟩:=ih λw hw=>hx w (Ar _ hw);exact⟨q.2.2.1::ks,.cons (h q hq).2 r,λk z=>(Al.mp z).elim (λe=>e▸(h q hq).1) (hk k)⟩
theorem Ib{S:bx}{k:Nat}{ps:List Str}{x:Str}{kp kpos dp dpos:Pos}(h:Has X.prog X.w X.K X.mg X.base k x ps S)(hr:Room (k+2) X.A)(hg:Gl X "sorted")(hm:X.mg "sorted"=af)(hgf:Gl X x)(hg2:Gl X "dict")(hm2:X.mg "dict"=af)(ho:DE X o td wd')
  (hv:Bx "sorted"=ae (.builtin "sorted"):=by decide +kernel) (hv2:Bx "dict"=ae (.type "dict"):=by decide +kernel) (hdb:(x==("__debug__":Str))=ai:=by decide) (he:Aw [.Call (.Name "dict" dp) [o] [] dpos] X.env=(ai,eval (.Call (.Name "dict" dp) [o] [] dpos) X.env)::Aw [] X.env:=by rfl)
  (he':Aw [o] X.env=(ai,eval o X.env)::Aw [] X.env:=by rfl) (hpl:(D2 dpos (Aw [] X.env)).any (·.1)=ai:=by rfl):
  DF X (.Call (.Name "sorted" p) [.Call (.Name "dict" dp) [o] [] dpos] [⟨ae "key",.Name x kp,kpos⟩] pos) (rK X.K (dt S) (eR (λxs H Q=>∃(src:Addr)(ps:List cS),xs=[.ref src]/\H src=ae (.tup (ps.map λp=>V.ref p.1))/\jW H ps/\ps.length<=1000 /\
  ∀l,H l=af->Q (.ref l) (L2.upd H l (iC l ps))) (c9 td bF))) (pE S wd'):=by
 obtain⟨f,fd,h1,h2,h3,h4⟩:=h.ex;refine⟨MM h1 hr h2 hg hm hgf h3 (kQ (AQ hr.hd (by have:=hr.units;omega)) hg2 hm2 hv2 (bY ho.pe dz he') ∎ ∎ he' hpl) hv hdb he,λC H B σ δ n Q Q' R q kk=>ho.sd C H B σ δ n _ _ R q λv x H1 n1 R1 k1 r1 q1=>?_⟩;obtain⟨ps,kf,rfl,h64,hS,hO,kq⟩:=q1;cases(show RdX H1 B v (.tuple (ps.map λp=>.tuple [rowD p.1,p.2]))from r1)with
 |@tup a ys _ g1 g2 g3 g4=>
  obtain⟨qs,rfl,hP,hql,hqr⟩:=IE g4;refine⟨a,qs,rfl,g1,hP,by omega,λl hl=>?_⟩;have R1':=R1.new (o:=iC l qs) hl;have k1':=k1.trans (Kp.new (t:=C.t) (o:=iC l qs) hl);have hqr':∀q∈qs,q.2.2.1∈ps.map (·.1)/\RdX (upd H1 l (iC l qs)) B (.ref q.2.1) (rowD q.2.2.1):=λq hq=>⟨(hqr q hq).1,((hqr q hq).2.kp (Kp.new (t:=C.t) hl) R.bt)⟩;refine .inr ⟨l,qs,rfl,bI,by omega,λxs hxl hxq=>?_⟩;obtain⟨ks,rk,hkm⟩:=O5 hqr' hxq;have hkl:=rk.len;rw[Ad]at hkl;obtain⟨lt,hlt⟩:=hO ks hkm;refine uo (ds:=ks.map kf) rk (by rw[Ad,Ad]) R1' (λi x d e1 e2 m Q0 q0=>?_) λkvs H2 R2 k2 r2=>⟨ks.map kf,lt,by rw[Ad];omega,r2.rd,hlt,λD hD idx hidx=>?_⟩
  ·rw[A0,En]at e1 e2;obtain⟨k,e1,rfl⟩:=e1;obtain⟨k',e2,rfl⟩:=e2;rw[e1]at e2;cases e2;obtain⟨pp,hpp,rfl⟩:=Bk.mp (hkm _ (B6 e1));exact hS pp hpp m Q0 q0
  ·rw[hkl]at hidx;have hin:∀i∈idx,i < (ks.map rowD).length:=λi hi=>by rw[Ad];exact Bs.mp (hidx.mem_iff.mp hi)
   have eo:(idx.map λi=>(ks.map rowD).getD i .none)=(idx.map λi=>ks.getD i []).map rowD:=by
    rw[Er];apply Hf;intro i hi;have:=hin i hi;rw[Ad]at this;simp[this]
   refine kk D _ ((idx.map λi=>ks.getD i []).map rowD) _ n1 (R2.new hD) ((k1'.trans k2).trans (Kp.new hD)) (R1'.was k1' (R2.was k2 hD)) bI ?_ ?_ (kq _ ?_ λk hk=>?_)
   ·rw[Ad,hidx.length_eq,Cs];exact gS ⋯
   ·rw[<-eo];exact(sF (RdXs.kp k2 R.bt rk) idx hin).fresh hD
   ·rw[Ad,hidx.length_eq,Cs];omega
   ·obtain⟨i,hi,rfl⟩:=Bk.mp hk;have hlt':=Bs.mp (hidx.mem_iff.mp hi);have:ks.getD i []=ks[i]:=by simp[hlt']
    rw[this];exact hkm _ (Ed hlt')
end
end DL
namespace HT
open PySem PyProof.Rows
section
variable{prog:Bn}{w:By}{A:Bt}{E:Ag->Ai->Prop}{s:Ai}
theorem LP(n:Nat):D1 af af (-1) (n:Int)=((n:Int)-1,-1):=by
 unfold D1;simp
theorem FV(n:Nat):C3 ((n:Int)-1) (-1) (-1)=n:=by
 unfold C3;simp only[show ¬((-1:Int) > 0) by decide,if_false];by_cases h:n=0
 ·subst h;rfl
 ·have h1:(-1:Int) < (n:Int)-1:=by omega
  have h2:((n:Int)-1 - -1-1) / - -1+1=(n:Int):=by simp;try omega
  have h3:((n:Int)-1 > -1):=by omega
  simp only[h3,if_true];rw[h2];exact B9 n
theorem BH{sl:Addr}{t:Tok}{n:Nat}{Q:Int×Int×Nat->Ai->Prop}(hs:s.heap.IsSliceOf sl .none .none (.int (-1) t))(h:Q ((n:Int)-1,-1,n) s):
  Av (A7 prog w) A (Fn (.ref sl) (pure (n:Int))) Q E s:=by
 obtain⟨os,hos,hcs,hds⟩:=id hs;unfold Fn Builtin.Slice.sliceFields;refine Aa (Aa (Cu hos hds (x:=.none) rfl (Aa (Cu hos hds (x:=.none) rfl (Aa (Cu hos hds (x:=.int (-1) t) rfl (Af ?_)))))));refine Aa (slicePart_int ?_);show Av _ _ (if ((-1:Int)==0)=ah then _ else _) _ _ s;rw[if_neg ∎];refine Aa (slicePart_none (Aa (slicePart_none (Aa (Af ?_)))));show Av _ _ (match D1 af af (-1) (n:Int)with|(lo,hi)=>pure (lo,(-1:Int),C3 lo hi (-1))) _ _ s;rw[LP n];show Av _ _ (pure ((n:Int)-1,(-1:Int),C3 ((n:Int)-1) (-1) (-1))) _ _ s;rw[FV];exact Af h
theorem Js(xs:Array Ag):((Bh xs.size).filterMap λ(m:Nat)=>xs[((xs.size:Int)-1+(m:Int)*(-1)).toNat]?).toArray=xs.toList.reverse.toArray:=by
 congr 1
 have e:∀m∈Bh xs.size,xs[((xs.size:Int)-1+(m:Int)*(-1)).toNat]?=ae (xs.getD (xs.size-1-m) Bd):=λm hm=>by
  have hm:=Bs.mp hm;have e1:((xs.size:Int)-1+(m:Int)*(-1)).toNat=xs.size-1-m:=by omega
  have e2:xs.size-1-m < xs.size:=by omega
  rw[e1,Cn e2];simp[e2]
 have fm:∀l:List Nat,(∀m∈l,m∈Bh xs.size)->(l.filterMap λ(m:Nat)=>xs[((xs.size:Int)-1+(m:Int)*(-1)).toNat]?)=l.map λm=>xs.getD (xs.size-1-m) Bd:=by
  intro l
  induction l with
  |nil=>intro _;rfl
  |cons m r ih=>
   intro hm;rw[Fd,e m (hm m Am),A5,ih λk hk=>hm k (Ar _ hk)]
 rw[fm _ λm hm=>hm];apply Ew
 ·simp
 ·intro i h1 h2;simp at h1;have:xs.size-1-i < xs.size:=by omega
  simp[List.getElem_reverse,this]
theorem getItem_tuple_rev{t sl:Addr}{items:Array Ag}{tk:Tok}{Q:Ag->Ai->Prop}(ht:IsTup s.heap t items)(hs:s.heap.IsSliceOf sl .none .none (.int (-1) tk))
  (h:Q (.ref s.heap.objs.size) {s with heap:=s.heap.push {cls:=.type "tuple",data:=.seq items.toList.reverse.toArray}}) (hsz:items.size<=A2):Av (A7 prog w) A (getItem (.ref t) (.ref sl)) Q E s:=by
 have htake:sizeOk (.seq items.toList.reverse.toArray):=by
  show items.toList.reverse.toArray.size<=A2;rw[Ap,Eo,Az];exact hsz
 obtain⟨os,hos,hcs,hds⟩:=id hs;have hTs:s.TypeIs (.ref sl) "slice":=⟨os,hos,hcs⟩;unfold getItem
 try with_reducible refine Cg ?_
 first|refine Aa (Af ?_)|skip
 refine Aa (wpAny_sequenceKey ht.typeIs ∎ ?_);refine Aa (Bz (name:=C0 "__getitem__") ht.typeIs Dd
  (Ca Dd ht.typeIs entry_tuple_getitem ?_ (args_tuple_getitem _ _)))
 show Av _ _ (Fm (.ref t)>>=_) _ _ s;refine Aa (tupleItemsOf_ ht ?_);refine Aa (Ez hTs ?_);rw[if_pos ∎];refine Aa (BH hs ?_);have hno:¬(((items.size:Int)-1==0&&(-1:Int)==1&&items.size==items.size)=ah):=by
  intro q;rw[Ay,Ay]at q;exact absurd q.1.2 ∎
 show Av _ _ (if ((items.size:Int)-1==0&&(-1:Int)==1&&items.size==items.size)=ah then _ else _) _ _ s;rw[if_neg hno,Js]
 first
  |exact Aa (m:=C8 _) (Bq (Af ⟨_,rfl,Af h⟩) htake)
  |exact Aa (m:=C8 _) (Bq (Aa (Af (Af ⟨_,rfl,Af h⟩))) htake)
  |exact Aa (Aa (m:=C8 _) (Bq (Af (Af ⟨_,rfl,Af h⟩)) htake))
  |exact Aa (Aa (m:=C8 _) (Bq (Af ⟨_,rfl,Af h⟩) htake))
end
end HT
namespace L2
open PySem PySem.Spec PyProof.Rows
section
variable{X:Cx}{e st:Expr}{te ts:TE}{pos p2:Pos}
def xZ(K:Aj)(te ts:TE):TE:=λσ H Q=>te σ H λx H1=>ts σ H1 λy H2=>∃a xs,x=.ref a/\y=.int (-1)/\SqT K H2 a xs/\∀p,H2 p=af->Q (.ref p) (upd H2 p (.tup xs.reverse))
theorem CV(he:PE X e te)(hs:PE X st ts)(hev:evalPart (ae st) X.env=eval st X.env:=by rfl):PE X (.Subscript e (.Slice af af (ae st) p2) pos) (xZ X.K te ts):=by
 intro pins s σ H Q I h;refine Subscript_ (aT (he pins s σ H _ I h) λv s1 ⟨x,H1,I1,r1,q1⟩=>?_);refine wpAny_Slice ?_;rw[evalPart_none];refine Af (Af ?_);rw[hev];refine aT (hs pins s1 σ H1 _ I1 q1) λvs s3 ⟨y,H3,I3,ry,a,xs,ex,ey,hx,q⟩=>?_;subst ex;subst ey;cases r1;obtain⟨tk,rfl⟩:=ry;have I4:Inv X pins σ H3 {s3 with heap:=s3.heap.push {cls:=.type "slice",data:=.fields #[.none,.none,.int (-1) tk]}}:=I3.kept (t':=s3.toks) λb ob q=>Ae _ q;obtain⟨its,r,ht,hz⟩:=I4.tuple hx;have hlen:its.toArray.size=xs.length:=by rw[Ap];exact r.length.symm
 show Av (A7 X.prog X.w) X.A (subscriptTail e (.Slice af af (ae st) p2) (.ref a) (.ref s3.heap.objs.size)) (EP X pins σ Q) X.xe {s3 with heap:=s3.heap.push {cls:=.type "slice",data:=.fields #[.none,.none,.int (-1) tk]}};refine tail_any (ops:=[.ref a,.ref s3.heap.objs.size]) ht.typeIs PyProof.Rows.slot_tuple_getitem.lookup (HT.getItem_tuple_rev ht (Heap.IsSliceOf.new ..) ?_ (by rw[hlen];exact hz)) (by with_unfolding_all rfl);refine⟨.ref _,_,I4.laid (t':=s3.toks) (o:=.tup xs.reverse) (λb ob q=>Ae _ q) (Aq _) ?_,rfl,q _ (I4.hok.fresh (Aq _))⟩;exact⟨by rw[Eo];exact hz,its.reverse,r.reverse,IsTupP.new _ _⟩
end
end L2
namespace DL
open PySem L2 Nb
section
variable{X:Cx}{a b c e o i f:Expr}{ta tb te td ty tx:TE}{wa wb we wd' wy wx:DT}{pos p p2 p3 p4:Pos}{K:Aj}
def eV(w:DT):DT:=λδ n Q=>w δ n λx n1=>match x with
 |.d (.tuple ds)=>Q (.d (.tuple ds.reverse)) n1
 |_=>False
theorem HN{jj}(he:DE X e te we)(hK:X.K=K:=by rfl):DE X (.Subscript e (.Slice af af (ae (.UnaryOp .USub (.Constant (.int 1) jj p3) p4)) p2) pos) (xZ K te (oS (rU λi=>.int (-i)) (tC (.int 1)))) (eV we):=by
 subst hK;refine⟨CV he.pe (yi yf bV),λC H B σ δ n Q Q' R q k=>he.sd C H B σ δ n _ _ R q λv x H1 n1 R1 k1 r1 q1=>?_⟩
 split at q1
 ·rename_i ds;cases(show RdX H1 B v (.tuple ds)from r1)with
  |@tup ay ys _ e1 e2 e3 e4=>
   refine⟨1,rfl,ay,ys,rfl,rfl,SqT.of e1,λp hp=>k _ _ _ n1 (R1.new hp) (k1.trans (Kp.new hp)) (wd (show RdX _ B _ (.tuple ds.reverse)from .tup bI (R1.nb hp) (by rw[Eo];exact e3) ?_)) q1⟩;exact((RdXs.rev e4).fresh hp).less λb z=>.inl z
 ·exact q1.elim
end
end DL
namespace L2
open PySem PySem.Spec PyProof.Rows PySem.SeqAt
end L2
namespace DL
open PySem L2 Nb
end DL
namespace L2
open PySem PySem.Spec PyProof.Rows
section
variable{prog:Bn}{w:By}{A:Bt}{E:Ag->Ai->Prop}{s:Ai}
theorem FN{z TI TO i1 i2 l1 l2:Addr}{k:Nat}{xs ys:Array Ag}{x a b:Ag}{Q:Fin->Ai->Prop}(hh:A.handled=af)(D:ZipApart z TI TO i1 i2 l1 l2)
  (hz:IsZip s.heap z TI TO .none) (hTI:Eu s.heap TI (.ref i1) (.ref i2)) (hTO:Eu s.heap TO a b)
  (h1:s.heap.IsTupleIter i1 l1 k) (h2:s.heap.IsTupleIter i2 l2 k) (hl1:s.heap.IsTuple l1 xs) (hl2:s.heap.IsTuple l2 ys) (hx:xs[k]?=ae x) (hy:ys[k]?=af)
  (hE:∀h' e,(∀c o,c≠z->c≠TO->c≠i1->c≠i2->s.heap.get? c=ae o->h'.get? c=ae o)->(∃o,h'.get? e=ae o/\o.cls=.type "StopIteration")->E (.ref e) {s with heap:=h'}):
  Av (A7 prog w) A (D8.«zip.__next__» ⟨[.ref z],[]⟩) Q E s:=by
 show Av _ _ (field (.ref z) 2>>=_) _ _ _;refine Aa (Cu hz rfl (x:=.bool ai) rfl ?_);show Av _ _ (field (.ref z) 3>>=_) _ _ _;refine Aa (Cu hz rfl (x:=.ref TI) rfl ?_);refine Aa (Ct hTI rfl ?_);show Av _ _ (C1 (.ref z)>>=_) _ _ _;refine Aa ?_;unfold C1;refine Aa (Cu hz rfl (x:=.none) rfl (Af ?_));simp only[if_true];refine Aa (Fw ?_);refine Aa (Cu hz rfl (x:=.ref TO) rfl ?_);refine Aa (E4 hz (by simp) λg1 hz1 s1=>?_)
 replace hz1:IsZip g1 z TI TO .ellipsis:=hz1
 refine Aa ?_;simp only[List.zipIdx_cons,List.zipIdx_nil,List.forIn_cons,List.forIn_nil];refine Aa (Aa (wpAny_onRaise ?_));show Av _ _ (Cp (.ref i1)>>=_) _ _ _;refine Aa (p8 (h1.extBut s1.extBut D.i1z) (hl1.extBut s1.extBut D.l1z) hx λg2 t2 s2=>Af ?_);have p2:Eu g2 TO a b:=s2.extBut _ _ D.TOi1 (s1.extBut _ _ D.TOz hTO);refine Aa (Ct p2 rfl ?_);refine Aa (wpAny_updateSeq_pair p2 λg3 p3 s3=>?_)
 replace p3:Eu g3 TO x b:=p3
 refine Aa (wpAny_letGo (Af ?_));refine Aa (Aa (wpAny_onRaise ?_));show Av _ _ (Cp (.ref i2)>>=_) _ _ _;refine Aa (vQ hh (((h2.extBut s1.extBut D.i2z).extBut s2.extBut D.i12.symm).extBut s3.extBut D.TOi2.symm)
  (((hl2.extBut s1.extBut D.l2z).extBut s2.extBut D.l2i1).extBut s3.extBut D.l2TO) hy λg4 e s4 he=>?_)
 obtain⟨oe,hoe,hce⟩:=he;have z4:IsZip g4 z TI TO .ellipsis:=s4 _ _ D.i2z.symm (s3.extBut _ _ D.TOz.symm (s2.extBut _ _ D.i1z.symm hz1));have hez:e≠z:=λx=>by subst x;rw[z4]at hoe;cases hoe;simp at hce
 refine E4 z4 (by simp) λg5 _ s5=>hE g5 e (λc o c1 c2 c3 c4 x=>s5.extBut _ _ c1 (s4 _ _ c4 (s3.extBut _ _ c2 (s2.extBut _ _ c3 (s1.extBut _ _ c1 x))))) ⟨oe,s5.extBut _ _ hez hoe,hce⟩
theorem J9{z TI TO i1 i2 l1 l2:Addr}{k:Nat}{xs ys:Array Ag}{x a b:Ag}{Q:Option Ag->Ai->Prop}(hh:A.handled=af)(D:ZipApart z TI TO i1 i2 l1 l2)
  (hz:IsZip s.heap z TI TO .none) (hTI:Eu s.heap TI (.ref i1) (.ref i2)) (hTO:Eu s.heap TO a b)
  (h1:s.heap.IsTupleIter i1 l1 k) (h2:s.heap.IsTupleIter i2 l2 k) (hl1:s.heap.IsTuple l1 xs) (hl2:s.heap.IsTuple l2 ys) (hx:xs[k]?=ae x) (hy:ys[k]?=af)
  (hQ:∀h',(∀c o,c≠z->c≠TO->c≠i1->c≠i2->s.heap.get? c=ae o->h'.get? c=ae o)->Q af {s with heap:=h'}):Av (A7 prog w) A (Eg (.ref z)) Q E s:=by
 have hT:s.TypeIs (.ref z) "zip":=⟨_,hz,rfl⟩;unfold Eg;refine Aa (Eh (Bz (name:=C0 "__next__") hT Gv
  (Ca Gv hT F.entry_zip_next (FN hh D hz hTI hTO h1 h2 hl1 hl2 hx hy λh' e hk he=>?_) (F.args_zip_next_1 _))))
 obtain⟨o,ho,hc⟩:=he;refine Aa (E2 (T:="StopIteration") (b:=ah) ⟨o,ho,hc⟩ G8 ?_);exact Af (hQ _ hk)
end
def lg(K:Aj)(a b:Addr):It:=
 ⟨λi H=>∃xs ys x y,SqT K H a xs/\SqT K H b ys/\xs[i]?=ae x/\ys[i]?=ae y,
  λi H v H'=>∃T x y,v=.ref T/\H T=af/\H'=upd H T (.tup [x,y])/\(∀xs,SqT K H a xs->xs[i]?=ae x)/\∀ys,SqT K H b ys->ys[i]?=ae y,
  λi H=>(∃xs,SqT K H a xs/\xs.length<=i)\/∃xs ys x,SqT K H a xs/\SqT K H b ys/\xs[i]?=ae x/\ys.length<=i⟩
theorem Mx{P:Bn}{w:By}{K:Aj}{elts:List Expr}{kk:Nat}{pos:Pos}{a b z TI TO i1 i2:Addr}(D:ZipApart z TI TO i1 i2 a b):Turn P w K (.Tuple elts kk pos) (lg K a b) [z,TI,TO,i1,i2] z
  (λi h=>IsZip h z TI TO .none/\Eu h TI (.ref i1) (.ref i2)/\(∃x y,Eu h TO x y)/\h.IsTupleIter i1 a i/\h.IsTupleIter i2 b i) where
 mem:=by simp
 obj:=λi h st c hc=>by
  obtain⟨hz,hI,⟨x,y,hO⟩,⟨o1,e1,c1,d1⟩,⟨o2,e2,c2,d2⟩⟩:=st;simp only[Al,A3,or_false]at hc;rcases hc with rfl|rfl|rfl|rfl|rfl
  ·exact⟨_,hz,λv q=>by have q':Data.fields _=Data.cell v:=q;cases q'⟩
  ·exact⟨_,hI,λv q=>by have q':Data.seq _ _=Data.cell v:=q;cases q'⟩
  ·exact⟨_,hO,λv q=>by have q':Data.seq _ _=Data.cell v:=q;cases q'⟩
  ·exact⟨o1,e1,λv q=>by rw[d1]at q;cases q⟩
  ·exact⟨o2,e2,λv q=>by rw[d2]at q;cases q⟩
 keep:=λi h h' st k=>by
  obtain⟨hz,hI,⟨x,y,hO⟩,h1,h2⟩:=st;exact⟨k z (by simp) _ hz,k TI (by simp) _ hI,⟨x,y,k TO (by simp) _ hO⟩,h1.at λo e=>k i1 (by simp) o e,h2.at λo e=>k i2 (by simp) o e⟩
 item:=by
  intro X hP hw hK hc i pins s σ H E I hf st hg;subst hP hw hK;obtain⟨hz,hI,⟨x0,y0,hO⟩,h1,h2⟩:=st;obtain⟨xs,ys,x,y,qa,qb,ex,ey⟩:=hg;obtain⟨its,rv,p,_⟩:=I.tuple qa;obtain⟨jts,rw',p',_⟩:=I.tuple qb;obtain⟨u,hu,ru⟩:=rv.get ex;obtain⟨u',hu',ru'⟩:=rw'.get ey;refine xU D hz hI hO h1 h2 (show s.heap.IsTuple a its.toArray from p) (show s.heap.IsTuple b jts.toArray from p') (x:=u) (y:=u') (by simpa using hu) (by simpa using hu') λh' a1 a2 a3 a4 a5 a6 a7=>⟨_,rfl,?_⟩;refine wpAny_letOwnedTupleGo_zip (s:={ s with heap:=h'}) a1 λh'' b1 b2=>?_;have T:h''.get? s.heap.objs.size=ae {cls:=.type "tuple",data:=.seq #[u,u']}:=b2.extBut _ _ (Ee (An hz)) a5;have Tn:H s.heap.objs.size=af:=I.hok.fresh (Aq _);have kp:∀c o,c∉[z,TI,TO,i1,i2]->s.heap.get? c=ae o->h''.get? c=ae o:=λc o hc e=>by
   simp only[Al,A3,or_false,not_or]at hc;exact b2.extBut _ _ hc.1 (a7 c o hc.1 hc.2.2.1 hc.2.2.2.1 hc.2.2.2.2 e)
  refine⟨.ref s.heap.objs.size,upd H s.heap.objs.size (.tup [x,y]),I.many (t':=s.toks) hf kp (Aq _) ⟨by show 2<=A2;decide,[u,u'],.cons ru (.cons ru' .nil),_,T,rfl,⟨_,rfl⟩,rfl⟩,rfl,⟨_,x,y,rfl,Tn,rfl,λzs q=>by rw[I.tuple_inj q qa];exact ex,λzs q=>by rw[I.tuple_inj q qb];exact ey⟩,
   ⟨b1,b2.extBut _ _ D.TIz (a7 _ _ D.TIz D.TITO D.TIi1 D.TIi2 hI),⟨_,_,b2.extBut _ _ D.TOz a2⟩,a3.extBut b2.extBut D.i1z,a4.extBut b2.extBut D.i2z⟩,λc hc=>?_⟩
  have hlt:c < s.heap.objs.size:=by
   simp only[Al,A3,or_false]at hc;rcases hc with rfl|rfl|rfl|rfl|rfl
   ·exact An hz
   ·exact An hI
   ·exact An hO
   ·obtain⟨_,e,_⟩:=h1;exact An e
   ·obtain⟨_,e,_⟩:=h2;exact An e
  rw[aX (Be hlt)];exact(hf c hc).1
 done:=by
  intro X hP hw hK hc i pins s σ H E I hf st hg;subst hP hw hK;obtain⟨hz,hI,⟨x0,y0,hO⟩,h1,h2⟩:=st;rcases hg with⟨xs,hq,hx⟩|⟨xs,ys,x,qa,qb,ex,ey⟩
  ·obtain⟨its,rv,p,_⟩:=I.tuple hq;have hl:=rv.length;refine xE (I.ok.hd hc) D hz hI h1 (show s.heap.IsTuple a its.toArray from p) (by simp;omega) λh' k=>⟨rfl,I.many0 (t':=s.toks) hf λc o hc e=>?_⟩;simp only[Al,A3,or_false,not_or]at hc;exact k c o hc.1 hc.2.2.2.1 e
  ·obtain⟨its,rv,p,_⟩:=I.tuple qa;obtain⟨jts,rw',p',_⟩:=I.tuple qb;have hl:=rw'.length;obtain⟨u,hu,ru⟩:=rv.get ex;refine J9 (I.ok.hd hc) D hz hI hO h1 h2 (show s.heap.IsTuple a its.toArray from p) (show s.heap.IsTuple b jts.toArray from p') (x:=u) (by simpa using hu) (by simp;omega) λh' k=>⟨rfl,I.many0 (t':=s.toks) hf λc o hc e=>?_⟩;simp only[Al,A3,or_false,not_or]at hc;exact k c o hc.1 hc.2.2.1 hc.2.2.2.1 hc.2.2.2.2 e
 self:=λ_ _ _ _ _ st h=>wpAny_pyIter_zip st.1 h
def tN(K:Aj)(ta:TA):TI:=λσ H R=>ta σ H λvs H1=>∃a b,vs=[.ref a,.ref b]/\(∃xs,SqT K H1 a xs)/\(∃ys,SqT K H1 b ys)/\R (lg K a b) H1
theorem Km{X:Cx}{elts:List Expr}{kk:Nat}{tpos:Pos}{e1 e2:Expr}{ta:TA}{p pos:Pos}(hg:Gl X "zip")(hm:X.mg "zip"=af)(ha:PA X [e1,e2] ta)(hs:Aw [e1,e2] X.env=[(ai,eval e1 X.env),(ai,eval e2 X.env)]:=by rfl)(hs2:Aw [e2] X.env=[(ai,eval e2 X.env)]:=by rfl):
  PI X (.Tuple elts kk tpos) (.Call (.Name "zip" p) [e1,e2] [] pos) (tN X.K ta):=by
 intro pins s σ H R I h;refine Call_ (jB I hg hm vh (Fi (aT (ha pos pins s σ H _ I h) λus s1 ⟨vs,H1,I1,r1,q1⟩=>?_) (by rw[hs,hs2]) (by rw[hs2];rfl)));obtain⟨a,b,e,⟨xs,qa⟩,⟨ys,qb⟩,q⟩:=q1;subst e;cases r1 with
 |cons r rr=>
  cases rr with
  |cons r' rr=>
   cases rr;cases r;cases r';obtain⟨its,rv,pp,_⟩:=I1.tuple qa;obtain⟨jts,rw',pp',_⟩:=I1.tuple qb;have la:a < s1.heap.objs.size:=by obtain⟨_,e,_⟩:=id pp;exact An e
   have lb:b < s1.heap.objs.size:=by obtain⟨_,e,_⟩:=id pp';exact An e
   refine tZ (show s1.heap.IsTuple a its.toArray from pp) (show s1.heap.IsTuple b jts.toArray from pp') λh' a1 a2 a3 a4 a5 a6=>wpAny_pyIter_zip (s:={ s1 with heap:=h'}) a1 ?_;refine⟨_,_,_,_,H1,rfl,I1.kept (t':=s1.toks) a6,Mx (zipApart_new la lb),⟨a1,a2,⟨_,_,a3⟩,a4,a5⟩,λc hc=>?_,q⟩;have hlt:s1.heap.objs.size<=c:=by
    simp only[Al,A3,or_false]at hc;rcases hc with rfl|rfl|rfl|rfl|rfl<;>omega
   exact I1.fpOk hlt (I1.hok.fresh hlt)
end L2
namespace DL
open PySem L2 Nb
section
variable{X:Cx}{a b:Expr}{ta tb:TE}{wa wb:DT}{pos p:Pos}{K:Aj}
def lx(w w':DT):fw:=λδ n Q=>w δ n λx n1=>w' δ n1 λy n2=>match x,y with
 |.d (.tuple xs),.d (.tuple ys)=>ys.length<=xs.length/\Q (cU xs ys) n2
 |_,_=>False
theorem Ic{elts:List Expr}{kk:Nat}{tpos:Pos}(hg:Gl X "zip")(hm:X.mg "zip"=af)(ha:DE X a ta wa)(hb:DE X b tb wb)(hK:X.K=K:=by rfl)(hs:Aw [a,b] X.env=[(ai,eval a X.env),(ai,eval b X.env)]:=by rfl)(hs2:Aw [b] X.env=[(ai,eval b X.env)]:=by rfl)
  (he1:Aw [a,b] X.env=(ai,eval a X.env)::Aw [b] X.env:=by rfl) (he2:Aw [b] X.env=(ai,eval b X.env)::Aw [] X.env:=by rfl):
  DI X (.Tuple elts kk tpos) (.Call (.Name "zip" p) [a,b] [] pos) (tN K (c9 ta (c9 tb bF))) (lx wa wb):=by
 subst hK;refine⟨Km hg hm (bY ha.pe (bY hb.pe dz he2) he1) hs hs2,λC H B σ δ n Q Q' R q k=>ha.sd C H B σ δ n _ _ R q λv x H1 n1 R1 k1 r1 q1=>hb.sd C H1 B σ δ n1 _ _ R1 q1 λu y H2 n2 R2 k2 r2 q2=>?_⟩;have r1':=r1.kp k2 R1.bt
 split at q2
 ·rename_i xs ys;cases(show RdX H2 B v (.tuple xs)from r1')with
  |@tup aa vs _ e1 e2 e3 e4=>
   cases(show RdX H2 B u (.tuple ys)from r2)with
   |@tup ab ws _ f1 f2 f3 f4=>
    refine⟨aa,ab,rfl,⟨vs,SqT.of e1⟩,⟨ws,SqT.of f1⟩,k _ (cU xs ys) H2 n2 R2 (k1.trans k2) (λfz th=>?_) q2.2⟩;have za:fz aa=ae (.tup vs):=th.2 _ _ e1 e2;have zb:fz ab=ae (.tup ws):=th.2 _ _ f1 f2;have lz:(cU xs ys).length=ys.length:=by unfold cU;rw[List.length_zipWith];have:=q2.1;omega
    have le:=q2.1;have l1:=e4.len;have l2:=f4.len;refine⟨by rw[lz,<-f4.len];exact f3,λi H hH hi=>?_,λH hH=>?_,λi H x H' d hH hd hy=>?_⟩
    ·rw[lz]at hi;have h1:i < vs.length:=by omega
     have h2:i < ws.length:=by omega
     exact⟨vs,ws,vs[i],ws[i],SqT.of (hH _ _ za),SqT.of (hH _ _ zb),Ah h1,Ah h2⟩
    ·by_cases hq:vs.length<=ws.length
     ·exact .inl ⟨vs,SqT.of (hH _ _ za),by rw[lz];omega⟩
     ·have hq':ws.length < vs.length:=by omega
      exact .inr ⟨vs,ws,vs[ws.length],SqT.of (hH _ _ za),SqT.of (hH _ _ zb),by rw[lz,<-l2];exact Ah hq',by rw[lz,l2];exact Aq _⟩
    ·obtain⟨T,x1,y1,rfl,hT,rfl,hx,hy⟩:=hy;refine⟨λb o e=>by rw[aX (b7 e hT)];exact e,λB' hB hBa=>?_⟩;have hi2:i < ys.length:=by rw[<-lz];exact(Bo.mp hd).1
     have hi:i < xs.length:=by omega
     have ed:d=.tuple [xs[i],ys[i]]:=by
      unfold cU at hd;rw[List.getElem?_zipWith,Ah hi,Ah hi2]at hd;exact(Bi hd).symm
     subst ed;obtain⟨u1,hu1,ru1⟩:=e4.getD (Ah hi);obtain⟨u2,hu2,ru2⟩:=f4.getD (Ah hi2);have t1:=hx _ (SqT.of (hH _ _ za));have t2:=hy _ (SqT.of (hH _ _ zb));rw[hu1]at t1;rw[hu2]at t2;cases t1;cases t2;have mv:∀b o,H2 b=ae o->¬B b->upd H T (.tup [x1,y1]) b=ae o/\¬B' b:=λb o e ne=>by
      have:=hH _ _ (th.2 _ _ e ne);exact⟨by rw[aX (b7 this hT)];exact this,hB _ _ (th.2 _ _ e ne)⟩
     exact .tup bI (λz=>hBa T z hT) (by show 2<=A2;decide) (.cons (ru1.move mv) (.cons (ru2.move mv) .nil))
 ·exact q2.elim
end
end DL
namespace L2
open PySem PySem.Spec PyProof.Rows
def qF(K:Aj):R2:=λx y H Q=>∃a b ys,x=.ref a/\y=.ref b/\SqT K H a []/\SqT K H b ys/\Q (.ref b) H
theorem N8{X:Cx}:OpR X (Fp .Add) (qF X.K):=by
 intro pins s σ H x y v u Q I rx ry h;obtain⟨a,b,ys,rfl,rfl,ha,hb,q0⟩:=h;cases(show v=Bf a from rx);cases(show u=Bf b from ry);obtain⟨its,r1,p1,_⟩:=I.tuple ha;obtain⟨its2,r2,p2,_⟩:=I.tuple hb;obtain⟨⟨cls,dd,data,sl⟩,ho,hc,n,hd⟩:=id p1;obtain⟨⟨cls2,dd2,data2,sl2⟩,ho2,hc2,n2,hd2⟩:=id p2;simp only at hc hd hc2 hd2;subst hc hd hc2 hd2;have hi:its=[]:=r1.nil_iff.mpr rfl;exact concat_meets ⟨_,ho,rfl⟩ ⟨_,ho2,rfl⟩ noFill_tuple_add seq_tuple_add Gs Gk (F9 _ _)
  (tuple_addW0 a b its.toArray its2.toArray n n2 dd dd2 sl sl2 (by simp[hi])) ⟨ho,ho2,⟨.ref b,H,I,rfl,q0⟩⟩
end L2
namespace DL
open PySem L2 Nb
section
variable{X:Cx}{a b:Expr}{ta tb:TE}{wa wb:DT}{pos p:Pos}{K:Aj}
def gQ:Wv->Wv->Int->DQ->Prop:=λx y n Q=>match x,y with
 |.d (.tuple []),.d (.tuple j)=>Q (.d (.tuple j)) n
 |x,y=>g9 x y n Q
theorem JN:bj (λx y H Q=>nX K x y H Q\/qF K x y H Q) gQ:=λC H B σ δ n x y p q Q Q' R rx ry h1 k=>by
 unfold gQ at h1
 split at h1
 ·rename_i j;cases(show RdX H B x (.tuple [])from rx)with
  |@tup ax xs _ e1 e2 e3 e4=>
   cases(show RdX H B y (.tuple j)from ry)with
   |@tup ay ys _ f1 f2 f3 f4=>
    cases e4;exact .inr ⟨ax,ay,ys,rfl,rfl,SqT.of e1,SqT.of f1,k _ _ H n R (Kp.refl _ _) (wd (show RdX H B _ (.tuple j)from .tup f1 f2 f3 f4)) h1⟩
 ·exact .inl (ME C H B σ δ n x y _ _ Q Q' R rx ry h1 k)
theorem Lh(ha:DE X a ta wa)(hb:DE X b tb wb)(hK:X.K=K:=by rfl):DE X (.BinOp a .Add b pos) (d4 (λx y H Q=>nX K x y H Q\/qF K x y H Q) ta tb) (w2 wa wb gQ):=by
 subst hK;exact gw (op_addA.or N8) JN ha hb
end
end DL
namespace L2
open PySem PySem.Spec PyProof.Rows
end L2
namespace DL
open PySem L2 Nb
end DL
namespace L2
open PySem PySem.Spec PyProof.Rows
end L2
namespace DL
open PySem L2 Nb
end DL
namespace L2
open PySem PySem.Spec PyProof.Rows
end L2
namespace DL
open PySem L2 Nb
end DL
namespace L2
open PySem PySem.Spec PyProof.Rows
section
variable{X:Cx}{e st:Expr}{te ts:TE}{pos p2:Pos}
def v8:List V->Hp->VK->Prop:=λxs H Q=>∃b,xs=[.bl b]/\Q (.str (if b then "True" else "False")) H
theorem CM:CallR X (.builtin "repr") v8:=by
 intro pins s σ H xs us Q I r h;obtain⟨b,rfl,q⟩:=h;obtain⟨u,rfl,ru⟩:=fe r;cases ru;exact P.repr_of_bool ⟨.str _,H,I.tok _,⟨_,rfl⟩,q⟩
end
end L2
namespace DL
open PySem L2 Nb
section
variable{X:Cx}{e:Expr}{te:TE}{we:DT}{pos p p2 p3 p4:Pos}{K:Aj}
def Pt(w:DT):DT:=λδ n Q=>w δ n λx n1=>match x with
 |.d (.list ds)=>Q (.d (.list ds.reverse)) n1
 |_=>False
def gU:List Wv->Int->DQ->Prop:=λxs n Q=>match xs with
 |[.d (.bool b)]=>Q (.d (.str (if b then "True" else "False"))) n
 |_=>False
theorem MB:cK v8 gU:=λC H B σ δ n vs xs Q Q' R r h k=>by
 unfold gU at h
 split at h
 ·rename_i b;cases r with
  |cons r1 r2=>
   cases r2;cases(show RdX H B _ (.bool b)from r1);exact⟨b,rfl,k _ _ H n R (Kp.refl _ _) (wd (.str _ (by cases b<;>exact Mr ∅))) h⟩
 ·exact h.elim
end
theorem JF{X:Cx}{a b:Expr}{ta tb:TE}{wa wb:DT}{pos:Pos}(ha:DE X a ta wa)(hb:DE X b tb wb):DE X (.BinOp a .Add b pos) (d4 (eK λi j=>.int (i+j)) ta tb) (w2 wa wb (cJ λi j=>.int (i+j))):=gw op_add (sQ λ_ _ _ _=>.int _) ha hb
end DL
namespace L2
open PySem PySem.Spec PyProof.Rows
end L2
namespace DL
open PySem L2 Nb
end DL
namespace L2
open PySem PySem.Spec PyProof.Rows
end L2
namespace DL
open PySem L2 Nb
end DL
namespace L2
open PySem PySem.Spec
end L2
namespace L2
open PySem PySem.Spec PyProof.Rows
theorem pq:Bx "list"=ae (.type "list"):=by decide +kernel
end L2
namespace DL
open PySem L2 Nb
end DL
namespace L2
open PySem PySem.Spec
end L2
namespace DL
open PySem L2 Nb
end DL
namespace Nb
open PySem L2 DL
def a8(g:Ab->Bool):bx:=λws n Q=>match ws with
 |[.d d]=>Q (.d (.bool (g d))) n
 |_=>False
theorem e7{g:Ab->Bool}{ws:List Wv}{n:Int}{Q:DQ}(h:a8 g ws n Q):ws.length=1:=by
 unfold a8 at h
 split at h
 ·rfl
 ·exact h.elim
def fX(c:Nat):Bool:=!decide ([c] < ("a":Str).cps.toList)&&!decide (("z":Str).cps.toList < [c])
def bq(k:Int):Ab->Bool
 |.str x=>decide ((1:Int)<=(x.length:Int))&&(decide ((x.length:Int)<=k)&&x.cps.toList.all fX)
 |_=>ai
def jE:bx:=λws n Q=>match ws with
 |[.d d,.d (.int k)]=>Q (.d (.bool (bq k d))) n
 |_=>False
def gh:Ab->Bool
 |.int _=>ah
 |_=>ai
def cF(lo hi:Int):Ab->Bool
 |.int i=>decide (lo<=i)&&decide (i<=hi)
 |_=>ai
abbrev fH:Ab->Bool:=cF 0 99
def bP(d:Ab):Bool:=bq 8 d || fH d
def bG:Ab->Bool
 |.tuple ds=>decide ((1:Int)<=(ds.length:Int))&&(decide ((ds.length:Int)<=4)&&ds.all bP)
 |_=>ai
def fP(d:Ab):Bool:=iL d || cF 1 20 d
def fB:Ab->Bool
 |.tuple [a,b]=>bG a&&fP b
 |_=>ai
theorem pH{w:DT}{Q:List Ab->Int->Prop}{rest:Sl}(P:Ab->Prop)(f:Ab->Ab)(h:∀d n Q',P d->Q' (.d (f d)) n->w (ae (.w (.d d))::rest) n Q'):∀(items acc:List Ab)(x:Option SV)(n:Int),(∀d∈items,P d)->Q (acc++items.map f) n->bN (aD 0) aG w Q items acc (x::rest) n
 |[],acc,x,n,hP,q=>by
  rw[Ck,Bv]at q;exact q
 |d::r,acc,x,n,hP,q=>by
  simp only[bN,aD,aG,if_true,B8];refine h d n _ (hP d Am) ?_;refine pH P f h r (acc++[f d]) _ n (λe he=>hP e (Ar _ he)) ?_;rw[Bu];exact q
theorem mZ{c:cj}{w:DT}{Q:List Ab->Int->Prop}{rest:Sl}(P:Ab->Prop)(p:Ab->Bool)(f:Ab->Ab)(hp:∀d n Q',P d->Q' (p d) n->c (ae (.w (.d d))::rest) n Q')(h:∀d n Q',P d->Q' (.d (f d)) n->w (ae (.w (.d d))::rest) n Q'):
  ∀(items acc:List Ab)(x:Option SV)(n:Int),(∀d∈items,P d)->Q (acc++(items.filter p).map f) n->bN (aD 0) c w Q items acc (x::rest) n
 |[],acc,x,n,hP,q=>by
  rw[List.filter_nil,Ck,Bv]at q;exact q
 |d::r,acc,x,n,hP,q=>by
  simp only[bN,aD,B8];refine hp d n _ (hP d Am) ?_;cases e:p d with
  |true=>
   rw[if_pos rfl];refine h d n _ (hP d Am) ?_;refine mZ P p f hp h r (acc++[f d]) _ n (λe he=>hP e (Ar _ he)) ?_;rw[List.filter_cons_of_pos e]at q;rw[Bu];exact q
  |false=>
   rw[if_neg Au];refine mZ P p f hp h r acc _ n (λe he=>hP e (Ar _ he)) ?_;rw[List.filter_cons_of_neg (by rw[e];exact Au)]at q;exact q
def lF(d:Ab):Prop:=∃c:Nat,d=.str ⟨#[c]⟩
theorem OJ(x:Str):∀d∈f9 x,lF d:=λd hd=>by
 obtain⟨c,_,rfl⟩:=Bk.mp hd;exact⟨c,rfl⟩
def okD:Ab->Bool
 |.str y=>!decide (y.cps.toList < ("a":Str).cps.toList)&&!decide (("z":Str).cps.toList < y.cps.toList)
 |_=>ai
theorem Pf(x:Str):(f9 x).all okD=x.cps.toList.all fX:=by
 unfold f9;rw[G0];rfl
theorem rN{α:Type}(f:α->Bool):∀l:List α,dU (l.map λa=>.bool (f a))=ae (l.map f)
 |[]=>rfl
 |a::r=>by
  show(dU (r.map λa=>.bool (f a))).map _=_;rw[rN f r];rfl
theorem sO{α:Type}(f:α->Bool)(l:List α):(l.map f).all id=l.all f:=by
 rw[G0];rfl
theorem ni{α:Type}{xs:List α}{r:Int}(h0:0<=r)(h1:r < xs.length):∃v,cM xs r=ae v/\v∈xs:=by
 obtain⟨j,rfl⟩:=El h0;have hj:j < xs.length:=by omega
 exact⟨xs[j],eE (Ah hj),Ed hj⟩
end Nb
namespace DL
open PySem L2 Nb
section
variable{X:Cx}
def zm:R2:=λx y H Q=>∃i j,x=.str i/\y=.str j/\Q (.bl (!(Hk j i 0 j.length 1).isEmpty)) H
theorem KQ:OpR X (B4 .In) zm:=KY
theorem Mc:bj zm (jt ai):=λC H B σ δ n x y p q Q Q' R rx ry h1 k=>by
 unfold jt at h1
 split at h1
 ·rename_i i j;cases(show RdX H B x (.str i)from rx);cases(show RdX H B y (.str j)from ry);exact⟨i,j,rfl,rfl,k _ _ H n R (Kp.refl _ _) (wd (.bl _)) h1⟩
 ·exact h1.elim
end
theorem BN(c:Nat):fE ⟨#[c]⟩ "abcdefghijklmnopqrstuvwxyz"=fX c:=by
 by_cases h:c < 128
 ·exact(show ∀c < 128,fE ⟨#[c]⟩ "abcdefghijklmnopqrstuvwxyz"=fX c by decide +kernel) c h
 ·have h1:fX c=ai:=by
   unfold fX;have:decide (("z":Str).cps.toList < [c])=ah:=by
    refine decide_eq_true ?_;rw[show("z":Str).cps.toList=[122] by decide +kernel];exact List.Lex.rel ⋯
   rw[this];simp
  rw[h1];unfold fE;rw[PySem.W.occ_nil_of_no]
  ·rfl
  ·intro i hi;cases e:Builtin.Str.subAt "abcdefghijklmnopqrstuvwxyz" ⟨#[c]⟩ i with
   |false=>rfl
   |true=>
    have hm:c∈("abcdefghijklmnopqrstuvwxyz":Str).cps:=by
     have e1:=beq_iff_eq.mp e;have:c∈(⟨#[c]⟩:Str).cps:=by simp
     rw[<-e1]at this;obtain⟨k,hk,e2⟩:=Array.mem_extract_iff_getElem.mp this;rw[<-e2];exact Array.getElem_mem _
    have:=Array.all_eq_true_iff_forall_mem.mp (show("abcdefghijklmnopqrstuvwxyz":Str).cps.all (λc=>decide (c < 128))=ah by decide +kernel) c hm;exact absurd (of_decide_eq_true this) h
end DL
namespace L2
open PySem PySem.Spec PyProof.Rows
end L2
namespace DL
open PySem L2 Nb
end DL
namespace L2
open PySem PySem.Spec PyProof.Rows
end L2
namespace DL
open PySem L2 Nb
end DL
namespace L2
open PySem PySem.Spec PyProof.Rows
mutual
def cV:Nat->Ab->Bool
 |_,.none=>ah
 |_,.int _=>ah
 |_,.str x=>Fk x
 |n+1,.tuple ds=>dv n ds
 |_,_=>ai
def dv:Nat->List Ab->Bool
 |_,[]=>ah
 |n,d::r=>cV n d&&dv n r
end
mutual
def bp(w:By):Ab->Int
 |.str x=>ja w (.inr x)
 |.int i=>ja w (.inl i)
 |.none=>0xFCA86420
 |.tuple xs=>reduceHash (Builtin.Tuple.tupleHashOf (lI w xs))
 |_=>0
def lI(w:By):List Ab->List Int
 |[]=>[]
 |x::r=>bp w x::lI w r
end
mutual
def gX:Ab->Nat
 |.tuple xs=>n6 xs+1
 |_=>1
def n6:List Ab->Nat
 |[]=>0
 |x::r=>gX x+n6 r
end
theorem d9{n:Nat}{d:Ab}(h:cV n d=ah):d=.none\/(∃i,d=.int i)\/(∃x,d=.str x/\Fk x=ah)\/∃m ds,n=m+1/\d=.tuple ds/\dv m ds=ah:=by
 cases d with
 |none=>exact .inl rfl
 |int i=>exact .inr (.inl ⟨i,rfl⟩)
 |str x=>exact .inr (.inr (.inl ⟨x,rfl,by cases n<;>(rw[cV]at h;exact h)⟩))
 |tuple ds=>
  cases n with
  |zero=>rw[cV]at h<;>first|cases h|(intros;simp_all)
  |succ m=>exact .inr (.inr (.inr ⟨m,ds,rfl,rfl,by rw[cV]at h;exact h⟩))
 |_=>cases n<;>(rw[cV]at h<;>first|cases h|(intros;simp_all))
theorem sU:∀(n:Nat){d:Ab},cV n d=ah->Bm d=ah/\Ce d<=n:=by
 intro n
 induction n with
 |zero=>
  intro d h;rcases d9 h with rfl|⟨i,rfl⟩|⟨x,rfl,hx⟩|⟨m,ds,e,_⟩
  ·exact⟨rfl,Bc _⟩
  ·exact⟨rfl,Bc _⟩
  ·exact⟨by rw[Bm];exact hx,Bc _⟩
  ·cases e
 |succ n ih=>
  intro d h;rcases d9 h with rfl|⟨i,rfl⟩|⟨x,rfl,hx⟩|⟨m,ds,e,rfl,ha⟩
  ·exact⟨rfl,Bc _⟩
  ·exact⟨rfl,Bc _⟩
  ·exact⟨by rw[Bm];exact hx,Bc _⟩
  ·cases e;have:Cb ds=ah/\Cj ds<=n:=by
    clear h
    induction ds with
    |nil=>exact⟨rfl,Bc _⟩
    |cons x r ih2=>
     rw[dv,Ay]at ha;obtain⟨a1,a2⟩:=ih2 ha.2;obtain⟨b1,b2⟩:=ih ha.1;exact⟨by rw[Cb,a1,b1];rfl,by rw[Cj];omega⟩
   exact⟨by rw[Bm];exact this.1,by rw[Ce];omega⟩
theorem OM:∀(n:Nat){d e:Ab},cV n d=ah->cV n e=ah->(Bw d e=ah↔d=e):=by
 intro n;have base:∀{d e:Ab},(d=.none\/(∃i,d=.int i)\/∃x,d=.str x)->(e=.none\/(∃i,e=.int i)\/∃x,e=.str x)->(Bw d e=ah↔d=e):=by
  intro d e h g;rcases h with rfl|⟨i,rfl⟩|⟨x,rfl⟩<;>rcases g with rfl|⟨j,rfl⟩|⟨y,rfl⟩<;>simp[Bw]
 induction n with
 |zero=>
  intro d e h g;refine base ?_ ?_
  ·rcases d9 h with h|h|⟨x,h,_⟩|⟨m,ds,e,_⟩
   ·exact .inl h
   ·exact .inr (.inl h)
   ·exact .inr (.inr ⟨x,h⟩)
   ·cases e
  ·rcases d9 g with h|h|⟨x,h,_⟩|⟨m,ds,e,_⟩
   ·exact .inl h
   ·exact .inr (.inl h)
   ·exact .inr (.inr ⟨x,h⟩)
   ·cases e
 |succ n ih=>
  intro d e h g;have key:∀xs ys:List Ab,dv n xs=ah->dv n ys=ah->(B3 xs ys=ah↔xs=ys):=by
   intro xs
   induction xs with
   |nil=>intro ys _ _;cases ys<;>simp[B3]
   |cons x r ih2=>
    intro ys hx hy;cases ys with
    |nil=>simp[B3]
    |cons y s=>
     rw[dv,Ay]at hx hy;rw[B3,Ay,ih hx.1 hy.1,ih2 s hx.2 hy.2,List.cons.injEq]
  rcases d9 h with rfl|⟨i,rfl⟩|⟨x,rfl,hx⟩|⟨m,ds,em,rfl,ha⟩<;>rcases d9 g with rfl|⟨j,rfl⟩|⟨y,rfl,hy⟩|⟨k,es,ek,rfl,hb⟩
  ·exact base (.inl rfl) (.inl rfl)
  ·exact base (.inl rfl) (.inr (.inl ⟨_,rfl⟩))
  ·exact base (.inl rfl) (.inr (.inr ⟨_,rfl⟩))
  ·simp[Bw]
  ·exact base (.inr (.inl ⟨_,rfl⟩)) (.inl rfl)
  ·exact base (.inr (.inl ⟨_,rfl⟩)) (.inr (.inl ⟨_,rfl⟩))
  ·exact base (.inr (.inl ⟨_,rfl⟩)) (.inr (.inr ⟨_,rfl⟩))
  ·simp[Bw]
  ·exact base (.inr (.inr ⟨_,rfl⟩)) (.inl rfl)
  ·exact base (.inr (.inr ⟨_,rfl⟩)) (.inr (.inl ⟨_,rfl⟩))
  ·exact base (.inr (.inr ⟨_,rfl⟩)) (.inr (.inr ⟨_,rfl⟩))
  ·simp[Bw]
  ·simp[Bw]
  ·simp[Bw]
  ·simp[Bw]
  ·cases em;cases ek;rw[Bw,key ds es ha hb,PyData.tuple.injEq]
theorem CJ:∀(n:Nat){h:Heap}{v:Ag}{d e:Ab}{as bs:List Addr},cV n d=ah->cV n e=ah->Gj h v d as->Gj h v e bs->d=e:=by
 intro n
 induction n with
 |zero=>
  intro h v d e as bs hd he r1 r2;rcases d9 hd with rfl|⟨i,rfl⟩|⟨x,rfl,_⟩|⟨m,ds,z,_⟩
  ·cases r1;cases r2;rfl
  ·cases r1;cases r2;rfl
  ·cases r1;cases r2;rfl
  ·cases z
 |succ n ih=>
  intro h v d e as bs hd he r1 r2;rcases d9 hd with rfl|⟨i,rfl⟩|⟨x,rfl,_⟩|⟨m,ds,z,rfl,hds⟩
  ·cases r1;cases r2;rfl
  ·cases r1;cases r2;rfl
  ·cases r1;cases r2;rfl
  ·cases z;rcases d9 he with rfl|⟨i,rfl⟩|⟨x,rfl,_⟩|⟨m,es,z,rfl,hes⟩
   ·cases r2;cases r1
   ·cases r2;cases r1
   ·cases r2;cases r1
   ·cases z;cases r1 with
    |tuple a1 a2 a3 a4=>
     cases r2 with
     |tuple b1 b2 b3 b4=>
      cases Bi (a1.symm.trans b1);rw[a3]at b3;injection b3 with b3 _;subst b3;have:∀{vs:List Ag}{xs ys:List Ab}{as bs:List Addr},dv n xs=ah->dv n ys=ah->G9 h vs xs as->G9 h vs ys bs->xs=ys:=by
       intro vs
       induction vs with
       |nil=>intro xs ys as bs _ _ q1 q2;cases q1;cases q2;rfl
       |cons v r ih2=>
        intro xs ys as bs t1 t2 q1 q2;cases q1 with
        |cons p1 p2=>
         cases q2 with
         |cons s1 s2=>
          rw[dv,Ay]at t1 t2;rw[ih t1.1 t2.1 p1 s1,ih2 t1.2 t2.2 p2 s2]
      rw[this hds hes a4 b4]
theorem ET:∀(n:Nat){h h':Heap}{v:Ag}{d:Ab}{as:List Addr}{dd:Addr}{o:Obj}{es:Array DictEntry}{ep:Nat},cV n d=ah->Gj h v d as->h.get? dd=ae o->o.data=.dict es ep->Dh dd h h'->Gj h' v d as:=by
 intro n
 induction n with
 |zero=>
  intro h h' v d as dd o es ep hd r1 ho hdt hs;rcases d9 hd with rfl|⟨i,rfl⟩|⟨x,rfl,_⟩|⟨m,ds,z,_⟩
  ·cases r1;exact .none
  ·cases r1;exact .int _ _
  ·cases r1;exact .str _ _
  ·cases z
 |succ n ih=>
  intro h h' v d as dd o es ep hd r1 ho hdt hs;rcases d9 hd with rfl|⟨i,rfl⟩|⟨x,rfl,_⟩|⟨m,ds,z,rfl,hds⟩
  ·cases r1;exact .none
  ·cases r1;exact .int _ _
  ·cases r1;exact .str _ _
  ·cases z;cases r1 with
   |@tuple a o' vs k _ _ a1 a2 a3 a4=>
    have hne:a≠dd:=by
     rintro rfl
     cases Bi (a1.symm.trans ho);rw[hdt]at a3;exact nomatch a3
    have:∀{vs:List Ag}{xs:List Ab}{as:List Addr},dv n xs=ah->G9 h vs xs as->G9 h' vs xs as:=by
     intro vs
     induction vs with
     |nil=>intro xs as _ q1;cases q1;exact .nil
     |cons v r ih2=>
      intro xs as t1 q1;cases q1 with
      |cons p1 p2=>
       rw[dv,Ay]at t1;exact .cons (ih t1.1 p1 ho hdt hs) (ih2 t1.2 p2)
    exact .tuple ((hs.2 a hne).trans a1) a2 a3 (this hds a4)
section
variable{prog:Bn}{w:By}{E:Ag->Ai->Prop}
theorem yS{n:Nat}(ih:∀{A:Bt} {s:Ai} {v:Ag} {d:Ab} {as:List Addr} {Q:Int->Ai->Prop},A.units+n < Fo->cV n d=ah->Gj s.heap v d as->Q (bp w d) {s with toks:=s.toks+gX d}->Av (A7 prog w) A (pyHash v) Q E s):
  ∀(xs:List Ab)(vs:List Ag)(as:List Addr)(A:Bt)(s:Ai)(b:Array Int)(Q:Array Int->Ai->Prop),dv n xs=ah->G9 s.heap vs xs as->A.units+n < Fo->
  (∀b',b'.toList=b.toList++lI w xs->Q b' {s with toks:=s.toks+n6 xs})->
  Av (A7 prog w) A (forIn vs b λx r=>do let h <-pyHash x;pure PUnit.unit;pure (G6 (r.push h))) Q E s
 |[],_,as,A,s,b,Q,_,x,_,h=>by cases x;exact Af (h b (by simp[lI]))
 |k::xs,_,as,A,s,b,Q,hk,x,hu,h=>by
  cases x with
  |cons x1 x2=>
   rw[dv,Ay]at hk;rw[List.forIn_cons];refine Aa (Aa (ih hu hk.1 x1 ?_));refine Aa (Af (Af ?_));refine yS ih xs _ _ A _ _ Q hk.2 x2 hu λb' hb=>?_;have:=h b' (by simp[hb,lI]);rw[n6,<-Nat.add_assoc]at this;exact this
theorem uA:∀(n:Nat){A:Bt}{s:Ai}{v:Ag}{d:Ab}{as:List Addr}{Q:Int->Ai->Prop},A.units+n < Fo->cV n d=ah->Gj s.heap v d as->Q (bp w d) {s with toks:=s.toks+gX d}->Av (A7 prog w) A (pyHash v) Q E s:=by
 intro n;have leaf:∀{A:Bt}{s:Ai}{v:Ag}{d:Ab}{as:List Addr}{Q:Int->Ai->Prop},A.units < Fo->(d=.none\/(∃i,d=.int i)\/∃x,d=.str x)->Gj s.heap v d as->Q (bp w d) {s with toks:=s.toks+gX d}->Av (A7 prog w) A (pyHash v) Q E s:=by
  intro A s v d as Q hu hd r q;rcases hd with rfl|⟨i,rfl⟩|⟨x,rfl⟩
  ·cases r;exact W.pyHash_slot (T:="NoneType") rfl F.slot_NoneType_hash F.entry_NoneType_hash (F.args_NoneType_hash_1 _) (beq_builtin_none _) (.inr hu) (Aa (Af (Aa (wpAny_mkInt (Af ⟨_,_,rfl,by rw[bp,gX]at q<;>first|exact q|(intros;simp_all)⟩)))))
  ·cases r;rw[bp,gX]at q
   ·exact(fv prog w).pyHash (k:=.inl i) (uJ prog w _ _) q
   all_goals (intros;simp_all)
  ·cases r;rw[bp,gX]at q
   ·exact(fv prog w).pyHash (k:=.inr x) (v5 prog w _ _) q
   all_goals (intros;simp_all)
 induction n with
 |zero=>
  intro A s v d as Q hu hd r q;refine leaf hu ?_ r q;rcases d9 hd with h|h|⟨x,h,_⟩|⟨m,ds,e,_⟩
  ·exact .inl h
  ·exact .inr (.inl h)
  ·exact .inr (.inr ⟨x,h⟩)
  ·cases e
 |succ n ih=>
  intro A s v d as Q hu hd r q;rcases d9 hd with h|h|⟨x,h,_⟩|⟨m,ds,z,rfl,hds⟩
  ·exact leaf ⋯ (.inl h) r q
  ·exact leaf ⋯ (.inr (.inl h)) r q
  ·exact leaf ⋯ (.inr (.inr ⟨x,h⟩)) r q
  ·cases z;cases r with
   |@tuple a o vs k _ _ a1 a2 a3 a4=>
    refine W.pyHash_slot (T:="tuple") ⟨o,a1,a2⟩ F.slot_tuple_hash F.entry_tuple_hash (F.args_tuple_hash_1 _) (beq_builtin_none _) (.inr ⋯) ?_;show Av _ _ (Fm (.ref a)>>=_) _ _ s;refine Aa (wpAny_tupleItemsOf a1 a3 ?_);refine Aa ?_;rw[<-Gq];refine yS ih ds vs.toList _ A.in1 s #[] _ hds a4 (by simp only[Around.in1_units];omega) λb hb=>?_;show Av _ _ (retInt (Builtin.Tuple.tupleHashOf b.toList)) _ _ _;rw[hb];refine Aa (wpAny_mkInt (Af ⟨_,_,rfl,?_⟩));rw[bp,gX]at q;rw[<-Nat.add_assoc]at q;exact q
theorem sG:∀(n m:Nat){A:Bt}{s:Ai}{v:Ag}{d:Ab}{as:List Addr}{Q:Bool->Ai->Prop},n<=m->cV n d=ah->Gj s.heap v d as->Q ah s->Av (A7 prog w) A (eqIsQuiet m v) Q E s:=by
 intro n;have leaf:∀{m:Nat}{A:Bt}{s:Ai}{v:Ag}{d:Ab}{as:List Addr}{Q:Bool->Ai->Prop},(d=.none\/(∃i,d=.int i)\/∃x,d=.str x)->Gj s.heap v d as->Q ah s->Av (A7 prog w) A (eqIsQuiet m v) Q E s:=by
  intro m A s v d as Q hd r q;have hb:carriedByValue v=ah:=by
   rcases hd with rfl|⟨i,rfl⟩|⟨x,rfl⟩<;>cases r<;>rfl
  rw[eqIsQuiet_byValue _ hb];exact Af q
 induction n with
 |zero=>
  intro m A s v d as Q _ hd r q;refine leaf ?_ r q;rcases d9 hd with h|h|⟨x,h,_⟩|⟨m,ds,e,_⟩
  ·exact .inl h
  ·exact .inr (.inl h)
  ·exact .inr (.inr ⟨x,h⟩)
  ·cases e
 |succ n ih=>
  intro m A s v d as Q hm hd r q;rcases d9 hd with h|h|⟨x,h,_⟩|⟨m',ds,z,rfl,hds⟩
  ·exact leaf (.inl h) r q
  ·exact leaf (.inr (.inl h)) r q
  ·exact leaf (.inr (.inr ⟨x,h⟩)) r q
  ·cases z;obtain⟨m,rfl⟩:∃k,m=k+1:=⟨m-1,by omega⟩;cases r with
   |@tuple a o vs k _ _ a1 a2 a3 a4=>
    have hT:s.TypeIs (.ref a) "tuple":=⟨o,a1,a2⟩;unfold eqIsQuiet;refine Aa (wpAny_specialOf hT F.slot_tuple_eq.lookup ?_);show Av _ _ (isInstance (.ref a) (.type "tuple")>>=_) _ _ s;refine Aa (E2 hT isSubtype_tuple_tuple ?_);simp only[Fq,A9,if_false];refine Aa (Ct a1 a3 ?_);refine Aa ?_;show Av _ _ (forIn vs _ _) _ _ s;rw[<-Gq];refine Hb _ (λrest r s'=>r.1=af/\s'=s/\∃xs bs,dv n xs=ah/\G9 s.heap rest xs bs) _ ?_ ?_ _ _ ⟨rfl,rfl,ds,_,hds,a4⟩
    ·rintro v rest r s' ⟨hr,rfl,xs,bs,hx,hr2⟩
     cases hr2 with
     |cons p1 p2=>
      rw[dv,Ay]at hx;refine Aa (ih m ⋯ hx.1 p1 ?_);simp only[Fq,A9,if_false];exact Af ⟨rfl,rfl,_,_,hx.2,p2⟩
    ·rintro⟨r1,r2⟩ s' ⟨hr,rfl,_⟩
     simp only at hr;subst hr;exact Af q
end
def TK:Type:={ d:Ab // cV 6 d=ah}
instance:DecidableEq TK:=λ_ _=>Classical.propDecidable _
def Ki(prog:Bn)(w:By):HeapKind prog w TK where
 is:=λh k a=>∃as,Gj h (.ref a) k.1 as
 hash:=λk=>bp w k.1
 draws:=λk=>gX k.1
 room:=λA=>A.units+16 < Fo
 inj:=λ{h a x y} hx hy=>by
  obtain⟨as,r1⟩:=hx;obtain⟨bs,r2⟩:=hy;exact Subtype.ext (CJ 6 x.2 y.2 r1 r2)
 keeps:=λ{h h' k a d o es ep} x ho hd hs=>by
  obtain⟨as,r⟩:=x;exact⟨as,ET 6 k.2 r ho hd hs⟩
 pyHash:=λ{A E s k a Q} hu hk h=>by
  obtain⟨as,r⟩:=hk;exact uA 6 ⋯ k.2 r h
 eqBool:=λ{A E s x y a b Q} hu hx hy h=>by
  obtain⟨as,r1⟩:=hx;obtain⟨bs,r2⟩:=hy;have l1:=sU 6 x.2;have l2:=sU 6 y.2;refine SeqAt.eqAt_reads x.1 y.1 A s _ _ _ _ r1 r2 l1.1 l2.1 ⋯ prog w E Q ?_;have e:Bw x.1 y.1=decide (x=y):=by
   rw[D7,OM 6 x.2 y.2,decide_eq_true_iff];exact⟨Subtype.ext,λh=>by rw[h]⟩
  rw[e];exact h
 quiet:=λ{A E s k a Q} hk h=>by
  obtain⟨as,r⟩:=hk;exact sG 6 8 ∎ k.2 r h
end L2
namespace L2
open PySem PySem.Spec PyProof.Rows PySem.W
namespace TB
open PySem.SetTable
def dN(l:List Nat):Prop:=l.Pairwise (· < ·)
def zO(xs:Array Nat)(j r:Nat):Prop:=r<=xs.size/\(∀i v,xs[i]?=ae v->i < r->v < j)/\∀i v,xs[i]?=ae v->r<=i->j<=v
theorem jY{xs:Array Nat}(h:dN xs.toList){i k v u:Nat}(hi:xs[i]?=ae v)(hk:xs[k]?=ae u)(hlt:i < k):v < u:=by
 obtain⟨h1,rfl⟩:=D3.mp hi;obtain⟨h2,rfl⟩:=D3.mp hk;have:=Gc.mp h i k (by simpa using h1) (by simpa using h2) hlt;simpa using this
theorem qE{xs:Array Nat}{j:Nat}(h:dN xs.toList):∀(fuel lo hi:Nat),lo<=hi->hi<=xs.size->hi-lo<=fuel->(∀i v,xs[i]?=ae v->i < lo->v < j)->(∀i v,xs[i]?=ae v->hi<=i->j<=v)->zO xs j (below.go xs j fuel lo hi)
 |0,lo,hi,a,b,c,d,e=>by
  have:hi=lo:=by omega
  subst this;exact⟨b,d,e⟩
 |fuel+1,lo,hi,a,b,c,d,e=>by
  unfold below.go;by_cases hl:lo < hi
  ·rw[if_pos hl];have hm:(lo+hi) / 2 < xs.size:=by omega
   have hg:xs[(lo+hi) / 2]?=ae (xs.getD ((lo+hi) / 2) j):=by simp[hm]
   dsimp only;by_cases hj:xs.getD ((lo+hi) / 2) j < j
   ·rw[if_pos hj];refine qE h fuel _ _ ⋯ b ⋯ (λi v hv hx=>?_) e;by_cases z:i=(lo+hi) / 2
    ·subst z;rw[hg]at hv;cases hv;exact hj
    ·exact Nat.lt_trans (jY h hv hg ⋯) hj
   ·rw[if_neg hj];refine qE h fuel _ _ ⋯ ⋯ ⋯ d (λi v hv hx=>?_);by_cases z:i=(lo+hi) / 2
    ·subst z;rw[hg]at hv;cases hv;omega
    ·exact B7 ⋯ (Gb (jY h hg hv ⋯))
  ·rw[if_neg hl];have:hi=lo:=by omega
   subst this;exact⟨b,d,e⟩
theorem below_ok{xs:Array Nat}(j:Nat)(h:dN xs.toList):zO xs j (below xs j):=
 qE h _ _ _ (Bc _) (Aq _) (Aq _) (λ_ _ _ z=>absurd z (Nat.not_lt_zero _)) (λi v hv hi=>absurd (D3.mp hv).1 ⋯)
theorem below_at{xs:Array Nat}{i j:Nat}(h:dN xs.toList)(hi:xs[i]?=ae j):below xs j=i:=by
 obtain⟨a,b,c⟩:=below_ok j h;have h1:below xs j<=i:=Nat.not_lt.mp λz=>C2 _ (b i j hi z);rcases Nat.lt_or_eq_of_le h1 with z|z
 ·have hl:below xs j < xs.size:=Nat.lt_trans z (D3.mp hi).1;have g:xs[below xs j]?=ae xs[below xs j]:=Cn hl;have:=c _ _ g (Aq _);exact absurd (jY h g hi z) ⋯
 ·exact z
theorem slot_live{t:Cz}{i j:Nat}(h:dN t.place.toList)(hi:t.place[i]?=ae j):t.slot j=.live i:=by
 unfold slot;rw[below_at h hi];dsimp only;rw[hi];simp
theorem DU{t:Cz}{j:Nat}(hd:t.dummies=#[])(hi:j∉t.place.toList):t.slot j=.empty:=by
 unfold slot;have h1:(t.place[below t.place j]?==ae j)=ai:=by
  rw[beq_eq_false_iff_ne];intro z;exact hi (Ef.mpr (Ft z))
 dsimp only;rw[h1,hd];rfl
def av(m:Nat)(p:Probe):Probe:=
 if p.more > 0 then{ p with j:=p.j+1,more:=p.more-1}else
 { p with j:=(leap m p.i p.perturb).1,more:=runEnd m (leap m p.i p.perturb).1-(leap m p.i p.perturb).1,i:=(leap m p.i p.perturb).1,perturb:=(leap m p.i p.perturb).2}
theorem uM(t:Cz)(p:Probe):t.advance p=av t.mask p:=rfl
def hd(m i q:Nat):Probe:={ j:=i,more:=runEnd m i-i,i:=i,perturb:=q,dummy:=af}
def avN(m:Nat):Nat->Probe->Probe
 |0,p=>p
 |n+1,p=>av m (avN m n p)
theorem nv(m a:Nat)(p:Probe):∀b,avN m (a+b) p=avN m b (avN m a p)
 |0=>rfl
 |b+1=>by rw[<-Nat.add_assoc,avN,nv m a p b,avN]
def st(m:Nat)(h:Int):Probe:=hd m (bits h % (m+1)) (bits h)
def pth(m:Nat)(h:Int)(n:Nat):Nat:=(avN m n (st m h)).j
theorem Ox(m:Nat)(p:Probe):(av m p).dummy=p.dummy:=by unfold av;split<;>rfl
theorem zR(m:Nat)(p:Probe):∀n,(avN m n p).dummy=p.dummy
 |0=>rfl
 |n+1=>by rw[avN,Ox,zR m p n]
theorem pd(m i q:Nat):∀k,k<=runEnd m i-i->avN m k (hd m i q)={ hd m i q with j:=i+k,more:=runEnd m i-i-k}
 |0,_=>rfl
 |k+1,h=>by
  rw[avN,pd m i q k ⋯];unfold av;rw[if_pos (show runEnd m i-i-k > 0 by omega)];rfl
theorem uG(m i q:Nat):avN m (runEnd m i-i+1) (hd m i q)=hd m (leap m i q).1 (leap m i q).2:=by
 rw[avN,pd m i q _ (Aq _)];unfold av;rw[if_neg (show ¬runEnd m i-i-(runEnd m i-i) > 0 by omega)];rfl
theorem LM(m i:Nat):runEnd m i-i<=9:=by unfold runEnd;split<;>omega
def ft(m:Nat):Nat->Nat×Nat->Nat×Nat
 |0,x=>x
 |n+1,x=>ft m n (leap m x.1 x.2)
theorem px(m:Nat):∀(a b:Nat)(x:Nat×Nat),ft m (a+b) x=ft m b (ft m a x)
 |0,b,x=>by rw[Nat.zero_add];rfl
 |a+1,b,x=>by rw[show a+1+b=(a+b)+1 by omega];exact px m a b _
theorem xc(m:Nat):∀(L i q:Nat),∃n,n<=10*L/\avN m n (hd m i q)=hd m (ft m L (i,q)).1 (ft m L (i,q)).2
 |0,i,q=>⟨0,Aq _,rfl⟩
 |L+1,i,q=>by
  obtain⟨n,hn,e⟩:=xc m L (leap m i q).1 (leap m i q).2;have:=LM m i;refine⟨runEnd m i-i+1+n,by omega,?_⟩;rw[nv,uG,e];rfl
theorem p9(m i q:Nat)(hq:q < 2 ^ 64):(ft m 13 (i,q)).2=0:=by
 show q / 32 / 32 / 32 / 32 / 32 / 32 / 32 / 32 / 32 / 32 / 32 / 32 / 32=0;omega
theorem Hz(m i q:Nat):(ft m 13 (i,q)).1 < m+1:=by
 show(_ % (m+1)) < m+1;exact Nat.mod_lt _ (Nat.succ_pos _)
theorem qd:∀i < 8,∀e < 8,∃L < 8,(ft 7 L (i,0)).1=e:=by decide +kernel
theorem Nw:∀i < 32,∀e < 32,∃L < 32,(ft 31 L (i,0)).1=e:=by decide +kernel
def okMk(m:Nat):Prop:=m=7\/m=31
theorem zd(h:Int):bits h < 2 ^ 64:=by unfold bits;omega
theorem uZ{m i q e:Nat}(hm:okMk m)(hq:q < 2 ^ 64)(he:e < m+1):∃L,L<=m+13/\(ft m L (i,q)).1=e:=by
 have h1:=p9 m i q hq;have h2:=Hz m i q;have e0:ft m 13 (i,q)=((ft m 13 (i,q)).1,0):=by rw[<-h1]
 rcases hm with rfl|rfl
 ·obtain⟨L,hL,z⟩:=qd _ h2 _ he;exact⟨13+L,by omega,by rw[px,e0];exact z⟩
 ·obtain⟨L,hL,z⟩:=Nw _ h2 _ he;exact⟨13+L,by omega,by rw[px,e0];exact z⟩
theorem LG{m e:Nat}(h:Int)(hm:okMk m)(he:e < m+1):∃n,n<=10*(m+13)/\pth m h n=e:=by
 obtain⟨L,hL,z⟩:=uZ (i:=bits h % (m+1)) hm (zd h) he;obtain⟨n,hn,e1⟩:=xc m L (bits h % (m+1)) (bits h);refine⟨n,by omega,?_⟩;unfold pth st;rw[e1];exact z
theorem pU:∀(xs l:List Nat),xs.Nodup->(∀x∈xs,x∈l)->xs.length<=l.length
 |[],_,_,_=>Bc _
 |x::r,l,h,g=>by
  rw[Ek]at h;have hx:=g x Am;have:=pU r (l.erase x) h.2 λy hy=>(List.mem_erase_of_ne (λz=>h.1 (by rw[<-z];exact hy))).mpr (g y (Ar _ hy));rw[List.length_erase_of_mem hx]at this;have:0 < l.length:=List.length_pos_of_mem hx;rw[Ax];omega
theorem hole{l:List Nat}{m:Nat}(hl:l.length<=m):∃e,e < m+1/\e∉l:=by
 by_cases h:∃e,e < m+1/\e∉l
 ·exact h
 ·exfalso;have:=pU (Bh (m+1)) l List.nodup_range λe he=>Classical.not_not.mp λz=>h ⟨e,Bs.mp he,z⟩;rw[Cs]at this;omega
structure Tb(hs:List Int)(t:Cz):Prop where
 ok:okMk t.mask
 sz:t.place.size=hs.length
 rs:dN t.place.toList
 dm:t.dummies=#[]
 fl:hs.length<=t.mask
 ch:∀(i:Nat)(h:Int),hs[i]?=ae h->∃n,t.place[i]?=ae (pth t.mask h n)/\∀s < n,pth t.mask h s∈t.place.toList
theorem Tb.fits{hs:List Int}{t:Cz}(T:Tb hs t){n:Nat}(hn:n=hs.length):t.fits n=ah:=by
 unfold SetTable.fits SetTable.fill;rw[T.dm,T.sz,hn];have:=T.fl;simp[this]
theorem Tb.free{hs:List Int}{t:Cz}(T:Tb hs t)(h:Int):∃N,N<=10*(t.mask+13)/\pth t.mask h N∉t.place.toList:=by
 obtain⟨e,he,hn⟩:=hole (l:=t.place.toList) (m:=t.mask) (by rw[Az,T.sz];exact T.fl);obtain⟨n,h1,h2⟩:=LG h T.ok he;exact⟨n,h1,by rw[h2];exact hn⟩
theorem FI{t:Cz}{j:Nat}(h:j∈t.place.toList):∃i:Nat,t.place[i]?=ae j:=by
 obtain⟨i,hi,e⟩:=Hg h;exact⟨i,by rw[<-Bp,Ah hi,e]⟩
theorem probe_go{hs:List Int}{t:Cz}(T:Tb hs t){g:Nat->Int}{h:Int}{N:Nat}(hN:pth t.mask h N∉t.place.toList):∀(fuel n0:Nat),n0<=N->N < fuel+n0->
  (∃n1,n0<=n1/\pth t.mask h n1∉t.place.toList/\(∀s,n0<=s->s < n1->pth t.mask h s∈t.place.toList/\∀i,t.place[i]?=ae (pth t.mask h s)->g i≠h)/\probe.go t g h fuel (avN t.mask n0 (st t.mask h))=ae (.empty (pth t.mask h n1) af)) \/
  (∃n1 i,n0<=n1/\n1 < N/\t.place[i]?=ae (pth t.mask h n1)/\g i=h/\(∀s,n0<=s->s < n1->pth t.mask h s∈t.place.toList/\∀i,t.place[i]?=ae (pth t.mask h s)->g i≠h)/\probe.go t g h fuel (avN t.mask n0 (st t.mask h))=ae (.candidate (pth t.mask h n1) i (avN t.mask (n1+1) (st t.mask h))))
 |0,n0,a,b=>absurd b ⋯
 |fuel+1,n0,a,b=>by
  unfold probe.go;show(∃n1,_)\/_;by_cases hm:pth t.mask h n0∈t.place.toList
  ·obtain⟨i,hi⟩:=FI hm;have hs':t.slot (avN t.mask n0 (st t.mask h)).j=.live i:=slot_live T.rs hi;rw[hs'];dsimp only;by_cases hg:g i=h
   ·rw[if_pos (by rw[hg];exact beq_self_eq_true h),uM];refine .inr ⟨n0,i,Aq _,?_,hi,hg,λs h1 h2=>absurd h2 ⋯,rfl⟩;rcases Nat.lt_or_eq_of_le a with z|z
    ·exact z
    ·rw[z]at hm;exact absurd hm hN
   ·rw[if_neg (by simpa using hg),uM];have hne:n0 < N:=by
     rcases Nat.lt_or_eq_of_le a with z|z
     ·exact z
     ·rw[z]at hm;exact absurd hm hN
    have hat:pth t.mask h n0∈t.place.toList/\∀i,t.place[i]?=ae (pth t.mask h n0)->g i≠h:=⟨hm,λk hk=>by
     have:=below_at T.rs hk;rw[below_at T.rs hi]at this;rw[<-this];exact hg⟩
    rcases probe_go T (g:=g) hN fuel (n0+1) hne ⋯with⟨n1,q1,q2,q3,q4⟩|⟨n1,k,q1,q2,q3,q4,q5,q6⟩
    ·refine .inl ⟨n1,by omega,q2,λs h1 h2=>?_,q4⟩;by_cases z:s=n0
     ·rw[z];exact hat
     ·exact q3 s ⋯ h2
    ·refine .inr ⟨n1,k,by omega,q2,q3,q4,λs h1 h2=>?_,q6⟩;by_cases z:s=n0
     ·rw[z];exact hat
     ·exact q5 s ⋯ h2
  ·have hs':t.slot (avN t.mask n0 (st t.mask h)).j=.empty:=DU T.dm hm;rw[hs'];dsimp only;refine .inl ⟨n0,Aq _,hm,λs h1 h2=>absurd h2 ⋯,?_⟩;rw[zR];rfl
theorem ins_get{α:Type}(xs:Array α){p:Nat}(hp:p<=xs.size)(x:α)(i:Nat):(insertAt xs p x)[i]?=if i < p then xs[i]? else if i=p then ae x else xs[i-1]?:=by
 unfold insertAt;rw[Array.getElem?_append];have h1:((xs.extract 0 p).push x).size=p+1:=by simp;omega
 rw[h1];by_cases a:i < p
 ·rw[if_pos a,if_pos ⋯,Array.getElem?_push_lt (by simp;omega)];simp[a]
 ·rw[if_neg a];by_cases b:i=p
  ·rw[if_pos b,if_pos ⋯,b];have:((xs.extract 0 p).push x)[p]?=ae x:=by
    rw[Array.getElem?_push];have:(xs.extract 0 p).size=p:=by simp;omega
    rw[this,if_pos rfl]
   exact this
  ·rw[if_neg b,if_neg ⋯,Array.getElem?_extract];by_cases c:i-1 < xs.size
   ·rw[if_pos ⋯]
    congr 1
    omega
   ·rw[if_neg ⋯];rw[Array.getElem?_eq_none ⋯]
theorem ins_size{α:Type}(xs:Array α){p:Nat}(hp:p<=xs.size)(x:α):(insertAt xs p x).size=xs.size+1:=by
 unfold insertAt;simp;omega
theorem zc{xs:Array Nat}{p:Nat}(hp:p<=xs.size){x y:Nat}:y∈(insertAt xs p x).toList↔y∈xs.toList\/y=x:=by
 unfold insertAt;have:(xs.toList.take p++xs.toList.drop p)=xs.toList:=List.take_append_drop _ _
 constructor
 ·intro h;simp only[Array.toList_append,Array.toList_push,Array.toList_extract,A6,A8]at h;rw[<-this,A6];rcases h with(h|h)|h
  ·exact .inl (.inl (by simpa using h))
  ·exact .inr h
  ·refine .inl (.inr ?_);simp only[List.extract_eq_take_drop]at h;exact E6 h
 ·intro h;rw[<-this,A6]at h;simp only[Array.toList_append,Array.toList_push,Array.toList_extract,A6,A8];rcases h with(h|h)|h
  ·exact .inl (.inl (by simpa using h))
  ·refine .inr ?_;simp only[List.extract_eq_take_drop];rw[List.take_of_length_le (by simp)];exact h
  ·exact .inl (.inr h)
theorem L7{xs:Array Nat}(h:∀i k v u:Nat,xs[i]?=ae v->xs[k]?=ae u->i < k->v < u):dN xs.toList:=by
 refine Gc.mpr λi k hi hk hlt=>?_;refine h i k _ _ ?_ ?_ hlt
 ·rw[<-Bp];exact Ah hi
 ·rw[<-Bp];exact Ah hk
theorem IM{xs:Array Nat}{j:Nat}(h:dN xs.toList)(hj:j∉xs.toList):dN (insertAt xs (below xs j) j).toList:=by
 obtain⟨a,b,c⟩:=below_ok j h;have c':∀i v,xs[i]?=ae v->below xs j<=i->j < v:=λi v hv hi=>Nat.lt_of_le_of_ne (c i v hv hi) λz=>hj (by rw[z];exact Ef.mpr (Ft hv));refine L7 λi k v u hv hu hlt=>?_;rw[ins_get xs a]at hv hu;by_cases h1:k < below xs j
 ·rw[if_pos h1]at hu;rw[if_pos ⋯]at hv;exact jY h hv hu hlt
 ·rw[if_neg h1]at hu;by_cases h2:k=below xs j
  ·rw[if_pos h2]at hu;cases hu;rw[if_pos ⋯]at hv;exact b i v hv ⋯
  ·rw[if_neg h2]at hu;by_cases h3:i < below xs j
   ·rw[if_pos h3]at hv;exact jY h hv hu ⋯
   ·rw[if_neg h3]at hv;by_cases h4:i=below xs j
    ·rw[if_pos h4]at hv;cases hv;exact c' _ _ hu ⋯
    ·rw[if_neg h4]at hv;exact jY h hv hu ⋯
theorem Tb.put{hs:List Int}{t t':Cz}{h:Int}{n:Nat}(T:Tb hs t)(hn:pth t.mask h n∉t.place.toList)(hb:∀s < n,pth t.mask h s∈t.place.toList)(hl:hs.length < t.mask)
  (e1:t'.mask=t.mask) (e2:t'.place=insertAt t.place (below t.place (pth t.mask h n)) (pth t.mask h n)) (e3:t'.dummies=#[]) {hs':List Int}
  (e4:∀i,hs'[i]?=if i < below t.place (pth t.mask h n)then hs[i]? else if i=below t.place (pth t.mask h n)then ae h else hs[i-1]?) (e5:hs'.length=hs.length+1):Tb hs' t':=by
 obtain⟨a,b,c⟩:=below_ok (pth t.mask h n) T.rs;refine⟨by rw[e1];exact T.ok,by rw[e2,ins_size _ a,T.sz,e5],by rw[e2];exact IM T.rs hn,e3,by rw[e1,e5];omega,λi k hk=>?_⟩;rw[e1,e2];have old:∀i',hs[i']?=ae k->(∃m,t.place[i']?=ae (pth t.mask k m)/\∀s < m,pth t.mask k s∈(insertAt t.place (below t.place (pth t.mask h n)) (pth t.mask h n)).toList):=λi' z=>by
  obtain⟨m,q1,q2⟩:=T.ch i' k z;exact⟨m,q1,λs hs=>(zc a).mpr (.inl (q2 s hs))⟩
 rw[ins_get _ a];rw[e4]at hk;by_cases h1:i < below t.place (pth t.mask h n)
 ·rw[if_pos h1]at hk ⊢;exact old i hk
 ·rw[if_neg h1]at hk ⊢;by_cases h2:i=below t.place (pth t.mask h n)
  ·rw[if_pos h2]at hk ⊢;cases hk;exact⟨n,rfl,λs hs=>(zc a).mpr (.inl (hb s hs))⟩
  ·rw[if_neg h2]at hk ⊢;exact old _ hk
end TB
namespace TB
open PySem.SetTable
theorem xj{m i:Nat}(h:i < m+1):runEnd m i < m+1:=by unfold runEnd;split<;>omega
theorem o6(m i:Nat):i<=runEnd m i:=by unfold runEnd;split<;>omega
theorem AK(m i q:Nat):(leap m i q).1 < m+1:=Nat.mod_lt _ (Nat.succ_pos _)
theorem Ln{m:Nat}{p:Probe}(h:p.j+p.more < m+1):(av m p).j+(av m p).more < m+1:=by
 unfold av
 split
 ·show p.j+1+(p.more-1) < m+1;omega
 ·show(leap m p.i p.perturb).1+(runEnd m (leap m p.i p.perturb).1-(leap m p.i p.perturb).1) < m+1;have:=xj (AK m p.i p.perturb);have:=o6 m (leap m p.i p.perturb).1;omega
theorem vZ(m:Nat)(h:Int)(n:Nat):pth m h n < m+1:=by
 have:∀n,(avN m n (st m h)).j+(avN m n (st m h)).more < m+1:=λn=>by
  induction n with
  |zero=>
   have h1:bits h % (m+1) < m+1:=Nat.mod_lt _ (Nat.succ_pos _);have:=xj h1;have:=o6 m (bits h % (m+1));show bits h % (m+1)+(runEnd m (bits h % (m+1))-bits h % (m+1)) < m+1;omega
  |succ n ih=>exact Ln ih
 have:=this n;unfold pth;omega
def Oc(ow:Array (Option Nat))(j:Nat):Prop:=∃k,ow[j]?=ae (ae k)
theorem qj{ow:Array (Option Nat)}{j:Nat}(hj:j < ow.size):((ow.getD j (ae 0)).isNone=ai↔Oc ow j)/\((ow.getD j (ae 0)).isNone=ah↔ow[j]?=ae af):=by
 have e:ow[j]?=ae (ow.getD j (ae 0)):=by simp[hj]
 unfold Oc;rw[e];cases ow.getD j (ae 0)<;>simp
theorem uO{m:Nat}{ow:Array (Option Nat)}{h:Int}(hz:ow.size=m+1):∀(fuel i q n0 L:Nat),ow[(ft m L (i,q)).1]?=ae af->L < fuel->avN m n0 (st m h)=hd m i q->(∀s < n0,Oc ow (pth m h s))->
  ∃n,layClean.free m ow fuel i q=ae (pth m h n)/\ow[pth m h n]?=ae af/\∀s < n,Oc ow (pth m h s)
 |0,i,q,n0,L,a,b,c,d=>absurd b (Nat.not_lt_zero _)
 |fuel+1,i,q,n0,L,a,b,c,d=>by
  have hp:∀k,k<=runEnd m i-i->pth m h (n0+k)=i+k:=λk hk=>by
   unfold pth;rw[nv,c,pd m i q k hk]
  have hre:=o6 m i;have inb:∀k,k<=runEnd m i-i->i+k < ow.size:=λk hk=>by rw[<-hp k hk,hz];exact vZ _ _ _
  unfold layClean.free;cases hf:(Bh (runEnd m i+1-i)).find? λk=>(ow.getD (i+k) (ae 0)).isNone with
  |some k=>
   dsimp only;rw[List.find?_range_eq_some]at hf;obtain⟨f1,f2,f3⟩:=hf;have f2:=Bs.mp f2;refine⟨n0+k,by rw[hp k ⋯],?_,λs hs=>?_⟩
   ·rw[hp k ⋯];exact(qj (inb k ⋯)).2.mp f1
   ·by_cases z:s < n0
    ·exact d s z
    ·have:=f3 (s-n0) ⋯;have e:s=n0+(s-n0):=by omega
     rw[e,hp _ ⋯];exact(qj (inb _ ⋯)).1.mp (by simpa using this)
  |none=>
   dsimp only;rw[List.find?_eq_none]at hf;have occ:∀k,k<=runEnd m i-i->Oc ow (i+k):=λk hk=>(qj (inb k hk)).1.mp (Bool.eq_false_iff.mpr (hf k (Bs.mpr ⋯)));have hL:L≠0:=by
    rintro rfl
    obtain⟨k,hk⟩:=occ 0 (Bc _);have a:ow[i]?=ae af:=a;rw[Nat.add_zero,a]at hk;cases hk
   obtain⟨L,rfl⟩:∃L',L=L'+1:=⟨L-1,by omega⟩;refine uO hz fuel (leap m i q).1 (leap m i q).2 (n0+(runEnd m i-i+1)) L a ⋯ (by rw[nv,c,uG]) λs hs=>?_;by_cases z:s < n0
   ·exact d s z
   ·have e:s=n0+(s-n0):=by omega
    rw[e,hp _ ⋯];exact occ _ ⋯
structure LayI(m:Nat)(done:List Int)(ow:Array (Option Nat)):Prop where
 sz:ow.size=m+1
 spot:∀(k:Nat)(h:Int),done[k]?=ae h->∃n,ow[pth m h n]?=ae (ae k)/\∀s < n,Oc ow (pth m h s)
 lt:∀j k:Nat,ow[j]?=ae (ae k)->k < done.length
 un:∀j j' k:Nat,ow[j]?=ae (ae k)->ow[j']?=ae (ae k)->j=j'
theorem LayI.hole{m:Nat}{done:List Int}{ow:Array (Option Nat)}(I:LayI m done ow)(hl:done.length<=m):∃e,e < m+1/\ow[e]?=ae af:=by
 by_cases h:∃e,e < m+1/\ow[e]?=ae af
 ·exact h
 ·exfalso;have oc:∀e,e < m+1->ow[e]?=ae (ae ((ow.getD e af).getD 0)):=λe he=>by
   have e1:ow[e]?=ae (ow.getD e af):=by simp[I.sz,he]
   cases z:ow.getD e af with
   |none=>rw[z]at e1;exact absurd ⟨e,he,e1⟩ h
   |some k=>rw[e1,z];rfl
  have:=pU ((Bh (m+1)).map λe=>(ow.getD e af).getD 0) (Bh done.length) (by
   unfold List.Nodup;rw[Gy];refine List.Pairwise.imp_of_mem (λ{a b} ha hb hab=>?_) (List.pairwise_lt_range (n:=m+1));intro z;have:=I.un a b _ (oc a (Bs.mp ha)) (by rw[oc b (Bs.mp hb),<-z]);omega) (λk hk=>by
   obtain⟨e,he,rfl⟩:=Bk.mp hk;exact Bs.mpr (I.lt _ _ (oc e (Bs.mp he))))
  rw[Ad,Cs,Cs]at this;omega
theorem LayI.step{m:Nat}{done:List Int}{ow:Array (Option Nat)}(hm:okMk m)(I:LayI m done ow)(hl:done.length<=m)(h:Int):∃j,layClean.free m ow (turns m) (bits h % (m+1)) (bits h)=ae j/\LayI m (done++[h]) (ow.setIfInBounds j (ae done.length)):=by
 obtain⟨e,he,hn⟩:=I.hole hl;obtain⟨L,hL,z⟩:=uZ (i:=bits h % (m+1)) hm (zd h) he;obtain⟨n,f1,f2,f3⟩:=uO I.sz (h:=h) (turns m) (bits h % (m+1)) (bits h) 0 L (by rw[z];exact hn) (by unfold turns;omega) rfl (λs hs=>absurd hs (Nat.not_lt_zero _));refine⟨_,f1,?_⟩;have hj:pth m h n < ow.size:=by rw[I.sz];exact vZ _ _ _
 have gt:∀j,(ow.setIfInBounds (pth m h n) (ae done.length))[j]?=if pth m h n=j then ae (ae done.length)else ow[j]?:=λj=>by
  rw[Array.getElem?_setIfInBounds];by_cases z:pth m h n=j
  ·rw[if_pos z,if_pos z,if_pos hj]
  ·rw[if_neg z,if_neg z]
 have up:∀j,Oc ow j->Oc (ow.setIfInBounds (pth m h n) (ae done.length)) j:=λj ⟨k,hk⟩=>by
  unfold Oc;rw[gt];by_cases z:pth m h n=j
  ·exact⟨_,if_pos z⟩
  ·rw[if_neg z];exact⟨k,hk⟩
 refine⟨by rw[Array.size_setIfInBounds];exact I.sz,λk h' hk=>?_,λj k hk=>?_,λj j' k hk hk'=>?_⟩
 ·rw[List.getElem?_append]at hk;by_cases z:k < done.length
  ·rw[if_pos z]at hk;obtain⟨n',a,b⟩:=I.spot k h' hk;refine⟨n',?_,λs hs=>up _ (b s hs)⟩;rw[gt,if_neg λz=>?_]
   ·exact a
   ·rw[<-z,f2]at a;cases a
  ·rw[if_neg z]at hk;have:k=done.length:=by
    have:=(Bo.mp hk).1;simp at this;omega
   subst this;rw[Nat.sub_self]at hk;cases hk;exact⟨n,by rw[gt,if_pos rfl],λs hs=>up _ (f3 s hs)⟩
 ·rw[gt]at hk;rw[Ao,Ba];by_cases z:pth m h n=j
  ·rw[if_pos z]at hk;cases hk;omega
  ·rw[if_neg z]at hk;have:=I.lt j k hk;omega
 ·rw[gt]at hk hk';by_cases z:pth m h n=j
  ·rw[if_pos z]at hk;cases hk;by_cases z':pth m h n=j'
   ·rw[<-z,z']
   ·rw[if_neg z']at hk';exact absurd (I.lt j' _ hk') (C2 _)
  ·rw[if_neg z]at hk;by_cases z':pth m h n=j'
   ·rw[if_pos z']at hk';cases hk';exact absurd (I.lt j _ hk) (C2 _)
   ·rw[if_neg z']at hk';exact I.un j j' k hk hk'
def gF(m:Nat)(acc:Option (Array (Option Nat)×Nat))(h:Int):Option (Array (Option Nat)×Nat):=do
 let(owner,k) <-acc
 let j <-layClean.free m owner (turns m) (bits h % (m+1)) (bits h)
 pure (owner.setIfInBounds j (ae k),k+1)
theorem vI{m:Nat}(hm:okMk m):∀(hs done:List Int)(ow:Array (Option Nat)),LayI m done ow->done.length+hs.length<=m->∃ow',hs.foldl (gF m) (ae (ow,done.length))=ae (ow',(done++hs).length)/\LayI m (done++hs) ow'
 |[],done,ow,I,_=>⟨ow,by rw[Bv];rfl,by rw[Bv];exact I⟩
 |h::hs,done,ow,I,hl=>by
  rw[Ax]at hl;obtain⟨j,e,I'⟩:=I.step hm ⋯ h;obtain⟨ow',a,b⟩:=vI hm hs (done++[h]) _ I' (by rw[Ao,Ba];omega);rw[Bu]at a b;refine⟨ow',?_,b⟩;have:gF m (ae (ow,done.length)) h=ae (ow.setIfInBounds j (ae done.length),(done++[h]).length):=by
   unfold gF;simp only[Option.bind_eq_bind,Option.bind_some,e,Option.pure_def,Ao,Ba]
  rw[List.foldl_cons,this];exact a
theorem HR{m:Nat}(hm:okMk m)(hs:Array Int)(hl:hs.size<=m):∃ow,layClean m hs=ae ow/\LayI m hs.toList ow:=by
 have I0:LayI m [] (Array.replicate (m+1) af):=by
  have g:∀j k:Nat,¬(Array.replicate (m+1) (af:Option Nat))[j]?=ae (ae k):=λj k z=>by
   rw[Array.getElem?_replicate]at z
   split at z<;>cases z
  exact⟨by simp,λk h z=>by simp at z,λj k z=>absurd z (g j k),λj j' k z=>absurd z (g j k)⟩
 obtain⟨ow,a,b⟩:=vI hm hs.toList [] _ I0 (by simpa using hl);refine⟨ow,?_,by simpa using b⟩;unfold layClean;rw[<-Array.foldl_toList];show Fy _ (hs.toList.foldl (gF m) (ae (Array.replicate (m+1) af,0)))=ae ow;have a:hs.toList.foldl (gF m) (ae (Array.replicate (m+1) af,0))=_:=a;rw[a];rfl
theorem qS(ow:Array (Option Nat)):∀l:List Nat,(l.filterMap λj=>(ow.getD j af).map (j,·))=(l.filter λj=>(ow.getD j af).isSome).map λj=>(j,(ow.getD j af).getD 0)
 |[]=>rfl
 |j::l=>by
  rw[Fd,List.filter_cons];cases e:ow.getD j af with
  |none=>simp only[Option.map_none,Option.isSome_none,A9,if_false];exact qS ow l
  |some k=>simp only[Option.map_some,Option.isSome_some,if_true,A5,qS ow l,e,Option.getD_some]
theorem relaid_ok{t:Cz}{hs:Array Int}{wt:Nat}(hn:hs.size<=31)(hw:sizeAbove wt-1=31):∃(t':Cz)(O:Array Nat),t.relaid hs wt=ae (t',O)/\O.toList.Perm (Bh hs.size)/\t'.led=t.led/\t'.mask=31/\Tb (O.toList.map λk=>hs.getD k 0) t':=by
 obtain⟨ow,e,I⟩:=HR (m:=31) (.inr rfl) hs hn;unfold relaid laid;rw[hw,e];simp only[Option.bind_eq_bind,Option.bind_some,Option.pure_def];rw[qS];generalize hP:((Bh (31+1)).filter λj=>(ow.getD j af).isSome)=P;have oc:∀j∈P,ow[j]?=ae (ae ((ow.getD j af).getD 0)):=λj hj=>by
  rw[<-hP,Gp,Bs]at hj;have e1:ow[j]?=ae (ow.getD j af):=by simp[I.sz,hj.1]
  obtain⟨k,hk⟩:=Hv.mp hj.2;rw[e1,hk];rfl
 have inP:∀j,Oc ow j->j∈P:=λj ⟨k,hk⟩=>by
  rw[<-hP,Gp,Bs];have hj:=(D3.mp hk).1;rw[I.sz]at hj;refine⟨hj,?_⟩;have e1:ow[j]?=ae (ow.getD j af):=by simp[I.sz,hj]
  rw[hk]at e1;rw[<-Bi e1];rfl
 have ris:P.Pairwise (· < ·):=by
  rw[<-hP];exact(List.pairwise_lt_range (n:=31+1)).filter _
 have hO:((P.map λj=>(ow.getD j af).getD 0)).Perm (Bh hs.size):=by
  refine(List.perm_ext_iff_of_nodup ?_ List.nodup_range).mpr λk=>?_
  ·unfold List.Nodup;rw[Gy];refine List.Pairwise.imp_of_mem (λ{a b} ha hb hab z=>?_) ris;have:=I.un a b _ (oc a ha) (by rw[oc b hb,<-z]);omega
  ·rw[Bk,Bs]
   constructor
   ·rintro⟨j,hj,rfl⟩
    have:=I.lt j _ (oc j hj);rw[Az]at this;exact this
   ·intro hk;obtain⟨n,a,_⟩:=I.spot k hs[k] (by rw[Bp];exact Cn hk);refine⟨_,inP _ ⟨k,a⟩,?_⟩;have:=oc _ (inP _ ⟨k,a⟩);rw[a]at this;exact(Bi (Bi this)).symm
 refine⟨_,_,rfl,?_,rfl,rfl,?_⟩
 ·show(List.map Prod.snd (P.map _)).Perm _;rw[Er];exact hO
 ·show Tb ((List.map Prod.snd (P.map _)).map _) _;rw[Er];have len:P.length=hs.size:=by
   have:=hO.length_eq;rw[Ad,Cs]at this;exact this
  have epl:List.map Prod.fst (P.map λj=>(j,(ow.getD j af).getD 0))=P:=by
   rw[Er];exact Et P
  refine⟨.inr rfl,?_,?_,rfl,?_,λi h hi=>?_⟩
  ·show(List.map Prod.fst (P.map _)).toArray.size=_;rw[epl];simp
  ·show dN (List.map Prod.fst (P.map _)).toArray.toList;rw[epl];exact ris
  ·show _<=31;rw[Ad,Ad,len];exact hn
  ·rw[A0,A0]at hi;cases hp:P[i]? with
   |none=>rw[hp]at hi;cases hi
   |some j=>
    rw[hp]at hi;have hi:hs.getD ((ow.getD j af).getD 0) 0=h:=Bi hi;have hj:=oc j (B6 hp);have hlt:=I.lt _ _ hj;rw[Az]at hlt;generalize(ow.getD j af).getD 0=k0 at hi hj hlt;have hk:hs.toList[k0]?=ae h:=by
     rw[Bp,<-hi];simp[hlt]
    obtain⟨n,a,b⟩:=I.spot _ h hk;have:=I.un _ _ _ a hj;refine⟨n,?_,λs hs=>?_⟩
    ·show(List.map Prod.fst (P.map _)).toArray[i]?=ae (pth 31 h n);rw[epl,this];simpa using hp
    ·show pth 31 h s∈(List.map Prod.fst (P.map _)).toArray.toList;rw[epl];exact inP _ (b s hs)
end TB
section
variable{prog:Bn}{w:By}{E:Ag->Ai->Prop}
theorem xX:∀(n m:Nat){A:Bt}{s:Ai}{v:Ag}{d:Ab}{as:List Addr}{Q:Bool->Ai->Prop},n<=m->cV n d=ah->Gj s.heap v d as->Q ai s->Av (A7 prog w) A (ofAClassStatement m v) Q E s:=by
 intro n;have leaf:∀{m:Nat}{A:Bt}{s:Ai}{v:Ag}{d:Ab}{as:List Addr}{Q:Bool->Ai->Prop},(d=.none\/(∃i,d=.int i)\/∃x,d=.str x)->Gj s.heap v d as->Q ai s->Av (A7 prog w) A (ofAClassStatement m v) Q E s:=by
  intro m A s v d as Q hd r q;rcases hd with rfl|⟨i,rfl⟩|⟨x,rfl⟩<;>cases r<;>(cases m<;>exact Af q)
 induction n with
 |zero=>
  intro m A s v d as Q _ hd r q;refine leaf ?_ r q;rcases d9 hd with h|h|⟨x,h,_⟩|⟨m,ds,e,_⟩
  ·exact .inl h
  ·exact .inr (.inl h)
  ·exact .inr (.inr ⟨x,h⟩)
  ·cases e
 |succ n ih=>
  intro m A s v d as Q hm hd r q;rcases d9 hd with h|h|⟨x,h,_⟩|⟨m',ds,z,rfl,hds⟩
  ·exact leaf (.inl h) r q
  ·exact leaf (.inr (.inl h)) r q
  ·exact leaf (.inr (.inr ⟨x,h⟩)) r q
  ·cases z;obtain⟨m,rfl⟩:∃k,m=k+1:=⟨m-1,by omega⟩;cases r with
   |@tuple a o vs k _ _ a1 a2 a3 a4=>
    have hT:s.TypeIs (.ref a) "tuple":=⟨o,a1,a2⟩;unfold ofAClassStatement;refine Aa (Ez hT ?_);dsimp only;rw[if_pos ∎];refine Aa (Af ?_);simp only[Fq,A9,if_false];refine Aa (Ct a1 a3 ?_);dsimp only;refine Aa ?_;show Av _ _ (forIn vs _ _) _ _ s;rw[<-Gq];refine Hb _ (λrest r s'=>r.1=af/\s'=s/\∃xs bs,dv n xs=ah/\G9 s.heap rest xs bs) _ ?_ ?_ _ _ ⟨rfl,rfl,ds,_,hds,a4⟩
    ·rintro v rest r s' ⟨hr,rfl,xs,bs,hx,hr2⟩
     cases hr2 with
     |cons p1 p2=>
      rw[dv,Ay]at hx;refine Aa (ih m ⋯ hx.1 p1 ?_);simp only[A9,if_false];exact Af ⟨rfl,rfl,_,_,hx.2,p2⟩
    ·rintro⟨r1,r2⟩ s' ⟨hr,rfl,_⟩
     simp only at hr;subst hr;exact Af q
theorem EY:∀(n m:Nat){A:Bt}{s:Ai}{v:Ag}{d:Ab}{as:List Addr}{Q:Bool->Ai->Prop},n<=m->cV n d=ah->Gj s.heap v d as->(∀b,Q b s)->Av (A7 prog w) A (hashByValue m v) Q E s:=by
 intro n;have leaf:∀{m:Nat}{A:Bt}{s:Ai}{v:Ag}{d:Ab}{as:List Addr}{Q:Bool->Ai->Prop},(d=.none\/(∃i,d=.int i)\/∃x,d=.str x)->Gj s.heap v d as->(∀b,Q b s)->Av (A7 prog w) A (hashByValue m v) Q E s:=by
  intro m A s v d as Q hd r q;rcases hd with rfl|⟨i,rfl⟩|⟨x,rfl⟩<;>cases r<;>(cases m<;>exact Af (q _))
 induction n with
 |zero=>
  intro m A s v d as Q _ hd r q;refine leaf ?_ r q;rcases d9 hd with h|h|⟨x,h,_⟩|⟨m,ds,e,_⟩
  ·exact .inl h
  ·exact .inr (.inl h)
  ·exact .inr (.inr ⟨x,h⟩)
  ·cases e
 |succ n ih=>
  intro m A s v d as Q hm hd r q;rcases d9 hd with h|h|⟨x,h,_⟩|⟨m',ds,z,rfl,hds⟩
  ·exact leaf (.inl h) r q
  ·exact leaf (.inr (.inl h)) r q
  ·exact leaf (.inr (.inr ⟨x,h⟩)) r q
  ·cases z;obtain⟨m,rfl⟩:∃k,m=k+1:=⟨m-1,by omega⟩;cases r with
   |@tuple a o vs k _ _ a1 a2 a3 a4=>
    have hT:s.TypeIs (.ref a) "tuple":=⟨o,a1,a2⟩;unfold hashByValue;refine Aa (wpAny_specialOf hT F.slot_tuple_hash.lookup ?_);show Av _ _ (seqItems? (.ref a)>>=_) _ _ s;refine Aa (Ct a1 a3 ?_);dsimp only;refine Aa ?_;show Av _ _ (forIn vs _ _) _ _ s;rw[<-Gq];refine Hb _ (λrest r s'=>s'=s/\∃xs bs,dv n xs=ah/\G9 s.heap rest xs bs) _ ?_ ?_ _ _ ⟨rfl,ds,_,hds,a4⟩
    ·rintro v rest r s' ⟨rfl,xs,bs,hx,hr2⟩
     cases hr2 with
     |cons p1 p2=>
      rw[dv,Ay]at hx;refine Aa (ih m ⋯ hx.1 p1 λb=>?_);cases b with
      |true=>
       simp only[Fq,A9,if_false];exact Af ⟨rfl,_,_,hx.2,p2⟩
      |false=>
       simp only[Bool.not_false,if_true];exact Af (Af (q _))
    ·rintro⟨r1,r2⟩ s' ⟨rfl,_⟩
     cases r1 with
     |none=>exact Af (q _)
     |some b=>exact Af (q _)
def fA(h:Heap)(v:Ag):Prop:=∃d as,cV 6 d=ah/\Gj h v d as
theorem GW{A:Bt}{s:Ai}{x:Ag}{l:List Ag}{Q:Bool->Ai->Prop}(hx:fA s.heap x)(hl:∀y∈l,fA s.heap y)(q:Q ai s):Av (A7 prog w) A (searchCouldBeSeen x l) Q E s:=by
 obtain⟨d,as,td,rd⟩:=hx;unfold searchCouldBeSeen;refine Aa ?_;refine Hb _ (λrest r s'=>r.1=af/\s'=s/\∀y∈rest,fA s.heap y) _ ?_ ?_ _ _ ⟨rfl,rfl,hl⟩
 ·rintro y rest r s' ⟨hr,rfl,hy⟩
  obtain⟨e,bs,te,re⟩:=hy y Am;have ok:∀y∈rest,fA s'.heap y:=λz hz=>hy z (Ar _ hz);dsimp only;refine wpAny_ite_split (λ_=>Af ⟨rfl,rfl,ok⟩) λ_=>?_;refine Aa (sG 6 8 ∎ td rd ?_);simp only[Fq,A9,if_false];refine Aa (sG 6 8 ∎ te re ?_);simp only[Fq,A9,if_false];refine Aa (xX 6 8 ∎ td rd ?_);simp only[A9,if_false];refine Aa (xX 6 8 ∎ te re ?_);simp only[A9,if_false];exact Af ⟨rfl,rfl,ok⟩
 ·rintro⟨r1,r2⟩ s' ⟨hr,rfl,_⟩
  simp only at hr;subst hr;exact Af q
end
open TB in
structure SetK(w:By)(g h:Heap)(a:Addr)(es:Array (Int×Ag))(ep:Nat)(t:Cz)(ks:List TK):Prop where
 obj:∃o,h.get? a=ae o/\o.ExactSet/\o.data=.set es ep t
 tb:TB.Tb (es.toList.map (·.1)) t
 ln:es.size=ks.length
 ky:∀(i:Nat)(e:Int×Ag),es[i]?=ae e->∃k b,ks[i]?=ae k/\e=(bp w k.1,.ref b)/\∃as,Gj g (.ref b) k.1 as
 nd:ks.Nodup
 few:(t.mask=7/\es.size<=4)\/t.mask=31
section
variable{prog:Bn}{w:By}{A:Bt}{E:Ag->Ai->Prop}{s:Ai}{g:Heap}{a:Addr}{es:Array (Int×Ag)}{ep:Nat}{t:Cz}{ks:List TK}
theorem SetK.fits(K:SetK w g s.heap a es ep t ks):t.fits es.size=ah:=K.tb.fits (by simp)
theorem SetK.tks(K:SetK w g s.heap a es ep t ks)(hg:∀b o,g.get? b=ae o->s.heap.get? b=ae o):∀y∈es.toList.map (·.2),fA s.heap y:=λy hy=>by
 obtain⟨e,he,rfl⟩:=Bk.mp hy;obtain⟨i,hi,rfl⟩:=Hg he;obtain⟨k,b,_,e2,as,r⟩:=K.ky i es.toList[i] (by rw[<-Bp];exact Ah hi);rw[e2];exact⟨k.1,as,k.2,Reads.keeps hg r⟩
theorem EN{t:Cz}(h:TB.okMk t.mask):t.gaveWay=ai:=by
 unfold SetTable.gaveWay;rcases h with e|e<;>rw[e]<;>rfl
theorem w8(es:Array (Int×Ag)){i:Nat}{e:Int×Ag}(h:es[i]?=ae e):(es[i]?.map (·.1)).getD 0=e.1:=by rw[h];rfl
theorem Ih{β:Type}{c:Bool}{m:Sem Bool}{u X:Sem β}{Q:β->Ai->Prop}(h:∀Q':Bool->Ai->Prop,Q' ai s->Av (A7 prog w) A m Q' E s)(hx:Av (A7 prog w) A X Q E s):Av (A7 prog w) A (if c=ah then m>>=λr=>if r=ah then u else X else X) Q E s:=by
 cases c with
 |true=>exact Aa (h _ hx)
 |false=>exact hx
theorem vM(K:SetK w g s.heap a es ep t ks)(hg:∀b o,g.get? b=ae o->s.heap.get? b=ae o)(hu:A.units+16 < Fo){k:TK}{b:Addr}{as:List Addr}(hb:Gj s.heap (.ref b) k.1 as){N:Nat}(hN1:N<=10*(t.mask+13))(hN:TB.pth t.mask (bp w k.1) N∉t.place.toList)
  {Q:SetFound->Ai->Prop} (q1:k∈ks->Q (.there af) s) (q2:∀n1,TB.pth t.mask (bp w k.1) n1∉t.place.toList->(∀j < n1,TB.pth t.mask (bp w k.1) j∈t.place.toList)->k∉ks->Q (.free (TB.pth t.mask (bp w k.1) n1) ai) s):
  ∀(fuel n0:Nat)(stand:Option SetTable.Probe),stand.getD (t.probeStart (bp w k.1))=TB.avN t.mask n0 (TB.st t.mask (bp w k.1))->n0<=N->N < fuel+n0->
  (∀j < n0,TB.pth t.mask (bp w k.1) j∈t.place.toList/\∀i:Nat,t.place[i]?=ae (TB.pth t.mask (bp w k.1) j)->ks[i]?≠ae k)->Av (A7 prog w) A (setSearchFrom a (.ref b) (bp w k.1) ah fuel stand) Q E s
 |0,n0,stand,_,h1,h2,_=>absurd h2 ⋯
 |fuel+1,n0,stand,hst,h1,h2,hbh=>by
  obtain⟨o,ho,hex,hd⟩:=K.obj;have T:=K.tb;have hkey:∀(i:Nat) e,es[i]?=ae e->e.1≠bp w k.1->ks[i]?≠ae k:=λi e he hne z=>by
   obtain⟨k',b',e1,e2,_⟩:=K.ky i e he;rw[z]at e1;cases e1;rw[e2]at hne;exact hne rfl
  have isz:∀i j:Nat,t.place[i]?=ae j->∃e,es[i]?=ae e:=λi j hi=>by
   have:=(D3.mp hi).1;rw[T.sz,Ad,Az]at this;exact⟨_,Cn this⟩
  unfold setSearchFrom;refine Aa (Dk ho hd K.fits ?_);dsimp only;rw[EN T.ok];simp only[A9,if_false];rw[hst];have hP:=TB.probe_go T (g:=λi=>(es[i]?.map (·.1)).getD 0) hN (10*SetTable.turns t.mask) n0 h1 (by unfold SetTable.turns;omega);rcases hP with⟨n1,p1,p2,p3,p4⟩|⟨n1,i,p1,p2,p3,p4,p5,p6⟩
  ·split
   rotate_left
   ·rename_i z;exact(z _ p4).elim
   rename_i met z;obtain rfl:=Bi (z.symm.trans p4);dsimp only;have hall:∀j < n1,TB.pth t.mask (bp w k.1) j∈t.place.toList/\∀i:Nat,t.place[i]?=ae (TB.pth t.mask (bp w k.1) j)->ks[i]?≠ae k:=λj hj=>by
    by_cases z:j < n0
    ·exact hbh j z
    ·refine⟨(p3 j ⋯ hj).1,λi hi=>?_⟩;obtain⟨e,he⟩:=isz i _ hi;refine hkey i e he ?_;have:=(p3 j ⋯ hj).2 i hi;rw[<-w8 es he];exact this
   refine Af (q2 n1 p2 (λj hj=>(hall j hj).1) λhk=>?_);obtain⟨i,hi,e⟩:=Hg hk;have hi2:i < es.size:=by rw[K.ln];exact hi
   obtain⟨k',b',e1,e2,_⟩:=K.ky i es[i] (Cn hi2);rw[Ah hi,e]at e1;cases e1;obtain⟨m,c1,c2⟩:=T.ch i (bp w k.1) (by rw[A0,Bp,Cn hi2,e2];rfl);rcases Nat.lt_trichotomy m n1 with z|z|z
   ·exact(hall m z).2 i c1 (by rw[Ah hi,e])
   ·rw[z]at c1;exact p2 (Ef.mpr (Ft c1))
   ·exact p2 (c2 n1 z)
  ·split
   rotate_left
   ·rename_i z;exact(z _ p6).elim
   rename_i met z;obtain rfl:=Bi (z.symm.trans p6);dsimp only;obtain⟨e,he⟩:=isz i _ p3;obtain⟨k',b',e1,e2,as',r'⟩:=K.ky i e he;have r':=Reads.keeps hg r';subst e2;have hx:fA s.heap (.ref b):=⟨k.1,as,k.2,hb⟩;refine Ih (λQ q=>GW hx (λy hy=>K.tks hg y ?_) q) ?_
   ·obtain⟨e,he,rfl⟩:=Bk.mp hy;refine Bk.mpr ⟨e,?_,rfl⟩;have:=Ef.mp he;exact Ef.mpr (Array.mem_filter.mp this).1
   ·rw[he];dsimp only;refine Aa (Cg ((Ki prog w).eqBool (x:=k') (y:=k) hu ⟨as',r'⟩ ⟨as,hb⟩ ?_));refine Aa (Dk ho hd K.fits ?_);by_cases hkk:k'=k
    ·rw[decide_eq_true hkk];simp only[Fs,if_true];exact Af (q1 (by rw[<-hkk];exact B6 e1))
    ·rw[decide_eq_false hkk];simp only[Fg,A9,if_false];have hsm:t.sameMemory t.moves t.mask=ae ah:=by unfold SetTable.sameMemory;rw[if_pos (beq_self_eq_true _)]
     rw[hsm];simp only[if_true];rw[TB.slot_live T.rs p3];dsimp only;rw[he];dsimp only;refine Aa (wpAny_isSame_ref_self (Aa (Af ?_)));simp only[if_true];refine vM K hg hu hb hN1 hN q1 q2 fuel (n1+1) _ rfl ⋯ ⋯ λj hj=>?_;by_cases z:j < n0
     ·exact hbh j z
     ·by_cases z':j=n1
      ·subst z';refine⟨Ef.mpr (Ft p3),λi' hi'=>?_⟩;have:=TB.below_at T.rs hi';rw[TB.below_at T.rs p3]at this;rw[<-this,e1];exact λz=>hkk (Bi z)
      ·refine⟨(p5 j ⋯ ⋯).1,λi' hi'=>?_⟩;obtain⟨e',he'⟩:=isz i' _ hi';refine hkey i' e' he' ?_;have:=(p5 j ⋯ ⋯).2 i' hi';rw[<-w8 es he'];exact this
end
def SetKs(w:By)(g h:Heap)(a:Addr)(seen:List TK):Prop:=∃es ep t ks,SetK w g h a es ep t ks/\(∀k,k∈ks↔k∈seen)/\ks.length<=seen.length
section
variable{prog:Bn}{w:By}{A:Bt}{E:Ag->Ai->Prop}{s:Ai}{g:Heap}{a:Addr}{es:Array (Int×Ag)}{ep:Nat}{t:Cz}{ks:List TK}
theorem SetK.keep{h h':Heap}(K:SetK w g h a es ep t ks)(ha:∀o,h.get? a=ae o->h'.get? a=ae o):SetK w g h' a es ep t ks:=
 ⟨let⟨o,e,r⟩:=K.obj;⟨o,ha o e,r⟩,K.tb,K.ln,K.ky,K.nd,K.few⟩
theorem SetKs.keep{h h':Heap}{seen:List TK}(K:SetKs w g h a seen)(ha:∀o,h.get? a=ae o->h'.get? a=ae o):SetKs w g h' a seen:=let⟨es,ep,t,ks,x,r⟩:=K;⟨es,ep,t,ks,x.keep ha,r⟩
theorem yc(es:Array (Int×Ag)):∀l:List Nat,(∀k∈l,k < es.size)->l.filterMap (λk=>es[k]?)=l.map λk=>es.getD k (0,.none)
 |[],_=>rfl
 |k::l,h=>by
  have hk:=h k Am;rw[Fd,A5,<-yc es l λx hx=>h x (Ar _ hx)];rw[sC (d:=((0:Int),Bd)) hk]
theorem NP{α:Type}(xs:List α)(d:α){O:List Nat}(hO:O.Perm (Bh xs.length)):(O.map λk=>xs.getD k d).Perm xs:=by
 have h1:=hO.map λj=>xs.getD j d;have h2:(Bh xs.length).map (λj=>xs.getD j d)=xs:=by
  apply Ew (by simp);intro i h1 h2;simp[h2]
 rw[h2]at h1;exact h1
theorem vG{o:Obj}(es1:Array (Int×Ag))(t1:Cz)(ho:s.heap.get? a=ae o)(hd:o.data=.set es ep t):(s.heap.update a (Dq es1 t1)).get? a=ae {o with data:=.set es1 (ep+1) t1}:=by
 have:=B1 (Dq es1 t1) ho (by rw[G4 es1 t1 hd];rfl);rw[G4 es1 t1 hd]at this;exact this
theorem AH{b:Addr}{k:TK}{as:List Addr}{seen:List TK}{Q:Bool->Ai->Prop}(hS:SetKs w g s.heap a seen)(hg:∀b o,g.get? b=ae o->s.heap.get? b=ae o)(hb:seen.length < 18)(hu:A.units+16 < Fo)(hr:Gj g (.ref b) k.1 as)
  (h:∀r h',Dh a s.heap h'->SetKs w g h' a (seen++[k])->Q r {s with heap:=h'}):Av (A7 prog w) A (setAddHashed a (.ref b) (bp w k.1)) Q E s:=by
 obtain⟨es,ep,t,ks,K,hm,hl⟩:=hS;obtain⟨o,ho,hex,hd⟩:=K.obj;have T:=K.tb;obtain⟨N,hN1,hN⟩:=T.free (bp w k.1);unfold setAddHashed setAddHashedIn;refine Cg (Aa (Dk ho hd K.fits ?_));dsimp only;have hbs:byScan (.ref b) es=ai:=rfl;rw[hbs];simp only[A9,if_false];unfold setSearch;refine Aa (vM K hg hu (Reads.keeps hg hr) hN1 hN (λhk=>?_) (λn1 p1 p2 hk=>?_) 100000 0 af rfl (Bc _) (by have:=K.tb.ok;rcases this with e|e<;>rw[e]at hN1<;>omega) (λj hj=>absurd hj (Nat.not_lt_zero _)))
 ·dsimp only;refine Af (h _ s.heap (Heap.SameBut.refl a s.heap) ⟨es,ep,t,ks,K,λk'=>?_,by rw[Ao];omega⟩);rw[hm k',A6,A8];exact⟨.inl,λz=>z.elim id λe=>e▸(hm k).mp hk⟩
 ·dsimp only;refine Aa (Dk ho hd K.fits ?_);dsimp only;have psz:t.place.size=es.size:=by rw[T.sz,Ad,Az]
  obtain⟨ba,_,_⟩:=TB.below_ok (TB.pth t.mask (bp w k.1) n1) T.rs;have ba':Dp t.place (TB.pth t.mask (bp w k.1) n1)<=es.size:=by rw[<-psz];exact ba
  have eput:t.put (TB.pth t.mask (bp w k.1) n1)=({t with place:=A4 t.place (Dp t.place (TB.pth t.mask (bp w k.1) n1)) (TB.pth t.mask (bp w k.1) n1)},Dp t.place (TB.pth t.mask (bp w k.1) n1)):=by
   unfold SetTable.put;have:SetTable.has t.dummies (TB.pth t.mask (bp w k.1) n1)=ai:=by rw[T.dm];rfl
   rw[this];rfl
  rw[eput];dsimp only;generalize hp:Dp t.place (TB.pth t.mask (bp w k.1) n1)=p at ba ba';have hsz1:(A4 es p (bp w k.1,Bf b)).size=es.size+1:=TB.ins_size es ba' _;have hge:=λi=>TB.ins_get es ba' (bp w k.1,Bf b) i;have hgk:=λi=>TB.ins_get ks.toArray (p:=p) (by simpa[K.ln]using ba') k i;have hkl:(A4 ks.toArray p k).size=ks.length+1:=by rw[TB.ins_size _ (by simpa[K.ln]using ba')];simp
  have hkp:(A4 ks.toArray p k).toList.Perm (ks++[k]):=by
   have:=SetTable.insertAt_perm ks.toArray p k;simpa using this
  have nd1:(A4 ks.toArray p k).toList.Nodup:=by
   rw[hkp.nodup_iff,List.nodup_append];exact⟨K.nd,Ei _ _,λx hx y hy e=>hk (by rw[A8]at hy;rw[<-hy,<-e];exact hx)⟩
  have mem1:∀k',k'∈(A4 ks.toArray p k).toList↔k'∈seen++[k]:=λk'=>by rw[hkp.mem_iff,A6,A6,hm k']
  have hmk:t.mask=7\/t.mask=31:=T.ok;have hes:es.size < 18:=by rw[K.ln];omega
  have fin:∀(tp:Bool),Av (A7 prog w) A (storeSet a (A4 es p (bp w k.1,Bf b)) {t with place:=A4 t.place p (TB.pth t.mask (bp w k.1) n1),plain:=tp}>>=λ_=>if (!ai&&SetTable.tooFull {t with place:=A4 t.place p (TB.pth t.mask (bp w k.1) n1),plain:=tp})=ah then setRelay a (Ec (es.size+1))>>=λ_=>pure ah else pure ah) Q E s:=λtp=>by
   generalize ht1:({t with place:=A4 t.place p (TB.pth t.mask (bp w k.1) n1),plain:=tp}:Cz)=t1;have m1:t1.mask=t.mask:=by rw[<-ht1]
   have T1:TB.Tb ((A4 es p (bp w k.1,Bf b)).toList.map (·.1)) t1:=by
    refine T.put (t':=t1) (h:=bp w k.1) (n:=n1) p1 p2 (by rw[Ad,Az];rcases K.few with z|z<;>omega) m1 (by rw[<-ht1,hp]) (by rw[<-ht1];exact T.dm) (λi=>?_) (by rw[Ad,Az,hsz1,Ad,Az]);rw[hp,A0,Bp,hge i];by_cases z:i < p
    ·rw[if_pos z,if_pos z,A0,Bp]
    ·rw[if_neg z,if_neg z];by_cases z':i=p
     ·rw[if_pos z',if_pos z'];rfl
     ·rw[if_neg z',if_neg z',A0,Bp]
   refine Aa (F5 ho hd ?_ (by rw[hsz1,Cw];omega));have g1:=vG (A4 es p (bp w k.1,Bf b)) t1 ho hd;have sb1:=Bb s.heap a (Dq (A4 es p (bp w k.1,Bf b)) t1);have ky1:∀(i:Nat)(e:Int×Ag),(A4 es p (bp w k.1,Bf b))[i]?=ae e->∃k' b',(A4 ks.toArray p k).toList[i]?=ae k'/\e=(bp w k'.1,.ref b')/\∃as,Gj g (.ref b') k'.1 as:=λi e he=>by
    rw[hge i]at he;rw[Bp,hgk i];by_cases z:i < p
    ·rw[if_pos z]at he ⊢;have:=K.ky i e he;simpa using this
    ·rw[if_neg z]at he ⊢;by_cases z':i=p
     ·rw[if_pos z']at he ⊢;cases he;exact⟨k,b,rfl,rfl,as,hr⟩
     ·rw[if_neg z']at he ⊢;have:=K.ky (i-1) e he;simpa using this
   by_cases hf:SetTable.tooFull t1=ah
   ·rw[hf];simp only[Bool.not_false,Fs,if_true];have h5:es.size=4/\t.mask=7:=by
     unfold SetTable.tooFull SetTable.fill at hf;rw[T1.dm,T1.sz,Ad,Az,hsz1,m1]at hf;have hf:(es.size+1+0)*5 ≥ t.mask*3:=of_decide_eq_true hf;rcases K.few with z|z
     ·exact⟨by omega,z.1⟩
     ·rw[z]at hf;omega
    refine Aa ?_;unfold setRelay;refine Aa (Dk g1 rfl (T1.fits (by simp)) ?_);dsimp only;rw[h5.1];rw[if_neg (by rw[Cw];decide)];obtain⟨t2,O,er,hO,_,hmk2,T2⟩:=TB.relaid_ok (t:=t1) (hs:=(A4 es p (bp w k.1,Bf b)).map (·.1)) (wt:=Ec (4+1)) (by rw[Array.size_map,hsz1];omega) ∎;rw[Array.size_map,hsz1]at hO;have hOl:∀x∈O.toList,x < (A4 es p (bp w k.1,Bf b)).size:=λx hx=>by rw[hsz1];exact Bs.mp (hO.mem_iff.mp hx)
    have efm:(O.filterMap λx=>(A4 es p (bp w k.1,Bf b))[x]?).toList=O.toList.map λx=>(A4 es p (bp w k.1,Bf b)).getD x (0,.none):=by
     rw[Array.toList_filterMap,yc _ _ hOl]
    generalize hes2:(O.filterMap λx=>(A4 es p (bp w k.1,Bf b))[x]?)=es2 at efm;have sz2:es2.size=es.size+1:=by rw[<-Az,efm,Ad,hO.length_eq,Cs]
    refine Aa (G3 (a:=(es2,t2)) ?_ ?_)
    ·rw[er];show(if ((O.filterMap λx=>(A4 es p (bp w k.1,Bf b))[x]?).size != (A4 es p (bp w k.1,Bf b)).size)=ah then _ else pure (_,t2))=_;rw[hes2,if_neg (by rw[sz2,hsz1];simp)]
    ·dsimp only;refine F5 g1 rfl ?_ (by rw[sz2,Cw];omega);have g2:=vG (s:={ s with heap:=s.heap.update a (Dq (A4 es p (bp w k.1,Bf b)) t1)}) es2 t2 g1 rfl;have sb2:=Bb (s.heap.update a (Dq (A4 es p (bp w k.1,Bf b)) t1)) a (Dq es2 t2);have hkl':(A4 ks.toArray p k).toList.length=es.size+1:=by rw[Az,hkl,K.ln]
     have pk:=NP (A4 ks.toArray p k).toList k (O:=O.toList) (by rw[hkl'];exact hO);refine Af (h _ _ (sb1.trans sb2) ⟨es2,ep+1+1,t2,O.toList.map λx=>(A4 ks.toArray p k).toList.getD x k,⟨⟨_,g2,hex,rfl⟩,?_,by rw[sz2,Ad,hO.length_eq,Cs],λi e he=>?_,pk.nodup_iff.mpr nd1,.inr hmk2⟩,λk'=>pk.mem_iff.trans (mem1 k'),by rw[pk.length_eq,hkl',K.ln,Ao,Ba];omega⟩)
     ·rw[efm,Er];have:(λx=>((A4 es p (bp w k.1,Bf b)).map (·.1)).getD x 0)=((λe:Int×Ag=>e.1) ∘ λx=>(A4 es p (bp w k.1,Bf b)).getD x (0,.none)):=by
       funext x
       show _=((A4 es p (bp w k.1,Bf b)).getD x (0,.none)).1;rw[Array.getD_eq_getD_getElem?,Array.getD_eq_getD_getElem?,Array.getElem?_map];cases(A4 es p (bp w k.1,Bf b))[x]?<;>rfl
      rw[<-this];exact T2
     ·rw[<-Bp,efm,A0]at he;cases ho2:O.toList[i]? with
      |none=>rw[ho2]at he;cases he
      |some x=>
       rw[ho2]at he;have he:(A4 es p (bp w k.1,Bf b)).getD x (0,.none)=e:=Bi he;obtain⟨k',b',q1,q2,as',q3⟩:=ky1 x e (by rw[<-he];exact sC (hOl x (B6 ho2)));refine⟨k',b',?_,q2,as',q3⟩;rw[A0,ho2];show ae ((A4 ks.toArray p k).toList.getD x k)=ae k';rw[Ho,q1];rfl
   ·rw[Bool.eq_false_iff.mpr hf];simp only[Fg,A9,if_false];refine Af (h _ _ sb1 ⟨_,ep+1,t1,(A4 ks.toArray p k).toList,⟨⟨_,g1,hex,rfl⟩,T1,by rw[hsz1,Az,hkl,K.ln],λi e he=>?_,nd1,?_⟩,mem1,by rw[Az,hkl,Ao,Ba];omega⟩)
    ·obtain⟨k',b',q1,q2,as',q3⟩:=ky1 i e he;exact⟨k',b',q1,q2,as',q3⟩
    ·rw[m1,hsz1];rcases K.few with z|z
     ·refine .inl ⟨z.1,?_⟩;unfold SetTable.tooFull SetTable.fill at hf;rw[T1.dm,T1.sz,Ad,Az,hsz1,m1]at hf;have hf:¬(es.size+1+0)*5 ≥ t.mask*3:=λz=>hf (decide_eq_true z);omega
     ·exact .inr z
  by_cases hpl:t.plain=ah
  ·rw[if_pos hpl];refine Aa (EY 6 8 ∎ k.2 (Reads.keeps hg hr) λbv=>?_);cases bv with
   |true=>
    simp only[if_true];have:=fin t.plain;exact this
   |false=>
    simp only[A9,if_false];exact fin ai
  ·rw[if_neg hpl];refine Aa (Af ?_);simp only[if_true];exact fin t.plain
end
section
variable{prog:Bn}{w:By}{A:Bt}{E:Ag->Ai->Prop}{s:Ai}
def jI(bs:List Addr)(i:Nat)(v:Ag):Prop:=∃b,bs[i]?=ae b/\v=.ref b
theorem Ji{g:Heap}{R:Result->Ai->Prop}{I:Addr}{fp wr:List Addr}{G:Array GenState->Array GenState->Prop}{n:Nat}{St:Nat->Ai->Prop}{ks:List TK}{bs:List Addr}(W:WalksS prog w A.in1 I fp wr G n (jI bs) St)(S:Addr)(hSf:S∉fp)(hn:ks.length=n)(hb:n < 18)(hu:A.units+20 < Fo)
  (hrd:∀(i:Nat)(b:Addr)(k:TK),bs[i]?=ae b->ks[i]?=ae k->∃as,Gj g (.ref b) k.1 as) (hab:∀b∈S::wr,∀o,g.get? b≠ae o):
  ∀(m i:Nat)(s:Ai),n-i=m->i<=n->St i s->SetKs w g s.heap S (ks.take i)->(∀b o,g.get? b=ae o->s.heap.get? b=ae o)->
   (∀s',Moved (S::wr) G s s'->SetKs w g s'.heap S ks->R (.ok (.ret .none)) s')->Gm (A7 prog w) A (.builtin "set.update.loop" ⟨[.ref S,.ref I],[]⟩) R s:=by
 have hSw:S∉wr:=λh=>hSf (W.sub _ h);have hsub:∀b∈wr,b∈S::wr:=λb hb=>Ar _ hb;intro m
 induction m with
 |zero=>
  intro i s hk hi hst hS hg hR;have hin:i=n:=by omega
  subst hin;refine Df oq ?_;rw[Dj jU _];show Av _ A.in1 (Eg (.ref I)>>=_) _ _ s;refine Aa (W.done s _ _ hst λs' hm=>?_);show Av _ A.in1 (ret Bd) _ _ s';rw[<-hn,G7]at hS;exact Af (hR s' (hm.mono hsub) (hS.keep λo e=>hm.heap S _ hSw e))
 |succ m ih=>
  intro i s hk hi hst hS hg hR;have hlt:i < n:=by omega
  refine Df oq ?_;rw[Dj jU _];show Av _ A.in1 (Eg (.ref I)>>=_) _ _ s;refine Aa (W.item i s _ _ hlt hst λv s' hP hst' hm=>?_);obtain⟨b,hk1,rfl⟩:=hP;have hik:i < ks.length:=by omega
  obtain⟨as,hr⟩:=hrd i b ks[i] hk1 (Ah hik);have hS':=hS.keep (h':=s'.heap) λo e=>hm.heap S _ hSw e;have hg':∀b o,g.get? b=ae o->s'.heap.get? b=ae o:=λb o e=>hm.heap b o (λz=>hab b (hsub b z) o e) (hg b o e);show Av _ A.in1 (holding [Bf b] (setAdd S (.ref b))>>=_) _ _ s';refine Aa (Cg ?_);unfold setAdd;refine Cg ?_;refine Aa (uA 6 (by simp only[Around.in1_units];omega) ks[i].2 (Reads.keeps hg' hr) ?_);refine AH (s:={ s' with toks:=s'.toks+gX ks[i].1}) (k:=ks[i]) hS' hg' (by rw[C4];omega) (by simp only[Around.in1_units];omega) hr λr h' hsb hS2=>?_;have et:ks.take i++[ks[i]]=ks.take (i+1):=by
   rw[List.take_add_one,Ah hik];rfl
  rw[et]at hS2;refine Af ⟨F2 jU _,ih (i+1) _ ⋯ hlt (W.frame _ s' _ _ hst' (Nat.le_add_right _ _) λb hb o e=>?_) hS2 (λb o e=>?_) λs'' hm'' hS''=>?_⟩
  ·rw[hsb.2 b (λh:b=S=>hSf (by rw[<-h];exact hb))];exact e
  ·rw[hsb.2 b (λh:b=S=>hab b (by rw[h];exact Am) o e)];exact hg' b o e
  ·refine hR s'' (Moved.trans W.gtrans ((hm.mono hsub).then_heap (Nat.le_add_right _ _) λb o hb e=>?_) hm'') hS'';rw[hsb.2 b (λh:b=S=>hb (by rw[h];exact Am))];exact e
theorem Oz{g h:Heap}{a:Addr}(e:h.get? a=ae (bz w)):SetKs w g h a []:=
 ⟨#[],0,.fresh 0 0 (!b8 w),[],⟨⟨_,e,⟨rfl,rfl,rfl⟩,rfl⟩,⟨.inl rfl,rfl,Gf,rfl,Bc _,λi h z=>by simp at z⟩,rfl,λi e z=>by simp at z,Gf,.inl ⟨rfl,Bc _⟩⟩,λk=>by simp,Aq _⟩
set_option maxHeartbeats 3200000 in
theorem AX{x:Addr}{ks:List TK}{bs:List Addr}{items:Array Ag}{Q:Ag->Ai->Prop}(hh:A.handled=af)(hu:A.units+30 < Fo)(hok:s.heap.IsList x items)(hk:∀(i:Nat) (v:Ag),items[i]?=ae v->jI bs i v)(hl:items.size=ks.length)(h64:ks.length < 18)
  (hrd:∀(i:Nat)(b:Addr)(k:TK),bs[i]?=ae b->ks[i]?=ae k->∃as,Gj s.heap (.ref b) k.1 as)
  (h:∀(h':Heap)(tk:Nat),SetKs w s.heap h' s.heap.objs.size ks->(∀b o,b < s.heap.objs.size->s.heap.get? b=ae o->h'.get? b=ae o)->Q (.ref s.heap.objs.size) {s with heap:=h',toks:=tk}):
  Av (A7 prog w) A (call (.type "set") [.ref x]) Q E s:=by
 obtain⟨c,tl,hmro⟩:=F.called_set.mro;have hmade:=F.called_set.made;have hsub:=F.called_set.sub;refine wpAny_call (codeAny_of_tree ?_);show Av _ _ (callAny (.type "set") _) _ _ _;refine Af ⟨Code.quiet_builtin _ ∅,Df F.entry_type_call ?_⟩;rw[Around.under_plain (weight_type_call_type "set" [.ref x] []) rfl];have h1:=F.called_set.notType;have h2:=F.called_set.canCreate;have hct:=F.typeCall_set_1 (.ref x)
 repeat (any_goals (first|assumption|wp_step))
 refine Fx (xC (.ref x) (E:=E) (Q₁:=λobj s₁=>obj=.ref s.heap.objs.size/\s₁={ s with heap:=s.heap.push (bz w)}) ⟨rfl,rfl⟩) λr s₁ hr=>?_;cases r with
 |error e=>exact hr
 |ok fl=>
  cases fl with
  |ret obj=>
   obtain⟨rfl,rfl⟩:=hr;have hS:(s.heap.push (bz w)).get? s.heap.objs.size=ae (bz w):=As _ rfl;have hT:Shared.TypeIs {s with heap:=s.heap.push (bz w)} (.ref s.heap.objs.size) "set":=⟨_,hS,rfl⟩;have hli:=F.called_set.init.lookup;have hbi:=F.called_set.init.bind (.ref s.heap.objs.size)
   repeat (any_goals (first|assumption|wp_step))
   refine Fx (codeAny_call_builtin (R:=wants (λr s₂=>r=.none/\∃h' tk,s₂={ s with heap:=h',toks:=tk}/\SetKs w s.heap h' s.heap.objs.size ks /\
     (∀b o,b < s.heap.objs.size->s.heap.get? b=ae o->h'.get? b=ae o)) E) F.called_set.init.plain F.entry_set_init (check_set_init_1 hT ?_)) λr₂ s₂ hr₂=>?_
   ·have hok1:(s.heap.push (bz w)).IsList x items:=hok.push _;have hTx:Shared.TypeIs {s with heap:=s.heap.push (bz w)} (.ref x) "list":=hok1.typeIs;have hsls:isSubtype (.type "list") (.type "set")=pure ai:=by rw[E5];kernel_rfl
    have hslf:isSubtype (.type "list") (.type "frozenset")=pure ai:=by rw[E5];kernel_rfl
    have hne:(C9 "list"==C9 "dict")=ai:=by decide
    unfold D8.«set.__init__» noKeywords Builtin.Frozenset.updateFrom;generalize hPI:pyIter=PI
    wp_walk
    subst hPI;have hh3:A.in1.in1.in1.handled=af:=by simp[hh]
    refine wpAny_pyIter_list hok1 ?_;refine Aa (wpAny_runValue ?_);have hxS:x < s.heap.objs.size:=let⟨_,e,_⟩:=hok;An e;have W:=Walks.list (prog:=prog) (w:=w) hh3 (s.heap.push (bz w)).objs.size x (by rw[Ci];exact Be (Ej hxS)) items;have W':Walks prog w A.in1.in1.in1 (s.heap.push (bz w)).objs.size [(s.heap.push (bz w)).objs.size,x] [(s.heap.push (bz w)).objs.size] items.size (jI bs) (λi h=>h.IsListIter (s.heap.push (bz w)).objs.size x i/\h.IsList x items):=
     ⟨W.sub,W.frame,λi s Q E hi st hQ=>W.item i s Q E hi st λv h' tk hv a b=>hQ v h' tk (hk i v hv) a b,W.done,W.self⟩
    have hSf:s.heap.objs.size∉[(s.heap.push (bz w)).objs.size,x]:=by
     rw[Ci];simp only[Al,A8,A3,or_false,not_or];exact⟨Be (Ga _),Ee hxS⟩
    refine Ji (g:=s.heap) (ks:=ks) W'.toS s.heap.objs.size hSf hl.symm ⋯ (by simp only[Around.in1_units];omega) hrd (λb hb o e=>?_) (items.size-0) 0 _ ⋯ (Bc _) ⟨⟨_,As _ rfl,rfl,rfl⟩,hok1.push _⟩ (Oz (Ae _ hS)) (λb o e=>Ae _ (Ae _ e)) ?_
    ·have:=An e;simp only[Al,A3,or_false]at hb;rw[Ci]at hb;rcases hb with z|z
     ·exact absurd this (by rw[z];exact C2 _)
     ·exact absurd this (by rw[z];exact Nat.not_lt.mpr (Ha _))
    intro s' hm hS';obtain⟨h',g',d',tk',os'⟩:=s';have eg:g'=s.gens:=hm.gens;have ed:d'=s.drawn:=hm.drawn;have eo:os'=s.os:=hm.os;subst eg;subst ed;subst eo;show Av _ _ _ _ _ _;refine Af ?_;show Av _ _ (ret Bd) _ _ _;refine Af ⟨rfl,h',tk',rfl,hS',λb o hb e=>?_⟩;have hb1:b≠s.heap.objs.size:=Be hb;have hb2:b≠(s.heap.push (bz w)).objs.size:=by
     rw[Ci];exact Be (Ej hb)
    exact hm.heap b o (by simp only[Al,A8,A3,or_false,not_or];exact⟨hb1,hb2⟩) (Ae _ (Ae _ e))
   ·cases r₂ with
    |error e=>exact hr₂
    |ok fl₂=>
     cases fl₂ with
     |ret r=>
      obtain⟨rfl,h',tk,rfl,hS',hk'⟩:=hr₂
      repeat (any_goals (first|assumption|wp_step))
      exact h _ _ hS' hk'
     |_=>exact hr₂.elim
  |_=>exact hr.elim
end
end L2
namespace L2
open PySem PySem.Spec PyProof.Rows PySem.SeqAt PySem.W
def vB(K:Aj):List V->Hp->VK->Prop:=λvs H Q=>∃(v:Addr)(xs:List V)(ds:List (List Ab))(lt:Nat->Nat->Bool),vs=[.ref v]/\H v=ae (.lst xs)/\RdAll K H xs (ds.map De)/\ds.length < 64/\lS ds lt/\KS.Ord lt /\
 ∀D,H D=af->∀idx:List Nat,idx.Perm (Bh ds.length)->idx.Pairwise (λi j=>lt j i=ai)->Q (.ref D) (upd H D (.lst (idx.map λi=>xs.getD i .non)))
theorem NR{X:Cx}(hh:X.A.handled=af)(hu:X.A.units+64 < Fo):CallR X (.builtin "sorted") (vB X.K):=by
 intro pins s σ H xs us Q I r h;obtain⟨v,xs,ds,lt,rfl,hv,hrd,h64,⟨hds,hlt⟩,O,q⟩:=h;obtain⟨u,rfl,ru⟩:=fe r;cases(show u=Bf v from ru);obtain⟨z,its,n,rv,hl,e⟩:=I.lstM hv;have hil:its.length=ds.length:=by rw[(oN I hrd rv).1,Ad]
 refine KS.sorted_of (R:=λvs s1=>vs=its/\∃h' tk,s1={ s with heap:=h',toks:=tk}/\∀b o,s.heap.get? b=ae o->h'.get? b=ae o) ?_ ?_
 ·refine collect_list (show s.heap.IsList v its.toArray from⟨_,e,rfl,_,rfl⟩) ⟨rfl,_,s.toks,rfl,λb o eb=>?_⟩ (by rw[<-hl];exact z);have hb:b≠s.heap.objs.size:=Be (An eb);rw[D5 _ _ (Ne.symm hb)];exact Ae _ eb
 ·rintro vs s1 ⟨rfl,h',tk,rfl,hkp⟩
  refine⟨by rw[hil];exact gS ⋯,?_⟩;have hoL:(h'.push (Br "list" vs.toArray 0)).get? h'.objs.size=ae (Br "list" vs.toArray 0):=As _ rfl;have fin:∀(idx:List Nat)(h3:Heap)(c:Nat),idx.Perm (Bh ds.length)->idx.Pairwise (λi j=>lt j i=ai)->
    (∀b o,b≠h'.objs.size->(h'.push (Br "list" vs.toArray 0)).get? b=ae o->h3.get? b=ae o)->h3.get? h'.objs.size=ae (Br "list" (Dg (idx.map λi=>vs.getD i Bd)) c)->EP X pins σ Q (.ref h'.objs.size) {s with heap:=h3,toks:=tk}:=λidx h3 c hp hw k3 hL=>by
   have I1:Inv X pins σ H {s with heap:=h',toks:=tk}:=I.kept hkp;have hn:H h'.objs.size=af:=I1.hok.fresh (Aq _);refine⟨.ref h'.objs.size,_,I1.laid (t':=tk) (h':=h3) (o:=.lst (idx.map λi=>xs.getD i .non)) (λb o e=>k3 b o (Be (An e)) (Ae _ e)) (Aq _) ⟨?_,_,c,oW rv idx (λi hi=>by rw[hil];exact Bs.mp (hp.mem_iff.mp hi)),hL⟩,rfl,q _ hn idx hp hw⟩;rw[Ad,hp.length_eq,Cs];exact gS ⋯
  by_cases h2:2<=vs.length
  ·refine KS.ls_sort (s:={ s with heap:=h'.push (Br "list" vs.toArray 0),toks:=tk}) hoL h2 ⋯ λe1 h4 ha4 k4=>?_;have I4:Inv X pins σ H {s with heap:=h4,toks:=tk}:=I.kept λb o e=>k4 b o (Be (An (hkp b o e))) (Ae _ (hkp b o e));obtain⟨fs,f1,f2,f3⟩:=xr I4 hrd rv λd hd=>(hds d hd).1;obtain⟨_,hat⟩:=oN I4 hrd rv;refine kat_kind (s:={ s with heap:=h4,toks:=tk}) f1 ⋯ f3 rfl ?_;have hn:0 < vs.length:=by omega
   have hwi:=KS.wi_sort hn;refine KS.wp_run (n:=vs.length) (P:=KS.Pm vs.length) (c:=lt) (St:=λs'=>s'={ s with heap:=h4,toks:=tk}) (λi j C s' hi hj hs hC=>?_) _ _ hwi rfl λs' hs'=>?_
   ·subst hs;unfold kas_ask;have g1:vs.getD i Bd=vs[i]:=by simp[hi]
    have g2:vs.getD j Bd=vs[j]:=by simp[hj]
    rw[g1,g2];obtain⟨d1,as1,e1',R1⟩:=hat i vs[i] (Ah hi);obtain⟨d2,as2,e2',R2⟩:=hat j vs[j] (Ah hj);rw[A0,En]at e1' e2';obtain⟨x1,y1,rfl⟩:=e1';obtain⟨x2,y2,rfl⟩:=e2';have lt12:=hlt i j x1 x2 y1 y2;obtain⟨_,c1,c1'⟩:=hds x1 (B6 y1);obtain⟨_,c2,c2'⟩:=hds x2 (B6 y2);generalize vs[i]=u1 at R1 ⊢;generalize vs[j]=u2 at R2 ⊢;cases R1 with
    |tuple h1 h2 h3 h4=>
     cases R2 with
     |tuple g1 g2 g3 g4=>
      refine kat_lt h1 h3 g1 g3 ?_;rename_i o1 vs1 n1 a2 o2 vs2 n2;have hsz:decide (vs1.size < vs2.size)=decide (x1.length < x2.length):=by
       have e1:=F6 _ _ _ h4;have e2:=F6 _ _ _ g4;rw[Az]at e1 e2;rw[e1,e2]
      rw[hsz];exact oY (nQ x1 x2 _ _ _ _ _ _ _ _ h4 g4 c1 c2 (by show X.A.units+1+1+_+_ < _;omega) lt12 0 (by simp)) (hC _ rfl)
   ·subst hs';refine⟨ha4,λh3 c sb hL3=>⟨rfl,?_⟩⟩;have hpm:KS.Pm vs.length (KS.run lt (Gw vs.length)):=KS.Wi.out _ hwi;have hsp:=KS.sort_ok O (n:=vs.length) hn;have hsz:=hpm.size;have hidx:(KS.run lt (Gw vs.length)).toList.Perm (Bh vs.length):=by
     have:=Hl.mp hpm;simpa using this
    refine fin _ h3 c (by rw[<-hil];exact hidx) ?_ (λb o hb e=>(sb.2 b hb).trans (k4 b o hb e)) hL3;rw[Gc];intro i j hi hj hij;rw[Az,hsz]at hi hj;have:=hsp i j hij hj;unfold KS.g at this;simpa[hsz,hi,hj]using this
  ·refine KS.ls_short (s:={ s with heap:=h'.push (Br "list" vs.toArray 0),toks:=tk}) hoL ⋯ λh4 c ha4 k4=>⟨rfl,?_⟩;have el:vs=(Bh ds.length).map λi=>vs.getD i Bd:=by
    apply Ew (by simp[hil]);intro i h1 h2;simp[h1]
   have ha5:h4.get? h'.objs.size=ae (Br "list" (Dg ((Bh ds.length).map λi=>vs.getD i Bd)) c):=by rw[<-el];exact ha4
   refine fin (Bh ds.length) h4 c (List.Perm.refl _) ?_ k4 ha5;have:(Bh ds.length).length<=1:=by simp;omega
   match hr:Bh ds.length,this with
   |[],_=>exact .nil
   |[i],_=>exact Ei _ _
def rW(w:By)(v:Addr)(ks:List TK):HO:=.ext λh=>∃g,SetKs w g h v ks
def tE(w:By)(K:Aj):List V->Hp->VK->Prop:=λvs H Q=>∃(a:Addr)(xs:List V)(ks:List TK),vs=[.ref a]/\H a=ae (.lst xs)/\RdAll K H xs (ks.map (·.1))/\(∀k∈ks,∃ds,k.1=De ds)/\ks.length < 18/\∀v,H v=af->Q (.ref v) (upd H v (rW w v ks))
theorem JP{X:Cx}(hh:X.A.handled=af)(hu:X.A.units+64 < Fo):CallR X (.type "set") (tE X.w X.K):=by
 intro pins s σ H xs us Q I r h;obtain⟨a,xs,ks,rfl,ha,hrd,htup,h18,q⟩:=h;obtain⟨u,rfl,ru⟩:=fe r;cases(show u=Bf a from ru);obtain⟨hl,vs,c,hv,hL⟩:=I.hok a _ ha;obtain⟨hlen,hat⟩:=oN I hrd hv;rw[Ad]at hlen;have href:∀(i:Nat)(v:Ag),vs[i]?=ae v->∃b,v=.ref b:=λi v e=>by
  obtain⟨d,as,e1,R⟩:=hat i v e;rw[A0,En]at e1;obtain⟨k,hk,rfl⟩:=e1;obtain⟨ds,hd⟩:=htup k (B6 hk);rw[hd]at R;cases R;exact⟨_,rfl⟩
 refine AX (items:=vs.toArray) (ks:=ks) (bs:=vs.map λv=>match v with|.ref b=>b|_=>0) hh ⋯ ⟨_,hL,rfl,_,rfl⟩ (λi v e=>?_) (by rw[Ap];exact hlen) h18 (λi b k e1 e2=>?_) λh' tk hS hk=>?_
 ·have e':vs[i]?=ae v:=by simpa using e
  obtain⟨b,rfl⟩:=href i v e';exact⟨b,by rw[A0,e'];rfl,rfl⟩
 ·rw[A0,En]at e1;obtain⟨v,hv1,rfl⟩:=e1;obtain⟨d,as,e3,R⟩:=hat i v hv1;rw[A0,e2]at e3;cases e3;obtain⟨b,rfl⟩:=href i v hv1;exact⟨as,R⟩
 ·have hob:∃o,h'.get? s.heap.objs.size=ae o:=by
   obtain⟨es,ep,t,ks',T,_⟩:=hS;obtain⟨o,e,_⟩:=T.obj;exact⟨o,e⟩
  refine⟨.ref s.heap.objs.size,_,I.laid (t':=tk) (o:=rW X.w s.heap.objs.size ks) (λb o e=>hk b o (An e) e) (Aq _) ⟨⟨_,hS⟩,hob,λh1 h2 q k=>?_⟩,rfl,q _ (I.hok.fresh (Aq _))⟩;obtain⟨g,q⟩:=q;exact⟨g,q.keep λo e=>k _ e⟩
def wk(w:By):List V->Hp->VK->Prop:=λvs H Q=>∃(v:Addr)(ks:List TK),vs=[.ref v]/\H v=ae (rW w v ks)/\ks.length < 18/\∀us:List TK,us.Nodup->(∀k,k∈us↔k∈ks)->Q (.int us.length) H
theorem JD{X:Cx}:CallR X (.builtin "len") (wk X.w):=by
 intro pins s σ H xs us Q I r h;obtain⟨v,ks,rfl,hv,h18,q⟩:=h;obtain⟨u,rfl,ru⟩:=fe r;cases(show u=Bf v from ru);obtain⟨g,es,ep,t,us,T,hm,hl⟩:=(I.hok v _ hv).1;obtain⟨o,ho,hex,hd⟩:=T.obj;refine call_len_set ho hex hd T.fits (by rw[T.ln];omega) ⟨.int us.length,H,I.kept (t':=_) λb o e=>e,?_,q us T.nd hm⟩;exact⟨_,by rw[T.ln]⟩
end L2
namespace DL
open PySem L2 Nb
section
variable{X:Cx}{o:Expr}{td:TE}{wd':DT}{pos p p2 ip:Pos}{W:By}{K:Aj}
def zA(w:DT):dX:=λδ n Q=>w δ n λx n1=>∃(ds:List (List Ab))(lt:Nat->Nat->Bool),x=.d (.list (ds.map .tuple))/\ds.length < 64/\lS ds lt/\KS.Ord lt /\
 ∀idx:List Nat,idx.Perm (Bh ds.length)->idx.Pairwise (λi j=>lt j i=ai)->Q (idx.map λi=>.tuple (ds.getD i [])) n1
theorem HC(hh:X.A.handled=af)(hu:X.A.units+64 < Fo)(hg:Gl X "sorted")(hm:X.mg "sorted"=af)(ho:DE X o td wd')(hK:X.K=K:=by rfl)(hv:Bx "sorted"=ae (.builtin "sorted"):=by decide +kernel)
  (he':Aw [o] X.env=(ai,eval o X.env)::Aw [] X.env:=by rfl) (hpl:(D2 pos (Aw [] X.env)).any (·.1)=ai:=by rfl):
  DF X (.Call (.Name "sorted" p) [o] [] pos) (eR (vB K) (c9 td bF)) (zA wd'):=by
 subst hK;refine⟨iX (NR hh hu) hg hm hv (bY ho.pe dz he') ∎ ∎ he' hpl,λC H B σ δ n Q Q' R q k=>
  ho.sd C H B σ δ n _ _ R q λv x H1 n1 R1 k1 r1 q1=>?_⟩
 obtain⟨ds,lt,rfl,h64,hk,hO,kq⟩:=q1;cases(show RdX H1 B v (.list (ds.map .tuple))from r1)with
 |@lst a xs _ e1 e2 e3 e4=>
  refine⟨a,xs,ds,lt,rfl,e1,e4.rd,h64,hk,hO,λD hD idx hp hw=>?_⟩;have hin:∀i∈idx,i < (ds.map De).length:=λi hi=>by rw[Ad];exact Bs.mp (hp.mem_iff.mp hi)
  have eo:(idx.map λi=>(ds.map De).getD i .none)=idx.map λi=>.tuple (ds.getD i []):=by
   apply Hf;intro i hi;have:=hin i hi;rw[Ad]at this;simp[this]
  refine k D _ _ _ n1 (R1.new hD) (k1.trans (Kp.new hD)) (R1.was k1 hD) bI ?_ ?_ (kq idx hp hw)
  ·rw[Ad,hp.length_eq,Cs];exact gS ⋯
  ·rw[<-eo];exact(sF e4 idx hin).fresh hD
def m3(w:DT):DT:=λδ n Q=>w δ n λx n1=>∃ds:List Ab,x=.d (.list ds)/\(∀d∈ds,cV 6 d=ah/\∃xs,d=.tuple xs)/\ds.length < 18/\∀us:List Ab,us.Nodup->(∀d,d∈us↔d∈ds)->Q (.d (.int us.length)) n1
theorem xa:∀{ds:List Ab},(∀d∈ds,cV 6 d=ah)->∃ks:List TK,ks.map (·.1)=ds
 |[],_=>⟨[],rfl⟩
 |d::ds,h=>by
  obtain⟨ks,e⟩:=xa λx hx=>h x (Ar _ hx);exact⟨⟨d,h d Am⟩::ks,by show d::ks.map (·.1)=d::ds;rw[e]⟩
theorem L8(hh:X.A.handled=af)(hu:X.A.units+64 < Fo)(hg:Gl X "len")(hm:X.mg "len"=af)(hg2:Gl X "set")(hm2:X.mg "set"=af)(ho:DE X o td wd')(hW:X.w=W:=by rfl)(hK:X.K=K:=by rfl)(hv:Bx "len"=ae (.builtin "len"):=by decide +kernel)(hv2:Bx "set"=ae (.type "set"):=by decide +kernel)
  (he2:Aw [o] X.env=(ai,eval o X.env)::Aw [] X.env:=by rfl) (hpl2:(D2 ip (Aw [] X.env)).any (·.1)=ai:=by rfl)
  (he':Aw [Expr.Call (.Name "set" p2) [o] [] ip] X.env=(ai,eval (Expr.Call (.Name "set" p2) [o] [] ip) X.env)::Aw [] X.env:=by rfl) (hpl:(D2 pos (Aw [] X.env)).any (·.1)=ai:=by rfl):
  DE X (.Call (.Name "len" p) [.Call (.Name "set" p2) [o] [] ip] [] pos) (eR (wk W) (c9 (eR (tE W K) (c9 td bF)) bF)) (m3 wd'):=by
 subst hW;subst hK;refine⟨iX JD hg hm hv (bY (kQ (JP hh hu) hg2 hm2 hv2 (bY ho.pe dz he2) ∎ ∎ he2 hpl2) dz he') ∎ ∎ he' hpl,λC H B σ δ n Q Q' R q k=>
  ho.sd C H B σ δ n _ _ R q λv x H1 n1 R1 k1 r1 q1=>?_⟩
 obtain⟨ds,rfl,hd,h18,kq⟩:=q1;obtain⟨ks,rfl⟩:=xa λd hd'=>(hd d hd').1;rw[Ad]at h18;cases(show RdX H1 B v (.list (ks.map (·.1)))from r1)with
 |@lst a xs _ e1 e2 e3 e4=>
  refine⟨a,xs,ks,rfl,e1,e4.rd,λk hk=>(hd k.1 (Bk.mpr ⟨k,hk,rfl⟩)).2,h18,λu hu=>⟨u,ks,rfl,bI,h18,λus nd hm=>?_⟩⟩;refine k _ _ _ n1 (R1.new hu) (k1.trans (Kp.new hu)) (wd (.int _)) ?_;have:=kq (us.map (·.1)) ?_ λd=>?_
  ·rw[Ad]at this;exact this
  ·unfold List.Nodup;rw[Gy];exact nd.imp λz e=>z (Subtype.ext e)
  ·rw[Bk,Bk];exact⟨λ⟨k,hk,e⟩=>⟨k,(hm k).mp hk,e⟩,λ⟨k,hk,e⟩=>⟨k,(hm k).mpr hk,e⟩⟩
end
theorem Og{X:Cx}{o:Expr}{td:TE}{wd':DT}{pos p:Pos}{S:bx}{k k':Nat}{ps:List Str}{x:Str}{kp kpos dp dpos:Pos}(h:Has X.prog X.w X.K X.mg X.base k x ps S)(hr:Room k' X.A)(ho:DE X o td wd')(hk:k+2<=k')(hg:Gl X "sorted")(hm:X.mg "sorted"=af)(hgf:Gl X x)(hg2:Gl X "dict")(hm2:X.mg "dict"=af)(hdb:(x==("__debug__":Str))=ai)
  (he:Aw [.Call (.Name "dict" dp) [o] [] dpos] X.env=(ai,eval (.Call (.Name "dict" dp) [o] [] dpos) X.env)::Aw [] X.env) (he':Aw [o] X.env=(ai,eval o X.env)::Aw [] X.env) (hpl:(D2 dpos (Aw [] X.env)).any (·.1)=ai):
  DF X (.Call (.Name "sorted" p) [.Call (.Name "dict" dp) [o] [] dpos] [⟨ae "key",.Name x kp,kpos⟩] pos) (rK X.K (dt S) (eR (λxs H Q=>∃(src:Addr)(ps:List cS),xs=[.ref src]/\H src=ae (.tup (ps.map λp=>V.ref p.1))/\jW H ps/\ps.length<=1000 /\
  ∀l,H l=af->Q (.ref l) (L2.upd H l (iC l ps))) (c9 td bF))) (pE S wd'):=Ib h (hr.mono hk) hg hm hgf hg2 hm2 ho (hdb:=hdb) (he:=he) (he':=he') (hpl:=hpl)
end DL
namespace Nb
open PySem L2 DL
theorem ib(d:Ab):bE "int" d=match d with|.int _=>ah|.bool _=>ah|_=>ai:=by cases d<;>rfl
theorem hX(d:Ab):bE "bool" d=match d with|.bool _=>ah|_=>ai:=by cases d<;>rfl
theorem iG(d:Ab):bE "str" d=match d with|.str _=>ah|_=>ai:=by cases d<;>rfl
theorem gx(d:Ab):bE "tuple" d=match d with|.tuple _=>ah|_=>ai:=by cases d<;>rfl
theorem iF(d:Ab):bE "list" d=match d with|.list _=>ah|_=>ai:=by cases d<;>rfl
theorem fc{W:aM}{g:Ab->Bool}{N:List Str}(h:∀d n K,K.rt (.d (.bool (g d))) n->W (dh N [.d d]) n K):∀ws n Q,a8 g ws n Q->W (dh N ws) n {nx:=λ_ n=>Q (.d .none) n,rt:=Q}:=λws n Q q=>by
 unfold a8 at q
 split at q
 ·exact h _ n _ q
 ·exact q.elim
theorem jL{b:Bool}{A B:Prop}(h1:b=ah->A)(h2:b=ai->B):if b=ah then A else B:=by
 cases b with
 |true=>rw[if_pos rfl];exact h1 rfl
 |false=>rw[if_neg Au];exact h2 rfl
theorem tX{a b:Bool}{A:Prop}{F:Bool->Prop}(h:F (a || b))(hA:F b->A):if a=ah then F ah else A:=by
 cases a with
 |true=>exact h
 |false=>exact hA h
theorem BL{a b:Bool}{A:Prop}{F:Bool->Prop}(h:F (a&&b))(hA:a=ah->F b->A):if a=ah then A else F ai:=by
 cases a with
 |true=>exact hA rfl h
 |false=>exact h
theorem vj{lo hi:Int}{d:Ab}{n:Int}{Q:DQ}(k:Q (.d (.bool (cF lo hi d))) n):
  if gh d=ah then(bS (λi j=>decide (i<=j)) (λi j=>!decide (j < i)) (.d (.int lo)) (.d d) n λz n3=>gk z (bS (λi j=>decide (i<=j)) (λi j=>!decide (j < i)) (.d d) (.d (.int hi)) n3 Q) (Q (.d (.bool ai)) n3))else Q (.d (.bool ai)) n:=by
 cases d with
 |int i=>
  simp only[gh,if_true,bS,f7];simp only[cF]at k;refine jL (λe=>?_) (λe=>?_)
  ·rw[e]at k;exact k
  ·rw[e]at k;exact k
 |_=>exact k
theorem AZ{Q:DQ}{n:Int}(x:Str)(h:Q (.d (.bool (x.cps.toList.all fX))) n):bN (aD 0) aG (cZ di di (wC (.str "a")) ↥0 (wC (.str "z")))
  (λds n1=>match dU ds with|some bs=>Q (.d (.bool (bs.all id))) n1|none=>False) (f9 x) [] [af] n:=by
 refine pH lF (λd=>.bool (okD d)) ?_ _ _ _ _ (OJ x) ?_
 ·rintro d n Q' ⟨c,rfl⟩ k
  simp only[aj,JT,jJ,jc,cz,bB,b6,wC,w2,cT,cZ,f7,b9,cI,aI,aO,eG,cY,ak,ao,aA,aN,aP,az,wB,aV,aq,aw,bb,aJ,bu,bQ,bw,br,gI,cJ,dR,g9,bS,ck,dM,bL,iS,aC,aH,aL,MY,bc,fO,jM,fC,bD,fM,dC,bo,eD,aG,aD,dw,Fy,Cm,C5,B8,Dx,A5,Ck,Fj,ib,hX,iG,gx,iF];refine jL (λe=>?_) (λe=>?_)
  ·simp only[okD,e,Cf]at k;exact k
  ·simp only[okD,e,Bool.false_and]at k;exact k
 ·show match dU ((f9 x).map λd=>.bool (okD d))with|some bs=>Q (.d (.bool (bs.all id))) n|none=>False
  simp only[rN,sO,Pf];exact h
theorem DZ{Q:DQ}{n:Int}(ds:List Ab)(h:Q (.d (.bool (ds.all bP))) n):bN (aD 0) aG (az (a8 bP) (ao ↥0 ak))
  (λds n1=>match dU ds with|some bs=>Q (.d (.bool (bs.all id))) n1|none=>False) ds [] [af] n:=by
 refine pH (λ_=>True) (λd=>.bool (bP d)) ?_ _ _ _ _ (λ_ _=>trivial) ?_
 ·exact λd n Q' _ k=>k
 ·show match dU (ds.map λd=>.bool (bP d))with|some bs=>Q (.d (.bool (bs.all id))) n|none=>False
  simp only[rN,sO];exact h
theorem vy{n many:Int}{Q:DQ}(h:n < 2 ^ 40)(h0:0 < many)(h1:many < 1073741824)(k:∀r:Int,0<=r->r < many->Q (.d (.int r)) (n+1)):bC [.tp,.d (.int many)] n Q:=⟨⟨h,h0,h1⟩,k⟩
theorem jv{ds:List Ab}{r:Int}{n:Int}{Q:DQ}(h0:0<=r)(h1:r < (ds.length:Int))(k:∀d∈ds,Q (.d d) n):aC (.d (.list ds)) (.d (.int r)) n Q:=by
 obtain⟨v,hv,hm⟩:=ni h0 h1;show match cM ds r with|some d=>Q (.d d) n|none=>False
 simp only[hv];exact k v hm
theorem IB{w:DT}{Q:List Ab->Int->Prop}{rest:Sl}(c:Nat)(h:∀d n Q',n+(c:Int) < 2 ^ 39->(∀y n',n'<=n+(c:Int)->Q' (.d y) n')->w (ae (.w (.d d))::rest) n Q'):
  ∀(items acc:List Ab)(x:Option SV)(n:Int),n+(c:Int)*(items.length:Int) < 2 ^ 39->(∀ds n',n'<=n+(c:Int)*(items.length:Int)->Q ds n')->bN (aD 0) aG w Q items acc (x::rest) n
 |[],acc,x,n,hn,q=>q acc n (by simp)
 |d::r,acc,x,n,hn,q=>by
  simp only[bN,aD,aG,if_true,B8];rw[Ax]at hn q;have e:(c:Int)*((r.length+1:Nat):Int)=(c:Int)*(r.length:Int)+c:=by rw[Int.natCast_add,Int.mul_add];simp
  rw[e]at hn q;have hc:0<=(c:Int)*(r.length:Int):=Int.mul_nonneg (Ht _) (Ht _);refine h d n _ ⋯ λy n' hn'=>?_;exact IB c h r (acc++[y]) _ n' ⋯ λds n'' h''=>q ds n'' ⋯
theorem eC(n:Nat):(cy 0 n).length=n:=by unfold cy;simp
theorem qv{w:DT}{Q:List Ab->Int->Prop}{rest:Sl}(P:Ab->Prop)(c:Nat)(h:∀d n Q',n+(c:Int) < 2 ^ 39->(∀y n',P y->n'<=n+(c:Int)->Q' (.d y) n')->w (ae (.w (.d d))::rest) n Q'):
  ∀(items acc:List Ab)(x:Option SV)(n:Int),n+(c:Int)*(items.length:Int) < 2 ^ 39->(∀ds n',ds.length=items.length->(∀d∈ds,P d)->n'<=n+(c:Int)*(items.length:Int)->Q (acc++ds) n')->bN (aD 0) aG w Q items acc (x::rest) n
 |[],acc,x,n,hn,q=>by
  have:=q [] n rfl (by simp) (by simp);rwa [Bv]at this
 |d::r,acc,x,n,hn,q=>by
  simp only[bN,aD,aG,if_true,B8];rw[Ax]at hn q;have e:(c:Int)*((r.length+1:Nat):Int)=(c:Int)*(r.length:Int)+c:=by rw[Int.natCast_add,Int.mul_add];simp
  rw[e]at hn q;have hc:0<=(c:Int)*(r.length:Int):=Int.mul_nonneg (Ht _) (Ht _);refine h d n _ ⋯ λy n' hy hn'=>?_;refine qv P c h r (acc++[y]) _ n' ⋯ λds n'' hl hds h''=>?_;rw[Bu];refine q (y::ds) n'' (by rw[Ax,hl]) (λd hd=>?_) ⋯;rcases Al.mp hd with rfl|z
  ·exact hy
  ·exact hds d z
theorem eq_str(a:Ab)(h:Str):mw a (.str h)=ae (eZ h a):=by cases a<;>rfl
theorem eq_int(i j:Int):mw (.int i) (.int j)=ae (decide (i=j)):=rfl
theorem OS{α:Type}(a:α)(r:List α):cM (a::r) 0=ae a:=eE (j:=0) rfl
theorem Lj{α:Type}(a b:α)(r:List α):cM (a::b::r) 1=ae b:=eE (j:=1) rfl
section
variable{δ:Sl}{n:Int}{Q:DQ}{K:DEnds}{W V:aM}{i j:Nat}{a b d:Ab}{r ds:List Ab}{h:Str}
theorem aF(h:W δ n {K with nx:=λδ n=>V δ n K}):aq W V δ n K:=h
theorem au{x:Wv}(e:δ[i]?=ae (ae (.w x)))(k:Q x n):aj i δ n Q:=by unfold aj;rw[e];exact k
theorem mn{m:Nat}(e:δ[i]?=ae (ae (.w (.d (.tuple ds)))))(e2:ds[m]?=ae a)(k:Q (.d a) n):w2 (aj i) (wC (.int (m:Int))) aC δ n Q:=by
 unfold w2;refine au e ?_;unfold wC aC;simp only[eE e2];exact k
theorem dq(e:δ[i]?=ae (ae (.w (.d (.tuple (a::r))))))(k:Q (.d a) n):w2 (aj i) (wC (.int 0)) aC δ n Q:=mn (m:=0) e rfl k
theorem d3(e:δ[i]?=ae (ae (.w (.d (.tuple (a::b::r))))))(k:Q (.d b) n):w2 (aj i) (wC (.int 1)) aC δ n Q:=mn (m:=1) e rfl k
theorem OW(e:δ[i]?=ae (ae (.w (.d (.tuple (a::r))))))(k:Q (.d (.bool (eZ h a))) n):w2 (w2 (aj i) (wC (.int 0)) aC) (wC (.str h)) ck δ n Q:=by
 show w2 (aj i) (wC (.int 0)) aC δ n λx n1=>wC (.str h) δ n1 λy n2=>ck x y n2 Q;refine dq e ?_;unfold wC ck;simp only[eq_str];exact k
theorem e9{c:cj}(k:c δ n λb n1=>if b=ah then W δ n1 K else V δ n1 K):bb c W V δ n K:=k
end
end Nb
namespace DL
open PySem L2 Nb
end DL
namespace Nb
structure Lin{α:Type}(lt:α->α->Bool):Prop where
 asym:∀a b,lt a b=ah->lt b a=ai
 ntr:∀a b c,lt b a=ai->lt c b=ai->lt c a=ai
 tot:∀a b,lt a b=ai->lt b a=ai->a=b
section
variable{α:Type}{lt:α->α->Bool}
theorem Lin.irr(L:Lin lt)(a:α):lt a a=ai:=by
 cases e:lt a a with
 |false=>rfl
 |true=>have:=L.asym a a e;rw[e]at this;exact this
theorem Lin.tr1(L:Lin lt){a b c:α}(h1:lt a b=ah)(h2:lt c b=ai):lt a c=ah:=by
 cases e:lt a c with
 |true=>rfl
 |false=>have:=L.ntr b c a h2 e;rw[h1]at this;cases this
variable[DecidableEq α]
def dj(lt:α->α->Bool):List α->List α->Bool
 |[],[]=>ai
 |[],_::_=>ah
 |_::_,[]=>ai
 |a::as,b::bs=>if a=b then dj lt as bs else lt a b
theorem ub(L:Lin lt):∀x y:List α,dj lt x y=ah->dj lt y x=ai
 |[],[],h=>by cases h
 |[],_::_,_=>rfl
 |_::_,[],h=>by cases h
 |a::as,b::bs,h=>by
  by_cases e:a=b
  ·subst e;rw[dj,if_pos rfl]at h ⊢;exact ub L as bs h
  ·rw[dj,if_neg e]at h;rw[dj,if_neg (Ne.symm e)];exact L.asym a b h
theorem wZ(L:Lin lt):∀x y:List α,dj lt x y=ai->dj lt y x=ai->x=y
 |[],[],_,_=>rfl
 |[],_::_,h,_=>by cases h
 |_::_,[],_,h=>by cases h
 |a::as,b::bs,h,g=>by
  by_cases e:a=b
  ·subst e;rw[dj,if_pos rfl]at h g;rw[wZ L as bs h g]
  ·rw[dj,if_neg e]at h;rw[dj,if_neg (Ne.symm e)]at g;exact absurd (L.tot a b h g) e
theorem yF(L:Lin lt):∀x y z:List α,dj lt y x=ai->dj lt z y=ai->dj lt z x=ai
 |[],y,z,h,g=>by
  cases z with
  |cons c cs=>rfl
  |nil=>
   rfl
 |a::as,[],z,h,g=>by cases h
 |a::as,b::bs,[],h,g=>by cases g
 |a::as,b::bs,c::cs,h,g=>by
  by_cases e:b=a
  ·subst e;rw[dj,if_pos rfl]at h;by_cases e2:c=b
   ·subst e2;rw[dj,if_pos rfl]at g ⊢;exact yF L as bs cs h g
   ·rw[dj,if_neg e2]at g ⊢;exact g
  ·rw[dj,if_neg e]at h;by_cases e2:c=b
   ·subst e2;rw[dj,if_neg e];exact h
   ·rw[dj,if_neg e2]at g;have e3:c≠a:=by
     rintro rfl
     exact e (L.tot b c h g)
    rw[dj,if_neg e3];exact L.ntr a b c h g
theorem NK(L:Lin lt):Lin (dj lt):=⟨ub L,yF L,wZ L⟩
end
section
variable{α:Type}{lt:α->α->Bool}
def ny(lt:α->α->Bool)(l:List α):Prop:=l.Pairwise λa b=>lt b a=ai
theorem zJ(L:Lin lt):∀{x y:List α},ny lt x->ny lt y->x.Perm y->x=y
 |[],y,_,_,p=>by rw[List.nil_perm.mp p]
 |a::as,[],_,_,p=>absurd p.symm (List.not_perm_nil_cons _ _)
 |a::as,b::bs,h,g,p=>by
  obtain⟨h1,h2⟩:=Dy.mp h;obtain⟨g1,g2⟩:=Dy.mp g;have e:a=b:=by
   have ma:a∈b::bs:=p.mem_iff.mp Am;have mb:b∈a::as:=p.mem_iff.mpr Am;rcases Al.mp ma with e|ma
   ·exact e
   ·rcases Al.mp mb with e|mb
    ·exact e.symm
    ·exact L.tot a b (g1 a ma) (h1 b mb)
  subst e;rw[zJ L h2 g2 ((List.perm_cons a).mp p)]
end
end Nb
namespace Nb
open PySem L2 DL
abbrev Vl:=Sum Int Str
def vD:Vl->Ab
 |.inl i=>.int i
 |.inr x=>.str x
def kD:Vl->Ab
 |.inl i=>.tuple [.int 0,.int i]
 |.inr x=>.tuple [.int 1,.str x]
def rD(r:List Vl):Ab:=.tuple (r.map vD)
def gn:Vl->Vl->Bool
 |.inl i,.inl j=>decide (i < j)
 |.inl _,.inr _=>ah
 |.inr _,.inl _=>ai
 |.inr x,.inr y=>decide (x.cps.toList < y.cps.toList)
theorem Iw{x y:Str}(h:x.cps.toList=y.cps.toList):x=y:=by
 cases x;cases y
 congr
 exact F4.mp h
theorem vlin:Lin gn where
 asym:=λa b h=>by
  cases a<;>cases b<;>simp only[gn,decide_eq_true_eq,decide_eq_false_iff_not,A9]at h ⊢
  ·omega
  ·exact KS.lt_asym' _ _ h
 ntr:=λa b c h g=>by
  cases a<;>cases b<;>cases c<;>simp only[gn,decide_eq_false_iff_not,Bool.true_eq_false]at h g ⊢
  ·omega
  ·exact λz=>absurd z (Gt.mpr (List.le_trans (Gt.mp h) (Gt.mp g)))
 tot:=λa b h g=>by
  cases a<;>cases b<;>simp only[gn,decide_eq_false_iff_not,Bool.true_eq_false]at h g
  ·congr 1;omega
  ·congr 1
   exact Iw (List.le_antisymm (Gt.mp g) (Gt.mp h))
abbrev fK:List Vl->List Vl->Bool:=dj gn
theorem rlin:Lin fK:=NK vlin
theorem qO(x y:Str):(x==y)=decide (x=y):=by
 by_cases h:x=y
 ·subst h;simp
 ·rw[decide_eq_false h];exact beq_eq_false_iff_ne.mpr h
theorem vO(v w:Vl):Bw (kD v) (kD w)=decide (v=w):=by
 cases v with
 |inl i=>
  cases w with
  |inl j=>
   simp only[kD,Bw,B3,Sum.inl.injEq];by_cases h:i=j
   ·subst h;simp
   ·rw[decide_eq_false h];simp[h]
  |inr y=>simp[kD,Bw,B3]
 |inr x=>
  cases w with
  |inl j=>simp[kD,Bw,B3]
  |inr y=>
   simp only[kD,Bw,B3,qO,Sum.inr.injEq];simp
theorem CP(v w:Vl)(h:v≠w):d0 (kD v) (kD w)=ae (gn v w):=by
 cases v with
 |inl i=>
  cases w with
  |inl j=>
   have h:i≠j:=λz=>h (by rw[z]);simp[kD,d0,fj,Bw,gn,h]
  |inr y=>simp[kD,d0,fj,Bw,gn]
 |inr x=>
  cases w with
  |inl j=>simp[kD,d0,fj,Bw,gn]
  |inr y=>
   have h:x≠y:=λz=>h (by rw[z]);simp[kD,d0,fj,Bw,gn,qO,h]
theorem qT:∀a b:List Vl,fj (a.map kD) (b.map kD)=ae (fK a b)
 |[],[]=>rfl
 |[],_::_=>rfl
 |_::_,[]=>rfl
 |v::a,w::b=>by
  rw[A5,A5,fj,vO];show _=ae (dj gn (v::a) (w::b));rw[dj];by_cases h:v=w
  ·rw[if_pos (decide_eq_true h),if_pos h];exact qT a b
  ·rw[if_neg (by simpa using h),if_neg h];exact CP v w h
section
variable{δ:Sl}{n:Int}{Q:DQ}{K:DEnds}{W V:aM}{i j:Nat}{a b d:Ab}{r ds:List Ab}
theorem ar{wa wb:DT}{g:Wv->Wv->Int->DQ->Prop}(k:wa δ n λx n1=>wb δ n1 λy n2=>g x y n2 Q):w2 wa wb g δ n Q:=k
theorem hU{w:DT}{x:Ab}(h:∀Q:DQ,Q (.d x) n->w δ n Q)(k:K.nx (δ.set i (ae (.w (.d x)))) n):aJ i w δ n K:=h _ k
theorem jF(k:K.nx (δ.set i (ae (.own []))) n):bu i (aN ak) δ n K:=⟨Bc _,k⟩
theorem mD(k:Q (.d a) n):aC (.d (.tuple (a::r))) (.d (.int 0)) n Q:=by
 show(match cM (a::r) 0 with|some d=>Q (.d d) n|none=>False);rw[OS];exact k
theorem fJ(k:Q (.d b) n):aC (.d (.tuple (a::b::r))) (.d (.int 1)) n Q:=by
 show(match cM (a::b::r) 1 with|some d=>Q (.d d) n|none=>False);rw[Lj];exact k
theorem gq{c:Ab}(k:Q (.d c) n):aC (.d (.tuple (a::b::c::r))) (.d (.int 2)) n Q:=by
 show(match cM (a::b::c::r) 2 with|some d=>Q (.d d) n|none=>False);rw[show cM (a::b::c::r) 2=ae c from eE (j:=2) rfl];exact k
theorem aE{c:Ab}(k:Q (.d c) n):wC c δ n Q:=k
theorem aU{w:DT}{g:List Wv->Int->DQ->Prop}(k:w δ n λx n1=>g [x] n1 Q):wB g (ao w ak) δ n Q:=k
theorem bM{w:DT}{S:bx}(k:w δ n λx n1=>S [x] n1 Q):az S (ao w ak) δ n Q:=k
theorem bK{w w':DT}{S:bx}(k:w δ n λx n1=>w' δ n1 λy n2=>S [x,y] n2 Q):az S (ao w (ao w' ak)) δ n Q:=k
theorem dH{w w' w'':DT}{S:bx}(k:w δ n λx n1=>w' δ n1 λy n2=>w'' δ n2 λz n3=>S [x,y,z] n3 Q):az S (ao w (ao w' (ao w'' ak))) δ n Q:=k
theorem a9{w:dX}(k:w δ n λds n1=>Q (.d (.list ds)) n1):aP w δ n Q:=k
theorem fI{fr:List (Option Nat)}{w e:DT}{g:dO}{c:cj}{Q:List Ab->Int->Prop}(hw:∀Q:DQ,Q (.d (.tuple ds)) n->w δ n Q)(k:bN g c e Q ds [] (eD fr δ) n):bo fr (bD w) g c e δ n Q:=by
 unfold bo bD;exact hw _ k
theorem eJ(e:δ[i]?=ae (ae (.w (.d (.tuple ds)))))(k:Q (.d (.int ds.length)) n):wB aH (ao (aj i) ak) δ n Q:=aU (au e k)
theorem tG(e:δ[j]?=ae (ae (.w (.d (.tuple ds)))))(k:K.nx (δ.set i (ae (.own ds))) n):bu i (iT (aj j)) δ n K:=by
 unfold bu iT;exact au e k
theorem aZ{w:DT}(k:w δ n K.rt):aw w δ n K:=k
theorem gC(e:δ[i]?=ae (ae (.own ds)))(k:W (δ.set i (ae (.w (.d (.list ds))))) n K):bQ i W δ n K:=by
 unfold bQ;rw[e];exact k
theorem iJ(e:δ[i]?=ae (ae (.w (.d (.tuple ds)))))(k:Q (.d (.bool ah)) n):aL "tuple" (aj i) δ n Q:=by
 unfold aL;refine au e ?_;show Q (.d (.bool (bE "tuple" (.tuple ds)))) n;rw[gx];exact k
theorem aB{w:DT}{k:Bool}{Q:Bool->Int->Prop}(hw:∀Q':DQ,Q' (.d (.bool k)) n->w δ n Q')(q:Q k n):cT w δ n Q:=hw _ q
theorem bh{C:cj}(hc:∀Q:Bool->Int->Prop,Q ai n->C δ n Q)(hF:V δ n K):bb C W V δ n K:=hc _ (by show if ai=ah then _ else _;rw[if_neg Au];exact hF)
theorem aW{C:cj}(hc:∀Q:Bool->Int->Prop,Q ah n->C δ n Q)(hT:W δ n K):bb C W V δ n K:=hc _ (by show if ah=ah then _ else _;rw[if_pos rfl];exact hT)
theorem ly{A B:cj}{Q:Bool->Int->Prop}(ha:∀Q:Bool->Int->Prop,Q ai n->A δ n Q)(hb:B δ n Q):cI A B δ n Q:=ha _ (by show if ai=ah then _ else _;rw[if_neg Au];exact hb)
theorem rX{A B:cj}{Q:Bool->Int->Prop}(ha:∀Q:Bool->Int->Prop,Q ah n->A δ n Q)(k:Q ah n):cI A B δ n Q:=ha _ (by show if ah=ah then _ else _;rw[if_pos rfl];exact k)
theorem uW{A B:cj}{Q:Bool->Int->Prop}(ha:∀Q:Bool->Int->Prop,Q ah n->A δ n Q)(hb:B δ n Q):b9 A B δ n Q:=ha _ (by show if ah=ah then _ else _;rw[if_pos rfl];exact hb)
theorem cL{A:cj}{k:Bool}{Q:Bool->Int->Prop}(ha:∀Q:Bool->Int->Prop,Q k n->A δ n Q)(q:Q (!k) n):aI A δ n Q:=ha _ q
end
theorem fR{g:dO}{W:aM}{K:DEnds}(I:List Ab->Sl->Int->Prop)(h0:∀δ n,I [] δ n->K.nx δ n)
  (h1:∀d r δ n (N:Sl->Int->Prop),I (d::r) δ n->(∀δ n,I r δ n->N δ n)->g d δ λδ'=>W δ' n {K with nx:=N,ct:=N,bk:=K.nx}):∀ds δ n,I ds δ n->ee g W K ds δ n
 |[],δ,n,h=>h0 δ n h
 |d::r,δ,n,h=>h1 d r δ n (ee g W K r) h (fR I h0 h1 r)
section
variable{δ:Sl}{n m:Int}{Q:DQ}{K:DEnds}{W V:aM}{i j:Nat}{ds:List Ab}
theorem gz{w:DT}(e0:δ[0]?=ae (ae (.w .tp)))(hw:∀Q:DQ,Q (.d (.int m)) n->w δ n Q)(h:n < 2 ^ 40)(h0:0 < m)(h1:m < 1073741824)(k:∀r:Int,0<=r->r < m->Q (.d (.int r)) (n+1)):az bC (ao ↥0 (ao w ak)) δ n Q:=
 bK (au e0 (hw _ (vy h h0 h1 k)))
theorem gN(e0:δ[0]?=ae (ae (.w .tp)))(h:n < 2 ^ 40)(h0:0 < m)(h1:m < 1073741824)(k:∀r:Int,0<=r->r < m->Q (.d (.int r)) (n+1)):az bC (ao ↥0 (ao (wC (.int m)) ak)) δ n Q:=gz e0 (λQ q=>aE q) h h0 h1 k
theorem nN(e0:δ[0]?=ae (ae (.w .tp)))(h:n < 2 ^ 40)(h0:0 < m)(h1:m < 1073741824)(k:∀r:Int,0<=r->r < m->K.nx (δ.set i (ae (.w (.d (.int r))))) (n+1)):aJ i (az bC (ao ↥0 (ao (wC (.int m)) ak))) δ n K:=gN e0 h h0 h1 k
theorem rB{r:Int}(h0:0<=r)(h1:r < (ds.length:Int))(k:∀d∈ds,Q (.d d) n):aY (.ln ds) (.d (.int r)) n Q:=by
 obtain⟨v,hv,hm⟩:=ni h0 h1;show(match cM ds r with|some d=>Q (.d d) n|none=>False);rw[hv];exact k v hm
theorem gO{r:Int}(h0:0<=r)(h1:r < (ds.length:Int))(k:∀d∈ds,Q (.d d) n):aY (.d (.list ds)) (.d (.int r)) n Q:=jv h0 h1 k
theorem gv(e:δ[i]?=ae (ae (.own ds)))(k:Q (.ln ds) n):de i δ n Q:=by
 unfold de;rw[e];exact k
theorem oO{w:DT}{x:Ab}{es:List Ab}(e:δ[i]?=ae (ae (.own es)))(hw:∀Q:DQ,Q (.d x) m->w δ n Q)(hl:es.length < 1000000)(k:K.nx (δ.set i (ae (.own (es++[x])))) m):bw i w δ n K:=by
 unfold bw;rw[e];exact hw _ (Ak hl k)
theorem iI{w:DT}{es:List Ab}(e:δ[i]?=ae (ae (.own es)))(k:w δ n λx n1=>match x with
  |.d d=>es.length < 1000000/\K.nx (δ.set i (ae (.own (es++[d])))) n1
  |_=>False):bw i w δ n K:=by
 unfold bw;rw[e];exact k
theorem df{w w':DT}(k:w δ n λx n1=>w' δ n1 λy n2=>match dw [x,y]with
  |some ds=>ds.length<=1000/\Q (.d (.tuple ds)) n2
  |none=>False):aA (ao w (ao w' ak)) δ n Q:=k
theorem qZ{w w' w'':DT}(k:w δ n λx n1=>w' δ n1 λy n2=>w'' δ n2 λz n3=>match dw [x,y,z]with
  |some ds=>ds.length<=1000/\Q (.d (.tuple ds)) n3
  |none=>False):aA (ao w (ao w' (ao w'' ak))) δ n Q:=k
theorem jl(k:Q (.d (.tuple ds)) n):eQ [.d (.list ds)] n Q:=k
theorem jk{a b:Int}(e:δ[i]?=ae (ae (.w (.d (.int a)))))(hT:a < b->W δ n K)(hF:¬a < b->V δ n K):bb (cT (w2 (aj i) (wC (.int b)) f6)) W V δ n K:=by
 refine e9 (ar (au e (aE ?_)));show if decide (a < b)=ah then _ else _
 by_cases h:a < b
 ·rw[if_pos (decide_eq_true h)];exact hT h
 ·rw[if_neg (by simpa using h)];exact hF h
end
section
variable{δ:Sl}{n m:Int}{Q:DQ}{K:DEnds}{W V:aM}{i j:Nat}{ds:List Ab}
theorem Nj{w w' w'' v:DT}(k:w δ n λx n1=>w' δ n1 λy n2=>w'' δ n2 λz n3=>v δ n3 λu n4=>match dw [x,y,z,u]with
  |some ds=>ds.length<=1000/\Q (.d (.tuple ds)) n4
  |none=>False):aA (ao w (ao w' (ao w'' (ao v ak)))) δ n Q:=k
theorem i6(k:Q (.d (.list [])) n):aP (aN ak) δ n Q:=Ak (Bc _) k
theorem iB(k:Q (.d (.bool ds.isEmpty)) n):bJ (.ln ds) (.d (.list [])) n Q:=k
theorem fL{a b:Int}(k:Q (.d (.bool (decide (a=b)))) n):bJ (.d (.int a)) (.d (.int b)) n Q:=k
theorem jb{a b:Int}(e:δ[i]?=ae (ae (.w (.d (.int a)))))(hT:a=b->W δ n K)(hF:¬a=b->V δ n K):bb (cT (w2 (aj i) (wC (.int b)) bJ)) W V δ n K:=by
 refine e9 (ar (au e (aE ?_)));show if decide (a=b)=ah then _ else _
 by_cases h:a=b
 ·rw[if_pos (decide_eq_true h)];exact hT h
 ·rw[if_neg (by simpa using h)];exact hF h
theorem jA{a b:Int}(e:δ[i]?=ae (ae (.w (.d (.int a)))))(hT:b < a->W δ n K)(hF:¬b < a->V δ n K):bb (cT (w2 (aj i) (wC (.int b)) eF)) W V δ n K:=by
 refine e9 (ar (au e (aE ?_)));show if decide (b < a)=ah then _ else _
 by_cases h:b < a
 ·rw[if_pos (decide_eq_true h)];exact hT h
 ·rw[if_neg (by simpa using h)];exact hF h
end
theorem zh(hs:List Str):(hs.map D9).all gs=ah:=by
 rw[Cq];intro d hd;obtain⟨x,_,rfl⟩:=Bk.mp hd;rfl
theorem yJ{δ:Sl}{n m:Int}{K:DEnds}{W:aM}{g:dO}{L:List Ab}{wl:DT}{M:Nat}(e:δ[0]?=ae (ae (.w .tp)))(hl:∀Q:DQ,Q (.d (.list L)) n->wl δ n Q)(hn:n < 2 ^ 40)(hm:m=L.length)(h0:0 < m)(h1:m < 1000)(hL:∀d∈L,∃j:Nat,j<=M/\d=.int j)(hM:M<=1000)(k:∀j:Nat,j<=M->ee g W K (cy 0 j) δ (n+1)):
  br (dC (w2 wl (az bC (ao ↥0 (ao (wC (.int m)) ak))) aY)) g W δ n K:=by
 unfold br dC;refine ar (hl _ (gN e hn h0 ⋯ λr r0 r1=>gO r0 ⋯ λd hd=>?_));obtain⟨j,hj,rfl⟩:=hL d hd;refine Ak ⟨by omega,by omega⟩ ?_;rw[B9];exact k j hj
theorem lQ{ds:List Ab}{n:Int}{Q:DQ}(k:Q (.d (.int ds.length)) n):eB [.ln ds] n Q:=k
def tks(l:List Str):List (bA×Ab):=FX (l.map λk=>(k,.bool ah))
theorem eI{n:Int}{Q:DQ}{i:Nat}{x:Ab}{xs:List Ab}(h:xs[i]?=ae x)(k:Q (.d x) n):aC (.d (.tuple xs)) (.d (.int (i:Nat))) n Q:=by
 show(match cM xs ((i:Nat):Int)with|some d=>Q (.d d) n|none=>False);rw[eE h];exact k
theorem ya(xs:List Ab){p:Nat}(hp:p<=xs.length):bg xs af (ae (p:Int))=xs.take p:=by
 unfold bg;rw[HT.sIx_nat];show(xs.drop 0).take (min p xs.length-0)=_;rw[List.drop_zero,Nat.sub_zero,Nat.min_eq_left hp]
def Pp:bx:=λws n Q=>match ws with
 |[.d d,.d (.int k)]=>Q (.d (.bool (bq k d))) n
 |_=>False
def Pq(bare named:List Ab):Ab->Bool
 |.tuple [.str x]=>cQ (.str x) bare
 |.tuple [.str x,b]=>(decide (x="is")&&bP b) || (cQ (.str x) named&&bq 4 b)
 |_=>ai
def zW:Ab->Str
 |.str x=>x
 |_=>⟨#[]⟩
def mF:List Ab->Bool
 |a::b::r=>decide ((zW a).cps.toList < (zW b).cps.toList)&&mF (b::r)
 |_=>ah
abbrev lM:Int:=1000000000000000000000000000000
inductive Th:Nat->Nat->Ab->Prop
 |non {L k:Nat}:Th L k .none
 |bool {L k:Nat} (b:Bool):Th L k (.bool b)
 |int {L k:Nat} (i:Int):-(lM+(L:Int))<=i->i<=lM+(L:Int)->Th L k (.int i)
 |str {L k:Nat} (x:Str):x.length<=60->Fk x=ah->Th L k (.str x)
 |list {L k:Nat} {ds:List Ab}:ds.length<=L->(∀d∈ds,Th L k d)->Th L (k+1) (.list ds)
 |tuple {L k:Nat} {ds:List Ab}:ds.length<=L->(∀d∈ds,Th L k d)->Th L (k+1) (.tuple ds)
mutual
def iw(L:Nat):Nat->Ab->Bool
 |_,.none=>ah
 |_,.bool _=>ah
 |_,.int i=>decide (-(lM+(L:Int))<=i)&&decide (i<=lM+(L:Int))
 |_,.str x=>decide (x.length<=60)&&Fk x
 |k,.list ds=>decide (0 < k)&&(decide (ds.length<=L)&&iE L (k-1) ds)
 |k,.tuple ds=>decide (0 < k)&&(decide (ds.length<=L)&&iE L (k-1) ds)
 |_,.dict _=>ai
def iE(L:Nat):Nat->List Ab->Bool
 |_,[]=>ah
 |k,d::r=>iw L k d&&iE L k r
end
mutual
theorem sY(L:Nat):∀(d:Ab)(k:Nat),iw L k d=ah->Th L k d
 |.none,_,_=>.non
 |.bool b,_,_=>.bool b
 |.int i,_,h=>by
  rw[iw,Ay]at h;exact .int i (of_decide_eq_true h.1) (of_decide_eq_true h.2)
 |.str x,_,h=>by
  rw[iw,Ay]at h;exact .str x (of_decide_eq_true h.1) h.2
 |.list ds,k,h=>by
  rw[iw,Ay,Ay]at h;have h0:=of_decide_eq_true h.1;have:=Th.list (of_decide_eq_true h.2.1) (oE L ds (k-1) h.2.2);rw[show k-1+1=k by omega]at this;exact this
 |.tuple ds,k,h=>by
  rw[iw,Ay,Ay]at h;have h0:=of_decide_eq_true h.1;have:=Th.tuple (of_decide_eq_true h.2.1) (oE L ds (k-1) h.2.2);rw[show k-1+1=k by omega]at this;exact this
 |.dict _,_,h=>by rw[iw]at h;cases h
theorem oE(L:Nat):∀(ds:List Ab)(k:Nat),iE L k ds=ah->∀d∈ds,Th L k d
 |[],_,_,d,hd=>by simp at hd
 |a::r,k,h,d,hd=>by
  rw[iE,Ay]at h;exact(Al.mp hd).elim (λe=>e▸sY L a k h.1) λhd=>oE L r k h.2 d hd
end
theorem sN{L k:Nat}{d:Ab}(h:iw L k d=ah):Th L k d:=sY L d k h
theorem pL{L k:Nat}{ds:List Ab}(h:iE L k ds=ah):∀d∈ds,Th L k d:=oE L ds k h
theorem Th.mono{L k:Nat}{d:Ab}(h:Th L k d):∀{L' k':Nat},L<=L'->k<=k'->Th L' k' d:=by
 induction h with
 |non=>exact λ_ _=>.non
 |bool b=>exact λ_ _=>.bool b
 |int i h1 h2=>exact λa _=>.int i ⋯ ⋯
 |str x h1 h2=>exact λ_ _=>.str x h1 h2
 |list h1 _ ih=>
  intro L' k' a b;obtain⟨j,rfl⟩:∃j,k'=j+1:=⟨k' - 1,by omega⟩;exact .list ⋯ λd hd=>ih d hd a ⋯
 |tuple h1 _ ih=>
  intro L' k' a b;obtain⟨j,rfl⟩:∃j,k'=j+1:=⟨k' - 1,by omega⟩;exact .tuple ⋯ λd hd=>ih d hd a ⋯
def cO(ks:List Str):Ab:=.tuple (ks.map .str)
def oh:List Ab:=[.str "a",.int 9,.int 10,.int 1,.str "ab",.str "go",.int 99,.int 0]
inductive Fe where
 |any|word|num|isv (d:Ab)|bind (k:Str)|as (k:Str)|nx (k:Str)
def Fe.hd:Fe->Str
 |.any=>"any"
 |.word=>"word"
 |.num=>"number"
 |.isv _=>"is"
 |.bind _=>"bind"
 |.as _=>"as"
 |.nx _=>"next"
def Fe.tl:Fe->List Ab
 |.any=>[]
 |.word=>[]
 |.num=>[]
 |.isv d=>[d]
 |.bind k=>[.str k]
 |.as k=>[.str k]
 |.nx k=>[.str k]
def Fe.d(f:Fe):Ab:=.tuple (.str f.hd::f.tl)
def zS:List Str:=["n","nm","go","m"]
def dQ(k:Str):Prop:=bq 4 (.str k)=ah/\Fk k=ah/\k∈zS
def hV(d:Ab):Bool:=bP d&&iw 60 0 d
def Fe.ok:Fe->Prop
 |.isv d=>hV d=ah
 |.bind k=>dQ k
 |.as k=>dQ k
 |.nx k=>dQ k
 |_=>True
def Fe.bd:Fe->Option Str
 |.bind k=>ae k
 |_=>af
def Fe.us:Fe->Option Str
 |.as k=>ae k
 |.nx k=>ae k
 |_=>af
def bf(fs:List Fe):List Str:=fs.filterMap Fe.bd
def Fe.pt:Fe->Bool
 |.nx _=>ai
 |_=>ah
def Fe.tm:Fe->Bool
 |.isv _=>ah
 |.as _=>ah
 |.nx _=>ah
 |_=>ai
def Fe.te:Fe->Bool
 |.isv _=>ah
 |.as _=>ah
 |_=>ai
def dJ(fs:List Fe):Prop:=fs.length<=4/\∀f∈fs,f.ok
def rF:List Str->List Fe->Prop
 |_,[]=>True
 |ks,f::r=>(∀k,f.us=ae k->k∈ks)/\rF (ks++f.bd.toList) r
inductive Ac where
 |lay (fs:List Fe) (age:Ab)|take (fs:List Fe)|read (fs:List Fe)|look (fs:List Fe) (b:Nat)|same (f g:Fe) (b:Nat)|go (b:Nat)
def gD(fs:List Fe):Ab:=.tuple (fs.map Fe.d)
def Ac.d:Ac->Ab
 |.lay fs age=>.tuple [.str "lay",gD fs,age]
 |.take fs=>.tuple [.str "take",gD fs]
 |.read fs=>.tuple [.str "read",gD fs]
 |.look fs b=>.tuple [.str "look",gD fs,.int b]
 |.same f g b=>.tuple [.str "same",f.d,g.d,.int b]
 |.go b=>.tuple [.str "go",.int b]
def Ac.bs:Ac->List Str
 |.take fs=>bf fs
 |.read fs=>bf fs
 |.look fs _=>bf fs
 |_=>[]
def Ac.fs:Ac->List Fe
 |.lay fs _=>fs
 |.take fs=>fs
 |.read fs=>fs
 |.look fs _=>fs
 |.same f g _=>[f,g]
 |.go _=>[]
def Ac.to:Ac->Option Nat
 |.look _ b=>ae b
 |.same _ _ b=>ae b
 |.go b=>ae b
 |_=>af
def Ac.right(wants:List (List Str))(ks:List Str)(a:Ac):Prop:=rF ks a.fs/\∀b,a.to=ae b->∃w,wants[b]?=ae w/\∀k∈w,k∈ks
def rG(d:Ab):Prop:=d=.none\/∃i:Int,d=.int i/\1<=i/\i<=20
def jO(fs:List Fe):Prop:=1<=fs.length/\∀f∈fs,f.pt=ah
def Ac.pat:Ac->Prop
 |.take fs=>jO fs
 |.read fs=>jO fs
 |.look fs _=>jO fs
 |.lay fs age=>(∀f∈fs,f.tm=ah)/\rG age/\1<=fs.length
 |.same f g _=>f.te=ah/\g.te=ah
 |.go _=>True
def mH(a:Ac):Prop:=dJ a.fs/\a.pat
abbrev Bl:=List Str×List Ac
def cP(b:Bl):Ab:=.tuple [cO b.1,.tuple (b.2.map Ac.d)]
def cf(bs:List Bl):Ab:=.tuple (bs.map cP)
def kn(w:List Str)(as:List Ac)(p:Nat):List Str:=w++(as.take p).flatMap Ac.bs
def sj(b:Bl):Prop:=b.1.length<=4/\(∀k∈b.1,dQ k)/\b.2.length<=8/\(∀a∈b.2,mH a)/\b.1.Nodup/\mI b.1
def j4(wants:List (List Str))(b:Bl):Prop:=∀(p:Nat)(a:Ac),b.2[p]?=ae a->a.right wants (kn b.1 b.2 p)
def gV:bx:=λws n Q=>ws=[.tp]/\n < 2 ^ 39/\∀v∈oh,Q (.d v) (n+1)
def j9:bx:=λws n Q=>ws=[.tp]/\n < 2 ^ 39/\∀m:Nat,1<=m->m<=4->Q (.d (.int m)) (n+1)
def oZ:bx:=λws n Q=>∃ks:List Str,ws=[.tp,.ln (ks.map .str)]/\ks.length<=1000/\(∀k∈ks,dQ k)/\n+9 < 2 ^ 39/\∀(fs:List Fe)(n':Int),1<=fs.length->dJ fs->(∀f∈fs,f.tm=ah)->rF ks fs->n'<=n+9->Q (.d (gD fs)) n'
def mY:bx:=λws n Q=>∃ks:List Str,ws=[.tp,.ln (ks.map .str)]/\ks.length<=1000/\(∀k∈ks,dQ k)/\n+2 < 2 ^ 39/\∀(f:Fe)(n':Int),f.ok->f.te=ah->(∀k,f.us=ae k->k∈ks)->n'<=n+2->Q (.d f.d) n'
def lJ:bx:=λws n Q=>∃(ks:List Str)(os:List Nat)(wants:List (List Str)),ws=[.tp,.ln (ks.map .str),.d (.list (os.map λb=>.int (b:Nat)))]/\ks.length<=1000/\(∀k∈ks,dQ k)/\0 < os.length/\os.length<=1000 /\
 (∀b∈os,∃w,wants[b]?=ae w/\∀k∈w,k∈ks)/\n+11 < 2 ^ 39/\∀(a:Ac)(n':Int),mH a->a.right wants ks->n'<=n+11->Q (.d (.tuple [a.d,.list (a.bs.map .str)])) n'
def mS(bs:List Bl):Prop:=1<=bs.length/\bs.length<=6/\∀b∈bs,sj b/\j4 (bs.map (·.1)) b
def rp:bx:=λws n Q=>∃(ks:List Str)(v:Wv),ws=[.tp,v]/\gB v=ae (ks.map .str)/\ks.length<=1000/\(∀k∈ks,dQ k)/\n+9 < 2 ^ 39/\∀(fs:List Fe)(n':Int),1<=fs.length->dJ fs->(∀f∈fs,f.pt=ah)->rF ks fs->n'<=n+9->Q (.d (.tuple [gD fs,.list ((bf fs).map .str)])) n'
def qM(bs:List Bl):Prop:=∃w,bs.map (·.1)=[]::w
def pA:bx:=λws n Q=>ws=[.tp]/\n+600 < 2 ^ 39/\∀(bs:List Bl)(n':Int),mS bs->qM bs->n'<=n+600->Q (.d (cf bs)) n'
abbrev Pg:=List (List Bl)
def cg(ps:Pg):Ab:=.tuple (ps.map cf)
def kB(ps:Pg):Prop:=ps.length<=5/\∀P∈ps,mS P
abbrev Nt:=List Ab×Ab
def p7(q:Nt):Ab:=.tuple [.tuple q.1,q.2]
def il(ns:List Nt):Ab:=.tuple (ns.map p7)
def fQ(row:List Ab):Prop:=(row.length<=4/\1<=row.length)/\∀d∈row,hV d=ah
def yR(q:Nt):Prop:=fQ q.1/\rG q.2
def jP(m:Nat)(ns:List Nt):Prop:=ns.length<=m/\∀q∈ns,yR q
def gY(b:Bl):Prop:=b.1.length<=4/\(∀k∈b.1,dQ k)/\b.2.length<=8/\∀a∈b.2,mH a
def d5(ps:Pg):Prop:=ps.length<=5/\∀P∈ps,1<=P.length/\P.length<=6/\∀b∈P,gY b
def Kno(l ys:List Str):Prop:=ys.Nodup/\mI ys/\∀k,k∈ys↔k∈l
def kS(l:List Str):List Str:=by classical exact if h:∃ys,Kno l ys then h.choose else[]
def dP:Ab->Bool
 |.tuple [x,v]=>bq 4 x&&bP v
 |_=>ai
def fG:Ab->Ab
 |.tuple (x::_)=>x
 |_=>.none
def kF:Ab->List Nat
 |.str x=>x.cps.toList
 |_=>[]
def eH:List Ab->Bool
 |a::b::r=>decide (kF (fG a) < kF (fG b))&&eH (b::r)
 |_=>ah
def dA:Ab->Bool
 |.tuple ds=>ds.all dP&&eH ds
 |_=>ai
def bU:List Str->List Ab->Bool
 |[],[]=>ah
 |y::ys,.tuple [.str x,v]::ds=>decide (x=y)&&(bP v&&bU ys ds)
 |_,_=>ai
def iN(ys:List Str):Ab->Bool
 |.tuple ds=>bU ys ds
 |_=>ai
abbrev H3:=Ab×Ab×Ab
def cH(h:H3):Ab:=.tuple [h.1,h.2.1,h.2.2]
def iR:Ab->Bool
 |.tuple [_,_,_]=>ah
 |_=>ai
def gW:Ab->Bool
 |.tuple ds=>ds.all iR
 |_=>ai
def lq:Ab->Bool
 |.tuple _=>ah
 |_=>ai
def fF:Ab->Bool
 |.tuple [a,b]=>gW a&&lq b
 |_=>ai
def gE(P:List Bl)(a b:Ab):Bool:=cF 0 ((P.length:Int)-1) a&&(match a with
 |.int i=>cF 0 (((P[i.toNat]?).map λbl=>bl.2.length).getD 0:Nat) b
 |_=>ai)
def r9(P:List Bl)(h:H3):Bool:=match h.1,h.2.1 with
 |.int i,.int p=>match P[i.toNat]? with
  |some b=>iN (kS (kn b.1 b.2 p.toNat)) h.2.2
  |none=>ai
 |_,_=>ai
def eM(q:List Bl×H3):Bool:=gE q.1 q.2.1 q.2.2.1
def eS(q:List Bl×H3):Bool:=r9 q.1 q.2
def eA(ps:Pg)(T:List H3)(ns:List Ab):Ab:=
 if T.length=ps.length then
  if (ps.zip T).all eM=ah then
   if (ps.zip T).all eS=ah then
    if ns.all fB=ah then .none else .str "notes"
   else .str "names"
  else .str "place"
 else .str "hands"
abbrev km(d:Ab):Prop:=∃L k,Th L k d/\L<=300/\k<=18
def yP(ps:Pg)(d r:Ab):Prop:=(fF d=ai/\r=.str "form")\/∃T ns,d=.tuple [.tuple (T.map cH),.tuple ns]/\r=eA ps T ns
def ng:bx:=λws n Q=>∃(d:Ab)(k:Int),ws=[.d d,.d (.int k)]/\Q (.d (.bool (cF 0 k d))) n
def m7:bx:=λws n Q=>∃(P:List Bl)(h:H3),ws=[.d (cf P),.d (cH h)]/\Q (.d (.bool (eM (P,h)))) n
def k7:bx:=λws n Q=>∃fs:List Fe,ws=[.d (gD fs)]/\dJ fs/\∀ys:List Str,ys.length<=4->(∀k,k∈ys↔k∈bf fs)->Q (.d (cO ys)) n
def qe:bx:=λws n Q=>∃(P:List Bl)(i p:Nat)(b:Bl),ws=[.d (cf P),.d (.int i),.d (.int p)]/\P[i]?=ae b/\gY b/\p<=b.2.length/\(Kno (kn b.1 b.2 p) (kS (kn b.1 b.2 p))->Q (.d (cO (kS (kn b.1 b.2 p)))) n)
def nM:bx:=λws n Q=>∃(P:List Bl)(i p:Nat)(b:Bl),ws=[.d (cf P),.d (.int i),.d (.int p)]/\P[i]?=ae b/\gY b/\p<=b.2.length/\(Kno (kn b.1 b.2 p) (kS (kn b.1 b.2 p))->Q (.d (.list ((kS (kn b.1 b.2 p)).map .str))) n)
def mN:bx:=λws n Q=>∃(P:List Bl)(h:H3),ws=[.d (cf P),.d (cH h)]/\(∀b∈P,gY b)/\eM (P,h)=ah/\km h.2.2/\Q (.d (.bool (eS (P,h)))) n
def qm:bx:=λws n Q=>∃(ps:Pg)(d:Ab),ws=[.d (cg ps),.d d]/\d5 ps/\km d/\∀r,yP ps d r->Q (.d r) n
def rS:bx:=λws n Q=>∃m:Nat,ws=[.tp,.d (.int m)]/\m<=12/\n+100 < 2 ^ 39/\∀(ns:List Nt)(n':Int),jP m ns->n'<=n+100->Q (.d (il ns)) n'
def sk:bx:=λws n Q=>ws=[.tp]/\n+4000 < 2 ^ 39/\∀(ps:Pg)(n':Int),kB ps->n'<=n+4000->Q (.d (cg ps)) n'
abbrev Hn:=Nat×Nat×List (Str×Ab)
def cx(p:Str×Ab):Ab:=.tuple [.str p.1,p.2]
def lp(h:Hn):H3:=(.int h.1,.int h.2.1,.tuple (h.2.2.map cx))
def jd(P:List Bl)(h:Hn):Prop:=∃b,P[h.1]?=ae b/\h.2.1<=b.2.length/\h.2.2.map (·.1)=kS (kn b.1 b.2 h.2.1)/\h.2.2.length<=4/\∀q∈h.2.2,dQ q.1/\hV q.2=ah
def kX(ps:Pg)(hs:List Hn):Prop:=hs.length=ps.length/\∀(i:Nat)(P:List Bl)(h:Hn),ps[i]?=ae P->hs[i]?=ae h->jd P h
def L9(hs:List Hn)(ns:List Nt):Ab:=.tuple [.tuple ((hs.map lp).map cH),il ns]
def rJ:bx:=λws n Q=>∃(ps:Pg)(m:Nat),ws=[.tp,.d (cg ps),.d (.int m)]/\m<=12/\d5 ps/\n+400 < 2 ^ 39/\∀(hs:List Hn)(ns:List Nt)(n':Int),kX ps hs->jP m ns->n'<=n+400->Q (.d (L9 hs ns)) n'
def dI(r:List Vl):Prop:=(1<=r.length/\r.length<=4)/\∀v∈r,Bm (vD v)=ah
def gL:Ab->Vl
 |.str x=>.inr x
 |.int i=>.inl i
 |_=>.inl 0
def dF:Ab->List Vl
 |.tuple (.tuple ds::_)=>ds.map gL
 |_=>[]
def fi:Ab->Bool
 |.none=>ah
 |.int i=>decide (1<=i)
 |_=>ai
def dY:Ab->Bool
 |.tuple [r,m]=>bG r&&fi m
 |_=>ai
def ef:List Ab->Bool
 |a::b::r=>fK (dF a) (dF b)&&ef (b::r)
 |_=>ah
def nO:Ab->Bool
 |.tuple cs=>cs.all dY&&ef cs
 |_=>ai
def cw(P:List Bl):Ab->Bool
 |.tuple [x,y,z]=>eM (P,(x,y,z))&&eS (P,(x,y,z))
 |_=>ai
def d6(ps:Pg):Ab->Bool
 |.tuple ds=>decide (ds.length=ps.length)&&(ps.zip ds).all λq=>cw q.1 q.2
 |_=>ai
def jn(ps:Pg):Ab->Bool
 |.tuple [a,b]=>d6 ps a&&nO b
 |_=>ai
def hG(d:Ab):Prop:=∃L k,Th L k d/\L<=12/\k<=14
def oU:bx:=λws n Q=>∃v:Vl,ws=[.d (vD v)]/\Q (.d (kD v)) n
def mf:bx:=λws n Q=>∃r:List Vl,ws=[.d (rD r)]/\r.length<=4/\Q (.d (.tuple (r.map kD))) n
def n9:bx:=mf
def mV:bx:=λws n Q=>∃a b:List Vl,ws=[.d (rD a),.d (rD b)]/\dI a/\dI b/\Q (.d (.bool (fK a b))) n
def ku:bx:=a8 dY
def rT:bx:=λws n Q=>∃d,ws=[.d d]/\hG d/\Q (.d (.bool (nO d))) n
def lK:bx:=λws n Q=>∃(ps:Pg)(d:Ab),ws=[.d (cg ps),.d d]/\d5 ps/\hG d/\Q (.d (.bool (jn ps d))) n
def mM:bx:=λws n Q=>∃(d:Ab)(k:Int),ws=[.d d,.d (.int k)]/\Q (.d (.bool (bq k d))) n
def gG:bx:=λws n Q=>∃(d:Ab)(lo hi:Int),ws=[.d d,.d (.int lo),.d (.int hi)]/\Q (.d (.bool (cF lo hi d))) n
def iD:bx:=a8 bG
def oK:bx:=λws n Q=>∃(P:List Bl)(d:Ab),ws=[.d (cf P),.d d]/\(∀b∈P,gY b)/\hG d/\Q (.d (.bool (cw P d))) n
def oi:bx:=λws n Q=>∃(ps:Pg)(d:Ab),ws=[.d (cg ps),.d d]/\d5 ps/\hG d/\Q (.d (.bool (d6 ps d))) n
def nq:bx:=lK
def jx:bx:=λws n Q=>ws=[.tp]/\n < 2 ^ 39/\∀d,Th 9 2 d->Q (.d d) (n+1)
def gp:Nat->bx
 |0=>λ_ _ _=>False
 |t+1=>λws n Q=>∃(d:Ab)(L k:Nat),ws=[.tp,.d d]/\Th L k d/\9<=L/\L<=30/\k<=t/\n+5*(k:Int)+5 < 2 ^ 39/\∀(d':Ab)(n':Int),Th (L+1) (k+2) d'->n'<=n+5*(k:Int)+5->Q (.d d') n'
abbrev Co:=List Ab×Ab
def fg(c:Co):Ab:=.tuple [.tuple c.1,c.2]
def jH(c:Co):Prop:=fQ c.1/\Th 9 0 c.2
def pJ:dS:=λws n Q=>∃ns:List Nt,ws=[.tp,.d (il ns)]/\jP 6 ns/\n+10 < 2 ^ 39/\∀(cs:List Co)(n':Int),cs.length<=6->(∀c∈cs,jH c)->n'<=n+10->Q (cs.map fg) n'
abbrev oQ:aM:=(aw (aO (aL "int" ↥0) (cY (aL "bool" ↥0))))
abbrev qt:aM:=(aq (bb (aI (cT (aL "str" ↥0))) (aw (wC (.bool ai))) aV) (aw (aO (cZ di di ⇑1 (wB aH (ao ↥0 ak)) ↥1) (wB bc (ao (aP (bo [af] (fM ↥0) (aD 0) aG (cZ di di (wC (.str "a")) ↥0 (wC (.str "z"))))) ak)))))
abbrev OR:aM:=(aw (az jE (ao ↥0 (ao ⇑8 ak))))
abbrev pP:aM:=(aw (aO (az (a8 gh) (ao ↥0 ak)) (cZ di di ⇑0 ↥0 ⇑99)))
abbrev oX:aM:=(aw (eG (az (a8 (bq 8)) (ao ↥0 ak)) (az (a8 fH) (ao ↥0 ak))))
abbrev O1:aM:=(aw (az jE (ao ↥0 (ao ⇑4 ak))))
abbrev rY:aM:=(aq (bb (aI (cT (aL "tuple" ↥0))) (aw (wC (.bool ai))) aV) (aw (aO (cZ di di ⇑1 (wB aH (ao ↥0 ak)) ⇑4) (wB bc (ao (aP (bo [af] (bD ↥0) (aD 0) aG (az (a8 bP) (ao ↥0 ak)))) ak)))))
abbrev qJ:aM:=(aw (eG (w2 ↥0 (wC .none) (bL ai)) (aO (az (a8 gh) (ao ↥0 ak)) (cZ di di ⇑1 ↥0 ⇑20))))
abbrev rg:aM:=(aw (aO (aL "tuple" ↥0) (aO (w2 (wB aH (ao ↥0 ak)) ⇑2 ck) (aO (az (a8 bG) (ao (w2 ↥0 ⇑0 aC) ak)) (az (a8 fP) (ao (w2 ↥0 ⇑1 aC) ak))))))
abbrev zF:aM:=(aq (bb (cT (aL "int" ↥0)) (aw (aA (ao ⇑0 (ao ↥0 ak)))) aV) (aw (aA (ao ⇑1 (ao ↥0 ak)))))
abbrev uV:aM:=(aw (wB fO (ao (aP (bo [af] (bD ↥0) (aD 0) aG (az oU (ao ↥0 ak)))) ak)))
abbrev u9:aM:=(aw (w2 (az mf (ao ↥0 ak)) (az mf (ao ↥1 ak)) (jc d0)))
abbrev Om:aM:=(aw (wB fO (ao (aP (jJ (aP (bo [af] (bD ↥0) (aD 0) (cT (w2 (w2 ↥0 ⇑0 aC) (wC (.str "bind")) ck)) (w2 ↥0 ⇑1 aC))))) ak)))
abbrev Zd:List Str:=["take","read","look"]
abbrev ux:aM:=(aq (aJ 3 (w2 (w2 ↥0 ↥1 aC) ⇑0 aC)) (aq (aJ 4 (w2 (w2 ↥0 ↥1 aC) ⇑1 aC)) (aq (bu 5 (iT ↥3)) (aq (br (bD (bZ ↥4 bW (bX ↥2))) (aD 6) (bb (cT (fN Zd (w2 ↥6 ⇑0 aC))) (kd 5 (az k7 (ao (w2 ↥6 ⇑1 aC) ak))) aV)) (bQ 5 (aw (wB fO (ao (aP (jJ ↥5)) ak))))))))
abbrev xA:aM:=(aw (aO (aL "tuple" ↥0) (aO (w2 (wB aH (ao ↥0 ak)) ⇑2 ck) (aO (az (a8 (bq 4)) (ao (w2 ↥0 ⇑0 aC) ak)) (az (a8 bP) (ao (w2 ↥0 ⇑1 aC) ak))))))
abbrev xK:aM:=(aq (bb (cI (aI (cT (aL "tuple" ↥0))) (aI (cT (wB bc (ao (aP (bo [af] (bD ↥0) (aD 0) aG (az (a8 dP) (ao ↥0 ak)))) ak))))) (aw (wC (.bool ai))) aV) (aw (wB bc (ao (aP (bo [af,af] (lx ↥0 (bZ ↥0 (bX ⇑1) bW)) (cz 2 (bB (aD 0) (bB (aD 1) b6))) aG (w2 (w2 ↥0 ⇑0 aC) (w2 ↥1 ⇑0 aC) f6))) ak))))
abbrev tq:aM:=(aw (aO (aL "tuple" ↥0) (wB bc (ao (aP (bo [af] (bD ↥0) (aD 0) aG (aO (aL "tuple" ↥0) (w2 (wB aH (ao ↥0 ak)) ⇑3 ck)))) ak))))
abbrev uU:aM:=(aq (bb (cI (aI (cT (aL "tuple" ↥0))) (cT (w2 (wB aH (ao ↥0 ak)) ⇑2 dM))) (aw (wC (.bool ai))) aV) (aw (aO (az (a8 gW) (ao (w2 ↥0 ⇑0 aC) ak)) (aL "tuple" (w2 ↥0 ⇑1 aC)))))
abbrev xt:aM:=(aw (aO (az (a8 gh) (ao ↥0 ak)) (cZ di di ⇑0 ↥0 ↥1)))
abbrev sR:aM:=(aw (aO (az ng (ao (w2 ↥1 ⇑0 aC) (ao (w2 (wB aH (ao ↥0 ak)) ⇑1 (cJ λi j=>.int (i-j))) ak))) (az ng (ao (w2 ↥1 ⇑1 aC) (ao (wB aH (ao (w2 (w2 ↥0 (w2 ↥1 ⇑0 aC) aC) ⇑1 aC) ak)) ak)))))
abbrev xo:aM:=(aq (bb (aI (cT (az (a8 dA) (ao (w2 ↥1 ⇑2 aC) ak)))) (aw (wC (.bool ai))) aV) (aw (w2 (wB fO (ao (aP (bo [af] (bD (w2 ↥1 ⇑2 aC)) (aD 0) aG (w2 ↥0 ⇑0 aC))) ak)) (az qe (ao ↥0 (ao (w2 ↥1 ⇑0 aC) (ao (w2 ↥1 ⇑1 aC) ak)))) (jc λd e=>ae (Bw d e)))))
abbrev zB:aM:=(aq (bb (aI (cT (az (a8 fF) (ao ↥1 ak)))) (aw (wC (.str "form"))) aV) (aq (aJ 2 (w2 ↥1 ⇑0 aC)) (aq (bb (cT (w2 (wB aH (ao ↥2 ak)) (wB aH (ao ↥0 ak)) dM)) (aw (wC (.str "hands"))) aV) (aq (bb (aI (cT (wB bc (ao (aP (bo [af,af] (iP ↥0 ↥2) (cz 2 (bB (aD 0) (bB (aD 1) b6))) aG (az m7 (ao ↥0 (ao ↥1 ak))))) ak)))) (aw (wC (.str "place"))) aV) (aq (bb (aI (cT (wB bc (ao (aP (bo [af,af] (iP ↥0 ↥2) (cz 2 (bB (aD 0) (bB (aD 1) b6))) aG (az mN (ao ↥0 (ao ↥1 ak))))) ak)))) (aw (wC (.str "names"))) aV) (aq (bb (aI (cT (wB bc (ao (aP (bo [af] (bD (w2 ↥1 ⇑1 aC)) (aD 0) aG (az (a8 fB) (ao ↥0 ak)))) ak)))) (aw (wC (.str "notes"))) aV) (aw (wC .none))))))))
abbrev yW:aM:=(aw (eG (w2 ↥0 (wC .none) (bL ai)) (aO (az (a8 gh) (ao ↥0 ak)) (w2 ↥0 ⇑1 yv))))
abbrev vq:aM:=(aw (aO (aL "tuple" ↥0) (aO (w2 (wB aH (ao ↥0 ak)) ⇑2 ck) (aO (az (a8 bG) (ao (w2 ↥0 ⇑0 aC) ak)) (az (a8 fi) (ao (w2 ↥0 ⇑1 aC) ak))))))
abbrev xS:aM:=(aq (bb (cI (aI (cT (aL "tuple" ↥0))) (aI (cT (wB bc (ao (aP (bo [af] (bD ↥0) (aD 0) aG (az ku (ao ↥0 ak)))) ak))))) (aw (wC (.bool ai))) aV) (aw (wB bc (ao (aP (bo [af,af] (lx ↥0 (bZ ↥0 (bX ⇑1) bW)) (cz 2 (bB (aD 0) (bB (aD 1) b6))) aG (az mV (ao (w2 ↥0 ⇑0 aC) (ao (w2 ↥1 ⇑0 aC) ak))))) ak))))
abbrev vi:aM:=(aq (bb (cI (aI (cT (aL "tuple" ↥1))) (cT (w2 (wB aH (ao ↥1 ak)) ⇑2 dM))) (aw (wC (.bool ai))) aV) (aw (aO (w2 (az qm (ao ↥0 (ao (aA (ao (w2 ↥1 ⇑0 aC) (ao (aA ak) ak))) ak))) (wC .none) (bL ai)) (az rT (ao (w2 ↥1 ⇑1 aC) ak)))))
abbrev zY:aM:=(aw (w2 (aP (aN (ao (wC (.str "a")) (ao ⇑9 (ao ⇑10 (ao ⇑1 (ao (wC (.str "ab")) (ao (wC (.str "go")) (ao ⇑99 (ao ⇑0 ak)))))))))) (az bC (ao ↥0 (ao ⇑8 ak))) aC))
abbrev tH:aM:=(aw (w2 (aP (aN (ao ⇑1 (ao ⇑2 (ao ⇑2 (ao ⇑2 (ao ⇑1 (ao ⇑3 (ao ⇑4 ak))))))))) (az bC (ao ↥0 (ao ⇑7 ak))) aC))
abbrev vE:aM:=(aq (bu 2 (aN ak)) (aq (bu 3 (aN ak)) (aq (br (dC (az j9 (ao ↥0 ak))) (aD 4) (aq (aJ 5 (az bC (ao ↥0 (ao ⇑9 ak)))) (aq (aJ 6 (w2 ↥1 (de 3) eT)) (bb (cT (w2 ↥5 ⇑3 f6)) (bw 2 (aA (ao (wC (.str "is")) (ao (az gV (ao ↥0 ak)) ak)))) (bb (cT (w2 ↥5 ⇑6 f6)) (bw 2 (w2 (aP (aN (ao (aA (ao (wC (.str "any")) ak)) (ao (aA (ao (wC (.str "word")) ak)) (ao (aA (ao (wC (.str "number")) ak)) ak))))) (w2 ↥5 ⇑3 (cJ λi j=>.int (i-j))) aY)) (bb (cI (cT (w2 ↥5 ⇑8 f6)) (cT (w2 ↥6 (aP (aN ak)) bJ))) (aq (aJ 7 (w2 (aP (aN (ao (wC (.str "n")) (ao (wC (.str "nm")) (ao (wC (.str "go")) (ao (wC (.str "m")) ak)))))) (az bC (ao ↥0 (ao ⇑4 ak))) aY)) (aq (bw 3 ↥7) (bw 2 (aA (ao (wC (.str "bind")) (ao ↥7 ak)))))) (bw 2 (aA (ao (wC (.str "as")) (ao (w2 ↥6 (az bC (ao ↥0 (ao (wB eB (ao ↥6 ak)) ak))) aY) ak)))))))))) (bQ 2 (bQ 3 (aw (aA (ao (wB eQ (ao ↥2 ak)) (ao ↥3 ak)))))))))
abbrev wJ:aM:=(aq (bu 2 (aN ak)) (aq (br (dC (az j9 (ao ↥0 ak))) (aD 3) (aq (aJ 4 (az bC (ao ↥0 (ao ⇑6 ak)))) (bb (cI (cT (w2 ↥4 ⇑3 f6)) (cT (w2 ↥1 (aP (aN ak)) bJ))) (bw 2 (aA (ao (wC (.str "is")) (ao (az gV (ao ↥0 ak)) ak)))) (bw 2 (aA (ao (w2 (aP (aN (ao (wC (.str "as")) (ao (wC (.str "as")) (ao (wC (.str "next")) ak))))) (w2 ↥4 ⇑3 (cJ λi j=>.int (i-j))) aY) (ao (w2 ↥1 (az bC (ao ↥0 (ao (wB eB (ao ↥1 ak)) ak))) aY) ak))))))) (bQ 2 (aw (wB eQ (ao ↥2 ak))))))
abbrev tF:aM:=(aq (bb (cI (cT (w2 ↥1 (aP (aN ak)) bJ)) (cT (w2 (az bC (ao ↥0 (ao ⇑2 ak))) ⇑0 bJ))) (aw (aA (ao (wC (.str "is")) (ao (az gV (ao ↥0 ak)) ak)))) aV) (aw (aA (ao (wC (.str "as")) (ao (w2 ↥1 (az bC (ao ↥0 (ao (wB eB (ao ↥1 ak)) ak))) aY) ak)))))
abbrev yB:aM:=(aq (aJ 3 (az bC (ao ↥0 (ao ⇑12 ak)))) (aq (bb (cT (w2 ↥3 ⇑4 f6)) (aw (aA (ao (aA (ao (wC (.str "lay")) (ao (az oZ (ao ↥0 (ao ↥1 ak))) (ao (w2 (dG 0) (az bC (ao ↥0 (ao (wB eB (ao (dG 0) ak)) ak))) aY) ak)))) (ao (aP (aN ak)) ak)))) aV) (aq (aJ 4 (w2 ↥2 (az bC (ao ↥0 (ao (wB eB (ao ↥2 ak)) ak))) aY)) (aq (bb (cT (w2 ↥3 ⇑10 bJ)) (aw (aA (ao (aA (ao (wC (.str "same")) (ao (az mY (ao ↥0 (ao ↥1 ak))) (ao (az mY (ao ↥0 (ao ↥1 ak))) (ao ↥4 ak))))) (ao (aP (aN ak)) ak)))) aV) (aq (bb (cT (w2 ↥3 ⇑11 bJ)) (aw (aA (ao (aA (ao (wC (.str "go")) (ao ↥4 ak))) (ao (aP (aN ak)) ak)))) aV) (aq (d8 (az rp (ao ↥0 (ao ↥1 ak))) (cz 2 (bB (aD 5) (bB (aD 6) b6)))) (aq (bb (cT (w2 ↥3 ⇑7 eF)) (aw (aA (ao (aA (ao (wC (.str "look")) (ao ↥5 (ao ↥4 ak)))) (ao ↥6 ak)))) aV) (aw (aA (ao (aA (ao (w2 (aP (aN (ao (wC (.str "take")) (ao (wC (.str "take")) (ao (wC (.str "take")) (ao (wC (.str "read")) ak)))))) (w2 ↥3 ⇑4 (cJ λi j=>.int (i-j))) aY) (ao ↥5 ak))) (ao ↥6 ak)))))))))))
abbrev uF:aM:=(aq (bu 1 (aN (ao (aA ak) ak))) (aq (br (dC (w2 (aP (aN (ao ⇑0 (ao ⇑1 (ao ⇑2 (ao ⇑1 (ao ⇑0 (ao ⇑2 (ao ⇑5 ak))))))))) (az bC (ao ↥0 (ao ⇑7 ak))) aY)) (aD 2) (bw 1 (w2 (aP (aN (ao (aA ak) (ao (aA (ao (wC (.str "n")) ak)) (ao (aA (ao (wC (.str "go")) (ao (wC (.str "n")) ak))) (ao (aA (ao (wC (.str "nm")) ak)) (ao (aA ak) ak))))))) (az bC (ao ↥0 (ao ⇑5 ak))) aY))) (aq (bu 3 (aN ak)) (bQ 1 (aq (br (fC ↥1) (aD 4) (aq (bu 5 (iT ↥4)) (aq (bu 6 (aN ak)) (aq (br (dC (w2 (aP (aN (ao ⇑2 (ao ⇑3 (ao ⇑1 (ao ⇑4 (ao ⇑2 (ao ⇑0 (ao ⇑3 (ao ⇑8 ak)))))))))) (az bC (ao ↥0 (ao ⇑8 ak))) aY)) (aD 2) (aq (aJ 8 (aP (bo [af,ae 5,ae 1] (dC (wB eB (ao ↥1 ak))) (aD 0) (cT (w2 (aP (bo [af,ae 1] (bD (w2 ↥2 ↥0 aY)) (aD 0) (cT (w2 ↥0 ↥1 (dE ah))) ↥0)) (aP (aN ak)) bJ)) ↥0))) (aq (d8 (az lJ (ao ↥0 (ao (de 5) (ao ↥8 ak)))) (cz 2 (bB (aD 9) (bB (aD 10) b6)))) (aq (bw 6 ↥9) (br (fC ↥10) (aD 7) (bb (cT (w2 ↥7 (de 5) (dE ah))) (bw 5 ↥7) aV)))))) (bQ 6 (bw 3 (aA (ao ↥4 (ao (wB eQ (ao ↥6 ak)) ak))))))))) (bQ 3 (aw (wB eQ (ao ↥3 ak)))))))))
abbrev wg:aM:=(aq (bu 2 (aN ak)) (aq (br (dC (az bC (ao ↥0 (ao (w2 ↥1 ⇑1 (cJ λi j=>.int (i+j))) ak)))) (aD 3) (aq (aJ 4 (wB eQ (ao (aP (bo [af,ae 0] (dC (az j9 (ao ↥0 ak))) (aD 0) aG (az gV (ao ↥1 ak)))) ak))) (bw 2 (aA (ao ↥4 (ao (w2 (dG 0) (az bC (ao ↥0 (ao (wB eB (ao (dG 0) ak)) ak))) aY) ak)))))) (bQ 2 (aw (wB eQ (ao ↥2 ak))))))
abbrev uY:aM:=(aq (bu 1 (bo [af,ae 0] (dC (w2 (aP (aN (ao ⇑2 (ao ⇑1 (ao ⇑2 (ao ⇑3 (ao ⇑2 (ao ⇑1 (ao ⇑0 (ao ⇑5 ak)))))))))) (az bC (ao ↥0 (ao ⇑8 ak))) aY)) (aD 0) aG (az pA (ao ↥1 ak)))) (aq (bb (b9 (cT (w2 (wB eB (ao (de 1) ak)) ⇑2 bJ)) (cT (w2 (az bC (ao ↥0 (ao ⇑4 ak))) ⇑0 bJ))) (iH 1 ⇑1 (w2 (de 1) ⇑0 aY)) aV) (bQ 1 (aw (wB eQ (ao ↥1 ak))))))
abbrev zI:aM:=(aq (bu 3 (iT (w2 (w2 ↥0 ↥1 aC) ⇑0 aC))) (aq (br (bD (bZ (w2 (w2 ↥0 ↥1 aC) ⇑1 aC) bW (bX ↥2))) (aD 4) (bb (cT (w2 (w2 ↥4 ⇑0 aC) (aA (ao (wC (.str "take")) (ao (wC (.str "read")) (ao (wC (.str "look")) ak)))) (iS ai))) (eW 3 (aP (bo [af] (bD (w2 ↥4 ⇑1 aC)) (aD 0) (cT (w2 (w2 ↥0 ⇑0 aC) (wC (.str "bind")) ck)) (w2 ↥0 ⇑1 aC)))) aV)) (bQ 3 (aw (aP (jJ ↥3))))))
abbrev uc:aM:=(aq (bu 3 (aN ak)) (aq (br (bD ↥1) (aD 4) (aq (aJ 5 (az bC (ao ↥0 (ao (wB aH (ao ↥4 ak)) ak)))) (aq (aJ 6 (az bC (ao ↥0 (ao (w2 (wB aH (ao (w2 (w2 ↥4 ↥5 aC) ⇑1 aC) ak)) ⇑1 (cJ λi j=>.int (i+j))) ak)))) (aq (aJ 7 (wB fO (ao (aP (bo [af,ae 0] (fC (az nM (ao ↥4 (ao ↥5 (ao ↥6 ak))))) (aD 0) aG (aA (ao ↥0 (ao (az gV (ao ↥1 ak)) ak))))) ak))) (bw 3 (aA (ao ↥5 (ao ↥6 (ao ↥7 ak))))))))) (bQ 3 (aw (aA (ao (wB fO (ao ↥3 ak)) (ao (az rS (ao ↥0 (ao ↥2 ak))) ak)))))))
abbrev zC:aM:=(aq (aJ 1 (aP (aN (ao (wC .none) (ao (wC (.bool ah)) (ao (wC (.bool ai)) (ao (dR ⇑1) (ao ⇑0 (ao ⇑1 (ao ⇑2 (ao ⇑9 (ao ⇑10 (ao ⇑20 (ao ⇑21 (ao ⇑99 (ao ⇑100 (ao (w2 ⇑10 ⇑20 (gI dB λi j=>.int (i ^ j.toNat))) (ao (wC (.str "")) (ao (wC (.str "a")) (ao (wC (.str "abcde")) (ao (wC (.str "abcdefghi")) (ao (wC (.str "A")) (ao (wC (.str "a1")) ak))))))))))))))))))))))) (aq (aJ 1 (w2 ↥1 (aP (aN (ao (wC (.str "all")) (ao (wC (.str "as")) (ao (wC (.str "bind")) (ao (wC (.str "any")) (ao (aA ak) (ao (aP (aN ak)) (ao (aA (ao ⇑1 ak)) (ao (aA (ao (wC (.str "any")) ak)) (ao (aA (ao (wC (.str "a")) ak)) (ao (aA (ao (aA (ao (wC (.str "a")) ak)) (ao (wC .none) ak))) ak)))))))))))) eT)) (aw (w2 ↥1 (az bC (ao ↥0 (ao (wB aH (ao ↥1 ak)) ak))) aC))))
abbrev AB(Sf:bx):aM:=(aq (bb (b9 (cT (aL "tuple" ↥1)) (b9 (cT (w2 (wB aH (ao ↥1 ak)) ⇑0 eF)) (cT (w2 (az bC (ao ↥0 (ao ⇑5 ak))) ⇑0 eF)))) (aq (aJ 2 (az bC (ao ↥0 (ao (wB aH (ao ↥1 ak)) ak)))) (aw (w2 (w2 (bZ ↥1 bW (bX ↥2)) (aA (ao (az Sf (ao ↥0 (ao (w2 ↥1 ↥2 aC) ak))) ak)) gQ) (bZ ↥1 (bX (w2 ↥2 ⇑1 (cJ λi j=>.int (i+j)))) bW) gQ))) aV) (aq (aJ 3 (az bC (ao ↥0 (ao ⇑6 ak)))) (aq (bb (b9 (cT (aL "tuple" ↥1)) (cT (w2 ↥3 ⇑0 eF))) (aw (w2 (aP (aN (ao (wB jM (ao ↥1 ak)) (ao (bZ ↥1 bW (bX (dR ⇑1))) (ao (w2 ↥1 (bZ ↥1 (bX (dR ⇑1)) bW) gQ) (ao (w2 ↥1 (aA (ao (az jx (ao ↥0 ak)) ak)) gQ) (ao (eV ↥1) ak))))))) (w2 ↥3 ⇑1 (cJ λi j=>.int (i-j))) aC)) aV) (aq (bb (b9 (cT (aL "int" ↥1)) (b9 (aI (cT (aL "bool" ↥1))) (cT (w2 ↥3 ⇑3 f6)))) (aw (w2 (aP (aN (ao (w2 ↥1 ⇑1 (cJ λi j=>.int (i+j))) (ao (w2 ↥1 ⇑1 (cJ λi j=>.int (i-j))) (ao (w2 ↥1 ⇑0 eF) ak))))) ↥3 aC)) aV) (aw (az jx (ao ↥0 ak)))))))
abbrev tU:aM:=(aq (aJ 2 (wC (.str "abcdefghijklmnopqrstuvwxyz"))) (aw (aO (aL "str" ↥0) (aO (cZ di di ⇑1 (wB aH (ao ↥0 ak)) ↥1) (wB bc (ao (aP (bo [af,ae 2] (fM ↥0) (aD 0) aG (w2 ↥0 ↥1 (jt ai)))) ak))))))
abbrev uC:aM:=(aw (aO (aL "int" ↥0) (aO (cY (aL "bool" ↥0)) (cZ di di ↥1 ↥0 ↥2))))
abbrev tD:aM:=(aq (bb (cI (aI (cT (aL "tuple" ↥0))) (aI (cT (cZ di di ⇑1 (wB aH (ao ↥0 ak)) ⇑4)))) (aw (wC (.bool ai))) aV) (aw (wB bc (ao (aP (bo [af] (bD ↥0) (aD 0) aG (eG (az mM (ao ↥0 (ao ⇑8 ak))) (az gG (ao ↥0 (ao ⇑0 (ao ⇑99 ak))))))) ak))))
abbrev uI:aM:=(aq (bb (cI (aI (cT (aL "tuple" ↥1))) (cI (cT (w2 (wB aH (ao ↥1 ak)) ⇑3 dM)) (aI (cT (az gG (ao (w2 ↥1 ⇑0 aC) (ao ⇑0 (ao (w2 (wB aH (ao ↥0 ak)) ⇑1 (cJ λi j=>.int (i-j))) ak)))))))) (aw (wC (.bool ai))) aV) (aq (bb (cI (aI (cT (az gG (ao (w2 ↥1 ⇑1 aC) (ao ⇑0 (ao (wB aH (ao (w2 (w2 ↥0 (w2 ↥1 ⇑0 aC) aC) ⇑1 aC) ak)) ak)))))) (aI (cT (aL "tuple" (w2 ↥1 ⇑2 aC))))) (aw (wC (.bool ai))) aV) (aq (bb (aI (cT (wB bc (ao (aP (bo [af] (bD (w2 ↥1 ⇑2 aC)) (aD 0) aG (aO (aL "tuple" ↥0) (aO (w2 (wB aH (ao ↥0 ak)) ⇑2 ck) (az iD (ao (bZ ↥0 (bX ⇑1) bW) ak)))))) ak)))) (aw (wC (.bool ai))) aV) (aw (w2 (aP (bo [af] (bD (w2 ↥1 ⇑2 aC)) (aD 0) aG (w2 ↥0 ⇑0 aC))) (az nM (ao ↥0 (ao (w2 ↥1 ⇑0 aC) (ao (w2 ↥1 ⇑1 aC) ak)))) (jc λd e=>ae (Bw d e)))))))
abbrev wA:aM:=(aq (bb (cI (aI (cT (aL "tuple" ↥1))) (cT (w2 (wB aH (ao ↥1 ak)) (wB aH (ao ↥0 ak)) dM))) (aw (wC (.bool ai))) aV) (aw (wB bc (ao (aP (bo [af,af] (iP ↥0 ↥1) (cz 2 (bB (aD 0) (bB (aD 1) b6))) aG (az oK (ao ↥0 (ao ↥1 ak))))) ak))))
abbrev yn:aM:=(aw (wB fO (ao (aP (bo [af] (bD ↥0) (aD 0) aG (aA (ao (wB je (ao (aL "str" ↥0) ak)) (ao ↥0 ak))))) ak)))
abbrev zg:aM:=(aq (aJ 2 (aP (pE n9 ↥1))) (nT (bo [af,ae 0] (fC ↥2) (aD 0) aG (aA (ao ↥0 (ao (w2 (aP (aN (ao ⇑1 (ao ⇑2 (ao (wC .none) (ao ⇑3 (ao (w2 ⇑10 ⇑9 (gI dB λi j=>.int (i ^ j.toNat))) (ao (wC .none) (ao (w2 (w2 ⇑10 ⇑9 (gI dB λi j=>.int (i ^ j.toNat))) ⇑1 (cJ λi j=>.int (i+j))) ak))))))))) (az bC (ao ↥1 (ao ⇑7 ak))) aC) ak))))))
abbrev zG:aM:=(aq (bb (cI (aI (cT (aL "tuple" ↥1))) (cI (cT (w2 (wB aH (ao ↥1 ak)) ⇑2 dM)) (aI (cT (az oi (ao ↥0 (ao (w2 ↥1 ⇑0 aC) ak))))))) (aw (wC (.bool ai))) aV) (aq (bb (aI (cT (aL "tuple" (w2 ↥1 ⇑1 aC)))) (aw (wC (.bool ai))) aV) (aq (br (bD (w2 ↥1 ⇑1 aC)) (aD 2) (aq (bb (cI (aI (cT (aL "tuple" ↥2))) (cI (cT (w2 (wB aH (ao ↥2 ak)) ⇑2 dM)) (aI (cT (az iD (ao (w2 ↥2 ⇑0 aC) ak)))))) (aw (wC (.bool ai))) aV) (bb (b9 (cT (w2 (w2 ↥2 ⇑1 aC) (wC .none) (bL ah))) (aI (cT (az gG (ao (w2 ↥2 ⇑1 aC) (ao ⇑1 (ao (w2 ⇑10 ⇑60 (gI dB λi j=>.int (i ^ j.toNat))) ak))))))) (aw (wC (.bool ai))) aV))) (aq (aJ 3 (aP (bo [af] (bD (w2 ↥1 ⇑1 aC)) (aD 0) aG (az n9 (ao (w2 ↥0 ⇑0 aC) ak))))) (aw (aO (w2 ↥3 (aP (zA ↥3)) (jc λd e=>ae (Bw d e))) (w2 (m3 ↥3) (wB aH (ao ↥3 ak)) ck)))))))
abbrev yI:aM:=(aq (aJ 2 (az sk (ao ↥1 ak))) (aq (br (dC ⇑10) (aD 3) (aq (d8 (az rJ (ao ↥1 (ao ↥2 (ao ⇑6 ak)))) (cz 2 (bB (aD 4) (bB (aD 5) b6)))) (aq (bu 6 (l9 pJ (ao ↥1 (ao ↥5 ak)))) (aq (aJ 7 (az bC (ao ↥1 (ao ⇑5 ak)))) (aq (bb (b9 (cT (w2 ↥7 ⇑1 bJ)) (cT (w2 (wB eB (ao (de 6) ak)) ⇑0 eF))) (aq (aJ 8 (az bC (ao ↥1 (ao (wB eB (ao (de 6) ak)) ak)))) (aq (aJ 9 (w2 (aP (aN (ao (eV (w2 (de 6) ↥8 aY)) (ao (aA (ao (w2 (w2 (de 6) ↥8 aY) ⇑0 aY) (ao ⇑0 ak))) (ao (aA (ao (w2 (w2 (de 6) ↥8 aY) ⇑0 aY) (ao ⇑7 ak))) (ao (w2 (de 6) ↥8 aY) ak)))))) (az bC (ao ↥1 (ao ⇑4 ak))) aY)) (gy 6 (az bC (ao ↥1 (ao (w2 (wB eB (ao (de 6) ak)) ⇑1 (cJ λi j=>.int (i+j))) ak))) ↥9))) aV) (aq (bb (cT (w2 ↥7 ⇑2 bJ)) (gH 6) aV) (aq (aJ 10 (aA (ao ↥4 (ao (wB eQ (ao (de 6) ak)) ak)))) (aq (bb (cT (w2 ↥7 ⇑2 eF)) (aJ 10 (az (gp 20) (ao ↥1 (ao ↥10 ak)))) aV) (aq (bb (cT (w2 ↥7 ⇑3 eF)) (aJ 10 (az (gp 20) (ao ↥1 (ao ↥10 ak)))) aV) (bb (cT (w2 (wB gU (ao (az lK (ao ↥2 (ao ↥10 ak))) ak)) (wB gU (ao (az nq (ao ↥2 (ao ↥10 ak))) ak)) dM)) (aw (wC (.bool ai))) aV)))))))))) (aw (wC (.bool ah)))))
theorem IS:∀ws n Q,a8 gh ws n Q->ws.length=1:=λ_ _ _ h=>e7 h
abbrev Zb:List Str:=["thing"]
theorem LH:∀ws n Q,a8 gh ws n Q->oQ (dh Zb ws) n {nx:=λ_ n=>Q (.d .none) n,rt:=Q}:=fc λd n K k=>by
 show oQ [ae (.w (.d d))] n K;unfold oQ;cases d<;>(simp only[aj,cz,bB,b6,bZ,bW,bX,wC,w2,cT,cZ,f7,cI,aI,aO,eG,cY,ak,ao,aP,az,wB,aV,aq,aw,bb,bS,ck,bL,aC,aH,aL,bc,bD,fM,bo,eD,aG,aD,dw,Fy,Cm,C5,B8,Dx,A5,Ck,Fj,ib,hX,iG,gx,iF];simpa[gh]using k)
theorem HY:∀ws n Q,jE ws n Q->ws.length=2:=λws n Q h=>by
 unfold jE at h
 split at h
 ·rfl
 ·exact h.elim
theorem O8:cq jE qt ["thing","longest"]:=λws n Q h=>by
 unfold jE at h
 split at h
 ·rename_i d k;show qt [ae (.w (.d d)),ae (.w (.d (.int k)))] n _;unfold qt;cases d with
  |str x=>
   simp only[aj,cz,bB,b6,bZ,bW,bX,wC,w2,cT,cZ,f7,cI,aI,aO,eG,cY,ak,ao,aP,az,wB,aV,aq,aw,bb,bS,ck,bL,aC,aH,aL,bc,bD,fM,bo,eD,aG,aD,dw,Fy,Cm,C5,B8,Dx,A5,Ck,Fj,ib,hX,iG,gx,iF];simp only[Fq,A9,if_false];simp only[bq]at h;refine jL (λe1=>?_) (λe1=>?_)
   ·refine jL (λe2=>?_) (λe2=>?_)
    ·rw[e1,e2,Cf,Cf]at h;exact AZ x h
    ·rw[e1,e2]at h;exact h
   ·rw[e1]at h;exact h
  |_=>simp only[aj,cz,bB,b6,bZ,bW,bX,wC,w2,cT,cZ,f7,cI,aI,aO,eG,cY,ak,ao,aP,az,wB,aV,aq,aw,bb,bS,ck,bL,aC,aH,aL,bc,bD,fM,bo,eD,aG,aD,dw,Fy,Cm,C5,B8,Dx,A5,Ck,Fj,ib,hX,iG,gx,iF];exact h
 ·exact h.elim
theorem HZ:∀ws n Q,a8 (bq 8) ws n Q->ws.length=1:=λ_ _ _ h=>e7 h
theorem Lx:∀ws n Q,a8 (bq 8) ws n Q->OR (dh Zb ws) n {nx:=λ_ n=>Q (.d .none) n,rt:=Q}:=fc λd n K k=>k
theorem Ij:∀ws n Q,a8 (bq 4) ws n Q->ws.length=1:=λ_ _ _ h=>e7 h
theorem LN:∀ws n Q,a8 (bq 4) ws n Q->O1 (dh Zb ws) n {nx:=λ_ n=>Q (.d .none) n,rt:=Q}:=fc λd n K k=>k
theorem N5:∀ws n Q,a8 fH ws n Q->ws.length=1:=λ_ _ _ h=>e7 h
theorem HM:∀ws n Q,a8 fH ws n Q->pP (dh Zb ws) n {nx:=λ_ n=>Q (.d .none) n,rt:=Q}:=fc λd n K k=>by
 show pP [ae (.w (.d d))] n K;unfold pP;simp only[aw,aO,az,ao,ak,aj,Cm,a8,f7,cZ,wC];exact vj k
theorem IY:∀ws n Q,a8 bP ws n Q->ws.length=1:=λ_ _ _ h=>e7 h
theorem Nc:∀ws n Q,a8 bP ws n Q->oX (dh Zb ws) n {nx:=λ_ n=>Q (.d .none) n,rt:=Q}:=fc λd n K k=>by
 show oX [ae (.w (.d d))] n K;unfold oX;simp only[aj,cz,bB,b6,bZ,bW,bX,wC,w2,cT,cZ,f7,cI,aI,aO,eG,cY,ak,ao,aP,az,wB,aV,aq,aw,bb,bS,ck,bL,aC,aH,aL,bc,bD,fM,bo,eD,aG,aD,dw,Fy,Cm,C5,B8,Dx,A5,Ck,Fj,ib,hX,iG,gx,iF,a8];exact tX (F:=λb=>K.rt (.d (.bool b)) n) k id
theorem HP:∀ws n Q,a8 bG ws n Q->ws.length=1:=λ_ _ _ h=>e7 h
theorem Ke:∀ws n Q,a8 bG ws n Q->rY (dh Zb ws) n {nx:=λ_ n=>Q (.d .none) n,rt:=Q}:=fc λd n K k=>by
 show rY [ae (.w (.d d))] n K;unfold rY;cases d with
 |tuple ds=>
  simp only[bG]at k;simp only[aj,cz,bB,b6,bZ,bW,bX,wC,w2,cT,cZ,f7,cI,aI,aO,eG,cY,ak,ao,aP,az,wB,aV,aq,aw,bb,bS,ck,bL,aC,aH,aL,bc,bD,fM,bo,eD,aG,aD,dw,Fy,Cm,C5,B8,Dx,A5,Ck,Fj,ib,hX,iG,gx,iF];simp only[Fq,A9,if_false];refine jL (λe1=>?_) (λe1=>?_)
  ·refine jL (λe2=>?_) (λe2=>?_)
   ·rw[e1,e2,Cf,Cf]at k;exact DZ ds k
   ·rw[e1,e2]at k;exact k
  ·rw[e1]at k;exact k
 |_=>simp only[aj,cz,bB,b6,bZ,bW,bX,wC,w2,cT,cZ,f7,cI,aI,aO,eG,cY,ak,ao,aP,az,wB,aV,aq,aw,bb,bS,ck,bL,aC,aH,aL,bc,bD,fM,bo,eD,aG,aD,dw,Fy,Cm,C5,B8,Dx,A5,Ck,Fj,ib,hX,iG,gx,iF];exact k
theorem LL:∀ws n Q,a8 fP ws n Q->ws.length=1:=λ_ _ _ h=>e7 h
theorem LX:∀ws n Q,a8 fP ws n Q->qJ (dh Zb ws) n {nx:=λ_ n=>Q (.d .none) n,rt:=Q}:=fc λd n K k=>by
 show qJ [ae (.w (.d d))] n K;unfold qJ;simp only[aw,eG,w2,aO,az,ao,ak,aj,Cm,a8,f7,cZ,wC,bL,A9,if_false];exact tX (F:=λb=>K.rt (.d (.bool b)) n) k vj
theorem NT:∀ws n Q,a8 fB ws n Q->ws.length=1:=λ_ _ _ h=>e7 h
theorem Ov:∀ws n Q,a8 fB ws n Q->rg (dh Zb ws) n {nx:=λ_ n=>Q (.d .none) n,rt:=Q}:=fc λd n K k=>by
 show rg [ae (.w (.d d))] n K;unfold rg;cases d with
 |tuple ds=>
  simp only[aj,cz,bB,b6,bZ,bW,bX,wC,w2,cT,cZ,f7,cI,aI,aO,eG,cY,ak,ao,aP,az,wB,aV,aq,aw,bb,bS,ck,bL,aC,aH,aL,bc,bD,fM,bo,eD,aG,aD,dw,Fy,Cm,C5,B8,Dx,A5,Ck,Fj,ib,hX,iG,gx,iF,a8,mw];rcases ds with _|⟨a,_|⟨b,_|⟨c,r⟩⟩⟩
  ·exact k
  ·exact k
  ·show if bG a=ah then K.rt (.d (.bool (fP b))) n else K.rt (.d (.bool ai)) n
   exact BL (F:=λb=>K.rt (.d (.bool b)) n) k λ_ z=>z
  ·have e:decide (((a::b::c::r).length:Int)=2)=ai:=decide_eq_false (by simp only[Ax];omega);simp only[if_true,e,A9,if_false];exact k
 |_=>simp only[aj,cz,bB,b6,bZ,bW,bX,wC,w2,cT,cZ,f7,cI,aI,aO,eG,cY,ak,ao,aP,az,wB,aV,aq,aw,bb,bS,ck,bL,aC,aH,aL,bc,bD,fM,bo,eD,aG,aD,dw,Fy,Cm,C5,B8,Dx,A5,Ck,Fj,ib,hX,iG,gx,iF];exact k
section
variable{δ:Sl}{n:Int}{Q:DQ}{K:DEnds}{W V:aM}{i j:Nat}{ds:List Ab}
theorem cn{u v:DT}{a b:Bool}(hu:∀Q:DQ,Q (.d (.bool a)) n->u δ n Q)(hv:a=ah->∀Q:DQ,Q (.d (.bool b)) n->v δ n Q)(k:Q (.d (.bool (a&&b))) n):aO u v δ n Q:=by
 refine hu _ ?_;cases a with
 |true=>exact hv rfl _ k
 |false=>exact k
theorem ik{u v:DT}{a b:Bool}(hu:∀Q:DQ,Q (.d (.bool a)) n->u δ n Q)(hv:a=ai->∀Q:DQ,Q (.d (.bool b)) n->v δ n Q)(k:Q (.d (.bool (a || b))) n):eG u v δ n Q:=by
 refine hu _ ?_;cases a with
 |false=>exact hv rfl _ k
 |true=>exact k
theorem aR{u v:cj}{a b:Bool}{Q:Bool->Int->Prop}(hu:∀Q:Bool->Int->Prop,Q a n->u δ n Q)(hv:a=ai->∀Q:Bool->Int->Prop,Q b n->v δ n Q)(k:Q (a || b) n):cI u v δ n Q:=by
 refine hu _ ?_;cases a with
 |false=>exact hv rfl _ k
 |true=>exact k
theorem eU{u v:cj}{a b:Bool}{Q:Bool->Int->Prop}(hu:∀Q:Bool->Int->Prop,Q a n->u δ n Q)(hv:a=ah->∀Q:Bool->Int->Prop,Q b n->v δ n Q)(k:Q (a&&b) n):b9 u v δ n Q:=by
 refine hu _ ?_;cases a with
 |true=>exact hv rfl _ k
 |false=>exact k
theorem lX{C:cj}{b:Bool}(hc:∀Q:Bool->Int->Prop,Q b n->C δ n Q)(hT:b=ah->W δ n K)(hF:b=ai->V δ n K):bb C W V δ n K:=by
 refine hc _ ?_;cases b with
 |true=>exact hT rfl
 |false=>exact hF rfl
theorem du{w:DT}{g:Ab->Bool}{d:Ab}(hw:∀Q:DQ,Q (.d d) n->w δ n Q):∀Q:DQ,Q (.d (.bool (g d))) n->az (a8 g) (ao w ak) δ n Q:=λQ q=>bM (hw _ q)
end
section
variable{δ:Sl}{n:Int}{Q:DQ}{K:DEnds}{W V:aM}{i j:Nat}{ds:List Ab}
theorem fV{T:String}{w:DT}{d:Ab}(hw:∀Q:DQ,Q (.d d) n->w δ n Q):∀Q:DQ,Q (.d (.bool (bE T d))) n->aL T w δ n Q:=λQ q=>hw _ q
end
theorem vv{d:Ab}(h:bE "tuple" d=ah):∃ds,d=.tuple ds:=by
 rw[gx]at h;cases d with
 |tuple ds=>exact⟨ds,rfl⟩
 |_=>cases h
section
variable{δ:Sl}{n:Int}{i:Nat}{ds:List Ab}
theorem bH(e:δ[i]?=ae (ae (.w (.d (.tuple ds))))):∀Q:Bool->Int->Prop,Q ai n->aI (cT (aL "tuple" (aj i))) δ n Q:=λQ q=>cL (k:=ah) (λQ q=>aB (λQ q=>iJ e q) q) q
end
def i9(x y:Str):Bool:=decide (x.cps.toList < y.cps.toList)
theorem slin:Lin i9 where
 asym:=λa b h=>vlin.asym (.inr a) (.inr b) h
 ntr:=λa b c h g=>vlin.ntr (.inr a) (.inr b) (.inr c) h g
 tot:=λa b h g=>Sum.inr.inj (vlin.tot (.inr a) (.inr b) h g)
theorem yp:∀ks:List Str,mF (ks.map .str)=ah↔ks.Pairwise λa b=>i9 a b=ah
 |[]=>⟨λ_=>.nil,λ_=>rfl⟩
 |[_]=>⟨λ_=>Ei _ _,λ_=>rfl⟩
 |a::b::r=>by
  have ih:=yp (b::r);have e:mF ((a::b::r).map .str)=(i9 a b&&mF ((b::r).map .str)):=rfl;rw[e,Ay,ih,Dy (a:=a)];refine⟨λh=>⟨λc hc=>?_,h.2⟩,λh=>⟨h.1 b Am,h.2⟩⟩;rcases Al.mp hc with rfl|hc
  ·exact h.1
  ·exact slin.tr1 h.1 (slin.asym _ _ ((Dy.mp h.2).1 c hc))
theorem yX:∀{xs ys:List Str},(xs.Pairwise λa b=>i9 a b=ah)->(ys.Pairwise λa b=>i9 a b=ah)->(∀k,k∈xs↔k∈ys)->xs=ys
 |[],[],_,_,_=>rfl
 |[],y::ys,_,_,h=>absurd ((h y).mpr Am) (by simp)
 |x::xs,[],_,_,h=>absurd ((h x).mp Am) (by simp)
 |a::as,b::bs,h,g,m=>by
  obtain⟨h1,h2⟩:=Dy.mp h;obtain⟨g1,g2⟩:=Dy.mp g;have e:a=b:=by
   rcases Al.mp ((m a).mp Am)with e|ma
   ·exact e
   ·rcases Al.mp ((m b).mpr Am)with e|mb
    ·exact e.symm
    ·have:=slin.asym _ _ (h1 b mb);rw[g1 a ma]at this;cases this
  subst e;rw[yX h2 g2 λk=>⟨λhk=>?_,λhk=>?_⟩]
  ·rcases Al.mp ((m k).mp (Ar _ hk))with e|q
   ·subst e;have:=slin.irr k;rw[h1 k hk]at this;cases this
   ·exact q
  ·rcases Al.mp ((m k).mpr (Ar _ hk))with e|q
   ·subst e;have:=slin.irr k;rw[g1 k hk]at this;cases this
   ·exact q
theorem vd:∀a b:List Str,B3 (a.map .str) (b.map .str)=decide (a=b)
 |[],[]=>by simp[B3]
 |[],_::_=>by simp[B3]
 |_::_,[]=>by simp[B3]
 |x::a,y::b=>by
  rw[A5,A5,B3,vd a b,Bw,qO];by_cases h1:x=y<;>by_cases h2:a=b<;>simp[h1,h2]
theorem Th.lay{L k:Nat}{d:Ab}(h:Th L k d):Bm d=ah/\Ce d<=k:=by
 have key:∀{k:Nat}(ds:List Ab),(∀d∈ds,Bm d=ah/\Ce d<=k)->Cb ds=ah/\Cj ds<=k:=by
  intro k ds
  induction ds with
  |nil=>exact λ_=>⟨rfl,Bc _⟩
  |cons x r ih=>
   intro h;obtain⟨a1,a2⟩:=ih λd hd=>h d (Ar _ hd);obtain⟨b1,b2⟩:=h x Am;exact⟨by rw[Cb,a1,b1];rfl,by rw[Cj];omega⟩
 induction h with
 |non=>exact⟨rfl,Bc _⟩
 |bool b=>exact⟨rfl,Bc _⟩
 |int i _ _=>exact⟨rfl,Bc _⟩
 |str x _ h=>exact⟨by rw[Bm];exact h,Bc _⟩
 |list _ _ ih=>
  obtain⟨a1,a2⟩:=key _ ih;exact⟨by rw[Bm];exact a1,by rw[Ce];omega⟩
 |tuple _ _ ih=>
  obtain⟨a1,a2⟩:=key _ ih;exact⟨by rw[Bm];exact a1,by rw[Ce];omega⟩
theorem EU{s:Str}{k:Int}(h:bq k (.str s)=ah):(s.length:Int)<=k:=by
 unfold bq at h;simp only[Ay,decide_eq_true_eq]at h;exact h.2.1
theorem Th.mem{L k:Nat}{ds:List Ab}(h:Th L k (.tuple ds)):∀d∈ds,Th L (k-1) d:=by
 cases h with
 |tuple h1 h2=>exact h2
theorem zT{P:Ab->Prop}{l:List Ab}{x:Ab}(h:∀d∈l,P d)(hx:P x):∀d∈l++[x],P d:=λd hd=>(A6.mp hd).elim (h d) λz=>by rw[A8.mp z];exact hx
theorem vo{ds:List Ab}{a b:Option Int}{x:Ab}(h:x∈bg ds a b):x∈ds:=List.mem_of_mem_drop (E6 h)
theorem EB(ds:List Ab)(j:Nat):(bg ds af (ae (j:Int))).length<=min j ds.length:=by
 unfold bg;rw[HT.sIx_nat,HT.sIx_none,C4];omega
theorem GN(ds:List Ab)(j:Nat):(bg ds (ae (j:Int)) af).length<=ds.length-j:=by
 unfold bg;rw[HT.sIx_nat,HT.sIx_none,C4];omega
theorem Pl(ds:List Ab)(j:Nat):(bg ds (ae (j:Int)) (ae ((j:Int)+1))).length<=1:=by
 unfold bg;rw[show((j:Int)+1)=((j+1:Nat):Int) by omega,HT.sIx_nat,HT.sIx_nat,C4];omega
theorem Ik(ds:List Ab)(j:Nat):(bg ds (ae ((j:Int)+1)) af).length<=ds.length-(j+1):=by
 rw[show((j:Int)+1)=((j+1:Nat):Int) by omega];exact GN ds (j+1)
section
variable{δ:Sl}{n:Int}{Q:DQ}{ds:List Ab}{j:Int}
theorem oR(e1:δ[1]?=ae (ae (.w (.d (.tuple ds)))))(e2:δ[2]?=ae (ae (.w (.d (.int j)))))(k:Q (.d (.tuple (bg ds af (ae j)))) n):bZ ↥1 bW (bX ↥2) δ n Q:=by
 unfold bZ bW bX;exact au e1 (au e2 k)
theorem GL(e1:δ[1]?=ae (ae (.w (.d (.tuple ds)))))(e2:δ[2]?=ae (ae (.w (.d (.int j)))))(k:Q (.d (.tuple (bg ds (ae (j+1)) af))) n):bZ ↥1 (bX (w2 ↥2 ⇑1 (cJ λi j=>.int (i+j)))) bW δ n Q:=by
 unfold bZ bW bX;exact au e1 (ar (au e2 (aE k)))
theorem Po{a b c d:DT}{Q:List Ab->Int->Prop}(k:a δ n λx n1=>b δ n1 λy n2=>c δ n2 λz n3=>d δ n3 λu n4=>match dw [x,y,z,u]with
  |some ds=>ds.length<=1000/\Q ds n4
  |none=>False):aN (ao a (ao b (ao c (ao d ak)))) δ n Q:=k
theorem z0{w:DT}(k:w δ n λx n1=>match dw [x]with
  |some ds=>ds.length<=1000/\Q (.d (.tuple ds)) n1
  |none=>False):aA (ao w ak) δ n Q:=k
theorem GA{i:Nat}(e:δ[i]?=ae (ae (.w (.d (.tuple ds)))))(k:Q (.d (.tuple ds.reverse)) n):eV (aj i) δ n Q:=by
 unfold eV;exact au e k
theorem Kb{i:Nat}(e:δ[i]?=ae (ae (.w (.d (.tuple ds)))))(k:Q (.d (.list ds)) n):wB jM (ao (aj i) ak) δ n Q:=aU (au e k)
end
abbrev Zf:List Str:=["_law_tape_here"]
theorem Ot:cq gV zY Zf:=λws n Q h=>by
 obtain⟨rfl,hn,k⟩:=h;show zY [ae (.w .tp)] n _;refine aZ (ar (a9 (Ak ∎ ?_)));dsimp only;refine gN (m:=8) rfl ⋯ ∎ ∎ λr h0 h1=>jv (ds:=[.str "a",.int 9,.int 10,.int 1,.str "ab",.str "go",.int 99,.int 0]) h0 h1 λd hd=>k d ?_;simp only[Al,A3,or_false]at hd;rcases hd with rfl|rfl|rfl|rfl|rfl|rfl|rfl|rfl<;>simp[oh]
theorem Jr:cq j9 tH Zf:=λws n Q h=>by
 obtain⟨rfl,hn,k⟩:=h;show tH [ae (.w .tp)] n _;refine aZ (ar (a9 (Ak ∎ ?_)));dsimp only;refine gN (m:=7) rfl ⋯ ∎ ∎ λr h0 h1=>jv (ds:=[.int 1,.int 2,.int 2,.int 2,.int 1,.int 3,.int 4]) h0 h1 λd hd=>?_;simp only[Al,A3,or_false]at hd;rcases hd with rfl|rfl|rfl|rfl|rfl|rfl|rfl
 ·exact k 1 ∎ ∎
 ·exact k 2 ∎ ∎
 ·exact k 2 ∎ ∎
 ·exact k 2 ∎ ∎
 ·exact k 1 ∎ ∎
 ·exact k 3 ∎ ∎
 ·exact k 4 ∎ ∎
theorem zr{δ:Sl}{n:Int}{K:DEnds}{W:aM}{g:dO}(e:δ[0]?=ae (ae (.w .tp)))(hn:n < 2 ^ 39)(k:∀m:Nat,1<=m->m<=4->ee g W K (cy 0 m) δ (n+1)):br (dC (az j9 (ao ↥0 ak))) g W δ n K:=by
 unfold br dC;refine bM (au e (Ak rfl ⟨hn,λm h1 h4=>?_⟩));refine Ak ⟨by omega,by omega⟩ ?_;rw[B9];exact k m h1 h4
theorem pS{c:cj}{w:DT}{Q:List Ab->Int->Prop}{rest:Sl}(g:Fe->Option Ab)(hno:∀(f:Fe) (n:Int) (Q':Bool->Int->Prop),g f=af->Q' ai n->c (ae (.w (.d f.d))::rest) n Q')
  (hyes:∀(f:Fe)(n:Int)(Q':Bool->Int->Prop)(y:Ab),g f=ae y->Q' ah n->c (ae (.w (.d f.d))::rest) n Q') (hw:∀(f:Fe)(n:Int)(Q':DQ)(y:Ab),g f=ae y->Q' (.d y) n->w (ae (.w (.d f.d))::rest) n Q'):
  ∀(fs:List Fe)(acc:List Ab)(x:Option SV)(n:Int),Q (acc++fs.filterMap g) n->bN (aD 0) c w Q (fs.map Fe.d) acc (x::rest) n
 |[],acc,x,n,q=>by
  rw[List.filterMap_nil,Bv]at q;exact q
 |f::r,acc,x,n,q=>by
  rw[A5];simp only[bN,aD,B8];cases e:g f with
  |none=>
   refine hno f n _ e ?_;rw[if_neg Au];refine pS g hno hyes hw r acc _ n ?_;rw[List.filterMap_cons_none e]at q;exact q
  |some y=>
   refine hyes f n _ y e ?_;rw[if_pos rfl];refine hw f n _ y e ?_;refine pS g hno hyes hw r (acc++[y]) _ n ?_;rw[List.filterMap_cons_some e]at q;rw[Bu];exact q
def iy(o:Option Str):Option Ab:=o.map .str
theorem Kh(g:Fe->Option Str)(fs:List Fe):fs.filterMap (λf=>iy (g f))=(fs.filterMap g).map .str:=by
 rw[List.map_filterMap];rfl
theorem JH(f:Fe):eZ "bind" (.str f.hd)=f.bd.isSome:=by
 cases f with
 |any=>exact(show eZ "bind" (.str "any")=ai by decide +kernel)
 |word=>exact(show eZ "bind" (.str "word")=ai by decide +kernel)
 |num=>exact(show eZ "bind" (.str "number")=ai by decide +kernel)
 |isv _=>exact(show eZ "bind" (.str "is")=ai by decide +kernel)
 |bind _=>exact(show eZ "bind" (.str "bind")=ah by decide +kernel)
 |as _=>exact(show eZ "bind" (.str "as")=ai by decide +kernel)
 |nx _=>exact(show eZ "bind" (.str "next")=ai by decide +kernel)
theorem KL{f:Fe}{k:Str}(h:f.bd=ae k):f.d=.tuple [.str f.hd,.str k]:=by
 cases f<;>cases h;rfl
theorem ug{o:Option Str}{y:Ab}(h:iy o=ae y):∃k,o=ae k/\y=.str k:=by
 cases o with
 |none=>cases h
 |some k=>cases h;exact⟨k,rfl,rfl⟩
theorem Jc{o:Option Str}(h:iy o=af):o=af:=by
 cases o with
 |none=>rfl
 |some k=>cases h
theorem kP{fs:List Fe}(h:dJ fs):∀k∈bf fs,dQ k:=λk hk=>by
 obtain⟨f,hf,e⟩:=List.mem_filterMap.mp hk;have:=h.2 f hf;cases f<;>cases e;exact this
theorem kc{fs:List Fe}(h:dJ fs):(bf fs).length<=4:=B7 (List.length_filterMap_le _ _) h.1
theorem Lu{δ:Sl}{n:Int}{Q:DQ}{a b:Ab}(e:δ[0]?=ae (ae (.w (.d (.tuple [a,b])))))(k:Q (.d b) n):w2 ↥0 (wC (.int 1)) aC δ n Q:=d3 (r:=[]) e k
theorem uy{f:Fe}{rest:Sl}{n:Int}{Q':Bool->Int->Prop}(k:Q' f.bd.isSome n):cT (w2 (w2 ↥0 (wC (.int 0)) aC) (wC (.str "bind")) ck) (ae (.w (.d f.d))::rest) n Q':=by
 refine OW (i:=0) (a:=.str f.hd) (r:=f.tl) rfl ?_;show Q' (eZ "bind" (.str f.hd)) n;rw[JH];exact k
theorem zv{Q:List Ab->Int->Prop}(fs:List Fe)(n:Int)(k:Q ((bf fs).map .str) n):
  bN (aD 0) (cT (w2 (w2 ↥0 (wC (.int 0)) aC) (wC (.str "bind")) ck)) (w2 ↥0 (wC (.int 1)) aC) Q (fs.map Fe.d) [] [af] n:=by
 refine pS (λf=>iy f.bd) (λf n Q' e q=>uy ?_) (λf n Q' y e q=>uy ?_) (λf n Q' y e q=>?_) fs [] af n ?_
 ·rw[Jc e];exact q
 ·obtain⟨x,e1,_⟩:=ug e;rw[e1];exact q
 ·obtain⟨x,e1,rfl⟩:=ug e;exact Lu (by rw[KL e1];rfl) q
 ·rw[Kh];exact k
theorem wM{δ:Sl}{n:Int}{hs:List Str}{w:DT}{s:Str}{b:Bool}{Q:Bool->Int->Prop}(hw:∀Q:DQ,Q (.d (.str s)) n->w δ n Q)(e:cQ (.str s) (hs.map .str)=b)(q:Q b n):cT (fN hs w) δ n Q:=hw _ (Ak rfl (by show Q (cQ (.str s) (hs.map .str)) n;rw[e];exact q))
theorem qL{a:Ac}(h:dJ a.fs):(∀k∈a.bs,dQ k)/\a.bs.length<=4:=by
 cases a with
 |take fs=>exact⟨kP h,kc h⟩
 |read fs=>exact⟨kP h,kc h⟩
 |look fs b=>exact⟨kP h,kc h⟩
 |lay fs b=>exact⟨λk hk=>by simp[Ac.bs]at hk,by simp[Ac.bs]⟩
 |same f g b=>exact⟨λk hk=>by simp[Ac.bs]at hk,by simp[Ac.bs]⟩
 |go b=>exact⟨λk hk=>by simp[Ac.bs]at hk,by simp[Ac.bs]⟩
theorem rO:∀{ys ks:List Str},ys.Nodup->(∀k∈ys,k∈ks)->ys.length<=ks.length
 |[],_,_,_=>Bc _
 |y::ys,ks,h,hs=>by
  obtain⟨h1,h2⟩:=Ek.mp h;have hm:=hs y Am;have:=rO (ks:=ks.erase y) h2 λk hk=>(List.mem_erase_of_ne (λ(e:k=y)=>h1 (e▸hk))).mpr (hs k (Ar _ hk));rw[List.length_erase_of_mem hm]at this;have:=List.length_pos_of_mem hm;rw[Ax];omega
structure KnI(w:List Str)(dn:List Ac)(L:List Str):Prop where
 mem:∀k,k∈L↔k∈w++dn.flatMap Ac.bs
 len:L.length<=4+4*dn.length
 ok:∀k∈L,dQ k
theorem KnI.first{w:List Str}(h:w.length<=4)(ok:∀k∈w,dQ k):KnI w [] w:=⟨λk=>by simp,by simpa using h,ok⟩
theorem KnI.skip{w L:List Str}{dn:List Ac}{a:Ac}(I:KnI w dn L)(e:a.bs=[]):KnI w (dn++[a]) L:=
 ⟨λk=>by rw[I.mem k,List.flatMap_append];simp[e],by rw[Ao,Ba];have:=I.len;omega,I.ok⟩
theorem KnI.more{w L ys:List Str}{dn:List Ac}{a:Ac}(I:KnI w dn L)(h:∀k,k∈ys↔k∈a.bs)(hl:ys.length<=4)(ok:dJ a.fs):KnI w (dn++[a]) (L++ys):=
 ⟨λk=>by rw[A6,I.mem k,h k,List.flatMap_append,<-Bu];simp[or_assoc],by rw[Ao,Ao,Ba];have:=I.len;omega,λk hk=>by
  rcases A6.mp hk with z|z
  ·exact I.ok k z
  ·exact(qL ok).1 k ((h k).mp z)⟩
theorem lr{v:Ab}(h:v∈oh):hV v=ah:=by
 simp only[oh,Al,A3,or_false]at h;rcases h with rfl|rfl|rfl|rfl|rfl|rfl|rfl|rfl<;>decide +kernel
theorem K2{v:Wv}{a b:List Ab}{n:Int}{Q:DQ}(hv:gB v=ae a)(hl:a.length+b.length<=A2)(q:Q (.d (.list (a++b))) n):eT v (.ln b) n Q:=by
 unfold eT;rw[hv];exact⟨hl,q⟩
theorem xi{δ:Sl}{n:Int}{Q:DQ}(e0:δ[0]?=ae (ae (.w .tp)))(h:n < 2 ^ 39)(k:∀v∈jh,Q (.d v) (n+1)):w2 (dG 0) (az bC (ao ↥0 (ao (wB eB (ao (dG 0) ak)) ak))) aY δ n Q:=by
 have ht:∀(n:Int)(Q:DQ),Q (.ln jh) n->dG 0 δ n Q:=λn Q q=>by unfold dG;rw[e0];exact q
 exact ar (ht _ _ (gz (m:=7) e0 (λQ q=>aU (ht _ _ q)) ⋯ ∎ ∎ λr h0 h1=>rB h0 h1 k))
theorem OU(f:Fe)(r:List Fe):bf (f::r)=f.bd.toList++bf r:=by cases f<;>rfl
theorem MA(fs:List Fe)(f:Fe):bf (fs++[f])=bf fs++f.bd.toList:=by
 unfold bf;rw[List.filterMap_append];cases f<;>rfl
theorem sE:∀{fs:List Fe}{ks:List Str}{f:Fe},rF ks fs->(∀k,f.us=ae k->k∈ks++bf fs)->rF ks (fs++[f])
 |[],ks,f,_,h=>⟨λk hk=>by simpa[bf]using h k hk,trivial⟩
 |g::r,ks,f,h1,h2=>⟨h1.1,sE h1.2 λk hk=>by
  have:=h2 k hk;rw[OU,<-Bu]at this;exact this⟩
theorem pj{f:Ab}{ks:List Str}(h:f∈ks.map .str):∃s∈ks,f=.str s:=by
 obtain⟨s,hs,rfl⟩:=Bk.mp h;exact⟨s,hs,rfl⟩
def qG(kv:Wv)(ks:List Str)(n0:Int)(ds:List Ab)(δ:Sl)(n:Int):Prop:=∃(fs:List Fe)(x y z u:Option SV),δ=[ae (.w .tp),ae (.w kv),ae (.own (fs.map Fe.d)),ae (.own ((bf fs).map .str)),x,y,z,u]/\1<=fs.length+ds.length/\fs.length+ds.length<=4/\(∀f∈fs,f.ok/\f.pt=ah)/\rF ks fs/\n+2*(ds.length:Int)<=n0+9
theorem GD:cq rp vE ["_law_tape_here","_law_known_here","_law_fields","_law_bound","_law_k","_law_way","_law_some","_law_name"]:=λws n0 Q h=>by
 obtain⟨ks,kv,rfl,hkv,hks,hok,hn0,k⟩:=h;show vE [ae (.w .tp),ae (.w kv),af,af,af,af,af,af] n0 _;refine aF (jF ?_);dsimp only[Bg];refine aF (jF ?_);dsimp only[Bg];refine aF (zr rfl ⋯ λm h1 h4=>?_);refine fR (qG kv ks n0) (λδ n I=>?_) (λd r δ n N I kN=>?_) _ _ _ ⟨[],af,af,af,af,rfl,by rw[eC];simpa using h1,by rw[eC];simpa using h4,λf hf=>(by simp at hf),trivial,by rw[eC];omega⟩
 ·obtain⟨fs,x,y,z,u,rfl,hf1,hf,hfo,hr,hn⟩:=I;dsimp only;refine gC rfl ?_;dsimp only[Bg];refine gC rfl ?_;dsimp only[Bg];exact aZ (df (aU (au rfl (jl (au rfl (Ak (show 2<=1000 by decide) (k fs n (by simpa using hf1) ⟨by simpa using hf,λf z=>(hfo f z).1⟩ (λf z=>(hfo f z).2) hr (by simpa using hn))))))))
 ·obtain⟨fs,x,y,z,u,rfl,hf1,hf,hfo,hr,hn⟩:=I;rw[Ax]at hf1 hf hn;dsimp only[aD,Bg];have hfl:(fs.map Fe.d).length < 1000000:=by rw[Ad];omega
  have hbl:(bf fs).length<=4:=B7 (List.length_filterMap_le _ _) ⋯;have hbo:∀s∈ks++bf fs,dQ s:=λs hs=>(A6.mp hs).elim (hok s) λz=>kP (fs:=fs) ⟨by omega,λf z=>(hfo f z).1⟩ s z;have nxt:∀(f:Fe)(n':Int)(y z u:Option SV)(B:List Ab),f.ok/\f.pt=ah->(∀k,f.us=ae k->k∈ks++bf fs)->n'<=n+2->B=(bf fs).map .str++f.bd.toList.map .str->N [ae (.w .tp),ae (.w kv),ae (.own (fs.map Fe.d++[f.d])),ae (.own B),ae (.w (.d d)),y,z,u] n':=λf n' y z u B fo fu hn' hB=>
   kN _ _ ⟨fs++[f],ae (.w (.d d)),y,z,u,by rw[hB,Cy,MA,Cy];rfl,by rw[Ao,Ba];omega,by rw[Ao,Ba];omega,λg hg=>(A6.mp hg).elim (hfo g) λz=>by rw[A8]at z;subst z;exact fo,sE hr fu,by omega⟩
  have nxtN:∀(f:Fe)(n':Int)(y z u:Option SV),f.bd=af->f.ok/\f.pt=ah->(∀k,f.us=ae k->k∈ks++bf fs)->n'<=n+2->N [ae (.w .tp),ae (.w kv),ae (.own (fs.map Fe.d++[f.d])),ae (.own ((bf fs).map .str)),ae (.w (.d d)),y,z,u] n':=λf n' y z u fb fo fu hn'=>
   nxt f n' y z u _ fo fu hn' (by rw[fb];exact(Bv _).symm)
  refine aF (nN (m:=9) rfl ⋯ ∎ ∎ λw w0 w1=>?_);dsimp only[Bg];refine aF (hU (x:=.list (ks.map .str++(bf fs).map .str)) (λQ q=>ar (au rfl (gv rfl (K2 hkv (mO (by rw[Ad];omega) (by rw[Ad];omega)) q)))) ?_);dsimp only[Bg];refine jk rfl (λhw=>?_) (λhw=>?_)
  ·refine iI rfl (df (aE (bM (au rfl (Ak rfl ⟨by omega,λv hv=>?_⟩)))));exact Ak (show 2<=1000 by decide) (Ak hfl (nxtN (.isv v) _ _ _ _ rfl ⟨lr hv,rfl⟩ (λk hk=>by cases hk) ⋯))
  ·refine jk rfl (λhw6=>?_) (λhw6=>?_)
   ·refine iI rfl (ar (a9 (Ak ∎ (Ak ∎ (Ak ∎ (Ak ∎ ?_))))));dsimp only;refine ar (au rfl (aE ?_));dsimp only[cJ];refine gO (ds:=[.tuple [.str "any"],.tuple [.str "word"],.tuple [.str "number"]]) (r:=w-3) ⋯ (show w-3 < 3 by omega) λf hf'=>?_;simp only[Al,A3,or_false]at hf';rcases hf' with rfl|rfl|rfl
    ·exact Ak hfl (nxtN .any _ _ _ _ rfl ⟨trivial,rfl⟩ (λk hk=>by cases hk) ⋯)
    ·exact Ak hfl (nxtN .word _ _ _ _ rfl ⟨trivial,rfl⟩ (λk hk=>by cases hk) ⋯)
    ·exact Ak hfl (nxtN .num _ _ _ _ rfl ⟨trivial,rfl⟩ (λk hk=>by cases hk) ⋯)
   ·have bind:∀(K:DEnds)(L:List Ab),(∀δ n,N δ n->K.nx δ n)->aq (aJ 7 (w2 (aP (aN (ao (wC (.str "n")) (ao (wC (.str "nm")) (ao (wC (.str "go")) (ao (wC (.str "m")) ak)))))) (az bC (ao ↥0 (ao ⇑4 ak))) aY)) (aq (bw 3 ↥7) (bw 2 (aA (ao (wC (.str "bind")) (ao ↥7 ak)))))
      [ae (.w .tp),ae (.w kv),ae (.own (fs.map Fe.d)),ae (.own ((bf fs).map .str)),ae (.w (.d d)),ae (.w (.d (.int w))),ae (.w (.d (.list L))),u] (n+1) K:=λK L hK=>by
     refine aF (show w2 _ _ _ _ _ _ from ar (a9 (Ak ∎ ?_)));dsimp only;refine gN (m:=4) rfl ⋯ ∎ ∎ λr r0 r1=>gO (ds:=[.str "n",.str "nm",.str "go",.str "m"]) r0 r1 λf hf'=>?_;have:∃s:Str,f=.str s/\dQ s:=by
      simp only[Al,A3,or_false]at hf';rcases hf' with rfl|rfl|rfl|rfl<;>exact⟨_,rfl,by decide +kernel,by decide +kernel,by decide +kernel⟩
     obtain⟨s,rfl,so⟩:=this;dsimp only[Bg];refine aF (oO rfl (λQ q=>au rfl q) (by rw[Ad];omega) ?_);dsimp only[Bg];refine oO (x:=.tuple [.str "bind",.str s]) rfl (λQ q=>df (aE (au rfl (Ak (show 2<=1000 by decide) q)))) hfl (hK _ _ ?_);exact nxt (.bind s) (n+1+1) _ _ _ _ ⟨so,rfl⟩ (λk hk=>by cases hk) ⋯ rfl
    by_cases hw8:w < 8
    ·refine aW (λQ q=>rX (λQ q=>aB (k:=ah) (λQ q=>ar (au rfl (aE ?_))) q) q) (bind _ _ λ_ _ z=>z);show Q (.d (.bool (decide (w < 8)))) _;rw[decide_eq_true hw8];exact q
    ·have hmem:∀f∈ks.map D9++(bf fs).map D9,∃s∈ks++bf fs,f=.str s:=λf hf=>pj (by rw[Cy];exact hf);have hlen:(ks.map D9++(bf fs).map D9).length<=2000:=by rw[Ao,Ad,Ad];omega
     generalize(ks.map D9++(bf fs).map D9)=L at hmem hlen;cases L with
     |nil=>
      refine aW (λQ q=>ly (λQ q=>aB (k:=ai) (λQ q=>ar (au rfl (aE ?_))) q) (aB (k:=ah) (λQ q=>ar (au rfl (a9 (Ak (Bc _) q)))) q)) (bind _ _ λ_ _ z=>z);show Q (.d (.bool (decide (w < 8)))) _;rw[decide_eq_false hw8];exact q
     |cons a l=>
      refine bh (λQ q=>ly (λQ q=>aB (k:=ai) (λQ q=>ar (au rfl (aE ?_))) q) (aB (k:=ai) (λQ q=>ar (au rfl (a9 (Ak (Bc _) q)))) q)) ?_
      ·show Q (.d (.bool (decide (w < 8)))) _;rw[decide_eq_false hw8];exact q
      ·refine iI rfl (df (aE (ar (au rfl ?_))));refine gz (m:=(a::l).length) rfl (λQ q=>aU (au rfl q)) ⋯ (by rw[Ax];omega) ⋯ λr r0 r1=>gO r0 r1 λf hf'=>?_;obtain⟨s,hs,rfl⟩:=hmem f hf';exact Ak (show 2<=1000 by decide) (Ak hfl (nxtN (.as s) _ _ _ _ rfl ⟨hbo s hs,rfl⟩ (λk hk=>by cases hk;exact hs) ⋯))
theorem uL{v:Ab}(h:v∈jh):rG v:=by
 simp only[jh,Al,A3,or_false]at h;rcases h with rfl|rfl|rfl|rfl|rfl|rfl|rfl<;>first|exact .inl rfl|exact .inr ⟨_,rfl,by decide,by decide⟩
def qh(ks:List Str)(n0:Int)(ds:List Ab)(δ:Sl)(n:Int):Prop:=∃(fs:List Fe)(x y:Option SV),δ=[ae (.w .tp),ae (.w (.ln (ks.map .str))),ae (.own (fs.map Fe.d)),x,y]/\fs.length+ds.length<=4/\1<=fs.length+ds.length/\(∀f∈fs,f.ok/\f.tm=ah)/\rF ks fs/\n+2*(ds.length:Int)<=n0+9
theorem Ol:cq oZ wJ ["_law_tape_here","_law_known_here","_law_fields","_law_k","_law_way"]:=λws n0 Q h=>by
 obtain⟨ks,rfl,hks,hok,hn0,k⟩:=h;show wJ [ae (.w .tp),ae (.w (.ln (ks.map .str))),af,af,af] n0 _;refine aF (jF ?_);dsimp only[Bg];refine aF (zr rfl ⋯ λm h1 h4=>?_);refine fR (qh ks n0) (λδ n I=>?_) (λd r δ n N I kN=>?_) _ _ _ ⟨[],af,af,rfl,by rw[eC];simpa using h4,by rw[eC];simpa using h1,λf hf=>(by simp at hf),trivial,by rw[eC];omega⟩
 ·obtain⟨fs,x,y,rfl,hf,hf1,hfo,hr,hn⟩:=I;dsimp only;refine gC rfl ?_;dsimp only[Bg];exact aZ (aU (au rfl (jl (k fs n (by simpa using hf1) ⟨by simpa using hf,λf z=>(hfo f z).1⟩ (λf z=>(hfo f z).2) hr (by simpa using hn)))))
 ·obtain⟨fs,x,y,rfl,hf,hf1,hfo,hr,hn⟩:=I;rw[Ax]at hf hf1 hn;dsimp only[aD,Bg];have hfl:(fs.map Fe.d).length < 1000000:=by rw[Ad];omega
  have nxt:∀(f:Fe)(n':Int)(y:Option SV),f.ok/\f.tm=ah->(∀k,f.us=ae k->k∈ks)->n'<=n+2->N [ae (.w .tp),ae (.w (.ln (ks.map .str))),ae (.own (fs.map Fe.d++[f.d])),ae (.w (.d d)),y] n':=λf n' y fo fu hn'=>
   kN _ _ ⟨fs++[f],ae (.w (.d d)),y,by rw[Cy];rfl,by rw[Ao,Ba];omega,by rw[Ao,Ba];omega,λg hg=>(A6.mp hg).elim (hfo g) λz=>by rw[A8]at z;subst z;exact fo,sE hr λk hk=>Dz _ (fu k hk),by omega⟩
  refine aF (nN (m:=6) rfl ⋯ ∎ ∎ λw w0 w1=>?_);dsimp only[Bg];have isv:∀K:DEnds,(∀δ n,N δ n->K.nx δ n)->bw 2 (aA (ao (wC (.str "is")) (ao (az gV (ao ↥0 ak)) ak))) [ae (.w .tp),ae (.w (.ln (ks.map .str))),ae (.own (fs.map Fe.d)),ae (.w (.d d)),ae (.w (.d (.int w)))] (n+1) K:=λK hK=>
   iI rfl (df (aE (bM (au rfl (Ak rfl ⟨by omega,λv hv=>Ak (show 2<=1000 by decide) (Ak hfl (hK _ _ (nxt (.isv v) _ _ ⟨lr hv,rfl⟩ (λk hk=>by cases hk) ⋯)))⟩)))))
  by_cases hw3:w < 3
  ·refine aW (λQ q=>rX (λQ q=>aB (k:=ah) (λQ q=>ar (au rfl (aE ?_))) q) q) (isv _ λ_ _ z=>z);show Q (.d (.bool (decide (w < 3)))) _;rw[decide_eq_true hw3];exact q
  ·have ct3:∀Q:DQ,Q (.d (.bool ai)) (n+1)->w2 ↥4 (wC (.int 3)) f6 [ae (.w .tp),ae (.w (.ln (ks.map .str))),ae (.own (fs.map Fe.d)),ae (.w (.d d)),ae (.w (.d (.int w)))] (n+1) Q:=λQ q=>ar (au rfl (aE (by
    show Q (.d (.bool (decide (w < 3)))) _;rw[decide_eq_false hw3];exact q)))
   cases ks with
   |nil=>exact aW (λQ q=>ly (λQ q=>aB (k:=ai) ct3 q) (aB (k:=ah) (λQ q=>ar (au rfl (i6 (iB q)))) q)) (isv _ λ_ _ z=>z)
   |cons a l=>
    refine bh (λQ q=>ly (λQ q=>aB (k:=ai) ct3 q) (aB (k:=ai) (λQ q=>ar (au rfl (i6 (iB q)))) q)) ?_;refine iI rfl (df (ar (a9 (Ak ∎ ?_))));dsimp only;refine ar (au rfl (aE ?_));dsimp only[cJ];refine gO (ds:=[.str "as",.str "as",.str "next"]) (r:=w-3) ⋯ (show w-3 < 3 by omega) λf hf'=>?_;refine ar (au rfl ?_);have hl:((a::l).map D9).length<=1000:=by rw[Ad];exact hks
    refine gz (m:=((a::l).map D9).length) rfl (λQ q=>aU (au rfl q)) ⋯ (by rw[Ad,Ax];omega) ⋯ λr r0 r1=>rB r0 r1 λf' hf''=>?_;obtain⟨s,hs,rfl⟩:=pj hf'';simp only[Al,A3,or_false]at hf';rcases hf' with rfl|rfl|rfl
    ·exact Ak (show 2<=1000 by decide) (Ak hfl (nxt (.as s) _ _ ⟨hok s hs,rfl⟩ (λk hk=>by cases hk;exact hs) ⋯))
    ·exact Ak (show 2<=1000 by decide) (Ak hfl (nxt (.as s) _ _ ⟨hok s hs,rfl⟩ (λk hk=>by cases hk;exact hs) ⋯))
    ·exact Ak (show 2<=1000 by decide) (Ak hfl (nxt (.nx s) _ _ ⟨hok s hs,rfl⟩ (λk hk=>by cases hk;exact hs) ⋯))
abbrev Ze:List Str:=["_law_tape_here","_law_known_here"]
theorem Lg:cq mY tF Ze:=λws n Q h=>by
 obtain⟨ks,rfl,hks,hok,hn0,k⟩:=h;show tF [ae (.w .tp),ae (.w (.ln (ks.map .str)))] n _;have isv:∀n',n'<=n+1->aw (aA (ao (wC (.str "is")) (ao (az gV (ao ↥0 ak)) ak))) [ae (.w .tp),ae (.w (.ln (ks.map .str)))] n' {nx:=λ_ n=>Q (.d .none) n,rt:=Q}:=λn' hn'=>
  aZ (df (aE (bM (au rfl (Ak rfl ⟨by omega,λv hv=>Ak (show 2<=1000 by decide) (k (.isv v) _ (lr hv) rfl (λk hk=>by cases hk) ⋯)⟩)))))
 cases ks with
 |nil=>exact aF (aW (λQ q=>rX (λQ q=>aB (k:=ah) (λQ q=>ar (au rfl (i6 (iB q)))) q) q) (isv n ⋯))
 |cons a l=>
  refine aF (e9 (ly (λQ q=>aB (k:=ai) (λQ q=>ar (au rfl (i6 (iB q)))) q) ?_));refine ar (gN (m:=2) rfl ⋯ ∎ ∎ λr r0 r1=>aE (fL ?_));show if decide (r=0)=ah then _ else _
  by_cases h:r=0
  ·rw[if_pos (decide_eq_true h)];exact isv (n+1) ⋯
  ·rw[if_neg (by simpa using h)];dsimp only[aV];refine aZ (df (aE (ar (au rfl ?_))));have hl:((a::l).map D9).length<=1000:=by rw[Ad];exact hks
   refine gz (m:=((a::l).map D9).length) rfl (λQ q=>aU (au rfl q)) ⋯ (by rw[Ad,Ax];omega) ⋯ λr r0 r1=>rB r0 r1 λf' hf''=>?_;obtain⟨s,hs,rfl⟩:=pj hf'';exact Ak (show 2<=1000 by decide) (k (.as s) _ (hok s hs) rfl (λk hk=>by cases hk;exact hs) ⋯)
theorem M1:cq lJ yB ["_law_tape_here","_law_known_here","_law_open_ones","_law_way","_law_block","_law_pattern_here","_law_bound"]:=λws n Q h=>by
 obtain⟨ks,os,wants,rfl,hks,hok,ho,ho',hop,hn0,k⟩:=h;show yB [ae (.w .tp),ae (.w (.ln (ks.map .str))),ae (.w (.d (.list (os.map λb=>.int (b:Nat))))),af,af,af,af] n _;refine aF (nN (m:=12) rfl ⋯ ∎ ∎ λw w0 w1=>?_);dsimp only[Bg];refine aF (jk rfl (λhw=>?_) (λhw=>?_))
 ·refine aZ (df (qZ (aE (bK (au rfl (au rfl (Du ks ⟨rfl,hks,hok,by omega,λfs n' hf1 hfs htm hrf hn'=>?_⟩)))))));refine xi rfl ⋯ λv hv=>?_;exact Ak (show 3<=1000 by decide) (i6 (Ak (show 2<=1000 by decide) (k (.lay fs v) _ ⟨hfs,htm,uL hv,hf1⟩ ⟨hrf,λb hb=>by cases hb⟩ ⋯)))
 dsimp only[aV];refine aF (show aJ 4 _ _ _ _ from ar (au rfl ?_));refine gz (m:=(os.map λb:Nat=>PyData.int (b:Nat)).length) rfl (λQ q=>aU (au rfl q)) ⋯ (by rw[Ad];omega) (by rw[Ad];omega) λr r0 r1=>gO r0 r1 λb hb=>?_;obtain⟨b,hbo,rfl⟩:=Bk.mp hb;have hto:=hop b hbo;dsimp only[Bg];refine aF (jb rfl (λh10=>?_) (λh10=>?_))
 ·refine aZ (df (Nj (aE (bK (au rfl (au rfl (Du ks ⟨rfl,hks,hok,by omega,λf n' fo fb fu hn'=>?_⟩)))))));refine bK (au rfl (au rfl (Du ks ⟨rfl,hks,hok,by omega,λg n'' go gb gu hn''=>?_⟩)));refine au rfl (Ak (show 4<=1000 by decide) (i6 (Ak (show 2<=1000 by decide) (k (.same f g b) _ ⟨⟨show 2<=4 by decide,λe he=>?_⟩,fb,gb⟩ ⟨⟨fu,λk hk=>Dz _ (gu k hk),trivial⟩,λb' hb'=>by cases hb';exact hto⟩ ⋯))));simp only[Ac.fs,Al,A3,or_false]at he;rcases he with rfl|rfl
  ·exact fo
  ·exact go
 dsimp only[aV];refine aF (jb rfl (λh11=>?_) (λh11=>?_))
 ·exact aZ (df (df (aE (au rfl (Ak (show 2<=1000 by decide) (i6 (Ak (show 2<=1000 by decide) (k (.go b) _ ⟨⟨show 0<=4 by decide,λe he=>by simp[Ac.fs]at he⟩,trivial⟩ ⟨trivial,λb' hb'=>by cases hb';exact hto⟩ ⋯))))))))
 dsimp only[aV];refine aF ?_;unfold d8;refine bK (au rfl (au rfl (Du ks ⟨.ln (ks.map .str),rfl,rfl,hks,hok,by omega,λfs n' hf1 hfs hpt hrf hn'=>?_⟩)));refine Ak rfl ?_;dsimp only[bB,b6,aD,Bg];refine aF (jA rfl (λh7=>?_) (λh7=>?_))
 ·exact aZ (df (qZ (aE (au rfl (au rfl (Ak (show 3<=1000 by decide) (au rfl (Ak (show 2<=1000 by decide) (k (.look fs b) _ ⟨hfs,hf1,hpt⟩ ⟨hrf,λb' hb'=>by cases hb';exact hto⟩ ⋯)))))))))
 dsimp only[aV];refine aZ (df (df (ar (a9 (Ak ∎ ?_)))));dsimp only;refine ar (au rfl (aE ?_));dsimp only[cJ];refine gO (ds:=[.str "take",.str "take",.str "take",.str "read"]) (r:=w-4) ⋯ (show w-4 < 4 by omega) λf hf'=>?_;simp only[Al,A3,or_false]at hf';rcases hf' with rfl|rfl|rfl|rfl
 ·exact au rfl (Ak (show 2<=1000 by decide) (au rfl (Ak (show 2<=1000 by decide) (k (.take fs) _ ⟨hfs,hf1,hpt⟩ ⟨hrf,λb' hb'=>by cases hb'⟩ ⋯))))
 ·exact au rfl (Ak (show 2<=1000 by decide) (au rfl (Ak (show 2<=1000 by decide) (k (.take fs) _ ⟨hfs,hf1,hpt⟩ ⟨hrf,λb' hb'=>by cases hb'⟩ ⋯))))
 ·exact au rfl (Ak (show 2<=1000 by decide) (au rfl (Ak (show 2<=1000 by decide) (k (.take fs) _ ⟨hfs,hf1,hpt⟩ ⟨hrf,λb' hb'=>by cases hb'⟩ ⋯))))
 ·exact au rfl (Ak (show 2<=1000 by decide) (au rfl (Ak (show 2<=1000 by decide) (k (.read fs) _ ⟨hfs,hf1,hpt⟩ ⟨hrf,λb' hb'=>by cases hb'⟩ ⋯))))
def fZ:List (List Str):=[[],["n"],["go","n"],["nm"]]
theorem nr(x:Str):∀hs:List Str,cQ (.str x) (hs.map .str)=decide (x∈hs)
 |[]=>rfl
 |y::r=>by
  rw[A5];show(qr (.str y) (.str x) || cQ (.str x) (r.map .str))=_;rw[nr x r];show(decide (y=x) || decide (x∈r))=_;by_cases e:y=x
  ·subst e;simp
  ·have:¬x=y:=λz=>e z.symm;simp[e,this]
theorem MN{w:List Str}(h:w∈fZ):w.length<=4/\(∀k∈w,dQ k)/\w.Nodup/\mI w:=by
 have key:∀w∈fZ,w.length<=4/\(∀k∈w,bq 4 (.str k)=ah/\Fk k=ah/\k∈zS)/\w.Nodup/\w.Pairwise λa b=>¬b.cps.toList < a.cps.toList:=by decide +kernel
 exact key w h
theorem Jq{Q:List Ab->Int->Prop}{n:Int}(ss ks:List Str)(k:Q ((ss.map D9).filter λx=>!cQ x (ks.map .str)) n):
  bN (aD 0) (cT (w2 ↥0 ↥1 (dE ah))) ↥0 Q (ss.map .str) [] [af,ae (.w (.ln (ks.map .str)))] n:=by
 refine mZ (λd=>∃s:Str,d=.str s) (λx=>!cQ x (ks.map .str)) id (λd n Q' hd q=>?_) (λd n Q' hd q=>au rfl q) _ [] af n (λd hd=>?_) ?_
 ·obtain⟨s,rfl⟩:=hd;exact aB (k:=!cQ (.str s) (ks.map .str)) (λQ q=>ar (au rfl (au rfl (Ak rfl ⟨zh ks,q⟩)))) q
 ·obtain⟨s,_,rfl⟩:=Bk.mp hd;exact⟨s,rfl⟩
 ·rw[Cr,Et];exact k
theorem Mh(ss ks:List Str):((ss.map D9).filter λx=>!cQ x (ks.map .str)).isEmpty=decide (∀k∈ss,k∈ks):=by
 rw[D7,List.isEmpty_iff,List.filter_eq_nil_iff,decide_eq_true_iff]
 constructor
 ·intro h k hk;have:=h (.str k) (Bk.mpr ⟨k,hk,rfl⟩);rw[nr]at this;simpa using this
 ·intro h d hd;obtain⟨k,hk,rfl⟩:=Bk.mp hd;rw[nr,decide_eq_true (h k hk)];simp
def nW(ws:List (List Str))(ks:List Str):Ab->Bool
 |.int j=>decide (∀k∈ws.getD j.toNat [],k∈ks)
 |_=>ai
def iU(ws:List (List Str))(ks:List Str):List Nat:=(Bh ws.length).filter λb=>decide (∀k∈ws.getD b [],k∈ks)
theorem EE(ws:List (List Str))(ks:List Str):(cy 0 ws.length).filter (nW ws ks)=(iU ws ks).map λb=>.int (b:Nat):=by
 unfold cy iU;rw[List.filter_map];have e:(λi:Nat=>PyData.int (0+(i:Int)))=λb=>.int (b:Nat):=funext λi=>by rw[Int.zero_add]
 rw[e];rfl
theorem Kj{Q:List Ab->Int->Prop}{n:Int}(ws:List (List Str))(ks:List Str)(k:Q ((iU ws ks).map λb=>.int (b:Nat)) n):
  bN (aD 0) (cT (w2 (aP (bo [af,ae 1] (bD (w2 ↥2 ↥0 aY)) (aD 0) (cT (w2 ↥0 ↥1 (dE ah))) ↥0)) (aP (aN ak)) bJ)) ↥0 Q (cy 0 ws.length) [] [af,ae (.w (.ln (ks.map .str))),ae (.w (.d (.list (ws.map cO))))] n:=by
 refine mZ (λd=>∃j:Nat,j < ws.length/\d=.int j) (nW ws ks) id (λd n Q' hd q=>?_) (λd n Q' hd q=>au rfl q) _ [] af n (λd hd=>?_) ?_
 ·obtain⟨j,hj,rfl⟩:=hd;have hg:(ws.map cO)[j]?=ae (.tuple (ws[j].map .str)):=by rw[A0,Ah hj];rfl
  refine aB (k:=nW ws ks (.int j)) (λQ q=>ar (a9 (fI (ds:=ws[j].map .str) (λQ q=>ar (au rfl (au rfl ?_))) (Jq ws[j] ks (i6 ?_))))) q
  ·show(match cM (ws.map cO) (j:Int)with|some d=>Q (.d d) n|none=>False);rw[eE hg];exact q
  ·have eo:nW ws ks (.int j)=((ws[j].map D9).filter λx=>!cQ x (ks.map .str)).isEmpty:=by
    rw[Mh];show decide (∀k∈ws.getD (j:Int).toNat [],k∈ks)=_;rw[B9,Ho,Ah hj,Option.getD_some]
   rw[eo]at q;exact q
 ·unfold cy at hd;obtain⟨j,hj,rfl⟩:=Bk.mp hd;exact⟨j,Bs.mp hj,by rw[Int.zero_add]⟩
 ·rw[Cr,Et,EE];exact k
theorem LD{ws w0:List (List Str)}{ks:List Str}(h:ws=[]::w0):0 < (iU ws ks).length:=
 List.length_pos_of_mem (a:=0) (Gp.mpr ⟨Bs.mpr (by rw[h];simp),by subst h;simp⟩)
theorem HA{ws:List (List Str)}{ks:List Str}{b:Nat}(h:b∈iU ws ks):∃w,ws[b]?=ae w/\∀k∈w,k∈ks:=by
 obtain⟨h1,h2⟩:=Gp.mp h;have hj:=Bs.mp h1;refine⟨ws[b],Ah hj,?_⟩;have:=of_decide_eq_true h2;rw[Ho,Ah hj,Option.getD_some]at this;exact this
theorem yN:∀{fs:List Fe}{ks ks':List Str},(∀k∈ks,k∈ks')->rF ks fs->rF ks' fs
 |[],_,_,_,_=>trivial
 |f::r,ks,ks',h,z=>⟨λk hk=>h k (z.1 k hk),yN (λk hk=>(A6.mp hk).elim (λq=>Dz _ (h k q)) λq=>A1 _ q) z.2⟩
theorem Ac.right_mono{ws:List (List Str)}{ks ks':List Str}{a:Ac}(h:∀k∈ks,k∈ks')(z:a.right ws ks):a.right ws ks':=
 ⟨yN h z.1,λb hb=>by obtain⟨w,h1,h2⟩:=z.2 b hb;exact⟨w,h1,λk hk=>h k (h2 k hk)⟩⟩
theorem Jl{ws:List (List Str)}{w ks:List Str}{as:List Ac}{a:Ac}(h:j4 ws (w,as))(hk:∀k∈ks,k∈w++as.flatMap Ac.bs)(ha:a.right ws ks):j4 ws (w,as++[a]):=λp b hb=>by
 dsimp only at hb ⊢;by_cases hp:p < as.length
 ·rw[Gd hp]at hb;have:=h p b hb;unfold kn at this ⊢;rw[List.take_append_of_le_length (Gb hp)];exact this
 ·rw[Hm ⋯]at hb;have e0:p-as.length=0:=by
   by_cases e:p-as.length=0
   ·exact e
   ·rw[Fv (by rw[Ba];omega)]at hb;cases hb
  rw[e0]at hb;cases hb;have ep:p=as.length:=by omega
  subst ep;refine Ac.right_mono (λk z=>?_) ha;unfold kn;rw[List.take_append_of_le_length (Aq _),G7];exact hk k z
structure ActO(ws:List (List Str))(want ks:List Str)(acts:List Ac):Prop where
 mem:∀k,k∈ks↔k∈want++acts.flatMap Ac.bs
 ok:∀k∈ks,dQ k
 fs:∀a∈acts,mH a
 ri:j4 ws (want,acts)
def kU(ws:List (List Str))(bl:List Ab)(want:List Str)(nb:Int)(ds:List Ab)(δ:Sl)(n:Int):Prop:=∃(ks:List Str)(acts:List Ac)(x2 x7 x8 x9 x10:Option SV),
 δ=[ae (.w .tp),ae (.w (.d (.list (ws.map cO)))),x2,ae (.own bl),ae (.w (.d (cO want))),ae (.own (ks.map .str)),ae (.own (acts.map Ac.d)),x7,x8,x9,x10]/\ActO ws want ks acts/\ks.length+4*ds.length<=40/\acts.length+ds.length<=8/\n+11*(ds.length:Int)<=nb+89
theorem IZ{ws w0:List (List Str)}{bl r:List Ab}{want:List Str}{d:Ab}{ks:List Str}{acts:List Ac}{nb n:Int}{x7 x8 x9 x10:Option SV}{K:DEnds}(hw0:ws=[]::w0)(hwl:ws.length<=6)(hnb:nb+89 < 2 ^ 39)(O:ActO ws want ks acts)(hk:ks.length+4*(r.length+1)<=40)(ha:acts.length+(r.length+1)<=8)(hn:n+11*((r.length:Int)+1)<=nb+89)
  (kN:∀δ n,kU ws bl want nb r δ n->K.nx δ n):
  aq (aJ 8 (aP (bo [af,ae 5,ae 1] (dC (wB eB (ao ↥1 ak))) (aD 0) (cT (w2 (aP (bo [af,ae 1] (bD (w2 ↥2 ↥0 aY)) (aD 0) (cT (w2 ↥0 ↥1 (dE ah))) ↥0)) (aP (aN ak)) bJ)) ↥0))) (aq (d8 (az lJ (ao ↥0 (ao (de 5) (ao ↥8 ak)))) (cz 2 (bB (aD 9) (bB (aD 10) b6)))) (aq (bw 6 ↥9) (br (fC ↥10) (aD 7) (bb (cT (w2 ↥7 (de 5) (dE ah))) (bw 5 ↥7) aV))))
   [ae (.w .tp),ae (.w (.d (.list (ws.map cO)))),ae (.w (.d d)),ae (.own bl),ae (.w (.d (cO want))),ae (.own (ks.map .str)),ae (.own (acts.map Ac.d)),x7,x8,x9,x10] n K:=by
 refine aF (show aJ 8 _ _ _ _ from a9 ?_);unfold bo dC;refine aU (au rfl ?_);refine Ak ⟨by omega,by rw[Ad];omega⟩ ?_;rw[B9,Ad];refine Kj ws ks ?_;dsimp only[Bg];refine aF ?_;unfold d8;have ol:(iU ws ks).length<=6:=B7 (List.length_filter_le _ _) (by rw[Cs];exact hwl);refine dH (au rfl (gv rfl (au rfl ?_)));refine Du ks (Du (iU ws ks) (Du ws ⟨rfl,by omega,O.ok,LD hw0,by omega,λb hb=>HA hb,by omega,λact n' hfs hri hn'=>?_⟩));refine Ak rfl ?_;dsimp only[bB,b6,aD,Bg];refine aF (oO rfl (λQ q=>au rfl q) (by rw[Ad];omega) ?_);dsimp only[Bg];unfold br fC;refine au rfl ?_;dsimp only;have hbs:=qL hfs.1;refine fR (λds δ n''=>∃(ks' dn bs':List Str)(x7:Option SV),ds=bs'.map .str/\dn++bs'=act.bs/\(∀k,k∈ks'↔k∈ks++dn)/\n''=n'/\δ=[ae (.w .tp),ae (.w (.d (.list (ws.map cO)))),ae (.w (.d d)),ae (.own bl),ae (.w (.d (cO want))),ae (.own (ks'.map .str)),ae (.own (acts.map Ac.d++[act.d])),x7,ae (.w (.d (.list ((iU ws ks).map λb=>.int (b:Nat))))),ae (.w (.d act.d)),ae (.w (.d (.list (act.bs.map .str))))]/\ks'.length+bs'.length<=ks.length+4)
  (λδ n'' I=>?_) (λe r' δ n'' N I kN'=>?_) _ _ _ ⟨ks,[],act.bs,x7,rfl,rfl,λk=>by simp,rfl,rfl,by have:=hbs.2;omega⟩
 ·obtain⟨ks',dn,bs',x7,e,hdn,hm,rfl,rfl,hk'⟩:=I;cases Gh.mp e.symm;rw[Bv]at hdn;subst hdn;have hm':∀k,k∈ks'↔k∈want++(acts++[act]).flatMap Ac.bs:=λk=>by
   rw[hm k,A6,O.mem k,List.flatMap_append,<-Bu,A6 (s:=want++acts.flatMap Ac.bs)];simp
  refine kN _ _ ⟨ks',acts++[act],_,_,_,_,_,by rw[Cy];rfl,⟨hm',λk z=>?_,λa z=>?_,Jl O.ri (λk z=>(O.mem k).mp z) hri⟩,by omega,by rw[Ao,Ba];omega,by omega⟩
  ·exact(A6.mp ((hm k).mp z)).elim (O.ok k) (hbs.1 k)
  ·rcases A6.mp z with z|z
   ·exact O.fs a z
   ·rw[A8]at z;subst z;exact hfs
 ·obtain⟨ks',dn,bs',x7,e',hdn,hm,rfl,rfl,hk'⟩:=I;obtain⟨s,bs'',rfl,rfl,rfl⟩:=F3.mp e'.symm;rw[Ax]at hk';dsimp only[aD,Bg];have hdn':(dn++[s])++bs''=act.bs:=by rw[Bu];exact hdn
  refine e9 (ar (au rfl (gv rfl (Ak rfl ⟨zh ks',?_⟩))));refine jL (λz=>?_) (λz=>?_)
  ·refine oO rfl (λQ q=>au rfl q) (by rw[Ad];omega) (kN' _ _ ⟨ks'++[s],dn++[s],bs'',ae (.w (.d (.str s))),rfl,hdn',λk=>?_,rfl,?_,by rw[Ao,Ba];omega⟩)
   ·rw[A6,hm k,<-Bu,A6 (s:=ks++dn)]
   ·rw[Cy];rfl
  ·have hs:s∈ks':=by
    have z':(!cQ (.str s) (ks'.map .str))=ai:=z;rw[nr]at z';simpa using z'
   refine kN' _ _ ⟨ks',dn++[s],bs'',ae (.w (.d (.str s))),rfl,hdn',λk=>?_,rfl,rfl,by omega⟩;rw[<-Bu,A6 (s:=ks++dn),A8,<-hm k];exact⟨.inl,λq=>q.elim id λe=>e▸hs⟩
def qK(n0:Int)(ds:List Ab)(δ:Sl)(n:Int):Prop:=∃(more:List (List Str))(x2:Option SV),δ=[ae (.w .tp),ae (.own (([]::more).map cO)),x2,af,af,af,af,af,af,af,af]/\more.length+ds.length<=5/\(∀w∈more,w∈fZ)/\n+(ds.length:Int)<=n0+6
def mj(ws:List (List Str))(n0:Int)(ds:List Ab)(δ:Sl)(n:Int):Prop:=∃(bl:List Bl)(re:List (List Str))(x2 x4 x5 x6 x7 x8 x9 x10:Option SV),
 δ=[ae (.w .tp),ae (.w (.d (.list (ws.map cO)))),x2,ae (.own (bl.map cP)),x4,x5,x6,x7,x8,x9,x10]/\ds=re.map cO/\bl.map (·.1)++re=ws/\(∀b∈bl,sj b/\j4 ws b)/\n+90*(ds.length:Int)<=n0+600
theorem GY{ws w0 re:List (List Str)}{bl:List Bl}{want:List Str}{n0 n:Int}{x2 x5 x6 x7 x8 x9 x10:Option SV}{K:DEnds}(hw:∀w∈ws,w∈fZ)(hw0:ws=[]::w0)(hwl:ws.length<=6)(hn0:n0+600 < 2 ^ 39)(hb:bl.map (·.1)++want::re=ws)(hbo:∀b∈bl,sj b/\j4 ws b)(hn:n+90*((re.length:Int)+1)<=n0+600)
  (kN:∀δ n,mj ws n0 (re.map cO) δ n->K.nx δ n):
  aq (bu 5 (iT ↥4)) (aq (bu 6 (aN ak)) (aq (br (dC (w2 (aP (aN (ao ⇑2 (ao ⇑3 (ao ⇑1 (ao ⇑4 (ao ⇑2 (ao ⇑0 (ao ⇑3 (ao ⇑8 ak)))))))))) (az bC (ao ↥0 (ao ⇑8 ak))) aY)) (aD 2) (aq (aJ 8 (aP (bo [af,ae 5,ae 1] (dC (wB eB (ao ↥1 ak))) (aD 0) (cT (w2 (aP (bo [af,ae 1] (bD (w2 ↥2 ↥0 aY)) (aD 0) (cT (w2 ↥0 ↥1 (dE ah))) ↥0)) (aP (aN ak)) bJ)) ↥0))) (aq (d8 (az lJ (ao ↥0 (ao (de 5) (ao ↥8 ak)))) (cz 2 (bB (aD 9) (bB (aD 10) b6)))) (aq (bw 6 ↥9) (br (fC ↥10) (aD 7) (bb (cT (w2 ↥7 (de 5) (dE ah))) (bw 5 ↥7) aV)))))) (bQ 6 (bw 3 (aA (ao ↥4 (ao (wB eQ (ao ↥6 ak)) ak)))))))
   [ae (.w .tp),ae (.w (.d (.list (ws.map cO)))),x2,ae (.own (bl.map cP)),ae (.w (.d (cO want))),x5,x6,x7,x8,x9,x10] n K:=by
 obtain⟨hss,hso,hnd,hup⟩:=MN (hw want (by rw[<-hb];exact A1 _ Am));have hbl:bl.length+(re.length+1)<=6:=by rw[<-hb,Ao,Ad,Ax]at hwl;exact hwl
 refine aF (tG (ds:=want.map .str) rfl ?_);dsimp only[Bg];refine aF (jF ?_);dsimp only[Bg];refine aF (yJ (L:=[.int 2,.int 3,.int 1,.int 4,.int 2,.int 0,.int 3,.int 8]) (M:=8) rfl (λQ q=>a9 (Ak ∎ q)) ⋯ rfl ∎ ∎ (λd hd=>?_) ∎ λj hj=>?_)
 ·simp only[Al,A3,or_false]at hd;rcases hd with rfl|rfl|rfl|rfl|rfl|rfl|rfl|rfl
  ·exact⟨2,by decide,rfl⟩
  ·exact⟨3,by decide,rfl⟩
  ·exact⟨1,by decide,rfl⟩
  ·exact⟨4,by decide,rfl⟩
  ·exact⟨2,by decide,rfl⟩
  ·exact⟨0,by decide,rfl⟩
  ·exact⟨3,by decide,rfl⟩
  ·exact⟨8,by decide,rfl⟩
 refine fR (kU ws (bl.map cP) want n) (λδ n' I=>?_) (λd r' δ n' N I kN'=>?_) _ _ _ ⟨want,[],_,_,_,_,_,rfl,⟨λk=>by simp,hso,λa ha=>by simp at ha,λp a ha=>by simp at ha⟩,by rw[eC];omega,by rw[eC];simpa using hj,by rw[eC];omega⟩
 ·obtain⟨ks,acts,y2,y7,y8,y9,y10,rfl,O,_,ha,hn'⟩:=I;dsimp only;refine gC rfl ?_;dsimp only[Bg];refine iI rfl (df (au rfl (aU (au rfl (jl ?_)))));have ha':acts.length<=8:=by simpa using ha
  refine Ak (show 2<=1000 by decide) (Ak (by rw[Ad];omega) (kN _ _ ⟨bl++[(want,acts)],re,_,_,_,_,_,_,_,_,by rw[Cy];rfl,rfl,by rw[Cy,Bu];exact hb,λb z=>?_,?_⟩))
  ·rcases A6.mp z with z|z
   ·exact hbo b z
   ·rw[A8]at z;subst z;exact⟨⟨hss,hso,ha',O.fs,hnd,hup⟩,O.ri⟩
  ·have h0:n'<=n+89:=by simpa using hn'
   rw[Ad];omega
 ·obtain⟨ks,acts,y2,y7,y8,y9,y10,rfl,O,hk,ha,hn'⟩:=I;rw[Ax]at hk ha hn';dsimp only[aD,Bg];exact IZ hw0 hwl ⋯ O hk ha ⋯ kN'
theorem OZ:cq pA uF ["_law_tape_here","_law_wants","_law_k","_law_blocks","_law_want","_law_known_here","_law_acts","_law_name","_law_open_ones","_law_act_here","_law_bound"]:=λws n0 Q h=>by
 obtain⟨rfl,hn0,k⟩:=h;show uF [ae (.w .tp),af,af,af,af,af,af,af,af,af,af] n0 _;refine aF (show bu 1 _ _ _ _ from Ak (Bc _) (Ak ∎ ?_));dsimp only[Bg];refine aF (yJ (L:=[.int 0,.int 1,.int 2,.int 1,.int 0,.int 2,.int 5]) (M:=5) rfl (λQ q=>a9 (Ak ∎ q)) ⋯ rfl ∎ ∎ (λd hd=>?_) ∎ λj hj=>?_)
 ·simp only[Al,A3,or_false]at hd;rcases hd with rfl|rfl|rfl|rfl|rfl|rfl|rfl
  ·exact⟨0,by decide,rfl⟩
  ·exact⟨1,by decide,rfl⟩
  ·exact⟨2,by decide,rfl⟩
  ·exact⟨1,by decide,rfl⟩
  ·exact⟨0,by decide,rfl⟩
  ·exact⟨2,by decide,rfl⟩
  ·exact⟨5,by decide,rfl⟩
 refine fR (qK n0) (λδ n I=>?_) (λd r δ n N I kN=>?_) _ _ _ ⟨[],af,rfl,by rw[eC];simpa using hj,λd hd=>by simp at hd,by rw[eC];omega⟩
 ·obtain⟨more,x2,rfl,hl,hm,hn⟩:=I;dsimp only;refine aF (jF ?_);dsimp only[Bg];refine gC rfl ?_;dsimp only[Bg];refine aF ?_;unfold br fC;refine au rfl ?_;dsimp only;have hw:∀w∈([]:List Str)::more,w∈fZ:=λd hd=>by
   rcases Al.mp hd with rfl|z
   ·simp[fZ]
   ·exact hm d z
  have hwl:(([]:List Str)::more).length<=6:=by rw[Ax];simp at hl;omega
  refine fR (mj ([]::more) n0) (λδ n' I=>?_) (λd r δ n' N I kN=>?_) _ _ _ ⟨[],[]::more,_,_,_,_,_,_,_,_,rfl,rfl,rfl,λb hb=>by simp at hb,?_⟩
  ·obtain⟨bl,re,y2,y4,y5,y6,y7,y8,y9,y10,rfl,er,hb,hbo,hn'⟩:=I;cases Gh.mp er.symm;rw[Bv]at hb;dsimp only;refine gC rfl ?_;dsimp only[Bg];refine aZ (aU (au rfl (jl (k bl n' ⟨by have:=congrArg List.length hb;simp at this;omega,?_,λb z=>⟨(hbo b z).1,by rw[hb];exact(hbo b z).2⟩⟩ ⟨more,hb⟩ (by simpa using hn')))));rw[<-hb,Ad]at hwl;exact hwl
  ·obtain⟨bl,re,y2,y4,y5,y6,y7,y8,y9,y10,rfl,er,hb,hbo,hn'⟩:=I;obtain⟨want,re,rfl,rfl,rfl⟩:=F3.mp er.symm;rw[Ax,Ad]at hn';dsimp only[aD,Bg];exact GY hw rfl hwl hn0 hb hbo ⋯ kN
  ·have h1:n<=n0+6:=by simpa using hn
   have h2:(((([]:List Str)::more).map cO).length:Int)<=6:=by rw[Ad];omega
   omega
 ·obtain⟨more,x2,rfl,hl,hm,hn⟩:=I;rw[Ax]at hl hn;dsimp only[aD,Bg];refine iI rfl (ar (a9 (Ak ∎ (Ak ∎ (Ak ∎ (Ak ∎ (Ak ∎ (Ak ∎ ?_))))))));dsimp only;refine gN (m:=5) rfl ⋯ ∎ ∎ λq q0 q1=>gO (ds:=[cO [],cO ["n"],cO ["go","n"],cO ["nm"],cO []]) q0 q1 λw hw=>?_;have:∃v∈fZ,w=cO v:=by
   simp only[Al,A3,or_false]at hw;rcases hw with rfl|rfl|rfl|rfl|rfl
   ·exact⟨[],by simp[fZ],rfl⟩
   ·exact⟨["n"],by simp[fZ],rfl⟩
   ·exact⟨["go","n"],by simp[fZ],rfl⟩
   ·exact⟨["nm"],by simp[fZ],rfl⟩
   ·exact⟨[],by simp[fZ],rfl⟩
  obtain⟨v,hv,rfl⟩:=this;refine Ak (by rw[Ad,Ax];omega) (kN _ _ ⟨more++[v],ae (.w (.d d)),?_,by rw[Ao,Ba];omega,λe he=>?_,by omega⟩)
  ·rw[show([]::(more++[v]):List (List Str))=([]::more)++[v]from rfl,Cy];rfl
  rcases A6.mp he with z|z
  ·exact hm e z
  ·rw[A8]at z;subst z;exact hv
theorem mU{α:Type}{f:α->Ab}{P:α->Prop}:∀{ds:List Ab},(∀d∈ds,∃x,P x/\d=f x)->∃xs:List α,ds=xs.map f/\∀x∈xs,P x
 |[],_=>⟨[],rfl,λx hx=>by simp at hx⟩
 |d::r,h=>by
  obtain⟨x,hx,rfl⟩:=h d Am;obtain⟨xs,rfl,hxs⟩:=mU λe he=>h e (Ar _ he);exact⟨x::xs,rfl,λy hy=>(Al.mp hy).elim (λe=>e▸hx) (hxs y)⟩
def qk(m:Nat)(n0:Int)(ds:List Ab)(δ:Sl)(n:Int):Prop:=∃(ns:List Nt)(x y:Option SV),δ=[ae (.w .tp),ae (.w (.d (.int m))),ae (.own (ns.map p7)),x,y]/\ns.length+ds.length<=m/\(∀q∈ns,yR q)/\n+6*(ds.length:Int)<=n0+100
theorem OT:cq rS wg ["_law_tape_here","_law_most","_law_found","_law_k","_law_row"]:=λws n0 Q h=>by
 obtain⟨m,rfl,hm,hn0,k⟩:=h;show wg [ae (.w .tp),ae (.w (.d (.int m))),af,af,af] n0 _;refine aF (jF ?_);dsimp only[Bg];refine aF ?_;unfold br dC;refine gz (m:=(m:Int)+1) rfl (λQ q=>ar (au rfl (aE q))) ⋯ ⋯ ⋯ λr r0 r1=>?_;refine Ak ⟨by omega,by omega⟩ ?_;have hr:r.toNat<=m:=by omega
 refine fR (qk m n0) (λδ n I=>?_) (λd r' δ n N I kN=>?_) _ _ _ ⟨[],af,af,rfl,by rw[eC];simpa using hr,λd hd=>by simp at hd,by rw[eC];omega⟩
 ·obtain⟨ns,x,y,rfl,hl,hns,hn⟩:=I;dsimp only;refine gC rfl ?_;dsimp only[Bg];exact aZ (aU (au rfl (jl (k ns n ⟨by simpa using hl,hns⟩ (by simpa using hn)))))
 ·obtain⟨ns,x,y,rfl,hl,hns,hn⟩:=I;rw[Ax]at hl hn;dsimp only[aD,Bg];refine aF (show aJ 4 _ _ _ _ from aU (a9 ?_));unfold bo;dsimp only;refine bM (au rfl (Ak rfl ⟨by omega,λs s1 s4=>?_⟩));refine Ak ⟨by omega,by omega⟩ ?_;rw[B9];refine qv (λv=>hV v=ah) 1 (λd n Q' hn q=>bM (au rfl (Ak rfl ⟨by omega,λv hv=>q v _ (lr hv) ⋯⟩))) _ [] af _ (by rw[eC];omega) λrow n' hrl hrow hn'=>?_;rw[eC]at hrl hn';rw[Cr];refine jl ?_;dsimp only[Bg];refine iI rfl (df (au rfl (xi rfl ⋯ λv hv=>?_)));refine Ak (show 2<=1000 by decide) (Ak (by rw[Ad];omega) (kN _ _ ⟨ns++[(row,v)],_,_,by rw[Cy];rfl,by rw[Ao,Ba];omega,λe he=>?_,by omega⟩));rcases A6.mp he with z|z
  ·exact hns e z
  ·rw[A8]at z;subst z;exact⟨⟨⟨by show row.length<=4;omega,by show 1<=row.length;omega⟩,hrow⟩,uL hv⟩
theorem Kv:cq sk uY ["_law_tape_here","_law_programs_here"]:=λws n0 Q h=>by
 obtain⟨rfl,hn0,k⟩:=h;show uY [ae (.w .tp),af] n0 _;refine aF (show bu 1 _ _ _ _ from ?_);unfold bu bo dC;refine ar (a9 (Ak ∎ ?_));dsimp only;refine gN (m:=8) rfl ⋯ ∎ ∎ λq q0 q1=>gO (ds:=[.int 2,.int 1,.int 2,.int 3,.int 2,.int 1,.int 0,.int 5]) q0 q1 λd hd=>?_;have hj:∃j:Nat,j<=5/\d=.int j:=by
  simp only[Al,A3,or_false]at hd;rcases hd with rfl|rfl|rfl|rfl|rfl|rfl|rfl|rfl
  ·exact⟨2,by decide,rfl⟩
  ·exact⟨1,by decide,rfl⟩
  ·exact⟨2,by decide,rfl⟩
  ·exact⟨3,by decide,rfl⟩
  ·exact⟨2,by decide,rfl⟩
  ·exact⟨1,by decide,rfl⟩
  ·exact⟨0,by decide,rfl⟩
  ·exact⟨5,by decide,rfl⟩
 obtain⟨j,hj,rfl⟩:=hj;refine Ak ⟨by omega,by omega⟩ ?_;rw[B9];refine qv (λd=>∃P,mS P/\d=cf P) 600 (λd n Q' hn q=>bM (au rfl (Ak rfl ⟨by omega,λP n' hP _ hn'=>q (cf P) n' ⟨P,hP,rfl⟩ ⋯⟩))) _ [] af _ (by rw[eC];omega) λds n1 hpl hps0 hn1=>?_;rw[eC]at hpl hn1;rw[Cr];obtain⟨ps,rfl,hps⟩:=mU hps0;clear hps0;rw[Ad]at hpl;dsimp only[Bg];have rest:∀(ps':Pg)(n2:Int),ps'.length<=5->(∀P∈ps',mS P)->n2<=n1+1->bQ 1 (aw (wB eQ (ao ↥1 ak))) [ae (.w .tp),ae (.own (ps'.map cf))] n2 {nx:=λ_ n=>Q (.d .none) n,rt:=Q}:=λps' n2 hl' hp' hn2=>by
  refine gC rfl ?_;dsimp only[Bg];exact aZ (aU (au rfl (jl (k ps' n2 ⟨hl',hp'⟩ ⋯))))
 refine aF (e9 ?_);refine(show cT _ _ _ _ from ar (aU (gv rfl (lQ (aE (fL ?_))))));rw[Ad];show if decide ((ps.length:Int)=2)=ah then _ else _
 by_cases h2:(ps.length:Int)=2
 ·rw[if_pos (decide_eq_true h2)];refine ar (gN (m:=4) rfl ⋯ ∎ ∎ λq q0 q1=>aE (fL ?_));show if decide (q=0)=ah then _ else _
  by_cases hq:q=0
  ·rw[if_pos (decide_eq_true hq)];have hl2:ps.length=2:=by omega
   obtain⟨P,P',rfl⟩:∃P P',ps=[P,P']:=by
    match ps,hl2 with
    |[P,P'],_=>exact⟨P,P',rfl⟩
   refine(show iH 1 _ _ _ _ _ from ar (gv rfl (aE ?_)));refine(show aY (.ln [cf P,cf P']) (.d (.int 0)) _ _ from ?_);refine rest [P,P] _ (show 2<=5 by decide) (λR hR=>?_) ⋯;simp only[Al,A3,or_false,or_self]at hR;subst hR;exact hps _ Am
  ·rw[if_neg (by simpa using hq)];exact rest ps _ ⋯ hps ⋯
 ·rw[if_neg (by simpa using h2)];exact rest ps _ ⋯ hps ⋯
theorem n8{k:Str}(h:dQ k):k.length<=4:=by
 have:=EU h.1;omega
theorem Kno.up{l ys:List Str}(h:Kno l ys):ys.Pairwise λa b=>i9 a b=ah:=(h.1.and h.2.1).imp λ{a b} h=>by
 cases e:i9 a b with
 |true=>rfl
 |false=>exact absurd (slin.tot a b e (decide_eq_false h.2)) h.1
theorem rM{l ys:List Str}(h:Kno l ys):kS l=ys:=by
 have e:∃ys,Kno l ys:=⟨ys,h⟩;unfold kS;rw[dif_pos e];exact yX e.choose_spec.up h.up λk=>(e.choose_spec.2.2 k).trans (h.2.2 k).symm
theorem vX{l ys:List Str}{G:List Str->Prop}(h:Kno l ys)(k:Kno l (kS l)->G (kS l)):G ys:=by
 have e:=rM h;rw[e]at k;exact k h
theorem HF:cq k7 Om ["pattern"]:=λws n Q h=>by
 obtain⟨fs,rfl,ok,k⟩:=h;refine zv fs n ?_;exact⟨bf fs,.inl rfl,Hs (kc ok) ∎,λx hx=>B7 (n8 (kP ok x hx)) ∎,λys a b c=>k ys (B7 (rO a λz hz=>(b z).mp hz) (kc ok)) b⟩
theorem LU:cq qe ux ["program","block","place","wanted","acts","known","act"]:=λws n Q h=>by
 obtain⟨bs,i,p,⟨w,as⟩,rfl,hi,⟨hb1,hb2,hb3,hb4⟩,hp,k⟩:=h;dsimp only at hb1 hb2 hb3 hb4 hp k;have hi':(bs.map cP)[i]?=ae (cP (w,as)):=by rw[A0,hi];rfl
 show ux [ae (.w (.d (.tuple (bs.map cP)))),ae (.w (.d (.int i))),ae (.w (.d (.int p))),af,af,af,af] n _;refine aF (hU (x:=.tuple (w.map .str)) (λQ q=>ar (ar (au rfl (au rfl (eI hi' (aE (mD q))))))) ?_);dsimp only[Bg];refine aF (hU (x:=.tuple (as.map Ac.d)) (λQ q=>ar (ar (au rfl (au rfl (eI hi' (aE (fJ q))))))) ?_);dsimp only[Bg];refine aF (tG rfl ?_);dsimp only[Bg];refine aF ?_;unfold br bD bZ;refine au rfl ?_;dsimp only[bW,bX];refine au rfl ?_;dsimp only;rw[ya _ (by rw[Ad];exact hp),<-List.map_take];refine fR (λds δ n'=>∃(dn re:List Ac)(L:List Str)(x:Option SV),ds=re.map Ac.d/\dn++re=as.take p/\n'=n/\δ=[ae (.w (.d (.tuple (bs.map cP)))),ae (.w (.d (.int i))),ae (.w (.d (.int p))),ae (.w (.d (.tuple (w.map .str)))),ae (.w (.d (.tuple (as.map Ac.d)))),ae (.own (L.map .str)),x]/\KnI w dn L) (λδ n' I=>?_) (λd r δ n' N I kN=>?_) _ _ _
  ⟨[],as.take p,w,af,rfl,rfl,rfl,rfl,KnI.first hb1 hb2⟩
 ·obtain⟨dn,re,L,x,e,hdn,rfl,rfl,I⟩:=I;cases Gh.mp e.symm;rw[Bv]at hdn;subst hdn;dsimp only;refine gC rfl ?_;dsimp only[Bg];have hl:(as.take p).length<=8:=B7 (List.length_take_le _ _) ⋯;have hI:=I.len;refine aZ (aU (a9 (show jJ _ _ _ _ from au rfl ?_)));exact Du L ⟨.inl rfl,by omega,λx hx=>B7 (n8 (I.ok x hx)) ∎,λys a b c=>vX (G:=λys=>Q (.d (cO ys)) _) ⟨a,c,λz=>(b z).trans (I.mem z)⟩ k⟩
 ·obtain⟨dn,re,L,x,e,hdn,rfl,rfl,I⟩:=I;obtain⟨a,re,rfl,rfl,rfl⟩:=F3.mp e.symm;dsimp only[aD,Bg];have ha:dJ a.fs:=(hb4 a (E6 (i:=p) (by rw[<-hdn];exact A1 _ Am))).1;have hlen:L.length<=36:=by
   have h1:dn.length+(re.length+1)=(as.take p).length:=by rw[<-hdn,Ao,Ax]
   have h3:=I.len;have h4:(as.take p).length<=as.length:=List.length_take_le' _ _;omega
  have hdn':(dn++[a])++re=as.take p:=by rw[Bu];exact hdn
  have nxt:∀L',KnI w (dn++[a]) L'->N [ae (.w (.d (.tuple (bs.map cP)))),ae (.w (.d (.int i))),ae (.w (.d (.int p))),ae (.w (.d (.tuple (w.map .str)))),ae (.w (.d (.tuple (as.map Ac.d)))),ae (.own (L'.map .str)),ae (.w (.d a.d))] n':=λL' I'=>kN _ _ ⟨dn++[a],re,L',_,rfl,hdn',rfl,rfl,I'⟩;have get:∀(K:DEnds)(hK:∀δ n,N δ n->K.nx δ n)(s:Str)(fs:List Fe)(r:List Ab),a.d=.tuple (.str s::gD fs::r)->cQ (.str s) ((Zd:List Str).map .str)=ah->a.bs=bf fs->a.fs=fs->bb (cT (fN Zd (w2 ↥6 ⇑0 aC))) (kd 5 (az k7 (ao (w2 ↥6 ⇑1 aC) ak))) aV
    [ae (.w (.d (.tuple (bs.map cP)))),ae (.w (.d (.int i))),ae (.w (.d (.int p))),ae (.w (.d (.tuple (w.map .str)))),ae (.w (.d (.tuple (as.map Ac.d)))),ae (.own (L.map .str)),ae (.w (.d a.d))] n' K:=λK hK s fs r e1 e2 e3 e4=>by
   rw[e1]at nxt ⊢;refine aW (λQ q=>wM (s:=s) (λQ q=>dq rfl q) e2 q) ?_;refine(show kd 5 _ _ _ _ from bM (d3 rfl (Du fs ⟨rfl,e4▸ha,λys hl hys=>Ak ⟨by rw[Ad];omega,by rw[Ad];omega⟩ ?_⟩)));have:=nxt (L++ys) (I.more (λk=>by rw[e3];exact hys k) hl ha);rw[Cy]at this;exact hK _ _ this
  have skip:∀(K:DEnds)(hK:∀δ n,N δ n->K.nx δ n)(s:Str)(r:List Ab),a.d=.tuple (.str s::r)->cQ (.str s) ((Zd:List Str).map .str)=ai->a.bs=[]->bb (cT (fN Zd (w2 ↥6 ⇑0 aC))) (kd 5 (az k7 (ao (w2 ↥6 ⇑1 aC) ak))) aV
    [ae (.w (.d (.tuple (bs.map cP)))),ae (.w (.d (.int i))),ae (.w (.d (.int p))),ae (.w (.d (.tuple (w.map .str)))),ae (.w (.d (.tuple (as.map Ac.d)))),ae (.own (L.map .str)),ae (.w (.d a.d))] n' K:=λK hK s r e1 e2 e3=>by
   rw[e1]at nxt ⊢;refine bh (λQ q=>wM (s:=s) (λQ q=>dq rfl q) e2 q) (hK _ _ (nxt L (I.skip e3)))
  cases a with
  |lay fs age=>exact skip _ (λ_ _ z=>z) "lay" [gD fs,age] rfl ∅ rfl
  |take fs=>exact get _ (λ_ _ z=>z) "take" fs [] rfl ∅ rfl rfl
  |read fs=>exact get _ (λ_ _ z=>z) "read" fs [] rfl ∅ rfl rfl
  |look fs b=>exact get _ (λ_ _ z=>z) "look" fs [.int b] rfl ∅ rfl rfl
  |same f g b=>exact skip _ (λ_ _ z=>z) "same" [f.d,g.d,.int b] rfl ∅ rfl
  |go b=>exact skip _ (λ_ _ z=>z) "go" [.int b] rfl ∅ rfl
section
variable{δ:Sl}{n:Int}{K:DEnds}{i:Nat}{s a b c:Str}{r:List Ab}{k:Bool}{Q:Bool->Int->Prop}
theorem xm(e:δ[i]?=ae (ae (.w (.d (.tuple (.str s::r))))))(h:cQ (.str s) [.str a,.str b,.str c]=k)(q:Q k n):cT (w2 (w2 (aj i) (wC (.int 0)) aC) (aA (ao (wC (.str a)) (ao (wC (.str b)) (ao (wC (.str c)) ak)))) (iS ai)) δ n Q:=by
 refine ar (dq e ?_);show 3<=1000/\gs (.str s)=ah/\_/\Q (cQ (.str s) [.str a,.str b,.str c]) n;exact⟨by decide,rfl,rfl,by rw[h];exact q⟩
end
theorem Mj{δ:Sl}{n:Int}{K:DEnds}{i:Nat}{w:DT}{es:List Ab}(e:δ[i]?=ae (ae (.own es)))(k:w δ n λx n1=>match x with
  |.d (.list fs)=>(es.length < 1000000/\fs.length < 1000000)/\K.nx (δ.set i (ae (.own (es++fs)))) n1
  |_=>False):eW i w δ n K:=by
 unfold eW;rw[e];exact k
theorem L4:cq nM zI ["_law_program_here","_law_block","_law_place","_law_found","_law_act_here"]:=λws n Q h=>by
 obtain⟨bs,i,p,⟨w,as⟩,rfl,hi,⟨hb1,hb2,hb3,hb4⟩,hp,k⟩:=h;dsimp only at hb1 hb2 hb3 hb4 hp k;have hi':(bs.map cP)[i]?=ae (cP (w,as)):=by rw[A0,hi];rfl
 show zI [ae (.w (.d (.tuple (bs.map cP)))),ae (.w (.d (.int i))),ae (.w (.d (.int p))),af,af] n _;refine aF (show bu 3 (iT _) _ _ _ from ar (ar (au rfl (au rfl (eI hi' (aE (mD ?_)))))));dsimp only[cO,Bg];refine aF ?_;unfold br bD bZ;refine ar (ar (au rfl (au rfl (eI hi' (aE (fJ ?_))))));dsimp only[bW,bX];refine au rfl ?_;dsimp only;rw[ya _ (by rw[Ad];exact hp),<-List.map_take];refine fR (λds δ n'=>∃(dn re:List Ac)(L:List Str)(x:Option SV),ds=re.map Ac.d/\dn++re=as.take p/\n'=n/\δ=[ae (.w (.d (.tuple (bs.map cP)))),ae (.w (.d (.int i))),ae (.w (.d (.int p))),ae (.own (L.map .str)),x]/\KnI w dn L) (λδ n' I=>?_) (λd r δ n' N I kN=>?_) _ _ _
  ⟨[],as.take p,w,af,rfl,rfl,rfl,rfl,KnI.first hb1 hb2⟩
 ·obtain⟨dn,re,L,x,e,hdn,rfl,rfl,I⟩:=I;cases Gh.mp e.symm;rw[Bv]at hdn;subst hdn;dsimp only;refine gC rfl ?_;dsimp only[Bg];have hl:(as.take p).length<=8:=B7 (List.length_take_le _ _) ⋯;have hI:=I.len;refine aZ (a9 (show jJ _ _ _ _ from au rfl ?_));exact Du L ⟨.inl rfl,by omega,λx hx=>B7 (n8 (I.ok x hx)) ∎,λys a b c=>vX (G:=λys=>Q (.d (.list (ys.map .str))) _) ⟨a,c,λz=>(b z).trans (I.mem z)⟩ k⟩
 ·obtain⟨dn,re,L,x,e,hdn,rfl,rfl,I⟩:=I;obtain⟨a,re,rfl,rfl,rfl⟩:=F3.mp e.symm;dsimp only[aD,Bg];have ha:dJ a.fs:=(hb4 a (E6 (i:=p) (by rw[<-hdn];exact A1 _ Am))).1;have hlen:L.length<=36:=by
   have h1:dn.length+(re.length+1)=(as.take p).length:=by rw[<-hdn,Ao,Ax]
   have h3:=I.len;have h4:(as.take p).length<=as.length:=List.length_take_le' _ _;omega
  have hdn':(dn++[a])++re=as.take p:=by rw[Bu];exact hdn
  have nxt:∀L',KnI w (dn++[a]) L'->N [ae (.w (.d (.tuple (bs.map cP)))),ae (.w (.d (.int i))),ae (.w (.d (.int p))),ae (.own (L'.map .str)),ae (.w (.d a.d))] n':=λL' I'=>kN _ _ ⟨dn++[a],re,L',_,rfl,hdn',rfl,rfl,I'⟩;have get:∀(K:DEnds)(hK:∀δ n,N δ n->K.nx δ n)(s:Str)(fs:List Fe)(r:List Ab),a.d=.tuple (.str s::gD fs::r)->cQ (.str s) [.str "take",.str "read",.str "look"]=ah->a.bs=bf fs->a.fs=fs->bb (cT (w2 (w2 ↥4 ⇑0 aC) (aA (ao (wC (.str "take")) (ao (wC (.str "read")) (ao (wC (.str "look")) ak)))) (iS ai))) (eW 3 (aP (bo [af] (bD (w2 ↥4 ⇑1 aC)) (aD 0) (cT (w2 (w2 ↥0 ⇑0 aC) (wC (.str "bind")) ck)) (w2 ↥0 ⇑1 aC)))) aV
    [ae (.w (.d (.tuple (bs.map cP)))),ae (.w (.d (.int i))),ae (.w (.d (.int p))),ae (.own (L.map .str)),ae (.w (.d a.d))] n' K:=λK hK s fs r e1 e2 e3 e4=>by
   rw[e1]at nxt ⊢;refine aW (λQ q=>xm rfl e2 q) ?_;have hb:(bf fs).length<=4:=kc (e4▸ha);refine Mj rfl (a9 (fI (ds:=fs.map Fe.d) (λQ q=>d3 rfl q) (zv fs n' ?_)));refine Ak ⟨by rw[Ad];omega,by rw[Ad];omega⟩ ?_;have:=nxt (L++bf fs) (I.more (λk=>by rw[e3]) hb ha);rw[Cy]at this;exact hK _ _ this
  have skip:∀(K:DEnds)(hK:∀δ n,N δ n->K.nx δ n)(s:Str)(r:List Ab),a.d=.tuple (.str s::r)->cQ (.str s) [.str "take",.str "read",.str "look"]=ai->a.bs=[]->bb (cT (w2 (w2 ↥4 ⇑0 aC) (aA (ao (wC (.str "take")) (ao (wC (.str "read")) (ao (wC (.str "look")) ak)))) (iS ai))) (eW 3 (aP (bo [af] (bD (w2 ↥4 ⇑1 aC)) (aD 0) (cT (w2 (w2 ↥0 ⇑0 aC) (wC (.str "bind")) ck)) (w2 ↥0 ⇑1 aC)))) aV
    [ae (.w (.d (.tuple (bs.map cP)))),ae (.w (.d (.int i))),ae (.w (.d (.int p))),ae (.own (L.map .str)),ae (.w (.d a.d))] n' K:=λK hK s r e1 e2 e3=>by
   rw[e1]at nxt ⊢;refine bh (λQ q=>xm rfl e2 q) (hK _ _ (nxt L (I.skip e3)))
  cases a with
  |lay fs age=>exact skip _ (λ_ _ z=>z) "lay" [gD fs,age] rfl ∅ rfl
  |take fs=>exact get _ (λ_ _ z=>z) "take" fs [] rfl ∅ rfl rfl
  |read fs=>exact get _ (λ_ _ z=>z) "read" fs [] rfl ∅ rfl rfl
  |look fs b=>exact get _ (λ_ _ z=>z) "look" fs [.int b] rfl ∅ rfl rfl
  |same f g b=>exact skip _ (λ_ _ z=>z) "same" [f.d,g.d,.int b] rfl ∅ rfl
  |go b=>exact skip _ (λ_ _ z=>z) "go" [.int b] rfl ∅ rfl
theorem iQ{α:Type}{w:DT}{Q:List Ab->Int->Prop}{rest:Sl}(f g:α->Ab):∀(xs:List α)(acc:List Ab)(x:Option SV)(n:Int),(∀a∈xs,∀(n:Int)(Q':DQ),Q' (.d (g a)) n->w (ae (.w (.d (f a)))::rest) n Q')->Q (acc++xs.map g) n->bN (aD 0) aG w Q (xs.map f) acc (x::rest) n
 |[],acc,x,n,_,q=>by rw[Ck,Bv]at q;exact q
 |a::r,acc,x,n,h,q=>by
  simp only[A5,bN,aD,aG,if_true,B8];refine h a Am n _ (iQ f g r (acc++[g a]) _ n (λb hb=>h b (Ar _ hb)) ?_);rw[Bu];exact q
theorem oz{α:Type}(g:α->Bool):∀l:List α,dU (l.map λf=>.bool (g f))=ae (l.map g)
 |[]=>rfl
 |f::l=>by
  rw[A5,A5,dU,oz g l];rfl
theorem j7{α:Type}{δ:Sl}{n:Int}{Q:DQ}{rest:Sl}{w:DT}{F:dX}(f:α->Ab)(g:α->Bool)(xs:List α)(hF:∀Q:List Ab->Int->Prop,bN (aD 0) aG w Q (xs.map f) [] (af::rest) n->F δ n Q)(h:∀a∈xs,∀(n:Int) (Q':DQ),Q' (.d (.bool (g a))) n->w (ae (.w (.d (f a)))::rest) n Q')(q:Q (.d (.bool (xs.all g))) n):wB bc (ao (aP F) ak) δ n Q:=by
 refine aU (a9 (hF _ (iQ f (λa=>.bool (g a)) xs [] af n h ?_)));rw[Cr];show(match dU (xs.map λc=>.bool (g c))with|some bs=>Q (.d (.bool (bs.all id))) n|none=>False);rw[oz];show Q (.d (.bool ((xs.map g).all id))) n;rw[G0];exact q
theorem mP{δ:Sl}{n:Int}{Q:DQ}{w:DT}{lo k hi:Int}{wl wh:DT}(hl:∀Q:DQ,Q (.d (.int lo)) n->wl δ n Q)(hw:∀Q:DQ,Q (.d (.int k)) n->w δ n Q)(hh:∀Q:DQ,Q (.d (.int hi)) n->wh δ n Q)(q:Q (.d (.bool (decide (lo<=k)&&decide (k<=hi)))) n):cZ di di wl w wh δ n Q:=by
 unfold cZ;refine hl _ (hw _ ?_);show gk (.d (.bool (decide (lo<=k)))) _ _;cases h:decide (lo<=k)with
 |true=>rw[h]at q;exact hh _ q
 |false=>rw[h]at q;exact q
theorem AF{n:Int}{Q:DQ}{ds:List Ab}(k:Q (.d (.int ds.length)) n):aH [.d (.tuple ds)] n Q:=k
theorem ji{i j n:Int}{Q:DQ}(k:Q (.d (.int (i+j))) n):cJ (λi j=>.int (i+j)) (.d (.int i)) (.d (.int j)) n Q:=k
theorem iu{a b n:Int}{Q:DQ}(k:Q (.d (.int (a-b))) n):cJ (λi j=>.int (i-j)) (.d (.int a)) (.d (.int b)) n Q:=k
theorem cR{ds:List Ab}(h:ds.length=2):∃a b,ds=[a,b]:=by
 match ds,h with
 |[a,b],_=>exact⟨a,b,rfl⟩
theorem ke{δ:Sl}{n:Int}{i:Nat}{ds:List Ab}{k:Int}(e:δ[i]?=ae (ae (.w (.d (.tuple ds))))):∀Q:Bool->Int->Prop,Q (!decide ((ds.length:Int)=k)) n->cT (w2 (wB aH (ao (aj i) ak)) (wC (.int k)) dM) δ n Q:=λQ q=>aB (k:=!decide ((ds.length:Int)=k)) (λQ q=>ar (eJ e (aE q))) q
theorem jq{g:Ab->Bool}(h:∀ds,g (.tuple ds)=ah->ds.length=2){ds:List Ab}(h2:ds.length≠2):g (.tuple ds)=ai:=by
 cases e:g (.tuple ds)with
 |false=>rfl
 |true=>exact absurd (h ds e) h2
theorem yD:∀ds,dP (.tuple ds)=ah->ds.length=2:=λds h=>by
 rcases ds with _|⟨a,_|⟨b,_|⟨c,r⟩⟩⟩
 ·cases h
 ·cases h
 ·rfl
 ·cases h
theorem FD:∀ws n Q,a8 dP ws n Q->ws.length=1:=λ_ _ _ h=>e7 h
theorem MH:∀ws n Q,a8 dP ws n Q->xA (dh Zb ws) n {nx:=λ_ n=>Q (.d .none) n,rt:=Q}:=fc λd n K q=>by
 show xA [ae (.w (.d d))] n K;refine aZ ?_;cases d with
 |tuple ds=>
  refine cn (a:=ah) (b:=dP (.tuple ds)) (λQ q=>iJ rfl q) (λ_ Q q=>?_) q;by_cases h2:ds.length=2
  ·obtain⟨a,b,rfl⟩:=cR h2;refine cn (a:=ah) (b:=bq 4 a&&bP b) (λQ q=>ar (eJ (ds:=[a,b]) rfl (aE q))) (λ_ Q q=>?_) q;exact cn (a:=bq 4 a) (b:=bP b) (λQ q=>du (g:=bq 4) (λQ q=>dq rfl q) Q q) (λ_ Q q=>du (g:=bP) (λQ q=>d3 rfl q) Q q) q
  ·rw[jq yD h2]at q;exact cn (a:=ai) (b:=ah) (λQ q=>ar (eJ rfl (aE (show Q (.d (.bool (decide ((ds.length:Int)=2)))) n by rw[decide_eq_false ⋯];exact q)))) (λz=>nomatch z) q
 |_=>exact cn (a:=ai) (b:=ai) (λQ q=>q) (λz=>nomatch z) q
theorem qA{d:Ab}(h:dP d=ah):∃(x:Str)(v:Ab),d=.tuple [.str x,v]/\bq 4 (.str x)=ah/\bP v=ah:=by
 cases d with
 |tuple ds=>
  obtain⟨a,b,rfl⟩:=cR (yD ds h);have h:(bq 4 a&&bP b)=ah:=h;rw[Ay]at h;cases a with
  |str x=>exact⟨x,b,rfl,h.1,h.2⟩
  |_=>cases h.1
 |_=>cases h
theorem yG{Q:List Ab->Int->Prop}{n:Int}:∀(ds acc:List Ab)(x y:Option SV),(∀d∈ds,dP d=ah)->(∀bs:List Bool,bs.all id=eH ds->Q (acc++bs.map .bool) n)->
  bN (cz 2 (bB (aD 0) (bB (aD 1) b6))) aG (w2 (w2 ↥0 ⇑0 aC) (w2 ↥1 ⇑0 aC) f6) Q (cU ds (ds.drop 1)) acc [x,y] n
 |[],acc,x,y,_,q=>by
  have:=q [] rfl;rw[Ck,Bv]at this;exact this
 |[a],acc,x,y,_,q=>by
  have:=q [] rfl;rw[Ck,Bv]at this;exact this
 |a::b::r,acc,x,y,h,q=>by
  obtain⟨s,v,rfl,_⟩:=qA (h a Am);obtain⟨t,u,rfl,_⟩:=qA (h b (Ar _ Am));refine Ak rfl ?_;dsimp only[bB,b6,aD,Bg,aG];rw[if_pos rfl];refine ar (dq rfl (dq rfl ?_));show bN _ _ _ _ _ (acc++[.bool (decide (s.cps.toList < t.cps.toList))]) _ n;refine yG (.tuple [.str t,u]::r) _ _ _ (λd hd=>h d (Ar _ hd)) λbs hb=>?_;have:=q (decide (s.cps.toList < t.cps.toList)::bs) (by rw[Dl,hb];rfl);rw[A5]at this;rw[Bu];exact this
theorem Pe:∀ws n Q,a8 dA ws n Q->ws.length=1:=λ_ _ _ h=>e7 h
theorem sh:∀bs:List Bool,dU (bs.map .bool)=ae bs
 |[]=>rfl
 |b::r=>by rw[A5,dU,sh r];rfl
theorem JI:∀ws n Q,a8 dA ws n Q->xK (dh Zb ws) n {nx:=λ_ n=>Q (.d .none) n,rt:=Q}:=fc λd n K q=>by
 show xK [ae (.w (.d d))] n K;cases d with
 |tuple ds=>
  have q:K.rt (.d (.bool (ds.all dP&&eH ds))) n:=q;have ha:∀Q:Bool->Int->Prop,Q (!ds.all dP) n->aI (cT (wB bc (ao (aP (bo [af] (bD ↥0) (aD 0) aG (az (a8 dP) (ao ↥0 ak)))) ak))) [ae (.w (.d (.tuple ds)))] n Q:=λQ q=>cL (k:=ds.all dP) (λQ q=>aB (k:=ds.all dP) (λQ q=>j7 (w:=az (a8 dP) (ao ↥0 ak)) id dP ds (rest:=[]) (λQ q=>fI (ds:=ds) (λQ q=>au rfl q) (by rw[Et]at q;exact q)) (λd hd n Q' q=>du (g:=dP) (λQ q=>au rfl q) Q' q) q) q) q;cases hb:ds.all dP with
  |false=>
   rw[hb]at q ha;exact aF (aW (λQ q=>aR (a:=ai) (b:=ah) (bH rfl) (λ_ Q q=>ha Q q) q) (aZ (aE q)))
  |true=>
   rw[hb,Cf]at q;rw[hb]at ha;refine aF (bh (λQ q=>aR (a:=ai) (b:=ai) (bH rfl) (λ_ Q q=>ha Q q) q) ?_);dsimp only[aV];refine aZ (aU (a9 ?_));unfold bo lx bZ bX bW;refine au rfl (au rfl (aE ?_));have ec:bg ds (ae 1) af=ds.drop 1:=by
    unfold bg;rw[show(1:Int)=((1:Nat):Int)from rfl,HT.sIx_nat,HT.sIx_none];cases ds with
    |nil=>rfl
    |cons a r=>simp
   dsimp only;rw[ec];refine Ak (by rw[Dm];omega) ?_;show bN _ _ _ _ _ [] [af,af] n;refine yG ds [] af af (λd hd=>Cq.mp hb d hd) λbs hbs=>?_;rw[Cr];show(match dU (bs.map .bool)with|some bs=>K.rt (.d (.bool (bs.all id))) n|none=>False);rw[sh];show K.rt (.d (.bool (bs.all id))) n;rw[hbs];exact q
 |_=>exact aF (aW (λQ q=>aR (a:=ah) (b:=ah) (λQ q=>cL (k:=ai) (λQ q=>aB (k:=ai) (λQ q=>q) q) q) (λz=>nomatch z) q) (aZ (aE q)))
theorem qH(ds:List Ab):iR (.tuple ds)=decide ((ds.length:Int)=3):=by
 rcases ds with _|⟨a,_|⟨b,_|⟨c,_|⟨d,r⟩⟩⟩⟩
 ·rfl
 ·rfl
 ·rfl
 ·rfl
 ·exact(decide_eq_false (by simp only[Ax];omega)).symm
theorem Jo:∀ws n Q,a8 gW ws n Q->ws.length=1:=λ_ _ _ h=>e7 h
theorem Lq:∀ws n Q,a8 gW ws n Q->tq (dh Zb ws) n {nx:=λ_ n=>Q (.d .none) n,rt:=Q}:=fc λd n K q=>by
 show tq [ae (.w (.d d))] n K;refine aZ ?_;cases d with
 |tuple ds=>
  refine cn (a:=ah) (b:=ds.all iR) (λQ q=>iJ rfl q) (λ_ Q q=>?_) q;refine j7 (w:=aO (aL "tuple" ↥0) (w2 (wB aH (ao ↥0 ak)) ⇑3 ck)) id iR ds (rest:=[]) (λQ q=>fI (ds:=ds) (λQ q=>au rfl q) (by rw[Et]at q;exact q)) (λd hd n Q' q=>?_) q;cases d with
  |tuple es=>
   rw[qH]at q;exact cn (a:=ah) (b:=decide ((es.length:Int)=3)) (λQ q=>iJ rfl q) (λ_ Q q=>ar (eJ (ds:=es) rfl (aE q))) q
  |_=>exact cn (a:=ai) (b:=ai) (λQ q=>q) (λz=>nomatch z) q
 |_=>exact cn (a:=ai) (b:=ai) (λQ q=>q) (λz=>nomatch z) q
theorem vR:∀ds,fF (.tuple ds)=ah->ds.length=2:=λds h=>by
 rcases ds with _|⟨a,_|⟨b,_|⟨c,r⟩⟩⟩
 ·cases h
 ·cases h
 ·rfl
 ·cases h
theorem NN{d:Ab}:bE "tuple" d=lq d:=by cases d<;>rfl
theorem Jj:∀ws n Q,a8 fF ws n Q->ws.length=1:=λ_ _ _ h=>e7 h
theorem K6:∀ws n Q,a8 fF ws n Q->uU (dh Zb ws) n {nx:=λ_ n=>Q (.d .none) n,rt:=Q}:=fc λd n K q=>by
 show uU [ae (.w (.d d))] n K;cases d with
 |tuple ds=>
  by_cases h2:ds.length=2
  ·obtain⟨a,b,rfl⟩:=cR h2;have q:K.rt (.d (.bool (gW a&&lq b))) n:=q;refine aF (bh (λQ q=>aR (a:=ai) (b:=ai) (bH rfl) (λ_ Q q=>ke (ds:=[a,b]) rfl Q q) q) ?_);dsimp only[aV];exact aZ (cn (a:=gW a) (b:=lq b) (λQ q=>du (g:=gW) (λQ q=>dq rfl q) Q q) (λ_ Q q=>(show w2 _ _ _ _ _ _ from d3 rfl (by rw[<-NN]at q;exact q))) q)
  ·rw[jq vR h2]at q;have e2:decide ((ds.length:Int)=2)=ai:=decide_eq_false ⋯;exact aF (aW (λQ q=>aR (a:=ai) (b:=ah) (bH rfl) (λ_ Q q=>ke rfl Q (by rw[e2];exact q)) q) (aZ (aE q)))
 |_=>exact aF (aW (λQ q=>aR (a:=ah) (b:=ah) (λQ q=>cL (k:=ai) (λQ q=>aB (k:=ai) (λQ q=>q) q) q) (λz=>nomatch z) q) (aZ (aE q)))
theorem KA:cq ng xt ["thing","most"]:=λws n Q h=>by
 obtain⟨d,k,rfl,q⟩:=h;show xt [ae (.w (.d d)),ae (.w (.d (.int k)))] n _;refine aZ ?_;cases d with
 |int i=>exact cn (a:=ah) (b:=cF 0 k (.int i)) (λQ q=>du (g:=gh) (d:=.int i) (λQ q=>au rfl q) Q q) (λ_ Q q=>mP (λQ q=>aE q) (λQ q=>au rfl q) (λQ q=>au rfl q) q) q
 |_=>exact cn (a:=ai) (b:=ai) (λQ q=>(show az (a8 gh) _ _ _ _ from q)) (λz=>nomatch z) q
theorem J8:cq m7 sR ["program","hand"]:=λws n Q h=>by
 obtain⟨P,⟨a,b,c⟩,rfl,q⟩:=h;show sR [ae (.w (.d (cf P))),ae (.w (.d (.tuple [a,b,c])))] n _;have q:Q (.d (.bool (gE P a b))) n:=q;unfold gE at q;refine aZ (cn (a:=cF 0 ((P.length:Int)-1) a) (λQ q=>bK (dq rfl (ar (eJ rfl (aE (iu ⟨a,_,rfl,by rw[Ad];exact q⟩)))))) (λh1 Q q=>?_) q);cases a with
 |int i=>
  have hi:(decide ((0:Int)<=i)&&decide (i<=(P.length:Int)-1))=ah:=h1;rw[Ay]at hi;have i0:=of_decide_eq_true hi.1;have i1:=of_decide_eq_true hi.2;obtain⟨m,rfl⟩:=El i0;have hm:m < P.length:=by omega
  have q:Q (.d (.bool (cF 0 (((P[m]?).map λbl=>bl.2.length).getD 0:Nat) b))) n:=q;rw[Ah hm]at q;have hP:(P.map cP)[m]?=ae (cP P[m]):=by rw[A0,Ah hm];rfl
  refine bK (d3 rfl (aU (ar (ar (au rfl (dq rfl (eI (i:=m) hP (aE (fJ (AF ⟨b,_,rfl,?_⟩))))))))));rw[Ad];exact q
 |_=>cases h1
theorem yY{P:List Bl}{h:H3}(hp:eM (P,h)=ah):∃(i p:Nat)(b:Bl),h=(.int i,.int p,h.2.2)/\P[i]?=ae b/\p<=b.2.length:=by
 obtain⟨a,c,e⟩:=h;have hp:gE P a c=ah:=hp;unfold gE at hp;rw[Ay]at hp;cases a with
 |int i=>
  have hi:(decide ((0:Int)<=i)&&decide (i<=(P.length:Int)-1))=ah:=hp.1;rw[Ay]at hi;have i0:=of_decide_eq_true hi.1;have i1:=of_decide_eq_true hi.2;obtain⟨m,rfl⟩:=El i0;have hm:m < P.length:=by omega
  have h2:cF 0 (((P[m]?).map λbl=>bl.2.length).getD 0:Nat) c=ah:=hp.2;rw[Ah hm]at h2;cases c with
  |int j=>
   have hj:(decide ((0:Int)<=j)&&decide (j<=(P[m].2.length:Int)))=ah:=h2;rw[Ay]at hj;have j0:=of_decide_eq_true hj.1;have j1:=of_decide_eq_true hj.2;obtain⟨p,rfl⟩:=El j0;exact⟨m,p,P[m],rfl,Ah hm,by omega⟩
  |_=>cases h2
 |_=>cases hp.1
theorem zo{b:Bl}(h:gY b)(p:Nat):∀k∈kn b.1 b.2 p,dQ k:=λk hk=>by
 rcases A6.mp hk with z|z
 ·exact h.2.1 k z
 ·obtain⟨a,ha,hk⟩:=List.mem_flatMap.mp z;exact(qL (h.2.2.2 a (E6 ha)).1).1 k hk
theorem nY{b:Bl}(h:gY b)(p:Nat):(∀k∈kS (kn b.1 b.2 p),dQ k)/\(kS (kn b.1 b.2 p)).Pairwise λa b=>i9 a b=ah:=by
 by_cases e:∃ys,Kno (kn b.1 b.2 p) ys
 ·obtain⟨ys,hy⟩:=e;rw[rM hy];exact⟨λk hk=>zo h p k ((hy.2.2 k).mp hk),hy.up⟩
 ·have:kS (kn b.1 b.2 p)=[]:=by unfold kS;rw[dif_neg e]
  rw[this];exact Ak (λk hk=>nomatch hk) Gf
theorem Je{L k:Nat}{x:Str}(h:Th L k (.str x)):Fk x=ah:=by cases h;assumption
theorem wK:∀{ys:List Str}{ds:List Ab},bU ys ds=ah->∃L:List (Str×Ab),ds=L.map cx/\L.map (·.1)=ys/\∀q∈L,bP q.2=ah
 |[],[],_=>⟨[],rfl,rfl,λq hq=>nomatch hq⟩
 |[],d::ds,h=>by cases h
 |y::ys,[],h=>by cases h
 |y::ys,d::ds,h=>by
  unfold bU at h
  split at h
  ·rename_i e;cases e
  ·rename_i y' ys' x v ds' e1 e2;cases e1;cases e2;rw[Ay,Ay]at h;obtain⟨L,rfl,e,hL⟩:=wK h.2.2;have hx:=of_decide_eq_true h.1;exact⟨(x,v)::L,rfl,by rw[A5,e,hx],λq hq=>(Al.mp hq).elim (λz=>z▸h.2.1) (hL q)⟩
  ·cases h
theorem yL:∀(L:List (Str×Ab))(ys:List Str),(∀q∈L,bP q.2=ah)->bU ys (L.map cx)=decide (L.map (·.1)=ys)
 |[],[],_=>rfl
 |[],y::ys,_=>rfl
 | (x,v)::L,[],_=>rfl
 | (x,v)::L,y::ys,h=>by
  have ih:=yL L ys λq hq=>h q (Ar _ hq);show(decide (x=y)&&(bP v&&bU ys (L.map cx)))=decide (x::L.map (·.1)=y::ys);rw[ih,h (x,v) Am,Cf];by_cases e1:x=y
  ·by_cases e2:L.map (·.1)=ys
   ·rw[decide_eq_true e1,decide_eq_true e2,decide_eq_true (by rw[e1,e2])];rfl
   ·rw[decide_eq_false e2,decide_eq_false (λz=>e2 (Gz z).2),Fg]
  ·rw[decide_eq_false e1,decide_eq_false (λz=>e1 (Gz z).1)];rfl
theorem xh:∀L:List (Str×Ab),eH (L.map cx)=mF ((L.map (·.1)).map .str)
 |[]=>rfl
 |[_]=>rfl
 |a::b::L=>by
  have ih:=xh (b::L);show(decide (a.1.cps.toList < b.1.cps.toList)&&eH ((b::L).map cx))=_;rw[ih];rfl
theorem K9{ds:List Ab}(h:ds.all dP=ah):∃L:List (Str×Ab),ds=L.map cx/\∀q∈L,bq 4 (.str q.1)=ah/\bP q.2=ah:=mU (f:=cx) (P:=λq=>bq 4 (.str q.1)=ah/\bP q.2=ah) λd hd=>by
 obtain⟨x,v,rfl,h1,h2⟩:=qA (Cq.mp h d hd);exact⟨(x,v),⟨h1,h2⟩,rfl⟩
theorem Iy{b:Bl}(wf:gY b){p:Nat}{d:Ab}(h:iN (kS (kn b.1 b.2 p)) d=ah):dA d=ah:=by
 obtain⟨h1,h2⟩:=nY wf p;cases d with
 |tuple ds=>
  obtain⟨L,rfl,e,hv⟩:=wK h;show((L.map cx).all dP&&eH (L.map cx))=ah;rw[xh,e,(yp _).mpr h2,Fs,G0];refine Cq.mpr λq hq=>?_;show(bq 4 (.str q.1)&&bP q.2)=ah;rw[hv q hq,(h1 q.1 (by rw[<-e];exact He hq)).1];rfl
 |_=>cases h
theorem qu{ks:List Str}(h:∀k∈ks,Fk k=ah):Bm (cO ks)=ah/\Ce (cO ks)<=20:=by
 have:Cb (ks.map .str)=ah/\Cj (ks.map .str)<=0:=by
  induction ks with
  |nil=>exact⟨rfl,Aq _⟩
  |cons k r ih=>
   obtain⟨a1,a2⟩:=ih λx hx=>h x (Ar _ hx);rw[A5];refine⟨?_,?_⟩
   ·rw[Cb,a1,Bm,h k Am];rfl
   ·rw[Cj,Ce];omega
 refine⟨?_,?_⟩
 ·show Bm (.tuple (ks.map .str))=ah;rw[Bm];exact this.1
 ·show Ce (.tuple (ks.map .str))<=20;rw[Ce];omega
theorem CL:cq mN xo ["program","hand"]:=λws n Q h=>by
 obtain⟨P,h3,rfl,wf,hp,ok,q⟩:=h;obtain⟨i,p,b,e3,hb,hpl⟩:=yY hp;obtain⟨a0,b0,c⟩:=h3;cases e3;have wb:=wf b (B6 hb);have ek:eS (P,(.int i,.int p,c))=iN (kS (kn b.1 b.2 p)) c:=by
  show(match P[i]? with|some b=>iN (kS (kn b.1 b.2 p)) c|none=>ai)=_;rw[hb]
 rw[ek]at q;show xo [ae (.w (.d (cf P))),ae (.w (.d (.tuple [.int i,.int p,c])))] n _;have hn:∀Q:Bool->Int->Prop,Q (!dA c) n->aI (cT (az (a8 dA) (ao (w2 ↥1 ⇑2 aC) ak))) [ae (.w (.d (cf P))),ae (.w (.d (.tuple [.int i,.int p,c])))] n Q:=λQ q=>cL (k:=dA c) (λQ q=>aB (k:=dA c) (λQ q=>du (g:=dA) (λQ q=>ar (au rfl (aE (gq q)))) Q q) q) q;cases hc:dA c with
 |false=>
  rw[hc]at hn;have:iN (kS (kn b.1 b.2 p)) c=ai:=by
   cases e:iN (kS (kn b.1 b.2 p)) c with
   |false=>rfl
   |true=>rw[Iy wb e]at hc;cases hc
  rw[this]at q;exact aF (aW hn (aZ (aE q)))
 |true=>
  rw[hc]at hn;refine aF (bh hn ?_);dsimp only[aV];cases c with
  |tuple ds=>
   have hc:(ds.all dP&&eH ds)=ah:=hc;rw[Ay]at hc;obtain⟨L,rfl,hL⟩:=K9 hc.1;have q:Q (.d (.bool (bU (kS (kn b.1 b.2 p)) (L.map cx)))) n:=q;rw[yL L _ λq hq=>(hL q hq).2]at q;have sn:∀k∈L.map (·.1),Fk k=ah:=λk hk=>by
    obtain⟨r,hr,rfl⟩:=Bk.mp hk;obtain⟨Lw,kk,hT,_,_⟩:=ok;have h1:=hT.mem (cx r) (He hr);have h2:=Th.mem (ds:=[.str r.1,r.2]) h1 (.str r.1) Am;exact Je h2
   refine aZ (ar (aU (a9 (fI (ds:=L.map cx) (λQ q=>ar (au rfl (aE (gq q)))) ?_))));show bN _ _ _ _ _ _ [af] n;refine iQ cx (λq=>.str q.1) L [] af n (λq _ n Q' k=>dq rfl k) ?_;rw[Cr];refine dH (au rfl (dq rfl (d3 rfl ⟨P,i,p,b,rfl,hb,wb,hpl,λhK=>?_⟩)));have l1:=qu sn;have l2:=qu λk hk=>((nY wb p).1 k hk).2.1;have em:(L.map λq=>D9 q.1)=(L.map (·.1)).map .str:=by rw[Er];rfl
   rw[em];refine⟨l1.1,l2.1,l1.2,l2.2,_,rfl,?_⟩;show Q (.d (.bool (Bw (.tuple ((L.map (·.1)).map .str)) (.tuple ((kS (kn b.1 b.2 p)).map .str))))) n;rw[Bw,vd];exact q
  |_=>cases hc
theorem xJ{α β:Type}{w:DT}{Q:List Ab->Int->Prop}(f:α->Ab)(g:β->Ab)(p:α×β->Bool):∀(xs:List α)(ys:List β)(acc:List Ab)(x y:Option SV)(n:Int),(∀q∈xs.zip ys,∀(n:Int)(Q':DQ),Q' (.d (.bool (p q))) n->w [ae (.w (.d (f q.1))),ae (.w (.d (g q.2)))] n Q')->Q (acc++(xs.zip ys).map λq=>.bool (p q)) n->bN (cz 2 (bB (aD 0) (bB (aD 1) b6))) aG w Q (cU (xs.map f) (ys.map g)) acc [x,y] n
 |[],ys,acc,x,y,n,_,q=>by
  rw[List.zip_nil_left,Ck,Bv]at q;cases ys<;>exact q
 |a::xs,[],acc,x,y,n,_,q=>by
  rw[List.zip_nil_right,Ck,Bv]at q;exact q
 |a::xs,b::ys,acc,x,y,n,h,q=>by
  rw[Gr]at h q;refine Ak rfl ?_;dsimp only[bB,b6,aD,Bg,aG];rw[if_pos rfl];refine h (a,b) Am n _ ?_;refine xJ f g p xs ys _ _ _ n (λr hr=>h r (Ar _ hr)) ?_;rw[Bu];exact q
theorem qY{α β:Type}{δ:Sl}{n:Int}{Q:DQ}{w:DT}{i j:Nat}(f:α->Ab)(g:β->Ab)(p:α×β->Bool)(xs:List α)(ys:List β)(hl:xs.length=ys.length)(e1:δ[i]?=ae (ae (.w (.d (.tuple (xs.map f))))))(e2:δ[j]?=ae (ae (.w (.d (.tuple (ys.map g))))))(h:∀q∈xs.zip ys,∀(n:Int) (Q':DQ),Q' (.d (.bool (p q))) n->w [ae (.w (.d (f q.1))),ae (.w (.d (g q.2)))] n Q')(q:Q (.d (.bool ((xs.zip ys).all p))) n):
  wB bc (ao (aP (bo [af,af] (iP (aj i) (aj j)) (cz 2 (bB (aD 0) (bB (aD 1) b6))) aG w)) ak) δ n Q:=by
 refine aU (a9 ?_);unfold bo iP;refine au e1 (au e2 ?_);dsimp only;refine Ak (by rw[Ad,Ad];exact hl) ?_;show bN _ _ _ _ _ [] [af,af] n;refine xJ f g p xs ys [] af af n h ?_;rw[Cr];show(match dU ((xs.zip ys).map λc=>.bool (p c))with|some bs=>Q (.d (.bool (bs.all id))) n|none=>False);rw[oz];show Q (.d (.bool (((xs.zip ys).map p).all id))) n;rw[G0];exact q
theorem BW{d:Ab}(h:fF d=ah):∃(T:List H3)(ns:List Ab),d=.tuple [.tuple (T.map cH),.tuple ns]:=by
 cases d with
 |tuple ds=>
  obtain⟨a,b,rfl⟩:=cR (vR ds h);have h:(gW a&&lq b)=ah:=h;rw[Ay]at h;cases a with
  |tuple hs=>
   cases b with
   |tuple ns=>
    obtain⟨T,rfl,_⟩:=mU (f:=cH) (P:=λ_=>True) (ds:=hs) λx hx=>by
     have:=Cq.mp (show hs.all iR=ah from h.1) x hx;cases x with
     |tuple es=>
      rw[qH]at this;have:=of_decide_eq_true this
      match es,this with
      |[a,b,c],_=>exact⟨(a,b,c),trivial,rfl⟩
     |_=>cases this
    exact⟨T,ns,rfl⟩
   |_=>cases h.2
  |_=>cases h.1
 |_=>cases h
theorem DR{T:List H3}{ns:List Ab}(h:km (.tuple [.tuple (T.map cH),.tuple ns])):(∀t∈T,km t.2.2)/\∀x∈ns,km x:=by
 obtain⟨L,k,hT,hL,hk⟩:=h;have h1:=hT.mem (.tuple (T.map cH)) (by simp);have h2:=hT.mem (.tuple ns) (by simp);refine⟨λt ht=>?_,λx hx=>⟨L,k-1-1,h2.mem x hx,hL,by omega⟩⟩;have h3:=h1.mem (cH t) (He ht);exact⟨L,k-1-1-1,Th.mem (ds:=[t.1,t.2.1,t.2.2]) h3 t.2.2 (by simp),hL,by omega⟩
theorem vJ{α β:Type}{xs:List α}{ys:List β}{q:α×β}(h:q∈xs.zip ys):q.1∈xs/\q.2∈ys:=⟨(Gn h).1,(Gn h).2⟩
theorem ED:cq qm zB ["programs","thing","hands"]:=λws n Q h=>by
 obtain⟨ps,d,rfl,okp,ok,k⟩:=h;show zB [ae (.w (.d (.tuple (ps.map cf)))),ae (.w (.d d)),af] n _;have hs:∀Q:Bool->Int->Prop,Q (!fF d) n->aI (cT (az (a8 fF) (ao ↥1 ak))) [ae (.w (.d (.tuple (ps.map cf)))),ae (.w (.d d)),af] n Q:=λQ q=>cL (k:=fF d) (λQ q=>aB (k:=fF d) (λQ q=>du (g:=fF) (λQ q=>au rfl q) Q q) q) q;cases hf:fF d with
 |false=>
  rw[hf]at hs;exact aF (aW hs (aZ (aE (k _ (.inl ⟨hf,rfl⟩)))))
 |true=>
  rw[hf]at hs;obtain⟨T,ns,rfl⟩:=BW hf;refine aF (bh hs ?_);dsimp only[aV];refine aF (hU (x:=.tuple (T.map cH)) (λQ q=>dq rfl q) ?_);dsimp only[Bg];obtain⟨okh,okn⟩:=DR ok;have fin:∀r,r=eA ps T ns->Q (.d r) n:=λr e=>k r (.inr ⟨T,ns,rfl,e⟩);have hl:∀Q:Bool->Int->Prop,Q (!decide (T.length=ps.length)) n->cT (w2 (wB aH (ao ↥2 ak)) (wB aH (ao ↥0 ak)) dM) [ae (.w (.d (.tuple (ps.map cf)))),ae (.w (.d (.tuple [.tuple (T.map cH),.tuple ns]))),ae (.w (.d (.tuple (T.map cH))))] n Q:=λQ q=>aB (k:=!decide (T.length=ps.length)) (λQ q=>ar (eJ rfl (eJ rfl (show Q (.d (.bool (!decide (((T.map cH).length:Int)=((ps.map cf).length:Int))))) n by rw[Ad,Ad,show decide ((T.length:Int)=(ps.length:Int))=decide (T.length=ps.length)from decide_eq_decide.mpr ⋯];exact q)))) q;by_cases h1:T.length=ps.length
  ·rw[decide_eq_true h1]at hl;refine aF (bh hl ?_);dsimp only[aV];have h2:∀Q:Bool->Int->Prop,Q (!(ps.zip T).all eM) n->aI (cT (wB bc (ao (aP (bo [af,af] (iP ↥0 ↥2) (cz 2 (bB (aD 0) (bB (aD 1) b6))) aG (az m7 (ao ↥0 (ao ↥1 ak))))) ak))) [ae (.w (.d (.tuple (ps.map cf)))),ae (.w (.d (.tuple [.tuple (T.map cH),.tuple ns]))),ae (.w (.d (.tuple (T.map cH))))] n Q:=λQ q=>cL (k:=(ps.zip T).all eM) (λQ q=>aB (k:=(ps.zip T).all eM) (λQ q=>qY cf cH eM ps T h1.symm rfl rfl (λr _ n Q' q=>bK (au rfl (au rfl ⟨r.1,r.2,rfl,q⟩))) q) q) q;cases hp:(ps.zip T).all eM with
   |false=>
    rw[hp]at h2;exact aF (aW h2 (aZ (aE (fin _ (by unfold eA;rw[if_pos h1,hp];rfl)))))
   |true=>
    rw[hp]at h2;refine aF (bh h2 ?_);dsimp only[aV];have h3:∀Q:Bool->Int->Prop,Q (!(ps.zip T).all eS) n->aI (cT (wB bc (ao (aP (bo [af,af] (iP ↥0 ↥2) (cz 2 (bB (aD 0) (bB (aD 1) b6))) aG (az mN (ao ↥0 (ao ↥1 ak))))) ak))) [ae (.w (.d (.tuple (ps.map cf)))),ae (.w (.d (.tuple [.tuple (T.map cH),.tuple ns]))),ae (.w (.d (.tuple (T.map cH))))] n Q:=λQ q=>cL (k:=(ps.zip T).all eS) (λQ q=>aB (k:=(ps.zip T).all eS) (λQ q=>qY cf cH eS ps T h1.symm rfl rfl (λr hr n Q' q=>bK (au rfl (au rfl ⟨r.1,r.2,rfl,(okp.2 r.1 (vJ hr).1).2.2,Cq.mp hp r hr,okh r.2 (vJ hr).2,q⟩))) q) q) q;cases hk:(ps.zip T).all eS with
    |false=>
     rw[hk]at h3;exact aF (aW h3 (aZ (aE (fin _ (by unfold eA;rw[if_pos h1,hp,hk];rfl)))))
    |true=>
     rw[hk]at h3;refine aF (bh h3 ?_);dsimp only[aV];have h4:∀Q:Bool->Int->Prop,Q (!ns.all fB) n->aI (cT (wB bc (ao (aP (bo [af] (bD (w2 ↥1 ⇑1 aC)) (aD 0) aG (az (a8 fB) (ao ↥0 ak)))) ak))) [ae (.w (.d (.tuple (ps.map cf)))),ae (.w (.d (.tuple [.tuple (T.map cH),.tuple ns]))),ae (.w (.d (.tuple (T.map cH))))] n Q:=λQ q=>cL (k:=ns.all fB) (λQ q=>aB (k:=ns.all fB) (λQ q=>j7 (w:=az (a8 fB) (ao ↥0 ak)) id fB ns (rest:=[]) (λQ q=>fI (ds:=ns) (λQ q=>d3 rfl q) (by rw[Et]at q;exact q)) (λd hd n Q' q=>du (g:=fB) (λQ q=>au rfl q) Q' q) q) q) q;cases hn:ns.all fB with
     |false=>
      rw[hn]at h4;exact aF (aW h4 (aZ (aE (fin _ (by unfold eA;rw[if_pos h1,hp,hk,hn];rfl)))))
     |true=>
      rw[hn]at h4;refine aF (bh h4 ?_);dsimp only[aV];exact aZ (aE (fin _ (by unfold eA;rw[if_pos h1,hp,hk,hn];rfl)))
  ·rw[decide_eq_false h1]at hl;exact aF (aW hl (aZ (aE (fin _ (by unfold eA;rw[if_neg h1])))))
theorem Mm{b:Bl}(h:gY b)(p:Nat):(kS (kn b.1 b.2 p)).length<=4:=by
 by_cases e:∃ys,Kno (kn b.1 b.2 p) ys
 ·obtain⟨ys,hy⟩:=e;rw[rM hy];have:=rO hy.1 λk hk=>(zo h p k ((hy.2.2 k).mp hk)).2.2;exact this
 ·have:kS (kn b.1 b.2 p)=[]:=by unfold kS;rw[dif_neg e]
  rw[this];exact Bc _
theorem tI{Q:List Ab->Int->Prop}:∀(ys:List Str)(acc:List Ab)(x:Option SV)(n:Int),n+(ys.length:Int) < 2 ^ 39->(∀L:List (Str×Ab),L.map (·.1)=ys->(∀q∈L,hV q.2=ah)->Q (acc++L.map cx) (n+(ys.length:Int)))->
  bN (aD 0) aG (aA (ao ↥0 (ao (az gV (ao ↥1 ak)) ak))) Q (ys.map .str) acc [x,ae (.w .tp)] n
 |[],acc,x,n,_,k=>by
  have:=k [] rfl λq hq=>nomatch hq
  rw[Ck,Bv]at this;rw[show n+(([]:List Str).length:Int)=n by simp]at this;exact this
 |y::ys,acc,x,n,hn,k=>by
  rw[Ax]at hn k;simp only[A5,bN,aD,aG,if_true,B8];refine df (au rfl (bM (au rfl (Ak rfl ⟨by omega,λv hv=>Ak (show 2<=1000 by decide) ?_⟩))));refine tI ys _ _ (n+1) ⋯ λL e hL=>?_;have:=k ((y,v)::L) (by rw[A5,e]) λq hq=>(Al.mp hq).elim (λz=>z▸lr hv) (hL q);rw[Bu];rw[show n+1+(ys.length:Int)=n+((ys.length+1:Nat):Int) by omega];exact this
def NL(ps:Pg)(m:Nat)(n0:Int)(ds:List Ab)(δ:Sl)(n:Int):Prop:=∃(hs:List Hn)(re:Pg)(x4 x5 x6 x7:Option SV),δ=[ae (.w .tp),ae (.w (.d (cg ps))),ae (.w (.d (.int m))),ae (.own ((hs.map lp).map cH)),x4,x5,x6,x7]/\ds=re.map cf/\re=ps.drop hs.length/\hs.length<=ps.length /\
 (∀(i:Nat)(P:List Bl)(h:Hn),ps[i]?=ae P->hs[i]?=ae h->jd P h)/\n+42*(ds.length:Int)<=n0+210
theorem MX:cq rJ uc ["_law_tape_here","_law_programs_here","_law_most","_law_hands","_law_program_here","_law_block","_law_place","_law_names"]:=λws n0 Q h=>by
 obtain⟨ps,m,rfl,hm,⟨hpl,hps⟩,hn0,k⟩:=h;show uc [ae (.w .tp),ae (.w (.d (cg ps))),ae (.w (.d (.int m))),af,af,af,af,af] n0 _;refine aF (jF ?_);dsimp only[Bg];refine aF ?_;unfold br bD;refine au rfl ?_;dsimp only[cg];refine fR (NL ps m n0) (λδ n I=>?_) (λd r δ n N I kN=>?_) _ _ _ ⟨[],ps,af,af,af,af,rfl,rfl,rfl,Bc _,λi P h _ hi=>by simp at hi,by rw[Ad];omega⟩
 ·obtain⟨hs,re,x4,x5,x6,x7,rfl,er,hre,hle,hok,hn⟩:=I;have e0:=Gh.mp er.symm;rw[e0]at hre;have hlen:ps.length<=hs.length:=List.drop_eq_nil_iff.mp hre.symm;dsimp only;refine gC rfl ?_;dsimp only[Bg];refine aZ (df (aU (au rfl (bK (au rfl (au rfl (Du m ⟨rfl,hm,by simp at hn;omega,λns n' hns hn'=>?_⟩)))))));exact Ak (show 2<=1000 by decide) (k hs ns n' ⟨by omega,hok⟩ hns (by simp at hn;omega))
 ·obtain⟨hs,re,x4,x5,x6,x7,rfl,er,hre,hle,hok,hn⟩:=I;obtain⟨P,re',rfl,rfl,rfl⟩:=F3.mp er.symm;rw[Ax,Ad]at hn;have hlt:hs.length < ps.length:=by
   have:=congrArg List.length hre;rw[Ax,Dm]at this;omega
  have hcons:=Ge hlt;rw[<-hre]at hcons;obtain⟨hP,hre'⟩:=Gz hcons;have hPg:ps[hs.length]?=ae P:=by rw[Ah hlt,hP]
  obtain⟨g1,g2,g3⟩:=hps P (B6 hPg);dsimp only[aD,Bg];refine aF (show aJ 5 _ _ _ _ from gz (m:=(P.map cP).length) rfl (λQ q=>aU (au rfl q)) ⋯ (by rw[Ad];omega) (by rw[Ad];omega) λr r0 r1=>?_);rw[Ad]at r1;obtain⟨b,hb⟩:∃b:Nat,r=(b:Int):=⟨r.toNat,by omega⟩;subst hb;have hbl:b < P.length:=by omega
  obtain⟨bl,hbl'⟩:∃bl:Bl,P[b]?=ae bl:=⟨P[b],Ah hbl⟩;obtain⟨w,as⟩:=bl;have hi':(P.map cP)[b]?=ae (cP (w,as)):=by rw[A0,hbl'];rfl
  have ob:=g3 (w,as) (B6 hbl');have has:as.length<=8:=ob.2.2.1;dsimp only[Bg];refine aF (show aJ 6 _ _ _ _ from gz (m:=((as.map Ac.d).length:Int)+1) rfl (λQ q=>ar (aU (ar (ar (au rfl (au rfl (eI hi' (aE (fJ ?_)))))))) ) ⋯ ⋯ (by rw[Ad];omega) λr r0' r1'=>?_)
  ·exact ji q
  rw[Ad]at r1';obtain⟨p,hp⟩:∃p:Nat,r=(p:Int):=⟨r.toNat,by omega⟩;subst hp;dsimp only[Bg];refine aF (show aJ 7 _ _ _ _ from aU (a9 ?_));unfold bo fC;dsimp only;refine dH (au rfl (au rfl (au rfl (Du P ⟨b,p,(w,as),rfl,hbl',ob,by show p<=as.length;omega,λhK=>?_⟩))));dsimp only;have hkl:=Mm ob p;have hko:=(nY ob p).1;dsimp only at hkl hko;refine tI _ [] af _ ⋯ λL eL hL=>?_;have hLl:L.length<=4:=by rw[<-Ad (f:=(·.1)),eL];exact hkl
  rw[Cr];dsimp only[fO,Bg];refine iI rfl (qZ (au rfl (au rfl (au rfl ?_))));refine Ak (show 3<=1000 by decide) (Ak (by rw[Ad,Ad];omega) (kN _ _ ⟨hs++[(b,p,L)],re',_,_,_,_,by rw[Cy,Cy];rfl,rfl,by rw[Ao,Ba];exact hre',by rw[Ao,Ba];omega,λi P' h hP' hi=>?_,by rw[Ad];omega⟩));by_cases z:i < hs.length
  ·rw[Gd z]at hi;exact hok i P' h hP' hi
  ·rw[Hm ⋯]at hi;have z':i-hs.length=0:=by
    have:=(Bo.mp hi).1;rw[Ba]at this;omega
   rw[z']at hi;cases hi;have z':i=hs.length:=by omega
   subst z';rw[hPg]at hP';cases hP';refine⟨(w,as),hbl',by show p<=as.length;omega,eL,by show L.length<=4;omega,λq hq=>⟨hko q.1 (by rw[<-eL];exact He hq),hL q hq⟩⟩
section
variable{δ:Sl}{n:Int}{Q:DQ}{i:Nat}
theorem CT{x:Str}(e:δ[i]?=ae (ae (.w (.d (.str x)))))(k:Q (.d (.int x.length)) n):wB aH (ao (aj i) ak) δ n Q:=aU (au e k)
end
theorem BV:cq mM tU ["_law_thing","_law_most","_law_letters"]:=λws n Q h=>by
 obtain⟨d,k,rfl,q⟩:=h;show tU [ae (.w (.d d)),ae (.w (.d (.int k))),af] n _;refine aF (hU (x:=.str "abcdefghijklmnopqrstuvwxyz") (λQ q=>aE q) ?_);dsimp only[Bg];refine aZ ?_;cases d with
 |str x=>
  refine cn (a:=ah) (b:=bq k (.str x)) (λQ q=>fV (d:=.str x) (λQ q=>au rfl q) Q q) (λ_ Q q=>?_) q;have q:Q (.d (.bool (decide ((1:Int)<=(x.length:Int))&&(decide ((x.length:Int)<=k)&&x.cps.toList.all fX)))) n:=q;rw[<-Bool.and_assoc]at q;refine cn (b:=x.cps.toList.all fX) (λQ q=>mP (λQ q=>aE q) (λQ q=>CT rfl q) (λQ q=>au rfl q) q) (λ_ Q q=>aU (a9 ?_)) q;unfold bo fM;refine au rfl ?_;show bN _ _ _ _ (f9 x) [] [af,ae (.w (.d (.str "abcdefghijklmnopqrstuvwxyz")))] n;unfold f9;refine iQ (λc=>.str ⟨#[c]⟩) (λc=>.bool (fX c)) x.cps.toList [] af n (λc _ n Q' q=>ar (au rfl (au rfl ?_))) ?_
  ·show Q' (.d (.bool (fE ⟨#[c]⟩ "abcdefghijklmnopqrstuvwxyz"))) n;rw[BN];exact q
  ·rw[Cr];show(match dU (x.cps.toList.map λc=>.bool (fX c))with|some bs=>Q (.d (.bool (bs.all id))) n|none=>False);rw[oz];show Q (.d (.bool ((x.cps.toList.map fX).all id))) n;rw[G0];exact q
 |_=>exact cn (a:=ai) (b:=ai) (λQ q=>q) (λz=>nomatch z) q
theorem NA:cq gG uC ["_law_thing","_law_least","_law_most"]:=λws n Q h=>by
 obtain⟨d,lo,hi,rfl,q⟩:=h;show uC [ae (.w (.d d)),ae (.w (.d (.int lo))),ae (.w (.d (.int hi)))] n _;refine aZ ?_;have nb:∀(d:Ab)(b:Bool),bE "bool" d=b->∀Q:DQ,Q (.d (.bool (!b))) n->cY (aL "bool" ↥0) [ae (.w (.d d)),ae (.w (.d (.int lo))),ae (.w (.d (.int hi)))] n Q:=λd b e Q q=>by
  subst e;exact q
 cases d with
 |int j=>
  refine cn (a:=ah) (b:=cF lo hi (.int j)) (λQ q=>fV (d:=.int j) (λQ q=>au rfl q) Q q) (λ_ Q q=>?_) q;refine cn (a:=ah) (b:=cF lo hi (.int j)) (λQ q=>nb _ ai rfl Q q) (λ_ Q q=>?_) q;exact mP (λQ q=>au rfl q) (λQ q=>au rfl q) (λQ q=>au rfl q) q
 |bool j=>
  refine cn (a:=ah) (b:=ai) (λQ q=>fV (d:=.bool j) (λQ q=>au rfl q) Q q) (λ_ Q q=>?_) q;exact cn (a:=ai) (b:=ai) (λQ q=>nb _ ah rfl Q q) (λz=>nomatch z) q
 |_=>exact cn (a:=ai) (b:=ai) (λQ q=>q) (λz=>nomatch z) q
theorem LB:∀ws n Q,iD ws n Q->ws.length=1:=λ_ _ _ h=>e7 h
theorem BI:cq iD tD ["_law_thing"]:=fc λd n K q=>by
 show tD [ae (.w (.d d))] n K;cases d with
 |tuple ds=>
  have q:K.rt (.d (.bool (decide ((1:Int)<=(ds.length:Int))&&(decide ((ds.length:Int)<=4)&&ds.all bP)))) n:=q;have ch:∀Q:Bool->Int->Prop,Q (!(decide ((1:Int)<=(ds.length:Int))&&decide ((ds.length:Int)<=4))) n->aI (cT (cZ di di ⇑1 (wB aH (ao ↥0 ak)) ⇑4)) [ae (.w (.d (.tuple ds)))] n Q:=λQ q=>cL (k:=decide ((1:Int)<=(ds.length:Int))&&decide ((ds.length:Int)<=4)) (λQ q=>aB (k:=decide ((1:Int)<=(ds.length:Int))&&decide ((ds.length:Int)<=4)) (λQ q=>mP (λQ q=>aE q) (λQ q=>eJ rfl q) (λQ q=>aE q) q) q) q;rw[<-Bool.and_assoc]at q;cases hb:decide ((1:Int)<=(ds.length:Int))&&decide ((ds.length:Int)<=4)with
  |false=>
   rw[hb]at q ch;exact aF (aW (λQ q=>aR (a:=ai) (b:=ah) (bH rfl) (λ_ Q q=>ch Q q) q) (aZ (aE q)))
  |true=>
   rw[hb,Cf]at q;rw[hb]at ch;refine aF (bh (λQ q=>aR (a:=ai) (b:=ai) (bH rfl) (λ_ Q q=>ch Q q) q) ?_);dsimp only[aV];exact aZ (j7 (w:=eG (az mM (ao ↥0 (ao ⇑8 ak))) (az gG (ao ↥0 (ao ⇑0 (ao ⇑99 ak))))) id bP ds (rest:=[]) (λQ q=>fI (ds:=ds) (λQ q=>au rfl q) (by rw[Et]at q;exact q)) (λd hd n Q' q=>ik (a:=bq 8 d) (b:=fH d) (λQ q=>bK (au rfl (aE ⟨d,8,rfl,q⟩))) (λ_ Q q=>dH (au rfl (aE (aE ⟨d,0,99,rfl,q⟩)))) q) q)
 |_=>exact aF (aW (λQ q=>aR (a:=ah) (b:=ah) (λQ q=>cL (k:=ai) (λQ q=>aB (k:=ai) (λQ q=>q) q) q) (λz=>nomatch z) q) (aZ (aE q)))
theorem BS:∀ws n Q,a8 fi ws n Q->ws.length=1:=λ_ _ _ h=>e7 h
theorem My:∀ws n Q,a8 fi ws n Q->yW (dh Zb ws) n {nx:=λ_ n=>Q (.d .none) n,rt:=Q}:=fc λd n K q=>by
 show yW [ae (.w (.d d))] n K;refine aZ ?_;cases d with
 |none=>exact ik (a:=ah) (b:=ah) (λQ q=>q) (λz=>nomatch z) q
 |int i=>exact ik (a:=ai) (b:=decide (1<=i)) (λQ q=>q) (λ_ Q q=>cn (a:=ah) (b:=decide (1<=i)) (λQ q=>q) (λ_ Q q=>ar (au rfl (aE q))) q) q
 |_=>exact ik (a:=ai) (b:=ai) (λQ q=>q) (λ_ Q q=>cn (a:=ai) (b:=ai) (λQ q=>q) (λz=>nomatch z) q) q
theorem qI:∀ds,dY (.tuple ds)=ah->ds.length=2:=λds h=>by
 rcases ds with _|⟨a,_|⟨b,_|⟨c,r⟩⟩⟩
 ·cases h
 ·cases h
 ·rfl
 ·cases h
theorem Hy:∀ws n Q,ku ws n Q->ws.length=1:=λ_ _ _ h=>e7 h
theorem MS:cq ku vq Zb:=fc λd n K q=>by
 show vq [ae (.w (.d d))] n K;refine aZ ?_;cases d with
 |tuple ds=>
  refine cn (a:=ah) (b:=dY (.tuple ds)) (λQ q=>iJ rfl q) (λ_ Q q=>?_) q;by_cases h2:ds.length=2
  ·obtain⟨a,b,rfl⟩:=cR h2;refine cn (a:=ah) (b:=bG a&&fi b) (λQ q=>ar (eJ (ds:=[a,b]) rfl (aE q))) (λ_ Q q=>?_) q;exact cn (a:=bG a) (b:=fi b) (λQ q=>du (g:=bG) (λQ q=>dq rfl q) Q q) (λ_ Q q=>du (g:=fi) (λQ q=>d3 rfl q) Q q) q
  ·rw[jq qI h2]at q;exact cn (a:=ai) (b:=ah) (λQ q=>ar (eJ rfl (aE (show Q (.d (.bool (decide ((ds.length:Int)=2)))) n by rw[decide_eq_false ⋯];exact q)))) (λz=>nomatch z) q
 |_=>exact cn (a:=ai) (b:=ai) (λQ q=>q) (λz=>nomatch z) q
theorem OB:cq oU zF ["value"]:=λws n Q h=>by
 obtain⟨v,rfl,q⟩:=h;show zF [ae (.w (.d (vD v)))] n _;cases v with
 |inl i=>exact aF (aW (λQ q=>aB (k:=ah) (λQ q=>q) q) (aZ (df (aE (au rfl (Ak (show 2<=1000 by decide) q))))))
 |inr x=>
  refine aF (bh (λQ q=>aB (k:=ai) (λQ q=>q) q) ?_);dsimp only[aV];exact aZ (df (aE (au rfl (Ak (show 2<=1000 by decide) q))))
theorem Ja:cq mf uV ["row"]:=λws n Q h=>by
 obtain⟨r,rfl,hl,q⟩:=h;show uV [ae (.w (.d (.tuple (r.map vD))))] n _;refine aZ (aU (a9 (fI (λQ q=>au rfl q) ?_)));refine iQ vD kD r [] af n (λv _ n Q' q=>bM (au rfl ⟨v,rfl,q⟩)) ?_;rw[Cr];exact q
theorem LO:cq n9 yn ["_law_row"]:=λws n Q h=>by
 obtain⟨r,rfl,hl,q⟩:=h;show yn [ae (.w (.d (.tuple (r.map vD))))] n _;refine aZ (aU (a9 (fI (λQ q=>au rfl q) ?_)));refine iQ vD kD r [] af n (λv _ n Q' q=>?_) ?_
 ·cases v with
  |inl i=>exact Ak (show 2<=1000 by decide) q
  |inr x=>exact Ak (show 2<=1000 by decide) q
 ·rw[Cr];exact q
theorem kM:∀{r:List Vl},(∀v∈r,Bm (vD v)=ah)->Cb (r.map kD)=ah/\Cj (r.map kD)<=1
 |[],_=>⟨rfl,Bc _⟩
 |v::r,h=>by
  obtain⟨a,b⟩:=kM λx hx=>h x (Ar _ hx);have hv:=h v Am;have:Bm (kD v)=ah/\Ce (kD v)<=1:=by
   cases v with
   |inl i=>exact⟨rfl,by show Ce (.tuple [.int 0,.int i])<=1;simp[Ce,Cj]⟩
   |inr x=>
    have hv:Bm (.str x)=ah:=hv;exact⟨by show Bm (.tuple [.int 1,.str x])=ah;rw[Bm,Cb,Cb,Cb,hv];rfl,by show Ce (.tuple [.int 1,.str x])<=1;simp[Ce,Cj]⟩
  rw[A5,Cb,Cj,a,this.1];exact⟨rfl,by omega⟩
theorem Mn:cq mV u9 ["one","other"]:=λws n Q h=>by
 obtain⟨a,b,rfl,ha,hb,q⟩:=h;show u9 [ae (.w (.d (rD a))),ae (.w (.d (rD b)))] n _;refine aZ (ar (bM (au rfl ⟨a,rfl,ha.1.2,bM (au rfl ⟨b,rfl,hb.1.2,?_⟩)⟩)));obtain⟨a1,a2⟩:=kM ha.2;obtain⟨b1,b2⟩:=kM hb.2;exact⟨by rw[Bm];exact a1,by rw[Bm];exact b1,by rw[Ce];omega,by rw[Ce];omega,fK a b,by rw[d0,qT],q⟩
theorem pK{d:Ab}(h:bP d=ah):vD (gL d)=d:=by
 cases d with
 |str x=>rfl
 |int i=>rfl
 |_=>cases h
theorem o9:∀{ds:List Ab},ds.all bP=ah->(ds.map gL).map vD=ds
 |[],_=>rfl
 |d::ds,h=>by
  rw[Dl,Ay]at h;rw[A5,A5,pK h.1,o9 h.2]
theorem NC{d:Ab}{L k:Nat}(h:dY d=ah)(ht:Th L k d):∃(r:List Vl)(m:Ab),d=.tuple [rD r,m]/\dI r/\dF d=r:=by
 cases d with
 |tuple ds=>
  obtain⟨a,b,rfl⟩:=cR (qI ds h);have h:(bG a&&fi b)=ah:=h;rw[Ay]at h;have ta:=ht.mem a (by simp);cases a with
  |tuple xs=>
   have h1:(decide ((1:Int)<=(xs.length:Int))&&(decide ((xs.length:Int)<=4)&&xs.all bP))=ah:=h.1;rw[Ay,Ay]at h1;obtain⟨a1,a2,a3⟩:=h1;have e:=o9 a3;refine⟨xs.map gL,b,by rw[rD,e],⟨⟨by rw[Ad];have:=of_decide_eq_true a1;omega,by rw[Ad];have:=of_decide_eq_true a2;omega⟩,λv hv=>?_⟩,rfl⟩;obtain⟨x,hx,rfl⟩:=Bk.mp hv;rw[pK (Cq.mp a3 x hx)];exact(ta.mem x hx).lay.1
  |_=>cases h.1
 |_=>cases h
def yh(c:Ab):Prop:=∃(r:List Vl)(m:Ab),c=.tuple [rD r,m]/\dI r/\dF c=r
theorem tS{Q:List Ab->Int->Prop}{n:Int}:∀(ds acc:List Ab)(x y:Option SV),(∀d∈ds,yh d)->(∀bs:List Bool,bs.all id=ef ds->Q (acc++bs.map .bool) n)->
  bN (cz 2 (bB (aD 0) (bB (aD 1) b6))) aG (az mV (ao (w2 ↥0 ⇑0 aC) (ao (w2 ↥1 ⇑0 aC) ak))) Q (cU ds (ds.drop 1)) acc [x,y] n
 |[],acc,x,y,_,q=>by
  have:=q [] rfl;rw[Ck,Bv]at this;exact this
 |[a],acc,x,y,_,q=>by
  have:=q [] rfl;rw[Ck,Bv]at this;exact this
 |a::b::r,acc,x,y,h,q=>by
  obtain⟨s,v,rfl,s1,s2⟩:=h a Am;obtain⟨t,u,rfl,t1,t2⟩:=h b (Ar _ Am);refine Ak rfl ?_;dsimp only[bB,b6,aD,Bg,aG];rw[if_pos rfl];refine bK (dq rfl (dq rfl ⟨s,t,rfl,s1,t1,?_⟩));refine tS (.tuple [rD t,u]::r) _ _ _ (λd hd=>h d (Ar _ hd)) λbs hb=>?_;have:=q (fK s t::bs) (by rw[Dl,hb,ef,s2,t2];rfl);rw[A5]at this;rw[Bu];exact this
theorem w4{cs:List Ab}(ok:hG (.tuple cs))(h:cs.all dY=ah):∀c∈cs,yh c:=λc hc=>by
 obtain⟨L,k,hT,_,_⟩:=ok;exact NC (Cq.mp h c hc) (hT.mem c hc)
theorem L1:cq rT xS Zb:=λws n Q h=>by
 obtain⟨d,rfl,ok,q⟩:=h;show xS [ae (.w (.d d))] n _;cases d with
 |tuple ds=>
  have q:Q (.d (.bool (ds.all dY&&ef ds))) n:=q;have ha:∀Q:Bool->Int->Prop,Q (!ds.all dY) n->aI (cT (wB bc (ao (aP (bo [af] (bD ↥0) (aD 0) aG (az ku (ao ↥0 ak)))) ak))) [ae (.w (.d (.tuple ds)))] n Q:=λQ q=>cL (k:=ds.all dY) (λQ q=>aB (k:=ds.all dY) (λQ q=>j7 (w:=az ku (ao ↥0 ak)) id dY ds (rest:=[]) (λQ q=>fI (ds:=ds) (λQ q=>au rfl q) (by rw[Et]at q;exact q)) (λd hd n Q' q=>du (g:=dY) (λQ q=>au rfl q) Q' q) q) q) q;cases hb:ds.all dY with
  |false=>
   rw[hb]at q ha;exact aF (aW (λQ q=>aR (a:=ai) (b:=ah) (bH rfl) (λ_ Q q=>ha Q q) q) (aZ (aE q)))
  |true=>
   rw[hb,Cf]at q;rw[hb]at ha;refine aF (bh (λQ q=>aR (a:=ai) (b:=ai) (bH rfl) (λ_ Q q=>ha Q q) q) ?_);dsimp only[aV];refine aZ (aU (a9 ?_));unfold bo lx bZ bX bW;refine au rfl (au rfl (aE ?_));have ec:bg ds (ae 1) af=ds.drop 1:=by
    unfold bg;rw[show(1:Int)=((1:Nat):Int)from rfl,HT.sIx_nat,HT.sIx_none];cases ds with
    |nil=>rfl
    |cons a r=>simp
   dsimp only;rw[ec];refine Ak (by rw[Dm];omega) ?_;show bN _ _ _ _ _ [] [af,af] n;refine tS ds [] af af (w4 ok hb) λbs hbs=>?_;rw[Cr];show(match dU (bs.map .bool)with|some bs=>Q (.d (.bool (bs.all id))) n|none=>False);rw[sh];show Q (.d (.bool (bs.all id))) n;rw[hbs];exact q
 |_=>exact aF (aW (λQ q=>aR (a:=ah) (b:=ah) (λQ q=>cL (k:=ai) (λQ q=>aB (k:=ai) (λQ q=>q) q) q) (λz=>nomatch z) q) (aZ (aE q)))
theorem HG(P:List Bl)(h:H3):cw P (cH h)=(eM (P,h)&&eS (P,h)):=by obtain⟨a,b,c⟩:=h;rfl
theorem wz{P:List Bl}{d:Ab}(h:cw P d=ah):iR d=ah:=by
 unfold cw at h
 split at h
 ·rfl
 ·cases h
theorem N9(ps:Pg):∀T:List H3,(ps.zip (T.map cH)).all (λq=>cw q.1 q.2)=((ps.zip T).all eM&&(ps.zip T).all eS):=by
 induction ps with
 |nil=>intro T;cases T<;>rfl
 |cons P ps ih=>
  intro T;cases T with
  |nil=>rfl
  |cons t T=>
   rw[A5,Gr,Gr,Dl,Dl,Dl,ih T];show(cw P (cH t)&&_)=_;rw[HG];cases eM (P,t)<;>cases eS (P,t)<;>cases(ps.zip T).all eM<;>cases(ps.zip T).all eS<;>rfl
theorem yT:∀(ps:Pg)(ds:List Ab),ds.length=ps.length->(ps.zip ds).all (λq=>cw q.1 q.2)=ah->ds.all iR=ah
 |[],[],_,_=>rfl
 |P::ps,d::ds,hl,h=>by
  rw[Gr,Dl,Ay]at h;rw[Dl,wz (P:=P) h.1,yT ps ds (by simpa using hl) h.2];rfl
 |[],_::_,hl,_=>by cases hl
 |_::_,[],hl,_=>by cases hl
theorem Mp{ps:Pg}{a r:Ab}(h:yP ps (.tuple [a,.tuple []]) r):iL r=d6 ps a:=by
 rcases h with⟨h,rfl⟩|⟨T,ns,e,rfl⟩
 ·have h:(gW a&&ah)=ai:=h;rw[Fs]at h;cases a with
  |tuple ds=>
   have h:ds.all iR=ai:=h;show ai=(decide (ds.length=ps.length)&&(ps.zip ds).all λq=>cw q.1 q.2);by_cases hl:ds.length=ps.length
   ·cases hz:(ps.zip ds).all λq=>cw q.1 q.2 with
    |false=>rw[Fg]
    |true=>rw[yT ps ds hl hz]at h;cases h
   ·rw[decide_eq_false hl];rfl
  |_=>rfl
 ·have e:=PyData.tuple.inj e;obtain⟨e1,e2⟩:=Gz e;have e2:=PyData.tuple.inj (Gz e2).1;subst e1;subst e2;show iL (eA ps T [])=(decide ((T.map cH).length=ps.length)&&(ps.zip (T.map cH)).all λq=>cw q.1 q.2);rw[Ad,N9];unfold eA;by_cases hl:T.length=ps.length
  ·rw[if_pos hl,decide_eq_true hl];cases(ps.zip T).all eM with
   |false=>rfl
   |true=>
    cases(ps.zip T).all eS with
    |false=>rfl
    |true=>rfl
  ·rw[if_neg hl,decide_eq_false hl];rfl
theorem yq{ps:Pg}:∀ds,jn ps (.tuple ds)=ah->ds.length=2:=λds h=>by
 rcases ds with _|⟨a,_|⟨b,_|⟨c,r⟩⟩⟩
 ·cases h
 ·cases h
 ·rfl
 ·cases h
theorem vt{a b:Ab}(h:hG (.tuple [a,b])):hG a/\hG b/\km (.tuple [a,.tuple []]):=by
 obtain⟨L,k,hT,hL,hk⟩:=h;have ha:=hT.mem a (by simp);have hb:=hT.mem b (by simp);have h2:2<=L:=by cases hT with|tuple h _=>exact h
 refine⟨⟨L,_,ha,hL,by omega⟩,⟨L,_,hb,hL,by omega⟩,L,k+1,?_,by omega,by omega⟩;refine .tuple (by show 2<=L;exact h2) λd hd=>?_;rcases Al.mp hd with rfl|hd
 ·exact ha.mono (Aq _) ⋯
 ·rw[A8.mp hd];cases hT with
  |tuple _ _=>exact .tuple (Bc _) λd hd=>nomatch hd
theorem Jn:cq lK vi ["programs","thing"]:=λws n Q h=>by
 obtain⟨ps,d,rfl,hps,ok,q⟩:=h;show vi [ae (.w (.d (cg ps))),ae (.w (.d d))] n _;cases d with
 |tuple ds=>
  have hn:∀Q:Bool->Int->Prop,Q (!decide ((ds.length:Int)=2)) n->cT (w2 (wB aH (ao ↥1 ak)) ⇑2 dM) [ae (.w (.d (cg ps))),ae (.w (.d (.tuple ds)))] n Q:=ke rfl;by_cases h2:ds.length=2
  ·obtain⟨a,b,rfl⟩:=cR h2;refine aF (bh (λQ q=>aR (a:=ai) (b:=ai) (bH rfl) (λ_ Q q=>hn Q q) q) ?_);dsimp only[aV];obtain⟨oa,ob,ot⟩:=vt ok;refine aZ (cn (a:=d6 ps a) (b:=nO b) (λQ q=>?_) (λ_ Q q=>bM (d3 rfl ⟨b,rfl,ob,q⟩)) q);refine ar (bK (au rfl (df (dq rfl (show aA ak _ _ _ from Ak (Bc _) (Ak (show 2<=1000 by decide) ⟨ps,_,rfl,hps,ot,λr hr=>aE ?_⟩))))));rw[<-Mp hr]at q;exact q
  ·rw[jq yq h2]at q;rw[decide_eq_false (show ¬(ds.length:Int)=2 by omega)]at hn;exact aF (aW (λQ q=>aR (a:=ai) (b:=ah) (bH rfl) (λ_ Q q=>hn Q q) q) (aZ (aE q)))
 |_=>exact aF (aW (λQ q=>aR (a:=ah) (b:=ah) (λQ q=>cL (k:=ai) (λQ q=>aB (k:=ai) (λQ q=>q) q) q) (λz=>nomatch z) q) (aZ (aE q)))
def gP:Ab->Bool
 |.tuple [_,v]=>bP v
 |_=>ai
theorem om:∀ds,gP (.tuple ds)=ah->ds.length=2:=λds h=>by
 rcases ds with _|⟨a,_|⟨b,_|⟨c,r⟩⟩⟩
 ·cases h
 ·cases h
 ·rfl
 ·cases h
theorem pC(h:Str)(a:Ab):Bw a (.str h)=(match a with|.str s=>decide (s=h)|_=>ai):=by
 cases a with
 |str s=>
  show(s==h)=decide (s=h);by_cases e:s=h
  ·rw[e,decide_eq_true rfl];exact beq_self_eq_true h
  ·rw[decide_eq_false e];exact beq_eq_false_iff_ne.mpr e
 |_=>simp[Bw]
theorem yl:∀(ds:List Ab)(ys:List Str),ds.all gP=ah->B3 (ds.map fG) (ys.map .str)=bU ys ds
 |[],[],_=>by simp[B3,bU]
 |[],_::_,_=>by simp[B3,bU]
 |d::ds,ys,h=>by
  rw[Dl,Ay]at h;cases d with
  |tuple es=>
   obtain⟨a,v,rfl⟩:=cR (om es h.1);have hv:bP v=ah:=h.1;cases ys with
   |nil=>cases a<;>simp[B3,bU]
   |cons y ys=>
    rw[A5,A5,B3];show(Bw a (.str y)&&_)=_;rw[pC,yl ds ys h.2];cases a with
    |str x=>show _=(decide (x=y)&&(bP v&&bU ys ds));rw[hv,Cf]
    |_=>simp[bU]
  |_=>cases h.1
theorem wY:∀(ds:List Ab)(ys:List Str),bU ys ds=ah->ds.all gP=ah
 |[],_,_=>rfl
 |d::ds,ys,h=>by
  unfold bU at h
  split at h
  ·rename_i e;cases e
  ·rename_i e;cases e;rw[Ay,Ay]at h;rw[Dl,wY _ _ h.2.2,Fs];exact h.2.1
  ·cases h
theorem uK{L k:Nat}{ds:List Ab}(h:Th L k (.tuple ds)):ds.length<=L:=by cases h;assumption
theorem BA{P:List Bl}{ds:List Ab}(h:ds.length≠3):cw P (.tuple ds)=ai:=by
 cases e:cw P (.tuple ds)with
 |false=>rfl
 |true=>
  have:=wz e;rw[qH]at this;exact absurd (of_decide_eq_true this) ⋯
theorem pT{ds:List Ab}(h:ds.length=3):∃a b c,ds=[a,b,c]:=by
 match ds,h with
 |[a,b,c],_=>exact⟨a,b,c,rfl⟩
theorem J4{d:Ab}{rest:Sl}{n:Int}{Q:DQ}(q:Q (.d (.bool (gP d))) n):aO (aL "tuple" ↥0) (aO (w2 (wB aH (ao ↥0 ak)) ⇑2 ck) (az iD (ao (bZ ↥0 (bX ⇑1) bW) ak))) (ae (.w (.d d))::rest) n Q:=by
 cases d with
 |tuple ds=>
  refine cn (a:=ah) (b:=gP (.tuple ds)) (λQ q=>iJ rfl q) (λ_ Q q=>?_) q;by_cases h2:ds.length=2
  ·obtain⟨a,b,rfl⟩:=cR h2;refine cn (a:=ah) (b:=bP b) (λQ q=>ar (eJ (ds:=[a,b]) rfl (aE q))) (λ_ Q q=>?_) q;refine bM ?_;unfold bZ bX bW;refine au rfl (aE ?_);show Q (.d (.bool (ah&&(ah&&(bP b&&ah))))) n;rw[Cf,Cf,Fs];exact q
  ·rw[jq om h2]at q;exact cn (a:=ai) (b:=ah) (λQ q=>ar (eJ rfl (aE (show Q (.d (.bool (decide ((ds.length:Int)=2)))) n by rw[decide_eq_false ⋯];exact q)))) (λz=>nomatch z) q
 |_=>exact cn (a:=ai) (b:=ai) (λQ q=>q) (λz=>nomatch z) q
theorem FR:cq oK uI ["_law_program_here","_law_thing"]:=λws n Q h=>by
 obtain⟨P,d,rfl,wf,ok,q⟩:=h;show uI [ae (.w (.d (cf P))),ae (.w (.d d))] n _;cases d with
 |tuple ds=>
  have hn:∀Q:Bool->Int->Prop,Q (!decide ((ds.length:Int)=3)) n->cT (w2 (wB aH (ao ↥1 ak)) ⇑3 dM) [ae (.w (.d (cf P))),ae (.w (.d (.tuple ds)))] n Q:=ke rfl;by_cases h3:ds.length=3
  ·rw[decide_eq_true (show(ds.length:Int)=3 by omega)]at hn;obtain⟨x,y,z,rfl⟩:=pT h3;have q:Q (.d (.bool (eM (P,(x,y,z))&&eS (P,(x,y,z))))) n:=q;have hx:∀Q:Bool->Int->Prop,Q (!cF 0 ((P.length:Int)-1) x) n->aI (cT (az gG (ao (w2 ↥1 ⇑0 aC) (ao ⇑0 (ao (w2 (wB aH (ao ↥0 ak)) ⇑1 (cJ λi j=>.int (i-j))) ak))))) [ae (.w (.d (cf P))),ae (.w (.d (.tuple [x,y,z])))] n Q:=λQ q=>cL (k:=cF 0 ((P.length:Int)-1) x) (λQ q=>aB (k:=cF 0 ((P.length:Int)-1) x) (λQ q=>dH (dq rfl (aE (ar (eJ (ds:=P.map cP) rfl (aE (iu ⟨x,0,_,rfl,by rw[Ad];exact q⟩))))))) q) q;cases hp:eM (P,(x,y,z))with
   |false=>
    rw[hp]at q;cases h1:cF 0 ((P.length:Int)-1) x with
    |false=>
     rw[h1]at hx;exact aF (aW (λQ q=>aR (a:=ai) (b:=ah) (bH rfl) (λ_ Q q=>aR (a:=ai) (b:=ah) (λQ q=>hn Q q) (λ_ Q q=>hx Q q) q) q) (aZ (aE q)))
    |true=>
     rw[h1]at hx;refine aF (bh (λQ q=>aR (a:=ai) (b:=ai) (bH rfl) (λ_ Q q=>aR (a:=ai) (b:=ai) (λQ q=>hn Q q) (λ_ Q q=>hx Q q) q) q) ?_);dsimp only[aV];cases x with
     |int i=>
      have hi:(decide ((0:Int)<=i)&&decide (i<=(P.length:Int)-1))=ah:=h1;rw[Ay]at hi;have i0:=of_decide_eq_true hi.1;have i1:=of_decide_eq_true hi.2;obtain⟨m,rfl⟩:=El i0;have hm:m < P.length:=by omega
      have hpm:P[m]?=ae P[m]:=Ah hm;have hy:cF 0 (P[m].2.length:Int) y=ai:=by
       have hp:(cF 0 ((P.length:Int)-1) (.int (m:Int))&&cF 0 ((((P[m]?).map λbl=>bl.2.length).getD 0:Nat):Int) y)=ai:=hp;rw[h1,Cf,hpm]at hp;exact hp
      have hi':(P.map cP)[m]?=ae (cP P[m]):=by rw[A0,hpm];rfl
      refine aF (aW (λQ q=>aR (a:=ah) (b:=ah) (λQ q=>cL (k:=ai) (λQ q=>aB (k:=cF 0 (P[m].2.length:Int) y) (λQ q=>dH (d3 rfl (aE (aU (ar (ar (au rfl (dq rfl (eI hi' (aE (fJ ?_))))))))))) (by rw[hy];exact q)) q) (λz=>nomatch z) q) (aZ (aE q)));exact⟨y,0,_,rfl,by rw[Ad];exact q⟩
     |_=>cases h1
   |true=>
    rw[hp,Cf]at q;obtain⟨i,p,b,e3,hb,hpl⟩:=yY hp;cases e3;have wb:=wf b (B6 hb);have hpm:i < P.length:=(Bo.mp hb).1;have ek:eS (P,(.int i,.int p,z))=iN (kS (kn b.1 b.2 p)) z:=by
     show(match P[i]? with|some b=>iN (kS (kn b.1 b.2 p)) z|none=>ai)=_;rw[hb]
    rw[ek]at q;have hi':(P.map cP)[i]?=ae (cP b):=by rw[A0,hb];rfl
    have h1:cF 0 ((P.length:Int)-1) (.int (i:Int))=ah:=by
     show(decide ((0:Int)<=(i:Int))&&decide ((i:Int)<=(P.length:Int)-1))=ah;rw[decide_eq_true (show(0:Int)<=(i:Int) by omega),decide_eq_true (show(i:Int)<=(P.length:Int)-1 by omega)];rfl
    have h2:cF 0 (b.2.length:Int) (.int (p:Int))=ah:=by
     show(decide ((0:Int)<=(p:Int))&&decide ((p:Int)<=(b.2.length:Int)))=ah;rw[decide_eq_true (show(0:Int)<=(p:Int) by omega),decide_eq_true (show(p:Int)<=(b.2.length:Int) by omega)];rfl
    rw[h1]at hx;refine aF (bh (λQ q=>aR (a:=ai) (b:=ai) (bH rfl) (λ_ Q q=>aR (a:=ai) (b:=ai) (λQ q=>hn Q q) (λ_ Q q=>hx Q q) q) q) ?_);dsimp only[aV];have hy:∀Q:Bool->Int->Prop,Q ai n->aI (cT (az gG (ao (w2 ↥1 ⇑1 aC) (ao ⇑0 (ao (wB aH (ao (w2 (w2 ↥0 (w2 ↥1 ⇑0 aC) aC) ⇑1 aC) ak)) ak))))) [ae (.w (.d (cf P))),ae (.w (.d (.tuple [.int i,.int p,z])))] n Q:=λQ q=>cL (k:=ah) (λQ q=>aB (k:=cF 0 (b.2.length:Int) (.int (p:Int))) (λQ q=>dH (d3 rfl (aE (aU (ar (ar (au rfl (dq rfl (eI hi' (aE (fJ ⟨.int p,0,_,rfl,by rw[Ad];exact q⟩))))))))))) (by rw[h2];exact q)) q;have hz:∀Q:Bool->Int->Prop,Q (!bE "tuple" z) n->aI (cT (aL "tuple" (w2 ↥1 ⇑2 aC))) [ae (.w (.d (cf P))),ae (.w (.d (.tuple [.int i,.int p,z])))] n Q:=λQ q=>cL (k:=bE "tuple" z) (λQ q=>aB (k:=bE "tuple" z) (λQ q=>fV (d:=z) (λQ q=>ar (au rfl (aE (gq q)))) Q q) q) q;cases z with
    |tuple es=>
     refine aF (bh (λQ q=>aR (a:=ai) (b:=ai) hy (λ_ Q q=>hz Q q) q) ?_);dsimp only[aV];have ha:∀Q:Bool->Int->Prop,Q (!es.all gP) n->aI (cT (wB bc (ao (aP (bo [af] (bD (w2 ↥1 ⇑2 aC)) (aD 0) aG (aO (aL "tuple" ↥0) (aO (w2 (wB aH (ao ↥0 ak)) ⇑2 ck) (az iD (ao (bZ ↥0 (bX ⇑1) bW) ak)))))) ak))) [ae (.w (.d (cf P))),ae (.w (.d (.tuple [.int i,.int p,.tuple es])))] n Q:=λQ q=>cL (k:=es.all gP) (λQ q=>aB (k:=es.all gP) (λQ q=>j7 (w:=aO (aL "tuple" ↥0) (aO (w2 (wB aH (ao ↥0 ak)) ⇑2 ck) (az iD (ao (bZ ↥0 (bX ⇑1) bW) ak)))) id gP es (rest:=[]) (λQ q=>fI (ds:=es) (λQ q=>ar (au rfl (aE (gq q)))) (by rw[Et]at q;exact q)) (λd hd n Q' q=>J4 q) q) q) q;have q:Q (.d (.bool (bU (kS (kn b.1 b.2 p)) es))) n:=q;cases hv:es.all gP with
     |false=>
      rw[hv]at ha;have:bU (kS (kn b.1 b.2 p)) es=ai:=by
       cases e:bU (kS (kn b.1 b.2 p)) es with
       |false=>rfl
       |true=>rw[wY _ _ e]at hv;cases hv
      rw[this]at q;exact aF (aW ha (aZ (aE q)))
     |true=>
      rw[hv]at ha;refine aF (bh ha ?_);dsimp only[aV];refine aZ (ar (a9 (fI (ds:=es) (λQ q=>ar (au rfl (aE (gq q)))) ?_)));show bN _ _ _ _ _ _ [af] n;rw[show es=es.map id from(Et es).symm];refine iQ id fG es [] af n (λd hd n Q' k=>?_) ?_
      ·have hd:=Cq.mp hv d hd;cases d with
       |tuple us=>
        obtain⟨a,v,rfl⟩:=cR (om us hd);exact dq rfl k
       |_=>cases hd
      rw[Cr];refine dH (au rfl (dq rfl (d3 rfl ⟨P,i,p,b,rfl,hb,wb,hpl,λhK=>?_⟩)));have l2:=qu λk hk=>((nY wb p).1 k hk).2.1;obtain⟨L,kk,hT,hL,hk⟩:=ok;have t2:=hT.mem (.tuple es) (by simp);have t3:Th L (kk+1) (.list (es.map fG)):=by
       refine .list ?_ λe he=>?_
       ·rw[Ad];exact uK t2
       ·obtain⟨u,hu,rfl⟩:=Bk.mp he;have hu':=Cq.mp hv u hu;have tu:=t2.mem u hu;cases u with
        |tuple us=>
         obtain⟨a,v,rfl⟩:=cR (om us hu');exact(tu.mem a (by simp)).mono (Aq _) ⋯
        |_=>cases hu'
      refine⟨t3.lay.1,l2.1,B7 t3.lay.2 ⋯,l2.2,_,rfl,?_⟩;show Q (.d (.bool (Bw (.tuple (es.map fG)) (.tuple ((kS (kn b.1 b.2 p)).map .str))))) n;rw[Bw,yl _ _ hv];exact q
    |_=>exact aF (aW (λQ q=>aR (a:=ai) (b:=ah) hy (λ_ Q q=>hz Q q) q) (aZ (aE q)))
  ·rw[decide_eq_false (show ¬(ds.length:Int)=3 by omega)]at hn;rw[BA h3]at q;exact aF (aW (λQ q=>aR (a:=ai) (b:=ah) (bH rfl) (λ_ Q q=>aR (a:=ah) (b:=ah) (λQ q=>hn Q q) (λz=>nomatch z) q) q) (aZ (aE q)))
 |_=>exact aF (aW (λQ q=>aR (a:=ah) (b:=ah) (λQ q=>cL (k:=ai) (λQ q=>aB (k:=ai) (λQ q=>q) q) q) (λz=>nomatch z) q) (aZ (aE q)))
abbrev Zg:List Str:=["_law_programs_here","_law_thing"]
theorem Pd:cq oi wA Zg:=λws n Q h=>by
 obtain⟨ps,d,rfl,hps,ok,q⟩:=h;show wA [ae (.w (.d (cg ps))),ae (.w (.d d))] n _;cases d with
 |tuple ds=>
  have hn:∀Q:Bool->Int->Prop,Q (!decide (ds.length=ps.length)) n->cT (w2 (wB aH (ao ↥1 ak)) (wB aH (ao ↥0 ak)) dM) [ae (.w (.d (cg ps))),ae (.w (.d (.tuple ds)))] n Q:=λQ q=>aB (k:=!decide ((ds.length:Int)=((ps.map cf).length:Int))) (λQ q=>ar (eJ rfl (eJ (ds:=ps.map cf) rfl q))) (by
   rw[Ad];have:decide ((ds.length:Int)=(ps.length:Int))=decide (ds.length=ps.length):=by rw[D7,decide_eq_true_iff,decide_eq_true_iff];omega
   rw[this];exact q)
  have q:Q (.d (.bool (decide (ds.length=ps.length)&&(ps.zip ds).all λq=>cw q.1 q.2))) n:=q;by_cases hl:ds.length=ps.length
  ·rw[decide_eq_true hl]at hn q;rw[Cf]at q;refine aF (bh (λQ q=>aR (a:=ai) (b:=ai) (bH rfl) (λ_ Q q=>hn Q q) q) ?_);dsimp only[aV];refine aZ (qY (w:=az oK (ao ↥0 (ao ↥1 ak))) cf id (λq=>cw q.1 q.2) ps ds hl.symm rfl (by rw[Et];rfl) (λr hr n Q' q=>?_) q);have h1:=Gn hr;obtain⟨L,k,hT,hL,hk⟩:=ok;exact bK (au rfl (au rfl ⟨r.1,r.2,rfl,(hps.2 r.1 h1.1).2.2,⟨L,_,hT.mem r.2 h1.2,hL,by omega⟩,q⟩))
  ·rw[decide_eq_false hl]at hn q;exact aF (aW (λQ q=>aR (a:=ai) (b:=ah) (bH rfl) (λ_ Q q=>hn Q q) q) (aZ (aE q)))
 |_=>exact aF (aW (λQ q=>aR (a:=ah) (b:=ah) (λQ q=>cL (k:=ai) (λQ q=>aB (k:=ai) (λQ q=>q) q) q) (λz=>nomatch z) q) (aZ (aE q)))
theorem Ll:cq jx zC ["_law_tape_here","_law_some"]:=λws n Q h=>by
 obtain⟨rfl,hn,k⟩:=h;show zC [ae (.w .tp),af] n _;have a1:iE 9 2 [.none,.bool ah,.bool ai,.int (-1),.int 0,.int 1,.int 2,.int 9,.int 10,.int 20,.int 21,.int 99,.int 100,.int (10 ^ 20),.str "",.str "a",.str "abcde",.str "abcdefghi",.str "A",.str "a1"]=ah:=by decide +kernel
 have a2:iE 9 2 [.str "all",.str "as",.str "bind",.str "any",.tuple [],.list [],.tuple [.int 1],.tuple [.str "any"],.tuple [.str "a"],.tuple [.tuple [.str "a"],.none]]=ah:=by decide +kernel
 refine aF (hU (x:=.list [.none,.bool ah,.bool ai,.int (-1),.int 0,.int 1,.int 2,.int 9,.int 10,.int 20,.int 21,.int 99,.int 100,.int (10 ^ 20),.str "",.str "a",.str "abcde",.str "abcdefghi",.str "A",.str "a1"]) (λQ q=>a9 ?_) ?_)
 ·exact Ak ⟨by decide,by decide,by decide⟩ (Ak ∎ q)
 dsimp only[Bg];generalize hA:([.none,.bool ah,.bool ai,.int (-1),.int 0,.int 1,.int 2,.int 9,.int 10,.int 20,.int 21,.int 99,.int 100,.int (10 ^ 20),.str "",.str "a",.str "abcde",.str "abcdefghi",.str "A",.str "a1"]:List Ab)=A at a1;have lA:A.length=20:=by rw[<-hA];rfl
 refine aF (hU (x:=.list (A++[.str "all",.str "as",.str "bind",.str "any",.tuple [],.list [],.tuple [.int 1],.tuple [.str "any"],.tuple [.str "a"],.tuple [.tuple [.str "a"],.none]])) (λQ q=>ar (au rfl (a9 ?_))) ?_)
 ·exact Ak ∎ (Ak ∎ (Ak ∎ (Ak ∎ (Ak ∎ (Ak ∎ (Ak ∎ (Ak ∎ (Ak (mO ⋯ ∎) q))))))))
 dsimp only[Bg];generalize hB:([.str "all",.str "as",.str "bind",.str "any",.tuple [],.list [],.tuple [.int 1],.tuple [.str "any"],.tuple [.str "a"],.tuple [.tuple [.str "a"],.none]]:List Ab)=B at a2;have lB:B.length=10:=by rw[<-hB];rfl
 have lAB:(A++B).length=30:=by rw[Ao,lA,lB]
 refine aZ (ar (au rfl ?_));exact gz (m:=((A++B).length:Int)) rfl (λQ q=>aU (au rfl q)) ⋯ ⋯ ⋯ λr r0 r1=>jv r0 r1 λd hd=>k d ((A6.mp hd).elim (pL a1 d) (pL a2 d))
theorem nc{n:Int}{Q:DQ}{a b:Int}(k:Q (.d (.bool (decide (b < a)))) n):eF (.d (.int a)) (.d (.int b)) n Q:=k
theorem Th.pos{L k:Nat}{ds:List Ab}(h:Th L k (.tuple ds)):1<=k:=by cases h;omega
theorem nU{Q:DQ}{n:Int}{i j:List Ab}(h:i.length+j.length<=1000)(k:Q (.d (.tuple (i++j))) n):gQ (.d (.tuple i)) (.d (.tuple j)) n Q:=by
 cases i with
 |nil=>exact k
 |cons a r=>exact Ak (.inl (λz=>nomatch z)) ⟨lH h,k⟩
theorem KD(ds:List Ab)(a b:Option Int):(bg ds a b).length<=ds.length:=by
 unfold bg;rw[C4,Dm];omega
theorem CG(ds:List Ab):(bg ds (ae (-1)) af).length<=1:=by
 unfold bg;rw[C4,Dm,HT.sIx_none];show min (ds.length-(if (-1:Int) < 0 then((-1:Int)+(ds.length:Int)).toNat else min (-1:Int).toNat ds.length)) (ds.length-(if (-1:Int) < 0 then((-1:Int)+(ds.length:Int)).toNat else min (-1:Int).toNat ds.length))<=1;rw[if_pos ∎];omega
section
variable{δ:Sl}{n:Int}{Q:DQ}{ds:List Ab}
theorem tY(k:Q (.d (.int (-1))) n):dR (wC (.int 1)) δ n Q:=k
theorem K3(e1:δ[1]?=ae (ae (.w (.d (.tuple ds)))))(k:Q (.d (.tuple (bg ds af (ae (-1))))) n):bZ ↥1 bW (bX (dR ⇑1)) δ n Q:=by
 unfold bZ bW bX;exact au e1 (tY k)
theorem JJ(e1:δ[1]?=ae (ae (.w (.d (.tuple ds)))))(k:Q (.d (.tuple (bg ds (ae (-1)) af))) n):bZ ↥1 (bX (dR ⇑1)) bW δ n Q:=by
 unfold bZ bW bX;exact au e1 (tY k)
theorem EL{a b c d e:DT}{Q:List Ab->Int->Prop}(k:a δ n λx n1=>b δ n1 λy n2=>c δ n2 λz n3=>d δ n3 λu n4=>e δ n4 λv n5=>match dw [x,y,z,u,v]with
  |some ds=>ds.length<=1000/\Q ds n5
  |none=>False):aN (ao a (ao b (ao c (ao d (ao e ak))))) δ n Q:=k
theorem KN{a b c:DT}{Q:List Ab->Int->Prop}(k:a δ n λx n1=>b δ n1 λy n2=>c δ n2 λz n3=>match dw [x,y,z]with
  |some ds=>ds.length<=1000/\Q ds n3
  |none=>False):aN (ao a (ao b (ao c ak))) δ n Q:=k
end
abbrev yd:aM:=aw (w2 (aP (aN (ao (wB jM (ao ↥1 ak)) (ao (bZ ↥1 bW (bX (dR ⇑1))) (ao (w2 ↥1 (bZ ↥1 (bX (dR ⇑1)) bW) gQ) (ao (w2 ↥1 (aA (ao (az jx (ao ↥0 ak)) ak)) gQ) (ao (eV ↥1) ak))))))) (w2 ↥3 ⇑1 (cJ λi j=>.int (i-j))) aC)
abbrev qw:aM:=aq (bb (b9 (cT (aL "int" ↥1)) (b9 (aI (cT (aL "bool" ↥1))) (cT (w2 ↥3 ⇑3 f6)))) (aw (w2 (aP (aN (ao (w2 ↥1 ⇑1 (cJ λi j=>.int (i+j))) (ao (w2 ↥1 ⇑1 (cJ λi j=>.int (i-j))) (ao (w2 ↥1 ⇑0 eF) ak))))) ↥3 aC)) aV) (aw (az jx (ao ↥0 ak)))
theorem vk{d:Ab}{L kk:Nat}{n n' w:Int}{x2:Option SV}{Q:DQ}(hT:Th L kk d)(hL9:9<=L)(hL30:L<=30)(w0:0<=w)(hn':n'<=n+2)(hn:n+5*(kk:Int)+5 < 2 ^ 39)
  (k:∀(d':Ab)(n':Int),Th (L+1) (kk+2) d'->n'<=n+5*(kk:Int)+5->Q (.d d') n'):
  qw [ae (.w .tp),ae (.w (.d d)),x2,ae (.w (.d (.int w)))] n' {nx:=λ_ n=>Q (.d .none) n,rt:=Q}:=by
 have odd:aw (az jx (ao ↥0 ak)) [ae (.w .tp),ae (.w (.d d)),x2,ae (.w (.d (.int w)))] n' {nx:=λ_ n=>Q (.d .none) n,rt:=Q}:=
  aZ (bM (au rfl ⟨rfl,by omega,λe he=>k e _ (he.mono ⋯ ⋯) ⋯⟩))
 have no:bE "int" d=ai->qw [ae (.w .tp),ae (.w (.d d)),x2,ae (.w (.d (.int w)))] n' {nx:=λ_ n=>Q (.d .none) n,rt:=Q}:=λh=>
  aF (bh (λQ q=>eU (a:=ai) (b:=ah) (λQ q=>aB (k:=ai) (λQ q=>fV (d:=d) (λQ q=>au rfl q) Q (by rw[h];exact q)) q) (λz=>nomatch z) q) odd)
 cases hT with
 |int i h1 h2=>
  refine aF (lX (b:=decide (w < 3)) (λQ q=>eU (a:=ah) (λQ q=>aB (λQ q=>fV (d:=.int i) (λQ q=>au rfl q) Q q) q) (λ_ Q q=>eU (a:=ah) (λQ q=>cL (k:=ai) (λQ q=>aB (λQ q=>fV (d:=.int i) (λQ q=>au rfl q) Q q) q) q) (λ_ Q q=>aB (k:=decide (w < 3)) (λQ q=>ar (au rfl (aE q))) q) (by rw[Cf];exact q)) (by rw[Cf];exact q)) (λe=>?_) λ_=>?_)
  ·have e:=of_decide_eq_true e;refine aZ (ar (a9 (KN ?_)));refine ar (au rfl (aE (ji ?_)));refine ar (au rfl (aE (iu ?_)));refine ar (au rfl (aE (nc (Ak (show 3<=1000 by decide) ?_))));refine au rfl (jv (ds:=[.int (i+1),.int (i-1),.bool _]) w0 e λf hf=>?_);simp only[Al,A3,or_false]at hf;rcases hf with rfl|rfl|rfl
   ·exact k _ _ (.int _ ⋯ ⋯) ⋯
   ·exact k _ _ (.int _ ⋯ ⋯) ⋯
   ·exact k _ _ (.bool _) ⋯
  ·exact odd
 |bool b=>
  exact aF (bh (λQ q=>eU (a:=ah) (b:=ai) (λQ q=>aB (λQ q=>fV (d:=.bool b) (λQ q=>au rfl q) Q q) q) (λ_ Q q=>eU (a:=ai) (b:=ah) (λQ q=>cL (k:=ah) (λQ q=>aB (λQ q=>fV (d:=.bool b) (λQ q=>au rfl q) Q q) q) q) (λz=>nomatch z) q) q) odd)
 |non=>exact no rfl
 |str _ _ _=>exact no rfl
 |list _ _=>exact no rfl
 |tuple _ _=>exact no rfl
theorem MR{ds:List Ab}{L kk:Nat}{n n' w:Int}{x2:Option SV}{Q:DQ}(hT:Th L kk (.tuple ds))(hL9:9<=L)(hL30:L<=30)(w0:1<=w)(w1:w < 6)(hn':n'<=n+2)(hn:n+5*(kk:Int)+5 < 2 ^ 39)
  (k:∀(d':Ab)(n':Int),Th (L+1) (kk+2) d'->n'<=n+5*(kk:Int)+5->Q (.d d') n') (K:DEnds) (hK:K.rt=Q):
  yd [ae (.w .tp),ae (.w (.d (.tuple ds))),x2,ae (.w (.d (.int w)))] n' K:=by
 subst hK;have hl:ds.length<=L:=by cases hT;assumption
 have hp:=hT.pos;have hm:∀x∈ds,Th (L+1) (kk+1) x:=λx hx=>(hT.mem x hx).mono ⋯ ⋯;have mk:∀xs:List Ab,xs.length<=L+1->(∀x∈xs,Th (L+1) (kk+1) x)->Th (L+1) (kk+2) (.tuple xs):=λxs h1 h2=>.tuple h1 h2;have mA:∀{a b:Option Int},∀x∈bg ds a b,Th (L+1) (kk+1) x:=λx hx=>hm x (vo hx);have t1:=KD ds af (ae (-1));have t2:=CG ds;refine aZ (ar (a9 (EL (Kb rfl (K3 rfl ?_)))));refine ar (au rfl (JJ rfl (nU ⋯ ?_)));refine ar (au rfl (z0 (bM (au rfl ⟨rfl,by omega,λo ho=>?_⟩))));have ho:=ho.mono (L':=L+1) (k':=kk+1) ⋯ ⋯;refine Ak (show 1<=1000 by decide) (nU (by rw[Ba];omega) (GA rfl (Ak (show 5<=1000 by decide) ?_)));have cA:Th (L+1) (kk+2) (.list ds):=.list ⋯ hm;have cB:=mk (bg ds af (ae (-1))) ⋯ mA;have cC:=mk (ds++bg ds (ae (-1)) af) (by rw[Ao];omega) λx hx=>(A6.mp hx).elim (hm x) (mA x);have cD:=mk (ds++[o]) (by rw[Ao,Ba];omega) (zT hm ho);have cE:=mk ds.reverse (by rw[Eo];omega) λx hx=>hm x (List.mem_reverse.mp hx);generalize De (bg ds af (ae (-1)))=B at cB;generalize De (ds++bg ds (ae (-1)) af)=C at cC;generalize De (ds++[o])=D at cD;generalize De ds.reverse=E at cE;refine ar (au rfl (aE (iu ?_)));refine jv (ds:=[.list ds,B,C,D,E]) (r:=w-1) ⋯ (show w-1 < 5 by omega) λf hf=>?_;simp only[Al,A3,or_false]at hf;rcases hf with rfl|rfl|rfl|rfl|rfl
 ·exact k _ _ cA ⋯
 ·exact k _ _ cB ⋯
 ·exact k _ _ cC ⋯
 ·exact k _ _ cD ⋯
 ·exact k _ _ cE ⋯
theorem LV:∀d ws n Q,gp d ws n Q->ws.length=2:=λt ws n Q h=>by
 cases t with
 |zero=>exact h.elim
 |succ t=>obtain⟨_,_,_,rfl,_⟩:=h;rfl
theorem JU:∀d ws n Q,gp (d+1) ws n Q->AB (gp d) (dh ["_law_tape_here","_law_thing","_law_at","_law_way"] ws) n {nx:=λ_ n=>Q (.d .none) n,rt:=Q}:=λt ws n Q h=>by
 obtain⟨d,L,kk,rfl,hT,hL9,hL30,hk,hn,k⟩:=h;show AB (gp t) [ae (.w .tp),ae (.w (.d d)),af,af] n _
 have rest:∀n1:Int,n1<=n+1->(aq (aJ 3 (az bC (ao ↥0 (ao ⇑6 ak)))) (aq (bb (b9 (cT (aL "tuple" ↥1)) (cT (w2 ↥3 ⇑0 eF))) yd aV) qw)) [ae (.w .tp),ae (.w (.d d)),af,af] n1 {nx:=λ_ n=>Q (.d .none) n,rt:=Q}:=λn1 hn1=>by
  refine aF (nN (m:=6) rfl ⋯ ∎ ∎ λw w0 w1=>?_);dsimp only[Bg];cases ht:bE "tuple" d with
  |true=>
   obtain⟨ds,rfl⟩:=vv ht;refine aF (lX (b:=decide (0 < w)) (λQ q=>eU (a:=ah) (λQ q=>aB (λQ q=>iJ rfl q) q) (λ_ Q q=>aB (k:=decide (0 < w)) (λQ q=>ar (au rfl (aE q))) q) (by rw[Cf];exact q)) (λe=>?_) λ_=>?_)
   ·have e:=of_decide_eq_true e;exact MR (n:=n) hT hL9 hL30 ⋯ w1 ⋯ hn k _ rfl
   ·exact vk (x2:=af) (n:=n) hT hL9 hL30 w0 ⋯ hn k
  |false=>
   refine aF (bh (λQ q=>eU (a:=ai) (b:=ah) (λQ q=>aB (k:=ai) (λQ q=>fV (d:=d) (λQ q=>au rfl q) Q (by rw[ht];exact q)) q) (λz=>nomatch z) q) ?_);exact vk (x2:=af) (n:=n) hT hL9 hL30 w0 ⋯ hn k
 by_cases ht:bE "tuple" d=ah
 ·obtain⟨ds,rfl⟩:=vv ht;rcases ds with _|⟨a,r⟩
  ·refine aF (bh (λQ q=>eU (a:=ah) (b:=ai) (λQ q=>aB (λQ q=>iJ rfl q) q) (λ_ Q q=>eU (a:=ai) (b:=ah) (λQ q=>aB (k:=ai) (λQ q=>ar (eJ (ds:=[]) rfl (aE q))) q) (λz=>nomatch z) q) q) ?_);exact rest n ⋯
  ·have hl:(a::r).length<=L:=by cases hT;assumption
   have k1:=hT.pos;have l1:decide ((0:Int) < ((a::r).length:Int))=ah:=decide_eq_true (by rw[Ax];omega);have l2:1<=(a::r).length:=by rw[Ax];omega
   generalize a::r=ds at hT hl l1 l2 rest;refine aF (e9 (uW (λQ q=>aB (λQ q=>iJ rfl q) q) (uW (λQ q=>aB (k:=ah) (λQ q=>ar (eJ (ds:=ds) rfl (aE (nc (by rw[l1];exact q))))) q) ?_)));refine ar (gN (m:=5) rfl ⋯ ∎ ∎ λx x0 x1=>aE ?_);show if decide (0 < x)=ah then _ else _
   by_cases h:0 < x
   ·rw[if_pos (decide_eq_true h)];refine aF (gz (m:=(ds.length:Int)) rfl (λQ q=>aU (au rfl q)) ⋯ ⋯ ⋯ λr r0 r1=>?_);obtain⟨y,hy,ym⟩:=ni r0 r1;obtain⟨j,rfl⟩:∃j:Nat,r=j:=⟨r.toNat,by omega⟩;dsimp only[Bg];have t1:=EB ds j;have t3:=Ik ds j;refine aZ (ar (ar (oR rfl rfl (z0 (bK (au rfl (ar (au rfl (au rfl ?_)))))))));show match cM ds (j:Int)with|some d=>_|none=>False
    rw[hy];cases t with
    |zero=>omega
    |succ t=>
     refine⟨y,L,kk-1,rfl,hT.mem y ym,hL9,hL30,by omega,by omega,λd' n' hd' hn''=>?_⟩;refine Ak (Nat.le_of_ble_eq_true rfl) (nU (by rw[Ba];omega) (GL rfl rfl (nU (by rw[Ao,Ba];omega) ?_)));have mA:∀{a b:Option Int},∀x∈bg ds a b,Th (L+1) (kk+1) x:=λx hx=>(hT.mem x (vo hx)).mono ⋯ ⋯;exact k _ _ (.tuple (by rw[Ao,Ao,Ba];omega) λx hx=>(A6.mp hx).elim (zT mA (hd'.mono (Aq _) ⋯) x) (mA x)) ⋯
   ·rw[if_neg (by simpa using h)];exact rest _ ⋯
 ·have ht:bE "tuple" d=ai:=by simpa using ht
  refine aF (bh (λQ q=>eU (a:=ai) (b:=ah) (λQ q=>aB (k:=ai) (λQ q=>fV (d:=d) (λQ q=>au rfl q) Q (by rw[ht];exact q)) q) (λz=>nomatch z) q) ?_);exact rest n ⋯
def fW:List (List Vl)->Bool
 |a::b::r=>fK a b&&fW (b::r)
 |_=>ah
theorem wF:∀cs:List Ab,ef cs=fW (cs.map dF)
 |[]=>rfl
 |[_]=>rfl
 |a::b::r=>by
  rw[ef,wF (b::r)];rfl
theorem yO:∀{rs:List (List Vl)},fW rs=ah->rs.Pairwise λa b=>fK a b=ah
 |[],_=>.nil
 |[a],_=>Ei _ _
 |a::b::r,h=>by
  rw[fW,Ay]at h;have ih:=yO h.2;refine Dy.mpr ⟨λc hc=>?_,ih⟩;rcases Al.mp hc with rfl|hc
  ·exact h.1
  ·exact rlin.tr1 h.1 (rlin.asym _ _ ((Dy.mp ih).1 c hc))
theorem wq:∀{rs:List (List Vl)},rs.Pairwise (λa b=>fK a b=ah)->fW rs=ah
 |[],_=>rfl
 |[a],_=>rfl
 |a::b::r,h=>by
  obtain⟨h1,h2⟩:=Dy.mp h;rw[fW,h1 b Am,wq h2];rfl
theorem yy{α:Type}:∀{us xs:List α},us.Nodup->(∀x∈us,x∈xs)->us.length=xs.length->xs.Nodup
 |[],xs,_,_,h=>by cases Fl h.symm;exact .nil
 |u::us,xs,nd,hs,hl=>by
  obtain⟨n1,n2⟩:=Ek.mp nd;obtain⟨l,r,rfl⟩:=List.append_of_mem (hs u Am);have hs':∀x∈us,x∈l++r:=λx hx=>by
   have:=hs x (Ar _ hx);rcases A6.mp this with z|z
   ·exact Dz _ z
   ·rcases Al.mp z with z|z
    ·exact absurd (z▸hx) n1
    ·exact A1 _ z
  have hl':us.length=(l++r).length:=by
   simp only[Ax,Ao]at hl ⊢;omega
  have ih:=yy n2 hs' hl';have hu:u∉l++r:=λz=>by
   have:=kJ (xs:=u::us) (ys:=l++r) nd λx hx=>(Al.mp hx).elim (λe=>e▸z) (hs' x);rw[Ax]at this;omega
  exact(List.perm_middle.nodup_iff).mpr (Ek.mpr ⟨hu,ih⟩)
def cX(r:List Vl):Ab:=.tuple (r.map kD)
theorem qp(a b:List Vl):Bw (cX a) (cX b)=decide (a=b):=by
 unfold cX;rw[Bw]
 induction a generalizing b with
 |nil=>cases b<;>simp[B3]
 |cons v a ih=>
  cases b with
  |nil=>simp[B3]
  |cons w b=>
   rw[A5,A5,B3,vO,ih,D7];simp
theorem wo:∀a b:List (List Vl),B3 (a.map cX) (b.map cX)=decide (a=b)
 |[],[]=>by simp[B3]
 |[],_::_=>by simp[B3]
 |_::_,[]=>by simp[B3]
 |v::a,w::b=>by
  rw[A5,A5,B3,qp,wo a b,D7];simp
theorem ES{a b:List Vl}(h:cX a=cX b):a=b:=by
 have:=qp a b;rw[h,qp b b,decide_eq_true rfl]at this;exact of_decide_eq_true this.symm
theorem Kw{r:List Vl}(h:∀v∈r,Bm (vD v)=ah):cV 6 (cX r)=ah:=by
 unfold cX;rw[cV]
 induction r with
 |nil=>rfl
 |cons v r ih=>
  rw[A5,dv,ih λx hx=>h x (Ar _ hx),Fs];have hv:=h v Am;cases v with
  |inl i=>rfl
  |inr x=>
   have hv:Bm (.str x)=ah:=hv;rw[Bm]at hv;show cV 5 (.tuple [.int 1,.str x])=ah;rw[cV,dv,dv,dv,cV,cV,hv];rfl
theorem uf:∀{rs:List (List Vl)},(∀r∈rs,dI r)->Bm (.list (rs.map cX))=ah/\Ce (.list (rs.map cX))<=20:=λ{rs} h=>by
 have:Cb (rs.map cX)=ah/\Cj (rs.map cX)<=2:=by
  induction rs with
  |nil=>exact⟨rfl,Bc _⟩
  |cons r rs ih=>
   obtain⟨a,b⟩:=ih λx hx=>h x (Ar _ hx);obtain⟨c,d⟩:=kM (h r Am).2;have c':Bm (cX r)=ah:=by unfold cX;rw[Bm];exact c
   have d':Ce (cX r)<=2:=by unfold cX;rw[Ce];omega
   rw[A5,Cb,Cj,a,c'];exact⟨rfl,by omega⟩
 exact⟨by rw[Bm];exact this.1,by rw[Ce];omega⟩
def ko(rs:List (List Vl))(i j:Nat):Bool:=fK (rs.getD i []) (rs.getD j [])
theorem xu{rs:List (List Vl)}(h:∀r∈rs,dI r):lS (rs.map λr=>r.map kD) (ko rs):=by
 refine⟨λd hd=>?_,λi j x y e1 e2=>?_⟩
 ·obtain⟨r,hr,rfl⟩:=Bk.mp hd;obtain⟨a,b⟩:=kM (h r hr).2;refine⟨?_,a,by omega⟩;cases r with
  |nil=>exact absurd (h [] hr).1.1 ∎
  |cons v r=>cases v<;>exact⟨_,_,rfl⟩
 ·rw[A0,En]at e1 e2;obtain⟨a,ea,rfl⟩:=e1;obtain⟨b,eb,rfl⟩:=e2;rw[qT];simp[ko,ea,eb]
theorem CD(rs:List (List Vl)):KS.Ord (ko rs):=⟨λi j=>rlin.asym _ _,λi j k=>rlin.ntr _ _ _⟩
theorem Lk{rs:List (List Vl)}{idx:List Nat}(hp:idx.Perm (Bh rs.length))(hw:idx.Pairwise λi j=>ko rs j i=ai):
  (rs≠idx.map (λi=>rs.getD i [])->fW rs=ai)/\(rs=idx.map (λi=>rs.getD i [])->∀us:List Ab,us.Nodup->(∀d,d∈us↔d∈rs.map cX)->decide ((us.length:Int)=((rs.map cX).length:Int))=fW rs):=by
 have hz:ny fK (idx.map λi=>rs.getD i []):=Gy.mpr hw;have pz:(idx.map λi=>rs.getD i []).Perm rs:=by
  refine(hp.map λi=>rs.getD i []).trans ?_;have e:(Bh rs.length).map (λi=>rs.getD i [])=rs:=by
   apply Ew (by simp);intro i h1 h2;simp[h2]
  rw[e]
 have strict:fW rs=ah->ny fK rs/\rs.Nodup:=λh=>by
  have:=yO h;exact⟨this.imp λz=>rlin.asym _ _ z,this.imp λz e=>by rw[e,rlin.irr]at z;cases z⟩
 refine⟨λhne=>?_,λhe us nd hm=>?_⟩
 ·cases h:fW rs with
  |false=>rfl
  |true=>exact absurd (zJ rlin (strict h).1 hz pz.symm) hne
 ·rw[<-he]at hz;have ndk:(rs.map cX).Nodup↔rs.Nodup:=by
   unfold List.Nodup;rw[Gy];exact⟨λz=>z.imp λy e=>y (by rw[e]),λz=>z.imp λy e=>y (ES e)⟩
  cases h:fW rs with
  |true=>
   have h2:=ndk.mpr (strict h).2;have l1:=kJ nd λd hd=>(hm d).mp hd;have l2:=kJ h2 λd hd=>(hm d).mpr hd;exact decide_eq_true ⋯
  |false=>
   refine decide_eq_false λhl=>?_;have h2:=ndk.mp (yy nd (λd hd=>(hm d).mp hd) ⋯);have:fW rs=ah:=wq ((hz.and h2).imp λ{a b} z=>by
    cases e:fK a b with
    |true=>rfl
    |false=>exact absurd (rlin.tot a b e z.1) z.2)
   rw[h]at this;cases this
theorem qy(k:List Vl):DL.rowD k=rD k:=by
 unfold DL.rowD rD
 congr 1
theorem jC{row:List Ab}(h:fQ row):rD (row.map gL)=.tuple row/\dI (row.map gL):=by
 have hv:∀d∈row,bP d=ah/\Bm d=ah:=λd hd=>by
  have:=h.2 d hd;unfold hV at this;rw[Ay]at this;exact⟨this.1,(sN this.2).lay.1⟩
 refine⟨?_,⟨by rw[Ad];exact h.1.2,by rw[Ad];exact h.1.1⟩,λv hv'=>?_⟩
 ·unfold rD;rw[o9 (Cq.mpr λd hd=>(hv d hd).1)]
 ·obtain⟨d,hd,rfl⟩:=Bk.mp hv';rw[pK (hv d hd).1];exact(hv d hd).2
theorem rA{δ:Sl}{n m:Int}{Q:DQ}{i:Nat}{w:DT}(e:δ[i]?=ae (ae (.w .tp)))(hw:∀Q:DQ,Q (.d (.int m)) n->w δ n Q)(h:n < 2 ^ 40)(h0:0 < m)(h1:m < 1073741824)(k:∀r:Int,0<=r->r < m->Q (.d (.int r)) (n+1)):az bC (ao (aj i) (ao w ak)) δ n Q:=
 bK (au e (hw _ (vy h h0 h1 k)))
theorem qc{δ:Sl}{n m:Int}{Q:DQ}{i:Nat}(e:δ[i]?=ae (ae (.w .tp)))(h:n < 2 ^ 40)(h0:0 < m)(h1:m < 1073741824)(k:∀r:Int,0<=r->r < m->Q (.d (.int r)) (n+1)):az bC (ao (aj i) (ao (wC (.int m)) ak)) δ n Q:=rA e (λQ q=>aE q) h h0 h1 k
theorem ye{Q:List Ab->Int->Prop}:∀(rows:List (List Ab))(acc:List Ab)(x:Option SV)(n:Int),n+(rows.length:Int) < 2 ^ 39->(∀r∈rows,fQ r)->(∀cs:List Co,cs.length=rows.length->(∀c∈cs,jH c)->Q (acc++cs.map fg) (n+(rows.length:Int)))->
  bN (aD 0) aG (aA (ao ↥0 (ao (w2 (aP (aN (ao ⇑1 (ao ⇑2 (ao (wC .none) (ao ⇑3 (ao (w2 ⇑10 ⇑9 (gI dB λi j=>.int (i ^ j.toNat))) (ao (wC .none) (ao (w2 (w2 ⇑10 ⇑9 (gI dB λi j=>.int (i ^ j.toNat))) ⇑1 (cJ λi j=>.int (i+j))) ak))))))))) (az bC (ao ↥1 (ao ⇑7 ak))) aC) ak))) Q (rows.map .tuple) acc [x,ae (.w .tp)] n
 |[],acc,x,n,_,_,k=>by
  have:=k [] rfl λq hq=>nomatch hq
  rw[Ck,Bv]at this;rw[show n+(([]:List (List Ab)).length:Int)=n by simp]at this;exact this
 |r::rows,acc,x,n,hn,ho,k=>by
  rw[Ax]at hn k;simp only[A5,bN,aD,aG,if_true,B8];refine df (au rfl (ar (a9 (Ak ⟨by decide,by decide,by decide⟩ (Ak ⟨by decide,by decide,by decide⟩ (Ak ∎ ?_))))));dsimp only;refine qc (m:=7) rfl ⋯ ∎ ∎ λj j0 j1=>jv (ds:=[.int 1,.int 2,.none,.int 3,.int (10 ^ 9),.none,.int (10 ^ 9+1)]) j0 j1 λd hd=>Ak (show 2<=1000 by decide) ?_;have hd:Th 9 0 d:=pL (k:=0) (show iE 9 0 [.int 1,.int 2,.none,.int 3,.int (10 ^ 9),.none,.int (10 ^ 9+1)]=ah by decide +kernel) d hd;refine ye rows _ _ (n+1) ⋯ (λy hy=>ho y (Ar _ hy)) λcs hl hc=>?_;have:=k ((r,d)::cs) (by rw[Ax,hl]) λc hc'=>(Al.mp hc').elim (λz=>z▸⟨ho r Am,hd⟩) (hc c);rw[Bu];rw[show n+1+(rows.length:Int)=n+((rows.length+1:Nat):Int) by omega];exact this
theorem JM:∀ws n Q,pJ ws n Q->zg (dh ["_law_tape_here","_law_notes_here","_law_rows"] ws) n {nx:=λ_ _=>False,rt:=λ_ _=>False,rn:=Q}:=λws n Q h=>by
 obtain⟨ns,rfl,hns,hn,k⟩:=h;show zg [ae (.w .tp),ae (.w (.d (il ns))),af] n _;have key:∀r∈(ns.map λq=>(q.1.map gL,q.2)).map (·.1),∃q∈ns,r=q.1.map gL:=λr hr=>by
  obtain⟨p,hp,rfl⟩:=Bk.mp hr;obtain⟨q,hq,rfl⟩:=Bk.mp hp;exact⟨q,hq,rfl⟩
 have okr:∀r∈(ns.map λq=>(q.1.map gL,q.2)).map (·.1),dI r:=λr hr=>by
  obtain⟨q,hq,rfl⟩:=key r hr;exact(jC (hns.2 q hq).1).2
 refine aF (show aJ 2 _ _ _ _ from a9 (au rfl ⟨ns.map λq=>(q.1.map gL,q.2),λr=>r.map kD,?_,by rw[Ad];have:=hns.1;omega,λp hp m Q0 q0=>?_,λks hks=>⟨ko ks,xu λr hr=>okr r (hks r hr)⟩,λout ho hm=>?_⟩))
 ·unfold il;rw[Er]
  congr 2
  refine Hf λq hq=>?_;show p7 q=.tuple [DL.rowD (q.1.map gL),q.2];rw[qy,(jC (hns.2 q hq).1).1];rfl
 ·have hp':=okr p.1 (Bk.mpr ⟨p,hp,rfl⟩);rw[qy];exact⟨p.1,rfl,hp'.1.2,q0⟩
 ·dsimp only[Bg];refine(show nT _ _ _ _ from ?_);unfold nT bo fC;refine au rfl ?_;dsimp only;obtain⟨rows,er,hr⟩:∃rows:List (List Ab),out.map DL.rowD=rows.map .tuple/\∀r∈rows,fQ r:=by
   clear ho
   induction out with
   |nil=>exact⟨[],rfl,λr hr=>nomatch hr⟩
   |cons o out ih=>
    obtain⟨rows,er,hr⟩:=ih λy hy=>hm y (Ar _ hy);obtain⟨q,hq,e⟩:=key o (hm o Am);refine⟨q.1::rows,?_,λr hr'=>(Al.mp hr').elim (λz=>z▸(hns.2 q hq).1) (hr r)⟩;rw[A5,A5,er,qy,e,(jC (hns.2 q hq).1).1]
  have hrl:rows.length<=6:=by
   have:=congrArg List.length er;rw[Ad,Ad]at this;rw[Ad]at ho;have:=hns.1;omega
  rw[er];show bN _ _ _ _ _ [] [af,ae (.w .tp)] n;refine ye rows [] af n ⋯ hr λcs hl hc=>?_;rw[Cr];exact k cs _ ⋯ hc ⋯
def sM(ps:Pg)(a:Ab)(cs:List Ab)(L k:Nat)(n0:Int)(ds:List Ab)(δ:Sl)(n:Int):Prop:=∃x:Option SV,δ=[ae (.w (.d (cg ps))),ae (.w (.d (.tuple [a,.tuple cs]))),x,af]/\n=n0/\cs.all dY=ds.all dY/\∀c∈ds,Th L k c
theorem pM{m:Ab}{n:Int}{Q:DQ}(z:m≠.none)(q:Q (.d (.bool ah)) n):bL ah (.d m) (.d .none) n Q:=by
 cases m with
 |none=>exact absurd rfl z
 |_=>exact q
theorem N1{m:Ab}{L k:Nat}{δ:Sl}{n:Int}{r:Ab}(hT:Th L k m)(hL:L<=12)(e:δ[2]?=ae (ae (.w (.d (.tuple [r,m]))))):∀Q:Bool->Int->Prop,Q (!fi m) n->b9 (cT (w2 (w2 ↥2 ⇑1 aC) (wC .none) (bL ah))) (aI (cT (az gG (ao (w2 ↥2 ⇑1 aC) (ao ⇑1 (ao (w2 ⇑10 ⇑60 (gI dB λi j=>.int (i ^ j.toNat))) ak)))))) δ n Q:=λQ q=>by
 have w:∀Q:Bool->Int->Prop,Q (!cF 1 (10 ^ 60) m) n->aI (cT (az gG (ao (w2 ↥2 ⇑1 aC) (ao ⇑1 (ao (w2 ⇑10 ⇑60 (gI dB λi j=>.int (i ^ j.toNat))) ak))))) δ n Q:=λQ q=>cL (k:=cF 1 (10 ^ 60) m) (λQ q=>aB (k:=cF 1 (10 ^ 60) m) (λQ q=>dH (d3 e (aE (ar (aE (aE (Ak ⟨by decide,by decide,by decide⟩ ⟨m,1,_,rfl,q⟩))))))) q) q;have no:m≠.none->fi m=cF 1 (10 ^ 60) m:=λz=>by
  cases hT with
  |non=>exact absurd rfl z
  |int i h1 h2=>
   show decide (1<=i)=(decide (1<=i)&&decide (i<=10 ^ 60));rw[decide_eq_true (show i<=10 ^ 60 by unfold lM at h2;omega),Fs]
  |_=>rfl
 by_cases z:m=.none
 ·subst z;exact eU (a:=ai) (b:=ah) (λQ q=>aB (k:=ai) (λQ q=>ar (d3 e (aE q))) q) (λz=>nomatch z) q
 ·rw[no z]at q;exact eU (a:=ah) (b:=!cF 1 (10 ^ 60) m) (λQ q=>aB (k:=ah) (λQ q=>ar (d3 e (aE (pM z q)))) q) (λ_ Q q=>w Q q) (by rw[Cf];exact q)
theorem OC:cq nq zG ["_law_programs_here","_law_thing","_law_one","_law_keys"]:=λws n Q h=>by
 obtain⟨ps,d,rfl,hps,ok,q⟩:=h;show zG [ae (.w (.d (cg ps))),ae (.w (.d d)),af,af] n _;cases d with
 |tuple ds=>
  have hn:∀Q:Bool->Int->Prop,Q (!decide ((ds.length:Int)=2)) n->cT (w2 (wB aH (ao ↥1 ak)) ⇑2 dM) [ae (.w (.d (cg ps))),ae (.w (.d (.tuple ds))),af,af] n Q:=ke rfl;by_cases h2:ds.length=2
  ·rw[decide_eq_true (show(ds.length:Int)=2 by omega)]at hn;obtain⟨a,b,rfl⟩:=cR h2;obtain⟨oa,ob,_⟩:=vt ok;have hh:∀Q:Bool->Int->Prop,Q (!d6 ps a) n->aI (cT (az oi (ao ↥0 (ao (w2 ↥1 ⇑0 aC) ak)))) [ae (.w (.d (cg ps))),ae (.w (.d (.tuple [a,b]))),af,af] n Q:=λQ q=>cL (k:=d6 ps a) (λQ q=>aB (k:=d6 ps a) (λQ q=>bK (au rfl (dq rfl ⟨ps,a,rfl,hps,oa,q⟩))) q) q;have q:Q (.d (.bool (d6 ps a&&nO b))) n:=q;cases e1:d6 ps a with
   |false=>
    rw[e1]at hh q;exact aF (aW (λQ q=>aR (a:=ai) (b:=ah) (bH rfl) (λ_ Q q=>aR (a:=ai) (b:=ah) (λQ q=>hn Q q) (λ_ Q q=>hh Q q) q) q) (aZ (aE q)))
   |true=>
    rw[e1]at hh q;rw[Cf]at q;refine aF (bh (λQ q=>aR (a:=ai) (b:=ai) (bH rfl) (λ_ Q q=>aR (a:=ai) (b:=ai) (λQ q=>hn Q q) (λ_ Q q=>hh Q q) q) q) ?_);dsimp only[aV];have hz:∀Q:Bool->Int->Prop,Q (!bE "tuple" b) n->aI (cT (aL "tuple" (w2 ↥1 ⇑1 aC))) [ae (.w (.d (cg ps))),ae (.w (.d (.tuple [a,b]))),af,af] n Q:=λQ q=>cL (k:=bE "tuple" b) (λQ q=>aB (k:=bE "tuple" b) (λQ q=>fV (d:=b) (λQ q=>d3 rfl q) Q q) q) q;cases b with
    |tuple cs=>
     refine aF (bh hz ?_);dsimp only[aV];obtain⟨L,k,hT,hL,hk⟩:=id ob;have hcl:=uK hT;refine aF ?_;unfold br bD;refine d3 rfl ?_;dsimp only;refine fR (sM ps a cs L (k-1) n) (λδ n' I=>?_) (λd r δ n' N I kN=>?_) _ _ _ ⟨af,rfl,rfl,rfl,λc hc=>hT.mem c hc⟩
     ·obtain⟨x,rfl,rfl,hall,_⟩:=I;have hall:cs.all dY=ah:=hall;have q:Q (.d (.bool (cs.all dY&&ef cs))) n':=q;rw[hall,Cf,wF]at q;have hu:=w4 ob hall;have hrs:∀r∈cs.map dF,dI r:=λr hr=>by
       obtain⟨c,hc,rfl⟩:=Bk.mp hr;obtain⟨r,m,_,o,e⟩:=hu c hc;rw[e];exact o
      dsimp only;refine aF (hU (x:=.list ((cs.map dF).map cX)) (λQ q=>a9 (fI (ds:=cs) (λQ q=>d3 rfl q) ?_)) ?_)
      ·show bN _ _ _ _ _ _ [af] n';rw[show cs=cs.map id from(Et cs).symm];refine iQ id (λc=>cX (dF c)) cs [] af n' (λc hc n Q' k=>?_) ?_
       ·obtain⟨r,m,e,o,e2⟩:=hu c hc;rw[e2]at k;subst e;exact bM (dq rfl ⟨r,rfl,o.1.2,k⟩)
       ·rw[Cr];rw[Er]at q;exact q
      dsimp only[Bg];have hlen:(cs.map dF).length<=12:=by rw[Ad];omega
      generalize cs.map dF=rs at q hrs hlen;have tl:=uf hrs;refine aZ ?_;unfold aO;refine ar (au rfl (a9 (au rfl ⟨rs.map λr=>r.map kD,ko rs,by rw[Er];rfl,by rw[Ad];omega,xu hrs,CD rs,λidx hp hw=>?_⟩)));rw[Ad]at hp;obtain⟨q1,q2⟩:=Lk hp hw;have ey:(idx.map λi=>De ((rs.map λr=>r.map kD).getD i []))=(idx.map λi=>rs.getD i []).map cX:=by
       rw[Er];refine Hf λi hi=>?_;have:i < rs.length:=Bs.mp (hp.mem_iff.mp hi);show De _=De _
       congr 1
       simp[this]
      have hzs:∀r∈idx.map (λi=>rs.getD i []),dI r:=λr hr=>by
       obtain⟨i,hi,rfl⟩:=Bk.mp hr;have:i < rs.length:=Bs.mp (hp.mem_iff.mp hi);have e:rs.getD i []=rs[i]:=by simp[this]
       rw[e];exact hrs _ (Ed this)
      have tz:=uf hzs;rw[ey];refine⟨tl.1,tz.1,tl.2,tz.2,_,rfl,?_⟩;show gk (.d (.bool (Bw (.tuple (rs.map cX)) (.tuple ((idx.map λi=>rs.getD i []).map cX))))) _ _;rw[Bw,wo];by_cases he:rs=idx.map λi=>rs.getD i []
      ·rw[decide_eq_true he];refine(show w2 (m3 ↥3) (wB aH (ao ↥3 ak)) ck _ n' _ from ar ?_);unfold m3;refine au rfl ⟨rs.map cX,rfl,λd hd=>?_,by rw[Ad];omega,λus nd hm=>aU (au rfl ?_)⟩
       ·obtain⟨r,hr,rfl⟩:=Bk.mp hd;exact⟨Kw (hrs r hr).2,_,rfl⟩
       ·show Q (.d (.bool (decide ((us.length:Int)=((rs.map cX).length:Int))))) n';rw[q2 he us nd hm];exact q
      ·rw[decide_eq_false he];rw[q1 he]at q;exact q
     ·obtain⟨x,rfl,rfl,hall,hth⟩:=I;dsimp only[aD,Bg];have td:=hth d Am;rw[Dl]at hall;have nxt:dY d=ah->N [ae (.w (.d (cg ps))),ae (.w (.d (.tuple [a,.tuple cs]))),ae (.w (.d d)),af] n':=λz=>kN _ _ ⟨_,rfl,rfl,by rw[hall,z,Cf],λc hc=>hth c (Ar _ hc)⟩;have stop:dY d=ai->Q (.d (.bool ai)) n':=λz=>by
       have q:Q (.d (.bool (cs.all dY&&ef cs))) n':=q;rw[hall,z]at q;exact q
      cases d with
      |tuple es=>
       have hne:∀Q:Bool->Int->Prop,Q (!decide ((es.length:Int)=2)) n'->cT (w2 (wB aH (ao ↥2 ak)) ⇑2 dM) [ae (.w (.d (cg ps))),ae (.w (.d (.tuple [a,.tuple cs]))),ae (.w (.d (.tuple es))),af] n' Q:=ke rfl;by_cases h2:es.length=2
       ·rw[decide_eq_true (show(es.length:Int)=2 by omega)]at hne;obtain⟨r0,m,rfl⟩:=cR h2;have hr:∀Q:Bool->Int->Prop,Q (!bG r0) n'->aI (cT (az iD (ao (w2 ↥2 ⇑0 aC) ak))) [ae (.w (.d (cg ps))),ae (.w (.d (.tuple [a,.tuple cs]))),ae (.w (.d (.tuple [r0,m]))),af] n' Q:=λQ q=>cL (k:=bG r0) (λQ q=>aB (k:=bG r0) (λQ q=>du (g:=bG) (λQ q=>dq rfl q) Q q) q) q;have hmm:=N1 (n:=n') (δ:=[ae (.w (.d (cg ps))),ae (.w (.d (.tuple [a,.tuple cs]))),ae (.w (.d (.tuple [r0,m]))),af]) (td.mem m (by simp)) hL rfl;cases er:bG r0 with
        |false=>
         rw[er]at hr;exact aF (aW (λQ q=>aR (a:=ai) (b:=ah) (bH rfl) (λ_ Q q=>aR (a:=ai) (b:=ah) (λQ q=>hne Q q) (λ_ Q q=>hr Q q) q) q) (aZ (aE (stop (by show(bG r0&&fi m)=ai;rw[er];rfl)))))
        |true=>
         rw[er]at hr;refine aF (bh (λQ q=>aR (a:=ai) (b:=ai) (bH rfl) (λ_ Q q=>aR (a:=ai) (b:=ai) (λQ q=>hne Q q) (λ_ Q q=>hr Q q) q) q) ?_);dsimp only[aV];cases em:fi m with
         |false=>
          rw[em]at hmm;exact aW hmm (aZ (aE (stop (by show(bG r0&&fi m)=ai;rw[em,Fg]))))
         |true=>
          rw[em]at hmm;exact bh hmm (nxt (by show(bG r0&&fi m)=ah;rw[er,em];rfl))
       ·rw[decide_eq_false (show ¬(es.length:Int)=2 by omega)]at hne;exact aF (aW (λQ q=>aR (a:=ai) (b:=ah) (bH rfl) (λ_ Q q=>aR (a:=ah) (b:=ah) (λQ q=>hne Q q) (λz=>nomatch z) q) q) (aZ (aE (stop (jq qI h2)))))
      |_=>exact aF (aW (λQ q=>aR (a:=ah) (b:=ah) (λQ q=>cL (k:=ai) (λQ q=>aB (k:=ai) (λQ q=>q) q) q) (λz=>nomatch z) q) (aZ (aE (stop rfl))))
    |_=>exact aF (aW hz (aZ (aE q)))
  ·rw[decide_eq_false (show ¬(ds.length:Int)=2 by omega)]at hn;rw[jq yq h2]at q;exact aF (aW (λQ q=>aR (a:=ai) (b:=ah) (bH rfl) (λ_ Q q=>aR (a:=ah) (b:=ah) (λQ q=>hn Q q) (λz=>nomatch z) q) q) (aZ (aE q)))
 |_=>exact aF (aW (λQ q=>aR (a:=ah) (b:=ah) (λQ q=>cL (k:=ai) (λQ q=>aB (k:=ai) (λQ q=>q) q) q) (λz=>nomatch z) q) (aZ (aE q)))
theorem ne_str{s h:Str}{n:Int}{Q:DQ}(k:Q (.d (.bool (!eZ h (.str s)))) n):dM (.d (.str s)) (.d (.str h)) n Q:=k
theorem BK{W V:aM}{δ:Sl}{n:Int}{K:DEnds}{u v:DT}{b:Bool}(hu:∀Q:DQ,Q (.d (.bool b)) n->u δ n Q)(hv:∀Q:DQ,Q (.d (.bool b)) n->v δ n Q)(k:V δ n K):bb (cT (w2 (wB gU (ao u ak)) (wB gU (ao v ak)) dM)) W V δ n K:=by
 refine bh (λQ q=>aB (k:=ai) (λQ q=>ar (aU (hu _ ?_))) q) k;refine(show gU [.d (.bool b)] n _ from aU (hv _ ?_));refine(show gU [.d (.bool b)] n _ from ne_str ?_);have:eZ (if b then "True" else "False") (.str (if b then "True" else "False"))=ah:=by unfold eZ;exact decide_eq_true rfl
 rw[this];exact q
theorem ML{ds:List Ab}{r:Int}{v:Ab}{n:Int}{Q:DQ}(e:cM ds r=ae v)(k:Q (.d v) n):aY (.ln ds) (.d (.int r)) n Q:=by
 show match cM ds r with|some d=>Q (.d d) n|none=>False
 rw[e];exact k
theorem Nd{δ:Sl}{n:Int}{a b c d:DT}{Q:List Ab->Int->Prop}(k:a δ n λx n1=>b δ n1 λy n2=>c δ n2 λz n3=>d δ n3 λu n4=>match dw [x,y,z,u]with
  |some ds=>ds.length<=1000/\Q ds n4
  |none=>False):aN (ao a (ao b (ao c (ao d ak)))) δ n Q:=k
theorem lN{d:Ab}(h:hV d=ah){L k:Nat}:Th (L+60) k d/\Th 9 k d:=by
 unfold hV at h;rw[Ay]at h;cases d with
 |str x=>
  cases sN h.2 with
  |str _ a b=>exact⟨.str x a b,.str x a b⟩
 |int i=>
  have:(decide ((0:Int)<=i)&&decide (i<=99))=ah:=by
   have:=h.1;unfold bP at this;rw[Bool.or_eq_true]at this;exact this.elim (λz=>nomatch z) id
  rw[Ay]at this;have a:=of_decide_eq_true this.1;have b:=of_decide_eq_true this.2;exact⟨.int i (by show -(1000000000000000000000000000000+((L+60:Nat):Int))<=i;omega) (by show i<=1000000000000000000000000000000+((L+60:Nat):Int);omega),.int i (by show -(1000000000000000000000000000000+((9:Nat):Int))<=i;omega) (by show i<=1000000000000000000000000000000+((9:Nat):Int);omega)⟩
 |_=>cases h.1
theorem vz{row:List Ab}(h:fQ row):Th 9 1 (.tuple row):=.tuple (by have:=h.1.1;omega) λd hd=>(lN (L:=0) (h.2 d hd)).2
theorem yr{c:Co}(h:jH c):Th 9 2 (fg c):=.tuple (show 2<=9 by decide) λd hd=>by
 rcases Al.mp hd with rfl|hd
 ·exact vz h.1
 ·rw[A8.mp hd];exact h.2.mono (Aq _) ⋯
theorem mL{i L k:Nat}(h:i<=100):Th L k (.int (i:Int)):=.int _ (by show -(1000000000000000000000000000000+(L:Int))<=(i:Int);omega) (by show(i:Int)<=1000000000000000000000000000000+(L:Int);omega)
theorem Mo{P:List Bl}{h:Hn}(hP:P.length<=6)(wf:∀b∈P,gY b)(o:jd P h):Th 9 3 (cH (lp h)):=by
 obtain⟨b,hb,hp,_,hl,hq⟩:=o;have hb':=(Bo.mp hb).1;have:=(wf b (B6 hb)).2.2.1;refine .tuple (show 3<=9 by decide) λd hd=>?_;rcases Al.mp hd with rfl|hd
 ·exact mL ⋯
 rcases Al.mp hd with rfl|hd
 ·exact mL ⋯
 rw[A8.mp hd];refine .tuple (by rw[Ad];omega) λe he=>?_;obtain⟨q,hq',rfl⟩:=Bk.mp he;refine .tuple (show 2<=9 by decide) λx hx=>?_;rcases Al.mp hx with rfl|hx
 ·exact .str _ (B7 (n8 (hq q hq').1) ∎) (hq q hq').1.2.1
 ·rw[A8.mp hx];exact(lN (L:=0) (hq q hq').2).2
theorem GC{ps:Pg}{hs:List Hn}(hp:d5 ps)(h:kX ps hs):Th 9 4 (.tuple ((hs.map lp).map cH)):=by
 refine .tuple (by rw[Ad,Ad];have:=h.1;have:=hp.1;omega) λd hd=>?_;obtain⟨t,ht,rfl⟩:=Bk.mp hd;obtain⟨g,hg,rfl⟩:=Bk.mp ht;obtain⟨i,hi,e⟩:=Hg hg;have hi':i < ps.length:=by rw[<-h.1];exact hi
 have o:=h.2 i ps[i] g (Ah hi') (by rw[Ah hi,e]);have w:=hp.2 ps[i] (Ed hi');exact Mo w.2.1 w.2.2 o
theorem LA{ps:Pg}(h:kB ps):d5 ps:=⟨h.1,λP hP=>by
 obtain⟨a,b,c⟩:=h.2 P hP;exact⟨a,b,λbl hb=>⟨(c bl hb).1.1,(c bl hb).1.2.1,(c bl hb).1.2.2.1,(c bl hb).1.2.2.2.1⟩⟩⟩
def oV(ps:Pg)(ds:List Ab)(δ:Sl)(n:Int):Prop:=∃x3 x4 x5 x6 x7 x8 x9 x10:Option SV,δ=[af,ae (.w .tp),ae (.w (.d (cg ps))),x3,x4,x5,x6,x7,x8,x9,x10]/\n+600*(ds.length:Int)<=10000
abbrev pb:aM:=bb (cT (w2 (wB gU (ao (az lK (ao ↥2 (ao ↥10 ak))) ak)) (wB gU (ao (az nq (ao ↥2 (ao ↥10 ak))) ak)) dM)) (aw (wC (.bool ai))) aV
abbrev qU:aM:=aq (bb (cT (w2 ↥7 ⇑2 eF)) (aJ 10 (az (gp 20) (ao ↥1 (ao ↥10 ak)))) aV) (aq (bb (cT (w2 ↥7 ⇑3 eF)) (aJ 10 (az (gp 20) (ao ↥1 (ao ↥10 ak)))) aV) pb)
abbrev yu:aM:=aq (bb (cT (w2 ↥7 ⇑2 bJ)) (gH 6) aV) (aq (aJ 10 (aA (ao ↥4 (ao (wB eQ (ao (de 6) ak)) ak)))) qU)
theorem tL{ps:Pg}{d:Ab}{x3 x4 x5 x6 x7 x8 x9:Option SV}{n:Int}{K:DEnds}(hps:d5 ps)(ok:hG d)(k:K.nx [af,ae (.w .tp),ae (.w (.d (cg ps))),x3,x4,x5,x6,x7,x8,x9,ae (.w (.d d))] n):pb [af,ae (.w .tp),ae (.w (.d (cg ps))),x3,x4,x5,x6,x7,x8,x9,ae (.w (.d d))] n K:=
 BK (b:=jn ps d) (λQ q=>bK (au rfl (au rfl ⟨ps,d,rfl,hps,ok,q⟩))) (λQ q=>bK (au rfl (au rfl ⟨ps,d,rfl,hps,ok,q⟩))) k
theorem Mu{ps:Pg}{d:Ab}{x3 x4 x5 x6 x8 x9:Option SV}{n w:Int}{K:DEnds}(hps:d5 ps)(ht:Th 9 5 d)(hn:n+200 < 2 ^ 39)(k:∀(x10:Option SV) (n':Int),n'<=n+100->K.nx [af,ae (.w .tp),ae (.w (.d (cg ps))),x3,x4,x5,x6,ae (.w (.d (.int w))),x8,x9,x10] n'):qU [af,ae (.w .tp),ae (.w (.d (cg ps))),x3,x4,x5,x6,ae (.w (.d (.int w))),x8,x9,ae (.w (.d d))] n K:=by
 have last:∀(d':Ab)(n':Int)(K':DEnds),Th 10 7 d'->n'<=n+30->(∀δ m,K.nx δ m->K'.nx δ m)->(aq (bb (cT (w2 ↥7 ⇑3 eF)) (aJ 10 (az (gp 20) (ao ↥1 (ao ↥10 ak)))) aV) pb) [af,ae (.w .tp),ae (.w (.d (cg ps))),x3,x4,x5,x6,ae (.w (.d (.int w))),x8,x9,ae (.w (.d d'))] n' K':=λd' n' K' hd hn' hK=>by
  refine aF (jA rfl (λ_=>?_) λ_=>?_)
  ·refine(show aJ 10 _ _ _ _ from bK (au rfl (au rfl ⟨d',10,7,rfl,hd,by decide,by decide,by decide,by omega,λe m he hm=>?_⟩)));exact tL hps ⟨11,9,he,by decide,by decide⟩ (hK _ _ (k _ _ ⋯))
  ·exact tL hps ⟨10,7,hd,by decide,by decide⟩ (hK _ _ (k _ _ ⋯))
 refine aF (jA rfl (λ_=>?_) λ_=>?_)
 ·refine(show aJ 10 _ _ _ _ from bK (au rfl (au rfl ⟨d,9,5,rfl,ht,by decide,by decide,by decide,by omega,λe m he hm=>?_⟩)));exact last e m _ he ⋯ λ_ _ z=>z
 ·exact last d n _ (ht.mono ∎ ∎) ⋯ λ_ _ z=>z
theorem MK{ps:Pg}{hT:Ab}{ds:List Ab}{x3 x5 x8 x9 x10:Option SV}{n w:Int}{K:DEnds}(hps:d5 ps)(hh:Th 9 4 hT)(hl:ds.length<=7)(hd:∀d∈ds,Th 9 2 d)(hn:n+200 < 2 ^ 39)(k:∀(x6 x10:Option SV) (n':Int),n'<=n+100->K.nx [af,ae (.w .tp),ae (.w (.d (cg ps))),x3,ae (.w (.d hT)),x5,x6,ae (.w (.d (.int w))),x8,x9,x10] n'):yu [af,ae (.w .tp),ae (.w (.d (cg ps))),x3,ae (.w (.d hT)),x5,ae (.own ds),ae (.w (.d (.int w))),x8,x9,x10] n K:=by
 have mk:∀(ds:List Ab)(K':DEnds),ds.length<=7->(∀d∈ds,Th 9 2 d)->(∀δ m,K.nx δ m->K'.nx δ m)->(aq (aJ 10 (aA (ao ↥4 (ao (wB eQ (ao (de 6) ak)) ak)))) qU) [af,ae (.w .tp),ae (.w (.d (cg ps))),x3,ae (.w (.d hT)),x5,ae (.own ds),ae (.w (.d (.int w))),x8,x9,x10] n K':=λds K' hl hd hK=>by
  refine aF (hU (x:=.tuple [hT,.tuple ds]) (λQ q=>df (au rfl (aU (gv rfl (show eQ [.ln ds] n _ from Ak (show 2<=1000 by decide) q))))) ?_);dsimp only[Bg];refine Mu hps (.tuple (show 2<=9 by decide) λd hd'=>?_) hn λx10 n' hn'=>hK _ _ (k _ _ _ hn');rcases Al.mp hd' with rfl|hd'
  ·exact hh
  ·rw[A8.mp hd'];exact(Th.tuple (k:=2) ⋯ hd).mono (Aq _) ⋯
 refine aF (jb rfl (λ_=>?_) λ_=>?_)
 ·exact(show gH 6 _ _ _ from mk ds.reverse _ (by rw[Eo];exact hl) (λd hd'=>hd d (List.mem_reverse.mp hd')) λ_ _ z=>z)
 ·exact mk ds _ hl hd λ_ _ z=>z
abbrev Za:List Str:=["_law_script","_law_tape_here","_law_programs_here","_law_k","_law_hands","_law_notes_here","_law_counts_here","_law_way","_law_at","_law_other","_law_thing"]
theorem Jy:yI (af::ae (.w .tp)::D4 (List.length Za-2) af) 0 lawEnds:=by
 show yI [af,ae (.w .tp),af,af,af,af,af,af,af,af,af] 0 lawEnds;refine aF (show aJ 2 _ _ _ _ from bM (au rfl (Ak rfl ⟨by decide,λps n0 hpg hn0=>?_⟩)));have hps:=LA hpg;dsimp only[Bg];refine aF ?_;unfold br dC;refine aE (Ak ⟨by decide,by decide⟩ ?_);refine fR (oV ps) (λδ n I=>?_) (λd r δ n N I kN=>?_) _ _ _ ⟨af,af,af,af,af,af,af,af,rfl,by rw[eC];show n0+600*10<=10000;omega⟩
 ·obtain⟨x3,x4,x5,x6,x7,x8,x9,x10,rfl,hn⟩:=I;dsimp only;exact aZ (aE (show lawEnds.rt _ _ from rfl))
 ·obtain⟨x3,x4,x5,x6,x7,x8,x9,x10,rfl,hn⟩:=I;rw[Ax]at hn;dsimp only[aD,Bg];refine aF ?_;unfold d8;refine dH (au rfl (au rfl (aE (Du ps ⟨6,rfl,by decide,hps,by omega,λhs ns n1 hh hns hn1=>?_⟩))));refine Ak rfl ?_;dsimp only[bB,b6,aD,Bg];have th:=GC hps hh;generalize De ((hs.map lp).map cH)=hT at th;refine aF (show bu 6 _ _ _ _ from ?_);unfold bu l9;refine(show aj 1 _ _ _ from au rfl (au rfl ⟨ns,rfl,hns,by omega,λcs n2 hcl hco hn2=>?_⟩));dsimp only[Bg];refine aF (show aJ 7 _ _ _ _ from qc (m:=5) rfl ⋯ ∎ ∎ λw w0 w1=>?_);dsimp only[Bg];have fin:∀(ds:List Ab)(x8 x9:Option SV)(m:Int)(K:DEnds),ds.length<=7->(∀d∈ds,Th 9 2 d)->m<=n2+4->(∀δ n,N δ n->K.nx δ n)->yu [af,ae (.w .tp),ae (.w (.d (cg ps))),ae (.w (.d d)),ae (.w (.d hT)),ae (.w (.d (il ns))),ae (.own ds),ae (.w (.d (.int w))),x8,x9,x10] m K:=λds x8 x9 m K hl hd hm hK=>
   MK hps th hl hd ⋯ λx6 x10 n' hn'=>hK _ _ (kN _ _ ⟨_,_,_,_,_,_,_,_,rfl,by omega⟩)
  have hcd:∀d∈cs.map fg,Th 9 2 d:=λd hd=>by
   obtain⟨c,hc,rfl⟩:=Bk.mp hd;exact yr (hco c hc)
  have hdl:(cs.map fg).length<=6:=by rw[Ad];exact hcl
  by_cases hw1:w=1/\0 < cs.length
  ·have h0:0 < (cs.map fg).length:=by rw[Ad];exact hw1.2
   refine aF (aW (λQ q=>eU (a:=ah) (b:=ah) (λQ q=>aB (k:=ah) (λQ q=>ar (au rfl (aE (fL (by rw[decide_eq_true hw1.1];exact q))))) q) (λ_ Q q=>aB (k:=ah) (λQ q=>ar (aU (gv rfl (lQ (aE (nc (by rw[decide_eq_true (show(0:Int) < ((cs.map fg).length:Int) by omega)];exact q))))))) q) q) ?_);refine aF (show aJ 8 _ _ _ _ from rA (m:=((cs.map fg).length:Int)) rfl (λQ q=>aU (gv rfl (lQ q))) ⋯ ⋯ ⋯ λa a0 a1=>?_);dsimp only[Bg];obtain⟨v,hv,hvm⟩:=ni a0 a1;obtain⟨c,hc,rfl⟩:=Bk.mp hvm;have oc:=hco c hc;have hat:∀(n:Int)(Q:DQ),Q (.d (fg c)) n->w2 (de 6) ↥8 aY [af,ae (.w .tp),ae (.w (.d (cg ps))),ae (.w (.d d)),ae (.w (.d hT)),ae (.w (.d (il ns))),ae (.own (cs.map fg)),ae (.w (.d (.int w))),ae (.w (.d (.int a))),x9,x10] n Q:=λn Q q=>ar (gv rfl (au rfl (ML hv q)));have h0t:∀(n:Int)(Q:DQ),Q (.d (.tuple c.1)) n->w2 (w2 (de 6) ↥8 aY) ⇑0 aY [af,ae (.w .tp),ae (.w (.d (cg ps))),ae (.w (.d d)),ae (.w (.d hT)),ae (.w (.d (il ns))),ae (.own (cs.map fg)),ae (.w (.d (.int w))),ae (.w (.d (.int a))),x9,x10] n Q:=λn Q q=>ar (hat _ _ (aE q));have t1:=vz oc.1;have t2:∀k:Ab,Th 9 1 k->Th 9 2 (.tuple [.tuple c.1,k]):=λk hk=>.tuple (show 2<=9 by decide) λd hd=>by
    rcases Al.mp hd with rfl|hd
    ·exact t1
    ·rw[A8.mp hd];exact hk
   have t3:Th 9 2 (.tuple [c.2,.tuple c.1]):=.tuple (show 2<=9 by decide) λd hd=>by
    rcases Al.mp hd with rfl|hd
    ·exact oc.2.mono (Aq _) ⋯
    ·rw[A8.mp hd];exact t1
   refine aF (show aJ 9 _ _ _ _ from ar (a9 (Nd ?_)));unfold eV;refine hat _ _ (show aA _ _ _ _ from df (h0t _ _ (aE (Ak (show 2<=1000 by decide) (df (h0t _ _ (aE (Ak (show 2<=1000 by decide) (hat _ _ (Ak (show 4<=1000 by decide) ?_))))))))));refine qc (m:=4) rfl ⋯ ∎ ∎ λb b0 b1=>gO (ds:=[.tuple [c.2,.tuple c.1],.tuple [.tuple c.1,.int 0],.tuple [.tuple c.1,.int 7],fg c]) b0 b1 λf hf=>?_;have tf:Th 9 2 f:=by
    simp only[Al,A3,or_false]at hf;rcases hf with rfl|rfl|rfl|rfl
    ·exact t3
    ·exact t2 _ (mL (i:=0) ∎)
    ·exact t2 _ (mL (i:=7) ∎)
    ·exact yr oc
   dsimp only[Bg];refine(show gy 6 _ _ _ _ _ from ?_);unfold gy;refine(show az bC _ _ _ _ from rA (m:=((cs.map fg).length:Int)+1) rfl (λQ q=>ar (aU (gv rfl (lQ (aE (ji q)))))) ⋯ ⋯ ⋯ λg g0 g1=>au rfl ?_);refine Ak ⟨g0,by omega,by omega⟩ ?_;dsimp only[Bg];refine fin _ _ _ _ _ ?_ (λe he=>?_) ⋯ λ_ _ z=>z
   ·rw[Ao,Ax,C4,Dm];omega
   ·rcases A6.mp he with z|z
    ·exact hcd e (E6 z)
    ·rcases Al.mp z with rfl|z
     ·exact tf
     ·exact hcd e (List.mem_of_mem_drop z)
  ·have hno:∀Q:Bool->Int->Prop,Q ai (n2+1)->b9 (cT (w2 ↥7 ⇑1 bJ)) (cT (w2 (wB eB (ao (de 6) ak)) ⇑0 eF)) [af,ae (.w .tp),ae (.w (.d (cg ps))),ae (.w (.d d)),ae (.w (.d hT)),ae (.w (.d (il ns))),ae (.own (cs.map fg)),ae (.w (.d (.int w))),x8,x9,x10] (n2+1) Q:=λQ q=>by
    by_cases hw:w=1
    ·have hc0:¬(0:Int) < ((cs.map fg).length:Int):=λz=>hw1 ⟨hw,by rw[Ad]at z;omega⟩;exact eU (a:=ah) (b:=ai) (λQ q=>aB (k:=ah) (λQ q=>ar (au rfl (aE (fL (by rw[decide_eq_true hw];exact q))))) q) (λ_ Q q=>aB (k:=ai) (λQ q=>ar (aU (gv rfl (lQ (aE (nc (by rw[decide_eq_false hc0];exact q))))))) q) q
    ·exact eU (a:=ai) (b:=ah) (λQ q=>aB (k:=ai) (λQ q=>ar (au rfl (aE (fL (by rw[decide_eq_false hw];exact q))))) q) (λz=>nomatch z) q
   exact aF (bh hno (fin _ _ _ _ _ ⋯ hcd ⋯ λ_ _ z=>z))
end Nb
namespace Nb
open PySem L2
section
variable{P:Bn}{w:By}{K:Aj}{mg:Str->Option Ag}{base:Heap}
abbrev Zc:List Str:=["_law_script"]
theorem Lr:FnScope Zc Zc (cv zi):=⟨rfl,rfl,rfl,by decide +kernel,rfl,by decide +kernel,by decide +kernel⟩
theorem Mt{f:Addr}{fd:C7}(F:Fun K "_law_tape" "_law_tape" zi f fd):FnOk P w K mg base b5 1 f fd Zc (l6 K):=by
 refine F.ok Lr (λvs H Q E h=>?_) (λcdv A outer s H vs Q E hr h=>?_)
 ·obtain⟨a,ns,rfl,_⟩:=h;rfl
 ·obtain⟨a,ns,rfl,hS,hl,k⟩:=h;refine⟨_,jX (jT (pD (bY (wX LR (pv 0) vc (uP bV)) (bY bV (bY bV (bY (pD (bY nz (bY nz (bY nz (bY bV (bY bV (bY bV (bY bV dz)))))))) dz)))))),?_⟩;refine⟨_,rfl,_,rfl,a,_,rfl,hS,λp hp=>⟨lH (by simp),λg hg=>⟨lH (by simp),λq hq=>?_⟩⟩⟩;rw[GV (by rw[Ad];exact hl)]at hg hq ⊢;have hgp:g≠p:=λz=>by rw[z,bI]at hg;cases hg
  have hg0:H g=af:=by rw[aX hgp]at hg;exact hg
  have hqg:q≠g:=λz=>by rw[z,bI]at hq;cases hq
  rw[aX hqg]at hq;have hqp:q≠p:=λz=>by rw[z,bI]at hq;cases hq
  have hq0:H q=af:=by rw[aX hqp]at hq;exact hq
  refine k q ⟨p,g⟩ _ ⟨⟨0,0,bI,Int.le_refl _,Int.le_refl _⟩,by rw[aX hqp.symm,aX hgp.symm,bI],hl,(λz=>by rw[aX hqg.symm,bI];rfl),hqg.symm⟩ λb o e=>?_;rw[aX (b7 e hq0),aX (b7 e hg0),aX (b7 e hp)];exact e
abbrev Zh:List Str:=["_law_tape_here","_law_many"]
theorem scDraw:FnScope ["_law_tape_here","_law_many","_law_found","_law_spot","_law_cell","_law_mixed"] Zh (cv xN):=⟨rfl,rfl,rfl,by decide +kernel,rfl,by decide +kernel,by decide +kernel⟩
theorem FW{R:Prop}{G:Int->Prop}(use:(∀c,G c)->R)(fin:∀c,G c):R:=use fin
theorem MT{R G:Prop}(use:G->R)(fin:G):R:=use fin
theorem NJ{f:Addr}{fd:C7}(F:Fun K "_law_draw" "_law_draw" xN f fd)(zl:mg "len"=af):FnOk P w K mg base b5 1 f fd Zh ze:=by
 refine F.ok scDraw (λvs H Q E h=>?_) (λcdv A outer s H vs Q E hr h=>?_)
 ·obtain⟨t,l,ns,n,many,rfl,_⟩:=h;rfl
 ·obtain⟨t,l,ns,n,many,rfl,T,hn,hm0,hm1,k⟩:=h;obtain⟨a,b,ht,ha0,ha1⟩:=T.ob;have ntl:=T.ne;have hl:=T.ls;have hlen:=T.len;refine⟨_,gg (nJ (jZ op_gt (fY ix_list (pv 0) bV (λ_ _=>rfl)) bV (mG _))
    (gg (iY (i:=2) scDraw.nd rfl (Ea rfl) (dD i5 (fY ix_list (pv 0) bV (λ_ _=>rfl)) (pv 1)))
     (gg (mr (dD zu (fY ix_list (pv 0) bV (λ_ _=>rfl)) (pv 1)) (nt (pv 0) bV nE))
     (jX (jT (pv 2))))) mR)
   (gg (iY (i:=3) scDraw.nd rfl (Ea rfl) (fY ix_list (pv 0) bV (λ_ _=>rfl)))
   (gg (mr (dD op_add (pv 3) bV) (nt (pv 0) bV nE))
   (gg (iY (i:=4) scDraw.nd rfl (Ea rfl) bV)
   (gg (nJ (jZ op_gt (iX nZ (by rfl) zl PySem.boot_len (bY (fY ix_list (pv 0) bV (λ_ _=>rfl)) dz)) bV (mG _))
    (jX (iY (i:=4) scDraw.nd rfl (Ea rfl) (fY ix_list (fY ix_list (pv 0) bV (λ_ _=>rfl))
     (dD i5 (pv 3) (iX nZ (by rfl) zl PySem.boot_len (bY (fY ix_list (pv 0) bV (λ_ _=>rfl)) dz))) (λ_ _=>rfl)))) mR)
   (gg (nJ (PW.pt (uz (jZ op_ge (pv 4) (dD zx bV bV) (mG _))
     (wQ (jZ op_lt (pv 3) (iX nZ (by rfl) zl PySem.boot_len (bY (fY ix_list (pv 0) bV (λ_ _=>rfl)) dz)) (mG _)))))
    (gg (mr (dD zu (pv 4) (pv 1)) (nt (pv 0) bV nE)) (jX (jT (dD i5 (pv 4) (pv 1))))) mR)
   (gg (iY (i:=5) scDraw.nd rfl (Ea rfl) (dD i5 (dD ki (dD op_add (dD op_add (dD i5 (pv 4) bV) (dD ki (dD ki bV (pv 3)) (pv 3))) bV) bV) bV))
   (jX (jT (dD i5 (dD i5 (dD ki (dD i5 (dD op_add (dD ki (pv 5) bV) (dD ki (pv 3) bV)) bV) bV) bV) (pv 1)))))))))),?_⟩
  refine⟨_,rfl,t,_,2,_,rfl,rfl,SqL.of ht,eE (j:=2) rfl,_,_,rfl,rfl,_,rfl,?_⟩;refine gZ (λ_=>?_) (λ_=>?_)
  ·-- found=tape[2] % many;tape[2]=tape[2] // many;return found
   refine⟨_,rfl,t,_,2,_,rfl,rfl,SqL.of ht,eE (j:=2) rfl,_,rfl,_,_,rfl,rfl,hm0,?_⟩;refine⟨_,rfl,t,_,2,_,rfl,rfl,SqL.of ht,eE (j:=2) rfl,_,rfl,_,_,rfl,rfl,⟨hm0,hm1⟩,?_⟩;refine⟨_,rfl,t,_,2,2,rfl,rfl,ht,rfl,?_⟩;refine⟨_,rfl,?_⟩;refine k _ _ (Int.emod_nonneg _ ⋯) (Hu _ hm0) ⟨⟨a,b / many,bI,ha0,by omega⟩,by rw[aX ntl.symm];exact hl,hlen,(λz=>by rw[aX T.gne];exact T.ag z),T.gne⟩ Kp.tape
  ·-- spot=tape[1];tape[1]=spot+1;cell=0
   refine⟨_,rfl,t,_,1,_,rfl,rfl,SqL.of ht,eE (j:=1) rfl,?_⟩;refine⟨_,rfl,_,_,rfl,rfl,_,rfl,t,_,1,1,rfl,rfl,ht,rfl,?_⟩;have ht1:∀o,upd H t o t=ae o:=λo=>bI;have hl1:∀o,upd H t o l.s=ae (.lst (ns.map V.int)):=λo=>by rw[aX ntl.symm];exact hl
   generalize hH1:upd H t (.lst (((.ref l.s::.int a::.int b::ig l:List V)).set 1 (.int (a+1))))=H1;have g1:H1 t=ae (.lst (.ref l.s::.int (a+1)::.int b::ig l)):=by rw[<-hH1];exact bI
   have g2:H1 l.s=ae (.lst (ns.map V.int)):=by rw[<-hH1];exact hl1 _
   have g3:Kp t H H1:=by rw[<-hH1];exact Kp.tape
   have g4:lR=ah->H1 l.g=ae (.lst nA):=λz=>by rw[<-hH1,aX T.gne];exact T.ag z
   refine⟨_,rfl,t,_,0,_,rfl,rfl,SqL.of g1,eE (j:=0) rfl,l.s,_,rfl,.inl (SqL.of g2),_,_,rfl,rfl,_,rfl,?_⟩;apply FW
   case use=>
    intro fin;refine gZ (λhp=>?_) (λ_=>?_)
    ·have hpos:(0:Int) < ((ns.map V.int).length:Int):=of_decide_eq_true hp;obtain⟨v,hv,hm⟩:=HL (xs:=ns.map V.int) (r:=a % ((ns.map V.int).length:Int)) (Int.emod_nonneg _ ⋯) (Hu _ hpos);obtain⟨c,_,rfl⟩:=Bk.mp hm;refine⟨_,rfl,t,_,0,_,rfl,rfl,SqL.of g1,eE (j:=0) rfl,_,rfl,_,rfl,t,_,0,_,rfl,rfl,SqL.of g1,eE (j:=0) rfl,l.s,_,rfl,.inl (SqL.of g2),_,_,rfl,rfl,hpos,l.s,_,_,.int c,rfl,rfl,SqL.of g2,hv,?_⟩;exact fin c
    ·exact fin 0
   case fin=>
    intro c;refine⟨_,rfl,_,_,rfl,rfl,⟨by decide,by decide,by decide⟩,_,_,rfl,rfl,_,rfl,?_⟩;apply MT
    case use=>
     intro fin;refine gZ (λ_=>?_) (λ_=>?_)
     ·refine⟨_,rfl,_,rfl,t,_,0,_,rfl,rfl,SqL.of g1,eE (j:=0) rfl,l.s,_,rfl,.inl (SqL.of g2),_,_,rfl,rfl,_,rfl,?_⟩;refine gZ (λ_=>?_) (λ_=>fin);refine⟨_,rfl,_,rfl,_,_,rfl,rfl,⟨hm0,hm1⟩,_,rfl,t,_,2,2,rfl,rfl,g1,rfl,_,rfl,_,rfl,_,_,rfl,rfl,hm0,?_⟩;exact k _ _ (Int.emod_nonneg _ ⋯) (Hu _ hm0) ⟨⟨a+1,_,bI,by omega,by omega⟩,by rw[aX ntl.symm];exact g2,hlen,(λz=>by rw[aX T.gne];exact g4 z),T.gne⟩ (g3.trans Kp.tape)
     ·exact sH fin
    case fin=>
     refine⟨_,rfl,_,_,rfl,rfl,(by show(0:Int) < 999331;decide),_,rfl,_,_,rfl,rfl,.inl ⟨by decide,by decide⟩,_,rfl,_,_,rfl,rfl,.inl ⟨by omega,by omega⟩,_,_,rfl,rfl,_,_,rfl,rfl,_,_,rfl,rfl,.inr ⟨by decide,by decide⟩,_,_,rfl,rfl,(by show(0:Int) < 999961;decide),?_⟩;refine⟨_,rfl,_,_,rfl,rfl,.inr ⟨by decide,by decide⟩,_,rfl,_,_,rfl,rfl,.inr ⟨by decide,by decide⟩,_,_,rfl,rfl,_,_,rfl,rfl,(by show(0:Int) < 999953;decide),_,_,rfl,rfl,.inr ⟨by decide,by decide⟩,_,_,rfl,rfl,(by show(0:Int) < 524287;decide),_,rfl,_,_,rfl,rfl,hm0,?_⟩;exact k _ _ (Int.emod_nonneg _ ⋯) (Hu _ hm0) ⟨⟨a+1,b,g1,by omega,by omega⟩,g2,hlen,g4,T.gne⟩ g3
end
end Nb
namespace Nb
open PySem L2 DL
theorem Kq{α:Type}{us:List α}(h:us.length=1):∃a,us=[a]:=match us,h with|[a],_=>⟨a,rfl⟩
theorem K7{α:Type}{us:List α}(h:us.length=2):∃a b,us=[a,b]:=match us,h with|[a,b],_=>⟨a,b,rfl⟩
theorem ER{α:Type}{us:List α}(h:us.length=3):∃a b c,us=[a,b,c]:=match us,h with|[a,b,c],_=>⟨a,b,c,rfl⟩
theorem DY{α:Type}{us:List α}(h:us.length=4):∃a b c d,us=[a,b,c,d]:=match us,h with|[a,b,c,d],_=>⟨a,b,c,d,rfl⟩
theorem Jw{α:Type}{us:List α}(h:us.length=5):∃a b c d e,us=[a,b,c,d,e]:=match us,h with|[a,b,c,d,e],_=>⟨a,b,c,d,e,rfl⟩
theorem m9{N ps:List Str}{S:Fu}(h1:S.kind=.function:=by rfl)(h2:S.isCoroutine=ai:=by rfl)(h3:S.isGenerator=ai:=by rfl)(h4:N.Nodup:=by decide +kernel)(h5:N.take ps.length=ps:=by rfl)(h6:∀x∈ps,S.names.lookup x=ae .local\/S.names.lookup x=ae .cell:=by decide +kernel)(h7:∀y∈S.names,y.2≠.free:=by decide +kernel):FnScope N ps S:=⟨h1,h2,h3,h4,h5,h6,h7⟩
theorem pN{X:Cx}{e:Expr}{es:List Expr}{pos p:Pos}{tR:TA}{wR:dZ}{k k':Nat}{ps:List Str}{S:bx}{x:Str}(h:Has X.prog X.w X.K X.mg X.base k x ps S)(hr:Room k' X.A)(ha:DA X (e::es) tR wR)(hk:k<=k')(hg:Gl X x)(hdb:(x==("__debug__":Str))=ai)(he:Aw (e::es) X.env=(ai,eval e X.env)::Aw es X.env)(hpl:(D2 pos (Aw es X.env)).any (·.1)=ai):DE X (.Call (.Name x p) (e::es) [] pos) (gT (dt S) [] E0 tR) (az S wR):=O9 h (hr.mono hk) hg ha hdb he hpl
theorem qV{X:Cx}{e:Expr}{es:List Expr}{pos p:Pos}{tR:TA}{wR:dZ}{k k':Nat}{ps:List Str}{S:dS}{x:Str}(h:HasN X.prog X.w X.K X.mg X.base k x ps S)(hr:Room k' X.A)(ha:DA X (e::es) tR wR)(hk:k<=k')(hg:Gl X x)(hdb:(x==("__debug__":Str))=ai)(he:Aw (e::es) X.env=(ai,eval e X.env)::Aw es X.env)(hpl:(D2 pos (Aw es X.env)).any (·.1)=ai):DF X (.Call (.Name x p) (e::es) [] pos) (gT (jR S) [] E0 tR) (l9 S wR):=NQ h (hr.mono hk) hg ha hdb he hpl
def FO:NameKind->Bool
 |.local=>ah
 |_=>ai
def yZ:NameKind->Bool
 |.free=>ah
 |_=>ai
def mh(sc:Fu):List Str:=(sc.names.filter λy=>yZ y.2).map (·.1)
def cN(sc:Fu):List Str:=((sc.names.drop 1).filter λy=>FO y.2).map (·.1)++mh sc
def my(sc:Fu)(cells:List (Str×Addr)):List (Str×Addr):=(mh sc).reverse.map λx=>(x,(cells.lookup x).getD 0)
def nK(sc:Fu):List (Str×NameKind):=sc.names.map λy=>(y.1,bif yZ y.2 then .cell else y.2)
inductive Frs(X:Cx)(sc:Fu):List (Option Nat)->List Str->Prop
 |nil:Frs X sc [] []
 |own {f:List (Option Nat)} {x:Str} {N:List Str} (h:Frs X sc f N):Frs X sc (af::f) (x::N)
 |free {f:List (Option Nat)} {x:Str} {N:List Str} {i:Nat} (h1:X.N[i]?=ae x) (h2:fq X.env.scope x) (h3:X.env.kindOf x=ae .cell\/X.env.kindOf x=ae .free) (h4:(nK sc).lookup x=ae .cell\/(nK sc).lookup x=ae .free) (h5:(my sc X.env.cells).lookup x=X.env.cells.lookup x) (h:Frs X sc f N):Frs X sc (ae i::f) (x::N)
theorem Frs.len{X:Cx}{sc:Fu}{f:List (Option Nat)}{N:List Str}(h:Frs X sc f N):f.length=N.length:=by
 induction h with
 |nil=>rfl
 |own _ ih=>rw[Ax,Ax,ih]
 |free _ _ _ _ _ _ ih=>rw[Ax,Ax,ih]
theorem GI{X:Cx}{sc:Fu}{f:List (Option Nat)}(h1:closureFor sc X.env=pure (my sc X.env.cells))(h2:sc.kind=.function)(h3:∀y∈sc.names,y.2≠.cell)(h4:∀y∈sc.names,y.2=.local->sc.names.lookup y.1=ae .local)(h5:((mh sc).all λx=>(X.env.cells.lookup x).isSome)=ah)(h6:(relabel sc X.env).names=nK sc)(h7:∀y∈nK sc,(y.2=.cell\/y.2=.free)->y.1∈(mh sc).reverse)(h8:Frs X sc f (cN sc)):CompSc X (cN sc) sc (my sc X.env.cells) f:=by
 refine⟨h1,h2,h3,h4,GU λy hy=>?_,IH _ _ h6 (show(my sc X.env.cells).map (·.1)=(mh sc).reverse by unfold my;rw[Er];exact List.map_id' _) h7,h8.len,?_⟩
 ·obtain⟨x,hx,rfl⟩:=Bk.mp hy;obtain⟨c,hc⟩:=Hv.mp (Cq.mp h5 x (List.mem_reverse.mp hx));show X.env.cells.lookup x=ae ((X.env.cells.lookup x).getD 0);rw[hc];rfl
 ·intro j i h;rw[h6];clear h1 h2 h3 h4 h5 h6 h7;generalize cN sc=N at h8 ⊢
  induction h8 generalizing j with
  |nil=>cases h
  |own _ ih=>cases j with
   |zero=>cases h
   |succ j=>exact ih j h
  |free a b c d e _ ih=>cases j with
   |zero=>cases h;exact⟨_,rfl,a,b,c,d,e⟩
   |succ j=>exact ih j h
theorem Lb{X:Cx}{sc:Fu}{f:List (Option Nat)}{N:List Str}(h:Frs X sc f N):Frs X sc f N:=h
theorem kC{X:Cx}{N:List Str}{sc:Fu}{cl:List (Str×Addr)}{s:Ai}{H:Hp}{fp:List Addr}{K:Aj}(h:X.K=K):(cu X N sc cl s H fp).K=K:=h
theorem nC{X:Cx}{N:List Str}{sc:Fu}{cl:List (Str×Addr)}{s:Ai}{H:Hp}{fp:List Addr}(h:N.Nodup):(cu X N sc cl s H fp).N.Nodup:=h
def zL:List Str:=["all","bool","dict","int","isinstance","len","list","range","repr","set","sorted","str","tuple","zip"]
theorem zU{mg:Str->Option Ag}{x:Str}(z:∀x∈zL,mg x=af)(h:x∈zL):mg x=af:=z x h
theorem NY:Bx "set"=ae (.type "set"):=by decide +kernel
theorem OH:Bx "sorted"=ae (.builtin "sorted"):=by decide +kernel
section
variable{P:Bn}{w:By}{K:Aj}{mg:Str->Option Ag}{base:Heap}{fa:Addr}{fd:C7}
theorem AG{X:Cx}{e:Expr}{t:TE}{w:DT}(h:DE X e t w):DE X e t w:=h
theorem Pa{X:Cx}{e:List Expr}{t:TA}{w:dZ}(h:DA X e t w):DA X e t w:=h
theorem GO{X:Cx}{e:Stmt}{t:TS}{w:aM}(h:DS X e t w):DS X e t w:=h
theorem sy{X:Cx}{e:List Stmt}{t:TS}{w:aM}(h:DSs X e t w):DSs X e t w:=h
theorem BR{X:Cx}{e:Expr}{t:TT}{w:cj}(h:DC X e t w):DC X e t w:=h
theorem Mv{X:Cx}{e:Expr}{t:TE}{w:dX}(h:DF X e t w):DF X e t w:=h
theorem JQ{X:Cx}{g e:Expr}{t:TI}{w:fw}(h:DI X g e t w):DI X g e t w:=h
theorem GZ{X:Cx}{b rest:List Stmt}{st:Stmt}{T:TS}{W:aM}(e:b=st::rest)(h:DSs X (st::rest) T W):DSs X b T W:=e▸h
theorem mz{x:Str}{st:Stmt}{ps:List Str}(F:Fun K x x st fa fd)(h:∀(kV doc pm:Ag) (an:Option Addr) (cdv ct:Ag) (us:List Ag),us.length=ps.length->bindArgs (F0 x x (jK st) (fh st) (cv st) .none kV doc pm an cdv ct) ⟨us,[]⟩=pure (ps.zip us):=by
 intro _ _ _ _ _ _ us hl
 first
  |obtain⟨_,rfl⟩:=Kq hl;rfl
  |obtain⟨_,_,rfl⟩:=K7 hl;rfl
  |obtain⟨_,_,_,rfl⟩:=ER hl;rfl
  |obtain⟨_,_,_,_,rfl⟩:=DY hl;rfl
  |obtain⟨_,_,_,_,_,rfl⟩:=Jw hl;rfl):Binds K fd ps []:=F.binds h
def rl(x:Str)(st:Stmt)(ps:List Str):Prop:=∀{K:Aj}{fa:Addr}{fd:C7},Fun K x x st fa fd->Binds K fd ps []
def gi(P:Bn)(w:By)(K:Aj)(mg:Str->Option Ag)(base:Heap)(k:Nat)(x:Str)(i:Nat)(fa:Addr)(N:List Str)(b:List Stmt)(W:aM):Prop:=N.Nodup->∀(cdv:Ag)(A:Bt)(outer:List Env)(s:Ai)(H:Hp)(E:XK),Room k (A.deeper (E3 x (cv (cG i)) s.heap.objs.size fa cdv))->∃T,DSs (c7 b5 P w K mg base N x (cv (cG i)) fa cdv A outer s H E).nox b T W
theorem oj{k:Nat}{x:Str}{i:Nat}{N:List Str}{b:List Stmt}{W:aM}(h:N.Nodup->∀(cdv:Ag) (A:Bt) (outer:List Env) (s:Ai) (H:Hp) (E:XK),Room k (A.deeper (E3 x (cv (cG i)) s.heap.objs.size fa cdv))->∃T,DSs (c7 b5 P w K mg base N x (cv (cG i)) fa cdv A outer s H E).nox b T W:=by
 intro nd cdv A outer s H E hr;apply Du;apply GZ (by exact rfl)
 repeat' first
  |with_reducible first|exact Ly|exact FJ|exact Jt|exact Jp|exact uH|exact PySem.boot_len|exact pq|exact PyProof.Rows.boot_range|exact CZ|exact NY|exact OH|exact Nr|exact Ow
  |with_reducible first|apply Room.units|apply Room.units0|apply Room.hd|apply Room.gd
  |exact rfl
  |exact Ea rfl
  |exact C6 (Ea rfl)
  |exact C6 (C6 rfl)
  |exact C6 rfl
  | (with_reducible apply AG;with_reducible first|apply AI|apply IU|apply pN|apply MG|apply LC|apply Nz|apply CO|apply IL|apply mX (yk ?_) tK ?_ ?_ ?_ ?_ ?_ ?_ ?_ ?_|apply Jh|apply ph|apply mX (EO ?_) NG ?_ ?_ ?_ ?_ ?_ ?_ ?_ ?_|apply Lp|apply mX (yk ?_) DJ ?_ ?_ ?_ ?_ ?_ ?_ ?_ ?_|apply OQ|apply AM|apply m4 (wU ?_) JA ?_ ?_ ?_ ?_ ?_ ?_ ?_ ?_|apply Iu nI nV nI nV ?_ ?_ ?_ ?_|apply II|apply m4 (wU ?_) uT ?_ ?_ ?_ ?_ ?_ ?_ ?_ ?_|apply JF|apply iO (pQ ?_ ?_) pB|apply IA|apply ql|apply Ks|apply IP|apply Lh|apply N2|apply iO Nh CW|apply iO (AR ?_ ?_) ud|apply KW|apply JB|apply HN|apply mX CM MB ?_ ?_ ?_ ?_ ?_ ?_ ?_ ?_|apply L8|apply iO (N6 ?_ ?_) ud|apply iO xP uS|apply iO Oe Ka|apply iO vm wN|apply iO KQ Mc|apply m4 (vF ?_) Kt ?_ ?_ ?_ ?_ ?_ ?_ ?_ ?_|apply m4 Jb Pc ?_ ?_ ?_ ?_ ?_ ?_ ?_ ?_|apply Jm|apply DF.d)
  | (with_reducible apply Pa;with_reducible first|apply Na|apply M0)
  | ((with_reducible apply GO);first|((with_reducible apply JK);case hx=>exact rfl)|((with_reducible apply JW);case hx=>exact rfl)|with_reducible first|apply IK|apply sL|apply HB|apply L3|apply JZ|apply Ou|apply Lm|apply IT|apply JG|apply ND|apply K0|apply KU|apply Ie)
  | (with_reducible apply sy;with_reducible first|apply Kc|apply BC|apply DW|apply IW)
  | ((with_reducible apply BR);first|(with_reducible apply DCW.cc;with_reducible first|apply cw_and|apply cw_or)|with_reducible first|apply KR|apply iW (pQ ?_ ?_) M7|apply iW MQ HW|apply iW vm wN|apply iW xP uS|apply iW (pQ ?_ ?_) pB|apply iW (IX ?_) DM|apply Ml|apply iW (wV ?_) lU|apply iW J5 OD|apply O6 nI nV nI nV ?_ ?_ ?_ ?_|apply Oi)
  | (with_reducible apply Mv;with_reducible first|apply LJ|apply rQ|apply KC|apply BF|apply HC|apply qV|apply Og)
  | (with_reducible apply JQ;with_reducible first|apply Oy|apply OP|apply Ic|apply KO|apply CN|apply J2)
  |with_reducible first|apply J7|apply IF|apply su|apply cw_or|apply Lc|apply cw_or1|apply BU|apply Jz|apply GB|apply Md|apply cw_and|apply cw_and1|apply Jv|apply L5|apply GI
  |assumption
  |with_reducible first|apply kC|apply nC
  | ((with_reducible apply Lb);first|apply Frs.nil|apply Frs.own|apply Frs.free)
  |exact mG _
  |exact λ_ _=>rfl
  |exact λ_=>rfl
  |exact zU (by assumption) ∅
  |exact PassesOwn.never
  |exact⟨rfl,rfl,rfl,rfl⟩
  |with_unfolding_all rfl
  |decide
  |decide +kernel
  |omega
  |exact C6 (C6 (Ea rfl))
  |exact C6 (C6 (C6 (Ea rfl)))
  |exact C6 (C6 (C6 (C6 rfl)))
  |intro(_:Ai) _ _
  |exact(0:Int)):gi P w K mg base k x i fa N b W:=h
theorem aQ{i:Nat}{N:List Str}{S:bx}{W:aM}(k p:Nat)(x:Str)(F:Fun K x x (cG i) fa fd/\mg x=ae (.ref fa))(body:cq S W N)(len:∀ws n Q,S ws n Q->ws.length=p:=by(intro _ _ _ h;(repeat obtain⟨_,h⟩:=h);subst_vars;rfl))(hp:(N.take p).length=p:=by rfl)(Sc:FnScope N (N.take p) (cv (cG i)):=by exact m9)(b:rl x (cG i) (N.take p):=by intro _ _ _ F;exact mz F)
  (h:gi P w K mg base k x i fa N (fh (cG i)) W:=by exact oj):Has P w K mg base (k+1) x (N.take p) S:=
 Has.mk' F.1 F.2 (b F.1) (Fun.okD F.1 Sc (λws n Q q=>by rw[hp];exact len ws n Q q) λcdv A outer s H E hr=>(h Sc.nd cdv A outer s H E hr).elim λT d=>⟨T,W,d,body⟩)
theorem qC{i:Nat}{N:List Str}{S:dS}{W:aM}(k p:Nat)(x:Str)(F:Fun K x x (cG i) fa fd/\mg x=ae (.ref fa))(body:∀ws n Q,S ws n Q->W (dh N ws) n {nx:=λ_ _=>False,rt:=λ_ _=>False,rn:=Q})(len:∀ws n Q,S ws n Q->ws.length=p:=by(intro _ _ _ h;(repeat obtain⟨_,h⟩:=h);subst_vars;rfl))(hp:(N.take p).length=p:=by rfl)(Sc:FnScope N (N.take p) (cv (cG i)):=by exact m9)(b:rl x (cG i) (N.take p):=by intro _ _ _ F;exact mz F)
  (h:gi P w K mg base k x i fa N (fh (cG i)) W:=by exact oj):HasN P w K mg base (k+1) x (N.take p) S:=
 HasN.mk' F.1 F.2 (b F.1) (Fun.okN F.1 Sc (λws n Q q=>by rw[hp];exact len ws n Q q) λcdv A outer s H E hr=>(h Sc.nd cdv A outer s H E hr).elim λT d=>⟨T,W,d,body⟩)
theorem rz{i p:Nat}{N:List Str}{S:Nat->bx}{W:bx->aM}(c0:Nat)(x:Str)(F:Fun K x x (cG i) fa fd/\mg x=ae (.ref fa))(len:∀d ws n Q,S d ws n Q->ws.length=p)(z:∀ws n Q,¬S 0 ws n Q)(body:∀d ws n Q,S (d+1) ws n Q->W (S d) (dh N ws) n {nx:=λ_ n=>Q (.d .none) n,rt:=Q})(D:Nat)(hp:(N.take p).length=p:=by rfl)(Sc:FnScope N (N.take p) (cv (cG i)):=by exact m9)(b:rl x (cG i) (N.take p):=by intro _ _ _ F;exact mz F)
  (h:∀k d:Nat,c0<=k->Has P w K mg base k x (N.take p) (S d)->gi P w K mg base k x i fa N (fh (cG i)) (W (S d)):=by intro k d hk hS;exact oj):Has P w K mg base (c0+D) x (N.take p) (S D):=by
 induction D with
 |zero=>exact Has.mk' F.1 F.2 (b F.1) ⟨λvs H Q E h=>(by obtain⟨_,_,_,_,_,_,_,_,_,_,_,q,_⟩:=h;exact absurd q (z _ _ _)),λA outer s H args us vs Q E hr he hb hv h=>(by obtain⟨_,_,_,_,_,_,_,_,_,_,_,q,_⟩:=h;exact absurd q (z _ _ _))⟩
 |succ d ih=>exact Has.mk' F.1 F.2 (b F.1) (Fun.okD F.1 Sc (λws n Q q=>by rw[hp];exact len (d+1) ws n Q q) λcdv A outer s H E hr=>(h (c0+d) d (Nat.le_add_right _ _) ih Sc.nd cdv A outer s H E hr).elim λT e=>⟨T,W (S d),e,body d⟩)
theorem Ny{fT:Addr}{fdT:C7}{i:Nat}{N:List Str}{W:aM}{s0:Stmt}{rest:List Stmt}(k:Nat)(F:Fun K "law" "law" (cG i) fa fd)(GT:FnOk P w K mg base b5 1 fT fdT Zc (l6 K))(bT:Binds K fdT Zc [])(mT:mg "_law_tape"=ae (.ref fT))(kT:Di K (.ref fT)=ah)(hW:W (af::ae (.w .tp)::D4 (N.length-2) af) 0 lawEnds)(e:fh (cG i)=s0::rest)(h0:N.Nodup->∀(cdv:Ag) (A:Bt) (outer:List Env) (s:Ai) (H:Hp) (E:XK),Room k (A.deeper (E3 "law" (cv (cG i)) s.heap.objs.size fa cdv))->PS (c7 b5 P w K mg base N "law" (cv (cG i)) fa cdv A outer s H E).nox s0 (c6 (gT (l6 K) [] E0 (c9 (dc 0) bF)) (gc 1)))(hN:∀v,start N [v]=ae v::af::D4 (N.length-2) af:=by intro _;rfl)(Sc:FnScope N Zc (cv (cG i)):=by exact m9)
  (h:gi P w K mg base k "law" i fa N rest W:=by exact oj):FnOk P w K mg base b5 (k+1) fa fd Zc (DL.spLaw K):=
 ON F Sc GT bT mT kT hN hW λcdv A outer s H E hr=>(h Sc.nd cdv A outer s H E hr).elim λT d=>⟨s0,rest,T,e,h0 Sc.nd cdv A outer s H E hr,d⟩
end
theorem zE(P:Params):(zL.map λx=>PySem.W.nsIn (KK P) Eb x)=zL.map λ_=>ae af:=by kernel_rfl
section
variable{P:Params}{h:Heap}{mg:Str->Option Ag}(X:(KK P).In h)(G:h.Ns Eb mg)
include X G
theorem vS(j:Nat)(d:Ds)(e:dL[j]?=ae d):(Fun (KK P) d.x d.x (cG d.i) d.f (jw d)/\mg d.x=ae (.ref d.f))/\Di (KK P) (.ref d.f)=ah:=by
 have q:=xq (Mq P) e;obtain⟨q1,q2⟩:=Prod.mk.inj q;obtain⟨q2,q3⟩:=Prod.mk.inj q2;have k:Di (KK P) (.ref d.f)=ah:=by
  unfold Di;simp only[q2]
 exact⟨⟨Lz q2 q3 k,F8 X G q1⟩,k⟩
theorem zK(x:Str)(h:x∈zL):mg x=af:=by
 obtain⟨j,e⟩:=List.mem_iff_getElem?.mp h;exact PySem.W.mg_none_of X G (xq (zE P) e)
end
abbrev pR:Bn:=PySem.W.OpenLaw.prog PySem.Challenge.rw_noteboard_k46_entries_judged
structure Cv where
 P:Bn
 w:By
 K:Aj
 mg:Str->Option Ag
 base:Heap
abbrev eX(c:Cv):Prop:=Has c.P c.w c.K c.mg c.base 1 "_law_draw" Zh bC
abbrev k8(c:Cv):Prop:=Has c.P c.w c.K c.mg c.base 1 "is_whole" Zb (a8 gh)
abbrev qB(c:Cv):Prop:=Has c.P c.w c.K c.mg c.base 1 "is_letters" ["thing","longest"] jE
abbrev t7(c:Cv):Prop:=Has c.P c.w c.K c.mg c.base 2 "is_word" Zb (a8 (bq 8))
abbrev yE(c:Cv):Prop:=Has c.P c.w c.K c.mg c.base 2 "is_number" Zb (a8 fH)
abbrev rL(c:Cv):Prop:=Has c.P c.w c.K c.mg c.base 3 "is_value" Zb (a8 bP)
abbrev yK(c:Cv):Prop:=Has c.P c.w c.K c.mg c.base 2 "is_name" Zb (a8 (bq 4))
abbrev qi(c:Cv):Prop:=Has c.P c.w c.K c.mg c.base 4 "is_row" Zb (a8 bG)
abbrev yA(c:Cv):Prop:=Has c.P c.w c.K c.mg c.base 2 "is_age" Zb (a8 fP)
abbrev uw(c:Cv):Prop:=Has c.P c.w c.K c.mg c.base 5 "is_note" Zb (a8 fB)
abbrev xx(c:Cv):Prop:=Has c.P c.w c.K c.mg c.base 1 "value_key" ["value"] oU
abbrev xD(c:Cv):Prop:=Has c.P c.w c.K c.mg c.base 2 "row_key" ["row"] mf
abbrev wG(c:Cv):Prop:=Has c.P c.w c.K c.mg c.base 3 "ahead" ["one","other"] mV
abbrev ur(c:Cv):Prop:=Has c.P c.w c.K c.mg c.base 1 "binds" ["pattern"] k7
abbrev t5(c:Cv):Prop:=Has c.P c.w c.K c.mg c.base 2 "known_at" ["program","block","place"] qe
abbrev xG(c:Cv):Prop:=Has c.P c.w c.K c.mg c.base 4 "is_named_value" Zb (a8 dP)
abbrev t6(c:Cv):Prop:=Has c.P c.w c.K c.mg c.base 5 "is_names" Zb (a8 dA)
abbrev uB(c:Cv):Prop:=Has c.P c.w c.K c.mg c.base 1 "has_hands_form" Zb (a8 gW)
abbrev zM(c:Cv):Prop:=Has c.P c.w c.K c.mg c.base 2 "has_stand_form" Zb (a8 fF)
abbrev yg(c:Cv):Prop:=Has c.P c.w c.K c.mg c.base 2 "is_within" ["thing","most"] ng
abbrev vN(c:Cv):Prop:=Has c.P c.w c.K c.mg c.base 3 "is_placed" ["program","hand"] m7
abbrev uj(c:Cv):Prop:=Has c.P c.w c.K c.mg c.base 6 "has_known_names" ["program","hand"] mN
abbrev yt(c:Cv):Prop:=Has c.P c.w c.K c.mg c.base 7 "fault_of" ["programs","thing"] qm
abbrev yb(c:Cv):Prop:=Has c.P c.w c.K c.mg c.base 2 "is_many" Zb (a8 fi)
abbrev zp(c:Cv):Prop:=Has c.P c.w c.K c.mg c.base 5 "is_count" Zb ku
abbrev vT(c:Cv):Prop:=Has c.P c.w c.K c.mg c.base 6 "is_counts" Zb rT
abbrev ve(c:Cv):Prop:=Has c.P c.w c.K c.mg c.base 8 "is_entry" ["programs","thing"] lK
abbrev kl(c:Cv):Prop:=Has c.P c.w c.K c.mg c.base 2 "_law_value" Zf gV
abbrev mK(c:Cv):Prop:=Has c.P c.w c.K c.mg c.base 2 "_law_size" Zf j9
abbrev sW(c:Cv):Prop:=Has c.P c.w c.K c.mg c.base 3 "_law_pattern" Ze rp
abbrev vK(c:Cv):Prop:=Has c.P c.w c.K c.mg c.base 3 "_law_template" Ze oZ
abbrev xy(c:Cv):Prop:=Has c.P c.w c.K c.mg c.base 3 "_law_term" Ze mY
abbrev xY(c:Cv):Prop:=Has c.P c.w c.K c.mg c.base 4 "_law_act" ["_law_tape_here","_law_known_here","_law_open_ones"] lJ
abbrev yQ(c:Cv):Prop:=Has c.P c.w c.K c.mg c.base 5 "_law_program" Zf pA
abbrev vw(c:Cv):Prop:=Has c.P c.w c.K c.mg c.base 3 "_law_notes" ["_law_tape_here","_law_most"] rS
abbrev xI(c:Cv):Prop:=Has c.P c.w c.K c.mg c.base 6 "_law_programs" Zf sk
abbrev sI(c:Cv):Prop:=Has c.P c.w c.K c.mg c.base 1 "_law_known" ["_law_program_here","_law_block","_law_place"] nM
abbrev vA(c:Cv):Prop:=Has c.P c.w c.K c.mg c.base 4 "_law_stand" ["_law_tape_here","_law_programs_here","_law_most"] rJ
abbrev sT(c:Cv):Prop:=Has c.P c.w c.K c.mg c.base 2 "_law_odd" Zf jx
abbrev vg(c:Cv):Prop:=Has c.P c.w c.K c.mg c.base 23 "_law_bent" ["_law_tape_here","_law_thing"] (gp 20)
abbrev zt(c:Cv):Prop:=Has c.P c.w c.K c.mg c.base 1 "_law_is_text" ["_law_thing","_law_most"] mM
abbrev nF(c:Cv):Prop:=Has c.P c.w c.K c.mg c.base 1 "_law_is_whole" ["_law_thing","_law_least","_law_most"] gG
abbrev pG(c:Cv):Prop:=Has c.P c.w c.K c.mg c.base 2 "_law_is_row" ["_law_thing"] iD
abbrev sP(c:Cv):Prop:=Has c.P c.w c.K c.mg c.base 3 "_law_is_hand" ["_law_program_here","_law_thing"] oK
abbrev wL(c:Cv):Prop:=Has c.P c.w c.K c.mg c.base 4 "_law_are_hands" Zg oi
abbrev rV(c:Cv):Prop:=Has c.P c.w c.K c.mg c.base 1 "_law_key" ["_law_row"] n9
abbrev uk(c:Cv):Prop:=HasN c.P c.w c.K c.mg c.base 4 "_law_counts" ["_law_tape_here","_law_notes_here"] pJ
abbrev zZ(c:Cv):Prop:=Has c.P c.w c.K c.mg c.base 5 "_law_is_entry" Zg nq
section
variable{c:Cv}(F:∀(j:Nat) (d:Ds),dL[j]?=ae d->(Fun c.K d.x d.x (cG d.i) d.f (jw d)/\c.mg d.x=ae (.ref d.f))/\Di c.K (.ref d.f)=ah)(z:∀x∈zL,c.mg x=af)(u0:c.mg "GREATEST_AGE"=ae (.int 20 197))(u1:c.mg "GREATEST_NUMBER"=ae (.int 99 195))(u2:c.mg "LONGEST_NAME"=ae (.int 4 191))(u3:c.mg "LONGEST_ROW"=ae (.int 4 193))(u4:c.mg "LONGEST_WORD"=ae (.int 8 189))(u5:c.mg "GETTING"=ae (.ref 98))(u6:∀H,SqT c.K H 98 ((Zd:List Str).map V.str))
include F z u0 u1 u2 u3 u4 u5 u6
theorem GJ:eX c:=Has.mk' (F 27 _ rfl).1.1 (F 27 _ rfl).1.2 (mz (F 27 _ rfl).1.1) (Kg (NJ (F 27 _ rfl).1.1 (zU z ∅)))
theorem KI:k8 c:=aQ (i:=6) 0 1 "is_whole" (F 0 _ rfl).1 (len:=IS) LH
theorem MW:qB c:=aQ (i:=7) 0 2 "is_letters" (F 1 _ rfl).1 (len:=HY) O8
theorem BB(h0:qB c):t7 c:=aQ (i:=8) 1 1 "is_word" (F 2 _ rfl).1 (len:=HZ) Lx
theorem Jd(h0:k8 c):yE c:=aQ (i:=9) 1 1 "is_number" (F 3 _ rfl).1 (len:=N5) HM
theorem DV(h0:yE c)(h1:t7 c):rL c:=aQ (i:=10) 2 1 "is_value" (F 4 _ rfl).1 (len:=IY) Nc
theorem J0(h0:qB c):yK c:=aQ (i:=11) 1 1 "is_name" (F 5 _ rfl).1 (len:=Ij) LN
theorem HD(h0:rL c):qi c:=aQ (i:=12) 3 1 "is_row" (F 6 _ rfl).1 (len:=HP) Ke
theorem Mb(h0:k8 c):yA c:=aQ (i:=13) 1 1 "is_age" (F 7 _ rfl).1 (len:=LL) LX
theorem Im(h0:yA c)(h1:qi c):uw c:=aQ (i:=14) 4 1 "is_note" (F 8 _ rfl).1 (len:=NT) Ov
theorem LY:xx c:=aQ (i:=15) 0 1 "value_key" (F 9 _ rfl).1 OB
theorem FG(h0:xx c):xD c:=aQ (i:=16) 1 1 "row_key" (F 10 _ rfl).1 Ja
theorem Np(h0:xD c):wG c:=aQ (i:=17) 2 2 "ahead" (F 11 _ rfl).1 Mn
theorem N4:ur c:=aQ (i:=19) 0 1 "binds" (F 12 _ rfl).1 HF
theorem Jg(h0:ur c):t5 c:=aQ (i:=22) 1 3 "known_at" (F 13 _ rfl).1 LU
theorem LF(h0:yK c)(h1:rL c):xG c:=aQ (i:=24) 3 1 "is_named_value" (F 14 _ rfl).1 (len:=FD) MH
theorem OF(h0:xG c):t6 c:=aQ (i:=25) 4 1 "is_names" (F 15 _ rfl).1 (len:=Pe) JI
theorem K5:uB c:=aQ (i:=26) 0 1 "has_hands_form" (F 16 _ rfl).1 (len:=Jo) Lq
theorem MP(h0:uB c):zM c:=aQ (i:=27) 1 1 "has_stand_form" (F 17 _ rfl).1 (len:=Jj) K6
theorem EM(h0:k8 c):yg c:=aQ (i:=28) 1 2 "is_within" (F 18 _ rfl).1 KA
theorem FK(h0:yg c):vN c:=aQ (i:=29) 2 2 "is_placed" (F 19 _ rfl).1 J8
theorem FF(h0:t6 c)(h1:t5 c):uj c:=aQ (i:=30) 5 2 "has_known_names" (F 20 _ rfl).1 CL
theorem Oq(h0:uj c)(h1:zM c)(h2:uw c)(h3:vN c):yt c:=aQ (i:=31) 6 2 "fault_of" (F 21 _ rfl).1 ED
theorem DO(h0:k8 c):yb c:=aQ (i:=33) 1 1 "is_many" (F 22 _ rfl).1 (len:=BS) My
theorem Me(h0:yb c)(h1:qi c):zp c:=aQ (i:=34) 4 1 "is_count" (F 23 _ rfl).1 (len:=Hy) MS
theorem N0(h0:wG c)(h1:zp c):vT c:=aQ (i:=35) 5 1 "is_counts" (F 24 _ rfl).1 L1
theorem OG(h0:yt c)(h1:vT c):ve c:=aQ (i:=36) 7 2 "is_entry" (F 25 _ rfl).1 Jn
theorem GP(h0:eX c):kl c:=aQ (i:=40) 1 1 "_law_value" (F 28 _ rfl).1 Ot
theorem Io(h0:eX c):mK c:=aQ (i:=41) 1 1 "_law_size" (F 29 _ rfl).1 Jr
theorem BE(h0:eX c)(h1:mK c)(h2:kl c):sW c:=aQ (i:=42) 2 2 "_law_pattern" (F 30 _ rfl).1 GD
theorem FC(h0:eX c)(h1:mK c)(h2:kl c):vK c:=aQ (i:=43) 2 2 "_law_template" (F 31 _ rfl).1 Ol
theorem Iq(h0:eX c)(h1:kl c):xy c:=aQ (i:=44) 2 2 "_law_term" (F 32 _ rfl).1 Lg
theorem NX(h0:eX c)(h1:sW c)(h2:vK c)(h3:xy c):xY c:=aQ (i:=45) 3 3 "_law_act" (F 33 _ rfl).1 M1
theorem Mi(h0:xY c)(h1:eX c):yQ c:=aQ (i:=46) 4 1 "_law_program" (F 34 _ rfl).1 OZ
theorem Of(h0:eX c)(h1:mK c)(h2:kl c):vw c:=aQ (i:=47) 2 2 "_law_notes" (F 35 _ rfl).1 OT
theorem Kx(h0:eX c)(h1:yQ c):xI c:=aQ (i:=48) 5 1 "_law_programs" (F 36 _ rfl).1 Kv
theorem Nu:sI c:=aQ (i:=49) 0 3 "_law_known" (F 37 _ rfl).1 L4
theorem JY(h0:eX c)(h1:sI c)(h2:vw c)(h3:kl c):vA c:=aQ (i:=50) 3 3 "_law_stand" (F 38 _ rfl).1 MX
theorem NH(h0:eX c):sT c:=aQ (i:=51) 1 1 "_law_odd" (F 39 _ rfl).1 Ll
theorem HK(h0:eX c)(h1:sT c):vg c:=rz (S:=gp) (i:=52) 3 "_law_bent" (F 40 _ rfl).1 LV (λ_ _ _ h=>h) JU 20
theorem O4:zt c:=aQ (i:=53) 0 2 "_law_is_text" (F 41 _ rfl).1 BV
theorem LQ:nF c:=aQ (i:=54) 0 3 "_law_is_whole" (F 42 _ rfl).1 NA
theorem M4(h0:zt c)(h1:nF c):pG c:=aQ (i:=55) 1 1 "_law_is_row" (F 43 _ rfl).1 (len:=LB) BI
theorem M9(h0:pG c)(h1:nF c)(h2:sI c):sP c:=aQ (i:=56) 2 2 "_law_is_hand" (F 44 _ rfl).1 FR
theorem Lv(h0:sP c):wL c:=aQ (i:=57) 3 2 "_law_are_hands" (F 45 _ rfl).1 Pd
theorem Nm:rV c:=aQ (i:=58) 0 1 "_law_key" (F 46 _ rfl).1 LO
theorem EK(h0:eX c)(h1:rV c):uk c:=qC (i:=59) 3 2 "_law_counts" (F 47 _ rfl).1 JM
theorem BD(h0:wL c)(h1:pG c)(h2:nF c)(h3:rV c):zZ c:=aQ (i:=60) 4 2 "_law_is_entry" (F 48 _ rfl).1 OC
theorem HJ(h0:vg c)(h1:uk c)(h2:eX c)(h3:zZ c)(h4:xI c)(h5:vA c)(h6:ve c):FnOk c.P c.w c.K c.mg c.base b5 24 (Ds.f ⟨61,"law",574,256,1,317,ah,588,5⟩) (jw ⟨61,"law",574,256,1,317,ah,588,5⟩) Zc (DL.spLaw c.K):=by
 have bT:=mz (ps:=Zc) (F 26 _ rfl).1.1;have GT:=Mt (P:=c.P) (w:=c.w) (mg:=c.mg) (base:=c.base) (F 26 _ rfl).1.1;exact Ny (i:=61) (N:=Za) 23 (F 49 _ rfl).1.1 GT bT (F 26 _ rfl).1.2 (F 26 _ rfl).2 Jy rfl λnd cdv A outer s H E hr=>iY (i:=1) nd rfl (Ea rfl) (qo GT (hr.mono ∎) rfl (F 26 _ rfl).1.2 (F 26 _ rfl).2 bT .nil rH (bY (pv 0) dz))
end
theorem JC(c:Cv)(F:∀(j:Nat) (d:Ds),dL[j]?=ae d->(Fun c.K d.x d.x (cG d.i) d.f (jw d)/\c.mg d.x=ae (.ref d.f))/\Di c.K (.ref d.f)=ah)(z:∀x∈zL,c.mg x=af)(u0:c.mg "GREATEST_AGE"=ae (.int 20 197))(u1:c.mg "GREATEST_NUMBER"=ae (.int 99 195))(u2:c.mg "LONGEST_NAME"=ae (.int 4 191))(u3:c.mg "LONGEST_ROW"=ae (.int 4 193))(u4:c.mg "LONGEST_WORD"=ae (.int 8 189))(u5:c.mg "GETTING"=ae (.ref 98))(u6:∀H,SqT c.K H 98 ((Zd:List Str).map V.str)):FnOk c.P c.w c.K c.mg c.base b5 24 (Ds.f ⟨61,"law",574,256,1,317,ah,588,5⟩) (jw ⟨61,"law",574,256,1,317,ah,588,5⟩) Zc (DL.spLaw c.K):=by
 have a__law_draw:=GJ F z u0 u1 u2 u3 u4 u5 u6;have a_is_whole:=KI F z u0 u1 u2 u3 u4 u5 u6;have a_is_letters:=MW F z u0 u1 u2 u3 u4 u5 u6;have a_is_word:=BB F z u0 u1 u2 u3 u4 u5 u6 a_is_letters;have a_is_number:=Jd F z u0 u1 u2 u3 u4 u5 u6 a_is_whole;have a_is_value:=DV F z u0 u1 u2 u3 u4 u5 u6 a_is_number a_is_word;have a_is_name:=J0 F z u0 u1 u2 u3 u4 u5 u6 a_is_letters;have a_is_row:=HD F z u0 u1 u2 u3 u4 u5 u6 a_is_value;have a_is_age:=Mb F z u0 u1 u2 u3 u4 u5 u6 a_is_whole;have a_is_note:=Im F z u0 u1 u2 u3 u4 u5 u6 a_is_age a_is_row;have a_value_key:=LY F z u0 u1 u2 u3 u4 u5 u6;have a_row_key:=FG F z u0 u1 u2 u3 u4 u5 u6 a_value_key;have a_ahead:=Np F z u0 u1 u2 u3 u4 u5 u6 a_row_key;have a_binds:=N4 F z u0 u1 u2 u3 u4 u5 u6;have a_known_at:=Jg F z u0 u1 u2 u3 u4 u5 u6 a_binds;have a_is_named_value:=LF F z u0 u1 u2 u3 u4 u5 u6 a_is_name a_is_value;have a_is_names:=OF F z u0 u1 u2 u3 u4 u5 u6 a_is_named_value;have a_has_hands_form:=K5 F z u0 u1 u2 u3 u4 u5 u6;have a_has_stand_form:=MP F z u0 u1 u2 u3 u4 u5 u6 a_has_hands_form;have a_is_within:=EM F z u0 u1 u2 u3 u4 u5 u6 a_is_whole;have a_is_placed:=FK F z u0 u1 u2 u3 u4 u5 u6 a_is_within;have a_has_known_names:=FF F z u0 u1 u2 u3 u4 u5 u6 a_is_names a_known_at;have a_fault_of:=Oq F z u0 u1 u2 u3 u4 u5 u6 a_has_known_names a_has_stand_form a_is_note a_is_placed;have a_is_many:=DO F z u0 u1 u2 u3 u4 u5 u6 a_is_whole;have a_is_count:=Me F z u0 u1 u2 u3 u4 u5 u6 a_is_many a_is_row;have a_is_counts:=N0 F z u0 u1 u2 u3 u4 u5 u6 a_ahead a_is_count;have a_is_entry:=OG F z u0 u1 u2 u3 u4 u5 u6 a_fault_of a_is_counts;have a__law_value:=GP F z u0 u1 u2 u3 u4 u5 u6 a__law_draw;have a__law_size:=Io F z u0 u1 u2 u3 u4 u5 u6 a__law_draw;have a__law_pattern:=BE F z u0 u1 u2 u3 u4 u5 u6 a__law_draw a__law_size a__law_value;have a__law_template:=FC F z u0 u1 u2 u3 u4 u5 u6 a__law_draw a__law_size a__law_value;have a__law_term:=Iq F z u0 u1 u2 u3 u4 u5 u6 a__law_draw a__law_value;have a__law_act:=NX F z u0 u1 u2 u3 u4 u5 u6 a__law_draw a__law_pattern a__law_template a__law_term;have a__law_program:=Mi F z u0 u1 u2 u3 u4 u5 u6 a__law_act a__law_draw;have a__law_notes:=Of F z u0 u1 u2 u3 u4 u5 u6 a__law_draw a__law_size a__law_value;have a__law_programs:=Kx F z u0 u1 u2 u3 u4 u5 u6 a__law_draw a__law_program;have a__law_known:=Nu F z u0 u1 u2 u3 u4 u5 u6;have a__law_stand:=JY F z u0 u1 u2 u3 u4 u5 u6 a__law_draw a__law_known a__law_notes a__law_value;have a__law_odd:=NH F z u0 u1 u2 u3 u4 u5 u6 a__law_draw;have a__law_bent:=HK F z u0 u1 u2 u3 u4 u5 u6 a__law_draw a__law_odd;have a__law_is_text:=O4 F z u0 u1 u2 u3 u4 u5 u6;have a__law_is_whole:=LQ F z u0 u1 u2 u3 u4 u5 u6;have a__law_is_row:=M4 F z u0 u1 u2 u3 u4 u5 u6 a__law_is_text a__law_is_whole;have a__law_is_hand:=M9 F z u0 u1 u2 u3 u4 u5 u6 a__law_is_row a__law_is_whole a__law_known;have a__law_are_hands:=Lv F z u0 u1 u2 u3 u4 u5 u6 a__law_is_hand;have a__law_key:=Nm F z u0 u1 u2 u3 u4 u5 u6;have a__law_counts:=EK F z u0 u1 u2 u3 u4 u5 u6 a__law_draw a__law_key;have a__law_is_entry:=BD F z u0 u1 u2 u3 u4 u5 u6 a__law_are_hands a__law_is_row a__law_is_whole a__law_key;exact HJ F z u0 u1 u2 u3 u4 u5 u6 a__law_bent a__law_counts a__law_draw a__law_is_entry a__law_programs a__law_stand a_is_entry
theorem all_K(w:By)(mg:Str->Option Ag)(fa:Addr)(h:Heap)(X:(KK w.params).In h)(G:h.Ns Eb mg)(hfa:mg "law"=ae (.ref fa)):
  ∃fd:C7,(∀(s:Ai)(u:Ag),BindsTo s fd ⟨[u],[]⟩ [("_law_script",u)])/\∀base:Heap,(KK w.params).In base->base.Ns Eb mg->FnOk pR w (KK w.params) mg base b5 24 fa fd Zc (DL.spLaw (KK w.params)):=by
 have e:=hfa.symm.trans (vS X G 49 ⟨61,"law",574,256,1,317,ah,588,5⟩ rfl).1.2;cases e;exact⟨jw ⟨61,"law",574,256,1,317,ah,588,5⟩,λs v=>.of_eq rfl,λbase _ _=>JC ⟨pR,w,KK w.params,mg,base⟩ (λj d e=>vS X G j d e) (zK X G) (F8 X G (by kernel_rfl)) (F8 X G (by kernel_rfl)) (F8 X G (by kernel_rfl)) (F8 X G (by kernel_rfl)) (F8 X G (by kernel_rfl)) (F8 X G (by kernel_rfl)) (λH=>.inr ⟨_,_,_,(show(KK w.params).lookup 98=ae (oT "tuple" (.seq #[(.str "take" 291),(.str "read" 292),(.str "look" 293)] 0)) by kernel_rfl),rfl,rfl,show 3<=A2 by decide,(.cons ⟨_,rfl⟩ (.cons ⟨_,rfl⟩ (.cons ⟨_,rfl⟩ .nil)))⟩)⟩
theorem walk{l:PySem.W.OpenLaw}{q:Bn}{loose:List Str}{XP:(Str->Option Ag)->Heap->Prop}{YP:By->Heap->Prop}{d:DefRec}{K:Params->Aj}(hn:l.most=ae 63)(hdf:d.params.defaults=[])
  (hY:∀(w:By)(h:Heap),YP w h->(K w.params).In h)
  (F:∀(w:By)(mg:Str->Option Ag)(fa:Addr)(h:Heap),(K w.params).In h->h.Ns Eb mg->mg d.name=ae (.ref fa)->
   ∃fd:C7,(∀(s:Ai)(u:Ag),BindsTo s fd ⟨[u],[]⟩ [("_law_script",u)])/\∀base:Heap,(K w.params).In base->base.Ns Eb mg->FnOk l.prog w (K w.params) mg base b5 24 fa fd Zc (DL.spLaw (K w.params))):
  PySem.W.WalkO q loose XP YP l.row.toRowW d [] (λf vs=>PySem.call f vs):=
 L2.walk_of (n:=63) (k:=24) (x:="_law_script") (CX:=λ_=>b5) (sp:=λw=>DL.spLaw (K w.params)) hn ∎ hdf ⟨rfl,by decide,by decide,rfl⟩ hY F (λ_ _ a ns hl _ hS=>⟨a,ns,rfl,hS,hl,λ_=>rfl⟩) λ_ _ _ _ _ z=>z
end Nb
open PySem PySem.W PyProof.Rows
set_option maxRecDepth 100000 in
set_option maxHeartbeats 0 in
theorem PySem.Challenge.cw_noteboard_k46_entries_judged_holds : PySem.Challenge.rw_noteboard_k46_entries_judged.Holds := by
 refine holds_law Nb.said_ λsaid=>?_;refine holds_open (q:=Nb.qq) (loose:=Nb.lO) (Xt:=Nb.xT) (XP:=XL Nb.qq []) (Yf:=Hook.obs Nb.hK) (Ya:=Hook.val Nb.hK) (YP:=Hook.says Nb.hK) (d:=Nb.dW) (kwd:=[]) (N:=3000) Nb.left_ (Hook.of Nb.hK) (Hook.keeps Nb.hK) (λs e=>xl_of s (Bool.and_eq_true_iff.mp e).1) XL.keeps (by kernel_rfl) (by kernel_rfl) (by kernel_rfl) (λs e=>recFacts_of (Bool.and_eq_true_iff.mp e).2) (by kernel_rfl) said (by decide +kernel) ⟨rfl,rfl,rfl,rfl,rfl,by decide +kernel⟩ ?hw ?hc
 (case hw=>w_witness2)
 exact Nb.walk (l:=PySem.Challenge.rw_noteboard_k46_entries_judged) (by kernel_rfl) (by kernel_rfl) (λw h Y=>kIn_of Y) Nb.all_K
