import PyProof.Rows.All
import Wide.All
import OpenK.AllK
import Wide.FinOn
import Lean
import PyProof.EqAt
import PyProof.EqKinds
import PyProof.TupleCall
import PyProof.AttrMissHeap
import PyProof.Rows.RegFStrParts
import PySem.Challenge.RW_noteboard_k47_below_and_under
set_option Elab.async false
set_option linter.all false
set_option maxRecDepth 100000
open PySem renaming wpAny_bind -> Aa, PyData -> Ab, Value -> Ad, wpAny_pure -> Ag, Shared -> Ah, starEach -> Au, wpAny -> Aw, sizeLine -> Az, model -> A1, Program -> Bd, Around -> Bj, bootBuiltins -> Bm, wpAny_newObj_type -> Bo, World -> Bq, compareOp -> B4, wpAny_holding -> B6, FuncData -> B8, wpAny_call_entry -> Ca, wpAny_callSpecial?_slot -> Cb, sizeLine_eq -> Cf, wpAny_mono -> Ci, rawInt -> Cs, wpAny_setField -> C4, mainGlobals -> C8, codeAny_builtin -> C9, backTo -> Da, strKind -> Di, assignEach -> Dk, wpAny_setEntries_of -> Dm, cLine -> Dn, swapsWith -> Dy, foldedSetIterable -> D1, Builtin -> D2, behindInMarks -> D6, firstArgMember -> D9, binaryOp -> Ea, SetTable -> Eb, Scope -> Ee, sysModules -> Ef, pyNext -> Eg, wpAny_attempt -> El, wpAny_setState_of -> En, mem_of_lookup -> Er, wpAny_fieldsOf -> Ex, isSubtype_type -> Ey, wpAny_typeOf -> E2, wpAny_isInstance -> E3, plainId_quiet -> E7, codeAny -> E8, wpAny_Call_Name_kw -> Fb, codeAny_mono -> Fm, entryFor_of_tree -> Fv, wpAny_newList -> Fw, wpAny_typeNameOfWhole_keyiter -> Fx, sliceBounds -> Fy, wpAny_passesOwn -> F0, wpAny_typeNameOf_keyiter -> F4
open List renaming length_map -> Ae, mem_cons_of_mem -> Ak, getElem?_eq_getElem -> Al, mem_cons_self -> An, size_toArray -> Ap, length_cons -> Ar, length_append -> As, mem_cons -> Ax, mem_append_right -> Ay, getElem?_map -> A0, set -> A3, not_mem_nil -> A6, mem_append -> A9, length_singleton -> Be, mem_singleton -> Bg, getElem?_eq_some_iff -> Bn, mem_map -> Bp, range -> Bt, map_append -> Bu, mem_of_getElem? -> By, append_assoc -> B1, append_nil -> B7, map_eq_cons_iff -> Ce, find?_cons -> Cg, map_cons -> Cj, map_eq_nil_iff -> Ck, getElem?_eq_none -> Co, getD_eq_getElem?_getD -> Cq, toArray -> Cw, getElem?_set_ne -> Cz, replicate -> C1, mem_range -> C2, length_set -> C3, mem_append_left -> Dd, nodup_cons -> Dr, map_map -> Dt, length_range -> Du, getElem_mem -> D3, getElem?_replicate -> D4, set_cons_zero -> D8, nil_append -> Ec, length_take -> Eo, getElem?_append_left -> Et, drop_eq_getElem_cons -> Eu, map_congr_left -> Ew, getElem?_set_self' -> E6, nodup_nil -> E9, take_length -> Fk, mem_of_mem_take -> Fp, eq_nil_of_length_eq_zero -> Fq, mem_filter -> Fs
open PySem.W renaming Frag -> Af, keepIn -> Cp, kia_one -> Cu, kas_rev -> D0, fnOf -> Ek, kas_sort -> Fl
open PySem.Heap renaming get?_push_of_some -> Ai, lt_size -> Aq, get?_push_size -> Av, get?_update_self -> Br, SameBut -> Cr, size_push -> De, get?_update_other -> Dj
open And renaming intro -> Aj
open Bool renaming false_ne_true -> Am, and_eq_true -> Bs, false_eq_true -> Bw, eq_iff_iff -> E4
open Nat renaming le_refl -> Ao, zero_le -> A4, le_trans -> A5, lt_of_lt_of_le -> A8, ne_of_lt -> Ba, lt_irrefl -> Dl, lt_succ_of_lt -> Ej, ne_of_gt -> Fc, le_of_lt -> Fd, lt_succ_self -> Fn
open PySem.Heap.SameBut renaming update -> A2
open Array renaming length_toList -> A7, getElem?_toList -> Cm, getElem?_eq_getElem -> Ep, toList_inj -> Fj, perm_iff_toList_perm -> Fz
open PySem.Value renaming ref -> Bb, none -> Bc, type -> C6
open PyProof.Rows renaming seqObj -> Bf, slot_tuple_getitem -> Dp, envOfC -> Dq, get?_update_seq -> Dz, listUpdate_at -> D5
open Option.some renaming inj -> Bh
open PySem.Obj renaming mapSeq -> Bi, data_mapFields -> Bx, isFreed_of_fields -> C7, putSet -> Dx, cls_mapFields -> Ei
open PySem.PyData renaming eqv -> Bk, canLayAll0 -> Bz, canLay0 -> B3, depthAll -> B5, depth -> Cc, tuple -> Cn, str -> Dg, strOk -> D7, showable -> Ez, intsShort -> Ff
open Int renaming toNat_natCast -> Bv, natCast_nonneg -> F1, emod_lt_of_pos -> F2
open Or renaming inr -> B9, inl -> C5
open PySem.Str renaming ofString -> Cy
open Option renaming map_eq_some_iff -> C0, isSome_iff_exists -> F3
open PySem.Around renaming under_plainId -> Dc, in1_units -> Em
open PySem.Builtin.List renaming listExtendWith -> Df, listTooLong -> Ft, listSameRef -> Fu
open Exists renaming intro -> Dh
open PySem.SetTable renaming grown -> Dv, below -> Dw
open PySem.Builtin.Slice renaming slicePlaces -> Ed, sliceAdjust -> Fo
open PySem.Builtin.Tuple renaming tupleExact -> Eh, tupleItemsOf -> Fi
open PySem.F renaming args_tuple_add_2 -> Es, entry_tuple_add -> E1, slot_tuple_add -> E5
open PySem.Paired renaming length -> Fg
open ForInStep renaming yield -> Fh
noncomputable section
namespace L2
open PySem PySem.Spec PyProof.Rows
abbrev Key:=Sum Int Str
def jlt:Key->Ad->Bool
 |.inl k,v=>Value.isInt k v
 |.inr x,v=>Value.isStrOf x v
def keyH (w:Bq):Key->Int
 |.inl k=>hashInt k
 |.inr x=>hashStr w x
theorem jax:∀{k:Key} {v:Ad},jlt k v=true->(∃i t,k=Sum.inl i/\v=Value.int i t)\/(∃x t,k=Sum.inr x/\v=Value.str x t)
 |.inl i,v,h=>by
  obtain⟨t,e⟩:=Value.isInt_shape (k:=i) (v:=v) h;exact .inl ⟨i,t,rfl,e⟩
 |.inr x,v,h=>by
  obtain⟨t,e⟩:=Value.isStrOf_shape (x:=x) (v:=v) h;exact .inr ⟨x,t,rfl,e⟩
theorem jom (i:Int) (t:Tok):jlt (.inl i) (.int i t)=true:=by simp[jlt,Value.isInt]
theorem jol (x:Str) (t:Tok):jlt (.inr x) (.str x t)=true:=by simp[jlt,Value.isStrOf]
theorem jxq (a b:Int):decide ((Sum.inl a:Key)=Sum.inl b)=(a==b):=by
 by_cases e:a=b
 ·subst e;simp
 ·have h:¬(Sum.inl a:Key)=Sum.inl b:=λq=>e (Sum.inl.inj q);rw[decide_eq_false h];exact(beq_eq_false_iff_ne.mpr e).symm
theorem jxn (a b:Str):decide ((Sum.inr a:Key)=Sum.inr b)=decide (a=b):=by
 by_cases e:a=b
 ·subst e;simp
 ·have h:¬(Sum.inr a:Key)=Sum.inr b:=λq=>e (Sum.inr.inj q);rw[decide_eq_false h,decide_eq_false e]
theorem jxp (a:Int) (b:Str):decide ((Sum.inl a:Key)=Sum.inr b)=false:=decide_eq_false (λq=>nomatch q)
theorem jxo (a:Str) (b:Int):decide ((Sum.inr a:Key)=Sum.inl b)=false:=decide_eq_false (λq=>nomatch q)
def jcm (prog:Bd) (w:Bq):PySem.KeyKind prog w Key where
 is:=jlt
 hash:=keyH w
 inj:=λv a b ha hb=>by
  rcases jax ha with⟨i,t,rfl,rfl⟩ | ⟨x,t,rfl,rfl⟩
  ·rcases jax hb with⟨j,u,rfl,e⟩ | ⟨y,u,rfl,e⟩
   ·injection e with e1 _;rw[e1]
   ·exact nomatch e
  ·rcases jax hb with⟨j,u,rfl,e⟩ | ⟨y,u,rfl,e⟩
   ·exact nomatch e
   ·injection e with e1 _;rw[e1]
 byValue:=λk v h=>by
  rcases jax h with⟨i,t,rfl,rfl⟩ | ⟨x,t,rfl,rfl⟩<;>rfl
 pyHash:=λhv h=>by
  rcases jax hv with⟨i,t,rfl,rfl⟩ | ⟨x,t,rfl,rfl⟩
  ·exact wpAny_pyHash_int h
  ·exact wpAny_pyHash_str h
 eqBool:=λhu hv h=>by
  rcases jax hu with⟨i,t,rfl,rfl⟩ | ⟨x,t,rfl,rfl⟩
  ·rcases jax hv with⟨j,u,rfl,rfl⟩ | ⟨y,u,rfl,rfl⟩
   ·rw[jxq]at h;exact wpAny_eqBool_int h
   ·rw[jxp]at h;exact SeqAt.EqAt.int_str i t y u _ _ _ _ h
  ·rcases jax hv with⟨j,u,rfl,rfl⟩ | ⟨y,u,rfl,rfl⟩
   ·rw[jxo]at h;exact SeqAt.EqAt.str_int x t j u _ _ _ _ h
   ·rw[jxn]at h;exact wpAny_eqBool_str h
 «strs»:=λk x t v h=>by
  rcases jax h with⟨i,u,rfl,e⟩ | ⟨y,u,rfl,e⟩
  ·exact nomatch e
  ·injection e with e1 _;subst e1;cases v<;>rfl
theorem jj4 (prog:Bd) (w:Bq) (i:Int) (t:Tok):(jcm prog w).is (.inl i) (.int i t)=true:=jom i t
theorem jj3 (prog:Bd) (w:Bq) (x:Str) (t:Tok):(jcm prog w).is (.inr x) (.str x t)=true:=jol x t
mutual
def tkB:Nat->Ab->Bool
 |_,.none=>true
 |_,.int _=>true
 |_,.str x=>D7 x
 |n+1,.tuple ds=>tkA n ds
 |_,_=>false
def tkA:Nat->List Ab->Bool
 |_,[]=>true
 |n,d::r=>tkB n d&&tkA n r
end
mutual
def hsD (w:Bq):Ab->Int
 |.str x=>keyH w (.inr x)
 |.int i=>keyH w (.inl i)
 |.none=>0xFCA86420
 |.tuple xs=>reduceHash (Builtin.Tuple.tupleHashOf (hsA w xs))
 |_=>0
def hsA (w:Bq):List Ab->List Int
 |[]=>[]
 |x::r=>hsD w x::hsA w r
end
mutual
def drD:Ab->Nat
 |.tuple xs=>drA xs+1
 |_=>1
def drA:List Ab->Nat
 |[]=>0
 |x::r=>drD x+drA r
end
theorem jaw {n:Nat} {d:Ab} (h:tkB n d=true):d=.none\/(∃i,d=.int i)\/(∃x,d=.str x/\D7 x=true)\/∃m ds,n=m+1/\d=.tuple ds/\tkA m ds=true:=by
 cases d with
 |none=>exact .inl rfl
 |int i=>exact .inr (.inl ⟨i,rfl⟩)
 |str x=>exact .inr (.inr (.inl ⟨x,rfl,by cases n<;>(rw[tkB]at h;exact h)⟩))
 |tuple ds =>
  cases n with
  |zero=>rw[tkB]at h<;>first | cases h | (intros;simp_all)
  |succ m=>exact .inr (.inr (.inr ⟨m,ds,rfl,rfl,by rw[tkB]at h;exact h⟩))
 |_=>cases n<;>(rw[tkB]at h<;>first | cases h | (intros;simp_all))
theorem jrs:∀(n:Nat) {d:Ab},tkB n d=true->B3 d=true/\Cc d<=n:=by
 intro n
 induction n with
 |zero =>
  intro d h;rcases jaw h with rfl | ⟨i,rfl⟩ | ⟨x,rfl,hx⟩ | ⟨m,ds,e,_⟩
  ·exact⟨rfl,A4 _⟩
  ·exact⟨rfl,A4 _⟩
  ·exact⟨by rw[B3];exact hx,A4 _⟩
  ·cases e
 |succ n ih =>
  intro d h;rcases jaw h with rfl | ⟨i,rfl⟩ | ⟨x,rfl,hx⟩ | ⟨m,ds,e,rfl,ha⟩
  ·exact⟨rfl,A4 _⟩
  ·exact⟨rfl,A4 _⟩
  ·exact⟨by rw[B3];exact hx,A4 _⟩
  ·cases e;have:Bz ds=true/\B5 ds<=n:=by
    clear h
    induction ds with
    |nil=>exact⟨rfl,A4 _⟩
    |cons x r ih2 =>
     rw[tkA,Bs]at ha;obtain⟨a1,a2⟩:=ih2 ha.2;obtain⟨b1,b2⟩:=ih ha.1;exact⟨by rw[Bz,a1,b1];rfl,by rw[B5];omega⟩
   exact⟨by rw[B3];exact this.1,by rw[Cc];omega⟩
theorem jvl:∀(n:Nat) {d e:Ab},tkB n d=true->tkB n e=true->(Bk d e=true↔d=e):=by
 intro n;have base:∀{d e:Ab},(d=.none\/(∃i,d=.int i)\/∃x,d=.str x)->(e=.none\/(∃i,e=.int i)\/∃x,e=.str x)->(Bk d e=true↔d=e):=by
  intro d e h g;rcases h with rfl | ⟨i,rfl⟩ | ⟨x,rfl⟩<;>rcases g with rfl | ⟨j,rfl⟩ | ⟨y,rfl⟩<;>simp[Bk]
 induction n with
 |zero =>
  intro d e h g;refine base ?_ ?_
  ·rcases jaw h with h | h | ⟨x,h,_⟩ | ⟨m,ds,e,_⟩
   ·exact .inl h
   ·exact .inr (.inl h)
   ·exact .inr (.inr ⟨x,h⟩)
   ·cases e
  ·rcases jaw g with h | h | ⟨x,h,_⟩ | ⟨m,ds,e,_⟩
   ·exact .inl h
   ·exact .inr (.inl h)
   ·exact .inr (.inr ⟨x,h⟩)
   ·cases e
 |succ n ih =>
  intro d e h g;have key:∀xs ys:List Ab,tkA n xs=true->tkA n ys=true->(PyData.eqvAll xs ys=true↔xs=ys):=by
   intro xs
   induction xs with
   |nil=>intro ys _ _;cases ys<;>simp[PyData.eqvAll]
   |cons x r ih2 =>
    intro ys hx hy;cases ys with
    |nil=>simp[PyData.eqvAll]
    |cons y s =>
     rw[tkA,Bs]at hx hy;rw[PyData.eqvAll,Bs,ih hx.1 hy.1,ih2 s hx.2 hy.2,List.cons.injEq]
  rcases jaw h with rfl | ⟨i,rfl⟩ | ⟨x,rfl,hx⟩ | ⟨m,ds,em,rfl,ha⟩<;>rcases jaw g with rfl | ⟨j,rfl⟩ | ⟨y,rfl,hy⟩ | ⟨k,es,ek,rfl,hb⟩
  ·exact base (.inl rfl) (.inl rfl)
  ·exact base (.inl rfl) (.inr (.inl ⟨_,rfl⟩))
  ·exact base (.inl rfl) (.inr (.inr ⟨_,rfl⟩))
  ·simp[Bk]
  ·exact base (.inr (.inl ⟨_,rfl⟩)) (.inl rfl)
  ·exact base (.inr (.inl ⟨_,rfl⟩)) (.inr (.inl ⟨_,rfl⟩))
  ·exact base (.inr (.inl ⟨_,rfl⟩)) (.inr (.inr ⟨_,rfl⟩))
  ·simp[Bk]
  ·exact base (.inr (.inr ⟨_,rfl⟩)) (.inl rfl)
  ·exact base (.inr (.inr ⟨_,rfl⟩)) (.inr (.inl ⟨_,rfl⟩))
  ·exact base (.inr (.inr ⟨_,rfl⟩)) (.inr (.inr ⟨_,rfl⟩))
  ·simp[Bk]
  ·simp[Bk]
  ·simp[Bk]
  ·simp[Bk]
  ·cases em;cases ek;rw[Bk,key ds es ha hb,PyData.tuple.injEq]
theorem jng:∀(n:Nat) {h:Heap} {v:Ad} {d e:Ab} {as bs:List Addr},tkB n d=true->tkB n e=true->Reads h v d as->Reads h v e bs->d=e:=by
 intro n
 induction n with
 |zero =>
  intro h v d e as bs hd he r1 r2;rcases jaw hd with rfl | ⟨i,rfl⟩ | ⟨x,rfl,_⟩ | ⟨m,ds,z,_⟩
  ·cases r1;cases r2;rfl
  ·cases r1;cases r2;rfl
  ·cases r1;cases r2;rfl
  ·cases z
 |succ n ih =>
  intro h v d e as bs hd he r1 r2;rcases jaw hd with rfl | ⟨i,rfl⟩ | ⟨x,rfl,_⟩ | ⟨m,ds,z,rfl,hds⟩
  ·cases r1;cases r2;rfl
  ·cases r1;cases r2;rfl
  ·cases r1;cases r2;rfl
  ·cases z;rcases jaw he with rfl | ⟨i,rfl⟩ | ⟨x,rfl,_⟩ | ⟨m,es,z,rfl,hes⟩
   ·cases r2;cases r1
   ·cases r2;cases r1
   ·cases r2;cases r1
   ·cases z;cases r1 with
    |tuple a1 a2 a3 a4 =>
     cases r2 with
     |tuple b1 b2 b3 b4 =>
      cases Bh (a1.symm.trans b1);rw[a3]at b3;injection b3 with b3 _;subst b3;have:∀{vs:List Ad} {xs ys:List Ab} {as bs:List Addr},tkA n xs=true->tkA n ys=true->ReadsAll h vs xs as->ReadsAll h vs ys bs->xs=ys:=by
       intro vs
       induction vs with
       |nil=>intro xs ys as bs _ _ q1 q2;cases q1;cases q2;rfl
       |cons v r ih2 =>
        intro xs ys as bs t1 t2 q1 q2;cases q1 with
        |cons p1 p2 =>
         cases q2 with
         |cons s1 s2 =>
          rw[tkA,Bs]at t1 t2;rw[ih t1.1 t2.1 p1 s1,ih2 t1.2 t2.2 p2 s2]
      rw[this hds hes a4 b4]
theorem jnh:∀(n:Nat) {h h':Heap} {v:Ad} {d:Ab} {as:List Addr} {dd:Addr} {o:Obj} {es:Array DictEntry} {ep:Nat},tkB n d=true->Reads h v d as->h.get? dd=some o->o.data=.dict es ep->Cr dd h h'->Reads h' v d as:=by
 intro n
 induction n with
 |zero =>
  intro h h' v d as dd o es ep hd r1 ho hdt hs;rcases jaw hd with rfl | ⟨i,rfl⟩ | ⟨x,rfl,_⟩ | ⟨m,ds,z,_⟩
  ·cases r1;exact .none
  ·cases r1;exact .int _ _
  ·cases r1;exact .str _ _
  ·cases z
 |succ n ih =>
  intro h h' v d as dd o es ep hd r1 ho hdt hs;rcases jaw hd with rfl | ⟨i,rfl⟩ | ⟨x,rfl,_⟩ | ⟨m,ds,z,rfl,hds⟩
  ·cases r1;exact .none
  ·cases r1;exact .int _ _
  ·cases r1;exact .str _ _
  ·cases z;cases r1 with
   |@tuple a o' vs k _ _ a1 a2 a3 a4 =>
    have hne:a≠dd:=by
     rintro rfl
     cases Bh (a1.symm.trans ho);rw[hdt]at a3;exact nomatch a3
    have:∀{vs:List Ad} {xs:List Ab} {as:List Addr},tkA n xs=true->ReadsAll h vs xs as->ReadsAll h' vs xs as:=by
     intro vs
     induction vs with
     |nil=>intro xs as _ q1;cases q1;exact .nil
     |cons v r ih2 =>
      intro xs as t1 q1;cases q1 with
      |cons p1 p2 =>
       rw[tkA,Bs]at t1;exact .cons (ih t1.1 p1 ho hdt hs) (ih2 t1.2 p2)
    exact .tuple ((hs.2 a hne).trans a1) a2 a3 (this hds a4)
section
variable {prog:Bd} {w:Bq} {E:Ad->Ah->Prop}
theorem ji1 {n:Nat} (ih:∀{A:Bj} {s:Ah} {v:Ad} {d:Ab} {as:List Addr} {Q:Int->Ah->Prop},A.units+n < Dn->tkB n d=true->Reads s.heap v d as->Q (hsD w d) {s with toks:=s.toks+drD d}->Aw (A1 prog w) A (pyHash v) Q E s) :
  ∀(xs:List Ab) (vs:List Ad) (as:List Addr) (A:Bj) (s:Ah) (b:Array Int) (Q:Array Int->Ah->Prop),tkA n xs=true->ReadsAll s.heap vs xs as->A.units+n < Dn ->
  (∀b',b'.toList=b.toList++hsA w xs->Q b' {s with toks:=s.toks+drA xs}) ->
  Aw (A1 prog w) A (forIn vs b λx r=>do let h <-pyHash x;pure PUnit.unit;pure (Fh (r.push h))) Q E s
 |[],_,as,A,s,b,Q,_,x,_,h=>by cases x;exact Ag (h b (by simp[hsA]))
 |k::xs,_,as,A,s,b,Q,hk,x,hu,h=>by
  cases x with
  |cons x1 x2 =>
   rw[tkA,Bs]at hk;rw[List.forIn_cons];refine Aa (Aa (ih hu hk.1 x1 ?_));refine Aa (Ag (Ag ?_));refine ji1 ih xs _ _ A _ _ Q hk.2 x2 hu λb' hb=>?_;have:=h b' (by simp[hb,hsA]);rw[drA,<-Nat.add_assoc]at this;exact this
theorem jum:∀(n:Nat) {A:Bj} {s:Ah} {v:Ad} {d:Ab} {as:List Addr} {Q:Int->Ah->Prop},A.units+n < Dn->tkB n d=true->Reads s.heap v d as->Q (hsD w d) {s with toks:=s.toks+drD d}->Aw (A1 prog w) A (pyHash v) Q E s:=by
 intro n;have leaf:∀{A:Bj} {s:Ah} {v:Ad} {d:Ab} {as:List Addr} {Q:Int->Ah->Prop},A.units < Dn->(d=.none\/(∃i,d=.int i)\/∃x,d=.str x)->Reads s.heap v d as->Q (hsD w d) {s with toks:=s.toks+drD d}->Aw (A1 prog w) A (pyHash v) Q E s:=by
  intro A s v d as Q hu hd r q;rcases hd with rfl | ⟨i,rfl⟩ | ⟨x,rfl⟩
  ·cases r;exact W.pyHash_slot (T:="NoneType") rfl F.slot_NoneType_hash F.entry_NoneType_hash (F.args_NoneType_hash_1 _) (beq_builtin_none _) (.inr hu) (Aa (Ag (Aa (wpAny_mkInt (Ag ⟨_,_,rfl,by rw[hsD,drD]at q<;>first | exact q | (intros;simp_all)⟩)))))
  ·cases r;rw[hsD,drD]at q
   ·exact(jcm prog w).pyHash (k:=.inl i) (jj4 prog w _ _) q
   all_goals (intros;simp_all)
  ·cases r;rw[hsD,drD]at q
   ·exact(jcm prog w).pyHash (k:=.inr x) (jj3 prog w _ _) q
   all_goals (intros;simp_all)
 induction n with
 |zero =>
  intro A s v d as Q hu hd r q;refine leaf hu ?_ r q;rcases jaw hd with h | h | ⟨x,h,_⟩ | ⟨m,ds,e,_⟩
  ·exact .inl h
  ·exact .inr (.inl h)
  ·exact .inr (.inr ⟨x,h⟩)
  ·cases e
 |succ n ih =>
  intro A s v d as Q hu hd r q;rcases jaw hd with h | h | ⟨x,h,_⟩ | ⟨m,ds,z,rfl,hds⟩
  ·exact leaf (by omega) (.inl h) r q
  ·exact leaf (by omega) (.inr (.inl h)) r q
  ·exact leaf (by omega) (.inr (.inr ⟨x,h⟩)) r q
  ·cases z;cases r with
   |@tuple a o vs k _ _ a1 a2 a3 a4 =>
    refine W.pyHash_slot (T:="tuple") ⟨o,a1,a2⟩ F.slot_tuple_hash F.entry_tuple_hash (F.args_tuple_hash_1 _) (beq_builtin_none _) (.inr (by omega)) ?_;show Aw _ _ (Fi (.ref a)>>=_) _ _ s;refine Aa (wpAny_tupleItemsOf a1 a3 ?_);refine Aa ?_;rw[<-Array.forIn_toList];refine ji1 ih ds vs.toList _ A.in1 s #[] _ hds a4 (by simp only[Em];omega) λb hb=>?_;show Aw _ _ (retInt (Builtin.Tuple.tupleHashOf b.toList)) _ _ _;rw[hb];refine Aa (wpAny_mkInt (Ag ⟨_,_,rfl,?_⟩));rw[hsD,drD]at q;rw[<-Nat.add_assoc]at q;exact q
theorem jqb:∀(n m:Nat) {A:Bj} {s:Ah} {v:Ad} {d:Ab} {as:List Addr} {Q:Bool->Ah->Prop},n<=m->tkB n d=true->Reads s.heap v d as->Q true s->Aw (A1 prog w) A (eqIsQuiet m v) Q E s:=by
 intro n;have leaf:∀{m:Nat} {A:Bj} {s:Ah} {v:Ad} {d:Ab} {as:List Addr} {Q:Bool->Ah->Prop},(d=.none\/(∃i,d=.int i)\/∃x,d=.str x)->Reads s.heap v d as->Q true s->Aw (A1 prog w) A (eqIsQuiet m v) Q E s:=by
  intro m A s v d as Q hd r q;have hb:carriedByValue v=true:=by
   rcases hd with rfl | ⟨i,rfl⟩ | ⟨x,rfl⟩<;>cases r<;>rfl
  rw[eqIsQuiet_byValue _ hb];exact Ag q
 induction n with
 |zero =>
  intro m A s v d as Q _ hd r q;refine leaf ?_ r q;rcases jaw hd with h | h | ⟨x,h,_⟩ | ⟨m,ds,e,_⟩
  ·exact .inl h
  ·exact .inr (.inl h)
  ·exact .inr (.inr ⟨x,h⟩)
  ·cases e
 |succ n ih =>
  intro m A s v d as Q hm hd r q;rcases jaw hd with h | h | ⟨x,h,_⟩ | ⟨m',ds,z,rfl,hds⟩
  ·exact leaf (.inl h) r q
  ·exact leaf (.inr (.inl h)) r q
  ·exact leaf (.inr (.inr ⟨x,h⟩)) r q
  ·cases z;obtain⟨m,rfl⟩:∃k,m=k+1:=⟨m - 1,by omega⟩;cases r with
   |@tuple a o vs k _ _ a1 a2 a3 a4 =>
    have hT:s.TypeIs (.ref a) "tuple":=⟨o,a1,a2⟩;unfold eqIsQuiet;refine Aa (wpAny_specialOf hT F.slot_tuple_eq.lookup ?_);show Aw _ _ (isInstance (.ref a) (.type "tuple")>>=_) _ _ s;refine Aa (E3 hT isSubtype_tuple_tuple ?_);simp only[Bool.not_true,Bw,if_false];refine Aa (wpAny_seqItems a1 a3 ?_);refine Aa ?_;show Aw _ _ (forIn vs _ _) _ _ s;rw[<-Array.forIn_toList];refine wpAny_forIn_list _ (λrest r s'=>r.1=none/\s'=s/\∃xs bs,tkA n xs=true/\ReadsAll s.heap rest xs bs) _ ?_ ?_ _ _ ⟨rfl,rfl,ds,_,hds,a4⟩
    ·rintro v rest r s' ⟨hr,rfl,xs,bs,hx,hr2⟩
     cases hr2 with
     |cons p1 p2 =>
      rw[tkA,Bs]at hx;refine Aa (ih m (by omega) hx.1 p1 ?_);simp only[Bool.not_true,Bw,if_false];exact Ag ⟨rfl,rfl,_,_,hx.2,p2⟩
    ·rintro⟨r1,r2⟩ s' ⟨hr,rfl,_⟩
     simp only at hr;subst hr;exact Ag q
end
def TK:Type:={ d:Ab // tkB 6 d=true}
instance:DecidableEq TK:=λ_ _=>Classical.propDecidable _
def jba (prog:Bd) (w:Bq):HeapKind prog w TK where
 is:=λh k a=>∃as,Reads h (.ref a) k.1 as
 hash:=λk=>hsD w k.1
 draws:=λk=>drD k.1
 room:=λA=>A.units+16 < Dn
 inj:=λ{h a x y} hx hy=>by
  obtain⟨as,r1⟩:=hx;obtain⟨bs,r2⟩:=hy;exact Subtype.ext (jng 6 x.2 y.2 r1 r2)
 keeps:=λ{h h' k a d o es ep} x ho hd hs=>by
  obtain⟨as,r⟩:=x;exact⟨as,jnh 6 k.2 r ho hd hs⟩
 pyHash:=λ{A E s k a Q} hu hk h=>by
  obtain⟨as,r⟩:=hk;exact jum 6 (by omega) k.2 r h
 eqBool:=λ{A E s x y a b Q} hu hx hy h=>by
  obtain⟨as,r1⟩:=hx;obtain⟨bs,r2⟩:=hy;have l1:=jrs 6 x.2;have l2:=jrs 6 y.2;refine SeqAt.eqAt_reads x.1 y.1 A s _ _ _ _ r1 r2 l1.1 l2.1 (by omega) prog w E Q ?_;have e:Bk x.1 y.1=decide (x=y):=by
   rw[E4,jvl 6 x.2 y.2,decide_eq_true_iff];exact⟨Subtype.ext,λh=>by rw[h]⟩
  rw[e];exact h
 quiet:=λ{A E s k a Q} hk h=>by
  obtain⟨as,r⟩:=hk;exact jqb 6 8 (by decide) k.2 r h
inductive V where
 |non | bl (b:Bool) | int (i:Int) | str (x:Str) | byt (b:Array UInt8) | flt (b:UInt64) | ref (a:Addr) | ty (n:String)
 deriving DecidableEq
def RelV:V->Ad->Prop
 |.non,u=>u=Bc
 |.bl b,u=>u=Value.bool b
 |.int i,u=>∃t,u=Value.int i t
 |.str x,u=>∃t,u=Value.str x t
 |.byt b,u=>∃t,u=Value.bytes b t
 |.flt b,u=>∃t,u=Value.float b t
 |.ref a,u=>u=Bb a
 |.ty n,u=>u=C6 n
abbrev Vals:List V->List Ad->Prop:=Paired RelV
theorem Vals.length {xs:List V} {us:List Ad} (r:Vals xs us):xs.length=us.length:=Fg r
theorem Vals.get:∀{xs:List V} {us:List Ad} {i:Nat} {x:V},Vals xs us->xs[i]?=some x->∃u,us[i]?=some u/\RelV x u
 |_,_,_,_,.nil,e=>by simp at e
 |_,_,0,_,.cons r _,e=>by simp at e;subst e;exact⟨_,rfl,r⟩
 |_,_,i+1,x,.cons _ t,e=>by
  obtain⟨u,h1,h2⟩:=Vals.get (i:=i) (x:=x) t (by simpa using e);exact⟨u,by simpa using h1,h2⟩
theorem Vals.set {x:V} {u:Ad} (r:RelV x u):∀{xs:List V} {us:List Ad} (i:Nat),Vals xs us->Vals (xs.set i x) (us.set i u)
 |_,_,_,.nil=>.nil
 |_,_,0,.cons _ t=>.cons r t
 |_,_,i+1,.cons q t=>.cons q (Vals.set r i t)
theorem Vals.append:∀{xs ys:List V} {us ws:List Ad},Vals xs us->Vals ys ws->Vals (xs++ys) (us++ws)
 |_,_,_,_,.nil,s=>s
 |_,_,_,_,.cons r t,s=>.cons r (Vals.append t s)
theorem Vals.take:∀{xs:List V} {us:List Ad} (n:Nat),Vals xs us->Vals (xs.take n) (us.take n)
 |_,_,0,_=>.nil
 |_,_,_+1,.nil=>.nil
 |_,_,n+1,.cons r t=>.cons r (Vals.take n t)
theorem Vals.drop:∀{xs:List V} {us:List Ad} (n:Nat),Vals xs us->Vals (xs.drop n) (us.drop n)
 |_,_,0,r=>r
 |_,_,_+1,.nil=>.nil
 |_,_,n+1,.cons _ t=>Vals.drop n t
def RelO:Option V->Option Ad->Prop
 |some v,some u=>RelV v u
 |none,none=>True
 |_,_=>False
def KV {κ:Type}:List (κ×V)->List (κ×Ad)->Prop:=Paired λ(p:κ×V) (q:κ×Ad)=>p.1=q.1/\RelV p.2 q.2
def kV:Key->V
 |.inl i=>.int i
 |.inr x=>.str x
inductive HO where
 |lst (xs:List V)
 |tup (xs:List V)
 |dK (kvs:List (Key×V)) | dT (kvs:List (List Key×V))
 |dX (ps:List (TK×Addr×V))
 |set (S:Int->Bool) (n:Nat)
 |ins (C dx:Addr) (fs:List (Str×V))
 |own (x:Addr)
 |xd (fs:List (Str×V))
 |met (f x:Addr)
 |rng (lo hi:Int)
 |frz (o:Obj) (u:HO)
 |tbl (ps:Array Ad)
 |ext (φ:Heap->Prop)
abbrev Hp:=Addr->Option HO
def upd (H:Hp) (a:Addr) (o:HO):Hp:=λb=>if b=a then some o else H b
theorem jaf {H:Hp} {a:Addr} {o:HO}:upd H a o a=some o:=by unfold upd;rw[if_pos rfl]
theorem jad {H:Hp} {a b:Addr} {o:HO} (h:b≠a):upd H a o b=H b:=by unfold upd;rw[if_neg h]
theorem jzm {H:Hp} {a b:Addr} {o u:HO} (h:H a=some o) (h':H b=some u) (d:o≠u):a≠b:=by
 intro e;subst e;rw[h]at h';exact d (Bh h')
theorem jae {H:Hp} {a b:Addr} {o:HO} (h:H a=some o) (h':H b=none):a≠b:=by
 intro e;subst e;rw[h]at h';cases h'
def IsTupP (h:Heap) (a:Addr) (items:Array Ad):Prop:=∃o,h.get? a=some o/\o.cls=.type "tuple"/\(∃n,o.data=.seq items n)/\o.dict=none
theorem IsTupP.tup {h:Heap} {a:Addr} {items:Array Ad} (x:IsTupP h a items):IsTup h a items:=let⟨o,e,c,d,_⟩:=x;⟨o,e,c,d⟩
theorem IsTupP.lt {h:Heap} {a:Addr} {items:Array Ad} (x:IsTupP h a items):a < h.objs.size:=let⟨_,e,_⟩:=x;Aq e
theorem IsTupP.new (h:Heap) (items:Array Ad):IsTupP (h.push {cls:=.type "tuple",data:=.seq items}) h.objs.size items:=⟨_,Av _ rfl,rfl,⟨_,rfl⟩,rfl⟩
section
variable (P:Bd) (w:Bq)
def ObjOk (H:Hp) (h:Heap) (a:Addr):HO->Prop
 |.lst xs=>xs.length<=Az/\∃(its:List Ad) (n:Nat),Vals xs its/\h.get? a=some {cls:=.type "list",data:=.seq its.toArray n}
 |.tup xs=>xs.length<=Az/\∃its:List Ad,Vals xs its/\IsTupP h a its.toArray
 |.dK kvs=>kvs.length<=Az/\(a==Ef)=false/\∃vs,KV kvs vs/\h.DictOf (jcm P w) a vs
 |.dT kvs=>kvs.length<=Az/\(a==Ef)=false/\∃xs:List (List Key×Addr×Ad),
   Paired (λ(p:List Key×V) (q:List Key×Addr×Ad)=>p.1=q.1/\H q.2.1=some (.tup (p.1.map kV))/\RelV p.2 q.2.2) kvs xs /\
   ∃o es ep,h.get? a=some o/\o.ExactDict/\o.data=.dict es ep/\es.toList=xs.map (entryOfKey (tupleKind (jcm P w)))/\(xs.map (·.1)).Nodup
 |.dX ps=>ps.length<=Az/\(a==Ef)=false/\∃xs:List (TK×Addr×Ad),Paired (λ(p:TK×Addr×V) (q:TK×Addr×Ad)=>p.1=q.1/\p.2.1=q.2.1/\RelV p.2.2 q.2.2) ps xs /\
   ∃o es ep,h.get? a=some o/\o.ExactDict/\o.data=.dict es ep/\es.toList=xs.map (entryOfKey (jba P w))/\(xs.map (·.1)).Nodup
 |.set S n=>h.SetOf (intKind P w) a S n
 |.ins C dx fs=>H dx=some (.own a)/\fs.length<=1000/\dx≠a/\h.get? a=some (PySem.W.instObj C dx) /\
   ∃mA,h.Ns1 dx mA/\(∀f,RelO (fs.lookup f) (mA f))/\PySem.Within mA (fs.map (·.1))
 |.own _=>∃o,h.get? a=some o
 |.xd fs=>∃mA,h.Ns1 a mA/\∀f,RelO (fs.lookup f) (mA f)
 |.rng lo hi=>∃t u v,h.get? a=some {cls:=.type "range",data:=.fields #[.int lo t,.int hi u,.int 1 v]}
 |.frz o u=>h.get? a=some o/\ObjOk H h a u
 |.tbl ps=>h.get? a=some {cls:=.none,data:=.fields ps}
 |.met f x=>h.get? a=some (PySem.W.methodObj (.ref f) (.ref x))
 |.ext φ=>φ h/\(∃o,h.get? a=some o)/\∀h1 h2:Heap,φ h1->(∀o,h1.get? a=some o->h2.get? a=some o)->φ h2
def HOk (H:Hp) (h:Heap):Prop:=∀a o,H a=some o->ObjOk P w H h a o
end
section
variable {P:Bd} {w:Bq} {H H':Hp} {h h':Heap} {a:Addr} {o:HO}
theorem ObjOk.lt (x:ObjOk P w H h a o):a < h.objs.size:=by
 cases o with
 |lst xs=>obtain⟨_,_,_,_,e⟩:=x;exact Aq e
 |tup xs=>obtain⟨_,_,_,p⟩:=x;exact p.lt
 |dK kvs=>obtain⟨_,_,_,_,o,_,_,e,_⟩:=x;exact Aq e
 |dT kvs=>obtain⟨_,_,_,_,o,_,_,e,_⟩:=x;exact Aq e
 |dX ps=>obtain⟨_,_,_,_,o,_,_,e,_⟩:=x;exact Aq e
 |set S n=>obtain⟨o,_,_,_,e,_⟩:=x;exact Aq e
 |ins C dx fs=>obtain⟨_,_,_,e,_⟩:=x;exact Aq e
 |own y=>obtain⟨_,e⟩:=x;exact Aq e
 |xd fs=>obtain⟨_,⟨_,_,_,e,_⟩,_⟩:=x;exact Aq e
 |rng lo hi=>obtain⟨_,_,_,e⟩:=x;exact Aq e
 |frz ob u=>obtain⟨e,_⟩:=x;exact Aq e
 |tbl ps=>exact Aq (show h.get? a=some _ from x)
 |met f y=>exact Aq (show h.get? a=some _ from x)
 |ext φ=>obtain⟨_,⟨_,e⟩,_⟩:=x;exact Aq e
theorem Paired.mapP {α β:Type} {F G:α->β->Prop}:∀{l₁:List α} {l₂:List β},Paired F l₁ l₂->(∀a b,F a b->G a b)->Paired G l₁ l₂
 |_,_,.nil,_=>.nil
 |_,_,.cons r t,f=>.cons (f _ _ r) (Paired.mapP t f)
theorem ObjOk.stay (x:ObjOk P w H h a o) (k:∀b u,(b=a\/H b=some (.own a))->h.get? b=some u->h'.get? b=some u)
  (ho:∀b,H b=some (.own a)->H' b=some (.own a)) (ht:∀b xs,H b=some (.tup xs)->H' b=some (.tup xs)):ObjOk P w H' h' a o:=by
 induction o with
 |lst xs=>obtain⟨z,its,n,r,e⟩:=x;exact⟨z,its,n,r,k _ _ (.inl rfl) e⟩
 |tup xs=>obtain⟨z,its,r,ob,e,c⟩:=x;exact⟨z,its,r,ob,k _ _ (.inl rfl) e,c⟩
 |dK kvs=>obtain⟨z,y,vs,r,ob,es,ep,e,c⟩:=x;exact⟨z,y,vs,r,ob,es,ep,k _ _ (.inl rfl) e,c⟩
 |dT kvs =>
  obtain⟨z,y,xs,r,ob,es,ep,e,c⟩:=x;exact⟨z,y,xs,Paired.mapP r λp q z=>⟨z.1,ht _ _ z.2.1,z.2.2⟩,ob,es,ep,k _ _ (.inl rfl) e,c⟩
 |dX ps =>
  obtain⟨z,y,xs,r,ob,es,ep,e,c⟩:=x;exact⟨z,y,xs,r,ob,es,ep,k _ _ (.inl rfl) e,c⟩
 |set S n=>obtain⟨ob,es,ep,t,e,c⟩:=x;exact⟨ob,es,ep,t,k _ _ (.inl rfl) e,c⟩
 |ins C dx fs =>
  obtain⟨d,z,ne,e,mA,⟨od,es,ep,e2,c⟩,r⟩:=x;exact⟨ho _ d,z,ne,k _ _ (.inl rfl) e,mA,⟨od,es,ep,k _ _ (.inr d) e2,c⟩,r⟩
 |own y=>obtain⟨ob,e⟩:=x;exact⟨ob,k _ _ (.inl rfl) e⟩
 |xd fs=>obtain⟨mA,⟨od,es,ep,e,c⟩,r⟩:=x;exact⟨mA,⟨od,es,ep,k _ _ (.inl rfl) e,c⟩,r⟩
 |rng lo hi=>obtain⟨t,u,v,e⟩:=x;exact⟨t,u,v,k _ _ (.inl rfl) e⟩
 |frz ob u ih=>obtain⟨e,q⟩:=x;exact⟨k _ _ (.inl rfl) e,ih q⟩
 |tbl ps =>
  have e:h.get? a=some {cls:=.none,data:=.fields ps}:=x;show h'.get? a=some {cls:=.none,data:=.fields ps};exact k a _ (.inl rfl) e
 |met f y =>
  have e:h.get? a=some (PySem.W.methodObj (.ref f) (.ref y)):=x;show h'.get? a=some (PySem.W.methodObj (.ref f) (.ref y));exact k a _ (.inl rfl) e
 |ext φ=>obtain⟨p,⟨o,e⟩,st⟩:=x;exact⟨st _ _ p λo q=>k _ _ (.inl rfl) q,⟨o,k _ _ (.inl rfl) e⟩,st⟩
theorem HOk.lt (x:HOk P w H h) (e:H a=some o):a < h.objs.size:=(x a o e).lt
theorem HOk.fresh (x:HOk P w H h) (e:h.objs.size<=a):H a=none:=by
 cases q:H a with
 |none=>rfl
 |some u=>exact absurd (A8 (x.lt q) e) (Dl _)
theorem HOk.kept (x:HOk P w H h) (k:∀b u,h.get? b=some u->h'.get? b=some u):HOk P w H h':=λa o e =>
 (x a o e).stay (λb u _ q=>k b u q) (λ_ q=>q) λ_ _ q=>q
theorem HOk.laid (x:HOk P w H h) (k:∀b u,h.get? b=some u->h'.get? b=some u) (hp:h.objs.size<=a) (new:ObjOk P w (upd H a o) h' a o):HOk P w (upd H a o) h':=λb u e=>by
 have hn:=x.fresh hp;by_cases hb:b=a
 ·subst hb;rw[jaf]at e;cases e;exact new
 ·rw[jad hb]at e;exact(x b u e).stay (λc v _ q=>k c v q) (λc q=>by rw[jad (jae q hn)];exact q) λc xs q=>by rw[jad (jae q hn)];exact q
end
def Rd (H:Hp) (a:Addr) (u:HO):Prop:=H a=some u\/∃o,H a=some (.frz o u)
theorem Rd.ok {P:Bd} {w:Bq} {H:Hp} {h:Heap} {a:Addr} {u:HO} (r:Rd H a u) (x:HOk P w H h):ObjOk P w H h a u:=by
 rcases r with r | ⟨o,r⟩
 ·exact x a u r
 ·obtain⟨_,q⟩:=x a _ r;exact q
def Mut:Option HO->Prop
 |some (.lst _)=>True
 |some (.dK _)=>True
 |some (.dT _)=>True
 |some (.dX _)=>True
 |some (.set _ _)=>True
 |some (.ins _ _ _)=>True
 |some (.ext _)=>True
 |_=>False
section
variable {P:Bd} {w:Bq} {H:Hp} {h h':Heap} {x e:Addr} {o':HO}
theorem HOk.write (ok:HOk P w H h) (mu:Mut (H x)) (he:e=x\/H e=some (.own x)) (k:∀b u,b≠e->h.get? b=some u->h'.get? b=some u) (heo:∃u,h'.get? e=some u)
  (new:ObjOk P w (upd H x o') h' x o'):HOk P w (upd H x o') h':=λb u q=>by
 have nown:∀c y,H c=some (.own y)->c≠x:=λc y r z=>by subst z;rw[r]at mu;exact mu
 have ntup:∀c xs,H c=some (.tup xs)->c≠x:=λc xs r z=>by subst z;rw[r]at mu;exact mu
 by_cases hb:b=x
 ·subst hb;rw[jaf]at q;cases q;exact new
 ·rw[jad hb]at q;by_cases hbe:b=e
  ·have q':H b=some (.own x):=by
    rcases he with z | z
    ·exact absurd (hbe.trans z) hb
    ·rw[hbe];exact z
   rw[q]at q';cases q';obtain⟨v,hv⟩:=heo;exact⟨v,by rw[hbe];exact hv⟩
  ·refine(ok b u q).stay (λc v hc r=>k c v ?_ r) (λc r=>by rw[jad (nown c b r)];exact r) λc xs r=>by rw[jad (ntup c xs r)];exact r
   rcases hc with rfl | hc
   ·exact hbe
   ·rintro rfl
    rcases he with z | z
    ·exact nown c b hc z
    ·rw[hc]at z;cases z;exact hb rfl
end
structure Un (fs ex:List Addr) (H H':Hp) (h h':Heap):Prop where
 keep:∀b o,h.get? b=some o->H b=none->b∉fs->b∉ex->h'.get? b=some o
 slot:∀b o,h.get? b=some o->H b=none->b∈fs->b∉ex->∃sl,h'.get? b=some {o with slots:=sl}
 free:∀b o,h.get? b=some o->H b=none->b∉ex->H' b=none
 there:∀b o,h.get? b=some o->b∉ex->∃o',h'.get? b=some o'
 tups:∀b xs,H b=some (.tup xs)->H' b=some (.tup xs)
 frzs:∀b o u,H b=some (.frz o u)->H' b=some (.frz o u)
 tbls:∀b ps,H b=some (.tbl ps)->∃more,H' b=some (.tbl (ps++more))
section
variable {fs fs' ex ex':List Addr} {H H1 H2:Hp} {h h1 h2 h':Heap} {a x e:Addr} {o:HO}
theorem Un.any (u:Un fs ex H H1 h h1) {b:Addr} {ob:Obj} (q:h.get? b=some ob) (n:H b=none) (hx:b∉ex):∃sl,h1.get? b=some {ob with slots:=sl}:=by
 by_cases hb:b∈fs
 ·exact u.slot b ob q n hb hx
 ·exact⟨ob.slots,u.keep b ob q n hb hx⟩
theorem Un.kept (k:∀b u,h.get? b=some u->h'.get? b=some u):Un fs ex H H h h' :=
 ⟨λb ob q _ _ _=>k b ob q,λb ob q _ _ _=>⟨ob.slots,k b ob q⟩,λ_ _ _ n _=>n,λb ob q _=>⟨ob,k b ob q⟩,λ_ _ q=>q,λ_ _ _ q=>q,λ_ ps q=>⟨#[],by rw[q];simp⟩⟩
theorem Un.refl:Un fs ex H H h h:=Un.kept λ_ _ q=>q
theorem Un.laid (k:∀b u,h.get? b=some u->h'.get? b=some u) (hp:h.objs.size<=a) (hn:H a=none):Un fs ex H (upd H a o) h h' where
 keep:=λb u q _ _ _=>k b u q
 slot:=λb u q _ _ _=>⟨u.slots,k b u q⟩
 free:=λb u q n _=>by rw[jad (Ba (A8 (Aq q) hp))];exact n
 there:=λb u q _=>⟨u,k b u q⟩
 tups:=λb xs q=>by rw[jad (jae q hn)];exact q
 frzs:=λb u xs q=>by rw[jad (jae q hn)];exact q
 tbls:=λb ps q=>⟨#[],by rw[jad (jae q hn),q];simp⟩
theorem Un.write (mu:Mut (H x)) (he:e=x\/H e=some (.own x)) (k:∀b u,b≠e->h.get? b=some u->h'.get? b=some u) (heo:∃u,h'.get? e=some u):Un fs ex H (upd H x o) h h':=by
 have hx:∀b,H b=none->b≠x:=λb n z=>by subst z;rw[n]at mu;exact mu
 have hb:∀b,H b=none->b≠e:=λb n z=>by
  subst z;rcases he with r | r
  ·exact hx b n r
  ·rw[n]at r;cases r
 have hm:∀b u,H b=some u->¬Mut (some u)->b≠x:=λb u q nm z=>by subst z;rw[q]at mu;exact nm mu
 refine⟨λb u q n _ _=>k b u (hb b n) q,λb u q n _ _=>⟨u.slots,k b u (hb b n) q⟩,λb u q n _=>by rw[jad (hx b n)];exact n,λb u q _=>?_,
  λb xs q=>by rw[jad (hm b _ q λz=>z)];exact q,λb u xs q=>by rw[jad (hm b _ q λz=>z)];exact q,λb ps q=>⟨#[],by rw[jad (hm b _ q λz=>z),q];simp⟩⟩
 by_cases hbe:b=e
 ·subst hbe;exact heo
 ·exact⟨u,k b u hbe q⟩
end
def trk (h:Heap) (H:Hp):List Addr:=(Bt h.objs.size).filter λa=>(H a).isSome
def hidT (h:Heap) (H:Hp):Heap:=PySem.W.hideAll h (trk h H)
theorem jos (h:Heap) (H:Hp):(hidT h H).objs.size=h.objs.size:=PySem.W.hideAll_size _ _
theorem jq0 {h:Heap} {H:Hp} {b:Addr} {o:Obj} (e:h.get? b=some o) (n:H b=none):(hidT h H).get? b=some o :=
 PySem.W.hideAll_get _ e λhm=>by
  have q:(H b).isSome=true:=(Fs.mp hm).2;rw[n]at q;simp at q
theorem juf {h:Heap} {H:Hp} {b:Addr} {o:Obj} (e:(hidT h H).get? b=some o):h.get? b=some o/\H b=none:=by
 have e':h.get? b=some o:=PySem.W.of_hideAll (trk h H) e;refine⟨e',?_⟩;cases q:H b with
 |none=>rfl
 |some x =>
  have hm:b∈trk h H:=Fs.mpr ⟨C2.mpr (Aq e'),by simp[q]⟩;have z:(hidT h H).get? b=none:=PySem.W.hideAll_none (trk h H) hm;rw[z]at e;cases e
def jvc (g h:Heap) (L:Addr):List (Addr×Obj):=(Bt h.objs.size).filterMap λa=>if a=L\/(g.get? a).isSome=true then none else(h.get? a).map λo=>(a,o)
def rest (g h:Heap) (L d:Addr):List (Addr×Obj):=(jvc g h L).filter λp=>decide (p.1≠d)
structure Mod (K:Af) (mg:Str->Option Ad) (base:Heap):Prop where
 kin:K.In base
 glob:base.Ns C8 mg
 blt:∃mb,base.Ns builtinsNs mb/\∀x:Str,x≠"__name__"->mb x=Bm x
 nolimit:base.NoLimit
structure Cx where
 prog:Bd
 w:Bq
 K:Af
 mg:Str->Option Ad
 base:Heap
 A:Bj
 N:List Str
 s₀:Ah
 H₀:Hp
 env:Env
 outer:List Env
 stack:List Env
 ex:List Addr
 fn:Str->Bool
 calm:Bool
 pn:List (Addr×Obj)
 xe:Ad->Ah->Prop
def frs (l:List Env):List Addr:=l.filterMap (·.frame)
abbrev Cx.fs (X:Cx):List Addr:=frs X.outer
def Vis (sc:Ee) (x:Str):Prop:=sc.names.lookup x=some .local\/sc.names.lookup x=some .cell\/sc.names.lookup x=some .free
def Loc (sc:Ee) (x:Str):Prop:=sc.names.lookup x=some .local\/sc.names.lookup x=some .cell
def Look (env:Env) (h:Heap) (m:Str->Option Ad) (x:Str) (u:Ad):Prop :=
 (env.kindOf x=some .local/\m x=some u)\/((env.kindOf x=some .cell\/env.kindOf x=some .free)/\∃c,env.cells.lookup x=some c/\h.IsCell c (some u))
structure Cx.Ok (X:Cx):Prop where
 mod:Mod X.K X.mg X.base
 kind:X.env.scope.kind=.function
 glob:X.env.globals=C8
 blt:X.env.builtins=builtinsNs
 above:X.s₀.heap.objs.size<=X.env.locals
 inj:∀x y c,X.env.cells.lookup x=some c->X.env.cells.lookup y=some c->x=y
 has:∀x,(X.env.kindOf x=some .cell\/X.env.kindOf x=some .free)->∃c,X.env.cells.lookup x=some c
 cab:∀x c,X.fn x=true->X.env.cells.lookup x=some c->X.s₀.heap.objs.size<=c
 hd:X.calm=true->X.A.handled=none
 frames:X.A.frames=some X.stack
 stk:X.stack=X.outer\/(X.stack=X.env::X.outer/\X.env.frame=some X.env.locals)
 exf:∀b∈X.ex,b≠X.env.locals/\∀x c,X.env.cells.lookup x=some c->c≠b
 bs:∀b o,X.base.get? b=some o->X.s₀.heap.get? b=some o/\X.H₀ b=none
 bsz:X.base.objs.size<=X.s₀.heap.objs.size
 noex:∀b o,X.base.get? b=some o->b∉X.ex
 exfs:∀b∈X.ex,b∉X.fs
 funs:X.s₀.heap.FunFrames X.base X.outer
 frf:∀b∈X.fs,X.H₀ b=none
structure Inv (X:Cx) (pins:List (Addr×Obj)) (σ:List (Option V)) (H:Hp) (s:Ah):Prop where
 ok:X.Ok
 os:s.os=X.s₀.os
 bare:AllBare s.gens
 base:Un X.fs X.ex X.H₀ H X.s₀.heap s.heap
 loc:∃m,s.heap.Ns X.env.locals m/\∀(i:Nat) (x:Str) (v:V),X.N[i]?=some x->σ[i]?=some (some v)->Vis X.env.scope x->∃u,RelV v u/\Look X.env s.heap m x u
 cell:∀x c,X.env.cells.lookup x=some c->∃v,s.heap.IsCell c v
 free:H X.env.locals=none
 freeC:∀x c,X.env.cells.lookup x=some c->H c=none
 pin:∀p∈X.pn++pins,s.heap.get? p.1=some p.2/\H p.1=none/\p.1≠X.env.locals/\p.1∉X.fs/\∀v,p.2.data≠.cell v
 hok:HOk X.prog X.w H s.heap
 len:σ.length=X.N.length
section
variable {X:Cx} {pins:List (Addr×Obj)} {σ:List (Option V)} {H H':Hp} {s:Ah} {h':Heap}
theorem Cx.Ok.nofr (ok:X.Ok) {b:Addr} {o:Obj} (e:X.base.get? b=some o):b∉X.fs:=λhb=>by
 have:=(ok.funs.mem hb).1;rw[e]at this;cases this
theorem Inv.bs (I:Inv X pins σ H s):∀b o,X.base.get? b=some o->s.heap.get? b=some o/\H b=none:=λb o e =>
 ⟨I.base.keep b o (I.ok.bs b o e).1 (I.ok.bs b o e).2 (I.ok.nofr e) (I.ok.noex b o e),I.base.free b o (I.ok.bs b o e).1 (I.ok.bs b o e).2 (I.ok.noex b o e)⟩
theorem Inv.bk (I:Inv X pins σ H s):∀b o,X.base.get? b=some o->s.heap.get? b=some o:=λb o e=>(I.bs b o e).1
theorem Inv.mod (I:Inv X pins σ H s):Mod X.K X.mg X.base:=I.ok.mod
theorem Inv.kIn (I:Inv X pins σ H s):X.K.In s.heap:=I.ok.mod.kin.keeps I.bk
theorem Inv.lt (I:Inv X pins σ H s):X.env.locals < s.heap.objs.size:=let⟨_,hn,_⟩:=I.loc;hn.lt
theorem Inv.sz (I:Inv X pins σ H s):X.s₀.heap.objs.size<=s.heap.objs.size:=A5 I.ok.above (Fd I.lt)
theorem Inv.nofs (I:Inv X pins σ H s) {a:Addr} (h:s.heap.objs.size<=a):a∉X.fs:=λhb=>by
 obtain⟨_,o,ho,_⟩:=I.ok.funs.mem hb;exact absurd (A8 (Aq ho) (A5 I.sz h)) (Dl _)
theorem Inv.cne (I:Inv X pins σ H s):∀x c,X.env.cells.lookup x=some c->c≠X.env.locals:=λx c e z=>by
 obtain⟨v,o,ho,hd⟩:=I.cell x c e;obtain⟨m,⟨o',es,ep,ho',hd',_⟩,_⟩:=I.loc;rw[z,ho']at ho;cases ho;rw[hd']at hd;cases hd
theorem Inv.funs (I:Inv X pins σ H s):s.heap.FunFrames X.base X.outer:=by
 have all:∀(l:List Env),(∀b∈frs l,b∈X.fs)->X.s₀.heap.FunFrames X.base l->s.heap.FunFrames X.base l:=by
  intro l
  induction l with
  |nil=>intro _ _;trivial
  |cons env r ih =>
   intro hs hl;obtain⟨hk,⟨L,o,hf,hn,ho,hd⟩,hr⟩:=hl;have hL:L∈X.fs:=hs L (by unfold frs;rw[List.filterMap_cons,hf];exact An);obtain⟨sl,e⟩:=I.base.slot L o ho (I.ok.frf L hL) hL λz=>I.ok.exfs L z hL;exact⟨hk,⟨L,_,hf,hn,e,hd⟩,ih (λb hb=>hs b (by unfold frs;rw[List.filterMap_cons,hf];exact Ak _ hb)) hr⟩
 exact all X.outer (λ_ hb=>hb) I.ok.funs
theorem Inv.stack (I:Inv X pins σ H s):s.heap.FunFrames X.base X.stack:=by
 rcases I.ok.stk with e | ⟨e,hf⟩
 ·rw[e];exact I.funs
 ·rw[e];obtain⟨m,hn,_⟩:=I.loc;refine .cons (by rw[I.ok.kind];decide) hf hn ?_ I.funs;exact Heap.get?_none_of_le (A5 I.ok.bsz I.ok.above)
theorem Inv.stkSub (I:Inv X pins σ H s):∀b∈frs X.stack,b∈X.env.locals::X.fs:=λb hb=>by
 rcases I.ok.stk with e | ⟨e,hf⟩
 ·rw[e]at hb;exact Ak _ hb
 ·rw[e]at hb;unfold frs at hb;rw[List.filterMap_cons,hf]at hb;exact hb
theorem Inv.stkFree (I:Inv X pins σ H s):∀b∈frs X.stack,H b=none:=λb hb=>by
 rcases Ax.mp (I.stkSub b hb)with e | hb
 ·rw[e];exact I.free
 ·obtain⟨_,o,ho,_⟩:=I.ok.funs.mem hb;exact I.base.free b o ho (I.ok.frf b hb) λz=>I.ok.exfs b z hb
theorem Inv.step {g':Array GenState} {t':Nat} {d':Drawn} {ch:List Addr} (I:Inv X pins σ H s)
  (hch:∀b∈ch,(b∈X.ex\/X.s₀.heap.objs.size<=b)/\b≠X.env.locals/\(∀x c,X.env.cells.lookup x=some c->c≠b)/\∀p∈X.pn++pins,p.1≠b)
  (keep:∀b o,b≠X.env.locals->b∉X.fs->b∉ch->s.heap.get? b=some o->H b=none->h'.get? b=some o)
  (slot:∀b o,b≠X.env.locals->b∈X.fs->b∉ch->s.heap.get? b=some o->H b=none->∃sl,h'.get? b=some {o with slots:=sl}) (free:∀b o,b∉ch->s.heap.get? b=some o->H b=none->H' b=none)
  (there:∀b o,b∉ch->s.heap.get? b=some o->∃o',h'.get? b=some o')
  (tups:∀b xs,H b=some (.tup xs)->H' b=some (.tup xs)) (frzs:∀b o u,H b=some (.frz o u)->H' b=some (.frz o u)) (tbls:∀b ps,H b=some (.tbl ps)->∃more,H' b=some (.tbl (ps++more)))
  (ns:∀m,s.heap.Ns X.env.locals m->h'.Ns X.env.locals m) (hok:HOk X.prog X.w H' h') (hg:AllBare g') :
  Inv X pins σ H' {s with heap:=h',gens:=g',drawn:=d',toks:=t'}:=by
 have neL:∀b o,X.s₀.heap.get? b=some o->b≠X.env.locals:=λb o e=>Ba (A8 (Aq e) I.ok.above);have neC:∀b o,X.s₀.heap.get? b=some o->b∉X.ex->b∉ch:=λb o e hx hb=>by
  rcases(hch b hb).1 with z | z
  ·exact hx z
  ·exact absurd (A8 (Aq e) z) (Dl _)
 have cellK:∀x c,X.env.cells.lookup x=some c->∀v,s.heap.IsCell c v->h'.IsCell c v:=λx c e v ⟨o,ho,hd⟩=>by
  have nch:c∉ch:=λz=>(hch c z).2.2.1 x c e rfl;by_cases hc:c∈X.fs
  ·obtain⟨sl,q⟩:=slot c o (I.cne x c e) hc nch ho (I.freeC x c e);exact⟨_,q,hd⟩
  ·exact⟨o,keep c o (I.cne x c e) hc nch ho (I.freeC x c e),hd⟩
 refine⟨I.ok,I.os,hg,⟨λb o e n hb hx=>?_,λb o e n hb hx=>?_,λb o e n hx=>?_,λb o e hx=>?_,λb xs e=>tups b xs (I.base.tups b xs e),λb o xs e=>frzs b o xs (I.base.frzs b o xs e),λb ps e=>?_⟩,?_,λx c e=>?_,?_,λx c e=>?_,λp hp=>?_,hok,I.len⟩
 ·exact keep b o (neL b o e) hb (neC b o e hx) (I.base.keep b o e n hb hx) (I.base.free b o e n hx)
 ·obtain⟨sl,e1⟩:=I.base.slot b o e n hb hx;obtain⟨sl',e2⟩:=slot b _ (neL b o e) hb (neC b o e hx) e1 (I.base.free b o e n hx);exact⟨sl',e2⟩
 ·obtain⟨o',e1⟩:=I.base.there b o e hx;exact free b o' (neC b o e hx) e1 (I.base.free b o e n hx)
 ·obtain⟨o',e1⟩:=I.base.there b o e hx;exact there b o' (neC b o e hx) e1
 ·obtain⟨m1,e1⟩:=I.base.tbls b ps e;obtain⟨m2,e2⟩:=tbls b _ e1;exact⟨m1++m2,by rw[e2,Array.append_assoc]⟩
 ·obtain⟨m,hn,hl⟩:=I.loc;refine⟨m,ns m hn,λi x v e1 e2 e3=>?_⟩;obtain⟨u,r,l⟩:=hl i x v e1 e2 e3;refine⟨u,r,?_⟩;rcases l with l | ⟨k,c,e,z⟩
  ·exact .inl l
  ·exact .inr ⟨k,c,e,cellK x c e _ z⟩
 ·obtain⟨v,z⟩:=I.cell x c e;exact⟨v,cellK x c e v z⟩
 ·obtain⟨m,⟨o,_,_,ho,_⟩,_⟩:=I.loc;exact free _ o (λz=>(hch _ z).2.1 rfl) ho I.free
 ·obtain⟨v,o,ho,hd⟩:=I.cell x c e;exact free c o (λz=>(hch c z).2.2.1 x c e rfl) ho (I.freeC x c e)
 ·obtain⟨e,n,ne,nf,d⟩:=I.pin p hp;have nch:p.1∉ch:=λz=>(hch p.1 z).2.2.2 p hp rfl;exact⟨keep p.1 p.2 ne nf nch e n,free p.1 p.2 nch e n,ne,nf,d⟩
theorem Inv.un {t':Nat} (I:Inv X pins σ H s) (u:Un X.fs [] H H' s.heap h') (hok:HOk X.prog X.w H' h'):Inv X pins σ H' {s with heap:=h',toks:=t'}:=by
 obtain⟨m,⟨o,es,ep,ho,r⟩,_⟩:=id I.loc;obtain⟨sl,hL⟩:=u.any ho I.free (by simp);exact I.step (g':=s.gens) (d':=s.drawn) (ch:=[]) (λ_ z=>nomatch z) (λb o _ hb _ e n=>u.keep b o e n hb (by simp)) (λb o _ hb _ e n=>u.slot b o e n hb (by simp)) (λb o _ e n=>u.free b o e n (by simp)) (λb o _ e=>u.there b o e (by simp)) u.tups u.frzs u.tbls (λm' hm=>by
  obtain⟨o',es',ep',ho',r'⟩:=hm;rw[ho]at ho';cases ho';exact⟨_,es',ep',hL,r'⟩) hok I.bare
theorem Inv.call {g':Array GenState} {t':Nat} {d':Drawn} {ch:List Addr} (I:Inv X pins σ H s) (u:Un (frs X.stack) ch H H' s.heap h') (hok:HOk X.prog X.w H' h') (hg:AllBare g')
  (hch:∀b∈ch,(b∈X.ex\/X.s₀.heap.objs.size<=b)/\b≠X.env.locals/\(∀x c,X.env.cells.lookup x=some c->c≠b)/\∀p∈X.pn++pins,p.1≠b) :
  Inv X pins σ H' {s with heap:=h',gens:=g',drawn:=d',toks:=t'}:=by
 obtain⟨m,⟨o,es,ep,ho,r⟩,_⟩:=id I.loc;obtain⟨sl,hL⟩:=u.any ho I.free λz=>(hch _ z).2.1 rfl;exact I.step (ch:=ch) hch (λb o hL hb hc e n=>u.keep b o e n (λz=>(Ax.mp (I.stkSub b z)).elim hL hb) hc) (λb o _ _ hc e n=>u.any e n hc) (λb o hc e n=>u.free b o e n hc) (λb o hc e=>u.there b o e hc) u.tups u.frzs u.tbls (λm' hm=>by
  obtain⟨o',es',ep',ho',r'⟩:=hm;rw[ho]at ho';cases ho';exact⟨_,es',ep',hL,r'⟩) hok hg
theorem Inv.turned {t':Nat} {it:Addr} (I:Inv X pins σ H s) (k:∀b o,b≠it->s.heap.get? b=some o->h'.get? b=some o) (hn:H it=none) (hL:it≠X.env.locals)
  (h1:it∈X.ex\/X.s₀.heap.objs.size<=it) (h2:∀x c,X.env.cells.lookup x=some c->c≠it) (h3:∀p∈X.pn++pins,p.1≠it):Inv X pins σ H {s with heap:=h',toks:=t'}:=by
 have nit:∀b u,H b=some u->b≠it:=λb u e z=>by rw[z,hn]at e;cases e
 refine I.step (g':=s.gens) (d':=s.drawn) (ch:=[it]) (λb hb=>?_) (λb o _ _ hc e _=>k b o (λz=>hc (by simp[z])) e) (λb o _ _ hc e _=>⟨o.slots,k b o (λz=>hc (by simp[z])) e⟩) (λ_ _ _ _ n=>n)
  (λb o hc e=>⟨o,k b o (λz=>hc (by simp[z])) e⟩) (λ_ _ e=>e) (λ_ _ _ e=>e) (λb ps e=>⟨#[],by rw[e];simp⟩) (λm hm=>?_) (λb u e=>?_) I.bare
 ·have e:b=it:=by simpa using hb
  subst e;exact⟨h1,hL,h2,h3⟩
 ·obtain⟨o,es,ep,ho,r⟩:=hm;exact⟨o,es,ep,k _ o (Ne.symm hL) ho,r⟩
 ·refine(I.hok b u e).stay (λc v hc q=>k c v ?_ q) (λ_ q=>q) λ_ _ q=>q;rcases hc with z | z
  ·rw[z];exact nit b u e
  ·exact nit c _ z
theorem Inv.tok (I:Inv X pins σ H s) (t:Nat):Inv X pins σ H {s with toks:=t}:=I.un (h':=s.heap) (t':=t) Un.refl I.hok
theorem Inv.kept {t':Nat} (I:Inv X pins σ H s) (k:∀b u,s.heap.get? b=some u->h'.get? b=some u):Inv X pins σ H {s with heap:=h',toks:=t'}:=I.un (Un.kept k) (I.hok.kept k)
theorem Inv.laid {a:Addr} {o:HO} {t':Nat} (I:Inv X pins σ H s) (k:∀b u,s.heap.get? b=some u->h'.get? b=some u) (hp:s.heap.objs.size<=a) (new:ObjOk X.prog X.w (upd H a o) h' a o) :
  Inv X pins σ (upd H a o) {s with heap:=h',toks:=t'}:=I.un (Un.laid k hp (I.hok.fresh hp)) (I.hok.laid k hp new)
theorem Inv.write {x e:Addr} {o:HO} {t':Nat} (I:Inv X pins σ H s) (mu:Mut (H x)) (he:e=x\/H e=some (.own x)) (k:∀b u,b≠e->s.heap.get? b=some u->h'.get? b=some u) (heo:∃u,h'.get? e=some u)
  (new:ObjOk X.prog X.w (upd H x o) h' x o):Inv X pins σ (upd H x o) {s with heap:=h',toks:=t'}:=I.un (Un.write mu he k heo) (I.hok.write mu he k heo new)
theorem Inv.pins_of {pins':List (Addr×Obj)} (I:Inv X pins σ H s) (h:∀p∈pins',s.heap.get? p.1=some p.2/\H p.1=none/\p.1≠X.env.locals/\p.1∉X.fs/\∀v,p.2.data≠.cell v):Inv X pins' σ H s :=
 ⟨I.ok,I.os,I.bare,I.base,I.loc,I.cell,I.free,I.freeC,λp hp=>(A9.mp hp).elim (λz=>I.pin p (Dd _ z)) (h p),I.hok,I.len⟩
theorem jkv {N:List Str} (hN:N.Nodup) {i j:Nat} {x:Str} (a:N[i]?=some x) (b:N[j]?=some x):i=j:=by
 obtain⟨h1,e1⟩:=Bn.mp a;obtain⟨h2,e2⟩:=Bn.mp b;exact(List.getElem_inj hN).mp (e1.trans e2.symm)
theorem jig {M:Model} {A:Bj} {E:Ad->Ah->Prop} {i:Nat} {x:Str} {v:V} {u:Ad} {Q:Unit->Ah->Prop} (I:Inv X pins σ H s) (hN:X.N.Nodup) (hi:X.N[i]?=some x) (hx:Loc X.env.scope x) (r:RelV v u)
  (h:∀s',Inv X pins (σ.set i (some v)) H s'->(∃a,Cr a s.heap s'.heap/\(a=X.env.locals\/X.env.cells.lookup x=some a))->Q () s') (hf:X.fn x=true\/X.env.scope.names.lookup x=some .local:=by first | exact .inl rfl | exact .inr rfl | assumption):Aw M A (storeName X.env x u) Q E s:=by
 obtain⟨m,hn,hl⟩:=id I.loc;have hcls:(X.env.scope.kind==.class || (X.env.scope.kind==.module&&X.env.locals != X.env.globals))=false:=by rw[I.ok.kind];rfl
 have hiσ:i < σ.length:=by rw[I.len];exact(Bn.mp hi).1
 have cne:=I.cne;have tracked:∀{a:Addr} {h':Heap},(∃o,s.heap.get? a=some o/\H a=none)->Cr a s.heap h'->HOk X.prog X.w H h':=λ{a h'} ha hs b ob e=>by
  obtain⟨_,_,hfree⟩:=ha;refine(I.hok b ob e).stay (λc w' hc q=>(hs.2 c ?_).trans q) (λ_ q=>q) λ_ _ q=>q
  rintro rfl
  rcases hc with rfl | hc
  ·rw[hfree]at e;cases e
  ·rw[hfree]at hc;cases hc
 rcases hx with hk | hk
 ·refine wpAny_storeName_local hk hn (λh' hn' hs=>?_) hcls;obtain⟨oL,_,_,hoL,_⟩:=id hn;refine h _ ⟨I.ok,I.os,I.bare,⟨λb o e n hb hx=>?_,λb o e n hb hx=>?_,I.base.free,λb o e hx=>?_,I.base.tups,I.base.frzs,I.base.tbls⟩,⟨_,hn',λj y v' e1 e2 e3=>?_⟩,λy c e=>?_,I.free,I.freeC,λp hp=>?_,tracked ⟨oL,hoL,I.free⟩ hs,by simpa using I.len⟩ ⟨_,hs,.inl rfl⟩
  ·exact(hs.2 b (Ba (A8 (Aq e) I.ok.above))).trans (I.base.keep b o e n hb hx)
  ·obtain⟨sl,e1⟩:=I.base.slot b o e n hb hx;exact⟨sl,(hs.2 b (Ba (A8 (Aq e) I.ok.above))).trans e1⟩
  ·obtain⟨o',e1⟩:=I.base.there b o e hx;exact⟨o',(hs.2 b (Ba (A8 (Aq e) I.ok.above))).trans e1⟩
  ·by_cases hj:j=i
   ·subst hj;rw[hi]at e1;cases e1;rw[List.getElem?_set_self hiσ]at e2;cases e2;exact⟨u,r,.inl ⟨hk,by simp⟩⟩
   ·rw[Cz (Ne.symm hj)]at e2;obtain⟨u',r',q⟩:=hl j y v' e1 e2 e3;refine⟨u',r',?_⟩;rcases q with⟨k,e⟩ | ⟨k,c,e,z⟩
    ·refine .inl ⟨k,?_⟩;have:y≠x:=λe=>hj (jkv hN e1 (e▸hi));simp[this,e]
    ·exact .inr ⟨k,c,e,z.sameBut hs (cne y c e)⟩
  ·obtain⟨w',z⟩:=I.cell y c e;exact⟨w',z.sameBut hs (cne y c e)⟩
  ·obtain⟨e,n,ne,nf,d⟩:=I.pin p hp;exact⟨(hs.2 p.1 ne).trans e,n,ne,nf,d⟩
 ·have hfn:X.fn x=true:=by
   rcases hf with z | z
   ·exact z
   ·rw[z]at hk;cases hk
  obtain⟨c,hc⟩:=I.ok.has x (.inl hk);obtain⟨w',z⟩:=I.cell x c hc;refine wpAny_storeName_cell I.ok.kind hk hc z (λh' hc' hs=>?_);obtain⟨oc,hoc,hocd⟩:=id z;refine h {s with heap:=h'} ⟨I.ok,I.os,I.bare,⟨λb o e n hb hx=>?_,λb o e n hb hx=>?_,I.base.free,λb o e hx=>?_,I.base.tups,I.base.frzs,I.base.tbls⟩,⟨m,hn.sameBut hs (Ne.symm (cne x c hc)),λj y v' e1 e2 e3=>?_⟩,λy c' e=>?_,I.free,I.freeC,λp hp=>?_,tracked ⟨oc,hoc,I.freeC x c hc⟩ hs,by simpa using I.len⟩ ⟨c,hs,.inr hc⟩
  ·exact(hs.2 b (Ba (A8 (Aq e) (I.ok.cab x c hfn hc)))).trans (I.base.keep b o e n hb hx)
  ·obtain⟨sl,e1⟩:=I.base.slot b o e n hb hx;exact⟨sl,(hs.2 b (Ba (A8 (Aq e) (I.ok.cab x c hfn hc)))).trans e1⟩
  ·obtain⟨o',e1⟩:=I.base.there b o e hx;exact⟨o',(hs.2 b (Ba (A8 (Aq e) (I.ok.cab x c hfn hc)))).trans e1⟩
  ·by_cases hj:j=i
   ·subst hj;rw[hi]at e1;cases e1;rw[List.getElem?_set_self hiσ]at e2;cases e2;exact⟨u,r,.inr ⟨.inl hk,c,hc,hc'⟩⟩
   ·rw[Cz (Ne.symm hj)]at e2;obtain⟨u',r',q⟩:=hl j y v' e1 e2 e3;refine⟨u',r',?_⟩;rcases q with q | ⟨k,c',e,z'⟩
    ·exact .inl q
    ·refine .inr ⟨k,c',e,z'.sameBut hs ?_⟩
     rintro rfl
     exact hj (jkv hN e1 (I.ok.inj _ _ _ e hc▸hi))
  ·by_cases hcc:c'=c
   ·subst hcc;exact⟨_,hc'⟩
   ·obtain⟨w2,z2⟩:=I.cell y c' e;exact⟨w2,z2.sameBut hs hcc⟩
  ·obtain⟨e,n,ne,nf,d⟩:=I.pin p hp;refine⟨(hs.2 p.1 ?_).trans e,n,ne,nf,d⟩;intro q;rw[q,hoc]at e;have q':oc=p.2:=Bh e;exact d w' (by rw[<-q'];exact hocd)
theorem jkj {M:Model} {A:Bj} {E:Ad->Ah->Prop} {i:Nat} {x:Str} {v:V} {u:Ad} {Q:Unit->Ah->Prop} (I:Inv X pins σ H s) (hN:X.N.Nodup) (hi:X.N[i]?=some x) (hx:Loc X.env.scope x) (r:RelV v u)
  (h:∀s',Inv X pins (σ.set i (some v)) H s'->Q () s') (hf:X.fn x=true\/X.env.scope.names.lookup x=some .local:=by first | exact .inl rfl | exact .inr rfl | assumption):Aw M A (storeName X.env x u) Q E s :=
 jig I hN hi hx r (λs' I' _=>h s' I') hf
theorem Inv.call' {s':Ah} {ch:List Addr} (I:Inv X pins σ H s) (ho:s'.os=s.os) (u:Un (frs X.stack) ch H H' s.heap s'.heap) (hok:HOk X.prog X.w H' s'.heap) (hg:AllBare s'.gens)
  (hch:∀b∈ch,(b∈X.ex\/X.s₀.heap.objs.size<=b)/\b≠X.env.locals/\(∀x c,X.env.cells.lookup x=some c->c≠b)/\∀p∈X.pn++pins,p.1≠b):Inv X pins σ H' s':=by
 obtain⟨h',g',d',t',o'⟩:=s';have e:o'=s.os:=ho;subst e;exact I.call (g':=g') (t':=t') (d':=d') u hok hg hch
end
abbrev XK:=Ad->Option Addr->Hp->Prop
abbrev St:=List (Option V)
abbrev VK:=V->Hp->Prop
abbrev TE:=St->Hp->VK->Prop
abbrev TT:=St->Hp->(Bool->Hp->Prop)->Prop
abbrev TA:=St->Hp->(List V->Hp->Prop)->Prop
structure Ends where
 nx:St->Hp->Prop
 rt:VK
 bk:St->Hp->Prop:=λ_ _=>False
 ct:St->Hp->Prop:=λ_ _=>False
abbrev TS:=Ends->St->Hp->Prop
def EP (X:Cx) (pins:List (Addr×Obj)) (σ:St) (Q:VK) (u:Ad) (s':Ah):Prop:=∃v H',Inv X pins σ H' s'/\RelV v u/\Q v H'
def TP (X:Cx) (pins:List (Addr×Obj)) (σ:St) (Q:Bool->Hp->Prop) (b:Bool) (s':Ah):Prop:=∃H',Inv X pins σ H' s'/\Q b H'
def AP (X:Cx) (pins:List (Addr×Obj)) (σ:St) (Q:List V->Hp->Prop) (us:List Ad) (s':Ah):Prop:=∃vs H',Inv X pins σ H' s'/\Vals vs us/\Q vs H'
def SP (X:Cx) (pins:List (Addr×Obj)) (D:Ends) (f:Flow) (s':Ah):Prop :=
 match f with
 |.next=>∃σ' H',Inv X pins σ' H' s'/\D.nx σ' H'
 |.brk=>∃σ' H',Inv X pins σ' H' s'/\D.bk σ' H'
 |.cont=>∃σ' H',Inv X pins σ' H' s'/\D.ct σ' H'
 |.ret u=>∃v σ' H',Inv X pins σ' H' s'/\RelV v u/\D.rt v H'
def PE (X:Cx) (e:Expr) (t:TE):Prop :=
 ∀(pins:List (Addr×Obj)) (s:Ah) (σ:St) (H:Hp) (Q:VK),Inv X pins σ H s->t σ H Q->Aw (A1 X.prog X.w) X.A (eval e X.env) (EP X pins σ Q) X.xe s
def PT (X:Cx) (e:Expr) (t:TT):Prop :=
 ∀(pins:List (Addr×Obj)) (s:Ah) (σ:St) (H:Hp) (Q:Bool->Hp->Prop),Inv X pins σ H s->t σ H Q->Aw (A1 X.prog X.w) X.A (isTrue e X.env (eval e X.env)) (TP X pins σ Q) X.xe s
def PW (X:Cx) (e:Expr) (t:TT):Prop :=
 ∀(whole:Sem Ad) (pins:List (Addr×Obj)) (s:Ah) (σ:St) (H:Hp) (Q:Bool->Hp->Prop),Inv X pins σ H s->t σ H Q->Aw (A1 X.prog X.w) X.A (isTrue e X.env whole) (TP X pins σ Q) X.xe s
theorem PW.pt {X:Cx} {e:Expr} {t:TT} (h:PW X e t):PT X e t:=h _
def PA (X:Cx) (es:List Expr) (t:TA):Prop :=
 ∀(pos:Pos) (pins:List (Addr×Obj)) (s:Ah) (σ:St) (H:Hp) (Q:List V->Hp->Prop),Inv X pins σ H s->t σ H Q->Aw (A1 X.prog X.w) X.A (spliced (Da pos (Au es X.env))) (AP X pins σ Q) X.xe s
def PS (X:Cx) (st:Stmt) (t:TS):Prop :=
 ∀(pins:List (Addr×Obj)) (s:Ah) (σ:St) (H:Hp) (D:Ends),Inv X pins σ H s->t D σ H->Aw (A1 X.prog X.w) X.A (exec st X.env) (SP X pins D) X.xe s
def PSs (X:Cx) (st:List Stmt) (t:TS):Prop :=
 ∀(pins:List (Addr×Obj)) (s:Ah) (σ:St) (H:Hp) (D:Ends),Inv X pins σ H s->t D σ H->Aw (A1 X.prog X.w) X.A (execs st X.env) (SP X pins D) X.xe s
theorem thn {α:Type} {t:Sem α} {Q Q':α->Ah->Prop} {M:Model} {A:Bj} {E:Ad->Ah->Prop} {s:Ah} (h:Aw M A t Q E s) (hQ:∀a s,Q a s->Q' a s):Aw M A t Q' E s:=Ci h hQ λ_ _ x=>x
section
variable {X:Cx}
theorem bin {a b:Expr} {ta tb:TE} (ha:PE X a ta) (hb:PE X b tb) {pins:List (Addr×Obj)} {s:Ah} {σ:St} {H:Hp} {R:V->V->Hp->Prop} (I:Inv X pins σ H s) (h:ta σ H λx H1=>tb σ H1 λy H2=>R x y H2)
  {α:Type} {Q:α->Ah->Prop} {f:Ad->Ad->Sem α}
  (hf:∀v u s2 x y H2,Inv X pins σ H2 s2->RelV x v->RelV y u->R x y H2->Aw (A1 X.prog X.w) X.A (f v u) Q X.xe s2) :
  Aw (A1 X.prog X.w) X.A (eval a X.env) (λv s₁=>Aw (A1 X.prog X.w) X.A (eval b X.env) (λu s₂=>Aw (A1 X.prog X.w) X.A (f v u) Q X.xe s₂) X.xe s₁) X.xe s:=by
 refine thn (ha pins s σ H _ I h) λv s1 ⟨x,H1,I1,r1,q1⟩=>?_;refine thn (hb pins s1 σ H1 _ I1 q1) λu s2 ⟨y,H2,I2,r2,q2⟩=>?_;exact hf v u s2 x y H2 I2 r1 r2 q2
def tVar (i:Nat):TE:=λσ H Q=>∃v,σ[i]?=some (some v)/\Q v H
def tC (v:V):TE:=λ_ H Q=>Q v H
theorem jcc {i:Nat} {x:Str} {pos:Pos} (hN:X.N[i]?=some x) (hv:Vis X.env.scope x) (hd:(x==("__debug__":Str))=false:=by decide) (hcd:(x==("__classdict__":Str))=false:=by decide):PE X (.Name x pos) (tVar i):=by
 intro pins s σ H Q I h;obtain⟨v,e,h⟩:=h;obtain⟨m,hn,hl⟩:=I.loc;obtain⟨u,r,l⟩:=hl i x v hN e hv;have fin:EP X pins σ Q u s:=⟨v,H,I,r,h⟩;rcases l with⟨hk,hm⟩ | ⟨hk,c,hc,hcell⟩
 ·exact wpAny_Name (wpAny_loadName_local I.ok.kind hk hn hm fin) hd
 ·rcases hk with hk | hk
  ·exact wpAny_Name (wpAny_loadName_cell I.ok.kind hk hc hcell fin) hd
  ·exact wpAny_Name (wpAny_loadName_free I.ok.kind hk hc hcell fin hcd) hd
theorem jan {i j pos}:PE X (.Constant (.int i) j pos) (tC (.int i)):=λ_ _ _ H _ I h=>wpAny_Constant_int ⟨.int i,H,I.tok _,⟨_,rfl⟩,h⟩
theorem jzi {b j pos}:PE X (.Constant (.bool b) j pos) (tC (.bl b)):=λ_ _ _ H _ I h=>Constant_bool ⟨.bl b,H,I,rfl,h⟩
theorem jkt {j pos}:PE X (.Constant .none j pos) (tC .non):=λ_ _ _ H _ I h=>Constant_none ⟨.non,H,I,rfl,h⟩
theorem jwx {x j pos}:PE X (.Constant (.str x) j pos) (tC (.str x)):=λ_ _ _ H _ I h=>Calls.Constant_str ⟨.str x,H,I.tok _,⟨_,rfl⟩,h⟩
def Gl (X:Cx) (x:Str):Prop:=X.env.kindOf x=some .globalImplicit
theorem jj6 {E:Ad->Ah->Prop} {pins:List (Addr×Obj)} {s:Ah} {σ:St} {H:Hp} {x:Str} {u:Ad} {pos:Pos} {Q:Ad->Ah->Prop} (I:Inv X pins σ H s) (hg:Gl X x) (hm:X.mg x=some u) (h:Q u s)
  (hd:(x==("__debug__":Str))=false:=by decide):Aw (A1 X.prog X.w) X.A (eval (.Name x pos) X.env) Q E s :=
 Calls.Name_function_global I.ok.kind hg (Calls.loadGlobal_global (by rw[I.ok.glob];exact I.mod.glob.keeps I.bk) hm h) hd
theorem jgi {E:Ad->Ah->Prop} {pins:List (Addr×Obj)} {s:Ah} {σ:St} {H:Hp} {x:Str} {u:Ad} {pos:Pos} {Q:Ad->Ah->Prop} (I:Inv X pins σ H s) (hg:Gl X x) (hm:X.mg x=none) (hv:Bm x=some u) (h:Q u s)
  (hn:x≠"__name__":=by decide) (hd:(x==("__debug__":Str))=false:=by decide):Aw (A1 X.prog X.w) X.A (eval (.Name x pos) X.env) Q E s:=by
 obtain⟨mb,h1,h2⟩:=I.mod.blt;exact Calls.Name_function_global I.ok.kind hg (Calls.loadGlobal_builtin (by rw[I.ok.glob];exact I.mod.glob.keeps I.bk) hm (by rw[I.ok.blt];exact h1.keeps I.bk) ((h2 x hn).trans hv) h) hd
theorem jt3 {x:Str} {v:V} {u:Ad} {pos:Pos} (hg:Gl X x) (hm:X.mg x=none) (hv:Bm x=some u) (r:RelV v u) (hn:x≠"__name__":=by decide) (hd:(x==("__debug__":Str))=false:=by decide):PE X (.Name x pos) (tC v) :=
 λ_ _ _ H _ I h=>jgi I hg hm hv ⟨v,H,I,r,h⟩ hn hd
variable {a b:Expr} {ta tb:TE} {pos:Pos}
def PC (X:Cx) (op:CmpOp) (a b:Expr) (t:TE):Prop :=
 ∀(pins:List (Addr×Obj)) (s:Ah) (σ:St) (H:Hp) (Q:VK),Inv X pins σ H s->t σ H Q ->
  Aw (A1 X.prog X.w) X.A (eval a X.env) (λv s₁=>Aw (A1 X.prog X.w) X.A (eval b X.env) (λu s₂=>Aw (A1 X.prog X.w) X.A (B4 op v u) (EP X pins σ Q) X.xe s₂) X.xe s₁) X.xe s
theorem jqs (b:Expr) {op:CmpOp} (h:op≠.In) (h2:op≠.NotIn):D6 op b=false:=by
 have e1:(op==CmpOp.In)=false:=by cases op<;>first | rfl | exact absurd rfl h
 have e2:(op==CmpOp.NotIn)=false:=by cases op<;>first | rfl | exact absurd rfl h2
 cases b<;>simp[D6,e1,e2]
def tB (t:TE):TT:=λσ H Q=>t σ H λx H1=>∃c,x=.bl c/\Q c H1
theorem j0t {op:CmpOp} {t:TE} (h:PC X op a b t) (h1:D6 op b=false:=by first | exact jqs _ (by decide) (by decide) | rfl):PT X (.Compare a [op] [b] pos) (tB t):=by
 intro pins s σ H Q I hw;refine wpAny_isTrue_Compare1 (thn (h pins s σ H _ I hw) λv s1 h1=>thn h1 λu s2 h2=>thn h2 λc s3 ⟨x,H1,I1,r1,q1⟩=>?_) h1;obtain⟨d,rfl,q⟩:=q1;cases r1;exact wpAny_truthy_bool ⟨H1,I1,q⟩
theorem jwr {e:Expr} {t:TE} (h:PE X e t) (he:∀whole,isTrue e X.env whole=(do let v <-whole;standAt e.pos;holding [v] (truthy v)):=by intro _;rfl):PT X e (tB t):=by
 intro pins s σ H Q I hw;refine isTrue_plain (thn (h pins s σ H _ I hw) λv s1 ⟨x,H1,I1,r1,q1⟩=>?_) (he _);obtain⟨d,rfl,q⟩:=q1;cases r1;exact wpAny_truthy_bool ⟨H1,I1,q⟩
variable {tA tB':TT} {rest:List Expr}
def tAnd (t u:TT):TT:=λσ H Q=>t σ H λc H1=>if c=true then u σ H1 Q else Q false H1
def tOr (t u:TT):TT:=λσ H Q=>t σ H λc H1=>if c=true then Q true H1 else u σ H1 Q
def tNot (t:TT):TT:=λσ H Q=>t σ H λc H1=>Q (!c) H1
theorem jnp (ha:PT X a tA):PW X (.BoolOp .And [a] pos) tA:=by
 intro wh pins s σ H Q I h;refine isTrue_and (thn (ha pins s σ H Q I h) λc s1 e=>?_);cases c with
 |true=>exact isTrue_and_nil e
 |false=>exact e
theorem jwq (ha:PT X a tA):PW X (.BoolOp .Or [a] pos) tA:=by
 intro wh pins s σ H Q I h;refine isTrue_or (thn (ha pins s σ H Q I h) λc s1 e=>?_);cases c with
 |false=>exact isTrue_or_nil e
 |true=>exact e
theorem jr3 (ha:PT X a tA) (hb:PW X (.BoolOp .And (b::rest) pos) tB'):PW X (.BoolOp .And (a::b::rest) pos) (tAnd tA tB'):=by
 intro wh pins s σ H Q I h;refine isTrue_and (thn (ha pins s σ H _ I h) λc s1 ⟨H1,I1,q1⟩=>?_);cases c with
 |true=>exact hb wh pins s1 σ H1 Q I1 q1
 |false=>exact⟨H1,I1,q1⟩
theorem jzf (ha:PT X a tA) (hb:PW X (.BoolOp .Or (b::rest) pos) tB'):PW X (.BoolOp .Or (a::b::rest) pos) (tOr tA tB'):=by
 intro wh pins s σ H Q I h;refine isTrue_or (thn (ha pins s σ H _ I h) λc s1 ⟨H1,I1,q1⟩=>?_);cases c with
 |true=>exact⟨H1,I1,q1⟩
 |false=>exact hb wh pins s1 σ H1 Q I1 q1
theorem jws (ha:PT X a tA):PT X (.UnaryOp .Not a pos) (tNot tA):=by
 intro pins s σ H Q I h;exact isTrue_not (ha pins s σ H (λc H1=>Q (!c) H1) I h)
def jvq (ta tb:TE):TE:=λσ H Q=>ta σ H λx H1=>∃c,x=.bl c/\if c=true then tb σ H1 Q else Q (.bl false) H1
theorem jwy {op} {t:TE} (h:PE X a t):PE X (.BoolOp op [a] pos) t:=λpins s σ H Q I hw=>BoolOp_one (h pins s σ H Q I hw)
theorem jw0 (ha:PE X a ta) (hb:PE X (.BoolOp .And (b::rest) pos) tb):PE X (.BoolOp .And (a::b::rest) pos) (jvq ta tb):=by
 intro pins s σ H Q I h;refine BoolOp_and (thn (ha pins s σ H _ I h) λv s1 ⟨x,H1,I1,r1,q1⟩=>?_);obtain⟨c,rfl,q1⟩:=q1;cases r1;refine wpAny_truthy_bool ?_;cases c with
 |true=>exact hb pins s1 σ H1 Q I1 q1
 |false=>exact⟨.bl false,H1,I1,rfl,q1⟩
def tIf (t:TT) (ta tb:TE):TE:=λσ H Q=>t σ H λc H1=>if c=true then ta σ H1 Q else tb σ H1 Q
theorem jqj {c:Expr} (hc:PT X c tA) (ha:PE X a ta) (hb:PE X b tb):PE X (.IfExp c a b pos) (tIf tA ta tb):=by
 intro pins s σ H Q I h;refine wpAny_IfExp (thn (hc pins s σ H _ I h) λd s1 ⟨H1,I1,q1⟩=>?_);cases d with
 |true=>exact ha pins s1 σ H1 Q I1 q1
 |false=>exact hb pins s1 σ H1 Q I1 q1
end
def SqL (K:Af) (H:Hp) (a:Addr) (xs:List V):Prop :=
 Rd H a (.lst xs) \/
  ∃(o:Obj) (its:Array Ad) (n:Nat),K.lookup a=some o/\o.cls=.type "list"/\o.dict=none/\o.data=.seq its n/\its.size<=Az/\Vals xs its.toList
def SqT (K:Af) (H:Hp) (a:Addr) (xs:List V):Prop :=
 Rd H a (.tup xs) \/
  ∃(o:Obj) (its:Array Ad) (n:Nat),K.lookup a=some o/\o.cls=.type "tuple"/\o.data=.seq its n/\its.size<=Az/\Vals xs its.toList
def absV:Ad->Option V
 |.none=>some .non
 |.bool b=>some (.bl b)
 |.int i _=>some (.int i)
 |.str x _=>some (.str x)
 |.bytes b _=>some (.byt b)
 |.float b _=>some (.flt b)
 |.ref a=>some (.ref a)
 |.type n=>some (.ty n)
 |_=>none
theorem RelV.abs {x:V} {u:Ad} (r:RelV x u):absV u=some x:=by
 cases x with
 |non=>cases r;rfl
 |bl _=>cases r;rfl
 |int _=>obtain⟨t,rfl⟩:=r;rfl
 |str _=>obtain⟨t,rfl⟩:=r;rfl
 |byt _=>obtain⟨t,rfl⟩:=r;rfl
 |flt _=>obtain⟨t,rfl⟩:=r;rfl
 |ref _=>cases r;rfl
 |ty _=>cases r;rfl
theorem RelV.inj {x y:V} {u:Ad} (r:RelV x u) (q:RelV y u):x=y:=Bh (r.abs.symm.trans q.abs)
theorem Vals.inj:∀{xs ys:List V} {us:List Ad},Vals xs us->Vals ys us->xs=ys
 |_,_,_,.nil,.nil=>rfl
 |_,_,_,.cons r t,.cons r' t'=>by rw[r.inj r',Vals.inj t t']
section
variable {X:Cx} {pins:List (Addr×Obj)} {σ:St} {H:Hp} {s:Ah} {a:Addr} {xs ys:List V}
theorem SqL.of {K:Af} (h:H a=some (.lst xs)):SqL K H a xs:=.inl (.inl h)
theorem SqT.of {K:Af} (h:H a=some (.tup xs)):SqT K H a xs:=.inl (.inl h)
theorem Inv.list (I:Inv X pins σ H s) (h:SqL X.K H a xs):∃its:List Ad,Vals xs its/\PlainL s.heap a its.toArray/\xs.length<=Az:=by
 rcases h with h | ⟨o,its,n,hk,hc,hd,hs,hz,r⟩
 ·obtain⟨z,its,n,r,e⟩:=h.ok I.hok;exact⟨its,r,⟨_,n,e,rfl,rfl,rfl⟩,z⟩
 ·refine⟨its.toList,r,⟨o,n,I.kIn a o hk,hc,hd,by simpa using hs⟩,?_⟩;have e:=r.length;simp only[A7]at e;omega
theorem Inv.tuple (I:Inv X pins σ H s) (h:SqT X.K H a xs):∃its:List Ad,Vals xs its/\IsTup s.heap a its.toArray/\xs.length<=Az:=by
 rcases h with h | ⟨o,its,n,hk,hc,hs,hz,r⟩
 ·obtain⟨z,its,r,p⟩:=h.ok I.hok;exact⟨its,r,p.tup,z⟩
 ·refine⟨its.toList,r,⟨o,I.kIn a o hk,hc,n,by simpa using hs⟩,?_⟩;have e:=r.length;simp only[A7]at e;omega
theorem Inv.list_inj (I:Inv X pins σ H s) (h:SqL X.K H a xs) (h':SqL X.K H a ys):xs=ys:=by
 obtain⟨its,r,⟨o,n,e,_,_,d⟩,_⟩:=I.list h;obtain⟨its',r',⟨o',n',e',_,_,d'⟩,_⟩:=I.list h';rw[e]at e';cases e';rw[d]at d';injection d' with d1 _;have:its=its':=by simpa using congrArg Array.toList d1
 subst this;exact r.inj r'
theorem Inv.tuple_inj (I:Inv X pins σ H s) (h:SqT X.K H a xs) (h':SqT X.K H a ys):xs=ys:=by
 obtain⟨its,r,⟨o,e,_,n,d⟩,_⟩:=I.tuple h;obtain⟨its',r',⟨o',e',_,n',d'⟩,_⟩:=I.tuple h';rw[e]at e';cases e';rw[d]at d';injection d' with d1 _;have:its=its':=by simpa using congrArg Array.toList d1
 subst this;exact r.inj r'
end
abbrev Cx.wish (X:Cx) (E:Ad->Ah->Prop):Cx:={ X with xe:=E}
abbrev Cx.nox (X:Cx):Cx:=X.wish λ_ _=>False
theorem Cx.Ok.wish {X:Cx} (ok:X.Ok) (E:Ad->Ah->Prop):(X.wish E).Ok :=
 ⟨ok.mod,ok.kind,ok.glob,ok.blt,ok.above,ok.inj,ok.has,ok.cab,ok.hd,ok.frames,ok.stk,ok.exf,ok.bs,ok.bsz,ok.noex,ok.exfs,ok.funs,ok.frf⟩
theorem Cx.Ok.unwish {X:Cx} {E:Ad->Ah->Prop} (ok:(X.wish E).Ok):X.Ok :=
 ⟨ok.mod,ok.kind,ok.glob,ok.blt,ok.above,ok.inj,ok.has,ok.cab,ok.hd,ok.frames,ok.stk,ok.exf,ok.bs,ok.bsz,ok.noex,ok.exfs,ok.funs,ok.frf⟩
section
variable {X:Cx} {pins:List (Addr×Obj)} {σ:St} {H:Hp} {s:Ah} {E:Ad->Ah->Prop}
theorem Inv.wish (I:Inv X pins σ H s) (E:Ad->Ah->Prop):Inv (X.wish E) pins σ H s:=⟨I.ok.wish E,I.os,I.bare,I.base,I.loc,I.cell,I.free,I.freeC,I.pin,I.hok,I.len⟩
theorem Inv.unwish (I:Inv (X.wish E) pins σ H s):Inv X pins σ H s:=⟨I.ok.unwish,I.os,I.bare,I.base,I.loc,I.cell,I.free,I.freeC,I.pin,I.hok,I.len⟩
theorem SP.unwish {D:Ends} {f:Flow} {s':Ah} (h:SP (X.wish E) pins D f s'):SP X pins D f s':=by
 cases f with
 |next=>obtain⟨σ',H',I,q⟩:=h;exact⟨σ',H',I.unwish,q⟩
 |brk=>obtain⟨σ',H',I,q⟩:=h;exact⟨σ',H',I.unwish,q⟩
 |cont=>obtain⟨σ',H',I,q⟩:=h;exact⟨σ',H',I.unwish,q⟩
 |ret u=>obtain⟨v,σ',H',I,r,q⟩:=h;exact⟨v,σ',H',I.unwish,r,q⟩
theorem PSs.nox {st:List Stmt} {t:TS} (h:PSs X.nox st t):PSs X st t:=λpins s σ H D I hw =>
 Ci (h pins s σ H D (I.wish _) hw) (λ_ _ q=>q.unwish) λ_ _ z=>False.elim z
end
section
variable {X:Cx} {st:Stmt} {rest:List Stmt} {t u:TS} {e:Expr} {te:TE} {pos:Pos}
def jvp:TS:=λD σ H=>D.nx σ H
def tSeq (t u:TS):TS:=λD σ H=>t {D with nx:=u D} σ H
theorem jg2:PSs X [] jvp:=λ_ _ σ H _ I h=>wpAny_execs_nil ⟨σ,H,I,h⟩
theorem ja5 (h1:PS X st t) (h2:PSs X rest u):PSs X (st::rest) (tSeq t u):=by
 intro pins s σ H D I h;refine wpAny_execs_cons (thn (h1 pins s σ H {D with nx:=u D} I h) λf s1 q=>?_);cases f with
 |next =>
  obtain⟨σ',H',I',q⟩:=q;exact h2 pins s1 σ' H' D I' q
 |ret v=>exact q
 |brk=>exact q
 |cont=>exact q
theorem jc8 (h1:PS X st t):PSs X [st] t:=by
 intro pins s σ H D I h;refine wpAny_execs_cons (thn (h1 pins s σ H D I h) λf s1 q=>?_);cases f with
 |next=>exact wpAny_execs_nil q
 |ret v=>exact q
 |brk=>exact q
 |cont=>exact q
theorem Inv.quiet {pins:List (Addr×Obj)} {σ:St} {H:Hp} {s:Ah} (I:Inv X pins σ H s):interactive X.env=false:=by simp[interactive,I.ok.kind]
def js3 (te:TE):TS:=λD σ H=>te σ H λ_ H1=>D.nx σ H1
theorem jnr (he:PE X e te) (hs:Dy e none pos.line X.env=pure false:=by rfl):PS X (.Expr e pos) (js3 te):=by
 intro pins s σ H D I h;exact wpAny_Expr_any (thn (he pins s σ H _ I h) λv s1 ⟨x,H1,I1,r1,q1⟩=>⟨σ,H1,I1,q1⟩) I.quiet hs
def tRet (te:TE):TS:=λD σ H=>te σ H D.rt
theorem jgc (he:PE X e te):PS X (.Return (some e) pos) (tRet te):=by
 intro pins s σ H D I h;exact wpAny_Return_some (thn (he pins s σ H _ I h) λv s1 ⟨x,H1,I1,r1,q1⟩=>⟨x,σ,H1,I1,r1,q1⟩)
def tIfS (c:TT) (t u:TS):TS:=λD σ H=>c σ H λb H1=>if b=true then t D σ H1 else u D σ H1
theorem jqd {c:Expr} {a b:List Stmt} {tc:TT} (hc:PT X c tc) (ha:PSs X a t) (hb:PSs X b u):PS X (.If c a b pos) (tIfS tc t u):=by
 intro pins s σ H D I h;refine wpAny_If (thn (hc pins s σ H _ I h) λd s1 ⟨H1,I1,q1⟩=>?_);cases d with
 |true=>exact ha pins s1 σ H1 D I1 q1
 |false=>exact hb pins s1 σ H1 D I1 q1
end
abbrev TG:=V->St->Hp->(St->Hp->Prop)->Prop
abbrev TGs:=List V->St->Hp->(St->Hp->Prop)->Prop
def PG (X:Cx) (target:Expr) (t:TG):Prop :=
 ∀(pins:List (Addr×Obj)) (s:Ah) (σ:St) (H:Hp) (v:V) (u:Ad) (Q:St->Hp->Prop),Inv X pins σ H s->RelV v u->t v σ H Q ->
  Aw (A1 X.prog X.w) X.A (assign target X.env u) (λ_ s'=>∃σ' H',Inv X pins σ' H' s'/\Q σ' H') X.xe s
def PGs (X:Cx) (ts:List Expr) (t:TGs):Prop :=
 ∀(pins:List (Addr×Obj)) (s:Ah) (σ:St) (H:Hp) (vs:List V) (us:List Ad) (Q:St->Hp->Prop),Inv X pins σ H s->Vals vs us->t vs σ H Q ->
  Aw (A1 X.prog X.w) X.A (assignInOrder ((Dk ts X.env).map (·.2)) us) (λ_ s'=>∃σ' H',Inv X pins σ' H' s'/\Q σ' H') X.xe s
abbrev TSet:=V->V->V->Hp->(Hp->Prop)->Prop
def PSet (X:Cx) (t:TSet):Prop :=
 ∀(pins:List (Addr×Obj)) (s:Ah) (σ:St) (H:Hp) (o i v:V) (ov iv u:Ad) (Q:Hp->Prop),Inv X pins σ H s->RelV o ov->RelV i iv->RelV v u->t o i v H Q ->
  Aw (A1 X.prog X.w) X.A (setItem ov iv u) (λ_ s'=>∃H',Inv X pins σ H' s'/\Q H') X.xe s
section
variable {X:Cx} {pos:Pos}
def jco (i:Nat):TG:=λv σ H Q=>Q (σ.set i (some v)) H
theorem jtz {i:Nat} {x:Str} (hN:X.N.Nodup) (hi:X.N[i]?=some x) (hx:Loc X.env.scope x) (hf:X.fn x=true\/X.env.scope.names.lookup x=some .local:=by first | exact .inl rfl | exact .inr rfl | assumption):PG X (.Name x pos) (jco i):=by
 intro pins s σ H v u Q I r h;exact wpAny_assign_Name (jkj I hN hi hx r (λs' I'=>⟨_,H,I',h⟩) hf)
def gNil:TGs:=λvs σ H Q=>vs=[]/\Q σ H
def jx6 (t:TG) (u:TGs):TGs:=λvs σ H Q=>∃v r,vs=v::r/\t v σ H λσ' H'=>u r σ' H' Q
theorem jty:PGs X [] gNil:=by
 intro pins s σ H vs us Q I r h;obtain⟨e,h⟩:=h;subst e;cases r;exact assignInOrder_nil ⟨σ,H,I,h⟩
theorem jqf {e:Expr} {es:List Expr} {t:TG} {u:TGs} (h1:PG X e t) (h2:PGs X es u)
  (hs:(Dk (e::es) X.env).map (·.2)=assign e X.env::(Dk es X.env).map (·.2):=by rfl):PGs X (e::es) (jx6 t u):=by
 intro pins s σ H vs us Q I r h;obtain⟨v,vr,e1,h⟩:=h;subst e1;cases r with
 |cons r rr =>
  rw[hs];refine assignInOrder_cons (thn (h1 pins s σ H _ _ _ I r h) λ_ s1 ⟨σ1,H1,I1,q1⟩=>?_);exact h2 pins s1 σ1 H1 _ _ Q I1 rr q1
def gTup (K:Af) (n:Nat) (t:TGs):TG:=λv σ H Q=>∃a xs,v=.ref a/\SqT K H a xs/\xs.length=n/\t xs σ H Q
theorem jwv {es:List Expr} {k:Nat} {t:TGs} {n:Nat} (hc:X.calm=true) (h:PGs X es t)
  (hn:(Dk es X.env).length=n:=by rfl) (hst:(Dk es X.env).findIdx? (·.1)=none:=by rfl):PG X (.Tuple es k pos) (gTup X.K n t):=by
 intro pins s σ H v u Q I r hw;obtain⟨a,xs,e1,hq,hl,hw⟩:=hw;subst e1;cases r;obtain⟨its,rv,ht,hz⟩:=I.tuple hq;refine assign_Tuple_tuple (I.ok.hd hc) ht (by simp[hn,<-hl,rv.length]) hst λh' hx=>?_;have I1:Inv X pins σ H {s with heap:=h'}:=I.kept (t':=s.toks) λb o e=>hx b o (Ba (Aq e)) e;exact h pins _ σ H xs _ Q I1 (by simpa using rv) hw
def gSub (to ti:TE) (t:TSet):TG:=λv σ H Q=>to σ H λo H1=>ti σ H1 λi H2=>t o i v H2 λH3=>Q σ H3
theorem jkr {o i:Expr} {to ti:TE} {t:TSet} (ho:PE X o to) (hi:PE X i ti) (hs:PSet X t)
  (ha:∀v,assign (.Subscript o i pos) X.env v=(do
   let ov <-holding [v] (eval o X.env)
   let iv <-holding [v,ov] (eval i X.env)
   standAt pos
   holding [v,ov,iv] (setItem ov iv v)
   release [v,ov,iv] []):=by intro _;rfl):PG X (.Subscript o i pos) (gSub to ti t):=by
 intro pins s σ H v u Q I r h;rw[ha];refine Aa (B6 (thn (ho pins s σ H _ I h) λov s1 ⟨x,H1,I1,r1,q1⟩=>?_));refine Aa (B6 (thn (hi pins s1 σ H1 _ I1 q1) λiv s2 ⟨y,H2,I2,r2,q2⟩=>?_));refine Aa (wpAny_standAt (Aa (B6 (thn (hs pins s2 σ H2 x y v ov iv u _ I2 r1 r2 r q2) λ_ s3 ⟨H3,I3,q3⟩=>?_))));exact wpAny_release ⟨σ,H3,I3,q3⟩
def tAsg (te:TE) (g:TG):TS:=λD σ H=>te σ H λx H1=>g x σ H1 D.nx
theorem jio {tg e:Expr} {te:TE} {g:TG} (he:PE X e te) (hg:PG X tg g) (hs:swapsWithSole [tg] e pos.line X.env=pure false:=by rfl) (hw:swappedStores [tg] e X.env=pure none:=by rfl)
  (h1:(Dk [tg] X.env).map (·.2)=[assign tg X.env]:=by rfl):PS X (.Assign [tg] e pos) (tAsg te g):=by
 intro pins s σ H D I h;refine wpAny_Assign_stores (thn (he pins s σ H _ I h) λv s1 ⟨x,H1,I1,r1,q1⟩=>?_) hs hw;rw[h1];exact thn (hg pins s1 σ H1 x v _ I1 r1 q1) λ_ s2 q=>q
theorem jcb {i:Nat} {x:Str} {e:Expr} {te:TE} {pos':Pos} (hN:X.N.Nodup) (hi:X.N[i]?=some x) (hx:Loc X.env.scope x) (he:PE X e te) (hs:Dy e (some (.Name x pos')) pos.line X.env=pure false:=by rfl) (hf:X.fn x=true\/X.env.scope.names.lookup x=some .local:=by first | exact .inl rfl | exact .inr rfl | assumption) :
  PS X (.Assign [.Name x pos'] e pos) (tAsg te (jco i)):=by
 intro pins s σ H D I h;refine wpAny_Assign_Name (thn (he pins s σ H _ I h) λv s1 ⟨y,H1,I1,r1,q1⟩=>?_) hs;exact jkj I1 hN hi hx r1 (λs2 I2=>⟨_,H1,I2,q1⟩) hf
end
structure It where
 go:Nat->Hp->Prop
 yld:Nat->Hp->V->Hp->Prop
 stop:Nat->Hp->Prop
def FpOk (X:Cx) (pins:List (Addr×Obj)) (H:Hp) (b:Addr):Prop :=
 H b=none/\b≠X.env.locals/\b∉X.fs/\(b∈X.ex\/X.s₀.heap.objs.size<=b)/\(∀x c,X.env.cells.lookup x=some c->c≠b)/\∀p∈X.pn++pins,p.1≠b
theorem Inv.fpOk {X:Cx} {pins:List (Addr×Obj)} {σ:St} {H H':Hp} {s:Ah} {b:Addr} (I:Inv X pins σ H s) (hb:s.heap.objs.size<=b) (hn:H' b=none):FpOk X pins H' b:=by
 refine⟨hn,Fc (A8 I.lt hb),I.nofs hb,.inr (A5 I.sz hb),λx c e z=>?_,λp hp z=>?_⟩
 ·obtain⟨v,q⟩:=I.cell x c e;exact absurd (A8 q.lt (by rw[z];exact hb)) (Dl _)
 ·exact absurd (A8 (Aq (I.pin p hp).1) (by rw[z];exact hb)) (Dl _)
structure Turn (P:Bd) (w:Bq) (K:Af) (tg:Expr) (J:It) (fp:List Addr) (it:Addr) (tn:Nat->Heap->Prop):Prop where
 mem:it∈fp
 obj:∀i h,tn i h->∀b∈fp,∃o,h.get? b=some o/\∀v,o.data≠.cell v
 keep:∀i h h',tn i h->(∀b∈fp,∀o,h.get? b=some o->h'.get? b=some o)->tn i h'
 item:∀(X:Cx),X.prog=P->X.w=w->X.K=K->X.calm=true->∀(i:Nat) (pins:List (Addr×Obj)) (s:Ah) (σ:St) (H:Hp) (E:Ad->Ah->Prop),Inv X pins σ H s->(∀b∈fp,FpOk X pins H b)->tn i s.heap->J.go i H ->
  Aw (A1 P w) X.A (Eg (.ref it)) (λr s1=>∃u,r=some u /\
   Aw (A1 P w) X.A (letOwnedTupleGo tg (.ref it) u) (λ_ s2=>∃x H',Inv X pins σ H' s2/\RelV x u/\J.yld i H x H'/\tn (i+1) s2.heap/\∀b∈fp,H' b=none) E s1) E s
 done:∀(X:Cx),X.prog=P->X.w=w->X.K=K->X.calm=true->∀(i:Nat) (pins:List (Addr×Obj)) (s:Ah) (σ:St) (H:Hp) (E:Ad->Ah->Prop),Inv X pins σ H s->(∀b∈fp,FpOk X pins H b)->tn i s.heap->J.stop i H ->
  Aw (A1 P w) X.A (Eg (.ref it)) (λr s1=>r=none/\Inv X pins σ H s1) E s
 self:∀(A:Bj) (i:Nat) (s:Ah) (Q:Ad->Ah->Prop) (E:Ad->Ah->Prop),tn i s.heap->Q (.ref it) s->Aw (A1 P w) A (pyIter (.ref it)) Q E s
abbrev TI:=St->Hp->(It->Hp->Prop)->Prop
def PIE (X:Cx) (pins:List (Addr×Obj)) (σ:St) (tg:Expr) (R:It->Hp->Prop) (itv:Ad) (s2:Ah):Prop :=
 ∃(it:Addr) (fp:List Addr) (tn:Nat->Heap->Prop) (J:It) (H':Hp),itv=.ref it/\Inv X pins σ H' s2/\Turn X.prog X.w X.K tg J fp it tn/\tn 0 s2.heap/\(∀b∈fp,FpOk X pins H' b)/\R J H'
def PI (X:Cx) (tg iter:Expr) (wi:TI):Prop :=
 ∀(pins:List (Addr×Obj)) (s:Ah) (σ:St) (H:Hp) (R:It->Hp->Prop),Inv X pins σ H s->wi σ H R ->
  Aw (A1 X.prog X.w) X.A (eval iter X.env) (λv s1=>Aw (A1 X.prog X.w) X.A (pyIter v) (PIE X pins σ tg R) X.xe s1) X.xe s
theorem juo {M:Model} {A:Bj} {E:Ad->Ah->Prop} {s:Ah} {tg:Expr} {it:Addr} {u:Ad} {o:Obj} {n:String} {vs:Array Ad} {Q:Unit->Ah->Prop} (ho:s.heap.get? it=some o) (hc:o.cls=.type n) (hd:o.data=.fields vs)
  (hn:["enumerate","zip","dict_itemiterator","dict_reverseitemiterator","odict_iterator","itertools.zip_longest","itertools.pairwise"].contains n=false) (hQ:Q () s):Aw M A (letOwnedTupleGo tg (.ref it) u) Q E s:=by
 unfold letOwnedTupleGo;cases tg<;>first
  |exact Ag hQ
  | (cases u<;>first
    |exact Ag hQ
    | (refine Aa (wpAny_load ho ?_)
       rw[hc,hd];show Aw M A (if (["enumerate","zip","dict_itemiterator","dict_reverseitemiterator","odict_iterator","itertools.zip_longest","itertools.pairwise"].contains n&&vs[0]?==some (Cs _))=true then _ else _) Q E s;rw[if_neg (by intro h;rw[hn,Bool.false_and]at h;cases h)];exact Ag hQ))
def Itl (K:Af) (a:Addr):It :=
 ⟨λi H=>∃xs x,SqL K H a xs/\xs[i]?=some x,λi H x H'=>H'=H/\∀xs,SqL K H a xs->xs[i]?=some x,λi H=>∃xs,SqL K H a xs/\xs.length<=i⟩
def Itt (K:Af) (a:Addr):It :=
 ⟨λi H=>∃xs x,SqT K H a xs/\xs[i]?=some x,λi H x H'=>H'=H/\∀xs,SqT K H a xs->xs[i]?=some x,λi H=>∃xs,SqT K H a xs/\xs.length<=i⟩
def Itr (lo:Int) (n:Nat):It:=⟨λi _=>i < n,λi H x H'=>H'=H/\x=.int (lo+i),λi _=>n<=i⟩
theorem jmk {P:Bd} {w:Bq} {K:Af} {tg:Expr} (a it:Addr):Turn P w K tg (Itl K a) [it] it (λi h=>h.IsListIter it a i) where
 mem:=by simp
 obj:=λi h st b hb=>by
  have e:b=it:=by simpa using hb
  subst e;obtain⟨o,e,c,d⟩:=st;exact⟨o,e,λv z=>by rw[d]at z;cases z⟩
 keep:=λi h h' st k=>st.at λo e=>k it (by simp) o e
 item:=by
  intro X hP hw hK hc i pins s σ H E I hf st hg;subst hP hw hK;obtain⟨xs,x,hq,hx⟩:=hg;obtain⟨its,rv,p,hz⟩:=I.list hq;obtain⟨u,hu,ru⟩:=rv.get hx;obtain⟨f0,f1,f2,f3,f4,f5⟩:=hf it (by simp);refine wpAny_pyNext_list_item st p.isList (x:=u) (by simpa using hu) λh' st' sb=>?_;have I1:Inv X pins σ H {s with heap:=h'}:=I.turned (t':=s.toks) (λb o hb e=>(sb.2 b hb).trans e) f0 f1 f3 f4 f5;obtain⟨o,e,c,d⟩:=id st';exact⟨u,rfl,juo (s:={ s with heap:=h'}) e c d (by decide) ⟨x,H,I1,ru,⟨rfl,λys hy=>by rw[I.list_inj hy hq];exact hx⟩,st',λb hb=>(hf b hb).1⟩⟩
 done:=by
  intro X hP hw hK hc i pins s σ H E I hf st hg;subst hP hw hK;obtain⟨xs,hq,hx⟩:=hg;obtain⟨its,rv,p,hz⟩:=I.list hq;obtain⟨f0,f1,f2,f3,f4,f5⟩:=hf it (by simp);have hl:=rv.length;exact wpAny_pyNext_list_end (I.ok.hd hc) st p.isList (by simp;omega) λh' eb=>⟨rfl,I.turned (t':=s.toks) (λb o hb e=>eb b o hb e) f0 f1 f3 f4 f5⟩
 self:=λ_ _ _ _ _ st h=>wpAny_pyIter_listiter st h
theorem jla {P:Bd} {w:Bq} {K:Af} {tg:Expr} (a it:Addr):Turn P w K tg (Itt K a) [it] it (λi h=>h.IsTupleIter it a i) where
 mem:=by simp
 obj:=λi h st b hb=>by
  have e:b=it:=by simpa using hb
  subst e;obtain⟨o,e,c,d⟩:=st;exact⟨o,e,λv z=>by rw[d]at z;cases z⟩
 keep:=λi h h' st k=>st.at λo e=>k it (by simp) o e
 item:=by
  intro X hP hw hK hc i pins s σ H E I hf st hg;subst hP hw hK;obtain⟨xs,x,hq,hx⟩:=hg;obtain⟨its,rv,p,hz⟩:=I.tuple hq;obtain⟨u,hu,ru⟩:=rv.get hx;obtain⟨f0,f1,f2,f3,f4,f5⟩:=hf it (by simp);refine wpAny_pyNext_tuple_item st (show s.heap.IsTuple a its.toArray from p) (x:=u) (by simpa using hu) λh' st' sb=>?_;have I1:Inv X pins σ H {s with heap:=h'}:=I.turned (t':=s.toks) (λb o hb e=>(sb.2 b hb).trans e) f0 f1 f3 f4 f5;obtain⟨o,e,c,d⟩:=id st';exact⟨u,rfl,juo (s:={ s with heap:=h'}) e c d (by decide) ⟨x,H,I1,ru,⟨rfl,λys hy=>by rw[I.tuple_inj hy hq];exact hx⟩,st',λb hb=>(hf b hb).1⟩⟩
 done:=by
  intro X hP hw hK hc i pins s σ H E I hf st hg;subst hP hw hK;obtain⟨xs,hq,hx⟩:=hg;obtain⟨its,rv,p,hz⟩:=I.tuple hq;obtain⟨f0,f1,f2,f3,f4,f5⟩:=hf it (by simp);have hl:=rv.length;exact wpAny_pyNext_tuple_end (I.ok.hd hc) st (show s.heap.IsTuple a its.toArray from p) (by simp;omega) λh' eb=>⟨rfl,I.turned (t':=s.toks) (λb o hb e=>eb b o hb e) f0 f1 f3 f4 f5⟩
 self:=λ_ _ _ _ _ st h=>wpAny_pyIter_tupleiter st h
theorem jlb {P:Bd} {w:Bq} {K:Af} {tg:Expr} (it:Addr) (lo:Int) (n:Nat):Turn P w K tg (Itr lo n) [it] it (λi h=>IsRangeIter h it (lo+(i:Nat)*1) ((n:Int) - (i:Nat)) 1) where
 mem:=by simp
 obj:=λi h st b hb=>by
  have e:b=it:=by simpa using hb
  subst e;exact⟨_,st,λv z=>by
   have z':Data.fields _=Data.cell v:=z;cases z'⟩
 keep:=λi h h' st k=>k it (by simp) _ st
 item:=by
  intro X hP hw hK hc i pins s σ H E I hf st hg;subst hP hw hK;obtain⟨f0,f1,f2,f3,f4,f5⟩:=hf it (by simp);have W:=Walks.range (prog:=X.prog) (w:=X.w) (I.ok.hd hc) it lo 1 n;refine W.item i s _ _ hg st λv h' tk hv st' kk=>?_;obtain⟨t,rfl⟩:=hv;have I1:Inv X pins σ H {s with heap:=h',toks:=tk}:=I.turned (λb o hb e=>kk b o (by simpa using hb) e) f0 f1 f3 f4 f5;refine⟨_,rfl,juo (s:={ s with heap:=h',toks:=tk}) (n:="range_iterator") st' rfl rfl (by decide) ⟨.int (lo+i),H,I1,⟨t,?_⟩,⟨rfl,rfl⟩,st',λb hb=>(hf b hb).1⟩⟩;rw[Int.mul_one]
 done:=by
  intro X hP hw hK hc i pins s σ H E I hf st hg;subst hP hw hK;obtain⟨f0,f1,f2,f3,f4,f5⟩:=hf it (by simp);exact wpAny_pyNext_range_end (I.ok.hd hc) st (by have:n<=i:=hg;omega) λh' eb=>⟨rfl,I.turned (t':=s.toks) (λb o hb e=>eb b o hb e) f0 f1 f3 f4 f5⟩
 self:=λ_ _ _ _ _ st h=>wpAny_pyIter_rangeiter st h
section
variable {X:Cx} {tg:Expr}
def jul (K:Af) (tl:TE):TI:=λσ H R=>tl σ H λx H1=>∃a,x=.ref a/\(∃xs,SqL K H1 a xs)/\R (Itl K a) H1
def iTup (K:Af) (tl:TE):TI:=λσ H R=>tl σ H λx H1=>∃a,x=.ref a/\(∃xs,SqT K H1 a xs)/\R (Itt K a) H1
theorem jtx {l:Expr} {tl:TE} (hl:PE X l tl):PI X tg l (jul X.K tl):=by
 intro pins s σ H R I h;refine thn (hl pins s σ H _ I h) λv s1 ⟨x,H1,I1,r1,q1⟩=>?_;obtain⟨a,e,⟨xs,hq⟩,q⟩:=q1;subst e;cases r1;obtain⟨its,rv,p,hz⟩:=I1.list hq;refine wpAny_pyIter_list p.isList ?_;refine⟨s1.heap.objs.size,[s1.heap.objs.size],_,_,H1,rfl,I1.kept (t':=s1.toks) λb o e=>Ai _ e,jmk a _,⟨_,Av _ rfl,rfl,rfl⟩,λb hb=>?_,q⟩;have e:b=s1.heap.objs.size:=by simpa using hb
 subst e;exact I1.fpOk (Ao _) (I1.hok.fresh (Ao _))
theorem jwu {l:Expr} {tl:TE} (hl:PE X l tl):PI X tg l (iTup X.K tl):=by
 intro pins s σ H R I h;refine thn (hl pins s σ H _ I h) λv s1 ⟨x,H1,I1,r1,q1⟩=>?_;obtain⟨a,e,⟨xs,hq⟩,q⟩:=q1;subst e;cases r1;obtain⟨its,rv,p,hz⟩:=I1.tuple hq;refine wpAny_pyIter_tuple (show s1.heap.IsTuple a its.toArray from p) ?_;refine⟨s1.heap.objs.size,[s1.heap.objs.size],_,_,H1,rfl,I1.kept (t':=s1.toks) λb o e=>Ai _ e,jla a _,⟨_,Av _ rfl,rfl,rfl⟩,λb hb=>?_,q⟩;have e:b=s1.heap.objs.size:=by simpa using hb
 subst e;exact I1.fpOk (Ao _) (I1.hok.fresh (Ao _))
theorem jp8 {pins:List (Addr×Obj)} {σ:St} {H:Hp} {s:Ah} {R:It->Hp->Prop} {E:Ad->Ah->Prop} {lo hi:Int} {t u v:Tok} {tk:Nat} (I:Inv X pins σ H s) (h1:-(2 ^ 62)<=lo) (h2:lo < 2 ^ 62) (h3:-(2 ^ 62)<=hi) (h4:hi < 2 ^ 62)
  (q:R (Itr lo (hi - lo).toNat) H):Aw (A1 X.prog X.w) X.A (pyIter (.ref s.heap.objs.size)) (PIE X pins σ tg R) E {s with heap:=s.heap.push {cls:=.type "range",data:=.fields #[.int lo t,.int hi u,.int 1 v]},toks:=tk}:=by
 refine wpAny_pyIter_range (IsRange.new ..) (small_one h1 h2 h3 h4) ?_;have I1:Inv X pins σ H {s with heap:=s.heap.push {cls:=.type "range",data:=.fields #[.int lo t,.int hi u,.int 1 v]},toks:=tk}:=I.kept λb o e=>Ai _ e;refine⟨(s.heap.push {cls:=.type "range",data:=.fields #[.int lo t,.int hi u,.int 1 v]}).objs.size,[(s.heap.push {cls:=.type "range",data:=.fields #[.int lo t,.int hi u,.int 1 v]}).objs.size],_,_,H,rfl,
  I1.kept (t':=tk) λb o e=>Ai _ e,jlb _ lo (hi - lo).toNat,?_,λb hb=>?_,q⟩
 ·have e1:lo+((0:Nat):Int)*1=lo:=by simp
  have e2:(((hi - lo).toNat:Nat):Int) - ((0:Nat):Int)=Builtin.Range.rangeSize lo hi 1:=by rw[rangeSize_one];split<;>omega
  show IsRangeIter _ _ (lo+((0:Nat):Int)*1) ((((hi - lo).toNat:Nat):Int) - ((0:Nat):Int)) 1;rw[e1,e2];exact Av _ rfl
 ·have e:b=(s.heap.push {cls:=.type "range",data:=.fields #[.int lo t,.int hi u,.int 1 v]}).objs.size:=by simpa using hb
  subst e;exact I1.fpOk (Ao _) (I1.hok.fresh (Ao _))
def jx2 (ta:TA):TI:=λσ H R=>ta σ H λvs H1=>∃j:Int,vs=[.int j]/\-(2 ^ 62)<=j/\j < 2 ^ 62/\R (Itr 0 j.toNat) H1
theorem jnw {a:Expr} {ta:TA} {p pos:Pos} (hg:Gl X "range") (hm:X.mg "range"=none) (ha:PA X [a] ta) (hs:Au [a] X.env=[(false,eval a X.env)]:=by rfl):PI X tg (.Call (.Name "range" p) [a] [] pos) (jx2 ta):=by
 intro pins s σ H R I h;refine Call_ (jgi I hg hm boot_range (PyProof.Rows.callWith_type1 (thn (ha pos pins s σ H _ I h) λus s1 ⟨vs,H1,I1,r1,q1⟩=>?_) hs rfl));obtain⟨j,e,q1,q2,q⟩:=q1;subst e;cases r1 with
 |cons r rr =>
  cases rr;obtain⟨t,rfl⟩:=r;exact call_range_1 (jp8 I1 (by omega) (by omega) q1 q2 (by simpa using q))
def tFor (wi:TI) (g:TG) (tb:TS):TS:=λD σ H=>wi σ H λJ H1=>∃W:Nat->Nat->St->Hp->Prop,(∃m,W 0 m σ H1)/\∀i m σ H,W i m σ H ->
 (J.stop i H/\D.nx σ H)\/(J.go i H/\∃N:St->Hp->Prop,(∀σ' H',N σ' H'->∃m',m' < m/\W (i+1) m' σ' H')/\∀x H',J.yld i H x H'->g x σ H' λσ2 H2=>tb {D with nx:=N,ct:=N,bk:=D.nx} σ2 H2)
def jgd (fp:List Addr) (h:Heap):List (Addr×Obj):=fp.filterMap λb=>(h.get? b).map λo=>(b,o)
theorem jbk {fp:List Addr} {h:Heap} {b:Addr} {o:Obj} (hb:b∈fp) (e:h.get? b=some o):(b,o)∈jgd fp h:=List.mem_filterMap.mpr ⟨b,hb,by rw[e];rfl⟩
theorem jn9 {fp:List Addr} {h:Heap} {p:Addr×Obj} (hp:p∈jgd fp h):p.1∈fp/\h.get? p.1=some p.2:=by
 obtain⟨b,hb,e⟩:=List.mem_filterMap.mp hp;cases q:h.get? b with
 |none=>rw[q]at e;cases e
 |some o =>
  rw[q]at e;have e':(b,o)=p:=Bh e;subst e';exact⟨hb,q⟩
theorem Inv.pinned {pins:List (Addr×Obj)} {σ:St} {H:Hp} {s:Ah} {fp:List Addr} (I:Inv X pins σ H s) (hf:∀b∈fp,FpOk X pins H b) (ho:∀b∈fp,∃o,s.heap.get? b=some o/\∀v,o.data≠.cell v):Inv X (pins++jgd fp s.heap) σ H s :=
 I.pins_of λp hp=>(A9.mp hp).elim (λz=>I.pin p (Ay _ z)) λz=>by
  obtain⟨hb,e⟩:=jn9 z;obtain⟨f0,f1,f2,_⟩:=hf p.1 hb;obtain⟨o,e',d⟩:=ho p.1 hb;rw[e]at e';cases e';exact⟨e,f0,f1,f2,d⟩
theorem Inv.unpinned {pins pl:List (Addr×Obj)} {σ:St} {H:Hp} {s:Ah} (I:Inv X (pins++pl) σ H s):Inv X pins σ H s:=I.pins_of λp hp=>I.pin p (Ay _ (Dd _ hp))
theorem jwt {iter:Expr} {body:List Stmt} {wi:TI} {g:TG} {tb:TS} {pos:Pos} (hp:PassesOwn (A1 X.prog X.w) X.A X.env X.xe) (hc:X.calm=true) (hi:PI X tg iter wi) (hg:PG X tg g) (hb:PSs X body tb)
  (hs:∀x,D1 iter X.env x=pure x:=by intro _;rfl):PS X (.For tg iter body [] pos) (tFor wi g tb):=by
 intro pins s σ H D I h;refine wpAny_For (thn (hi pins s σ H _ I h) λv s1 h1=>thn h1 λitv s2 h2=>?_) hs;obtain⟨it,fp,tn,J,H2,e,I2,T,st2,f2,W,⟨m0,w0⟩,turn⟩:=h2;subst e
 -- what stays true of the iterator's objects through the loop
 have stat:∀{H':Hp},(∀b∈fp,H' b=none)->∀b∈fp,FpOk X pins H' b:=λhn b hb=>⟨hn b hb,(f2 b hb).2⟩;refine codeAny_forLoop_any (λn s'=>∃i σ' H',Inv X pins σ' H' s'/\tn i s'.heap/\(∀b∈fp,H' b=none)/\W i n σ' H') ?_ m0 ⟨0,σ,H2,I2,st2,λb hb=>(f2 b hb).1,w0⟩
 rintro n s3 ⟨i,σ3,H3,I3,st3,fr3,w3⟩
 rcases turn i n σ3 H3 w3 with⟨stop,qn⟩ | ⟨go,N,hN,step⟩
 ·refine F0 hp (thn (T.done X rfl rfl rfl hc i pins s3 σ3 H3 X.xe I3 (stat fr3) st3 stop) λr s4 ⟨hr,I4⟩=>?_);subst hr;exact wpAny_execs_nil ⟨σ3,H3,I4,qn⟩
 ·refine F0 hp (thn (T.item X rfl rfl rfl hc i pins s3 σ3 H3 X.xe I3 (stat fr3) st3 go) λr s4 ⟨u,hr,h4⟩=>?_);subst hr;refine F0 hp (thn h4 λ_ s5 ⟨x,H5,I5,r5,y5,st5,fr5⟩=>?_);have I5':=I5.pinned (stat fr5) (T.obj _ _ st5);refine F0 hp (thn (hg _ s5 σ3 H5 x u _ I5' r5 (step x H5 y5)) λ_ s6 ⟨σ6,H6,I6,q6⟩=>?_);refine F0 hp (thn (hb _ s6 σ6 H6 _ I6 q6) λf s7 q7=>?_);have again:∀{σ7:St} {H7:Hp},Inv X (pins++jgd fp s5.heap) σ7 H7 s7->N σ7 H7->∃m,m < n/\∃i σ' H',Inv X pins σ' H' s7/\tn i s7.heap/\(∀b∈fp,H' b=none)/\W i m σ' H':=λ{σ7 H7} I7 n7=>by
   obtain⟨m',hm,w7⟩:=hN σ7 H7 n7;refine⟨m',hm,i+1,σ7,H7,I7.unpinned,T.keep _ _ _ st5 λb hb o e=>(I7.pin (b,o) (Ay _ (Ay _ (jbk hb e)))).1,λb hb=>?_,w7⟩;obtain⟨o,e,d⟩:=T.obj _ _ st5 b hb;exact(I7.pin (b,o) (Ay _ (Ay _ (jbk hb e)))).2.1
  cases f with
  |next=>obtain⟨σ7,H7,I7,n7⟩:=q7;exact again I7 n7
  |cont=>obtain⟨σ7,H7,I7,n7⟩:=q7;exact again I7 n7
  |brk=>obtain⟨σ7,H7,I7,q7⟩:=q7;exact⟨σ7,H7,I7.unpinned,q7⟩
  |ret v=>obtain⟨x7,σ7,H7,I7,r7,q7⟩:=q7;exact⟨x7,σ7,H7,I7.unpinned,r7,q7⟩
end
abbrev R2:=V->V->Hp->VK->Prop
def OpR (X:Cx) (f:Ad->Ad->Sem Ad) (r:R2):Prop :=
 ∀(pins:List (Addr×Obj)) (s:Ah) (σ:St) (H:Hp) (x y:V) (v u:Ad) (Q:VK),Inv X pins σ H s->RelV x v->RelV y u->r x y H Q ->
  Aw (A1 X.prog X.w) X.A (f v u) (EP X pins σ Q) X.xe s
def UnR (X:Cx) (f:Ad->Sem Ad) (r:V->Hp->VK->Prop):Prop :=
 ∀(pins:List (Addr×Obj)) (s:Ah) (σ:St) (H:Hp) (x:V) (v:Ad) (Q:VK),Inv X pins σ H s->RelV x v->r x H Q ->
  Aw (A1 X.prog X.w) X.A (f v) (EP X pins σ Q) X.xe s
def CallR (X:Cx) (f:Ad) (r:List V->Hp->VK->Prop):Prop :=
 ∀(pins:List (Addr×Obj)) (s:Ah) (σ:St) (H:Hp) (xs:List V) (us:List Ad) (Q:VK),Inv X pins σ H s->Vals xs us->r xs H Q ->
  Aw (A1 X.prog X.w) X.A (call f us) (EP X pins σ Q) X.xe s
def tOp (r:R2) (ta tb:TE):TE:=λσ H Q=>ta σ H λx H1=>tb σ H1 λy H2=>r x y H2 Q
def tUn (r:V->Hp->VK->Prop) (ta:TE):TE:=λσ H Q=>ta σ H λx H1=>r x H1 Q
def rI (C:Int->Int->Prop) (g:Int->Int->V):R2:=λx y H Q=>∃i j,x=.int i/\y=.int j/\C i j/\Q (g i j) H
def rI0 (g:Int->Int->V):R2:=λx y H Q=>∃i j,x=.int i/\y=.int j/\Q (g i j) H
def rU (g:Int->V):V->Hp->VK->Prop:=λx H Q=>∃i,x=.int i/\Q (g i) H
section
variable {X:Cx} {a b c:Expr} {ta tb tc:TE} {pos:Pos}
theorem binT (ha:PE X a ta) (hb:PE X b tb) {pins:List (Addr×Obj)} {s:Ah} {σ:St} {H:Hp} {R:V->V->Hp->Prop} (I:Inv X pins σ H s)
  (h:ta σ H λx H1=>tb σ H1 λy H2=>R x y H2) {Q:Ad->Ah->Prop} {f:Ad->Ad->Sem Ad}
  (hf:∀v u s2 x y H2,Inv X pins σ H2 s2->RelV x v->RelV y u->R x y H2->Aw (A1 X.prog X.w) X.A (f v u) Q X.xe s2) :
  Aw (A1 X.prog X.w) X.A (eval a X.env) (λv s₁=>Aw (A1 X.prog X.w) X.A (eval b X.env) (λu s₂=>Aw (A1 X.prog X.w) X.A (f v u) Q X.xe s₂) X.xe s₁) X.xe s:=by
 refine thn (ha pins s σ H _ I h) λv s1 ⟨x,H1,I1,r1,q1⟩=>?_;refine thn (hb pins s1 σ H1 _ I1 q1) λu s2 ⟨y,H2,I2,r2,q2⟩=>?_;exact hf v u s2 x y H2 I2 r1 r2 q2
theorem jbl {op:Operator} {r:R2} (ho:OpR X (Ea op) r) (ha:PE X a ta) (hb:PE X b tb):PE X (.BinOp a op b pos) (tOp r ta tb):=by
 intro pins s σ H Q I h;exact wpAny_BinOp (binT ha hb I h λv u s2 x y H2 I2 rx ry q=>ho pins s2 σ H2 x y v u Q I2 rx ry q)
theorem jzh {op:UnaryOp} {r:V->Hp->VK->Prop} (ho:UnR X (unaryOp op) r) (ha:PE X a ta):PE X (.UnaryOp op a pos) (tUn r ta):=by
 intro pins s σ H Q I h;exact UnaryOp_ (thn (ha pins s σ H _ I h) λv s1 ⟨x,H1,I1,r1,q1⟩=>ho pins s1 σ H1 x v Q I1 r1 q1)
theorem opI {f:Ad->Ad->Sem Ad} {C:Int->Int->Prop} {g:Int->Int->Int}
  (rule:∀(i j:Int) (t u:Tok) (s:Ah) (Q:Ad->Ah->Prop) (E:Ad->Ah->Prop),C i j->Q (.int (g i j) s.toks) {s with toks:=s.toks+1}->Aw (A1 X.prog X.w) X.A (f (.int i t) (.int j u)) Q E s) :
  OpR X f (rI C λi j=>.int (g i j)):=by
 intro pins s σ H x y v u Q I rx ry h;obtain⟨i,j,rfl,rfl,hc,q⟩:=h;obtain⟨t,rfl⟩:=rx;obtain⟨t',rfl⟩:=ry;exact rule i j t t' s _ _ hc ⟨.int (g i j),H,I.tok _,⟨_,rfl⟩,q⟩
theorem opI0 {f:Ad->Ad->Sem Ad} {g:Int->Int->Int}
  (rule:∀(i j:Int) (t u:Tok) (s:Ah) (Q:Ad->Ah->Prop) (E:Ad->Ah->Prop),Q (.int (g i j) s.toks) {s with toks:=s.toks+1}->Aw (A1 X.prog X.w) X.A (f (.int i t) (.int j u)) Q E s) :
  OpR X f (rI0 λi j=>.int (g i j)):=by
 intro pins s σ H x y v u Q I rx ry h;obtain⟨i,j,rfl,rfl,q⟩:=h;obtain⟨t,rfl⟩:=rx;obtain⟨t',rfl⟩:=ry;exact rule i j t t' s _ _ ⟨.int (g i j),H,I.tok _,⟨_,rfl⟩,q⟩
theorem opB0 {f:Ad->Ad->Sem Ad} {g:Int->Int->Bool}
  (rule:∀(i j:Int) (t u:Tok) (s:Ah) (Q:Ad->Ah->Prop) (E:Ad->Ah->Prop),Q (.bool (g i j)) s->Aw (A1 X.prog X.w) X.A (f (.int i t) (.int j u)) Q E s) :
  OpR X f (rI0 λi j=>.bl (g i j)):=by
 intro pins s σ H x y v u Q I rx ry h;obtain⟨i,j,rfl,rfl,q⟩:=h;obtain⟨t,rfl⟩:=rx;obtain⟨t',rfl⟩:=ry;exact rule i j t t' s _ _ ⟨.bl (g i j),H,I,rfl,q⟩
def CDiv (i j:Int):Prop:=0 < j/\j < 1073741824
def CPow (i j:Int):Prop:=0<=j/\j<=1000000/\i.natAbs < 2 ^ 64
def CMul (i j:Int):Prop:=(-(2 ^ 64) < i/\i < 2 ^ 64)\/(-(2 ^ 64) < j/\j < 2 ^ 64)
theorem CMul.ok {i j:Int} (h:CMul i j):IntMulOk i j:=by
 rcases h with⟨h1,h2⟩ | ⟨h1,h2⟩
 ·exact .of_left (intBits_le_64 h1 h2)
 ·exact .of_right (intBits_le_64 h1 h2)
theorem op_add:OpR X (Ea .Add) (rI0 λi j=>.int (i+j)):=opI0 λ_ _ _ _ _ _ _ q=>add_int q
theorem jw3:OpR X (Ea .Sub) (rI0 λi j=>.int (i - j)):=opI0 λ_ _ _ _ _ _ _ q=>sub_int q
theorem jge:OpR X (Ea .Mult) (rI CMul λi j=>.int (i*j)):=opI λ_ _ _ _ _ _ _ hc q=>mul_int q hc.ok
theorem jn8:OpR X (Ea .FloorDiv) (rI CDiv λi j=>.int (i / j)):=opI λi j _ _ _ _ _ hc q=>by
 have h1:(0:Int) < j:=hc.1;have h2:j < 1073741824:=hc.2;exact floordiv_int (by omega) (by rw[Int.fdiv_eq_ediv_of_nonneg i (by omega)];exact q) (.inl (PyProof.noPylong_small (by omega)))
theorem jdj:OpR X (Ea .Mod) (rI (λ_ j=>0 < j) λi j=>.int (i % j)):=opI λi j _ _ _ _ _ hc q=>by
 have h1:(0:Int) < j:=hc;exact mod_int' (by omega) (by rw[Int.fmod_eq_emod_of_nonneg i (by omega)];exact q)
theorem jw4:OpR X (Ea .Pow) (rI CPow λi j=>.int (i ^ j.toNat)):=opI λ_ _ _ _ _ _ _ hc q=>pow_int_small hc.1 hc.2.1 hc.2.2 q
theorem unI {f:Ad->Sem Ad} {g:Int->Int}
  (rule:∀(i:Int) (t:Tok) (s:Ah) (Q:Ad->Ah->Prop) (E:Ad->Ah->Prop),Q (.int (g i) s.toks) {s with toks:=s.toks+1}->Aw (A1 X.prog X.w) X.A (f (.int i t)) Q E s) :
  UnR X f (rU λi=>.int (g i)):=by
 intro pins s σ H x v Q I rx h;obtain⟨i,rfl,q⟩:=h;obtain⟨t,rfl⟩:=rx;exact rule i t s _ _ ⟨.int (g i),H,I.tok _,⟨_,rfl⟩,q⟩
theorem jvg:UnR X (unaryOp .USub) (rU λi=>.int (-i)):=unI λ_ _ _ _ _ q=>neg_int q
end
def scal:V->V->Bool
 |.non,.non=>true | .non,.int _=>true | .int _,.non=>true | .non,.bl _=>true | .bl _,.non=>true | .non,.str _=>true | .str _,.non=>true
 |.int _,.int _=>true | .bl _,.bl _=>true | .str _,.str _=>true | .byt _,.byt _=>true
 |.int _,.str _=>true | .str _,.int _=>true | .bl _,.str _=>true | .str _,.bl _=>true
 |_,_=>false
def rEq:R2:=λx y H Q=>scal x y=true/\Q (.bl (decide (x=y))) H
def rNe:R2:=λx y H Q=>scal x y=true/\Q (.bl (!decide (x=y))) H
theorem jo0 {i j:Int}:decide (V.int i=V.int j)=(i==j):=by
 rw[E4];simp
theorem jsj {i j:Bool}:decide (V.bl i=V.bl j)=(i==j):=by
 rw[E4];simp
theorem joz {i j:Str}:decide (V.str i=V.str j)=(i==j):=by
 rw[E4];simp
theorem jo1 {i j:Array UInt8}:decide (V.byt i=V.byt j)=(i.toList==j.toList):=by
 rw[E4];cases i;cases j;simp
section
variable {X:Cx} {a b c:Expr} {ta tb tc:TE} {pos:Pos}
theorem jao {pins:List (Addr×Obj)} {σ:St} {H:Hp} {s:Ah} {Q:VK} {k k':Bool} (I:Inv X pins σ H s) (q:Q (.bl k) H) (e:k=k'):EP X pins σ Q (.bool k') s:=by
 subst e;exact⟨.bl k,H,I,rfl,q⟩
theorem op_eq:OpR X (B4 .Eq) rEq:=by
 intro pins s σ H x y v u Q I rx ry h;obtain⟨hs,q⟩:=h;cases x with
 |non =>
  cases rx;cases y with
  |non=>cases ry;exact PySem.EqNone.eq_none_none (jao I q (by simp))
  |bl j=>cases ry;exact PySem.EqNone.eq_none_bool (jao I q (by simp))
  |int j=>obtain⟨t',rfl⟩:=ry;exact PySem.EqNone.eq_none_int (jao I q (by simp))
  |str j=>obtain⟨t',rfl⟩:=ry;exact PySem.EqNone.eq_none_str (jao I q (by simp))
  |_=>exact absurd (show false=true from hs) Am
 |bl i =>
  cases rx;cases y with
  |non=>cases ry;exact PySem.EqNone.eq_bool_none (jao I q (by simp))
  |bl j=>cases ry;exact eq_bool (jao I q jsj)
  |str j=>obtain⟨t',rfl⟩:=ry;exact PySem.EqMixed.eq_bool_str (jao I q (by simp))
  |_=>exact absurd (show false=true from hs) Am
 |int i =>
  obtain⟨t,rfl⟩:=rx;cases y with
  |non=>cases ry;exact PySem.EqNone.eq_int_none (jao I q (by simp))
  |int j=>obtain⟨t',rfl⟩:=ry;exact eq_int (jao I q jo0)
  |str j=>obtain⟨t',rfl⟩:=ry;exact PySem.EqMixed.eq_int_str (jao I q (by simp))
  |_=>exact absurd (show false=true from hs) Am
 |str i =>
  obtain⟨t,rfl⟩:=rx;cases y with
  |non=>cases ry;exact PySem.EqNone.eq_str_none (jao I q (by simp))
  |bl j=>cases ry;exact PySem.EqMixed.eq_str_bool (jao I q (by simp))
  |int j=>obtain⟨t',rfl⟩:=ry;exact PySem.EqMixed.eq_str_int (jao I q (by simp))
  |str j=>obtain⟨t',rfl⟩:=ry;exact eq_str (jao I q joz)
  |_=>exact absurd (show false=true from hs) Am
 |byt i =>
  obtain⟨t,rfl⟩:=rx;cases y with
  |byt j=>obtain⟨t',rfl⟩:=ry;exact PySem.W.eq_bytes (jao I q jo1)
  |_=>exact absurd (show false=true from hs) Am
 |_=>cases y<;>exact absurd (show false=true from hs) Am
theorem jzk:OpR X (B4 .NotEq) rNe:=by
 intro pins s σ H x y v u Q I rx ry h;obtain⟨hs,q⟩:=h;cases x with
 |non =>
  cases rx;cases y with
  |non=>cases ry;exact PySem.EqNone.ne_none_none (jao I q (by simp))
  |bl j=>cases ry;exact PySem.EqNone.ne_none_bool (jao I q (by simp))
  |int j=>obtain⟨t',rfl⟩:=ry;exact PySem.EqNone.ne_none_int (jao I q (by simp))
  |str j=>obtain⟨t',rfl⟩:=ry;exact PySem.EqNone.ne_none_str (jao I q (by simp))
  |_=>exact absurd (show false=true from hs) Am
 |bl i =>
  cases rx;cases y with
  |non=>cases ry;exact PySem.EqNone.ne_bool_none (jao I q (by simp))
  |bl j=>cases ry;exact ne_bool (jao I q (congrArg not jsj))
  |str j=>obtain⟨t',rfl⟩:=ry;exact PySem.EqMixed.ne_bool_str (jao I q (by simp))
  |_=>exact absurd (show false=true from hs) Am
 |int i =>
  obtain⟨t,rfl⟩:=rx;cases y with
  |non=>cases ry;exact PySem.EqNone.ne_int_none (jao I q (by simp))
  |int j=>obtain⟨t',rfl⟩:=ry;exact ne_int (jao I q (congrArg not jo0))
  |str j=>obtain⟨t',rfl⟩:=ry;exact PySem.EqMixed.ne_int_str (jao I q (by simp))
  |_=>exact absurd (show false=true from hs) Am
 |str i =>
  obtain⟨t,rfl⟩:=rx;cases y with
  |non=>cases ry;exact PySem.EqNone.ne_str_none (jao I q (by simp))
  |bl j=>cases ry;exact PySem.EqMixed.ne_str_bool (jao I q (by simp))
  |int j=>obtain⟨t',rfl⟩:=ry;exact PySem.EqMixed.ne_str_int (jao I q (by simp))
  |str j=>obtain⟨t',rfl⟩:=ry;exact ne_str (jao I q (congrArg not joz))
  |_=>exact absurd (show false=true from hs) Am
 |byt i =>
  obtain⟨t,rfl⟩:=rx;cases y with
  |byt j=>obtain⟨t',rfl⟩:=ry;exact PySem.W.ne_bytes (jao I q (congrArg not jo1))
  |_=>exact absurd (show false=true from hs) Am
 |_=>cases y<;>exact absurd (show false=true from hs) Am
theorem op_lt:OpR X (B4 .Lt) (rI0 λi j=>.bl (decide (i < j))):=opB0 λ_ _ _ _ _ _ _ q=>lt_int q
theorem op_le:OpR X (B4 .LtE) (rI0 λi j=>.bl (decide (i<=j))):=opB0 λ_ _ _ _ _ _ _ q=>le_int q
theorem op_gt:OpR X (B4 .Gt) (rI0 λi j=>.bl (decide (j < i))):=opB0 λ_ _ _ _ _ _ _ q=>gt_int q
theorem jzl:OpR X (B4 .GtE) (rI0 λi j=>.bl (decide (j<=i))):=opB0 λ_ _ _ _ _ _ _ q=>ge_int q
theorem jn4:OpR X (B4 .Lt) (λx y H Q=>∃i j,x=.str i/\y=.str j/\Q (.bl (decide (i.cps.toList < j.cps.toList))) H):=by
 intro pins s σ H x y v u Q I rx ry h;obtain⟨i,j,rfl,rfl,q⟩:=h;obtain⟨t,rfl⟩:=rx;obtain⟨t',rfl⟩:=ry;exact lt_str (jao I q rfl)
theorem jw8:OpR X (B4 .Is) (λx y H Q=>y=.non/\Q (.bl (decide (x=.non))) H):=by
 intro pins s σ H x y v u Q I rx ry h;obtain⟨rfl,q⟩:=h;cases ry;refine is_none_gen (jao I q ?_);cases x<;>first
  | (cases rx;rfl)
  | (obtain⟨t,rfl⟩:=rx;rfl)
theorem jn2:OpR X (B4 .IsNot) (λx y H Q=>y=.non/\Q (.bl (!decide (x=.non))) H):=by
 intro pins s σ H x y v u Q I rx ry h;obtain⟨rfl,q⟩:=h;cases ry;refine isnot_none_gen (jao I q ?_);cases x<;>first
  | (cases rx;rfl)
  | (obtain⟨t,rfl⟩:=rx;rfl)
theorem OpR.or {f:Ad->Ad->Sem Ad} {r r':R2} (h:OpR X f r) (h':OpR X f r'):OpR X f (λx y H Q=>r x y H Q\/r' x y H Q):=by
 intro pins s σ H x y v u Q I rx ry q;rcases q with q | q
 ·exact h pins s σ H x y v u Q I rx ry q
 ·exact h' pins s σ H x y v u Q I rx ry q
theorem jis (b:Expr) {op:CmpOp} (h:op≠.In:=by decide) (h2:op≠.NotIn:=by decide):D6 op b=false:=by
 have e1:(op==CmpOp.In)=false:=by cases op<;>first | rfl | exact absurd rfl h
 have e2:(op==CmpOp.NotIn)=false:=by cases op<;>first | rfl | exact absurd rfl h2
 cases b<;>simp[D6,e1,e2]
theorem jt2 {op:CmpOp} {r:R2} (ho:OpR X (B4 op) r) (ha:PE X a ta) (hb:PE X b tb) (hm:D6 op b=false):PE X (.Compare a [op] [b] pos) (tOp r ta tb):=by
 intro pins s σ H Q I h;exact wpAny_Compare1 (binT ha hb I h λv u s2 x y H2 I2 rx ry q=>ho pins s2 σ H2 x y v u Q I2 rx ry q) hm
def jpq (t:TE):TT:=λσ H Q=>t σ H λx H'=>∃k,x=.bl k/\Q k H'
theorem jej {op:CmpOp} {r:R2} (ho:OpR X (B4 op) r) (ha:PE X a ta) (hb:PE X b tb) (hm:D6 op b=false):PT X (.Compare a [op] [b] pos) (jpq (tOp r ta tb)):=by
 intro pins s σ H Q I h;refine wpAny_isTrue_Compare1 (thn (ha pins s σ H _ I h) λv s1 ⟨x,H1,I1,r1,q1⟩=>thn (hb pins s1 σ H1 _ I1 q1) λu s2 ⟨y,H2,I2,r2,q2⟩ =>
  thn (ho pins s2 σ H2 x y v u _ I2 r1 r2 q2) λc s3 ⟨z,H3,I3,r3,k,e,q3⟩=>?_) hm
 subst e;cases r3;exact wpAny_truthy_bool ⟨H3,I3,q3⟩
theorem jgh:(Az:Nat) < 2 ^ 63:=by rw[Cf];decide
theorem op_add_str:OpR X (Ea .Add) (λx y H Q=>∃i j,x=.str i/\y=.str j/\i.length+j.length<=Az/\Q (.str (i++j)) H):=by
 intro pins s σ H x y v u Q I rx ry h;obtain⟨i,j,rfl,rfl,hz,q⟩:=h;obtain⟨t,rfl⟩:=rx;obtain⟨t',rfl⟩:=ry;exact add_str (λt' tk=>⟨.str (i++j),H,I.tok _,⟨_,rfl⟩,q⟩) hz
theorem jc5 {x:V} {us:List Ad} (r:Vals [x] us):∃u,us=[u]/\RelV x u:=by
 cases r with
 |cons r1 r2=>cases r2;exact⟨_,rfl,r1⟩
theorem jsw {x y:V} {us:List Ad} (r:Vals [x,y] us):∃u w',us=[u,w']/\RelV x u/\RelV y w':=by
 cases r with
 |cons r1 r2 =>
  cases r2 with
  |cons r3 r4=>cases r4;exact⟨_,_,rfl,r1,r3⟩
theorem jpe:CallR X (.type "int") (λxs H Q=>(∃i,xs=[.int i]/\Q (.int i) H)\/∃k,xs=[.bl k]/\Q (.int (if k then 1 else 0)) H):=by
 intro pins s σ H xs us Q I r h;rcases h with⟨i,rfl,q⟩ | ⟨k,rfl,q⟩
 ·obtain⟨u,rfl,t,rfl⟩:=jc5 r;exact call_int_int ⟨.int i,H,I,⟨_,rfl⟩,q⟩
 ·obtain⟨u,rfl,r1⟩:=jc5 r;cases r1;exact call_int_bool ⟨.int (if k then 1 else 0),H,I.tok _,⟨_,rfl⟩,q⟩
end
structure ObjM (h:Heap) (x dx C:Addr) (mA:Str->Option Ad):Prop where
 obj:h.get? x=some (PySem.W.instObj C dx)
 ns:h.Ns1 dx mA
 ne:dx≠x
theorem jog {h:Heap} {dx:Addr} {mA:Str->Option Ad} (n:h.Ns1 dx mA):∃od,h.get? dx=some od/\∀name,PySem.W.lookIn name od=some (mA name):=by
 obtain⟨o,es,ep,ho,hd,hk,_,hm⟩:=n;refine⟨o,ho,λname=>?_⟩;have e:=hm name;unfold nsFind findBy at e;rw[<-Array.find?_toList]at e;unfold PySem.W.lookIn;rw[hd];dsimp only
 split
 ·rename_i y q;rw[q]at e;exact congrArg some e
 ·rename_i q;rw[q]at e;have a:es.toList.any (·.refKey)=false:=by
   rw[List.any_eq_false];intro y hy;obtain⟨z,t,hkey⟩:=hk y (Array.mem_toList_iff.mp hy);simp[DictEntry.refKey,hkey]
  have a':¬es.toList.any (·.refKey)=true:=by rw[a];exact Am
  rw[if_neg a'];exact congrArg some e
theorem ObjM.look {h:Heap} {x dx C:Addr} {mA:Str->Option Ad} (I:ObjM h x dx C mA):∃od,PySem.W.InstAt h x (PySem.W.instObj C dx) C (some od)/\∀name,PySem.W.lookIn name od=some (mA name) :=
 let⟨od,ho,hl⟩:=jog I.ns
 ⟨od,⟨I.obj,rfl,rfl,ho⟩,hl⟩
theorem RelO.some_of {v:V} {o:Option Ad} (r:RelO (some v) o):∃u,o=some u/\RelV v u:=by
 cases o with
 |none=>exact(show False from r).elim
 |some u=>exact⟨u,rfl,r⟩
section
variable {P:Bd} {w:Bq} {H H':Hp} {h h':Heap} {a C dx:Addr} {fs fs':List (Str×V)}
theorem juj (hok:HOk P w H h) (e:H a=some (.ins C dx fs)):∃mA,ObjM h a dx C mA/\(∀f,RelO (fs.lookup f) (mA f))/\PySem.Within mA (fs.map (·.1))/\fs.length<=1000/\H dx=some (.own a):=by
 obtain⟨d,z,ne,ob,mA,n,r,q⟩:=(show ObjOk P w H h a (.ins C dx fs)from hok a _ e);exact⟨mA,⟨ob,n,ne⟩,r,q,z,d⟩
end
structure Cls (K:Af) (C:Addr):Prop where
 pg:PySem.W.plainGet K C Str.empty=true
 hd:PySem.W.hasDictIn K C=true
 po:PySem.W.plainOver K C=true
 sa:PySem.W.findIn K (.ref C) "__setattr__"=some (some (.builtin "object.__setattr__"))
theorem Cls.get {K:Af} {C:Addr} (c:Cls K C) (f:Str):PySem.W.plainGet K C f=true:=c.pg
section
variable {X:Cx} {pins:List (Addr×Obj)} {σ:St} {H:Hp} {s:Ah} {A:Bj} {E:Ad->Ah->Prop} {Q:Ad->Ah->Prop} {c:Ad} {b:Bool}
inductive TyOf (K:Af) (H:Hp):V->Ad->Prop where
 |non:TyOf K H .non (.type "NoneType")
 |bl (x:Bool):TyOf K H (.bl x) (.type "bool")
 |int (i:Int):TyOf K H (.int i) (.type "int")
 |str (x:Str):TyOf K H (.str x) (.type "str")
 |flt (x:UInt64):TyOf K H (.flt x) (.type "float")
 |lst {a:Addr} {xs:List V} (e:H a=some (.lst xs)):TyOf K H (.ref a) (.type "list")
 |frz {a:Addr} {o:Obj} {xs:List V} (e:H a=some (.frz o (.lst xs))):TyOf K H (.ref a) (.type "list")
 |tup {a:Addr} {xs:List V} (e:H a=some (.tup xs)):TyOf K H (.ref a) (.type "tuple")
 |dK {a:Addr} {kvs:List (Key×V)} (e:H a=some (.dK kvs)):TyOf K H (.ref a) (.type "dict")
 |dT {a:Addr} {kvs:List (List Key×V)} (e:H a=some (.dT kvs)):TyOf K H (.ref a) (.type "dict")
 |ins {a C dx:Addr} {fs:List (Str×V)} (e:H a=some (.ins C dx fs)) (cl:Cls K C) (ha:PySem.W.findIn K (.ref C) "__class__"=some (some (.builtin "object.__class__")))
   (hn:PySem.W.specialIn K (.builtin "object.__class__") "__get__"=some (some (.builtin "getset_descriptor.__get__"))) (htk:PySem.W.takesIn K (.builtin "object.__class__")=some true)
   (hm:PySem.W.mroIn K C (.type "object")=some true):TyOf K H (.ref a) (.ref C)
theorem joq {x:V} {u t:Ad} (I:Inv X pins σ H s) (rx:RelV x u) (ty:TyOf X.K H x t) (e:PySem.W.kitOne X.K t c=some b) (h:∀tk,Q (.bool b) {s with toks:=tk}) :
  Aw (A1 X.prog X.w) A (call (.builtin "isinstance") [u,c]) Q E s:=by
 cases ty with
 |non=>cases(show u=Bc from rx);exact Cu PySem.W.kitx_none I.kIn True.intro e (λz=>nomatch z) h
 |bl y=>cases(show u=Value.bool y from rx);exact Cu PySem.W.kitx_bool I.kIn True.intro e (λz=>nomatch z) h
 |int i=>obtain⟨t,q⟩:=(show ∃t,u=Value.int i t from rx);cases q;exact Cu PySem.W.kitx_int I.kIn True.intro e (λz=>nomatch z) h
 |str y=>obtain⟨t,q⟩:=(show ∃t,u=Value.str y t from rx);cases q;exact Cu PySem.W.kitx_str I.kIn True.intro e (λz=>nomatch z) h
 |flt y=>obtain⟨t,q⟩:=(show ∃t,u=Value.float y t from rx);cases q;exact Cu PySem.W.kitx_float I.kIn True.intro e (λz=>nomatch z) h
 |@lst a xs ea =>
  cases(show u=Bb a from rx);obtain⟨_,_,n,_,h1⟩:=(show ObjOk X.prog X.w H s.heap a (.lst xs)from I.hok a _ ea);exact Cu PySem.W.kitx_list I.kIn ⟨_,h1,rfl⟩ e (λz=>nomatch z) h
 |@frz a ob xs ea =>
  cases(show u=Bb a from rx);obtain⟨_,_,_,n,_,h1⟩:=(show ObjOk X.prog X.w H s.heap a (.frz ob (.lst xs))from I.hok a _ ea);exact Cu PySem.W.kitx_list I.kIn ⟨_,h1,rfl⟩ e (λz=>nomatch z) h
 |@tup a xs ea =>
  cases(show u=Bb a from rx);obtain⟨_,_,_,p⟩:=(show ObjOk X.prog X.w H s.heap a (.tup xs)from I.hok a _ ea);obtain⟨o,h1,h2,_⟩:=p;exact Cu PySem.W.kitx_tuple I.kIn ⟨o,h1,h2⟩ e (λz=>nomatch z) h
 |@dK a kvs ea =>
  cases(show u=Bb a from rx);obtain⟨_,_,vs,_,p⟩:=(show ObjOk X.prog X.w H s.heap a (.dK kvs)from I.hok a _ ea);obtain⟨o,es,ep,h1,h2,_⟩:=p;exact Cu PySem.W.kitx_dict I.kIn ⟨o,h1,h2.1⟩ e (λz=>nomatch z) h
 |@dT a kvs ea =>
  cases(show u=Bb a from rx);obtain⟨_,_,xs,_,o,es,ep,h1,h2,_⟩:=(show ObjOk X.prog X.w H s.heap a (.dT kvs)from I.hok a _ ea);exact Cu PySem.W.kitx_dict I.kIn ⟨o,h1,h2.1⟩ e (λz=>nomatch z) h
 |@ins a C dx fs ea cl ha hn htk hm =>
  cases(show u=Bb a from rx);obtain⟨mA,O,_⟩:=juj I.hok ea;obtain⟨od,J,_⟩:=O.look;exact Cu (PySem.W.kitx_own (cl.get _) cl.hd ha hn htk hm) I.kIn J e (λz=>nomatch z) h
end
structure Room (k:Nat) (A:Bj):Prop where
 hd:A.handled=none
 dp:A.depth+3*k+5 < recursionLimit
 un:A.units+16*k+200 < Dn
 gd:A.guards=some []
theorem Room.mono {j k:Nat} {A:Bj} (r:Room k A) (h:j<=k):Room j A:=⟨r.hd,by have:=r.dp;omega,by have:=r.un;omega,r.gd⟩
theorem Room.deeper {k:Nat} {A:Bj} (r:Room (k+1) A) (env:Env):Room k (A.deeper env) :=
 ⟨r.hd,by have:=r.dp;show A.depth+1+3*k+5 < _;omega,by have:=r.un;show A.units+3+16*k+200 < _;omega,r.gd⟩
theorem Room.in1 {k:Nat} {A:Bj} (r:Room (k+1) A):Room k A.in1 :=
 ⟨r.hd,by have:=r.dp;show A.depth+3*k+5 < _;omega,by have:=r.un;show A.units+1+16*k+200 < _;omega,r.gd⟩
theorem Room.depth {k:Nat} {A:Bj} (r:Room k A):A.depth < recursionLimit:=by have:=r.dp;omega
theorem Room.units {k:Nat} {A:Bj} (r:Room k A):A.units+64 < Dn:=by have:=r.un;omega
theorem Room.units0 {k:Nat} {A:Bj} (r:Room k A):A.units < Dn:=by have:=r.un;omega
def tNil:TA:=λ_ H Q=>Q [] H
def jby (ta:TE) (tr:TA):TA:=λσ H Q=>ta σ H λx H1=>tr σ H1 λxs H2=>Q (x::xs) H2
section
variable {X:Cx} {e:Expr} {es:List Expr} {te:TE} {t:TA} {pos:Pos}
theorem jbd:PA X [] tNil:=λ_ _ _ _ H Q I h=>Calls.spliced_nil ⟨[],H,I,.nil,h⟩
theorem jak (ha:PE X e te) (hr:PA X es t) (hs:Au (e::es) X.env=(false,eval e X.env)::Au es X.env:=by rfl):PA X (e::es) (jby te t):=by
 intro pos pins s σ H Q I h;rw[hs];show Aw _ _ (spliced ((false,eval e X.env)::Da pos (Au es X.env))) _ _ s;refine Calls.spliced_cons (thn (ha pins s σ H _ I h) λu s1 ⟨x,H1,I1,r1,q1⟩=>?_);exact thn (hr pos pins s1 σ H1 _ I1 q1) λus s2 ⟨xs,H2,I2,r2,q2⟩=>⟨x::xs,H2,I2,.cons r1 r2,q2⟩
def tTup (t:TA):TE:=λσ H Q=>t σ H λxs H1=>xs.length<=Az/\∀p,H1 p=none->Q (.ref p) (upd H1 p (.tup xs))
def tLst (t:TA):TE:=λσ H Q=>t σ H λxs H1=>xs.length<=Az/\∀p,H1 p=none->Q (.ref p) (upd H1 p (.lst xs))
theorem jww {x1} (h:PA X es t):PE X (.Tuple es x1 pos) (tTup t):=by
 intro pins s σ H Q I hq;refine wpAny_Tuple_spliced (thn (h pos pins s σ H _ I hq) λus s1 ⟨xs,H1,I1,r,z,q⟩=>⟨by rw[<-r.length];exact z,?_⟩);have hf:H1 s1.heap.objs.size=none:=I1.hok.fresh (Ao _);refine⟨.ref s1.heap.objs.size,upd H1 s1.heap.objs.size (.tup xs),I1.laid (t':=s1.toks) (λb u e=>Ai _ e) (Ao _) ?_,rfl,q _ hf⟩;exact⟨z,us,r,IsTupP.new _ _⟩
theorem jny (h:PA X es t):PE X (.List es pos) (tLst t):=by
 intro pins s σ H Q I hq;refine wpAny_List_spliced (thn (h pos pins s σ H _ I hq) λus s1 ⟨xs,H1,I1,r,z,q⟩=>⟨by rw[<-r.length];exact z,?_⟩);have hf:H1 s1.heap.objs.size=none:=I1.hok.fresh (Ao _);refine⟨.ref s1.heap.objs.size,upd H1 s1.heap.objs.size (.lst xs),I1.laid (t':=s1.toks) (λb u e=>Ai _ e) (Ao _) ?_,rfl,q _ hf⟩;exact⟨z,us,0,r,Av _ rfl⟩
end
abbrev Sp:=List V->Hp->VK->XK->Prop
abbrev CXT:=List Env->Hp->Ah->XK->Ad->Ah->Prop
structure Env0 (P:Bd) (w:Bq) (K:Af) (mg:Str->Option Ad) (base:Heap) (A:Bj) (outer:List Env) (s:Ah) (H:Hp):Prop where
 frames:A.frames=some outer
 mod:Mod K mg base
 bs:∀b o,base.get? b=some o->s.heap.get? b=some o/\H b=none
 bsz:base.objs.size<=s.heap.objs.size
 funs:s.heap.FunFrames base outer
 frf:∀b∈frs outer,H b=none
 hok:HOk P w H s.heap
 bare:AllBare s.gens
def CE (outer:List Env) (P:Bd) (w:Bq) (H:Hp) (s:Ah) (Q:VK) (u:Ad) (s':Ah):Prop :=
 ∃v H',s'.os=s.os/\AllBare s'.gens/\Un (frs outer) [] H H' s.heap s'.heap/\HOk P w H' s'.heap/\RelV v u/\Q v H'
def CR (CX:CXT) (outer:List Env) (P:Bd) (w:Bq) (H:Hp) (s:Ah) (Q:VK) (E:XK) (r:Result) (s':Ah):Prop :=
 match r with
 |.ok (.ret u)=>CE outer P w H s Q u s'
 |.ok _=>False
 |.error e=>CX outer H s E e s'
structure FnOk (P:Bd) (w:Bq) (K:Af) (mg:Str->Option Ad) (base:Heap) (CX:CXT) (k:Nat) (f:Addr) (fd:B8) (ps:List Str) (sp:Sp):Prop where
 len:∀vs H Q E,sp vs H Q E->vs.length=ps.length
 run:∀(A:Bj) (outer:List Env) (s:Ah) (H:Hp) (args:Args) (us:List Ad) (vs:List V) (Q:VK) (E:XK),Room k A->Env0 P w K mg base A outer s H->BindsTo s fd args (ps.zip us)->Vals vs us->sp vs H Q E ->
  E8 (A1 P w) A (.call (.ref f) args) (CR CX outer P w H s Q E) s
theorem FnOk.imp {P:Bd} {w:Bq} {K:Af} {mg:Str->Option Ad} {base:Heap} {CX:CXT} {k:Nat} {f:Addr} {fd:B8} {ps:List Str} {sp sp':Sp} (F:FnOk P w K mg base CX k f fd ps sp)
  (h:∀vs H Q E,sp' vs H Q E->sp vs H Q E):FnOk P w K mg base CX k f fd ps sp' :=
 ⟨λvs H Q E q=>F.len vs H Q E (h _ _ _ _ q),λA outer s H args us vs Q E hr he hb hv hs=>F.run A outer s H args us vs Q E hr he hb hv (h _ _ _ _ hs)⟩
theorem Env0.in1 {P:Bd} {w:Bq} {K:Af} {mg:Str->Option Ad} {base:Heap} {A:Bj} {outer:List Env} {s:Ah} {H:Hp} (e:Env0 P w K mg base A outer s H) :
  Env0 P w K mg base A.in1 outer s H:=⟨e.frames,e.mod,e.bs,e.bsz,e.funs,e.frf,e.hok,e.bare⟩
section
variable {X:Cx} {pins:List (Addr×Obj)} {σ:St} {H:Hp} {s s':Ah}
theorem Inv.env0 (I:Inv X pins σ H s):Env0 X.prog X.w X.K X.mg X.base X.A X.stack s H :=
 ⟨I.ok.frames,I.ok.mod,I.bs,A5 I.ok.bsz I.sz,I.stack,I.stkFree,I.hok,I.bare⟩
theorem Inv.after {Q:VK} {u:Ad} (I:Inv X pins σ H s) (h:CE X.stack X.prog X.w H s Q u s'):EP X pins σ Q u s':=by
 obtain⟨v,H',os,bare,un,hok,r,q⟩:=h;obtain⟨hh,g,d,t,os'⟩:=s';obtain rfl:os'=s.os:=os;exact⟨v,H',I.call (h':=hh) (g':=g) (d':=d) (t':=t) (ch:=[]) un hok bare (λb z=>absurd z (by simp)),r,q⟩
end
def jei (sp:Sp) (dvs:List V) (E:XK) (t:TA):TE:=λσ H Q=>t σ H λvs H1=>sp (vs++dvs) H1 Q E
def Binds (K:Af) (fd:B8) (ps:List Str) (ds:List Ad):Prop :=
 ∀(s:Ah) (us:List Ad),K.In s.heap->(us++ds).length=ps.length->BindsTo s fd ⟨us,[]⟩ (ps.zip (us++ds))
theorem Binds.all {K:Af} {fd:B8} {ps:List Str} (h:∀us:List Ad,us.length=ps.length->bindArgs fd ⟨us,[]⟩=pure (ps.zip us)):Binds K fd ps []:=λs us _ hl=>by
 rw[B7]at hl ⊢;exact .of_eq (h us hl)
def jpm (CX:CXT) (X:Cx) (E:XK):Prop:=∀(pins:List (Addr×Obj)) (σ:St) (H:Hp) (s:Ah) (e:Ad) (s':Ah),Inv X pins σ H s->CX X.stack H s E e s'->X.xe e s'
section
variable {X:Cx} {CX:CXT} {k:Nat} {f C:Addr} {fd:B8} {ps:List Str} {sp:Sp} {dvs:List V} {ds:List Ad} {E:XK} {x m:Str} {p pos apos:Pos} {e o:Expr} {es:List Expr} {ta:TE} {t:TA}
theorem jwi {pins:List (Addr×Obj)} {σ:St} {H:Hp} {s:Ah} {Q:VK} {us:List Ad} {vs:List V} (F:FnOk X.prog X.w X.K X.mg X.base CX k f fd ps sp) (hr:Room k X.A) (hb:Binds X.K fd ps ds) (hd:Vals dvs ds) (hx:jpm CX X E)
  (I:Inv X pins σ H s) (r:Vals vs us) (h:sp (vs++dvs) H Q E):Aw (A1 X.prog X.w) X.A (call (.ref f) us) (EP X pins σ Q) X.xe s:=by
 have r2:Vals (vs++dvs) (us++ds):=r.append hd;have hl:(us++ds).length=ps.length:=by rw[<-r2.length];exact F.len _ _ _ _ h
 refine wpAny_call (Fm (F.run X.A X.stack s H ⟨us,[]⟩ (us++ds) (vs++dvs) Q E hr I.env0 (hb s us I.kIn hl) r2 h) λr s' hq=>?_);cases r with
 |error e=>exact hx pins σ H s e s' I hq
 |ok fl =>
  cases fl with
  |ret u=>exact I.after hq
  |next=>exact False.elim hq
  |brk=>exact False.elim hq
  |cont=>exact False.elim hq
theorem jg4 (F:FnOk X.prog X.w X.K X.mg X.base CX k f fd ps sp) (hr:Room k X.A) (hg:Gl X x) (hm:X.mg x=some (.ref f)) (hk:Cp X.K (.ref f)=true) (hb:Binds X.K fd ps ds) (hd:Vals dvs ds) (hx:jpm CX X E)
  (ha:PA X (e::es) t) (hdb:(x==("__debug__":Str))=false:=by decide) (he:Au (e::es) X.env=(false,eval e X.env)::Au es X.env:=by rfl) (hpl:(Da pos (Au es X.env)).any (·.1)=false:=by rfl) :
  PE X (.Call (.Name x p) (e::es) [] pos) (jei sp dvs E t):=by
 intro pins s σ H Q I h;refine Fb (jj6 I hg hm ?_ hdb);refine PySem.W.callWith_K (h₀:=X.base) I.ok.mod.kin hk (thn (ha pos pins s σ H _ I h) λus s1 ⟨vs,H1,I1,r,q⟩=>⟨I1.kIn,?_⟩) he hpl;exact jwi F hr hb hd hx I1 r q
end
structure FnScope (N P:List Str) (sc:Ee):Prop where
 kind:sc.kind=.function
 co:sc.isCoroutine=false
 gen:sc.isGenerator=false
 nd:N.Nodup
 pre:N.take P.length=P
 par:∀x∈P,sc.names.lookup x=some .local\/sc.names.lookup x=some .cell
 nofree:∀y∈sc.names,y.2≠.free
theorem ji9 {kindOf:Str->Option NameKind} {x:Str}:∀{binds:List (Str×Ad)} {m:Str->Option Ad},(∀v,(x,v)∉binds)->bindL kindOf binds m x=m x
 |[],_,_=>rfl
 | (n,v)::r,m,h=>by
  unfold bindL;rw[ji9 λw hw=>h w (Ak _ hw)]
  split
  ·have:x≠n:=by rintro rfl;exact h v An
   simp[this]
  ·rfl
theorem jjb {kindOf:Str->Option NameKind} {x:Str}:∀{binds:List (Str×Ad)} {m:Str->Option Ad},(∀v,(x,v)∉binds)->bindC kindOf binds m x=m x
 |[],_,_=>rfl
 | (n,v)::r,m,h=>by
  unfold bindC;rw[jjb λw hw=>h w (Ak _ hw)]
  split
  ·rfl
  ·have:x≠n:=by rintro rfl;exact h v An
   simp[this]
theorem jja {kindOf:Str->Option NameKind} {x:Str} {v:Ad}:∀{P:List Str} {vs:List Ad} {i:Nat} {m:Str->Option Ad},P.Nodup->P[i]?=some x->vs[i]?=some v->kindOf x=some .local ->
  bindL kindOf (P.zip vs) m x=some v
 |[],_,_,_,_,h,_,_=>by simp at h
 |_::_,[],_,_,_,_,h,_=>by simp at h
 |p::P,w::vs,0,m,nd,h1,h2,hk=>by
  simp at h1 h2;subst h1;subst h2;show bindL kindOf ((p,w)::P.zip vs) m p=_;unfold bindL;rw[ji9 λv hv=>(Dr.mp nd).1 (List.of_mem_zip hv).1,if_pos hk];simp
 |p::P,w::vs,i+1,m,nd,h1,h2,hk=>by
  show bindL kindOf ((p,w)::P.zip vs) m x=_;unfold bindL;exact jja (i:=i) (Dr.mp nd).2 (by simpa using h1) (by simpa using h2) hk
theorem jjc {kindOf:Str->Option NameKind} {x:Str} {v:Ad}:∀{P:List Str} {vs:List Ad} {i:Nat} {m:Str->Option Ad},P.Nodup->P[i]?=some x->vs[i]?=some v->kindOf x≠some .local ->
  bindC kindOf (P.zip vs) m x=some v
 |[],_,_,_,_,h,_,_=>by simp at h
 |_::_,[],_,_,_,_,h,_=>by simp at h
 |p::P,w::vs,0,m,nd,h1,h2,hk=>by
  simp at h1 h2;subst h1;subst h2;show bindC kindOf ((p,w)::P.zip vs) m p=_;unfold bindC;rw[jjb λv hv=>(Dr.mp nd).1 (List.of_mem_zip hv).1,if_neg hk];simp
 |p::P,w::vs,i+1,m,nd,h1,h2,hk=>by
  show bindC kindOf ((p,w)::P.zip vs) m x=_;unfold bindC;exact jjc (i:=i) (Dr.mp nd).2 (by simpa using h1) (by simpa using h2) hk
def start (N:List Str) (vs:List V):St:=vs.map some++C1 (N.length - vs.length) none
def cxOf (CX:CXT) (P:Bd) (w:Bq) (K:Af) (mg:Str->Option Ad) (base:Heap) (N:List Str) (qual:Str) (scope:Ee) (f:Addr) (cd:Ad) (A:Bj) (outer:List Env) (s:Ah) (H:Hp) (E:XK):Cx where
 prog:=P
 w:=w
 K:=K
 mg:=mg
 base:=base
 A:=A.deeper (envOfC qual scope s.heap.objs.size f cd)
 N:=N
 s₀:=s
 H₀:=H
 env:=envOfC qual scope s.heap.objs.size f cd
 outer:=outer
 stack:=envOfC qual scope s.heap.objs.size f cd::outer
 ex:=[]
 calm:=true
 fn:=λ_=>true
 pn:=[]
 xe:=λe s'=>Aw (A1 P w) (A.deeper (envOfC qual scope s.heap.objs.size f cd)) (leaving (envOfC qual scope s.heap.objs.size f cd) e) (λ_ s''=>CX outer H s E e s'') (λe' s''=>CX outer H s E e' s'') s'
theorem jk3 {sc:Ee} {n:Nat} {x:Str} (h:sc.names.lookup x=some .cell):∃c,(cellsFrom n sc.names []).lookup x=some c:=by
 have q:=PySem.W.cellsFrom_some sc.names n [] (.inl h);exact F3.mp q
theorem jor {CX:CXT} {P:Bd} {w:Bq} {K:Af} {mg:Str->Option Ad} {base:Heap} {N ps:List Str} {qual:Str} {scope:Ee} {f:Addr} {cd:Ad} {A:Bj} {outer:List Env} {s s1:Ah} {H:Hp} {E:XK} {us:List Ad} {vs:List V}
  (S:FnScope N ps scope) (hd:A.handled=none) (e0:Env0 P w K mg base A outer s H) (hl:vs.length=ps.length) (r:Vals vs us)
  (x:InCallC s s.heap.objs.size (bindL (envOfC qual scope s.heap.objs.size f cd).kindOf (ps.zip us) λ_=>none) (cellsFrom (s.heap.objs.size+1) scope.names []) (bindC (envOfC qual scope s.heap.objs.size f cd).kindOf (ps.zip us) λ_=>none) s1) :
  Inv (cxOf CX P w K mg base N qual scope f cd A outer s H E) [] (start N vs) H s1:=by
 have hpl:ps.length<=N.length:=by have:=congrArg List.length S.pre;rw[Eo]at this;omega
 obtain⟨h1,tk,rfl,hk⟩:=x.done;have noA:∀b:Addr,b∉(cxOf CX P w K mg base N qual scope f cd A outer s H E).ex:=λb z=>absurd (show b∈([]:List Addr)from z) (by simp);refine⟨⟨e0.mod,S.kind,rfl,rfl,Ao _,λy z c h1 h2=>?_,λy hy=>?_,λy c _ h=>?_,λ_=>hd,Around.frames_deeper e0.frames,.inr ⟨rfl,rfl⟩,λb z=>absurd z (noA b),e0.bs,e0.bsz,λb _ _=>noA b,λb z=>absurd z (noA b),e0.funs,e0.frf⟩,
  rfl,e0.bare,Un.kept hk,⟨_,x.toInCall.ns,λi y v h1 h2 h3=>?_⟩,λy c h=>⟨_,x.cell y c h⟩,e0.hok.fresh (Ao _),λy c h=>?_,λp hp=>absurd (show p∈([]:List (Addr×Obj))from hp) (by simp),e0.hok.kept hk,?_⟩
 ·exact name_of_addr x.apart (Er h1) (Er h2)
 ·have hy:scope.names.lookup y=some .cell\/scope.names.lookup y=some .free:=hy;rcases hy with hy | hy
  ·exact jk3 hy
  ·exact absurd rfl (S.nofree _ (Er hy))
 ·exact Fd (x.above y c (Er h))
 ·have hi:i < vs.length:=by
   unfold start at h2;by_cases hi:i < vs.length
   ·exact hi
   ·rw[List.getElem?_append_right (by simpa using hi)]at h2;rw[D4]at h2
    split at h2<;>cases h2
  have ha:vs[i]?=some v:=by
   unfold start at h2;rw[Et (by simpa using hi),A0]at h2;cases e:vs[i]? with
   |none=>rw[e]at h2;cases h2
   |some a=>rw[e]at h2;cases h2;rfl
  obtain⟨u,hu,rv⟩:=r.get ha;have hp:ps[i]?=some y:=by
   rw[<-S.pre,List.getElem?_take_of_lt (by omega)];exact h1
  have ndP:ps.Nodup:=by rw[<-S.pre];exact S.nd.sublist (List.take_sublist _ _)
  refine⟨u,rv,?_⟩;rcases S.par y (By hp)with k | k
  ·exact .inl ⟨k,jja ndP hp hu k⟩
  ·obtain⟨c,e⟩:=jk3 (n:=s.heap.objs.size+1) k;refine .inr ⟨.inl k,c,e,?_⟩;have q:=x.cell y c e;rw[jjc ndP hp hu (by show scope.names.lookup y≠_;rw[k];decide)]at q;exact q
 ·exact e0.hok.fresh (Fd (x.above y c (Er h)))
 ·unfold start;show _=N.length;rw[As,Ae,List.length_replicate];omega
theorem jzt {CX:CXT} {P:Bd} {w:Bq} {K:Af} {mg:Str->Option Ad} {base:Heap} {k:Nat} {f:Addr} {name qual:Str} {params:Arguments} {body:List Stmt} {scope:Ee} {dV kV doc pm cdv ct oc:Ad} {an od:Option Addr}
  {osl:Array (Option Ad)} {N ps:List Str} {sp:Sp} (lk:K.lookup f=some ⟨oc,od,.func (Ek name qual params body scope dV kV doc pm an cdv ct),osl⟩) (hcd:PySem.W.codeIn K cdv qual=true) (S:FnScope N ps scope)
  (len:∀vs H Q E,sp vs H Q E->vs.length=ps.length)
  (hbody:∀(A:Bj) (outer:List Env) (s:Ah) (H:Hp) (vs:List V) (Q:VK) (E:XK),Room k (A.deeper (envOfC qual scope s.heap.objs.size f cdv))->sp vs H Q E ->
   ∃t,PSs (cxOf CX P w K mg base N qual scope f cdv A outer s H E) body t/\t {nx:=λ_ H'=>Q .non H',rt:=Q} (start N vs) H) :
  FnOk P w K mg base CX (k+1) f (Ek name qual params body scope dV kV doc pm an cdv ct) ps sp:=by
 refine⟨len,λA outer s H args us vs Q E hr e0 hb r hsp=>?_⟩;have hl:=len _ _ _ _ hsp;have KX:K.In s.heap:=e0.mod.kin.keeps λb o e=>(e0.bs b o e).1;have lim:s.heap.NoLimit:=e0.mod.nolimit.keeps λb o e=>(e0.bs b o e).1;have hkind:∀y∈ps.zip us,scope.names.lookup y.1=some .local\/(scope.names.lookup y.1=some .cell/\((cellsFrom (s.heap.objs.size+1) scope.names []).lookup y.1).isSome=true):=λ⟨n,v⟩ hy=>by
  rcases S.par n (List.of_mem_zip hy).1 with q | q
  ·exact .inl q
  ·exact .inr ⟨q,PySem.W.cellsFrom_some _ _ _ (.inl q)⟩
 refine codeAny_call_function hr.depth (KX _ _ lk) rfl S.co S.gen rfl (PySem.W.codeRec_of KX hcd) (hb _ _ _ _ ?_);refine wpAny_newFunctionEnv_cells S.kind hkind λenv he s1 x=>?_;subst he;refine⟨lim.keeps x.toInCall.keep,codeAny_func ?_⟩;obtain⟨t,ht,hq⟩:=hbody A outer s H vs Q E (hr.deeper _) hsp;have I:Inv (cxOf CX P w K mg base N qual scope f cdv A outer s H E) [] (start N vs) H s1:=jor S hr.hd e0 hl r x;refine Ci (ht [] s1 (start N vs) H _ I hq) (λfl s' hs=>?_) λe s' hs=>hs;have fin:∀{σ':St} {H':Hp} {v:V} {u:Ad},Inv (cxOf CX P w K mg base N qual scope f cdv A outer s H E) [] σ' H' s'->RelV v u->Q v H'->CE outer P w H s Q u s' :=
  λ{σ' H' v u} J rv q=>⟨v,H',J.os,J.bare,J.base,J.hok,rv,q⟩
 cases fl with
 |ret u =>
  obtain⟨v,σ',H',J,rv,q⟩:=hs;exact fin J rv q
 |next =>
  obtain⟨σ',H',J,q⟩:=hs;exact fin (v:=V.non) (u:=Bc) J rfl q
 |brk =>
  obtain⟨_,_,_,q⟩:=hs;exact False.elim q
 |cont =>
  obtain⟨_,_,_,q⟩:=hs;exact False.elim q
section
variable {X:Cx} {x:Str} {p pos:Pos} {e:Expr} {es:List Expr} {t:TA} {id T:String} {r:List V->Hp->VK->Prop}
def tCB (r:List V->Hp->VK->Prop) (t:TA):TE:=λσ H Q=>t σ H λvs H1=>r vs H1 Q
theorem jb9 (hc:CallR X (.builtin id) r) (hg:Gl X x) (hm:X.mg x=none) (hv:Bm x=some (.builtin id)) (ha:PA X (e::es) t) (hn:x≠"__name__":=by decide) (hdb:(x==("__debug__":Str))=false:=by decide)
  (he:Au (e::es) X.env=(false,eval e X.env)::Au es X.env:=by rfl) (hpl:(Da pos (Au es X.env)).any (·.1)=false:=by rfl):PE X (.Call (.Name x p) (e::es) [] pos) (tCB r t):=by
 intro pins s σ H Q I h;refine Fb (jgi I hg hm hv ?_ hn hdb);exact PyProof.Rows.callWith_builtin1 (thn (ha pos pins s σ H _ I h) λus s1 ⟨vs,H1,I1,r1,q1⟩=>hc pins s1 σ H1 vs us Q I1 r1 q1) he hpl
theorem jb0 (hc:CallR X (.type T) r) (hg:Gl X x) (hm:X.mg x=none) (hv:Bm x=some (.type T)) (ha:PA X (e::es) t) (hn:x≠"__name__":=by decide) (hdb:(x==("__debug__":Str))=false:=by decide)
  (he:Au (e::es) X.env=(false,eval e X.env)::Au es X.env:=by rfl) (hpl:(Da pos (Au es X.env)).any (·.1)=false:=by rfl):PE X (.Call (.Name x p) (e::es) [] pos) (tCB r t):=by
 intro pins s σ H Q I h;refine Fb (jgi I hg hm hv ?_ hn hdb);exact PyProof.Rows.callWith_type1 (thn (ha pos pins s σ H _ I h) λus s1 ⟨vs,H1,I1,r1,q1⟩=>hc pins s1 σ H1 vs us Q I1 r1 q1) he hpl
end
end L2
namespace HT
open PySem PyProof.Rows
section
variable {prog:Bd} {w:Bq} {A:Bj} {E:Ad->Ah->Prop} {s:Ah}
theorem cat_tup {t b:Addr} {vs ws:List Ad} {Q:Ad->Ah->Prop} (ht:IsTup s.heap t vs.toArray) (hb:IsTup s.heap b ws.toArray) (hv:vs≠[])
  (h1:ws=[]->Q (.ref t) s) (h2:ws≠[]->Q (.ref s.heap.objs.size) {s with heap:=s.heap.push {cls:=.type "tuple",data:=.seq (vs++ws).toArray}})
  (hsz:vs.length+ws.length<=Az):Aw (A1 prog w) A (Ea .Add (.ref t) (.ref b)) Q E s:=by
 obtain⟨⟨cls,dd,data,sl⟩,ho,hc,n,hd⟩:=id ht;obtain⟨⟨cls2,dd2,data2,sl2⟩,ho2,hc2,n2,hd2⟩:=id hb;simp only at hc hd hc2 hd2;subst hc hd hc2 hd2;have e:vs.toArray++ws.toArray=(vs++ws).toArray:=by simp
 by_cases hw:ws=[]
 ·exact concat_meets ⟨_,ho,rfl⟩ ⟨_,ho2,rfl⟩ noFill_tuple_add seq_tuple_add E5 E1 (Es _ _)
   (tuple_addW1 t b vs.toArray ws.toArray n n2 dd dd2 sl sl2 (by simpa using hv) (by simp[hw])) ⟨ho,ho2,h1 hw⟩
 ·refine concat_meets ⟨_,ho,rfl⟩ ⟨_,ho2,rfl⟩ noFill_tuple_add seq_tuple_add E5 E1 (Es _ _)
   (tuple_addW2 t b vs.toArray ws.toArray n n2 dd dd2 sl sl2 (by simpa using hv) (by simpa using hw) (by rw[Ap,Ap];exact hsz)) ⟨ho,ho2,?_⟩
  rw[e];exact h2 hw
def sIx (n d:Nat):Option Int->Nat
 |none=>d
 |some v=>if v < 0 then(v+(n:Int)).toNat else min v.toNat n
theorem sIx_none (n d:Nat):sIx n d none=d:=rfl
theorem sIx_nat (n d k:Nat):sIx n d (some (k:Int))=min k n:=by
 show(if (k:Int) < 0 then((k:Int)+(n:Int)).toNat else min (k:Int).toNat n)=min k n;rw[if_neg (by omega),Bv]
theorem jwg (n d:Nat) (hd:d<=n) (o:Option Int):sIx n d o<=n:=by
 cases o with
 |none=>exact hd
 |some v =>
  show(if v < 0 then(v+(n:Int)).toNat else min v.toNat n)<=n;by_cases hv:v < 0
  ·rw[if_pos hv];omega
  ·rw[if_neg hv];exact Nat.min_le_right _ _
theorem jpb (v:Int) (n d:Nat):(if v < 0 then max (v+(n:Int)) 0 else min v (n:Int))=((sIx n d (some v):Nat):Int):=by
 show(if v < 0 then max (v+(n:Int)) 0 else min v (n:Int))=(((if v < 0 then(v+(n:Int)).toNat else min v.toNat n):Nat):Int);by_cases hv:v < 0
 ·simp only[if_pos hv];omega
 ·simp only[if_neg hv];omega
theorem jmc (lo hi:Option Int) (n:Nat):Fo lo hi 1 (n:Int)=(((sIx n 0 lo:Nat):Int),((sIx n n hi:Nat):Int)):=by
 have h1:¬((1:Int) < 0):=by omega
 unfold Fo;simp only[h1,if_false];refine Prod.ext ?_ ?_
 ·cases lo with
  |none=>rfl
  |some v=>exact jpb v n 0
 ·cases hi with
  |none=>rfl
  |some v=>exact jpb v n n
theorem jlo (i j:Nat):Ed (i:Int) (j:Int) 1=j - i:=by
 unfold Ed;have h1:(1:Int) > 0:=by omega
 simp only[h1,if_true,Int.ediv_one]
 split<;>omega
theorem jf9 {v:Ad} {o:Option Int} {Q:Option Int->Ah->Prop} (p:IsPart v o) (h:Q o s):Aw (A1 prog w) A (Builtin.Slice.slicePartIndex v) Q E s:=by
 cases p with
 |none=>exact slicePart_none h
 |int i t=>exact slicePart_int h
theorem jbv {sl:Addr} {vl vu:Ad} {lo hi:Option Int} {n:Nat} {Q:Int×Int×Nat->Ah->Prop} (hs:s.heap.IsSliceOf sl vl vu .none) (pl:IsPart vl lo) (pu:IsPart vu hi)
  (h:Q (((sIx n 0 lo:Nat):Int),1,sIx n n hi - sIx n 0 lo) s):Aw (A1 prog w) A (Builtin.Slice.sliceApplied (.ref sl) (pure (n:Int))) Q E s:=by
 obtain⟨os,hos,hcs,hds⟩:=id hs;unfold Builtin.Slice.sliceApplied Builtin.Slice.sliceFields;refine Aa (Aa (wpAny_field hos hds (x:=vl) rfl (Aa (wpAny_field hos hds (x:=vu) rfl (Aa (wpAny_field hos hds (x:=.none) rfl (Ag ?_)))))));refine Aa (slicePart_none ?_);show Aw _ _ (if ((1:Int)==0)=true then _ else _) _ _ s;rw[if_neg (by decide)];refine Aa (jf9 pl (Aa (jf9 pu (Aa (Ag ?_)))));show Aw _ _ (match Fo lo hi 1 (n:Int)with | (lo,hi)=>pure (lo,(1:Int),Ed lo hi 1)) _ _ s;rw[jmc lo hi n];show Aw _ _ (pure (((sIx n 0 lo:Nat):Int),(1:Int),Ed ((sIx n 0 lo:Nat):Int) ((sIx n n hi:Nat):Int) 1)) _ _ s;rw[jlo];exact Ag h
theorem jqe (xs:Array Ad) (i k:Nat):((Bt k).filterMap λ(m:Nat)=>xs[((i:Int)+(m:Int)*1).toNat]?).toArray=((xs.toList.drop i).take k).toArray:=by
 have e:(λ(m:Nat)=>xs[((i:Int)+(m:Int)*1).toNat]?)=λm=>xs[i+m]?:=by
  funext m
  have:((i:Int)+(m:Int)*1).toNat=i+m:=by omega
  rw[this]
 rw[e];have:=pick_run xs i k;rw[List.filterMap_map]at this;have e2:((λx=>xs[x]?) ∘ λx=>i+x)=λm=>xs[i+m]?:=rfl;rw[e2]at this;rw[this]
theorem getItem_tuple_cut {t sl:Addr} {items:Array Ad} {vl vu:Ad} {lo hi:Option Int} {Q:Ad->Ah->Prop} (ht:IsTup s.heap t items) (hs:s.heap.IsSliceOf sl vl vu .none) (pl:IsPart vl lo) (pu:IsPart vu hi)
  (hw:¬(sIx items.size 0 lo=0/\sIx items.size items.size hi=items.size))
  (h:Q (.ref s.heap.objs.size) {s with heap:=s.heap.push {cls:=.type "tuple",data:=.seq ((items.toList.drop (sIx items.size 0 lo)).take (sIx items.size items.size hi - sIx items.size 0 lo)).toArray}})
  (hsz:items.size<=Az):Aw (A1 prog w) A (getItem (.ref t) (.ref sl)) Q E s:=by
 have htake:sizeOk (.seq ((items.toList.drop (sIx items.size 0 lo)).take (sIx items.size items.size hi - sIx items.size 0 lo)).toArray):=by
  show((items.toList.drop (sIx items.size 0 lo)).take (sIx items.size items.size hi - sIx items.size 0 lo)).toArray.size<=Az;rw[Ap,Eo,List.length_drop,A7];omega
 have hj:sIx items.size items.size hi<=items.size:=jwg _ _ (Ao _) hi;obtain⟨os,hos,hcs,hds⟩:=id hs;have hTs:s.TypeIs (.ref sl) "slice":=⟨os,hos,hcs⟩;unfold getItem
 try with_reducible refine B6 ?_
 first | refine Aa (Ag ?_) | skip
 refine Aa (wpAny_sequenceKey ht.typeIs (by decide) ?_);refine Aa (Cb (name:=Cy "__getitem__") ht.typeIs Dp
  (Ca Dp ht.typeIs entry_tuple_getitem ?_ (args_tuple_getitem _ _)))
 show Aw _ _ (Fi (.ref t)>>=_) _ _ s;refine Aa (tupleItemsOf_ ht ?_);refine Aa (E2 hTs ?_);rw[if_pos (by decide)];refine Aa (jbv hs pl pu ?_);have hno:¬((((sIx items.size 0 lo:Nat):Int)==0&&(1:Int)==1&&(sIx items.size items.size hi - sIx items.size 0 lo)==items.size)=true):=by
  intro q;rw[Bs,Bs]at q;have q1:((sIx items.size 0 lo:Nat):Int)=0:=eq_of_beq q.1.1;have q2:sIx items.size items.size hi - sIx items.size 0 lo=items.size:=eq_of_beq q.2;exact hw ⟨by omega,by omega⟩
 show Aw _ _ (if (((sIx items.size 0 lo:Nat):Int)==0&&(1:Int)==1&&(sIx items.size items.size hi - sIx items.size 0 lo)==items.size)=true then _ else _) _ _ s;rw[if_neg hno,jqe]
 first
  |exact Aa (m:=Eh _) (Bo (Ag ⟨_,rfl,Ag h⟩) htake)
  |exact Aa (m:=Eh _) (Bo (Aa (Ag (Ag ⟨_,rfl,Ag h⟩))) htake)
  |exact Aa (Aa (m:=Eh _) (Bo (Ag (Ag ⟨_,rfl,Ag h⟩)) htake))
  |exact Aa (Aa (m:=Eh _) (Bo (Ag ⟨_,rfl,Ag h⟩) htake))
end
end HT
namespace L2
open PySem PySem.Spec PyProof.Rows
abbrev TO:=St->Hp->(Option Int->Hp->Prop)->Prop
def PO (X:Cx) (e:Option Expr) (t:TO):Prop :=
 ∀(pins:List (Addr×Obj)) (s:Ah) (σ:St) (H:Hp) (Q:Option Int->Hp->Prop),Inv X pins σ H s->t σ H Q ->
  Aw (A1 X.prog X.w) X.A (evalPart e X.env) (λu s'=>∃o H',Inv X pins σ H' s'/\IsPart u o/\Q o H') X.xe s
def jmq:TO:=λ_ H Q=>Q none H
def jvn (t:TE):TO:=λσ H Q=>t σ H λx H1=>∃i,x=.int i/\Q (some i) H1
section
variable {X:Cx} {e:Expr} {te:TE} {lo hi:Option Expr} {tl th:TO} {pos p2:Pos}
theorem jnu:PO X none jmq:=by
 intro pins s σ H Q I h;rw[evalPart_none];exact Ag ⟨none,H,I,.none,h⟩
theorem jnt (h:PE X e te):PO X (some e) (jvn te):=by
 intro pins s σ H Q I hw;rw[evalPart_some];refine thn (h pins s σ H _ I hw) λu s1 ⟨x,H1,I1,r1,q1⟩=>?_;obtain⟨i,rfl,q⟩:=q1;obtain⟨t,rfl⟩:=r1;exact⟨some i,H1,I1,.int i t,q⟩
def SlR (X:Cx) (r:V->Option Int->Option Int->Hp->VK->Prop):Prop :=
 ∀(pins:List (Addr×Obj)) (s:Ah) (σ:St) (H:Hp) (x:V) (v vl vu:Ad) (lo hi:Option Int) (sl:Addr) (Q:VK),Inv X pins σ H s->RelV x v->s.heap.IsSliceOf sl vl vu .none->IsPart vl lo->IsPart vu hi->r x lo hi H Q ->
  ∃T id,typeLookup (.type T) "__getitem__"=pure (some (.builtin id))/\s.TypeIs v T/\Aw (A1 X.prog X.w) X.A (getItem v (.ref sl)) (EP X pins σ Q) X.xe s
theorem SlR.or {r r':V->Option Int->Option Int->Hp->VK->Prop} (h:SlR X r) (h':SlR X r'):SlR X (λx lo hi H Q=>r x lo hi H Q\/r' x lo hi H Q):=by
 intro pins s σ H x v vl vu lo hi sl Q I rx hs pl pu q;rcases q with q | q
 ·exact h pins s σ H x v vl vu lo hi sl Q I rx hs pl pu q
 ·exact h' pins s σ H x v vl vu lo hi sl Q I rx hs pl pu q
def tSl (r:V->Option Int->Option Int->Hp->VK->Prop) (te:TE) (tl th:TO):TE:=λσ H Q=>te σ H λx H1=>tl σ H1 λl H2=>th σ H2 λu H3=>r x l u H3 Q
theorem jks {r:V->Option Int->Option Int->Hp->VK->Prop} (hr:SlR X r) (he:PE X e te) (hl:PO X lo tl) (hu:PO X hi th):PE X (.Subscript e (.Slice lo hi none p2) pos) (tSl r te tl th):=by
 intro pins s σ H Q I h;refine Subscript_ (thn (he pins s σ H _ I h) λv s1 ⟨x,H1,I1,r1,q1⟩=>?_);refine wpAny_Slice (thn (hl pins s1 σ H1 _ I1 q1) λvl s2 ⟨l,H2,I2,pl,q2⟩=>thn (hu pins s2 σ H2 _ I2 q2) λvu s3 ⟨u,H3,I3,pu,q3⟩=>?_);rw[evalPart_none];refine Ag ?_;have I4:Inv X pins σ H3 {s3 with heap:=s3.heap.push {cls:=.type "slice",data:=.fields #[vl,vu,.none]}}:=I3.kept (t':=s3.toks) λb ob q=>Ai _ q;obtain⟨T,id,hT,ht,hg⟩:=hr pins {s3 with heap:=s3.heap.push {cls:=.type "slice",data:=.fields #[vl,vu,.none]}} σ H3 x v vl vu l u s3.heap.objs.size Q I4 r1 (Heap.IsSliceOf.new ..) pl pu q3;show Aw (A1 X.prog X.w) X.A (subscriptTail e (.Slice lo hi none p2) v (.ref s3.heap.objs.size)) (EP X pins σ Q) X.xe {s3 with heap:=s3.heap.push {cls:=.type "slice",data:=.fields #[vl,vu,.none]}};exact tail_any (ops:=[.ref s3.heap.objs.size,v]) ht hT hg (by with_unfolding_all rfl)
def cutV (xs:List V) (lo hi:Option Int):List V:=(xs.drop (HT.sIx xs.length 0 lo)).take (HT.sIx xs.length xs.length hi - HT.sIx xs.length 0 lo)
theorem jcr (xs:List V) (lo hi:Option Int):(cutV xs lo hi).length<=xs.length:=by
 unfold cutV;rw[Eo,List.length_drop];omega
def rSlT (K:Af):V->Option Int->Option Int->Hp->VK->Prop:=λx lo hi H Q=>∃a xs,x=.ref a/\SqT K H a xs /\
 ¬(HT.sIx xs.length 0 lo=0/\HT.sIx xs.length xs.length hi=xs.length)/\∀p,H p=none->Q (.ref p) (upd H p (.tup (cutV xs lo hi)))
theorem sl_tup:SlR X (rSlT X.K):=by
 intro pins s σ H x v vl vu lo hi sl Q I rx hs pl pu h;obtain⟨a,xs,rfl,hx,hw,q⟩:=h;cases rx;obtain⟨its,r,ht,hz⟩:=I.tuple hx;have hlen:its.toArray.size=xs.length:=by rw[Ap];exact r.length.symm
 refine⟨"tuple",_,PyProof.Rows.slot_tuple_getitem.lookup,ht.typeIs,?_⟩;refine HT.getItem_tuple_cut ht hs pl pu (by rw[hlen];exact hw) ?_ (by rw[hlen];exact hz);rw[hlen];refine⟨.ref s.heap.objs.size,_,I.laid (t':=s.toks) (o:=.tup (cutV xs lo hi)) (λb ob q=>Ai _ q) (Ao _) ?_,rfl,q _ (I.hok.fresh (Ao _))⟩;exact⟨A5 (jcr xs lo hi) hz,_,(r.drop (HT.sIx xs.length 0 lo)).take (HT.sIx xs.length xs.length hi - HT.sIx xs.length 0 lo),IsTupP.new _ _⟩
def jwo (K:Af):R2:=λx y H Q=>∃a b xs ys,x=.ref a/\y=.ref b/\SqT K H a xs/\SqT K H b ys/\xs≠[]/\xs.length+ys.length<=Az /\
 (ys=[]->Q (.ref a) H)/\(ys≠[]->∀p,H p=none->Q (.ref p) (upd H p (.tup (xs++ys))))
theorem Vals.nil_iff {xs:List V} {us:List Ad} (r:Vals xs us):us=[]↔xs=[]:=by
 cases r with
 |nil=>simp
 |cons _ _=>simp
theorem op_catT:OpR X (Ea .Add) (jwo X.K):=by
 intro pins s σ H x y v u Q I rx ry h;obtain⟨a,b,xs,ys,rfl,rfl,ha,hb,hx,hz,q1,q2⟩:=h;cases rx;cases ry;obtain⟨its,r1,p1,_⟩:=I.tuple ha;obtain⟨its2,r2,p2,_⟩:=I.tuple hb;refine HT.cat_tup p1 p2 (λz=>hx (r1.nil_iff.mp z)) (λz=>⟨.ref a,H,I,rfl,q1 (r2.nil_iff.mp z)⟩) (λz=>?_) (by rw[<-r1.length,<-r2.length];exact hz);refine⟨.ref s.heap.objs.size,_,I.laid (t':=s.toks) (o:=.tup (xs++ys)) (λb ob q=>Ai _ q) (Ao _) ?_,rfl,q2 (λw=>z (r2.nil_iff.mpr w)) _ (I.hok.fresh (Ao _))⟩;exact⟨by rw[As];exact hz,_,r1.append r2,IsTupP.new _ _⟩
end
def ixN (n:Nat) (i:Int):Option Nat:=if 0<=i then(if i < n then some i.toNat else none)else if -(n:Int)<=i then some (i+n).toNat else none
def atI {α:Type} (xs:List α) (i:Int):Option α:=(ixN xs.length i).bind λj=>xs[j]?
theorem jop {n:Nat} {i:Int} {j:Nat} (h:ixN n i=some j):seqIndex? i n=some j/\j < n/\-(n:Int)<=i/\i < n:=by
 unfold ixN at h;by_cases h0:0<=i
 ·rw[if_pos h0]at h;by_cases h1:i < n
  ·rw[if_pos h1]at h;have e:i.toNat=j:=Bh h;exact⟨by rw[seqIndex_of h0 h1,e],by omega,by omega,h1⟩
  ·rw[if_neg h1]at h;cases h
 ·rw[if_neg h0]at h;by_cases h1:-(n:Int)<=i
  ·rw[if_pos h1]at h;have e:(i+n).toNat=j:=Bh h;exact⟨by rw[seqIndex_neg (by omega) h1,e],by omega,h1,by omega⟩
  ·rw[if_neg h1]at h;cases h
theorem jkb {α:Type} {xs:List α} {i:Int} {v:α} (h:atI xs i=some v):∃j,seqIndex? i xs.length=some j/\xs[j]?=some v/\j < xs.length/\-(xs.length:Int)<=i/\i < xs.length:=by
 unfold atI at h;cases e:ixN xs.length i with
 |none=>rw[e]at h;cases h
 |some j =>
  rw[e]at h;obtain⟨h1,h2,h3,h4⟩:=jop e;exact⟨j,h1,h,h2,h3,h4⟩
theorem ja3 {α:Type} {xs:List α} {j:Nat} {v:α} (h:xs[j]?=some v):atI xs (j:Int)=some v:=by
 have hj:j < xs.length:=(Bn.mp h).1;have e:ixN xs.length (j:Int)=some j:=by
  unfold ixN;rw[if_pos (by omega),if_pos (by omega)];simp
 unfold atI;rw[e];exact h
def jh1 (b:Expr):Prop:=∀o i,subscripted b false o i=operate [o,i] (getItem o i)
def IxR (X:Cx) (r:R2):Prop :=
 ∀(value slice:Expr) (pins:List (Addr×Obj)) (s:Ah) (σ:St) (H:Hp) (x y:V) (v u:Ad) (Q:VK),Inv X pins σ H s->RelV x v->RelV y u->r x y H Q ->
  subscripted slice false v u=operate [v,u] (getItem v u)->Aw (A1 X.prog X.w) X.A (subscriptTail value slice v u) (EP X pins σ Q) X.xe s
def MtR (X:Cx) (id:String) (r:V->List V->Hp->VK->Prop):Prop :=
 ∀(pins:List (Addr×Obj)) (s:Ah) (σ:St) (H:Hp) (x:V) (xs:List V) (v:Ad) (us:List Ad) (Q:VK),Inv X pins σ H s->RelV x v->Vals xs us->r x xs H Q ->
  Aw (A1 X.prog X.w) X.A (call (.builtin id) (v::us)) (EP X pins σ Q) X.xe s
section
variable {X:Cx} {a b:Expr} {ta tb:TE} {pos:Pos}
theorem IxR.or {r r':R2} (h:IxR X r) (h':IxR X r'):IxR X (λx y H Q=>r x y H Q\/r' x y H Q):=by
 intro value slice pins s σ H x y v u Q I rx ry q hs;rcases q with q | q
 ·exact h value slice pins s σ H x y v u Q I rx ry q hs
 ·exact h' value slice pins s σ H x y v u Q I rx ry q hs
theorem jd1 {r:R2} (hr:IxR X r) (ha:PE X a ta) (hb:PE X b tb) (hs:jh1 b):PE X (.Subscript a b pos) (tOp r ta tb):=by
 intro pins s σ H Q I h;exact Subscript_ (binT ha hb I h λv u s2 x y H2 I2 rx ry q=>hr a b pins s2 σ H2 x y v u Q I2 rx ry q (hs _ _))
def rIxL (K:Af):R2:=λx y H Q=>∃p xs i v,x=.ref p/\y=.int i/\SqL K H p xs/\atI xs i=some v/\Q v H
def rIxT (K:Af):R2:=λx y H Q=>∃p xs i v,x=.ref p/\y=.int i/\SqT K H p xs/\atI xs i=some v/\Q v H
def rIxS:R2:=λx y H Q=>∃z i c,x=.str z/\y=.int i/\z.length<=Az/\atI z.cps.toList i=some c/\Q (.str ⟨#[c]⟩) H
theorem ix_list:IxR X (rIxL X.K):=by
 intro value slice pins s σ H x y v u Q I rx ry h hs;obtain⟨p,xs,i,z,rfl,rfl,hq,he,q⟩:=h;cases rx;obtain⟨t,rfl⟩:=ry;obtain⟨its,r,pl,hz⟩:=I.list hq;obtain⟨j,h1,h2,h3,h4,h5⟩:=jkb he;obtain⟨w,ew,rw'⟩:=r.get h2;have hl:=r.length;have hn:=jgh;have fin:EP X pins σ Q w s:=⟨z,H,I,rw',q⟩;by_cases h0:0<=i
 ·have hj:i.toNat=j:=by
   rw[seqIndex_of h0 h5]at h1;exact Bh h1
  exact item_listR pl.isList h0 (by omega) (by rw[hj];simpa using ew) fin hs
 ·have hj:(i+(its.toArray.size:Int)).toNat=j:=by
   rw[seqIndex_neg (by omega) h4]at h1;rw[Ap,<-hl];exact Bh h1
  exact subscriptTail_builtinR (x:=w) pl.isList.typeIs slot_list_getitem.lookup
   (wpAny_getItem_list_neg (Q:=λr s'=>r=w/\EP X pins σ Q r s') pl.isList (by omega) (by rw[Ap]<;>omega) (by omega) (by rw[hj];simpa using ew) ⟨rfl,fin⟩) hs
theorem ix_tup:IxR X (rIxT X.K):=by
 intro value slice pins s σ H x y v u Q I rx ry h hs;obtain⟨p,xs,i,z,rfl,rfl,hq,he,q⟩:=h;cases rx;obtain⟨t,rfl⟩:=ry;obtain⟨its,r,pl,hz⟩:=I.tuple hq;obtain⟨j,h1,h2,h3,h4,h5⟩:=jkb he;obtain⟨w,ew,rw'⟩:=r.get h2;have hl:=r.length;have hn:=jgh;have fin:EP X pins σ Q w s:=⟨z,H,I,rw',q⟩;exact subscriptTail_builtinR (x:=w) pl.typeIs slot_tuple_getitem.lookup
  (getItem_tuple (j:=j) (Q:=λr s'=>r=w/\EP X pins σ Q r s') pl (by omega) (by omega) (by rw[Ap,<-hl];exact h1) (by simpa using ew) ⟨rfl,fin⟩) hs
theorem jxr:IxR X rIxS:=by
 intro value slice pins s σ H x y v u Q I rx ry h hs;obtain⟨z,i,c,rfl,rfl,hz,he,q⟩:=h;obtain⟨t,rfl⟩:=rx;obtain⟨t',rfl⟩:=ry;obtain⟨j,h1,h2,h3,h4,h5⟩:=jkb he;have hl:z.cps.toList.length=z.length:=by simp[Str.length]
 rw[hl]at h1 h4 h5;have hn:=jgh;exact tail_any (typeIs_str s z t) slot_str_getitem.lookup (getItem_str (c:=c) (by
  have e1:decide (i < -(2 ^ 63:Int))=false:=decide_eq_false (by omega);have e2:decide (i ≥ 2 ^ 63)=false:=decide_eq_false (by omega);rw[e1,e2,Bool.or_false]) (by rw[h1];simpa using h2) ⟨.str ⟨#[c]⟩,H,I.tok _,⟨_,rfl⟩,q⟩) hs
def rIx (K:Af):R2:=λx y H Q=>rIxL K x y H Q\/rIxT K x y H Q\/rIxS x y H Q
theorem joo:IxR X (rIx X.K):=ix_list.or (ix_tup.or jxr)
theorem jlq (its:List Ad) (n j:Nat) (u:Ad):Bi (·.setIfInBounds j u) {cls:=.type "list",data:=.seq its.toArray n}={ cls:=.type "list",data:=.seq (its.set j u).toArray n}:=by
 simp[Bi]
theorem Inv.lst {pins:List (Addr×Obj)} {σ:St} {H:Hp} {s:Ah} {p:Addr} {xs:List V} (I:Inv X pins σ H s) (h:H p=some (.lst xs)) :
  ∃(its:List Ad) (n:Nat),Vals xs its/\s.heap.get? p=some {cls:=.type "list",data:=.seq its.toArray n}/\xs.length<=Az:=by
 obtain⟨z,its,n,r,e⟩:=I.hok p _ h;exact⟨its,n,r,e,z⟩
theorem Inv.lstUpd {pins:List (Addr×Obj)} {σ:St} {H:Hp} {s:Ah} {p:Addr} {xs ys:List V} {its its':List Ad} {n n':Nat} {f:Obj->Obj} (I:Inv X pins σ H s) (h:H p=some (.lst xs))
  (ho:s.heap.get? p=some {cls:=.type "list",data:=.seq its.toArray n}) (hf:f {cls:=.type "list",data:=.seq its.toArray n}={ cls:=.type "list",data:=.seq its'.toArray n'}) (r:Vals ys its') (hz:ys.length<=Az) (t:Nat) :
  Inv X pins σ (upd H p (.lst ys)) {s with heap:=s.heap.update p f,toks:=t}:=by
 have e:(s.heap.update p f).get? p=some {cls:=.type "list",data:=.seq its'.toArray n'}:=by
  rw[Br f ho (by rw[hf]<;>rfl),hf]
 refine I.write (x:=p) (e:=p) (by rw[h];trivial) (.inl rfl) (λb u hb q=>(Dj _ _ (Ne.symm hb)).trans q) ⟨_,e⟩ ?_;exact⟨hz,its',n',r,e⟩
def jwm:V->V->V->Hp->(Hp->Prop)->Prop:=λo i v H Q=>∃p xs k j,o=.ref p/\i=.int k/\H p=some (.lst xs)/\ixN xs.length k=some j/\Q (upd H p (.lst (xs.set j v)))
theorem jd8:PSet X jwm:=by
 intro pins s σ H o i v ov iv u Q I ro ri rv h;obtain⟨p,xs,k,j,rfl,rfl,hp,hj,q⟩:=h;cases ro;obtain⟨t,rfl⟩:=ri;obtain⟨its,n,r,ho,hz⟩:=I.lst hp;obtain⟨h1,h2,h3,h4⟩:=jop hj;have hl:=r.length;have hn:=jgh;have I':Inv X pins σ (upd H p (.lst (xs.set j v))) {s with heap:=s.heap.update p (Bi (·.setIfInBounds j u))} :=
  I.lstUpd hp ho (jlq its n j u) (r.set rv j) (by rw[C3];exact hz) s.toks
 by_cases h0:0<=k
 ·have hk:k.toNat=j:=by
   rw[seqIndex_of h0 h4]at h1;exact Bh h1
  exact PySem.W.ki_setAt ho h0 (by omega) (by rw[Ap,<-hl];exact h4) (by rw[hk];exact⟨_,I',q⟩)
 ·have hk:(k+(its.toArray.size:Int)).toNat=j:=by
   rw[seqIndex_neg (by omega) h3]at h1;rw[Ap,<-hl];exact Bh h1
  exact PySem.W.ki_setBack ho (by omega) (by rw[Ap,<-hl];exact h3) (by omega) (by rw[hk];exact⟨_,I',q⟩)
theorem jil (lo hi:Option Int) (n:Nat):(Fy lo hi none n).1=((HT.sIx n 0 lo:Nat):Int)/\(Fy lo hi none n).2.1=((HT.sIx n n hi:Nat):Int)/\(Fy lo hi none n).2.2=1:=by
 refine⟨?_,?_,rfl⟩
 ·cases lo with
  |none=>simp[Fy,HT.sIx]
  |some i =>
   simp only[Fy,HT.sIx,Option.getD_none,show(1:Int) > 0 by decide,if_true];by_cases h:i < 0
   ·simp only[h,if_true]<;>omega
   ·simp only[h,if_false]<;>omega
 ·cases hi with
  |none=>simp[Fy,HT.sIx]
  |some i =>
   simp only[Fy,HT.sIx,Option.getD_none,show(1:Int) > 0 by decide,if_true];by_cases h:i < 0
   ·simp only[h,if_true]<;>omega
   ·simp only[h,if_false]<;>omega
theorem jgz (its:List Ad) (lo hi:Option Int):slicePick its.toArray lo hi none=((its.drop (HT.sIx its.length 0 lo)).take (HT.sIx its.length its.length hi - HT.sIx its.length 0 lo)).toArray:=by
 obtain⟨h1,h2,h3⟩:=jil lo hi its.toArray.size;unfold slicePick;rw[h1,h2,h3];simp only[sliceRange_one,pick_run,Ap]<;>rfl
def rSlL (K:Af):V->Option Int->Option Int->Hp->VK->Prop:=λx lo hi H Q=>∃a xs,x=.ref a/\SqL K H a xs/\∀p,H p=none->Q (.ref p) (upd H p (.lst (cutV xs lo hi)))
theorem jtk:SlR X (rSlL X.K):=by
 intro pins s σ H x v vl vu lo hi sl Q I rx hs pl pu h;obtain⟨a,xs,rfl,hx,q⟩:=h;cases rx;obtain⟨its,r,ht,hz⟩:=I.list hx;have hlen:=r.length;refine⟨"list",_,slot_list_getitem.lookup,ht.isList.typeIs,?_⟩;refine wpAny_getItem_list_slice ht.isList hs pl pu .none (by simp) ?_ (by rw[Ap]<;>omega);rw[jgz,<-hlen];refine⟨.ref s.heap.objs.size,_,I.laid (t':=s.toks) (o:=.lst (cutV xs lo hi)) (λb ob q=>Ai _ q) (Ao _) ?_,rfl,q _ (I.hok.fresh (Ao _))⟩;exact⟨A5 (jcr xs lo hi) hz,_,0,(r.drop (HT.sIx xs.length 0 lo)).take (HT.sIx xs.length xs.length hi - HT.sIx xs.length 0 lo),Av _ rfl⟩
def jfv:V->Bool
 |.non=>true
 |.bl _=>true
 |.int _=>true
 |.str _=>true
 |_=>false
def eqV:V->V->Bool
 |.non,.non=>true
 |.bl a,.bl b=>a==b
 |.bl a,.int b=>(if a then 1 else 0)==b
 |.int a,.bl b=>a==(if b then 1 else 0)
 |.int a,.int b=>a==b
 |.str a,.str b=>a==b
 |_,_=>false
theorem jx9 {A:Bj} {s:Ah} {y x:V} {u v:Ad} (ry:RelV y u) (rx:RelV x v) (fy:jfv y=true) (fx:jfv x=true):SeqAt.EqAt A s u v (eqV y x):=by
 cases y with
 |non =>
  cases ry;cases x with
  |non=>cases rx;exact SeqAt.EqAt.same _
  |bl b=>cases rx;exact SeqAt.EqAt.none_bool b
  |int b=>obtain⟨t,rfl⟩:=rx;exact SeqAt.EqAt.none_int b t
  |str b=>obtain⟨t,rfl⟩:=rx;exact SeqAt.EqAt.none_str b t
  |_=>exact absurd (show false=true from fx) Am
 |bl a =>
  cases ry;cases x with
  |non=>cases rx;exact SeqAt.EqAt.bool_none a
  |bl b=>cases rx;exact SeqAt.EqAt.bool_bool a b
  |int b=>obtain⟨t,rfl⟩:=rx;exact SeqAt.EqAt.bool_int a b t
  |str b=>obtain⟨t,rfl⟩:=rx;exact SeqAt.EqAt.bool_str a b t
  |_=>exact absurd (show false=true from fx) Am
 |int a =>
  obtain⟨t',rfl⟩:=ry;cases x with
  |non=>cases rx;exact SeqAt.EqAt.int_none a t'
  |bl b=>cases rx;exact SeqAt.EqAt.int_bool a t' b
  |int b=>obtain⟨t,rfl⟩:=rx;exact SeqAt.EqAt.int_int a t' b t
  |str b=>obtain⟨t,rfl⟩:=rx;exact SeqAt.EqAt.int_str a t' b t
  |_=>exact absurd (show false=true from fx) Am
 |str a =>
  obtain⟨t',rfl⟩:=ry;cases x with
  |non=>cases rx;exact SeqAt.EqAt.str_none a t'
  |bl b=>cases rx;exact SeqAt.EqAt.str_bool a t' b
  |int b=>obtain⟨t,rfl⟩:=rx;exact SeqAt.EqAt.str_int a t' b t
  |str b=>obtain⟨t,rfl⟩:=rx;exact SeqAt.EqAt.str_str a t' b t
  |_=>exact absurd (show false=true from fx) Am
 |_=>exact absurd (show false=true from fy) Am
def eqU (x:V) (u:Ad):Bool:=match u with
 |.none=>eqV .non x
 |.bool b=>eqV (.bl b) x
 |.int i _=>eqV (.int i) x
 |.str z _=>eqV (.str z) x
 |_=>false
theorem jsh {x y:V} {u:Ad} (r:RelV y u) (f:jfv y=true):eqU x u=eqV y x:=by
 cases y with
 |non=>cases r;rfl
 |bl b=>cases r;rfl
 |int i=>obtain⟨t,rfl⟩:=r;rfl
 |str z=>obtain⟨t,rfl⟩:=r;rfl
 |_=>exact absurd (show false=true from f) Am
theorem je5 {x:V}:∀{xs:List V} {us:List Ad},Vals xs us->xs.all jfv=true->us.any (eqU x)=xs.any λy=>eqV y x
 |_,_,.nil,_=>rfl
 |y::xs,u::us,.cons r t,f=>by
  rw[List.all_cons,Bs]at f;rw[List.any_cons,List.any_cons,jsh r f.1,je5 t f.2]
theorem jcu {A:Bj} {s:Ah} {x:V} {v:Ad} (rx:RelV x v) (fx:jfv x=true):∀{xs:List V} {us:List Ad},Vals xs us->xs.all jfv=true->∀u∈us,SeqAt.EqAt A s u v (eqU x u)
 |_,_,.nil,_=>λu hu=>by cases hu
 |y::xs,u::us,.cons r t,f=>λu' hu=>by
  rw[List.all_cons,Bs]at f;rcases Ax.mp hu with rfl | hu
  ·rw[jsh r f.1];exact jx9 r rx f.1 fx
  ·exact jcu rx fx t f.2 u' hu
def inV (x:V) (xs:List V):Bool:=xs.any λy=>eqV y x
def rIn (K:Af) (neg:Bool):R2:=λx y H Q=>∃p xs,y=.ref p/\(SqL K H p xs\/SqT K H p xs)/\jfv x=true/\xs.all jfv=true/\Q (.bl (if neg then !inV x xs else inV x xs)) H
theorem jn6:OpR X (B4 .In) (rIn X.K false):=by
 intro pins s σ H x y v u Q I rx ry h;obtain⟨p,xs,rfl,hq,fx,fs,q⟩:=h;cases ry;rcases hq with hq | hq
 ·obtain⟨its,r,pl,hz⟩:=I.list hq;refine SeqAt.in_listAt (eqU x) pl.isList (λw hw=>jcu rx fx r fs w (by simpa using hw)) ⟨.bl _,H,I,rfl,?_⟩;rw[show its.toArray.any (eqU x)=its.any (eqU x) by simp,je5 r fs];exact q
 ·obtain⟨its,r,pl,hz⟩:=I.tuple hq;refine SeqAt.in_tupleAt (eqU x) pl (λw hw=>jcu rx fx r fs w (by simpa using hw)) ⟨.bl _,H,I,rfl,?_⟩;rw[show its.toArray.any (eqU x)=its.any (eqU x) by simp,je5 r fs];exact q
theorem jir:OpR X (B4 .NotIn) (rIn X.K true):=by
 intro pins s σ H x y v u Q I rx ry h;obtain⟨p,xs,rfl,hq,fx,fs,q⟩:=h;cases ry;rcases hq with hq | hq
 ·obtain⟨its,r,pl,hz⟩:=I.list hq;refine SeqAt.notIn_listAt (eqU x) pl.isList (λw hw=>jcu rx fx r fs w (by simpa using hw)) ⟨.bl _,H,I,rfl,?_⟩;rw[show its.toArray.any (eqU x)=its.any (eqU x) by simp,je5 r fs];exact q
 ·obtain⟨its,r,pl,hz⟩:=I.tuple hq;refine SeqAt.notIn_tupleAt (eqU x) pl (λw hw=>jcu rx fx r fs w (by simpa using hw)) ⟨.bl _,H,I,rfl,?_⟩;rw[show its.toArray.any (eqU x)=its.any (eqU x) by simp,je5 r fs];exact q
theorem jbo:CallR X (.builtin "len") (λxs H Q=>∃p ys,xs=[.ref p]/\(SqL X.K H p ys\/SqT X.K H p ys)/\Q (.int ys.length) H):=by
 intro pins s σ H xs us Q I r h;obtain⟨p,ys,rfl,hq,q⟩:=h;obtain⟨u,rfl,rx⟩:=jc5 r;cases rx;have hn:=jgh;rcases hq with hq | hq
 ·obtain⟨its,r',pl,hz⟩:=I.list hq;have hlen:=r'.length;exact Calls.call_len_list pl.isList (by simp only[Ap]<;>omega) ⟨.int ys.length,H,I.tok _,⟨s.toks+1,by rw[Ap,hlen]⟩,q⟩
 ·obtain⟨its,r',pl,hz⟩:=I.tuple hq;have hlen:=r'.length;exact len_tuple pl (by simp only[Ap]<;>omega) ⟨.int ys.length,H,I.tok _,⟨s.toks+1,by rw[Ap,hlen]⟩,q⟩
theorem call_len_str:CallR X (.builtin "len") (λxs H Q=>∃z,xs=[.str z]/\z.length<=Az/\Q (.int z.length) H):=by
 intro pins s σ H xs us Q I r h;obtain⟨z,rfl,hz,q⟩:=h;obtain⟨u,rfl,t,rfl⟩:=jc5 r;have hn:=jgh;exact len_str (by omega) ⟨.int z.length,H,I.tok _,⟨_,rfl⟩,q⟩
theorem CallR.or {f:Ad} {r r':List V->Hp->VK->Prop} (h:CallR X f r) (h':CallR X f r'):CallR X f (λxs H Q=>r xs H Q\/r' xs H Q):=by
 intro pins s σ H xs us Q I rs q;rcases q with q | q
 ·exact h pins s σ H xs us Q I rs q
 ·exact h' pins s σ H xs us Q I rs q
theorem ji6:CallR X (.type "list") (λxs H Q=>∃p ys,xs=[.ref p]/\(SqL X.K H p ys\/SqT X.K H p ys)/\∀l,H l=none->Q (.ref l) (upd H l (.lst ys))):=by
 intro pins s σ H xs us Q I r h;obtain⟨p,ys,rfl,hq,q⟩:=h;obtain⟨u,rfl,rx⟩:=jc5 r;cases rx;have fin:∀(its:List Ad),Vals ys its->ys.length<=Az->∀(h':Heap) (c':Nat),(∀b o',s.heap.get? b=some o'->h'.get? b=some o') ->
   h'.get? s.heap.objs.size=some {cls:=.type "list",dict:=none,data:=.seq its.toArray c',slots:=#[]}->EP X pins σ Q (.ref s.heap.objs.size) {s with heap:=h'}:=λits r' hz h' c' kp e =>
  ⟨.ref s.heap.objs.size,_,I.laid (t':=s.toks) kp (Ao _) (show ObjOk X.prog X.w _ h' _ (.lst ys)from⟨hz,its,c',r',e⟩),rfl,q _ (I.hok.fresh (Ao _))⟩
 rcases hq with hq | hq
 ·obtain⟨its,r',pl,hz⟩:=I.list hq;have hlen:=r'.length;obtain⟨o,ho,hc,n,hd⟩:=pl.isList;exact call_list_seq p (.inl rfl) ho hc hd (λh' c' kp e=>fin its r' hz h' c' kp e) (by simp only[Ap]<;>omega)
 ·obtain⟨its,r',pl,hz⟩:=I.tuple hq;have hlen:=r'.length;obtain⟨o,ho,hc,n,hd⟩:=pl;exact call_list_seq p (.inr rfl) ho hc hd (λh' c' kp e=>fin its r' hz h' c' kp e) (by simp only[Ap]<;>omega)
theorem jhs:CallR X (.type "tuple") (λxs H Q=>∃p ys,xs=[.ref p]/\((SqL X.K H p ys/\∀l,H l=none->Q (.ref l) (upd H l (.tup ys)))\/(SqT X.K H p ys/\Q (.ref p) H))):=by
 intro pins s σ H xs us Q I r h;obtain⟨p,ys,rfl,h⟩:=h;obtain⟨u,rfl,rx⟩:=jc5 r;cases rx;rcases h with⟨hq,q⟩ | ⟨hq,q⟩
 ·obtain⟨its,r',pl,hz⟩:=I.list hq;have hlen:=r'.length;refine call_tuple_list pl.isList (λh' kp=>?_) (by simp only[Ap]<;>omega);have I1:Inv X pins σ H {s with heap:=h'}:=I.kept (t':=s.toks) kp;have I2:Inv X pins σ (upd H h'.objs.size (.tup ys)) {s with heap:=h'.push {cls:=.type "tuple",data:=.seq its.toArray}} :=
   I1.laid (t':=s.toks) (λb o e=>Ai _ e) (Ao _) (show ObjOk X.prog X.w _ _ _ (.tup ys)from⟨hz,its,r',IsTupP.new _ _⟩)
  exact⟨.ref h'.objs.size,_,I2,rfl,q _ (I1.hok.fresh (Ao _))⟩
 ·obtain⟨its,r',pl,hz⟩:=I.tuple hq;exact call_tuple_same pl ⟨.ref p,H,I,rfl,q⟩
def tyV (K:Af) (T:String) (x:V) (H:Hp):Prop:=match x with
 |.str _=>T="str"
 |.int _=>T="int"
 |.ref p=>(T="list"/\∃xs,SqL K H p xs)\/(T="tuple"/\∃o,K.lookup p=some o/\o.cls=.type "tuple"/\o.dict=none) \/
   (T="dict"/\((∃kvs,H p=some (.dK kvs))\/∃kvs,H p=some (.dT kvs)))\/(T="set"/\∃S n,H p=some (.set S n))
 |_=>False
theorem jvi {pins:List (Addr×Obj)} {σ:St} {H:Hp} {s:Ah} {T:String} {x:V} {v:Ad} (I:Inv X pins σ H s) (r:RelV x v) (ty:tyV X.K T x H) :
  s.TypeIs v T/\∀a,v=.ref a->∃ob,s.heap.get? a=some ob/\ob.dict=none:=by
 cases x with
 |str z =>
  obtain⟨t,rfl⟩:=r;cases(show T="str" from ty);exact⟨typeIs_str s z t,λ_ e=>nomatch e⟩
 |int i =>
  obtain⟨t,rfl⟩:=r;cases(show T="int" from ty);exact⟨typeIs_int s i t,λ_ e=>nomatch e⟩
 |ref p =>
  cases r;rcases ty with⟨rfl,xs,hq⟩ | ⟨rfl,o,hk,hc,hd⟩ | ⟨rfl,hk⟩ | ⟨rfl,S,n,hk⟩
  ·obtain⟨its,_,pl,_⟩:=I.list hq;refine⟨pl.isList.typeIs,λa e=>?_⟩;cases e;obtain⟨o,n,e,c,hd,_⟩:=pl;exact⟨o,e,hd⟩
  ·refine⟨⟨o,I.kIn p o hk,hc⟩,λa e=>?_⟩;cases e;exact⟨o,I.kIn _ o hk,hd⟩
  ·have z:∃o,s.heap.get? p=some o/\o.ExactDict:=by
    rcases hk with⟨kvs,hk⟩ | ⟨kvs,hk⟩
    ·obtain⟨_,_,_,_,o,_,_,e,ex,_⟩:=I.hok p _ hk;exact⟨o,e,ex⟩
    ·obtain⟨_,_,_,_,o,_,_,e,ex,_⟩:=I.hok p _ hk;exact⟨o,e,ex⟩
   obtain⟨o,e,ex⟩:=z;refine⟨⟨o,e,ex.1⟩,λa e2=>?_⟩;cases e2;exact⟨o,e,ex.2.1⟩
  ·obtain⟨o,_,_,_,e,ex,_⟩:=I.hok p _ hk;refine⟨⟨o,e,ex.1⟩,λa e2=>?_⟩;cases e2;exact⟨o,e,ex.2.1⟩
 |_=>exact False.elim ty
def tBM (K:Af) (T:String) (r:V->List V->Hp->VK->Prop) (to:TE) (t:TA):TE:=λσ H Q=>to σ H λx H1=>tyV K T x H1/\t σ H1 λxs H2=>r x xs H2 Q
variable {o e:Expr} {es:List Expr} {to:TE} {t:TA} {name:Str} {apos cpos:Pos} {T id:String} {r:V->List V->Hp->VK->Prop}
theorem jwz (pa:PlainAttrs T) (slot:Slot T name id) (hty:typeOf (.builtin id)=pure (.type "method_descriptor")) (hm:MtR X id r) (ho:PE X o to) (ha:PA X (e::es) t)
  (hbase:attributeBase o name X.env (eval o X.env)=eval o X.env:=by rfl)
  (hfew:((Da cpos (Au (e::es) X.env)).all (λx=>!x.1)&&(backToKw cpos (keywordEach [] X.env)).all (λx=>x.1.isSome)
   && decide ((e::es).length+([]:List Keyword).length+(if ([]:List Keyword).isEmpty then 0 else 1) < 30))=true:=by rfl)
  (hline:(apos.endLine==cpos.line)=true:=by rfl) (hs:Au (e::es) X.env=(false,eval e X.env)::Au es X.env:=by rfl) (hplain:(Da cpos (Au es X.env)).any (·.1)=false:=by rfl) :
  PE X (.Call (.Attribute o name apos) (e::es) [] cpos) (tBM X.K T r to t):=by
 intro pins s σ H Q I h;refine wpAny_Call_method_late hbase hfew hline rfl (thn (ho pins s σ H _ I h) λv s1 ⟨x,H1,I1,r1,ty,q1⟩=>?_);obtain⟨h1,h2⟩:=jvi I1 r1 ty;refine⟨T,id,pa,slot,hty,h1,h2,?_⟩;have hA:=ha cpos pins s1 σ H1 _ I1 q1;rw[hs]at hA ⊢;refine Calls.callWith_builtin (by show(false || (Da cpos (Au es X.env)).any (·.1))=false;rw[hplain]<;>rfl) (Calls.evalArgs_plain ?_);exact thn hA λus s2 ⟨vs,H2,I2,r2,q2⟩=>hm pins s2 σ H2 x vs v us Q I2 r1 r2 q2
end
def MtM (X:Cx) (id:String) (r:V->List V->Hp->VK->Prop):Prop :=
 ∀(pins:List (Addr×Obj)) (s:Ah) (σ:St) (H:Hp) (x:V) (xs:List V) (v:Ad) (us:List Ad) (Q:VK),Inv X pins σ H s->RelV x v->Vals xs us->r x xs H Q ->
  Aw (A1 X.prog X.w) X.A (call (.builtin id) (v::us)) (EP X pins σ Q) X.xe s
theorem Vals.one:∀{x:V} {us:List Ad},Vals [x] us->∃u,us=[u]/\RelV x u
 |_,_,.cons r .nil=>⟨_,rfl,r⟩
theorem Vals.zero:∀{us:List Ad},Vals [] us->us=[]
 |_,.nil=>rfl
section
variable {X:Cx} {pins:List (Addr×Obj)} {σ:St} {H:Hp} {s:Ah} {l b:Addr} {xs ys zs:List V}
theorem Inv.lset {its its':List Ad} {n:Nat} {f:Array Ad->Array Ad} {t':Nat} (I:Inv X pins σ H s) (hH:H l=some (.lst xs))
  (e:s.heap.get? l=some {cls:=.type "list",data:=.seq its.toArray n}) (hf:f its.toArray=its'.toArray) (hv:Vals ys its') (hz:ys.length<=Az) :
  Inv X pins σ (upd H l (.lst ys)) {s with heap:=s.heap.update l (Bi f),toks:=t'}:=by
 have q:=PySem.IsL.update e f;rw[hf]at q;refine I.write (x:=l) (e:=l) (by rw[hH];exact trivial) (.inl rfl) (λb' u hb hu=>(Dj s.heap (Bi f) (Ne.symm hb)).trans hu) ⟨_,q⟩ ?_;exact⟨hz,its',_,hv,q⟩
theorem Inv.lnew {its:List Ad} {t':Nat} (I:Inv X pins σ H s) (hv:Vals ys its) (hz:ys.length<=Az) :
  Inv X pins σ (upd H s.heap.objs.size (.lst ys)) {s with heap:=s.heap.push {cls:=.type "list",data:=.seq its.toArray},toks:=t'} :=
 I.laid (λ_ _ q=>Ai _ q) (Ao _) ⟨hz,its,0,hv,Av _ rfl⟩
theorem Inv.fresh (I:Inv X pins σ H s):H s.heap.objs.size=none:=I.hok.fresh (Ao _)
theorem Inv.lstM (I:Inv X pins σ H s) (hH:H l=some (.lst xs)):xs.length<=Az/\∃(its:List Ad) (n:Nat),Vals xs its/\xs.length=its.length/\s.heap.get? l=some {cls:=.type "list",data:=.seq its.toArray n}:=by
 obtain⟨z,its,n,r,e⟩:=I.hok l _ hH;exact⟨z,its,n,r,r.length,e⟩
theorem jqr {n:Nat} (h:n<=Az):Ft n=false:=by
 unfold Ft;exact decide_eq_false (by omega)
end
section
variable {X:Cx}
def jno:V->List V->Hp->VK->Prop:=λx vs H Q=>∃l xs y,x=.ref l/\vs=[y]/\H l=some (.lst xs)/\xs.length < Az/\Q .non (upd H l (.lst (xs++[y])))
theorem jel:MtM X "list.append" jno:=by
 intro pins s σ H x vs v us Q I rx rv h;obtain⟨l,xs,y,rfl,rfl,hH,hz,q⟩:=h;cases rx;obtain⟨u,rfl,ru⟩:=rv.one;obtain⟨z,its,n,r,hl,e⟩:=I.lstM hH;refine call_meets F.slot_list_append ⟨_,e,rfl⟩ F.entry_list_append (F.args_list_append_2 _ _) (PySem.list_append l its.toArray n u (by rw[Ap];omega)) ⟨e,?_⟩;refine⟨.non,_,I.lset (its':=its++[u]) hH e (by simp) (r.append (.cons ru .nil)) ?_,rfl,q⟩;rw[As,Be];omega
def jnn:V->List V->Hp->VK->Prop:=λx vs H Q=>∃l b xs zs,x=.ref l/\vs=[.ref b]/\H l=some (.lst xs)/\H b=some (.lst zs)/\xs.length+zs.length<=Az/\Q .non (upd H l (.lst (xs++zs)))
theorem joa:MtM X "list.extend" jnn:=by
 intro pins s σ H x vs v us Q I rx rv h;obtain⟨l,b,xs,zs,rfl,rfl,hH,hB,hz,q⟩:=h;cases rx;obtain⟨u,rfl,ru⟩:=rv.one;cases ru;obtain⟨z,its,n,r,hl,e⟩:=I.lstM hH;obtain⟨z2,its2,n2,r2,hl2,e2⟩:=I.lstM hB;have hsz:its.toArray.size+its2.toArray.size<=Az:=by rw[Ap,Ap];omega
 have hlong:¬(!its.toArray.isEmpty&&Ft (its.toArray.size+its2.toArray.size))=true:=by
  rw[jqr hsz,Bool.and_false];exact Am
 refine call_meets F.slot_list_extend ⟨_,e,rfl⟩ F.entry_list_extend (F.args_list_extend_2 _ _)
  (AutoSeq1.list_extend_list_list_0 l its.toArray n b its2.toArray n2 hlong (by rw[Ap];omega) (by omega)) ⟨e,e2,?_⟩
 refine⟨.non,_,I.lset (its':=its++its2) hH e (by simp) (r.append r2) ?_,rfl,q⟩;rw[As];omega
def rCat:R2:=λx y H Q=>∃l b xs zs,x=.ref l/\y=.ref b/\H l=some (.lst xs)/\H b=some (.lst zs)/\xs.length+zs.length<=Az/\∀p,H p=none->Q (.ref p) (upd H p (.lst (xs++zs)))
theorem jr7:OpR X (Ea .Add) rCat:=by
 intro pins s σ H x y v u Q I rx ry h;obtain⟨l,b,xs,zs,rfl,rfl,hH,hB,hz,q⟩:=h;cases rx;cases ry;obtain⟨z,its,n,r,hl,e⟩:=I.lstM hH;obtain⟨z2,its2,n2,r2,hl2,e2⟩:=I.lstM hB;refine PySem.P.add_list e e2 ?_ (by rw[Ap,Ap];omega);have ea:its.toArray++its2.toArray=(its++its2).toArray:=by simp
 rw[ea];exact⟨.ref _,_,I.lnew (t':=s.toks) (r.append r2) (by rw[As];omega),rfl,q _ I.fresh⟩
end
section
variable {κ:Type} [DecidableEq κ]
theorem RelO.isSome_eq {o:Option V} {u:Option Ad} (r:RelO o u):o.isSome=u.isSome:=by
 cases o with
 |none=>cases u with
  |none=>rfl
  |some _=>exact(show False from r).elim
 |some _=>cases u with
  |none=>exact(show False from r).elim
  |some _=>rfl
theorem RelO.getD {o:Option V} {u:Option Ad} {d:V} {d':Ad} (r:RelO o u) (rd:RelV d d'):RelV (o.getD d) (u.getD d'):=by
 cases o with
 |none=>cases u with
  |none=>exact rd
  |some _=>exact(show False from r).elim
 |some _=>cases u with
  |none=>exact(show False from r).elim
  |some _=>exact r
end
section
variable {X:Cx} {pins:List (Addr×Obj)} {σ:St} {H:Hp} {s:Ah} {a:Addr} {y v:V} {u r:Ad} {o:Option V} {A:Bj} {E:Ad->Ah->Prop}
theorem Inv.big (I:Inv X pins σ H s):Ef < s.heap.objs.size:=by
 have h:C8 < s.heap.objs.size:=(I.mod.glob.keeps I.bk).lt;exact Nat.lt_trans (by decide) h
theorem juu {h':Heap} {t':Nat} {ob:HO} (I:Inv X pins σ H s) (mu:Mut (H a)) (hs:Cr a s.heap h') (he:∃q,h'.get? a=some q) (new:ObjOk X.prog X.w (upd H a ob) h' a ob) :
  Inv X pins σ (upd H a ob) {s with heap:=h',toks:=t'} :=
 I.write (x:=a) (e:=a) mu (.inl rfl) (λb q hb z=>(hs.2 b hb).trans z) he new
end
def NoSl (i:Expr):Prop:=∀ov iv,subscripted i false ov iv=operate [ov,iv] (getItem ov iv)
theorem js8 {prog:Bd} {w:Bq} {A:Bj} {E:Ad->Ah->Prop} {s:Ah} {env:Env} {value slice:Expr} {pos:Pos} {T id:String} {Q:Ad->Ah->Prop}
  (hl:typeLookup (.type T) "__getitem__"=pure (some (.builtin id))) (hs:NoSl slice)
  (h:Aw (A1 prog w) A (eval value env) (λo s₁=>Aw (A1 prog w) A (eval slice env) (λi s₂=>s₂.TypeIs o T/\Aw (A1 prog w) A (getItem o i) Q E s₂) E s₁) E s) :
  Aw (A1 prog w) A (eval (.Subscript value slice pos) env) Q E s:=by
 refine Subscript_ (Ci h (λo s₁ h₁=>Ci h₁ (λi s₂ h₂=>?_) λ_ _ x=>x) λ_ _ x=>x);obtain⟨hT,h₂⟩:=h₂;unfold subscriptTail;refine Aa ?_;rw[getitemInPython_of_ne hT.not_modules];refine Aa (wpAny_specialOf hT hl ?_);have fin:Aw (A1 prog w) A (subscripted slice false o i) (λr s₃=>Aw (A1 prog w) A (letTemporaryGo value o r>>=λ_=>pure r) Q E s₃) E s₂:=by
  rw[hs o i];exact wpAny_operating (Ci h₂ (λr s₃ h₃=>Aa (wpAny_letTemporaryGo (Ag h₃))) λ_ _ x=>x)
 first
  |exact Ag (Aa fin)
  |exact Aa (Ag (Aa fin))
  |exact Aa fin
theorem jq5 {P:Bd} {w:Bq} {H:Hp} (h:Heap) (hb:Ef < h.objs.size):ObjOk P w H (h.push {cls:=.type "dict",data:=.dict #[]}) h.objs.size (.dT []) :=
 ⟨A4 _,beq_eq_false_iff_ne.mpr (Ne.symm (Ba hb)),[],.nil,_,#[],0,Av _ rfl,⟨rfl,rfl,rfl⟩,rfl,rfl,E9⟩
structure M2 (X:Cx) (o:Expr) (m:Str) (apos:Pos) (e f:Expr) (cpos:Pos):Prop where
 base:attributeBase o m X.env (eval o X.env)=eval o X.env
 few:((Da cpos (Au [e,f] X.env)).all (λx=>!x.1)&&(backToKw cpos (keywordEach [] X.env)).all (λx=>x.1.isSome)
  && decide (([e,f]:List Expr).length+([]:List Keyword).length+(if ([]:List Keyword).isEmpty then 0 else 1) < 30))=true
 line:(apos.endLine==cpos.line)=true
 trees:Da cpos (Au [e,f] X.env)=[(false,eval e X.env),(false,eval f X.env)]
end L2
namespace Att
open PySem PySem.W PySem.Calls PyProof.Rows
theorem jep {P:Params} {h:Heap}:∀(ns:List Int) (vs:List Ad),WellAll P h vs (ns.map WData.int)->IntsAre vs ns:=by
 intro ns
 induction ns with
 |nil =>
  intro vs w;rw[List.map_nil]at w;cases w;exact .nil
 |cons n ns ih =>
  intro vs w;rw[Cj]at w;cases w with
  |cons a b =>
   cases a;exact .cons _ _ (ih _ b)
theorem jne {l:OpenLaw} {n:Nat} (hn:l.most=some n) {P:Params} {h:Heap} {args:List WData} {vals:List Ad}
  (hpre:l.row.toRowW.claim.pre args=true) (hwl:WellAll P h vals args) :
  ∃a vs ns,vals=[Bb a]/\args=[WData.list (ns.map WData.int)]/\h.get? a=some {cls:=.type "list",data:=.seq vs.toArray}/\IntsAre vs ns/\ns.length<=n:=by
 have hsh:WShape.hasAll [] args [.list .int]=true:=(pre_splitW hpre).1;have hc:l.pre.holds [] {args:=args}=true:=(pre_splitW hpre).2;obtain⟨d,r,rfl,h1,h2⟩:=hasAllW_cons hsh;obtain rfl:=hasAllW_nil h2;obtain⟨xs,rfl,h3⟩:=hasW_list h1;obtain⟨ns,rfl⟩:=items_int h3;have hlen:ns.length<=n:=by
  unfold OpenLaw.pre at hc;have h4:(WTm.not (.lt (.lit (.int (n:Int))) (.len (.arg 0)))).holds [] {args:=[.list (ns.map .int)]}=true:=by
   have h4:=(holds_andW hc).1;rw[hn]at h4;exact h4
  have h5:=condW_of h4 (w_not (w_lt w_lit (w_len_list (w_arg rfl))));rw[Ae]at h5;refine Nat.le_of_not_lt λq=>?_;have q':(n:Int) < ((ns.length:Nat):Int):=by omega
  first
   | (rw[decide_eq_true q']at h5;exact absurd h5 (by decide))
   | (simp at h5;omega)
 cases hwl with
 |cons w1 w2 =>
  cases w2;cases w1 with
  |list ho hall=>exact⟨_,_,ns,rfl,rfl,ho,jep ns _ hall,hlen⟩
theorem jns (l:OpenLaw) (args:List WData):l.row.toRowW.claim.post args (.bool true) args=true :=
 postW_of (r:=l.row.toRowW) (X:=(true==true))
  (show WShape.has [] (.bool true) .bool=true by first | rfl | decide | simp[WShape.has,WShape.arms,WShape.armsAll])
  (show(WTm.eq .res (.lit (.bool true))).value [] {args:=args,res:=some (.bool true),after:=args}=some (.bool (true==true))from w_eq_bool (w_res rfl) w_lit) rfl
theorem attach_call {l:OpenLaw} {n:Nat} {q:Bd} {loose:List Str} {XP:(Str->Option Ad)->Heap->Prop} {YP:Bq->Heap->Prop} {d:DefRec}
  (hn:l.most=some n) (hdf:d.params.defaults=[])
  (call:∀(w:Bq) (s₀ s₁:Ah) (mg mb:Str->Option Ad) (fa:Addr) (o:Obj) (pm cd doc:Ad) (a:Addr) (vs:List Ad) (ns:List Int),
   Ground q loose [] XP w s₀ mg mb s₁.heap->YP w s₁.heap ->
   s₁.heap.get? fa=some o->o.data=.func (docDef d.name d.params d.body d.scope pm cd doc)->s₁.heap.CodeRec cd d.name->mg d.name=some (.ref fa) ->
   s₁.heap.get? a=some {cls:=.type "list",data:=.seq vs.toArray}->IntsAre vs ns->ns.length<=n->s₁.gens=#[] ->
   E8 (A1 l.prog w) callerA (.call (.ref fa) ⟨[.ref a],[]⟩) (λr s'=>r=.ok (.ret (.bool true))/\OldK s₁.heap s'.heap/\s'.os=s₁.os/\AllBare s'.gens) s₁) :
  WalkO q loose XP YP l.row.toRowW d [] (λf vs=>PySem.call f vs):=by
 intro w s₀ s₁ mg mb G Y fa o pm cd doc dV kV ho hd hcd hD hmg hg args vals as hpre hlay hrd hwl hlo;obtain rfl:dV=.none:=Dflts.none hD hdf;obtain rfl:kV=.none:=Dflts.noKw hD;obtain⟨a,vs,ns,rfl,rfl,hobj,hints,hlen⟩:=jne hn hpre hwl;refine enter_call (Fm (call w s₀ s₁ mg mb fa o pm cd doc a vs ns G Y ho (fd_plain hd) hcd hmg hobj hints hlen hg) λr s' hq=>?_);obtain⟨rfl,h2,h3,h4⟩:=hq;exact⟨.inl ⟨.bool true,.bool true,[],rfl,λ_=>rfl,.bool true,jns l _,λ_=>⟨List.Pairwise.nil,λ_ hm=>(nomatch hm)⟩⟩,h2,h3,h4⟩
end Att
namespace L2
open PySem PySem.Spec PyProof.Rows
theorem jh3:∀{vs:List Ad} {ns:List Int},IntsAre vs ns->Vals (ns.map V.int) vs
 |_,_,.nil=>.nil
 |_,_,.cons n t h=>.cons ⟨t,rfl⟩ (jh3 h)
def Only (H:Hp):Prop:=∀b,H b=none\/∃o xs,H b=some (.frz o (.lst xs))
theorem jqx {P:Bd} {w:Bq} {K:Af} {mg mb:Str->Option Ad} {CX:CXT} {k:Nat} {fa a:Addr} {fd:B8} {x:Str} {sp:Sp} {s₁:Ah} {vs:List Ad} {ns:List Int}
  (KX:K.In s₁.heap) (hns:s₁.heap.Ns C8 mg) (hb:s₁.heap.Ns builtinsNs mb) (hbb:∀x:Str,x≠"__name__"->mb x=Bm x) (hlim:s₁.heap.NoLimit) (hg:s₁.gens=#[])
  (ha:s₁.heap.get? a=some {cls:=.type "list",data:=.seq vs.toArray}) (hi:IntsAre vs ns) (hl:ns.length<=Az) (hr:Room k callerA)
  (F:∀base:Heap,K.In base->base.Ns C8 mg->FnOk P w K mg base CX k fa fd [x] sp) (hbind:∀(s:Ah) (u:Ad),BindsTo s fd ⟨[u],[]⟩ [(x,u)])
  (hsp:∀H:Hp,Only H->SqL K H a (ns.map V.int)->sp [.ref a] H (λv _=>v=.bl true) λ_ _ _=>False)
  (hCX:∀H e s',CX [] H s₁ (λ_ _ _=>False) e s'->False) :
  E8 (A1 P w) callerA (.call (.ref fa) ⟨[.ref a],[]⟩) (λr s'=>r=.ok (.ret (.bool true))/\OldK s₁.heap s'.heap/\s'.os=s₁.os/\AllBare s'.gens) s₁:=by
 have rv:=jh3 hi;have lenV:=hi.length
 -- from an abstract heap in which nothing but the script may be tracked
 have core:∀H:Hp,Only H->SqL K H a (ns.map V.int)->HOk P w H s₁.heap->(∀b,H b≠none->b=a)->(H a≠none->K.lookup a=none) ->
   E8 (A1 P w) callerA (.call (.ref fa) ⟨[.ref a],[]⟩) (λr s'=>r=.ok (.ret (.bool true))/\OldK s₁.heap s'.heap/\s'.os=s₁.os/\AllBare s'.gens) s₁:=by
  intro H hO hS hok hA hK;have base_of:∀{b:Addr} {o:Obj},s₁.heap.get? b=some o->H b=none->(hidT s₁.heap H).get? b=some o:=λe n=>jq0 e n;have noA:∀{b:Addr} {o:Obj} {es:Array DictEntry} {ep:Nat},s₁.heap.get? b=some o->o.data=.dict es ep->H b=none:=λ{b o es ep} e d=>by
   cases q:H b with
   |none=>rfl
   |some u =>
    have e':b=a:=hA b (by rw[q];simp);subst e';rw[ha]at e;cases e;have d':Data.seq vs.toArray _=Data.dict es ep:=d;cases d'
  have nsK:∀{b:Addr} {m:Str->Option Ad},s₁.heap.Ns b m->(hidT s₁.heap H).Ns b m:=λ{b m} ⟨o,es,ep,e,d,r⟩=>⟨o,es,ep,base_of e (noA e d),d,r⟩;have hKb:K.In (hidT s₁.heap H):=λb o e=>base_of (KX b o e) (by
   cases q:H b with
   |none=>rfl
   |some u =>
    have e':b=a:=hA b (by rw[q];simp);subst e';rw[hK (by rw[q];simp)]at e;cases e)
  have hM:Mod K mg (hidT s₁.heap H):=⟨hKb,nsK hns,⟨mb,nsK hb,hbb⟩,let⟨mc,h1,h2⟩:=hlim;⟨mc,nsK h1,h2⟩⟩;have e0:Env0 P w K mg (hidT s₁.heap H) callerA [] s₁ H:=⟨rfl,hM,λb o e=>juf e,Nat.le_of_eq (jos _ _),trivial,λb hb=>absurd (show b∈([]:List Addr)from hb) (by simp),hok,.of_eq hg⟩;refine Fm ((F _ hKb (nsK hns)).run callerA [] s₁ H ⟨[.ref a],[]⟩ [.ref a] [.ref a] _ _ hr e0 (hbind s₁ (.ref a)) (.cons rfl .nil) (hsp H hO hS)) λr s' h=>?_;cases r with
  |error e=>exact(hCX H e s' h).elim
  |ok fl =>
   cases fl with
   |next=>exact False.elim h
   |brk=>exact False.elim h
   |cont=>exact False.elim h
   |ret u =>
    obtain⟨v,H',os,bare,un,hok',r',q⟩:=h;have q':v=.bl true:=q;subst q';obtain rfl:u=Value.bool true:=r';refine⟨rfl,OldK.of_keep λb o e=>?_,os,bare⟩;cases q:H b with
    |none=>exact un.keep b o e q (by intro z;exact absurd (show b∈([]:List Addr)from z) (by simp)) (by simp)
    |some u =>
     rcases hO b with z | ⟨ob,xs,z⟩
     ·rw[q]at z;cases z
     ·have z2:=un.frzs b ob _ z;obtain⟨e1,_⟩:=hok b _ z;obtain⟨e2,_⟩:=hok' b _ z2;rw[e]at e1;cases e1;exact e2
 cases hk:K.lookup a with
 |some o =>
  -- the script is one of the module's own objects
  have e:=KX a o hk;rw[ha]at e;cases e;refine core (λ_=>none) (λ_=>.inl rfl) (.inr ⟨_,vs.toArray,_,hk,rfl,rfl,rfl,by rw[Ap,lenV];exact hl,by simpa using rv⟩) (λb u z=>by have z':(none:Option HO)=some u:=z;cases z') (λb z=>absurd rfl z) λz=>absurd rfl z
 |none =>
  refine core (λb=>if b=a then some (.frz {cls:=.type "list",data:=.seq vs.toArray} (.lst (ns.map V.int)))else none) (λb=>?_) (.inl (.inr ⟨{cls:=.type "list",data:=.seq vs.toArray},if_pos rfl⟩)) (λb u z=>?_) (λb z=>?_) λ_=>hk
  ·by_cases hb:b=a
   ·exact .inr ⟨_,_,if_pos hb⟩
   ·exact .inl (if_neg hb)
  ·by_cases hb:b=a
   ·have z':=(if_pos hb).symm.trans z;cases z';subst hb;exact⟨ha,by rw[Ae];exact hl,vs,_,rv,ha⟩
   ·have z':=(if_neg hb).symm.trans z;cases z'
  ·by_cases hb:b=a
   ·exact hb
   ·exact absurd (if_neg hb) z
theorem walk_of {l:PySem.W.OpenLaw} {n k:Nat} {q:Bd} {loose:List Str} {XP:(Str->Option Ad)->Heap->Prop} {YP:Bq->Heap->Prop} {d:DefRec} {K:Params->Af} {CX:Bq->CXT} {sp:Bq->Sp} {x:Str}
  (hn:l.most=some n) (hn2:n<=Az) (hdf:d.params.defaults=[]) (hr:Room k callerA)
  (hY:∀(w:Bq) (h:Heap),YP w h->(K w.params).In h)
  (F:∀(w:Bq) (mg:Str->Option Ad) (fa:Addr) (h:Heap),(K w.params).In h->h.Ns C8 mg->mg d.name=some (.ref fa) ->
   ∃fd:B8,(∀(s:Ah) (u:Ad),BindsTo s fd ⟨[u],[]⟩ [(x,u)]) /\
    ∀base:Heap,(K w.params).In base->base.Ns C8 mg->FnOk l.prog w (K w.params) mg base (CX w) k fa fd [x] (sp w))
  (hsp:∀(w:Bq) (H:Hp) (a:Addr) (ns:List Int),ns.length<=n->Only H->SqL (K w.params) H a (ns.map V.int)->sp w [.ref a] H (λv _=>v=.bl true) λ_ _ _=>False)
  (hCX:∀(w:Bq) (H:Hp) (s:Ah) (e:Ad) (s':Ah),CX w [] H s (λ_ _ _=>False) e s'->False) :
  PySem.W.WalkO q loose XP YP l.row.toRowW d [] (λf vs=>PySem.call f vs):=by
 refine Att.attach_call hn hdf λw s₀ s₁ mg mb fa o pm cd doc a vs ns G Y ho hd hcd hmg hobj hints hlen hg=>?_;have KX:=hY w _ Y;obtain⟨fd,hb,hF⟩:=F w mg fa _ KX G.T.g hmg;exact jqx KX G.T.g G.T.b G.T.builtins G.T.nolimit hg hobj hints (A5 hlen hn2) hr hF hb (λH hO hS=>hsp w H a ns hlen hO hS) λH e s'=>hCX w H s₁ e s'
def jcq (s:Stmt):Arguments:=match s with
 |.FunctionDef _ a _ _ _ _ _ _ _ _=>a
 |_=>{ posonlyargs:=[],args:=[],vararg:=none,kwonlyargs:=[],kw_defaults:=[],kwarg:=none,defaults:=[]}
def jbc (s:Stmt):List Stmt:=match s with
 |.FunctionDef _ _ b _ _ _ _ _ _ _=>b
 |_=>[]
def jah (s:Stmt):Ee:=match s with
 |.FunctionDef _ _ _ _ _ _ sc _ _ _=>sc
 |_=>{ kind:=.function,names:=[],isGenerator:=false,isCoroutine:=false}
abbrev CX0:CXT:=λ_ _ _ _ _ _=>False
abbrev E0:XK:=λ_ _ _=>False
theorem jql {X:Cx}:jpm CX0 X E0:=λ_ _ _ _ _ _ _ h=>h.elim
structure Fun (K:Af) (x qual:Str) (st:Stmt) (f:Addr) (fd:B8):Prop where
 ex:∃(oc:Ad) (od:Option Addr) (kV doc pm:Ad) (an:Option Addr) (cdv ct:Ad) (osl:Array (Option Ad)),
  fd=Ek x qual (jcq st) (jbc st) (jah st) .none kV doc pm an cdv ct/\K.lookup f=some ⟨oc,od,.func fd,osl⟩/\PySem.W.codeIn K cdv qual=true
 kp:Cp K (.ref f)=true
section
variable {P:Bd} {w:Bq} {K:Af} {mg:Str->Option Ad} {base:Heap}
theorem Fun.ok {x qual:Str} {st:Stmt} {f:Addr} {fd:B8} {N ps:List Str} {k:Nat} {sp:Sp} (F:Fun K x qual st f fd) (S:FnScope N ps (jah st)) (len:∀vs H Q E,sp vs H Q E->vs.length=ps.length)
  (hbody:∀(cdv:Ad) (A:Bj) (outer:List Env) (s:Ah) (H:Hp) (vs:List V) (Q:VK) (E:XK),Room k (A.deeper (envOfC qual (jah st) s.heap.objs.size f cdv))->sp vs H Q E ->
   ∃t,PSs (cxOf CX0 P w K mg base N qual (jah st) f cdv A outer s H E).nox (jbc st) t/\t {nx:=λ_ H'=>Q .non H',rt:=Q} (start N vs) H):FnOk P w K mg base CX0 (k+1) f fd ps sp:=by
 obtain⟨oc,od,kV,doc,pm,an,cdv,ct,osl,rfl,lk,hcd⟩:=F.ex;refine jzt lk hcd S len λA outer s H vs Q E hr hsp=>?_;obtain⟨t,h,q⟩:=hbody cdv A outer s H vs Q E hr hsp;exact⟨t,h.nox,q⟩
theorem Fun.binds {x qual:Str} {st:Stmt} {f:Addr} {fd:B8} {ps:List Str} (F:Fun K x qual st f fd)
  (h:∀(kV doc pm:Ad) (an:Option Addr) (cdv ct:Ad) (us:List Ad),us.length=ps.length->bindArgs (Ek x qual (jcq st) (jbc st) (jah st) .none kV doc pm an cdv ct) ⟨us,[]⟩=pure (ps.zip us)):Binds K fd ps []:=by
 obtain⟨oc,od,kV,doc,pm,an,cdv,ct,osl,rfl,lk,hcd⟩:=F.ex;exact .all (h kV doc pm an cdv ct)
theorem jx7 {x qual:Str} {st:Stmt} {f:Addr} {oc:Ad} {od an:Option Addr} {osl:Array (Option Ad)} {kV doc pm cdv ct:Ad} (l:K.lookup f=some ⟨oc,od,.func (Ek x qual (jcq st) (jbc st) (jah st) .none kV doc pm an cdv ct),osl⟩)
  (c:PySem.W.codeIn K cdv qual=true) (k:Cp K (.ref f)=true):Fun K x qual st f (Ek x qual (jcq st) (jbc st) (jah st) .none kV doc pm an cdv ct):=⟨⟨oc,od,kV,doc,pm,an,cdv,ct,osl,rfl,l,c⟩,k⟩
end
theorem jij {n:Nat} (h:n<=1000):n < Az:=Nat.lt_of_le_of_lt h (by decide)
section
variable {X:Cx}
theorem pv (i:Nat) {x:Str} {pos:Pos} (hN:X.N[i]?=some x:=by rfl) (hv:Vis X.env.scope x:=by first | exact C5 rfl | exact B9 (C5 rfl) | exact B9 (B9 rfl)) (hd:(x==("__debug__":Str))=false:=by decide)
  (hcd:(x==("__classdict__":Str))=false:=by decide):PE X (.Name x pos) (tVar i):=jcc hN hv hd hcd
end
theorem iteF {A B:Prop} (h:B):if false=true then A else B:=by
 rw[if_neg Am];exact h
theorem ite2 {c A B:Prop} [Decidable c] (h1:c->A) (h2:¬c->B):if c then A else B:=by
 by_cases h:c
 ·rw[if_pos h];exact h1 h
 ·rw[if_neg h];exact h2 h
def Same (H H':Hp):Prop:=∀b o,H b=some o->H' b=some o
end L2
set_option maxHeartbeats 4000000
set_option maxHeartbeats 4000000
namespace L2
open PySem PySem.Spec PyProof.Rows
section
variable {prog:Bd} {w:Bq} {A:Bj} {R:Result->Ah->Prop} {s:Ah}
theorem jdl {elt target iter:Expr} {ifs:List Expr} {scope:Ee} {pos:Pos} {it acc:Ad} {env:Env} (I:Nat->Ah->Prop)
  (turn:∀n s,I n s->Aw (A1 prog w) A (Eg it) (λr s₁=>match r with
   |none=>R (.ok .next) s₁
   |some v=>Aw (A1 prog w) A (letOwnedTupleGo target it v) (λ_ s₁'=>Aw (A1 prog w) A (assign target env v) (λ_ s₂ =>
     Aw (A1 prog w) A (forIn ifs true λc r=>if r=true then do let ok <-isTrue c env (eval c env);pure (Fh ok)else pure (Fh r)) (λok s₃ =>
      if ok=true then Aw (A1 prog w) A (eval elt env) (λx s₄ =>
       Aw (A1 prog w) A (call (.builtin "list.append") [acc,x]) (λ_ s₅=>∃m,m < n/\I m s₅) (λ_ _=>False) s₄) (λ_ _=>False) s₃
      else ∃m,m < n/\I m s₃) (λ_ _=>False) s₂) (λ_ _=>False) s₁') (λ_ _=>False) s₁) (λ_ _=>False) s)
  (n:Nat) (h:I n s):E8 (A1 prog w) A (.compLoop (.ListComp elt [⟨target,iter,ifs,0⟩] scope pos) 0 it acc env) R s:=by
 refine codeAny_loop rfl I (λn s hI=>?_) n h;show Aw _ A ((compTurn (.ListComp elt [⟨target,iter,ifs,0⟩] scope pos) 0 it acc env).onRaise (λx=>do noteFrame x env;theTreesLotGoes x)) _ _ s;refine wpAny_noted ?_;rw[compTurn_list];refine Aa (wpAny_standAt (Aa (Ci (turn n s hI) (λr s₁ h₁=>?_) λ_ _ f=>f.elim)));cases r with
 |none=>exact Ag h₁
 |some v =>
  refine Aa (Ci h₁ (λ_ s₁' h₁'=>?_) λ_ _ f=>f.elim);refine Aa (Ci h₁' (λ_ s₂ h₂=>Aa (Ci h₂ (λok s₃ h₃=>?_) λ_ _ f=>f.elim)) λ_ _ f=>f.elim);cases ok with
  |false=>exact Ag ⟨rfl,h₃⟩
  |true =>
   exact Aa (Aa (Ci h₃ (λx s₄ h₄=>Aa (Ci h₄ (λ_ s₅ h₅=>Ag (Ag ⟨rfl,h₅⟩)) λ_ _ f=>f.elim)) λ_ _ f=>f.elim))
end
def jaq (X:Cx) (N:List Str) (scope:Ee) (cl:List (Str×Addr)) (s:Ah) (H:Hp) (fp:List Addr):Cx :=
 { X with N:=N,s₀:=s,H₀:=H,env:=compEnvC scope cl s.heap.objs.size X.env,outer:=X.stack,ex:=fp,fn:=λ_=>false,pn:=[],xe:=λ_ _=>False}
structure CompSc (X:Cx) (N:List Str) (scope:Ee) (cl:List (Str×Addr)) (fr:List (Option Nat)):Prop where
 clos:closureFor scope X.env=pure cl
 kind:scope.kind=.function
 nocell:∀y∈scope.names,y.2≠.cell
 names:∀y∈scope.names,y.2=.local->scope.names.lookup y.1=some .local
 sub:∀x c,cl.lookup x=some c->X.env.cells.lookup x=some c
 has:∀x,((relabel scope X.env).names.lookup x=some .cell\/(relabel scope X.env).names.lookup x=some .free)->∃c,cl.lookup x=some c
 len:fr.length=N.length
 fre:∀(j i:Nat),fr[j]?=some (some i)->∃x,N[j]?=some x/\X.N[i]?=some x/\Vis X.env.scope x/\(X.env.kindOf x=some .cell\/X.env.kindOf x=some .free) /\
  ((relabel scope X.env).names.lookup x=some .cell\/(relabel scope X.env).names.lookup x=some .free)/\cl.lookup x=X.env.cells.lookup x
theorem jca {κ:Type}:∀{l:List (Str×κ)} {x:Str} {k:κ},l.lookup x=some k->(x,k)∈l
 |[],_,_,h=>nomatch h
 | (y,k')::r,x,k,h=>by
  rw[List.lookup_cons]at h;cases e:x==y with
  |true =>
   rw[e]at h;have e':x=y:=by simpa using e
   have h':k'=k:=Bh h;rw[e',h'];exact An
  |false =>
   rw[e]at h;exact Ak _ (jca h)
theorem jgg {κ:Type}:∀{l:List (Str×κ)} {x:Str},x∈l.map (·.1)->∃k,l.lookup x=some k
 |[],_,h=>absurd h (by simp)
 | (y,k')::r,x,h=>by
  rw[List.lookup_cons];cases e:x==y with
  |true=>exact⟨k',rfl⟩
  |false =>
   have ne:¬x=y:=λz=>by rw[z]at e;simp at e
   have h':x∈y::r.map (·.1):=h;rcases Ax.mp h' with z | z
   ·exact absurd z ne
   ·exact jgg z
theorem jq9 {X:Cx} {scope:Ee} {cl:List (Str×Addr)} (nm:List (Str×NameKind)) (ks:List Str) (hrel:(relabel scope X.env).names=nm) (hks:cl.map (·.1)=ks) (h3:∀y∈nm,(y.2=.cell\/y.2=.free)->y.1∈ks) :
  ∀x,((relabel scope X.env).names.lookup x=some .cell\/(relabel scope X.env).names.lookup x=some .free)->∃c,cl.lookup x=some c:=by
 intro x h;rw[hrel]at h;refine jgg ?_;rw[hks];rcases h with h | h
 ·exact h3 _ (jca h) (.inl rfl)
 ·exact h3 _ (jca h) (.inr rfl)
def capt (fr:List (Option Nat)) (σ:St):St:=fr.map λo=>o.bind λi=>(σ[i]?).bind id
theorem jrc {fr:List (Option Nat)} {σ:St} {j:Nat} {v:V} (h:(capt fr σ)[j]?=some (some v)):∃i,fr[j]?=some (some i)/\σ[i]?=some (some v):=by
 unfold capt at h;rw[A0]at h;cases e:fr[j]? with
 |none=>rw[e]at h;cases h
 |some o =>
  rw[e]at h;cases o with
  |none=>cases h
  |some i =>
   refine⟨i,rfl,?_⟩;have h':(σ[i]?).bind id=some v:=Bh h;cases e2:σ[i]? with
   |none=>rw[e2]at h';cases h'
   |some o2 =>
    rw[e2]at h';have h2:o2=some v:=h';rw[h2]
def PIf (X:Cx) (ifs:List Expr) (tt:TT):Prop :=
 ∀(pins:List (Addr×Obj)) (s:Ah) (σ:St) (H:Hp) (Q:Bool->Hp->Prop),Inv X pins σ H s->tt σ H Q ->
  Aw (A1 X.prog X.w) X.A (forIn ifs true λc r=>if r=true then do let ok <-isTrue c X.env (eval c X.env);pure (Fh ok)else pure (Fh r)) (TP X pins σ Q) X.xe s
def jvo:TT:=λ_ H Q=>Q true H
theorem jtw {X:Cx}:PIf X [] jvo:=λ_ _ _ H _ I h=>wpAny_tests_nil ⟨H,I,h⟩
theorem jtv {X:Cx} {c:Expr} {tt:TT} (h:PT X c tt):PIf X [c] tt:=λpins s σ H Q I q=>wpAny_tests_one (h pins s σ H Q I q)
def jmr (fr:List (Option Nat)) (wi:TI) (g:TG) (tt:TT) (te:TE):TE:=λσ H Q=>wi σ H λJ H1=>∀D,H1 D=none ->
 ∃W:Nat->Nat->List V->St->Hp->Prop,(∃m,W 0 m [] (capt fr σ) (upd H1 D (.lst [])))/\∀i m ys τ H,W i m ys τ H ->
  ((J.stop i H/\Q (.ref D) H)\/(J.go i H/\ys.length < Az/\∀x H',J.yld i H x H'->g x τ H' λτ2 H2=>tt τ2 H2 λb H3 =>
   if b=true then te τ2 H3 (λy H4=>H4 D=some (.lst ys)/\∃m',m' < m/\W (i+1) m' (ys++[y]) τ2 (upd H4 D (.lst (ys++[y]))))else ∃m',m' < m/\W (i+1) m' ys τ2 H3))
section
variable {X:Cx} {N:List Str} {scope:Ee} {cl:List (Str×Addr)} {fr:List (Option Nat)} {pins:List (Addr×Obj)} {σ:St} {H:Hp} {s:Ah} {fp:List Addr}
theorem ju2 (S:CompSc X N scope cl fr) (I:Inv X pins σ H s) (hf:∀b∈fp,FpOk X pins H b) (hlt:∀b∈fp,b < s.heap.objs.size):(jaq X N scope cl s H fp).Ok where
 mod:=I.ok.mod
 kind:=S.kind
 glob:=I.ok.glob
 blt:=I.ok.blt
 above:=Ao _
 inj:=λx y c a b=>I.ok.inj x y c (S.sub x c a) (S.sub y c b)
 has:=λx h=>S.has x h
 cab:=λx c h=>nomatch h
 hd:=I.ok.hd
 frames:=I.ok.frames
 stk:=.inl rfl
 exf:=λb hb=>⟨Ba (hlt b hb),λx c e=>(hf b hb).2.2.2.2.1 x c (S.sub x c e)⟩
 bs:=I.bs
 bsz:=A5 I.ok.bsz I.sz
 noex:=λb o e hb=>by
  rcases(hf b hb).2.2.2.1 with z | z
  ·exact I.ok.noex b o e z
  ·exact absurd (A8 (Aq (I.ok.bs b o e).1) z) (Dl _)
 exfs:=λb hb z=>by
  rcases Ax.mp (I.stkSub b z)with e | e
  ·exact(hf b hb).2.1 e
  ·exact(hf b hb).2.2.1 e
 funs:=I.stack
 frf:=I.stkFree
theorem jgm {h₁:Heap} {t':Nat} (S:CompSc X N scope cl fr) (I:Inv X pins σ H s) (hf:∀b∈fp,FpOk X pins H b) (hlt:∀b∈fp,b < s.heap.objs.size)
  {ob:Obj} (hsb:Cr s.heap.objs.size (s.heap.push ob) h₁) {m:Str->Option Ad} (hn:h₁.Ns s.heap.objs.size m) :
  Inv (jaq X N scope cl s H fp) [] (capt fr σ) H {s with heap:=h₁,toks:=t'}:=by
 have old:∀b o,s.heap.get? b=some o->h₁.get? b=some o:=λb o e=>(hsb.2 b (Ba (Aq e))).trans (Ai _ e);refine⟨ju2 S I hf hlt,rfl,I.bare,Un.kept old,⟨m,hn,λj x v e1 e2 e3=>?_⟩,λx c e=>?_,I.fresh,λx c e=>I.freeC x c (S.sub x c e),λp hp=>?_,I.hok.kept old,?_⟩
 ·obtain⟨i,f1,f2⟩:=jrc e2;obtain⟨y,g1,g2,g3,g4,g5,g6⟩:=S.fre j i f1;have e1':N[j]?=some x:=e1;rw[g1]at e1';have exy:y=x:=Bh e1';subst exy;obtain⟨m0,hn0,hl⟩:=I.loc;obtain⟨u,r,l⟩:=hl i y v g2 f2 g3;refine⟨u,r,.inr ⟨g5,?_⟩⟩;rcases l with⟨k,_⟩ | ⟨k,c,e,z⟩
  ·rcases g4 with q | q
   ·rw[q]at k;cases k
   ·rw[q]at k;cases k
  ·exact⟨c,g6.trans e,z.keeps old⟩
 ·obtain⟨v,z⟩:=I.cell x c (S.sub x c e);exact⟨v,z.keeps old⟩
 ·exact absurd hp (by simp[jaq])
 ·show(capt fr σ).length=N.length;unfold capt;rw[Ae,S.len]
theorem jk2 {H':Hp} {τ:St} {s0 s':Ah} {h':Heap} (I:Inv X pins σ H s0) (hf:∀b∈fp,FpOk X pins H b) (I':Inv (jaq X N scope cl s0 H fp) [] τ H' s') (hs:Cr s0.heap.objs.size s'.heap h') :
  Inv X pins σ H' {s' with heap:=h'}:=by
 have hC:H' s0.heap.objs.size=none:=I'.free;have u:Un (frs X.stack) fp H H' s0.heap s'.heap:=I'.base;have ne:∀b o,s0.heap.get? b=some o->b≠s0.heap.objs.size:=λb o e=>Ba (Aq e);have hok':HOk X.prog X.w H' h':=λb o e=>by
  have q:ObjOk X.prog X.w H' s'.heap b o:=I'.hok b o e;refine q.stay (λc v hc z=>(hs.2 c ?_).trans z) (λ_ z=>z) λ_ _ z=>z
  rintro rfl
  rcases hc with z | z
  ·rw[<-z,hC]at e;cases e
  ·rw[hC]at z;cases z
 refine I.call' (s':={ s' with heap:=h'}) (ch:=fp) I'.os ?_ hok' I'.bare λb hb=>?_
 ·refine⟨λb o e n h1 h2=>(hs.2 b (ne b o e)).trans (u.keep b o e n h1 h2),λb o e n h1 h2=>?_,u.free,λb o e h2=>?_,u.tups,u.frzs,u.tbls⟩
  ·obtain⟨sl,z⟩:=u.slot b o e n h1 h2;exact⟨sl,(hs.2 b (ne b o e)).trans z⟩
  ·obtain⟨o',z⟩:=u.there b o e h2;exact⟨o',(hs.2 b (ne b o e)).trans z⟩
 ·obtain⟨_,f1,_,f3,f4,f5⟩:=hf b hb;exact⟨f3,f1,f4,f5⟩
end
theorem jt1 {X:Cx} {elt tg iter:Expr} {ifs:List Expr} {scope:Ee} {cl:List (Str×Addr)} {pos:Pos} {N:List Str} {fr:List (Option Nat)} {wi:TI} {g:TG} {tt:TT} {te:TE}
  (hc:X.calm=true) (S:CompSc X N scope cl fr) (hi:PI X tg iter wi) (hg:∀s H fp,PG (jaq X N scope cl s H fp) tg g) (ht:∀s H fp,PIf (jaq X N scope cl s H fp) ifs tt)
  (he:∀s H fp,PE (jaq X N scope cl s H fp) elt te) (hs:∀x,D1 iter X.env x=pure x:=by intro _;rfl) :
  PE X (.ListComp elt [⟨tg,iter,ifs,0⟩] scope pos) (jmr fr wi g tt te):=by
 intro pins s σ H Q I h;rw[eval_ListComp];refine wpAny_comprehension_free (use:=none) (cl:=cl) rfl hs S.clos S.kind S.names (thn (hi pins s σ H _ I h) λv s1 h1=>thn h1 λitv s2 h2=>?_);obtain⟨it,fp,tn,J,H2,e,I2,T,st2,f2,q⟩:=h2;subst e;refine Bo (wpAny_newFunctionEnv S.nocell (by intro y hy;simp at hy) (λh₁ hn hsb=>?_) S.kind);dsimp only at hn hsb ⊢;obtain⟨W,⟨m0,w0⟩,turn⟩:=q s2.heap.objs.size I2.fresh
 -- the state with the new list
 have I3:Inv X pins σ (upd H2 s2.heap.objs.size (.lst [])) {s2 with heap:=s2.heap.push {cls:=.type "list",dict:=none,data:=.seq ([]:List Ad).toArray}}:=I2.lnew (its:=[]) (t':=s2.toks) .nil (A4 _);have key:∀s3:Ah,s3={ s2 with heap:=s2.heap.push {cls:=.type "list",dict:=none,data:=.seq ([]:List Ad).toArray}}->Inv X pins σ (upd H2 s2.heap.objs.size (.lst [])) s3 ->
   ∀(ob:Obj) (mm:Str->Option Ad),Cr s3.heap.objs.size (s3.heap.push ob) h₁->h₁.Ns s3.heap.objs.size mm ->
   E8 (A1 X.prog X.w) X.A (.compStart (.ListComp elt [⟨tg,iter,ifs,0⟩] scope pos) 0 (.ref it) (.ref s2.heap.objs.size) (compEnvC scope cl s3.heap.objs.size X.env))
    (compPost (A1 X.prog X.w) X.A X.xe none (EP X pins σ Q) (.ref s2.heap.objs.size) s3.heap.objs.size) {s3 with heap:=h₁,toks:=s3.toks+([]:List (Str×Ad)).length}:=?key
 ·exact key _ rfl I3 _ _ hsb hn
 clear I3 hn hsb;intro s3 hs3 I3 ob mm hsb hn;have hfp:∀b∈fp,∃o,s2.heap.get? b=some o:=λb hb=>let⟨o,e,_⟩:=T.obj _ _ st2 b hb;⟨o,e⟩;have up:∀b o,s2.heap.get? b=some o->s3.heap.get? b=some o:=λb o e=>by rw[hs3];exact Ai _ e
 have f3:∀b∈fp,FpOk X pins (upd H2 s2.heap.objs.size (.lst [])) b:=λb hb=>by
  obtain⟨o,e⟩:=hfp b hb;obtain⟨g0,gr⟩:=f2 b hb;exact⟨by rw[jad (Ba (Aq e))];exact g0,gr⟩
 have hlt:∀b∈fp,b < s3.heap.objs.size:=λb hb=>let⟨o,e⟩:=hfp b hb;Aq (up b o e);generalize hH3:upd H2 s2.heap.objs.size (.lst [])=H3 at I3 f3 w0;have I4:=jgm (t':=s3.toks+([]:List (Str×Ad)).length) S I3 f3 hlt hsb hn;have st4:tn 0 h₁:=T.keep _ _ _ st2 λb hb o e=>(hsb.2 b (Ba (Aq (up b o e)))).trans (Ai _ (up b o e));have stat:∀{H':Hp},(∀b∈fp,H' b=none)->∀b∈fp,FpOk (jaq X N scope cl s3 H3 fp) [] H' b:=λhn b hb=>by
  obtain⟨_,k1,k2,k3,k4,k5⟩:=f3 b hb;refine⟨hn b hb,Ba (hlt b hb),λz=>?_,.inl hb,λx c e=>k4 x c (S.sub x c e),λp hp=>absurd hp (by simp[jaq])⟩;rcases Ax.mp (I3.stkSub b z)with e | e
  ·exact k1 e
  ·exact k2 e
 have loop:E8 (A1 X.prog X.w) X.A (.compLoop (.ListComp elt [⟨tg,iter,ifs,0⟩] scope pos) 0 (.ref it) (.ref s2.heap.objs.size) (compEnvC scope cl s3.heap.objs.size X.env))
   (compPost (A1 X.prog X.w) X.A X.xe none (EP X pins σ Q) (.ref s2.heap.objs.size) s3.heap.objs.size) {s3 with heap:=h₁,toks:=s3.toks+([]:List (Str×Ad)).length}:=by
  refine jdl (λn s'=>∃i ys τ Hc,Inv (jaq X N scope cl s3 H3 fp) [] τ Hc s'/\tn i s'.heap/\(∀b∈fp,Hc b=none)/\W i n ys τ Hc) ?_ m0 ⟨0,[],capt fr σ,H3,I4,st4,λb hb=>(f3 b hb).1,w0⟩
  rintro n s5 ⟨i,ys,τ,Hc,I5,st5,fr5,w5⟩
  rcases turn i n ys τ Hc w5 with⟨stop,qn⟩ | ⟨go,hz,step⟩
  ·refine thn (T.done (jaq X N scope cl s3 H3 fp) rfl rfl rfl hc i [] s5 τ Hc (λ_ _=>False) I5 (stat fr5) st5 stop) λr s6 ⟨hr,I6⟩=>?_;subst hr;obtain⟨mm,hm,_⟩:=I6.loc;exact⟨mm,hm,λh' hs'=>⟨.ref s2.heap.objs.size,Hc,jk2 I3 f3 I6 hs',rfl,qn⟩⟩
  ·refine thn (T.item (jaq X N scope cl s3 H3 fp) rfl rfl rfl hc i [] s5 τ Hc (λ_ _=>False) I5 (stat fr5) st5 go) λr s6 ⟨u,hr,h6⟩=>?_;subst hr;refine thn h6 λ_ s7 ⟨x,H7,I7,r7,y7,st7,fr7⟩=>?_;have I7':=I7.pinned (stat fr7) (T.obj _ _ st7);refine thn (hg s3 H3 fp _ s7 τ H7 x u _ I7' r7 (step x H7 y7)) λ_ s8 ⟨τ8,H8,I8,q8⟩=>?_;refine thn (ht s3 H3 fp _ s8 τ8 H8 _ I8 q8) λok s9 ⟨H9,I9,q9⟩=>?_;have keep:∀{st:Ah} {τ':St} {H':Hp},Inv (jaq X N scope cl s3 H3 fp) ([]++jgd fp s7.heap) τ' H' st->tn (i+1) st.heap/\∀b∈fp,H' b=none:=λ{st τ' H'} Ix=>by
    refine⟨T.keep _ _ _ st7 λb hb o e=>(Ix.pin (b,o) (Ay _ (Ay _ (jbk hb e)))).1,λb hb=>?_⟩;obtain⟨o,e,d⟩:=T.obj _ _ st7 b hb;exact(Ix.pin (b,o) (Ay _ (Ay _ (jbk hb e)))).2.1
   cases ok with
   |false =>
    rw[if_neg Am]at q9 ⊢;obtain⟨m',hm,w9⟩:=q9;obtain⟨k1,k2⟩:=keep I9;exact⟨m',hm,i+1,ys,τ8,H9,I9.unpinned,k1,k2,w9⟩
   |true =>
    rw[if_pos rfl]at q9 ⊢;refine thn (he s3 H3 fp _ s9 τ8 H9 _ I9 q9) λxv s10 ⟨y,H10,I10,r10,hD,m',hm,w10⟩=>?_;refine thn (jel _ s10 τ8 H10 (.ref s2.heap.objs.size) [y] (.ref s2.heap.objs.size) [xv] (λz H'=>∃m',m' < n/\W (i+1) m' (ys++[y]) τ8 H') I10 rfl (.cons r10 .nil) ⟨_,ys,y,rfl,rfl,hD,hz,m',hm,w10⟩) λz s11 ⟨z',H11,I11,_,m'',hm',w11⟩=>?_;obtain⟨k1,k2⟩:=keep I11;exact⟨m'',hm',i+1,ys++[y],τ8,H11,I11.unpinned,k1,k2,w11⟩
 exact codeAny_compStart_list loop (T.self _ 0 _ _ _ st4 loop)
theorem jgb {X:Cx} {elt tg iter:Expr} {ifs:List Expr} {scope:Ee} {cl:List (Str×Addr)} {cpos pos pos':Pos} {N:List Str} {fr:List (Option Nat)} {wi:TI} {g:TG} {tt:TT} {te:TE} {i:Nat} {x:Str}
  (hN:X.N.Nodup) (hix:X.N[i]?=some x) (hx:X.env.scope.names.lookup x=some .local)
  (hc:X.calm=true) (S:CompSc X N scope cl fr) (hi:PI X tg iter wi) (hg:∀s H fp,PG (jaq X N scope cl s H fp) tg g) (ht:∀s H fp,PIf (jaq X N scope cl s H fp) ifs tt)
  (he:∀s H fp,PE (jaq X N scope cl s H fp) elt te) (hs:∀x,D1 iter X.env x=pure x:=by intro _;rfl)
  (hsw:Dy (.ListComp elt [⟨tg,iter,ifs,0⟩] scope cpos) (some (.Name x pos')) pos.line X.env=pure true:=by rfl) :
  PS X (.Assign [.Name x pos'] (.ListComp elt [⟨tg,iter,ifs,0⟩] scope cpos) pos) (tAsg (jmr fr wi g tt te) (jco i)):=by
 intro pins s σ H D I h;rw[exec_Assign_Name_used _ _ _ _ hsw];refine Aa (wpAny_standAt (Aa ?_));show Aw _ _ (do let _ <-comprehension (.ListComp elt [⟨tg,iter,ifs,0⟩] scope cpos) scope X.env (firstIterPos [⟨tg,iter,ifs,0⟩] cpos) (newList []) (firstAsync [⟨tg,iter,ifs,0⟩]) (firstIter [⟨tg,iter,ifs,0⟩] X.env) (some (assign (.Name x pos') X.env))) _ _ s;refine Aa ?_;have fin:∀(u:Unit) (s':Ah),SP X pins D .next s'->Aw (A1 X.prog X.w) X.A (pure Flow.next) (SP X pins D) X.xe s':=λ_ s' z=>Ag z
 refine thn (Q:=λ_ s'=>SP X pins D .next s') ?_ λ_ s' z=>Ag (Ag z);refine wpAny_comprehension_free (use:=some (assign (.Name x pos') X.env)) (cl:=cl) rfl hs S.clos S.kind S.names (thn (hi pins s σ H _ I h) λv s1 h1=>thn h1 λitv s2 h2=>?_);obtain⟨it,fp,tn,J,H2,e,I2,T,st2,f2,q⟩:=h2;subst e;refine Bo (wpAny_newFunctionEnv S.nocell (by intro y hy;simp at hy) (λh₁ hn hsb=>?_) S.kind);dsimp only at hn hsb ⊢;obtain⟨W,⟨m0,w0⟩,turn⟩:=q s2.heap.objs.size I2.fresh
 -- the state with the new list
 have I3:Inv X pins σ (upd H2 s2.heap.objs.size (.lst [])) {s2 with heap:=s2.heap.push {cls:=.type "list",dict:=none,data:=.seq ([]:List Ad).toArray}}:=I2.lnew (its:=[]) (t':=s2.toks) .nil (A4 _);have key:∀s3:Ah,s3={ s2 with heap:=s2.heap.push {cls:=.type "list",dict:=none,data:=.seq ([]:List Ad).toArray}}->Inv X pins σ (upd H2 s2.heap.objs.size (.lst [])) s3 ->
   ∀(ob:Obj) (mm:Str->Option Ad),Cr s3.heap.objs.size (s3.heap.push ob) h₁->h₁.Ns s3.heap.objs.size mm ->
   E8 (A1 X.prog X.w) X.A (.compStart (.ListComp elt [⟨tg,iter,ifs,0⟩] scope cpos) 0 (.ref it) (.ref s2.heap.objs.size) (compEnvC scope cl s3.heap.objs.size X.env))
    (compPost (A1 X.prog X.w) X.A X.xe (some (assign (.Name x pos') X.env)) (λ_ s'=>SP X pins D .next s') (.ref s2.heap.objs.size) s3.heap.objs.size) {s3 with heap:=h₁,toks:=s3.toks+([]:List (Str×Ad)).length}:=?key
 ·exact key _ rfl I3 _ _ hsb hn
 clear I3 hn hsb;intro s3 hs3 I3 ob mm hsb hn;have hfp:∀b∈fp,∃o,s2.heap.get? b=some o:=λb hb=>let⟨o,e,_⟩:=T.obj _ _ st2 b hb;⟨o,e⟩;have up:∀b o,s2.heap.get? b=some o->s3.heap.get? b=some o:=λb o e=>by rw[hs3];exact Ai _ e
 have f3:∀b∈fp,FpOk X pins (upd H2 s2.heap.objs.size (.lst [])) b:=λb hb=>by
  obtain⟨o,e⟩:=hfp b hb;obtain⟨g0,gr⟩:=f2 b hb;exact⟨by rw[jad (Ba (Aq e))];exact g0,gr⟩
 have hlt:∀b∈fp,b < s3.heap.objs.size:=λb hb=>let⟨o,e⟩:=hfp b hb;Aq (up b o e);generalize hH3:upd H2 s2.heap.objs.size (.lst [])=H3 at I3 f3 w0;have I4:=jgm (t':=s3.toks+([]:List (Str×Ad)).length) S I3 f3 hlt hsb hn;have st4:tn 0 h₁:=T.keep _ _ _ st2 λb hb o e=>(hsb.2 b (Ba (Aq (up b o e)))).trans (Ai _ (up b o e));have stat:∀{H':Hp},(∀b∈fp,H' b=none)->∀b∈fp,FpOk (jaq X N scope cl s3 H3 fp) [] H' b:=λhn b hb=>by
  obtain⟨_,k1,k2,k3,k4,k5⟩:=f3 b hb;refine⟨hn b hb,Ba (hlt b hb),λz=>?_,.inl hb,λx c e=>k4 x c (S.sub x c e),λp hp=>absurd hp (by simp[jaq])⟩;rcases Ax.mp (I3.stkSub b z)with e | e
  ·exact k1 e
  ·exact k2 e
 have loop:E8 (A1 X.prog X.w) X.A (.compLoop (.ListComp elt [⟨tg,iter,ifs,0⟩] scope cpos) 0 (.ref it) (.ref s2.heap.objs.size) (compEnvC scope cl s3.heap.objs.size X.env))
   (compPost (A1 X.prog X.w) X.A X.xe (some (assign (.Name x pos') X.env)) (λ_ s'=>SP X pins D .next s') (.ref s2.heap.objs.size) s3.heap.objs.size) {s3 with heap:=h₁,toks:=s3.toks+([]:List (Str×Ad)).length}:=by
  refine jdl (λn s'=>∃i ys τ Hc,Inv (jaq X N scope cl s3 H3 fp) [] τ Hc s'/\tn i s'.heap/\(∀b∈fp,Hc b=none)/\W i n ys τ Hc) ?_ m0 ⟨0,[],capt fr σ,H3,I4,st4,λb hb=>(f3 b hb).1,w0⟩
  rintro n s5 ⟨i,ys,τ,Hc,I5,st5,fr5,w5⟩
  rcases turn i n ys τ Hc w5 with⟨stop,qn⟩ | ⟨go,hz,step⟩
  ·refine thn (T.done (jaq X N scope cl s3 H3 fp) rfl rfl rfl hc i [] s5 τ Hc (λ_ _=>False) I5 (stat fr5) st5 stop) λr s6 ⟨hr,I6⟩=>?_;subst hr;obtain⟨mm,hm,_⟩:=I6.loc;have I6x:Inv X pins σ Hc s6:=jk2 I3 f3 I6 (Heap.SameBut.refl _ _);have hC:Hc s3.heap.objs.size=none:=I6.free;obtain⟨_,c1,_,c3,c4,c5⟩:=I3.fpOk (H':=Hc) (Ao _) hC;show Aw (A1 X.prog X.w) X.A (assign (.Name x pos') X.env (.ref s2.heap.objs.size)) _ X.xe s6;refine wpAny_assign_Name (jig I6x hN hix (.inl hx) (show RelV (.ref s2.heap.objs.size) (Bb s2.heap.objs.size)from rfl) (λs7 I7 hsb=>?_) (.inr hx));obtain⟨ad,hsb,had⟩:=hsb;have hne:s3.heap.objs.size≠ad:=by
    rcases had with z | z
    ·rw[z];exact c1
    ·exact λq=>c4 x ad z q.symm
   obtain⟨oo,es,ep,ho,rr⟩:=hm;refine⟨mm,⟨oo,es,ep,(hsb.2 _ hne).trans ho,rr⟩,λh' hs'=>⟨_,Hc,?_,qn⟩⟩;have ne:∀b,b∉[s3.heap.objs.size]->b≠s3.heap.objs.size:=λb z q=>z (by rw[q];exact Bg.mpr rfl);have hok':HOk X.prog X.w Hc h':=λb o e=>by
    refine(I7.hok b o e).stay (λc v hc z=>(hs'.2 c ?_).trans z) (λ_ z=>z) λ_ _ z=>z
    rintro rfl
    rcases hc with z | z
    ·rw[<-z,hC]at e;cases e
    ·rw[hC]at z;cases z
   refine I7.call' (s':={ s7 with heap:=h'}) (ch:=[s3.heap.objs.size]) rfl ?_ hok' I7.bare λb hb=>?_
   ·exact⟨λb o e n h1 h2=>(hs'.2 b (ne b h2)).trans e,λb o e n h1 h2=>⟨o.slots,(hs'.2 b (ne b h2)).trans e⟩,λb o e n h2=>n,λb o e h2=>⟨o,(hs'.2 b (ne b h2)).trans e⟩,λ_ _ z=>z,λ_ _ _ z=>z,λb ps z=>⟨#[],by rw[Array.append_empty];exact z⟩⟩
   ·cases Bg.mp hb;exact⟨c3,c1,c4,c5⟩
  ·refine thn (T.item (jaq X N scope cl s3 H3 fp) rfl rfl rfl hc i [] s5 τ Hc (λ_ _=>False) I5 (stat fr5) st5 go) λr s6 ⟨u,hr,h6⟩=>?_;subst hr;refine thn h6 λ_ s7 ⟨x,H7,I7,r7,y7,st7,fr7⟩=>?_;have I7':=I7.pinned (stat fr7) (T.obj _ _ st7);refine thn (hg s3 H3 fp _ s7 τ H7 x u _ I7' r7 (step x H7 y7)) λ_ s8 ⟨τ8,H8,I8,q8⟩=>?_;refine thn (ht s3 H3 fp _ s8 τ8 H8 _ I8 q8) λok s9 ⟨H9,I9,q9⟩=>?_;have keep:∀{st:Ah} {τ':St} {H':Hp},Inv (jaq X N scope cl s3 H3 fp) ([]++jgd fp s7.heap) τ' H' st->tn (i+1) st.heap/\∀b∈fp,H' b=none:=λ{st τ' H'} Ix=>by
    refine⟨T.keep _ _ _ st7 λb hb o e=>(Ix.pin (b,o) (Ay _ (Ay _ (jbk hb e)))).1,λb hb=>?_⟩;obtain⟨o,e,d⟩:=T.obj _ _ st7 b hb;exact(Ix.pin (b,o) (Ay _ (Ay _ (jbk hb e)))).2.1
   cases ok with
   |false =>
    rw[if_neg Am]at q9 ⊢;obtain⟨m',hm,w9⟩:=q9;obtain⟨k1,k2⟩:=keep I9;exact⟨m',hm,i+1,ys,τ8,H9,I9.unpinned,k1,k2,w9⟩
   |true =>
    rw[if_pos rfl]at q9 ⊢;refine thn (he s3 H3 fp _ s9 τ8 H9 _ I9 q9) λxv s10 ⟨y,H10,I10,r10,hD,m',hm,w10⟩=>?_;refine thn (jel _ s10 τ8 H10 (.ref s2.heap.objs.size) [y] (.ref s2.heap.objs.size) [xv] (λz H'=>∃m',m' < n/\W (i+1) m' (ys++[y]) τ8 H') I10 rfl (.cons r10 .nil) ⟨_,ys,y,rfl,rfl,hD,hz,m',hm,w10⟩) λz s11 ⟨z',H11,I11,_,m'',hm',w11⟩=>?_;obtain⟨k1,k2⟩:=keep I11;exact⟨m'',hm',i+1,ys++[y],τ8,H11,I11.unpinned,k1,k2,w11⟩
 exact codeAny_compStart_list loop (T.self _ 0 _ _ _ st4 loop)
mutual
inductive RdD (K:Af) (H:Hp):V->Ab->Prop
 |non:RdD K H .non .none
 |bl (b:Bool):RdD K H (.bl b) (.bool b)
 |int (i:Int):RdD K H (.int i) (.int i)
 |str (x:Str):RdD K H (.str x) (.str x)
 |lst {a:Addr} {xs:List V} {ds:List Ab}:SqL K H a xs->RdAll K H xs ds->RdD K H (.ref a) (.list ds)
 |tup {a:Addr} {xs:List V} {ds:List Ab}:SqT K H a xs->RdAll K H xs ds->RdD K H (.ref a) (.tuple ds)
inductive RdAll (K:Af) (H:Hp):List V->List Ab->Prop
 |nil:RdAll K H [] []
 |cons {x:V} {xs:List V} {d:Ab} {ds:List Ab}:RdD K H x d->RdAll K H xs ds->RdAll K H (x::xs) (d::ds)
end
section
variable {X:Cx} {pins:List (Addr×Obj)} {σ:St} {H:Hp} {s:Ah}
mutual
theorem RdD.reads (I:Inv X pins σ H s):∀{v:V} {d:Ab} {u:Ad},RdD X.K H v d->RelV v u->∃as,Reads s.heap u d as
 |_,_,u,.non,r=>by
  cases(show u=Bc from r);exact⟨_,.none⟩
 |_,_,u,.bl b,r=>by
  cases(show u=Value.bool b from r);exact⟨_,.bool b⟩
 |_,_,u,.int i,r=>by
  obtain⟨t,rfl⟩:=(show ∃t,u=Value.int i t from r);exact⟨_,.int i t⟩
 |_,_,u,.str x,r=>by
  obtain⟨t,rfl⟩:=(show ∃t,u=Value.str x t from r);exact⟨_,.str x t⟩
 |_,_,u,.lst (a:=a) h1 h2,r=>by
  cases(show u=Bb a from r);obtain⟨its,rv,⟨o,n,e,c,_,d⟩,_⟩:=I.list h1;obtain⟨as,ha⟩:=RdAll.reads I h2 rv;exact⟨_,.list e c d (by simpa using ha)⟩
 |_,_,u,.tup (a:=a) h1 h2,r=>by
  cases(show u=Bb a from r);obtain⟨its,rv,⟨o,e,c,n,d⟩,_⟩:=I.tuple h1;obtain⟨as,ha⟩:=RdAll.reads I h2 rv;exact⟨_,.tuple e c d (by simpa using ha)⟩
theorem RdAll.reads (I:Inv X pins σ H s):∀{vs:List V} {ds:List Ab} {us:List Ad},RdAll X.K H vs ds->Vals vs us->∃as,ReadsAll s.heap us ds as
 |_,_,_,.nil,.nil=>⟨_,.nil⟩
 |_,_,_,.cons h1 h2,.cons r1 r2=>by
  obtain⟨as,ha⟩:=RdD.reads I h1 r1;obtain⟨bs,hb⟩:=RdAll.reads I h2 r2;exact⟨_,.cons ha hb⟩
end
end
def Small (d:Ab):Prop:=B3 d=true/\Cc d<=20/\PyData.weight d<=2 ^ 20/\Ff 13 d=true/\Ez d=true
theorem Small.len {d:Ab} (h:Small d):d.shown.length<=Az:=by
 have hl:PyData.layable0 d=true:=by
  unfold PyData.layable0;rw[h.1,decide_eq_true (show Cc d<=64 by have:=h.2.1;omega),decide_eq_true h.2.2.1];rfl
 have:=shown_le13 hl h.2.2.2.1;rw[Cf];omega
def jkq (K:Af):R2:=λx y H Q=>∃a b xs,x=.ref a/\y=.ref b/\SqL K H a xs/\SqL K H b []/\Q (.bl xs.isEmpty) H
theorem jqp {X:Cx} (hu:X.A.units < Dn):OpR X (B4 .Eq) (jkq X.K):=by
 intro pins s σ H x y v u Q I rx ry h;obtain⟨a,b,xs,rfl,rfl,ha,hb,q⟩:=h;cases(show v=Bb a from rx);cases(show u=Bb b from ry);obtain⟨its,r1,p1,_⟩:=I.list ha;obtain⟨its2,r2,p2,_⟩:=I.list hb;have e2:its2=[]:=Vals.zero r2;subst e2;cases r1 with
 |nil=>exact PySem.SeqAt.eq_listAt (e:=λ_=>true) p1.isList p2.isList rfl hu (λj h1=>absurd h1 (by simp)) ⟨.bl true,H,I,(by rfl),q⟩
 |cons r1 r3=>exact PySem.SeqAt.eq_list_lengthsAt p1.isList p2.isList (by simp) hu ⟨.bl false,H,I,rfl,q⟩
def jwp (K:Af):R2:=λx y H Q=>∃a b xs ys,x=.ref a/\y=.ref b/\SqT K H a xs/\SqT K H b ys/\ys≠[]/\xs.length+ys.length<=Az /\
 (xs=[]->Q (.ref b) H)/\(xs≠[]->∀p,H p=none->Q (.ref p) (upd H p (.tup (xs++ys))))
theorem op_catA {X:Cx}:OpR X (Ea .Add) (jwp X.K):=by
 intro pins s σ H x y v u Q I rx ry h;obtain⟨a,b,xs,ys,rfl,rfl,ha,hb,hy,hz,q0,q2⟩:=h;by_cases hx:xs=[]
 ·cases(show v=Bb a from rx);cases(show u=Bb b from ry);obtain⟨its,r1,p1,_⟩:=I.tuple ha;obtain⟨its2,r2,p2,_⟩:=I.tuple hb;obtain⟨⟨cls,dd,data,sl⟩,ho,hc,n,hd⟩:=id p1;obtain⟨⟨cls2,dd2,data2,sl2⟩,ho2,hc2,n2,hd2⟩:=id p2;simp only at hc hd hc2 hd2;subst hc hd hc2 hd2;have hi:its=[]:=r1.nil_iff.mpr hx;exact concat_meets ⟨_,ho,rfl⟩ ⟨_,ho2,rfl⟩ noFill_tuple_add seq_tuple_add E5 E1 (Es _ _)
   (tuple_addW0 a b its.toArray its2.toArray n n2 dd dd2 sl sl2 (by simp[hi])) ⟨ho,ho2,⟨.ref b,H,I,rfl,q0 hx⟩⟩
 ·exact op_catT pins s σ H (.ref a) (.ref b) v u Q I rx ry ⟨a,b,xs,ys,rfl,rfl,ha,hb,hx,hz,λe=>absurd e hy,λ_=>q2 hx⟩
theorem jre {X:Cx} {T:String}:CallR X (.builtin "isinstance") (λxs H Q=>∃x t b,xs=[x,.ty T]/\TyOf X.K H x t/\PySem.W.kitOne X.K t (.type T)=some b/\Q (.bl b) H):=by
 intro pins s σ H xs us Q I r h;obtain⟨x,t,b,rfl,ty,e,q⟩:=h;obtain⟨u,u',rfl,ru,ru'⟩:=jsw r;cases(show u'=C6 T from ru');exact joq I ru ty e λtk=>⟨.bl b,H,I.tok tk,rfl,q⟩
section
variable {prog:Bd} {w:Bq} {A:Bj} {E:Ad->Ah->Prop} {s:Ah}
theorem jcd:entryFor table "dict.update.loop"=some D2.«dict.update.loop»:=Fv (by kernel_rfl)
theorem jbe:plainId "dict.update.loop"=true:=by decide +kernel
theorem jok:typeLookup (.type "tuple") "keys"=pure none:=by rw[typeLookup_type,builtinLookup_eq_fast];kernel_rfl
theorem jlp {a:Addr} {its:List Ad} {Q:List Ad->Ah->Prop} (p:IsTup s.heap a its.toArray) (h:Q its s):Aw (A1 prog w) A (Builtin.Dict.pairItems (.ref a)) Q E s:=by
 obtain⟨o,ho,hc,n,hd⟩:=id p;unfold Builtin.Dict.pairItems;refine Aa (E2 (show s.TypeIs (.ref a) "tuple" from⟨o,ho,hc⟩) ?_);rw[if_pos (by decide)];refine Aa (wpAny_seqItems ho hd (Ag ?_));simpa using h
set_option maxRecDepth 8000 in
theorem jhi {a:Addr} {o:Obj} {xs:Array Ad} {k:Nat} {name:Str} {Q:Option Ad->Ah->Prop}
  (hx:s.heap.get? a=some o) (hc:o.cls=.type "tuple") (hdat:o.data=.seq xs k) (hd:o.dict=none) (hmiss:typeLookup (.type "tuple") name=pure none) (hname:(["__module__","__name__","__qualname__","__doc__","__annotations__"]:List Str).contains name=false) (hA:A.handled=none)
  (h:∀h' tk e,Heap.NewExcOf s.heap h' e "AttributeError"->Q none {s with heap:=h',toks:=tk}) (hsz:name.length+100<=Az:=by size_fits) :
  Aw (A1 prog w) A (getAttr? (.ref a) name) Q E s:=by
 obtain⟨c,dct,dat,sl⟩:=o;simp only at hc hdat hd;subst hc hdat hd;obtain⟨hp,g,d,tk,os⟩:=s;have hT:∀tk',(⟨hp,g,d,tk',os⟩:Ah).TypeIs (.ref a) "tuple":=λ_=>⟨_,hx,rfl⟩;have f1:=sub_AttributeError;have f3:=F.slot_tuple_getattribute.lookup;have f4:=F.slot_tuple_getattribute.bind (.ref a);have f5:=am_tuple_getattr_none;unfold getAttr? getAttrBy? getAttrBy
 repeat (any_goals (first | assumption | exact hT _ | ((with_reducible show Aw _ _ (call (Value.builtin "tuple.__getattribute__") _ _) _ _ _);refine call_meets F.slot_tuple_getattribute (hT _) am_entry_tuple_getattribute (F.args_tuple_getattribute_2 _ _) (meets_getattribute_miss_tuple a xs k sl name _ hmiss hname hsz) ⟨hx,hA,λh' tk' e hx'=>?_⟩) | wp_step))
 obtain⟨t',u',he⟩:=hx'.there;show Aw _ _ (getattributeRaised _ _ _ _ _ _ _) _ _ _;unfold getattributeRaised
 repeat (any_goals (first | assumption | wp_step))
 exact h _ _ _ hx'.of
end
section
variable {X:Cx} {pins:List (Addr×Obj)} {σ:St} {A:Bj} {R:Result->Ah->Prop}
theorem jay {n:Nat} (h:n<=1000):n<=Az:=Fd (jij h)
end
end L2
namespace L2
open PySem PySem.Spec PyProof.Rows PySem.SeqAt
def LtAt (A:Bj) (s:Ah) (x y:Ad) (b:Bool):Prop:=∀(prog:Bd) (w:Bq) (E:Ad->Ah->Prop) (Q:Ad->Ah->Prop),Q (.bool b) s->Aw (A1 prog w) A (richCompare .Lt x y) Q E s
inductive LexAt (A:Bj) (s:Ah) (fin:Bool):List (Ad×Ad)->Bool->Prop
 |nil:LexAt A s fin [] fin
 |same {x y:Ad} {r:List (Ad×Ad)} {b:Bool}:EqAt A s x y true->LexAt A s fin r b->LexAt A s fin ((x,y)::r) b
 |parts {x y:Ad} {r:List (Ad×Ad)} {b:Bool}:EqAt A s x y false->LtAt A s x y b->LexAt A s fin ((x,y)::r) b
theorem jfj (l b:Addr) (xs ys:Array Ad) (n n2:Nat) (dd dd2:Option Addr) (sl sl2:Array (Option Ad)) (k:Bool) :
  Meets (D2.«tuple.__lt__» ⟨[.ref l,.ref b],[]⟩)
   (λA R s=>s.heap.get? l=some {cls:=.type "tuple",dict:=dd,data:=.seq xs n,slots:=sl}/\s.heap.get? b=some {cls:=.type "tuple",dict:=dd2,data:=.seq ys n2,slots:=sl2} /\
    LexAt A.in1 s (decide (xs.size < ys.size)) (xs.toList.zip ys.toList) k/\R (.ok (.ret (.bool k))) s) :=
 .of_wp λprog w A R s h=>by
  obtain⟨hp,g,d,tk,os⟩:=s;obtain⟨hl,hb,he,h⟩:=h;have f2:=AutoSeq1.sub_tuple_tuple
  wp_walk using wpAny_loadPart' hl,wpAny_loadPart' hb,wpAny_forIn_list _ (λrest b s'=>b.1=none/\s'=⟨hp,g,d,tk,os⟩/\LexAt A.in1 ⟨hp,g,d,tk,os⟩ (decide (xs.size < ys.size)) rest k) _
  case turn =>
   rintro⟨x,y⟩ rest b s' ⟨_,rfl,hm⟩
   cases hm with
   |same e1 hm' =>
    refine Aa (e1 prog w _ _ ?_)
    wp_walk
    exact⟨rfl,rfl,hm'⟩
   |parts e1 e3 =>
    refine Aa (e1 prog w _ _ ?_);show Aw _ _ (rule _>>=λ_=>_) _ _ _;refine Aa (wpAny_rule ?_);refine Aa (e3 prog w _ _ ?_)
    wp_walk
    exact⟨_,rfl,h⟩
  case fin =>
   rintro⟨b1,b2⟩ s' ⟨hb',rfl,hm⟩
   simp only at hb';subst hb';cases hm
   wp_walk
   exact⟨_,rfl,by simpa[Builtin.Tuple.tupleCompareSizes]using h⟩
  case h =>
   exact⟨rfl,rfl,he⟩
section
variable {A:Bj} {s:Ah}
theorem LtAt.tuples {l b:Addr} {xs ys:Array Ad} {k:Bool} (hl:s.heap.IsTuple l xs) (hb:s.heap.IsTuple b ys) (hu:A.units < Dn)
  (he:LexAt A.in1 s (decide (xs.size < ys.size)) (xs.toList.zip ys.toList) k):LtAt A s (.ref l) (.ref b) k:=λprog w E Q h=>by
 obtain⟨⟨cls,dd,data,sl⟩,ho,hc,n,hd⟩:=id hl;obtain⟨⟨cls2,dd2,data2,sl2⟩,ho2,hc2,n2,hd2⟩:=id hb;simp only at hc hd hc2 hd2;subst hc hd hc2 hd2;exact richCompare_meets_room (op:=.Lt) ⟨_,ho,rfl⟩ ⟨_,ho2,rfl⟩ F.slot_tuple_lt F.entry_tuple_lt (F.args_tuple_lt_2 _ _) (jfj l b xs ys n n2 dd dd2 sl sl2 k)
  ⟨ho,ho2,he,show Value.bool _≠Value.notImplemented/\Q (.bool _) s from⟨(λx=>nomatch x),h⟩⟩ hu
theorem LtAt.int (i j:Int) (t u:Tok):LtAt A s (.int i t) (.int j u) (decide (i < j)):=λ_ _ _ _ h=>P.lt_int h
theorem LtAt.str (x y:Str) (t u:Tok):LtAt A s (.str x t) (.str y u) (decide (x.cps.toList < y.cps.toList)):=λ_ _ _ _ h=>P.lt_str h
end
end L2
namespace L2
open PySem PySem.Spec PyProof.Rows
theorem jn5 {X:Cx}:OpR X (B4 .LtE) (λx y H Q=>∃i j,x=.str i/\y=.str j/\Q (.bl (!decide (j.cps.toList < i.cps.toList))) H):=by
 intro pins s σ H x y v u Q I rx ry h;obtain⟨i,j,rfl,rfl,q⟩:=h;obtain⟨t,rfl⟩:=rx;obtain⟨t',rfl⟩:=ry;exact P.le_str (jao I q rfl)
theorem jn7 {X:Cx}:OpR X (B4 .Gt) (λx y H Q=>∃i j,x=.str i/\y=.str j/\Q (.bl (decide (j.cps.toList < i.cps.toList))) H):=by
 intro pins s σ H x y v u Q I rx ry h;obtain⟨i,j,rfl,rfl,q⟩:=h;obtain⟨t,rfl⟩:=rx;obtain⟨t',rfl⟩:=ry;exact P.gt_str (jao I q rfl)
end L2
namespace Nb
open PySem L2
def jmm:Bool:=true
def jrl:List V:=[.non,.non,.non,.int 1,.int 2,.int 3,.int 20]
def jkc:List Ab:=[.none,.none,.none,.int 1,.int 2,.int 3,.int 20]
end Nb
set_option Elab.async false
set_option maxRecDepth 100000
namespace Nb
open PySem L2
def Kp (t:Addr) (H H':Hp):Prop:=∀b o,H b=some o->b≠t->H' b=some o
theorem Kp.refl (t:Addr) (H:Hp):Kp t H H:=λ_ _ h _=>h
theorem Kp.trans {t:Addr} {H H1 H2:Hp} (a:Kp t H H1) (b:Kp t H1 H2):Kp t H H2:=λc o h n=>b c o (a c o h n) n
theorem Kp.new {t p:Addr} {H:Hp} {o:HO} (h:H p=none):Kp t H (upd H p o):=λc o' e _=>by
 rw[jad (jae e h)];exact e
theorem Kp.tape {t:Addr} {H:Hp} {o:HO}:Kp t H (upd H t o):=λc o' e n=>by
 rw[jad n];exact e
structure TL where
 s:Addr
 g:Addr
def exOf (l:TL):List V:=if jmm=true then[.ref l.g]else[]
structure Tp (H:Hp) (t:Addr) (l:TL) (ns:List Int) (n:Int):Prop where
 ob:∃a b:Int,H t=some (.lst (.ref l.s::.int a::.int b::exOf l))/\0<=a/\a<=n
 ls:H l.s=some (.lst (ns.map V.int))
 len:ns.length<=63
 ag:jmm=true->H l.g=some (.lst jrl)
 gne:l.g≠t
theorem Tp.ne {H:Hp} {t:Addr} {l:TL} {ns:List Int} {n:Int} (T:Tp H t l ns n):t≠l.s:=by
 obtain⟨a,b,h,_⟩:=T.ob;refine jzm h T.ls λz=>?_;have z':(.ref l.s::.int a::.int b::exOf l:List V)=ns.map V.int:=HO.lst.inj z;cases ns with
 |nil=>cases z'
 |cons m r =>
  rw[Cj]at z';have:=(List.cons.inj z').1;cases this
theorem Tp.other {H:Hp} {t p:Addr} {l:TL} {ns:List Int} {n:Int} {o:HO} (T:Tp H t l ns n) (h1:t≠p) (h2:l.s≠p) (h3:jmm=true->l.g≠p):Tp (upd H p o) t l ns n:=by
 obtain⟨a,b,e,h⟩:=T.ob;exact⟨⟨a,b,by rw[jad h1];exact e,h⟩,by rw[jad h2];exact T.ls,T.len,λz=>by rw[jad (h3 z)];exact T.ag z,T.gne⟩
theorem Tp.new {H:Hp} {t p:Addr} {l:TL} {ns:List Int} {n:Int} {o:HO} (T:Tp H t l ns n) (h:H p=none):Tp (upd H p o) t l ns n:=by
 obtain⟨a,b,e,_⟩:=T.ob;exact T.other (jae e h) (jae T.ls h) λz=>jae (T.ag z) h
theorem ju8 {xs:List V} {r:Int} (h0:0<=r) (h1:r < xs.length):∃v,atI xs r=some v/\v∈xs:=by
 obtain⟨j,rfl⟩:=Int.eq_ofNat_of_zero_le h0;have hj:j < xs.length:=by omega
 exact⟨xs[j],ja3 (Al hj),D3 hj⟩
theorem small {n:Nat} (h:n<=1000):n<=Az:=Fd (jij h)
theorem jrf:Bm "tuple"=some (.type "tuple"):=by decide +kernel
theorem ju6:Bm "dict"=some (.type "dict"):=by decide +kernel
theorem jyo:Bm "int"=some (.type "int"):=by decide +kernel
theorem jyl:Bm "str"=some (.type "str"):=by decide +kernel
theorem ju5:Bm "repr"=some (.builtin "repr"):=by decide +kernel
theorem jsn:Bm "isinstance"=some (.builtin "isinstance"):=by decide +kernel
theorem jka:Bm "list"=some (.type "list"):=by decide +kernel
theorem j0g {xs:List V} (h:xs.length<=63):cutV xs none (some 63)=xs:=by
 unfold cutV;have e1:HT.sIx xs.length 0 none=0:=rfl;have e2:HT.sIx xs.length xs.length (some 63)=xs.length:=by
  have e:=HT.sIx_nat xs.length xs.length 63;rw[show((63:Nat):Int)=63 from rfl]at e;rw[e];omega
 rw[e1,e2,List.drop_zero,Nat.sub_zero,Fk]
def jih (K:Af):Sp:=λvs H Q _=>∃(a:Addr) (ns:List Int),vs=[.ref a]/\SqL K H a (ns.map V.int)/\ns.length<=63 /\
 ∀(t:Addr) (l:TL) (H':Hp),Tp H' t l ns 0->(∀b o,H b=some o->H' b=some o)->Q (.ref t) H'
def jrv:Sp:=λvs H Q _=>∃(t:Addr) (l:TL) (ns:List Int) (n many:Int),vs=[.ref t,.int many]/\Tp H t l ns n/\n < 2 ^ 40/\0 < many/\many < 1073741824 /\
 ∀(r:Int) (H':Hp),0<=r->r < many->Tp H' t l ns (n+1)->Kp t H H'->Q (.int r) H'
end Nb
namespace KS
open PySem PySem.W PyProof.Rows
def run {α:Type} (c:Nat->Nat->Bool):KasT α->α
 |.ret a=>a
 |.ask i j k=>run c (k (c i j))
theorem jb8 {α β:Type} (c:Nat->Nat->Bool) (f:α->KasT β):∀t:KasT α,run c (t.bind f)=run c (f (run c t))
 |.ret _=>rfl
 |.ask i j k=>jb8 c f (k (c i j))
def Wi {α:Type} (n:Nat) (P:α->Prop):KasT α->Prop
 |.ret a=>P a
 |.ask i j k=>i < n/\j < n/\∀b,Wi n P (k b)
theorem Wi.bind {α β:Type} {n:Nat} {P:α->Prop} {R:β->Prop} {f:α->KasT β} (hf:∀a,P a->Wi n R (f a)):∀{t:KasT α},Wi n P t->Wi n R (t.bind f)
 |.ret a,h=>hf a h
 |.ask i j k,h=>⟨h.1,h.2.1,λb=>Wi.bind hf (h.2.2 b)⟩
theorem Wi.out {α:Type} {n:Nat} {P:α->Prop} (c:Nat->Nat->Bool):∀{t:KasT α},Wi n P t->P (run c t)
 |.ret a,h=>h
 |.ask i j k,h=>Wi.out c (t:=k (c i j)) (h.2.2 (c i j))
theorem wp_run {α:Type} {n:Nat} {P:α->Prop} {cmp:Nat->Nat->(Bool->Ah->Prop)->Ah->Prop} {c:Nat->Nat->Bool} {St:Ah->Prop} {Q:α->Ah->Prop}
  (hc:∀i j C s,i < n->j < n->St s->(∀s',St s'->C (c i j) s')->cmp i j C s):∀(t:KasT α) (s:Ah),Wi n P t->St s->(∀s',St s'->Q (run c t) s')->t.kasWp cmp Q s
 |.ret a,s,_,hs,h=>h s hs
 |.ask i j k,s,w,hs,h=>hc i j _ s w.1 w.2.1 hs λs' hs'=>wp_run hc (k (c i j)) s' (w.2.2 _) hs' h
def Lo (n:Nat) (p:Array Nat):Prop:=∀i,p.getD i 0 < n
theorem jb2 (p:Array Nat) (i:Nat):p.getD i 0=(p[i]?).getD 0:=by simp
theorem jxg {n:Nat} {p:Array Nat} (hn:0 < n) (h:∀x∈p,x < n):Lo n p:=λi=>by
 rw[jb2];cases e:p[i]? with
 |none=>exact hn
 |some x=>exact h x (Array.mem_of_getElem? e)
def Pm (n:Nat) (p:Array Nat):Prop:=p.Perm (Cw (Bt n))
theorem Pm.size {n:Nat} {p:Array Nat} (h:Pm n p):p.size=n:=by rw[Array.Perm.size_eq h];simp
theorem Pm.lo {n:Nat} {p:Array Nat} (hn:0 < n) (h:Pm n p):Lo n p:=jxg hn λx hx=>by
 have:x∈Cw (Bt n):=(Array.Perm.mem_iff h).mp hx;simpa using this
theorem Pm.rev {n:Nat} {p:Array Nat} (h:Pm n p) (i j:Nat):Pm n (D0 p i j):=(mirror_perm p i j _).trans h
theorem Pm.bub {n:Nat} {p:Array Nat} (h:Pm n p) (i j:Nat):Pm n (bubble p i j):=(bubble_perm p i j).trans h
section
variable {n:Nat} (hn:0 < n)
include hn
theorem jmh {p:Array Nat} (h:Lo n p):∀f m,Wi n (λ_=>True) (kas_asc p f m)
 |0,m=>trivial
 |f+1,m=>⟨h _,h _,λb=>by
  cases b with
  |true=>exact trivial
  |false=>exact jmh h f (m+1)⟩
theorem jgw:∀f (p:Array Nat) m q,Pm n p->Wi n (λr=>Pm n r.1) (kas_desc f p m q)
 |0,p,m,q,h=>h
 |f+1,p,m,q,h=>⟨h.lo hn _,h.lo hn _,λb=>by
  cases b with
  |true =>
   show Wi n _ (if q > 0 then _ else _)
   split
   ·exact jgw f _ _ _ (h.rev _ _)
   ·exact jgw f _ _ _ h
  |false=>exact⟨h.lo hn _,h.lo hn _,λd=>by
    cases d with
    |true=>exact h
    |false=>exact jgw f _ _ _ h⟩⟩
theorem jke (m nrem:Nat) {p:Array Nat} (h:Pm n p):Wi n (λr=>Pm n r.2) (kas_tail3 m nrem p):=by
 unfold kas_tail3;refine Wi.bind (P:=λ_=>True) (λa _=>?_) (jmh hn ((h.rev 0 m).lo hn) _ _);show Pm n (D0 p 0 m);exact h.rev _ _
theorem jec (m nrem:Nat) {p:Array Nat} (h:Pm n p):Wi n (λr=>Pm n r.2) (kas_descPart m nrem p) :=
 Wi.bind (λr hr=>by
  show Wi n _ (if r.2.2 > 0 then _ else _)
  split
  ·exact jke hn _ _ (Pm.rev hr _ _)
  ·exact jke hn _ _ hr) (jgw hn _ p _ _ h)
theorem jpo (nrem:Nat) {p:Array Nat} (h:Pm n p):Wi n (λr=>Pm n r.2) (kas_count nrem p) :=
 Wi.bind (λm _=>by
  show Wi n _ (if (m==nrem)=true then _ else if m > 1 then _ else _)
  split
  ·exact h
  ·split
   ·exact⟨h.lo hn _,h.lo hn _,λb=>by
     cases b with
     |true=>exact h
     |false=>exact jec hn _ _ (h.rev _ _)⟩
   ·exact jec hn _ _ h) (jmh hn (h.lo hn) _ _)
theorem jgv {p:Array Nat} (h:Lo n p) (k:Nat):∀f l r,Wi n (λ_=>True) (kas_place p k f l r)
 |0,l,r=>trivial
 |f+1,l,r=>by
  show Wi n _ (if l ≥ r then _ else _)
  split
  ·exact trivial
  ·exact⟨h _,h _,λb=>by
    cases b with
    |true=>exact jgv h k f _ _
    |false=>exact jgv h k f _ _⟩
theorem jrr:∀f (p:Array Nat) k,Pm n p->Wi n (Pm n) (kas_bin f p k)
 |0,p,k,h=>h
 |f+1,p,k,h=>Wi.bind (λl _=>jrr f _ _ (h.bub _ _)) (jgv hn (h.lo hn) k _ _ _)
theorem wi_sort:Wi n (Pm n) (Fl n) :=
 Wi.bind (λr hr=>by
  show Wi n _ (if r.1 < n then _ else _)
  split
  ·exact jrr hn _ _ _ hr
  ·exact hr) (jpo hn n (Array.Perm.refl _))
end
structure Ord (lt:Nat->Nat->Bool):Prop where
 asym:∀i j,lt i j=true->lt j i=false
 ltr:∀i j k,lt j i=false->lt k j=false->lt k i=false
section
variable {lt:Nat->Nat->Bool} (O:Ord lt)
def g (p:Array Nat) (i:Nat):Nat:=p.getD i 0
def SP (lt:Nat->Nat->Bool) (p:Array Nat) (n:Nat):Prop:=∀i j,i < j->j < n->lt (g p j) (g p i)=false
def DP (lt:Nat->Nat->Bool) (p:Array Nat) (n:Nat):Prop:=∀i j,i < j->j < n->lt (g p i) (g p j)=false
def Sim (lt:Nat->Nat->Bool) (x y:Nat):Prop:=lt x y=false/\lt y x=false
include O
theorem irr (i:Nat):lt i i=false:=by
 cases e:lt i i with
 |false=>rfl
 |true=>exact(O.asym i i e).symm.trans e |>.symm▸rfl
theorem Sim.eq {a b x y:Nat} (h1:Sim lt a x) (h2:Sim lt b y):lt a b=lt x y:=by
 cases e:lt x y with
 |false=>exact O.ltr _ _ _ h2.2 (O.ltr _ _ _ e h1.1)
 |true =>
  cases e2:lt a b with
  |true=>rfl
  |false =>
   have:lt x y=false:=O.ltr _ _ _ h2.1 (O.ltr _ _ _ e2 h1.2);rw[this]at e;cases e
theorem SP.snoc {p:Array Nat} {n:Nat} (h:SP lt p n) (h1:1<=n) (e:lt (g p n) (g p (n - 1))=false):SP lt p (n+1):=λi j hij hj=>by
 by_cases q:j < n
 ·exact h i j hij q
 ·have:j=n:=by omega
  subst this;by_cases r:i=j - 1
  ·subst r;exact e
  ·exact O.ltr _ _ _ (h i (j - 1) (by omega) (by omega)) e
theorem jph {p:Array Nat}:∀f n,1<=n->SP lt p n->n<=run lt (kas_asc p f n)/\run lt (kas_asc p f n)<=n+f/\SP lt p (run lt (kas_asc p f n))/\(run lt (kas_asc p f n)=n+f\/lt (g p (run lt (kas_asc p f n))) (g p (run lt (kas_asc p f n) - 1))=true)
 |0,n,h1,h=>⟨Ao _,Ao _,h,.inl rfl⟩
 |f+1,n,h1,h=>by
  have e:run lt (kas_asc p (f+1) n)=run lt (if lt (g p n) (g p (n - 1))=true then .ret n else kas_asc p f (n+1)):=rfl;rw[e];cases q:lt (g p n) (g p (n - 1))with
  |true=>exact⟨Ao _,Nat.le_add_right _ _,h,.inr q⟩
  |false =>
   rw[if_neg Am];obtain⟨a1,a2,a3,a4⟩:=jph f (n+1) (by omega) (SP.snoc O h h1 q);exact⟨by omega,by omega,a3,a4.imp (λz=>by omega) id⟩
omit O
theorem jnf {p:Array Nat} {i j:Nat} (hj:j<=p.size) (k:Nat):g (D0 p i j) k=if i<=k/\k < j then g p (i+j - 1 - k)else g p k:=by
 unfold g D0;rw[jb2,jb2,jb2,getElem?_mirror hj _ (by omega)];by_cases h:i<=k/\k < j
 ·rw[if_pos h];by_cases q:(i<=k/\k < i+(j - i) / 2)\/(j - (j - i) / 2<=k/\k < j)
  ·rw[if_pos q]
  ·rw[if_neg q];have:i+j - 1 - k=k:=by omega
   rw[this]
 ·rw[if_neg h,if_neg (by omega)]
include O
theorem jjx {p:Array Nat} {i j:Nat} (hj:j<=p.size) (h:∀a b,i<=a->a < j->i<=b->b < j->Sim lt (g p a) (g p b)) (k:Nat):Sim lt (g (D0 p i j) k) (g p k):=by
 rw[jnf hj]
 split
 ·rename_i q;exact h _ _ (by omega) (by omega) q.1 q.2
 ·exact⟨irr O _,irr O _⟩
theorem DP.sim {p p':Array Nat} {n:Nat} (h:DP lt p n) (s:∀k,Sim lt (g p' k) (g p k)):DP lt p' n:=λi j hij hj=>(Sim.eq O (s i) (s j)).trans (h i j hij hj)
theorem DP.snoc {p:Array Nat} {n:Nat} (h:DP lt p n) (h1:1<=n) (e:lt (g p (n - 1)) (g p n)=false):DP lt p (n+1):=λi j hij hj=>by
 by_cases q:j < n
 ·exact h i j hij q
 ·have:j=n:=by omega
  subst this;by_cases r:i=j - 1
  ·subst r;exact e
  ·exact O.ltr _ _ _ e (h i (j - 1) (by omega) (by omega))
omit O
def jve (lt:Nat->Nat->Bool) (sz n f:Nat) (r:Array Nat×Nat×Nat):Prop :=
 r.1.size=sz/\n<=r.2.1/\r.2.1<=n+f/\r.2.2+1<=r.2.1/\DP lt r.1 r.2.1/\(∀a b,r.2.1 - (r.2.2+1)<=a->a < r.2.1->r.2.1 - (r.2.2+1)<=b->b < r.2.1->Sim lt (g r.1 a) (g r.1 b))
def CntP (lt:Nat->Nat->Bool) (sz nrem:Nat) (r:Nat×Array Nat):Prop:=r.2.size=sz/\1<=r.1/\r.1<=nrem/\SP lt r.2 r.1
def PlP (lt:Nat->Nat->Bool) (p:Array Nat) (k m:Nat):Prop:=m<=k/\(∀i,i < m->lt (g p k) (g p i)=false)/\(∀i,m<=i->i < k->lt (g p k) (g p i)=true)
include O
theorem jhn:∀f (p:Array Nat) n q,q+1<=n->n+f<=p.size->DP lt p n->(∀a b,n - (q+1)<=a->a < n->n - (q+1)<=b->b < n->Sim lt (g p a) (g p b)) ->
  jve lt p.size n f (run lt (kas_desc f p n q))
 |0,p,n,q,h1,h2,h3,h4=>⟨rfl,Ao _,Ao _,h1,h3,h4⟩
 |f+1,p,n,q,h1,h2,h3,h4=>by
  have one:∀(p':Array Nat) (m:Nat) (a b:Nat),m+1 - (0+1)<=a->a < m+1->m+1 - (0+1)<=b->b < m+1->Sim lt (g p' a) (g p' b):=λp' m a b ha ha' hb hb'=>by
   have e1:a=m:=by omega
   have e2:b=m:=by omega
   rw[e1,e2];exact⟨irr O _,irr O _⟩
  show jve lt p.size n (f+1) (run lt (if lt (g p n) (g p (n - 1))=true then(if q > 0 then kas_desc f (D0 p (n - (q+1)) n) (n+1) 0 else kas_desc f p (n+1) 0)else .ask (p.getD (n - 1) 0) (p.getD n 0) λd=>if d=true then .ret (p,n,q)else kas_desc f p (n+1) (q+1)));cases c1:lt (g p n) (g p (n - 1))with
  |true =>
   rw[if_pos rfl];by_cases hq:q > 0
   ·rw[if_pos hq];have sim:=jjx O (p:=p) (i:=n - (q+1)) (j:=n) (by omega) h4;have hd:DP lt (D0 p (n - (q+1)) n) (n+1):=DP.sim O (DP.snoc O h3 (by omega) (O.asym _ _ c1)) sim;have hs:(D0 p (n - (q+1)) n).size=p.size:=mirror_size _ _ _ _;obtain⟨a1,a2,a3,a4,a5,a6⟩:=jhn f (D0 p (n - (q+1)) n) (n+1) 0 (by omega) (by rw[hs];omega) hd (one _ n);exact⟨a1.trans hs,by omega,by omega,a4,a5,a6⟩
   ·rw[if_neg hq];obtain⟨a1,a2,a3,a4,a5,a6⟩:=jhn f p (n+1) 0 (by omega) (by omega) (DP.snoc O h3 (by omega) (O.asym _ _ c1)) (one _ n);exact⟨a1,by omega,by omega,a4,a5,a6⟩
  |false =>
   rw[if_neg Am];show jve lt p.size n (f+1) (run lt (if lt (g p (n - 1)) (g p n)=true then .ret (p,n,q)else kas_desc f p (n+1) (q+1)));cases c2:lt (g p (n - 1)) (g p n)with
   |true=>exact⟨rfl,Ao _,by show n<=n+(f+1);omega,h1,h3,h4⟩
   |false =>
    rw[if_neg Am];have s1:Sim lt (g p n) (g p (n - 1)):=⟨c1,c2⟩;have tr:∀{x y z:Nat},Sim lt x y->Sim lt y z->Sim lt x z:=λh h'=>⟨O.ltr _ _ _ h'.1 h.1,O.ltr _ _ _ h.2 h'.2⟩;obtain⟨a1,a2,a3,a4,a5,a6⟩:=jhn f p (n+1) (q+1) (by omega) (by omega) (DP.snoc O h3 (by omega) c2) (λa b ha ha' hb hb'=>by
     have key:∀x,n+1 - (q+1+1)<=x->x < n+1->Sim lt (g p x) (g p (n - 1)):=λx hx hx'=>by
      by_cases e:x=n
      ·rw[e];exact s1
      ·exact h4 x (n - 1) (by omega) (by omega) (by omega) (by omega)
     have kb:=key b hb hb';exact tr (key a ha ha') ⟨kb.2,kb.1⟩)
    exact⟨a1,by omega,by omega,a4,a5,a6⟩
theorem jki {p:Array Nat} {n nrem:Nat} (h1:1<=n) (hn:n<=nrem) (hz:nrem<=p.size) (h:DP lt p n):CntP lt p.size nrem (run lt (kas_tail3 n nrem p)):=by
 unfold kas_tail3;rw[jb8];have hs:(D0 p 0 n).size=p.size:=mirror_size _ _ _ _;have sp:SP lt (D0 p 0 n) n:=λi j hij hj=>by
  rw[jnf (by omega),jnf (by omega),if_pos ⟨A4 _,hj⟩,if_pos ⟨A4 _,by omega⟩];exact h _ _ (by omega) (by omega)
 obtain⟨a1,a2,a3,_⟩:=jph O (p:=D0 p 0 n) (nrem - n) n h1 sp;exact⟨hs,by show 1<=run lt (kas_asc (D0 p 0 n) (nrem - n) n);omega,by show run lt (kas_asc (D0 p 0 n) (nrem - n) n)<=nrem;omega,a3⟩
theorem jet {p:Array Nat} {n nrem:Nat} (h1:1<=n) (hn:n+1<=nrem) (hz:nrem<=p.size) (h:DP lt p (n+1)):CntP lt p.size nrem (run lt (kas_descPart n nrem p)):=by
 unfold kas_descPart;rw[jb8];obtain⟨a1,a2,a3,a4,a5,a6⟩:=jhn O (nrem - (n+1)) p (n+1) 0 (by omega) (by omega) h (λa b ha ha' hb hb'=>by
  have e1:a=n:=by omega
  have e2:b=n:=by omega
  rw[e1,e2];exact⟨irr O _,irr O _⟩)
 generalize run lt (kas_desc (nrem - (n+1)) p (n+1) 0)=r at a1 a2 a3 a4 a5 a6;by_cases hq:r.2.2 > 0
 ·rw[if_pos hq];have hs:(D0 r.1 (r.2.1 - (r.2.2+1)) r.2.1).size=r.1.size:=mirror_size _ _ _ _;obtain⟨b1,b2⟩:=jki O (p:=D0 r.1 (r.2.1 - (r.2.2+1)) r.2.1) (n:=r.2.1) (nrem:=nrem) (by omega) (by omega) (by rw[hs];omega) (DP.sim O a5 (jjx O (by omega) a6));exact⟨b1.trans (hs.trans a1),b2⟩
 ·rw[if_neg hq];obtain⟨b1,b2⟩:=jki O (p:=r.1) (n:=r.2.1) (nrem:=nrem) (by omega) (by omega) (by omega) a5;exact⟨b1.trans a1,b2⟩
theorem jq7 {p:Array Nat} {nrem:Nat} (h1:1<=nrem) (hz:nrem<=p.size):CntP lt p.size nrem (run lt (kas_count nrem p)):=by
 unfold kas_count;rw[jb8];obtain⟨a1,a2,a3,a4⟩:=jph O (p:=p) (nrem - 1) 1 (Ao _) (λi j hij hj=>by omega);generalize run lt (kas_asc p (nrem - 1) 1)=m at a1 a2 a3 a4;by_cases q:(m==nrem)=true
 ·rw[if_pos q];exact⟨rfl,a1,by show m<=nrem;omega,a3⟩
 ·rw[if_neg q];have hm:m≠nrem:=λz=>q (by rw[z];exact beq_self_eq_true _);have a4:lt (g p m) (g p (m - 1))=true:=a4.resolve_left (by omega);by_cases hm1:m > 1
  ·rw[if_pos hm1];show CntP lt p.size nrem (run lt (if lt (g p 0) (g p (m - 1))=true then .ret (m,p)else kas_descPart m nrem (D0 p 0 m)));cases c:lt (g p 0) (g p (m - 1))with
   |true=>exact⟨rfl,a1,by show m<=nrem;omega,a3⟩
   |false =>
    rw[if_neg Am];have hs:(D0 p 0 m).size=p.size:=mirror_size _ _ _ _;have up:∀a b,a < m->b < m->lt (g p b) (g p a)=false:=λa b ha hb=>by
     have le0:lt (g p a) (g p 0)=false:=by
      by_cases z:a=0
      ·rw[z];exact irr O _
      ·exact a3 0 a (by omega) ha
     have leb:lt (g p (m - 1)) (g p b)=false:=by
      by_cases z:b=m - 1
      ·rw[z];exact irr O _
      ·exact a3 b (m - 1) (by omega) (by omega)
     have l1:lt (g p b) (g p 0)=false:=by
      by_cases z:b=0
      ·rw[z];exact irr O _
      ·exact a3 0 b (by omega) hb
     have l2:lt (g p 0) (g p a)=false:=O.ltr _ _ _ (by
      by_cases z:a=m - 1
      ·rw[z];exact irr O _
      ·exact a3 a (m - 1) (by omega) (by omega)) c
     -- b <= m-1 <= 0 <= a
     exact O.ltr _ _ _ l2 l1
    have all:∀a b,0<=a->a < m->0<=b->b < m->Sim lt (g p a) (g p b):=λa b _ ha _ hb=>⟨up b a hb ha,up a b ha hb⟩;have sim:=jjx O (p:=p) (i:=0) (j:=m) (by omega) all;have dp:DP lt p (m+1):=DP.snoc O (λi j hij hj=>up j i hj (by omega)) a1 (O.asym _ _ a4);obtain⟨b1,b2⟩:=jet O (p:=D0 p 0 m) (n:=m) (nrem:=nrem) a1 (by omega) (by rw[hs];omega) (DP.sim O dp sim);exact⟨b1.trans hs,b2⟩
  ·rw[if_neg hm1];have e:m=1:=by omega
   subst e;exact jet O (p:=p) (Ao _) (by omega) hz (DP.snoc O (λi j hij hj=>by omega) (Ao _) (O.asym _ _ a4))
theorem jg3 {p:Array Nat} {k:Nat} (h:SP lt p k):∀f l r,l<=r->r<=k->r - l<=f->(∀i,i < l->lt (g p k) (g p i)=false)->(∀i,r<=i->i < k->lt (g p k) (g p i)=true) ->
  PlP lt p k (run lt (kas_place p k f l r))
 |0,l,r,hlr,hr,hf,h1,h2=>by
  have e:l=r:=by omega
  subst e;exact⟨hr,h1,h2⟩
 |f+1,l,r,hlr,hr,hf,h1,h2=>by
  show PlP lt p k (run lt (if l ≥ r then .ret l else .ask (p.getD k 0) (p.getD ((l+r) / 2) 0) λc=>if c=true then kas_place p k f l ((l+r) / 2)else kas_place p k f ((l+r) / 2+1) r));by_cases q:l ≥ r
  ·rw[if_pos q];have e:l=r:=by omega
   subst e;exact⟨hr,h1,h2⟩
  ·rw[if_neg q];show PlP lt p k (run lt (if lt (g p k) (g p ((l+r) / 2))=true then kas_place p k f l ((l+r) / 2)else kas_place p k f ((l+r) / 2+1) r));cases c:lt (g p k) (g p ((l+r) / 2))with
   |true =>
    rw[if_pos rfl];refine jg3 h f l ((l+r) / 2) (by omega) (by omega) (by omega) h1 λi hi hik=>?_;by_cases e:i=(l+r) / 2
    ·rw[e];exact c
    ·cases z:lt (g p k) (g p i)with
     |true=>rfl
     |false =>
      have:=O.ltr _ _ _ (h ((l+r) / 2) i (by omega) hik) z;rw[this]at c;cases c
   |false =>
    rw[if_neg Am];refine jg3 h f ((l+r) / 2+1) r (by omega) hr (by omega) (λi hi=>?_) h2;by_cases e:i=(l+r) / 2
    ·rw[e];exact c
    ·exact O.ltr _ _ _ (h i ((l+r) / 2) (by omega) (by omega)) c
omit O
theorem jsm {p:Array Nat} {k l:Nat} (hk:k < p.size) (hl:l<=k) (i:Nat):g (bubble p k (k - l)) i=if i=l then g p k else if l < i/\i<=k then g p (i - 1)else g p i:=by
 unfold g;rw[jb2,getElem?_bubble hk _ (by omega),jb2,jb2,jb2];have e:k - (k - l)=l:=by omega
 rw[e];by_cases h1:i=l
 ·rw[if_pos h1,if_pos h1]
 ·rw[if_neg h1,if_neg h1];by_cases h2:l < i/\i<=k
  ·rw[if_pos h2,if_pos h2]
  ·rw[if_neg h2,if_neg h2]
include O
theorem jsp:∀f (p:Array Nat) k,1<=k->k+f<=p.size->SP lt p k->SP lt (run lt (kas_bin f p k)) (k+f)
 |0,p,k,h1,hz,h=>h
 |f+1,p,k,h1,hz,h=>by
  show SP lt (run lt ((kas_place p k k 0 k).bind λl=>kas_bin f (bubble p k (k - l)) (k+1))) (k+(f+1));rw[jb8];obtain⟨b1,b2,b3⟩:=jg3 O h k 0 k (A4 _) (Ao _) (by omega) (λi hi=>by omega) (λi hi hi'=>by omega);generalize run lt (kas_place p k k 0 k)=l at b1 b2 b3;have sp:SP lt (bubble p k (k - l)) (k+1):=λi j hij hj=>by
   rw[jsm (by omega) b1,jsm (by omega) b1];by_cases e1:j=l
   ·rw[if_pos e1,if_neg (by omega),if_neg (by omega)];exact b2 i (by omega)
   ·rw[if_neg e1];by_cases e2:l < j/\j<=k
    ·rw[if_pos e2];by_cases e3:i=l
     ·rw[if_pos e3];exact O.asym _ _ (b3 (j - 1) (by omega) (by omega))
     ·rw[if_neg e3];by_cases e4:l < i/\i<=k
      ·rw[if_pos e4];exact h (i - 1) (j - 1) (by omega) (by omega)
      ·rw[if_neg e4];exact h i (j - 1) (by omega) (by omega)
    ·rw[if_neg e2,if_neg (by omega),if_neg (by omega)];exact h i j hij (by omega)
  have:=jsp f (bubble p k (k - l)) (k+1) (by omega) (by rw[bubble_size];omega) sp;have e:k+1+f=k+(f+1):=by omega
  rwa [e]at this
theorem sort_ok {n:Nat} (h1:1<=n):SP lt (run lt (Fl n)) n:=by
 unfold Fl;rw[jb8];obtain⟨a1,a2,a3,a4⟩:=jq7 O (p:=Cw (Bt n)) (nrem:=n) h1 (by simp);generalize run lt (kas_count n (Cw (Bt n)))=r at a1 a2 a3 a4;have hs:r.2.size=n:=by rw[a1];simp
 by_cases q:r.1 < n
 ·rw[if_pos q];have e:max r.1 1=r.1:=by omega
  rw[e];have:=jsp O (n - r.1) r.2 r.1 a2 (by omega) a4;have e2:r.1+(n - r.1)=n:=by omega
  rwa [e2]at this
 ·rw[if_neg q];have e:r.1=n:=by omega
  rw[e]at a4;exact a4
end
end KS
namespace KS
open PySem PySem.W PySem.Calls PyProof.Rows
section
variable {prog:Bd} {w:Bq} {A:Bj} {E:Ad->Ah->Prop} {s:Ah} {a:Addr} {vs:List Ad}
theorem ls_sort {n:Nat} {P:PySem.Fin->Ah->Prop} (ho:s.heap.get? a=some (Bf "list" vs.toArray n)) (h2:2<=vs.length) (h64:vs.length < 64)
  (h:∀e1 h',h'.get? a=some (Bf "list" #[] e1)->(∀b o,b≠a->s.heap.get? b=some o->h'.get? b=some o) ->
   Aw (A1 prog w) A (keyKind' vs.toArray) (λκ s'=>(Fl vs.length).kasWp (kas_ask prog w A κ vs)
    (λp s''=>s''.heap.get? a=some (Bf "list" #[] e1)/\∀h3 c,Cr a s''.heap h3->h3.get? a=some (Bf "list" (Cw (p.toList.map λi=>vs.getD i Bc)) c)->P (.done (.ret .none)) {s'' with heap:=h3}) s') (λ_ _=>False) {s with heap:=h'}) :
  Aw (A1 prog w) A (D2.«list.sort» ⟨[.ref a],[]⟩) P E s:=by
 have ha:a < s.heap.objs.size:=Aq ho;have s1:=A2 s.heap a (Bi λ_=>(#[]:Array Ad));obtain⟨e1,ho1⟩:∃e1,(s.heap.update a (Bi λ_=>(#[]:Array Ad))).get? a=some (Bf "list" #[] e1):=⟨_,Dz ho λ_=>#[]⟩;have ask:=h e1 (((s.heap.update a (Bi λ_=>(#[]:Array Ad))).push (Bf "tuple" vs.toArray 0)).push (Bf "list" #[] 0)) (Ai _ (Ai _ ho1))
  λb o hb e=>Ai _ (Ai _ ((s1.2 b hb).trans e))
 rw[list_sort_plain];refine Aa (listItems_at ho rfl ?_);refine Aa (D5 ho rfl ?_ (by rw[Ap,Cf];omega) (A4 _));refine Aa (seqEpoch_at ho1 rfl ?_);refine Aa (wpAny_newTuple ?_ (by show vs.length<=_;rw[Cf];omega));refine Aa (Fw ?_ (A4 _));refine B6 ?_;show Aw (A1 prog w) A _ P E {s with heap:=((s.heap.update a (Bi λ_=>(#[]:Array Ad))).push (Bf "tuple" vs.toArray 0)).push (Bf "list" #[] 0)};dsimp only;have hn2:¬vs.toArray.size < 2:=by rw[Ap];omega
 rw[if_neg hn2,if_neg hn2];refine Aa (Ci ask (λκ s0 hk=>?_) λ_ _ x=>x.elim);refine Aa (Ci (kat_run (Q:=λst' s'=>∃p:Array Nat,p.size=vs.length/\arrOf st'=p.map (kas_item (vs.toArray.zip vs.toArray))/\failedOf st'=none/\s'.heap.get? a=some (Bf "list" #[] e1)/\∀h3 c,Cr a s'.heap h3->h3.get? a=some (Bf "list" (Cw (p.toList.map λi=>vs.getD i Bc)) c)->P (.done (.ret .none)) {s' with heap:=h3})
  rfl h2 h64 (λp' st' s' a1 a2 a3 a4=>⟨p',a1,a2,a3,a4⟩) hk) ?_ λ_ _ e=>e)
 rintro⟨⟨⟩,st'⟩ s' ⟨p,hp,har,hf,na,k⟩
 dsimp only;have hout:=kat_snds rfl har;have hsz:(Cw (p.toList.map λi=>vs.getD i Bc)).size=vs.length:=by rw[Ap,Ae,A7,hp]
 rw[hout];have s2:=A2 s'.heap a (Bi λ_=>Cw (p.toList.map λi=>vs.getD i Bc));obtain⟨c2,hc2⟩:∃c2,(s'.heap.update a (Bi λ_=>Cw (p.toList.map λi=>vs.getD i Bc))).get? a=some (Bf "list" (Cw (p.toList.map λi=>vs.getD i Bc)) c2):=⟨_,Dz na λ_=>Cw (p.toList.map λi=>vs.getD i Bc)⟩;refine Aa (seqEpoch_at na rfl ?_);refine Aa (D5 na rfl ?_ (A4 _) (A5 (Nat.le_of_eq hsz) (by rw[Cf];omega)));rw[hf];simp only[bne_self_eq_false,Bw,if_false];exact Ag (k _ c2 s2 hc2)
theorem ls_short {n:Nat} {P:PySem.Fin->Ah->Prop} (ho:s.heap.get? a=some (Bf "list" vs.toArray n)) (h2:vs.length < 2)
  (h:∀h' c,h'.get? a=some (Bf "list" vs.toArray c)->(∀b o,b≠a->s.heap.get? b=some o->h'.get? b=some o)->P (.done (.ret .none)) {s with heap:=h'}) :
  Aw (A1 prog w) A (D2.«list.sort» ⟨[.ref a],[]⟩) P E s:=by
 have ha:a < s.heap.objs.size:=Aq ho;have s1:=A2 s.heap a (Bi λ_=>(#[]:Array Ad));obtain⟨e1,ho1⟩:∃e1,(s.heap.update a (Bi λ_=>(#[]:Array Ad))).get? a=some (Bf "list" #[] e1):=⟨_,Dz ho λ_=>#[]⟩;have ho6:(((s.heap.update a (Bi λ_=>(#[]:Array Ad))).push (Bf "tuple" vs.toArray 0)).push (Bf "list" #[] 0)).get? a=some (Bf "list" #[] e1):=Ai _ (Ai _ ho1);rw[list_sort_plain];refine Aa (listItems_at ho rfl ?_);refine Aa (D5 ho rfl ?_ (by rw[Ap,Cf];omega) (A4 _));refine Aa (seqEpoch_at ho1 rfl ?_);refine Aa (wpAny_newTuple ?_ (by show vs.length<=_;rw[Cf];omega));refine Aa (Fw ?_ (A4 _));refine B6 ?_;show Aw (A1 prog w) A _ P E {s with heap:=((s.heap.update a (Bi λ_=>(#[]:Array Ad))).push (Bf "tuple" vs.toArray 0)).push (Bf "list" #[] 0)};dsimp only;have hn2:vs.toArray.size < 2:=by rw[Ap];omega
 rw[if_pos hn2,if_pos hn2];refine Aa (Ag ?_);rw[StateT.run_pure];refine Aa (Ag ?_);dsimp only;refine Aa (seqEpoch_at ho6 rfl ?_);refine Aa (D5 ho6 rfl ?_ (hsz2:=by rw[Array.size_map];show(pairsOf vs).size<=_;rw[pairsOf_size,Cf];omega));simp only[bne_self_eq_false,Bw,if_false];have e:(arrOf (SortSt.mk' general' (vs.toArray.zip vs.toArray) #[] 7 none)).map (·.2)=vs.toArray:=by
  show(vs.toArray.zip vs.toArray).map (·.2)=vs.toArray;apply Fj.mp;simp only[Array.toList_map,Array.toList_zip];exact List.map_snd_zip (Ao _)
 have s2:=A2 (((s.heap.update a (Bi λ_=>(#[]:Array Ad))).push (Bf "tuple" vs.toArray 0)).push (Bf "list" #[] 0)) a (Bi λ_=>(arrOf (SortSt.mk' general' (vs.toArray.zip vs.toArray) #[] 7 none)).map (·.2));refine Ag (h _ _ (by rw[e];exact Dz ho6 λ_=>vs.toArray) λb o hb q=>(s2.2 b hb).trans (Ai _ (Ai _ ((s1.2 b hb).trans q))))
theorem sorted_of {r:Ad} {Q:Ad->Ah->Prop} {R:List Ad->Ah->Prop} (hcol:Aw (A1 prog w) A.in1 (collect r) R E s)
  (h:∀vs s1,R vs s1->vs.length<=Az/\Aw (A1 prog w) A.in1.in1 (D2.«list.sort» ⟨[.ref s1.heap.objs.size],[]⟩) (λf s2=>f=.done (.ret .none)/\Q (.ref s1.heap.objs.size) s2) E {s1 with heap:=s1.heap.push (Bf "list" vs.toArray 0)}) :
  Aw (A1 prog w) A (call (.builtin "sorted") [r]) Q E s:=by
 refine Calls.call_function_entry kind_sorted plain_sorted entry_sorted (args_sorted1 _) ?_;unfold D2.«sorted»;refine Aa (m:=checkCount "sorted" 1 1 _) (Ag ?_);refine Aa (Ci hcol (λvs s1 hr=>?_) λ_ _ e=>e);obtain⟨hl,hs⟩:=h vs s1 hr;refine Aa (Fw ?_ hl);have hoL:(s1.heap.push (Bf "list" vs.toArray 0)).get? s1.heap.objs.size=some (Bf "list" vs.toArray 0):=Av _ rfl;refine Aa (B6 (Ca (s:={ s1 with heap:=s1.heap.push (Bf "list" vs.toArray 0)}) slot_list_sort ⟨_,hoL,rfl⟩ entry_list_sort ?body (args_list_sort _)))
 case body =>
  refine Ci hs (λf s2 hf=>?_) λ_ _ e=>e;obtain⟨rfl,hq⟩:=hf;exact⟨_,rfl,Ag ⟨_,rfl,hq⟩⟩
def ltK (ks:List Str) (i j:Nat):Bool:=decide ((ks.getD i ⟨#[]⟩).cps.toList < (ks.getD j ⟨#[]⟩).cps.toList)
theorem jqv (x y:List Nat) (h:x < y):¬y < x:=λz=>List.lt_irrefl x (List.lt_trans h z)
theorem ordK (ks:List Str):Ord (ltK ks) where
 asym:=λi j h=>by
  unfold ltK at h ⊢;exact decide_eq_false (jqv _ _ (of_decide_eq_true h))
 ltr:=λi j k h1 h2=>by
  unfold ltK at h1 h2 ⊢;have h1:=of_decide_eq_false h1;have h2:=of_decide_eq_false h2;refine decide_eq_false λz=>?_;have l1:=List.not_lt.mp h1;have l2:=List.not_lt.mp h2;exact absurd z (List.not_lt.mpr (List.le_trans l1 l2))
end
end KS
namespace L2
open PySem PySem.Spec PyProof.Rows
end L2
namespace L2
open PySem PySem.Spec PyProof.Rows PySem.W
section
variable {prog:Bd} {w:Bq} {A:Bj} {E:Ad->Ah->Prop} {s:Ah}
theorem jm1 {src:Source} {n:Nat} {Q:Nat->Ah->Prop} (hn:n≠0) (h:∀i dr,i < n->Q i {s with drawn:=dr}):Aw (A1 prog w) A (choose src n) Q E s :=
 λ_ _ _=>⟨hn,h _ _ (Nat.mod_lt _ (Nat.pos_of_ne_zero hn))⟩
theorem jeq {α:Type}:∀(l:List α) (i:Nat) (h:i < l.length),(l[i]::l.eraseIdx i).Perm l
 |x::r,0,_=>List.Perm.refl _
 |x::r,i+1,h=>(List.Perm.swap x (r[i]'(Nat.lt_of_succ_lt_succ h)) (r.eraseIdx i)).trans ((jeq r i (Nat.lt_of_succ_lt_succ h)).cons x)
theorem jmy {α:Type}:∀(n:Nat) (xs:List α) (s:Ah) {Q:List α->Ah->Prop},xs.length=n->(∀ys dr,ys.Perm xs->Q ys {s with drawn:=dr})->Aw (A1 prog w) A (drawOrder n xs) Q E s
 |0,xs,s,Q,hl,h=>by
  cases Fq hl;exact Ag (h [] s.drawn (List.Perm.refl _))
 |n+1,[],s,Q,hl,h=>by cases hl
 |n+1,x::r,s,Q,hl,h=>by
  unfold drawOrder;refine Aa (jm1 (by simp) λi dr hi=>?_);rw[Al hi];dsimp only;refine Aa (jmy n _ _ (by rw[List.length_eraseIdx_of_lt hi];simp at hl ⊢;omega) λys dr' hp=>Ag (h _ dr' ?_));exact(hp.cons _).trans (jeq _ _ hi)
theorem jmt {α:Type} (next:Nat->Nat):∀(fuel k:Nat) (left:List α) (out:Array α),left.length=fuel->(pickOrder.go next fuel k left out).toList.Perm (out.toList++left)
 |0,k,left,out,hl=>by
  cases Fq hl;simp[pickOrder.go]
 |fuel+1,k,left,out,hl=>by
  have hi:next k % left.length < left.length:=Nat.mod_lt _ (by omega)
  unfold pickOrder.go;rw[Al hi];dsimp only;refine(jmt next fuel (k+1) _ _ (by rw[List.length_eraseIdx_of_lt hi];omega)).trans ?_;rw[Array.toList_push,B1];exact List.Perm.append_left _ (jeq _ _ hi)
theorem jlg {α:Type} (next:Nat->Nat) (xs:Array α):(pickOrder next xs).toList.Perm xs.toList:=by
 have:=jmt next xs.size 0 xs.toList #[] (by simp)
 simpa[pickOrder]using this
def byTx (w:Bq):Bool:=w.params.followText "set-order"
theorem jgy {Q:Bool->Ah->Prop} (h:Q (byTx w) s):Aw (A1 prog w) A setsByText Q E s:=by
 unfold setsByText;exact Aa (wpAny_askSetting (Ag h))
structure SetTb (w:Bq) (h:Heap) (a:Addr) (es:Array (Int×Ad)) (ep:Nat) (t:Eb):Prop where
 obj:∃o,h.get? a=some o/\o.ExactSet/\o.data=.set es ep t
 fits:t.fits es.size=true
 led:t.led=!byTx w
 plain:t.plain=true->es.size=0
theorem SetTb.move {h h':Heap} {a:Addr} {es:Array (Int×Ad)} {ep:Nat} {t:Eb} (x:SetTb w h a es ep t) (k:∀o,h.get? a=some o->h'.get? a=some o):SetTb w h' a es ep t :=
 ⟨let⟨o,e,r⟩:=x.obj;⟨o,k o e,r⟩,x.fits,x.led,x.plain⟩
theorem SetTb.typeIs {a:Addr} {es:Array (Int×Ad)} {ep:Nat} {t:Eb} (x:SetTb w s.heap a es ep t):s.TypeIs (.ref a) "set":=let⟨o,e,r,_⟩:=x.obj;⟨o,e,r.1⟩
theorem SetTb.lt {h:Heap} {a:Addr} {es:Array (Int×Ad)} {ep:Nat} {t:Eb} (x:SetTb w h a es ep t):a < h.objs.size:=let⟨_,e,_⟩:=x.obj;Aq e
theorem jt6 (t:Eb) (n:Nat):(t.orStandIn n).led=t.led:=by
 unfold SetTable.orStandIn
 split<;>rfl
theorem jui (t:Eb) (es:Array (Int×Ad)) (h:Int) (x:Ad):(layNew t es h x).2.1.led=t.led:=by
 unfold layNew
 split
 ·exact jt6 _ _
 ·rfl
theorem jlm {t t':Eb} {hs:Array Int} {n:Nat} {ord:Array Nat} (h:t.relaid hs n=some (t',ord)):t'.led=t.led/\t'.plain=t.plain:=by
 unfold SetTable.relaid SetTable.laid at h;cases hc:SetTable.layClean (SetTable.sizeAbove n - 1) hs with
 |none=>rw[hc]at h;cases h
 |some ow =>
  rw[hc]at h;cases h;exact⟨rfl,rfl⟩
theorem jim (t:Eb) (es:Array (Int×Ad)) (n:Nat):(relayAll t es n).2.1.led=t.led/\((relayAll t es n).2.1.plain=true->t.plain=true):=by
 unfold relayAll
 split
 ·rename_i t' ord he;obtain⟨h1,h2⟩:=jlm he;dsimp only
  split
  ·exact⟨h1,λz=>h2▸z⟩
  ·exact⟨rfl,λz=>by simp[SetTable.standIn]at z⟩
 ·exact⟨rfl,λz=>by simp[SetTable.standIn]at z⟩
def txOf (v:Ad):Str:=match v with
 |.str k _=>k
 |_=>⟨#[]⟩
def ksOf (es:Array (Int×Ad)):List Str:=es.toList.map λe=>txOf e.2
def TxEs (w:Bq) (es:Array (Int×Ad)):Prop:=∀e∈es.toList,∃k t,e.2=.str k t/\e.1=hashStr w k
theorem TxEs.elems {es:Array (Int×Ad)} (h:TxEs w es):ElemsOf (Di prog w) es.toList:=λe he=>by
 obtain⟨k,t,e1,e2⟩:=h e he;refine⟨⟨k,?_,e2⟩,by rw[e1];rfl⟩;rw[e1];simp[Di,Value.isStrOf]
def jfb (w:Bq) (h:Heap) (a:Addr) (seen:List Str):Prop:=∃es ep t,SetTb w h a es ep t/\TxEs w es/\(ksOf es).Nodup/\(∀k,k∈ksOf es↔k∈seen)/\es.size<=seen.length
end
theorem jcx:entryFor table "set.update.loop"=some D2.«set.update.loop»:=Fv (by kernel_rfl)
theorem jbs:plainId "set.update.loop"=true:=by decide +kernel
section
variable {prog:Bd} {w:Bq} {A:Bj} {E:Ad->Ah->Prop} {s:Ah}
theorem js4 {es es':Array (Int×Ad)} {seen:List Str} {k:Str} {tk:Tok} (hx:TxEs w es) (nd:(ksOf es).Nodup) (hm:∀k,k∈ksOf es↔k∈seen) (hl:es.size<=seen.length) (hk:k∉ksOf es)
  (p:es'.toList.Perm (es.toList++[(hashStr w k,.str k tk)])):TxEs w es'/\(ksOf es').Nodup/\(∀k',k'∈ksOf es'↔k'∈seen++[k])/\es'.size<=(seen++[k]).length/\es'.size=es.size+1:=by
 have pk:(ksOf es').Perm (ksOf es++[k]):=by
  have:=p.map λe=>txOf e.2;rw[Bu]at this;exact this
 have hz:es'.size=es.size+1:=by
  have:=p.length_eq;simpa using this
 refine⟨λe he=>?_,pk.nodup_iff.mpr ?_,λk'=>?_,by rw[hz,As];exact Nat.succ_le_succ hl,hz⟩
 ·rcases A9.mp (p.mem_iff.mp he)with h | h
  ·exact hx e h
  ·rw[Bg]at h;subst h;exact⟨k,tk,rfl,rfl⟩
 ·rw[List.nodup_append];exact⟨nd,List.pairwise_singleton _ _,λa ha b hb e=>hk (by rw[Bg]at hb;rw[<-hb,<-e];exact ha)⟩
 ·rw[pk.mem_iff,A9,A9,hm k']
theorem jms {es es':Array (Int×Ad)} (hx:TxEs w es) (nd:(ksOf es).Nodup) (p:es'.toList.Perm es.toList):TxEs w es'/\(ksOf es').Nodup/\(∀k',k'∈ksOf es'↔k'∈ksOf es)/\es'.size=es.size:=by
 have pk:(ksOf es').Perm (ksOf es):=List.Perm.map (λe:Int×Ad=>txOf e.2) p;exact⟨λe he=>hx e (p.mem_iff.mp he),pk.nodup_iff.mpr nd,λk'=>pk.mem_iff,by have:=p.length_eq;simpa using this⟩
theorem jvs {a:Addr} {k:Str} {tk:Tok} {seen:List Str} {Q:Bool->Ah->Prop} (hS:jfb w s.heap a seen) (hb:seen.length < 1000)
  (h:∀b h',Cr a s.heap h'->jfb w h' a (seen++[k])->Q b {s with heap:=h'}):Aw (A1 prog w) A (setAddHashed a (.str k tk) (hashStr w k)) Q E s:=by
 obtain⟨es,ep,t,T,hx,nd,hm,hl⟩:=hS;obtain⟨o,ho,hex,hd⟩:=T.obj;have hel:ElemsOf (Di prog w) es.toList:=hx.elems;have hsz:es.size < scanBound:=by unfold scanBound;omega
 have hkey:(Di prog w).is k (.str k tk)=true:=by simp[Di,Value.isStrOf]
 unfold setAddHashed setAddHashedIn;refine B6 (Aa (En ho hd T.fits ?_));dsimp only;rw[byScan_of (knd:=Di prog w) (x:=.str k tk) rfl hsz hel];simp only[↓reduceIte];unfold setAddByScan;refine Aa (Aa (wpAny_rule (Aa (wpAny_setScan_of (knd:=Di prog w) (k:=k) hkey ho hd T.fits hel ?_))));cases hr:es.toList.findIdx? (λe=>(Di prog w).is k e.2)with
 |some j =>
  dsimp only;obtain⟨hj,hpj,_⟩:=List.findIdx?_eq_some_iff_getElem.mp hr;have hk:k∈ksOf es:=by
   obtain⟨u,hu⟩:=Value.isStrOf_shape hpj;exact Bp.mpr ⟨es.toList[j],D3 hj,by rw[hu];rfl⟩
  refine Ag (Ag (h _ s.heap (Heap.SameBut.refl a s.heap) ⟨es,ep,t,T,hx,nd,λk'=>?_,by rw[As];omega⟩));rw[hm k',A9,Bg];exact⟨.inl,λz=>z.elim id λe=>e▸(hm k).mp hk⟩
 |none =>
  dsimp only;have hk:k∉ksOf es:=λz=>by
   obtain⟨e,he,e2⟩:=Bp.mp z;obtain⟨k',t',e3,_⟩:=hx e he;have q:=List.findIdx?_eq_none_iff.mp hr e he;rw[e3]at e2 q;have e2:k'=k:=e2;subst e2;simp[Di,Value.isStrOf]at q
  have hgw:∀(b:Bool) {s₁:Ah} {Q':Unit->Ah->Prop},Q' () s₁->Aw (A1 prog w) A (match b with | true=>rule "set.scan.the-table-gave-way" | false=>pure ()) Q' E s₁ :=
   λb s₁ Q' hq=>by cases b with
    |true=>exact wpAny_rule hq
    |false=>exact Ag hq
  have hp:=layNew_perm t es (hashStr w k) (.str k tk);have hf:=layNew_fits t es (hashStr w k) (.str k tk);have hle:=jui t es (hashStr w k) (.str k tk);have eh:(Di prog w).hash k=hashStr w k:=rfl
  try rw[eh]
  generalize layNew t es (hashStr w k) (.str k tk)=L at hp hf hle ⊢;obtain⟨es1,t1,wd,gave⟩:=L;dsimp only at hp hf hle ⊢;rw[Array.toList_push]at hp;obtain⟨x1,n1,m1,l1,z1⟩:=js4 hx nd hm hl hk hp;refine Aa (hgw _ ?_)
  split
  ·refine Aa ?_;rw[hashByValue_scannable 8 rfl];refine Ag ?_;have hpl:({t1 with plain:=false}:Eb).plain=false:=rfl;have hft:({t1 with plain:=false}:Eb).fits es1.size=true:=SetTable.fits_plain_off hf;have hld:({t1 with plain:=false}:Eb).led=t.led:=hle;simp only[plainKind,Bw,↓reduceIte];generalize({t1 with plain:=false}:Eb)=t2 at hpl hft hld ⊢;have hb1:es1.size < scanBound:=by unfold scanBound;omega
   refine Aa (wpAny_storeSet_of ho hd ?_ (fits_of_scanBound hb1));have g1:(s.heap.update a (Dx es1 t2)).get? a=some {o with data:=.set es1 (ep+1) t2}:=by
    have:=Br (Dx es1 t2) ho (by rw[putSet_of es1 t2 hd];rfl);rw[putSet_of es1 t2 hd]at this;exact this
   have sb1:=A2 s.heap a (Dx es1 t2)
   split
   ·have hp2:=relayAll_perm t2 es1 (Dv es1.size);have hf2:=relayAll_fits t2 es1 (Dv es1.size);obtain⟨hl2,hq2⟩:=jim t2 es1 (Dv es1.size);generalize relayAll t2 es1 (Dv es1.size)=R at hp2 hf2 hl2 hq2 ⊢;obtain⟨es2,t3,gave2⟩:=R;dsimp only at hp2 hf2 hl2 hq2 ⊢;obtain⟨x2,n2,m2,z2⟩:=jms x1 n1 hp2;refine Aa (hgw _ ?_);refine Aa (wpAny_storeSet_of g1 rfl ?_ (fits_of_scanBound (by rw[z2];exact hb1)));have g2:((s.heap.update a (Dx es1 t2)).update a (Dx es2 t3)).get? a=some {o with data:=.set es2 (ep+1+1) t3}:=by
     have:=Br (Dx es2 t3) g1 (by rw[putSet_of es2 t3 rfl];rfl);rw[putSet_of es2 t3 rfl]at this;exact this
    refine Ag (Ag (h _ _ (sb1.trans (A2 _ a _)) ⟨es2,ep+1+1,t3,⟨⟨_,g2,hex,rfl⟩,hf2,by rw[hl2,hld];exact T.led,λz=>?_⟩,x2,n2,λk'=>(m2 k').trans (m1 k'),by rw[z2];exact l1⟩));have:=hq2 z;rw[hpl]at this;cases this
   ·refine Ag (Ag (h _ _ sb1 ⟨es1,ep+1,t2,⟨⟨_,g1,hex,rfl⟩,hft,by rw[hld];exact T.led,λz=>?_⟩,x1,n1,m1,l1⟩));rw[hpl]at z;cases z
  ·rename_i hpl0;have hpl:t1.plain=false:=by simpa using hpl0
   have hft:=hf;have hld:=hle;refine Aa (Ag ?_);simp only[↓reduceIte];clear hf hle hpl0;generalize t1=t2 at hpl hft hld ⊢;have hb1:es1.size < scanBound:=by unfold scanBound;omega
   refine Aa (wpAny_storeSet_of ho hd ?_ (fits_of_scanBound hb1));have g1:(s.heap.update a (Dx es1 t2)).get? a=some {o with data:=.set es1 (ep+1) t2}:=by
    have:=Br (Dx es1 t2) ho (by rw[putSet_of es1 t2 hd];rfl);rw[putSet_of es1 t2 hd]at this;exact this
   have sb1:=A2 s.heap a (Dx es1 t2)
   split
   ·have hp2:=relayAll_perm t2 es1 (Dv es1.size);have hf2:=relayAll_fits t2 es1 (Dv es1.size);obtain⟨hl2,hq2⟩:=jim t2 es1 (Dv es1.size);generalize relayAll t2 es1 (Dv es1.size)=R at hp2 hf2 hl2 hq2 ⊢;obtain⟨es2,t3,gave2⟩:=R;dsimp only at hp2 hf2 hl2 hq2 ⊢;obtain⟨x2,n2,m2,z2⟩:=jms x1 n1 hp2;refine Aa (hgw _ ?_);refine Aa (wpAny_storeSet_of g1 rfl ?_ (fits_of_scanBound (by rw[z2];exact hb1)));have g2:((s.heap.update a (Dx es1 t2)).update a (Dx es2 t3)).get? a=some {o with data:=.set es2 (ep+1+1) t3}:=by
     have:=Br (Dx es2 t3) g1 (by rw[putSet_of es2 t3 rfl];rfl);rw[putSet_of es2 t3 rfl]at this;exact this
    refine Ag (Ag (h _ _ (sb1.trans (A2 _ a _)) ⟨es2,ep+1+1,t3,⟨⟨_,g2,hex,rfl⟩,hf2,by rw[hl2,hld];exact T.led,λz=>?_⟩,x2,n2,λk'=>(m2 k').trans (m1 k'),by rw[z2];exact l1⟩));have:=hq2 z;rw[hpl]at this;cases this
   ·refine Ag (Ag (h _ _ sb1 ⟨es1,ep+1,t2,⟨⟨_,g1,hex,rfl⟩,hft,by rw[hld];exact T.led,λz=>?_⟩,x1,n1,m1,l1⟩));rw[hpl]at z;cases z
def SeqV (ks:List Str) (i:Nat) (v:Ad):Prop:=∃k t,ks[i]?=some k/\v=.str k t
theorem js5 {R:Result->Ah->Prop} {I:Addr} {fp wr:List Addr} {G:Array GenState->Array GenState->Prop} {n:Nat} {St:Nat->Ah->Prop} {ks:List Str} (W:WalksS prog w A.in1 I fp wr G n (SeqV ks) St) (S:Addr) (hSf:S∉fp) (hn:ks.length=n) (hb:n < 64) :
  ∀(m i:Nat) (s:Ah),n - i=m->i<=n->St i s->jfb w s.heap S (ks.take i) ->
   (∀s',Moved (S::wr) G s s'->jfb w s'.heap S ks->R (.ok (.ret .none)) s')->E8 (A1 prog w) A (.builtin "set.update.loop" ⟨[.ref S,.ref I],[]⟩) R s:=by
 have hSw:S∉wr:=λh=>hSf (W.sub _ h);have hsub:∀b∈wr,b∈S::wr:=λb hb=>Ak _ hb;have mv:∀{h h':Heap} {seen:List Str},(∀o,h.get? S=some o->h'.get? S=some o)->jfb w h S seen->jfb w h' S seen:=λk x=>by
  obtain⟨es,ep,t,T,r⟩:=x;exact⟨es,ep,t,T.move k,r⟩
 intro m
 induction m with
 |zero =>
  intro i s hk hi hst hS hR;have hin:i=n:=by omega
  subst hin;refine C9 jcx ?_;rw[Dc jbs _];show Aw _ A.in1 (Eg (.ref I)>>=_) _ _ s;refine Aa (W.done s _ _ hst λs' hm=>?_);show Aw _ A.in1 (ret Bc) _ _ s';rw[<-hn,Fk]at hS;exact Ag (hR s' (hm.mono hsub) (mv (λo e=>hm.heap S _ hSw e) hS))
 |succ m ih =>
  intro i s hk hi hst hS hR;have hlt:i < n:=by omega
  refine C9 jcx ?_;rw[Dc jbs _];show Aw _ A.in1 (Eg (.ref I)>>=_) _ _ s;refine Aa (W.item i s _ _ hlt hst λv s' hP hst' hm=>?_);obtain⟨k,t,hk1,rfl⟩:=hP;have hS':=mv (λo e=>hm.heap S _ hSw e) hS;show Aw _ A.in1 (holding [Value.str k t] (setAdd S (.str k t))>>=_) _ _ s';refine Aa (B6 ?_);unfold setAdd;refine B6 ?_;refine Aa (wpAny_pyHash_str ?_);refine jvs (s:={ s' with toks:=s'.toks+1}) hS' (by rw[Eo];omega) λb h' hsb hS2=>?_;have et:ks.take i++[k]=ks.take (i+1):=by
   rw[List.take_add_one,hk1];rfl
  rw[et]at hS2;refine Ag ⟨E7 jbs _,ih (i+1) _ (by omega) hlt (W.frame _ s' _ _ hst' (Nat.le_succ _) λb hb o e=>?_) hS2 λs'' hm'' hS''=>?_⟩
  ·rw[hsb.2 b (λh:b=S=>hSf (by rw[<-h];exact hb))];exact e
  ·refine hR s'' (Moved.trans W.gtrans ((hm.mono hsub).then_heap (Nat.le_succ _) λb o hb e=>?_) hm'') hS'';rw[hsb.2 b (λh:b=S=>hb (by rw[h];exact An))];exact e
end
theorem slot_setit_next:Slot "set_iterator" "__next__" "set_iterator.__next__":=Slot.of (owner:="set_iterator") (n:="__next__") (by rw[typeLookup_type,builtinLookup_eq_fast];kernel_rfl)
 (by decide +kernel) (by decide +kernel) (by decide +kernel) (by first | exact .inl (by decide +kernel) | exact .inr (by decide +kernel)) (by rw[Ey];kernel_rfl)
theorem jas:entryFor table "set_iterator.__next__"=some D2.«set_iterator.__next__»:=Fv (by kernel_rfl)
theorem jau (a:Ad):argsOk "set_iterator.__next__" ⟨[a],[]⟩:=by unfold argsOk;kernel_rfl
theorem jbz:Slot "set_iterator" "__iter__" "set_iterator.__iter__":=Slot.of (owner:="set_iterator") (n:="__iter__") (by rw[typeLookup_type,builtinLookup_eq_fast];kernel_rfl)
 (by decide +kernel) (by decide +kernel) (by decide +kernel) (by first | exact .inl (by decide +kernel) | exact .inr (by decide +kernel)) (by rw[Ey];kernel_rfl)
theorem jd6:entryFor table "set_iterator.__iter__"=some D2.«dict_keyiterator.__iter__»:=by exact entryFor_alias (id':="dict_keyiterator.__iter__") (by kernel_rfl) rfl (by decide +kernel) (by kernel_rfl)
theorem je4 (a:Ad):argsOk "set_iterator.__iter__" ⟨[a],[]⟩:=by unfold argsOk;kernel_rfl
theorem jer:entryFor table "set.__iter__"=some D2.«frozenset.__iter__»:=by exact entryFor_alias (id':="frozenset.__iter__") (by kernel_rfl) rfl (by decide +kernel) (by kernel_rfl)
def SetIt (h:Heap) (I:Addr) (first:Ad) (i:Nat) (a:Addr) (n ep:Nat):Prop:=∃o,h.get? I=some o/\o.cls=.type "set_iterator"/\o.data=.fields #[first,.int i 0,.ref a,.int n 0,.int ep 0]
section
variable {prog:Bd} {w:Bq} {A:Bj} {E:Ad->Ah->Prop} {s:Ah} {I a T:Addr} {n ep i j:Nat} {es:Array (Int×Ad)} {t:Eb} {first:Ad}
theorem SetIt.typeIs (x:SetIt s.heap I first i a n ep):s.TypeIs (.ref I) "set_iterator":=let⟨o,e,c,_⟩:=x;⟨o,e,c⟩
theorem SetIt.move {h h':Heap} (x:SetIt h I first i a n ep) (k:∀o,h.get? I=some o->h'.get? I=some o):SetIt h' I first i a n ep:=let⟨o,e,r⟩:=x;⟨o,k o e,r⟩
theorem jbf {Q:Ad->Ah->Prop} (hit:SetIt s.heap I first i a n ep) (h:Q (.ref I) s):Aw (A1 prog w) A (pyIter (.ref I)) Q E s:=by
 refine wpAny_pyIter_slot hit.typeIs jbz (Ca jbz hit.typeIs jd6 ?_ (je4 _));show Aw _ _ (ret (.ref I)) _ _ s;exact Ag ⟨_,rfl,"set_iterator",_,hit.typeIs,slot_setit_next.lookup,h⟩
theorem jmv {pl:Array Ad} {x:Int×Ad} {Q:Option Ad->Ah->Prop} (hit:SetIt s.heap I (.ref T) i a n ep) (hs:SetTb w s.heap a es ep t) (hn:es.size=n) (hT:s.heap.IsTuple T pl) (hp:pl[i]?=some (.int j 0)) (hx:es[j]?=some x)
  (hQ:∀h',SetIt h' I (.ref T) (i+1) a n ep->Cr I s.heap h'->Q (some x.2) {s with heap:=h'}):Aw (A1 prog w) A (Eg (.ref I)) Q E s:=by
 obtain⟨o,ho,hc,hd⟩:=id hit;obtain⟨oa,hoa,_,hda⟩:=hs.obj;obtain⟨ol,hol,_,nl,hdl⟩:=hT;unfold Eg;refine Aa (El (Cb (name:=Cy "__next__") hit.typeIs slot_setit_next (Ca slot_setit_next hit.typeIs jas ?_ (jau _))));refine Aa (Ag ?_);refine Aa (Ex ho hd ?_);dsimp only;refine Aa (Dm hoa hda hs.fits ?_);rw[if_neg (by rw[hn];simp)];refine Aa (wpAny_seqItems hol hdl ?_);simp only[Bv,hp];refine Aa ?_;unfold setNextDrawn;refine Aa (En hoa hda hs.fits ?_);simp only[Bv,bne_self_eq_false,Bw,if_false,hx];refine Ag ?_;refine Aa (C4 ho hd (by simp) (Ag ⟨x.2,rfl,Ag (hQ _ ?_ (A2 ..))⟩));exact⟨_,Br _ ho (C7 (Bx hd _)),(Ei ..).trans hc,by
  rw[Bx hd];simp[Cs]⟩
theorem jmz {pl:Array Ad} {Q:Option Ad->Ah->Prop} (hh:A.handled=none) (hit:SetIt s.heap I (.ref T) i a n ep) (hs:SetTb w s.heap a es ep t) (hn:es.size=n) (hT:s.heap.IsTuple T pl) (hp:pl[i]?=none)
  (hQ:∀h',Heap.ExtBut I s.heap h'->Q none {s with heap:=h'}):Aw (A1 prog w) A (Eg (.ref I)) Q E s:=by
 obtain⟨ol,hol,_,nl,hdl⟩:=hT;obtain⟨o,ho,hc,hd⟩:=id hit;obtain⟨oa,hoa,_,hda⟩:=hs.obj;unfold Eg;refine Aa (El (Cb (name:=Cy "__next__") hit.typeIs slot_setit_next (Ca slot_setit_next hit.typeIs jas ?_ (jau _))));refine Aa (Ag ?_);refine Aa (Ex ho hd ?_);dsimp only;refine Aa (Dm hoa hda hs.fits ?_);rw[if_neg (by rw[hn];simp)];refine Aa (wpAny_seqItems hol hdl ?_);simp only[Bv,hp];refine Aa (C4 ho hd (by simp) ?_);have ho2:=Br (Obj.mapFields (·.setIfInBounds 0 (Cs 0))) ho (C7 (Bx hd _));have hd2:=Bx hd (·.setIfInBounds 0 (Cs 0));refine Aa (C4 ho2 hd2 (by simp) ?_);refine Aa ?_;simp only[newExc,newTuple];refine Aa (Bo ?_ (by size_fits));refine Aa (m:=D9 _ _) (wpAny_of_eq (a:=Bc) (by first | rfl | (simp only[D9];rfl)) ?_);refine Bo ?_ (by size_fits);simp only[raiseNew];refine Aa (wpAny_handled ?_)
 first | rw[show A.in1.handled=none from hh] | rw[hh]
 refine Aa (Ag (wpAny_throw ?_));refine Aa (E3 (T:="StopIteration") (b:=true) ⟨_,Av _ rfl,rfl⟩ isSubtype_stop ?_);exact Ag (hQ _ (((((A2 ..).trans (A2 ..)).extBut).push _).push _))
def jdi (w:Bq) (a:Addr) (ep:Nat) (es:Array (Int×Ad)):Array (Int×Ad):=pickOrder (w.params.setOrder a ep) es
theorem jid {Q:Option (Ad×Nat)->Ah->Prop} {k:Nat} (hb:byTx w=true) (hs:SetTb w s.heap a es ep t) (h:Q (((jdi w a ep es)[i]?).map λe=>(e.2,k)) s):Aw (A1 prog w) A (setNext a k i ep) Q E s:=by
 obtain⟨oa,hoa,_,hda⟩:=hs.obj;unfold setNext;refine Aa (En hoa hda hs.fits ?_);dsimp only;refine Aa (jgy ?_);rw[hb];simp only[↓reduceIte,bne_self_eq_false,Bw,if_false];refine Aa ?_;unfold setWalk;refine Aa (En hoa hda hs.fits ?_);dsimp only;refine Aa (jgy ?_);rw[hb];simp only[↓reduceIte];refine Aa (wpAny_askSetting (Ag (Ag h)))
theorem jmw {x:Int×Ad} {Q:Option Ad->Ah->Prop} (hb:byTx w=true) (hit:SetIt s.heap I (.int 0 0) i a n ep) (hs:SetTb w s.heap a es ep t) (hn:es.size=n) (hx:(jdi w a ep es)[i]?=some x)
  (hQ:∀h',SetIt h' I (.int 0 0) (i+1) a n ep->Cr I s.heap h'->Q (some x.2) {s with heap:=h'}):Aw (A1 prog w) A (Eg (.ref I)) Q E s:=by
 obtain⟨o,ho,hc,hd⟩:=id hit;obtain⟨oa,hoa,_,hda⟩:=hs.obj;unfold Eg;refine Aa (El (Cb (name:=Cy "__next__") hit.typeIs slot_setit_next (Ca slot_setit_next hit.typeIs jas ?_ (jau _))));refine Aa (Ag ?_);refine Aa (Ex ho hd ?_);dsimp only;refine Aa (Dm hoa hda hs.fits ?_);rw[if_neg (by rw[hn];simp)];refine Aa (jid hb hs ?_);simp only[Bv,hx,Option.map_some];refine Aa (C4 ho hd (by simp) ?_);have ho2:=Br (Obj.mapFields (·.setIfInBounds 0 (Cs ((0:Int).toNat:Nat)))) ho (C7 (Bx hd _));have hd2:=Bx hd (·.setIfInBounds 0 (Cs ((0:Int).toNat:Nat)));refine Aa (C4 ho2 hd2 (by simp) (Ag ⟨x.2,rfl,Ag (hQ _ ?_ ((A2 ..).trans (A2 ..)))⟩));exact⟨_,Br _ ho2 (C7 (Bx hd2 _)),(Ei ..).trans ((Ei ..).trans hc),by
  rw[Bx hd2];simp[Cs]⟩
theorem jm0 {Q:Option Ad->Ah->Prop} (hh:A.handled=none) (hb:byTx w=true) (hit:SetIt s.heap I (.int 0 0) i a n ep) (hs:SetTb w s.heap a es ep t) (hn:es.size=n) (hx:(jdi w a ep es)[i]?=none)
  (hQ:∀h',Heap.ExtBut I s.heap h'->Q none {s with heap:=h'}):Aw (A1 prog w) A (Eg (.ref I)) Q E s:=by
 obtain⟨o,ho,hc,hd⟩:=id hit;obtain⟨oa,hoa,_,hda⟩:=hs.obj;unfold Eg;refine Aa (El (Cb (name:=Cy "__next__") hit.typeIs slot_setit_next (Ca slot_setit_next hit.typeIs jas ?_ (jau _))));refine Aa (Ag ?_);refine Aa (Ex ho hd ?_);dsimp only;refine Aa (Dm hoa hda hs.fits ?_);rw[if_neg (by rw[hn];simp)];refine Aa (jid hb hs ?_);simp only[Bv,hx,Option.map_none];refine Aa (C4 ho hd (by simp) ?_);refine Aa ?_;simp only[newExc,newTuple];refine Aa (Bo ?_ (by size_fits));refine Aa (m:=D9 _ _) (wpAny_of_eq (a:=Bc) (by first | rfl | (simp only[D9];rfl)) ?_);refine Bo ?_ (by size_fits);simp only[raiseNew];refine Aa (wpAny_handled ?_)
 first | rw[show A.in1.handled=none from hh] | rw[hh]
 refine Aa (Ag (wpAny_throw ?_));refine Aa (E3 (T:="StopIteration") (b:=true) ⟨_,Av _ rfl,rfl⟩ isSubtype_stop ?_);exact Ag (hQ _ (((A2 ..).extBut.push _).push _))
theorem jic {Q:Option (Ad×Nat)->Ah->Prop} {k:Nat} (hb:byTx w=false) (h1:es.size<=1) (hs:SetTb w s.heap a es ep t)
  (h:Q (match es[Dw t.place k]?,t.place[Dw t.place k]? with
   |some (_,x),some j=>some (x,j+1)
   |_,_=>none) s):Aw (A1 prog w) A (setNext a k i ep) Q E s:=by
 obtain⟨oa,hoa,_,hda⟩:=hs.obj;have hl:t.led=true:=by rw[hs.led,hb];rfl
 unfold setNext;refine Aa (En hoa hda hs.fits ?_);dsimp only;refine Aa (jgy ?_);rw[hb];simp only[Bw,↓reduceIte];have hd:(!t.plain&&decide (es.size > 1))=false:=by
  have:decide (es.size > 1)=false:=decide_eq_false (by omega);rw[this,Bool.and_false]
 split
 ·rename_i z;have z':(!t.plain&&decide (es.size > 1))=true:=z;rw[hd]at z';cases z'
 ·refine Aa (wpAny_of_eq (a:=()) ?_ (Ag h));show(if (!t.led&&!es.isEmpty)=true then unsupported "set:maker-not-led" else pure ())=pure ();rw[hl];rfl
theorem jjd {j:Nat}:Dw #[j] 0=0/\Dw #[j] (j+1)=1:=by
 constructor
 ·simp[Dw,SetTable.below.go]
 ·simp[Dw,SetTable.below.go]
theorem jmu {x:Int×Ad} {Q:Option Ad->Ah->Prop} (hb:byTx w=false) (hp:t.place=#[j]) (he:es=#[x]) (hit:SetIt s.heap I (.int 0 0) 0 a 1 ep) (hs:SetTb w s.heap a es ep t)
  (hQ:∀h',SetIt h' I (.int ((j+1:Nat):Int) 0) 1 a 1 ep->Cr I s.heap h'->Q (some x.2) {s with heap:=h'}):Aw (A1 prog w) A (Eg (.ref I)) Q E s:=by
 have hn:es.size=1:=by rw[he];rfl
 obtain⟨o,ho,hc,hd⟩:=id hit;obtain⟨oa,hoa,_,hda⟩:=hs.obj;unfold Eg;refine Aa (El (Cb (name:=Cy "__next__") hit.typeIs slot_setit_next (Ca slot_setit_next hit.typeIs jas ?_ (jau _))));refine Aa (Ag ?_);refine Aa (Ex ho hd ?_);dsimp only;refine Aa (Dm hoa hda hs.fits ?_);rw[if_neg (by rw[hn];simp)];refine Aa (jic hb (by omega) hs ?_);have b1:Dw t.place (0:Int).toNat=0:=by rw[hp];exact jjd.1
 rw[b1,hp,he];show Aw _ _ (setField (.ref I) 0 (Cs ((j+1:Nat):Int))>>=_) _ _ _;refine Aa (C4 ho hd (by simp) ?_);have ho2:=Br (Obj.mapFields (·.setIfInBounds 0 (Cs ((j+1:Nat):Int)))) ho (C7 (Bx hd _));have hd2:=Bx hd (·.setIfInBounds 0 (Cs ((j+1:Nat):Int)));refine Aa (C4 ho2 hd2 (by simp) (Ag ⟨x.2,rfl,Ag (hQ _ ?_ ((A2 ..).trans (A2 ..)))⟩));exact⟨_,Br _ ho2 (C7 (Bx hd2 _)),(Ei ..).trans ((Ei ..).trans hc),by
  rw[Bx hd2];simp[Cs]⟩
theorem jie {k:Nat} {Q:Option Ad->Ah->Prop} (hh:A.handled=none) (hb:byTx w=false) (h1:es.size<=1) (hk:es[Dw t.place k]?=none) (hit:SetIt s.heap I (.int (k:Int) 0) i a n ep) (hs:SetTb w s.heap a es ep t) (hn:es.size=n)
  (hQ:∀h',Heap.ExtBut I s.heap h'->Q none {s with heap:=h'}):Aw (A1 prog w) A (Eg (.ref I)) Q E s:=by
 obtain⟨o,ho,hc,hd⟩:=id hit;obtain⟨oa,hoa,_,hda⟩:=hs.obj;unfold Eg;refine Aa (El (Cb (name:=Cy "__next__") hit.typeIs slot_setit_next (Ca slot_setit_next hit.typeIs jas ?_ (jau _))));refine Aa (Ag ?_);refine Aa (Ex ho hd ?_);dsimp only;refine Aa (Dm hoa hda hs.fits ?_);rw[if_neg (by rw[hn];simp)];refine Aa (jic hb h1 hs ?_);rw[Bv,hk];dsimp only;refine Aa (C4 ho hd (by simp) ?_);refine Aa ?_;simp only[newExc,newTuple];refine Aa (Bo ?_ (by size_fits));refine Aa (m:=D9 _ _) (wpAny_of_eq (a:=Bc) (by first | rfl | (simp only[D9];rfl)) ?_);refine Bo ?_ (by size_fits);simp only[raiseNew];refine Aa (wpAny_handled ?_)
 first | rw[show A.in1.handled=none from hh] | rw[hh]
 refine Aa (Ag (wpAny_throw ?_));refine Aa (E3 (T:="StopIteration") (b:=true) ⟨_,Av _ rfl,rfl⟩ isSubtype_stop ?_);exact Ag (hQ _ (((A2 ..).extBut.push _).push _))
end
section
variable {prog:Bd} {w:Bq} {A:Bj} {E:Ad->Ah->Prop} {s:Ah} {a:Addr} {ep:Nat} {es:Array (Int×Ad)} {t:Eb}
def jje (vs:List (Int×Ad)) (i:Nat) (v:Ad):Prop:=∃e,vs[i]?=some e/\v=e.2
structure SetWk (prog:Bd) (w:Bq) (sz:Nat) (h':Heap) (a I:Addr) (vs:List (Int×Ad)):Prop where
 above:sz<=I
 walk:∃(fp:List Addr) (St:Nat->Heap->Prop),(∀b∈fp,b=a\/sz<=b)/\(∀b∈fp,b < h'.objs.size)/\(∀A:Bj,A.handled=none->Walks prog w A I fp [I] vs.length (jje vs) St)/\St 0 h'
theorem jup {α:Type} {xs:Array α} {j:Nat} {d:α} (h:j < xs.size):xs[j]?=some (xs.getD j d):=by
 simp[h]
theorem jlw {ys:List Nat} {n:Nat} (hp:ys.Perm (Bt n)) (hn:es.size=n):(ys.map λj=>es.getD j (0,Bc)).Perm es.toList:=by
 have h1:=hp.map λj=>es.getD j ((0:Int),Bc);have h2:(Bt n).map (λj=>es.getD j ((0:Int),Bc))=es.toList:=by
  apply List.ext_getElem (by simp[hn]);intro i h1 h2;simp at h2;simp[h2]
 rw[h2]at h1;exact h1
theorem jss {I T:Addr} {ys:List Nat} {n:Nat} (hne:a≠I) (hTI:T≠I) (hp:ys.Perm (Bt n)) (hn:es.size=n) (A:Bj) (hh:A.handled=none) :
  Walks prog w A I [I,a,T] [I] (ys.map λj=>es.getD j (0,Bc)).length (jje (ys.map λj=>es.getD j (0,Bc)))
   (λi h=>SetIt h I (.ref T) i a n ep/\SetTb w h a es ep t/\h.IsTuple T (ys.map λ(j:Nat)=>Value.int (j:Int) 0).toArray) where
 sub:=λb hb=>by simp at hb;simp[hb]
 frame:=λ_ _ _ st hk=>⟨st.1.move λo e=>hk I (by simp) o e,st.2.1.move λo e=>hk a (by simp) o e,let⟨o,e,r⟩:=st.2.2;⟨o,hk T (by simp) o e,r⟩⟩
 item:=λi s Q E hi st hQ=>by
  rw[Ae]at hi;have hj:ys[i] < es.size:=by rw[hn];exact C2.mp (hp.mem_iff.mp (D3 hi))
  refine jmv (j:=ys[i]) st.1 st.2.1 hn st.2.2 (by simp[hi]) (jup (d:=(0,Bc)) hj) λh' hit' hs'=>?_;refine hQ _ h' s.toks ⟨_,by rw[A0,Al hi];rfl,rfl⟩ ⟨hit',st.2.1.move λo e=>(hs'.2 a hne).trans e,let⟨o,e,r⟩:=st.2.2;⟨o,(hs'.2 T hTI).trans e,r⟩⟩ λb o hb e=>hs'.extBut b o (λh=>hb (by simp[h])) e
 done:=λs Q E st hQ=>jmz hh st.1 st.2.1 hn st.2.2 (by simp) λh' he'=>hQ h' s.toks λb o hb e=>he' b o (λh=>hb (by simp[h])) e
 self:=λ_ _ _ _ st hQ=>jbf st.1 hQ
theorem jst {I:Addr} {n:Nat} (hb:byTx w=true) (hne:a≠I) (hn:es.size=n) (A:Bj) (hh:A.handled=none) :
  Walks prog w A I [I,a] [I] (jdi w a ep es).toList.length (jje (jdi w a ep es).toList) (λi h=>SetIt h I (.int 0 0) i a n ep/\SetTb w h a es ep t) where
 sub:=λb hb=>by simp at hb;simp[hb]
 frame:=λ_ _ _ st hk=>⟨st.1.move λo e=>hk I (by simp) o e,st.2.move λo e=>hk a (by simp) o e⟩
 item:=λi s Q E hi st hQ=>by
  rw[A7]at hi;have hx:(jdi w a ep es)[i]?=some (jdi w a ep es)[i]:=Ep hi;refine jmw hb st.1 st.2 hn hx λh' hit' hs'=>?_;exact hQ _ h' s.toks ⟨_,by rw[Cm];exact hx,rfl⟩ ⟨hit',st.2.move λo e=>(hs'.2 a hne).trans e⟩ λb o hb e=>hs'.extBut b o (λh=>hb (by simp[h])) e
 done:=λs Q E st hQ=>jm0 hh hb st.1 st.2 hn (by simp) λh' he'=>hQ h' s.toks λb o hb e=>he' b o (λh=>hb (by simp[h])) e
 self:=λ_ _ _ _ st hQ=>jbf st.1 hQ
theorem jsv {I:Addr} (hb:byTx w=false) (hn:es.size=0) (A:Bj) (hh:A.handled=none) :
  Walks prog w A I [I,a] [I] ([]:List (Int×Ad)).length (jje []) (λ_ h=>SetIt h I (.int ((0:Nat):Int) 0) 0 a 0 ep/\SetTb w h a es ep t) where
 sub:=λb hb=>by simp at hb;simp[hb]
 frame:=λ_ _ _ st hk=>⟨st.1.move λo e=>hk I (by simp) o e,st.2.move λo e=>hk a (by simp) o e⟩
 item:=λi s Q E hi st hQ=>by simp at hi
 done:=λs Q E st hQ=>jie (k:=0) hh hb (by omega) (by rw[Array.getElem?_eq_none];omega) st.1 st.2 hn λh' he'=>hQ h' s.toks λb o hb e=>he' b o (λh=>hb (by simp[h])) e
 self:=λ_ _ _ _ st hQ=>jbf st.1 hQ
theorem jsu {I:Addr} {x:Int×Ad} {j:Nat} (hb:byTx w=false) (hne:a≠I) (he:es=#[x]) (hp:t.place=#[j]) (A:Bj) (hh:A.handled=none) :
  Walks prog w A I [I,a] [I] [x].length (jje [x]) (λi h=>((i=0/\SetIt h I (.int 0 0) 0 a 1 ep)\/(i=1/\SetIt h I (.int ((j+1:Nat):Int) 0) 1 a 1 ep))/\SetTb w h a es ep t) where
 sub:=λb hb=>by simp at hb;simp[hb]
 frame:=λ_ _ _ st hk=>⟨st.1.imp (λz=>⟨z.1,z.2.move λo e=>hk I (by simp) o e⟩) (λz=>⟨z.1,z.2.move λo e=>hk I (by simp) o e⟩),st.2.move λo e=>hk a (by simp) o e⟩
 item:=λi s Q E hi st hQ=>by
  have hi0:i=0:=by simpa using hi
  subst hi0;rcases st.1 with⟨_,z⟩ | ⟨z,_⟩
  ·refine jmu hb hp he z st.2 λh' hit' hs'=>?_;exact hQ _ h' s.toks ⟨x,rfl,rfl⟩ ⟨.inr ⟨rfl,hit'⟩,st.2.move λo e=>(hs'.2 a hne).trans e⟩ λb o hb e=>hs'.extBut b o (λh=>hb (by simp[h])) e
  ·cases z
 done:=λs Q E st hQ=>by
  rcases st.1 with⟨z,_⟩ | ⟨_,z⟩
  ·cases z
  ·refine jie (k:=j+1) hh hb (by rw[he];exact Ao 1) ?_ z st.2 (by rw[he];rfl) λh' he'=>hQ h' s.toks λb o hb e=>he' b o (λh=>hb (by simp[h])) e;rw[hp,jjd.2,he];rfl
 self:=λi s Q E st hQ=>by
  rcases st.1 with⟨_,z⟩ | ⟨_,z⟩
  ·exact jbf z hQ
  ·exact jbf z hQ
theorem js6 {Q:Ad->Ah->Prop} (hs:SetTb w s.heap a es ep t) (h64:es.size < 64)
  (h:∀(h':Heap) (dr:Drawn) (I:Addr) (vs:List (Int×Ad)),vs.Perm es.toList->(∀b o,s.heap.get? b=some o->h'.get? b=some o)->SetWk prog w s.heap.objs.size h' a I vs->Q (.ref I) {s with heap:=h',drawn:=dr}) :
  Aw (A1 prog w) A (pyIter (.ref a)) Q E s:=by
 obtain⟨oa,hoa,hex,hda⟩:=hs.obj;have hlt:=hs.lt;refine wpAny_pyIter_slot hs.typeIs F.slot_set_iter (Ca F.slot_set_iter hs.typeIs jer ?_ (F.args_set_iter_1 _));refine Aa (Ag ?_);refine Aa (Aa (Dm hoa hda hs.fits (Ag ?_)));refine Aa ?_;unfold setDrawn;refine Aa (En hoa hda hs.fits ?_);dsimp only;refine Aa (jgy ?_);refine Ag ?_
 split
 ·rename_i hd;refine Aa (jmy es.size (Bt es.size) s (by simp) λys dr hp=>?_);have hly:ys.length=es.size:=by rw[hp.length_eq,Du]
  refine Aa (wpAny_newTuple ?_ (by rw[Ae,hly,Cf];omega));have hoa1:=Ai ({cls:=.type "tuple",data:=.seq (ys.map λ(i:Nat)=>Cs i).toArray}:Obj) hoa;refine Aa (wpAny_setEpoch_of hoa1 hda hs.fits ?_);refine Aa (Bo (Ag ⟨_,rfl,"set_iterator",_,⟨_,Av _ rfl,rfl⟩,slot_setit_next.lookup,?_⟩));have hT:(s.heap.push ({cls:=.type "tuple",data:=.seq (ys.map λ(i:Nat)=>Cs i).toArray}:Obj)).get? s.heap.objs.size=some {cls:=.type "tuple",data:=.seq (ys.map λ(i:Nat)=>Cs i).toArray}:=Av _ rfl;refine h _ dr _ (ys.map λj=>es.getD j (0,Bc)) (jlw hp rfl) (λb o e=>Ai _ (Ai _ e)) ⟨by rw[De];exact Nat.le_succ _,[_,a,s.heap.objs.size],_,λb hb=>?_,λb hb=>?_,λA hh=>jss (t:=t) (ep:=ep) (T:=s.heap.objs.size) (by rw[De];exact Ba (Ej hlt)) (by rw[De];exact Ba (Fn _)) hp rfl A hh,⟨⟨_,Av _ rfl,rfl,rfl⟩,hs.move λo e=>Ai _ (Ai _ e),⟨_,Ai _ hT,rfl,_,rfl⟩⟩⟩
  ·simp only[Ax,A6,or_false]at hb;rcases hb with rfl | rfl | rfl
   ·rw[De];exact .inr (Nat.le_succ _)
   ·exact .inl rfl
   ·exact .inr (Ao _)
  ·simp only[Ax,A6,or_false]at hb;rw[De,De];rcases hb with rfl | rfl | rfl
   ·rw[De];exact Fn _
   ·exact Ej (Ej hlt)
   ·exact Ej (Fn _)
 ·rename_i hd;refine Aa (Ag ?_);refine Aa (wpAny_setEpoch_of hoa hda hs.fits ?_);refine Aa (Bo (Ag ⟨_,rfl,"set_iterator",_,⟨_,Av _ rfl,rfl⟩,slot_setit_next.lookup,?_⟩));have hit:SetIt (s.heap.push {cls:=.type "set_iterator",data:=.fields #[Cs 0,Cs 0,.ref a,Cs es.size,Cs ep]}) s.heap.objs.size (.int 0 0) 0 a es.size ep:=⟨_,Av _ rfl,rfl,rfl⟩;have hst:SetTb w (s.heap.push {cls:=.type "set_iterator",data:=.fields #[Cs 0,Cs 0,.ref a,Cs es.size,Cs ep]}) a es ep t:=hs.move λo e=>Ai _ e;have kp:∀b o,s.heap.get? b=some o->(s.heap.push {cls:=.type "set_iterator",data:=.fields #[Cs 0,Cs 0,.ref a,Cs es.size,Cs ep]}).get? b=some o:=λb o e=>Ai _ e;have f1:∀b∈[s.heap.objs.size,a],b=a\/s.heap.objs.size<=b:=λb hb=>by
   simp only[Ax,A6,or_false]at hb;rcases hb with rfl | rfl
   ·exact .inr (Ao _)
   ·exact .inl rfl
  have f2:∀b∈[s.heap.objs.size,a],b < (s.heap.push {cls:=.type "set_iterator",data:=.fields #[Cs 0,Cs 0,.ref a,Cs es.size,Cs ep]}).objs.size:=λb hb=>by
   simp only[Ax,A6,or_false]at hb;rw[De];rcases hb with rfl | rfl
   ·exact Fn _
   ·exact Ej hlt
  have hne:a≠s.heap.objs.size:=Ba hlt;cases hb:byTx w with
  |true=>exact h _ s.drawn _ (jdi w a ep es).toList (jlg _ _) kp ⟨Ao _,[s.heap.objs.size,a],_,f1,f2,λA hh=>jst (t:=t) hb hne rfl A hh,⟨hit,hst⟩⟩
  |false =>
   have hd0:¬((!byTx w&&(!t.plain&&decide (es.size > 1)))=true):=hd;have hd':(!byTx w&&(!t.plain&&decide (es.size > 1)))=false:=by simpa using hd0
   have h1:es.size<=1:=by
    rw[hb]at hd';by_cases hz:es.size<=1
    ·exact hz
    ·have hg:decide (es.size > 1)=true:=decide_eq_true (by omega);rw[hg]at hd';have hpl:t.plain=true:=by simpa using hd'
     have:=hs.plain hpl;omega
   by_cases h0:es.size=0
   ·have e0:es.toList=[]:=Fq (by simpa using h0);refine h _ s.drawn _ [] (by rw[e0]) kp ⟨Ao _,[s.heap.objs.size,a],_,f1,f2,λA hh=>jsv (t:=t) (ep:=ep) hb h0 A hh,⟨?_,hst⟩⟩;rw[h0]at hit ⊢;exact hit
   ·have h1':es.size=1:=by omega
    obtain⟨x,hx⟩:∃x,es=#[x]:=by
     have:es.toList.length=1:=by simpa using h1'
     obtain⟨x,hx⟩:=List.length_eq_one_iff.mp this;exact⟨x,Fj.mp hx⟩
    have hps:t.place.size=1:=by
     have:=hs.fits;simp only[SetTable.fits,Bs,beq_iff_eq]at this;rw[this.1,h1']
    obtain⟨j,hj⟩:∃j,t.place=#[j]:=by
     have:t.place.toList.length=1:=by simpa using hps
     obtain⟨x,hx⟩:=List.length_eq_one_iff.mp this;exact⟨x,Fj.mp hx⟩
    refine h _ s.drawn _ [x] (by rw[hx]) kp ⟨Ao _,[s.heap.objs.size,a],_,f1,f2,λA hh=>jsu (t:=t) (ep:=ep) hb hne hx hj A hh,⟨.inl ⟨rfl,?_⟩,hst⟩⟩;rw[h1']at hit ⊢;exact hit
end
theorem jhm:entryFor table "proto.collect"=some D2.«proto.collect»:=Fv (by kernel_rfl)
theorem jlv:entryFor table "list.__iadd__"=some D2.«list.__iadd__»:=Fv (by kernel_rfl)
section
variable {prog:Bd} {w:Bq} {A:Bj} {E:Ad->Ah->Prop} {s:Ah} {a:Addr} {ep:Nat} {es:Array (Int×Ad)} {t:Eb}
theorem js7 {Q:Bool->Ah->Prop} (hT:s.TypeIs (.ref a) "set") (h:Q false s):Aw (A1 prog w) A (Builtin.List.listLengthHint (.ref a)) Q E s:=by
 unfold Builtin.List.listLengthHint;refine Aa (wpAny_specialOf hT F.slot_set_len.lookup ?_);generalize hid:("set.__len__":String)=id0
 wp_delta
 rw[show splitId id0=some ("set","__len__")from by subst hid;decide +kernel];subst hid;refine Aa (E3 (T:="set") (b:=true) hT (by rw[Ey];kernel_rfl) ?_);refine wpAny_ite_split (λhab=>absurd hab (by decide)) (λ_=>?_);refine wpAny_ite_split (λ_=>?_) (λhab=>absurd (by decide +kernel) hab);refine Aa (E2 hT ?_);exact Ag h
theorem jmx {R:Result->Ah->Prop} (hh:A.handled=none) (hs:SetTb w s.heap a es ep t) (h64:es.size < 64) (S:Addr) (hSa:S≠a) (res:Ad) (hS:s.heap.get? S=some {cls:=.type "list",data:=.seq #[]})
  (hR:∀h' tk dr (vs:List (Int×Ad)) acc c,vs.Perm es.toList->(∀b o,b≠S->s.heap.get? b=some o->h'.get? b=some o)->h'.get? S=some {cls:=.type "list",dict:=none,data:=.seq acc c,slots:=#[]}->ItemsOf (jje vs) acc vs.length->R (.ok (.ret res)) {s with heap:=h',toks:=tk,drawn:=dr}) :
  Aw (A1 prog w) A.in1 (Df (.ref S) (.ref a) res)
   (λfin s'=>match fin with | .done f=>R (.ok f) s' | .again c'=>c'.quiet=true/\E8 (A1 prog w) A c' R s') (λe s'=>R (.error e) s') s:=by
 unfold Df;refine Aa (E2 (T:="set") hs.typeIs ?_);have h1:Fu (.ref S) (.ref a)=false:=by simp[Fu,hSa]
 have h2:(C6 "set"==C6 "list")=false:=by decide
 have h3:(C6 "set"==C6 "tuple")=false:=by decide
 simp only[h1,h2,h3,Bool.or_false,Bw,if_false];refine Aa (js6 (A:=A.in1) hs h64 λh' dr I vs hp hk hw=>?_);obtain⟨hI,fp,St,hf1,hf2,W,st⟩:=hw;have hSlt:S < s.heap.objs.size:=Aq hS;have hSf:S∉fp:=λhm=>(hf1 S hm).elim hSa λz=>Dl _ (A8 hSlt z);have hS1:=hk S _ hS;have hlen:vs.length=es.size:=by rw[hp.length_eq,A7]
 have key:∀(h:Heap) (c₁ tk:Nat),St 0 h->(∀b o,b≠S->s.heap.get? b=some o->h.get? b=some o) ->
   h.get? S=some {cls:=.type "list",data:=.seq #[] c₁}->E8 (A1 prog w) A (.builtin "list.extend.loop" ⟨[.ref S,.ref I,res],[]⟩) R {s with heap:=h,toks:=tk,drawn:=dr}:=by
  intro h c₁ tk hst hk2 hS₁;refine codeAny_extend_loopS (W A.in1 hh).toS (by rw[hlen,Cf];omega) S hSf res vs.length 0 _ #[] c₁ rfl (A4 _) hst hS₁ (ItemsOf.nil _) λs' acc' c' hm hS' hacc=>?_;rw[Moved.eq_with hm];refine hR s'.heap s'.toks dr vs acc' c' hp (λb o hb e=>hm.heap b o (λhmem=>?_) (hk2 b o hb e)) hS' hacc;rcases Ax.mp hmem with e' | hmem
  ·exact hb e'
  ·have hbI:=Bg.mp hmem;exact absurd (Aq e) (by rw[hbI];exact Nat.not_lt.mpr hI)
 refine Aa (B6 (js7 (s:={ s with heap:=h',drawn:=dr}) (hs.move λo e=>hk a o e).typeIs ?_));refine wpAny_ite_split (λ_=>?_) (λ_=>Ag ⟨E7 PySem.F.plain_extend_loop _,key _ 0 _ st (λb o _ e=>hk b o e) hS1⟩);refine Aa (wpAny_rule ?_);refine Aa ?_;show Aw _ _ (updateSeq S (·.push .none)>>=λ_=>updateSeq S (·.pop)) _ _ _;refine Aa (wpAny_updateSeq hS1 rfl ?_);have hS₂:=Br (Bi (·.push Bc)) hS1 rfl;refine wpAny_updateSeq (hz:=by seq_fits) hS₂ rfl ?_;have hS₃:=Br (Bi (·.pop)) hS₂ rfl;refine Ag ⟨E7 PySem.F.plain_extend_loop _,key _ _ _ ?_ (λb o hb e=>?_) hS₃⟩
 ·refine(W A hh).frame 0 _ _ st λb hb o e=>?_;have hbS:b≠S:=λh=>hSf (h▸hb);exact(Dj _ _ (Ne.symm hbS)).trans ((Dj _ _ (Ne.symm hbS)).trans e)
 ·exact(Dj _ _ (Ne.symm hb)).trans ((Dj _ _ (Ne.symm hb)).trans (hk b o e))
theorem jkw {vs:List (Int×Ad)} {acc:Array Ad} (h:ItemsOf (jje vs) acc vs.length):acc.toList=vs.map (·.2):=by
 apply List.ext_getElem?;intro i;by_cases hi:i < vs.length
 ·have hi2:i < acc.size:=by rw[h.1];exact hi
  obtain⟨e,e1,e2⟩:=h.2 i acc[i] (Ep hi2);rw[A0,e1,Cm,Ep hi2,e2];rfl
 ·rw[Co (by rw[A7,h.1];omega),Co (by rw[Ae];omega)]
theorem jlh {R:List Ad->Ah->Prop} (hh:A.handled=none) (hs:SetTb w s.heap a es ep t) (h64:es.size < 64)
  (h:∀(h':Heap) (tk:Nat) (dr:Drawn) (vs:List (Int×Ad)),vs.Perm es.toList->(∀b o,s.heap.get? b=some o->h'.get? b=some o)->R (vs.map (·.2)) {s with heap:=h',toks:=tk,drawn:=dr}) :
  Aw (A1 prog w) A (collect (.ref a)) R E s:=by
 unfold collect;refine Aa (wpAny_runValue (C9 jhm ?_));rw[Dc PySem.F.plain_proto_collect _];show Aw _ A.in1 (newList []>>=λl=>again (.builtin "list.__iadd__" ⟨[l,.ref a],[]⟩)) _ _ s;refine Aa (Bo ?_);refine Ag ⟨E7 PySem.F.plain_list_iadd _,C9 jlv ?_⟩;rw[Dc PySem.F.plain_list_iadd _];have hS₁:(s.heap.push {cls:=.type "list",data:=.seq ([]:List Ad).toArray}).get? s.heap.objs.size=some {cls:=.type "list",data:=.seq #[]}:=Av _ rfl;show Aw _ A.in1 (Df (.ref s.heap.objs.size) (.ref a) (.ref s.heap.objs.size)) _ _ _;have key:=jmx (prog:=prog) (A:=A) (s:={ s with heap:=s.heap.push {cls:=.type "list",data:=.seq ([]:List Ad).toArray}})
  (R:=λ(q:Result) (s':Ah)=>∃(h':Heap) (tk:Nat) (dr:Drawn) (vs:List (Int×Ad)) (acc':Array Ad) (c':Nat),q=.ok (.ret (.ref s.heap.objs.size))/\s'={ s with heap:=h',toks:=tk,drawn:=dr}/\vs.Perm es.toList /\
   (∀b o,s.heap.get? b=some o->h'.get? b=some o)/\h'.get? s.heap.objs.size=some {cls:=.type "list",dict:=none,data:=.seq acc' c',slots:=#[]}/\ItemsOf (jje vs) acc' vs.length)
  hh (hs.move λo e=>Ai _ e) h64 s.heap.objs.size (Fc hs.lt) (.ref s.heap.objs.size) hS₁
  (λh' tk dr vs acc' c' hp hk hS' hacc=>⟨h',tk,dr,vs,acc',c',rfl,rfl,hp,λb o e=>hk b o (Ba (Aq e)) (Ai _ e),hS',hacc⟩)
 refine Ci key (λfin s' x=>?_) λe s' x=>?_
 ·cases fin with
  |done f =>
   obtain⟨h',tk,dr,vs,acc',c',e,rfl,hp,hk,hS',hacc⟩:=x;cases e;show Aw _ A (load s.heap.objs.size>>=_) _ _ _;refine Aa (wpAny_load hS' ?_);refine Ag ?_;rw[jkw hacc];exact h h' tk dr vs hp hk
  |again c₁ =>
   refine⟨x.1,Fm x.2 λq s₂ y=>?_⟩;obtain⟨h',tk,dr,vs,acc',c',rfl,rfl,hp,hk,hS',hacc⟩:=y;show Aw _ A (load s.heap.objs.size>>=_) _ _ _;refine Aa (wpAny_load hS' ?_);refine Ag ?_;rw[jkw hacc];exact h h' tk dr vs hp hk
 ·obtain⟨_,_,_,_,_,_,z,_⟩:=x;cases z
end
def set0 (w:Bq):Obj:={ cls:=.type "set",dict:=none,data:=.set #[] 0 (.fresh 0 0 (!byTx w))}
section
variable {prog:Bd} {w:Bq} {A:Bj} {E:Ad->Ah->Prop} {s:Ah}
theorem jtn {h:Heap} {a:Addr} (e:h.get? a=some (set0 w)):jfb w h a [] :=
 ⟨#[],0,.fresh 0 0 (!byTx w),⟨⟨_,e,⟨rfl,rfl,rfl⟩,rfl⟩,rfl,rfl,λ_=>rfl⟩,λe he=>by simp at he,List.Pairwise.nil,λk=>by simp[ksOf],Ao _⟩
theorem jvr (a:Ad) {Q₁:Ad->Ah->Prop} (h:Q₁ (.ref s.heap.objs.size) {s with heap:=s.heap.push (set0 w)}) :
  E8 (A1 prog w) A (.call (.builtin "set.__new__") ⟨[.type "set",a],[]⟩) (wants Q₁ E) s:=by
 refine codeAny_of_tree ?_;show Aw _ A.in1 (do checkBuiltinCall "set.__new__" ⟨[.type "set",a],[]⟩;again (.builtin "set.__new__" ⟨[.type "set",a],[]⟩)) _ _ s;refine Aa (wpAny_of_eq (F.newCall_set_1 a) (Ag ⟨E7 F.plain_set_new _,C9 F.entry_set_new ?_⟩));rw[Dc F.plain_set_new _];unfold D2.«set.__new__» Builtin.Frozenset.newClass;have hsub:=sub_set_self;obtain⟨hp,g,d,tk,os⟩:=s;dsimp only
 wp_walk
 refine wpAny_askSetting (Ag ?_);dsimp only;simp only[newObj];exact Aa (wpAny_alloc (Ag (Ag h)))
structure TxSrc (prog:Bd) (w:Bq) (T:String) (x:Addr) (ks:List Str) (OK:Heap->Prop):Prop where
 type:∀s:Ah,OK s.heap->s.TypeIs (.ref x) T
 there:∀h:Heap,OK h->x < h.objs.size
 keep:∀h h':Heap,OK h->(∀o,h.get? x=some o->h'.get? x=some o)->OK h'
 notSet:isSubtype (.type T) (.type "set")=pure false
 notFrozen:isSubtype (.type T) (.type "frozenset")=pure false
 notDict:(C6 T==C6 "dict")=false
 iter:∀s:Ah,OK s.heap->∃(oI:Obj) (St:Nat->Heap->Prop),
  (∀(A:Bj) (E:Ad->Ah->Prop) (Q:Ad->Ah->Prop),Q (.ref s.heap.objs.size) {s with heap:=s.heap.push oI}->Aw (A1 prog w) A (pyIter (.ref x)) Q E s) /\
  (∀A:Bj,A.handled=none->Walks prog w A s.heap.objs.size [s.heap.objs.size,x] [s.heap.objs.size] ks.length (SeqV ks) St)/\St 0 (s.heap.push oI)
set_option maxHeartbeats 3200000 in
theorem ji5 {T:String} {x:Addr} {ks:List Str} {OK:Heap->Prop} {Q:Ad->Ah->Prop} (K:TxSrc prog w T x ks OK) (hh:A.handled=none) (hok:OK s.heap) (h64:ks.length < 64)
  (h:∀(h':Heap) (tk:Nat),jfb w h' s.heap.objs.size ks->(∀b o,b < s.heap.objs.size->s.heap.get? b=some o->h'.get? b=some o)->Q (.ref s.heap.objs.size) {s with heap:=h',toks:=tk}) :
  Aw (A1 prog w) A (call (.type "set") [.ref x]) Q E s:=by
 obtain⟨c,tl,hmro⟩:=F.called_set.mro;have hmade:=F.called_set.made;have hsub:=F.called_set.sub;refine wpAny_call (codeAny_of_tree ?_);show Aw _ _ (callAny (.type "set") _) _ _ _;refine Ag ⟨Code.quiet_builtin _ (by decide +kernel),C9 F.entry_type_call ?_⟩;rw[Around.under_plain (weight_type_call_type "set" [.ref x] []) rfl];have h1:=F.called_set.notType;have h2:=F.called_set.canCreate;have hct:=F.typeCall_set_1 (.ref x)
 repeat (any_goals (first | assumption | wp_step))
 refine Fm (jvr (.ref x) (E:=E) (Q₁:=λobj s₁=>obj=.ref s.heap.objs.size/\s₁={ s with heap:=s.heap.push (set0 w)}) ⟨rfl,rfl⟩) λr s₁ hr=>?_;cases r with
 |error e=>exact hr
 |ok fl =>
  cases fl with
  |ret obj =>
   obtain⟨rfl,rfl⟩:=hr;have hS:(s.heap.push (set0 w)).get? s.heap.objs.size=some (set0 w):=Av _ rfl;have hT:Shared.TypeIs {s with heap:=s.heap.push (set0 w)} (.ref s.heap.objs.size) "set":=⟨_,hS,rfl⟩;have hli:=F.called_set.init.lookup;have hbi:=F.called_set.init.bind (.ref s.heap.objs.size)
   repeat (any_goals (first | assumption | wp_step))
   refine Fm (codeAny_call_builtin (R:=wants (λr s₂=>r=.none/\∃h' tk,s₂={ s with heap:=h',toks:=tk}/\jfb w h' s.heap.objs.size ks /\
     (∀b o,b < s.heap.objs.size->s.heap.get? b=some o->h'.get? b=some o)) E) F.called_set.init.plain F.entry_set_init (check_set_init_1 hT ?_)) λr₂ s₂ hr₂=>?_
   ·have hok1:OK (s.heap.push (set0 w)):=K.keep _ _ hok λo e=>Ai _ e;have hTx:Shared.TypeIs {s with heap:=s.heap.push (set0 w)} (.ref x) T:=K.type {s with heap:=s.heap.push (set0 w)} hok1;have hsls:=K.notSet;have hslf:=K.notFrozen;have hne:=K.notDict;unfold D2.«set.__init__» noKeywords Builtin.Frozenset.updateFrom;generalize hPI:pyIter=PI
    wp_walk
    subst hPI;have hh3:A.in1.in1.in1.handled=none:=by simp[hh]
    obtain⟨oI,St,hit,W,st⟩:=K.iter {s with heap:=s.heap.push (set0 w)} hok1;refine hit _ _ _ ?_;refine Aa (wpAny_runValue ?_);have hxS:x < s.heap.objs.size:=K.there _ hok;have hSf:s.heap.objs.size∉[(s.heap.push (set0 w)).objs.size,x]:=by
     rw[De];simp only[Ax,Bg,A6,or_false,not_or];exact⟨Ba (Fn _),Fc hxS⟩
    refine js5 (W _ hh3).toS s.heap.objs.size hSf rfl h64 (ks.length - 0) 0 _ (by omega) (A4 _) st (jtn (Ai _ hS)) ?_;intro s' hm hS';obtain⟨h',g',d',tk',os'⟩:=s';have eg:g'=s.gens:=hm.gens;have ed:d'=s.drawn:=hm.drawn;have eo:os'=s.os:=hm.os;subst eg;subst ed;subst eo;show Aw _ _ _ _ _ _;refine Ag ?_;show Aw _ _ (ret Bc) _ _ _;refine Ag ⟨rfl,h',tk',rfl,hS',λb o hb e=>?_⟩;have hb1:b≠s.heap.objs.size:=Ba hb;have hb2:b≠(s.heap.push (set0 w)).objs.size:=by
     rw[De];exact Ba (Ej hb)
    exact hm.heap b o (by simp only[Ax,Bg,A6,or_false,not_or];exact⟨hb1,hb2⟩) (Ai _ (Ai _ e))
   ·cases r₂ with
    |error e=>exact hr₂
    |ok fl₂ =>
     cases fl₂ with
     |ret r =>
      obtain⟨rfl,h',tk,rfl,hS',hk'⟩:=hr₂
      repeat (any_goals (first | assumption | wp_step))
      exact h _ _ hS' hk'
     |_=>exact hr₂.elim
  |_=>exact hr.elim
theorem jps {x:Addr} {ks:List Str} {items:Array Ad} (hk:∀i v,items[i]?=some v->SeqV ks i v) (hl:items.size=ks.length):TxSrc prog w "list" x ks (λh=>h.IsList x items) where
 type:=λs h=>h.typeIs
 there:=λh hl=>let⟨_,e,_⟩:=hl;Aq e
 keep:=λh h' hl k=>let⟨o,e,r⟩:=hl;⟨o,k o e,r⟩
 notSet:=by rw[Ey];kernel_rfl
 notFrozen:=by rw[Ey];kernel_rfl
 notDict:=by decide
 iter:=λs hok=>⟨_,(λi h=>h.IsListIter s.heap.objs.size x i/\h.IsList x items),(λA E Q hq=>wpAny_pyIter_list hok hq),(λA hh=>by
  have W:=Walks.list (prog:=prog) (w:=w) hh s.heap.objs.size x (Ba (let⟨_,e,_⟩:=hok;Aq e)) items;refine⟨W.sub,W.frame,λi s Q E hi st hQ=>W.item i s Q E (by rw[hl];exact hi) st λv h' tk hv a b=>hQ v h' tk (hk i v hv) a b,?_,W.self⟩;rw[<-hl];exact W.done),⟨⟨_,Av _ rfl,rfl,rfl⟩,hok.push _⟩⟩
theorem jm4 {x:Addr} {ks:List Str} {items:Array Ad} (hk:∀i v,items[i]?=some v->SeqV ks i v) (hl:items.size=ks.length):TxSrc prog w "tuple" x ks (λh=>h.IsTuple x items) where
 type:=λs h=>h.typeIs
 there:=λh hl=>let⟨_,e,_⟩:=hl;Aq e
 keep:=λh h' hl k=>let⟨o,e,r⟩:=hl;⟨o,k o e,r⟩
 notSet:=by rw[Ey];kernel_rfl
 notFrozen:=by rw[Ey];kernel_rfl
 notDict:=by decide
 iter:=λs hok=>⟨_,(λi h=>h.IsTupleIter s.heap.objs.size x i/\h.IsTuple x items),(λA E Q hq=>wpAny_pyIter_tuple hok hq),(λA hh=>by
  have W:=Walks.tuple (prog:=prog) (w:=w) hh s.heap.objs.size x (Ba (let⟨_,e,_⟩:=hok;Aq e)) items;refine⟨W.sub,W.frame,λi s Q E hi st hQ=>W.item i s Q E (by rw[hl];exact hi) st λv h' tk hv a b=>hQ v h' tk (hk i v hv) a b,?_,W.self⟩;rw[<-hl];exact W.done),⟨⟨_,Av _ rfl,rfl,rfl⟩,hok.push _⟩⟩
end
end L2
namespace L2
open PySem PySem.Spec PyProof.Rows
def tyD:Ab->String
 |.none=>"NoneType"
 |.bool _=>"bool"
 |.int _=>"int"
 |.str _=>"str"
 |.list _=>"list"
 |.tuple _=>"tuple"
 |.dict _=>"dict"
def isiB (T:String) (d:Ab):Bool:=tyD d==T || (T=="int"&&tyD d=="bool")
def jbx (h:Str):Ab->Bool
 |.str x=>decide (x=h)
 |_=>false
end L2
namespace L2
open PySem PySem.Spec PyProof.Rows PySem.W
theorem jzg {ks:List Str} {p:Array Nat} {n:Nat} (hz:p.size=n) (h:KS.SP (KS.ltK ks) p n):(p.toList.map λi=>ks.getD i ⟨#[]⟩).Pairwise (λa b=>¬b.cps.toList < a.cps.toList):=by
 rw[List.pairwise_iff_getElem];intro i j hi hj hij;rw[Ae,A7,hz]at hi hj;have:=h i j hij hj;unfold KS.ltK KS.g at this;have e1:p.getD i 0=p[i]:=by simp[hz,hi]
 have e2:p.getD j 0=p[j]:=by simp[hz,hj]
 rw[e1,e2]at this;simp only[List.getElem_map,Array.getElem_toList];exact of_decide_eq_false this
def TxOk (vs:List Ad) (ks:List Str):Prop:=vs.length=ks.length/\∀(j:Nat) v,vs[j]?=some v->∃k t,ks[j]?=some k/\v=.str k t
theorem jip {vs:List Ad} {ks:List Str} (h:TxOk vs ks):∀(idx:List Nat),(∀i∈idx,i < ks.length)->Vals ((idx.map λi=>ks.getD i ⟨#[]⟩).map V.str) (idx.map λi=>vs.getD i Bc)
 |[],_=>.nil
 |i::r,hi=>by
  have h1:=hi i An;have h2:i < vs.length:=by rw[h.1];exact h1
  obtain⟨k,t,e1,e2⟩:=h.2 i vs[i] (Al h2);refine .cons ⟨t,?_⟩ (jip h r λj hj=>hi j (Ak _ hj));simp[h2,e1,e2]
theorem jnx {ks:List Str} {idx:List Nat} (h:idx.Perm (Bt ks.length)):(idx.map λi=>ks.getD i ⟨#[]⟩).Perm ks:=by
 have h1:=h.map λi=>ks.getD i (⟨#[]⟩:Str);have h2:(Bt ks.length).map (λi=>ks.getD i (⟨#[]⟩:Str))=ks:=by
  apply List.ext_getElem (by simp);intro i h1 h2;simp[h2]
 rw[h2]at h1;exact h1
end L2
namespace L2
open PySem PySem.Spec PyProof.Rows
end L2
namespace L2
open PySem PySem.Spec PyProof.Rows PySem.SeqAt
mutual
def ltd:Ab->Ab->Option Bool
 |.int i,.int j=>some (decide (i < j))
 |.str x,.str y=>some (decide (x.cps.toList < y.cps.toList))
 |.tuple xs,.tuple ys=>ja4 xs ys
 |_,_=>none
def ja4:List Ab->List Ab->Option Bool
 |[],[]=>some false
 |[],_::_=>some true
 |_::_,[]=>some false
 |x::xs,y::ys=>if Bk x y=true then ja4 xs ys else ltd x y
end
mutual
theorem jlr:∀(d e:Ab) (A:Bj) (s:Ah) (a b:Ad) (as bs:List Addr) (k:Bool),Reads s.heap a d as->Reads s.heap b e bs->d.canLay0=true->e.canLay0=true->A.units+d.depth+e.depth < Dn->ltd d e=some k->LtAt A s a b k
 |.int i,e,A,s,_,_,_,_,k,ra,rb,_,_,_,h=>by
  cases e<;>first | (simp[ltd]at h;done) | skip
  cases ra;cases rb;simp only[ltd,Option.some.injEq]at h;subst h;exact LtAt.int _ _ _ _
 |.str x,e,A,s,_,_,_,_,k,ra,rb,_,_,_,h=>by
  cases e<;>first | (simp[ltd]at h;done) | skip
  cases ra;cases rb;simp only[ltd,Option.some.injEq]at h;subst h;exact LtAt.str _ _ _ _
 |.tuple xs,e,A,s,_,_,_,_,k,ra,rb,ca,cb,hu,h=>by
  cases e<;>first | (simp[ltd]at h;done) | skip
  rename_i ys;cases ra with
  |tuple h1 h2 h3 h4 =>
   cases rb with
   |tuple g1 g2 g3 g4 =>
    rename_i o1 vs n1 a2 o2 ws n2;simp only[ltd]at h;rw[B3]at ca cb;rw[Cc,Cc]at hu;refine LtAt.tuples (xs:=vs) (ys:=ws) ⟨_,h1,h2,_,h3⟩ ⟨_,g1,g2,_,g3⟩ (by omega) ?_;have hsz:decide (vs.size < ws.size)=decide (xs.length < ys.length):=by
     have e1:=ReadsAll.length _ _ _ h4;have e2:=ReadsAll.length _ _ _ g4;rw[A7]at e1 e2;rw[e1,e2]
    rw[hsz];exact jcn xs ys A.in1 s _ _ _ _ k _ h4 g4 ca cb (by show A.units+1+_+_ < _;omega) h 0 (by simp)
 |.none,e,_,_,_,_,_,_,_,_,_,_,_,_,h=>by cases e<;>(simp[ltd]at h)
 |.bool _,e,_,_,_,_,_,_,_,_,_,_,_,_,h=>by cases e<;>(simp[ltd]at h)
 |.list _,e,_,_,_,_,_,_,_,_,_,_,_,_,h=>by cases e<;>(simp[ltd]at h)
 |.dict _,e,_,_,_,_,_,_,_,_,_,_,_,_,h=>by cases e<;>(simp[ltd]at h)
theorem jcn:∀(xs ys:List Ab) (A:Bj) (s:Ah) (vs ws:List Ad) (as bs:List Addr) (k fin:Bool),ReadsAll s.heap vs xs as->ReadsAll s.heap ws ys bs->Bz xs=true->Bz ys=true->A.units+B5 xs+B5 ys < Dn->ja4 xs ys=some k ->
  ∀m:Nat,fin=decide (m+xs.length < m+ys.length)->LexAt A s fin (vs.zip ws) k
 |[],ys,A,s,_,_,_,_,k,fin,ra,rb,_,_,_,h,m,hf=>by
  cases ra;rw[List.zip_nil_left];cases ys with
  |nil=>rw[ja4]at h;cases h;rw[show fin=false by rw[hf];simp];exact .nil
  |cons y ys=>rw[ja4]at h;cases h;rw[show fin=true by rw[hf];simp];exact .nil
 |x::xs,[],A,s,_,_,_,_,k,fin,ra,rb,_,_,_,h,m,hf=>by
  cases rb;rw[List.zip_nil_right];rw[ja4]at h;cases h;rw[show fin=false by rw[hf];simp];exact .nil
 |x::xs,y::ys,A,s,_,_,_,_,k,fin,ra,rb,ca,cb,hu,h,m,hf=>by
  cases ra with
  |cons r1 r2 =>
   cases rb with
   |cons t1 t2 =>
    rw[Bz,Bs]at ca cb;rw[B5,B5]at hu;rw[List.zip_cons_cons];have he:=eqAt_reads x y A s _ _ _ _ r1 t1 ca.1 cb.1 (by omega);rw[ja4]at h;cases q:Bk x y with
    |true =>
     rw[q]at he;rw[if_pos q]at h;exact .same he (jcn xs ys A s _ _ _ _ k fin r2 t2 ca.2 cb.2 (by omega) h m (by rw[hf,Ar,Ar];simp))
    |false =>
     rw[q]at he;rw[if_neg (by rw[q];exact Am)]at h;exact .parts he (jlr x y A s _ _ _ _ k r1 t1 ca.1 cb.1 (by omega) h)
end
end L2
namespace L2
open PySem PySem.Spec PyProof.Rows PySem.SeqAt PySem.W
section
variable {prog:Bd} {w:Bq} {A:Bj} {E:Ad->Ah->Prop} {s:Ah}
theorem jon {fin:Bool} {Q:Bool->Ah->Prop}:∀{l:List (Ad×Ad)} {k:Bool} {i:Nat},LexAt A s fin l k->Q k s->KatLex prog w A false fin Q l i s
 |_,_,_,.nil,h=>kat_nil h
 |_,_,_,.same e r,h=>by
  refine kat_cons ?_;refine e _ _ _ _ ?_;exact kat_yes (jon r h)
 |_,_,i,.parts e l,h=>by
  refine kat_cons ?_;refine e _ _ _ _ ?_;refine kat_no ?_;rw[Bool.false_and];refine kat_one _ _ ?_;exact l prog w _ _ h
theorem jna {a kS:Addr} {st:SortSt} {keys:Array Ad} {out:List Ad} {e e1:Nat} {P:PySem.Fin->Ah->Prop} (nk:s.heap.get? kS=some (Bf "list" keys e)) (na:s.heap.get? a=some (Bf "list" #[] e1)) (hka:kS≠a) (hkz:keys.size < 64)
  (ho:(arrOf st).map (·.2)=out.toArray) (h64:out.length < 64) (hf:failedOf st=none)
  (h:∀(h':Heap) (tk c:Nat),(∀b o,b≠a->b≠kS->s.heap.get? b=some o->h'.get? b=some o)->h'.get? a=some (Bf "list" out.toArray c)->P (.done (.ret .none)) {s with heap:=h',toks:=tk}) :
  Aw (A1 prog w) A (ksk_tail a false e1 (.ref kS) st) P E s:=by
 have s1:=A2 s.heap kS (Bi λ_=>(#[]:Array Ad));have na1:(s.heap.update kS (Bi λ_=>(#[]:Array Ad))).get? a=some (Bf "list" #[] e1):=(s1.2 a hka.symm).trans na;have s2:=A2 (s.heap.update kS (Bi λ_=>(#[]:Array Ad))) a (Bi λ_=>out.toArray);obtain⟨c2,hc2⟩:∃c2,((s.heap.update kS (Bi λ_=>(#[]:Array Ad))).update a (Bi λ_=>out.toArray)).get? a=some (Bf "list" out.toArray c2):=⟨_,Dz na1 λ_=>out.toArray⟩;unfold ksk_tail;dsimp only;rw[ho];simp only[Bw,if_false];refine Aa (D5 nk rfl ?_ (by rw[Cf];omega) (A4 _));refine Aa (wpAny_letGo ?_);refine Aa (seqEpoch_at na1 rfl ?_);refine Aa (D5 na1 rfl ?_ (A4 _) (by rw[Ap,Cf];omega));rw[hf];simp only[bne_self_eq_false,Bw,if_false];exact Ag (h _ _ c2 (λb o hb hk q=>(s2.2 b hb).trans ((s1.2 b hk).trans q)) hc2)
def srt (lt:Nat->Nat->Bool) (n:Nat):List Nat:=if n < 2 then Bt n else(KS.run lt (Fl n)).toList
theorem jv3 {a kS:Addr} {keys vs:List Ad} {e e1:Nat} {lt:Nat->Nat->Bool} {P:PySem.Fin->Ah->Prop} (nk:s.heap.get? kS=some (Bf "list" keys.toArray e)) (na:s.heap.get? a=some (Bf "list" #[] e1)) (hka:kS≠a)
  (hl:keys.length=vs.length) (h64:vs.length < 64)
  (T:2<=vs.length->∃fs,KatTups s.heap keys fs/\0 < fs.length/\∀v∈fs,Looks (A1 prog w) s.heap (typeOf v) (C6 "tuple"))
  (ask:∀i j,i < vs.length->j < vs.length->∀C:Bool->Ah->Prop,C (lt i j) s->kas_ask prog w A (tuples' false) keys i j C s)
  (h:∀(idx:List Nat) (h':Heap) (tk c:Nat),idx.Perm (Bt vs.length)->idx=srt lt vs.length->(∀b o,b≠a->b≠kS->s.heap.get? b=some o->h'.get? b=some o) ->
   h'.get? a=some (Bf "list" (Cw (idx.map λi=>vs.getD i Bc)) c)->P (.done (.ret .none)) {s with heap:=h',toks:=tk}) :
  Aw (A1 prog w) A (ksk_end a false vs.toArray e1 (.ref kS) keys.toArray) P E s:=by
 unfold ksk_end;dsimp only;simp only[Bw,if_false];by_cases h2:vs.toArray.size < 2
 ·rw[if_pos h2,if_pos h2];refine Aa (Ag ?_);rw[StateT.run_pure];refine Aa (Ag ?_);dsimp only;rw[Ap]at h2;have el:vs=(Bt vs.length).map λi=>vs.getD i Bc:=by
   apply List.ext_getElem (by simp);intro i h1 h2;simp[h1]
  refine jna nk na hka (by rw[Ap];omega) (out:=vs) ?_ h64 rfl λh' tk c k hL=>h (Bt vs.length) h' tk c (List.Perm.refl _) (by unfold srt;rw[if_pos h2]) k (by rw[<-el];exact hL)
  ·show(keys.toArray.zip vs.toArray).map (·.2)=vs.toArray;apply Fj.mp;simp only[Array.toList_map,Array.toList_zip];exact List.map_snd_zip (Nat.le_of_eq hl.symm)
 ·rw[if_neg h2,if_neg h2];rw[Ap]at h2;obtain⟨fs,t,hne,hT⟩:=T (by omega);refine Aa (kat_kind t hne hT rfl ?_);have hn:0 < vs.length:=by omega
  have hwi:=KS.wi_sort hn;refine Aa (Ci (kat_run (ks:=keys) (vs:=vs) (κ:=tuples' false) (G:=λp s'=>s'=s/\p=KS.run lt (Fl vs.length)) (Q:=λst' s'=>∃p:Array Nat,p.size=vs.length/\arrOf st'=p.map (kas_item (keys.toArray.zip vs.toArray))/\failedOf st'=none/\s'=s/\p=KS.run lt (Fl vs.length))
   hl (by omega) h64 (λp' st' s' a1 a2 a3 a4=>⟨p',a1,a2,a3,a4⟩) ?_) ?_ λ_ _ e=>e)
  ·exact KS.wp_run (n:=vs.length) (P:=KS.Pm vs.length) (c:=lt) (St:=λs'=>s'=s) (λi j C s' hi hj hs hC=>by subst hs;exact ask i j hi hj C (hC _ rfl)) _ _ hwi rfl λs' hs'=>⟨hs',rfl⟩
  ·rintro⟨⟨⟩,st'⟩ s' ⟨p,hp,har,hf,rfl,rfl⟩
   dsimp only;have hpm:KS.Pm vs.length (KS.run lt (Fl vs.length)):=KS.Wi.out _ hwi;have hidx:(KS.run lt (Fl vs.length)).toList.Perm (Bt vs.length):=by
    have:=Fz.mp hpm;simpa using this
   exact jna nk na hka (by rw[Ap];omega) (kat_snds hl har) (by rw[Ae,A7,hp];exact h64) hf λh' tk c k hL=>h _ h' tk c hidx (by unfold srt;rw[if_neg h2]) k hL
theorem jtl {a:Addr} {f:Ad} {vs:List Ad} {n:Nat} {P:PySem.Fin->Ah->Prop} (ho:s.heap.get? a=some (Bf "list" vs.toArray n)) (h64:vs.length < 64)
  (h:∀(h3:Heap) (e1:Nat),(∀b o,b≠a->s.heap.get? b=some o->h3.get? b=some o)->h3.get? a=some (Bf "list" #[] e1)->s.heap.objs.size<=h3.objs.size ->
   Aw (A1 prog w) A (ksk_rest a f false vs.toArray e1 (.ref h3.objs.size)) P E {s with heap:=h3.push (Bf "list" #[] 0)}) :
  Aw (A1 prog w) A (ksk_tree a f false) P E s:=by
 have s1:=A2 s.heap a (Bi λ_=>(#[]:Array Ad));obtain⟨e1,ho1⟩:∃e1,(s.heap.update a (Bi λ_=>(#[]:Array Ad))).get? a=some (Bf "list" #[] e1):=⟨_,Dz ho λ_=>#[]⟩;unfold ksk_tree;refine Aa (listItems_at ho rfl ?_);refine Aa (D5 ho rfl ?_ (by rw[Ap,Cf];omega) (A4 _));refine Aa (seqEpoch_at ho1 rfl ?_);refine Aa (wpAny_newTuple ?_ (by show vs.length<=_;rw[Cf];omega));refine Aa (Fw ?_ (A4 _));refine B6 ?_;exact h ((s.heap.update a (Bi λ_=>(#[]:Array Ad))).push (Bf "tuple" vs.toArray 0)) e1 (λb o hb q=>Ai _ ((s1.2 b hb).trans q)) (Ai _ ho1) (by rw[size_push',Heap.size_update];exact Nat.le_succ _)
theorem jc6 {r:Ad} {q:Addr} {Q:Ad->Ah->Prop} {R:List Ad->Ah->Prop} (hcol:Aw (A1 prog w) A.in1 (collect r) R E s)
  (h:∀vs s1,R vs s1->vs.length<=Az/\Aw (A1 prog w) A.in1.in1 (ksk_tree s1.heap.objs.size (.ref q) false) (λf s2=>f=.done (.ret .none)/\Q (.ref s1.heap.objs.size) s2) E {s1 with heap:=s1.heap.push (Bf "list" vs.toArray 0)}) :
  Aw (A1 prog w) A (call (.builtin "sorted") [r] [(Cy "key",.ref q)]) Q E s:=by
 refine call_function_entry_kw kind_sorted plain_sorted entry_sorted (ksk_s1 _ _) ?_;unfold D2.«sorted»;refine Aa (m:=checkCount "sorted" 1 1 _) (Ag ?_);refine Aa (Ci hcol (λvs s1 hr=>?_) λ_ _ e=>e);obtain⟨hl,hs⟩:=h vs s1 hr;refine Aa (Fw ?_ hl);have hoL:(s1.heap.push (Bf "list" vs.toArray 0)).get? s1.heap.objs.size=some (Bf "list" vs.toArray 0):=Av _ rfl;refine Aa (B6 (wpAny_call_entry_kw (s:={ s1 with heap:=s1.heap.push (Bf "list" vs.toArray 0)}) slot_list_sort ⟨_,hoL,rfl⟩ entry_list_sort ?body (ksk_l1 _ _)))
 case body =>
  show Aw (A1 prog w) A.in1.in1 (D2.«list.sort» ⟨[.ref s1.heap.objs.size],[(Cy "key",.ref q)]⟩) _ _ _;rw[ksk_t1];refine Ci hs (λf s2 hf=>?_) λ_ _ e=>e;obtain⟨rfl,hq⟩:=hf;exact⟨_,rfl,Ag ⟨_,rfl,hq⟩⟩
end
end L2
namespace L2
open PySem PySem.Spec PyProof.Rows
def DEs (h:Heap) (d:Addr) (es:Array DictEntry) (ep:Nat):Prop:=∃o,h.get? d=some o/\o.ExactDict/\o.data=.dict es ep
abbrev RowP:=Addr×Addr×List Key×V
def jwj (l:Addr) (ps:List RowP):HO:=.ext λh=>(l==Ef)=false/\∃es ep,DEs h l es ep/\es.size<=ps.length/\∀e∈es.toList,∃p∈ps,e.key=.ref p.2.1
end L2
namespace L2
open PySem PySem.Spec PyProof.Rows PySem.W
section
variable {prog:Bd} {w:Bq} {A:Bj} {E:Ad->Ah->Prop} {s:Ah} {d it:Addr} {es:Array DictEntry} {ep i:Nat}
theorem DEs.ty (x:DEs s.heap d es ep):s.TypeIs (.ref d) "dict":=let⟨o,e,c,_⟩:=x;⟨o,e,c.1⟩
theorem jus {Q:Ad->Ah->Prop} (hd:(d==Ef)=false) (x:DEs s.heap d es ep)
  (k:Q (.ref s.heap.objs.size) {s with heap:=s.heap.push {cls:=.type "dict_keyiterator",data:=.fields #[.ref d,.int 0 0,.int es.size 0,.int ep 0]}}):Aw (A1 prog w) A (pyIter (.ref d)) Q E s:=by
 obtain⟨o,x1,x2,x3⟩:=id x;refine wpAny_pyIter_slot x.ty F.slot_dict_iter (Ca F.slot_dict_iter x.ty F.entry_dict_iter ?_ (F.args_dict_iter_1 _));unfold D2.«dict.__iter__»;refine Aa ?_;unfold Builtin.Dict.dictSlotNone;refine Aa (wpAny_notOrdered_dict x.ty ?_);refine(show Aw _ _ (pure (Bb d)) _ _ s from Ag ?_);refine(show Aw _ _ (Builtin.Dict.showsAll d>>=_) _ _ s from ?_);unfold Builtin.Dict.showsAll;rw[if_neg (show ¬(d==Ef)=true by rw[hd];decide)];refine Aa (Ag (Aa (wpAny_dictEntries x1 x3 (Aa (wpAny_dictEpoch x1 x3 ?_)))));refine Aa (Bo (Ag ⟨_,rfl,"dict_keyiterator",_,⟨_,Av _ rfl,rfl⟩,F.slot_dict_keyiterator_next.lookup,?_⟩));simpa[Cs]using k
theorem jkz {Q:Option Ad->Ah->Prop} (y:s.heap.IsKeyIter it d i es.size ep) (x:DEs s.heap d es ep)
  (hI:i < es.size->∀h',h'.IsKeyIter it d (i+1) es.size ep->Cr it s.heap h'->Q (some (es.getD i ⟨0,.none,.none⟩).key) {s with heap:=h'})
  (hE:es.size<=i->A.handled=none/\∀h',Heap.ExtBut it s.heap h'->Q none {s with heap:=h'}):Aw (A1 prog w) A (Eg (.ref it)) Q E s:=by
 obtain⟨u,y1,y2,y3⟩:=id y;obtain⟨o,x1,x2,x3⟩:=id x;unfold Eg;refine Aa (El (Cb (name:=Cy "__next__") y.typeIs F.slot_dict_keyiterator_next (Ca F.slot_dict_keyiterator_next y.typeIs F.entry_dict_keyiterator_next ?_ (F.args_dict_keyiterator_next_1 _))));refine Aa (Ag (Aa (Aa ?_)))
 first | refine Aa (Fx y.typeIs (Ag ?_)) | refine Aa (F4 y.typeIs (Ag ?_))
 refine Aa (Ex y1 y3 ?_);simp only[show Builtin.Dict_items.ownsTuple "dict_keyiterator"=false by decide,Bw,if_false];refine(show Aw _ _ (if (Bb d==Bc)=true then _ else _) _ _ s from ?_);rw[if_neg (show ¬((Bb d==Bc)=true) by exact Am)];refine Aa (Ag (Aa (wpAny_dictEntries x1 x3 ?_)));rw[if_neg (show ¬_ by simp)];refine Aa (Ag (Aa (wpAny_dictEpoch x1 x3 ?_)));rw[if_neg (show ¬_ by simp)];refine Ag ?_;by_cases hi:i < es.size
 ·simp only[show ¬((i:Int) < 0) by omega,if_false,Bv,Ep hi];refine Aa ?_
  first | refine Aa (Fx y.typeIs (Ag ?_)) | refine Aa (F4 y.typeIs (Ag ?_))
  refine Aa (wpAny_isOneOf_keyiter y.typeIs ?_);refine(show Aw _ _ (setField (.ref it) 1 (Cs ((i:Int)+1))>>=_) _ _ s from Aa (C4 y1 y3 (by simp) ?_));have z:(s.heap.update it (Obj.mapFields (·.setIfInBounds 1 (Cs ((i:Int)+1))))).IsKeyIter it d (i+1) es.size ep :=
   ⟨_,Br _ y1 (C7 (Bx y3 _)),(Ei ..).trans y2,by rw[Bx y3];simp[Cs]⟩
  refine Aa (B6 (Aa (wpAny_isOneOf_keyiter (s:={ s with heap:=s.heap.update it (Obj.mapFields (·.setIfInBounds 1 (Cs ((i:Int)+1))))}) z.typeIs ?_)));have kk:=hI hi _ z (A2 ..);rw[show es.getD i ⟨0,.none,.none⟩=es[i] by simp[hi]]at kk;exact(show Aw _ _ (pure es[i].key) _ _ _ from Ag (Ag ⟨_,rfl,Ag kk⟩))
 ·obtain⟨hh,kk⟩:=hE (by omega);simp only[show ¬((i:Int) < 0) by omega,if_false,Bv,Array.getElem?_eq_none (show es.size<=i by omega)];refine Aa ?_
  first | refine Aa (Fx y.typeIs (Ag ?_)) | refine Aa (F4 y.typeIs (Ag ?_))
  refine(show Aw _ _ (setField (.ref it) 0 .none>>=_) _ _ s from Aa (C4 y1 y3 (by simp) ?_));refine(show Aw _ _ (newExc (.type "StopIteration") []>>=_) _ _ _ from Aa ?_);simp only[newExc,newTuple];refine Aa (Bo (Aa (m:=D9 _ _) (wpAny_of_eq (a:=Bc) (by first | rfl | (simp only[D9];rfl)) (Bo ?_ (by size_fits)))) (by size_fits));simp only[raiseNew];refine Aa (wpAny_handled ?_);rw[show A.in1.handled=none by exact hh];refine Aa (Ag (wpAny_throw (?_:Aw _ _ _ _ _ _)));refine Aa (E3 (T:="StopIteration") (b:=true) ⟨_,Av _ rfl,rfl⟩ isSubtype_stop (?_:Aw _ _ _ _ _ _));exact Ag (kk _ (((A2 ..).extBut.push _).push _))
theorem DEs.keep {h h':Heap} (x:DEs h d es ep) (k:∀o,h.get? d=some o->h'.get? d=some o):DEs h' d es ep:=let⟨o,e,r⟩:=x;⟨o,k o e,r⟩
theorem joy (lo:(d==Ef)=false):KdlSrc prog w "dict" d d es.size (λi v=>(es[i]?).map (·.key)=some v) (λh=>DEs h d es ep) where
 type:=λ_ x=>x.ty
 there:=λ_ x=>let⟨_,e,_⟩:=x;⟨Aq e,Aq e⟩
 keep:=λ_ _ x k=>x.keep λo e=>k d (.inl rfl) o e
 notList:=by decide
 notTuple:=by decide
 hint:=λ_ _ _ _ x q=>kdl_hint_dict x.ty q
 iter:=λA s hh x=>by
  obtain⟨ob,x1,x2⟩:=id x;have hlt:d < s.heap.objs.size:=Aq x1;refine⟨{cls:=.type "dict_keyiterator",data:=.fields #[.ref d,.int 0 0,.int es.size 0,.int ep 0]},λi h=>h.IsKeyIter s.heap.objs.size d i es.size ep/\DEs h d es ep,λ_ _ q=>jus lo x q,?_,⟨_,Av _ rfl,rfl,rfl⟩,x.keep λo e=>Ai _ e⟩;exact
   { sub:=λb hb=>by simp at hb;simp[hb],frame:=λ_ _ _ st hk=>⟨st.1.at λo e=>hk _ (by simp) o e,st.2.keep λo e=>hk d (by simp) o e⟩,item:=λi s' Q E hi st hQ=>jkz st.1 st.2 (λhi' h' z sb=>hQ _ h' s'.toks (by simp[hi]) ⟨z,st.2.keep λo e=>sb.extBut d o (Ba hlt) e⟩ λb o hb e=>sb.extBut b o (λh=>hb (by simp[h])) e) (λz=>absurd hi (by omega)),done:=λs' Q E st hQ=>jkz st.1 st.2 (λz=>absurd z (by omega)) (λ_=>⟨hh,λh' he=>hQ h' s'.toks λb o hb e=>he b o (λh=>hb (by simp[h])) e⟩),self:=λ_ _ _ _ st hQ=>wpAny_pyIter_keyiter st.1 hQ}
end
end L2
namespace L2
open PySem PySem.Spec PyProof.Rows
end L2
namespace L2
open PySem PySem.Spec PyProof.Rows PySem.SeqAt PySem.W
def jjk (sp:Sp):List V->Hp->(List V->Hp->Prop)->Prop
 |[],H,Q=>Q [] H
 |x::r,H,Q=>sp [x] H (λk H'=>jjk sp r H' λks H''=>Q (k::ks) H'') E0
def jk9 (ds:List (List Ab)) (lt:Nat->Nat->Bool):Prop :=
 (∀d∈ds,(∃y r,d=.tuple y::r)/\Bz d=true/\B5 d<=20)/\∀i j x y,ds[i]?=some x->ds[j]?=some y->ja4 x y=some (lt i j)
def jkp (K:Af) (xs:List V) (Q:VK):List V->Hp->Prop:=λks H1=>∃ds lt,ds.length=xs.length/\RdAll K H1 ks (ds.map Cn)/\jk9 ds lt /\
 ∀D,H1 D=none->∀idx:List Nat,idx.Perm (Bt xs.length)->idx=srt lt xs.length->Q (.ref D) (upd H1 D (.lst (idx.map λi=>xs.getD i .non)))
def jnk (K:Af) (sp:Sp):V->Hp->VK->Prop:=λx H Q=>(∃a xs,x=.ref a/\(SqL K H a xs\/SqT K H a xs)/\xs.length < 64/\jjk sp xs H (jkp K xs Q)) \/
 ∃d qs,x=.ref d/\H d=some (jwj d qs)/\qs.length < 64/\∀xs:List V,xs.length<=qs.length->(∀v∈xs,∃p∈qs,v=V.ref p.2.1)->jjk sp xs H (jkp K xs Q)
def jmp (K:Af) (sp:Sp) (t:TE):TE:=λσ H Q=>t σ H λx H1=>jnk K sp x H1 Q
section
variable {prog:Bd} {w:Bq} {A:Bj} {E:Ad->Ah->Prop} {s:Ah}
theorem jeu {l:Addr} {o:Obj} {T:String} {items:List Ad} {n:Nat} {Q:List Ad->Ah->Prop} (ho:s.heap.get? l=some o) (hc:o.cls=.type T) (hT:T="list"\/T="tuple") (hd:o.data=.seq items.toArray n) (hz:items.length<=Az)
  (h:∀h',(∀b u,s.heap.get? b=some u->h'.get? b=some u)->s.heap.objs.size<=h'.objs.size->Q items {s with heap:=h'}):Aw (A1 prog w) A (collect (.ref l)) Q E s:=by
 have sb:=A2 (s.heap.push (Bf "list" #[] 0)) s.heap.objs.size (Bi (·++items.toArray));have q:=h ((s.heap.push (Bf "list" #[] 0)).update s.heap.objs.size (Bi (·++items.toArray))) (λb u e=>(sb.2 b (Ba (Aq e))).trans (Ai _ e)) (by rw[Heap.size_update,size_push'];exact Nat.le_succ _);unfold collect;refine Aa (wpAny_runValue (C9 entry_proto_collect' ?_));show Aw _ _ (do again (.builtin "list.__iadd__" ⟨[<-newList [],.ref l],[]⟩)) _ _ s;refine Aa (Fw (Ag ⟨Code.quiet_builtin _ (by decide +kernel),C9 entry_list_iadd' ?_⟩));show Aw _ _ (Df (.ref s.heap.objs.size) (.ref l) (.ref s.heap.objs.size)) _ _ {s with heap:=s.heap.push (Bf "list" #[] 0)};unfold Df;have ho':(s.heap.push (Bf "list" #[] 0)).get? l=some o:=Ai _ ho;refine Aa (E2 (T:=T) ⟨o,ho',hc⟩ ?_);have ht:(Fu (.ref s.heap.objs.size) (.ref l) || C6 T==C6 "list" || C6 T==C6 "tuple")=true:=by
  rcases hT with rfl | rfl<;>simp
 rw[if_pos ht];refine Aa (listItems_at ho' hd ?_);refine Aa (listItems_at (xs:=#[]) (n:=0) (Av _ rfl) rfl ?_);rw[if_neg (by simp)];refine Aa (D5 (xs:=#[]) (n:=0) (Av _ rfl) rfl ?_ (A4 _) (by simp only[Array.size_append,Ap,List.length_nil];omega));refine Ag ?_;show Aw (A1 prog w) A (do
   let o <-load s.heap.objs.size
   match o.data with
   |.seq xs _=>pure xs.toList
   |_=>unsupported "internal:collect") Q E {s with heap:=(s.heap.push (Bf "list" #[] 0)).update s.heap.objs.size (Bi (·++items.toArray))}
 refine Aa (wpAny_load (Dz (Av _ rfl) _) ?_);show Aw _ _ (pure ((#[]:Array Ad)++items.toArray).toList) Q E _;rw[show((#[]:Array Ad)++items.toArray).toList=items by simp];exact Ag q
end
section
variable {X:Cx} {pins:List (Addr×Obj)} {σ:St} {H:Hp} {s:Ah} {k:Nat} {f:Addr} {fd:B8} {ps:List Str} {sp:Sp}
theorem Inv.collects {a:Addr} {xs:List V} (I:Inv X pins σ H s) (h:SqL X.K H a xs\/SqT X.K H a xs):∃its:List Ad,Vals xs its/\xs.length<=Az/\∀(A:Bj) (E:Ad->Ah->Prop) (Q:List Ad->Ah->Prop),
  (∀h',(∀b u,s.heap.get? b=some u->h'.get? b=some u)->s.heap.objs.size<=h'.objs.size->Q its {s with heap:=h'})->Aw (A1 X.prog X.w) A (collect (.ref a)) Q E s:=by
 rcases h with h | h
 ·obtain⟨its,r,⟨o,n,e,c,_,d⟩,z⟩:=I.list h;exact⟨its,r,z,λA E Q q=>jeu e c (.inl rfl) d (by rw[<-r.length];exact z) q⟩
 ·obtain⟨its,r,⟨o,e,c,n,d⟩,z⟩:=I.tuple h;exact⟨its,r,z,λA E Q q=>jeu e c (.inr rfl) d (by rw[<-r.length];exact z) q⟩
theorem jtq {Q:VK} {u:Ad} {x:V} (F:FnOk X.prog X.w X.K X.mg X.base CX0 k f fd ps sp) (hr:Room (k+2) X.A) (hb:Binds X.K fd ps []) (I:Inv X pins σ H s) (r:RelV x u) (h:sp [x] H Q E0) :
  Aw (A1 X.prog X.w) X.A.in1.in1 (call (.ref f) [u]) (EP X pins σ Q) (λ_ _=>False) s:=by
 have hl:([u]++[]).length=ps.length:=by have:=F.len _ _ _ _ h;simpa using this
 refine wpAny_call (Fm (F.run X.A.in1.in1 X.stack s H ⟨[u],[]⟩ ([u]++[]) [x] Q E0 hr.in1.in1 I.env0.in1.in1 (hb s [u] I.kIn hl) (.cons r .nil) h) λr s' hq=>?_);cases r with
 |error e=>exact False.elim hq
 |ok fl =>
  cases fl with
  |ret u=>exact I.after hq
  |next=>exact False.elim hq
  |brk=>exact False.elim hq
  |cont=>exact False.elim hq
structure Fre (X:Cx) (pins:List (Addr×Obj)) (b:Addr):Prop where
 sz:X.s₀.heap.objs.size<=b
 cells:∀x c,X.env.cells.lookup x=some c->c≠b
 pins:∀p∈X.pn++pins,p.1≠b
 loc:b≠X.env.locals
 fs:b∉X.fs
theorem Inv.fre (I:Inv X pins σ H s) {b:Addr} (h:s.heap.objs.size<=b):Fre X pins b:=by
 refine⟨A5 I.sz h,λx c e z=>?_,λp hp z=>?_,λz=>?_,I.nofs h⟩
 ·obtain⟨v,o,ho,_⟩:=I.cell x c e;have:=Aq ho;rw[z]at this;exact absurd (A8 this h) (Dl _)
 ·have:=Aq (I.pin p hp).1;rw[z]at this;exact absurd (A8 this h) (Dl _)
 ·have:=I.lt;rw[<-z]at this;exact absurd (A8 this h) (Dl _)
theorem Inv.track {o:HO} {h':Heap} {t':Nat} {D kS:Addr} (I:Inv X pins σ H s) (k:∀b u,b≠D->b≠kS->s.heap.get? b=some u->h'.get? b=some u) (hD:H D=none) (hk:H kS=none) (fD:Fre X pins D) (fk:Fre X pins kS)
  (new:ObjOk X.prog X.w (upd H D o) h' D o):Inv X pins σ (upd H D o) {s with heap:=h',toks:=t'}:=by
 have nD:∀b u,H b=some u->b≠D:=λb u e z=>by rw[z,hD]at e;cases e
 have nk:∀b u,H b=some u->b≠kS:=λb u e z=>by rw[z,hk]at e;cases e
 have c1:∀{b:Addr},b∉[D,kS]->b≠D:=λhc z=>hc (by simp[z]);have c2:∀{b:Addr},b∉[D,kS]->b≠kS:=λhc z=>hc (by simp[z]);refine I.step (g':=s.gens) (d':=s.drawn) (ch:=[D,kS]) (λb hb=>?_) (λb o _ _ hc e _=>k b o (c1 hc) (c2 hc) e) (λb o _ _ hc e _=>⟨o.slots,k b o (c1 hc) (c2 hc) e⟩) (λb o hc e n=>by rw[jad (c1 hc)];exact n)
  (λb o hc e=>⟨o,k b o (c1 hc) (c2 hc) e⟩) (λb xs e=>by rw[jad (nD b _ e)];exact e) (λb o u e=>by rw[jad (nD b _ e)];exact e) (λb ps e=>⟨#[],by rw[jad (nD b _ e),e];simp⟩) (λm hm=>?_) (λb u e=>?_) I.bare
 ·have:b=D\/b=kS:=by simpa using hb
  rcases this with rfl | rfl
  ·exact⟨.inr fD.sz,fD.loc,fD.cells,fD.pins⟩
  ·exact⟨.inr fk.sz,fk.loc,fk.cells,fk.pins⟩
 ·obtain⟨o,es,ep,ho,r⟩:=hm;exact⟨o,es,ep,k _ o (Ne.symm fD.loc) (Ne.symm fk.loc) ho,r⟩
 ·by_cases hb:b=D
  ·subst hb;rw[jaf]at e;cases e;exact new
  ·rw[jad hb]at e;refine(I.hok b u e).stay (λc v hc q=>k c v ?_ ?_ q) (λc q=>by rw[jad (nD c _ q)];exact q) λc xs q=>by rw[jad (nD c _ q)];exact q
   ·rcases hc with z | z
    ·rw[z];exact hb
    ·exact nD c _ z
   ·rcases hc with z | z
    ·rw[z];exact nk b u e
    ·exact nk c _ z
theorem jp7 (I:Inv X pins σ H s) {ds:List Ab}:∀{ks:List V} {us:List Ad},RdAll X.K H ks ds->Vals ks us->us.length=ds.length/\∀(i:Nat) (u:Ad),us[i]?=some u->∃d as,ds[i]?=some d/\Reads s.heap u d as:=by
 induction ds with
 |nil=>intro ks us h v;cases h;cases v;exact⟨rfl,λi u e=>by simp at e⟩
 |cons d ds ih =>
  intro ks us h v;cases h with
  |cons r rs =>
   cases v with
   |@cons _ u _ _ q qs =>
    obtain⟨l,at'⟩:=ih rs qs;refine⟨by simp[l],λi v e=>?_⟩;cases i with
    |zero =>
     obtain⟨as,R⟩:=RdD.reads I r q;cases(show u=v by simpa using e);exact⟨d,as,rfl,R⟩
    |succ i=>simpa using at' i v (by simpa using e)
theorem jln (I:Inv X pins σ H s) {ds:List (List Ab)}:∀{ks:List V} {us:List Ad},RdAll X.K H ks (ds.map Cn)->Vals ks us->(∀d∈ds,∃y r,d=Cn y::r) ->
  ∃fs,KatTups s.heap us fs/\fs.length=us.length/\∀v∈fs,Looks (A1 X.prog X.w) s.heap (typeOf v) (C6 "tuple"):=by
 induction ds with
 |nil=>intro ks us h v _;cases h;cases v;exact⟨[],trivial,rfl,λv hv=>nomatch hv⟩
 |cons d ds ih =>
  intro ks us h v hd;cases h with
  |cons r rs =>
   cases v with
   |@cons _ u _ _ q qs =>
    obtain⟨fs,f1,f2,f3⟩:=ih rs qs λd hd'=>hd d (Ak _ hd');obtain⟨y,rr,rfl⟩:=hd d An;obtain⟨as,R⟩:=RdD.reads I r q;cases R with
    |tuple h1 h2 h3 h4 =>
     rename_i a' ob vs n;obtain⟨v,vr,ev⟩:∃v vr,vs.toList=v::vr:=by
      cases ev:vs.toList with
      |nil=>rw[ev]at h4;cases h4
      |cons v vr=>exact⟨v,vr,rfl⟩
     rw[ev]at h4;have hv0:vs[0]?=some v:=by
      rw[<-Cm,ev];rfl
     cases h4 with
     |cons hv hr' =>
      refine⟨v::fs,.cons h1 h2 h3 hv0 f1,by simp[f2],λx hx=>?_⟩;rcases Ax.mp hx with rfl | z
      ·cases hv with
       |tuple g1 g2 g3 g4 =>
        rw[<-g2];exact(Looks.ld g1).andThen .now
      ·exact f3 x z
end
theorem jmi {xs:List V} {vs:List Ad} (h:Vals xs vs):∀{j:Nat} {u:Ad},vs[j]?=some u->∃x,xs[j]?=some x/\RelV x u:=by
 induction h with
 |nil=>intro j u e;simp at e
 |cons r _ ih =>
  intro j u e;cases j with
  |zero=>cases(show _=u by simpa using e);exact⟨_,rfl,r⟩
  |succ j=>simpa using ih (by simpa using e)
theorem jh2 {xs:List V} {vs:List Ad} (h:Vals xs vs):∀(idx:List Nat),(∀i∈idx,i < vs.length)->Vals (idx.map λi=>xs.getD i .non) (idx.map λi=>vs.getD i Bc)
 |[],_=>.nil
 |i::r,hi=>by
  have h1:=hi i An;obtain⟨x,e,q⟩:=jmi h (Al h1);refine .cons ?_ (jh2 h r λj hj=>hi j (Ak _ hj));have e1:xs.getD i .non=x:=by simp[e]
  have e2:vs.getD i Bc=vs[i]:=by simp[h1]
  show RelV (xs.getD i .non) (vs.getD i Bc);rw[e1,e2];exact q
section
variable {X:Cx} {pins:List (Addr×Obj)} {σ:St} {H:Hp} {s:Ah} {k:Nat} {f:Addr} {fd:B8} {ps:List Str} {sp:Sp}
theorem jtm {a kS:Addr} {e1:Nat} {xs:List V} {vs:List Ad} {QK:List V->Hp->Prop} {P:PySem.Fin->Ah->Prop} {E:Ad->Ah->Prop} (F:FnOk X.prog X.w X.K X.mg X.base CX0 k f fd ps sp) (hr:Room (k+2) X.A) (hb:Binds X.K fd ps []) (h64:vs.length < 64) (hv:Vals xs vs) (hka:kS≠a) (fk:Fre X pins kS)
  (I:Inv X ((kS,Bf "list" #[] 0)::(a,Bf "list" #[] e1)::pins) σ H s) (q:jjk sp xs H QK)
  (fin:∀ks us e H1 s1,Inv X ((kS,Bf "list" us.toArray e)::(a,Bf "list" #[] e1)::pins) σ H1 s1->Vals ks us->us.length=vs.length->QK ks H1->Aw (A1 X.prog X.w) X.A.in1.in1 (ksk_end a false vs.toArray e1 (.ref kS) us.toArray) P E s1) :
  Aw (A1 X.prog X.w) X.A.in1.in1 (ksk_rest a (.ref f) false vs.toArray e1 (.ref kS)) P E s:=by
 have hlx:xs.length=vs.length:=hv.length;unfold ksk_rest;refine Aa (wpAny_rule ?_)
 first
  |rw[List.forIn_toArray]
  | (rw[<-Array.forIn_toList];simp only[List.toList_toArray])
 refine Aa (ksk_fold (λi s'=>∃us e H' ks,Inv X ((kS,Bf "list" us.toArray e)::(a,Bf "list" #[] e1)::pins) σ H' s'/\us.length=i/\Vals ks us/\jjk sp (xs.drop i) H' (λks' H''=>QK (ks++ks') H'')) vs 0 s
  ⟨[],0,H,[],I,rfl,.nil,by simpa using q⟩ ?step ?done)
 case step =>
  rintro j u s' hu ⟨us,e,H',ks,I',hl,hvs,hq⟩
  simp only[Nat.zero_add]at hl hq ⊢;have hj:j < vs.length:=(Bn.mp hu).1;obtain⟨x,hx,rx⟩:=jmi hv hu;have ed:xs.drop j=x::xs.drop (j+1):=by
   have hj':j < xs.length:=by omega
   rw[Eu hj'];rw[Al hj']at hx;rw[Bh hx]
  rw[ed]at hq;refine Aa (El (Ci (jtq F hr hb I' rx hq) (λv s'' he=>?_) λ_ _ hF=>hF.elim));obtain⟨kv,H2,I2,rk,q2⟩:=he;dsimp only;have nk:=I2.pin (kS,Bf "list" us.toArray e) (Ay _ (.head _));have s1:=A2 s''.heap kS (Bi (·.push v));obtain⟨c2,hc2⟩:∃c2,(s''.heap.update kS (Bi (·.push v))).get? kS=some (Bf "list" (us++[v]).toArray c2):=by
   have h:=Dz nk.1 (·.push v);rw[show us.toArray.push v=(us++[v]).toArray by simp]at h;exact⟨_,h⟩
  refine Aa (D5 nk.1 rfl ?_ (by rw[Ap,Cf];omega) (by rw[Array.size_push,Ap,Cf];omega));have I3:Inv X ((a,Bf "list" #[] e1)::pins) σ H2 s'':=I2.pins_of λp hp=>I2.pin p (Ay _ (.tail _ hp));have I4:Inv X ((a,Bf "list" #[] e1)::pins) σ H2 {s'' with heap:=s''.heap.update kS (Bi (·.push v))}:=by
   refine I3.turned (t':=s''.toks) (λb o hb q=>(s1.2 b hb).trans q) nk.2.1 fk.loc (.inr fk.sz) fk.cells λp hp=>?_;rcases A9.mp hp with z | z
   ·exact fk.pins p (Dd _ z)
   ·rcases Ax.mp z with rfl | z
    ·exact hka.symm
    ·exact fk.pins p (Ay _ z)
  refine Ag ⟨rfl,us++[v],c2,H2,ks++[kv],?_,by simp[hl],hvs.append (.cons rk .nil),?_⟩
  ·refine I4.pins_of λp hp=>?_;rcases Ax.mp hp with rfl | hp
   ·exact⟨hc2,nk.2.1,fk.loc,fk.fs,λv z=>nomatch z⟩
   ·exact I4.pin p (Ay _ hp)
  ·have:(λks' H''=>QK (ks++[kv]++ks') H'')=λks' H''=>QK (ks++kv::ks') H'':=by funext ks' H'';simp
   rw[this];exact q2
 case done =>
  rintro s' ⟨us,e,H',ks,I',hl,hvs,hq⟩
  have hd:xs.drop (0+vs.length)=[]:=List.drop_of_length_le (by omega);rw[hd]at hq;have nk:=I'.pin (kS,Bf "list" us.toArray e) (Ay _ (.head _));refine Aa (listItems_at nk.1 rfl ?_);exact fin ks us e H' s' I' hvs (by omega) (by have hq:QK (ks++[]) H':=hq;simpa using hq)
theorem ji0 {qs:List RowP}:∀{es:List DictEntry},(∀e∈es,∃p∈qs,e.key=.ref p.2.1)->∃xs:List V,Vals xs (es.map (·.key))/\∀v∈xs,∃p∈qs,v=V.ref p.2.1
 |[],_=>⟨[],.nil,λv hv=>by simp at hv⟩
 |e::r,h=>by
  obtain⟨p,hp,ek⟩:=h e An;obtain⟨xs,rv,hx⟩:=ji0 λx hx=>h x (Ak _ hx);exact⟨.ref p.2.1::xs,.cons ek rv,λv hv=>(Ax.mp hv).elim (λz=>⟨p,hp,z⟩) (hx v)⟩
theorem jc7 {Q:VK} {xs:List V} {vs:List Ad} (F:FnOk X.prog X.w X.K X.mg X.base CX0 k f fd ps sp) (hr:Room (k+2) X.A) (hb:Binds X.K fd ps []) (I:Inv X pins σ H s) (rv:Vals xs vs) (h64:xs.length < 64) (q:jjk sp xs H (jkp X.K xs Q)) :
  Aw (A1 X.prog X.w) X.A.in1.in1 (ksk_tree s.heap.objs.size (.ref f) false) (λf s2=>f=.done (.ret .none)/\EP X pins σ Q (.ref s.heap.objs.size) s2) X.xe {s with heap:=s.heap.push (Bf "list" vs.toArray 0)}:=by
 have hlen:vs.length=xs.length:=rv.length.symm;refine jtl (s:={ s with heap:=s.heap.push (Bf "list" vs.toArray 0)}) (Av _ rfl) (by omega) λh3 e1 k3 ha3 hz3=>?_;have hp1:(s.heap.push (Bf "list" vs.toArray 0)).objs.size=s.heap.objs.size+1:=size_push' ..;have hz3':(s.heap.push (Bf "list" vs.toArray 0)).objs.size<=h3.objs.size:=hz3;have hDk:s.heap.objs.size < h3.objs.size:=by omega
 have keep:∀b u,s.heap.get? b=some u->(h3.push (Bf "list" #[] 0)).get? b=some u:=λb u e =>
  Ai _ (k3 b u (Ba (Aq e)) (Ai _ e))
 have fD:=I.fre (Ao _);have fk:=I.fre (b:=h3.objs.size) (by omega);have I1:Inv X pins σ H {s with heap:=h3.push (Bf "list" #[] 0)}:=I.kept (t':=s.toks) keep;have I2:Inv X ((h3.objs.size,Bf "list" #[] 0)::(s.heap.objs.size,Bf "list" #[] e1)::pins) σ H {s with heap:=h3.push (Bf "list" #[] 0)}:=by
  refine I1.pins_of λp hp=>?_;rcases Ax.mp hp with rfl | hp
  ·exact⟨Av _ rfl,I.hok.fresh (by omega),fk.loc,fk.fs,λv z=>nomatch z⟩
  ·rcases Ax.mp hp with rfl | hp
   ·exact⟨Ai _ ha3,I.hok.fresh (Ao _),fD.loc,fD.fs,λv z=>nomatch z⟩
   ·exact I1.pin p (Ay _ hp)
 refine jtm (xs:=xs) F hr hb (by omega) rv (Fc hDk) fk I2 q ?_;intro ks us e H1 s1 I3 hks hul hq;obtain⟨ds,lt,hdl,hrd,⟨hds,hlt⟩,kq⟩:=hq;have nk:=I3.pin (h3.objs.size,Bf "list" us.toArray e) (Ay _ (.head _));have na:=I3.pin (s.heap.objs.size,Bf "list" #[] e1) (Ay _ (.tail _ (.head _)));obtain⟨hul2,hat⟩:=jp7 I3 hrd hks;refine jv3 (lt:=lt) nk.1 na.1 (Fc hDk) hul (by omega) (λh2=>?_) (λi j hi hj C hC=>?_) λidx h4 tk c hidx hsrt k4 hL=>⟨rfl,?_⟩
 ·obtain⟨fs,f1,f2,f3⟩:=jln I3 hrd hks λd hd=>(hds d hd).1;exact⟨fs,f1,by omega,f3⟩
 ·unfold kas_ask;have hi':i < us.length:=by omega
  have hj':j < us.length:=by omega
  have g1:us.getD i Bc=us[i]:=by simp[hi']
  have g2:us.getD j Bc=us[j]:=by simp[hj']
  rw[g1,g2];obtain⟨d1,as1,e1',R1⟩:=hat i us[i] (Al hi');obtain⟨d2,as2,e2',R2⟩:=hat j us[j] (Al hj');rw[A0,C0]at e1' e2';obtain⟨x1,y1,rfl⟩:=e1';obtain⟨x2,y2,rfl⟩:=e2';have lt12:=hlt i j x1 x2 y1 y2;obtain⟨_,c1,c1'⟩:=hds x1 (By y1);obtain⟨_,c2,c2'⟩:=hds x2 (By y2);generalize us[i]=u1 at R1 ⊢;generalize us[j]=u2 at R2 ⊢;cases R1 with
  |tuple h1 h2 h3 h4 =>
   cases R2 with
   |tuple g1 g2 g3 g4 =>
    refine kat_lt h1 h3 g1 g3 ?_;rename_i o1 vs1 n1 a2 o2 vs2 n2;have hsz:decide (vs1.size < vs2.size)=decide (x1.length < x2.length):=by
     have e1:=ReadsAll.length _ _ _ h4;have e2:=ReadsAll.length _ _ _ g4;rw[A7]at e1 e2;rw[e1,e2]
    rw[hsz];exact jon (jcn x1 x2 _ _ _ _ _ _ _ _ h4 g4 c1 c2 (by have:=hr.units;show X.A.units+1+1+_+_ < _;omega) lt12 0 (by simp)) hC
 ·have I4:Inv X pins σ H1 s1:=I3.pins_of λp hp=>I3.pin p (Ay _ (.tail _ (.tail _ hp)));refine⟨.ref s.heap.objs.size,_,I4.track (o:=.lst (idx.map λi=>xs.getD i .non)) (t':=tk) k4 na.2.1 nk.2.1 fD fk ⟨?_,_,c,jh2 rv idx λi hi=>C2.mp (hidx.mem_iff.mp hi),hL⟩,rfl,kq _ na.2.1 idx (by rw[<-hlen];exact hidx) (by rw[<-hlen];exact hsrt)⟩;rw[Ae,hidx.length_eq,Du,Cf];omega
theorem jl1 {Q:VK} {x:V} {u:Ad} (F:FnOk X.prog X.w X.K X.mg X.base CX0 k f fd ps sp) (hr:Room (k+2) X.A) (hb:Binds X.K fd ps []) (I:Inv X pins σ H s) (r:RelV x u) (h:jnk X.K sp x H Q) :
  Aw (A1 X.prog X.w) X.A (call (.builtin "sorted") [u] [(Cy "key",.ref f)]) (EP X pins σ Q) X.xe s:=by
 rcases h with⟨a,xs,rfl,hs,h64,q⟩ | ⟨d,qs,rfl,hd,h64,q⟩
 ·obtain rfl:u=Bb a:=r;obtain⟨its,rv,z,col⟩:=I.collects hs;refine jc6 (R:=λvs s1=>vs=its/\Inv X pins σ H s1) (col _ _ _ λh' k1 k2=>⟨rfl,I.kept (t':=s.toks) k1⟩) ?_
  rintro vs s1 ⟨rfl,I1⟩
  exact⟨by rw[<-rv.length];exact z,jc7 F hr hb I1 rv h64 q⟩
 ·obtain rfl:u=Bb d:=r;obtain⟨⟨hsys,es,ep,hD,hz,hk⟩,_,_⟩:=(show ObjOk X.prog X.w H s.heap d (jwj d qs)from I.hok d _ hd);have hh:X.A.in1.handled=none:=hr.hd;obtain⟨xs,rv,hxq⟩:=ji0 hk;have hxl:xs.length=es.size:=by rw[show xs.length=(es.toList.map (·.key)).length from rv.length,Ae,A7]
  refine jc6 (R:=λvs s1=>vs=es.toList.map (·.key)/\Inv X pins σ H s1) (kdu_collect (joy (es:=es) (ep:=ep) hsys) hh hD (by rw[Cf];omega) λh' tk acc hk hI=>⟨?_,I.kept hk⟩) ?_
  ·apply List.ext_getElem?;intro j;by_cases hj:j < es.size
   ·have hja:j < acc.toList.length:=by rw[A7,hI.1];exact hj
    have this:(es[j]?).map (·.key)=some (acc.toList[j]):=hI.2 j (acc.toList[j]) (by rw[<-Cm,Al hja]);rw[Al hja,A0,Cm,this]
   ·rw[Co (by rw[A7,hI.1];omega),Co (by rw[Ae,A7];omega)]
  rintro vs s1 ⟨rfl,I1⟩
  exact⟨by rw[Ae,A7,Cf];omega,jc7 F hr hb I1 rv (by omega) (q xs (by omega) hxq)⟩
theorem jqi {o:Expr} {td:TE} {x:Str} {pp pos kp kpos:Pos} (F:FnOk X.prog X.w X.K X.mg X.base CX0 k f fd ps sp) (hr:Room (k+2) X.A) (hb:Binds X.K fd ps []) (hg:Gl X "sorted") (hm:X.mg "sorted"=none) (hgf:Gl X x) (hmf:X.mg x=some (.ref f)) (ho:PE X o td)
  (hv:Bm "sorted"=some (.builtin "sorted"):=by decide +kernel) (hdb:(x==("__debug__":Str))=false:=by decide) (he:Au [o] X.env=(false,eval o X.env)::Au [] X.env:=by rfl) :
  PE X (.Call (.Name "sorted" pp) [o] [⟨some "key",.Name x kp,kpos⟩] pos) (jmp X.K sp td):=by
 intro pins s σ H Q I h;refine Fb (jgi I hg hm hv ?_ (by decide) (by decide));refine callWith_kw (thn ((jak ho jbd he) pos pins s σ H (λvs H1=>match vs with | [x]=>jnk X.K sp x H1 Q | _=>False) I ?_) λus s1 ⟨vs,H1,I1,r,q⟩=>?_) (by rw[he];rfl) (by rw[he];rfl)
 ·exact h
 ·match vs,q with
  |[],q=>exact q.elim
  |_::_::_,q=>exact q.elim
  |[v],q =>
  obtain⟨u,rfl,ru⟩:=jc5 r;refine kws_cons (jj6 I1 hgf hmf (kws_nil ?_) hdb);exact jl1 F hr hb I1 ru q
end
section
variable {X:Cx}
theorem jl4 (hh:X.A.handled=none):CallR X (.builtin "max") (λxs H Q=>∃i j,xs=[.int i,.int j]/\Q (.int (if j > i then j else i)) H):=by
 intro pins s σ H xs us Q I r h;obtain⟨i,j,rfl,q⟩:=h;obtain⟨u,w',rfl,⟨t,rfl⟩,⟨t',rfl⟩⟩:=jsw r;refine max_two_ints hh λh' tk k=>⟨_,H,I.kept k,?_,q⟩;by_cases hj:j > i
 ·rw[if_pos hj,if_pos hj];exact⟨_,rfl⟩
 ·rw[if_neg hj,if_neg hj];exact⟨_,rfl⟩
end
end L2
namespace L2
open PySem PySem.Spec PyProof.Rows PySem.W
def setO (w:Bq) (v:Addr) (ks:List Str):HO:=.ext λh=>jfb w h v ks
def jnl (w:Bq):List V->Hp->VK->Prop:=λxs H Q=>∃(a:Addr) (ks:List Str),xs=[.ref a]/\(H a=some (.lst (ks.map V.str))\/H a=some (.tup (ks.map V.str)))/\ks.length < 64/\∀v,H v=none->Q (.ref v) (upd H v (setO w v ks))
theorem jnd {ks:List Str} {vs:List Ad} (h:Vals (ks.map V.str) vs) (i:Nat) (v:Ad) (e:vs.toArray[i]?=some v):SeqV ks i v:=by
 have e':vs[i]?=some v:=by simpa using e
 have hl:=h.length;rw[Ae]at hl;have hi:i < ks.length:=by rw[hl];exact(Bn.mp e').1
 obtain⟨u,hu,ru⟩:=h.get (show(ks.map V.str)[i]?=some (V.str ks[i]) by rw[A0,Al hi];rfl);rw[e']at hu;cases hu;obtain⟨t,ht⟩:=ru;exact⟨ks[i],t,Al hi,ht⟩
theorem jnb {ks:List Str} {vs:List Ad} (h:Vals (ks.map V.str) vs):vs.toArray.size=ks.length:=by
 have hl:=h.length;rw[Ae]at hl;rw[Ap,<-hl]
theorem jl3 {X:Cx} (hh:X.A.handled=none):CallR X (.type "set") (jnl X.w):=by
 intro pins s σ H xs us Q I r h;obtain⟨a,ks,rfl,ha,h64,q⟩:=h;obtain⟨u,rfl,ru⟩:=jc5 r;cases(show u=Bb a from ru);have fin:∀(h':Heap) (tk:Nat),jfb X.w h' s.heap.objs.size ks->(∀b o,b < s.heap.objs.size->s.heap.get? b=some o->h'.get? b=some o)->EP X pins σ Q (.ref s.heap.objs.size) {s with heap:=h',toks:=tk}:=λh' tk hS hk=>by
  have hob:∃o,h'.get? s.heap.objs.size=some o:=by
   obtain⟨es,ep,t,T,_⟩:=hS;obtain⟨o,e,_⟩:=T.obj;exact⟨o,e⟩
  refine⟨.ref s.heap.objs.size,_,I.laid (t':=tk) (o:=setO X.w s.heap.objs.size ks) (λb o e=>hk b o (Aq e) e) (Ao _) ⟨hS,hob,λh1 h2 q k=>?_⟩,rfl,q _ (I.hok.fresh (Ao _))⟩;obtain⟨es,ep,t,T,r⟩:=q;exact⟨es,ep,t,T.move λo e=>k _ e,r⟩
 rcases ha with ha | ha
 ·obtain⟨hl,vs,c,hv,hL⟩:=I.hok a _ ha;exact ji5 (jps (jnd hv) (jnb hv)) hh ⟨_,hL,rfl,_,rfl⟩ h64 fin
 ·obtain⟨hl,vs,hv,o,ho,hc,⟨n,hd⟩,_⟩:=I.hok a _ ha;exact ji5 (jm4 (jnd hv) (jnb hv)) hh ⟨o,ho,hc,n,hd⟩ h64 fin
theorem Inv.drew {X:Cx} {pins:List (Addr×Obj)} {σ:St} {H:Hp} {s:Ah} (I:Inv X pins σ H s) (dr:Drawn):Inv X pins σ H {s with drawn:=dr}:=⟨I.ok,I.os,I.bare,I.base,I.loc,I.cell,I.free,I.freeC,I.pin,I.hok,I.len⟩
theorem jli {X:Cx} {pins:List (Addr×Obj)} {σ:St} {H:Hp} {s:Ah} {h':Heap} {tk:Nat} {vs:List Ad} {ks:List Str} {Q:VK} (I:Inv X pins σ H s) (hkp:∀b o,s.heap.get? b=some o->h'.get? b=some o) (hT:TxOk vs ks) (h64:ks.length < 64)
  (q:∀(D:Addr) (ys:List Str),ys.Perm ks->ys.Pairwise (λa b=>¬b.cps.toList < a.cps.toList)->H D=none->Q (.ref D) (upd H D (.lst (ys.map V.str)))) :
  vs.length<=Az/\Aw (A1 X.prog X.w) X.A.in1.in1 (D2.«list.sort» ⟨[.ref h'.objs.size],[]⟩) (λf s2=>f=.done (.ret .none)/\EP X pins σ Q (.ref h'.objs.size) s2) X.xe {s with heap:=h'.push (Bf "list" vs.toArray 0),toks:=tk}:=by
 have hl:=hT.1;refine⟨by rw[hl];exact jay (by omega),?_⟩;have hoL:(h'.push (Bf "list" vs.toArray 0)).get? h'.objs.size=some (Bf "list" vs.toArray 0):=Av _ rfl;have hs':∀b o,s.heap.get? b=some o->b≠h'.objs.size:=λb o e=>Ba (Aq (hkp b o e));have fin:∀(idx:List Nat) (h3:Heap) (c:Nat),idx.Perm (Bt ks.length)->(idx.map λi=>ks.getD i ⟨#[]⟩).Pairwise (λa b=>¬b.cps.toList < a.cps.toList) ->
   (∀b o,b≠h'.objs.size->(h'.push (Bf "list" vs.toArray 0)).get? b=some o->h3.get? b=some o)->h3.get? h'.objs.size=some (Bf "list" (Cw (idx.map λi=>vs.getD i Bc)) c)->EP X pins σ Q (.ref h'.objs.size) {s with heap:=h3,toks:=tk}:=λidx h3 c hp hw k3 hL=>by
  have I1:Inv X pins σ H {s with heap:=h',toks:=tk}:=I.kept hkp;have hn:H h'.objs.size=none:=I1.hok.fresh (Ao _);refine⟨.ref h'.objs.size,_,I1.laid (t':=tk) (h':=h3) (o:=.lst ((idx.map λi=>ks.getD i ⟨#[]⟩).map V.str)) (λb o e=>k3 b o (Ba (Aq e)) (Ai _ e)) (Ao _) ⟨?_,_,c,jip hT idx (λi hi=>C2.mp (hp.mem_iff.mp hi)),hL⟩,rfl,q _ _ (jnx hp) hw hn⟩;rw[Ae,Ae,hp.length_eq,Du];exact jay (by omega)
 by_cases h2:2<=vs.length
 ·refine KS.ls_sort (s:={ s with heap:=h'.push (Bf "list" vs.toArray 0),toks:=tk}) hoL h2 (by omega) λe1 h4 ha4 k4=>?_;refine kas_kind (s:={ s with heap:=h4,toks:=tk}) (T:=C6 "str") h2 (λf hf=>?_) rfl rfl ?_
  ·obtain⟨j,hj⟩:=List.mem_iff_getElem?.mp hf;obtain⟨k,t,_,rfl⟩:=hT.2 j f hj;exact .now
  ·have hn:0 < vs.length:=by omega
   have hwi:=KS.wi_sort hn;refine KS.wp_run (n:=vs.length) (P:=KS.Pm vs.length) (c:=KS.ltK ks) (St:=λs'=>s'={ s with heap:=h4,toks:=tk}) (λi j C s' hi hj hs hC=>?_) _ _ hwi rfl λs' hs'=>?_
   ·subst hs;obtain⟨k1,t1,a1,a2⟩:=hT.2 i vs[i] (Al hi);obtain⟨k2,t2,b1,b2⟩:=hT.2 j vs[j] (Al hj);unfold kas_ask;have g1:vs.getD i Bc=.str k1 t1:=by simp[hi,a2]
    have g2:vs.getD j Bc=.str k2 t2:=by simp[hj,b2]
    rw[g1,g2];have c1:ks.getD i ⟨#[]⟩=k1:=by simp[a1]
    have c2:ks.getD j ⟨#[]⟩=k2:=by simp[b1]
    have:=hC _ rfl;unfold KS.ltK at this;rw[c1,c2]at this;exact kas_lt_str this
   ·subst hs';refine⟨ha4,λh3 c sb hL3=>⟨rfl,?_⟩⟩;have hpm:KS.Pm vs.length (KS.run (KS.ltK ks) (Fl vs.length)):=KS.Wi.out _ hwi;have hsp:=KS.sort_ok (KS.ordK ks) (n:=vs.length) hn;have hsz:=hpm.size;have hidx:(KS.run (KS.ltK ks) (Fl vs.length)).toList.Perm (Bt vs.length):=by
     have:=Fz.mp hpm;simpa using this
    refine fin _ h3 c (by rw[<-hl];exact hidx) (jzg hsz hsp) (λb o hb e=>(sb.2 b hb).trans (k4 b o hb e)) hL3
 ·refine KS.ls_short (s:={ s with heap:=h'.push (Bf "list" vs.toArray 0),toks:=tk}) hoL (by omega) λh4 c ha4 k4=>⟨rfl,?_⟩;have el:vs=(Bt ks.length).map λi=>vs.getD i Bc:=by
   apply List.ext_getElem (by simp[hl]);intro i h1 h2;simp[h1]
  have ha5:h4.get? h'.objs.size=some (Bf "list" (Cw ((Bt ks.length).map λi=>vs.getD i Bc)) c):=by rw[<-el];exact ha4
  refine fin (Bt ks.length) h4 c (List.Perm.refl _) ?_ k4 ha5;have:(Bt ks.length).length<=1:=by simp;omega
  match hr:Bt ks.length,this with
  |[],_=>exact .nil
  |[i],_=>exact List.pairwise_singleton _ _
def jg0 (w:Bq):List V->Hp->VK->Prop:=λxs H Q=>∃(v:Addr) (ks:List Str),xs=[.ref v]/\H v=some (setO w v ks)/\ks.length < 64 /\
 ∀(D:Addr) (ys:List Str),ys.Nodup->(∀k,k∈ys↔k∈ks)->ys.Pairwise (λa b=>¬b.cps.toList < a.cps.toList)->H D=none->Q (.ref D) (upd H D (.lst (ys.map V.str)))
theorem jsx {w:Bq} {es vs:List (Int×Ad)} (h:∀e∈es,∃k t,e.2=.str k t/\e.1=hashStr w k) (p:vs.Perm es):TxOk (vs.map (·.2)) (vs.map λe=>txOf e.2):=by
 refine⟨by rw[Ae,Ae],λj v hj=>?_⟩;rw[A0]at hj;cases e:vs[j]? with
 |none=>rw[e]at hj;cases hj
 |some x =>
  rw[e]at hj;obtain⟨k,t,e1,_⟩:=h x (p.mem_iff.mp (By e));have hv:x.2=v:=Bh hj;refine⟨k,t,?_,hv▸e1⟩;rw[A0,e];show some (txOf x.2)=some k;rw[e1];rfl
theorem ji4 {X:Cx} (hh:X.A.handled=none):CallR X (.builtin "sorted") (jg0 X.w):=by
 intro pins s σ H xs us Q I r h;obtain⟨v,ks,rfl,hv,h64,q⟩:=h;obtain⟨u,rfl,ru⟩:=jc5 r;cases(show u=Bb v from ru);obtain⟨es,ep,t,T,hx,nd,hm,hl⟩:=(I.hok v _ hv).1;have h64':es.size < 64:=Nat.lt_of_le_of_lt hl h64;refine KS.sorted_of (R:=λvs s1=>∃(h':Heap) (tk:Nat) (dr:Drawn) (ys:List Str),s1={ s with heap:=h',toks:=tk,drawn:=dr}/\(∀b o,s.heap.get? b=some o->h'.get? b=some o)/\TxOk vs ys/\ys.Nodup/\(∀k,k∈ys↔k∈ks)/\ys.length < 64)
  (jlh hh T h64' λh' tk dr vs hp hk=>?_) ?_
 ·have pk:(vs.map λe=>txOf e.2).Perm (ksOf es):=List.Perm.map (λe:Int×Ad=>txOf e.2) hp;exact⟨h',tk,dr,vs.map λe=>txOf e.2,rfl,hk,jsx hx hp,pk.nodup_iff.mpr nd,λk=>pk.mem_iff.trans (hm k),by rw[Ae,hp.length_eq,A7];exact h64'⟩
 rintro vs s1 ⟨h',tk,dr,ys,rfl,hkp,hT,nd',hm',h64'⟩
 exact jli (s:={ s with drawn:=dr}) (I.drew dr) hkp hT h64' λD zs hp hw hD=>q D zs (hp.nodup_iff.mpr nd') (λk=>hp.mem_iff.trans (hm' k)) hw hD
end L2
namespace DL
open PySem L2 Nb
abbrev D:=Ab
mutual
inductive RdX (H:Hp) (B:Addr->Prop):V->Ab->Prop
 |non:RdX H B .non .none
 |bl (b:Bool):RdX H B (.bl b) (.bool b)
 |int (i:Int):RdX H B (.int i) (.int i)
 |str (x:Str) (h:x.length<=Az):RdX H B (.str x) (.str x)
 |lst {a:Addr} {xs:List V} {ds:List Ab}:H a=some (.lst xs)->¬B a->xs.length<=Az->RdXs H B xs ds->RdX H B (.ref a) (.list ds)
 |tup {a:Addr} {xs:List V} {ds:List Ab}:H a=some (.tup xs)->¬B a->xs.length<=Az->RdXs H B xs ds->RdX H B (.ref a) (.tuple ds)
inductive RdXs (H:Hp) (B:Addr->Prop):List V->List Ab->Prop
 |nil:RdXs H B [] []
 |cons {x:V} {xs:List V} {d:Ab} {ds:List Ab}:RdX H B x d->RdXs H B xs ds->RdXs H B (x::xs) (d::ds)
end
mutual
theorem RdX.move {H H':Hp} {B B':Addr->Prop} (k:∀b o,H b=some o->¬B b->H' b=some o/\¬B' b):∀{v:V} {d:Ab},RdX H B v d->RdX H' B' v d
 |_,_,.non=>.non
 |_,_,.bl b=>.bl b
 |_,_,.int i=>.int i
 |_,_,.str x h=>.str x h
 |_,_,.lst h1 h2 h3 h4=>.lst (k _ _ h1 h2).1 (k _ _ h1 h2).2 h3 (RdXs.move k h4)
 |_,_,.tup h1 h2 h3 h4=>.tup (k _ _ h1 h2).1 (k _ _ h1 h2).2 h3 (RdXs.move k h4)
theorem RdXs.move {H H':Hp} {B B':Addr->Prop} (k:∀b o,H b=some o->¬B b->H' b=some o/\¬B' b):∀{vs:List V} {ds:List Ab},RdXs H B vs ds->RdXs H' B' vs ds
 |_,_,.nil=>.nil
 |_,_,.cons h1 h2=>.cons (RdX.move k h1) (RdXs.move k h2)
end
section
variable {H H':Hp} {B B':Addr->Prop} {v:V} {d:Ab} {vs ws:List V} {ds es:List Ab} {t:Addr}
theorem RdX.kp (k:Kp t H H') (ht:B t) (h:RdX H B v d):RdX H' B v d:=h.move λb o e n=>⟨k b o e λz=>n (z▸ht),n⟩
theorem RdXs.kp (k:Kp t H H') (ht:B t) (h:RdXs H B vs ds):RdXs H' B vs ds:=h.move λb o e n=>⟨k b o e λz=>n (z▸ht),n⟩
theorem RdX.less (k:∀b,B' b->B b) (h:RdX H B v d):RdX H B' v d:=h.move λb o e n=>⟨e,λz=>n (k b z)⟩
theorem RdXs.less (k:∀b,B' b->B b) (h:RdXs H B vs ds):RdXs H B' vs ds:=h.move λb o e n=>⟨e,λz=>n (k b z)⟩
theorem RdXs.keep (k:∀b o,H b=some o->¬B b->H' b=some o) (h:RdXs H B vs ds):RdXs H' B vs ds:=h.move λb o e n=>⟨k b o e n,n⟩
theorem RdXs.len:∀{vs:List V} {ds:List Ab},RdXs H B vs ds->vs.length=ds.length
 |_,_,.nil=>rfl
 |_,_,.cons _ t=>by rw[Ar,Ar,RdXs.len t]
theorem RdXs.getD:∀{vs:List V} {ds:List Ab} {i:Nat} {d:Ab},RdXs H B vs ds->ds[i]?=some d->∃v,vs[i]?=some v/\RdX H B v d
 |_,_,_,_,.nil,e=>by simp at e
 |_,_,0,_,.cons h _,e=>by
  simp at e;subst e;exact⟨_,rfl,h⟩
 |_,_,i+1,d,.cons _ t,e=>by
  obtain⟨v,h1,h2⟩:=RdXs.getD (i:=i) (d:=d) t (by simpa using e);exact⟨v,by simpa using h1,h2⟩
theorem RdXs.append:∀{vs ws:List V} {ds es:List Ab},RdXs H B vs ds->RdXs H B ws es->RdXs H B (vs++ws) (ds++es)
 |_,_,_,_,.nil,h=>h
 |_,_,_,_,.cons h1 h2,h=>.cons h1 (RdXs.append h2 h)
theorem RdXs.set:∀{vs:List V} {ds:List Ab} (i:Nat) {v:V} {d:Ab},RdXs H B vs ds->RdX H B v d->RdXs H B (vs.set i v) (ds.set i d)
 |_,_,_,_,_,.nil,_=>.nil
 |_,_,0,_,_,.cons _ t,h=>.cons h t
 |_,_,i+1,_,_,.cons q t,h=>.cons q (RdXs.set i t h)
theorem RdXs.take:∀{vs:List V} {ds:List Ab} (n:Nat),RdXs H B vs ds->RdXs H B (vs.take n) (ds.take n)
 |_,_,0,_=>.nil
 |_,_,_+1,.nil=>.nil
 |_,_,n+1,.cons r t=>.cons r (RdXs.take n t)
theorem RdXs.drop:∀{vs:List V} {ds:List Ab} (n:Nat),RdXs H B vs ds->RdXs H B (vs.drop n) (ds.drop n)
 |_,_,0,r=>r
 |_,_,_+1,.nil=>.nil
 |_,_,n+1,.cons _ t=>RdXs.drop n t
end
mutual
theorem RdX.rd {K:Af} {H:Hp} {B:Addr->Prop}:∀{v:V} {d:Ab},RdX H B v d->RdD K H v d
 |_,_,.non=>.non
 |_,_,.bl b=>.bl b
 |_,_,.int i=>.int i
 |_,_,.str x h=>.str x
 |_,_,.lst h1 h2 h3 h4=>.lst (SqL.of h1) (RdXs.rd h4)
 |_,_,.tup h1 h2 h3 h4=>.tup (SqT.of h1) (RdXs.rd h4)
theorem RdXs.rd {K:Af} {H:Hp} {B:Addr->Prop}:∀{vs:List V} {ds:List Ab},RdXs H B vs ds->RdAll K H vs ds
 |_,_,.nil=>.nil
 |_,_,.cons h1 h2=>.cons (RdX.rd h1) (RdXs.rd h2)
end
inductive Ob where
 |o | p (d:Ab) | k (m:List (Key×Ab)) | q (d:Ab) (m:List (Key×Ab)) | x (m:List (TK×Ab))
inductive Wv where
 |d (x:Ab) | tp | dk (kvs:List (Key×Ab)) | ln (ds:List Ab) | ob (o:Ob) | dx (kvs:List (TK×Ab))
def Wv.lent:Wv->Bool
 |.dk _=>true
 |.dx _=>true
 |.ln _=>true
 |_=>false
inductive SV where
 |w (x:Wv) | own (ds:List Ab) | odk (kvs:List (Key×Ab)) | odt (kvs:List (List Key×Ab)) | odx (kvs:List (TK×Ab))
abbrev Sl:=List (Option SV)
def RdK (H:Hp) (B:Addr->Prop):List (Key×V)->List (Key×Ab)->Prop:=Paired λp q=>p.1=q.1/\RdX H B p.2 q.2
theorem RdK.move {H H':Hp} {B B':Addr->Prop} (k:∀b o,H b=some o->¬B b->H' b=some o/\¬B' b) {l:List (Key×V)} {m:List (Key×Ab)} (h:RdK H B l m):RdK H' B' l m :=
 Paired.mapP h λ_ _ z=>⟨z.1,z.2.move k⟩
def RdT (H:Hp) (B:Addr->Prop):List (List Key×V)->List (List Key×Ab)->Prop:=Paired λp q=>p.1=q.1/\RdX H B p.2 q.2
theorem RdT.move {H H':Hp} {B B':Addr->Prop} (k:∀b o,H b=some o->¬B b->H' b=some o/\¬B' b) {l:List (List Key×V)} {m:List (List Key×Ab)} (h:RdT H B l m):RdT H' B' l m :=
 Paired.mapP h λ_ _ z=>⟨z.1,z.2.move k⟩
def RdY (H:Hp) (B:Addr->Prop):List (TK×Addr×V)->List (TK×Ab)->Prop:=Paired λp q=>p.1=q.1/\RdX H B (.ref p.2.1) p.1.1/\RdX H B p.2.2 q.2
theorem RdY.move {H H':Hp} {B B':Addr->Prop} (k:∀b o,H b=some o->¬B b->H' b=some o/\¬B' b) {l:List (TK×Addr×V)} {m:List (TK×Ab)} (h:RdY H B l m):RdY H' B' l m :=
 Paired.mapP h λ_ _ z=>⟨z.1,z.2.1.move k,z.2.2.move k⟩
def ORel (H:Hp) (B:Addr->Prop) (v:V):Ob->Prop
 |.o=>∃a,v=.ref a
 |.p d=>∃a x y,v=.ref a/\H a=some (.tup [x,y])/\¬B a/\RdX H B x d
 |.k m=>∃a l,v=.ref a/\H a=some (.dK l)/\¬B a/\RdK H B l m
 |.x m=>∃a l,v=.ref a/\H a=some (.dX l)/\¬B a/\RdY H B l m
 |.q d m=>∃a x b l,v=.ref a/\H a=some (.tup [x,.ref b])/\¬B a/\RdX H B x d/\H b=some (.dK l)/\¬B b/\RdK H B l m
theorem ORel.move {H H':Hp} {B B':Addr->Prop} (k:∀b o,H b=some o->¬B b->H' b=some o/\¬B' b) {v:V} {o:Ob} (h:ORel H B v o):ORel H' B' v o:=by
 cases o with
 |o=>exact h
 |p d =>
  obtain⟨a,x,y,e,h1,h2,h3⟩:=h;exact⟨a,x,y,e,(k _ _ h1 h2).1,(k _ _ h1 h2).2,h3.move k⟩
 |k m =>
  obtain⟨a,l,e,h1,h2,h3⟩:=h;exact⟨a,l,e,(k _ _ h1 h2).1,(k _ _ h1 h2).2,h3.move k⟩
 |x m =>
  obtain⟨a,l,e,h1,h2,h3⟩:=h;exact⟨a,l,e,(k _ _ h1 h2).1,(k _ _ h1 h2).2,h3.move k⟩
 |q d m =>
  obtain⟨a,x,b,l,e,h1,h2,h3,h4,h5,h6⟩:=h;exact⟨a,x,b,l,e,(k _ _ h1 h2).1,(k _ _ h1 h2).2,h3.move k,(k _ _ h4 h5).1,(k _ _ h4 h5).2,h6.move k⟩
def WRel (H:Hp) (B:Addr->Prop) (t:Addr) (v:V):Wv->Prop
 |.d x=>RdX H B v x
 |.tp=>v=.ref t
 |.dk kvs=>∃a l,v=.ref a/\H a=some (.dK l)/\a≠t/\RdK H B l kvs
 |.dx kvs=>∃a l,v=.ref a/\H a=some (.dX l)/\a≠t/\RdY H B l kvs
 |.ln ds=>∃a xs,v=.ref a/\H a=some (.lst xs)/\a≠t/\xs.length<=Az/\RdXs H B xs ds
 |.ob o=>ORel H B v o
def SRel (H0:Hp) (H:Hp) (B:Addr->Prop) (t:Addr) (v:V):SV->Prop
 |.w x=>WRel H B t v x/\(x.lent=true->∃a,v=.ref a/\H0 a≠none)
 |.own ds=>∃a xs,v=.ref a/\H a=some (.lst xs)/\B a/\H0 a=none/\xs.length<=Az/\RdXs H B xs ds
 |.odk kvs=>∃a l,v=.ref a/\H a=some (.dK l)/\B a/\H0 a=none/\l.length<=1000/\RdK H B l kvs
 |.odt kvs=>∃a l,v=.ref a/\H a=some (.dT l)/\B a/\H0 a=none/\l.length<=1000/\RdT H B l kvs
 |.odx kvs=>∃a l,v=.ref a/\H a=some (.dX l)/\B a/\H0 a=none/\l.length<=1000/\RdY H B l kvs
def SV.isOwn:SV->Bool
 |.w _=>false
 |_=>true
structure Ctx where
 t:Addr
 l:TL
 ns:List Int
 H0:Hp
 B0:Addr->Prop
 fz:Hp
structure Rel (C:Ctx) (H:Hp) (B:Addr->Prop) (σ:St) (δ:Sl) (n:Int):Prop where
 tp:Tp H C.t C.l C.ns n
 kp:Kp C.t C.H0 H
 t0:C.H0 C.t≠none
 l0:C.H0 C.l.s≠none
 g0:jmm=true->C.H0 C.l.g≠none
 fz:∀b o,C.fz b=some o->H b=some o/\¬B b
 bt:B C.t
 b0:∀b,C.B0 b->B b
 ba:∀b,B b->H b≠none
 a0:∀b,C.B0 b->C.H0 b≠none
 sl:∀(i:Nat) (x:SV),δ[i]?=some (some x)->∃v,σ[i]?=some (some v)/\SRel C.H0 H B C.t v x
 ow:∀(i j:Nat) (x y:SV) (v:V),δ[i]?=some (some x)->δ[j]?=some (some y)->x.isOwn=true->y.isOwn=true->σ[i]?=some (some v)->σ[j]?=some (some v)->i=j
 len:σ.length=δ.length
theorem WRel.kp {H H':Hp} {B:Addr->Prop} {t:Addr} {v:V} {x:Wv} (k:Kp t H H') (ht:B t) (h:WRel H B t v x):WRel H' B t v x:=by
 cases x with
 |d x=>exact RdX.kp k ht h
 |tp=>exact h
 |dk kvs =>
  obtain⟨a,l,e,h1,h2,h3⟩:=h;exact⟨a,l,e,k _ _ h1 h2,h2,h3.move λb o e n=>⟨k b o e λz=>n (z▸ht),n⟩⟩
 |dx kvs =>
  obtain⟨a,l,e,h1,h2,h3⟩:=h;exact⟨a,l,e,k _ _ h1 h2,h2,h3.move λb o e n=>⟨k b o e λz=>n (z▸ht),n⟩⟩
 |ln ds =>
  obtain⟨a,l,e,h1,h2,h3,h4⟩:=h;exact⟨a,l,e,k _ _ h1 h2,h2,h3,h4.kp k ht⟩
 |ob o=>exact ORel.move (λb o e n=>⟨k b o e λz=>n (z▸ht),n⟩) h
theorem WRel.less {H:Hp} {B B':Addr->Prop} {t:Addr} {v:V} {x:Wv} (k:∀b,B' b->B b) (h:WRel H B t v x):WRel H B' t v x:=by
 cases x with
 |d x=>exact RdX.less k h
 |tp=>exact h
 |dk kvs =>
  obtain⟨a,l,e,h1,h2,h3⟩:=h;exact⟨a,l,e,h1,h2,h3.move λb o e n=>⟨e,λz=>n (k b z)⟩⟩
 |dx kvs =>
  obtain⟨a,l,e,h1,h2,h3⟩:=h;exact⟨a,l,e,h1,h2,h3.move λb o e n=>⟨e,λz=>n (k b z)⟩⟩
 |ln ds =>
  obtain⟨a,l,e,h1,h2,h3,h4⟩:=h;exact⟨a,l,e,h1,h2,h3,h4.less k⟩
 |ob o=>exact ORel.move (λb o e n=>⟨e,λz=>n (k b z)⟩) h
theorem SRel.kp {H0 H H':Hp} {B:Addr->Prop} {t:Addr} {v:V} {x:SV} (k:Kp t H H') (ht:B t) (t0:H0 t≠none) (h:SRel H0 H B t v x):SRel H0 H' B t v x:=by
 cases x with
 |w x=>exact⟨h.1.kp k ht,h.2⟩
 |own ds =>
  obtain⟨a,xs,e,h1,h2,h3,h4,h5⟩:=h;exact⟨a,xs,e,k _ _ h1 (λz=>t0 (z▸h3)),h2,h3,h4,h5.kp k ht⟩
 |odk kvs =>
  obtain⟨a,l,e,h1,h2,h3,h4,h5⟩:=h;exact⟨a,l,e,k _ _ h1 (λz=>t0 (z▸h3)),h2,h3,h4,h5.move λb o e n=>⟨k b o e λz=>n (z▸ht),n⟩⟩
 |odt kvs =>
  obtain⟨a,l,e,h1,h2,h3,h4,h5⟩:=h;exact⟨a,l,e,k _ _ h1 (λz=>t0 (z▸h3)),h2,h3,h4,h5.move λb o e n=>⟨k b o e λz=>n (z▸ht),n⟩⟩
 |odx kvs =>
  obtain⟨a,l,e,h1,h2,h3,h4,h5⟩:=h;exact⟨a,l,e,k _ _ h1 (λz=>t0 (z▸h3)),h2,h3,h4,h5.move λb o e n=>⟨k b o e λz=>n (z▸ht),n⟩⟩
theorem Rel.step {C:Ctx} {H H':Hp} {B:Addr->Prop} {σ:St} {δ:Sl} {n n':Int} (R:Rel C H B σ δ n) (T:Tp H' C.t C.l C.ns n') (k:Kp C.t H H'):Rel C H' B σ δ n' where
 tp:=T
 kp:=R.kp.trans k
 t0:=R.t0
 l0:=R.l0
 g0:=R.g0
 fz:=λb o e=>⟨k b o (R.fz b o e).1 λz=>(R.fz b o e).2 (z▸R.bt),(R.fz b o e).2⟩
 bt:=R.bt
 b0:=R.b0
 ba:=λb hb e=>by
  by_cases z:b=C.t
  ·subst z;obtain⟨x,y,h,_⟩:=T.ob;rw[h]at e;cases e
  ·cases q:H b with
   |none=>exact R.ba b hb q
   |some o=>rw[k b o q z]at e;cases e
 a0:=R.a0
 sl:=λi x e=>by
  obtain⟨v,h1,h2⟩:=R.sl i x e;exact⟨v,h1,h2.kp k R.bt R.t0⟩
 ow:=R.ow
 len:=R.len
theorem Rel.new {C:Ctx} {H:Hp} {B:Addr->Prop} {σ:St} {δ:Sl} {n:Int} {p:Addr} {o:HO} (R:Rel C H B σ δ n) (h:H p=none):Rel C (upd H p o) B σ δ n:=R.step (R.tp.new h) (Kp.new h)
theorem Rel.nb {C:Ctx} {H:Hp} {B:Addr->Prop} {σ:St} {δ:Sl} {n:Int} {p:Addr} (R:Rel C H B σ δ n) (h:H p=none):¬B p:=λz=>R.ba p z h
theorem jai {α:Type} {l:List (Option α)} {i j:Nat} {x y:α} (h:(l.set i (some x))[j]?=some (some y)):(j=i/\y=x)\/(j≠i/\l[j]?=some (some y)):=by
 by_cases e:i=j
 ·subst e;rw[E6]at h;cases q:l[i]? with
  |none=>rw[q]at h;cases h
  |some z =>
   rw[q]at h;exact .inl ⟨rfl,(Bh (Bh h)).symm⟩
 ·rw[Cz e]at h;exact .inr ⟨λz=>e z.symm,h⟩
theorem jko {α:Type} {l:List (Option α)} {i:Nat} {x y:Option α} (h:(l.set i x)[i]?=some y):i < l.length:=by
 have:=(Bn.mp h).1;rwa [C3]at this
theorem jbm {α:Type} {l:List (Option α)} {i:Nat} {x:α} (h:i < l.length):(l.set i (some x))[i]?=some (some x):=by simp[h]
theorem ja6 {α:Type} {l:List (Option α)} {i j:Nat} {x:α} (h:j≠i):(l.set i (some x))[j]?=l[j]?:=Cz (λz=>h z.symm)
theorem Rel.set {C:Ctx} {H:Hp} {B:Addr->Prop} {σ:St} {δ:Sl} {n:Int} {i:Nat} {v:V} {x:Wv} (R:Rel C H B σ δ n) (h:WRel H B C.t v x) (hx:x.lent=false):Rel C H B (σ.set i (some v)) (δ.set i (some (.w x))) n where
 tp:=R.tp
 kp:=R.kp
 t0:=R.t0
 l0:=R.l0
 g0:=R.g0
 fz:=R.fz
 bt:=R.bt
 b0:=R.b0
 ba:=R.ba
 a0:=R.a0
 sl:=λj y e=>by
  rcases jai e with⟨rfl,rfl⟩ | ⟨ne,e'⟩
  ·exact⟨v,jbm (by rw[R.len];exact jko e),h,λz=>by rw[hx]at z;cases z⟩
  ·obtain⟨u,h1,h2⟩:=R.sl j y e';exact⟨u,by rw[ja6 ne];exact h1,h2⟩
 ow:=λj k y z u e1 e2 o1 o2 f1 f2=>by
  rcases jai e1 with⟨rfl,rfl⟩ | ⟨ne1,e1'⟩
  ·cases o1
  ·rcases jai e2 with⟨rfl,rfl⟩ | ⟨ne2,e2'⟩
   ·cases o2
   ·rw[ja6 ne1]at f1;rw[ja6 ne2]at f2;exact R.ow j k y z u e1' e2' o1 o2 f1 f2
 len:=by rw[C3,C3];exact R.len
theorem Rel.mut {C:Ctx} {H:Hp} {B:Addr->Prop} {σ:St} {δ:Sl} {n:Int} {a:Addr} {o:HO} (R:Rel C H B σ δ n) (hb:B a) (h0:C.H0 a=none)
  (ho:∀(i:Nat) (x:SV),δ[i]?=some (some x)->x.isOwn=true->σ[i]?≠some (some (.ref a))):Rel C (upd H a o) B σ δ n where
 tp:=R.tp.other (λz=>R.t0 (z▸h0)) (λz=>R.l0 (z▸h0)) (λe z=>R.g0 e (z▸h0))
 kp:=λb o' e ne=>by
  rw[jad (jae e h0)];exact R.kp b o' e ne
 t0:=R.t0
 l0:=R.l0
 g0:=R.g0
 fz:=λb o' e=>⟨by rw[jad λ(z:b=a)=>(R.fz b o' e).2 (z▸hb)];exact(R.fz b o' e).1,(R.fz b o' e).2⟩
 bt:=R.bt
 b0:=R.b0
 ba:=λb hb' e=>by
  by_cases z:b=a
  ·rw[z,jaf]at e;cases e
  ·rw[jad z]at e;exact R.ba b hb' e
 a0:=R.a0
 sl:=λi x e=>by
  obtain⟨v,h1,h2⟩:=R.sl i x e;have mv:∀b o',H b=some o'->¬B b->upd H a o b=some o'/\¬B b:=λb o' e n=>⟨by rw[jad λ(z:b=a)=>n (z▸hb)];exact e,n⟩;refine⟨v,h1,?_⟩;cases x with
  |w x =>
   refine⟨?_,h2.2⟩;cases x with
   |d x=>exact h2.1.move mv
   |tp=>exact h2.1
   |dk kvs =>
    obtain⟨a',l,e1,e2,e3,e4⟩:=h2.1;obtain⟨a'',f1,f2⟩:=h2.2 rfl;rw[e1]at f1;cases f1;exact⟨a',l,e1,by rw[jad λ(z:a'=a)=>f2 (z▸h0)];exact e2,e3,e4.move mv⟩
   |dx kvs =>
    obtain⟨a',l,e1,e2,e3,e4⟩:=h2.1;obtain⟨a'',f1,f2⟩:=h2.2 rfl;rw[e1]at f1;cases f1;exact⟨a',l,e1,by rw[jad λ(z:a'=a)=>f2 (z▸h0)];exact e2,e3,e4.move mv⟩
   |ln ds =>
    obtain⟨a',l,e1,e2,e3,e4,e5⟩:=h2.1;obtain⟨a'',f1,f2⟩:=h2.2 rfl;rw[e1]at f1;cases f1;exact⟨a',l,e1,by rw[jad λ(z:a'=a)=>f2 (z▸h0)];exact e2,e3,e4,e5.move mv⟩
   |ob o=>exact ORel.move mv h2.1
  |own ds =>
   obtain⟨a',xs,e1,e2,e3,e4,e5,e6⟩:=h2;have ne:a'≠a:=λz=>ho i _ e rfl (by rw[h1,e1,z]);exact⟨a',xs,e1,by rw[jad ne];exact e2,e3,e4,e5,e6.move mv⟩
  |odk kvs =>
   obtain⟨a',xs,e1,e2,e3,e4,e5,e6⟩:=h2;have ne:a'≠a:=λz=>ho i _ e rfl (by rw[h1,e1,z]);exact⟨a',xs,e1,by rw[jad ne];exact e2,e3,e4,e5,e6.move mv⟩
  |odt kvs =>
   obtain⟨a',xs,e1,e2,e3,e4,e5,e6⟩:=h2;have ne:a'≠a:=λz=>ho i _ e rfl (by rw[h1,e1,z]);exact⟨a',xs,e1,by rw[jad ne];exact e2,e3,e4,e5,e6.move mv⟩
  |odx kvs =>
   obtain⟨a',xs,e1,e2,e3,e4,e5,e6⟩:=h2;have ne:a'≠a:=λz=>ho i _ e rfl (by rw[h1,e1,z]);exact⟨a',xs,e1,by rw[jad ne];exact e2,e3,e4,e5,e6.move mv⟩
 ow:=R.ow
 len:=R.len
theorem Rel.mutOwn {C:Ctx} {H:Hp} {B:Addr->Prop} {σ:St} {δ:Sl} {n:Int} {i:Nat} {x x':SV} {a:Addr} {o:HO} (R:Rel C H B σ δ n) (hi:δ[i]?=some (some x)) (hx:x.isOwn=true) (hσ:σ[i]?=some (some (.ref a))) (hb:B a) (h0:C.H0 a=none)
  (h:SRel C.H0 (upd H a o) B C.t (.ref a) x') (hx':x'.isOwn=true):Rel C (upd H a o) B σ (δ.set i (some x')) n:=by
 -- first the other slots: slot i is taken out
 have R1:Rel C H B σ (δ.set i none) n:={
  tp:=R.tp,kp:=R.kp,t0:=R.t0,l0:=R.l0,g0:=R.g0,fz:=R.fz,bt:=R.bt,b0:=R.b0,ba:=R.ba,a0:=R.a0
  sl:=λj y e=>by
   by_cases z:i=j
   ·subst z;rw[E6]at e;rw[hi]at e;cases e
   ·rw[Cz z]at e;exact R.sl j y e
  ow:=λj k y z u e1 e2 o1 o2 f1 f2=>by
   have g:∀{m:Nat} {w:SV},(δ.set i none)[m]?=some (some w)->δ[m]?=some (some w):=λ{m w} e=>by
    by_cases q:i=m
    ·subst q;rw[E6,hi]at e;cases e
    ·rwa [Cz q]at e
   exact R.ow j k y z u (g e1) (g e2) o1 o2 f1 f2
  len:=by rw[C3];exact R.len}
 have R2:Rel C (upd H a o) B σ (δ.set i none) n:=R1.mut hb h0 λj y e oy f=>by
  by_cases z:i=j
  ·subst z;rw[E6,hi]at e;cases e
  ·rw[Cz z]at e;exact z (R.ow i j x y _ hi e hx oy hσ f)
 have hlt:i < δ.length:=(Bn.mp hi).1;exact{
  tp:=R2.tp,kp:=R2.kp,t0:=R2.t0,l0:=R2.l0,g0:=R2.g0,fz:=R2.fz,bt:=R2.bt,b0:=R2.b0,ba:=R2.ba,a0:=R2.a0
  sl:=λj y e=>by
   rcases jai e with⟨rfl,rfl⟩ | ⟨ne,e'⟩
   ·exact⟨_,hσ,h⟩
   ·exact R2.sl j y (by rw[Cz λz=>ne z.symm];exact e')
  ow:=λj k y z u e1 e2 o1 o2 f1 f2=>by
   rcases jai e1 with⟨rfl,rfl⟩ | ⟨ne1,e1'⟩
   ·rcases jai e2 with⟨rfl,rfl⟩ | ⟨ne2,e2'⟩
    ·rfl
    ·exact R.ow _ _ x z u hi e2' hx o2 f1 f2
   ·rcases jai e2 with⟨rfl,rfl⟩ | ⟨ne2,e2'⟩
    ·exact R.ow _ _ y x u e1' hi o1 hx f1 f2
    ·exact R.ow j k y z u e1' e2' o1 o2 f1 f2
  len:=by rw[C3];exact R.len}
theorem Rel.own {C:Ctx} {H H':Hp} {B:Addr->Prop} {σ:St} {δ:Sl} {n n':Int} {i:Nat} {a:Addr} {x:SV} (R:Rel C H B σ δ n) (R':Rel C H' B σ δ n') (k:Kp C.t H H') (h0:H a=none) (h1:H' a≠none) (hx:x.isOwn=true)
  (h:SRel C.H0 H' (λb=>B b\/b=a) C.t (.ref a) x):Rel C H' (λb=>B b\/b=a) (σ.set i (some (.ref a))) (δ.set i (some x)) n' where
 tp:=R'.tp
 kp:=R'.kp
 t0:=R'.t0
 l0:=R'.l0
 g0:=R'.g0
 fz:=λb o e=>⟨(R'.fz b o e).1,λz=>z.elim (R'.fz b o e).2 λq=>jae (R.fz b o e).1 h0 q⟩
 bt:=.inl R.bt
 b0:=λb z=>.inl (R.b0 b z)
 ba:=λb z=>z.elim (R'.ba b) λq=>q▸h1
 a0:=R.a0
 sl:=λj y e=>by
  have hta:C.t≠a:=λz=>by
   obtain⟨_,_,q,_⟩:=R.tp.ob;rw[z,h0]at q;cases q
  have mv:∀b o',H b=some o'->¬B b->H' b=some o'/\¬(B b\/b=a):=λb o' e n=>⟨k b o' e λz=>n (z▸R.bt),λz=>z.elim n λq=>jae e h0 q⟩;rcases jai e with⟨rfl,rfl⟩ | ⟨ne,e'⟩
  ·exact⟨_,jbm (by rw[R.len];exact jko e),h⟩
  ·obtain⟨v,f1,f2⟩:=R.sl j y e';refine⟨v,by rw[ja6 ne];exact f1,?_⟩;cases y with
   |w y =>
    refine⟨?_,f2.2⟩;cases y with
    |d y=>exact f2.1.move mv
    |tp=>exact f2.1
    |dk kvs =>
     obtain⟨a',l,e1,e2,e3,e4⟩:=f2.1;exact⟨a',l,e1,k _ _ e2 e3,e3,e4.move mv⟩
    |dx kvs =>
     obtain⟨a',l,e1,e2,e3,e4⟩:=f2.1;exact⟨a',l,e1,k _ _ e2 e3,e3,e4.move mv⟩
    |ln ds =>
     obtain⟨a',l,e1,e2,e3,e4,e5⟩:=f2.1;exact⟨a',l,e1,k _ _ e2 e3,e3,e4,e5.move mv⟩
    |ob o=>exact ORel.move mv f2.1
   |own ds =>
    obtain⟨a',xs,e1,e2,e3,e4,e5,e6⟩:=f2;exact⟨a',xs,e1,k _ _ e2 (λz=>R.t0 (z▸e4)),.inl e3,e4,e5,e6.move mv⟩
   |odk kvs =>
    obtain⟨a',xs,e1,e2,e3,e4,e5,e6⟩:=f2;exact⟨a',xs,e1,k _ _ e2 (λz=>R.t0 (z▸e4)),.inl e3,e4,e5,e6.move mv⟩
   |odt kvs =>
    obtain⟨a',xs,e1,e2,e3,e4,e5,e6⟩:=f2;exact⟨a',xs,e1,k _ _ e2 (λz=>R.t0 (z▸e4)),.inl e3,e4,e5,e6.move mv⟩
   |odx kvs =>
    obtain⟨a',xs,e1,e2,e3,e4,e5,e6⟩:=f2;exact⟨a',xs,e1,k _ _ e2 (λz=>R.t0 (z▸e4)),.inl e3,e4,e5,e6.move mv⟩
 ow:=λj m y z u e1 e2 o1 o2 f1 f2=>by
  have out:∀{p:Nat} {w:SV},δ[p]?=some (some w)->w.isOwn=true->σ[p]?=some (some (.ref a))->False:=λ{p w} e ow f=>by
   obtain⟨v,g1,g2⟩:=R.sl p w e;rw[f]at g1;cases g1;cases w with
   |w _=>cases ow
   |own ds =>
    obtain⟨a',xs,e1,e2,_⟩:=g2;cases e1;rw[h0]at e2;cases e2
   |odk ds =>
    obtain⟨a',xs,e1,e2,_⟩:=g2;cases e1;rw[h0]at e2;cases e2
   |odt ds =>
    obtain⟨a',xs,e1,e2,_⟩:=g2;cases e1;rw[h0]at e2;cases e2
   |odx ds =>
    obtain⟨a',xs,e1,e2,_⟩:=g2;cases e1;rw[h0]at e2;cases e2
  rcases jai e1 with⟨rfl,rfl⟩ | ⟨ne1,e1'⟩
  ·rcases jai e2 with⟨rfl,rfl⟩ | ⟨ne2,e2'⟩
   ·rfl
   ·rw[jbm (by rw[R.len];exact jko e1)]at f1;rw[ja6 ne2]at f2;cases f1;exact(out e2' o2 f2).elim
  ·rcases jai e2 with⟨rfl,rfl⟩ | ⟨ne2,e2'⟩
   ·rw[jbm (by rw[R.len];exact jko e2)]at f2;rw[ja6 ne1]at f1;cases f2;exact(out e1' o1 f1).elim
   ·rw[ja6 ne1]at f1;rw[ja6 ne2]at f2;exact R.ow j m y z u e1' e2' o1 o2 f1 f2
 len:=by rw[C3,C3];exact R.len
theorem Rel.give {C:Ctx} {H:Hp} {B:Addr->Prop} {σ:St} {δ:Sl} {n:Int} {i:Nat} {x:SV} {y:Wv} {a:Addr} (R:Rel C H B σ δ n) (hi:δ[i]?=some (some x)) (ox:x.isOwn=true) (hv:σ[i]?=some (some (.ref a))) (e4:C.H0 a=none) (hy:WRel H (λb=>B b/\b≠a) C.t (.ref a) y) (hl:y.lent=false):Rel C H (λb=>B b/\b≠a) σ (δ.set i (some (.w y))) n:=by
 have less:∀b,(B b/\b≠a)->B b:=λb z=>z.1;exact{
  tp:=R.tp,kp:=R.kp,t0:=R.t0,l0:=R.l0,g0:=R.g0
  fz:=λb o e=>⟨(R.fz b o e).1,λz=>(R.fz b o e).2 z.1⟩
  bt:=⟨R.bt,λz=>R.t0 (z▸e4)⟩
  b0:=λb z=>⟨R.b0 b z,λq=>R.a0 b z (q▸e4)⟩
  ba:=λb z=>R.ba b z.1
  a0:=R.a0
  sl:=λj y' e=>by
   rcases jai e with⟨rfl,rfl⟩ | ⟨ne,e'⟩
   ·exact⟨_,hv,hy,λz=>by rw[hl]at z;cases z⟩
   ·obtain⟨u,f1,f2⟩:=R.sl j y' e';refine⟨u,f1,?_⟩;cases y' with
    |w y=>exact⟨f2.1.less less,f2.2⟩
    |own ds' =>
     obtain⟨a',xs',g1,g2,g3,g4,g5,g6⟩:=f2;refine⟨a',xs',g1,g2,⟨g3,λz=>?_⟩,g4,g5,g6.less less⟩;exact ne (R.ow j i _ _ _ e' hi rfl ox f1 (by rw[hv,g1,z]))
    |odk ds' =>
     obtain⟨a',xs',g1,g2,g3,g4,g5,g6⟩:=f2;refine⟨a',xs',g1,g2,⟨g3,λz=>?_⟩,g4,g5,g6.move λb o e n=>⟨e,λz=>n z.1⟩⟩;exact ne (R.ow j i _ _ _ e' hi rfl ox f1 (by rw[hv,g1,z]))
    |odt ds' =>
     obtain⟨a',xs',g1,g2,g3,g4,g5,g6⟩:=f2;refine⟨a',xs',g1,g2,⟨g3,λz=>?_⟩,g4,g5,g6.move λb o e n=>⟨e,λz=>n z.1⟩⟩;exact ne (R.ow j i _ _ _ e' hi rfl ox f1 (by rw[hv,g1,z]))
    |odx ds' =>
     obtain⟨a',xs',g1,g2,g3,g4,g5,g6⟩:=f2;refine⟨a',xs',g1,g2,⟨g3,λz=>?_⟩,g4,g5,g6.move λb o e n=>⟨e,λz=>n z.1⟩⟩;exact ne (R.ow j i _ _ _ e' hi rfl ox f1 (by rw[hv,g1,z]))
  ow:=λj k y z u e1 e2 o1 o2 f1 f2=>by
   rcases jai e1 with⟨rfl,rfl⟩ | ⟨ne1,e1'⟩
   ·cases o1
   ·rcases jai e2 with⟨rfl,rfl⟩ | ⟨ne2,e2'⟩
    ·cases o2
    ·exact R.ow j k y z u e1' e2' o1 o2 f1 f2
  len:=by rw[C3];exact R.len}
theorem Rel.frz {C:Ctx} {H:Hp} {B:Addr->Prop} {σ:St} {δ:Sl} {n:Int} {i:Nat} {ds:List Ab} (R:Rel C H B σ δ n) (hi:δ[i]?=some (some (.own ds))):∃B',Rel C H B' σ (δ.set i (some (.w (.d (.list ds))))) n:=by
 obtain⟨v,hv,a,xs,rfl,e2,e3,e4,e5,e6⟩:=R.sl i _ hi;exact⟨_,R.give hi rfl hv e4 (show RdX H _ (.ref a) (.list ds)from .lst e2 (λz=>z.2 rfl) e5 (e6.less λb z=>z.1)) rfl⟩
theorem Rel.frzK {C:Ctx} {H:Hp} {B:Addr->Prop} {σ:St} {δ:Sl} {n:Int} {i:Nat} {m:List (Key×Ab)} (R:Rel C H B σ δ n) (hi:δ[i]?=some (some (.odk m))):∃B',Rel C H B' σ (δ.set i (some (.w (.ob (.k m))))) n:=by
 obtain⟨v,hv,a,xs,rfl,e2,e3,e4,e5,e6⟩:=R.sl i _ hi;exact⟨_,R.give hi rfl hv e4 ⟨a,xs,rfl,e2,λz=>z.2 rfl,e6.move λb o e n=>⟨e,λz=>n z.1⟩⟩ rfl⟩
theorem Rel.frzX {C:Ctx} {H:Hp} {B:Addr->Prop} {σ:St} {δ:Sl} {n:Int} {i:Nat} {m:List (TK×Ab)} (R:Rel C H B σ δ n) (hi:δ[i]?=some (some (.odx m))):∃B',Rel C H B' σ (δ.set i (some (.w (.ob (.x m))))) n:=by
 obtain⟨v,hv,a,xs,rfl,e2,e3,e4,e5,e6⟩:=R.sl i _ hi;exact⟨_,R.give hi rfl hv e4 ⟨a,xs,rfl,e2,λz=>z.2 rfl,e6.move λb o e n=>⟨e,λz=>n z.1⟩⟩ rfl⟩
abbrev DQ:=Wv->Int->Prop
abbrev DT:=Sl->Int->DQ->Prop
abbrev DTT:=Sl->Int->(Bool->Int->Prop)->Prop
abbrev DTA:=Sl->Int->(List Wv->Int->Prop)->Prop
inductive ARel (H:Hp) (B:Addr->Prop) (t:Addr):List V->List Wv->Prop
 |nil:ARel H B t [] []
 |cons {v:V} {vs:List V} {x:Wv} {xs:List Wv}:WRel H B t v x->ARel H B t vs xs->ARel H B t (v::vs) (x::xs)
theorem ARel.kp {H H':Hp} {B:Addr->Prop} {t:Addr} (k:Kp t H H') (ht:B t):∀{vs:List V} {xs:List Wv},ARel H B t vs xs->ARel H' B t vs xs
 |_,_,.nil=>.nil
 |_,_,.cons a b=>.cons (a.kp k ht) (ARel.kp k ht b)
theorem ARel.len {H:Hp} {B:Addr->Prop} {t:Addr}:∀{vs:List V} {xs:List Wv},ARel H B t vs xs->vs.length=xs.length
 |_,_,.nil=>rfl
 |_,_,.cons _ b=>by rw[Ar,Ar,ARel.len b]
def Snd (t:TE) (w:DT):Prop:=∀(C:Ctx) (H:Hp) (B:Addr->Prop) (σ:St) (δ:Sl) (n:Int) (Q:DQ) (Q':VK),Rel C H B σ δ n->w δ n Q ->
 (∀v x H' n',Rel C H' B σ δ n'->Kp C.t H H'->WRel H' B C.t v x->Q x n'->Q' v H')->t σ H Q'
def SndT (t:TT) (w:DTT):Prop:=∀(C:Ctx) (H:Hp) (B:Addr->Prop) (σ:St) (δ:Sl) (n:Int) (Q:Bool->Int->Prop) (Q':Bool->Hp->Prop),Rel C H B σ δ n->w δ n Q ->
 (∀b H' n',Rel C H' B σ δ n'->Kp C.t H H'->Q b n'->Q' b H')->t σ H Q'
def SndA (t:TA) (w:DTA):Prop:=∀(C:Ctx) (H:Hp) (B:Addr->Prop) (σ:St) (δ:Sl) (n:Int) (Q:List Wv->Int->Prop) (Q':List V->Hp->Prop),Rel C H B σ δ n->w δ n Q ->
 (∀vs xs H' n',Rel C H' B σ δ n'->Kp C.t H H'->ARel H' B C.t vs xs->Q xs n'->Q' vs H')->t σ H Q'
abbrev DTF:=Sl->Int->(List Ab->Int->Prop)->Prop
def SndF (t:TE) (w:DTF):Prop:=∀(C:Ctx) (H:Hp) (B:Addr->Prop) (σ:St) (δ:Sl) (n:Int) (Q:List Ab->Int->Prop) (Q':VK),Rel C H B σ δ n->w δ n Q ->
 (∀a xs ds H' n',Rel C H' B σ δ n'->Kp C.t H H'->H a=none->H' a=some (.lst xs)->xs.length<=Az->RdXs H' (λb=>B b\/b=a) xs ds->Q ds n'->Q' (.ref a) H')->t σ H Q'
structure DE (X:Cx) (e:Expr) (t:TE) (w:DT):Prop where
 pe:PE X e t
 sd:Snd t w
structure DC (X:Cx) (e:Expr) (t:TT) (w:DTT):Prop where
 pt:PT X e t
 sd:SndT t w
structure DCW (X:Cx) (e:Expr) (t:TT) (w:DTT):Prop where
 pw:PW X e t
 sd:SndT t w
structure DA (X:Cx) (es:List Expr) (t:TA) (w:DTA):Prop where
 pa:PA X es t
 sd:SndA t w
structure DF (X:Cx) (e:Expr) (t:TE) (w:DTF):Prop where
 pe:PE X e t
 sd:SndF t w
variable {X:Cx} {a b c e:Expr} {ta tb tc te:TE} {wa wb wc we:DT} {pos:Pos}
def wVar (i:Nat):DT:=λδ n Q=>match δ[i]? with
 |some (some (.w x))=>Q x n
 |_=>False
theorem jz1 (i:Nat) {x:Str} {p:Pos} (hN:X.N[i]?=some x:=by rfl) (hv:Vis X.env.scope x:=by first | exact C5 rfl | exact B9 (C5 rfl) | exact B9 (B9 rfl)) (hd:(x==("__debug__":Str))=false:=by decide)
  (hcd:(x==("__classdict__":Str))=false:=by decide):DE X (.Name x p) (tVar i) (wVar i):=⟨jcc hN hv hd hcd,λC H B σ δ n Q Q' R h k=>by
 unfold wVar at h
 split at h
 ·rename_i x e;obtain⟨v,h1,h2⟩:=R.sl i _ e;exact⟨v,h1,k v x H n R (Kp.refl _ _) h2.1 h⟩
 ·exact h.elim⟩
def wC (d:Ab):DT:=λ_ n Q=>Q (.d d) n
theorem jpw {v:V} {d:Ab} (h:∀H B,RdX H B v d):Snd (tC v) (wC d):=λC H B σ δ n Q Q' R q k=>k v (.d d) H n R (Kp.refl _ _) (h H B) q
theorem j0c {i j p}:DE X (.Constant (.int i) j p) (tC (.int i)) (wC (.int i)):=⟨jan,jpw λ_ _=>.int i⟩
theorem d_bl {i j p}:DE X (.Constant (.bool i) j p) (tC (.bl i)) (wC (.bool i)):=⟨jzi,jpw λ_ _=>.bl i⟩
theorem jz7 {j p}:DE X (.Constant .none j p) (tC .non) (wC .none):=⟨jkt,jpw λ_ _=>.non⟩
theorem jz5 {x j p} (h:Str.length x<=Az:=by decide +kernel):DE X (.Constant (.str x) j p) (tC (.str x)) (wC (.str x)):=⟨jwx,jpw λ_ _=>.str x h⟩
def w2 (wa wb:DT) (g:Wv->Wv->Int->DQ->Prop):DT:=λδ n Q=>wa δ n λx n1=>wb δ n1 λy n2=>g x y n2 Q
def SndO (r:R2) (g:Wv->Wv->Int->DQ->Prop):Prop:=∀(C:Ctx) (H:Hp) (B:Addr->Prop) (σ:St) (δ:Sl) (n:Int) (x y:V) (p q:Wv) (Q:DQ) (Q':VK),Rel C H B σ δ n->WRel H B C.t x p->WRel H B C.t y q->g p q n Q ->
 (∀v x H' n',Rel C H' B σ δ n'->Kp C.t H H'->WRel H' B C.t v x->Q x n'->Q' v H')->r x y H Q'
theorem jii {r:R2} {g:Wv->Wv->Int->DQ->Prop} (hr:SndO r g) (ha:Snd ta wa) (hb:Snd tb wb):Snd (tOp r ta tb) (w2 wa wb g):=λC H B σ δ n Q Q' R h k =>
 ha C H B σ δ n _ _ R h λv x H1 n1 R1 k1 r1 q1=>hb C H1 B σ δ n1 _ _ R1 q1 λu y H2 n2 R2 k2 r2 q2 =>
  hr C H2 B σ δ n2 v u x y Q Q' R2 (r1.kp k2 R1.bt) r2 q2 λz p H3 n3 R3 k3 r3 q3=>k z p H3 n3 R3 ((k1.trans k2).trans k3) r3 q3
theorem d_op {op:Operator} {r:R2} {g:Wv->Wv->Int->DQ->Prop} (ho:OpR X (Ea op) r) (hr:SndO r g) (ha:DE X a ta wa) (hb:DE X b tb wb):DE X (.BinOp a op b pos) (tOp r ta tb) (w2 wa wb g) :=
 ⟨jbl ho ha.pe hb.pe,jii hr ha.sd hb.sd⟩
theorem juz {op:CmpOp} {r:R2} {g:Wv->Wv->Int->DQ->Prop} (ho:OpR X (B4 op) r) (hr:SndO r g) (ha:DE X a ta wa) (hb:DE X b tb wb) (hm:D6 op b=false):DE X (.Compare a [op] [b] pos) (tOp r ta tb) (w2 wa wb g) :=
 ⟨jt2 ho ha.pe hb.pe hm,jii hr ha.sd hb.sd⟩
def cT (w:DT):DTT:=λδ n Q=>w δ n λx n'=>match x with
 |.d (.bool k)=>Q k n'
 |_=>False
theorem wd {H:Hp} {B:Addr->Prop} {t:Addr} {v:V} {d:Ab} (h:RdX H B v d):WRel H B t v (.d d):=h
theorem jkk {t:TE} {w:DT} (h:Snd t w):SndT (jpq t) (cT w):=λC H B σ δ n Q Q' R q k =>
 h C H B σ δ n _ _ R q λv x H' n' R' k' r' q'=>by
  split at q'
  ·rename_i b;cases(show RdX H' B v (.bool b)from r');exact⟨b,rfl,k b H' n' R' k' q'⟩
  ·exact q'.elim
theorem jfx {op:CmpOp} {r:R2} {g:Wv->Wv->Int->DQ->Prop} (ho:OpR X (B4 op) r) (hr:SndO r g) (ha:DE X a ta wa) (hb:DE X b tb wb) (hm:D6 op b=false):DC X (.Compare a [op] [b] pos) (jpq (tOp r ta tb)) (cT (w2 wa wb g)) :=
 ⟨jej ho ha.pe hb.pe hm,jkk (jii hr ha.sd hb.sd)⟩
theorem j0k {t:TE} {w:DT} (h:DE X e t w) (he:∀whole,isTrue e X.env whole=(do let v <-whole;standAt e.pos;holding [v] (truthy v)):=by intro _;rfl):DC X e (jpq t) (cT w):=⟨jwr h.pe he,jkk h.sd⟩
def jyq (x:Wv) (A B:Prop):Prop:=match x with
 |.d (.bool true)=>A
 |.d (.bool false)=>B
 |_=>False
variable {tA tB':TT} {cA cB:DTT} {rest:List Expr}
def cAnd (u v:DTT):DTT:=λδ n Q=>u δ n λb n1=>if b=true then v δ n1 Q else Q false n1
def cOr (u v:DTT):DTT:=λδ n Q=>u δ n λb n1=>if b=true then Q true n1 else v δ n1 Q
def cNot (u:DTT):DTT:=λδ n Q=>u δ n λb n1=>Q (!b) n1
theorem cw_and1 (h:DC X a tA cA):DCW X (.BoolOp .And [a] pos) tA cA:=⟨jnp h.pt,h.sd⟩
theorem cw_or1 (h:DC X a tA cA):DCW X (.BoolOp .Or [a] pos) tA cA:=⟨jwq h.pt,h.sd⟩
theorem cw_and (h:DC X a tA cA) (h2:DCW X (.BoolOp .And (b::rest) pos) tB' cB):DCW X (.BoolOp .And (a::b::rest) pos) (tAnd tA tB') (cAnd cA cB):=⟨jr3 h.pt h2.pw,λC H B σ δ n Q Q' R q k =>
 h.sd C H B σ δ n _ _ R q λb H1 n1 R1 k1 q1=>by
  cases b with
  |true =>
   rw[if_pos rfl]at q1 ⊢;exact h2.sd C H1 B σ δ n1 _ _ R1 q1 λb H2 n2 R2 k2 q2=>k b H2 n2 R2 (k1.trans k2) q2
  |false =>
   rw[if_neg Am]at q1 ⊢;exact k false H1 n1 R1 k1 q1⟩
theorem cw_or (h:DC X a tA cA) (h2:DCW X (.BoolOp .Or (b::rest) pos) tB' cB):DCW X (.BoolOp .Or (a::b::rest) pos) (tOr tA tB') (cOr cA cB):=⟨jzf h.pt h2.pw,λC H B σ δ n Q Q' R q k =>
 h.sd C H B σ δ n _ _ R q λb H1 n1 R1 k1 q1=>by
  cases b with
  |true =>
   rw[if_pos rfl]at q1 ⊢;exact k true H1 n1 R1 k1 q1
  |false =>
   rw[if_neg Am]at q1 ⊢;exact h2.sd C H1 B σ δ n1 _ _ R1 q1 λb H2 n2 R2 k2 q2=>k b H2 n2 R2 (k1.trans k2) q2⟩
theorem DCW.cc (h:DCW X a tA cA):DC X a tA cA:=⟨h.pw.pt,h.sd⟩
theorem j0l (h:DC X a tA cA):DC X (.UnaryOp .Not a pos) (tNot tA) (cNot cA):=⟨jws h.pt,λC H B σ δ n Q Q' R q k=>h.sd C H B σ δ n _ _ R q λb H1 n1 R1 k1 q1=>k (!b) H1 n1 R1 k1 q1⟩
def wAnd (u v:DT):DT:=λδ n Q=>u δ n λx n1=>jyq x (v δ n1 Q) (Q (.d (.bool false)) n1)
theorem jz6 {op} (h:DE X a ta wa):DE X (.BoolOp op [a] pos) ta wa:=⟨jwy h.pe,h.sd⟩
theorem j0e (h:DE X a ta wa) (h2:DE X (.BoolOp .And (b::rest) pos) tb wb):DE X (.BoolOp .And (a::b::rest) pos) (jvq ta tb) (wAnd wa wb):=⟨jw0 h.pe h2.pe,λC H B σ δ n Q Q' R q k =>
 h.sd C H B σ δ n _ _ R q λv x H1 n1 R1 k1 r1 q1=>by
  unfold jyq at q1
  split at q1
  ·cases(show RdX H1 B v (.bool true)from r1);refine⟨true,rfl,?_⟩;rw[if_pos rfl];exact h2.sd C H1 B σ δ n1 _ _ R1 q1 λv x H2 n2 R2 k2 r2 q2=>k v x H2 n2 R2 (k1.trans k2) r2 q2
  ·cases(show RdX H1 B v (.bool false)from r1);refine⟨false,rfl,?_⟩;rw[if_neg Am];exact k _ _ H1 n1 R1 k1 (wd (.bl false)) q1
  ·exact q1.elim⟩
def wIf (u:DTT) (v w:DT):DT:=λδ n Q=>u δ n λb n1=>if b=true then v δ n1 Q else w δ n1 Q
theorem jux (h:DC X c tA cA) (h1:DE X a ta wa) (h2:DE X b tb wb):DE X (.IfExp c a b pos) (tIf tA ta tb) (wIf cA wa wb):=⟨jqj h.pt h1.pe h2.pe,λC H B σ δ n Q Q' R q k =>
 h.sd C H B σ δ n _ _ R q λb H1 n1 R1 k1 q1=>by
  cases b with
  |true =>
   rw[if_pos rfl]at q1 ⊢;exact h1.sd C H1 B σ δ n1 _ _ R1 q1 λv x H2 n2 R2 k2 r2 q2=>k v x H2 n2 R2 (k1.trans k2) r2 q2
  |false =>
   rw[if_neg Am]at q1 ⊢;exact h2.sd C H1 B σ δ n1 _ _ R1 q1 λv x H2 n2 R2 k2 r2 q2=>k v x H2 n2 R2 (k1.trans k2) r2 q2⟩
variable {es:List Expr} {tR:TA} {wR:DTA}
def aNil:DTA:=λ_ n Q=>Q [] n
def jaa (w:DT) (r:DTA):DTA:=λδ n Q=>w δ n λx n1=>r δ n1 λxs n2=>Q (x::xs) n2
theorem j0p:DA X [] tNil aNil:=⟨jbd,λC H B σ δ n Q Q' R q k=>k [] [] H n R (Kp.refl _ _) .nil q⟩
theorem jyt (h:DE X e te we) (hr:DA X es tR wR) (hs:Au (e::es) X.env=(false,eval e X.env)::Au es X.env:=by rfl):DA X (e::es) (jby te tR) (jaa we wR):=⟨jak h.pe hr.pa hs,λC H B σ δ n Q Q' R q k =>
 h.sd C H B σ δ n _ _ R q λv x H1 n1 R1 k1 r1 q1=>hr.sd C H1 B σ δ n1 _ _ R1 q1 λvs xs H2 n2 R2 k2 r2 q2=>k (v::vs) (x::xs) H2 n2 R2 (k1.trans k2) (.cons (r1.kp k2 R1.bt) r2) q2⟩
def jbw:List Wv->Option (List Ab)
 |[]=>some []
 |.d x::r=>(jbw r).map (x::·)
 |_::_=>none
theorem ARel.plain {H:Hp} {B:Addr->Prop} {t:Addr}:∀{vs:List V} {xs:List Wv} {ds:List Ab},ARel H B t vs xs->jbw xs=some ds->RdXs H B vs ds
 |_,_,_,.nil,h=>by
  cases h;exact .nil
 |_,_,ds,.cons (x:=x) (xs:=xs) a b,h=>by
  cases x with
  |d x =>
   have h':(jbw xs).map (x::·)=some ds:=h;cases e:jbw xs with
   |none=>rw[e]at h';cases h'
   |some es =>
    rw[e]at h';cases h';exact .cons a (ARel.plain b e)
  |tp=>cases h
  |dk _=>cases h
  |dx _=>cases h
  |ln _=>cases h
  |ob _=>cases h
theorem RdXs.fresh {H:Hp} {B:Addr->Prop} {vs:List V} {ds:List Ab} {p:Addr} {o:HO} (h:RdXs H B vs ds) (hp:H p=none):RdXs (upd H p o) (λb=>B b\/b=p) vs ds :=
 h.move λb o' e n=>⟨by rw[jad (jae e hp)];exact e,λz=>z.elim n λq=>jae e hp q⟩
def wTup (w:DTA):DT:=λδ n Q=>w δ n λxs n1=>match jbw xs with
 |some ds=>ds.length<=1000/\Q (.d (.tuple ds)) n1
 |none=>False
theorem jz2 {x1} (h:DA X es tR wR):DE X (.Tuple es x1 pos) (tTup tR) (wTup wR):=⟨jww h.pa,λC H B σ δ n Q Q' R q k =>
 h.sd C H B σ δ n _ _ R q λvs xs H1 n1 R1 k1 r1 q1=>by
  split at q1
  ·rename_i ds e;have r:=r1.plain e;have hl:vs.length<=Az:=by rw[r.len];exact small q1.1
   refine⟨hl,λp hp=>k _ _ _ n1 (R1.new hp) (k1.trans (Kp.new hp)) (wd (show RdX _ B (.ref p) (.tuple ds)from ?_)) q1.2⟩;exact .tup jaf (R1.nb hp) hl ((r.fresh hp).less λb z=>.inl z)
  ·exact q1.elim⟩
def fLst (w:DTA):DTF:=λδ n Q=>w δ n λxs n1=>match jbw xs with
 |some ds=>ds.length<=1000/\Q ds n1
 |none=>False
theorem jzy (h:DA X es tR wR):DF X (.List es pos) (tLst tR) (fLst wR):=⟨jny h.pa,λC H B σ δ n Q Q' R q k =>
 h.sd C H B σ δ n _ _ R q λvs xs H1 n1 R1 k1 r1 q1=>by
  split at q1
  ·rename_i ds e;have r:=r1.plain e;have hl:vs.length<=Az:=by rw[r.len];exact small q1.1
   have hn:∀p,H1 p=none->H p=none:=λp hp=>by
    cases q:H p with
    |none=>rfl
    |some o =>
     by_cases z:p=C.t
     ·subst z;obtain⟨_,_,h,_⟩:=R1.tp.ob;rw[h]at hp;cases hp
     ·rw[k1 p o q z]at hp;cases hp
   exact⟨hl,λp hp=>k p vs ds _ n1 (R1.new hp) (k1.trans (Kp.new hp)) (hn p hp) jaf hl (r.fresh hp) q1.2⟩
  ·exact q1.elim⟩
def wOf (w:DTF):DT:=λδ n Q=>w δ n λds n1=>Q (.d (.list ds)) n1
theorem jvu {t:TE} {w:DTF} (h:SndF t w):Snd t (wOf w):=λC H B σ δ n Q Q' R q k =>
 h C H B σ δ n _ _ R q λa xs ds H' n' R' k' h0 h1 h2 h3 q'=>k _ _ H' n' R' k' (wd (show RdX H' B (.ref a) (.list ds)from .lst h1 (R.nb h0) h2 (h3.less λb z=>.inl z))) q'
theorem DF.d {w:DTF} {t:TE} (h:DF X e t w):DE X e t (wOf w):=⟨h.pe,jvu h.sd⟩
theorem Rel.was {C:Ctx} {H H1:Hp} {B:Addr->Prop} {σ:St} {δ:Sl} {n1:Int} (R1:Rel C H1 B σ δ n1) (k1:Kp C.t H H1) {p:Addr} (hp:H1 p=none):H p=none:=by
 cases q:H p with
 |none=>rfl
 |some o =>
  by_cases z:p=C.t
  ·subst z;obtain⟨_,_,h,_⟩:=R1.tp.ob;rw[h]at hp;cases hp
  ·rw[k1 p o q z]at hp;cases hp
abbrev DSp:=List Wv->Int->DQ->Prop
def spOf (S:DSp):Sp:=λvs H Q _=>∃(t:Addr) (l:TL) (ns:List Int) (B:Addr->Prop) (ws:List Wv) (n:Int) (Q0:DQ),Tp H t l ns n/\B t/\(∀b,B b->H b≠none)/\ARel H B t vs ws/\S ws n Q0 /\
 ∀w n',Q0 w n'->∀v H',Tp H' t l ns n'->Kp t H H'->WRel H' B t v w->Q v H'
section
variable {X:Cx} {e:Expr} {es:List Expr} {pos p:Pos} {tR:TA} {wR:DTA}
def jag (S:DSp) (w:DTA):DT:=λδ n Q=>w δ n λxs n1=>S xs n1 Q
theorem jpv {S:DSp} {t:TA} {w:DTA} (h:SndA t w):Snd (jei (spOf S) [] E0 t) (jag S w):=λC H B σ δ n Q Q' R q k =>
 h C H B σ δ n _ _ R q λvs xs H1 n1 R1 k1 r1 q1=>by
  refine⟨C.t,C.l,C.ns,B,xs,n1,Q,R1.tp,R1.bt,R1.ba,by rw[B7];exact r1,q1,λw n' q2 v H' T' k' r'=>?_⟩;exact k v w H' n' (R1.step T' k') (k1.trans k') r' q2
theorem jye {k:Nat} {f:Addr} {fd:B8} {ps:List Str} {S:DSp} {x:Str} (F:FnOk X.prog X.w X.K X.mg X.base CX0 k f fd ps (spOf S)) (hr:Room k X.A) (hg:Gl X x) (hm:X.mg x=some (.ref f)) (hk:Cp X.K (.ref f)=true) (hb:Binds X.K fd ps [])
  (ha:DA X (e::es) tR wR) (hdb:(x==("__debug__":Str))=false:=by decide) (he:Au (e::es) X.env=(false,eval e X.env)::Au es X.env:=by rfl) (hpl:(Da pos (Au es X.env)).any (·.1)=false:=by rfl) :
  DE X (.Call (.Name x p) (e::es) [] pos) (jei (spOf S) [] E0 tR) (jag S wR):=⟨jg4 F hr hg hm hk hb .nil jql ha.pa hdb he hpl,jpv ha.sd⟩
def SndB (r:List V->Hp->VK->Prop) (g:List Wv->Int->DQ->Prop):Prop:=∀(C:Ctx) (H:Hp) (B:Addr->Prop) (σ:St) (δ:Sl) (n:Int) (vs:List V) (xs:List Wv) (Q:DQ) (Q':VK),Rel C H B σ δ n->ARel H B C.t vs xs->g xs n Q ->
 (∀v x H' n',Rel C H' B σ δ n'->Kp C.t H H'->WRel H' B C.t v x->Q x n'->Q' v H')->r vs H Q'
def wB (g:List Wv->Int->DQ->Prop) (w:DTA):DT:=λδ n Q=>w δ n λxs n1=>g xs n1 Q
theorem jv0 {r:List V->Hp->VK->Prop} {g:List Wv->Int->DQ->Prop} {t:TA} {w:DTA} (hr:SndB r g) (h:SndA t w):Snd (tCB r t) (wB g w):=λC H B σ δ n Q Q' R q k =>
 h C H B σ δ n _ _ R q λvs xs H1 n1 R1 k1 r1 q1=>hr C H1 B σ δ n1 vs xs Q Q' R1 r1 q1 λv x H2 n2 R2 k2 r2 q2=>k v x H2 n2 R2 (k1.trans k2) r2 q2
theorem jhq {id:String} {x:Str} {r:List V->Hp->VK->Prop} {g:List Wv->Int->DQ->Prop} (hc:CallR X (.builtin id) r) (hr:SndB r g) (hg:Gl X x) (hm:X.mg x=none) (hv:Bm x=some (.builtin id)) (ha:DA X (e::es) tR wR) (hn:x≠"__name__":=by decide) (hdb:(x==("__debug__":Str))=false:=by decide)
  (he:Au (e::es) X.env=(false,eval e X.env)::Au es X.env:=by rfl) (hpl:(Da pos (Au es X.env)).any (·.1)=false:=by rfl):DE X (.Call (.Name x p) (e::es) [] pos) (tCB r tR) (wB g wR):=⟨jb9 hc hg hm hv ha.pa hn hdb he hpl,jv0 hr ha.sd⟩
theorem jhp {T:String} {x:Str} {r:List V->Hp->VK->Prop} {g:List Wv->Int->DQ->Prop} (hc:CallR X (.type T) r) (hr:SndB r g) (hg:Gl X x) (hm:X.mg x=none) (hv:Bm x=some (.type T)) (ha:DA X (e::es) tR wR) (hn:x≠"__name__":=by decide) (hdb:(x==("__debug__":Str))=false:=by decide)
  (he:Au (e::es) X.env=(false,eval e X.env)::Au es X.env:=by rfl) (hpl:(Da pos (Au es X.env)).any (·.1)=false:=by rfl):DE X (.Call (.Name x p) (e::es) [] pos) (tCB r tR) (wB g wR):=⟨jb0 hc hg hm hv ha.pa hn hdb he hpl,jv0 hr ha.sd⟩
end
structure DEnds where
 nx:Sl->Int->Prop
 rt:DQ
 bk:Sl->Int->Prop:=λ_ _=>False
 ct:Sl->Int->Prop:=λ_ _=>False
 rn:List Ab->Int->Prop:=λ_ _=>False
 rx:List (TK×Ab)->Int->Prop:=λ_ _=>False
abbrev DST:=Sl->Int->DEnds->Prop
structure EndsOk (C:Ctx) (K:DEnds) (D:Ends):Prop where
 nx:∀H B σ δ n,Rel C H B σ δ n->K.nx δ n->D.nx σ H
 rt:∀H B σ δ n v w,Rel C H B σ δ n->WRel H B C.t v w->K.rt w n->D.rt v H
 bk:∀H B σ δ n,Rel C H B σ δ n->K.bk δ n->D.bk σ H
 ct:∀H B σ δ n,Rel C H B σ δ n->K.ct δ n->D.ct σ H
 rn:∀H B σ δ n a xs ds,Rel C H B σ δ n->C.H0 a=none->H a=some (.lst xs)->xs.length<=Az->RdXs H (λb=>B b\/b=a) xs ds->K.rn ds n->D.rt (.ref a) H
 rx:∀H B σ δ n a l kvs,Rel C H B σ δ n->C.H0 a=none->H a=some (.dX l)->l.length<=1000->RdY H (λb=>B b\/b=a) l kvs->K.rx kvs n->D.rt (.ref a) H
def SndS (T:TS) (W:DST):Prop:=∀(C:Ctx) (H:Hp) (B:Addr->Prop) (σ:St) (δ:Sl) (n:Int) (K:DEnds) (D:Ends),Rel C H B σ δ n->W δ n K->EndsOk C K D->T D σ H
structure DS (X:Cx) (st:Stmt) (T:TS) (W:DST):Prop where
 ps:PS X st T
 sd:SndS T W
structure DSs (X:Cx) (st:List Stmt) (T:TS) (W:DST):Prop where
 ps:PSs X st T
 sd:SndS T W
section
variable {X:Cx} {st:Stmt} {rest:List Stmt} {T U:TS} {W V':DST} {e:Expr} {te:TE} {we:DT} {pos:Pos}
def ja8:DST:=λδ n K=>K.nx δ n
def sSeq (W V:DST):DST:=λδ n K=>W δ n {K with nx:=λδ n=>V δ n K}
theorem jy9:DSs X [] jvp ja8:=⟨jg2,λC H B σ δ n K D R h E=>E.nx H B σ δ n R h⟩
theorem jwd (h:DS X st T W) (h2:DSs X rest U V'):DSs X (st::rest) (tSeq T U) (sSeq W V'):=⟨ja5 h.ps h2.ps,λC H B σ δ n K D R q E =>
 h.sd C H B σ δ n _ _ R q ⟨λH B σ δ n R q=>h2.sd C H B σ δ n K D R q E,E.rt,E.bk,E.ct,E.rn,E.rx⟩⟩
theorem jy8 (h:DS X st T W):DSs X [st] T W:=⟨jc8 h.ps,h.sd⟩
def sRet (w:DT):DST:=λδ n K=>w δ n K.rt
theorem jy5 (h:DE X e te we):DS X (.Return (some e) pos) (tRet te) (sRet we):=⟨jgc h.pe,λC H B σ δ n K D R q E =>
 h.sd C H B σ δ n _ _ R q λv x H' n' R' _ r' q'=>E.rt H' B σ δ n' v x R' r' q'⟩
def sIf (c:DTT) (W V:DST):DST:=λδ n K=>c δ n λb n1=>if b=true then W δ n1 K else V δ n1 K
theorem s_if {c:Expr} {a b:List Stmt} {tc:TT} {cc:DTT} (hc:DC X c tc cc) (ha:DSs X a T W) (hb:DSs X b U V'):DS X (.If c a b pos) (tIfS tc T U) (sIf cc W V'):=⟨jqd hc.pt ha.ps hb.ps,λC H B σ δ n K D R q E =>
 hc.sd C H B σ δ n _ _ R q λb H1 n1 R1 _ q1=>by
  cases b with
  |true =>
   rw[if_pos rfl]at q1 ⊢;exact ha.sd C H1 B σ δ n1 K D R1 q1 E
  |false =>
   rw[if_neg Am]at q1 ⊢;exact hb.sd C H1 B σ δ n1 K D R1 q1 E⟩
def sSet (i:Nat) (w:DT):DST:=λδ n K=>w δ n λx n1=>match x with
 |.d d=>K.nx (δ.set i (some (.w (.d d)))) n1
 |.tp=>K.nx (δ.set i (some (.w .tp))) n1
 |.dk _=>False
 |.dx _=>False
 |.ln _=>False
 |.ob o=>K.nx (δ.set i (some (.w (.ob o)))) n1
theorem jy4 {i:Nat} {x:Str} {pos':Pos} (hN:X.N.Nodup) (hi:X.N[i]?=some x) (hx:Loc X.env.scope x) (he:DE X e te we) (hs:Dy e (some (.Name x pos')) pos.line X.env=pure false:=by rfl) (hf:X.fn x=true\/X.env.scope.names.lookup x=some .local:=by first | exact .inl rfl | exact .inr rfl | assumption) :
  DS X (.Assign [.Name x pos'] e pos) (tAsg te (jco i)) (sSet i we):=⟨jcb hN hi hx he.pe hs hf,λC H B σ δ n K D R q E =>
 he.sd C H B σ δ n _ _ R q λv x H1 n1 R1 _ r1 q1=>by
  cases x with
  |d d=>exact E.nx _ _ _ _ _ (R1.set r1 rfl) q1
  |tp=>exact E.nx _ _ _ _ _ (R1.set r1 rfl) q1
  |dk _=>exact q1.elim
  |dx _=>exact q1.elim
  |ln _=>exact q1.elim
  |ob o=>exact E.nx _ _ _ _ _ (R1.set r1 rfl) q1⟩
def sOwn (i:Nat) (w:DTF):DST:=λδ n K=>w δ n λds n1=>K.nx (δ.set i (some (.own ds))) n1
theorem Rel.h0 {C:Ctx} {H:Hp} {B:Addr->Prop} {σ:St} {δ:Sl} {n:Int} {a:Addr} (R:Rel C H B σ δ n) (h:H a=none):C.H0 a=none:=R.was R.kp h
theorem jy7 {i:Nat} {x:Str} {pos':Pos} {w:DTF} (hN:X.N.Nodup) (hi:X.N[i]?=some x) (hx:Loc X.env.scope x) (he:DF X e te w) (hs:Dy e (some (.Name x pos')) pos.line X.env=pure false:=by rfl) (hf:X.fn x=true\/X.env.scope.names.lookup x=some .local:=by first | exact .inl rfl | exact .inr rfl | assumption) :
  DS X (.Assign [.Name x pos'] e pos) (tAsg te (jco i)) (sOwn i w):=⟨jcb hN hi hx he.pe hs hf,λC H B σ δ n K D R q E =>
 he.sd C H B σ δ n _ _ R q λa xs ds H1 n1 R1 k1 h0 h1 h2 h3 q1=>by
  refine E.nx _ _ _ _ _ (R.own R1 k1 h0 (by rw[h1];exact λz=>nomatch z) rfl ?_) q1;exact⟨a,xs,rfl,h1,.inr rfl,R.h0 h0,h2,h3⟩⟩
def sFrz (i:Nat) (W:DST):DST:=λδ n K=>match δ[i]? with
 |some (some (.own ds))=>W (δ.set i (some (.w (.d (.list ds))))) n K
 |some (some (.odk m))=>W (δ.set i (some (.w (.ob (.k m))))) n K
 |some (some (.odx m))=>W (δ.set i (some (.w (.ob (.x m))))) n K
 |_=>W δ n K
theorem jza (i:Nat) {sts:List Stmt} (h:DSs X sts T W):DSs X sts T (sFrz i W):=⟨h.ps,λC H B σ δ n K D R q E=>by
 unfold sFrz at q
 split at q
 ·rename_i ds e;obtain⟨B',R'⟩:=R.frz e;exact h.sd C H B' σ _ n K D R' q E
 ·rename_i m e;obtain⟨B',R'⟩:=R.frzK e;exact h.sd C H B' σ _ n K D R' q E
 ·rename_i m e;obtain⟨B',R'⟩:=R.frzX e;exact h.sd C H B' σ _ n K D R' q E
 ·exact h.sd C H B σ δ n K D R q E⟩
def sApp (i:Nat) (w:DT):DST:=λδ n K=>match δ[i]? with
 |some (some (.own ds))=>w δ n λx n1=>match x with
  |.d d=>ds.length < 1000000/\K.nx (δ.set i (some (.own (ds++[d])))) n1
  |_=>False
 |_=>False
theorem jof {n:Nat} (h:n < 1000000):n < Az:=Nat.lt_trans h (by decide)
theorem jzd {i:Nat} {x:Str} {xp ap cp:Pos} (hN:X.N[i]?=some x) (he:DE X e te we) (hv:Vis X.env.scope x:=by first | exact C5 rfl | exact B9 (C5 rfl) | exact B9 (B9 rfl)) (hd:(x==("__debug__":Str))=false:=by decide)
  (hcd:(x==("__classdict__":Str))=false:=by decide)
  (hbase:attributeBase (.Name x xp) "append" X.env (eval (.Name x xp) X.env)=eval (.Name x xp) X.env:=by rfl)
  (hfew:((Da cp (Au [e] X.env)).all (λx=>!x.1)&&(backToKw cp (keywordEach [] X.env)).all (λx=>x.1.isSome)
   && decide ([e].length+([]:List Keyword).length+(if ([]:List Keyword).isEmpty then 0 else 1) < 30))=true:=by rfl)
  (hline:(ap.endLine==cp.line)=true:=by rfl) (hs:Au [e] X.env=[(false,eval e X.env)]:=by rfl) (hplain:(Da cp (Au [] X.env)).any (·.1)=false:=by rfl)
  (hsw:Dy (.Call (.Attribute (.Name x xp) "append" ap) [e] [] cp) none pos.line X.env=pure false:=by rfl) :
  DS X (.Expr (.Call (.Attribute (.Name x xp) "append" ap) [e] [] cp) pos) (js3 (tBM X.K "list" jno (tVar i) (jby te tNil))) (sApp i we) :=
 ⟨jnr (jwz PySem.F.plainAttrs_list PySem.F.slot_list_append PySem.F.type_list_append jel (jcc hN hv hd hcd) (jak he.pe jbd hs) hbase hfew hline hs hplain) hsw,λC H B σ δ n K D R q E=>by
  unfold sApp at q
  split at q
  ·rename_i ds ei;obtain⟨v,hv,a,xs,rfl,e2,e3,e4,e5,e6⟩:=R.sl i _ ei;refine⟨_,hv,.inl ⟨rfl,_,SqL.of e2⟩,he.sd C H B σ δ n _ _ R q λu y H1 n1 R1 k1 r1 q1=>?_⟩;cases y with
   |d d =>
    have hat:a≠C.t:=λz=>R.t0 (z▸e4);have e2':=k1 _ _ e2 hat;refine⟨a,xs,u,rfl,rfl,e2',jof (by rw[e6.len];exact q1.1),?_⟩;refine E.nx _ _ _ _ _ (R1.mutOwn ei rfl hv e3 e4 ?_ rfl) q1.2;refine⟨a,xs++[u],rfl,jaf,e3,e4,?_,?_⟩
    ·rw[As,e6.len];exact jof q1.1
    ·refine RdXs.keep (λb o e n=>?_) ((e6.kp k1 R.bt).append (.cons r1 .nil));rw[jad λ(z:b=a)=>n (z▸e3)];exact e
   |tp=>exact q1.elim
   |dk _=>exact q1.elim
   |dx _=>exact q1.elim
   |ln _=>exact q1.elim
   |ob _=>exact q1.elim
  ·exact q.elim⟩
end
def jap (N:List Str) (ws:List Wv):Sl:=ws.map (λx=>some (.w x))++C1 (N.length - ws.length) none
theorem ARel.get {H:Hp} {B:Addr->Prop} {t:Addr}:∀{vs:List V} {xs:List Wv} {i:Nat} {x:Wv},ARel H B t vs xs->xs[i]?=some x->∃v,vs[i]?=some v/\WRel H B t v x
 |_,_,_,_,.nil,e=>by simp at e
 |_,_,0,_,.cons h _,e=>by
  simp at e;subst e;exact⟨_,rfl,h⟩
 |_,_,i+1,x,.cons _ r,e=>by
  obtain⟨v,h1,h2⟩:=ARel.get (i:=i) (x:=x) r (by simpa using e);exact⟨v,by simpa using h1,h2⟩
theorem jin {H:Hp} {t:Addr} {l:TL} {ns:List Int} {B:Addr->Prop} {vs:List V} {ws:List Wv} {n:Int} {N:List Str} (T:Tp H t l ns n) (bt:B t) (ba:∀b,B b->H b≠none) (r:ARel H B t vs ws):Rel ⟨t,l,ns,H,B,λ_=>none⟩ H B (L2.start N vs) (jap N ws) n where
 tp:=T
 kp:=Kp.refl _ _
 t0:=by
  obtain⟨_,_,h,_⟩:=T.ob;show H t≠none;rw[h];exact λz=>nomatch z
 l0:=by
  show H l.s≠none;rw[T.ls];exact λz=>nomatch z
 g0:=λe=>by
  show H l.g≠none;rw[T.ag e];exact λz=>nomatch z
 fz:=λb o e=>nomatch e
 bt:=bt
 b0:=λ_ z=>z
 ba:=ba
 a0:=ba
 sl:=λi x e=>by
  have hl:=r.len;unfold jap at e;rw[List.getElem?_append]at e
  split at e
  ·rename_i hi;rw[Ae]at hi;rw[A0]at e;cases q:ws[i]? with
   |none=>rw[q]at e;cases e
   |some y =>
    rw[q]at e;cases e;obtain⟨v,h1,h2⟩:=r.get q;refine⟨v,?_,h2,λz=>?_⟩
    ·unfold L2.start;rw[Et (by rw[Ae,hl];exact hi),A0,h1];rfl
    ·cases y with
     |d _=>cases z
     |tp=>cases z
     |dk _ =>
      obtain⟨a,l',f1,f2,_⟩:=h2;exact⟨a,f1,by show H a≠none;rw[f2];exact λz=>nomatch z⟩
     |dx _ =>
      obtain⟨a,l',f1,f2,_⟩:=h2;exact⟨a,f1,by show H a≠none;rw[f2];exact λz=>nomatch z⟩
     |ln _ =>
      obtain⟨a,l',f1,f2,_⟩:=h2;exact⟨a,f1,by show H a≠none;rw[f2];exact λz=>nomatch z⟩
     |ob _=>cases z
  ·rw[D4]at e
   split at e
   ·cases e
   ·cases e
 ow:=λi j x y v e1 e2 o1 o2 _ _=>by
  unfold jap at e1;rw[List.getElem?_append]at e1
  split at e1
  ·rw[A0]at e1;cases q:ws[i]? with
   |none=>rw[q]at e1;cases e1
   |some y =>
    rw[q]at e1;cases e1;cases o1
  ·rw[D4]at e1
   split at e1
   ·cases e1
   ·cases e1
 len:=by
  unfold L2.start jap;rw[As,As,Ae,Ae,List.length_replicate,List.length_replicate,r.len]
section
variable {P:Bd} {w:Bq} {K:Af} {mg:Str->Option Ad} {base:Heap}
theorem Fun.okD {x qual:Str} {st:Stmt} {f:Addr} {fd:B8} {N ps:List Str} {k:Nat} {S:DSp} (F:Fun K x qual st f fd) (Sc:FnScope N ps (jah st)) (len:∀ws n Q,S ws n Q->ws.length=ps.length)
  (hbody:∀(cdv:Ad) (A:Bj) (outer:List Env) (s:Ah) (H:Hp) (E:XK),Room k (A.deeper (Dq qual (jah st) s.heap.objs.size f cdv)) ->
   ∃T W,DSs (cxOf CX0 P w K mg base N qual (jah st) f cdv A outer s H E).nox (jbc st) T W/\∀ws n Q,S ws n Q->W (jap N ws) n {nx:=λ_ n=>Q (.d .none) n,rt:=Q}):FnOk P w K mg base CX0 (k+1) f fd ps (spOf S):=by
 refine F.ok Sc (λvs H Q E h=>?_) (λcdv A outer s H vs Q E hr h=>?_)
 ·obtain⟨t,l,ns,B,ws,n,Q0,_,_,_,r,q,_⟩:=h;rw[r.len];exact len ws n Q0 q
 ·obtain⟨t,l,ns,B,ws,n,Q0,T,bt,ba,r,q,kk⟩:=h;obtain⟨T',W,d,hw⟩:=hbody cdv A outer s H E hr;refine⟨T',d.ps,d.sd ⟨t,l,ns,H,B,λ_=>none⟩ H B _ _ n _ _ (jin T bt ba r) (hw ws n Q0 q) ⟨?_,?_,?_,?_,λ_ _ _ _ _ _ _ _ _ _ _ _ _ z=>z.elim,λ_ _ _ _ _ _ _ _ _ _ _ _ _ z=>z.elim⟩⟩
  ·exact λH' B' σ δ n' R' q'=>kk _ _ q' .non H' R'.tp R'.kp (show RdX H' B .non .none from .non)
  ·exact λH' B' σ δ n' v x R' r' q'=>kk _ _ q' v H' R'.tp R'.kp (r'.less R'.b0)
  ·exact λ_ _ _ _ _ _ z=>z.elim
  ·exact λ_ _ _ _ _ _ z=>z.elim
end
section
variable {X:Cx} {a b c e:Expr} {ta tb tc te:TE} {wa wb wc we:DT} {pos p:Pos}
def gI (Cd:Int->Int->Prop) (f:Int->Int->Ab):Wv->Wv->Int->DQ->Prop:=λx y n Q=>match x,y with
 |.d (.int i),.d (.int j)=>Cd i j/\Q (.d (f i j)) n
 |_,_=>False
def gI0 (f:Int->Int->Ab):Wv->Wv->Int->DQ->Prop:=λx y n Q=>match x,y with
 |.d (.int i),.d (.int j)=>Q (.d (f i j)) n
 |_,_=>False
theorem jm7 {g:Int->Int->V} {f:Int->Int->Ab} (h:∀i j H B,RdX H B (g i j) (f i j)):SndO (rI0 g) (gI0 f):=λC H B σ δ n x y p q Q Q' R rx ry h1 k=>by
 unfold gI0 at h1
 split at h1
 ·rename_i i j;cases(show RdX H B x (.int i)from rx);cases(show RdX H B y (.int j)from ry);exact⟨i,j,rfl,rfl,k _ _ H n R (Kp.refl _ _) (wd (h i j H B)) h1⟩
 ·exact h1.elim
theorem jz4 (ha:DE X a ta wa) (hb:DE X b tb wb):DE X (.BinOp a .Sub b pos) (tOp (rI0 λi j=>.int (i - j)) ta tb) (w2 wa wb (gI0 λi j=>.int (i - j))):=d_op jw3 (jm7 λ_ _ _ _=>.int _) ha hb
def wNeg (w:DT):DT:=λδ n Q=>w δ n λx n1=>match x with
 |.d (.int i)=>Q (.d (.int (-i))) n1
 |_=>False
theorem jz8 (ha:DE X a ta wa):DE X (.UnaryOp .USub a pos) (tUn (rU λi=>.int (-i)) ta) (wNeg wa):=⟨jzh jvg ha.pe,λC H B σ δ n Q Q' R q k=>ha.sd C H B σ δ n _ _ R q λv x H1 n1 R1 k1 r1 q1=>by
 split at q1
 ·rename_i i;cases(show RdX H1 B v (.int i)from r1);exact⟨i,rfl,k _ _ H1 n1 R1 k1 (wd (.int _)) q1⟩
 ·exact q1.elim⟩
def gAdd:Wv->Wv->Int->DQ->Prop:=λx y n Q=>match x,y with
 |.d (.int i),.d (.int j)=>Q (.d (.int (i+j))) n
 |.d (.str i),.d (.str j)=>i.length+j.length<=Az/\Q (.d (.str (i++j))) n
 |.d (.tuple i),.d (.tuple j)=>(i≠[]\/j≠[])/\i.length+j.length<=Az/\Q (.d (.tuple (i++j))) n
 |.d (.list i),.d (.list j)=>i.length+j.length<=Az/\Q (.d (.list (i++j))) n
 |_,_=>False
def jqa (K:Af):R2:=λx y H Q=>(rI0 λi j=>.int (i+j)) x y H Q\/(∃i j,x=.str i/\y=.str j/\i.length+j.length<=Az/\Q (.str (i++j)) H)\/jwp K x y H Q\/jwo K x y H Q\/rCat x y H Q
theorem op_addA:OpR X (Ea .Add) (jqa X.K) :=
 op_add.or (op_add_str.or (op_catA.or (op_catT.or jr7)))
theorem jjs (i j:Str):(i++j).length=i.length+j.length:=Array.size_append
theorem jpy {K:Af}:SndO (jqa K) gAdd:=λC H B σ δ n x y p q Q Q' R rx ry h1 k=>by
 unfold gAdd at h1
 split at h1
 ·rename_i i j;cases(show RdX H B x (.int i)from rx);cases(show RdX H B y (.int j)from ry);exact .inl ⟨i,j,rfl,rfl,k _ _ H n R (Kp.refl _ _) (wd (.int _)) h1⟩
 ·rename_i i j;cases(show RdX H B x (.str i)from rx);cases(show RdX H B y (.str j)from ry);exact .inr (.inl ⟨i,j,rfl,rfl,h1.1,k _ _ H n R (Kp.refl _ _) (wd (show RdX H B _ (.str (i++j))from .str _ (by rw[jjs];exact h1.1))) h1.2⟩)
 ·rename_i i j;cases(show RdX H B x (.tuple i)from rx)with
  |@tup ax xs _ e1 e2 e3 e4 =>
   cases(show RdX H B y (.tuple j)from ry)with
   |@tup ay ys _ f1 f2 f3 f4 =>
    obtain⟨ne,hl,q⟩:=h1;have hl':xs.length+ys.length<=Az:=by rw[e4.len,f4.len];exact hl
    have new:∀pn,H pn=none->Q' (.ref pn) (upd H pn (.tup (xs++ys))):=λpn hp=>by
     refine k _ _ _ n (R.new hp) (Kp.new hp) (wd (show RdX _ B _ (.tuple (i++j))from .tup jaf (R.nb hp) (by rw[As];exact hl') ?_)) q;exact((e4.append f4).fresh hp).less λb z=>.inl z
    by_cases hy:ys=[]
    ·have hx:xs≠[]:=λz=>by
      subst hy z;cases e4;cases f4;exact ne.elim (λq=>q rfl) λq=>q rfl
     refine .inr (.inr (.inr (.inl ⟨ax,ay,xs,ys,rfl,rfl,SqT.of e1,SqT.of f1,hx,hl',λ_=>?_,λ_=>new⟩)));subst hy;cases f4;rw[B7]at q;exact k _ _ H n R (Kp.refl _ _) (wd (show RdX H B _ (.tuple i)from .tup e1 e2 e3 e4)) q
    ·refine .inr (.inr (.inl ⟨ax,ay,xs,ys,rfl,rfl,SqT.of e1,SqT.of f1,hy,hl',λz=>?_,λ_=>new⟩));subst z;cases e4;exact k _ _ H n R (Kp.refl _ _) (wd (show RdX H B _ (.tuple j)from .tup f1 f2 f3 f4)) q
 ·rename_i i j;cases(show RdX H B x (.list i)from rx)with
  |@lst ax xs _ e1 e2 e3 e4 =>
   cases(show RdX H B y (.list j)from ry)with
   |@lst ay ys _ f1 f2 f3 f4 =>
    obtain⟨hl,q⟩:=h1;have hl':xs.length+ys.length<=Az:=by rw[e4.len,f4.len];exact hl
    refine .inr (.inr (.inr (.inr ⟨ax,ay,xs,ys,rfl,rfl,e1,f1,hl',λpn hp=>?_⟩)));refine k _ _ _ n (R.new hp) (Kp.new hp) (wd (show RdX _ B _ (.list (i++j))from .lst jaf (R.nb hp) (by rw[As];exact hl') ?_)) q;exact((e4.append f4).fresh hp).less λb z=>.inl z
 ·exact h1.elim
def gCmp (f:Int->Int->Bool) (h:List Nat->List Nat->Bool):Wv->Wv->Int->DQ->Prop:=λx y n Q=>match x,y with
 |.d (.int i),.d (.int j)=>Q (.d (.bool (f i j))) n
 |.d (.str i),.d (.str j)=>Q (.d (.bool (h i.cps.toList j.cps.toList))) n
 |_,_=>False
theorem jju {f:Int->Int->Bool} {h:List Nat->List Nat->Bool}:SndO (λx y H Q=>(rI0 λi j=>.bl (f i j)) x y H Q\/∃i j,x=.str i/\y=.str j/\Q (.bl (h i.cps.toList j.cps.toList)) H) (gCmp f h):=λC H B σ δ n x y p q Q Q' R rx ry h1 k=>by
 unfold gCmp at h1
 split at h1
 ·rename_i i j;cases(show RdX H B x (.int i)from rx);cases(show RdX H B y (.int j)from ry);exact .inl ⟨i,j,rfl,rfl,k _ _ H n R (Kp.refl _ _) (wd (.bl _)) h1⟩
 ·rename_i i j;cases(show RdX H B x (.str i)from rx);cases(show RdX H B y (.str j)from ry);exact .inr ⟨i,j,rfl,rfl,k _ _ H n R (Kp.refl _ _) (wd (.bl _)) h1⟩
 ·exact h1.elim
abbrev gLt:=gCmp (λi j=>decide (i < j)) (λi j=>decide (i < j))
abbrev gLe:=gCmp (λi j=>decide (i<=j)) (λi j=>!decide (j < i))
abbrev gGt:=gCmp (λi j=>decide (j < i)) (λi j=>decide (j < i))
def rLtA:R2:=λx y H Q=>(rI0 λi j=>.bl (decide (i < j))) x y H Q\/∃i j,x=.str i/\y=.str j/\Q (.bl (decide (i.cps.toList < j.cps.toList))) H
theorem jw6:OpR X (B4 .Lt) rLtA:=op_lt.or jn4
def rLeA:R2:=λx y H Q=>(rI0 λi j=>.bl (decide (i<=j))) x y H Q\/∃i j,x=.str i/\y=.str j/\Q (.bl (!decide (j.cps.toList < i.cps.toList))) H
theorem jw7:OpR X (B4 .LtE) rLeA:=op_le.or jn5
def rGtA:R2:=λx y H Q=>(rI0 λi j=>.bl (decide (j < i))) x y H Q\/∃i j,x=.str i/\y=.str j/\Q (.bl (decide (j.cps.toList < i.cps.toList))) H
theorem jxa:OpR X (B4 .Gt) rGtA:=op_gt.or jn7
theorem jvw:SndO rLtA gLt:=jju (f:=λi j=>decide (i < j)) (h:=λi j=>decide (i < j))
theorem jvx:SndO rLeA gLe:=jju (f:=λi j=>decide (i<=j)) (h:=λi j=>!decide (j < i))
theorem jvy:SndO rGtA gGt:=jju (f:=λi j=>decide (j < i)) (h:=λi j=>decide (j < i))
def eqD:Ab->Ab->Option Bool
 |.none,.none=>some true
 |.none,.int _=>some false
 |.int _,.none=>some false
 |.none,.bool _=>some false
 |.bool _,.none=>some false
 |.none,.str _=>some false
 |.str _,.none=>some false
 |.int i,.int j=>some (decide (i=j))
 |.bool i,.bool j=>some (decide (i=j))
 |.str i,.str j=>some (decide (i=j))
 |.int _,.str _=>some false
 |.str _,.int _=>some false
 |.bool _,.str _=>some false
 |.str _,.bool _=>some false
 |.list _,.str _=>some false
 |.tuple _,.str _=>some false
 |.dict _,.str _=>some false
 |.list xs,.list []=>some xs.isEmpty
 |_,_=>none
def jp9:R2:=λx y H Q=>∃d h B,RdX H B x d/\y=.str h/\Q (.bl (jbx h d)) H
theorem jho (x y:Str):decide (V.str x=V.str y)=decide (x=y):=by
 by_cases z:x=y
 ·rw[z,decide_eq_true rfl,decide_eq_true rfl]
 ·rw[decide_eq_false z,decide_eq_false λw=>z (V.str.inj w)]
theorem jk1 (x y:Int):decide (V.int x=V.int y)=decide (x=y):=by
 by_cases z:x=y
 ·rw[z,decide_eq_true rfl,decide_eq_true rfl]
 ·rw[decide_eq_false z,decide_eq_false λw=>z (V.int.inj w)]
theorem jo2 (x y:Bool):decide (V.bl x=V.bl y)=decide (x=y):=by
 by_cases z:x=y
 ·rw[z,decide_eq_true rfl,decide_eq_true rfl]
 ·rw[decide_eq_false z,decide_eq_false λw=>z (V.bl.inj w)]
theorem jua (hu:X.A.units < Dn):OpR X (B4 .Eq) jp9:=by
 intro pins s σ H x y v u Q I rx ry h;obtain⟨d,hh,B,hd,rfl,q⟩:=h;cases hd with
 |non=>exact op_eq pins s σ H _ _ v u Q I rx ry ⟨rfl,q⟩
 |bl b=>exact op_eq pins s σ H _ _ v u Q I rx ry ⟨rfl,q⟩
 |int i=>exact op_eq pins s σ H _ _ v u Q I rx ry ⟨rfl,q⟩
 |str x hx =>
  refine op_eq pins s σ H _ _ v u Q I rx ry ⟨rfl,?_⟩;rw[jho];exact q
 |@lst a xs ds h1 h2 h3 h4 =>
  cases(show v=Bb a from rx);obtain⟨t,rfl⟩:=(show ∃t,u=Value.str hh t from ry);obtain⟨its,_,p,_⟩:=I.list (SqL.of (K:=X.K) h1);exact PySem.SeqAt.RcAt.list_str hh t p.isList hu _ _ _ _ ⟨.bl false,H,I,rfl,q⟩
 |@tup a xs ds h1 h2 h3 h4 =>
  cases(show v=Bb a from rx);obtain⟨t,rfl⟩:=(show ∃t,u=Value.str hh t from ry);obtain⟨its,_,p,_⟩:=I.tuple (SqT.of (K:=X.K) h1);exact PySem.SeqAt.RcAt.tuple_str hh t (show s.heap.IsTuple a its.toArray from p) hu _ _ _ _ ⟨.bl false,H,I,rfl,q⟩
def gEq:Wv->Wv->Int->DQ->Prop:=λx y n Q=>match x,y with
 |.d a,.d b=>match eqD a b with
  |some r=>Q (.d (.bool r)) n
  |none=>False
 |_,_=>False
theorem jxc (hu:X.A.units < Dn):OpR X (B4 .Eq) (λx y H Q=>rEq x y H Q\/jp9 x y H Q\/jkq X.K x y H Q):=op_eq.or ((jua hu).or (jqp hu))
theorem jvz {K:Af}:SndO (λx y H Q=>rEq x y H Q\/jp9 x y H Q\/jkq K x y H Q) gEq:=λC H B σ δ n x y p q Q Q' R rx ry h1 k=>by
 unfold gEq at h1
 split at h1
 ·rename_i da db;have rx:RdX H B x da:=rx;have ry:RdX H B y db:=ry;have fin:∀r:Bool,Q (.d (.bool r)) n->Q' (.bl r) H:=λr q=>k _ _ H n R (Kp.refl _ _) (wd (.bl r)) q
  split at h1
  ·rename_i r er;have h1:=fin r h1;cases rx with
   |non=>cases ry<;>first | (cases er;done) | (cases er;exact .inl ⟨rfl,h1⟩)
   |bl i=>cases ry<;>first | (cases er;done) | (cases er;exact .inl ⟨rfl,by first | exact h1 | (rw[jo2];exact h1)⟩)
   |int i=>cases ry<;>first | (cases er;done) | (cases er;exact .inl ⟨rfl,by first | exact h1 | (rw[jk1];exact h1)⟩)
   |str i hi=>cases ry<;>first | (cases er;done) | (cases er;exact .inl ⟨rfl,by first | exact h1 | (rw[jho];exact h1)⟩)
   |@lst ax xs ds e1 e2 e3 e4 =>
    cases ry with
    |str j hj=>cases er;exact .inr (.inl ⟨_,j,B,.lst e1 e2 e3 e4,rfl,h1⟩)
    |@lst ay ys es f1 f2 f3 f4 =>
     cases f4 with
     |nil =>
      have er:some ds.isEmpty=some r:=er;cases er;refine .inr (.inr ⟨ax,ay,xs,rfl,rfl,SqL.of e1,SqL.of f1,?_⟩);have:xs.isEmpty=ds.isEmpty:=by cases e4<;>rfl
      rw[this];exact h1
     |cons _ _=>cases er
    |_=>cases er
   |@tup ax xs ds e1 e2 e3 e4 =>
    cases ry with
    |str j hj=>cases er;exact .inr (.inl ⟨_,j,B,.tup e1 e2 e3 e4,rfl,h1⟩)
    |_=>cases er
  ·exact h1.elim
 ·exact h1.elim
def neD (a b:Ab):Option Bool:=match a,b with
 |.list _,_=>none
 |.tuple _,_=>none
 |a,b=>(eqD a b).map not
def gNe:Wv->Wv->Int->DQ->Prop:=λx y n Q=>match x,y with
 |.d a,.d b=>match neD a b with
  |some r=>Q (.d (.bool r)) n
  |none=>False
 |_,_=>False
theorem jvv:SndO rNe gNe:=λC H B σ δ n x y p q Q Q' R rx ry h1 k=>by
 unfold gNe at h1
 split at h1
 ·rename_i da db;have rx:RdX H B x da:=rx;have ry:RdX H B y db:=ry;have fin:∀r:Bool,Q (.d (.bool r)) n->Q' (.bl r) H:=λr q=>k _ _ H n R (Kp.refl _ _) (wd (.bl r)) q
  split at h1
  ·rename_i r er;have h1:=fin r h1;cases rx with
   |non=>cases ry<;>first | (cases er;done) | (cases er;exact⟨rfl,h1⟩)
   |bl i=>cases ry<;>first | (cases er;done) | (cases er;exact⟨rfl,by first | exact h1 | (rw[jo2];exact h1)⟩)
   |int i=>cases ry<;>first | (cases er;done) | (cases er;exact⟨rfl,by first | exact h1 | (rw[jk1];exact h1)⟩)
   |str i hi=>cases ry<;>first | (cases er;done) | (cases er;exact⟨rfl,by first | exact h1 | (rw[jho];exact h1)⟩)
   |lst _ _ _ _=>cases er
   |tup _ _ _ _=>cases er
  ·exact h1.elim
 ·exact h1.elim
def jeo:Ab->Bool
 |.none=>true
 |_=>false
def gIsN (neg:Bool):Wv->Wv->Int->DQ->Prop:=λx y n Q=>match x,y with
 |.d a,.d .none=>Q (.d (.bool (if neg then !jeo a else jeo a))) n
 |_,_=>False
theorem jku {H:Hp} {B:Addr->Prop} {v:V} {d:Ab} (h:RdX H B v d):decide (v=.non)=jeo d:=by cases h<;>rfl
theorem jte:SndO (λx y H Q=>y=.non/\Q (.bl (decide (x=.non))) H) (gIsN false):=λC H B σ δ n x y p q Q Q' R rx ry h1 k=>by
 unfold gIsN at h1
 split at h1
 ·rename_i da;cases(show RdX H B y .none from ry);exact⟨rfl,k _ _ H n R (Kp.refl _ _) (wd (show RdX H B _ (.bool (jeo da))from by rw[jku rx];exact .bl _)) h1⟩
 ·exact h1.elim
theorem jkl:SndO (λx y H Q=>y=.non/\Q (.bl (!decide (x=.non))) H) (gIsN true):=λC H B σ δ n x y p q Q Q' R rx ry h1 k=>by
 unfold gIsN at h1
 split at h1
 ·rename_i da;cases(show RdX H B y .none from ry);exact⟨rfl,k _ _ H n R (Kp.refl _ _) (wd (show RdX H B _ (.bool (!jeo da))from by rw[jku rx];exact .bl _)) h1⟩
 ·exact h1.elim
def jfw:Ab->Bool
 |.none=>true
 |.bool _=>true
 |.int _=>true
 |.str _=>true
 |_=>false
def eqF:Ab->Ab->Bool
 |.none,.none=>true
 |.bool a,.bool b=>a==b
 |.bool a,.int b=>(if a then 1 else 0)==b
 |.int a,.bool b=>a==(if b then 1 else 0)
 |.int a,.int b=>a==b
 |.str a,.str b=>a==b
 |_,_=>false
def inD (x:Ab) (ds:List Ab):Bool:=ds.any λy=>eqF y x
theorem jhk {H:Hp} {B:Addr->Prop} {v:V} {d:Ab} (h:RdX H B v d) (f:jfw d=true):jfv v=true:=by cases h<;>first | rfl | cases f
theorem jea {H:Hp} {B:Addr->Prop}:∀{vs:List V} {ds:List Ab},RdXs H B vs ds->ds.all jfw=true->vs.all jfv=true
 |_,_,.nil,_=>rfl
 |_,_,.cons h r,f=>by
  rw[List.all_cons,Bs]at f ⊢;exact⟨jhk h f.1,jea r f.2⟩
theorem jx8 {H:Hp} {B:Addr->Prop} {v u:V} {d e:Ab} (h:RdX H B v d) (h2:RdX H B u e):eqV v u=eqF d e:=by cases h<;>cases h2<;>rfl
theorem jkx {H:Hp} {B:Addr->Prop} {v:V} {d:Ab} (h:RdX H B v d):∀{vs:List V} {ds:List Ab},RdXs H B vs ds->inV v vs=inD d ds
 |_,_,.nil=>rfl
 |_,_,.cons h1 r=>by
  have:=jkx h r;unfold inV inD at this ⊢;rw[List.any_cons,List.any_cons,this,jx8 h1 h]
def gIn (neg:Bool):Wv->Wv->Int->DQ->Prop:=λx y n Q=>match x,y with
 |.d a,.d (.tuple ds)=>jfw a=true/\ds.all jfw=true/\Q (.d (.bool (if neg then !inD a ds else inD a ds))) n
 |.d a,.d (.list ds)=>jfw a=true/\ds.all jfw=true/\Q (.d (.bool (if neg then !inD a ds else inD a ds))) n
 |_,_=>False
theorem jf6 {K:Af} {neg:Bool}:SndO (rIn K neg) (gIn neg):=λC H B σ δ n x y p q Q Q' R rx ry h1 k=>by
 unfold gIn at h1
 split at h1
 ·rename_i da ds;obtain⟨f1,f2,q⟩:=h1;have rx:RdX H B x da:=rx;cases(show RdX H B y (.tuple ds)from ry)with
  |@tup ay ys _ e1 e2 e3 e4 =>
   refine⟨ay,ys,rfl,.inr (SqT.of e1),jhk rx f1,jea e4 f2,?_⟩;rw[jkx rx e4];exact k _ _ H n R (Kp.refl _ _) (wd (.bl _)) q
 ·rename_i da ds;obtain⟨f1,f2,q⟩:=h1;have rx:RdX H B x da:=rx;cases(show RdX H B y (.list ds)from ry)with
  |@lst ay ys _ e1 e2 e3 e4 =>
   refine⟨ay,ys,rfl,.inl (SqL.of e1),jhk rx f1,jea e4 f2,?_⟩;rw[jkx rx e4];exact k _ _ H n R (Kp.refl _ _) (wd (.bl _)) q
 ·exact h1.elim
def gIx:Wv->Wv->Int->DQ->Prop:=λx y n Q=>match x,y with
 |.d (.list ds),.d (.int i)=>match atI ds i with
  |some d=>Q (.d d) n
  |none=>False
 |.d (.tuple ds),.d (.int i)=>match atI ds i with
  |some d=>Q (.d d) n
  |none=>False
 |.d (.str z),.d (.int i)=>match atI z.cps.toList i with
  |some c=>Q (.d (.str ⟨#[c]⟩)) n
  |none=>False
 |_,_=>False
theorem jpg {H:Hp} {B:Addr->Prop} {vs:List V} {ds:List Ab} {i:Int} {d:Ab} (r:RdXs H B vs ds) (h:atI ds i=some d):∃v,atI vs i=some v/\RdX H B v d:=by
 unfold atI at h ⊢;rw[r.len];cases e:ixN ds.length i with
 |none=>rw[e]at h;cases h
 |some j =>
  rw[e]at h;exact r.getD h
theorem jf5 {K:Af}:SndO (rIx K) gIx:=λC H B σ δ n x y p q Q Q' R rx ry h1 k=>by
 unfold gIx at h1
 split at h1
 ·rename_i ds i
  split at h1
  ·rename_i d e;cases(show RdX H B y (.int i)from ry);cases(show RdX H B x (.list ds)from rx)with
   |@lst ay ys _ e1 e2 e3 e4 =>
    obtain⟨v,f1,f2⟩:=jpg e4 e;exact .inl ⟨ay,ys,i,v,rfl,rfl,SqL.of e1,f1,k _ _ H n R (Kp.refl _ _) (wd f2) h1⟩
  ·exact h1.elim
 ·rename_i ds i
  split at h1
  ·rename_i d e;cases(show RdX H B y (.int i)from ry);cases(show RdX H B x (.tuple ds)from rx)with
   |@tup ay ys _ e1 e2 e3 e4 =>
    obtain⟨v,f1,f2⟩:=jpg e4 e;exact .inr (.inl ⟨ay,ys,i,v,rfl,rfl,SqT.of e1,f1,k _ _ H n R (Kp.refl _ _) (wd f2) h1⟩)
  ·exact h1.elim
 ·rename_i z i
  split at h1
  ·rename_i c e;cases(show RdX H B y (.int i)from ry);cases(show RdX H B x (.str z)from rx)with
   |str _ hz=>exact .inr (.inr ⟨z,i,c,rfl,rfl,hz,e,k _ _ H n R (Kp.refl _ _) (wd (show RdX H B _ (.str ⟨#[c]⟩)from .str _ (by show 1<=Az;decide))) h1⟩)
  ·exact h1.elim
 ·exact h1.elim
theorem d_ix (ha:DE X a ta wa) (hb:DE X b tb wb) (hs:jh1 b:=by exact λ_ _=>rfl):DE X (.Subscript a b pos) (tOp (rIx X.K) ta tb) (w2 wa wb gIx):=⟨jd1 joo ha.pe hb.pe hs,jii jf5 ha.sd hb.sd⟩
def gLen:List Wv->Int->DQ->Prop:=λxs n Q=>match xs with
 |[.d (.str x)]=>Q (.d (.int x.length)) n
 |[.d (.list ds)]=>Q (.d (.int ds.length)) n
 |[.d (.tuple ds)]=>Q (.d (.int ds.length)) n
 |_=>False
theorem jpd:CallR X (.builtin "len") (λxs H Q=>(∃z,xs=[.str z]/\z.length<=Az/\Q (.int z.length) H)\/∃p ys,xs=[.ref p]/\(SqL X.K H p ys\/SqT X.K H p ys)/\Q (.int ys.length) H):=call_len_str.or jbo
theorem jtc {K:Af}:SndB (λxs H Q=>(∃z,xs=[.str z]/\z.length<=Az/\Q (.int z.length) H)\/∃p ys,xs=[.ref p]/\(SqL K H p ys\/SqT K H p ys)/\Q (.int ys.length) H) gLen:=λC H B σ δ n vs xs Q Q' R r h k=>by
 unfold gLen at h
 split at h
 ·rename_i x;cases r with
  |cons r1 r2 =>
   cases r2;cases(show RdX H B _ (.str x)from r1)with
   |str _ hz=>exact .inl ⟨x,rfl,hz,k _ _ H n R (Kp.refl _ _) (wd (.int _)) h⟩
 ·rename_i ds;cases r with
  |cons r1 r2 =>
   cases r2;cases(show RdX H B _ (.list ds)from r1)with
   |@lst ay ys _ e1 e2 e3 e4 =>
    refine .inr ⟨ay,ys,rfl,.inl (SqL.of e1),?_⟩;rw[e4.len];exact k _ _ H n R (Kp.refl _ _) (wd (.int _)) h
 ·rename_i ds;cases r with
  |cons r1 r2 =>
   cases r2;cases(show RdX H B _ (.tuple ds)from r1)with
   |@tup ay ys _ e1 e2 e3 e4 =>
    refine .inr ⟨ay,ys,rfl,.inr (SqT.of e1),?_⟩;rw[e4.len];exact k _ _ H n R (Kp.refl _ _) (wd (.int _)) h
 ·exact h.elim
theorem jvh {K:Af} {H:Hp} {B:Addr->Prop} {v:V} {d:Ab} (h:RdX H B v d):TyOf K H v (.type (tyD d)):=by
 cases h with
 |non=>exact .non
 |bl b=>exact .bl b
 |int i=>exact .int i
 |str x h=>exact .str x
 |lst h1 h2 h3 h4=>exact .lst h1
 |tup h1 h2 h3 h4=>exact .tup h1
theorem jzp {K:Af} {H:Hp} {B:Addr->Prop} {v:V} {d:Ab} (h:RdX H B v d) {T:String} (hT:T="int"\/T="bool"\/T="str"\/T="tuple"\/T="list"):PySem.W.kitOne K (.type (tyD d)) (.type T)=some (isiB T d):=by
 cases h<;>rcases hT with rfl | rfl | rfl | rfl | rfl<;>rfl
def wIsi (T:String) (w:DT):DT:=λδ n Q=>w δ n λx n1=>match x with
 |.d d=>Q (.d (.bool (isiB T d))) n1
 |_=>False
theorem j0b {T:String} {x:Str} {p p2:Pos} (hT:T="int"\/T="bool"\/T="str"\/T="tuple"\/T="list") (hg:Gl X "isinstance") (hm:X.mg "isinstance"=none) (hg2:Gl X x) (hm2:X.mg x=none) (hv:Bm x=some (.type T)) (ha:DE X a ta wa) (hn:x≠"__name__":=by decide) (hdb:(x==("__debug__":Str))=false:=by decide)
  (he:Au [a,.Name x p2] X.env=(false,eval a X.env)::Au [.Name x p2] X.env:=by rfl) (he2:Au [.Name x p2] X.env=(false,eval (.Name x p2) X.env)::Au [] X.env:=by rfl) (hpl:(Da pos (Au [.Name x p2] X.env)).any (·.1)=false:=by rfl) :
  DE X (.Call (.Name "isinstance" p) [a,.Name x p2] [] pos) (tCB (λxs H Q=>∃x t b,xs=[x,.ty T]/\TyOf X.K H x t/\PySem.W.kitOne X.K t (.type T)=some b/\Q (.bl b) H) (jby ta (jby (tC (.ty T)) tNil))) (wIsi T wa) :=
 ⟨jb9 (jre (T:=T)) hg hm jsn (jak ha.pe (jak (jt3 (v:=.ty T) hg2 hm2 hv rfl hn hdb) jbd he2) he) (by decide) (by decide) he hpl,λC H B σ δ n Q Q' R q k=>ha.sd C H B σ δ n _ _ R q λv x H1 n1 R1 k1 r1 q1=>by
  cases x with
  |d d=>exact⟨v,_,_,rfl,jvh r1,jzp (show RdX H1 B v d from r1) hT,k _ _ H1 n1 R1 k1 (wd (.bl _)) q1⟩
  |tp=>exact q1.elim
  |dk _=>exact q1.elim
  |dx _=>exact q1.elim
  |ln _=>exact q1.elim
  |ob _=>exact q1.elim⟩
def j0v:List Wv->Int->DQ->Prop:=λxs n Q=>match xs with
 |[.d (.list ds)]=>Small (.list ds)/\Q (.d (.str (PyData.shown (.list ds)))) n
 |[.d (.tuple ds)]=>Small (.tuple ds)/\Q (.d (.str (PyData.shown (.tuple ds)))) n
 |_=>False
def jbh:List Wv->Int->DQ->Prop:=λxs n Q=>match xs with
 |[.d (.list ds)]=>Q (.d (.tuple ds)) n
 |[.d (.tuple ds)]=>Q (.d (.tuple ds)) n
 |_=>False
theorem jm5 {K:Af}:SndB (λxs H Q=>∃p ys,xs=[.ref p]/\((SqL K H p ys/\∀l,H l=none->Q (.ref l) (upd H l (.tup ys)))\/(SqT K H p ys/\Q (.ref p) H))) jbh:=λC H B σ δ n vs xs Q Q' R r h k=>by
 unfold jbh at h
 split at h
 ·rename_i ds;cases r with
  |cons r1 r2 =>
   cases r2;cases(show RdX H B _ (.list ds)from r1)with
   |@lst ay ys _ e1 e2 e3 e4 =>
    refine⟨ay,ys,rfl,.inl ⟨SqL.of e1,λl hl=>?_⟩⟩;exact k _ _ _ n (R.new hl) (Kp.new hl) (wd (show RdX _ B _ (.tuple ds)from .tup jaf (R.nb hl) e3 ((e4.fresh hl).less λb z=>.inl z))) h
 ·rename_i ds;cases r with
  |cons r1 r2 =>
   cases r2;cases(show RdX H B _ (.tuple ds)from r1)with
   |@tup ay ys _ e1 e2 e3 e4=>exact⟨ay,ys,rfl,.inr ⟨SqT.of e1,k _ _ H n R (Kp.refl _ _) (wd (show RdX H B _ (.tuple ds)from .tup e1 e2 e3 e4)) h⟩⟩
 ·exact h.elim
end
structure ItOk (fz:Hp) (J:It) (ds:List Ab):Prop where
 le:ds.length<=Az
 go:∀i H,(∀b o,fz b=some o->H b=some o)->i < ds.length->J.go i H
 stop:∀H,(∀b o,fz b=some o->H b=some o)->J.stop ds.length H
 yld:∀i H x H' d,(∀b o,fz b=some o->H b=some o)->ds[i]?=some d->J.yld i H x H'->Same H H'/\∀B,(∀b o,fz b=some o->¬B b)->(∀b,B b->H b≠none)->RdX H' B x d
def thaw (H:Hp) (B:Addr->Prop) (fz:Hp):Prop:=(∀b o,fz b=some o->H b=some o/\¬B b)/\∀b o,H b=some o->¬B b->fz b=some o
abbrev DTI:=Sl->Int->(List Ab->Int->Prop)->Prop
def SndI (wi:TI) (v:DTI):Prop:=∀(C:Ctx) (H:Hp) (B:Addr->Prop) (σ:St) (δ:Sl) (n:Int) (Q:List Ab->Int->Prop) (Q':It->Hp->Prop),Rel C H B σ δ n->v δ n Q ->
 (∀J ds H' n',Rel C H' B σ δ n'->Kp C.t H H'->(∀fz,thaw H' B fz->ItOk fz J ds)->Q ds n'->Q' J H')->wi σ H Q'
structure DI (X:Cx) (tg iter:Expr) (wi:TI) (v:DTI):Prop where
 pi:PI X tg iter wi
 sd:SndI wi v
section
variable {X:Cx} {tg a b c e:Expr} {ta tb te:TE} {wa wb we:DT} {pos p:Pos}
def jbt (w:DT):DTI:=λδ n Q=>w δ n λx n1=>match x with
 |.d (.list ds)=>Q ds n1
 |_=>False
def jbb (w:DT):DTI:=λδ n Q=>w δ n λx n1=>match x with
 |.d (.tuple ds)=>Q ds n1
 |_=>False
theorem jx1 (ha:DE X a ta wa):DI X tg a (jul X.K ta) (jbt wa):=⟨jtx ha.pe,λC H B σ δ n Q Q' R q k=>ha.sd C H B σ δ n _ _ R q λv x H1 n1 R1 k1 r1 q1=>by
 split at q1
 ·rename_i ds;cases(show RdX H1 B v (.list ds)from r1)with
  |@lst ay ys _ e1 e2 e3 e4 =>
   refine⟨ay,rfl,⟨ys,SqL.of e1⟩,k _ ds H1 n1 R1 k1 (λfz th=>?_) q1⟩;have hfz:fz ay=some (.lst ys):=th.2 _ _ e1 e2;refine⟨by rw[<-e4.len];exact e3,λi H hH hi=>?_,λH hH=>?_,λi H x H' d hH hd hy=>?_⟩
   ·rw[<-e4.len]at hi;exact⟨ys,ys[i],SqL.of (hH _ _ hfz),Al hi⟩
   ·exact⟨ys,SqL.of (hH _ _ hfz),by rw[e4.len];exact Ao _⟩
   ·obtain⟨rfl,hy⟩:=hy;refine⟨λ_ _ z=>z,λB' hB hBa=>?_⟩;obtain⟨u,hu,ru⟩:=e4.getD hd;have:=hy _ (SqL.of (hH _ _ hfz));rw[hu]at this;cases this;exact ru.move λb o e ne=>⟨hH _ _ (th.2 _ _ e ne),hB _ _ (th.2 _ _ e ne)⟩
 ·exact q1.elim⟩
theorem jzq (ha:DE X a ta wa):DI X tg a (iTup X.K ta) (jbb wa):=⟨jwu ha.pe,λC H B σ δ n Q Q' R q k=>ha.sd C H B σ δ n _ _ R q λv x H1 n1 R1 k1 r1 q1=>by
 split at q1
 ·rename_i ds;cases(show RdX H1 B v (.tuple ds)from r1)with
  |@tup ay ys _ e1 e2 e3 e4 =>
   refine⟨ay,rfl,⟨ys,SqT.of e1⟩,k _ ds H1 n1 R1 k1 (λfz th=>?_) q1⟩;have hfz:fz ay=some (.tup ys):=th.2 _ _ e1 e2;refine⟨by rw[<-e4.len];exact e3,λi H hH hi=>?_,λH hH=>?_,λi H x H' d hH hd hy=>?_⟩
   ·rw[<-e4.len]at hi;exact⟨ys,ys[i],SqT.of (hH _ _ hfz),Al hi⟩
   ·exact⟨ys,SqT.of (hH _ _ hfz),by rw[e4.len];exact Ao _⟩
   ·obtain⟨rfl,hy⟩:=hy;refine⟨λ_ _ z=>z,λB' hB hBa=>?_⟩;obtain⟨u,hu,ru⟩:=e4.getD hd;have:=hy _ (SqT.of (hH _ _ hfz));rw[hu]at this;cases this;exact ru.move λb o e ne=>⟨hH _ _ (th.2 _ _ e ne),hB _ _ (th.2 _ _ e ne)⟩
 ·exact q1.elim⟩
def rngD (lo:Int) (n:Nat):List Ab:=(Bt n).map λi=>.int (lo+(i:Nat))
def jat (w:DT):DTI:=λδ n Q=>w δ n λx n1=>match x with
 |.d (.int j)=>(-(2 ^ 62)<=j/\j<=1000000)/\Q (rngD 0 j.toNat) n1
 |_=>False
theorem jqy (fz:Hp) (lo:Int) (n:Nat) (hn:n<=1000000):ItOk fz (Itr lo n) (rngD lo n):=by
 have hl:(rngD lo n).length=n:=by unfold rngD;simp
 refine⟨?_,λi H hH hi=>?_,λH hH=>?_,λi H y H' d hH hd hy=>?_⟩
 ·rw[hl];exact A5 hn (by decide)
 ·rw[hl]at hi;exact hi
 ·show n<=(rngD lo n).length;rw[hl];exact Ao _
 ·obtain⟨rfl,rfl⟩:=hy;refine⟨λ_ _ z=>z,λB' hB hBa=>?_⟩;unfold rngD at hd;rw[A0]at hd;cases e:(Bt n)[i]? with
  |none=>rw[e]at hd;cases hd
  |some j =>
   rw[e]at hd;have:j=i:=by
    obtain⟨h1,h2⟩:=Bn.mp e;rw[List.getElem_range]at h2;exact h2.symm
   subst this;cases hd;exact .int _
theorem jqz {p:Pos} (hg:Gl X "range") (hm:X.mg "range"=none) (ha:DE X a ta wa) (hs:Au [a] X.env=[(false,eval a X.env)]:=by rfl):DI X tg (.Call (.Name "range" p) [a] [] pos) (jx2 (jby ta tNil)) (jat wa):=⟨jnw hg hm (jak ha.pe jbd hs) hs,λC H B σ δ n Q Q' R q k=>ha.sd C H B σ δ n _ _ R q λv x H1 n1 R1 k1 r1 q1=>by
 split at q1
 ·rename_i j;cases(show RdX H1 B v (.int j)from r1);refine⟨j,rfl,q1.1.1,by have:=q1.1.2;have:(2:Int)^62=4611686018427387904:=(by decide);omega,k _ (rngD 0 j.toNat) H1 n1 R1 k1 (λfz _=>jqy fz 0 j.toNat (by have:=q1.1.2;omega)) q1.2⟩
 ·exact q1.elim⟩
end
abbrev DTG:=Ab->Sl->(Sl->Prop)->Prop
def SndG (g:TG) (v:DTG):Prop:=∀(C:Ctx) (H:Hp) (B:Addr->Prop) (σ:St) (δ:Sl) (n:Int) (x:V) (d:Ab) (Q:Sl->Prop) (Q':St->Hp->Prop),Rel C H B σ δ n->RdX H B x d->v d δ Q ->
 (∀σ' δ',Rel C H B σ' δ' n->Q δ'->Q' σ' H)->g x σ H Q'
structure DG (X:Cx) (tg:Expr) (g:TG) (v:DTG):Prop where
 pg:PG X tg g
 sd:SndG g v
section
variable {X:Cx} {pos:Pos}
def jac (i:Nat):DTG:=λd δ Q=>Q (δ.set i (some (.w (.d d))))
theorem jx5 {i:Nat} {x:Str} (hN:X.N.Nodup) (hi:X.N[i]?=some x) (hx:Loc X.env.scope x) (hf:X.fn x=true\/X.env.scope.names.lookup x=some .local:=by first | exact .inl rfl | exact .inr rfl | assumption):DG X (.Name x pos) (jco i) (jac i) :=
 ⟨jtz hN hi hx hf,λC H B σ δ n x d Q Q' R r q k=>k _ _ (R.set (x:=.d d) r rfl) q⟩
end
def forD (g:DTG) (W:DST) (K:DEnds):List Ab->Sl->Int->Prop
 |[],δ,n=>K.nx δ n
 |d::r,δ,n=>g d δ λδ'=>W δ' n {K with nx:=forD g W K r,ct:=forD g W K r,bk:=K.nx}
def sFor (v:DTI) (g:DTG) (W:DST):DST:=λδ n K=>v δ n λds n1=>forD g W K ds δ n1
def fzOf (H:Hp) (B:Addr->Prop):Hp:=λb=>open Classical in if B b then none else H b
theorem jef (H:Hp) (B:Addr->Prop):thaw H B (fzOf H B):=by
 refine⟨λb o e=>?_,λb o e n=>?_⟩
 ·unfold fzOf at e
  split at e
  ·cases e
  ·rename_i h;exact⟨e,h⟩
 ·unfold fzOf;rw[if_neg n];exact e
theorem Rel.refz {C:Ctx} {H:Hp} {B:Addr->Prop} {σ:St} {δ:Sl} {n:Int} (R:Rel C H B σ δ n):Rel {C with fz:=fzOf H B} H B σ δ n :=
 ⟨R.tp,R.kp,R.t0,R.l0,R.g0,(jef H B).1,R.bt,R.b0,R.ba,R.a0,R.sl,R.ow,R.len⟩
theorem Rel.unfz {C:Ctx} {fz:Hp} {H:Hp} {B:Addr->Prop} {σ:St} {δ:Sl} {n:Int} (R:Rel {C with fz:=fz} H B σ δ n) (h:∀b o,C.fz b=some o->fz b=some o):Rel C H B σ δ n :=
 ⟨R.tp,R.kp,R.t0,R.l0,R.g0,λb o e=>R.fz b o (h b o e),R.bt,R.b0,R.ba,R.a0,R.sl,R.ow,R.len⟩
theorem Rel.same {C:Ctx} {H H':Hp} {B:Addr->Prop} {σ:St} {δ:Sl} {n:Int} (R:Rel C H B σ δ n) (k:Same H H'):Rel C H' B σ δ n:=by
 obtain⟨a,b,e,h⟩:=R.tp.ob;exact R.step ⟨⟨a,b,k _ _ e,h⟩,k _ _ R.tp.ls,R.tp.len,λz=>k _ _ (R.tp.ag z),R.tp.gne⟩ λb o e _=>k b o e
section
variable {X:Cx} {tg iter:Expr} {body:List Stmt} {wi:TI} {v:DTI} {g:TG} {gd:DTG} {T:TS} {W:DST} {pos:Pos}
theorem jzb (hi:DI X tg iter wi v) (hg:DG X tg g gd) (hb:DSs X body T W) (hp:PassesOwn (A1 X.prog X.w) X.A X.env X.xe:=by exact PassesOwn.never) (hc:X.calm=true:=by rfl)
  (hs:∀x,D1 iter X.env x=pure x:=by intro _;rfl):DS X (.For tg iter body [] pos) (tFor wi g T) (sFor v gd W):=⟨jwt hp hc hi.pi hg.pg hb.ps hs,λC H B σ δ n K D R q E =>
 hi.sd C H B σ δ n _ _ R q λJ ds H1 n1 R1 k1 hJ q1=>by
  have ok:=hJ (fzOf H1 B) (jef H1 B);have R1':=R1.refz;have back:∀{H B' σ δ n},Rel {C with fz:=fzOf H1 B} H B' σ δ n->Rel C H B' σ δ n:=λR=>R.unfz λb o e=>(jef H1 B).2 b o (R1.fz b o e).1 (R1.fz b o e).2;refine⟨λi m σ H=>m=ds.length - i/\i<=ds.length/\∃B' δ n,Rel {C with fz:=fzOf H1 B} H B' σ δ n/\forD gd W K (ds.drop i) δ n,⟨ds.length,by simp,A4 _,B,δ,n1,R1',by simpa using q1⟩,?_⟩
  rintro i m σ2 H2 ⟨rfl,hi,B2,δ2,n2,R2,q2⟩
  have hfz:∀b o,fzOf H1 B b=some o->H2 b=some o:=λb o e=>(R2.fz b o e).1;by_cases hlt:i < ds.length
  ·rw[Eu hlt]at q2;refine .inr ⟨ok.go i H2 hfz hlt,λσ3 H3=>∃B' δ n,Rel {C with fz:=fzOf H1 B} H3 B' σ3 δ n/\forD gd W K (ds.drop (i+1)) δ n,λσ' H' z=>⟨ds.length - (i+1),by omega,rfl,hlt,z⟩,λx H' hy=>?_⟩;obtain⟨sm,rd⟩:=ok.yld i H2 x H' ds[i] hfz (Al hlt) hy;have R3:=R2.same sm;refine hg.sd _ H' B2 σ2 δ2 n2 x ds[i] _ _ R3 (rd B2 (λb o e=>(R2.fz b o e).2) R2.ba) q2 λσ' δ' R4 q4=>?_;refine hb.sd _ H' B2 σ' δ' n2 _ _ R4 q4 ⟨?_,?_,?_,?_,λH B σ δ n a xs ds R h0 h1 h2 h3 q=>E.rn H B σ δ n a xs ds (back R) h0 h1 h2 h3 q,λH B σ δ n a l kvs R h0 h1 h2 h3 q=>E.rx H B σ δ n a l kvs (back R) h0 h1 h2 h3 q⟩
   ·exact λH B σ δ n R q=>⟨B,δ,n,R,q⟩
   ·exact λH B σ δ n v w R r q=>E.rt H B σ δ n v w (back R) r q
   ·exact λH B σ δ n R q=>E.nx H B σ δ n (back R) q
   ·exact λH B σ δ n R q=>⟨B,δ,n,R,q⟩
  ·have e:i=ds.length:=by omega
   subst e;rw[List.drop_length]at q2;exact .inl ⟨ok.stop H2 hfz,E.nx H2 B2 σ2 δ2 n2 (back R2) q2⟩⟩
end
def jhr (fr:List (Option Nat)) (δ:Sl):Sl:=fr.map λo=>o.bind λi=>match δ[i]? with
 |some (some (.w x))=>some (.w x)
 |some (some (.odk kvs))=>some (.w (.dk kvs))
 |some (some (.own ds))=>some (.w (.ln ds))
 |some (some (.odx kvs))=>some (.w (.dx kvs))
 |_=>none
def jbq (g:DTG) (c:DTT) (w:DT) (Q:List Ab->Int->Prop):List Ab->List Ab->Sl->Int->Prop
 |[],acc,_,n=>Q acc n
 |d::r,acc,δ,n=>g d δ λδ'=>c δ' n λb n1=>if b=true then w δ' n1 λx n2=>match x with
   |.d y=>jbq g c w Q r (acc++[y]) δ' n2
   |_=>False
  else jbq g c w Q r acc δ' n1
def ja9 (fr:List (Option Nat)) (v:DTI) (g:DTG) (c:DTT) (w:DT):DTF:=λδ n Q=>v δ n λds n1=>jbq g c w Q ds [] (jhr fr δ) n1
structure DIf (X:Cx) (ifs:List Expr) (t:TT) (c:DTT):Prop where
 pf:PIf X ifs t
 sd:SndT t c
def cYes:DTT:=λ_ n Q=>Q true n
theorem jxz {X:Cx}:DIf X [] jvo cYes:=⟨jtw,λC H B σ δ n Q Q' R q k=>k true H n R (Kp.refl _ _) q⟩
theorem jxy {X:Cx} {c:Expr} {t:TT} {cc:DTT} (h:DC X c t cc):DIf X [c] t cc:=⟨jtv h.pt,h.sd⟩
theorem jrb (fr:List (Option Nat)) (σ:St):(capt fr σ).length=fr.length:=by unfold capt;rw[Ae]
theorem jpc (fr:List (Option Nat)) (δ:Sl):(jhr fr δ).length=fr.length:=by unfold jhr;rw[Ae]
theorem jev {fr:List (Option Nat)} {δ:Sl} {j:Nat} {x:SV} (h:(jhr fr δ)[j]?=some (some x)):∃i y,fr[j]?=some (some i)/\δ[i]?=some (some y)/\((∃z,x=.w z/\y=.w z)\/(∃kvs,x=.w (.dk kvs)/\y=.odk kvs)\/(∃ds,x=.w (.ln ds)/\y=.own ds)\/∃kvs,x=.w (.dx kvs)/\y=.odx kvs):=by
 unfold jhr at h;rw[A0]at h;cases e:fr[j]? with
 |none=>rw[e]at h;cases h
 |some o =>
  rw[e]at h;cases o with
  |none=>cases h
  |some i =>
   have h':=Bh h;dsimp only[Option.bind]at h'
   split at h'
   ·rename_i z ez;cases h';exact⟨i,_,rfl,ez,.inl ⟨z,rfl,rfl⟩⟩
   ·rename_i kvs ez;cases h';exact⟨i,_,rfl,ez,.inr (.inl ⟨kvs,rfl,rfl⟩)⟩
   ·rename_i ds ez;cases h';exact⟨i,_,rfl,ez,.inr (.inr (.inl ⟨ds,rfl,rfl⟩))⟩
   ·rename_i kvs ez;cases h';exact⟨i,_,rfl,ez,.inr (.inr (.inr ⟨kvs,rfl,rfl⟩))⟩
   ·cases h'
theorem ju4 {fr:List (Option Nat)} {σ:St} {j i:Nat} {v:V} (h:fr[j]?=some (some i)) (h2:σ[i]?=some (some v)):(capt fr σ)[j]?=some (some v):=by
 unfold capt;rw[A0,h];show some ((σ[i]?).bind id)=_;rw[h2];rfl
theorem jp6 {C:Ctx} {H:Hp} {B:Addr->Prop} {σ:St} {δ:Sl} {n:Int} {L:Addr} {fr:List (Option Nat)} (R:Rel C H B σ δ n) (hL:H L=none) :
  Rel ⟨C.t,C.l,C.ns,H,B,fzOf H B⟩ (upd H L (.lst [])) (λb=>B b\/b=L) (capt fr σ) (jhr fr δ) n where
 tp:=R.tp.new hL
 kp:=Kp.new hL
 t0:=R.ba _ R.bt
 l0:=by
  show H C.l.s≠none;rw[R.tp.ls];exact λz=>nomatch z
 g0:=λe=>by
  show H C.l.g≠none;rw[R.tp.ag e];exact λz=>nomatch z
 fz:=λb o e=>by
  obtain⟨e1,e2⟩:=(jef H B).1 b o e;exact⟨by rw[jad (jae e1 hL)];exact e1,λz=>z.elim e2 λq=>jae e1 hL q⟩
 bt:=.inl R.bt
 b0:=λb z=>.inl z
 ba:=λb z e=>by
  by_cases q:b=L
  ·rw[q,jaf]at e;cases e
  ·rw[jad q]at e;exact R.ba b (z.resolve_right q) e
 a0:=R.ba
 sl:=λj x e=>by
  have mv:∀b o',H b=some o'->¬B b->upd H L (.lst []) b=some o'/\¬(B b\/b=L):=λb o' e n=>⟨by rw[jad (jae e hL)];exact e,λz=>z.elim n λq=>jae e hL q⟩;obtain⟨i,y,e1,e2,hy⟩:=jev e;obtain⟨v,f1,f2⟩:=R.sl i y e2;refine⟨v,ju4 e1 f1,?_⟩;rcases hy with⟨z,rfl,rfl⟩ | ⟨kvs,rfl,rfl⟩ | ⟨ds,rfl,rfl⟩ | ⟨kvs,rfl,rfl⟩
  ·cases z with
   |d d=>exact⟨f2.1.move mv,λz=>by cases z⟩
   |tp=>exact⟨f2.1,λz=>by cases z⟩
   |ln ds =>
    obtain⟨a,l,g1,g2,g3,g4,g5⟩:=f2.1;exact⟨⟨a,l,g1,by rw[jad (jae g2 hL)];exact g2,g3,g4,g5.move mv⟩,λ_=>⟨a,g1,by show H a≠none;rw[g2];exact λz=>nomatch z⟩⟩
   |dk kvs =>
    obtain⟨a,l,g1,g2,g3,g4⟩:=f2.1;exact⟨⟨a,l,g1,by rw[jad (jae g2 hL)];exact g2,g3,g4.move mv⟩,λ_=>⟨a,g1,by show H a≠none;rw[g2];exact λz=>nomatch z⟩⟩
   |dx kvs =>
    obtain⟨a,l,g1,g2,g3,g4⟩:=f2.1;exact⟨⟨a,l,g1,by rw[jad (jae g2 hL)];exact g2,g3,g4.move mv⟩,λ_=>⟨a,g1,by show H a≠none;rw[g2];exact λz=>nomatch z⟩⟩
   |ob o =>
    refine⟨?_,λz=>by cases z⟩;exact ORel.move mv f2.1
  ·obtain⟨a,l,g1,g2,g3,g4,g5,g6⟩:=f2;exact⟨⟨a,l,g1,by rw[jad (jae g2 hL)];exact g2,λz=>R.t0 (z▸g4),g6.move mv⟩,λ_=>⟨a,g1,by show H a≠none;rw[g2];exact λz=>nomatch z⟩⟩
  ·obtain⟨a,l,g1,g2,g3,g4,g5,g6⟩:=f2;exact⟨⟨a,l,g1,by rw[jad (jae g2 hL)];exact g2,λz=>R.t0 (z▸g4),g5,g6.move mv⟩,λ_=>⟨a,g1,by show H a≠none;rw[g2];exact λz=>nomatch z⟩⟩
  ·obtain⟨a,l,g1,g2,g3,g4,g5,g6⟩:=f2;exact⟨⟨a,l,g1,by rw[jad (jae g2 hL)];exact g2,λz=>R.t0 (z▸g4),g6.move mv⟩,λ_=>⟨a,g1,by show H a≠none;rw[g2];exact λz=>nomatch z⟩⟩
 ow:=λi j x y v e1 e2 o1 o2 _ _=>by
  obtain⟨_,_,_,_,hy⟩:=jev e1;rcases hy with⟨z,rfl,_⟩ | ⟨kvs,rfl,_⟩ | ⟨ds,rfl,_⟩ | ⟨kvs,rfl,_⟩
  ·cases o1
  ·cases o1
  ·cases o1
  ·cases o1
 len:=by rw[jrb,jpc]
section
variable {X:Cx} {elt tg iter:Expr} {ifs:List Expr} {scope:Ee} {cl:List (Str×Addr)} {pos:Pos} {N:List Str} {fr:List (Option Nat)} {wi:TI} {v:DTI} {g:TG} {gd:DTG} {tt:TT} {cc:DTT} {te:TE} {we:DT}
def jqt (δ:Sl):Prop:=∀(i:Nat) (x:SV),δ[i]?=some (some x)->x.isOwn=false
theorem jrd (fr:List (Option Nat)) (δ:Sl):jqt (jhr fr δ):=λi x e=>by
 obtain⟨_,_,_,_,hy⟩:=jev e;rcases hy with⟨z,rfl,_⟩ | ⟨kvs,rfl,_⟩ | ⟨ds,rfl,_⟩ | ⟨kvs,rfl,_⟩<;>rfl
def jk8 (v:DTG):Prop:=∀d δ Q,jqt δ->v d δ Q->v d δ λδ'=>jqt δ'/\Q δ'
theorem jug (i:Nat):jk8 (jac i):=λd δ Q h q=>⟨λj x e=>by
 rcases jai e with⟨_,rfl⟩ | ⟨_,e'⟩
 ·rfl
 ·exact h j x e',q⟩
theorem jov (hc:X.calm=true) (S:CompSc X N scope cl fr) (hi:DI X tg iter wi v) (hg:∀s H fp,DG (jaq X N scope cl s H fp) tg g gd) (ht:∀s H fp,DIf (jaq X N scope cl s H fp) ifs tt cc)
  (he:∀s H fp,DE (jaq X N scope cl s H fp) elt te we) (hno:jk8 gd) (hs:∀x,D1 iter X.env x=pure x:=by intro _;rfl) :
  DF X (.ListComp elt [⟨tg,iter,ifs,0⟩] scope pos) (jmr fr wi g tt te) (ja9 fr v gd cc we):=by
 refine⟨jt1 hc S hi.pi (λs H fp=>(hg s H fp).pg) (λs H fp=>(ht s H fp).pf) (λs H fp=>(he s H fp).pe) hs,λC H B σ δ n Q Q' R q k=>hi.sd C H B σ δ n _ _ R q λJ ds H1 n1 R1 k1 hJ q1=>λL hL=>?_⟩;have sg:=(hg X.s₀ X.H₀ []).sd;have st:=(ht X.s₀ X.H₀ []).sd;have se:=(he X.s₀ X.H₀ []).sd;have ok:=hJ (fzOf H1 B) (jef H1 B);have hLt:L≠C.t:=λz=>R1.ba _ R1.bt (z▸hL);refine⟨λi m ys τ H=>m=ds.length - i/\i<=ds.length/\ys.length<=i/\∃δ' n' acc,Rel ⟨C.t,C.l,C.ns,H1,B,fzOf H1 B⟩ H (λb=>B b\/b=L) τ δ' n'/\jqt δ'/\H L=some (.lst ys)/\RdXs H (λb=>B b\/b=L) ys acc/\jbq gd cc we Q (ds.drop i) acc δ' n',
  ⟨ds.length,by simp,A4 _,A4 _,jhr fr δ,n1,[],jp6 R1 hL,jrd fr δ,jaf,.nil,by simpa using q1⟩,?_⟩
 rintro i m ys τ H2 ⟨rfl,hi,hys,δ2,n2,acc,R2,no2,hL2,rd2,q2⟩
 have hfz:∀b o,fzOf H1 B b=some o->H2 b=some o:=λb o e=>(R2.fz b o e).1;by_cases hlt:i < ds.length
 ·rw[Eu hlt]at q2;refine .inr ⟨ok.go i H2 hfz hlt,A8 (Nat.lt_of_le_of_lt hys hlt) ok.le,λx H' hy=>?_⟩;obtain⟨sm,rd⟩:=ok.yld i H2 x H' ds[i] hfz (Al hlt) hy;have R3:=R2.same sm;refine sg _ H' _ τ δ2 n2 x ds[i] _ _ R3 (rd _ (λb o e=>(R2.fz b o e).2) R2.ba) (hno _ _ _ no2 q2) λτ3 δ3 R4 ⟨no3,q4⟩=>?_;refine st _ H' _ τ3 δ3 n2 _ _ R4 q4 λb H4 n4 R5 k5 q5=>?_;have hL4:H4 L=some (.lst ys):=k5 _ _ (sm _ _ hL2) hLt;have rd4:RdXs H4 (λb=>B b\/b=L) ys acc:=(rd2.keep λb o e _=>sm b o e).kp k5 R4.bt;cases b with
  |false =>
   rw[if_neg Am]at q5 ⊢;exact⟨ds.length - (i+1),by omega,rfl,hlt,by omega,δ3,n4,acc,R5,no3,hL4,rd4,q5⟩
  |true =>
   rw[if_pos rfl]at q5 ⊢;refine se _ H4 _ τ3 δ3 n4 _ _ R5 q5 λu y H5 n5 R6 k6 r6 q6=>?_;cases y with
   |d y =>
    have hL5:H5 L=some (.lst ys):=k6 _ _ hL4 hLt;refine⟨hL5,ds.length - (i+1),by omega,rfl,hlt,by rw[As,Be];omega,δ3,n5,acc++[y],R6.mut (.inr rfl) hL λj z e o=>absurd (no3 j z e) (by rw[o];exact λq=>nomatch q),no3,jaf,?_,q6⟩;refine RdXs.keep (λb o e n=>?_) ((rd4.kp k6 R5.bt).append (.cons r6 .nil));rw[jad λ(z:b=L)=>n (.inr z)];exact e
   |tp=>exact q6.elim
   |dk _=>exact q6.elim
   |dx _=>exact q6.elim
   |ln _=>exact q6.elim
   |ob _=>exact q6.elim
 ·have e:i=ds.length:=by omega
  subst e;rw[List.drop_length]at q2;refine .inl ⟨ok.stop H2 hfz,k L ys acc H2 n2 (R1.step R2.tp R2.kp) (k1.trans R2.kp) (R1.was k1 hL) hL2 (A5 hys ok.le) rd2 q2⟩
end
abbrev DTGs:=List Ab->Sl->(Sl->Prop)->Prop
def j0s (g:TGs) (v:DTGs):Prop:=∀(C:Ctx) (H:Hp) (B:Addr->Prop) (σ:St) (δ:Sl) (n:Int) (xs:List V) (ds:List Ab) (Q:Sl->Prop) (Q':St->Hp->Prop),Rel C H B σ δ n->RdXs H B xs ds->v ds δ Q ->
 (∀σ' δ',Rel C H B σ' δ' n->Q δ'->Q' σ' H)->g xs σ H Q'
structure DGs (X:Cx) (ts:List Expr) (g:TGs) (v:DTGs):Prop where
 pg:PGs X ts g
 sd:j0s g v
def jb1:DTGs:=λds δ Q=>match ds with
 |[]=>Q δ
 |_=>False
def jav (v:DTG) (r:DTGs):DTGs:=λds δ Q=>match ds with
 |d::ds=>v d δ λδ'=>r ds δ' Q
 |[]=>False
def jd5 (n:Nat) (r:DTGs):DTG:=λd δ Q=>match d with
 |.tuple ds=>ds.length=n/\r ds δ Q
 |_=>False
section
variable {X:Cx} {pos:Pos}
theorem jx3:DGs X [] gNil jb1:=⟨jty,λC H B σ δ n xs ds Q Q' R r q k=>by
 cases r with
 |nil=>exact⟨rfl,k σ δ R q⟩
 |cons _ _=>exact q.elim⟩
end
section
variable {X:Cx} {elt tg iter:Expr} {ifs:List Expr} {scope:Ee} {cl:List (Str×Addr)} {cpos pos pos':Pos} {N:List Str} {fr:List (Option Nat)} {wi:TI} {v:DTI} {g:TG} {gd:DTG} {tt:TT} {cc:DTT} {te:TE} {we:DT} {i:Nat} {x:Str}
theorem jtb {t:TE} {w:DTF} (h:SndF t w):SndS (tAsg t (jco i)) (sOwn i w):=λC H B σ δ n K D R q E =>
 h C H B σ δ n _ _ R q λa xs ds H1 n1 R1 k1 h0 h1 h2 h3 q1=>by
  refine E.nx _ _ _ _ _ (R.own R1 k1 h0 (by rw[h1];exact λz=>nomatch z) rfl ?_) q1;exact⟨a,xs,rfl,h1,.inr rfl,R.h0 h0,h2,h3⟩
theorem jta {t:TE} {w:DT} (h:Snd t w):SndS (tAsg t (jco i)) (sSet i w):=λC H B σ δ n K D R q E =>
 h C H B σ δ n _ _ R q λv x H1 n1 R1 _ r1 q1=>by
  cases x with
  |d d=>exact E.nx _ _ _ _ _ (R1.set r1 rfl) q1
  |tp=>exact E.nx _ _ _ _ _ (R1.set r1 rfl) q1
  |dk _=>exact q1.elim
  |dx _=>exact q1.elim
  |ln _=>exact q1.elim
  |ob _=>exact E.nx _ _ _ _ _ (R1.set r1 rfl) q1
theorem jwb (hN:X.N.Nodup) (hix:X.N[i]?=some x) (hx:X.env.scope.names.lookup x=some .local) (hc:X.calm=true) (S:CompSc X N scope cl fr) (hi:DI X tg iter wi v) (hg:∀s H fp,DG (jaq X N scope cl s H fp) tg g gd) (ht:∀s H fp,DIf (jaq X N scope cl s H fp) ifs tt cc)
  (he:∀s H fp,DE (jaq X N scope cl s H fp) elt te we) (hno:jk8 gd) (hs:∀x,D1 iter X.env x=pure x:=by intro _;rfl)
  (hsw:Dy (.ListComp elt [⟨tg,iter,ifs,0⟩] scope cpos) (some (.Name x pos')) pos.line X.env=pure true:=by rfl) :
  DS X (.Assign [.Name x pos'] (.ListComp elt [⟨tg,iter,ifs,0⟩] scope cpos) pos) (tAsg (jmr fr wi g tt te) (jco i)) (sOwn i (ja9 fr v gd cc we)) :=
 ⟨jgb hN hix hx hc S hi.pi (λs H fp=>(hg s H fp).pg) (λs H fp=>(ht s H fp).pf) (λs H fp=>(he s H fp).pe) hs hsw,jtb (jov (pos:=cpos) hc S hi hg ht he hno hs).sd⟩
theorem jv7 (hN:X.N.Nodup) (hix:X.N[i]?=some x) (hx:X.env.scope.names.lookup x=some .local) (hc:X.calm=true) (S:CompSc X N scope cl fr) (hi:DI X tg iter wi v) (hg:∀s H fp,DG (jaq X N scope cl s H fp) tg g gd) (ht:∀s H fp,DIf (jaq X N scope cl s H fp) ifs tt cc)
  (he:∀s H fp,DE (jaq X N scope cl s H fp) elt te we) (hno:jk8 gd) (hs:∀x,D1 iter X.env x=pure x:=by intro _;rfl)
  (hsw:Dy (.ListComp elt [⟨tg,iter,ifs,0⟩] scope cpos) (some (.Name x pos')) pos.line X.env=pure true:=by rfl) :
  DS X (.Assign [.Name x pos'] (.ListComp elt [⟨tg,iter,ifs,0⟩] scope cpos) pos) (tAsg (jmr fr wi g tt te) (jco i)) (sSet i (wOf (ja9 fr v gd cc we))) :=
 ⟨jgb hN hix hx hc S hi.pi (λs H fp=>(hg s H fp).pg) (λs H fp=>(ht s H fp).pf) (λs H fp=>(he s H fp).pe) hs hsw,jta (jov (pos:=cpos) hc S hi hg ht he hno hs).d.sd⟩
end
structure Has (P:Bd) (w:Bq) (K:Af) (mg:Str->Option Ad) (base:Heap) (k:Nat) (x:Str) (ps:List Str) (S:DSp):Prop where
 ex:∃(f:Addr) (fd:B8),FnOk P w K mg base CX0 k f fd ps (spOf S)/\Binds K fd ps []/\mg x=some (.ref f)/\Cp K (.ref f)=true
section
variable {P:Bd} {w:Bq} {K:Af} {mg:Str->Option Ad} {base:Heap}
theorem Has.mk' {k:Nat} {x qual:Str} {st:Stmt} {ps:List Str} {S:DSp} {f:Addr} {fd:B8} (F:Fun K x qual st f fd) (m:mg x=some (.ref f)) (b:Binds K fd ps []) (h:FnOk P w K mg base CX0 k f fd ps (spOf S)):Has P w K mg base k x ps S:=⟨f,fd,h,b,m,F.kp⟩
end
theorem ju1 {X:Cx} {e:Expr} {es:List Expr} {pos p:Pos} {tR:TA} {wR:DTA} {k:Nat} {ps:List Str} {S:DSp} {x:Str} (h:Has X.prog X.w X.K X.mg X.base k x ps S) (hr:Room k X.A) (hg:Gl X x)
  (ha:DA X (e::es) tR wR) (hdb:(x==("__debug__":Str))=false:=by decide) (he:Au (e::es) X.env=(false,eval e X.env)::Au es X.env:=by rfl) (hpl:(Da pos (Au es X.env)).any (·.1)=false:=by rfl) :
  DE X (.Call (.Name x p) (e::es) [] pos) (jei (spOf S) [] E0 tR) (jag S wR):=by
 obtain⟨f,fd,h1,h2,h3,h4⟩:=h.ex;exact jye h1 hr hg h3 h4 h2 ha hdb he hpl
theorem jls {cl cells:List (Str×Addr)} (h:∀y∈cl,cells.lookup y.1=some y.2):∀x c,cl.lookup x=some c->cells.lookup x=some c:=λx c e=>h _ (jca e)
def jal:DSp:=λws n Q=>match ws with
 |[.tp,.d (.int many)]=>(n < 2 ^ 40/\0 < many/\many < 1073741824)/\∀r:Int,0<=r->r < many->Q (.d (.int r)) (n+1)
 |_=>False
section
variable {P:Bd} {w:Bq} {K:Af} {mg:Str->Option Ad} {base:Heap}
theorem jq6 {k:Nat} {f:Addr} {fd:B8} {ps:List Str} (h:FnOk P w K mg base CX0 k f fd ps jrv):FnOk P w K mg base CX0 k f fd ps (spOf jal):=h.imp λvs H Q E hs=>by
 obtain⟨t,l,ns,B,ws,n,Q0,T,bt,ba,r,q,kk⟩:=hs;unfold jal at q
 split at q
 ·rename_i many;cases r with
  |cons r1 r2 =>
   cases r2 with
   |cons r3 r4 =>
    cases r4;cases(show _=V.ref t from r1);cases(show RdX H B _ (.int many)from r3);exact⟨t,l,ns,n,many,rfl,T,q.1.1,q.1.2.1,q.1.2.2,λr H' h0 h1 T' k'=>kk _ _ (q.2 r h0 h1) _ H' T' k' (.int r)⟩
 ·exact q.elim
def spLaw (K:Af):Sp:=λvs H Q _=>∃(a:Addr) (ns:List Int),vs=[.ref a]/\SqL K H a (ns.map V.int)/\ns.length<=63/\∀H',Q (.bl true) H'
def lawEnds:DEnds:={ nx:=λ_ _=>False,rt:=λw _=>w=.d (.bool true)}
theorem jtr {H:Hp} {t:Addr} {l:TL} {ns:List Int} {a:V} {k:Nat} (T:Tp H t l ns 0):Rel ⟨t,l,ns,H,λb=>b=t,λ_=>none⟩ H (λb=>b=t) (some a::some (.ref t)::C1 k none) (none::some (.w .tp)::C1 k none) 0 where
 tp:=T
 kp:=Kp.refl _ _
 t0:=by
  obtain⟨_,_,h,_⟩:=T.ob;show H t≠none;rw[h];exact λz=>nomatch z
 l0:=by
  show H l.s≠none;rw[T.ls];exact λz=>nomatch z
 g0:=λe=>by
  show H l.g≠none;rw[T.ag e];exact λz=>nomatch z
 fz:=λb o e=>nomatch e
 bt:=rfl
 b0:=λ_ z=>z
 ba:=λb z=>by
  obtain⟨_,_,h,_⟩:=T.ob;rw[z,h];exact λz=>nomatch z
 a0:=λb z=>by
  obtain⟨_,_,h,_⟩:=T.ob;show H b≠none;rw[show b=t from z,h];exact λz=>nomatch z
 sl:=λi x e=>by
  rcases i with _ | _ | i
  ·cases e
  ·cases e;exact⟨_,rfl,rfl,λz=>by cases z⟩
  ·have e':(C1 k (none:Option SV))[i]?=some (some x):=e;rw[D4]at e'
   split at e'
   ·cases e'
   ·cases e'
 ow:=λi j x y v e1 e2 o1 o2 f1 f2=>by
  rcases i with _ | _ | i
  ·cases e1
  ·cases e1;cases o1
  ·have e':(C1 k (none:Option SV))[i]?=some (some x):=e1;rw[D4]at e'
   split at e'
   ·cases e'
   ·cases e'
 len:=by simp
theorem jxl {f fT:Addr} {fd fdT:B8} {st:Stmt} {N:List Str} {k:Nat} {W:DST} (F:Fun K "law" "law" st f fd) (Sc:FnScope N ["_law_script"] (jah st))
  (GT:FnOk P w K mg base CX0 1 fT fdT ["_law_script"] (jih K)) (bT:Binds K fdT ["_law_script"] []) (mT:mg "_law_tape"=some (.ref fT)) (kT:Cp K (.ref fT)=true)
  (hN:∀v,start N [v]=some v::none::C1 (N.length - 2) none)
  (hW:W (none::some (.w .tp)::C1 (N.length - 2) none) 0 lawEnds)
  (hbody:∀(cdv:Ad) (A:Bj) (outer:List Env) (s:Ah) (H:Hp) (E:XK),Room k (A.deeper (Dq "law" (jah st) s.heap.objs.size f cdv)) ->
   ∃s0 rest T,jbc st=s0::rest/\PS (cxOf CX0 P w K mg base N "law" (jah st) f cdv A outer s H E).nox s0 (tAsg (jei (jih K) [] E0 (jby (tVar 0) tNil)) (jco 1))/\DSs (cxOf CX0 P w K mg base N "law" (jah st) f cdv A outer s H E).nox rest T W) :
  FnOk P w K mg base CX0 (k+1) f fd ["_law_script"] (spLaw K):=by
 refine F.ok Sc (λvs H Q E h=>?_) (λcdv A outer s H vs Q E hr h=>?_)
 ·obtain⟨a,ns,rfl,_⟩:=h;rfl
 ·obtain⟨a,ns,rfl,hS,hl,kk⟩:=h;obtain⟨s0,rest,T,e,p0,d⟩:=hbody cdv A outer s H E hr;rw[e];refine⟨_,ja5 p0 d.ps,?_⟩;rw[hN];refine⟨_,rfl,a,ns,rfl,hS,hl,λt l H1 T1 _=>?_⟩;refine d.sd ⟨t,l,ns,H1,λb=>b=t,λ_=>none⟩ H1 (λb=>b=t) _ _ 0 lawEnds _ (jtr (a:=.ref a) (k:=N.length - 2) T1) hW ⟨?_,?_,?_,?_,λ_ _ _ _ _ _ _ _ _ _ _ _ _ z=>z.elim,λ_ _ _ _ _ _ _ _ _ _ _ _ _ z=>z.elim⟩
  ·exact λ_ _ _ _ _ _ z=>z.elim
  ·intro H B σ δ n v w R r z;have z:w=.d (.bool true):=z;subst z;cases(show RdX H B v (.bool true)from r);exact kk H
  ·exact λ_ _ _ _ _ _ z=>z.elim
  ·exact λ_ _ _ _ _ _ z=>z.elim
end
section
variable {X:Cx} {pos:Pos}
theorem jun {e:Expr} {es:List Expr} {t:TG} {u:TGs} {v:DTG} {r:DTGs} (h1:DG X e t v) (h2:DGs X es u r)
  (hs:(Dk (e::es) X.env).map (·.2)=assign e X.env::(Dk es X.env).map (·.2):=by rfl):DGs X (e::es) (jx6 t u) (jav v r):=⟨jqf h1.pg h2.pg hs,λC H B σ δ n xs ds Q Q' R rr q k=>by
 cases rr with
 |nil=>exact q.elim
 |cons r1 r2=>exact⟨_,_,rfl,h1.sd C H B σ δ n _ _ _ _ R r1 q λσ' δ' R' q'=>h2.sd C H B σ' δ' n _ _ _ _ R' r2 q' k⟩⟩
theorem jzs {es:List Expr} {k:Nat} {t:TGs} {n:Nat} {r:DTGs} (h:DGs X es t r) (hc:X.calm=true:=by rfl)
  (hn:(Dk es X.env).length=n:=by rfl) (hst:(Dk es X.env).findIdx? (·.1)=none:=by rfl):DG X (.Tuple es k pos) (gTup X.K n t) (jd5 n r):=⟨jwv hc h.pg hn hst,λC H B σ δ n' x d Q Q' R rr q k=>by
 unfold jd5 at q
 split at q
 ·rename_i ds;cases rr with
  |@tup ay ys _ e1 e2 e3 e4=>exact⟨ay,ys,rfl,SqT.of e1,by rw[e4.len];exact q.1,h.sd C H B σ δ n' _ _ _ _ R e4 q.2 k⟩
 ·exact q.elim⟩
def js9:List Ab->Option (List Str)
 |[]=>some []
 |.str b::r=>(js9 r).map (b::·)
 |_::_=>none
def j0u (w w':DT):DT:=λδ n Q=>w δ n λx n1=>match x with
 |.d (.str z)=>w' δ n1 λy n2=>match y with
  |.d (.list ds)=>match js9 ds with
   |some ys=>(ys.map (·.length)).sum+ys.length*z.length<=16777216/\Q (.d (.str (Txt.join z ys))) n2
   |none=>False
  |.d (.tuple ds)=>match js9 ds with
   |some ys=>(ys.map (·.length)).sum+ys.length*z.length<=16777216/\Q (.d (.str (Txt.join z ys))) n2
   |none=>False
  |_=>False
 |_=>False
def sPut (i:Nat) (wj w:DT):DST:=λδ n K=>match δ[i]? with
 |some (some (.own ds))=>w δ n λx n1=>wj δ n1 λj n2=>match x,j with
  |.d d,.d (.int k)=>match ixN ds.length k with
   |some m=>K.nx (δ.set i (some (.own (ds.set m d)))) n2
   |none=>False
  |_,_=>False
 |_=>False
theorem jy6 {i:Nat} {x:Str} {xp sp:Pos} {j e:Expr} {tj te:TE} {wj we:DT} (hN:X.N[i]?=some x) (hj:DE X j tj wj) (he:DE X e te we) (hv:Vis X.env.scope x:=by first | exact C5 rfl | exact B9 (C5 rfl) | exact B9 (B9 rfl)) (hd:(x==("__debug__":Str))=false:=by decide)
  (hcd:(x==("__classdict__":Str))=false:=by decide)
  (ha:∀v,assign (.Subscript (.Name x xp) j sp) X.env v=(do
   let ov <-holding [v] (eval (.Name x xp) X.env)
   let iv <-holding [v,ov] (eval j X.env)
   standAt sp
   holding [v,ov,iv] (setItem ov iv v)
   release [v,ov,iv] []):=by intro _;rfl)
  (hs:swapsWithSole [.Subscript (.Name x xp) j sp] e pos.line X.env=pure false:=by rfl) (hw:swappedStores [.Subscript (.Name x xp) j sp] e X.env=pure none:=by rfl)
  (h1:(Dk [.Subscript (.Name x xp) j sp] X.env).map (·.2)=[assign (.Subscript (.Name x xp) j sp) X.env]:=by rfl) :
  DS X (.Assign [.Subscript (.Name x xp) j sp] e pos) (tAsg te (gSub (tVar i) tj jwm)) (sPut i wj we) :=
 ⟨jio he.pe (jkr (jcc hN hv hd hcd) hj.pe jd8 ha) hs hw h1,λC H B σ δ n K D R q E=>by
  unfold sPut at q
  split at q
  ·rename_i ds ei;refine he.sd C H B σ δ n _ _ R q λu y H1 n1 R1 k1 r1 q1=>?_;obtain⟨v,hv,a,xs,rfl,e2,e3,e4,e5,e6⟩:=R1.sl i _ ei;refine⟨_,hv,hj.sd C H1 B σ δ n1 _ _ R1 q1 λw z H2 n2 R2 k2 r2 q2=>?_⟩
   split at q2
   ·rename_i d k
    split at q2
    ·rename_i m em;cases(show RdX H2 B w (.int k)from r2);have hat:a≠C.t:=λz=>R.t0 (z▸e4);have e2':=k2 _ _ e2 hat;have r1':RdX H2 B u d:=r1.kp k2 R1.bt;refine⟨a,xs,k,m,rfl,rfl,e2',by rw[e6.len];exact em,?_⟩;refine E.nx _ _ _ _ _ (R2.mutOwn ei rfl hv e3 e4 ?_ rfl) q2;refine⟨a,xs.set m u,rfl,jaf,e3,e4,by rw[C3];exact e5,?_⟩;refine RdXs.keep (λb o e n=>?_) (RdXs.set m (e6.kp k2 R1.bt) r1');rw[jad λ(z:b=a)=>n (z▸e3)];exact e
    ·exact q2.elim
   ·exact q2.elim
  ·exact q.elim⟩
end
section
variable {X:Cx} {tg a b c e:Expr} {ta tb tc te:TE} {wa wb wc we:DT} {pos p:Pos} {K:Af}
theorem j0a (ha:DE X a ta wa) (hb:DE X b tb wb) (hK:X.K=K:=by rfl) (hs:jh1 b:=by exact λ_ _=>rfl):DE X (.Subscript a b pos) (tOp (rIx K) ta tb) (w2 wa wb gIx):=by subst hK;exact d_ix ha hb hs
def rIsi (K:Af) (T:String):List V->Hp->VK->Prop:=λxs H Q=>∃x t b,xs=[x,.ty T]/\TyOf K H x t/\PySem.W.kitOne K t (.type T)=some b/\Q (.bl b) H
theorem jyd {T:String} {x:Str} {p p2:Pos} (hT:T="int"\/T="bool"\/T="str"\/T="tuple"\/T="list") (hg:Gl X "isinstance") (hm:X.mg "isinstance"=none) (hg2:Gl X x) (hm2:X.mg x=none) (hv:Bm x=some (.type T)) (ha:DE X a ta wa) (hK:X.K=K:=by rfl) (hn:x≠"__name__":=by decide) (hdb:(x==("__debug__":Str))=false:=by decide)
  (he:Au [a,.Name x p2] X.env=(false,eval a X.env)::Au [.Name x p2] X.env:=by rfl) (he2:Au [.Name x p2] X.env=(false,eval (.Name x p2) X.env)::Au [] X.env:=by rfl) (hpl:(Da pos (Au [.Name x p2] X.env)).any (·.1)=false:=by rfl) :
  DE X (.Call (.Name "isinstance" p) [a,.Name x p2] [] pos) (tCB (rIsi K T) (jby ta (jby (tC (.ty T)) tNil))) (wIsi T wa):=by subst hK;exact j0b hT hg hm hg2 hm2 hv ha hn hdb he he2 hpl
def rEqK (K:Af):R2:=λx y H Q=>rEq x y H Q\/jp9 x y H Q\/jkq K x y H Q
theorem jr6 (hu:X.A.units < Dn) (hK:X.K=K:=by rfl):OpR X (B4 .Eq) (rEqK K):=by subst hK;exact jxc hu
theorem jm8:SndO (rEqK K) gEq:=jvz
theorem jw9 (hK:X.K=K:=by rfl):OpR X (B4 .In) (rIn K false):=by subst hK;exact jn6
theorem jn3 (hK:X.K=K:=by rfl):OpR X (B4 .NotIn) (rIn K true):=by subst hK;exact jir
def jts (K:Af):List V->Hp->VK->Prop:=λxs H Q=>(∃z,xs=[.str z]/\z.length<=Az/\Q (.int z.length) H)\/∃p ys,xs=[.ref p]/\(SqL K H p ys\/SqT K H p ys)/\Q (.int ys.length) H
theorem ji7 (hK:X.K=K:=by rfl):CallR X (.builtin "len") (jts K):=by subst hK;exact jpd
theorem jkm:SndB (jts K) gLen:=jtc
def jjz (K:Af):List V->Hp->VK->Prop:=λxs H Q=>∃p ys,xs=[.ref p]/\((SqL K H p ys/\∀l,H l=none->Q (.ref l) (upd H l (.tup ys)))\/(SqT K H p ys/\Q (.ref p) H))
theorem jew (hK:X.K=K:=by rfl):CallR X (.type "tuple") (jjz K):=by subst hK;exact jhs
theorem jf4:SndB (jjz K) jbh:=jm5
def jr2 (K:Af):List V->Hp->VK->Prop:=λxs H Q=>∃p ys,xs=[.ref p]/\(SqL K H p ys\/SqT K H p ys)/\∀l,H l=none->Q (.ref l) (upd H l (.lst ys))
theorem jl6 (hK:X.K=K:=by rfl):CallR X (.type "list") (jr2 K):=by subst hK;exact ji6
theorem juk (ha:DE X a ta wa) (hK:X.K=K:=by rfl):DI X tg a (jul K ta) (jbt wa):=by subst hK;exact jx1 ha
theorem jx0 (ha:DE X a ta wa) (hK:X.K=K:=by rfl):DI X tg a (iTup K ta) (jbb wa):=by subst hK;exact jzq ha
theorem jx4 {es:List Expr} {k:Nat} {t:TGs} {n:Nat} {r:DTGs} (h:DGs X es t r) (hc:X.calm=true:=by rfl) (hK:X.K=K:=by rfl)
  (hn:(Dk es X.env).length=n:=by rfl) (hst:(Dk es X.env).findIdx? (·.1)=none:=by rfl):DG X (.Tuple es k pos) (gTup K n t) (jd5 n r):=by subst hK;exact jzs h hc hn hst
end
end DL
namespace Nb
open PySem L2 DL
theorem jbn {c:DTT} {w:DT} {Q:List Ab->Int->Prop} {rest:Sl} (P:Ab->Prop) (p:Ab->Bool) (f:Ab->Ab) (hp:∀d n Q',P d->Q' (p d) n->c (some (.w (.d d))::rest) n Q') (h:∀d n Q',P d->Q' (.d (f d)) n->w (some (.w (.d d))::rest) n Q') :
  ∀(items acc:List Ab) (x:Option SV) (n:Int),(∀d∈items,P d)->Q (acc++(items.filter p).map f) n->jbq (jac 0) c w Q items acc (x::rest) n
 |[],acc,x,n,hP,q=>by
  rw[List.filter_nil,List.map_nil,B7]at q;exact q
 |d::r,acc,x,n,hP,q=>by
  simp only[jbq,jac,D8];refine hp d n _ (hP d An) ?_;cases e:p d with
  |true =>
   rw[if_pos rfl];refine h d n _ (hP d An) ?_;refine jbn P p f hp h r (acc++[f d]) _ n (λe he=>hP e (Ak _ he)) ?_;rw[List.filter_cons_of_pos e]at q;rw[B1];exact q
  |false =>
   rw[if_neg Am];refine jbn P p f hp h r acc _ n (λe he=>hP e (Ak _ he)) ?_;rw[List.filter_cons_of_neg (by rw[e];exact Am)]at q;exact q
def okD:Ab->Bool
 |.str y=>!decide (y.cps.toList < ("a":Str).cps.toList)&&!decide (("z":Str).cps.toList < y.cps.toList)
 |_=>false
theorem jk4 {α:Type} {xs:List α} {r:Int} (h0:0<=r) (h1:r < xs.length):∃v,atI xs r=some v/\v∈xs:=by
 obtain⟨j,rfl⟩:=Int.eq_ofNat_of_zero_le h0;have hj:j < xs.length:=by omega
 exact⟨xs[j],ja3 (Al hj),D3 hj⟩
theorem ifb {b:Bool} {A B:Prop} (h1:b=true->A) (h2:b=false->B):if b=true then A else B:=by
 cases b with
 |true=>rw[if_pos rfl];exact h1 rfl
 |false=>rw[if_neg Am];exact h2 rfl
end Nb
namespace Nb
open PySem L2
end Nb
namespace DL
open PySem L2 Nb
section
variable {X:Cx} {a b c e o i f:Expr} {ta tb te td ty tx:TE} {wa wb we wd' wy wx:DT} {pos p:Pos} {K:Af}
def jwl (ps:List (Str×Ab)):Prop:=ps.Pairwise λa b=>¬b.1.cps.toList < a.1.cps.toList
theorem jni {H:Hp} {B:Addr->Prop}:∀{ys:List Str},(∀y∈ys,y.length<=1000)->RdXs H B (ys.map V.str) (ys.map .str)
 |[],_=>.nil
 |y::r,h=>.cons (.str _ (jay (h y An))) (jni λz hz=>h z (Ak _ hz))
def gInt:List Wv->Int->DQ->Prop:=λxs n Q=>match xs with
 |[.d (.int i)]=>Q (.d (.int i)) n
 |[.d (.bool b)]=>Q (.d (.int (if b then 1 else 0))) n
 |_=>False
def jwn:List V->Hp->VK->Prop:=λxs H Q=>(∃i,xs=[.int i]/\Q (.int i) H)\/∃k,xs=[.bl k]/\Q (.int (if k then 1 else 0)) H
theorem jl7:CallR X (.type "int") jwn:=jpe
theorem jtf:SndB jwn gInt:=λC H B σ δ n vs xs Q Q' R r h k=>by
 unfold gInt at h
 split at h
 ·rename_i i;cases r with
  |cons r1 r2 =>
   cases r2;cases(show RdX H B _ (.int i)from r1);exact .inl ⟨i,rfl,k _ _ H n R (Kp.refl _ _) (wd (.int _)) h⟩
 ·rename_i i;cases r with
  |cons r1 r2 =>
   cases r2;cases(show RdX H B _ (.bool i)from r1);exact .inr ⟨i,rfl,k _ _ H n R (Kp.refl _ _) (wd (.int _)) h⟩
 ·exact h.elim
end
section
variable {X:Cx} {K:Af}
def rXX (K:Af) (f:Ab->Ab->Option Bool):R2:=λx y H Q=>∃d e b,RdD K H x d/\RdD K H y e/\d.canLay0=true/\e.canLay0=true/\d.depth<=20/\e.depth<=20/\f d e=some b/\Q (.bl b) H
theorem jxb (hu:X.A.units+64 < Dn) (hK:X.K=K:=by rfl):OpR X (B4 .Eq) (rXX K λd e=>some (Bk d e)):=by
 subst hK;intro pins s σ H x y v u Q I rx ry h;obtain⟨d,e,b,h1,h2,h3,h4,h5,h6,h7,q⟩:=h;cases h7;obtain⟨as,r1⟩:=RdD.reads I h1 rx;obtain⟨bs,r2⟩:=RdD.reads I h2 ry;exact SeqAt.compareEq_reads r1 r2 h3 h4 (by omega) ⟨.bl _,H,I,rfl,q⟩
theorem jw5 (hu:X.A.units+64 < Dn) (hK:X.K=K:=by rfl):OpR X (B4 .NotEq) (rXX K λd e=>some (!Bk d e)):=by
 subst hK;intro pins s σ H x y v u Q I rx ry h;obtain⟨d,e,b,h1,h2,h3,h4,h5,h6,h7,q⟩:=h;cases h7;obtain⟨as,r1⟩:=RdD.reads I h1 rx;obtain⟨bs,r2⟩:=RdD.reads I h2 ry;exact SeqAt.compareNe_reads r1 r2 h3 h4 (by omega) ⟨.bl _,H,I,rfl,q⟩
def gXX (f:Ab->Ab->Option Bool):Wv->Wv->Int->DQ->Prop:=λx y n Q=>match x,y with
 |.d d,.d e=>d.canLay0=true/\e.canLay0=true/\d.depth<=20/\e.depth<=20/\∃b,f d e=some b/\Q (.d (.bool b)) n
 |_,_=>False
theorem jrw {f:Ab->Ab->Option Bool}:SndO (rXX K f) (gXX f):=λC H B σ δ n x y p q Q Q' R rx ry h1 k=>by
 unfold gXX at h1
 split at h1
 ·rename_i d e;obtain⟨a1,a2,a3,a4,b,a5,a6⟩:=h1;exact⟨d,e,b,RdX.rd rx,RdX.rd ry,a1,a2,a3,a4,a5,k _ _ H n R (Kp.refl _ _) (wd (.bl b)) a6⟩
 ·exact h1.elim
end
section
variable {X:Cx} {o:Expr} {td:TE} {wd':DT} {pos p p2 ip:Pos} {W:Bq}
def upT (ys:List Str):Prop:=ys.Pairwise λa b=>¬b.cps.toList < a.cps.toList
def jhl (w:DT):DTF:=λδ n Q=>w δ n λx n1=>∃ks:List Str,(x=.d (.list (ks.map .str))\/x=.d (.tuple (ks.map .str)))/\ks.length < 64/\(∀k∈ks,k.length<=1000) /\
 ∀ys:List Str,ys.Nodup->(∀k,k∈ys↔k∈ks)->upT ys->Q (ys.map .str) n1
theorem jr8 {α:Type}:∀{xs ys:List α},xs.Nodup->(∀x∈xs,x∈ys)->xs.length<=ys.length
 |[],_,_,_=>A4 _
 |x::xs,ys,nd,h=>by
  obtain⟨h1,h2⟩:=Dr.mp nd;obtain⟨l,r,e⟩:=List.append_of_mem (h x An);have:=jr8 (ys:=l++r) h2 λz hz=>by
   have hm:=h z (Ak _ hz);rw[e]at hm;rcases A9.mp hm with q | q
   ·exact Dd _ q
   ·rcases Ax.mp q with q | q
    ·exact absurd (q▸hz) h1
    ·exact Ay _ q
  rw[e];simp only[Ar,As]at this ⊢;omega
theorem jck {H:Hp} {B:Addr->Prop}:∀{xs:List V} {ks:List Str},RdXs H B xs (ks.map .str)->xs=ks.map V.str
 |[],[],_=>rfl
 |_::_,[],h=>nomatch h
 |[],_::_,h=>nomatch h
 |x::xs,k::ks,.cons h t=>by
  cases h;rw[jck t];rfl
theorem jou (hh:X.A.handled=none) (hg:Gl X "sorted") (hm:X.mg "sorted"=none) (hg2:Gl X "set") (hm2:X.mg "set"=none) (ho:DE X o td wd') (hW:X.w=W:=by rfl) (hv:Bm "sorted"=some (.builtin "sorted"):=by decide +kernel) (hv2:Bm "set"=some (.type "set"):=by decide +kernel)
  (he2:Au [o] X.env=(false,eval o X.env)::Au [] X.env:=by rfl) (hpl2:(Da ip (Au [] X.env)).any (·.1)=false:=by rfl)
  (he':Au [Expr.Call (.Name "set" p2) [o] [] ip] X.env=(false,eval (Expr.Call (.Name "set" p2) [o] [] ip) X.env)::Au [] X.env:=by rfl) (hpl:(Da pos (Au [] X.env)).any (·.1)=false:=by rfl) :
  DF X (.Call (.Name "sorted" p) [.Call (.Name "set" p2) [o] [] ip] [] pos) (tCB (jg0 W) (jby (tCB (jnl W) (jby td tNil)) tNil)) (jhl wd'):=by
 subst hW;refine⟨jb9 (ji4 hh) hg hm hv (jak (jb0 (jl3 hh) hg2 hm2 hv2 (jak ho.pe jbd he2) (by decide) (by decide) he2 hpl2) jbd he') (by decide) (by decide) he' hpl,λC H B σ δ n Q Q' R q k =>
  ho.sd C H B σ δ n _ _ R q λv x H1 n1 R1 k1 r1 q1=>?_⟩
 obtain⟨ks,hx,h64,hk,kq⟩:=q1;have key:∀a:Addr,v=.ref a->(H1 a=some (.lst (ks.map V.str))\/H1 a=some (.tup (ks.map V.str)))->tCB (jg0 X.w) (jby (λσ H Q=>jnl X.w [v] H Q) tNil) σ H1 Q':=λa ea ha=>by
  subst ea;refine⟨a,ks,rfl,ha,h64,λu hu=>⟨u,ks,rfl,jaf,h64,λD ys nd hm hw hD=>?_⟩⟩;have R2:=R1.new (o:=setO X.w u ks) hu;have hD1:H1 D=none:=by
   cases e:H1 D with
   |none=>rfl
   |some ob =>
    have:upd H1 u (setO X.w u ks) D=some ob:=by rw[jad (jae e hu)];exact e
    rw[hD]at this;cases this
  have hy:∀y∈ys,y.length<=1000:=λy hy=>hk y ((hm y).mp hy);refine k D _ _ _ n1 (R2.new hD) ((k1.trans (Kp.new hu)).trans (Kp.new hD)) (R1.was k1 hD1) jaf ?_ (jni hy) (kq ys nd hm hw);rw[Ae];have:ys.length<=ks.length:=jr8 nd λy hy=>(hm y).mp hy;exact jay (by omega)
 rcases hx with rfl | rfl
 ·cases(show RdX H1 B v (.list (ks.map .str))from r1)with
  |@lst a xs _ e1 e2 e3 e4=>exact key a rfl (.inl (by rw[e1,jck e4]))
 ·cases(show RdX H1 B v (.tuple (ks.map .str))from r1)with
  |@tup a xs _ e1 e2 e3 e4=>exact key a rfl (.inr (by rw[e1,jck e4]))
variable {a:Expr} {ta:TE} {wa:DT} {K:Af}
end
section
variable {X:Cx} {a b c e o i f:Expr} {ta tb te td ty tx:TE} {wa wb we wd' wy wx:DT} {pos p:Pos} {K:Af}
def jc4 (i:Nat):DT:=λδ n Q=>match δ[i]? with
 |some (some (.own ds))=>Q (.ln ds) n
 |some (some (.w x))=>Q x n
 |_=>False
theorem jyc (i:Nat) {x:Str} {p:Pos} (hN:X.N[i]?=some x:=by rfl) (hv:Vis X.env.scope x:=by first | exact C5 rfl | exact B9 (C5 rfl) | exact B9 (B9 rfl)) (hd:(x==("__debug__":Str))=false:=by decide)
  (hcd:(x==("__classdict__":Str))=false:=by decide):DE X (.Name x p) (tVar i) (jc4 i):=⟨jcc hN hv hd hcd,λC H B σ δ n Q Q' R h k=>by
 unfold jc4 at h
 split at h
 ·rename_i ds e;obtain⟨v,h1,a,xs,rfl,g2,g3,g4,g5,g6⟩:=R.sl i _ e;exact⟨_,h1,k _ (.ln ds) H n R (Kp.refl _ _) ⟨a,xs,rfl,g2,λz=>R.t0 (z▸g4),g5,g6⟩ h⟩
 ·rename_i x e;obtain⟨v,h1,h2⟩:=R.sl i _ e;exact⟨v,h1,k v x H n R (Kp.refl _ _) h2.1 h⟩
 ·exact h.elim⟩
def gIxL:Wv->Wv->Int->DQ->Prop:=λx y n Q=>match x with
 |.ln ds=>match y with
  |.d (.int i)=>match atI ds i with
   |some d=>Q (.d d) n
   |none=>False
  |_=>False
 |x=>gIx x y n Q
theorem jtd:SndO (rIx K) gIxL:=λC H B σ δ n x y p q Q Q' R rx ry h1 k=>by
 cases p with
 |ln ds =>
  unfold gIxL at h1;dsimp only at h1
  split at h1
  ·rename_i i
   split at h1
   ·rename_i d e;cases(show RdX H B y (.int i)from ry);obtain⟨ay,ys,rfl,e1,e2,e3,e4⟩:=rx;obtain⟨v,f1,f2⟩:=jpg e4 e;exact .inl ⟨ay,ys,i,v,rfl,rfl,SqL.of e1,f1,k _ _ H n R (Kp.refl _ _) (wd f2) h1⟩
   ·exact h1.elim
  ·exact h1.elim
 |d _=>exact jf5 C H B σ δ n x y _ q Q Q' R rx ry h1 k
 |tp=>exact jf5 C H B σ δ n x y _ q Q Q' R rx ry h1 k
 |dk _=>exact jf5 C H B σ δ n x y _ q Q Q' R rx ry h1 k
 |dx _=>exact jf5 C H B σ δ n x y _ q Q Q' R rx ry h1 k
 |ob _=>exact jf5 C H B σ δ n x y _ q Q Q' R rx ry h1 k
theorem jz9 (ha:DE X a ta wa) (hb:DE X b tb wb) (hK:X.K=K:=by rfl) (hs:jh1 b:=by exact λ_ _=>rfl):DE X (.Subscript a b pos) (tOp (rIx K) ta tb) (w2 wa wb gIxL):=by
 subst hK;exact⟨jd1 joo ha.pe hb.pe hs,jii jtd ha.sd hb.sd⟩
def gInL (neg:Bool):Wv->Wv->Int->DQ->Prop:=λx y n Q=>match y with
 |.ln ds=>match x with
  |.d a=>jfw a=true/\ds.all jfw=true/\Q (.d (.bool (if neg then !inD a ds else inD a ds))) n
  |_=>False
 |y=>gIn neg x y n Q
theorem jtg {neg:Bool}:SndO (rIn K neg) (gInL neg):=λC H B σ δ n x y p q Q Q' R rx ry h1 k=>by
 cases q with
 |ln ds =>
  unfold gInL at h1;dsimp only at h1
  split at h1
  ·rename_i da;obtain⟨f1,f2,q⟩:=h1;have rx:RdX H B x da:=rx;obtain⟨ay,ys,rfl,e1,e2,e3,e4⟩:=ry;refine⟨ay,ys,rfl,.inl (SqL.of e1),jhk rx f1,jea e4 f2,?_⟩;rw[jkx rx e4];exact k _ _ H n R (Kp.refl _ _) (wd (.bl _)) q
  ·exact h1.elim
 |d _=>exact jf6 C H B σ δ n x y p _ Q Q' R rx ry h1 k
 |tp=>exact jf6 C H B σ δ n x y p _ Q Q' R rx ry h1 k
 |dk _=>exact jf6 C H B σ δ n x y p _ Q Q' R rx ry h1 k
 |dx _=>exact jf6 C H B σ δ n x y p _ Q Q' R rx ry h1 k
 |ob _=>exact jf6 C H B σ δ n x y p _ Q Q' R rx ry h1 k
def jcw:List Wv->Int->DQ->Prop:=λxs n Q=>match xs with
 |[.ln ds]=>Q (.d (.int ds.length)) n
 |xs=>gLen xs n Q
theorem jpu:SndB (jts K) jcw:=λC H B σ δ n vs xs Q Q' R r h k=>by
 unfold jcw at h
 split at h
 ·rename_i ds;cases r with
  |cons r1 r2 =>
   cases r2;obtain⟨ay,ys,rfl,e1,e2,e3,e4⟩:=r1;refine .inr ⟨ay,ys,rfl,.inl (SqL.of e1),?_⟩;rw[e4.len];exact k _ _ H n R (Kp.refl _ _) (wd (.int _)) h
 ·exact jkm C H B σ δ n vs xs Q Q' R r h k
def gEqL:Wv->Wv->Int->DQ->Prop:=λx y n Q=>match x,y with
 |.ln ds,.d (.list [])=>Q (.d (.bool ds.isEmpty)) n
 |x,y=>gEq x y n Q
theorem jth:SndO (rEqK K) gEqL:=λC H B σ δ n x y p q Q Q' R rx ry h1 k=>by
 unfold gEqL at h1
 split at h1
 ·rename_i ds;obtain⟨ax,xs,rfl,e1,e2,e3,e4⟩:=rx;cases(show RdX H B y (.list [])from ry)with
  |@lst ay ys _ f1 f2 f3 f4 =>
   cases f4;refine .inr (.inr ⟨ax,ay,xs,rfl,rfl,SqL.of e1,SqL.of f1,?_⟩);have:xs.isEmpty=ds.isEmpty:=by cases e4<;>rfl
   rw[this];exact k _ _ H n R (Kp.refl _ _) (wd (.bl _)) h1
 ·exact jm8 C H B σ δ n x y p q Q Q' R rx ry h1 k
def lsOf:Wv->Option (List Ab)
 |.ln ds=>some ds
 |.d (.list ds)=>some ds
 |_=>none
def gCat:Wv->Wv->Int->DQ->Prop:=λx y n Q=>match lsOf x,lsOf y with
 |some i,some j=>i.length+j.length<=Az/\Q (.d (.list (i++j))) n
 |_,_=>False
theorem jse {H:Hp} {B:Addr->Prop} {t:Addr} {v:V} {x:Wv} {ds:List Ab} (h:WRel H B t v x) (e:lsOf x=some ds):∃a xs,v=.ref a/\H a=some (.lst xs)/\xs.length<=Az/\RdXs H B xs ds:=by
 cases x with
 |ln es =>
  cases e;obtain⟨a,xs,h1,h2,h3,h4,h5⟩:=h;exact⟨a,xs,h1,h2,h4,h5⟩
 |d y =>
  cases y with
  |list es =>
   cases e;cases(show RdX H B v (.list ds)from h)with
   |@lst a xs _ e1 e2 e3 e4=>exact⟨a,xs,rfl,e1,e3,e4⟩
  |_=>cases e
 |tp=>cases e
 |dk _=>cases e
 |dx _=>cases e
 |ob _=>cases e
theorem jti:SndO rCat gCat:=λC H B σ δ n x y p q Q Q' R rx ry h1 k=>by
 unfold gCat at h1
 split at h1
 ·rename_i i j ei ej;obtain⟨ax,xs,rfl,e1,e3,e4⟩:=jse rx ei;obtain⟨ay,ys,rfl,f1,f3,f4⟩:=jse ry ej;obtain⟨hl,q⟩:=h1;have hl':xs.length+ys.length<=Az:=by rw[e4.len,f4.len];exact hl
  refine⟨ax,ay,xs,ys,rfl,rfl,e1,f1,hl',λpn hp=>?_⟩;refine k _ _ _ n (R.new hp) (Kp.new hp) (wd (show RdX _ B _ (.list (i++j))from .lst jaf (R.nb hp) (by rw[As];exact hl') ?_)) q;exact((e4.append f4).fresh hp).less λb z=>.inl z
 ·exact h1.elim
theorem j0d (ha:DE X a ta wa) (hb:DE X b tb wb):DE X (.BinOp a .Add b pos) (tOp rCat ta tb) (w2 wa wb gCat):=d_op jr7 jti ha hb
end
section
variable {X:Cx} {a b c e o i f:Expr} {ta tb te td ty tx:TE} {wa wb we wd' wy wx:DT} {pos p:Pos} {K:Af}
def sUnp (w:DT) (g:DTG):DST:=λδ n K=>w δ n λx n1=>match x with
 |.d d=>g d δ λδ'=>K.nx δ' n1
 |_=>False
theorem jy3 {tg:Expr} {g:TG} {gd:DTG} (he:DE X e te we) (hg:DG X tg g gd) (hs:swapsWithSole [tg] e pos.line X.env=pure false:=by rfl) (hw:swappedStores [tg] e X.env=pure none:=by rfl)
  (h1:(Dk [tg] X.env).map (·.2)=[assign tg X.env]:=by rfl):DS X (.Assign [tg] e pos) (tAsg te g) (sUnp we gd):=⟨jio he.pe hg.pg hs hw h1,λC H B σ δ n K D R q E =>
 he.sd C H B σ δ n _ _ R q λv x H1 n1 R1 k1 r1 q1=>by
  cases x with
  |d d=>exact hg.sd C H1 B σ δ n1 v d _ _ R1 r1 q1 λσ' δ' R' q'=>E.nx _ _ _ _ _ R' q'
  |tp=>exact q1.elim
  |dk _=>exact q1.elim
  |dx _=>exact q1.elim
  |ln _=>exact q1.elim
  |ob _=>exact q1.elim⟩
def sqOf:Wv->Option (List Ab)
 |.ln ds=>some ds
 |.d (.list ds)=>some ds
 |.d (.tuple ds)=>some ds
 |_=>none
theorem jvt {H:Hp} {B:Addr->Prop} {t:Addr} {v:V} {x:Wv} {ds:List Ab} (h:WRel H B t v x) (e:sqOf x=some ds):∃a xs,v=.ref a/\(SqL K H a xs\/SqT K H a xs)/\xs.length<=Az/\RdXs H B xs ds:=by
 cases x with
 |ln es =>
  cases e;obtain⟨a,xs,h1,h2,h3,h4,h5⟩:=h;exact⟨a,xs,h1,.inl (SqL.of h2),h4,h5⟩
 |d y =>
  cases y with
  |list es =>
   cases e;cases(show RdX H B v (.list ds)from h)with
   |@lst a xs _ e1 e2 e3 e4=>exact⟨a,xs,rfl,.inl (SqL.of e1),e3,e4⟩
  |tuple es =>
   cases e;cases(show RdX H B v (.tuple ds)from h)with
   |@tup a xs _ e1 e2 e3 e4=>exact⟨a,xs,rfl,.inr (SqT.of e1),e3,e4⟩
  |_=>cases e
 |tp=>cases e
 |dk _=>cases e
 |dx _=>cases e
 |ob _=>cases e
def jcp (w:DT):DTF:=λδ n Q=>w δ n λx n1=>match sqOf x with
 |some ds=>Q ds n1
 |none=>False
theorem jq4 (hg:Gl X "list") (hm:X.mg "list"=none) (ho:DE X o td wd') (hK:X.K=K:=by rfl) (he:Au [o] X.env=(false,eval o X.env)::Au [] X.env:=by rfl) (hpl:(Da pos (Au [] X.env)).any (·.1)=false:=by rfl) :
  DF X (.Call (.Name "list" p) [o] [] pos) (tCB (jr2 K) (jby td tNil)) (jcp wd') :=
 ⟨jb0 (jl6 hK) hg hm jka (jak ho.pe jbd he) (by decide) (by decide) he hpl,λC H B σ δ n Q Q' R q k=>ho.sd C H B σ δ n _ _ R q λv x H1 n1 R1 k1 r1 q1=>by
  split at q1
  ·rename_i ds ex;obtain⟨a,xs,rfl,h1,h2,h3⟩:=jvt (K:=K) r1 ex;refine⟨a,xs,rfl,h1,λl hl=>?_⟩;exact k l xs ds _ n1 (R1.new hl) (k1.trans (Kp.new hl)) (R1.was k1 hl) jaf h2 (h3.fresh hl) q1
  ·exact q1.elim⟩
def jbg:List Wv->Int->DQ->Prop:=λxs n Q=>match xs with
 |[.ln ds]=>Q (.d (.tuple ds)) n
 |xs=>jbh xs n Q
theorem jlj:SndB (jjz K) jbg:=λC H B σ δ n vs xs Q Q' R r h k=>by
 unfold jbg at h
 split at h
 ·rename_i ds;cases r with
  |cons r1 r2 =>
   cases r2;obtain⟨ay,ys,rfl,e1,e2,e3,e4⟩:=r1;refine⟨ay,ys,rfl,.inl ⟨SqL.of e1,λl hl=>?_⟩⟩;refine k _ _ _ n (R.new hl) (Kp.new hl) (wd (show RdX _ B _ (.tuple ds)from .tup jaf (R.nb hl) e3 ?_)) h;exact(e4.fresh hl).less λb z=>.inl z
 ·exact jf4 C H B σ δ n vs xs Q Q' R r h k
def sExt (i:Nat) (w:DT):DST:=λδ n K=>match δ[i]? with
 |some (some (.own ds))=>w δ n λx n1=>match x with
  |.d (.list es)=>(ds.length < 1000000/\es.length < 1000000)/\K.nx (δ.set i (some (.own (ds++es)))) n1
  |_=>False
 |_=>False
theorem jky {n m:Nat} (h:n < 1000000) (h':m < 1000000):n+m<=Az:=by
 have:2000000<=Az:=by decide
 omega
theorem jzc {i:Nat} {x:Str} {xp ap cp:Pos} (hN:X.N[i]?=some x) (he:DE X e te we) (hv:Vis X.env.scope x:=by first | exact C5 rfl | exact B9 (C5 rfl) | exact B9 (B9 rfl)) (hd:(x==("__debug__":Str))=false:=by decide)
  (hcd:(x==("__classdict__":Str))=false:=by decide)
  (hbase:attributeBase (.Name x xp) "extend" X.env (eval (.Name x xp) X.env)=eval (.Name x xp) X.env:=by rfl)
  (hfew:((Da cp (Au [e] X.env)).all (λx=>!x.1)&&(backToKw cp (keywordEach [] X.env)).all (λx=>x.1.isSome)
   && decide ([e].length+([]:List Keyword).length+(if ([]:List Keyword).isEmpty then 0 else 1) < 30))=true:=by rfl)
  (hline:(ap.endLine==cp.line)=true:=by rfl) (hs:Au [e] X.env=[(false,eval e X.env)]:=by rfl) (hplain:(Da cp (Au [] X.env)).any (·.1)=false:=by rfl)
  (hsw:Dy (.Call (.Attribute (.Name x xp) "extend" ap) [e] [] cp) none pos.line X.env=pure false:=by rfl) :
  DS X (.Expr (.Call (.Attribute (.Name x xp) "extend" ap) [e] [] cp) pos) (js3 (tBM X.K "list" jnn (tVar i) (jby te tNil))) (sExt i we) :=
 ⟨jnr (jwz PySem.F.plainAttrs_list PySem.F.slot_list_extend PySem.F.type_list_extend joa (jcc hN hv hd hcd) (jak he.pe jbd hs) hbase hfew hline hs hplain) hsw,λC H B σ δ n K D R q E=>by
  unfold sExt at q
  split at q
  ·rename_i ds ei;obtain⟨v,hv,a,xs,rfl,e2,e3,e4,e5,e6⟩:=R.sl i _ ei;refine⟨_,hv,.inl ⟨rfl,_,SqL.of e2⟩,he.sd C H B σ δ n _ _ R q λu y H1 n1 R1 k1 r1 q1=>?_⟩
   split at q1
   ·rename_i es;have hat:a≠C.t:=λz=>R.t0 (z▸e4);have e2':=k1 _ _ e2 hat;cases(show RdX H1 B u (.list es)from r1)with
    |@lst b zs _ f1 f2 f3 f4 =>
     have hl:xs.length+zs.length<=Az:=by rw[e6.len,f4.len];exact jky q1.1.1 q1.1.2
     refine⟨a,b,xs,zs,rfl,rfl,e2',f1,hl,?_⟩;refine E.nx _ _ _ _ _ (R1.mutOwn ei rfl hv e3 e4 ?_ rfl) q1.2;refine⟨a,xs++zs,rfl,jaf,e3,e4,by rw[As];exact hl,?_⟩;refine RdXs.keep (λb o e n=>?_) ((e6.kp k1 R.bt).append f4);rw[jad λ(z:b=a)=>n (z▸e3)];exact e
   ·exact q1.elim
  ·exact q.elim⟩
theorem jvd (H:Hp) (B:Addr->Prop):RdXs H B jrl jkc:=.cons .non (.cons .non (.cons .non (.cons (.int _) (.cons (.int _) (.cons (.int _) (.cons (.int _) .nil))))))
def wTp3 (i:Nat):DT:=λδ n Q=>match δ[i]? with
 |some (some (.w .tp))=>Q (.ln jkc) n
 |_=>False
theorem jz3 (i:Nat) {x:Str} {ix:Int} {p p2:Pos} {jj} (hK:X.K=K:=by rfl) (hN:X.N[i]?=some x:=by rfl) (hv:Vis X.env.scope x:=by first | exact C5 rfl | exact B9 (C5 rfl) | exact B9 (B9 rfl)) (hd:(x==("__debug__":Str))=false:=by decide)
  (hcd:(x==("__classdict__":Str))=false:=by decide):DE X (.Subscript (.Name x p) (.Constant (.int 3) jj p2) pos) (tOp (rIx K) (tVar i) (tC (.int 3))) (wTp3 i):=by
 subst hK;refine⟨jd1 joo (jcc hN hv hd hcd) jan (λ_ _=>rfl),λC H B σ δ n Q Q' R h k=>?_⟩;unfold wTp3 at h
 split at h
 ·rename_i e;obtain⟨v,h1,h2⟩:=R.sl i _ e;cases(show v=.ref C.t from h2.1);obtain⟨a,b,ho,_⟩:=R.tp.ob;refine⟨_,h1,.inl ⟨C.t,_,3,.ref C.l.g,rfl,rfl,SqL.of ho,ja3 (j:=3) rfl,k _ (.ln jkc) H n R (Kp.refl _ _) ⟨C.l.g,jrl,rfl,R.tp.ag rfl,R.tp.gne,by decide,jvd _ _⟩ h⟩⟩
 ·exact h.elim
end
end DL
namespace L2
open PySem PySem.Spec PyProof.Rows
end L2
namespace DL
open PySem L2 Nb
end DL
namespace HT
open PySem PyProof.Rows
open PySem.SeqAt
open PySem.AutoSeq1 (wpAny_loadPart')
open PySem.MeetsSeq PySem.MeetsSeq2 PySem.MeetsSeq3
section
variable {prog:Bd} {w:Bq} {A:Bj} {E:Ad->Ah->Prop} {s:Ah}
theorem getItem_tuple_whole {t sl:Addr} {items:Array Ad} {vl vu:Ad} {lo hi:Option Int} {Q:Ad->Ah->Prop} (ht:IsTup s.heap t items) (hs:s.heap.IsSliceOf sl vl vu .none) (pl:IsPart vl lo) (pu:IsPart vu hi)
  (h0:sIx items.size 0 lo=0) (h1:sIx items.size items.size hi=items.size) (h:Q (.ref t) s):Aw (A1 prog w) A (getItem (.ref t) (.ref sl)) Q E s:=by
 obtain⟨os,hos,hcs,hds⟩:=id hs;have hTs:s.TypeIs (.ref sl) "slice":=⟨os,hos,hcs⟩;unfold getItem
 try with_reducible refine B6 ?_
 first | refine Aa (Ag ?_) | skip
 refine Aa (wpAny_sequenceKey ht.typeIs (by decide) ?_);refine Aa (Cb (name:=Cy "__getitem__") ht.typeIs Dp
  (Ca Dp ht.typeIs entry_tuple_getitem ?_ (args_tuple_getitem _ _)))
 show Aw _ _ (Fi (.ref t)>>=_) _ _ s;refine Aa (tupleItemsOf_ ht ?_);refine Aa (E2 hTs ?_);rw[if_pos (by decide)];refine Aa (jbv hs pl pu ?_);have hyes:(((sIx items.size 0 lo:Nat):Int)==0&&(1:Int)==1&&(sIx items.size items.size hi - sIx items.size 0 lo)==items.size)=true:=by
  rw[h0,h1];simp
 show Aw _ _ (if (((sIx items.size 0 lo:Nat):Int)==0&&(1:Int)==1&&(sIx items.size items.size hi - sIx items.size 0 lo)==items.size)=true then _ else _) _ _ s;rw[if_pos hyes];unfold Builtin.Tuple.tupleIsExact;refine Aa (Aa (E2 ht.typeIs (Ag ?_)));rw[if_pos (by decide)];exact Aa (wpAny_rule (Ag ⟨_,rfl,Ag h⟩))
end
end HT
namespace L2
open PySem PySem.Spec PyProof.Rows
def rSlW (K:Af):V->Option Int->Option Int->Hp->VK->Prop:=λx lo hi H Q=>∃a xs,x=.ref a/\SqT K H a xs/\HT.sIx xs.length 0 lo=0/\HT.sIx xs.length xs.length hi=xs.length/\Q (.ref a) H
theorem jp1 {X:Cx}:SlR X (rSlW X.K):=by
 intro pins s σ H x v vl vu lo hi sl Q I rx hs pl pu h;obtain⟨a,xs,rfl,hx,h0,h1,q⟩:=h;cases rx;obtain⟨its,r,ht,hz⟩:=I.tuple hx;have hlen:its.toArray.size=xs.length:=by rw[Ap];exact r.length.symm
 refine⟨"tuple",_,PyProof.Rows.slot_tuple_getitem.lookup,ht.typeIs,?_⟩;exact HT.getItem_tuple_whole ht hs pl pu (by rw[hlen];exact h0) (by rw[hlen];exact h1) ⟨.ref a,H,I,rfl,q⟩
end L2
namespace DL
open PySem L2 Nb
section
variable {X:Cx} {e:Expr} {te:TE} {we:DT} {pos p2:Pos} {K:Af} {lo hi:Option Expr}
abbrev DTO:=Sl->Int->(Option Int->Int->Prop)->Prop
def jg7:DTO:=λ_ n Q=>Q none n
def jg6 (w:DT):DTO:=λδ n Q=>w δ n λx n1=>match x with
 |.d (.int i)=>Q (some i) n1
 |_=>False
def j0r (t:TO) (w:DTO):Prop:=∀(C:Ctx) (H:Hp) (B:Addr->Prop) (σ:St) (δ:Sl) (n:Int) (Q:Option Int->Int->Prop) (Q':Option Int->Hp->Prop),Rel C H B σ δ n->w δ n Q ->
 (∀o H' n',Rel C H' B σ δ n'->Kp C.t H H'->Q o n'->Q' o H')->t σ H Q'
structure DOp (X:Cx) (o:Option Expr) (t:TO) (w:DTO):Prop where
 po:PO X o t
 sd:j0r t w
theorem jxe:DOp X none jmq jg7:=⟨jnu,λC H B σ δ n Q Q' R q k=>k none H n R (Kp.refl _ _) q⟩
theorem jxd (h:DE X e te we):DOp X (some e) (jvn te) (jg6 we):=⟨jnt h.pe,λC H B σ δ n Q Q' R q k=>h.sd C H B σ δ n _ _ R q λv x H1 n1 R1 k1 r1 q1=>by
 split at q1
 ·rename_i i;cases(show RdX H1 B v (.int i)from r1);exact⟨i,rfl,k (some i) H1 n1 R1 k1 q1⟩
 ·exact q1.elim⟩
def cutD (xs:List Ab) (lo hi:Option Int):List Ab:=(xs.drop (HT.sIx xs.length 0 lo)).take (HT.sIx xs.length xs.length hi - HT.sIx xs.length 0 lo)
def jct (w:DT) (l u:DTO):DT:=λδ n Q=>w δ n λx n1=>l δ n1 λa n2=>u δ n2 λb n3=>match x with
 |.d (.tuple ds)=>Q (.d (.tuple (cutD ds a b))) n3
 |_=>False
def rSlA (K:Af):V->Option Int->Option Int->Hp->VK->Prop:=λx lo hi H Q=>rSlT K x lo hi H Q\/rSlW K x lo hi H Q
theorem juv {tl th:TO} {wl wh:DTO} (he:DE X e te we) (hl:DOp X lo tl wl) (hh:DOp X hi th wh) (hK:X.K=K:=by rfl):DE X (.Subscript e (.Slice lo hi none p2) pos) (tSl (rSlA K) te tl th) (jct we wl wh):=by
 subst hK;refine⟨jks (sl_tup.or jp1) he.pe hl.po hh.po,λC H B σ δ n Q Q' R q k=>he.sd C H B σ δ n _ _ R q λv x H1 n1 R1 k1 r1 q1 =>
  hl.sd C H1 B σ δ n1 _ _ R1 q1 λa H2 n2 R2 k2 q2=>hh.sd C H2 B σ δ n2 _ _ R2 q2 λb H3 n3 R3 k3 q3=>?_⟩
 split at q3
 ·rename_i ds;have r3:RdX H3 B v (.tuple ds):=(r1.kp k2 R1.bt).kp k3 R2.bt;cases r3 with
  |@tup aa xs _ e1 e2 e3 e4 =>
   have kk:=(k1.trans k2).trans k3;by_cases hw:HT.sIx xs.length 0 a=0/\HT.sIx xs.length xs.length b=xs.length
   ·refine .inr ⟨aa,xs,rfl,SqT.of e1,hw.1,hw.2,k _ _ H3 n3 R3 kk (wd (show RdX H3 B _ (.tuple ds)from .tup e1 e2 e3 e4)) ?_⟩;have:cutD ds a b=ds:=by
     unfold cutD;rw[<-e4.len,hw.1,hw.2,List.drop_zero,Nat.sub_zero,e4.len,Fk]
    rw[this]at q3;exact q3
   ·refine .inl ⟨aa,xs,rfl,SqT.of e1,hw,λp hp=>?_⟩;refine k _ _ _ n3 (R3.new hp) (kk.trans (Kp.new hp)) (wd (show RdX _ B _ (.tuple (cutD ds a b))from .tup jaf (R3.nb hp) (A5 (jcr xs a b) e3) ?_)) q3;unfold cutD cutV;rw[<-e4.len];exact(((e4.drop _).take _).fresh hp).less λb z=>.inl z
 ·exact q3.elim
end
end DL
namespace Nb
open PySem L2
end Nb
namespace DL
open PySem L2 Nb
section
variable {X:Cx} {a b c e o i f:Expr} {ta tb te td ty tx:TE} {wa wb we wd' wy wx:DT} {pos p:Pos} {K:Af}
def jv5:Ab->Option (List Ab)
 |.list ds=>some ds
 |.tuple ds=>some ds
 |_=>none
theorem jto {K:Af} {H:Hp} {B:Addr->Prop} {v:V} {d:Ab} {ds:List Ab} (h:RdX H B v d) (e:jv5 d=some ds):∃a xs,v=.ref a/\(SqL K H a xs\/SqT K H a xs)/\RdXs H B xs ds:=by
 cases h with
 |@lst a xs ds h1 h2 h3 h4=>cases e;exact⟨a,xs,rfl,.inl (SqL.of h1),h4⟩
 |@tup a xs ds h1 h2 h3 h4=>cases e;exact⟨a,xs,rfl,.inr (SqT.of h1),h4⟩
 |_=>cases e
theorem jhf {S:DSp} {C:Ctx} {B:Addr->Prop} {σ:St} {δ:Sl} {n:Int}:∀{vs:List V} {xs:List Ab} {ds:List (List Ab)} {H:Hp} {QK:List V->Hp->Prop},RdXs H B vs xs->ds.length=xs.length->Rel C H B σ δ n ->
  (∀(i:Nat) x d,xs[i]?=some x->ds[i]?=some d->∀m (Q0:DQ),Q0 (.d (.tuple d)) m->S [.d x] m Q0) ->
  (∀ks H2,Rel C H2 B σ δ n->Kp C.t H H2->RdXs H2 B ks (ds.map Cn)->QK ks H2)->jjk (spOf S) vs H QK
 |[],_,ds,H,QK,.nil,hl,R,_,k=>by
  cases ds with
  |nil=>exact k [] H R (Kp.refl _ _) .nil
  |cons _ _=>cases hl
 |v::vs,x::xs,ds,H,QK,.cons r rs,hl,R,hS,k=>by
  cases ds with
  |nil=>cases hl
  |cons d ds =>
   refine⟨C.t,C.l,C.ns,B,[.d x],n,λw m=>w=.d (.tuple d)/\m=n,R.tp,R.bt,R.ba,.cons r .nil,hS 0 x d rfl rfl n _ ⟨rfl,rfl⟩,?_⟩
   rintro w n' ⟨rfl,rfl⟩ v' H' T' k' r'
   have R':=R.step T' k';refine jhf (RdXs.kp k' R.bt rs) (by simpa using hl) R' (λi y z e1 e2=>hS (i+1) y z (by simpa using e1) (by simpa using e2)) λks H2 R2 k2 r2=>k _ H2 R2 (k'.trans k2) (.cons ?_ r2);have r'':WRel H' B C.t v' (.d (.tuple d)):=r';exact WRel.kp k2 R.bt r''
theorem jjy {H:Hp} {B:Addr->Prop} {vs:List V} {xs:List Ab} (h:RdXs H B vs xs):∀(idx:List Nat),(∀i∈idx,i < xs.length)->RdXs H B (idx.map λi=>vs.getD i .non) (idx.map λi=>xs.getD i .none)
 |[],_=>.nil
 |i::r,hi=>by
  have h1:=hi i An;obtain⟨v,e,q⟩:=h.getD (Al h1);refine .cons ?_ (jjy h r λj hj=>hi j (Ak _ hj));have e1:vs.getD i .non=v:=by simp[e]
  have e2:xs.getD i .none=xs[i]:=by simp[h1]
  show RdX H B (vs.getD i .non) (xs.getD i .none);rw[e1,e2];exact q
def sIns (i:Nat) (wa wb:DT):DST:=λδ n K=>match δ[i]? with
 |some (some (.own ds))=>wa δ n λx n1=>wb δ n1 λy n2=>match x,y with
  |.d (.int k),.d d=>(0<=k/\k<=ds.length/\ds.length < 1000)/\K.nx (δ.set i (some (.own (ds.take k.toNat++d::ds.drop k.toNat)))) n2
  |_,_=>False
 |_=>False
def jlu (mx:Bool):List Wv->Int->DQ->Prop:=λxs n Q=>match xs with
 |[.d (.int i),.d (.int j)]=>Q (.d (.int (if mx then(if j > i then j else i)else(if j < i then j else i)))) n
 |_=>False
theorem jyv:SndB (λxs H Q=>∃i j,xs=[V.int i,V.int j]/\Q (V.int (if j < i then j else i)) H) (jlu false):=λC H B σ δ n vs xs Q Q' R r h k=>by
 unfold jlu at h
 split at h
 ·rename_i i j
  match vs,r with
  |[_,_],.cons r1 (.cons r2 .nil) =>
   cases(show RdX H B _ (.int i)from r1);cases(show RdX H B _ (.int j)from r2);exact⟨i,j,rfl,k _ _ H n R (Kp.refl _ _) (wd (.int _)) h⟩
 ·exact h.elim
theorem jpt:SndB (λxs H Q=>∃i j,xs=[V.int i,V.int j]/\Q (V.int (if j > i then j else i)) H) (jlu true):=λC H B σ δ n vs xs Q Q' R r h k=>by
 unfold jlu at h
 split at h
 ·rename_i i j
  match vs,r with
  |[_,_],.cons r1 (.cons r2 .nil) =>
   cases(show RdX H B _ (.int i)from r1);cases(show RdX H B _ (.int j)from r2);exact⟨i,j,rfl,k _ _ H n R (Kp.refl _ _) (wd (.int _)) h⟩
 ·exact h.elim
end
end DL
namespace L2
open PySem PySem.Spec PyProof.Rows PySem.SeqAt PySem.W
end L2
namespace DL
open PySem L2 Nb
end DL
namespace HT
open PySem PyProof.Rows
end HT
namespace L2
open PySem PySem.Spec PyProof.Rows
end L2
namespace DL
open PySem L2 Nb
end DL
namespace L2
open PySem PySem.Spec PyProof.Rows PySem.SeqAt
end L2
namespace DL
open PySem L2 Nb
end DL
namespace L2
open PySem PySem.Spec PyProof.Rows
end L2
namespace DL
open PySem L2 Nb
end DL
namespace L2
open PySem PySem.Spec PyProof.Rows
def jtt (K:Af):R2:=λx y H Q=>∃a b ys,x=.ref a/\y=.ref b/\SqT K H a []/\SqT K H b ys/\Q (.ref b) H
theorem jub {X:Cx}:OpR X (Ea .Add) (jtt X.K):=by
 intro pins s σ H x y v u Q I rx ry h;obtain⟨a,b,ys,rfl,rfl,ha,hb,q0⟩:=h;cases(show v=Bb a from rx);cases(show u=Bb b from ry);obtain⟨its,r1,p1,_⟩:=I.tuple ha;obtain⟨its2,r2,p2,_⟩:=I.tuple hb;obtain⟨⟨cls,dd,data,sl⟩,ho,hc,n,hd⟩:=id p1;obtain⟨⟨cls2,dd2,data2,sl2⟩,ho2,hc2,n2,hd2⟩:=id p2;simp only at hc hd hc2 hd2;subst hc hd hc2 hd2;have hi:its=[]:=r1.nil_iff.mpr rfl;exact concat_meets ⟨_,ho,rfl⟩ ⟨_,ho2,rfl⟩ noFill_tuple_add seq_tuple_add E5 E1 (Es _ _)
  (tuple_addW0 a b its.toArray its2.toArray n n2 dd dd2 sl sl2 (by simp[hi])) ⟨ho,ho2,⟨.ref b,H,I,rfl,q0⟩⟩
end L2
namespace DL
open PySem L2 Nb
section
variable {X:Cx} {a b:Expr} {ta tb:TE} {wa wb:DT} {pos p:Pos} {K:Af}
def jot:Wv->Wv->Int->DQ->Prop:=λx y n Q=>match x,y with
 |.d (.tuple []),.d (.tuple j)=>Q (.d (.tuple j)) n
 |x,y=>gAdd x y n Q
theorem jpx:SndO (λx y H Q=>jqa K x y H Q\/jtt K x y H Q) jot:=λC H B σ δ n x y p q Q Q' R rx ry h1 k=>by
 unfold jot at h1
 split at h1
 ·rename_i j;cases(show RdX H B x (.tuple [])from rx)with
  |@tup ax xs _ e1 e2 e3 e4 =>
   cases(show RdX H B y (.tuple j)from ry)with
   |@tup ay ys _ f1 f2 f3 f4 =>
    cases e4;exact .inr ⟨ax,ay,ys,rfl,rfl,SqT.of e1,SqT.of f1,k _ _ H n R (Kp.refl _ _) (wd (show RdX H B _ (.tuple j)from .tup f1 f2 f3 f4)) h1⟩
 ·exact .inl (jpy C H B σ δ n x y _ _ Q Q' R rx ry h1 k)
theorem jyg (ha:DE X a ta wa) (hb:DE X b tb wb) (hK:X.K=K:=by rfl):DE X (.BinOp a .Add b pos) (tOp (λx y H Q=>jqa K x y H Q\/jtt K x y H Q) ta tb) (w2 wa wb jot):=by
 subst hK;exact d_op (op_addA.or jub) jpx ha hb
end
end DL
namespace L2
open PySem PySem.Spec PyProof.Rows
end L2
namespace DL
open PySem L2 Nb
end DL
namespace L2
open PySem PySem.Spec PyProof.Rows
end L2
namespace DL
open PySem L2 Nb
end DL
namespace L2
open PySem PySem.Spec PyProof.Rows
end L2
namespace DL
open PySem L2 Nb
end DL
namespace L2
open PySem PySem.Spec PyProof.Rows
end L2
namespace DL
open PySem L2 Nb
theorem jyf {X:Cx} {a b:Expr} {ta tb:TE} {wa wb:DT} {pos:Pos} (ha:DE X a ta wa) (hb:DE X b tb wb):DE X (.BinOp a .Add b pos) (tOp (rI0 λi j=>.int (i+j)) ta tb) (w2 wa wb (gI0 λi j=>.int (i+j))):=d_op op_add (jm7 λ_ _ _ _=>.int _) ha hb
end DL
namespace L2
open PySem PySem.Spec PyProof.Rows
end L2
namespace DL
open PySem L2 Nb
end DL
namespace Nb
open PySem L2 DL
theorem jk0 {n many:Int} {Q:DQ} (h:n < 2 ^ 40) (h0:0 < many) (h1:many < 1073741824) (k:∀r:Int,0<=r->r < many->Q (.d (.int r)) (n+1)):jal [.tp,.d (.int many)] n Q:=⟨⟨h,h0,h1⟩,k⟩
theorem jgk {ds:List Ab} {r:Int} {n:Int} {Q:DQ} (h0:0<=r) (h1:r < (ds.length:Int)) (k:∀d∈ds,Q (.d d) n):gIx (.d (.list ds)) (.d (.int r)) n Q:=by
 obtain⟨v,hv,hm⟩:=jk4 h0 h1;show match atI ds r with | some d=>Q (.d d) n | none=>False
 simp only[hv];exact k v hm
theorem jo8 {w:DT} {Q:List Ab->Int->Prop} {rest:Sl} (c:Nat) (h:∀d n Q',n+(c:Int) < 2 ^ 39->(∀y n',n'<=n+(c:Int)->Q' (.d y) n')->w (some (.w (.d d))::rest) n Q') :
  ∀(items acc:List Ab) (x:Option SV) (n:Int),n+(c:Int)*(items.length:Int) < 2 ^ 39->(∀ds n',n'<=n+(c:Int)*(items.length:Int)->Q ds n')->jbq (jac 0) cYes w Q items acc (x::rest) n
 |[],acc,x,n,hn,q=>q acc n (by simp)
 |d::r,acc,x,n,hn,q=>by
  simp only[jbq,jac,cYes,if_true,D8];rw[Ar]at hn q;have e:(c:Int)*((r.length+1:Nat):Int)=(c:Int)*(r.length:Int)+c:=by rw[Int.natCast_add,Int.mul_add];simp
  rw[e]at hn q;have hc:0<=(c:Int)*(r.length:Int):=Int.mul_nonneg (F1 _) (F1 _);refine h d n _ (by omega) λy n' hn'=>?_;exact jo8 c h r (acc++[y]) _ n' (by omega) λds n'' h''=>q ds n'' (by omega)
theorem ja1 (n:Nat):(rngD 0 n).length=n:=by unfold rngD;simp
theorem jdc {w:DT} {Q:List Ab->Int->Prop} {rest:Sl} (P:Ab->Prop) (c:Nat) (h:∀d n Q',n+(c:Int) < 2 ^ 39->(∀y n',P y->n'<=n+(c:Int)->Q' (.d y) n')->w (some (.w (.d d))::rest) n Q') :
  ∀(items acc:List Ab) (x:Option SV) (n:Int),n+(c:Int)*(items.length:Int) < 2 ^ 39->(∀ds n',ds.length=items.length->(∀d∈ds,P d)->n'<=n+(c:Int)*(items.length:Int)->Q (acc++ds) n')->jbq (jac 0) cYes w Q items acc (x::rest) n
 |[],acc,x,n,hn,q=>by
  have:=q [] n rfl (by simp) (by simp);rwa [B7]at this
 |d::r,acc,x,n,hn,q=>by
  simp only[jbq,jac,cYes,if_true,D8];rw[Ar]at hn q;have e:(c:Int)*((r.length+1:Nat):Int)=(c:Int)*(r.length:Int)+c:=by rw[Int.natCast_add,Int.mul_add];simp
  rw[e]at hn q;have hc:0<=(c:Int)*(r.length:Int):=Int.mul_nonneg (F1 _) (F1 _);refine h d n _ (by omega) λy n' hy hn'=>?_;refine jdc P c h r (acc++[y]) _ n' (by omega) λds n'' hl hds h''=>?_;rw[B1];refine q (y::ds) n'' (by rw[Ar,hl]) (λd hd=>?_) (by omega);rcases Ax.mp hd with rfl | z
  ·exact hy
  ·exact hds d z
theorem eq_str (a:Ab) (h:Str):eqD a (.str h)=some (jbx h a):=by cases a<;>rfl
theorem eq_int (i j:Int):eqD (.int i) (.int j)=some (decide (i=j)):=rfl
theorem at0 {α:Type} (a:α) (r:List α):atI (a::r) 0=some a:=ja3 (j:=0) rfl
theorem at1 {α:Type} (a b:α) (r:List α):atI (a::b::r) 1=some b:=ja3 (j:=1) rfl
section
variable {δ:Sl} {n:Int} {Q:DQ} {K:DEnds} {W V:DST} {i j:Nat} {a b d:Ab} {r ds:List Ab} {h:Str}
theorem jaj (h:W δ n {K with nx:=λδ n=>V δ n K}):sSeq W V δ n K:=h
theorem jab {x:Wv} (e:δ[i]?=some (some (.w x))) (k:Q x n):wVar i δ n Q:=by unfold wVar;rw[e];exact k
theorem ix_i {m:Nat} (e:δ[i]?=some (some (.w (.d (.tuple ds))))) (e2:ds[m]?=some a) (k:Q (.d a) n):w2 (wVar i) (wC (.int (m:Int))) gIx δ n Q:=by
 unfold w2;refine jab e ?_;unfold wC gIx;simp only[ja3 e2];exact k
theorem jxu (e:δ[i]?=some (some (.w (.d (.tuple (a::r)))))) (k:Q (.d a) n):w2 (wVar i) (wC (.int 0)) gIx δ n Q:=ix_i (m:=0) e rfl k
theorem jxs (e:δ[i]?=some (some (.w (.d (.tuple (a::b::r)))))) (k:Q (.d b) n):w2 (wVar i) (wC (.int 1)) gIx δ n Q:=ix_i (m:=1) e rfl k
theorem jz0 (e:δ[i]?=some (some (.w (.d (.tuple (a::r)))))) (k:Q (.d (.bool (jbx h a))) n):w2 (w2 (wVar i) (wC (.int 0)) gIx) (wC (.str h)) gEq δ n Q:=by
 show w2 (wVar i) (wC (.int 0)) gIx δ n λx n1=>wC (.str h) δ n1 λy n2=>gEq x y n2 Q;refine jxu e ?_;unfold wC gEq;simp only[eq_str];exact k
theorem if_i {c:DTT} (k:c δ n λb n1=>if b=true then W δ n1 K else V δ n1 K):sIf c W V δ n K:=k
end
section
variable {δ:Sl} {n:Int} {Q:DQ} {K:DEnds} {W V:DST} {i j:Nat} {a b d:Ab} {r ds:List Ab}
theorem w2_i {wa wb:DT} {g:Wv->Wv->Int->DQ->Prop} (k:wa δ n λx n1=>wb δ n1 λy n2=>g x y n2 Q):w2 wa wb g δ n Q:=k
theorem jv4 {w:DT} {x:Ab} (h:∀Q:DQ,Q (.d x) n->w δ n Q) (k:K.nx (δ.set i (some (.w (.d x)))) n):sSet i w δ n K:=h _ k
theorem jcl (k:K.nx (δ.set i (some (.own []))) n):sOwn i (fLst aNil) δ n K:=⟨A4 _,k⟩
theorem g0_i (k:Q (.d a) n):gIx (.d (.tuple (a::r))) (.d (.int 0)) n Q:=by
 show(match atI (a::r) 0 with | some d=>Q (.d d) n | none=>False);rw[at0];exact k
theorem g1_i (k:Q (.d b) n):gIx (.d (.tuple (a::b::r))) (.d (.int 1)) n Q:=by
 show(match atI (a::b::r) 1 with | some d=>Q (.d d) n | none=>False);rw[at1];exact k
theorem c_i {c:Ab} (k:Q (.d c) n):wC c δ n Q:=k
theorem b1_i {w:DT} {g:List Wv->Int->DQ->Prop} (k:w δ n λx n1=>g [x] n1 Q):wB g (jaa w aNil) δ n Q:=k
theorem c1_i {w:DT} {S:DSp} (k:w δ n λx n1=>S [x] n1 Q):jag S (jaa w aNil) δ n Q:=k
theorem c2_i {w w':DT} {S:DSp} (k:w δ n λx n1=>w' δ n1 λy n2=>S [x,y] n2 Q):jag S (jaa w (jaa w' aNil)) δ n Q:=k
theorem c3_i {w w' w'':DT} {S:DSp} (k:w δ n λx n1=>w' δ n1 λy n2=>w'' δ n2 λz n3=>S [x,y,z] n3 Q):jag S (jaa w (jaa w' (jaa w'' aNil))) δ n Q:=k
theorem of_i {w:DTF} (k:w δ n λds n1=>Q (.d (.list ds)) n1):wOf w δ n Q:=k
theorem jo7 {fr:List (Option Nat)} {w e:DT} {g:DTG} {c:DTT} {Q:List Ab->Int->Prop} (hw:∀Q:DQ,Q (.d (.tuple ds)) n->w δ n Q) (k:jbq g c e Q ds [] (jhr fr δ) n):ja9 fr (jbb w) g c e δ n Q:=by
 unfold ja9 jbb;exact hw _ k
theorem jw2 (e:δ[j]?=some (some (.w (.d (.tuple ds))))) (k:K.nx (δ.set i (some (.own ds))) n):sOwn i (jcp (wVar j)) δ n K:=by
 unfold sOwn jcp;exact jab e k
theorem jaz {w:DT} (k:w δ n K.rt):sRet w δ n K:=k
theorem jfu (e:δ[i]?=some (some (.own ds))) (k:W (δ.set i (some (.w (.d (.list ds))))) n K):sFrz i W δ n K:=by
 unfold sFrz;rw[e];exact k
theorem ct_b {w:DT} {k:Bool} {Q:Bool->Int->Prop} (hw:∀Q':DQ,Q' (.d (.bool k)) n->w δ n Q') (q:Q k n):cT w δ n Q:=hw _ q
theorem if_n {C:DTT} (hc:∀Q:Bool->Int->Prop,Q false n->C δ n Q) (hF:V δ n K):sIf C W V δ n K:=hc _ (by show if false=true then _ else _;rw[if_neg Am];exact hF)
theorem if_y {C:DTT} (hc:∀Q:Bool->Int->Prop,Q true n->C δ n Q) (hT:W δ n K):sIf C W V δ n K:=hc _ (by show if true=true then _ else _;rw[if_pos rfl];exact hT)
theorem jly {A B:DTT} {Q:Bool->Int->Prop} (ha:∀Q:Bool->Int->Prop,Q false n->A δ n Q) (hb:B δ n Q):cOr A B δ n Q:=ha _ (by show if false=true then _ else _;rw[if_neg Am];exact hb)
theorem jq8 {A B:DTT} {Q:Bool->Int->Prop} (ha:∀Q:Bool->Int->Prop,Q true n->A δ n Q) (k:Q true n):cOr A B δ n Q:=ha _ (by show if true=true then _ else _;rw[if_pos rfl];exact k)
theorem jsl {A B:DTT} {Q:Bool->Int->Prop} (ha:∀Q:Bool->Int->Prop,Q true n->A δ n Q) (hb:B δ n Q):cAnd A B δ n Q:=ha _ (by show if true=true then _ else _;rw[if_pos rfl];exact hb)
theorem jsk {A:DTT} {k:Bool} {Q:Bool->Int->Prop} (ha:∀Q:Bool->Int->Prop,Q k n->A δ n Q) (q:Q (!k) n):cNot A δ n Q:=ha _ q
end
theorem jar {g:DTG} {W:DST} {K:DEnds} (I:List Ab->Sl->Int->Prop) (h0:∀δ n,I [] δ n->K.nx δ n)
  (h1:∀d r δ n (N:Sl->Int->Prop),I (d::r) δ n->(∀δ n,I r δ n->N δ n)->g d δ λδ'=>W δ' n {K with nx:=N,ct:=N,bk:=K.nx}):∀ds δ n,I ds δ n->forD g W K ds δ n
 |[],δ,n,h=>h0 δ n h
 |d::r,δ,n,h=>h1 d r δ n (forD g W K r) h (jar I h0 h1 r)
section
variable {δ:Sl} {n m:Int} {Q:DQ} {K:DEnds} {W V:DST} {i j:Nat} {ds:List Ab}
theorem jcy {w:DT} (e0:δ[0]?=some (some (.w .tp))) (hw:∀Q:DQ,Q (.d (.int m)) n->w δ n Q) (h:n < 2 ^ 40) (h0:0 < m) (h1:m < 1073741824) (k:∀r:Int,0<=r->r < m->Q (.d (.int r)) (n+1)):jag jal (jaa (wVar 0) (jaa w aNil)) δ n Q :=
 c2_i (jab e0 (hw _ (jk0 h h0 h1 k)))
theorem jce (e0:δ[0]?=some (some (.w .tp))) (h:n < 2 ^ 40) (h0:0 < m) (h1:m < 1073741824) (k:∀r:Int,0<=r->r < m->Q (.d (.int r)) (n+1)):jag jal (jaa (wVar 0) (jaa (wC (.int m)) aNil)) δ n Q:=jcy e0 (λQ q=>c_i q) h h0 h1 k
theorem jnc (e0:δ[0]?=some (some (.w .tp))) (h:n < 2 ^ 40) (h0:0 < m) (h1:m < 1073741824) (k:∀r:Int,0<=r->r < m->K.nx (δ.set i (some (.w (.d (.int r))))) (n+1)):sSet i (jag jal (jaa (wVar 0) (jaa (wC (.int m)) aNil))) δ n K:=jce e0 h h0 h1 k
theorem jj7 {r:Int} (h0:0<=r) (h1:r < (ds.length:Int)) (k:∀d∈ds,Q (.d d) n):gIxL (.ln ds) (.d (.int r)) n Q:=by
 obtain⟨v,hv,hm⟩:=jk4 h0 h1;show(match atI ds r with | some d=>Q (.d d) n | none=>False);rw[hv];exact k v hm
theorem jbj {r:Int} (h0:0<=r) (h1:r < (ds.length:Int)) (k:∀d∈ds,Q (.d d) n):gIxL (.d (.list ds)) (.d (.int r)) n Q:=jgk h0 h1 k
theorem jiv (e:δ[i]?=some (some (.own ds))) (k:Q (.ln ds) n):jc4 i δ n Q:=by
 unfold jc4;rw[e];exact k
theorem jrk {w:DT} {x:Ab} {es:List Ab} (e:δ[i]?=some (some (.own es))) (hw:∀Q:DQ,Q (.d x) m->w δ n Q) (hl:es.length < 1000000) (k:K.nx (δ.set i (some (.own (es++[x])))) m):sApp i w δ n K:=by
 unfold sApp;rw[e];exact hw _ (Aj hl k)
theorem jhx {w:DT} {es:List Ab} (e:δ[i]?=some (some (.own es))) (k:w δ n λx n1=>match x with
  |.d d=>es.length < 1000000/\K.nx (δ.set i (some (.own (es++[d])))) n1
  |_=>False):sApp i w δ n K:=by
 unfold sApp;rw[e];exact k
theorem ja2 {w w':DT} (k:w δ n λx n1=>w' δ n1 λy n2=>match jbw [x,y]with
  |some ds=>ds.length<=1000/\Q (.d (.tuple ds)) n2
  |none=>False):wTup (jaa w (jaa w' aNil)) δ n Q:=k
theorem jsy {w w' w'':DT} (k:w δ n λx n1=>w' δ n1 λy n2=>w'' δ n2 λz n3=>match jbw [x,y,z]with
  |some ds=>ds.length<=1000/\Q (.d (.tuple ds)) n3
  |none=>False):wTup (jaa w (jaa w' (jaa w'' aNil))) δ n Q:=k
theorem jed (k:Q (.d (.tuple ds)) n):jbg [.d (.list ds)] n Q:=k
theorem iflt {a b:Int} (e:δ[i]?=some (some (.w (.d (.int a))))) (hT:a < b->W δ n K) (hF:¬a < b->V δ n K):sIf (cT (w2 (wVar i) (wC (.int b)) gLt)) W V δ n K:=by
 refine if_i (w2_i (jab e (c_i ?_)));show if decide (a < b)=true then _ else _
 by_cases h:a < b
 ·rw[if_pos (decide_eq_true h)];exact hT h
 ·rw[if_neg (by simpa using h)];exact hF h
end
section
variable {δ:Sl} {n m:Int} {Q:DQ} {K:DEnds} {W V:DST} {i j:Nat} {ds:List Ab}
theorem jyy {w w' w'' v:DT} (k:w δ n λx n1=>w' δ n1 λy n2=>w'' δ n2 λz n3=>v δ n3 λu n4=>match jbw [x,y,z,u]with
  |some ds=>ds.length<=1000/\Q (.d (.tuple ds)) n4
  |none=>False):wTup (jaa w (jaa w' (jaa w'' (jaa v aNil)))) δ n Q:=k
theorem jdk (k:Q (.d (.list [])) n):wOf (fLst aNil) δ n Q:=Aj (A4 _) k
theorem eqLn (k:Q (.d (.bool ds.isEmpty)) n):gEqL (.ln ds) (.d (.list [])) n Q:=k
theorem eqLi {a b:Int} (k:Q (.d (.bool (decide (a=b)))) n):gEqL (.d (.int a)) (.d (.int b)) n Q:=k
theorem ifeq {a b:Int} (e:δ[i]?=some (some (.w (.d (.int a))))) (hT:a=b->W δ n K) (hF:¬a=b->V δ n K):sIf (cT (w2 (wVar i) (wC (.int b)) gEqL)) W V δ n K:=by
 refine if_i (w2_i (jab e (c_i ?_)));show if decide (a=b)=true then _ else _
 by_cases h:a=b
 ·rw[if_pos (decide_eq_true h)];exact hT h
 ·rw[if_neg (by simpa using h)];exact hF h
theorem ifgt {a b:Int} (e:δ[i]?=some (some (.w (.d (.int a))))) (hT:b < a->W δ n K) (hF:¬b < a->V δ n K):sIf (cT (w2 (wVar i) (wC (.int b)) gGt)) W V δ n K:=by
 refine if_i (w2_i (jab e (c_i ?_)));show if decide (b < a)=true then _ else _
 by_cases h:b < a
 ·rw[if_pos (decide_eq_true h)];exact hT h
 ·rw[if_neg (by simpa using h)];exact hF h
end
theorem ji3 (hs:List Str):(hs.map Dg).all jfw=true:=by
 rw[List.all_eq_true];intro d hd;obtain⟨x,_,rfl⟩:=Bp.mp hd;rfl
theorem jry {δ:Sl} {n m:Int} {K:DEnds} {W:DST} {g:DTG} {L:List Ab} {wl:DT} {M:Nat} (e:δ[0]?=some (some (.w .tp))) (hl:∀Q:DQ,Q (.d (.list L)) n->wl δ n Q) (hn:n < 2 ^ 40) (hm:m=L.length) (h0:0 < m) (h1:m < 1000) (hL:∀d∈L,∃j:Nat,j<=M/\d=.int j) (hM:M<=1000) (k:∀j:Nat,j<=M->forD g W K (rngD 0 j) δ (n+1)) :
  sFor (jat (w2 wl (jag jal (jaa (wVar 0) (jaa (wC (.int m)) aNil))) gIxL)) g W δ n K:=by
 unfold sFor jat;refine w2_i (hl _ (jce e hn h0 (by omega) λr r0 r1=>jbj r0 (by omega) λd hd=>?_));obtain⟨j,hj,rfl⟩:=hL d hd;refine Aj ⟨by omega,by omega⟩ ?_;rw[Bv];exact k j hj
theorem jxk {ds:List Ab} {n:Int} {Q:DQ} (k:Q (.d (.int ds.length)) n):jcw [.ln ds] n Q:=k
theorem gN_i {n:Int} {Q:DQ} {i:Nat} {x:Ab} {xs:List Ab} (h:xs[i]?=some x) (k:Q (.d x) n):gIx (.d (.tuple xs)) (.d (.int (i:Nat))) n Q:=by
 show(match atI xs ((i:Nat):Int)with | some d=>Q (.d d) n | none=>False);rw[ja3 h];exact k
theorem jyi (xs:List Ab) {p:Nat} (hp:p<=xs.length):cutD xs none (some (p:Int))=xs.take p:=by
 unfold cutD;rw[HT.sIx_nat];show(xs.drop 0).take (min p xs.length - 0)=_;rw[List.drop_zero,Nat.sub_zero,Nat.min_eq_left hp]
end Nb
namespace L2
open PySem PySem.Spec PyProof.Rows
abbrev XP:=TK×Addr×V
def valX (ps:List XP) (k:TK):Option V:=(ps.find? λp=>decide (p.1=k)).map (·.2.2)
def putX (ps:List XP) (k:TK) (b:Addr) (v:V):List XP:=if (valX ps k).isSome=true then ps.map (λp=>if p.1=k then(p.1,p.2.1,v)else p)else ps++[(k,b,v)]
abbrev KX:List XP->List (TK×Addr×Ad)->Prop:=Paired λp q=>p.1=q.1/\p.2.1=q.2.1/\RelV p.2.2 q.2.2
theorem KX.val {ps:List XP} {xs:List (TK×Addr×Ad)} (r:KX ps xs) (k:TK):RelO (valX ps k) ((atKey xs k).map (·.2)):=by
 induction r with
 |nil=>exact True.intro
 |@cons p q ps qs h t ih =>
  obtain⟨h1,_,h2⟩:=h;by_cases e:p.1=k
  ·have e':q.1=k:=h1.symm.trans e;have b:atKey (q::qs) k=some q.2:=by simp[atKey,Cg,e']
   have c:valX (p::ps) k=some p.2.2:=by simp[valX,Cg,e]
   rw[c,b];exact h2
  ·have e':¬q.1=k:=λz=>e (h1.trans z);have b:atKey (q::qs) k=atKey qs k:=by simp[atKey,Cg,e']
   have c:valX (p::ps) k=valX ps k:=by simp[valX,Cg,e]
   rw[c,b];exact ih
theorem KX.repl {ps:List XP} {xs:List (TK×Addr×Ad)} (r:KX ps xs) (k:TK) {y:V} {u:Ad} (ry:RelV y u):KX (ps.map λp=>if p.1=k then(p.1,p.2.1,y)else p) (xs.map (putAt k u)):=by
 induction r with
 |nil=>exact .nil
 |@cons p q ps qs h t ih =>
  rw[Cj,Cj];refine .cons ?_ ih;obtain⟨h1,h2,h3⟩:=h;unfold putAt;by_cases e:p.1=k
  ·rw[if_pos e,if_pos (h1.symm.trans e)];exact⟨h1,h2,ry⟩
  ·rw[if_neg e,if_neg (λz=>e (h1.trans z))];exact⟨h1,h2,h3⟩
theorem KX.put {ps:List XP} {xs:List (TK×Addr×Ad)} (r:KX ps xs) (k:TK) {b:Addr} {y:V} {u:Ad} (ry:RelV y u):KX (putX ps k b y) (storedH xs k b u):=by
 have e:(valX ps k).isSome=(atKey xs k).isSome:=by rw[(r.val k).isSome_eq,Option.isSome_map]
 unfold putX storedH;rw[e];by_cases q:(atKey xs k).isSome=true
 ·rw[if_pos q,if_pos q];exact r.repl k ry
 ·rw[if_neg q,if_neg q];exact Paired.snoc r ⟨rfl,rfl,ry⟩
theorem jg1 (ps:List XP) (k:TK) (b:Addr) (v:V):(putX ps k b v).length<=ps.length+1:=by
 unfold putX
 split
 ·rw[Ae];omega
 ·rw[As,Be];omega
theorem jqc {ps:List XP} {k:TK} {b:Addr} {v:V} {R:TK->Addr->Prop} (h:∀p∈ps,R p.1 p.2.1) (hb:R k b):∀p∈putX ps k b v,R p.1 p.2.1:=λp hp=>by
 unfold putX at hp
 split at hp
 ·obtain⟨q,hq,rfl⟩:=Bp.mp hp;by_cases e:q.1=k
  ·rw[if_pos e];exact h q hq
  ·rw[if_neg e];exact h q hq
 ·rcases A9.mp hp with z | z
  ·exact h p z
  ·rw[Bg.mp z];exact hb
def jbp (K:Af) (H:Hp) (ps:List XP):Prop:=∀p∈ps,RdD K H (.ref p.2.1) p.1.1
section
variable {X:Cx} {pins:List (Addr×Obj)} {σ:St} {H:Hp} {s:Ah} {a b:Addr} {v d:V} {u r:Ad} {ps:List XP} {k:TK} {A:Bj} {E:Ad->Ah->Prop}
theorem jgj (I:Inv X pins σ H s) (e:RdD X.K H (.ref b) k.1):(jba X.prog X.w).is s.heap k b:=RdD.reads I e (show RelV (.ref b) (.ref b)from rfl)
theorem jee (I:Inv X pins σ H s) (e:H a=some (.dX ps)) (hk:jbp X.K H ps):ps.length<=Az/\(a==Ef)=false/\∃xs,KX ps xs/\s.heap.DictOfH (jba X.prog X.w) a xs:=by
 obtain⟨z,y,xs,rel,o,es,ep,h1,h2,h3,h4,h5⟩:=(show ObjOk X.prog X.w H s.heap a (.dX ps)from I.hok a _ e);refine⟨z,y,xs,rel,o,es,ep,h1,h2,h3,h4,λx hx=>?_,h5⟩;have all:∀{l:List XP} {m:List (TK×Addr×Ad)},KX l m->jbp X.K H l->∀x∈m,(jba X.prog X.w).is s.heap x.1 x.2.1:=by
  intro l m q
  induction q with
  |nil=>intro _ x hx;exact nomatch hx
  |@cons p q ps qs hq t ih =>
   intro hl x hx;rcases Ax.mp hx with e | hx
   ·subst e;have:=hl p An;rw[hq.1,hq.2.1]at this;exact jgj I this
   ·exact ih (λp hp=>hl p (Ak _ hp)) x hx
 exact all rel hk x hx
theorem jmg {Q:Ad->Ah->Prop} (hu:A.units+64 < Dn) (I:Inv X pins σ H s) (e:H a=some (.dX ps)) (hk:jbp X.K H ps) (eb:RdD X.K H (.ref b) k.1) (l:valX ps k=some v) (h:∀w' s',Inv X pins σ H s'->RelV v w'->Q w' s') :
  Aw (A1 X.prog X.w) A (getItem (.ref a) (.ref b)) Q E s:=by
 obtain⟨z,hd,xs,rel,dd⟩:=jee I e hk;obtain⟨w',hw,rw'⟩:=RelO.some_of (v:=v) (o:=(atKey xs k).map (·.2)) (by rw[<-l];exact rel.val k);obtain⟨p,hp,hp2⟩:=C0.mp hw;refine wpAny_getItem_heap (knd:=jba X.prog X.w) (show A.in1.units+16 < Dn by simp only[Em];omega) (jgj I eb) dd hp ?_;rw[hp2];exact h w' _ (I.tok _) rw'
theorem jvf {Q:Ad->Ah->Prop} (hu:A.units+64 < Dn) (I:Inv X pins σ H s) (e:H a=some (.dX ps)) (hk:jbp X.K H ps) (eb:RdD X.K H (.ref b) k.1) (rd:RelV d r) (h:∀w' s',Inv X pins σ H s'->RelV ((valX ps k).getD d) w'->Q w' s') :
  Aw (A1 X.prog X.w) A (call (.builtin "dict.get") [.ref a,.ref b,r]) Q E s:=by
 obtain⟨z,hd,xs,rel,dd⟩:=jee I e hk;refine call_meetsIn PySem.F.slot_dict_get dd.typeIs PySem.F.entry_dict_get (PySem.F.args_dict_get_3 _ _ _) (meetsH_dict_get_default (jba X.prog X.w) a b hd r) ⟨show A.in1.units+16 < Dn by simp only[Em];omega,k,xs,jgj I eb,dd,h _ _ (I.tok _) ?_⟩;exact(rel.val k).getD rd
theorem jmf {Q:Unit->Ah->Prop} (hu:A.units+64 < Dn) (I:Inv X pins σ H s) (e:H a=some (.dX ps)) (hk:jbp X.K H ps) (eb:RdD X.K H (.ref b) k.1) (l:ps.length < Az) (rv:RelV v r) (h:∀s',Inv X pins σ (upd H a (.dX (putX ps k b v))) s'->Q () s') :
  Aw (A1 X.prog X.w) A (setItem (.ref a) (.ref b) r) Q E s:=by
 obtain⟨z,hd,xs,rel,dd⟩:=jee I e hk;have hz:xs.length<=Az:=by rw[<-Fg rel];exact z
 have hl:(putX ps k b v).length<=Az:=by have:=jg1 ps k b v;omega
 refine wpAny_setItem_heap (knd:=jba X.prog X.w) (hsz:=hz) (show A.in1.units+16 < Dn by simp only[Em];omega) (jgj I eb) dd λh' dd' hs=>h _ ?_;obtain⟨q,es,ep,hq,h2,h3,h4,_,h5⟩:=dd';exact juu I (by rw[e];exact True.intro) hs ⟨q,hq⟩ ⟨hl,hd,_,rel.put k rv,q,es,ep,hq,h2,h3,h4,h5⟩
end
def jru:TE:=λ_ H Q=>∀p,H p=none->Q (.ref p) (upd H p (.dX []))
theorem jqk {X:Cx} {pos:Pos}:PE X (.Dict [] [] pos) jru:=λpins s σ H Q I h=>by
 refine wpAny_Dict_empty ⟨.ref s.heap.objs.size,_,I.laid (a:=s.heap.objs.size) (o:=.dX []) (t':=s.toks) (λ_ _ q=>Ai _ q) (Ao _) ?_,rfl,h _ (I.hok.fresh (Ao _))⟩;obtain⟨z,y,xs,r,o,es,ep,h1,h2,h3,h4,h5⟩:=jq5 (P:=X.prog) (w:=X.w) (H:=upd H s.heap.objs.size (.dT [])) s.heap I.big;cases r;exact⟨A4 _,y,[],.nil,o,es,ep,h1,h2,h3,h4,E9⟩
def XGet (K:Af) (H:Hp) (a:Addr) (y:V) (r:Option V):Prop:=∃ps k b,H a=some (.dX ps)/\jbp K H ps/\y=.ref b/\RdD K H (.ref b) k.1/\r=valX ps k
def XPut (K:Af) (H:Hp) (a:Addr) (y v:V) (H':Hp):Prop:=∃ps k b,H a=some (.dX ps)/\jbp K H ps/\y=.ref b/\RdD K H (.ref b) k.1/\ps.length < Az/\H'=upd H a (.dX (putX ps k b v))
def IsX (K:Af) (H:Hp) (a:Addr):Prop:=∃ps,H a=some (.dX ps)/\jbp K H ps
def jvm (K:Af) (td ty:TE):TE:=λσ H Q=>td σ H λx H1=>ty σ H1 λy H2=>∃a v,x=.ref a/\XGet K H2 a y (some v)/\Q v H2
def jwe (K:Af) (td ty tv:TE):TS:=λD σ H=>tv σ H λv H1=>td σ H1 λx H2=>ty σ H2 λy H3=>∃a H4,x=.ref a/\XPut K H3 a y v H4/\D.nx σ H4
def jrt (K:Af) (td ty tx:TE):TE:=λσ H Q=>td σ H λx H1=>∃a,x=.ref a/\IsX K H1 a/\ty σ H1 λy H2=>tx σ H2 λz H3=>∃o,XGet K H3 a y o/\Q (o.getD z) H3
section
variable {X:Cx} {pins:List (Addr×Obj)} {σ:St} {H:Hp} {s:Ah} {a:Addr}
theorem jxv (I:Inv X pins σ H s) (h:IsX X.K H a):s.TypeIs (.ref a) "dict":=by
 obtain⟨ps,e,hk⟩:=h;obtain⟨_,_,xs,_,dd⟩:=jee I e hk;exact dd.typeIs
theorem XGet.isX {y:V} {r:Option V} (g:XGet X.K H a y r):IsX X.K H a:=let⟨ps,_,_,e,hk,_⟩:=g;⟨ps,e,hk⟩
end
section
variable {X:Cx} {o i e f value:Expr} {pos pos' tpos apos cpos:Pos} {td ty tv tx:TE}
theorem jt0 (hu:X.A.units+64 < Dn) (ho:PE X o td) (hi:PE X i ty) (hs:NoSl i):PE X (.Subscript o i pos) (jvm X.K td ty):=by
 intro pins s σ H Q I h;refine js8 PySem.F.slot_dict_getitem.lookup hs (thn (ho pins s σ H _ I h) λu s1 ⟨x,H1,I1,rx,q1⟩=>thn (hi pins s1 σ H1 _ I1 q1) λiv s2 ⟨y,H2,I2,ry,a,v,ex,g,q2⟩=>?_);subst ex;obtain rfl:u=Bb a:=rx;have ty:=jxv I2 g.isX;obtain⟨ps,k,b,e,hk,rfl,eb,l⟩:=g;obtain rfl:iv=Bb b:=ry;exact⟨ty,jmg hu I2 e hk eb l.symm λw' s3 I3 rw'=>⟨v,H2,I3,rw',q2⟩⟩
theorem jtu (hu:X.A.units+64 < Dn) (ho:PE X o td) (hi:PE X i ty) (hv:PE X value tv) (hs:Dy value (some (.Subscript o i pos')) pos.line X.env=pure false) :
  PS X (.Assign [.Subscript o i pos'] value pos) (jwe X.K td ty tv):=by
 intro pins s σ H D I h;refine wpAny_Assign_Subscript (thn (hv pins s σ H _ I h) λr s1 ⟨v,H1,I1,rv,q1⟩=>thn (ho pins s1 σ H1 _ I1 q1) λu s2 ⟨x,H2,I2,rx,q2⟩=>thn (hi pins s2 σ H2 _ I2 q2) λiv s3 ⟨y,H3,I3,ry,a,H4,ex,g,q3⟩=>?_) hs;subst ex;obtain rfl:u=Bb a:=rx;obtain⟨ps,k,b,e,hk,rfl,eb,l,rfl⟩:=g;obtain rfl:iv=Bb b:=ry;exact jmf hu I3 e hk eb l rv λs4 I4=>⟨σ,_,I4,q3⟩
theorem jqg (hu:X.A.units+64 < Dn) (ho:PE X o td) (he:PE X e ty) (hf:PE X f tx) (m:M2 X o "get" apos e f cpos):PE X (.Call (.Attribute o "get" apos) [e,f] [] cpos) (jrt X.K td ty tx):=by
 intro pins s σ H Q I h;refine wpAny_Call_method m.base m.few m.line PySem.F.plainAttrs_dict PySem.F.slot_dict_get PySem.F.type_dict_get (thn (ho pins s σ H _ I h) λu s1 ⟨x,H1,I1,rx,a,ex,d,q1⟩=>?_);subst ex;obtain rfl:u=Bb a:=rx;obtain⟨ps0,e0,hk0⟩:=d;obtain⟨_,_,xs0,_,o0,es0,ep0,g1,g2,g3,_⟩:=jee I1 e0 hk0;refine⟨⟨o0,g1,g2.1⟩,λb q=>by cases q;exact⟨o0,g1,g2.2.1⟩,?_⟩;rw[m.trees];refine Calls.callWith_builtin rfl (Calls.evalArgs_plain (Calls.spliced_cons (thn (he pins s1 σ H1 _ I1 q1) λiv s2 ⟨y,H2,I2,ry,q2⟩ =>
  Calls.spliced_cons (thn (hf pins s2 σ H2 _ I2 q2) λfv s3 ⟨z,H3,I3,rz,ov,g,q3⟩=>Calls.spliced_nil ?_))))
 obtain⟨ps,k,b,e,hk,rfl,eb,rfl⟩:=g;obtain rfl:iv=Bb b:=ry;exact jvf hu I3 e hk eb rz λw' s4 I4 rw'=>⟨_,H3,I4,rw',q3⟩
end
end L2
namespace L2
open PySem PySem.Spec PyProof.Rows PySem.W
def jr1 (K:Af):List V->Hp->VK->Prop:=λxs H Q=>∃a ps,xs=[.ref a]/\H a=some (.dX ps)/\jbp K H ps/\∀l,H l=none->Q (.ref l) (upd H l (.lst (ps.map λp=>V.ref p.2.1)))
theorem joj {ps:List XP} {xs:List (TK×Addr×Ad)} (r:KX ps xs):Vals (ps.map λp=>V.ref p.2.1) (xs.map λx=>Bb x.2.1):=by
 induction r with
 |nil=>exact .nil
 |@cons p q ps qs h t ih=>exact .cons (show RelV (V.ref p.2.1) (Bb q.2.1) by rw[h.2.1];rfl) ih
theorem jl5 {X:Cx} (hh:X.A.handled=none):CallR X (.type "list") (jr1 X.K):=by
 intro pins s σ H xs us Q I r h;obtain⟨a,ps,rfl,ha,hk,q⟩:=h;obtain⟨u,rfl,ru⟩:=jc5 r;cases(show u=Bb a from ru);obtain⟨z,y,ys,rel,o,es,ep,h1,h2,h3,h4,h5⟩:=(show ObjOk X.prog X.w H s.heap a (.dX ps)from I.hok a _ ha);have hsz:es.size=ys.length:=by
  have:=congrArg List.length h4;rw[Ae,A7]at this;exact this
 have hlen:ys.length=ps.length:=(Fg rel).symm;refine kdl_call (joy (es:=es) (ep:=ep) y) hh (show DEs s.heap a es ep from⟨o,h1,h2,h3⟩) (by rw[hsz,hlen];exact z) λh' tk acc c hkp hL hI=>?_;have eacc:acc=(ys.map λx=>Bb x.2.1).toArray:=by
  apply Fj.mp;apply List.ext_getElem?;intro j;by_cases hj:j < es.size
  ·have hja:j < acc.toList.length:=by rw[A7,hI.1];exact hj
   have this:(es[j]?).map (·.key)=some (acc.toList[j]):=hI.2 j (acc.toList[j]) (by rw[<-Cm,Al hja]);rw[<-Cm,h4,A0,Option.map_map]at this;rw[Al hja,<-this,A0];rfl
  ·rw[Co (by rw[A7,hI.1];omega),Co (by simp only[Ae];omega)]
 rw[eacc]at hL;refine⟨.ref s.heap.objs.size,_,I.laid (t':=tk) (h':=h') (o:=.lst (ps.map λp=>V.ref p.2.1)) hkp (Ao _) ⟨by rw[Ae];exact z,_,c,joj rel,hL⟩,rfl,q _ (I.hok.fresh (Ao _))⟩
def jnj (K:Af) (sp:Sp):V->Hp->VK->Prop:=λx H Q=>∃a ps,x=.ref a/\H a=some (.dX ps)/\jbp K H ps/\ps.length < 64/\jjk sp (ps.map λp=>V.ref p.2.1) H (jkp K (ps.map λp=>V.ref p.2.1) Q)
def jmo (K:Af) (sp:Sp) (t:TE):TE:=λσ H Q=>t σ H λx H1=>jnj K sp x H1 Q
section
variable {X:Cx} {pins:List (Addr×Obj)} {σ:St} {H:Hp} {s:Ah} {k:Nat} {f:Addr} {fd:B8} {ps:List Str} {sp:Sp}
theorem jl0 {Q:VK} {x:V} {u:Ad} (F:FnOk X.prog X.w X.K X.mg X.base CX0 k f fd ps sp) (hr:Room (k+2) X.A) (hb:Binds X.K fd ps []) (I:Inv X pins σ H s) (r:RelV x u) (h:jnj X.K sp x H Q) :
  Aw (A1 X.prog X.w) X.A (call (.builtin "sorted") [u] [(Cy "key",.ref f)]) (EP X pins σ Q) X.xe s:=by
 obtain⟨a,qs,rfl,ha,hk,h64,q⟩:=h;obtain rfl:u=Bb a:=r;obtain⟨z,y,ys,rel,o,es,ep,h1,h2,h3,h4,h5⟩:=(show ObjOk X.prog X.w H s.heap a (.dX qs)from I.hok a _ ha);have hh:X.A.in1.handled=none:=hr.hd;have hsz:es.size=ys.length:=by
  have:=congrArg List.length h4;rw[Ae,A7]at this;exact this
 have hlen:ys.length=qs.length:=(Fg rel).symm;have rv:=joj rel;refine jc6 (R:=λvs s1=>vs=(ys.map λx=>Bb x.2.1)/\Inv X pins σ H s1) (kdu_collect (joy (es:=es) (ep:=ep) y) hh (show DEs s.heap a es ep from⟨o,h1,h2,h3⟩) (by rw[hsz,hlen];exact z) λh' tk acc hkp hI=>⟨?_,I.kept hkp⟩) ?_
 ·apply List.ext_getElem?;intro j;by_cases hj:j < es.size
  ·have hja:j < acc.toList.length:=by rw[A7,hI.1];exact hj
   have this:(es[j]?).map (·.key)=some (acc.toList[j]):=hI.2 j (acc.toList[j]) (by rw[<-Cm,Al hja]);rw[<-Cm,h4,A0,Option.map_map]at this;rw[Al hja,<-this,A0];rfl
  ·rw[Co (by rw[A7,hI.1];omega),Co (by simp only[Ae];omega)]
 ·rintro vs s1 ⟨rfl,I1⟩
  refine⟨by rw[<-rv.length,Ae];exact z,jc7 F hr hb I1 rv (by rw[Ae];exact h64) q⟩
theorem jqh {o:Expr} {td:TE} {x:Str} {pp pos kp kpos:Pos} (F:FnOk X.prog X.w X.K X.mg X.base CX0 k f fd ps sp) (hr:Room (k+2) X.A) (hb:Binds X.K fd ps []) (hg:Gl X "sorted") (hm:X.mg "sorted"=none) (hgf:Gl X x) (hmf:X.mg x=some (.ref f)) (ho:PE X o td)
  (hv:Bm "sorted"=some (.builtin "sorted"):=by decide +kernel) (hdb:(x==("__debug__":Str))=false:=by decide) (he:Au [o] X.env=(false,eval o X.env)::Au [] X.env:=by rfl) :
  PE X (.Call (.Name "sorted" pp) [o] [⟨some "key",.Name x kp,kpos⟩] pos) (jmo X.K sp td):=by
 intro pins s σ H Q I h;refine Fb (jgi I hg hm hv ?_ (by decide) (by decide));refine callWith_kw (thn ((jak ho jbd he) pos pins s σ H (λvs H1=>match vs with | [x]=>jnj X.K sp x H1 Q | _=>False) I ?_) λus s1 ⟨vs,H1,I1,r,q⟩=>?_) (by rw[he];rfl) (by rw[he];rfl)
 ·exact h
 ·match vs,q with
  |[],q=>exact q.elim
  |_::_::_,q=>exact q.elim
  |[v],q =>
  obtain⟨u,rfl,ru⟩:=jc5 r;refine kws_cons (jj6 I1 hgf hmf (kws_nil ?_) hdb);exact jl0 F hr hb I1 ru q
end
abbrev XQ:=Addr×XP
def jjj (K:Af) (H:Hp) (qs:List XQ):Prop:=∀q∈qs,H q.1=some (.tup [.ref q.2.2.1,q.2.2.2])/\RdD K H (.ref q.2.2.1) q.2.1.1
def jcz (qs:List XQ):List XP:=qs.foldl (λacc q=>putX acc q.2.1 q.2.2.1 q.2.2.2) []
theorem jlx (qs:List XQ) (q:XQ):jcz (qs++[q])=putX (jcz qs) q.2.1 q.2.2.1 q.2.2.2:=by
 unfold jcz;rw[List.foldl_append];rfl
theorem jdb {qs:List XQ} {i:Nat} (hi:i < qs.length):jcz (qs.take (i+1))=putX (jcz (qs.take i)) qs[i].2.1 qs[i].2.2.1 qs[i].2.2.2:=by
 rw[List.take_succ,Al hi];exact jlx _ _
theorem jes {qs:List XQ}:∀i,i<=qs.length->(jcz (qs.take i)).length<=i
 |0,_=>by rw[List.take_zero];exact A4 _
 |i+1,h=>by
  rw[jdb (by omega)];have h1:=jes (qs:=qs) i (by omega);have h2:=jg1 (jcz (qs.take i)) qs[i].2.1 qs[i].2.2.1 qs[i].2.2.2;omega
theorem jgl {K:Af} {H:Hp} {qs:List XQ} (h:jjj K H qs):∀i,i<=qs.length->jbp K H (jcz (qs.take i))
 |0,_=>by rw[List.take_zero];exact λp hp=>nomatch hp
 |i+1,hi=>by
  rw[jdb (by omega)];exact jqc (R:=λk b=>RdD K H (.ref b) k.1) (jgl h i (by omega)) (h _ (D3 _)).2
def RawX (P:Bd) (w:Bq) (h:Heap) (d:Addr) (ps:List XP):Prop:=∃xs,KX ps xs/\∃o es ep,h.get? d=some o/\o.ExactDict/\o.data=.dict es ep/\es.toList=xs.map (entryOfKey (jba P w))/\(xs.map (·.1)).Nodup
theorem RawX.keep {P:Bd} {w:Bq} {h h':Heap} {d:Addr} {ps:List XP} (r:RawX P w h d ps) (k:∀o,h.get? d=some o->h'.get? d=some o):RawX P w h' d ps :=
 let⟨xs,rel,o,es,ep,h1,h2⟩:=r
 ⟨xs,rel,o,es,ep,k _ h1,h2⟩
section
variable {X:Cx} {pins:List (Addr×Obj)} {σ:St} {A:Bj} {R:Result->Ah->Prop} {H:Hp} {s:Ah}
theorem RawX.dict {d:Addr} {ps:List XP} (I:Inv X pins σ H s) (hk:jbp X.K H ps) (r:RawX X.prog X.w s.heap d ps):∃xs,KX ps xs/\s.heap.DictOfH (jba X.prog X.w) d xs:=by
 obtain⟨xs,rel,o,es,ep,h1,h2,h3,h4,h5⟩:=r;refine⟨xs,rel,o,es,ep,h1,h2,h3,h4,λx hx=>?_,h5⟩;have all:∀{l:List XP} {m:List (TK×Addr×Ad)},KX l m->jbp X.K H l->∀x∈m,(jba X.prog X.w).is s.heap x.1 x.2.1:=by
  intro l m q
  induction q with
  |nil=>intro _ x hx;exact nomatch hx
  |@cons p q ps qs hq t ih =>
   intro hl x hx;rcases Ax.mp hx with e | hx
   ·subst e;have:=hl p An;rw[hq.1,hq.2.1]at this;exact jgj I this
   ·exact ih (λp hp=>hl p (Ak _ hp)) x hx
 exact all rel hk x hx
theorem jmj (hA:A.handled=none) (hu:A.units+64 < Dn) {src d it:Addr} (qs:List XQ) (I0:Inv X pins σ H s) (h0:s.heap.objs.size<=it) (h1:s.heap.objs.size<=d) (hne:it≠d) (hs:H src=some (.tup (qs.map λp=>.ref p.1))) (hp:jjj X.K H qs) (hl:qs.length<=1000)
  (hR:∀h' tk',(∀b o,s.heap.get? b=some o->h'.get? b=some o)->RawX X.prog X.w h' d (jcz qs)->R (.ok (.ret .none)) {s with heap:=h',toks:=tk'}) :
  ∀(n i:Nat) (h:Heap) (tk:Nat),n+i=qs.length->(∀b o,s.heap.get? b=some o->h.get? b=some o)->RawX X.prog X.w h d (jcz (qs.take i))->h.IsTupleIter it src i ->
  E8 (A1 X.prog X.w) A (.builtin "dict.update.loop" ⟨[.ref d,.ref it,Cs i,.none],[]⟩) R {s with heap:=h,toks:=tk}:=by
 intro n
 induction n with
 |zero =>
  intro i h tk hn hk dd st;have I:Inv X pins σ H {s with heap:=h,toks:=tk}:=I0.kept hk;obtain⟨its,rv,p,_⟩:=I.tuple (SqT.of (K:=X.K) hs);refine C9 jcd ?_;rw[Dc jbe _];show Aw _ _ (Eg (.ref it)>>=_) _ _ _;have hl:=rv.length;rw[Ae]at hl;refine Aa (wpAny_pyNext_tuple_end (A:=A.in1) (s:={ s with heap:=h,toks:=tk}) hA st (show h.IsTuple src its.toArray from p) (by simp;omega) λh' eb=>?_);show Aw _ _ (Builtin.Dict.addKeywords d []>>=_) _ _ _;refine Aa (Ag (Ag (hR h' tk (λb o e=>eb b o (Ba (A8 (Aq e) h0)) (hk b o e)) ?_)));rw[show qs.take i=qs from List.take_of_length_le (by omega)]at dd;exact dd.keep λo e=>eb d o hne.symm e
 |succ n ih =>
  intro i h tk hn hk dd st;have I:Inv X pins σ H {s with heap:=h,toks:=tk}:=I0.kept hk;obtain⟨its,rv,p,_⟩:=I.tuple (SqT.of (K:=X.K) hs);have hi:i < qs.length:=by omega
  obtain⟨u,hu',ru⟩:=rv.get (show(qs.map λp=>V.ref p.1)[i]?=some (V.ref (qs[i]).1) by simp[hi]);cases(show u=Bb (qs[i]).1 from ru);have hm:=D3 hi;obtain⟨hq,hky⟩:=hp _ hm;refine C9 jcd ?_;rw[Dc jbe _];show Aw _ _ (Eg (.ref it)>>=_) _ _ _;refine Aa (wpAny_pyNext_tuple_item (s:={ s with heap:=h,toks:=tk}) st (show h.IsTuple src its.toArray from p) (x:=Bb (qs[i]).1) (by simpa using hu') λg st1 sb=>?_);have kg:∀b o,s.heap.get? b=some o->g.get? b=some o:=λb o e=>(sb.2 b (Ba (A8 (Aq e) h0))).trans (hk b o e);have I1:Inv X pins σ H {s with heap:=g,toks:=tk}:=I0.kept kg;obtain⟨its1,rv1,p1,_⟩:=I1.tuple (SqT.of (K:=X.K) hq);obtain⟨u1,u2,rfl,r1,r2⟩:=jsw rv1;cases(show u1=Bb (qs[i]).2.2.1 from r1);refine Aa (B6 ?_);refine Aa (wpAny_tryCatch (jlp p1 ?_));obtain⟨xs,rel,dg⟩:=RawX.dict (s:={ s with heap:=g,toks:=tk}) I1 (jgl hp i (by omega)) (dd.keep λo e=>(sb.2 d hne.symm).trans e);have hxl:xs.length<=1000:=by
   have:=jes (qs:=qs) i (by omega);have:=Fg rel;omega
  refine B6 (wpAny_dictSet_heap (knd:=jba X.prog X.w) (s:={ s with heap:=g,toks:=tk}) (hsz:=jay hxl) (show A.in1.units+16 < Dn by simp only[Em];omega) (jgj I1 hky) dg λh2 dd2 hs2=>?_);show Aw _ _ (pure (Fin.again (.builtin "dict.update.loop" ⟨[.ref d,.ref it,Cs ((i:Int)+1),.none],[]⟩))) _ _ _;refine Ag ⟨E7 jbe _,?_⟩;rw[show((i:Int)+1)=((i+1:Nat):Int) by push_cast;rfl];refine ih (i+1) h2 _ (by omega) (λb o e=>(hs2.2 b (Ba (A8 (Aq e) h1))).trans (kg b o e)) ?_ (by
   obtain⟨o,e,r⟩:=st1;exact⟨o,(hs2.2 it hne).trans e,r⟩)
  rw[jdb hi];obtain⟨o,es,ep,g1,g2,g3,g4,_,g5⟩:=dd2;exact⟨_,rel.put _ r2,o,es,ep,g1,g2,g3,g4,g5⟩
theorem jl8 (hh:X.A.handled=none) (hu:X.A.units+80 < Dn):CallR X (.type "dict") (λxs H Q=>∃(src:Addr) (qs:List XQ),xs=[.ref src]/\H src=some (.tup (qs.map λp=>V.ref p.1))/\jjj X.K H qs/\qs.length<=1000 /\
  ∀l,H l=none->Q (.ref l) (L2.upd H l (.dX (jcz qs)))):=by
 intro pins s σ H xs us Q I r h;obtain⟨src,qs,rfl,hs,hp,hlen,q⟩:=h;obtain⟨u,rfl,ru⟩:=jc5 r;cases(show u=Bb src from ru);refine callType_codes (Q₁:=λobj s₁=>obj=.ref s.heap.objs.size/\s₁={ s with heap:=s.heap.push {cls:=.type "dict",data:=.dict #[]}}) F.kt_called_dict (F.kt_typeCall_dict_1 _) F.entry_dict_init (kt_code_dict_new _ ⟨rfl,rfl⟩) ?_
 rintro obj s₁ ⟨rfl,rfl⟩
 have I1:Inv X pins σ H {s with heap:=s.heap.push {cls:=.type "dict",data:=.dict #[]}}:=I.kept (t':=s.toks) λb o e=>Ai _ e;have hsys:(s.heap.objs.size==Ef)=false:=by
  have:=I.big;simp only[beq_eq_false_iff_ne];exact Fc this
 obtain⟨zz,its,rv,o,ho,hc,⟨n,hdat⟩,hd⟩:=(show ObjOk X.prog X.w _ _ src (.tup _)from I1.hok src _ hs);have hnew:(s.heap.push {cls:=.type "dict",data:=.dict #[]}).DictOfH (tupleKind (jcm X.prog X.w)) s.heap.objs.size []:=Heap.DictOfH.new s.heap;refine⟨hnew.typeIs,F.args_dict_init_2 _ _,?_⟩;unfold D2.«dict.__init__»;refine Aa ?_;unfold Builtin.Dict.selfAndRest;refine Aa (wpAny_notOrdered_dict hnew.typeIs ?_);show Aw _ _ (pure (s.heap.objs.size,[Bb src])) _ _ _;refine Ag ?_;show Aw _ _ (Builtin.Dict.updateFrom "dict.__init__" s.heap.objs.size (.ref src) [] .none) _ _ _;unfold Builtin.Dict.updateFrom;refine Aa (E2 (T:="tuple") ⟨o,ho,hc⟩ ?_);rw[if_pos (by decide)];refine Aa (jhi ho hc hdat hd jok (by decide +kernel) hh (λh' tk e ne=>?_));have p2:IsTup h' src its.toArray:=IsTup.keeps ⟨o,ho,hc,n,hdat⟩ ne.keeps;show Aw _ _ (rule _>>=_) _ _ _;refine Aa (wpAny_rule ?_);refine Aa (wpAny_pyIter_tuple (show Heap.IsTuple h' src its.toArray from p2) ?_);refine Ag ⟨E7 jbe _,?_⟩;have e0:(s.heap.push ({cls:=.type "dict",data:=.dict #[]}:Obj)).get? s.heap.objs.size=some {cls:=.type "dict",data:=.dict #[]}:=Av _ rfl;have hlt:s.heap.objs.size < h'.objs.size:=Aq (ne.keeps _ _ e0);have kp:∀b u,s.heap.get? b=some u->(h'.push {cls:=.type "tuple_iterator",data:=.fields #[.ref src,.int 0 0]}).get? b=some u:=λb u e=>Ai _ (ne.keeps _ _ (Ai _ e));refine jmj (A:=X.A.in1) hh (by simp only[Em];omega) (it:=h'.objs.size) (d:=s.heap.objs.size) qs I (Fd hlt) (Ao _) (Fc hlt) hs hp hlen (λg tk' hk dd=>?_) qs.length 0 _ _ (by omega) kp ?_ ⟨_,Av _ rfl,rfl,rfl⟩
 ·obtain⟨ys,rel,q1⟩:=dd;have hz:=jes (qs:=qs) qs.length (Ao _);rw[Fk]at hz;exact⟨rfl,.ref s.heap.objs.size,_,I.laid (t':=tk') (h':=g) (o:=.dX (jcz qs)) hk (Ao _) ⟨jay (by omega),hsys,ys,rel,q1⟩,rfl,q _ I.fresh⟩
 ·exact⟨[],.nil,{cls:=.type "dict",data:=.dict #[]},#[],0,Ai _ (ne.keeps _ _ e0),⟨rfl,rfl,rfl⟩,rfl,rfl,by simp⟩
end
end L2
namespace DL
open PySem L2 Nb
def valY (m:List (TK×Ab)) (k:TK):Option Ab:=(m.find? λq=>decide (q.1=k)).map (·.2)
def putY (m:List (TK×Ab)) (k:TK) (d:Ab):List (TK×Ab):=if (valY m k).isSome=true then m.map (λq=>if q.1=k then(q.1,d)else q)else m++[(k,d)]
section
variable {H:Hp} {B:Addr->Prop} {l:List (TK×Addr×V)} {m:List (TK×Ab)}
theorem RdY.len (h:RdY H B l m):l.length=m.length:=Fg h
theorem RdY.keys {K:Af} (h:RdY H B l m):jbp K H l:=by
 induction h with
 |nil=>exact λp hp=>nomatch hp
 |@cons p q ps qs hq t ih =>
  intro x hx;rcases Ax.mp hx with rfl | hx
  ·exact hq.2.1.rd
  ·exact ih x hx
theorem RdY.val (h:RdY H B l m) (k:TK):(valX l k=none/\valY m k=none)\/∃v d,valX l k=some v/\valY m k=some d/\RdX H B v d:=by
 induction h with
 |nil=>exact .inl ⟨rfl,rfl⟩
 |@cons p q ps qs hq t ih =>
  by_cases e:p.1=k
  ·have e':q.1=k:=hq.1.symm.trans e;exact .inr ⟨p.2.2,q.2,by simp[valX,Cg,e],by simp[valY,Cg,e'],hq.2.2⟩
  ·have e':¬q.1=k:=λz=>e (hq.1.trans z);have c1:valX (p::ps) k=valX ps k:=by simp[valX,Cg,e]
   have c2:valY (q::qs) k=valY qs k:=by simp[valY,Cg,e']
   rw[c1,c2];exact ih
theorem RdY.isSome (h:RdY H B l m) (k:TK):(valX l k).isSome=(valY m k).isSome:=by
 rcases h.val k with⟨e1,e2⟩ | ⟨v,d,e1,e2,_⟩<;>rw[e1,e2]<;>rfl
theorem RdY.put {v:V} {d:Ab} {b:Addr} {k:TK} (h:RdY H B l m) (rb:RdX H B (.ref b) k.1) (r:RdX H B v d):RdY H B (putX l k b v) (putY m k d):=by
 have e:=h.isSome k;have rep:RdY H B (l.map λp=>if p.1=k then(p.1,p.2.1,v)else p) (m.map λq=>if q.1=k then(q.1,d)else q):=by
  clear e
  induction h with
  |nil=>exact .nil
  |@cons p q ps qs hq t ih =>
   rw[Cj,Cj];refine .cons ?_ ih;by_cases e:p.1=k
   ·rw[if_pos e,if_pos (hq.1.symm.trans e)];exact⟨hq.1,hq.2.1,r⟩
   ·rw[if_neg e,if_neg λz=>e (hq.1.trans z)];exact hq
 unfold putX putY;rw[e];by_cases z:(valY m k).isSome=true
 ·rw[if_pos z,if_pos z];exact rep
 ·rw[if_neg z,if_neg z];exact Paired.snoc h ⟨rfl,rb,r⟩
end
section
variable {X:Cx} {a b c e o i f:Expr} {ta tb te td ty tx:TE} {wa wb we wd' wy wx:DT} {pos p:Pos} {K:Af}
def ja0 (i:Nat):DT:=λδ n Q=>match δ[i]? with
 |some (some (.odx kvs))=>Q (.dx kvs) n
 |some (some (.w (.ob (.x kvs))))=>Q (.dx kvs) n
 |some (some (.w x))=>Q x n
 |_=>False
theorem juw (i:Nat) {x:Str} {p:Pos} (hN:X.N[i]?=some x:=by rfl) (hv:Vis X.env.scope x:=by first | exact C5 rfl | exact B9 (C5 rfl) | exact B9 (B9 rfl)) (hd:(x==("__debug__":Str))=false:=by decide)
  (hcd:(x==("__classdict__":Str))=false:=by decide):DE X (.Name x p) (tVar i) (ja0 i):=⟨jcc hN hv hd hcd,λC H B σ δ n Q Q' R h k=>by
 unfold ja0 at h
 split at h
 ·rename_i kvs e;obtain⟨v,h1,a,l,rfl,g2,g3,g4,g5,g6⟩:=R.sl i _ e;exact⟨_,h1,k _ (.dx kvs) H n R (Kp.refl _ _) ⟨a,l,rfl,g2,λz=>R.t0 (z▸g4),g6⟩ h⟩
 ·rename_i kvs e;obtain⟨v,h1,⟨a,l,rfl,g2,g3,g6⟩,_⟩:=R.sl i _ e;exact⟨_,h1,k _ (.dx kvs) H n R (Kp.refl _ _) ⟨a,l,rfl,g2,λz=>g3 (z▸R.bt),g6⟩ h⟩
 ·rename_i x _ e;obtain⟨v,h1,h2⟩:=R.sl i _ e;exact⟨v,h1,k v x H n R (Kp.refl _ _) h2.1 h⟩
 ·exact h.elim⟩
def jmb (d:Ab) (k:TK):Prop:=d=k.1/\∃ds,d=.tuple ds
theorem jhg {H:Hp} {B:Addr->Prop} {u:V} {d:Ab} {k:TK} (r:RdX H B u d) (h:jmb d k):∃b,u=.ref b/\RdX H B (.ref b) k.1:=by
 obtain⟨rfl,ds,e⟩:=h;rw[e]at r;cases r with
 |tup h1 h2 h3 h4=>exact⟨_,rfl,by rw[e];exact .tup h1 h2 h3 h4⟩
def jhj:Wv->Wv->Int->DQ->Prop:=λx y n Q=>∃kvs d k v,x=.dx kvs/\y=.d d/\jmb d k/\valY kvs k=some v/\Q (.d v) n
theorem jyb (hu:X.A.units+64 < Dn) (ho:DE X o td wd') (hi:DE X i ty wy) (hK:X.K=K:=by rfl) (hs:NoSl i:=by exact λ_ _=>rfl):DE X (.Subscript o i pos) (jvm K td ty) (w2 wd' wy jhj):=by
 subst hK;exact⟨jt0 hu ho.pe hi.pe hs,λC H B σ δ n Q Q' R h k =>
 ho.sd C H B σ δ n _ _ R h λv x H1 n1 R1 k1 r1 q1=>hi.sd C H1 B σ δ n1 _ _ R1 q1 λu y H2 n2 R2 k2 r2 q2=>by
  have r1':=r1.kp k2 R1.bt;obtain⟨kvs,d,key,w,rfl,rfl,hk,hv,q⟩:=q2;obtain⟨a,l,rfl,g1,g2,g3⟩:=r1';obtain⟨b,rfl,rb⟩:=jhg (show RdX H2 B u d from r2) hk;rcases g3.val key with⟨e1,e2⟩ | ⟨v,d',e1,e2,e3⟩
  ·rw[e2]at hv;cases hv
  ·rw[e2]at hv;cases hv;exact⟨a,v,rfl,⟨l,key,b,g1,g3.keys,rfl,rb.rd,e1.symm⟩,k v (.d _) H2 n2 R2 (k1.trans k2) e3 q⟩⟩
def jdh (wd wy wx:DT):DT:=λδ n Q=>wd δ n λx n1=>∃kvs,x=.dx kvs/\wy δ n1 λy n2=>wx δ n2 λz n3=>∃d k e,y=.d d/\jmb d k/\z=.d e/\Q (.d ((valY kvs k).getD e)) n3
theorem jut {ap cp:Pos} (hu:X.A.units+64 < Dn) (ho:DE X o td wd') (he:DE X e ty wy) (hf:DE X f tx wx) (hK:X.K=K:=by rfl) (m:M2 X o "get" ap e f cp:=by exact⟨rfl,rfl,rfl,rfl⟩):DE X (.Call (.Attribute o "get" ap) [e,f] [] cp) (jrt K td ty tx) (jdh wd' wy wx):=by
 subst hK;refine⟨jqg hu ho.pe he.pe hf.pe m,λC H B σ δ n Q Q' R h k=>ho.sd C H B σ δ n _ _ R h λv x H1 n1 R1 k1 r1 q1=>?_⟩;obtain⟨kvs,rfl,q1⟩:=q1;obtain⟨a,l,rfl,g1,g2,g3⟩:=r1;refine⟨a,rfl,⟨l,g1,g3.keys⟩,he.sd C H1 B σ δ n1 _ _ R1 q1 λu y H2 n2 R2 k2 r2 q2=>hf.sd C H2 B σ δ n2 _ _ R2 q2 λw z H3 n3 R3 k3 r3 q3=>?_⟩;have r2':=r2.kp k3 R2.bt;have g1':=(k2.trans k3) _ _ g1 g2;have g3':RdY H3 B l kvs:=g3.move λb o e n=>⟨(k2.trans k3) b o e λz=>n (z▸R1.bt),n⟩;obtain⟨d,key,dz,rfl,hk,rfl,q⟩:=q3;obtain⟨b,rfl,rb⟩:=jhg (show RdX H3 B u d from r2') hk;refine⟨valX l key,⟨l,key,b,g1',g3'.keys,rfl,rb.rd,rfl⟩,?_⟩;rcases g3'.val key with⟨e1,e2⟩ | ⟨v,d',e1,e2,e3⟩
 ·rw[e1];rw[e2]at q;exact k w (.d dz) H3 n3 R3 ((k1.trans k2).trans k3) r3 q
 ·rw[e1];rw[e2]at q;exact k v (.d d') H3 n3 R3 ((k1.trans k2).trans k3) e3 q
def jp4 (i:Nat):DST:=λδ n K=>K.nx (δ.set i (some (.odx []))) n
theorem jwc {i:Nat} {x:Str} {pos':Pos} (hN:X.N.Nodup) (hi:X.N[i]?=some x) (hx:Loc X.env.scope x) (hs:Dy (.Dict [] [] p) (some (.Name x pos')) pos.line X.env=pure false:=by rfl) (hf:X.fn x=true\/X.env.scope.names.lookup x=some .local:=by first | exact .inl rfl | exact .inr rfl | assumption) :
  DS X (.Assign [.Name x pos'] (.Dict [] [] p) pos) (tAsg jru (jco i)) (jp4 i):=⟨jcb hN hi hx jqk hs hf,λC H B σ δ n K D R q E=>λa ha=>by
  refine E.nx _ _ _ _ _ (R.own (R.new ha) (Kp.new ha) ha (by rw[jaf];exact λz=>nomatch z) rfl ?_) q;exact⟨a,[],rfl,jaf,.inr rfl,R.h0 ha,A4 _,.nil⟩⟩
def jlk (i:Nat) (wy wv:DT):DST:=λδ n K=>wv δ n λv n1=>∃kvs,δ[i]?=some (some (.odx kvs))/\wy δ n1 λy n2=>∃k d e,v=.d d/\y=.d e/\jmb e k/\kvs.length < 1000/\K.nx (δ.set i (some (.odx (putY kvs k d)))) n2
theorem jv9 {i:Nat} {x:Str} {xp sp:Pos} {j e:Expr} {tj te:TE} {wj we:DT} (hu:X.A.units+64 < Dn) (hN:X.N[i]?=some x) (hj:DE X j tj wj) (he:DE X e te we) (hK:X.K=K:=by rfl) (hv:Vis X.env.scope x:=by first | exact C5 rfl | exact B9 (C5 rfl) | exact B9 (B9 rfl)) (hd:(x==("__debug__":Str))=false:=by decide)
  (hcd:(x==("__classdict__":Str))=false:=by decide) (hs:Dy e (some (.Subscript (.Name x xp) j sp)) pos.line X.env=pure false:=by rfl) :
  DS X (.Assign [.Subscript (.Name x xp) j sp] e pos) (jwe K (tVar i) tj te) (jlk i wj we):=by
 subst hK;exact⟨jtu hu (jcc hN hv hd hcd) hj.pe he.pe hs,λC H B σ δ n K D R q E =>
  he.sd C H B σ δ n _ _ R q λu y H1 n1 R1 k1 r1 q1=>by
   obtain⟨kvs,ei,q1⟩:=q1;obtain⟨v,hv,a,l,rfl,e2,e3,e4,e5,e6⟩:=R1.sl i _ ei;refine⟨_,hv,hj.sd C H1 B σ δ n1 _ _ R1 q1 λw z H2 n2 R2 k2 r2 q2=>?_⟩;obtain⟨key,d,ek,rfl,rfl,hk,hl0,q2⟩:=q2;have hat:a≠C.t:=λz=>R.t0 (z▸e4);have e2':=k2 _ _ e2 hat;have r1':RdX H2 B u d:=RdX.kp k2 R1.bt r1;have e6':RdY H2 B l kvs:=e6.move λb o e n=>⟨k2 b o e λz=>n (z▸R1.bt),n⟩;have hl:l.length < 1000:=by rw[e6'.len];exact hl0
   obtain⟨b,rfl,rb⟩:=jhg (show RdX H2 B w ek from r2) hk;refine⟨a,_,rfl,⟨l,key,b,e2',e6'.keys,rfl,rb.rd,A8 hl (jay (Ao _)),rfl⟩,?_⟩;refine E.nx _ _ _ _ _ (R2.mutOwn ei rfl hv e3 e4 ?_ rfl) q2;refine⟨a,_,rfl,jaf,e3,e4,?_,?_⟩
   ·have:=jg1 l key b u;omega
   ·exact(e6'.put rb r1').move λb o e n=>⟨by rw[jad λ(z:b=a)=>n (z▸e3)];exact e,n⟩⟩
end
section
variable {X:Cx} {o:Expr} {td:TE} {wd':DT} {pos p:Pos} {K:Af}
theorem RdY.refs {H:Hp} {B:Addr->Prop} {l:List (TK×Addr×V)} {m:List (TK×Ab)} (h:RdY H B l m):RdXs H B (l.map λq=>V.ref q.2.1) (m.map λq=>q.1.1):=by
 induction h with
 |nil=>exact .nil
 |@cons p q ps qs hq t ih=>exact .cons (show RdX H B (.ref p.2.1) q.1.1 by rw[<-hq.1];exact hq.2.1) ih
def jox (w:DT):DTF:=λδ n Q=>w δ n λx n1=>∃kvs,x=.dx kvs/\kvs.length<=1000/\Q (kvs.map (·.1.1)) n1
theorem jur (hh:X.A.handled=none) (hg:Gl X "list") (hm:X.mg "list"=none) (ho:DE X o td wd') (hK:X.K=K:=by rfl) (he:Au [o] X.env=(false,eval o X.env)::Au [] X.env:=by rfl) (hpl:(Da pos (Au [] X.env)).any (·.1)=false:=by rfl) :
  DF X (.Call (.Name "list" p) [o] [] pos) (tCB (jr1 K) (jby td tNil)) (jox wd'):=by
 subst hK;refine⟨jb0 (jl5 hh) hg hm jka (jak ho.pe jbd he) (by decide) (by decide) he hpl,λC H B σ δ n Q Q' R q k=>ho.sd C H B σ δ n _ _ R q λv x H1 n1 R1 k1 r1 q1=>?_⟩;obtain⟨kvs,rfl,hl,q1⟩:=q1;obtain⟨a,l,rfl,g1,g2,g3⟩:=r1;refine⟨a,l,rfl,g1,g3.keys,λL hL=>?_⟩;exact k L _ _ _ n1 (R1.new hL) (k1.trans (Kp.new hL)) (R1.was k1 hL) jaf (by rw[Ae,g3.len];exact jay hl) (g3.refs.fresh hL) q1
end
section
variable {X:Cx} {o:Expr} {td:TE} {wd':DT} {pos p:Pos} {K:Af}
def jow (S:DSp) (w:DT):DTF:=λδ n Q=>w δ n λx n1=>∃kvs ds lt,x=.dx kvs/\kvs.length < 64/\ds.length=kvs.length/\jk9 ds lt /\
 (∀(i:Nat) x d,(kvs.map λq=>q.1.1)[i]?=some x->ds[i]?=some d->∀m (Q0:DQ),Q0 (.d (.tuple d)) m->S [.d x] m Q0) /\
 Q ((srt lt kvs.length).map λi=>(kvs.map λq=>q.1.1).getD i .none) n1
theorem juq {S:DSp} {k:Nat} {ps:List Str} {x:Str} {kp kpos:Pos} (h:Has X.prog X.w X.K X.mg X.base k x ps S) (hr:Room (k+2) X.A) (hg:Gl X "sorted") (hm:X.mg "sorted"=none) (hgf:Gl X x) (ho:DE X o td wd')
  (hv:Bm "sorted"=some (.builtin "sorted"):=by decide +kernel) (hdb:(x==("__debug__":Str))=false:=by decide) (he:Au [o] X.env=(false,eval o X.env)::Au [] X.env:=by rfl) :
  DF X (.Call (.Name "sorted" p) [o] [⟨some "key",.Name x kp,kpos⟩] pos) (jmo X.K (spOf S) td) (jow S wd'):=by
 obtain⟨f,fd,h1,h2,h3,h4⟩:=h.ex;refine⟨jqh h1 hr h2 hg hm hgf h3 ho.pe hv hdb he,λC H B σ δ n Q Q' R q k=>ho.sd C H B σ δ n _ _ R q λv x H1 n1 R1 k1 r1 q1=>?_⟩;obtain⟨kvs,ds,lt,rfl,h64,hl,hO,hS,kq⟩:=q1;obtain⟨a,l,rfl,g1,g2,g3⟩:=r1;have hrd:=g3.refs;have hvl:=g3.len;have hml:(kvs.map λq=>q.1.1).length=kvs.length:=Ae _;refine⟨a,l,rfl,g1,g3.keys,by omega,jhf hrd (by rw[hml];exact hl) R1 hS λks H2 R2 k2 r2=>⟨ds,lt,by rw[Ae];omega,r2.rd,hO,λD hD idx hidx hsrt=>?_⟩⟩;rw[Ae,hvl]at hidx hsrt;have hin:∀i∈idx,i < (kvs.map λq=>q.1.1).length:=λi hi=>by rw[hml];exact C2.mp (hidx.mem_iff.mp hi)
 refine k D _ (idx.map λi=>(kvs.map λq=>q.1.1).getD i .none) _ n1 (R2.new hD) ((k1.trans k2).trans (Kp.new hD)) (R1.was k1 (R2.was k2 hD)) jaf ?_ ((jjy (RdXs.kp k2 R.bt hrd) idx hin).fresh hD) (by rw[hsrt];exact kq);rw[Ae,hidx.length_eq,Du];exact jay (by omega)
def jj8 (S:DSp) (w:DT):DTF:=λδ n Q=>w δ n λx n1=>∃d xs ds lt,x=.d d/\jv5 d=some xs/\xs.length < 64/\ds.length=xs.length/\jk9 ds lt /\
 (∀(i:Nat) x d,xs[i]?=some x->ds[i]?=some d->∀m (Q0:DQ),Q0 (.d (.tuple d)) m->S [.d x] m Q0) /\
 Q ((srt lt xs.length).map λi=>xs.getD i .none) n1
theorem jq3 {S:DSp} {k:Nat} {ps:List Str} {x:Str} {kp kpos:Pos} (h:Has X.prog X.w X.K X.mg X.base k x ps S) (hr:Room (k+2) X.A) (hg:Gl X "sorted") (hm:X.mg "sorted"=none) (hgf:Gl X x) (ho:DE X o td wd')
  (hv:Bm "sorted"=some (.builtin "sorted"):=by decide +kernel) (hdb:(x==("__debug__":Str))=false:=by decide) (he:Au [o] X.env=(false,eval o X.env)::Au [] X.env:=by rfl) :
  DF X (.Call (.Name "sorted" p) [o] [⟨some "key",.Name x kp,kpos⟩] pos) (jmp X.K (spOf S) td) (jj8 S wd'):=by
 obtain⟨f,fd,h1,h2,h3,h4⟩:=h.ex;refine⟨jqi h1 hr h2 hg hm hgf h3 ho.pe hv hdb he,λC H B σ δ n Q Q' R q k=>ho.sd C H B σ δ n _ _ R q λv x H1 n1 R1 k1 r1 q1=>?_⟩;obtain⟨d,xs,ds,lt,rfl,es,h64,hl,hO,hS,kq⟩:=q1;obtain⟨a,vs,rfl,hsq,hrd⟩:=jto (K:=X.K) (show RdX H1 B v d from r1) es;have hvl:=hrd.len;refine .inl ⟨a,vs,rfl,hsq,by omega,jhf hrd hl R1 hS λks H2 R2 k2 r2=>⟨ds,lt,by omega,r2.rd,hO,λD hD idx hidx hsrt=>?_⟩⟩;rw[hvl]at hidx hsrt;have hin:∀i∈idx,i < xs.length:=λi hi=>C2.mp (hidx.mem_iff.mp hi);refine k D _ (idx.map λi=>xs.getD i .none) _ n1 (R2.new hD) ((k1.trans k2).trans (Kp.new hD)) (R1.was k1 (R2.was k2 hD)) jaf ?_ ((jjy (RdXs.kp k2 R.bt hrd) idx hin).fresh hD) (by rw[hsrt];exact kq);rw[Ae,hidx.length_eq,Du];exact jay (by omega)
end
def joc (ps:List (TK×Ab)):List (TK×Ab):=ps.foldl (λacc p=>putY acc p.1 p.2) []
section
variable {X:Cx} {e:Expr} {te:TE} {we:DT} {pos p:Pos} {K:Af}
theorem jrq {H:Hp} {B:Addr->Prop}:∀{ps:List (TK×Ab)} {vs:List V},(∀p∈ps,∃ds,p.1.1=.tuple ds)->RdXs H B vs (ps.map λp=>.tuple [p.1.1,p.2]) ->
  ∃qs:List XQ,vs=qs.map (λq=>V.ref q.1)/\jjj K H qs/\qs.length=ps.length/\∀acc acc',RdY H B acc acc'->RdY H B (qs.foldl (λacc q=>putX acc q.2.1 q.2.2.1 q.2.2.2) acc) (ps.foldl (λacc p=>putY acc p.1 p.2) acc')
 |[],_,_,.nil=>⟨[],rfl,(λq hq=>nomatch hq),rfl,λ_ _ h=>h⟩
 |p::ps,_,ht,.cons h t=>by
  obtain⟨qs,rfl,h1,h2,h3⟩:=jrq (λq hq=>ht q (Ak _ hq)) t;obtain⟨ds,ed⟩:=ht p An;cases(show RdX H B _ (.tuple [p.1.1,p.2])from h)with
  |@tup a ys _ e1 e2 e3 e4 =>
   cases e4 with
   |@cons y1 r1 _ _ f1 f2 =>
    cases f2 with
    |@cons y2 r2 _ _ g1 g2 =>
     cases g2;obtain⟨b,rfl,rb⟩:=jhg f1 (show jmb p.1.1 p.1 from⟨rfl,ds,ed⟩);refine⟨(a,p.1,b,y2)::qs,rfl,λq hq=>?_,by rw[Ar,Ar,h2],λacc acc' hr=>?_⟩
     ·rcases Ax.mp hq with rfl | hq
      ·exact⟨e1,rb.rd⟩
      ·exact h1 q hq
     ·exact h3 _ _ (hr.put rb g1)
def jkf (w:DT):DT:=λδ n Q=>w δ n λx n1=>∃ps:List (TK×Ab),x=.d (.tuple (ps.map λp=>.tuple [p.1.1,p.2]))/\(∀p∈ps,∃ds,p.1.1=.tuple ds)/\ps.length<=1000/\Q (.dx (joc ps)) n1
theorem juy (hh:X.A.handled=none) (hu:X.A.units+80 < Dn) (hg:Gl X "dict") (hm:X.mg "dict"=none) (he:DE X e te we) (hv:Bm "dict"=some (.type "dict"):=by decide +kernel) (he':Au [e] X.env=(false,eval e X.env)::Au [] X.env:=by rfl) (hpl:(Da pos (Au [] X.env)).any (·.1)=false:=by rfl) :
  DE X (.Call (.Name "dict" p) [e] [] pos) (tCB (λxs H Q=>∃(src:Addr) (qs:List XQ),xs=[.ref src]/\H src=some (.tup (qs.map λp=>V.ref p.1))/\jjj X.K H qs/\qs.length<=1000/\∀l,H l=none->Q (.ref l) (L2.upd H l (.dX (jcz qs)))) (jby te tNil)) (jkf we):=by
 refine⟨jb0 (jl8 hh hu) hg hm hv (jak he.pe jbd he') (by decide) (by decide) he' hpl,λC H B σ δ n Q Q' R q k=>he.sd C H B σ δ n _ _ R q λv x H1 n1 R1 k1 r1 q1=>?_⟩;obtain⟨ps,rfl,ht,hl,q1⟩:=q1;cases(show RdX H1 B v (.tuple (ps.map λp=>.tuple [p.1.1,p.2]))from r1)with
 |@tup a ys _ g1 g2 g3 g4 =>
  obtain⟨qs,rfl,hP,hql,hr⟩:=jrq (K:=X.K) ht g4;refine⟨a,qs,rfl,g1,hP,by omega,λl hL=>?_⟩;refine k _ (.dx (joc ps)) _ n1 (R1.new hL) (k1.trans (Kp.new hL)) ⟨l,jcz qs,rfl,jaf,λz=>?_,?_⟩ q1
  ·obtain⟨_,_,q,_⟩:=R1.tp.ob;rw[<-z,hL]at q;cases q
  ·exact(hr [] [] .nil).move λb o e n=>⟨by rw[jad (jae e hL)];exact e,n⟩
end
abbrev DSpX:=List Wv->Int->(List (TK×Ab)->Int->Prop)->Prop
def jjt (S:DSpX):Sp:=λvs H Q _=>∃(t:Addr) (l:TL) (ns:List Int) (B:Addr->Prop) (ws:List Wv) (n:Int) (Q0:List (TK×Ab)->Int->Prop),Tp H t l ns n/\B t/\(∀b,B b->H b≠none)/\ARel H B t vs ws/\S ws n Q0 /\
 ∀kvs n',Q0 kvs n'->∀a l' H',Tp H' t l ns n'->Kp t H H'->H a=none->H' a=some (.dX l')->l'.length<=1000->RdY H' (λb=>B b\/b=a) l' kvs->Q (.ref a) H'
structure HasX (P:Bd) (w:Bq) (K:Af) (mg:Str->Option Ad) (base:Heap) (k:Nat) (x:Str) (ps:List Str) (S:DSpX):Prop where
 ex:∃(f:Addr) (fd:B8),FnOk P w K mg base CX0 k f fd ps (jjt S)/\Binds K fd ps []/\mg x=some (.ref f)/\Cp K (.ref f)=true
theorem HasX.mk' {P:Bd} {w:Bq} {K:Af} {mg:Str->Option Ad} {base:Heap} {k:Nat} {x qual:Str} {st:Stmt} {ps:List Str} {S:DSpX} {f:Addr} {fd:B8} (F:Fun K x qual st f fd) (m:mg x=some (.ref f)) (b:Binds K fd ps []) (h:FnOk P w K mg base CX0 k f fd ps (jjt S)):HasX P w K mg base k x ps S:=⟨f,fd,h,b,m,F.kp⟩
section
variable {X:Cx} {e:Expr} {es:List Expr} {pos p:Pos} {tR:TA} {wR:DTA}
def jtp (i:Nat):DST:=λδ n K=>match δ[i]? with
 |some (some (.odx kvs))=>K.rx kvs n
 |_=>False
theorem jv8 (i:Nat) {x:Str} {xp:Pos} (hN:X.N[i]?=some x:=by rfl) (hv:Vis X.env.scope x:=by first | exact C5 rfl | exact B9 (C5 rfl) | exact B9 (B9 rfl)) (hd:(x==("__debug__":Str))=false:=by decide)
  (hcd:(x==("__classdict__":Str))=false:=by decide):DS X (.Return (some (.Name x xp)) pos) (tRet (tVar i)) (jtp i):=⟨jgc (jcc hN hv hd hcd),λC H B σ δ n K D R q E=>by
 unfold jtp at q
 split at q
 ·rename_i kvs ei;obtain⟨v,hv,a,l,rfl,e2,e3,e4,e5,e6⟩:=R.sl i _ ei;exact⟨_,hv,E.rx H B σ δ n a l kvs R e4 e2 e5 (e6.move λb o e nb=>⟨e,λz=>z.elim nb λq=>nb (q▸e3)⟩) q⟩
 ·exact q.elim⟩
def jp3 (i:Nat) (S:DSpX) (w:DTA):DST:=λδ n K=>w δ n λxs n1=>S xs n1 λkvs n2=>K.nx (δ.set i (some (.odx kvs))) n2
theorem jwa {i:Nat} {x:Str} {pos' cp:Pos} {k:Nat} {ps:List Str} {S:DSpX} {f:Str} (h:HasX X.prog X.w X.K X.mg X.base k f ps S) (hr:Room k X.A) (hg:Gl X f) (hN:X.N.Nodup) (hi:X.N[i]?=some x) (hx:Loc X.env.scope x) (ha:DA X (e::es) tR wR)
  (hs:Dy (.Call (.Name f p) (e::es) [] cp) (some (.Name x pos')) pos.line X.env=pure false:=by rfl) (hf:X.fn x=true\/X.env.scope.names.lookup x=some .local:=by first | exact .inl rfl | exact .inr rfl | assumption)
  (hdb:(f==("__debug__":Str))=false:=by decide) (he:Au (e::es) X.env=(false,eval e X.env)::Au es X.env:=by rfl) (hpl:(Da cp (Au es X.env)).any (·.1)=false:=by rfl) :
  DS X (.Assign [.Name x pos'] (.Call (.Name f p) (e::es) [] cp) pos) (tAsg (jei (jjt S) [] E0 tR) (jco i)) (jp3 i S wR):=by
 obtain⟨g,fd,h1,h2,h3,h4⟩:=h.ex;refine⟨jcb hN hi hx (jg4 h1 hr hg h3 h4 h2 .nil jql ha.pa hdb he hpl) hs hf,λC H B σ δ n K D R q E=>ha.sd C H B σ δ n _ _ R q λvs xs H1 n1 R1 k1 r1 q1=>?_⟩;refine⟨C.t,C.l,C.ns,B,xs,n1,_,R1.tp,R1.bt,R1.ba,by rw[B7];exact r1,q1,λkvs n' q2 a l' H' T' k' h0 h1' h2' h3'=>?_⟩;refine E.nx _ _ _ _ _ (R.own (R1.step T' k') (k1.trans k') (R1.was k1 h0) (by rw[h1'];exact λz=>nomatch z) rfl ?_) q2;exact⟨a,l',rfl,h1',.inr rfl,R.h0 (R1.was k1 h0),h2',h3'⟩
end
section
variable {P:Bd} {w:Bq} {K:Af} {mg:Str->Option Ad} {base:Heap}
theorem Fun.okX {x qual:Str} {st:Stmt} {f:Addr} {fd:B8} {N ps:List Str} {k:Nat} {S:DSpX} (F:Fun K x qual st f fd) (Sc:FnScope N ps (jah st)) (len:∀ws n Q,S ws n Q->ws.length=ps.length)
  (hbody:∀(cdv:Ad) (A:Bj) (outer:List Env) (s:Ah) (H:Hp) (E:XK),Room k (A.deeper (Dq qual (jah st) s.heap.objs.size f cdv)) ->
   ∃T W,DSs (cxOf CX0 P w K mg base N qual (jah st) f cdv A outer s H E).nox (jbc st) T W/\∀ws n Q,S ws n Q->W (jap N ws) n {nx:=λ_ _=>False,rt:=λ_ _=>False,rx:=Q}):FnOk P w K mg base CX0 (k+1) f fd ps (jjt S):=by
 refine F.ok Sc (λvs H Q E h=>?_) (λcdv A outer s H vs Q E hr h=>?_)
 ·obtain⟨t,l,ns,B,ws,n,Q0,_,_,_,r,q,_⟩:=h;rw[r.len];exact len ws n Q0 q
 ·obtain⟨t,l,ns,B,ws,n,Q0,T,bt,ba,r,q,kk⟩:=h;obtain⟨T',W,d,hw⟩:=hbody cdv A outer s H E hr;refine⟨T',d.ps,d.sd ⟨t,l,ns,H,B,λ_=>none⟩ H B _ _ n _ _ (jin T bt ba r) (hw ws n Q0 q) ⟨?_,?_,?_,?_,?_,?_⟩⟩
  ·exact λ_ _ _ _ _ _ z=>z.elim
  ·exact λ_ _ _ _ _ _ _ _ _ z=>z.elim
  ·exact λ_ _ _ _ _ _ z=>z.elim
  ·exact λ_ _ _ _ _ _ z=>z.elim
  ·exact λ_ _ _ _ _ _ _ _ _ _ _ _ _ z=>z.elim
  ·exact λH' B' σ δ n' a l' kvs R' h0 h1 h2 h3 q'=>kk _ _ q' a l' H' R'.tp R'.kp h0 h1 h2 (h3.move λb o e nb=>⟨e,λz=>nb (z.elim (λz=>.inl (R'.b0 b z)) .inr)⟩)
end
end DL
namespace L2
open PySem
theorem Room.units80 {k:Nat} {A:Bj} (r:Room k A):A.units+80 < Dn:=by have:=r.un;omega
end L2
namespace DL
open PySem L2 Nb
theorem jm3 (lt:Nat->Nat->Bool) (n:Nat):(srt lt n).Perm (Bt n):=by
 unfold srt
 split
 ·exact List.Perm.refl _
 ·have hn:0 < n:=by omega
  have hpm:KS.Pm n (KS.run lt (PySem.W.kas_sort n)):=KS.Wi.out lt (KS.wi_sort hn);have:=Fz.mp hpm;simpa using this
section
variable {X:Cx} {e:Expr} {es:List Expr} {pos p:Pos} {tR:TA} {wR:DTA}
def jkg (S:DSpX) (w:DTA):DT:=λδ n Q=>w δ n λxs n1=>S xs n1 λkvs n2=>Q (.dx kvs) n2
theorem ju0 {k:Nat} {ps:List Str} {S:DSpX} {f:Str} (h:HasX X.prog X.w X.K X.mg X.base k f ps S) (hr:Room k X.A) (hg:Gl X f) (ha:DA X (e::es) tR wR)
  (hdb:(f==("__debug__":Str))=false:=by decide) (he:Au (e::es) X.env=(false,eval e X.env)::Au es X.env:=by rfl) (hpl:(Da pos (Au es X.env)).any (·.1)=false:=by rfl) :
  DE X (.Call (.Name f p) (e::es) [] pos) (jei (jjt S) [] E0 tR) (jkg S wR):=by
 obtain⟨g,fd,h1,h2,h3,h4⟩:=h.ex;refine⟨jg4 h1 hr hg h3 h4 h2 .nil jql ha.pa hdb he hpl,λC H B σ δ n Q Q' R q kk=>ha.sd C H B σ δ n _ _ R q λvs xs H1 n1 R1 k1 r1 q1=>?_⟩;refine⟨C.t,C.l,C.ns,B,xs,n1,_,R1.tp,R1.bt,R1.ba,by rw[B7];exact r1,q1,λkvs n' q2 a l' H' T' k' h0 h1' h2' h3'=>?_⟩;refine kk _ (.dx kvs) _ n' (R1.step T' k') (k1.trans k') ⟨a,l',rfl,h1',λz=>?_,h3'.move λb o e nb=>⟨e,λz=>nb (.inl z)⟩⟩ q2;obtain⟨_,_,q,_⟩:=R1.tp.ob;rw[<-z,h0]at q;cases q
end
section
variable {X:Cx} {K:Af}
structure SmlA (d:Ab):Prop where
 lay:B3 d=true
 dep:Cc d<=20
 shw:Ez d=true
 len:d.shown.length<=Az
def jr0 (K:Af):List V->Hp->VK->Prop:=λxs H Q=>∃x d,xs=[x]/\RdD K H x d/\SmlA d/\Q (.str d.shown) H
theorem jl2 (hg:X.A.guards=some []) (hu:X.A.units+64 < Dn) (hK:X.K=K:=by rfl):CallR X (.builtin "repr") (jr0 K):=by
 subst hK;intro pins s σ H xs us Q I r h;obtain⟨x,d,rfl,hd,hs,q⟩:=h;obtain⟨u,rfl,ru⟩:=jc5 r;have hsh:=hs.shw;have hln:=hs.len;cases hd with
 |non =>
  cases(show u=Bc from ru);exact P.repr_of_none ⟨.str _,H,I.tok _,⟨_,rfl⟩,q⟩
 |bl b =>
  cases(show u=Value.bool b from ru);exact P.repr_of_bool ⟨.str _,H,I.tok _,⟨_,rfl⟩,by cases b<;>exact q⟩
 |int i =>
  obtain⟨t,rfl⟩:=(show ∃t,u=Value.int i t from ru);exact P.repr_of_int (of_decide_eq_true hsh) ⟨.str _,H,I.tok _,⟨_,rfl⟩,q⟩
 |str y =>
  obtain⟨t,rfl⟩:=(show ∃t,u=Value.str y t from ru);exact P.repr_of_str ⟨.str _,H,I.tok _,⟨_,rfl⟩,q⟩ hln
 |@lst a _ _ h1 h2 =>
  cases(show u=Bb a from ru);obtain⟨as,hr⟩:=RdD.reads I (RdD.lst h1 h2) (show RelV (.ref a) (Bb a)from rfl);have hdp:=hs.dep;refine repr_of_reads' hr hsh (PyData.noDict_hsm (PyData.hasDict_of_canLay _ hs.lay)) hg (by omega) (λ_ _ e=>e) (λh' u tk hk=>?_) hln;exact⟨.str _,H,I.kept hk,⟨u,rfl⟩,q⟩
 |@tup a _ _ h1 h2 =>
  cases(show u=Bb a from ru);obtain⟨as,hr⟩:=RdD.reads I (RdD.tup h1 h2) (show RelV (.ref a) (Bb a)from rfl);have hdp:=hs.dep;refine repr_of_reads' hr hsh (PyData.noDict_hsm (PyData.hasDict_of_canLay _ hs.lay)) hg (by omega) (λ_ _ e=>e) (λh' u tk hk=>?_) hln;exact⟨.str _,H,I.kept hk,⟨u,rfl⟩,q⟩
def jcv:List Wv->Int->DQ->Prop:=λxs n Q=>match xs with
 |[.d d]=>SmlA d/\Q (.d (.str d.shown)) n
 |_=>False
theorem jm6:SndB (jr0 K) jcv:=λC H B σ δ n vs xs Q Q' R r h k=>by
 unfold jcv at h
 split at h
 ·rename_i d;cases r with
  |cons r1 r2 =>
   cases r2;have r1:RdX H B _ d:=r1;exact⟨_,d,rfl,r1.rd,h.1,k _ _ H n R (Kp.refl _ _) (wd (show RdX H B _ (.str _)from .str _ h.1.len)) h.2⟩
 ·exact h.elim
end
end DL
namespace Nb
open PySem L2 DL
abbrev Nm:=List (Str×Ab)
abbrev okX (x:Str):Prop:=x.length<=4/\D7 x=true
def isV:Ab->Bool
 |.str x=>decide (x.length<=8)&&D7 x
 |.int i=>decide (0<=i)&&(decide (i<=99)&&(decide (PyData.weight (.int i)<=20)&&(Ff 13 (.int i)&&Ez (.int i))))
 |_=>false
def isSt:Ab->Bool
 |.str _=>true
 |_=>false
def look (ps:Nm) (x:Str):Option Ab:=(ps.find? λp=>decide (p.1=x)).map (·.2)
def put (ps:Nm) (x:Str) (v:Ab):Nm:=if (ps.any λp=>decide (p.1=x))=true then ps.map (λp=>if p.1=x then(p.1,v)else p)else ps++[(x,v)]
def okV (p:Str×Ab):Prop:=okX p.1/\isV p.2=true
def jqm (p:Str×Ab):Ab:=.tuple [.str p.1,p.2]
def jr9 (ps:Nm):Ab:=.tuple (ps.map jqm)
def okR (row:List Ab):Prop:=row.length<=4/\∀d∈row,isV d=true
def jbi (ys:List Str):Ab:=.tuple (ys.map .str)
def jpp:List Ab:=[.str "a",.int 9,.int 10,.int 1,.str "ab",.str "go",.int 99,.int 0]
inductive Fe where
 |any | word | num | isv (d:Ab) | bind (k:Str) | as (k:Str) | nx (k:Str)
def Fe.hd:Fe->Str
 |.any=>"any"
 |.word=>"word"
 |.num=>"number"
 |.isv _=>"is"
 |.bind _=>"bind"
 |.as _=>"as"
 |.nx _=>"next"
def Fe.tl:Fe->List Ab
 |.any=>[]
 |.word=>[]
 |.num=>[]
 |.isv d=>[d]
 |.bind k=>[.str k]
 |.as k=>[.str k]
 |.nx k=>[.str k]
def Fe.d (f:Fe):Ab:=.tuple (.str f.hd::f.tl)
abbrev okK (k:Str):Prop:=okX k
def Fe.ok:Fe->Prop
 |.isv d=>isV d=true
 |.bind k=>okK k
 |.as k=>okK k
 |.nx k=>okK k
 |_=>True
def Fe.bd:Fe->Option Str
 |.bind k=>some k
 |_=>none
def Fe.us:Fe->Option Str
 |.as k=>some k
 |.nx k=>some k
 |_=>none
def bndE (fs:List Fe):List Str:=fs.filterMap Fe.bd
def Fe.pt:Fe->Bool
 |.nx _=>false
 |_=>true
def Fe.tm:Fe->Bool
 |.isv _=>true
 |.as _=>true
 |.nx _=>true
 |_=>false
def Fe.te:Fe->Bool
 |.isv _=>true
 |.as _=>true
 |_=>false
def okFs (fs:List Fe):Prop:=fs.length<=4/\∀f∈fs,f.ok
def rF:List Str->List Fe->Prop
 |_,[]=>True
 |ks,f::r=>(∀k,f.us=some k->k∈ks)/\rF (ks++f.bd.toList) r
inductive Ac where
 |lay (fs:List Fe) (age:Ab) | take (fs:List Fe) | read (fs:List Fe) | look (fs:List Fe) (b:Nat) | same (f g:Fe) (b:Nat) | go (b:Nat)
def fsD (fs:List Fe):Ab:=.tuple (fs.map Fe.d)
def Ac.d:Ac->Ab
 |.lay fs age=>.tuple [.str "lay",fsD fs,age]
 |.take fs=>.tuple [.str "take",fsD fs]
 |.read fs=>.tuple [.str "read",fsD fs]
 |.look fs b=>.tuple [.str "look",fsD fs,.int b]
 |.same f g b=>.tuple [.str "same",f.d,g.d,.int b]
 |.go b=>.tuple [.str "go",.int b]
def Ac.bs:Ac->List Str
 |.take fs=>bndE fs
 |.read fs=>bndE fs
 |.look fs _=>bndE fs
 |_=>[]
def Ac.fs:Ac->List Fe
 |.lay fs _=>fs
 |.take fs=>fs
 |.read fs=>fs
 |.look fs _=>fs
 |.same f g _=>[f,g]
 |.go _=>[]
def Ac.to:Ac->Option Nat
 |.look _ b=>some b
 |.same _ _ b=>some b
 |.go b=>some b
 |_=>none
def Ac.right (wants:List (List Str)) (ks:List Str) (a:Ac):Prop:=rF ks a.fs/\∀b,a.to=some b->∃w,wants[b]?=some w/\∀k∈w,k∈ks
def jue (d:Ab):Prop:=d=.none\/∃i:Int,d=.int i/\1<=i/\i<=20
def patO (fs:List Fe):Prop:=1<=fs.length/\∀f∈fs,f.pt=true
def Ac.pat:Ac->Prop
 |.take fs=>patO fs
 |.read fs=>patO fs
 |.look fs _=>patO fs
 |.lay fs age=>(∀f∈fs,f.tm=true)/\jue age
 |.same f g _=>f.te=true/\g.te=true
 |.go _=>True
def okA (a:Ac):Prop:=okFs a.fs/\a.pat
abbrev Bl:=List Str×List Ac
def blD (b:Bl):Ab:=.tuple [jbi b.1,.tuple (b.2.map Ac.d)]
def prD (bs:List Bl):Ab:=.tuple (bs.map blD)
def kn (w:List Str) (as:List Ac) (p:Nat):List Str:=w++(as.take p).flatMap Ac.bs
def okB (b:Bl):Prop:=b.1.length<=4/\(∀k∈b.1,okK k)/\b.2.length<=8/\(∀a∈b.2,okA a)/\b.1.Nodup/\upT b.1
def riB (wants:List (List Str)) (b:Bl):Prop:=∀(p:Nat) (a:Ac),b.2[p]?=some a->a.right wants (kn b.1 b.2 p)
def jb5:DSp:=λws n Q=>ws=[.tp]/\n < 2 ^ 39/\∀v∈jpp,Q (.d v) (n+1)
def jfd:DSp:=λws n Q=>ws=[.tp]/\n < 2 ^ 39/\∀m:Nat,1<=m->m<=4->Q (.d (.int m)) (n+1)
def jk6:DSp:=λws n Q=>∃ks:List Str,ws=[.tp,.ln (ks.map .str)]/\ks.length<=1000/\(∀k∈ks,okK k)/\n+9 < 2 ^ 39/\∀(fs:List Fe) (n':Int),okFs fs->(∀f∈fs,f.tm=true)->rF ks fs->n'<=n+9->Q (.d (fsD fs)) n'
def jff:DSp:=λws n Q=>∃ks:List Str,ws=[.tp,.ln (ks.map .str)]/\ks.length<=1000/\(∀k∈ks,okK k)/\n+2 < 2 ^ 39/\∀(f:Fe) (n':Int),f.ok->f.te=true->(∀k,f.us=some k->k∈ks)->n'<=n+2->Q (.d f.d) n'
def jgr:DSp:=λws n Q=>∃(ks:List Str) (os:List Nat) (wants:List (List Str)),ws=[.tp,.ln (ks.map .str),.d (.list (os.map λb=>.int (b:Nat)))]/\ks.length<=1000/\(∀k∈ks,okK k)/\0 < os.length/\os.length<=1000 /\
 (∀b∈os,∃w,wants[b]?=some w/\∀k∈w,k∈ks)/\n+11 < 2 ^ 39/\∀(a:Ac) (n':Int),okA a->a.right wants ks->n'<=n+11->Q (.d (.tuple [a.d,.list (a.bs.map .str)])) n'
def okG (bs:List Bl):Prop:=1<=bs.length/\bs.length<=6/\∀b∈bs,okB b/\riB (bs.map (·.1)) b
def jk7:DSp:=λws n Q=>∃(ks:List Str) (v:Wv),ws=[.tp,v]/\lsOf v=some (ks.map .str)/\ks.length<=1000/\(∀k∈ks,okK k)/\n+9 < 2 ^ 39/\∀(fs:List Fe) (n':Int),1<=fs.length->okFs fs->(∀f∈fs,f.pt=true)->rF ks fs->n'<=n+9->Q (.d (.tuple [fsD fs,.list ((bndE fs).map .str)])) n'
def jk5:DSp:=λws n Q=>ws=[.tp]/\n+600 < 2 ^ 39/\∀(bs:List Bl) (n':Int),okG bs->n'<=n+600->Q (.d (prD bs)) n'
abbrev Hn:=Nat×Nat×Nm
def hnD (h:Hn):Ab:=.tuple [.int h.1,.int h.2.1,jr9 h.2.2]
abbrev Nt:=List Ab×Ab
def ntD (q:Nt):Ab:=.tuple [.tuple q.1,q.2]
def nsD (ns:List Nt):Ab:=.tuple (ns.map ntD)
def stD (hs:List Hn) (ns:List Nt):Ab:=.tuple [.tuple (hs.map hnD),nsD ns]
abbrev Pg:=List (List Bl)
def pgD (ps:Pg):Ab:=.tuple (ps.map prD)
def okPg (ps:Pg):Prop:=ps.length<=5/\∀P∈ps,okG P
def okQ (q:Nt):Prop:=(okR q.1/\1<=q.1.length)/\jue q.2
def okNs (m:Nat) (ns:List Nt):Prop:=ns.length<=m/\∀q∈ns,okQ q
structure okHn (b:Bl) (h:Hn):Prop where
 pl:h.2.1<=b.2.length
 nd:(h.2.2.map (·.1)).Nodup
 ok:∀p∈h.2.2,okV p
 up:jwl h.2.2
 mem:∀k,k∈h.2.2.map (·.1)↔k∈kn b.1 b.2 h.2.1
 ln:h.2.2.length<=40
def okHs (ps:Pg) (hs:List Hn):Prop:=hs.length=ps.length/\∀(i:Nat) (P:List Bl),ps[i]?=some P->∃(h:Hn) (b:Bl),hs[i]?=some h/\P[h.1]?=some b/\okHn b h
def jhz:DSp:=λws n Q=>∃m:Nat,ws=[.tp,.d (.int m)]/\m<=12/\n+100 < 2 ^ 39/\∀(ns:List Nt) (n':Int),okNs m ns->n'<=n+100->Q (.d (nsD ns)) n'
def jhy:DSp:=λws n Q=>ws=[.tp]/\n+4000 < 2 ^ 39/\∀(ps:Pg) (n':Int),okPg ps->n'<=n+4000->Q (.d (pgD ps)) n'
def jeb:DSp:=λws n Q=>∃(P:List Bl) (i p:Nat) (b:Bl),ws=[.d (prD P),.d (.int i),.d (.int p)]/\P[i]?=some b/\okB b/\p<=b.2.length/\∀ys:List Str,ys.Nodup->(∀k∈ys,okK k)->upT ys->(∀k,k∈ys↔k∈kn b.1 b.2 p)->Q (.d (.list (ys.map .str))) n
def jfc:DSp:=λws n Q=>∃(ps:Pg) (m:Nat),ws=[.tp,.d (pgD ps),.d (.int m)]/\m<=12/\okPg ps/\n+400 < 2 ^ 39/\∀(hs:List Hn) (ns:List Nt) (n':Int),okHs ps hs->okNs m ns->n'<=n+400->Q (.d (stD hs ns)) n'
abbrev Ct:=List Ab×Ab
def ctD (c:Ct):Ab:=.tuple [.tuple c.1,c.2]
def csD (cs:List Ct):Ab:=.tuple (cs.map ctD)
def okW (r:List Ab):Prop:=okR r/\1<=r.length
theorem jvj {d:Ab} (h:isV d=true) (n:Nat):tkB n d=true:=by
 cases d with
 |str x =>
  have h:(decide (x.length<=8)&&D7 x)=true:=h;rw[Bs]at h;cases n<;>(rw[tkB];exact h.2)
 |int i=>cases n<;>rw[tkB]
 |_=>cases h
theorem jml (n:Nat):∀{r:List Ab},(∀d∈r,isV d=true)->tkA n r=true
 |[],_=>by rw[tkA]
 |d::r,h=>by rw[tkA,jvj (h d An),jml n λe he=>h e (Ak _ he)];rfl
theorem jvk {r:List Ab} (h:okR r):tkB 6 (.tuple r)=true:=by rw[tkB];exact jml 5 h.2
def mkT (d:Ab) (h:tkB 6 d=true):TK:=⟨d,h⟩
def rk (r:List Ab):TK:=if h:tkB 6 (.tuple r)=true then mkT (.tuple r) h else mkT .none (by rw[tkB])
theorem jll {r:List Ab} (h:okR r):(rk r).1=.tuple r:=by
 unfold rk;rw[dif_pos (jvk h)];rfl
theorem jrz {a b:List Ab} (ha:okR a) (hb:okR b) (h:rk a=rk b):a=b:=by
 have:=congrArg Subtype.val h;rw[jll ha,jll hb]at this;exact PyData.tuple.inj this
theorem ju9 {r:List Ab} (h:okR r):jmb (.tuple r) (rk r):=⟨(jll h).symm,r,rfl⟩
def mY (m:List Ct):List (TK×Ab):=m.map λc=>(rk c.1,c.2)
section
open Classical
def lkC (m:List Ct) (r:List Ab):Option Ab:=(m.find? λc=>decide (c.1=r)).map (·.2)
def putC (m:List Ct) (r:List Ab) (v:Ab):List Ct:=if (lkC m r).isSome=true then m.map (λc=>if c.1=r then(c.1,v)else c)else m++[(r,v)]
theorem jkh {r:List Ab} (hr:okR r):∀{m:List Ct},(∀c∈m,okR c.1)->valY (mY m) (rk r)=lkC m r
 |[],_=>rfl
 |c::m,h=>by
  have ih:=jkh hr λe he=>h e (Ak _ he);unfold valY lkC mY at ih ⊢;rw[Cj,Cg,Cg];by_cases e:c.1=r
  ·rw[decide_eq_true e,e];simp
  ·have e':¬rk c.1=rk r:=λz=>e (jrz (h c An) hr z);simp only[e,e',decide_false];exact ih
theorem jr4 {r:List Ab} {m:List Ct} {v:Ab} (hr:okR r) (h:∀c∈m,okR c.1):putY (mY m) (rk r) v=mY (putC m r v):=by
 unfold putY putC;rw[jkh hr h];by_cases z:(lkC m r).isSome=true
 ·rw[if_pos z,if_pos z];unfold mY;rw[Dt,Dt];refine Ew λc hc=>?_;show(if rk c.1=rk r then(rk c.1,v)else(rk c.1,c.2))=(rk (if c.1=r then(c.1,v)else c).1,(if c.1=r then(c.1,v)else c).2);by_cases e:c.1=r
  ·rw[if_pos e,if_pos (by rw[e])]
  ·rw[if_neg e,if_neg λz=>e (jrz (h c hc) hr z)]
 ·rw[if_neg z,if_neg z];unfold mY;rw[Bu];rfl
theorem jem {m:List Ct} {r:List Ab} {v:Ab} (h:lkC m r=some v):(r,v)∈m:=by
 unfold lkC at h;obtain⟨c,hc,rfl⟩:=C0.mp h;have e:=List.find?_some hc;have m:=List.mem_of_find?_eq_some hc;rw[<-of_decide_eq_true e];exact m
theorem jod {m:List Ct} {r:List Ab} (h:r∈m.map (·.1)):∃v,lkC m r=some v:=by
 obtain⟨c,hc,rfl⟩:=Bp.mp h;unfold lkC;have:(m.find? λd=>decide (d.1=c.1)).isSome=true:=by
  rw[List.find?_isSome];exact⟨c,hc,decide_eq_true rfl⟩
 obtain⟨d,hd⟩:=F3.mp this;exact⟨d.2,by rw[hd];rfl⟩
theorem juh {m:List Ct} {r:List Ab} (h:¬(lkC m r).isSome=true):r∉m.map (·.1):=λz=>by
 obtain⟨v,hv⟩:=jod z;rw[hv]at h;exact h rfl
theorem jek {m:List Ct} {r:List Ab} {v:Ab} {c:Ct} (h:c∈putC m r v):c∈m\/c=(r,v):=by
 unfold putC at h
 split at h
 ·obtain⟨d,hd,rfl⟩:=Bp.mp h;by_cases e:d.1=r
  ·rw[if_pos e,e];exact .inr rfl
  ·rw[if_neg e];exact .inl hd
 ·rcases A9.mp h with z | z
  ·exact .inl z
  ·exact .inr (Bg.mp z)
theorem jnz (m:List Ct) (r:List Ab) (v:Ab):(putC m r v).length<=m.length+1:=by
 unfold putC
 split
 ·rw[Ae];omega
 ·rw[As,Be];omega
theorem jt5 (m:List Ct) (r:List Ab) (v:Ab):(putC m r v).map (·.1)=if (lkC m r).isSome=true then m.map (·.1)else m.map (·.1)++[r]:=by
 unfold putC
 split
 ·rw[Dt];refine Ew λc _=>?_;show(if c.1=r then(c.1,v)else c).1=c.1
  split<;>rfl
 ·rw[Bu];rfl
theorem jw1 {m:List Ct} {r:List Ab} {v:Ab} (h:(m.map (·.1)).Nodup):((putC m r v).map (·.1)).Nodup:=by
 rw[jt5]
 split
 ·exact h
 ·rename_i z;rw[List.nodup_append];exact⟨h,Dr.mpr ⟨A6,E9⟩,λa ha b hb e=>juh z (by rw[<-Bg.mp hb,<-e];exact ha)⟩
theorem jxj {m:List Ct} {r r':List Ab} {v:Ab} (ne:r'≠r):lkC (putC m r v) r'=lkC m r':=by
 unfold putC
 split
 ·rename_i z;clear z
  induction m with
  |nil=>rfl
  |cons c m ih =>
   unfold lkC at ih ⊢;rw[Cj,Cg,Cg];by_cases e:c.1=r
   ·have e':¬c.1=r':=λz=>ne (z.symm.trans e);rw[if_pos e];simp only[e',decide_false];exact ih
   ·rw[if_neg e];by_cases e':c.1=r'
    ·simp[e']
    ·simp only[e',decide_false];exact ih
 ·unfold lkC;rw[List.find?_append];have:[(r,v)].find? (λc:Ct=>decide (c.1=r'))=none:=by simp[Cg,Ne.symm ne]
  rw[this,Option.or_none]
end
def okCt (v:Ab):Prop:=v=.none\/∃k:Nat,v=.int k/\k<=99
structure okM (b:Nat) (m:List Ct):Prop where
 ln:m.length<=b
 rw:∀c∈m,okW c.1
 ct:∀c∈m,okCt c.2
theorem okM.r {b:Nat} {m:List Ct} (h:okM b m):∀c∈m,okR c.1:=λc hc=>(h.rw c hc).1
theorem okM.put {b:Nat} {m:List Ct} {r:List Ab} {v:Ab} (h:okM b m) (hr:okW r) (hv:okCt v):okM (b+1) (putC m r v) :=
 ⟨A5 (jnz m r v) (Nat.succ_le_succ h.ln),λc hc=>(jek hc).elim (h.rw c) λe=>e▸hr,λc hc=>(jek hc).elim (h.ct c) λe=>e▸hv⟩
theorem okM.lk {b:Nat} {m:List Ct} {r:List Ab} (h:okM b m) (d:Ab) (hd:okCt d):okCt ((lkC m r).getD d):=by
 cases e:lkC m r with
 |none=>exact hd
 |some v=>exact h.ct _ (jem e)
def incD:Ab->Ab
 |.int i=>.int (i+1)
 |d=>d
def cntS (acc:List Ct) (q:Nt):List Ct:=putC acc q.1 (incD ((lkC acc q.1).getD (.int 0)))
def cntC (ns:List Nt):List Ct:=ns.foldl cntS []
structure Cnt (k:Nat) (m:List Ct):Prop where
 ln:m.length<=k
 rw:∀c∈m,okW c.1
 nd:(m.map (·.1)).Nodup
 ct:∀c∈m,∃j:Nat,c.2=.int j/\1<=j/\j<=k
theorem Cnt.m {k:Nat} {m:List Ct} (h:Cnt k m) (hk:k<=99):okM k m:=⟨h.ln,h.rw,λc hc=>by obtain⟨j,e,_,h2⟩:=h.ct c hc;exact .inr ⟨j,e,by omega⟩⟩
theorem Cnt.at {k:Nat} {m:List Ct} (h:Cnt k m) (r:List Ab):∃j:Nat,(lkC m r).getD (.int 0)=.int j/\j<=k:=by
 cases e:lkC m r with
 |none=>exact⟨0,rfl,A4 _⟩
 |some v=>obtain⟨j,e',_,h2⟩:=h.ct _ (jem e);exact⟨j,e',h2⟩
theorem Cnt.put {k j:Nat} {m:List Ct} {r:List Ab} (h:Cnt k m) (hr:okW r) (h1:1<=j) (hj:j<=k+1):Cnt (k+1) (putC m r (.int j)) :=
 ⟨A5 (jnz m r _) (Nat.succ_le_succ h.ln),λc hc=>(jek hc).elim (h.rw c) λe=>e▸hr,jw1 h.nd,λc hc=>(jek hc).elim (λz=>by obtain⟨i,a,b,d⟩:=h.ct c z;exact⟨i,a,b,by omega⟩) λe=>⟨j,by rw[e],h1,hj⟩⟩
theorem Cnt.step {k:Nat} {m:List Ct} {q:Nt} (h:Cnt k m) (hq:okQ q):Cnt (k+1) (cntS m q):=by
 obtain⟨j,e,hj⟩:=h.at q.1;have:cntS m q=putC m q.1 (.int ((j+1:Nat):Int)):=by unfold cntS;rw[e];rfl
 rw[this];exact h.put hq.1 (by omega) (by omega)
theorem jpa:∀(ns:List Nt) (k:Nat) (m:List Ct),Cnt k m->(∀q∈ns,okQ q)->Cnt (k+ns.length) (ns.foldl cntS m)
 |[],_,_,h,_=>h
 |q::ns,k,m,h,o=>by
  have:=jpa ns (k+1) _ (h.step (o q An)) λx hx=>o x (Ak _ hx);rw[Ar,show k+(ns.length+1)=k+1+ns.length by omega];exact this
theorem jo9 {b:Nat} {ns:List Nt} (h:okNs b ns):Cnt ns.length (cntC ns):=by
 have:=jpa ns 0 [] ⟨Ao _,λc hc=>(nomatch hc),E9,λc hc=>(nomatch hc)⟩ h.2;rw[Nat.zero_add]at this;exact this
def kyD (v:Ab):Ab:=.tuple [.int (if isSt v then 1 else 0),v]
def kyR (r:List Ab):List Ab:=r.map kyD
def ltR (a b:List Ab):Bool:=(ja4 (kyR a) (kyR b)).getD false
theorem jxh {v w:Ab} (hv:isV v=true) (hw:isV w=true):∃b,ltd (kyD v) (kyD w)=some b:=by
 unfold kyD;cases v with
 |int i =>
  cases w with
  |int j =>
   by_cases h:i=j
   ·exact⟨false,by simp[ltd,ja4,Bk,isSt,h]⟩
   ·exact⟨decide (i < j),by simp[ltd,ja4,Bk,isSt,h]⟩
  |str y=>exact⟨true,by simp[ltd,ja4,Bk,isSt]⟩
  |_=>cases hw
 |str x =>
  cases w with
  |int j=>exact⟨false,by simp[ltd,ja4,Bk,isSt]⟩
  |str y =>
   by_cases h:(x==y)=true
   ·exact⟨false,by simp[ltd,ja4,Bk,isSt,h]⟩
   ·exact⟨_,by simp[ltd,ja4,Bk,isSt,h];rfl⟩
  |_=>cases hw
 |_=>cases hv
theorem joe:∀{a b:List Ab},(∀d∈a,isV d=true)->(∀d∈b,isV d=true)->∃k,ja4 (kyR a) (kyR b)=some k
 |[],[],_,_=>⟨false,by simp[kyR,ja4]⟩
 |[],_::_,_,_=>⟨true,by simp[kyR,ja4]⟩
 |_::_,[],_,_=>⟨false,by simp[kyR,ja4]⟩
 |v::a,w::b,ha,hb=>by
  obtain⟨k,hk⟩:=joe (a:=a) (b:=b) (λd hd=>ha d (Ak _ hd)) λd hd=>hb d (Ak _ hd);obtain⟨k',hk'⟩:=jxh (ha v An) (hb w An);unfold kyR at hk ⊢;rw[Cj,Cj,ja4];by_cases e:Bk (kyD v) (kyD w)=true
  ·exact⟨k,by simp[e,hk]⟩
  ·exact⟨k',by simp[e,hk']⟩
theorem jxi {a b:List Ab} (ha:okR a) (hb:okR b):ja4 (kyR a) (kyR b)=some (ltR a b):=by
 obtain⟨k,hk⟩:=joe ha.2 hb.2;unfold ltR;rw[hk];rfl
def rwsO (m:List Ct):List (List Ab):=m.map (·.1)
def ltC (m:List Ct) (i j:Nat):Bool:=ltR ((rwsO m).getD i []) ((rwsO m).getD j [])
def ordR (m:List Ct):List (List Ab):=(srt (ltC m) m.length).map λi=>(rwsO m).getD i []
theorem jt7 {m:List Ct} {r:List Ab} (h:r∈ordR m):r∈m.map (·.1):=by
 obtain⟨i,hi,rfl⟩:=Bp.mp h;have:=C2.mp ((jm3 _ _).mem_iff.mp hi);have hl:i < (rwsO m).length:=by unfold rwsO;rw[Ae];exact this
 rw[Cq,Al hl];exact D3 hl
theorem jn0 (m:List Ct):(ordR m).length=m.length:=by unfold ordR;rw[Ae,(jm3 _ _).length_eq,Du]
def lkN (m:List Ct) (r:List Ab):Ab:=(lkC m r).getD .none
def ordC (m:List Ct):List Ct:=(ordR m).map λr=>(r,lkN m r)
def isZ:Ab->Bool
 |.int i=>decide (i=0)
 |_=>false
def tolC (m:List Ct):List Ct:=((ordR m).filter λr=>!isZ (lkN m r)).map λr=>(r,lkN m r)
theorem jzo {r:List Ab} (h:okW r):(∃y t,kyR r=.tuple y::t)/\Bz (kyR r)=true/\B5 (kyR r)<=20:=by
 refine⟨?_,?_⟩
 ·cases r with
  |nil=>exact absurd h.2 (by decide)
  |cons d r=>exact⟨_,_,rfl⟩
 ·have:∀r:List Ab,(∀d∈r,isV d=true)->Bz (kyR r)=true/\B5 (kyR r)<=2:=λr=>by
   induction r with
   |nil=>exact λ_=>⟨rfl,A4 _⟩
   |cons d r ih =>
    intro h;obtain⟨a,b⟩:=ih λe he=>h e (Ak _ he);have hd:=h d An;have c1:B3 d=true/\Cc d=0:=by
     cases d with
     |str x =>
      have h:(decide (x.length<=8)&&D7 x)=true:=hd;rw[Bs]at h;exact⟨by rw[B3];exact h.2,by rw[Cc]⟩
     |int i=>exact⟨by rw[B3],by rw[Cc]⟩
     |_=>cases hd
    have c2:B3 (kyD d)=true/\Cc (kyD d)<=1:=by
     unfold kyD;rw[B3,Cc,Bz,Bz,Bz,B5,B5,B5,c1.1,c1.2,B3,Cc];exact⟨rfl,by omega⟩
    unfold kyR at a b ⊢;rw[Cj,Bz,B5,a,c2.1];exact⟨rfl,by omega⟩
  obtain⟨a,b⟩:=this r h.1.2;exact⟨a,by omega⟩
theorem jsf {b:Nat} {m:List Ct} (h:okM b m):jk9 (m.map λc=>kyR c.1) (ltC m):=by
 refine⟨λd hd=>?_,λi j x y hx hy=>?_⟩
 ·obtain⟨c,hc,rfl⟩:=Bp.mp hd;exact jzo (h.rw c hc)
 ·rw[A0]at hx hy;obtain⟨c,hc,rfl⟩:=C0.mp hx;obtain⟨d,hd,rfl⟩:=C0.mp hy;have e1:(rwsO m).getD i []=c.1:=by unfold rwsO;rw[Cq,A0,hc];rfl
  have e2:(rwsO m).getD j []=d.1:=by unfold rwsO;rw[Cq,A0,hd];rfl
  unfold ltC;rw[e1,e2];exact jxi (h.rw c (By hc)).1 (h.rw d (By hd)).1
def nomB (many most:Ab):Bool:=match most with
 |.none=>true
 |.int m=>match many with
  |.int k=>decide (k<=m)
  |_=>false
 |_=>false
def mrgC (cs:List Ct):List Ct:=cs.foldl (λacc c=>putC acc c.1 c.2) []
def hnmB (cs m:List Ct):Bool:=cs.all λc=>nomB c.2 ((lkC m c.1).getD (.int 0))
def undB (h:Ab) (cs:List Ct) (h':Ab) (cs':List Ct):Bool:=Bk h h'&&hnmB cs (mrgC cs')
def eqO (h:Ab):Prop:=h.canLay0=true/\h.depth<=20
def jjg:DSp:=λws n Q=>∃v,ws=[.d v]/\isV v=true/\Q (.d (kyD v)) n
def jdt:DSp:=λws n Q=>∃r,ws=[.d (.tuple r)]/\okR r/\Q (.d (.tuple (kyR r))) n
def jh0:DSp:=λws n Q=>∃m,ws=[.d (.list (m.map λc=>.tuple c.1))]/\okM 40 m/\Q (.d (.list ((ordR m).map .tuple))) n
def jro:DSp:=λws n Q=>∃m,ws=[.dx (mY m)]/\okM 40 m/\Q (.d (csD (ordC m))) n
def jpl:DSp:=λws n Q=>∃h ns,ws=[.d (.tuple [h,nsD ns])]/\okNs 30 ns/\Q (.d (.tuple [h,csD (ordC (cntC ns))])) n
def jpk:DSp:=λws n Q=>∃a b,ws=[.d a,.d b]/\okCt a/\okCt b/\Q (.d (.bool (nomB a b))) n
def jrn:DSp:=λws n Q=>∃cs m,ws=[.d (csD cs),.dx (mY m)]/\okM 60 cs/\okM 60 m/\Q (.d (.bool (hnmB cs m))) n
def jf3:DSp:=λws n Q=>∃h cs h' cs',ws=[.d (.tuple [h,csD cs]),.d (.tuple [h',csD cs'])]/\eqO h/\eqO h'/\okM 60 cs/\okM 60 cs'/\Q (.d (.bool (undB h cs h' cs'))) n
def jrp:DSp:=λws n Q=>∃h ns h' cs',ws=[.d (.tuple [h,nsD ns]),.d (.tuple [h',csD cs'])]/\eqO h/\eqO h'/\okNs 30 ns/\okM 60 cs'/\Q (.d (.bool (undB h (ordC (cntC ns)) h' cs'))) n
def jji:DSpX:=λws n Q=>∃ns,ws=[.d (nsD ns)]/\okNs 30 ns/\Q (mY (cntC ns)) n
def jfe:DSp:=λws n Q=>∃m,ws=[.dx (mY m)]/\okM 60 m/\Q (.d (csD (tolC m))) n
def jjh:DSp:=λws n Q=>∃h ns ms,ws=[.tp,.d h,.d (nsD ns),.d (nsD ms)]/\okNs 12 ns/\okNs 12 ms/\n+60 < 2 ^ 39/\∀(cs:List Ct) (n':Int),okM 60 cs->n'<=n+60->Q (.d (.tuple [h,csD cs])) n'
abbrev je6:DST:=(sSeq (sIf (cT (wIsi "int" (wVar 0))) (sRet (wTup (jaa (wC (.int (0))) (jaa (wVar 0) aNil)))) ja8) (sRet (wTup (jaa (wC (.int (1))) (jaa (wVar 0) aNil)))))
abbrev jjf:DST:=(sRet (wB jbh (jaa (wOf (ja9 [none] (jbb (wVar 0)) (jac 0) cYes (jag jjg (jaa (wVar 0) aNil)))) aNil)))
abbrev jgn:DST:=(sRet (wOf (jj8 jdt (wVar 0))))
abbrev je7:DST:=(sRet (wB jbh (jaa (wOf (ja9 [none,some 0] (jbt (jag jh0 (jaa (wOf (jox (ja0 0))) aNil))) (jac 0) cYes (wTup (jaa (wVar 0) (jaa (w2 (ja0 1) (wVar 0) jhj) aNil))))) aNil)))
abbrev jgo:DST:=(sSeq (jp4 1) (sSeq (sFor (jbb (w2 (wVar 0) (wC (.int (1))) gIx)) (jac 2) (jlk 1 (w2 (wVar 2) (wC (.int (0))) gIx) (w2 (jdh (ja0 1) (w2 (wVar 2) (wC (.int (0))) gIx) (wC (.int (0)))) (wC (.int (1))) (gI0 λi j=>.int (i+j))))) (sRet (wTup (jaa (w2 (wVar 0) (wC (.int (0))) gIx) (jaa (jag jro (jaa (ja0 1) aNil)) aNil))))))
abbrev jdm:DST:=(sSeq (sIf (cT (w2 (wVar 1) (wC .none) (gIsN false))) (sRet (wC (.bool true))) ja8) (sRet (wAnd (w2 (wVar 0) (wC .none) (gIsN true)) (w2 (wVar 0) (wVar 1) gLe))))
abbrev jc2:DST:=(sSeq (sFor (jbb (wVar 0)) (jd5 2 (jav (jac 2) (jav (jac 3) jb1))) (sIf (cNot (cT (jag jpk (jaa (wVar 3) (jaa (jdh (ja0 1) (wVar 2) (wC (.int (0)))) aNil))))) (sRet (wC (.bool false))) ja8)) (sRet (wC (.bool true))))
abbrev jpi:DST:=(sRet (wAnd (w2 (w2 (wVar 0) (wC (.int (0))) gIx) (w2 (wVar 1) (wC (.int (0))) gIx) (gXX λd e=>some (Bk d e))) (jag jrn (jaa (w2 (wVar 0) (wC (.int (1))) gIx) (jaa (jkf (w2 (wVar 1) (wC (.int (1))) gIx)) aNil)))))
abbrev jpj:DST:=(sRet (jag jf3 (jaa (jag jpl (jaa (wVar 0) aNil)) (jaa (wVar 1) aNil))))
abbrev jdn:DST:=(sRet (w2 (wOf (fLst (jaa (wC (.str "a")) (jaa (wC (.int (9))) (jaa (wC (.int (10))) (jaa (wC (.int (1))) (jaa (wC (.str "ab")) (jaa (wC (.str "go")) (jaa (wC (.int (99))) (jaa (wC (.int (0))) aNil)))))))))) (jag jal (jaa (wVar 0) (jaa (wC (.int (8))) aNil))) gIx))
abbrev jfa:DST:=(sRet (w2 (wOf (fLst (jaa (wC (.int (1))) (jaa (wC (.int (2))) (jaa (wC (.int (2))) (jaa (wC (.int (2))) (jaa (wC (.int (1))) (jaa (wC (.int (3))) (jaa (wC (.int (4))) aNil))))))))) (jag jal (jaa (wVar 0) (jaa (wC (.int (7))) aNil))) gIx))
abbrev jcg:DST:=(sSeq (sOwn 2 (fLst aNil)) (sSeq (sOwn 3 (fLst aNil)) (sSeq (sFor (jat (jag jfd (jaa (wVar 0) aNil))) (jac 4) (sSeq (sSet 5 (jag jal (jaa (wVar 0) (jaa (wC (.int (9))) aNil)))) (sSeq (sSet 6 (w2 (wVar 1) (jc4 3) gCat)) (sIf (cT (w2 (wVar 5) (wC (.int (3))) gLt)) (sApp 2 (wTup (jaa (wC (.str "is")) (jaa (jag jb5 (jaa (wVar 0) aNil)) aNil)))) (sIf (cT (w2 (wVar 5) (wC (.int (6))) gLt)) (sApp 2 (w2 (wOf (fLst (jaa (wTup (jaa (wC (.str "any")) aNil)) (jaa (wTup (jaa (wC (.str "word")) aNil)) (jaa (wTup (jaa (wC (.str "number")) aNil)) aNil))))) (w2 (wVar 5) (wC (.int (3))) (gI0 λi j=>.int (i - j))) gIxL)) (sIf (cOr (cT (w2 (wVar 5) (wC (.int (8))) gLt)) (cT (w2 (wVar 6) (wOf (fLst aNil)) gEqL))) (sSeq (sSet 7 (w2 (wOf (fLst (jaa (wC (.str "n")) (jaa (wC (.str "nm")) (jaa (wC (.str "go")) (jaa (wC (.str "m")) aNil)))))) (jag jal (jaa (wVar 0) (jaa (wC (.int (4))) aNil))) gIxL)) (sSeq (sApp 3 (wVar 7)) (sApp 2 (wTup (jaa (wC (.str "bind")) (jaa (wVar 7) aNil)))))) (sApp 2 (wTup (jaa (wC (.str "as")) (jaa (w2 (wVar 6) (jag jal (jaa (wVar 0) (jaa (wB jcw (jaa (wVar 6) aNil)) aNil))) gIxL) aNil)))))))))) (sFrz 2 (sFrz 3 (sRet (wTup (jaa (wB jbg (jaa (wVar 2) aNil)) (jaa (wVar 3) aNil)))))))))
abbrev jb3:DST:=(sSeq (sOwn 2 (fLst aNil)) (sSeq (sFor (jat (jag jfd (jaa (wVar 0) aNil))) (jac 3) (sSeq (sSet 4 (jag jal (jaa (wVar 0) (jaa (wC (.int (6))) aNil)))) (sIf (cOr (cT (w2 (wVar 4) (wC (.int (3))) gLt)) (cT (w2 (wVar 1) (wOf (fLst aNil)) gEqL))) (sApp 2 (wTup (jaa (wC (.str "is")) (jaa (jag jb5 (jaa (wVar 0) aNil)) aNil)))) (sApp 2 (wTup (jaa (w2 (wOf (fLst (jaa (wC (.str "as")) (jaa (wC (.str "as")) (jaa (wC (.str "next")) aNil))))) (w2 (wVar 4) (wC (.int (3))) (gI0 λi j=>.int (i - j))) gIxL) (jaa (w2 (wVar 1) (jag jal (jaa (wVar 0) (jaa (wB jcw (jaa (wVar 1) aNil)) aNil))) gIxL) aNil))))))) (sFrz 2 (sRet (wB jbg (jaa (wVar 2) aNil))))))
abbrev je9:DST:=(sSeq (sIf (cOr (cT (w2 (wVar 1) (wOf (fLst aNil)) gEqL)) (cT (w2 (jag jal (jaa (wVar 0) (jaa (wC (.int (2))) aNil))) (wC (.int (0))) gEqL))) (sRet (wTup (jaa (wC (.str "is")) (jaa (jag jb5 (jaa (wVar 0) aNil)) aNil)))) ja8) (sRet (wTup (jaa (wC (.str "as")) (jaa (w2 (wVar 1) (jag jal (jaa (wVar 0) (jaa (wB jcw (jaa (wVar 1) aNil)) aNil))) gIxL) aNil)))))
abbrev jgq:DST:=(sSeq (sSet 3 (jag jal (jaa (wVar 0) (jaa (wC (.int (12))) aNil)))) (sSeq (sIf (cT (w2 (wVar 3) (wC (.int (4))) gLt)) (sRet (wTup (jaa (wTup (jaa (wC (.str "lay")) (jaa (jag jk6 (jaa (wVar 0) (jaa (wVar 1) aNil))) (jaa (w2 (wTp3 0) (jag jal (jaa (wVar 0) (jaa (wB jcw (jaa (wTp3 0) aNil)) aNil))) gIxL) aNil)))) (jaa (wOf (fLst aNil)) aNil)))) ja8) (sSeq (sSet 4 (w2 (wVar 2) (jag jal (jaa (wVar 0) (jaa (wB jcw (jaa (wVar 2) aNil)) aNil))) gIxL)) (sSeq (sIf (cT (w2 (wVar 3) (wC (.int (10))) gEqL)) (sRet (wTup (jaa (wTup (jaa (wC (.str "same")) (jaa (jag jff (jaa (wVar 0) (jaa (wVar 1) aNil))) (jaa (jag jff (jaa (wVar 0) (jaa (wVar 1) aNil))) (jaa (wVar 4) aNil))))) (jaa (wOf (fLst aNil)) aNil)))) ja8) (sSeq (sIf (cT (w2 (wVar 3) (wC (.int (11))) gEqL)) (sRet (wTup (jaa (wTup (jaa (wC (.str "go")) (jaa (wVar 4) aNil))) (jaa (wOf (fLst aNil)) aNil)))) ja8) (sSeq (sUnp (jag jk7 (jaa (wVar 0) (jaa (wVar 1) aNil))) (jd5 2 (jav (jac 5) (jav (jac 6) jb1)))) (sSeq (sIf (cT (w2 (wVar 3) (wC (.int (7))) gGt)) (sRet (wTup (jaa (wTup (jaa (wC (.str "look")) (jaa (wVar 5) (jaa (wVar 4) aNil)))) (jaa (wVar 6) aNil)))) ja8) (sRet (wTup (jaa (wTup (jaa (w2 (wOf (fLst (jaa (wC (.str "take")) (jaa (wC (.str "take")) (jaa (wC (.str "take")) (jaa (wC (.str "read")) aNil)))))) (w2 (wVar 3) (wC (.int (4))) (gI0 λi j=>.int (i - j))) gIxL) (jaa (wVar 5) aNil))) (jaa (wVar 6) aNil)))))))))))
abbrev jcf:DST:=(sSeq (sOwn 1 (fLst (jaa (wTup aNil) aNil))) (sSeq (sFor (jat (w2 (wOf (fLst (jaa (wC (.int (0))) (jaa (wC (.int (1))) (jaa (wC (.int (2))) (jaa (wC (.int (1))) (jaa (wC (.int (0))) (jaa (wC (.int (2))) (jaa (wC (.int (5))) aNil))))))))) (jag jal (jaa (wVar 0) (jaa (wC (.int (7))) aNil))) gIxL)) (jac 2) (sApp 1 (w2 (wOf (fLst (jaa (wTup aNil) (jaa (wTup (jaa (wC (.str "n")) aNil)) (jaa (wTup (jaa (wC (.str "go")) (jaa (wC (.str "n")) aNil))) (jaa (wTup (jaa (wC (.str "nm")) aNil)) (jaa (wTup aNil) aNil))))))) (jag jal (jaa (wVar 0) (jaa (wC (.int (5))) aNil))) gIxL))) (sSeq (sOwn 3 (fLst aNil)) (sFrz 1 (sSeq (sFor (jbt (wVar 1)) (jac 4) (sSeq (sOwn 5 (jcp (wVar 4))) (sSeq (sOwn 6 (fLst aNil)) (sSeq (sFor (jat (w2 (wOf (fLst (jaa (wC (.int (2))) (jaa (wC (.int (3))) (jaa (wC (.int (1))) (jaa (wC (.int (4))) (jaa (wC (.int (2))) (jaa (wC (.int (0))) (jaa (wC (.int (3))) (jaa (wC (.int (8))) aNil)))))))))) (jag jal (jaa (wVar 0) (jaa (wC (.int (8))) aNil))) gIxL)) (jac 2) (sSeq (sSet 8 (wOf (ja9 [none,some 5,some 1] (jat (wB jcw (jaa (wVar 1) aNil))) (jac 0) (cT (w2 (wOf (ja9 [none,some 1] (jbb (w2 (wVar 2) (wVar 0) gIxL)) (jac 0) (cT (w2 (wVar 0) (wVar 1) (gInL true))) (wVar 0))) (wOf (fLst aNil)) gEqL)) (wVar 0)))) (sSeq (sUnp (jag jgr (jaa (wVar 0) (jaa (jc4 5) (jaa (wVar 8) aNil)))) (jd5 2 (jav (jac 9) (jav (jac 10) jb1)))) (sSeq (sApp 6 (wVar 9)) (sFor (jbt (wVar 10)) (jac 7) (sIf (cT (w2 (wVar 7) (jc4 5) (gInL true))) (sApp 5 (wVar 7)) ja8)))))) (sFrz 6 (sApp 3 (wTup (jaa (wVar 4) (jaa (wB jbg (jaa (wVar 6) aNil)) aNil))))))))) (sFrz 3 (sRet (wB jbg (jaa (wVar 3) aNil)))))))))
abbrev jdq:DST:=(sSeq (sOwn 2 (fLst aNil)) (sSeq (sFor (jat (jag jal (jaa (wVar 0) (jaa (w2 (wVar 1) (wC (.int (1))) (gI0 λi j=>.int (i+j))) aNil)))) (jac 3) (sSeq (sSet 4 (wB jbg (jaa (wOf (ja9 [none,some 0] (jat (jag jfd (jaa (wVar 0) aNil))) (jac 0) cYes (jag jb5 (jaa (wVar 1) aNil)))) aNil))) (sApp 2 (wTup (jaa (wVar 4) (jaa (w2 (wTp3 0) (jag jal (jaa (wVar 0) (jaa (wB jcw (jaa (wTp3 0) aNil)) aNil))) gIxL) aNil)))))) (sFrz 2 (sRet (wB jbg (jaa (wVar 2) aNil))))))
abbrev jb4:DST:=(sSeq (sOwn 1 (ja9 [none,some 0] (jat (w2 (wOf (fLst (jaa (wC (.int (2))) (jaa (wC (.int (1))) (jaa (wC (.int (2))) (jaa (wC (.int (3))) (jaa (wC (.int (2))) (jaa (wC (.int (1))) (jaa (wC (.int (0))) (jaa (wC (.int (5))) aNil)))))))))) (jag jal (jaa (wVar 0) (jaa (wC (.int (8))) aNil))) gIxL)) (jac 0) cYes (jag jk5 (jaa (wVar 1) aNil)))) (sSeq (sIf (cAnd (cT (w2 (wB jcw (jaa (jc4 1) aNil)) (wC (.int (2))) gEqL)) (cT (w2 (jag jal (jaa (wVar 0) (jaa (wC (.int (4))) aNil))) (wC (.int (0))) gEqL))) (sPut 1 (wC (.int (1))) (w2 (jc4 1) (wC (.int (0))) gIxL)) ja8) (sFrz 1 (sRet (wB jbg (jaa (wVar 1) aNil))))))
abbrev jdr:DST:=(sSeq (sOwn 3 (jcp (w2 (w2 (wVar 0) (wVar 1) gIx) (wC (.int (0))) gIx))) (sSeq (sFor (jbb (jct (w2 (w2 (wVar 0) (wVar 1) gIx) (wC (.int (1))) gIx) jg7 (jg6 (wVar 2)))) (jac 4) (sIf (cT (w2 (w2 (wVar 4) (wC (.int (0))) gIx) (wTup (jaa (wC (.str "take")) (jaa (wC (.str "read")) (jaa (wC (.str "look")) aNil)))) (gIn false))) (sExt 3 (wOf (ja9 [none] (jbb (w2 (wVar 4) (wC (.int (1))) gIx)) (jac 0) (cT (w2 (w2 (wVar 0) (wC (.int (0))) gIx) (wC (.str "bind")) gEq)) (w2 (wVar 0) (wC (.int (1))) gIx)))) ja8)) (sFrz 3 (sRet (wOf (jhl (wVar 3)))))))
abbrev jdp:DST:=(sSeq (sOwn 3 (fLst aNil)) (sSeq (sFor (jbb (wVar 1)) (jac 4) (sSeq (sSet 5 (jag jal (jaa (wVar 0) (jaa (wB gLen (jaa (wVar 4) aNil)) aNil)))) (sSeq (sSet 6 (jag jal (jaa (wVar 0) (jaa (w2 (wB gLen (jaa (w2 (w2 (wVar 4) (wVar 5) gIx) (wC (.int (1))) gIx) aNil)) (wC (.int (1))) (gI0 λi j=>.int (i+j))) aNil)))) (sSeq (sSet 7 (wB jbh (jaa (wOf (ja9 [none,some 0] (jbt (jag jeb (jaa (wVar 4) (jaa (wVar 5) (jaa (wVar 6) aNil))))) (jac 0) cYes (wTup (jaa (wVar 0) (jaa (jag jb5 (jaa (wVar 1) aNil)) aNil))))) aNil))) (sApp 3 (wTup (jaa (wVar 5) (jaa (wVar 6) (jaa (wVar 7) aNil))))))))) (sFrz 3 (sRet (wTup (jaa (wB jbh (jaa (wVar 3) aNil)) (jaa (jag jhz (jaa (wVar 0) (jaa (wVar 2) aNil))) aNil)))))))
abbrev jgp:DST:=(sRet (wB jbh (jaa (wOf (ja9 [none] (jbb (wVar 0)) (jac 0) cYes (wTup (jaa (wB gInt (jaa (wIsi "str" (wVar 0)) aNil)) (jaa (wVar 0) aNil))))) aNil)))
abbrev jch:DST:=(sSeq (jp4 1) (sSeq (sFor (jbb (wVar 0)) (jd5 2 (jav (jac 2) (jav (jac 3) jb1))) (jlk 1 (wVar 2) (w2 (jdh (ja0 1) (wVar 2) (wC (.int (0)))) (wC (.int (1))) (gI0 λi j=>.int (i+j))))) (jtp 1)))
abbrev je8:DST:=(sRet (wB jbh (jaa (wOf (ja9 [none,some 0] (jbt (wOf (jow jdt (ja0 0)))) (jac 0) (cT (w2 (w2 (ja0 1) (wVar 0) jhj) (wC (.int (0))) (gXX λd e=>some (!Bk d e)))) (wTup (jaa (wVar 0) (jaa (w2 (ja0 1) (wVar 0) jhj) aNil))))) aNil)))
abbrev jds:DST:=(sSeq (jp3 4 jji (jaa (wVar 2) aNil)) (sSeq (sFor (jbb (wVar 3)) (jd5 2 (jav (jac 5) (jav (jac 6) jb1))) (jlk 4 (wVar 5) (jdh (ja0 4) (wVar 5) (wC (.int (0)))))) (sSeq (sFor (jbt (wOf (jox (ja0 4)))) (jac 5) (sSeq (sSet 7 (w2 (wOf (fLst (jaa (wC (.int (0))) (jaa (wC (.int (0))) (jaa (wC (.int (1))) (jaa (wNeg (wC (.int (1)))) (jaa (wC .none) (jaa (wC (.int (0))) (jaa (wC (.int (2))) aNil))))))))) (jag jal (jaa (wVar 0) (jaa (wC (.int (7))) aNil))) gIx)) (jlk 4 (wVar 5) (wIf (cT (w2 (wVar 7) (wC .none) (gIsN false))) (wC .none) (wB (jlu true) (jaa (wC (.int (0))) (jaa (w2 (w2 (ja0 4) (wVar 5) jhj) (wVar 7) (gI0 λi j=>.int (i+j))) aNil))))))) (sRet (wTup (jaa (wVar 1) (jaa (jag jfe (jaa (ja0 4) aNil)) aNil)))))))
abbrev jdo:DST:=(sSeq (sIf (cT (w2 (w2 (wVar 0) (wC (.int (0))) gIx) (w2 (wVar 1) (wC (.int (0))) gIx) (gXX λd e=>some (!Bk d e)))) (sRet (wC (.bool false))) ja8) (sSeq (sFor (jbb (w2 (wVar 0) (wC (.int (1))) gIx)) (jd5 2 (jav (jac 2) (jav (jac 3) jb1))) (sSeq (sSet 4 (jdh (jkf (w2 (wVar 1) (wC (.int (1))) gIx)) (wVar 2) (wC (.int (0))))) (sIf (cAnd (cT (w2 (wVar 4) (wC .none) (gIsN true))) (cOr (cT (w2 (wVar 3) (wC .none) (gIsN false))) (cT (w2 (wVar 3) (wVar 4) gGt)))) (sRet (wC (.bool false))) ja8))) (sRet (wC (.bool true)))))
abbrev jyu:DST:=(sSeq (sSet 2 (jag jhy (jaa (wVar 1) aNil))) (sSeq (sFor (jat (wC (.int (6)))) (jac 3) (sSeq (sSet 4 (jag jfc (jaa (wVar 1) (jaa (wVar 2) (jaa (wC (.int (6))) aNil))))) (sSeq (sSet 4 (wTup (jaa (w2 (wVar 4) (wC (.int (0))) gIx) (jaa (w2 (w2 (wVar 4) (wC (.int (1))) gIx) (jct (w2 (wVar 4) (wC (.int (1))) gIx) jg7 (jg6 (jag jal (jaa (wVar 1) (jaa (wC (.int (3))) aNil))))) jot) aNil)))) (sSeq (sSet 5 (jag jfc (jaa (wVar 1) (jaa (wVar 2) (jaa (wC (.int (3))) aNil))))) (sSeq (sSet 6 (w2 (wOf (fLst (jaa (w2 (wVar 4) (wC (.int (0))) gIx) (jaa (w2 (wVar 4) (wC (.int (0))) gIx) (jaa (w2 (wVar 4) (wC (.int (0))) gIx) (jaa (w2 (wVar 5) (wC (.int (0))) gIx) aNil)))))) (jag jal (jaa (wVar 1) (jaa (wC (.int (4))) aNil))) gIx)) (sSeq (sSet 7 (jag jjh (jaa (wVar 1) (jaa (wVar 6) (jaa (w2 (wVar 4) (wC (.int (1))) gIx) (jaa (w2 (wVar 5) (wC (.int (1))) gIx) aNil)))))) (sSeq (sSet 8 (jag jjh (jaa (wVar 1) (jaa (w2 (wOf (fLst (jaa (wVar 6) (jaa (w2 (wVar 4) (wC (.int (0))) gIx) aNil)))) (jag jal (jaa (wVar 1) (jaa (wC (.int (2))) aNil))) gIx) (jaa (w2 (wVar 4) (wC (.int (1))) gIx) (jaa (jct (w2 (wVar 5) (wC (.int (1))) gIx) jg7 (jg6 (wC (.int (1))))) aNil)))))) (sSeq (sSet 9 (wTup (jaa (w2 (wVar 4) (wC (.int (0))) gIx) (jaa (jag jfe (jaa (jkg jji (jaa (w2 (wVar 4) (wC (.int (1))) gIx) aNil)) aNil)) aNil)))) (sSeq (sIf (cT (w2 (wB jcv (jaa (jag jpl (jaa (wVar 4) aNil)) aNil)) (wB jcv (jaa (wVar 9) aNil)) gNe)) (sRet (wC (.bool false))) ja8) (sSeq (sFor (jbt (wOf (fLst (jaa (wTup (jaa (wVar 7) (jaa (wVar 8) aNil))) (jaa (wTup (jaa (wVar 8) (jaa (wVar 7) aNil))) (jaa (wTup (jaa (wVar 7) (jaa (wVar 7) aNil))) (jaa (wTup (jaa (wVar 9) (jaa (wVar 7) aNil))) (jaa (wTup (jaa (wVar 8) (jaa (wVar 9) aNil))) aNil)))))))) (jd5 2 (jav (jac 10) (jav (jac 11) jb1))) (sIf (cT (w2 (wB jcv (jaa (jag jf3 (jaa (wVar 10) (jaa (wVar 11) aNil))) aNil)) (wB jcv (jaa (jag jf3 (jaa (wVar 10) (jaa (wVar 11) aNil))) aNil)) gNe)) (sRet (wC (.bool false))) ja8)) (sFor (jbt (wOf (fLst (jaa (wVar 7) (jaa (wVar 8) (jaa (wVar 9) aNil)))))) (jac 12) (sIf (cT (w2 (wB jcv (jaa (jag jrp (jaa (wVar 4) (jaa (wVar 12) aNil))) aNil)) (wB jcv (jaa (jag jf3 (jaa (wVar 9) (jaa (wVar 12) aNil))) aNil)) gNe)) (sRet (wC (.bool false))) ja8)))))))))))) (sRet (wC (.bool true)))))
theorem jhh (x:Str):∀hs:List Str,inD (.str x) (hs.map .str)=decide (x∈hs)
 |[]=>by simp[inD]
 |y::r=>by
  show(eqF (.str y) (.str x) || inD (.str x) (r.map .str))=_;rw[jhh x r];have e:eqF (.str y) (.str x)=decide (x=y):=by
   show(y==x)=_;by_cases z:x=y
   ·subst z;rw[decide_eq_true rfl];exact beq_self_eq_true _
   ·rw[decide_eq_false z];exact beq_eq_false_iff_ne.mpr λw=>z w.symm
  rw[e];by_cases z:x=y
  ·subst z;simp
  ·rw[decide_eq_false z,Bool.false_or];by_cases q:x∈r
   ·rw[decide_eq_true q,decide_eq_true (Ak _ q)]
   ·rw[decide_eq_false q,decide_eq_false (by simp[z,q])]
theorem jfo:∀ws n Q,jb5 ws n Q->ws.length=1:=λws n Q h=>by obtain⟨rfl,_⟩:=h;rfl
abbrev Zd:List Str:=["_law_tape_here"]
theorem jey:∀ws n Q,jb5 ws n Q->jdn (jap Zd ws) n {nx:=λ_ n=>Q (.d .none) n,rt:=Q}:=λws n Q h=>by
 obtain⟨rfl,hn,k⟩:=h;show jdn [some (.w .tp)] n _;refine jaz (w2_i (of_i (Aj (by decide) ?_)));dsimp only;refine jce (m:=8) rfl (by omega) (by decide) (by decide) λr h0 h1=>jgk (ds:=[.str "a",.int 9,.int 10,.int 1,.str "ab",.str "go",.int 99,.int 0]) h0 h1 λd hd=>k d ?_;simp only[Ax,A6,or_false]at hd;rcases hd with rfl | rfl | rfl | rfl | rfl | rfl | rfl | rfl<;>simp[jpp]
theorem jhe:∀ws n Q,jfd ws n Q->ws.length=1:=λws n Q h=>by obtain⟨rfl,_⟩:=h;rfl
theorem jf2:∀ws n Q,jfd ws n Q->jfa (jap Zd ws) n {nx:=λ_ n=>Q (.d .none) n,rt:=Q}:=λws n Q h=>by
 obtain⟨rfl,hn,k⟩:=h;show jfa [some (.w .tp)] n _;refine jaz (w2_i (of_i (Aj (by decide) ?_)));dsimp only;refine jce (m:=7) rfl (by omega) (by decide) (by decide) λr h0 h1=>jgk (ds:=[.int 1,.int 2,.int 2,.int 2,.int 1,.int 3,.int 4]) h0 h1 λd hd=>?_;simp only[Ax,A6,or_false]at hd;rcases hd with rfl | rfl | rfl | rfl | rfl | rfl | rfl
 ·exact k 1 (by decide) (by decide)
 ·exact k 2 (by decide) (by decide)
 ·exact k 2 (by decide) (by decide)
 ·exact k 2 (by decide) (by decide)
 ·exact k 1 (by decide) (by decide)
 ·exact k 3 (by decide) (by decide)
 ·exact k 4 (by decide) (by decide)
theorem jwk {δ:Sl} {n:Int} {K:DEnds} {W:DST} {g:DTG} (e:δ[0]?=some (some (.w .tp))) (hn:n < 2 ^ 39) (k:∀m:Nat,1<=m->m<=4->forD g W K (rngD 0 m) δ (n+1)):sFor (jat (jag jfd (jaa (wVar 0) aNil))) g W δ n K:=by
 unfold sFor jat;refine c1_i (jab e (Aj rfl ⟨hn,λm h1 h4=>?_⟩));refine Aj ⟨by omega,by omega⟩ ?_;rw[Bv];exact k m h1 h4
theorem jj9 {c:DTT} {w:DT} {Q:List Ab->Int->Prop} {rest:Sl} (g:Fe->Option Ab) (hno:∀(f:Fe) (n:Int) (Q':Bool->Int->Prop),g f=none->Q' false n->c (some (.w (.d f.d))::rest) n Q')
  (hyes:∀(f:Fe) (n:Int) (Q':Bool->Int->Prop) (y:Ab),g f=some y->Q' true n->c (some (.w (.d f.d))::rest) n Q') (hw:∀(f:Fe) (n:Int) (Q':DQ) (y:Ab),g f=some y->Q' (.d y) n->w (some (.w (.d f.d))::rest) n Q') :
  ∀(fs:List Fe) (acc:List Ab) (x:Option SV) (n:Int),Q (acc++fs.filterMap g) n->jbq (jac 0) c w Q (fs.map Fe.d) acc (x::rest) n
 |[],acc,x,n,q=>by
  rw[List.filterMap_nil,B7]at q;exact q
 |f::r,acc,x,n,q=>by
  rw[Cj];simp only[jbq,jac,D8];cases e:g f with
  |none =>
   refine hno f n _ e ?_;rw[if_neg Am];refine jj9 g hno hyes hw r acc _ n ?_;rw[List.filterMap_cons_none e]at q;exact q
  |some y =>
   refine hyes f n _ y e ?_;rw[if_pos rfl];refine hw f n _ y e ?_;refine jj9 g hno hyes hw r (acc++[y]) _ n ?_;rw[List.filterMap_cons_some e]at q;rw[B1];exact q
def strO (o:Option Str):Option Ab:=o.map .str
theorem jpr (g:Fe->Option Str) (fs:List Fe):fs.filterMap (λf=>strO (g f))=(fs.filterMap g).map .str:=by
 rw[List.map_filterMap];rfl
theorem j0n (f:Fe):jbx "bind" (.str f.hd)=f.bd.isSome:=by
 cases f with
 |any=>exact(show jbx "bind" (.str "any")=false by decide +kernel)
 |word=>exact(show jbx "bind" (.str "word")=false by decide +kernel)
 |num=>exact(show jbx "bind" (.str "number")=false by decide +kernel)
 |isv _=>exact(show jbx "bind" (.str "is")=false by decide +kernel)
 |bind _=>exact(show jbx "bind" (.str "bind")=true by decide +kernel)
 |as _=>exact(show jbx "bind" (.str "as")=false by decide +kernel)
 |nx _=>exact(show jbx "bind" (.str "next")=false by decide +kernel)
theorem j0m {f:Fe} {k:Str} (h:f.bd=some k):f.d=.tuple [.str f.hd,.str k]:=by
 cases f<;>cases h;rfl
theorem jif {o:Option Str} {y:Ab} (h:strO o=some y):∃k,o=some k/\y=.str k:=by
 cases o with
 |none=>cases h
 |some k=>cases h;exact⟨k,rfl,rfl⟩
theorem jm2 {o:Option Str} (h:strO o=none):o=none:=by
 cases o with
 |none=>rfl
 |some k=>cases h
theorem jqq {fs:List Fe} (h:okFs fs):∀k∈bndE fs,okK k:=λk hk=>by
 obtain⟨f,hf,e⟩:=List.mem_filterMap.mp hk;have:=h.2 f hf;cases f<;>cases e;exact this
theorem jqw {fs:List Fe} (h:okFs fs):(bndE fs).length<=4:=A5 (List.length_filterMap_le _ _) h.1
theorem jxt {δ:Sl} {n:Int} {Q:DQ} {a b:Ab} (e:δ[0]?=some (some (.w (.d (.tuple [a,b]))))) (k:Q (.d b) n):w2 (wVar 0) (wC (.int 1)) gIx δ n Q:=jxs (r:=[]) e k
theorem jso {f:Fe} {rest:Sl} {n:Int} {Q':Bool->Int->Prop} (k:Q' f.bd.isSome n):cT (w2 (w2 (wVar 0) (wC (.int 0)) gIx) (wC (.str "bind")) gEq) (some (.w (.d f.d))::rest) n Q':=by
 refine jz0 (i:=0) (a:=.str f.hd) (r:=f.tl) rfl ?_;show Q' (jbx "bind" (.str f.hd)) n;rw[j0n];exact k
theorem jlz {Q:List Ab->Int->Prop} (fs:List Fe) (n:Int) (k:Q ((bndE fs).map .str) n) :
  jbq (jac 0) (cT (w2 (w2 (wVar 0) (wC (.int 0)) gIx) (wC (.str "bind")) gEq)) (w2 (wVar 0) (wC (.int 1)) gIx) Q (fs.map Fe.d) [] [none] n:=by
 refine jj9 (λf=>strO f.bd) (λf n Q' e q=>jso ?_) (λf n Q' y e q=>jso ?_) (λf n Q' y e q=>?_) fs [] none n ?_
 ·rw[jm2 e];exact q
 ·obtain⟨x,e1,_⟩:=jif e;rw[e1];exact q
 ·obtain⟨x,e1,rfl⟩:=jif e;exact jxt (by rw[j0m e1];rfl) q
 ·rw[jpr];exact k
theorem ju7 {a:Ac} (h:okFs a.fs):(∀k∈a.bs,okK k)/\a.bs.length<=4:=by
 cases a with
 |take fs=>exact⟨jqq h,jqw h⟩
 |read fs=>exact⟨jqq h,jqw h⟩
 |look fs b=>exact⟨jqq h,jqw h⟩
 |lay fs b=>exact⟨λk hk=>by simp[Ac.bs]at hk,by simp[Ac.bs]⟩
 |same f g b=>exact⟨λk hk=>by simp[Ac.bs]at hk,by simp[Ac.bs]⟩
 |go b=>exact⟨λk hk=>by simp[Ac.bs]at hk,by simp[Ac.bs]⟩
theorem jit:∀{ys ks:List Str},ys.Nodup->(∀k∈ys,k∈ks)->ys.length<=ks.length
 |[],_,_,_=>A4 _
 |y::ys,ks,h,hs=>by
  obtain⟨h1,h2⟩:=Dr.mp h;have hm:=hs y An;have:=jit (ks:=ks.erase y) h2 λk hk=>(List.mem_erase_of_ne (λ(e:k=y)=>h1 (e▸hk))).mpr (hs k (Ak _ hk));rw[List.length_erase_of_mem hm]at this;have:=List.length_pos_of_mem hm;rw[Ar];omega
structure KnI (w:List Str) (dn:List Ac) (L:List Str):Prop where
 mem:∀k,k∈L↔k∈w++dn.flatMap Ac.bs
 len:L.length<=4+4*dn.length
 ok:∀k∈L,okK k
theorem KnI.first {w:List Str} (h:w.length<=4) (ok:∀k∈w,okK k):KnI w [] w:=⟨λk=>by simp,by simpa using h,ok⟩
theorem KnI.skip {w L:List Str} {dn:List Ac} {a:Ac} (I:KnI w dn L) (e:a.bs=[]):KnI w (dn++[a]) L :=
 ⟨λk=>by rw[I.mem k,List.flatMap_append];simp[e],by rw[As,Be];have:=I.len;omega,I.ok⟩
theorem KnI.more {w L ys:List Str} {dn:List Ac} {a:Ac} (I:KnI w dn L) (h:∀k,k∈ys↔k∈a.bs) (hl:ys.length<=4) (ok:okFs a.fs):KnI w (dn++[a]) (L++ys) :=
 ⟨λk=>by rw[A9,I.mem k,h k,List.flatMap_append,<-B1];simp[or_assoc],by rw[As,As,Be];have:=I.len;omega,λk hk=>by
  rcases A9.mp hk with z | z
  ·exact I.ok k z
  ·exact(ju7 ok).1 k ((h k).mp z)⟩
theorem jh4 {v:Ab} (h:v∈jpp):isV v=true:=by
 simp only[jpp,Ax,A6,or_false]at h;rcases h with rfl | rfl | rfl | rfl | rfl | rfl | rfl | rfl<;>decide +kernel
theorem j0j {v:Wv} {a b:List Ab} {n:Int} {Q:DQ} (hv:lsOf v=some a) (hl:a.length+b.length<=Az) (q:Q (.d (.list (a++b))) n):gCat v (.ln b) n Q:=by
 unfold gCat;rw[hv];exact⟨hl,q⟩
theorem jyr {δ:Sl} {n:Int} {Q:DQ} (e0:δ[0]?=some (some (.w .tp))) (h:n < 2 ^ 39) (k:∀v∈jkc,Q (.d v) (n+1)):w2 (wTp3 0) (jag jal (jaa (wVar 0) (jaa (wB jcw (jaa (wTp3 0) aNil)) aNil))) gIxL δ n Q:=by
 have ht:∀(n:Int) (Q:DQ),Q (.ln jkc) n->wTp3 0 δ n Q:=λn Q q=>by unfold wTp3;rw[e0];exact q
 exact w2_i (ht _ _ (jcy (m:=7) e0 (λQ q=>b1_i (ht _ _ q)) (by omega) (by decide) (by decide) λr h0 h1=>jj7 h0 h1 k))
theorem jrj (f:Fe) (r:List Fe):bndE (f::r)=f.bd.toList++bndE r:=by cases f<;>rfl
theorem jri (fs:List Fe) (f:Fe):bndE (fs++[f])=bndE fs++f.bd.toList:=by
 unfold bndE;rw[List.filterMap_append];cases f<;>rfl
theorem jj0:∀{fs:List Fe} {ks:List Str} {f:Fe},rF ks fs->(∀k,f.us=some k->k∈ks++bndE fs)->rF ks (fs++[f])
 |[],ks,f,_,h=>⟨λk hk=>by simpa[bndE]using h k hk,trivial⟩
 |g::r,ks,f,h1,h2=>⟨h1.1,jj0 h1.2 λk hk=>by
  have:=h2 k hk;rw[jrj,<-B1]at this;exact this⟩
theorem jg8 {f:Ab} {ks:List Str} (h:f∈ks.map .str):∃s∈ks,f=.str s:=by
 obtain⟨s,hs,rfl⟩:=Bp.mp h;exact⟨s,hs,rfl⟩
def PatI (kv:Wv) (ks:List Str) (n0:Int) (ds:List Ab) (δ:Sl) (n:Int):Prop:=∃(fs:List Fe) (x y z u:Option SV),δ=[some (.w .tp),some (.w kv),some (.own (fs.map Fe.d)),some (.own ((bndE fs).map .str)),x,y,z,u]/\1<=fs.length+ds.length/\fs.length+ds.length<=4/\(∀f∈fs,f.ok/\f.pt=true)/\rF ks fs/\n+2*(ds.length:Int)<=n0+9
theorem jd3:∀ws n Q,jk7 ws n Q->ws.length=2:=λws n Q h=>by obtain⟨_,_,rfl,_⟩:=h;rfl
theorem jde:∀ws n Q,jk7 ws n Q->jcg (jap ["_law_tape_here","_law_known_here","_law_fields","_law_bound","_law_k","_law_way","_law_some","_law_name"] ws) n {nx:=λ_ n=>Q (.d .none) n,rt:=Q}:=λws n0 Q h=>by
 obtain⟨ks,kv,rfl,hkv,hks,hok,hn0,k⟩:=h;show jcg [some (.w .tp),some (.w kv),none,none,none,none,none,none] n0 _;refine jaj (jcl ?_);dsimp only[A3];refine jaj (jcl ?_);dsimp only[A3];refine jaj (jwk rfl (by omega) λm h1 h4=>?_);refine jar (PatI kv ks n0) (λδ n I=>?_) (λd r δ n N I kN=>?_) _ _ _ ⟨[],none,none,none,none,rfl,by rw[ja1];simpa using h1,by rw[ja1];simpa using h4,λf hf=>(by simp at hf),trivial,by rw[ja1];omega⟩
 ·obtain⟨fs,x,y,z,u,rfl,hf1,hf,hfo,hr,hn⟩:=I;dsimp only;refine jfu rfl ?_;dsimp only[A3];refine jfu rfl ?_;dsimp only[A3];exact jaz (ja2 (b1_i (jab rfl (jed (jab rfl (Aj (show 2<=1000 by decide) (k fs n (by simpa using hf1) ⟨by simpa using hf,λf z=>(hfo f z).1⟩ (λf z=>(hfo f z).2) hr (by simpa using hn))))))))
 ·obtain⟨fs,x,y,z,u,rfl,hf1,hf,hfo,hr,hn⟩:=I;rw[Ar]at hf1 hf hn;dsimp only[jac,A3];have hfl:(fs.map Fe.d).length < 1000000:=by rw[Ae];omega
  have hbl:(bndE fs).length<=4:=A5 (List.length_filterMap_le _ _) (by omega);have hbo:∀s∈ks++bndE fs,okK s:=λs hs=>(A9.mp hs).elim (hok s) λz=>jqq (fs:=fs) ⟨by omega,λf z=>(hfo f z).1⟩ s z;have nxt:∀(f:Fe) (n':Int) (y z u:Option SV) (B:List Ab),f.ok/\f.pt=true->(∀k,f.us=some k->k∈ks++bndE fs)->n'<=n+2->B=(bndE fs).map .str++f.bd.toList.map .str->N [some (.w .tp),some (.w kv),some (.own (fs.map Fe.d++[f.d])),some (.own B),some (.w (.d d)),y,z,u] n':=λf n' y z u B fo fu hn' hB =>
   kN _ _ ⟨fs++[f],some (.w (.d d)),y,z,u,by rw[hB,Bu,jri,Bu];rfl,by rw[As,Be];omega,by rw[As,Be];omega,λg hg=>(A9.mp hg).elim (hfo g) λz=>by rw[Bg]at z;subst z;exact fo,jj0 hr fu,by omega⟩
  have nxtN:∀(f:Fe) (n':Int) (y z u:Option SV),f.bd=none->f.ok/\f.pt=true->(∀k,f.us=some k->k∈ks++bndE fs)->n'<=n+2->N [some (.w .tp),some (.w kv),some (.own (fs.map Fe.d++[f.d])),some (.own ((bndE fs).map .str)),some (.w (.d d)),y,z,u] n':=λf n' y z u fb fo fu hn' =>
   nxt f n' y z u _ fo fu hn' (by rw[fb];exact(B7 _).symm)
  refine jaj (jnc (m:=9) rfl (by omega) (by decide) (by decide) λw w0 w1=>?_);dsimp only[A3];refine jaj (jv4 (x:=.list (ks.map .str++(bndE fs).map .str)) (λQ q=>w2_i (jab rfl (jiv rfl (j0j hkv (jky (by rw[Ae];omega) (by rw[Ae];omega)) q)))) ?_);dsimp only[A3];refine iflt rfl (λhw=>?_) (λhw=>?_)
  ·refine jhx rfl (ja2 (c_i (c1_i (jab rfl (Aj rfl ⟨by omega,λv hv=>?_⟩)))));exact Aj (show 2<=1000 by decide) (Aj hfl (nxtN (.isv v) _ _ _ _ rfl ⟨jh4 hv,rfl⟩ (λk hk=>by cases hk) (by omega)))
  ·refine iflt rfl (λhw6=>?_) (λhw6=>?_)
   ·refine jhx rfl (w2_i (of_i (Aj (by decide) (Aj (by decide) (Aj (by decide) (Aj (by decide) ?_))))));dsimp only;refine w2_i (jab rfl (c_i ?_));dsimp only[gI0];refine jbj (ds:=[.tuple [.str "any"],.tuple [.str "word"],.tuple [.str "number"]]) (r:=w - 3) (by omega) (show w - 3 < 3 by omega) λf hf'=>?_;simp only[Ax,A6,or_false]at hf';rcases hf' with rfl | rfl | rfl
    ·exact Aj hfl (nxtN .any _ _ _ _ rfl ⟨trivial,rfl⟩ (λk hk=>by cases hk) (by omega))
    ·exact Aj hfl (nxtN .word _ _ _ _ rfl ⟨trivial,rfl⟩ (λk hk=>by cases hk) (by omega))
    ·exact Aj hfl (nxtN .num _ _ _ _ rfl ⟨trivial,rfl⟩ (λk hk=>by cases hk) (by omega))
   ·have bind:∀(K:DEnds) (L:List Ab),(∀δ n,N δ n->K.nx δ n)->sSeq (sSet 7 (w2 (wOf (fLst (jaa (wC (.str "n")) (jaa (wC (.str "nm")) (jaa (wC (.str "go")) (jaa (wC (.str "m")) aNil)))))) (jag jal (jaa (wVar 0) (jaa (wC (.int (4))) aNil))) gIxL)) (sSeq (sApp 3 (wVar 7)) (sApp 2 (wTup (jaa (wC (.str "bind")) (jaa (wVar 7) aNil)))))
      [some (.w .tp),some (.w kv),some (.own (fs.map Fe.d)),some (.own ((bndE fs).map .str)),some (.w (.d d)),some (.w (.d (.int w))),some (.w (.d (.list L))),u] (n+1) K:=λK L hK=>by
     refine jaj (show w2 _ _ _ _ _ _ from w2_i (of_i (Aj (by decide) ?_)));dsimp only;refine jce (m:=4) rfl (by omega) (by decide) (by decide) λr r0 r1=>jbj (ds:=[.str "n",.str "nm",.str "go",.str "m"]) r0 r1 λf hf'=>?_;have:∃s:Str,f=.str s/\okK s:=by
      simp only[Ax,A6,or_false]at hf';rcases hf' with rfl | rfl | rfl | rfl<;>exact⟨_,rfl,by decide +kernel,by decide +kernel⟩
     obtain⟨s,rfl,so⟩:=this;dsimp only[A3];refine jaj (jrk rfl (λQ q=>jab rfl q) (by rw[Ae];omega) ?_);dsimp only[A3];refine jrk (x:=.tuple [.str "bind",.str s]) rfl (λQ q=>ja2 (c_i (jab rfl (Aj (show 2<=1000 by decide) q)))) hfl (hK _ _ ?_);exact nxt (.bind s) (n+1+1) _ _ _ _ ⟨so,rfl⟩ (λk hk=>by cases hk) (by omega) rfl
    by_cases hw8:w < 8
    ·refine if_y (λQ q=>jq8 (λQ q=>ct_b (k:=true) (λQ q=>w2_i (jab rfl (c_i ?_))) q) q) (bind _ _ λ_ _ z=>z);show Q (.d (.bool (decide (w < 8)))) _;rw[decide_eq_true hw8];exact q
    ·have hmem:∀f∈ks.map Dg++(bndE fs).map Dg,∃s∈ks++bndE fs,f=.str s:=λf hf=>jg8 (by rw[Bu];exact hf);have hlen:(ks.map Dg++(bndE fs).map Dg).length<=2000:=by rw[As,Ae,Ae];omega
     generalize(ks.map Dg++(bndE fs).map Dg)=L at hmem hlen;cases L with
     |nil =>
      refine if_y (λQ q=>jly (λQ q=>ct_b (k:=false) (λQ q=>w2_i (jab rfl (c_i ?_))) q) (ct_b (k:=true) (λQ q=>w2_i (jab rfl (of_i (Aj (A4 _) q)))) q)) (bind _ _ λ_ _ z=>z);show Q (.d (.bool (decide (w < 8)))) _;rw[decide_eq_false hw8];exact q
     |cons a l =>
      refine if_n (λQ q=>jly (λQ q=>ct_b (k:=false) (λQ q=>w2_i (jab rfl (c_i ?_))) q) (ct_b (k:=false) (λQ q=>w2_i (jab rfl (of_i (Aj (A4 _) q)))) q)) ?_
      ·show Q (.d (.bool (decide (w < 8)))) _;rw[decide_eq_false hw8];exact q
      ·refine jhx rfl (ja2 (c_i (w2_i (jab rfl ?_))));refine jcy (m:=(a::l).length) rfl (λQ q=>b1_i (jab rfl q)) (by omega) (by rw[Ar];omega) (by omega) λr r0 r1=>jbj r0 r1 λf hf'=>?_;obtain⟨s,hs,rfl⟩:=hmem f hf';exact Aj (show 2<=1000 by decide) (Aj hfl (nxtN (.as s) _ _ _ _ rfl ⟨hbo s hs,rfl⟩ (λk hk=>by cases hk;exact hs) (by omega)))
theorem jsq {v:Ab} (h:v∈jkc):jue v:=by
 simp only[jkc,Ax,A6,or_false]at h;rcases h with rfl | rfl | rfl | rfl | rfl | rfl | rfl<;>first | exact .inl rfl | exact .inr ⟨_,rfl,by decide,by decide⟩
def TemI (ks:List Str) (n0:Int) (ds:List Ab) (δ:Sl) (n:Int):Prop:=∃(fs:List Fe) (x y:Option SV),δ=[some (.w .tp),some (.w (.ln (ks.map .str))),some (.own (fs.map Fe.d)),x,y]/\fs.length+ds.length<=4/\(∀f∈fs,f.ok/\f.tm=true)/\rF ks fs/\n+2*(ds.length:Int)<=n0+9
theorem jc9:∀ws n Q,jk6 ws n Q->ws.length=2:=λws n Q h=>by obtain⟨_,rfl,_⟩:=h;rfl
theorem jc0:∀ws n Q,jk6 ws n Q->jb3 (jap ["_law_tape_here","_law_known_here","_law_fields","_law_k","_law_way"] ws) n {nx:=λ_ n=>Q (.d .none) n,rt:=Q}:=λws n0 Q h=>by
 obtain⟨ks,rfl,hks,hok,hn0,k⟩:=h;show jb3 [some (.w .tp),some (.w (.ln (ks.map .str))),none,none,none] n0 _;refine jaj (jcl ?_);dsimp only[A3];refine jaj (jwk rfl (by omega) λm h1 h4=>?_);refine jar (TemI ks n0) (λδ n I=>?_) (λd r δ n N I kN=>?_) _ _ _ ⟨[],none,none,rfl,by rw[ja1];simpa using h4,λf hf=>(by simp at hf),trivial,by rw[ja1];omega⟩
 ·obtain⟨fs,x,y,rfl,hf,hfo,hr,hn⟩:=I;dsimp only;refine jfu rfl ?_;dsimp only[A3];exact jaz (b1_i (jab rfl (jed (k fs n ⟨by simpa using hf,λf z=>(hfo f z).1⟩ (λf z=>(hfo f z).2) hr (by simpa using hn)))))
 ·obtain⟨fs,x,y,rfl,hf,hfo,hr,hn⟩:=I;rw[Ar]at hf hn;dsimp only[jac,A3];have hfl:(fs.map Fe.d).length < 1000000:=by rw[Ae];omega
  have nxt:∀(f:Fe) (n':Int) (y:Option SV),f.ok/\f.tm=true->(∀k,f.us=some k->k∈ks)->n'<=n+2->N [some (.w .tp),some (.w (.ln (ks.map .str))),some (.own (fs.map Fe.d++[f.d])),some (.w (.d d)),y] n':=λf n' y fo fu hn' =>
   kN _ _ ⟨fs++[f],some (.w (.d d)),y,by rw[Bu];rfl,by rw[As,Be];omega,λg hg=>(A9.mp hg).elim (hfo g) λz=>by rw[Bg]at z;subst z;exact fo,jj0 hr λk hk=>Dd _ (fu k hk),by omega⟩
  refine jaj (jnc (m:=6) rfl (by omega) (by decide) (by decide) λw w0 w1=>?_);dsimp only[A3];have isv:∀K:DEnds,(∀δ n,N δ n->K.nx δ n)->sApp 2 (wTup (jaa (wC (.str "is")) (jaa (jag jb5 (jaa (wVar 0) aNil)) aNil))) [some (.w .tp),some (.w (.ln (ks.map .str))),some (.own (fs.map Fe.d)),some (.w (.d d)),some (.w (.d (.int w)))] (n+1) K:=λK hK =>
   jhx rfl (ja2 (c_i (c1_i (jab rfl (Aj rfl ⟨by omega,λv hv=>Aj (show 2<=1000 by decide) (Aj hfl (hK _ _ (nxt (.isv v) _ _ ⟨jh4 hv,rfl⟩ (λk hk=>by cases hk) (by omega))))⟩)))))
  by_cases hw3:w < 3
  ·refine if_y (λQ q=>jq8 (λQ q=>ct_b (k:=true) (λQ q=>w2_i (jab rfl (c_i ?_))) q) q) (isv _ λ_ _ z=>z);show Q (.d (.bool (decide (w < 3)))) _;rw[decide_eq_true hw3];exact q
  ·have ct3:∀Q:DQ,Q (.d (.bool false)) (n+1)->w2 (wVar 4) (wC (.int 3)) gLt [some (.w .tp),some (.w (.ln (ks.map .str))),some (.own (fs.map Fe.d)),some (.w (.d d)),some (.w (.d (.int w)))] (n+1) Q:=λQ q=>w2_i (jab rfl (c_i (by
    show Q (.d (.bool (decide (w < 3)))) _;rw[decide_eq_false hw3];exact q)))
   cases ks with
   |nil=>exact if_y (λQ q=>jly (λQ q=>ct_b (k:=false) ct3 q) (ct_b (k:=true) (λQ q=>w2_i (jab rfl (jdk (eqLn q)))) q)) (isv _ λ_ _ z=>z)
   |cons a l =>
    refine if_n (λQ q=>jly (λQ q=>ct_b (k:=false) ct3 q) (ct_b (k:=false) (λQ q=>w2_i (jab rfl (jdk (eqLn q)))) q)) ?_;refine jhx rfl (ja2 (w2_i (of_i (Aj (by decide) ?_))));dsimp only;refine w2_i (jab rfl (c_i ?_));dsimp only[gI0];refine jbj (ds:=[.str "as",.str "as",.str "next"]) (r:=w - 3) (by omega) (show w - 3 < 3 by omega) λf hf'=>?_;refine w2_i (jab rfl ?_);have hl:((a::l).map Dg).length<=1000:=by rw[Ae];exact hks
    refine jcy (m:=((a::l).map Dg).length) rfl (λQ q=>b1_i (jab rfl q)) (by omega) (by rw[Ae,Ar];omega) (by omega) λr r0 r1=>jj7 r0 r1 λf' hf''=>?_;obtain⟨s,hs,rfl⟩:=jg8 hf'';simp only[Ax,A6,or_false]at hf';rcases hf' with rfl | rfl | rfl
    ·exact Aj (show 2<=1000 by decide) (Aj hfl (nxt (.as s) _ _ ⟨hok s hs,rfl⟩ (λk hk=>by cases hk;exact hs) (by omega)))
    ·exact Aj (show 2<=1000 by decide) (Aj hfl (nxt (.as s) _ _ ⟨hok s hs,rfl⟩ (λk hk=>by cases hk;exact hs) (by omega)))
    ·exact Aj (show 2<=1000 by decide) (Aj hfl (nxt (.nx s) _ _ ⟨hok s hs,rfl⟩ (λk hk=>by cases hk;exact hs) (by omega)))
theorem jhd:∀ws n Q,jff ws n Q->ws.length=2:=λws n Q h=>by obtain⟨_,rfl,_⟩:=h;rfl
abbrev Zc:List Str:=["_law_tape_here","_law_known_here"]
theorem jf1:∀ws n Q,jff ws n Q->je9 (jap Zc ws) n {nx:=λ_ n=>Q (.d .none) n,rt:=Q}:=λws n Q h=>by
 obtain⟨ks,rfl,hks,hok,hn0,k⟩:=h;show je9 [some (.w .tp),some (.w (.ln (ks.map .str)))] n _;have isv:∀n',n'<=n+1->sRet (wTup (jaa (wC (.str "is")) (jaa (jag jb5 (jaa (wVar 0) aNil)) aNil))) [some (.w .tp),some (.w (.ln (ks.map .str)))] n' {nx:=λ_ n=>Q (.d .none) n,rt:=Q}:=λn' hn' =>
  jaz (ja2 (c_i (c1_i (jab rfl (Aj rfl ⟨by omega,λv hv=>Aj (show 2<=1000 by decide) (k (.isv v) _ (jh4 hv) rfl (λk hk=>by cases hk) (by omega))⟩)))))
 cases ks with
 |nil=>exact jaj (if_y (λQ q=>jq8 (λQ q=>ct_b (k:=true) (λQ q=>w2_i (jab rfl (jdk (eqLn q)))) q) q) (isv n (by omega)))
 |cons a l =>
  refine jaj (if_i (jly (λQ q=>ct_b (k:=false) (λQ q=>w2_i (jab rfl (jdk (eqLn q)))) q) ?_));refine w2_i (jce (m:=2) rfl (by omega) (by decide) (by decide) λr r0 r1=>c_i (eqLi ?_));show if decide (r=0)=true then _ else _
  by_cases h:r=0
  ·rw[if_pos (decide_eq_true h)];exact isv (n+1) (by omega)
  ·rw[if_neg (by simpa using h)];dsimp only[ja8];refine jaz (ja2 (c_i (w2_i (jab rfl ?_))));have hl:((a::l).map Dg).length<=1000:=by rw[Ae];exact hks
   refine jcy (m:=((a::l).map Dg).length) rfl (λQ q=>b1_i (jab rfl q)) (by omega) (by rw[Ae,Ar];omega) (by omega) λr r0 r1=>jj7 r0 r1 λf' hf''=>?_;obtain⟨s,hs,rfl⟩:=jg8 hf'';exact Aj (show 2<=1000 by decide) (k (.as s) _ (hok s hs) rfl (λk hk=>by cases hk;exact hs) (by omega))
theorem jiz:∀ws n Q,jgr ws n Q->ws.length=3:=λws n Q h=>by obtain⟨_,_,_,rfl,_⟩:=h;rfl
theorem jhw:∀ws n Q,jgr ws n Q->jgq (jap ["_law_tape_here","_law_known_here","_law_open_ones","_law_way","_law_block","_law_pattern_here","_law_bound"] ws) n {nx:=λ_ n=>Q (.d .none) n,rt:=Q}:=λws n Q h=>by
 obtain⟨ks,os,wants,rfl,hks,hok,ho,ho',hop,hn0,k⟩:=h;show jgq [some (.w .tp),some (.w (.ln (ks.map .str))),some (.w (.d (.list (os.map λb=>.int (b:Nat))))),none,none,none,none] n _;refine jaj (jnc (m:=12) rfl (by omega) (by decide) (by decide) λw w0 w1=>?_);dsimp only[A3];refine jaj (iflt rfl (λhw=>?_) (λhw=>?_))
 ·refine jaz (ja2 (jsy (c_i (c2_i (jab rfl (jab rfl (Dh ks ⟨rfl,hks,hok,by omega,λfs n' hfs htm hrf hn'=>?_⟩)))))));refine jyr rfl (by omega) λv hv=>?_;exact Aj (show 3<=1000 by decide) (jdk (Aj (show 2<=1000 by decide) (k (.lay fs v) _ ⟨hfs,htm,jsq hv⟩ ⟨hrf,λb hb=>by cases hb⟩ (by omega))))
 dsimp only[ja8];refine jaj (show sSet 4 _ _ _ _ from w2_i (jab rfl ?_));refine jcy (m:=(os.map λb:Nat=>PyData.int (b:Nat)).length) rfl (λQ q=>b1_i (jab rfl q)) (by omega) (by rw[Ae];omega) (by rw[Ae];omega) λr r0 r1=>jbj r0 r1 λb hb=>?_;obtain⟨b,hbo,rfl⟩:=Bp.mp hb;have hto:=hop b hbo;dsimp only[A3];refine jaj (ifeq rfl (λh10=>?_) (λh10=>?_))
 ·refine jaz (ja2 (jyy (c_i (c2_i (jab rfl (jab rfl (Dh ks ⟨rfl,hks,hok,by omega,λf n' fo fb fu hn'=>?_⟩)))))));refine c2_i (jab rfl (jab rfl (Dh ks ⟨rfl,hks,hok,by omega,λg n'' go gb gu hn''=>?_⟩)));refine jab rfl (Aj (show 4<=1000 by decide) (jdk (Aj (show 2<=1000 by decide) (k (.same f g b) _ ⟨⟨show 2<=4 by decide,λe he=>?_⟩,fb,gb⟩ ⟨⟨fu,λk hk=>Dd _ (gu k hk),trivial⟩,λb' hb'=>by cases hb';exact hto⟩ (by omega)))));simp only[Ac.fs,Ax,A6,or_false]at he;rcases he with rfl | rfl
  ·exact fo
  ·exact go
 dsimp only[ja8];refine jaj (ifeq rfl (λh11=>?_) (λh11=>?_))
 ·exact jaz (ja2 (ja2 (c_i (jab rfl (Aj (show 2<=1000 by decide) (jdk (Aj (show 2<=1000 by decide) (k (.go b) _ ⟨⟨show 0<=4 by decide,λe he=>by simp[Ac.fs]at he⟩,trivial⟩ ⟨trivial,λb' hb'=>by cases hb';exact hto⟩ (by omega)))))))))
 dsimp only[ja8];refine jaj ?_;unfold sUnp;refine c2_i (jab rfl (jab rfl (Dh ks ⟨.ln (ks.map .str),rfl,rfl,hks,hok,by omega,λfs n' hf1 hfs hpt hrf hn'=>?_⟩)));refine Aj rfl ?_;dsimp only[jav,jb1,jac,A3];refine jaj (ifgt rfl (λh7=>?_) (λh7=>?_))
 ·exact jaz (ja2 (jsy (c_i (jab rfl (jab rfl (Aj (show 3<=1000 by decide) (jab rfl (Aj (show 2<=1000 by decide) (k (.look fs b) _ ⟨hfs,hf1,hpt⟩ ⟨hrf,λb' hb'=>by cases hb';exact hto⟩ (by omega))))))))))
 dsimp only[ja8];refine jaz (ja2 (ja2 (w2_i (of_i (Aj (by decide) ?_)))));dsimp only;refine w2_i (jab rfl (c_i ?_));dsimp only[gI0];refine jbj (ds:=[.str "take",.str "take",.str "take",.str "read"]) (r:=w - 4) (by omega) (show w - 4 < 4 by omega) λf hf'=>?_;simp only[Ax,A6,or_false]at hf';rcases hf' with rfl | rfl | rfl | rfl
 ·exact jab rfl (Aj (show 2<=1000 by decide) (jab rfl (Aj (show 2<=1000 by decide) (k (.take fs) _ ⟨hfs,hf1,hpt⟩ ⟨hrf,λb' hb'=>by cases hb'⟩ (by omega)))))
 ·exact jab rfl (Aj (show 2<=1000 by decide) (jab rfl (Aj (show 2<=1000 by decide) (k (.take fs) _ ⟨hfs,hf1,hpt⟩ ⟨hrf,λb' hb'=>by cases hb'⟩ (by omega)))))
 ·exact jab rfl (Aj (show 2<=1000 by decide) (jab rfl (Aj (show 2<=1000 by decide) (k (.take fs) _ ⟨hfs,hf1,hpt⟩ ⟨hrf,λb' hb'=>by cases hb'⟩ (by omega)))))
 ·exact jab rfl (Aj (show 2<=1000 by decide) (jab rfl (Aj (show 2<=1000 by decide) (k (.read fs) _ ⟨hfs,hf1,hpt⟩ ⟨hrf,λb' hb'=>by cases hb'⟩ (by omega)))))
def jd0:List (List Str):=[[],["n"],["go","n"],["nm"]]
theorem jsr {w:List Str} (h:w∈jd0):w.length<=4/\(∀k∈w,okK k)/\w.Nodup/\upT w:=by
 have key:∀w∈jd0,w.length<=4/\(∀k∈w,k.length<=4/\D7 k=true)/\w.Nodup/\w.Pairwise λa b=>¬b.cps.toList < a.cps.toList:=by decide +kernel
 exact key w h
theorem jo6 {Q:List Ab->Int->Prop} {n:Int} (ss ks:List Str) (k:Q ((ss.map Dg).filter λx=>!inD x (ks.map .str)) n) :
  jbq (jac 0) (cT (w2 (wVar 0) (wVar 1) (gInL true))) (wVar 0) Q (ss.map .str) [] [none,some (.w (.ln (ks.map .str)))] n:=by
 refine jbn (λd=>∃s:Str,d=.str s) (λx=>!inD x (ks.map .str)) id (λd n Q' hd q=>?_) (λd n Q' hd q=>jab rfl q) _ [] none n (λd hd=>?_) ?_
 ·obtain⟨s,rfl⟩:=hd;exact ct_b (k:=!inD (.str s) (ks.map .str)) (λQ q=>w2_i (jab rfl (jab rfl (Aj rfl ⟨ji3 ks,q⟩)))) q
 ·obtain⟨s,_,rfl⟩:=Bp.mp hd;exact⟨s,rfl⟩
 ·rw[Ec,List.map_id];exact k
theorem jqu (ss ks:List Str):((ss.map Dg).filter λx=>!inD x (ks.map .str)).isEmpty=decide (∀k∈ss,k∈ks):=by
 rw[E4,List.isEmpty_iff,List.filter_eq_nil_iff,decide_eq_true_iff]
 constructor
 ·intro h k hk;have:=h (.str k) (Bp.mpr ⟨k,hk,rfl⟩);rw[jhh]at this;simpa using this
 ·intro h d hd;obtain⟨k,hk,rfl⟩:=Bp.mp hd;rw[jhh,decide_eq_true (h k hk)];simp
def jqo (ws:List (List Str)) (ks:List Str):Ab->Bool
 |.int j=>decide (∀k∈ws.getD j.toNat [],k∈ks)
 |_=>false
def jiq (ws:List (List Str)) (ks:List Str):List Nat:=(Bt ws.length).filter λb=>decide (∀k∈ws.getD b [],k∈ks)
theorem jqn (ws:List (List Str)) (ks:List Str):(rngD 0 ws.length).filter (jqo ws ks)=(jiq ws ks).map λb=>.int (b:Nat):=by
 unfold rngD jiq;rw[List.filter_map];have e:(λi:Nat=>PyData.int (0+(i:Int)))=λb=>.int (b:Nat):=funext λi=>by rw[Int.zero_add]
 rw[e];rfl
theorem jo4 {Q:List Ab->Int->Prop} {n:Int} (ws:List (List Str)) (ks:List Str) (k:Q ((jiq ws ks).map λb=>.int (b:Nat)) n) :
  jbq (jac 0) (cT (w2 (wOf (ja9 [none,some 1] (jbb (w2 (wVar 2) (wVar 0) gIxL)) (jac 0) (cT (w2 (wVar 0) (wVar 1) (gInL true))) (wVar 0))) (wOf (fLst aNil)) gEqL)) (wVar 0) Q (rngD 0 ws.length) [] [none,some (.w (.ln (ks.map .str))),some (.w (.d (.list (ws.map jbi))))] n:=by
 refine jbn (λd=>∃j:Nat,j < ws.length/\d=.int j) (jqo ws ks) id (λd n Q' hd q=>?_) (λd n Q' hd q=>jab rfl q) _ [] none n (λd hd=>?_) ?_
 ·obtain⟨j,hj,rfl⟩:=hd;have hg:(ws.map jbi)[j]?=some (.tuple (ws[j].map .str)):=by rw[A0,Al hj];rfl
  refine ct_b (k:=jqo ws ks (.int j)) (λQ q=>w2_i (of_i (jo7 (ds:=ws[j].map .str) (λQ q=>w2_i (jab rfl (jab rfl ?_))) (jo6 ws[j] ks (jdk ?_))))) q
  ·show(match atI (ws.map jbi) (j:Int)with | some d=>Q (.d d) n | none=>False);rw[ja3 hg];exact q
  ·have eo:jqo ws ks (.int j)=((ws[j].map Dg).filter λx=>!inD x (ks.map .str)).isEmpty:=by
    rw[jqu];show decide (∀k∈ws.getD (j:Int).toNat [],k∈ks)=_;rw[Bv,Cq,Al hj,Option.getD_some]
   rw[eo]at q;exact q
 ·unfold rngD at hd;obtain⟨j,hj,rfl⟩:=Bp.mp hd;exact⟨j,C2.mp hj,by rw[Int.zero_add]⟩
 ·rw[Ec,List.map_id,jqn];exact k
theorem jn1 {ws w0:List (List Str)} {ks:List Str} (h:ws=[]::w0):0 < (jiq ws ks).length :=
 List.length_pos_of_mem (a:=0) (Fs.mpr ⟨C2.mpr (by rw[h];simp),by subst h;simp⟩)
theorem jt9 {ws:List (List Str)} {ks:List Str} {b:Nat} (h:b∈jiq ws ks):∃w,ws[b]?=some w/\∀k∈w,k∈ks:=by
 obtain⟨h1,h2⟩:=Fs.mp h;have hj:=C2.mp h1;refine⟨ws[b],Al hj,?_⟩;have:=of_decide_eq_true h2;rw[Cq,Al hj,Option.getD_some]at this;exact this
theorem jnm:∀{fs:List Fe} {ks ks':List Str},(∀k∈ks,k∈ks')->rF ks fs->rF ks' fs
 |[],_,_,_,_=>trivial
 |f::r,ks,ks',h,z=>⟨λk hk=>h k (z.1 k hk),jnm (λk hk=>(A9.mp hk).elim (λq=>Dd _ (h k q)) λq=>Ay _ q) z.2⟩
theorem Ac.right_mono {ws:List (List Str)} {ks ks':List Str} {a:Ac} (h:∀k∈ks,k∈ks') (z:a.right ws ks):a.right ws ks' :=
 ⟨jnm h z.1,λb hb=>by obtain⟨w,h1,h2⟩:=z.2 b hb;exact⟨w,h1,λk hk=>h k (h2 k hk)⟩⟩
theorem jp5 {ws:List (List Str)} {w ks:List Str} {as:List Ac} {a:Ac} (h:riB ws (w,as)) (hk:∀k∈ks,k∈w++as.flatMap Ac.bs) (ha:a.right ws ks):riB ws (w,as++[a]):=λp b hb=>by
 dsimp only at hb ⊢;by_cases hp:p < as.length
 ·rw[Et hp]at hb;have:=h p b hb;unfold kn at this ⊢;rw[List.take_append_of_le_length (Fd hp)];exact this
 ·rw[List.getElem?_append_right (by omega)]at hb;have e0:p - as.length=0:=by
   by_cases e:p - as.length=0
   ·exact e
   ·rw[Co (by rw[Be];omega)]at hb;cases hb
  rw[e0]at hb;cases hb;have ep:p=as.length:=by omega
  subst ep;refine Ac.right_mono (λk z=>?_) ha;unfold kn;rw[List.take_append_of_le_length (Ao _),Fk];exact hk k z
structure ActO (ws:List (List Str)) (want ks:List Str) (acts:List Ac):Prop where
 mem:∀k,k∈ks↔k∈want++acts.flatMap Ac.bs
 ok:∀k∈ks,okK k
 fs:∀a∈acts,okA a
 ri:riB ws (want,acts)
def ActI (ws:List (List Str)) (bl:List Ab) (want:List Str) (nb:Int) (ds:List Ab) (δ:Sl) (n:Int):Prop:=∃(ks:List Str) (acts:List Ac) (x2 x7 x8 x9 x10:Option SV),
 δ=[some (.w .tp),some (.w (.d (.list (ws.map jbi)))),x2,some (.own bl),some (.w (.d (jbi want))),some (.own (ks.map .str)),some (.own (acts.map Ac.d)),x7,x8,x9,x10]/\ActO ws want ks acts/\ks.length+4*ds.length<=40/\acts.length+ds.length<=8/\n+11*(ds.length:Int)<=nb+89
theorem jrm {ws w0:List (List Str)} {bl r:List Ab} {want:List Str} {d:Ab} {ks:List Str} {acts:List Ac} {nb n:Int} {x7 x8 x9 x10:Option SV} {K:DEnds} (hw0:ws=[]::w0) (hwl:ws.length<=6) (hnb:nb+89 < 2 ^ 39) (O:ActO ws want ks acts) (hk:ks.length+4*(r.length+1)<=40) (ha:acts.length+(r.length+1)<=8) (hn:n+11*((r.length:Int)+1)<=nb+89)
  (kN:∀δ n,ActI ws bl want nb r δ n->K.nx δ n) :
  sSeq (sSet 8 (wOf (ja9 [none,some 5,some 1] (jat (wB jcw (jaa (wVar 1) aNil))) (jac 0) (cT (w2 (wOf (ja9 [none,some 1] (jbb (w2 (wVar 2) (wVar 0) gIxL)) (jac 0) (cT (w2 (wVar 0) (wVar 1) (gInL true))) (wVar 0))) (wOf (fLst aNil)) gEqL)) (wVar 0)))) (sSeq (sUnp (jag jgr (jaa (wVar 0) (jaa (jc4 5) (jaa (wVar 8) aNil)))) (jd5 2 (jav (jac 9) (jav (jac 10) jb1)))) (sSeq (sApp 6 (wVar 9)) (sFor (jbt (wVar 10)) (jac 7) (sIf (cT (w2 (wVar 7) (jc4 5) (gInL true))) (sApp 5 (wVar 7)) ja8))))
   [some (.w .tp),some (.w (.d (.list (ws.map jbi)))),some (.w (.d d)),some (.own bl),some (.w (.d (jbi want))),some (.own (ks.map .str)),some (.own (acts.map Ac.d)),x7,x8,x9,x10] n K:=by
 refine jaj (show sSet 8 _ _ _ _ from of_i ?_);unfold ja9 jat;refine b1_i (jab rfl ?_);refine Aj ⟨by omega,by rw[Ae];omega⟩ ?_;rw[Bv,Ae];refine jo4 ws ks ?_;dsimp only[A3];refine jaj ?_;unfold sUnp;have ol:(jiq ws ks).length<=6:=A5 (List.length_filter_le _ _) (by rw[Du];exact hwl);refine c3_i (jab rfl (jiv rfl (jab rfl ?_)));refine Dh ks (Dh (jiq ws ks) (Dh ws ⟨rfl,by omega,O.ok,jn1 hw0,by omega,λb hb=>jt9 hb,by omega,λact n' hfs hri hn'=>?_⟩));refine Aj rfl ?_;dsimp only[jav,jb1,jac,A3];refine jaj (jrk rfl (λQ q=>jab rfl q) (by rw[Ae];omega) ?_);dsimp only[A3];unfold sFor jbt;refine jab rfl ?_;dsimp only;have hbs:=ju7 hfs.1;refine jar (λds δ n''=>∃(ks' dn bs':List Str) (x7:Option SV),ds=bs'.map .str/\dn++bs'=act.bs/\(∀k,k∈ks'↔k∈ks++dn)/\n''=n'/\δ=[some (.w .tp),some (.w (.d (.list (ws.map jbi)))),some (.w (.d d)),some (.own bl),some (.w (.d (jbi want))),some (.own (ks'.map .str)),some (.own (acts.map Ac.d++[act.d])),x7,some (.w (.d (.list ((jiq ws ks).map λb=>.int (b:Nat))))),some (.w (.d act.d)),some (.w (.d (.list (act.bs.map .str))))]/\ks'.length+bs'.length<=ks.length+4)
  (λδ n'' I=>?_) (λe r' δ n'' N I kN'=>?_) _ _ _ ⟨ks,[],act.bs,x7,rfl,rfl,λk=>by simp,rfl,rfl,by have:=hbs.2;omega⟩
 ·obtain⟨ks',dn,bs',x7,e,hdn,hm,rfl,rfl,hk'⟩:=I;cases Ck.mp e.symm;rw[B7]at hdn;subst hdn;have hm':∀k,k∈ks'↔k∈want++(acts++[act]).flatMap Ac.bs:=λk=>by
   rw[hm k,A9,O.mem k,List.flatMap_append,<-B1,A9 (s:=want++acts.flatMap Ac.bs)];simp
  refine kN _ _ ⟨ks',acts++[act],_,_,_,_,_,by rw[Bu];rfl,⟨hm',λk z=>?_,λa z=>?_,jp5 O.ri (λk z=>(O.mem k).mp z) hri⟩,by omega,by rw[As,Be];omega,by omega⟩
  ·exact(A9.mp ((hm k).mp z)).elim (O.ok k) (hbs.1 k)
  ·rcases A9.mp z with z | z
   ·exact O.fs a z
   ·rw[Bg]at z;subst z;exact hfs
 ·obtain⟨ks',dn,bs',x7,e',hdn,hm,rfl,rfl,hk'⟩:=I;obtain⟨s,bs'',rfl,rfl,rfl⟩:=Ce.mp e'.symm;rw[Ar]at hk';dsimp only[jac,A3];have hdn':(dn++[s])++bs''=act.bs:=by rw[B1];exact hdn
  refine if_i (w2_i (jab rfl (jiv rfl (Aj rfl ⟨ji3 ks',?_⟩))));refine ifb (λz=>?_) (λz=>?_)
  ·refine jrk rfl (λQ q=>jab rfl q) (by rw[Ae];omega) (kN' _ _ ⟨ks'++[s],dn++[s],bs'',some (.w (.d (.str s))),rfl,hdn',λk=>?_,rfl,?_,by rw[As,Be];omega⟩)
   ·rw[A9,hm k,<-B1,A9 (s:=ks++dn)]
   ·rw[Bu];rfl
  ·have hs:s∈ks':=by
    have z':(!inD (.str s) (ks'.map .str))=false:=z;rw[jhh]at z';simpa using z'
   refine kN' _ _ ⟨ks',dn++[s],bs'',some (.w (.d (.str s))),rfl,hdn',λk=>?_,rfl,rfl,by omega⟩;rw[<-B1,A9 (s:=ks++dn),Bg,<-hm k];exact⟨.inl,λq=>q.elim id λe=>e▸hs⟩
def WanI (n0:Int) (ds:List Ab) (δ:Sl) (n:Int):Prop:=∃(more:List (List Str)) (x2:Option SV),δ=[some (.w .tp),some (.own (([]::more).map jbi)),x2,none,none,none,none,none,none,none,none]/\more.length+ds.length<=5/\(∀w∈more,w∈jd0)/\n+(ds.length:Int)<=n0+6
def BlkI (ws:List (List Str)) (n0:Int) (ds:List Ab) (δ:Sl) (n:Int):Prop:=∃(bl:List Bl) (re:List (List Str)) (x2 x4 x5 x6 x7 x8 x9 x10:Option SV),
 δ=[some (.w .tp),some (.w (.d (.list (ws.map jbi)))),x2,some (.own (bl.map blD)),x4,x5,x6,x7,x8,x9,x10]/\ds=re.map jbi/\bl.map (·.1)++re=ws/\(∀b∈bl,okB b/\riB ws b)/\n+90*(ds.length:Int)<=n0+600
theorem jd2:∀ws n Q,jk5 ws n Q->ws.length=1:=λws n Q h=>by obtain⟨rfl,_⟩:=h;rfl
theorem jrh {ws w0 re:List (List Str)} {bl:List Bl} {want:List Str} {n0 n:Int} {x2 x5 x6 x7 x8 x9 x10:Option SV} {K:DEnds} (hw:∀w∈ws,w∈jd0) (hw0:ws=[]::w0) (hwl:ws.length<=6) (hn0:n0+600 < 2 ^ 39) (hb:bl.map (·.1)++want::re=ws) (hbo:∀b∈bl,okB b/\riB ws b) (hn:n+90*((re.length:Int)+1)<=n0+600)
  (kN:∀δ n,BlkI ws n0 (re.map jbi) δ n->K.nx δ n) :
  sSeq (sOwn 5 (jcp (wVar 4))) (sSeq (sOwn 6 (fLst aNil)) (sSeq (sFor (jat (w2 (wOf (fLst (jaa (wC (.int (2))) (jaa (wC (.int (3))) (jaa (wC (.int (1))) (jaa (wC (.int (4))) (jaa (wC (.int (2))) (jaa (wC (.int (0))) (jaa (wC (.int (3))) (jaa (wC (.int (8))) aNil)))))))))) (jag jal (jaa (wVar 0) (jaa (wC (.int (8))) aNil))) gIxL)) (jac 2) (sSeq (sSet 8 (wOf (ja9 [none,some 5,some 1] (jat (wB jcw (jaa (wVar 1) aNil))) (jac 0) (cT (w2 (wOf (ja9 [none,some 1] (jbb (w2 (wVar 2) (wVar 0) gIxL)) (jac 0) (cT (w2 (wVar 0) (wVar 1) (gInL true))) (wVar 0))) (wOf (fLst aNil)) gEqL)) (wVar 0)))) (sSeq (sUnp (jag jgr (jaa (wVar 0) (jaa (jc4 5) (jaa (wVar 8) aNil)))) (jd5 2 (jav (jac 9) (jav (jac 10) jb1)))) (sSeq (sApp 6 (wVar 9)) (sFor (jbt (wVar 10)) (jac 7) (sIf (cT (w2 (wVar 7) (jc4 5) (gInL true))) (sApp 5 (wVar 7)) ja8)))))) (sFrz 6 (sApp 3 (wTup (jaa (wVar 4) (jaa (wB jbg (jaa (wVar 6) aNil)) aNil)))))))
   [some (.w .tp),some (.w (.d (.list (ws.map jbi)))),x2,some (.own (bl.map blD)),some (.w (.d (jbi want))),x5,x6,x7,x8,x9,x10] n K:=by
 obtain⟨hss,hso,hnd,hup⟩:=jsr (hw want (by rw[<-hb];exact Ay _ An));have hbl:bl.length+(re.length+1)<=6:=by rw[<-hb,As,Ae,Ar]at hwl;exact hwl
 refine jaj (jw2 (ds:=want.map .str) rfl ?_);dsimp only[A3];refine jaj (jcl ?_);dsimp only[A3];refine jaj (jry (L:=[.int 2,.int 3,.int 1,.int 4,.int 2,.int 0,.int 3,.int 8]) (M:=8) rfl (λQ q=>of_i (Aj (by decide) q)) (by omega) rfl (by decide) (by decide) (λd hd=>?_) (by decide) λj hj=>?_)
 ·simp only[Ax,A6,or_false]at hd;rcases hd with rfl | rfl | rfl | rfl | rfl | rfl | rfl | rfl
  ·exact⟨2,by decide,rfl⟩
  ·exact⟨3,by decide,rfl⟩
  ·exact⟨1,by decide,rfl⟩
  ·exact⟨4,by decide,rfl⟩
  ·exact⟨2,by decide,rfl⟩
  ·exact⟨0,by decide,rfl⟩
  ·exact⟨3,by decide,rfl⟩
  ·exact⟨8,by decide,rfl⟩
 refine jar (ActI ws (bl.map blD) want n) (λδ n' I=>?_) (λd r' δ n' N I kN'=>?_) _ _ _ ⟨want,[],_,_,_,_,_,rfl,⟨λk=>by simp,hso,λa ha=>by simp at ha,λp a ha=>by simp at ha⟩,by rw[ja1];omega,by rw[ja1];simpa using hj,by rw[ja1];omega⟩
 ·obtain⟨ks,acts,y2,y7,y8,y9,y10,rfl,O,_,ha,hn'⟩:=I;dsimp only;refine jfu rfl ?_;dsimp only[A3];refine jhx rfl (ja2 (jab rfl (b1_i (jab rfl (jed ?_)))));have ha':acts.length<=8:=by simpa using ha
  refine Aj (show 2<=1000 by decide) (Aj (by rw[Ae];omega) (kN _ _ ⟨bl++[(want,acts)],re,_,_,_,_,_,_,_,_,by rw[Bu];rfl,rfl,by rw[Bu,B1];exact hb,λb z=>?_,?_⟩))
  ·rcases A9.mp z with z | z
   ·exact hbo b z
   ·rw[Bg]at z;subst z;exact⟨⟨hss,hso,ha',O.fs,hnd,hup⟩,O.ri⟩
  ·have h0:n'<=n+89:=by simpa using hn'
   rw[Ae];omega
 ·obtain⟨ks,acts,y2,y7,y8,y9,y10,rfl,O,hk,ha,hn'⟩:=I;rw[Ar]at hk ha hn';dsimp only[jac,A3];exact jrm hw0 hwl (by omega) O hk ha (by omega) kN'
theorem jdd:∀ws n Q,jk5 ws n Q->jcf (jap ["_law_tape_here","_law_wants","_law_k","_law_blocks","_law_want","_law_known_here","_law_acts","_law_name","_law_open_ones","_law_act_here","_law_bound"] ws) n {nx:=λ_ n=>Q (.d .none) n,rt:=Q}:=λws n0 Q h=>by
 obtain⟨rfl,hn0,k⟩:=h;show jcf [some (.w .tp),none,none,none,none,none,none,none,none,none,none] n0 _;refine jaj (show sOwn 1 _ _ _ _ from Aj (A4 _) (Aj (by decide) ?_));dsimp only[A3];refine jaj (jry (L:=[.int 0,.int 1,.int 2,.int 1,.int 0,.int 2,.int 5]) (M:=5) rfl (λQ q=>of_i (Aj (by decide) q)) (by omega) rfl (by decide) (by decide) (λd hd=>?_) (by decide) λj hj=>?_)
 ·simp only[Ax,A6,or_false]at hd;rcases hd with rfl | rfl | rfl | rfl | rfl | rfl | rfl
  ·exact⟨0,by decide,rfl⟩
  ·exact⟨1,by decide,rfl⟩
  ·exact⟨2,by decide,rfl⟩
  ·exact⟨1,by decide,rfl⟩
  ·exact⟨0,by decide,rfl⟩
  ·exact⟨2,by decide,rfl⟩
  ·exact⟨5,by decide,rfl⟩
 refine jar (WanI n0) (λδ n I=>?_) (λd r δ n N I kN=>?_) _ _ _ ⟨[],none,rfl,by rw[ja1];simpa using hj,λd hd=>by simp at hd,by rw[ja1];omega⟩
 ·obtain⟨more,x2,rfl,hl,hm,hn⟩:=I;dsimp only;refine jaj (jcl ?_);dsimp only[A3];refine jfu rfl ?_;dsimp only[A3];refine jaj ?_;unfold sFor jbt;refine jab rfl ?_;dsimp only;have hw:∀w∈([]:List Str)::more,w∈jd0:=λd hd=>by
   rcases Ax.mp hd with rfl | z
   ·simp[jd0]
   ·exact hm d z
  have hwl:(([]:List Str)::more).length<=6:=by rw[Ar];simp at hl;omega
  refine jar (BlkI ([]::more) n0) (λδ n' I=>?_) (λd r δ n' N I kN=>?_) _ _ _ ⟨[],[]::more,_,_,_,_,_,_,_,_,rfl,rfl,rfl,λb hb=>by simp at hb,?_⟩
  ·obtain⟨bl,re,y2,y4,y5,y6,y7,y8,y9,y10,rfl,er,hb,hbo,hn'⟩:=I;cases Ck.mp er.symm;rw[B7]at hb;dsimp only;refine jfu rfl ?_;dsimp only[A3];refine jaz (b1_i (jab rfl (jed (k bl n' ⟨by have:=congrArg List.length hb;simp at this;omega,?_,λb z=>⟨(hbo b z).1,by rw[hb];exact(hbo b z).2⟩⟩ (by simpa using hn')))));rw[<-hb,Ae]at hwl;exact hwl
  ·obtain⟨bl,re,y2,y4,y5,y6,y7,y8,y9,y10,rfl,er,hb,hbo,hn'⟩:=I;obtain⟨want,re,rfl,rfl,rfl⟩:=Ce.mp er.symm;rw[Ar,Ae]at hn';dsimp only[jac,A3];exact jrh hw rfl hwl hn0 hb hbo (by omega) kN
  ·have h1:n<=n0+6:=by simpa using hn
   have h2:(((([]:List Str)::more).map jbi).length:Int)<=6:=by rw[Ae];omega
   omega
 ·obtain⟨more,x2,rfl,hl,hm,hn⟩:=I;rw[Ar]at hl hn;dsimp only[jac,A3];refine jhx rfl (w2_i (of_i (Aj (by decide) (Aj (by decide) (Aj (by decide) (Aj (by decide) (Aj (by decide) (Aj (by decide) ?_))))))));dsimp only;refine jce (m:=5) rfl (by omega) (by decide) (by decide) λq q0 q1=>jbj (ds:=[jbi [],jbi ["n"],jbi ["go","n"],jbi ["nm"],jbi []]) q0 q1 λw hw=>?_;have:∃v∈jd0,w=jbi v:=by
   simp only[Ax,A6,or_false]at hw;rcases hw with rfl | rfl | rfl | rfl | rfl
   ·exact⟨[],by simp[jd0],rfl⟩
   ·exact⟨["n"],by simp[jd0],rfl⟩
   ·exact⟨["go","n"],by simp[jd0],rfl⟩
   ·exact⟨["nm"],by simp[jd0],rfl⟩
   ·exact⟨[],by simp[jd0],rfl⟩
  obtain⟨v,hv,rfl⟩:=this;refine Aj (by rw[Ae,Ar];omega) (kN _ _ ⟨more++[v],some (.w (.d d)),?_,by rw[As,Be];omega,λe he=>?_,by omega⟩)
  ·rw[show([]::(more++[v]):List (List Str))=([]::more)++[v]from rfl,Bu];rfl
  rcases A9.mp he with z | z
  ·exact hm e z
  ·rw[Bg]at z;subst z;exact hv
section
variable {δ:Sl} {n:Int} {K:DEnds} {i:Nat} {s a b c:Str} {r:List Ab} {k:Bool} {Q:Bool->Int->Prop}
theorem jxx (e:δ[i]?=some (some (.w (.d (.tuple (.str s::r)))))) (h:inD (.str s) [.str a,.str b,.str c]=k) (q:Q k n):cT (w2 (w2 (wVar i) (wC (.int 0)) gIx) (wTup (jaa (wC (.str a)) (jaa (wC (.str b)) (jaa (wC (.str c)) aNil)))) (gIn false)) δ n Q:=by
 refine w2_i (jxu e ?_);show 3<=1000/\jfw (.str s)=true/\_/\Q (inD (.str s) [.str a,.str b,.str c]) n;exact⟨by decide,rfl,rfl,by rw[h];exact q⟩
theorem jyk {A B:DTT} (ha:∀Q:Bool->Int->Prop,Q false n->A δ n Q) (q:Q false n):cAnd A B δ n Q:=ha _ (by show if false=true then _ else _;rw[if_neg Am];exact q)
end
theorem jzz {δ:Sl} {n:Int} {K:DEnds} {i:Nat} {w:DT} {es:List Ab} (e:δ[i]?=some (some (.own es))) (k:w δ n λx n1=>match x with
  |.d (.list fs)=>(es.length < 1000000/\fs.length < 1000000)/\K.nx (δ.set i (some (.own (es++fs)))) n1
  |_=>False):sExt i w δ n K:=by
 unfold sExt;rw[e];exact k
theorem jfs:∀ws n Q,jeb ws n Q->ws.length=3:=λws n Q h=>by obtain⟨_,_,_,_,rfl,_⟩:=h;rfl
theorem je2:∀ws n Q,jeb ws n Q->jdr (jap ["_law_program_here","_law_block","_law_place","_law_found","_law_act_here"] ws) n {nx:=λ_ n=>Q (.d .none) n,rt:=Q}:=λws n Q h=>by
 obtain⟨bs,i,p,⟨w,as⟩,rfl,hi,⟨hb1,hb2,hb3,hb4,_,_⟩,hp,k⟩:=h;dsimp only at hb1 hb2 hb3 hb4 hp k;have hi':(bs.map blD)[i]?=some (blD (w,as)):=by rw[A0,hi];rfl
 show jdr [some (.w (.d (.tuple (bs.map blD)))),some (.w (.d (.int i))),some (.w (.d (.int p))),none,none] n _;refine jaj (show sOwn 3 (jcp _) _ _ _ from w2_i (w2_i (jab rfl (jab rfl (gN_i hi' (c_i (g0_i ?_)))))));dsimp only[jbi,A3];refine jaj ?_;unfold sFor jbb jct;refine w2_i (w2_i (jab rfl (jab rfl (gN_i hi' (c_i (g1_i ?_))))));dsimp only[jg7,jg6];refine jab rfl ?_;dsimp only;rw[jyi _ (by rw[Ae];exact hp),<-List.map_take];refine jar (λds δ n'=>∃(dn re:List Ac) (L:List Str) (x:Option SV),ds=re.map Ac.d/\dn++re=as.take p/\n'=n/\δ=[some (.w (.d (.tuple (bs.map blD)))),some (.w (.d (.int i))),some (.w (.d (.int p))),some (.own (L.map .str)),x]/\KnI w dn L) (λδ n' I=>?_) (λd r δ n' N I kN=>?_) _ _ _
  ⟨[],as.take p,w,none,rfl,rfl,rfl,rfl,KnI.first hb1 hb2⟩
 ·obtain⟨dn,re,L,x,e,hdn,rfl,rfl,I⟩:=I;cases Ck.mp e.symm;rw[B7]at hdn;subst hdn;dsimp only;refine jfu rfl ?_;dsimp only[A3];have hl:(as.take p).length<=8:=A5 (List.length_take_le _ _) (by omega);have hI:=I.len;refine jaz (of_i (show jhl _ _ _ _ from jab rfl ?_));exact Dh L ⟨.inl rfl,by omega,λx hx=>A5 (I.ok x hx).1 (by decide),λys a b c=>k ys a (λz hz=>I.ok z ((b z).mp hz)) c λz=>(b z).trans (I.mem z)⟩
 ·obtain⟨dn,re,L,x,e,hdn,rfl,rfl,I⟩:=I;obtain⟨a,re,rfl,rfl,rfl⟩:=Ce.mp e.symm;dsimp only[jac,A3];have ha:okFs a.fs:=(hb4 a (Fp (i:=p) (by rw[<-hdn];exact Ay _ An))).1;have hlen:L.length<=36:=by
   have h1:dn.length+(re.length+1)=(as.take p).length:=by rw[<-hdn,As,Ar]
   have h3:=I.len;have h4:(as.take p).length<=as.length:=List.length_take_le' _ _;omega
  have hdn':(dn++[a])++re=as.take p:=by rw[B1];exact hdn
  have nxt:∀L',KnI w (dn++[a]) L'->N [some (.w (.d (.tuple (bs.map blD)))),some (.w (.d (.int i))),some (.w (.d (.int p))),some (.own (L'.map .str)),some (.w (.d a.d))] n':=λL' I'=>kN _ _ ⟨dn++[a],re,L',_,rfl,hdn',rfl,rfl,I'⟩;have get:∀(K:DEnds) (hK:∀δ n,N δ n->K.nx δ n) (s:Str) (fs:List Fe) (r:List Ab),a.d=.tuple (.str s::fsD fs::r)->inD (.str s) [.str "take",.str "read",.str "look"]=true->a.bs=bndE fs->a.fs=fs->sIf (cT (w2 (w2 (wVar 4) (wC (.int (0))) gIx) (wTup (jaa (wC (.str "take")) (jaa (wC (.str "read")) (jaa (wC (.str "look")) aNil)))) (gIn false))) (sExt 3 (wOf (ja9 [none] (jbb (w2 (wVar 4) (wC (.int (1))) gIx)) (jac 0) (cT (w2 (w2 (wVar 0) (wC (.int (0))) gIx) (wC (.str "bind")) gEq)) (w2 (wVar 0) (wC (.int (1))) gIx)))) ja8
    [some (.w (.d (.tuple (bs.map blD)))),some (.w (.d (.int i))),some (.w (.d (.int p))),some (.own (L.map .str)),some (.w (.d a.d))] n' K:=λK hK s fs r e1 e2 e3 e4=>by
   rw[e1]at nxt ⊢;refine if_y (λQ q=>jxx rfl e2 q) ?_;have hb:(bndE fs).length<=4:=jqw (e4▸ha);refine jzz rfl (of_i (jo7 (ds:=fs.map Fe.d) (λQ q=>jxs rfl q) (jlz fs n' ?_)));refine Aj ⟨by rw[Ae];omega,by rw[Ae];omega⟩ ?_;have:=nxt (L++bndE fs) (I.more (λk=>by rw[e3]) hb ha);rw[Bu]at this;exact hK _ _ this
  have skip:∀(K:DEnds) (hK:∀δ n,N δ n->K.nx δ n) (s:Str) (r:List Ab),a.d=.tuple (.str s::r)->inD (.str s) [.str "take",.str "read",.str "look"]=false->a.bs=[]->sIf (cT (w2 (w2 (wVar 4) (wC (.int (0))) gIx) (wTup (jaa (wC (.str "take")) (jaa (wC (.str "read")) (jaa (wC (.str "look")) aNil)))) (gIn false))) (sExt 3 (wOf (ja9 [none] (jbb (w2 (wVar 4) (wC (.int (1))) gIx)) (jac 0) (cT (w2 (w2 (wVar 0) (wC (.int (0))) gIx) (wC (.str "bind")) gEq)) (w2 (wVar 0) (wC (.int (1))) gIx)))) ja8
    [some (.w (.d (.tuple (bs.map blD)))),some (.w (.d (.int i))),some (.w (.d (.int p))),some (.own (L.map .str)),some (.w (.d a.d))] n' K:=λK hK s r e1 e2 e3=>by
   rw[e1]at nxt ⊢;refine if_n (λQ q=>jxx rfl e2 q) (hK _ _ (nxt L (I.skip e3)))
  cases a with
  |lay fs age=>exact skip _ (λ_ _ z=>z) "lay" [fsD fs,age] rfl (by decide +kernel) rfl
  |take fs=>exact get _ (λ_ _ z=>z) "take" fs [] rfl (by decide +kernel) rfl rfl
  |read fs=>exact get _ (λ_ _ z=>z) "read" fs [] rfl (by decide +kernel) rfl rfl
  |look fs b=>exact get _ (λ_ _ z=>z) "look" fs [.int b] rfl (by decide +kernel) rfl rfl
  |same f g b=>exact skip _ (λ_ _ z=>z) "same" [f.d,g.d,.int b] rfl (by decide +kernel) rfl
  |go b=>exact skip _ (λ_ _ z=>z) "go" [.int b] rfl (by decide +kernel) rfl
theorem jsc {α:Type} {f:α->Ab} {P:α->Prop}:∀{ds:List Ab},(∀d∈ds,∃x,P x/\d=f x)->∃xs:List α,ds=xs.map f/\∀x∈xs,P x
 |[],_=>⟨[],rfl,λx hx=>by simp at hx⟩
 |d::r,h=>by
  obtain⟨x,hx,rfl⟩:=h d An;obtain⟨xs,rfl,hxs⟩:=jsc λe he=>h e (Ak _ he);exact⟨x::xs,rfl,λy hy=>(Ax.mp hy).elim (λe=>e▸hx) (hxs y)⟩
theorem jfr:∀ws n Q,jhz ws n Q->ws.length=2:=λws n Q h=>by obtain⟨_,rfl,_⟩:=h;rfl
def NotI (m:Nat) (n0:Int) (ds:List Ab) (δ:Sl) (n:Int):Prop:=∃(ns:List Nt) (x y:Option SV),δ=[some (.w .tp),some (.w (.d (.int m))),some (.own (ns.map ntD)),x,y]/\ns.length+ds.length<=m/\(∀q∈ns,okQ q)/\n+6*(ds.length:Int)<=n0+100
theorem je1:∀ws n Q,jhz ws n Q->jdq (jap ["_law_tape_here","_law_most","_law_found","_law_k","_law_row"] ws) n {nx:=λ_ n=>Q (.d .none) n,rt:=Q}:=λws n0 Q h=>by
 obtain⟨m,rfl,hm,hn0,k⟩:=h;show jdq [some (.w .tp),some (.w (.d (.int m))),none,none,none] n0 _;refine jaj (jcl ?_);dsimp only[A3];refine jaj ?_;unfold sFor jat;refine jcy (m:=(m:Int)+1) rfl (λQ q=>w2_i (jab rfl (c_i q))) (by omega) (by omega) (by omega) λr r0 r1=>?_;refine Aj ⟨by omega,by omega⟩ ?_;have hr:r.toNat<=m:=by omega
 refine jar (NotI m n0) (λδ n I=>?_) (λd r' δ n N I kN=>?_) _ _ _ ⟨[],none,none,rfl,by rw[ja1];simpa using hr,λd hd=>by simp at hd,by rw[ja1];omega⟩
 ·obtain⟨ns,x,y,rfl,hl,hns,hn⟩:=I;dsimp only;refine jfu rfl ?_;dsimp only[A3];exact jaz (b1_i (jab rfl (jed (k ns n ⟨by simpa using hl,hns⟩ (by simpa using hn)))))
 ·obtain⟨ns,x,y,rfl,hl,hns,hn⟩:=I;rw[Ar]at hl hn;dsimp only[jac,A3];refine jaj (show sSet 4 _ _ _ _ from b1_i (of_i ?_));unfold ja9;dsimp only;refine c1_i (jab rfl (Aj rfl ⟨by omega,λs s1 s4=>?_⟩));refine Aj ⟨by omega,by omega⟩ ?_;rw[Bv];refine jdc (λv=>isV v=true) 1 (λd n Q' hn q=>c1_i (jab rfl (Aj rfl ⟨by omega,λv hv=>q v _ (jh4 hv) (by omega)⟩))) _ [] none _ (by rw[ja1];omega) λrow n' hrl hrow hn'=>?_;rw[ja1]at hrl hn';rw[Ec];refine jed ?_;dsimp only[A3];refine jhx rfl (ja2 (jab rfl (jyr rfl (by omega) λv hv=>?_)));refine Aj (show 2<=1000 by decide) (Aj (by rw[Ae];omega) (kN _ _ ⟨ns++[(row,v)],_,_,by rw[Bu];rfl,by rw[As,Be];omega,λe he=>?_,by omega⟩));rcases A9.mp he with z | z
  ·exact hns e z
  ·rw[Bg]at z;subst z;exact⟨⟨⟨by show row.length<=4;omega,hrow⟩,by show 1<=row.length;omega⟩,jsq hv⟩
theorem jda:∀ws n Q,jhy ws n Q->ws.length=1:=λws n Q h=>by obtain⟨rfl,_⟩:=h;rfl
theorem jc1:∀ws n Q,jhy ws n Q->jb4 (jap ["_law_tape_here","_law_programs_here"] ws) n {nx:=λ_ n=>Q (.d .none) n,rt:=Q}:=λws n0 Q h=>by
 obtain⟨rfl,hn0,k⟩:=h;show jb4 [some (.w .tp),none] n0 _;refine jaj (show sOwn 1 _ _ _ _ from ?_);unfold sOwn ja9 jat;refine w2_i (of_i (Aj (by decide) ?_));dsimp only;refine jce (m:=8) rfl (by omega) (by decide) (by decide) λq q0 q1=>jbj (ds:=[.int 2,.int 1,.int 2,.int 3,.int 2,.int 1,.int 0,.int 5]) q0 q1 λd hd=>?_;have hj:∃j:Nat,j<=5/\d=.int j:=by
  simp only[Ax,A6,or_false]at hd;rcases hd with rfl | rfl | rfl | rfl | rfl | rfl | rfl | rfl
  ·exact⟨2,by decide,rfl⟩
  ·exact⟨1,by decide,rfl⟩
  ·exact⟨2,by decide,rfl⟩
  ·exact⟨3,by decide,rfl⟩
  ·exact⟨2,by decide,rfl⟩
  ·exact⟨1,by decide,rfl⟩
  ·exact⟨0,by decide,rfl⟩
  ·exact⟨5,by decide,rfl⟩
 obtain⟨j,hj,rfl⟩:=hj;refine Aj ⟨by omega,by omega⟩ ?_;rw[Bv];refine jdc (λd=>∃P,okG P/\d=prD P) 600 (λd n Q' hn q=>c1_i (jab rfl (Aj rfl ⟨by omega,λP n' hP hn'=>q (prD P) n' ⟨P,hP,rfl⟩ (by omega)⟩))) _ [] none _ (by rw[ja1];omega) λds n1 hpl hps0 hn1=>?_;rw[ja1]at hpl hn1;rw[Ec];obtain⟨ps,rfl,hps⟩:=jsc hps0;clear hps0;rw[Ae]at hpl;dsimp only[A3];have rest:∀(ps':Pg) (n2:Int),ps'.length<=5->(∀P∈ps',okG P)->n2<=n1+1->sFrz 1 (sRet (wB jbg (jaa (wVar 1) aNil))) [some (.w .tp),some (.own (ps'.map prD))] n2 {nx:=λ_ n=>Q (.d .none) n,rt:=Q}:=λps' n2 hl' hp' hn2=>by
  refine jfu rfl ?_;dsimp only[A3];exact jaz (b1_i (jab rfl (jed (k ps' n2 ⟨hl',hp'⟩ (by omega)))))
 refine jaj (if_i ?_);refine(show cT _ _ _ _ from w2_i (b1_i (jiv rfl (jxk (c_i (eqLi ?_))))));rw[Ae];show if decide ((ps.length:Int)=2)=true then _ else _
 by_cases h2:(ps.length:Int)=2
 ·rw[if_pos (decide_eq_true h2)];refine w2_i (jce (m:=4) rfl (by omega) (by decide) (by decide) λq q0 q1=>c_i (eqLi ?_));show if decide (q=0)=true then _ else _
  by_cases hq:q=0
  ·rw[if_pos (decide_eq_true hq)];have hl2:ps.length=2:=by omega
   obtain⟨P,P',rfl⟩:∃P P',ps=[P,P']:=by
    match ps,hl2 with
    |[P,P'],_=>exact⟨P,P',rfl⟩
   refine(show sPut 1 _ _ _ _ _ from w2_i (jiv rfl (c_i ?_)));refine(show gIxL (.ln [prD P,prD P']) (.d (.int 0)) _ _ from ?_);refine rest [P,P] _ (show 2<=5 by decide) (λR hR=>?_) (by omega);simp only[Ax,A6,or_false,or_self]at hR;subst hR;exact hps _ An
  ·rw[if_neg (by simpa using hq)];exact rest ps _ (by omega) hps (by omega)
 ·rw[if_neg (by simpa using h2)];exact rest ps _ (by omega) hps (by omega)
theorem addI {i j n:Int} {Q:DQ} (k:Q (.d (.int (i+j))) n):gI0 (λi j=>.int (i+j)) (.d (.int i)) (.d (.int j)) n Q:=k
theorem jo5 {Q:List Ab->Int->Prop}:∀(ys:List Str) (acc:Nm) (x:Option SV) (n:Int),n+(ys.length:Int) < 2 ^ 39->(∀p∈acc,isV p.2=true)->(∀(nm:Nm) (n':Int),nm.map (·.1)=acc.map (·.1)++ys->(∀p∈nm,isV p.2=true)->n'<=n+(ys.length:Int)->Q (nm.map jqm) n') ->
  jbq (jac 0) cYes (wTup (jaa (wVar 0) (jaa (jag jb5 (jaa (wVar 1) aNil)) aNil))) Q (ys.map .str) (acc.map jqm) [x,some (.w .tp)] n
 |[],acc,x,n,_,ha,q=>q acc n (by rw[B7]) ha (by omega)
 |y::ys,acc,x,n,hn,ha,q=>by
  rw[Ar]at hn q;simp only[Cj,jbq,jac,cYes,if_true,D8];refine ja2 (jab rfl (c1_i (jab rfl (Aj rfl ⟨by omega,λv hv=>Aj (show 2<=1000 by decide) ?_⟩))));have:=jo5 (Q:=Q) ys (acc++[(y,v)]) (some (.w (.d (.str y)))) (n+1) (by omega) (λp hp=>(A9.mp hp).elim (ha p) λz=>by rw[Bg.mp z];exact jh4 hv) λnm n' e hm hn'=>q nm n' (by rw[e,Bu,B1];rfl) hm (by omega);rw[Bu]at this;exact this
theorem jyp (as:List Ac) (h:∀a∈as,okA a):(as.flatMap Ac.bs).length<=4*as.length:=by
 induction as with
 |nil=>exact A4 _
 |cons a r ih =>
  rw[List.flatMap_cons,As,Ar];have:=(ju7 (h a An).1).2;have:=ih λb hb=>h b (Ak _ hb);omega
theorem jxm {b:Bl} (ob:okB b) (p:Nat):(kn b.1 b.2 p).length<=36:=by
 unfold kn;rw[As];have:=jyp (b.2.take p) λa ha=>ob.2.2.2.1 a (Fp ha);have:=List.length_take_le p b.2;have:=ob.1;have:=ob.2.2.1;have:=List.length_take_le' p b.2;omega
theorem jfq:∀ws n Q,jfc ws n Q->ws.length=3:=λws n Q h=>by obtain⟨_,_,rfl,_⟩:=h;rfl
def StI (ps:Pg) (m:Nat) (n0:Int) (ds:List Ab) (δ:Sl) (n:Int):Prop:=∃(hs:List Hn) (re:Pg) (x4 x5 x6 x7:Option SV),δ=[some (.w .tp),some (.w (.d (pgD ps))),some (.w (.d (.int m))),some (.own (hs.map hnD)),x4,x5,x6,x7]/\ds=re.map prD/\re=ps.drop hs.length/\hs.length<=ps.length /\
 (∀(i:Nat) (P:List Bl),i < hs.length->ps[i]?=some P->∃(h:Hn) (b:Bl),hs[i]?=some h/\P[h.1]?=some b/\okHn b h)/\n+42*(ds.length:Int)<=n0+210
theorem je0:∀ws n Q,jfc ws n Q->jdp (jap ["_law_tape_here","_law_programs_here","_law_most","_law_hands","_law_program_here","_law_block","_law_place","_law_names"] ws) n {nx:=λ_ n=>Q (.d .none) n,rt:=Q}:=λws n0 Q h=>by
 obtain⟨ps,m,rfl,hm,⟨hpl,hps⟩,hn0,k⟩:=h;show jdp [some (.w .tp),some (.w (.d (pgD ps))),some (.w (.d (.int m))),none,none,none,none,none] n0 _;refine jaj (jcl ?_);dsimp only[A3];refine jaj ?_;unfold sFor jbb;refine jab rfl ?_;dsimp only[pgD];refine jar (StI ps m n0) (λδ n I=>?_) (λd r δ n N I kN=>?_) _ _ _ ⟨[],ps,none,none,none,none,rfl,rfl,rfl,A4 _,λi P hi=>absurd hi (Nat.not_lt_zero _),by rw[Ae];omega⟩
 ·obtain⟨hs,re,x4,x5,x6,x7,rfl,er,hre,hle,hok,hn⟩:=I;have e0:=Ck.mp er.symm;rw[e0]at hre;have hlen:ps.length<=hs.length:=List.drop_eq_nil_iff.mp hre.symm;dsimp only;refine jfu rfl ?_;dsimp only[A3];refine jaz (ja2 (b1_i (jab rfl (c2_i (jab rfl (jab rfl (Dh m ⟨rfl,hm,by simp at hn;omega,λns n' hns hn'=>?_⟩)))))));exact Aj (show 2<=1000 by decide) (k hs ns n' ⟨by omega,λi P hi=>hok i P (by have:=(Bn.mp hi).1;omega) hi⟩ hns (by simp at hn;omega))
 ·obtain⟨hs,re,x4,x5,x6,x7,rfl,er,hre,hle,hok,hn⟩:=I;obtain⟨P,re',rfl,rfl,rfl⟩:=Ce.mp er.symm;rw[Ar,Ae]at hn;have hlt:hs.length < ps.length:=by
   have:=congrArg List.length hre;rw[Ar,List.length_drop]at this;omega
  have hcons:=Eu hlt;rw[<-hre]at hcons;obtain⟨hP,hre'⟩:=List.cons.inj hcons;have hPg:ps[hs.length]?=some P:=by rw[Al hlt,hP]
  obtain⟨g1,g2,g3⟩:=hps P (By hPg);dsimp only[jac,A3];refine jaj (show sSet 5 _ _ _ _ from jcy (m:=(P.map blD).length) rfl (λQ q=>b1_i (jab rfl q)) (by omega) (by rw[Ae];omega) (by rw[Ae];omega) λr r0 r1=>?_);rw[Ae]at r1;obtain⟨b,hb⟩:∃b:Nat,r=(b:Int):=⟨r.toNat,by omega⟩;subst hb;have hbl:b < P.length:=by omega
  obtain⟨bl,hbl'⟩:∃bl:Bl,P[b]?=some bl:=⟨P[b],Al hbl⟩;obtain⟨w,as⟩:=bl;have hi':(P.map blD)[b]?=some (blD (w,as)):=by rw[A0,hbl'];rfl
  obtain⟨ob,_⟩:=g3 (w,as) (By hbl');have has:as.length<=8:=ob.2.2.1;dsimp only[A3];refine jaj (show sSet 6 _ _ _ _ from jcy (m:=((as.map Ac.d).length:Int)+1) rfl (λQ q=>w2_i (b1_i (w2_i (w2_i (jab rfl (jab rfl (gN_i hi' (c_i (g1_i ?_)))))))) ) (by omega) (by omega) (by rw[Ae];omega) λr r0' r1'=>?_)
  ·exact addI q
  rw[Ae]at r1';obtain⟨p,hp⟩:∃p:Nat,r=(p:Int):=⟨r.toNat,by omega⟩;subst hp;dsimp only[A3];refine jaj (show sSet 7 _ _ _ _ from b1_i (of_i ?_));unfold ja9 jbt;dsimp only;refine c3_i (jab rfl (jab rfl (jab rfl (Dh P ⟨b,p,(w,as),rfl,hbl',ob,by show p<=as.length;omega,λys hnd hyo hup hmem=>?_⟩))));have hys:ys.length<=36:=A5 (jit hnd λz hz=>(hmem z).mp hz) (jxm ob p);dsimp only;refine jo5 ys [] none _ (by omega) (λp hp=>by simp at hp) λnm n' hnm hnv hn'=>?_;rw[List.map_nil,Ec]at hnm;have hnl:nm.length=ys.length:=by rw[<-hnm,Ae]
  have onm:okHn (w,as) (b,p,nm):=⟨by show p<=as.length;omega,by show(nm.map (·.1)).Nodup;rw[hnm];exact hnd,λq hq=>⟨hyo _ (by rw[<-hnm];exact Bp.mpr ⟨q,hq,rfl⟩),hnv q hq⟩,(by have q:upT (nm.map (·.1)):=(by rw[hnm];exact hup);unfold upT at q;rw[List.pairwise_map]at q;exact q),λk=>by show k∈nm.map (·.1)↔_;rw[hnm];exact hmem k,by show nm.length<=40;omega⟩;dsimp only[jbh,A3];refine jhx rfl (jsy (jab rfl (jab rfl (jab rfl ?_))));refine Aj (show 3<=1000 by decide) (Aj (by rw[Ae];omega) (kN _ _ ⟨hs++[(b,p,nm)],re',_,_,_,_,by rw[Bu];rfl,rfl,by rw[As,Be];exact hre',by rw[As,Be];omega,λi P' hi hP'=>?_,by rw[Ae];omega⟩));rw[As,Be]at hi;by_cases z:i < hs.length
  ·obtain⟨h,b',q1,q2,q3⟩:=hok i P' z hP';exact⟨h,b',by rw[Et z];exact q1,q2,q3⟩
  ·have z':i=hs.length:=by omega
   subst z';rw[hPg]at hP';cases hP';exact⟨(b,p,nm),(w,as),by simp,hbl',onm⟩
theorem j0q:∀j:Fin 100,isV (.int ((j.val:Nat):Int))=true:=by decide +kernel
theorem V_of {i:Int} (h0:0<=i) (h1:i<=99):isV (.int i)=true:=by
 have:=j0q ⟨i.toNat,by omega⟩;rw[show((i.toNat:Nat):Int)=i by omega]at this;exact this
theorem jra {α:Type} {c:DTT} {w:DT} {Q:List Ab->Int->Prop} {rest:Sl} (f g:α->Ab) (p:α->Bool):∀(xs:List α) (acc:List Ab) (x:Option SV) (n:Int),(∀a∈xs,∀(n:Int) (Q':Bool->Int->Prop),Q' (p a) n->c (some (.w (.d (f a)))::rest) n Q')->(∀a∈xs,∀(n:Int) (Q':DQ),Q' (.d (g a)) n->w (some (.w (.d (f a)))::rest) n Q')->Q (acc++(xs.filter p).map g) n->jbq (jac 0) c w Q (xs.map f) acc (x::rest) n
 |[],acc,x,n,_,_,q=>by rw[List.filter_nil,List.map_nil,B7]at q;exact q
 |a::r,acc,x,n,hp,h,q=>by
  simp only[Cj,jbq,jac,D8];refine hp a An n _ ?_;cases e:p a with
  |true =>
   simp only[if_true];refine h a An n _ (jra f g p r (acc++[g a]) _ n (λb hb=>hp b (Ak _ hb)) (λb hb=>h b (Ak _ hb)) ?_);rw[List.filter_cons,if_pos e,Cj]at q;rw[B1];exact q
  |false =>
   simp only[Bw,if_false];refine jra f g p r acc _ n (λb hb=>hp b (Ak _ hb)) (λb hb=>h b (Ak _ hb)) ?_;rw[List.filter_cons,if_neg (by rw[e];exact Am)]at q;exact q
theorem jyh {δ:Sl} {n:Int} {Q:Bool->Int->Prop} (q:Q true n):cYes δ n Q:=q
theorem ju3 {α:Type} {w:DT} {Q:List Ab->Int->Prop} {rest:Sl} (f g:α->Ab) (xs:List α) (x:Option SV) (n:Int) (h:∀a∈xs,∀(n:Int) (Q':DQ),Q' (.d (g a)) n->w (some (.w (.d (f a)))::rest) n Q') (q:Q (xs.map g) n):jbq (jac 0) cYes w Q (xs.map f) [] (x::rest) n:=by
 refine jra f g (λ_=>true) xs [] x n (λa _ n Q' q=>jyh q) h ?_;rw[Ec,List.filter_eq_self.mpr λ_ _=>rfl];exact q
theorem jq1 {ds:List Ab} {n:Int} {Q:DQ} (k:Q (.d (.tuple ds)) n):jbh [.d (.list ds)] n Q:=k
section
variable {δ:Sl} {n:Int} {Q:DQ} {K:DEnds} {i:Nat}
theorem jj1 {kvs:List (TK×Ab)} (h:δ[i]?=some (some (.odx kvs))) (k:Q (.dx kvs) n):ja0 i δ n Q:=by unfold ja0;rw[h];exact k
theorem jnv {kvs:List (TK×Ab)} (h:δ[i]?=some (some (.w (.dx kvs)))) (k:Q (.dx kvs) n):ja0 i δ n Q:=by unfold ja0;rw[h];exact k
theorem ji2 {wd wy:DT} {m:List Ct} {r:List Ab} {e:Ab} (hd:∀Q:DQ,Q (.dx (mY m)) n->wd δ n Q) (hy:∀Q:DQ,Q (.d (.tuple r)) n->wy δ n Q) (hm:∀c∈m,okR c.1) (hr:okR r) (k:Q (.d ((lkC m r).getD e)) n):jdh wd wy (wC e) δ n Q :=
 hd _ ⟨_,rfl,hy _ (c_i ⟨_,_,_,rfl,ju9 hr,rfl,by rw[jkh hr hm];exact k⟩)⟩
theorem jme {wd wy:DT} {m:List Ct} {r:List Ab} {v:Ab} (hd:∀Q:DQ,Q (.dx (mY m)) n->wd δ n Q) (hy:∀Q:DQ,Q (.d (.tuple r)) n->wy δ n Q) (hm:∀c∈m,okR c.1) (hr:okR r) (hv:lkC m r=some v) (k:Q (.d v) n):w2 wd wy jhj δ n Q :=
 hd _ (hy _ ⟨_,_,_,_,rfl,rfl,ju9 hr,by rw[jkh hr hm];exact hv,k⟩)
theorem jnq {wy wv:DT} {m:List Ct} {r:List Ab} {v:Ab} {n1:Int} (hv:∀Q:DQ,Q (.d v) n1->wv δ n Q) (hi:δ[i]?=some (some (.odx (mY m)))) (hy:∀Q:DQ,Q (.d (.tuple r)) n1->wy δ n1 Q) (hm:∀c∈m,okR c.1) (hr:okR r) (hl:m.length < 1000) (k:K.nx (δ.set i (some (.odx (mY (putC m r v))))) n1):jlk i wy wv δ n K :=
 hv _ ⟨_,hi,hy _ ⟨_,_,_,rfl,rfl,ju9 hr,by unfold mY;rw[Ae];exact hl,by rw[jr4 hr hm];exact k⟩⟩
theorem jxf (k:K.nx (δ.set i (some (.odx (mY [])))) n):jp4 i δ n K:=k
theorem jgf (m:List Ct):(mY m).length=m.length:=by unfold mY;rw[Ae]
theorem jg9 {m:List Ct} (h:∀c∈m,okR c.1):(mY m).map (λq=>q.1.1)=m.map λc=>Cn c.1:=by
 unfold mY;rw[Dt];exact Ew λc hc=>jll (h c hc)
end
theorem jr5 {m:List Ct}:((srt (ltC m) m.length).map λi=>(m.map λc=>Cn c.1).getD i .none)=(ordR m).map .tuple:=by
 unfold ordR;rw[Dt];refine Ew λi hi=>?_;have hl:=C2.mp ((jm3 _ _).mem_iff.mp hi);show _=Cn ((rwsO m).getD i []);unfold rwsO;rw[Cq,Cq,A0,A0,Al hl];rfl
theorem jiu {b:Nat} {m:List Ct} (h:okM b m) {r:List Ab} (hr:r∈ordR m):okW r/\lkC m r=some (lkN m r):=by
 have:=jt7 hr;obtain⟨v,hv⟩:=jod this;refine⟨?_,by unfold lkN;rw[hv];rfl⟩;obtain⟨c,hc,rfl⟩:=Bp.mp this;exact h.rw c hc
theorem jg5 {b:Nat} {m:List Ct} (h:okM b m):okM b (ordC m):=by
 refine⟨by unfold ordC;rw[Ae,jn0];exact h.ln,λc hc=>?_,λc hc=>?_⟩
 ·obtain⟨r,hr,rfl⟩:=Bp.mp hc;exact(jiu h hr).1
 ·obtain⟨r,hr,rfl⟩:=Bp.mp hc;exact h.ct _ (jem (jiu h hr).2)
theorem js0 {b:Nat} {m:List Ct} (h:okM b m):okM b (tolC m):=by
 have hm:∀c∈tolC m,c∈ordC m:=λc hc=>by
  obtain⟨r,hr,rfl⟩:=Bp.mp hc;exact Bp.mpr ⟨r,(Fs.mp hr).1,rfl⟩
 refine⟨?_,λc hc=>(jg5 h).rw c (hm c hc),λc hc=>(jg5 h).ct c (hm c hc)⟩;unfold tolC;rw[Ae];exact A5 (List.length_filter_le _ _) (by rw[jn0];exact h.ln)
theorem jsz {k:Nat} {m:List Ct} (h:Cnt k m) (hk:k<=99):tolC m=ordC m:=by
 unfold tolC ordC;rw[List.filter_eq_self.mpr λr hr=>?_];obtain⟨j,e,h1,_⟩:=h.ct _ (jem (jiu (h.m hk) hr).2);have e:lkN m r=.int j:=e;rw[e];show(!decide ((j:Int)=0))=true;rw[decide_eq_false (by omega)];rfl
def Sm (k w:Nat) (d:Ab):Prop:=B3 d=true/\Cc d<=k/\PyData.weight d<=w/\Ff 13 d=true/\Ez d=true
theorem Sm.small {k w:Nat} {d:Ab} (h:Sm k w d) (hk:k<=20) (hw:w<=2 ^ 20):Small d:=⟨h.1,by have:=h.2.1;omega,by have:=h.2.2.1;omega,h.2.2.2⟩
theorem jrx {k w:Nat}:∀ds:List Ab,(∀d∈ds,Sm k w d)->Bz ds=true/\B5 ds<=k/\PyData.weightAll ds<=(w+1)*ds.length/\PyData.intsShortAll 13 ds=true/\PyData.showableAll ds=true
 |[],_=>⟨rfl,A4 _,A4 _,rfl,rfl⟩
 |d::r,h=>by
  obtain⟨a1,a2,a3,a4,a5⟩:=jrx r λx hx=>h x (Ak _ hx);obtain⟨b1,b2,b3,b4,b5⟩:=h d An;refine⟨?_,?_,?_,?_,?_⟩
  ·rw[Bz,a1,b1];rfl
  ·rw[B5];omega
  ·rw[PyData.weightAll,Ar,Nat.mul_succ];omega
  ·rw[PyData.intsShortAll,a4,b4];rfl
  ·rw[PyData.showableAll,a5,b5];rfl
theorem jf8 {k w m:Nat} {ds:List Ab} (h:∀d∈ds,Sm k w d) (hl:ds.length<=m):Sm (k+1) ((w+1)*m) (.tuple ds):=by
 obtain⟨a1,a2,a3,a4,a5⟩:=jrx ds h;have:=Nat.mul_le_mul_left (w+1) hl;refine⟨by rw[B3];exact a1,by rw[Cc];omega,by rw[PyData.weight];omega,by rw[Ff];exact a4,by rw[Ez];exact a5⟩
theorem Sm.up {k w k' w':Nat} {d:Ab} (h:Sm k w d) (hk:k<=k') (hw:w<=w'):Sm k' w' d:=⟨h.1,A5 h.2.1 hk,A5 h.2.2.1 hw,h.2.2.2⟩
theorem jf7 {d:Ab} (h:isV d=true):Sm 0 20 d:=by
 cases d with
 |str x =>
  have h:(decide (x.length<=8)&&D7 x)=true:=h;rw[Bs]at h;have h1:x.cps.size<=8:=of_decide_eq_true h.1;refine⟨?_,by rw[Cc];exact Ao _,?_,by rw[Ff],by rw[Ez]⟩
  ·rw[B3];exact h.2
  ·rw[PyData.weight];omega
 |int i =>
  simp only[isV,Bs,decide_eq_true_eq]at h;exact⟨by rw[B3],by rw[Cc];exact Ao _,h.2.2.1,h.2.2.2.1,h.2.2.2.2⟩
 |_=>cases h
theorem jv1 {x:Str} (h:okX x):Sm 0 20 (.str x):=jf7 (by show(decide (x.length<=8)&&D7 x)=true;rw[decide_eq_true (A5 h.1 (by decide)),h.2];rfl)
theorem jm9 {a b:Ab} {k w:Nat} (ha:Sm k w a) (hb:Sm k w b):Sm (k+1) ((w+1)*2) (.tuple [a,b]):=jf8 (λd hd=>by
 simp only[Ax,A6,or_false]at hd;rcases hd with rfl | rfl
 ·exact ha
 ·exact hb) (Ao _)
theorem jp0 {nm:Nm} (h:∀p∈nm,okV p) (hl:nm.length<=40):Sm 2 1720 (jr9 nm):=(jf8 (k:=1) (w:=42) (m:=40) (ds:=nm.map jqm) (λd hd=>by
 obtain⟨p,hp,rfl⟩:=Bp.mp hd;exact jm9 (jv1 (h p hp).1) (jf7 (h p hp).2)) (by rw[Ae];exact hl)).up (Ao _) (by decide)
theorem jtj {h:Hn} (h1:h.1<=99) (h2:h.2.1<=99) (ho:∀p∈h.2.2,okV p) (hl:h.2.2.length<=40):Sm 3 5163 (hnD h):=jf8 (k:=2) (w:=1720) (m:=3) (λd hd=>by
 simp only[Ax,A6,or_false]at hd;rcases hd with rfl | rfl | rfl
 ·exact(jf7 (V_of (by omega) (by omega))).up (by decide) (by decide)
 ·exact(jf7 (V_of (by omega) (by omega))).up (by decide) (by decide)
 ·exact jp0 ho hl) (Ao _)
theorem jha:∀ws n Q,jjg ws n Q->ws.length=1:=λws n Q h=>by obtain⟨_,rfl,_⟩:=h;rfl
theorem jfy:∀ws n Q,jjg ws n Q->je6 (jap ["value"] ws) n {nx:=λ_ n=>Q (.d .none) n,rt:=Q}:=λws n Q h=>by
 obtain⟨v,rfl,hv,q⟩:=h;show je6 [some (.w (.d v))] n _;cases v with
 |int i=>exact jaj (if_y (λQ q=>ct_b (k:=true) (λQ q=>jab rfl q) q) (jaz (ja2 (c_i (jab rfl (Aj (show 2<=1000 by decide) q))))))
 |str x =>
  refine jaj (if_n (λQ q=>ct_b (k:=false) (λQ q=>jab rfl q) q) ?_);dsimp only[ja8];exact jaz (ja2 (c_i (jab rfl (Aj (show 2<=1000 by decide) q))))
 |_=>cases hv
theorem jj5:∀ws n Q,jdt ws n Q->ws.length=1:=λws n Q h=>by obtain⟨_,rfl,_⟩:=h;rfl
theorem ji8:∀ws n Q,jdt ws n Q->jjf (jap ["row"] ws) n {nx:=λ_ n=>Q (.d .none) n,rt:=Q}:=λws n Q h=>by
 obtain⟨r,rfl,hr,q⟩:=h;show jjf [some (.w (.d (.tuple r)))] n _;refine jaz (b1_i (of_i ?_));unfold ja9 jbb;refine jab rfl ?_;dsimp only;have:=ju3 (w:=jag jjg (jaa (wVar 0) aNil)) (Q:=λds n1=>jbh [.d (.list ds)] n1 Q) (rest:=[]) id kyD r none n (λv hv n Q' q'=>c1_i (jab rfl ⟨v,rfl,hr.2 v hv,q'⟩)) (jq1 q);rw[List.map_id]at this;exact this
theorem jiw:∀ws n Q,jh0 ws n Q->ws.length=1:=λws n Q h=>by obtain⟨_,rfl,_⟩:=h;rfl
theorem jht:∀ws n Q,jh0 ws n Q->jgn (jap ["rows"] ws) n {nx:=λ_ n=>Q (.d .none) n,rt:=Q}:=λws n Q h=>by
 obtain⟨m,rfl,hm,q⟩:=h;show jgn [some (.w (.d (.list (m.map λc=>.tuple c.1))))] n _;refine jaz (of_i (jab rfl ⟨_,m.map λc=>.tuple c.1,m.map λc=>kyR c.1,ltC m,rfl,rfl,?_,?_,jsf hm,?_,?_⟩))
 ·rw[Ae];have:=hm.ln;omega
 ·rw[Ae,Ae]
 ·intro i x d hx hd k Q0 q0;rw[A0]at hx hd;obtain⟨c,hc,rfl⟩:=C0.mp hx;rw[hc]at hd;cases hd;exact⟨c.1,rfl,hm.r c (By hc),q0⟩
 ·rw[Ae,jr5];exact q
theorem jyj {b:Nat} {m:List Ct} (hm:okM b m) {x:Option SV} {n:Int} {Q:DQ} {r:List Ab} (hr:r∈ordR m) (q:Q (.d (ctD (r,lkN m r))) n):wTup (jaa (wVar 0) (jaa (w2 (ja0 1) (wVar 0) jhj) aNil)) [some (.w (.d (.tuple r))),some (.w (.dx (mY m)))] n Q:=by
 obtain⟨ow,ov⟩:=jiu hm hr;exact ja2 (jab rfl (jme (λQ q=>jnv rfl q) (λQ q=>jab rfl q) hm.r ow.1 ov (Aj (show 2<=1000 by decide) q)))
theorem jhb:∀ws n Q,jro ws n Q->ws.length=1:=λws n Q h=>by obtain⟨_,rfl,_⟩:=h;rfl
theorem jfz:∀ws n Q,jro ws n Q->je7 (jap ["having"] ws) n {nx:=λ_ n=>Q (.d .none) n,rt:=Q}:=λws n Q h=>by
 obtain⟨m,rfl,hm,q⟩:=h;show je7 [some (.w (.dx (mY m)))] n _;refine jaz (b1_i (of_i ?_));unfold ja9 jbt;refine c1_i (of_i (jnv rfl ⟨_,rfl,by rw[jgf];have:=hm.ln;omega,?_⟩));rw[jg9 hm.r];refine⟨m,rfl,hm,?_⟩;dsimp only;refine ju3 (w:=wTup (jaa (wVar 0) (jaa (w2 (ja0 1) (wVar 0) jhj) aNil))) (Q:=λds n1=>jbh [.d (.list ds)] n1 Q) (rest:=[some (.w (.dx (mY m)))]) Cn (λr=>ctD (r,lkN m r)) (ordR m) none n (λr hr n Q' q'=>jyj hm (x:=none) hr q') (jq1 ?_);unfold csD ordC at q;rw[Dt]at q;exact q
def EofI (h:Ab) (ns:List Nt) (n0:Int) (ds:List Ab) (δ:Sl) (n:Int):Prop:=∃(re:List Nt) (m:List Ct) (k:Nat) (x:Option SV),δ=[some (.w (.d (.tuple [h,nsD ns]))),some (.odx (mY m)),x]/\ds=re.map ntD/\re.foldl cntS m=cntC ns/\Cnt k m/\k+re.length<=30/\(∀q∈re,okQ q)/\n=n0
theorem jxw {j:Nat} {n:Int} {Q:DQ} (k:Q (.d (incD (.int j))) n):gI0 (λi j=>.int (i+j)) (.d (.int j)) (.d (.int 1)) n Q:=k
theorem jix:∀ws n Q,jpl ws n Q->ws.length=1:=λws n Q h=>by obtain⟨_,_,rfl,_⟩:=h;rfl
theorem jhu:∀ws n Q,jpl ws n Q->jgo (jap ["stand","having","note"] ws) n {nx:=λ_ n=>Q (.d .none) n,rt:=Q}:=λws n0 Q h=>by
 obtain⟨h,ns,rfl,hns,q⟩:=h;show jgo [some (.w (.d (.tuple [h,nsD ns]))),none,none] n0 _;refine jaj (jxf ?_);dsimp only[A3];refine jaj ?_;unfold sFor jbb;refine w2_i (jab rfl (c_i (g1_i ?_)));dsimp only[nsD];refine jar (EofI h ns n0) (λδ n I=>?_) (λd r δ n N I kN=>?_) _ _ _ ⟨ns,[],0,none,rfl,rfl,rfl,⟨Ao _,λc hc=>(nomatch hc),E9,λc hc=>(nomatch hc)⟩,by have:=hns.1;omega,hns.2,rfl⟩
 ·obtain⟨re,m,k,x,rfl,er,hf,hc,hk,hq,rfl⟩:=I;have e0:=Ck.mp er.symm;subst e0;cases(show m=cntC ns from hf);have om:okM 40 (cntC ns):=by
   have:=hc.m (by omega);exact⟨A5 this.ln (by omega),this.rw,this.ct⟩
  dsimp only;exact jaz (ja2 (w2_i (jab rfl (c_i (g0_i (c1_i (jj1 rfl ⟨_,rfl,om,Aj (show 2<=1000 by decide) q⟩)))))))
 ·obtain⟨re,m,k,x,rfl,er,hf,hc,hk,hq,rfl⟩:=I;obtain⟨q',re',rfl,rfl,rfl⟩:=Ce.mp er.symm;rw[Ar]at hk;dsimp only[jac,A3];have oq:=hq q' An;obtain⟨j,ej,hj⟩:=hc.at q'.1;have om:=hc.m (by omega:k<=99);refine jnq (m:=m) (r:=q'.1) (v:=incD (.int j)) (λQ q=>w2_i (ji2 (m:=m) (r:=q'.1) (λQ q=>jj1 rfl q) (λQ q=>w2_i (jab rfl (c_i (g0_i q)))) om.r oq.1.1 (by rw[ej];exact c_i (jxw q)))) rfl (λQ q=>w2_i (jab rfl (c_i (g0_i q)))) om.r oq.1.1 (by have:=om.ln;omega) (kN _ _ ?_);exact⟨re',cntS m q',k+1,_,by unfold cntS;rw[ej];rfl,rfl,hf,hc.step oq,by omega,λz hz=>hq z (Ak _ hz),rfl⟩
section
variable {δ:Sl} {n:Int} {Q:DQ}
theorem jva {u v:DT} {a b:Bool} (hu:∀Q:DQ,Q (.d (.bool a)) n->u δ n Q) (hv:a=true->∀Q:DQ,Q (.d (.bool b)) n->v δ n Q) (k:Q (.d (.bool (a&&b))) n):wAnd u v δ n Q:=by
 refine hu _ ?_;cases a with
 |true=>exact hv rfl _ k
 |false=>exact k
end
theorem jfn:∀ws n Q,jpk ws n Q->ws.length=2:=λws n Q h=>by obtain⟨_,_,rfl,_⟩:=h;rfl
theorem jex:∀ws n Q,jpk ws n Q->jdm (jap ["many","most"] ws) n {nx:=λ_ n=>Q (.d .none) n,rt:=Q}:=λws n Q h=>by
 obtain⟨a,b,rfl,ha,hb,q⟩:=h;show jdm [some (.w (.d a)),some (.w (.d b))] n _;rcases hb with rfl | ⟨k,rfl,_⟩
 ·exact jaj (if_y (λQ q=>ct_b (k:=true) (λQ q=>w2_i (jab rfl (c_i q))) q) (jaz (c_i q)))
 ·refine jaj (if_n (λQ q=>ct_b (k:=false) (λQ q=>w2_i (jab rfl (c_i q))) q) ?_);dsimp only[ja8];refine jaz ?_;rcases ha with rfl | ⟨j,rfl,_⟩
  ·exact jva (a:=false) (b:=false) (λQ q=>w2_i (jab rfl (c_i q))) (λz=>nomatch z) q
  ·exact jva (a:=true) (b:=decide ((j:Int)<=k)) (λQ q=>w2_i (jab rfl (c_i q))) (λ_ Q q=>w2_i (jab rfl (jab rfl q))) q
def HnmI (cs m:List Ct) (n0:Int) (ds:List Ab) (δ:Sl) (n:Int):Prop:=∃(re:List Ct) (x y:Option SV),δ=[some (.w (.d (csD cs))),some (.w (.dx (mY m))),x,y]/\ds=re.map ctD/\(∀c∈re,c∈cs)/\hnmB re m=hnmB cs m/\n=n0
theorem jd9 (c:Ct) (re m:List Ct):hnmB (c::re) m=(nomB c.2 ((lkC m c.1).getD (.int 0))&&hnmB re m):=List.all_cons
theorem jmd:okCt (.int 0):=.inr ⟨0,rfl,by decide⟩
theorem jen:∀ws n Q,jrn ws n Q->ws.length=2:=λws n Q h=>by obtain⟨_,_,rfl,_⟩:=h;rfl
theorem jd7:∀ws n Q,jrn ws n Q->jc2 (jap ["counts","having","row","many"] ws) n {nx:=λ_ n=>Q (.d .none) n,rt:=Q}:=λws n0 Q h=>by
 obtain⟨cs,m,rfl,oc,om,q⟩:=h;show jc2 [some (.w (.d (csD cs))),some (.w (.dx (mY m))),none,none] n0 _;refine jaj ?_;unfold sFor jbb;refine jab rfl ?_;dsimp only[csD];refine jar (HnmI cs m n0) (λδ n I=>?_) (λd r δ n N I kN=>?_) _ _ _ ⟨cs,none,none,rfl,rfl,λ_ h=>h,rfl,rfl⟩
 ·obtain⟨re,x,y,rfl,er,_,hf,rfl⟩:=I;have e0:=Ck.mp er.symm;subst e0;dsimp only;refine jaz (c_i ?_);rw[<-hf]at q;exact q
 ·obtain⟨re,x,y,rfl,er,hin,hf,rfl⟩:=I;obtain⟨c,re',rfl,rfl,rfl⟩:=Ce.mp er.symm;refine Aj rfl ?_;dsimp only[jav,jb1,jac,A3];have hc:=hin c An;have call:∀Q:DQ,Q (.d (.bool (nomB c.2 ((lkC m c.1).getD (.int 0))))) n->jag jpk (jaa (wVar 3) (jaa (jdh (ja0 1) (wVar 2) (wC (.int (0)))) aNil)) [some (.w (.d (csD cs))),some (.w (.dx (mY m))),some (.w (.d (.tuple c.1))),some (.w (.d c.2))] n Q:=λQ q =>
   c2_i (jab rfl (ji2 (m:=m) (r:=c.1) (λQ q=>jnv rfl q) (λQ q=>jab rfl q) om.r (oc.rw c hc).1 ⟨_,_,rfl,oc.ct c hc,om.lk _ jmd,q⟩))
  cases e:nomB c.2 ((lkC m c.1).getD (.int 0))with
  |true =>
   rw[e]at call;refine if_n (λQ q=>jsk (k:=true) (λQ q=>ct_b (k:=true) call q) q) (kN _ _ ⟨re',_,_,rfl,rfl,λz hz=>hin z (Ak _ hz),?_,rfl⟩);rw[<-hf,jd9,e];rfl
  |false =>
   rw[e]at call;refine if_y (λQ q=>jsk (k:=false) (λQ q=>ct_b (k:=false) call q) q) (jaz (c_i ?_));rw[<-hf,jd9,e]at q;exact q
theorem j0h {cs:List Ct} (h:∀c∈cs,okR c.1):csD cs=.tuple ((mY cs).map λp=>.tuple [p.1.1,p.2]):=by
 unfold csD mY;rw[Dt];refine congrArg Cn (Ew λc hc=>?_);show Cn [.tuple c.1,c.2]=Cn [(rk c.1).1,c.2];rw[jll (h c hc)]
theorem jsb:∀(cs a:List Ct),(∀c∈cs,okR c.1)->(∀c∈a,okR c.1)->(mY cs).foldl (λacc p=>putY acc p.1 p.2) (mY a)=mY (cs.foldl (λacc c=>putC acc c.1 c.2) a)
 |[],_,_,_=>rfl
 |c::cs,a,h,ha=>by
  show(mY cs).foldl _ (putY (mY a) (rk c.1) c.2)=_;rw[jr4 (h c An) ha];exact jsb cs _ (λx hx=>h x (Ak _ hx)) λx hx=>(jek hx).elim (ha x) λe=>e▸h c An
theorem job {b:Nat}:∀(cs a:List Ct),(∀c∈cs,okW c.1/\okCt c.2)->okM b a->okM (b+cs.length) (cs.foldl (λacc c=>putC acc c.1 c.2) a)
 |[],_,_,ha=>ha
 |c::cs,a,h,ha=>by
  have:=job (b:=b+1) cs _ (λx hx=>h x (Ak _ hx)) (ha.put (h c An).1 (h c An).2);rw[Ar,show b+(cs.length+1)=b+1+cs.length by omega];exact this
theorem jsa {b:Nat} {cs:List Ct} (h:okM b cs):okM b (mrgC cs):=by
 have:=job (b:=0) cs [] (λc hc=>⟨h.rw c hc,h.ct c hc⟩) ⟨Ao _,λc hc=>(nomatch hc),λc hc=>(nomatch hc)⟩;exact⟨A5 this.ln (by have:=h.ln;omega),this.rw,this.ct⟩
theorem jsi {δ:Sl} {n:Int} {Q:DQ} {w:DT} {cs:List Ct} {b:Nat} (oc:okM b cs) (hb:b<=1000) (hw:∀Q:DQ,Q (.d (csD cs)) n->w δ n Q) (k:Q (.dx (mY (mrgC cs))) n):jkf w δ n Q:=by
 refine hw _ ⟨mY cs,by rw[j0h oc.r],λp hp=>?_,by rw[jgf];have:=oc.ln;omega,?_⟩
 ·obtain⟨c,hc,rfl⟩:=Bp.mp hp;exact⟨c.1,jll (oc.r c hc)⟩
 ·have:joc (mY cs)=mY (mrgC cs):=jsb cs [] oc.r λc hc=>(nomatch hc);rw[this];exact k
theorem joh:∀ws n Q,jf3 ws n Q->ws.length=2:=λws n Q h=>by obtain⟨_,_,_,_,rfl,_⟩:=h;rfl
theorem jl9:∀ws n Q,jf3 ws n Q->jpi (jap ["one","other"] ws) n {nx:=λ_ n=>Q (.d .none) n,rt:=Q}:=λws n Q h=>by
 obtain⟨h,cs,h',cs',rfl,eh,eh',oc,oc',q⟩:=h;show jpi [some (.w (.d (.tuple [h,csD cs]))),some (.w (.d (.tuple [h',csD cs'])))] n _;refine jaz (jva (a:=Bk h h') (b:=hnmB cs (mrgC cs')) (λQ q=>w2_i (w2_i (jab rfl (c_i (g0_i (w2_i (jab rfl (c_i (g0_i ⟨eh.1,eh'.1,eh.2,eh'.2,_,rfl,q⟩))))))))) (λ_ Q q=>?_) q);exact c2_i (w2_i (jab rfl (c_i (g1_i (jsi oc' (by decide) (λQ q=>w2_i (jab rfl (c_i (g1_i q)))) ⟨cs,_,rfl,oc,jsa oc',q⟩)))))
theorem joi:∀ws n Q,jrp ws n Q->ws.length=2:=λws n Q h=>by obtain⟨_,_,_,_,rfl,_⟩:=h;rfl
theorem jt8 {ns:List Nt} (h:okNs 30 ns):okM 60 (ordC (cntC ns)):=by
 have c:=(jo9 h).m (by have:=h.1;omega);exact jg5 ⟨A5 c.ln (by have:=h.1;omega),c.rw,c.ct⟩
theorem jma:∀ws n Q,jrp ws n Q->jpj (jap ["stand","entry"] ws) n {nx:=λ_ n=>Q (.d .none) n,rt:=Q}:=λws n Q h=>by
 obtain⟨h,ns,h',cs',rfl,eh,eh',on,oc',q⟩:=h;show jpj [some (.w (.d (.tuple [h,nsD ns]))),some (.w (.d (.tuple [h',csD cs'])))] n _;exact jaz (c2_i (c1_i (jab rfl ⟨h,ns,rfl,on,jab rfl ⟨h,_,h',cs',rfl,eh,eh',jt8 on,oc',q⟩⟩)))
theorem jsg {b:Bool} {n:Int} {Q:DQ} (k:Q (.d (.int (if b then 1 else 0))) n):gInt [.d (.bool b)] n Q:=k
theorem jiy:∀ws n Q,jdt ws n Q->ws.length=1:=λws n Q h=>by obtain⟨_,rfl,_⟩:=h;rfl
theorem jhv:∀ws n Q,jdt ws n Q->jgp (jap ["_law_row"] ws) n {nx:=λ_ n=>Q (.d .none) n,rt:=Q}:=λws n Q h=>by
 obtain⟨r,rfl,hr,q⟩:=h;show jgp [some (.w (.d (.tuple r)))] n _;refine jaz (b1_i (of_i ?_));unfold ja9 jbb;refine jab rfl ?_;dsimp only;have:=ju3 (w:=wTup (jaa (wB gInt (jaa (wIsi "str" (wVar 0)) aNil)) (jaa (wVar 0) aNil))) (Q:=λds n1=>jbh [.d (.list ds)] n1 Q) (rest:=[]) id kyD r none n (λv hv n Q' q'=>?_) (jq1 q)
 ·rw[List.map_id]at this;exact this
 ·have hv:=hr.2 v hv;cases v with
  |int i=>exact ja2 (b1_i (jab rfl (jsg (b:=false) (jab rfl (Aj (show 2<=1000 by decide) q')))))
  |str x=>exact ja2 (b1_i (jab rfl (jsg (b:=true) (jab rfl (Aj (show 2<=1000 by decide) q')))))
  |_=>cases hv
def LcnI (ns:List Nt) (n0:Int) (ds:List Ab) (δ:Sl) (n:Int):Prop:=∃(re:List Nt) (m:List Ct) (k:Nat) (x y:Option SV),δ=[some (.w (.d (nsD ns))),some (.odx (mY m)),x,y]/\ds=re.map ntD/\re.foldl cntS m=cntC ns/\Cnt k m/\k+re.length<=30/\(∀q∈re,okQ q)/\n=n0
theorem jd4:∀ws n Q,jji ws n Q->ws.length=1:=λws n Q h=>by obtain⟨_,rfl,_⟩:=h;rfl
theorem jdf:∀ws n Q,jji ws n Q->jch (jap ["_law_notes_here","_law_found","_law_row","_law_age"] ws) n {nx:=λ_ _=>False,rt:=λ_ _=>False,rx:=Q}:=λws n0 Q h=>by
 obtain⟨ns,rfl,hns,q⟩:=h;show jch [some (.w (.d (nsD ns))),none,none,none] n0 _;refine jaj (jxf ?_);dsimp only[A3];refine jaj ?_;unfold sFor jbb;refine jab rfl ?_;dsimp only[nsD];refine jar (LcnI ns n0) (λδ n I=>?_) (λd r δ n N I kN=>?_) _ _ _ ⟨ns,[],0,none,none,rfl,rfl,rfl,⟨Ao _,λc hc=>(nomatch hc),E9,λc hc=>(nomatch hc)⟩,by have:=hns.1;omega,hns.2,rfl⟩
 ·obtain⟨re,m,k,x,y,rfl,er,hf,hc,hk,hq,rfl⟩:=I;have e0:=Ck.mp er.symm;subst e0;cases(show m=cntC ns from hf);exact q
 ·obtain⟨re,m,k,x,y,rfl,er,hf,hc,hk,hq,rfl⟩:=I;obtain⟨q',re',rfl,rfl,rfl⟩:=Ce.mp er.symm;rw[Ar]at hk;refine Aj rfl ?_;dsimp only[jav,jb1,jac,A3];have oq:=hq q' An;obtain⟨j,ej,hj⟩:=hc.at q'.1;have om:=hc.m (by omega:k<=99);refine jnq (m:=m) (r:=q'.1) (v:=incD (.int j)) (λQ q=>w2_i (ji2 (m:=m) (r:=q'.1) (λQ q=>jj1 rfl q) (λQ q=>jab rfl q) om.r oq.1.1 (by rw[ej];exact c_i (jxw q)))) rfl (λQ q=>jab rfl q) om.r oq.1.1 (by have:=om.ln;omega) (kN _ _ ?_);exact⟨re',cntS m q',k+1,_,_,by unfold cntS;rw[ej];rfl,rfl,hf,hc.step oq,by omega,λz hz=>hq z (Ak _ hz),rfl⟩
theorem jzn {v:Ab} (hv:okCt v) {n:Int} {Q:DQ} (k:Q (.d (.bool (!isZ v))) n):gXX (λd e=>some (!Bk d e)) (.d v) (.d (.int 0)) n Q:=by
 rcases hv with rfl | ⟨j,rfl,_⟩
 ·exact⟨rfl,rfl,by decide,by decide,true,by simp[Bk],k⟩
 ·exact⟨rfl,rfl,A4 _,by decide,!decide ((j:Int)=0),by simp only[Bk];rfl,k⟩
theorem jhc:∀ws n Q,jfe ws n Q->ws.length=1:=λws n Q h=>by obtain⟨_,rfl,_⟩:=h;rfl
theorem jf0:∀ws n Q,jfe ws n Q->je8 (jap ["_law_found"] ws) n {nx:=λ_ n=>Q (.d .none) n,rt:=Q}:=λws n Q h=>by
 obtain⟨m,rfl,hm,q⟩:=h;show je8 [some (.w (.dx (mY m)))] n _;refine jaz (b1_i (of_i ?_));unfold ja9 jbt;refine of_i (jnv rfl ⟨_,m.map λc=>kyR c.1,ltC m,rfl,?_,?_,jsf hm,?_,?_⟩)
 ·rw[jgf];have:=hm.ln;omega
 ·rw[jgf,Ae]
 ·intro i x d hx hd k Q0 q0;rw[jg9 hm.r,A0]at hx;rw[A0]at hd;obtain⟨c,hc,rfl⟩:=C0.mp hx;rw[hc]at hd;cases hd;exact⟨c.1,rfl,hm.r c (By hc),q0⟩
 ·rw[jgf,jg9 hm.r,jr5];dsimp only;refine jra (w:=wTup (jaa (wVar 0) (jaa (w2 (ja0 1) (wVar 0) jhj) aNil))) (Q:=λds n1=>jbh [.d (.list ds)] n1 Q) (rest:=[some (.w (.dx (mY m)))]) Cn (λr=>ctD (r,lkN m r)) (λr=>!isZ (lkN m r)) (ordR m) [] none n (λr hr n Q' q'=>?_) (λr hr n Q' q'=>jyj hm (x:=none) hr q') (jq1 ?_)
  ·obtain⟨ow,ov⟩:=jiu hm hr;exact ct_b (k:=!isZ (lkN m r)) (λQ q=>w2_i (jme (λQ q=>jnv rfl q) (λQ q=>jab rfl q) hm.r ow.1 ov (c_i (jzn (hm.ct _ (jem ov)) q)))) q'
  ·unfold csD tolC at q;rw[Dt]at q;rw[Ec];exact q
theorem jfp:∀ws n Q,jf3 ws n Q->ws.length=2:=λws n Q h=>by obtain⟨_,_,_,_,rfl,_⟩:=h;rfl
def LunI (h:Ab) (cs:List Ct) (h':Ab) (cs':List Ct) (n0:Int) (ds:List Ab) (δ:Sl) (n:Int):Prop:=∃(re:List Ct) (x y z:Option SV),δ=[some (.w (.d (.tuple [h,csD cs]))),some (.w (.d (.tuple [h',csD cs']))),x,y,z]/\ds=re.map ctD/\(∀c∈re,c∈cs)/\hnmB re (mrgC cs')=hnmB cs (mrgC cs')/\n=n0
theorem jez:∀ws n Q,jf3 ws n Q->jdo (jap ["_law_one","_law_other","_law_row","_law_many","_law_most"] ws) n {nx:=λ_ n=>Q (.d .none) n,rt:=Q}:=λws n0 Q h=>by
 obtain⟨h,cs,h',cs',rfl,eh,eh',oc,oc',q⟩:=h;show jdo [some (.w (.d (.tuple [h,csD cs]))),some (.w (.d (.tuple [h',csD cs']))),none,none,none] n0 _;have ne:∀Q:DQ,Q (.d (.bool (!Bk h h'))) n0->w2 (w2 (wVar 0) (wC (.int (0))) gIx) (w2 (wVar 1) (wC (.int (0))) gIx) (gXX λd e=>some (!Bk d e)) [some (.w (.d (.tuple [h,csD cs]))),some (.w (.d (.tuple [h',csD cs']))),none,none,none] n0 Q:=λQ q =>
  w2_i (w2_i (jab rfl (c_i (g0_i (w2_i (jab rfl (c_i (g0_i ⟨eh.1,eh'.1,eh.2,eh'.2,_,rfl,q⟩))))))))
 unfold undB at q;cases e:Bk h h' with
 |false =>
  rw[e]at ne q;exact jaj (if_y (λQ q=>ct_b (k:=true) ne q) (jaz (c_i q)))
 |true =>
  rw[e]at ne q;refine jaj (if_n (λQ q=>ct_b (k:=false) ne q) ?_);clear ne e;dsimp only[ja8];refine jaj ?_;unfold sFor jbb;refine w2_i (jab rfl (c_i (g1_i ?_)));dsimp only[csD];refine jar (LunI h cs h' cs' n0) (λδ n I=>?_) (λd r δ n N I kN=>?_) _ _ _ ⟨cs,none,none,none,rfl,rfl,λ_ h=>h,rfl,rfl⟩
  ·obtain⟨re,x,y,z,rfl,er,_,hf,rfl⟩:=I;have e0:=Ck.mp er.symm;subst e0;dsimp only;refine jaz (c_i ?_);rw[<-hf]at q;exact q
  ·obtain⟨re,x,y,z,rfl,er,hin,hf,rfl⟩:=I;obtain⟨c,re',rfl,rfl,rfl⟩:=Ce.mp er.symm;refine Aj rfl ?_;dsimp only[jav,jb1,jac,A3];have hc:=hin c An;have om:=jsa oc';have ov:=om.lk (r:=c.1) _ jmd;refine jaj (show sSet 4 _ _ _ _ from ji2 (m:=mrgC cs') (r:=c.1) (λQ q=>jsi oc' (by decide) (λQ q=>w2_i (jab rfl (c_i (g1_i q)))) q) (λQ q=>jab rfl q) om.r (oc.rw c hc).1 ?_);dsimp only[A3];have nxt:nomB c.2 ((lkC (mrgC cs') c.1).getD (.int 0))=true->∀x y z,N [some (.w (.d (.tuple [h,csD cs]))),some (.w (.d (.tuple [h',csD cs']))),x,y,z] n:=λe x y z=>kN _ _ ⟨re',x,y,z,rfl,rfl,λz hz=>hin z (Ak _ hz),by rw[<-hf,jd9,e];rfl,rfl⟩;have bad:nomB c.2 ((lkC (mrgC cs') c.1).getD (.int 0))=false->Q (.d (.bool false)) n:=λe=>by
    rw[<-hf,jd9,e]at q;exact q
   clear q hf kN;generalize(lkC (mrgC cs') c.1).getD (.int 0)=v at ov nxt bad;have ow:=oc.ct c hc;generalize c.2=u at ow nxt bad;rcases ov with rfl | ⟨k,rfl,_⟩
   ·exact if_n (λQ q=>jyk (λQ q=>ct_b (k:=false) (λQ q=>w2_i (jab rfl (c_i q))) q) q) (nxt rfl _ _ _)
   ·rcases ow with rfl | ⟨j,rfl,_⟩
    ·exact if_y (λQ q=>jsl (λQ q=>ct_b (k:=true) (λQ q=>w2_i (jab rfl (c_i q))) q) (jq8 (λQ q=>ct_b (k:=true) (λQ q=>w2_i (jab rfl (c_i q))) q) q)) (jaz (c_i (bad rfl)))
    ·have cond:∀Q:Bool->Int->Prop,Q (decide ((j:Int) > k)) n->cAnd (cT (w2 (wVar 4) (wC .none) (gIsN true))) (cOr (cT (w2 (wVar 3) (wC .none) (gIsN false))) (cT (w2 (wVar 3) (wVar 4) gGt))) [some (.w (.d (.tuple [h,csD cs]))),some (.w (.d (.tuple [h',csD cs']))),some (.w (.d (.tuple c.1))),some (.w (.d (.int j))),some (.w (.d (.int k)))] n Q:=λQ q =>
      jsl (λQ q=>ct_b (k:=true) (λQ q=>w2_i (jab rfl (c_i q))) q) (jly (λQ q=>ct_b (k:=false) (λQ q=>w2_i (jab rfl (c_i q))) q) (ct_b (k:=decide ((j:Int) > k)) (λQ q=>w2_i (jab rfl (jab rfl q))) q))
     by_cases hjk:(j:Int)<=k
     ·rw[decide_eq_false (by omega)]at cond;exact if_n cond (nxt (decide_eq_true hjk) _ _ _)
     ·rw[decide_eq_true (by omega)]at cond;exact if_y cond (jaz (c_i (bad (decide_eq_false hjk))))
structure Ent (b:Nat) (m:List Ct):Prop where
 ln:m.length<=b
 rw:∀c∈m,okW c.1
 nd:(m.map (·.1)).Nodup
 ct:∀c∈m,∃j:Nat,c.2=.int j/\j<=30
theorem Ent.r {b:Nat} {m:List Ct} (h:Ent b m):∀c∈m,okR c.1:=λc hc=>(h.rw c hc).1
theorem Ent.at {b:Nat} {m:List Ct} (h:Ent b m) (r:List Ab):∃j:Nat,(lkC m r).getD (.int 0)=.int j/\j<=30:=by
 cases e:lkC m r with
 |none=>exact⟨0,rfl,by decide⟩
 |some v=>exact h.ct _ (jem e)
theorem Ent.put {b j:Nat} {m:List Ct} {r:List Ab} (h:Ent b m) (hr:okW r) (hj:j<=30):Ent (b+1) (putC m r (.int j)) :=
 ⟨A5 (jnz m r _) (Nat.succ_le_succ h.ln),λc hc=>(jek hc).elim (h.rw c) λe=>e▸hr,jw1 h.nd,λc hc=>(jek hc).elim (h.ct c) λe=>⟨j,by rw[e],hj⟩⟩
theorem Cnt.ent {k:Nat} {m:List Ct} (h:Cnt k m) (hk:k<=30):Ent k m:=⟨h.ln,h.rw,h.nd,λc hc=>by obtain⟨j,a,_,b⟩:=h.ct c hc;exact⟨j,a,by omega⟩⟩
theorem jt4 {m:List Ct} {r:List Ab} {v w:Ab} (h:lkC m r=some w):(putC m r v).length=m.length:=by
 unfold putC;rw[h,if_pos (show(some w).isSome=true from rfl),Ae]
def MorI (h:Ab) (ns ms:List Nt) (n0:Int) (ds:List Ab) (δ:Sl) (n:Int):Prop:=∃(re:List Nt) (m:List Ct) (b:Nat) (x y z:Option SV),δ=[some (.w .tp),some (.w (.d h)),some (.w (.d (nsD ns))),some (.w (.d (nsD ms))),some (.odx (mY m)),x,y,z]/\ds=re.map ntD/\Ent b m/\b+re.length<=24/\(∀q∈re,okQ q)/\n=n0
def ChgI (h:Ab) (ns ms:List Nt) (n0:Int) (ds:List Ab) (δ:Sl) (n:Int):Prop:=∃(re:List (List Ab)) (m:List Ct) (x y z:Option SV),δ=[some (.w .tp),some (.w (.d h)),some (.w (.d (nsD ns))),some (.w (.d (nsD ms))),some (.odx (mY m)),x,y,z]/\ds=re.map .tuple/\okM 24 m/\re.Nodup/\(∀r∈re,okW r/\∃j:Nat,lkC m r=some (.int j)/\j<=30)/\n+(re.length:Int)<=n0+24
theorem jyw {c:DTT} {a b:DT} {δ:Sl} {n:Int} {Q:DQ} (hc:∀Q:Bool->Int->Prop,Q true n->c δ n Q) (k:a δ n Q):wIf c a b δ n Q:=hc _ (by show if true=true then _ else _;rw[if_pos rfl];exact k)
theorem jyx {c:DTT} {a b:DT} {δ:Sl} {n:Int} {Q:DQ} (hc:∀Q:Bool->Int->Prop,Q false n->c δ n Q) (k:b δ n Q):wIf c a b δ n Q:=hc _ (by show if false=true then _ else _;rw[if_neg Am];exact k)
theorem j0o {w w':DT} {g:List Wv->Int->DQ->Prop} {δ:Sl} {n:Int} {Q:DQ} (k:w δ n λx n1=>w' δ n1 λy n2=>g [x,y] n2 Q):wB g (jaa w (jaa w' aNil)) δ n Q:=k
theorem mx_i {j:Int} {n:Int} {Q:DQ} (k:Q (.d (.int (if j > 0 then j else 0))) n):jlu true [.d (.int 0),.d (.int j)] n Q:=k
theorem jzj {i:Nat} {S:DSpX} {w:DT} {δ:Sl} {n:Int} {K:DEnds} (k:w δ n λx n1=>S [x] n1 λkvs n2=>K.nx (δ.set i (some (.odx kvs))) n2):jp3 i S (jaa w aNil) δ n K:=k
theorem jft:∀ws n Q,jjh ws n Q->ws.length=4:=λws n Q h=>by obtain⟨_,_,_,rfl,_⟩:=h;rfl
theorem je3:∀ws n Q,jjh ws n Q->jds (jap ["_law_tape_here","_law_hands","_law_notes_here","_law_more","_law_found","_law_row","_law_age","_law_change"] ws) n {nx:=λ_ n=>Q (.d .none) n,rt:=Q}:=λws n0 Q h=>by
 obtain⟨h,ns,ms,rfl,on,om,hn0,k⟩:=h;show jds [some (.w .tp),some (.w (.d h)),some (.w (.d (nsD ns))),some (.w (.d (nsD ms))),none,none,none,none] n0 _;refine jaj (jzj (jab rfl ⟨ns,rfl,⟨A5 on.1 (by decide),on.2⟩,?_⟩));dsimp only[A3];refine jaj ?_;unfold sFor jbb;refine jab rfl ?_;dsimp only[nsD];have c0:=jo9 on;refine jar (MorI h ns ms n0) (λδ n I=>?_) (λd r δ n N I kN=>?_) _ _ _ ⟨ms,cntC ns,ns.length,none,none,none,rfl,rfl,c0.ent (by have:=on.1;omega),by have:=on.1;have:=om.1;omega,om.2,rfl⟩
 ·obtain⟨re,m,b,x,y,z,rfl,er,he,hb,_,rfl⟩:=I;have e0:=Ck.mp er.symm;subst e0;have hb:b<=24:=hb;dsimp only;refine jaj ?_;unfold jbt;refine of_i (jj1 rfl ⟨_,rfl,by rw[jgf];have:=he.ln;omega,?_⟩);rw[jg9 he.r,show(m.map λc=>Cn c.1)=(m.map (·.1)).map .tuple by rw[Dt];rfl];dsimp only;refine jar (ChgI h ns ms n) (λδ n' I=>?_) (λd r δ n' N I kN=>?_) _ _ _ ⟨m.map (·.1),m,x,y,z,rfl,rfl,⟨by have:=he.ln;omega,he.rw,λc hc=>by obtain⟨j,a,b⟩:=he.ct c hc;exact .inr ⟨j,a,by omega⟩⟩,he.nd,λr hr=>?_,by rw[Ae];have:=he.ln;omega⟩
  ·obtain⟨re,m',x',y',z',rfl,er',hm',_,_,hn'⟩:=I;have e0:=Ck.mp er'.symm;subst e0;dsimp only;have om':okM 60 m':=⟨A5 hm'.ln (by decide),hm'.rw,hm'.ct⟩;exact jaz (ja2 (jab rfl (c1_i (jj1 rfl ⟨m',rfl,om',Aj (show 2<=1000 by decide) (k (tolC m') n' (js0 om') (by simp at hn';omega))⟩))))
  ·obtain⟨re,m',x',y',z',rfl,er',hm',hnd,hre,hn'⟩:=I;obtain⟨r',re',rfl,rfl,rfl⟩:=Ce.mp er'.symm;rw[Ar]at hn';dsimp only[jac,A3];obtain⟨ow,j,hj,hj'⟩:=hre r' An;have hnd':=Dr.mp hnd;have fin:∀(v d:Ab),okCt v->N [some (.w .tp),some (.w (.d h)),some (.w (.d (nsD ns))),some (.w (.d (nsD ms))),some (.odx (mY (putC m' r' v))),some (.w (.d (.tuple r'))),y',some (.w (.d d))] (n'+1):=λv d hv =>
    kN _ _ ⟨re',putC m' r' v,_,_,_,rfl,rfl,⟨by rw[jt4 hj];exact hm'.ln,(hm'.put ow hv).rw,(hm'.put ow hv).ct⟩,hnd'.2,λr hr=>⟨(hre r (Ak _ hr)).1,by rw[jxj (show r≠r' from λe=>hnd'.1 (e▸hr))];exact(hre r (Ak _ hr)).2⟩,by omega⟩
   refine jaj (show sSet 7 _ _ _ _ from w2_i (of_i (show fLst _ _ _ _ from Aj (show 7<=1000 by decide) (jce (m:=7) rfl (by omega) (by decide) (by decide) λr r0 r1=>jgk (ds:=[.int 0,.int 0,.int 1,.int (-1),.none,.int 0,.int 2]) r0 r1 λd hd=>?_))));dsimp only[A3];have hl:m'.length < 1000:=by have:=hm'.ln;omega
   by_cases hdn:d=.none
   ·subst hdn;exact jnq (v:=.none) (λQ q=>jyw (λQ q=>ct_b (k:=true) (λQ q=>w2_i (jab rfl (c_i q))) q) (c_i q)) rfl (λQ q=>jab rfl q) hm'.r ow.1 hl (fin _ _ (.inl rfl))
   ·obtain⟨i,rfl,hi⟩:∃i:Int,d=.int i/\i<=2:=by
     simp only[Ax,A6,or_false]at hd;rcases hd with rfl | rfl | rfl | rfl | rfl | rfl | rfl
     ·exact⟨_,rfl,by decide⟩
     ·exact⟨_,rfl,by decide⟩
     ·exact⟨_,rfl,by decide⟩
     ·exact⟨_,rfl,by decide⟩
     ·exact absurd rfl hdn
     ·exact⟨_,rfl,by decide⟩
     ·exact⟨_,rfl,by decide⟩
    refine jnq (v:=.int (if (j:Int)+i > 0 then(j:Int)+i else 0)) (λQ q=>jyx (λQ q=>ct_b (k:=false) (λQ q=>w2_i (jab rfl (c_i q))) q) (j0o (c_i (w2_i (jme (m:=m') (r:=r') (λQ q=>jj1 rfl q) (λQ q=>jab rfl q) hm'.r ow.1 hj (jab rfl (addI (mx_i q)))))))) rfl (λQ q=>jab rfl q) hm'.r ow.1 hl (fin _ _ (.inr ⟨((if (j:Int)+i > 0 then(j:Int)+i else 0).toNat),?_,?_⟩))
    ·congr 1
     split<;>omega
    ·split<;>omega
  ·obtain⟨v,hv⟩:=jod hr;have hv':=jem hv;obtain⟨j,e,hj⟩:=he.ct _ hv';have e:v=.int j:=e;exact⟨he.rw _ hv',j,by rw[hv,e],hj⟩
 ·obtain⟨re,m,b,x,y,z,rfl,er,he,hb,hq,rfl⟩:=I;obtain⟨q',re',rfl,rfl,rfl⟩:=Ce.mp er.symm;rw[Ar]at hb;refine Aj rfl ?_;dsimp only[jav,jb1,jac,A3];have oq:=hq q' An;obtain⟨j,ej,hj⟩:=he.at q'.1;exact jnq (m:=m) (r:=q'.1) (v:=.int j) (λQ q=>ji2 (m:=m) (r:=q'.1) (λQ q=>jj1 rfl q) (λQ q=>jab rfl q) he.r oq.1.1 (by rw[ej];exact q)) rfl (λQ q=>jab rfl q) he.r oq.1.1 (by have:=he.ln;omega) (kN _ _ ⟨re',_,b+1,_,_,_,rfl,rfl,he.put oq.1 hj,by omega,λz hz=>hq z (Ak _ hz),rfl⟩)
theorem jo3 (xs:List Ab) (p:Nat):cutD xs none (some (p:Int))=xs.take p:=by
 unfold cutD;rw[HT.sIx_nat,HT.sIx_none,List.drop_zero,Nat.sub_zero];by_cases h:p<=xs.length
 ·rw[Nat.min_eq_left h]
 ·rw[Nat.min_eq_right (by omega),List.take_of_length_le (Ao _),List.take_of_length_le (by omega)]
section
variable {δ:Sl} {n:Int} {Q:DQ} {w u:DT} {ds i j:List Ab}
theorem jv2 {p:Nat} {n1:Int} (hw:∀Q:DQ,Q (.d (.tuple ds)) n->w δ n Q) (hu:∀Q:DQ,Q (.d (.int p)) n1->u δ n Q) (k:Q (.d (.tuple (ds.take p))) n1):jct w jg7 (jg6 u) δ n Q:=by
 unfold jct;refine hw _ ?_;dsimp only[jg7,jg6];refine hu _ ?_;dsimp only;rw[jo3];exact k
theorem jys (h:i.length+j.length<=1000000) (k:Q (.d (.tuple (i++j))) n):jot (.d (.tuple i)) (.d (.tuple j)) n Q:=by
 cases i with
 |nil=>exact k
 |cons a r=>exact⟨.inl (λz=>nomatch z),A5 h (by decide),k⟩
end
theorem jkn {ps:Pg} {hs:List Hn} (okp:okPg ps) (okh:okHs ps hs):Sm 4 25820 (.tuple (hs.map hnD)):=jf8 (k:=3) (w:=5163) (m:=5) (λd hd=>by
 obtain⟨h,hh,rfl⟩:=Bp.mp hd;obtain⟨i,hi⟩:=List.mem_iff_getElem?.mp hh;have hil:=(Bn.mp hi).1;have hil':i < ps.length:=by rw[<-okh.1];exact hil
 have hP:ps[i]?=some ps[i]:=Al hil';obtain⟨h',b,e1,e2,e3⟩:=okh.2 i _ hP;rw[hi]at e1;cases e1;have og:=okp.2 _ (By hP);have hb:=(Bn.mp e2).1;have ob:=(og.2.2 b (By e2)).1;have:=e3.pl;have:=ob.2.2.1;have:=og.2.1;exact jtj (by omega) (by omega) e3.ok e3.ln) (by rw[Ae,okh.1];exact okp.1)
theorem jy0 {v:Ab} (h:okCt v):Sm 0 20 v:=by
 rcases h with rfl | ⟨k,rfl,hk⟩
 ·exact⟨rfl,Ao _,by decide,rfl,rfl⟩
 ·exact jf7 (V_of (by omega) (by omega))
theorem jy1 {b:Nat} {cs:List Ct} (h:okM b cs) (hb:b<=60):Sm 3 10260 (csD cs):=jf8 (k:=2) (w:=170) (m:=60) (λd hd=>by
 obtain⟨c,hc,rfl⟩:=Bp.mp hd;exact jm9 (jf8 (k:=0) (w:=20) (m:=4) (λd hd=>jf7 ((h.rw c hc).1.2 d hd)) (h.rw c hc).1.1) ((jy0 (h.ct c hc)).up (by decide) (by decide))) (by rw[Ae];exact A5 h.ln hb)
theorem sma {d:Ab} (h:Small d):SmlA d:=⟨h.1,h.2.1,h.2.2.2.2,h.len⟩
theorem jpz (b:Bool):SmlA (.bool b):=by cases b<;>exact⟨by decide,by decide,by decide,by decide⟩
theorem jga {d:Ab} {n:Int} {Q:DQ} (h:SmlA d) (k:Q (.d (.str d.shown)) n):jcv [.d d] n Q:=⟨h,k⟩
theorem jj2 (x:Str) {n:Int} {Q:DQ} (k:Q (.d (.bool false)) n):gNe (.d (.str x)) (.d (.str x)) n Q:=by
 show Q (.d (.bool (!decide (x=x)))) n;rw[decide_eq_true rfl];exact k
section
variable {δ:Sl} {n:Int} {Q:DQ} {w u:DT} {ds:List Ab}
theorem drw {w:DT} {m:Int} (e1:δ[1]?=some (some (.w .tp))) (hw:∀Q:DQ,Q (.d (.int m)) n->w δ n Q) (h:n < 2 ^ 40) (h0:0 < m) (h1:m < 1073741824) (k:∀r:Int,0<=r->r < m->Q (.d (.int r)) (n+1)):jag jal (jaa (wVar 1) (jaa w aNil)) δ n Q:=c2_i (jab e1 (hw _ (jk0 h h0 h1 k)))
theorem jy2 {m:Nat} {n1:Int} (hw:∀Q:DQ,Q (.d (.tuple ds)) n->w δ n Q) (hu:∀Q:DQ,(∀p:Nat,p < m->Q (.d (.int p)) n1)->u δ n Q) (k:∀p:Nat,p < m->Q (.d (.tuple (ds.take p))) n1):jct w jg7 (jg6 u) δ n Q:=by
 unfold jct;refine hw _ ?_;dsimp only[jg7,jg6];refine hu _ λp hp=>?_;dsimp only;rw[jo3];exact k p hp
theorem jzw {a b:DT} {Q:List Ab->Int->Prop} (k:a δ n λx n1=>b δ n1 λy n2=>match jbw [x,y]with
  |some ds=>ds.length<=1000/\Q ds n2
  |none=>False):fLst (jaa a (jaa b aNil)) δ n Q:=k
theorem jzv {a b c:DT} {Q:List Ab->Int->Prop} (k:a δ n λx n1=>b δ n1 λy n2=>c δ n2 λz n3=>match jbw [x,y,z]with
  |some ds=>ds.length<=1000/\Q ds n3
  |none=>False):fLst (jaa a (jaa b (jaa c aNil))) δ n Q:=k
theorem jzu {a b c d e:DT} {Q:List Ab->Int->Prop} (k:a δ n λx n1=>b δ n1 λy n2=>c δ n2 λz n3=>d δ n3 λu n4=>e δ n4 λv n5=>match jbw [x,y,z,u,v]with
  |some ds=>ds.length<=1000/\Q ds n5
  |none=>False):fLst (jaa a (jaa b (jaa c (jaa d (jaa e aNil))))) δ n Q:=k
theorem c4_i {w w' w'' v:DT} {S:DSp} (k:w δ n λx n1=>w' δ n1 λy n2=>w'' δ n2 λz n3=>v δ n3 λu n4=>S [x,y,z,u] n4 Q):jag S (jaa w (jaa w' (jaa w'' (jaa v aNil)))) δ n Q:=k
theorem j0f {w:DT} {S:DSpX} (k:w δ n λx n1=>S [x] n1 λkvs n2=>Q (.dx kvs) n2):jkg S (jaa w aNil) δ n Q:=k
end
abbrev enD (h:Ab) (cs:List Ct):Ab:=.tuple [h,csD cs]
def En1 (d:Ab):Prop:=∃h cs,d=enD h cs/\eqO h/\okM 60 cs
def En2 (d:Ab):Prop:=∃a b,d=.tuple [a,b]/\En1 a/\En1 b
theorem jik {d:Ab} {k w:Nat} (h:Sm k w d) (hk:k<=20):eqO d:=⟨h.1,A5 h.2.1 hk⟩
abbrev L47 (ps:Pg) (h:Ab) (ns:List Nt) (one two own:Ab) (x3 x5 x6 x10 x11 x12:Option SV):Sl:=[none,some (.w .tp),some (.w (.d (pgD ps))),x3,some (.w (.d (.tuple [h,nsD ns]))),x5,x6,some (.w (.d one)),some (.w (.d two)),some (.w (.d own)),x10,x11,x12]
abbrev Za:List Str:=["_law_script","_law_tape_here","_law_programs_here","_law_k","_law_stand_here","_law_strange","_law_hands","_law_one","_law_other","_law_own","_law_first","_law_second","_law_entry_here"]
theorem jrg:jyu (none::some (.w .tp)::C1 (List.length Za - 2) none) 0 lawEnds:=by
 show jyu [none,some (.w .tp),none,none,none,none,none,none,none,none,none,none,none] 0 lawEnds;refine jaj (show sSet 2 _ _ _ _ from c1_i (jab rfl ⟨rfl,by decide,λps n1 okp hn1=>?_⟩));dsimp only[A3];refine jaj ?_;unfold sFor jat;refine c_i (Aj ⟨by decide,by decide⟩ ?_);refine jar (λds δ n=>∃x3 x4 x5 x6 x7 x8 x9 x10 x11 x12:Option SV,δ=[none,some (.w .tp),some (.w (.d (pgD ps))),x3,x4,x5,x6,x7,x8,x9,x10,x11,x12]/\n+1000*(ds.length:Int)<=12000) (λδ n I=>?_) (λd r δ n N I kN=>?_) _ _ _ ⟨none,none,none,none,none,none,none,none,none,none,rfl,by rw[ja1];show n1+1000*6<=12000;omega⟩
 ·obtain⟨x3,x4,x5,x6,x7,x8,x9,x10,x11,x12,rfl,hn⟩:=I;dsimp only;exact jaz (c_i (show lawEnds.rt _ _ from rfl))
 ·obtain⟨x3,x4,x5,x6,x7,x8,x9,x10,x11,x12,rfl,hn⟩:=I;rw[Ar]at hn;dsimp only[jac,A3];refine jaj (show sSet 4 _ _ _ _ from c3_i (jab rfl (jab rfl (c_i ⟨ps,6,rfl,by decide,okp,by omega,λhs ns0 n2 okh okn hn2=>?_⟩))));dsimp only[A3];generalize eH:Cn (hs.map hnD)=H;have sH:Sm 4 25820 H:=eH▸jkn okp okh;have eS:stD hs ns0=.tuple [H,nsD ns0]:=by rw[<-eH];rfl
  rw[eS];refine jaj (show sSet 4 _ _ _ _ from ja2 (w2_i (jab rfl (c_i (g0_i (w2_i (w2_i (jab rfl (c_i (g1_i (jy2 (m:=3) (n1:=n2+1) (ds:=ns0.map ntD) (λQ q=>w2_i (jab rfl (c_i (g1_i q)))) (λQ q=>drw (m:=3) rfl (λQ q=>c_i q) (by omega) (by decide) (by decide) λr r0 r1=>?_) λp hp=>?_)))))))))))
  ·have:=q r.toNat (by omega);rw[show((r.toNat:Nat):Int)=r by omega]at this;exact this
  refine jys (by rw[Ae,Eo,Ae];have:=okn.1;omega) ?_;generalize eN:ns0++ns0.take p=ns;have eN':Cn (ns0.map ntD++(ns0.map ntD).take p)=nsD ns:=by rw[<-eN];unfold nsD;rw[Bu,List.map_take]
  rw[eN'];have okn':okNs 12 ns:=by
   rw[<-eN];refine⟨?_,λq hq=>(A9.mp hq).elim (okn.2 q) λz=>okn.2 q (Fp z)⟩;rw[As,Eo];have:=okn.1;omega
  have okn3:okNs 30 ns:=⟨A5 okn'.1 (by decide),okn'.2⟩;clear eN eN';refine Aj (show 2<=1000 by decide) ?_;dsimp only[A3];refine jaj (show sSet 5 _ _ _ _ from c3_i (jab rfl (jab rfl (c_i ⟨ps,3,rfl,by decide,okp,by omega,λhs2 ms n3 okh2 okm hn3=>?_⟩))));dsimp only[A3];generalize eH2:Cn (hs2.map hnD)=H2;have sH2:Sm 4 25820 H2:=eH2▸jkn okp okh2;have eS2:stD hs2 ms=.tuple [H2,nsD ms]:=by rw[<-eH2];rfl
  rw[eS2];clear eH eS eH2 eS2;have okm':okNs 12 ms:=⟨A5 okm.1 (by decide),okm.2⟩;refine jaj (show sSet 6 _ _ _ _ from w2_i (of_i (show fLst _ _ _ _ from w2_i (jab rfl (c_i (g0_i (w2_i (jab rfl (c_i (g0_i (w2_i (jab rfl (c_i (g0_i (w2_i (jab rfl (c_i (g0_i (Aj (show 4<=1000 by decide) (drw (m:=4) rfl (λQ q=>c_i q) (by omega) (by decide) (by decide) λr r0 r1=>jgk (ds:=[H,H,H,H2]) r0 r1 λhd hhd=>?_))))))))))))))))))));dsimp only[A3];have ehd:eqO hd:=by
   simp only[Ax,A6,or_false]at hhd;rcases hhd with rfl | rfl | rfl | rfl
   ·exact jik sH (by decide)
   ·exact jik sH (by decide)
   ·exact jik sH (by decide)
   ·exact jik sH2 (by decide)
  clear hhd;refine jaj (show sSet 7 _ _ _ _ from c4_i (jab rfl (jab rfl (w2_i (jab rfl (c_i (g1_i (w2_i (jab rfl (c_i (g1_i ⟨hd,ns,ms,rfl,okn',okm',by omega,λcs1 n4 oc1 hn4=>?_⟩)))))))))));dsimp only[A3];have eH:eqO H:=jik sH (by decide);refine jaj (show sSet 8 _ _ _ _ from c4_i (jab rfl (w2_i (of_i (jzw (jab rfl (w2_i (jab rfl (c_i (g0_i (Aj (show 2<=1000 by decide) (drw (m:=2) rfl (λQ q=>c_i q) (by omega) (by decide) (by decide) λr r0 r1=>jgk (ds:=[hd,H]) r0 r1 λhe hhe=>?_))))))))))));have ehe:eqO he:=by
   simp only[Ax,A6,or_false]at hhe;rcases hhe with rfl | rfl
   ·exact ehd
   ·exact eH
  clear hhe;refine w2_i (jab rfl (c_i (g1_i (jv2 (p:=1) (n1:=n4+1) (ds:=ms.map ntD) (λQ q=>w2_i (jab rfl (c_i (g1_i q)))) (λQ q=>c_i q) ?_))));rw[<-List.map_take];refine⟨he,ns,ms.take 1,rfl,okn',⟨A5 (List.length_take_le _ _) (by decide),λq hq=>okm.2 q (Fp hq)⟩,by omega,λcs2 n5 oc2 hn5=>?_⟩;dsimp only[A3];have c0:=jo9 okn';have om0:okM 60 (cntC ns):=by
   have:=c0.m (by have:=okn'.1;omega);exact⟨A5 this.ln (by have:=okn'.1;omega),this.rw,this.ct⟩
  refine jaj (show sSet 9 _ _ _ _ from ja2 (w2_i (jab rfl (c_i (g0_i (c1_i (j0f (w2_i (jab rfl (c_i (g1_i ⟨ns,rfl,okn3,cntC ns,rfl,om0,Aj (show 2<=1000 by decide) ?_⟩)))))))))));dsimp only[A3];rw[jsz c0 (by have:=okn'.1;omega)];have oo:okM 60 (ordC (cntC ns)):=jg5 om0;have so:Small (enD H (ordC (cntC ns))):=(jm9 sH ((jy1 oo (by decide)).up (by decide) (by decide))).small (by decide) (by decide);refine jaj (if_n (λQ q=>ct_b (k:=false) (λQ q=>w2_i (b1_i (c1_i (jab rfl ⟨H,ns,rfl,okn3,jga (sma so) (b1_i (jab rfl (jga (sma so) (jj2 _ q))))⟩)))) q) ?_);dsimp only[ja8];have e1:En1 (enD hd cs1):=⟨hd,cs1,rfl,ehd,oc1⟩;have e2:En1 (enD he cs2):=⟨he,cs2,rfl,ehe,oc2⟩;have e3:En1 (enD H (ordC (cntC ns))):=⟨H,_,rfl,eH,oo⟩;refine jaj ?_;unfold jbt;refine of_i (jzu (ja2 (jab rfl (jab rfl (Aj (show 2<=1000 by decide) (ja2 (jab rfl (jab rfl (Aj (show 2<=1000 by decide) (ja2 (jab rfl (jab rfl (Aj (show 2<=1000 by decide) (ja2 (jab rfl (jab rfl (Aj (show 2<=1000 by decide) (ja2 (jab rfl (jab rfl (Aj (show 2<=1000 by decide) (Aj (show 5<=1000 by decide) ?_))))))))))))))))))))));refine jar (λds δ n'=>∃x10 x11,δ=L47 ps H ns (enD hd cs1) (enD he cs2) (enD H (ordC (cntC ns))) (some (.w (.d d))) (some (.w (.d (.tuple [H2,nsD ms])))) (some (.w (.d hd))) x10 x11 x12/\(∀e∈ds,En2 e)/\n'=n5) (λδ n' I=>?_) (λe r' δ n' N' I kN'=>?_) _ _ _ ⟨x10,x11,rfl,λe he'=>?_,rfl⟩
  ·obtain⟨x10,x11,rfl,_,rfl⟩:=I;dsimp only;refine of_i (jzv (jab rfl (jab rfl (jab rfl (Aj (show 3<=1000 by decide) ?_)))));refine jar (λds δ n''=>∃x12,δ=L47 ps H ns (enD hd cs1) (enD he cs2) (enD H (ordC (cntC ns))) (some (.w (.d d))) (some (.w (.d (.tuple [H2,nsD ms])))) (some (.w (.d hd))) x10 x11 x12/\(∀e∈ds,En1 e)/\n''=n') (λδ n'' I=>?_) (λe r' δ n'' N' I kN'=>?_) _ _ _ ⟨x12,rfl,λe he'=>?_,rfl⟩
   ·obtain⟨x12,rfl,_,rfl⟩:=I;exact kN _ _ ⟨_,_,_,_,_,_,_,_,_,_,rfl,by omega⟩
   ·obtain⟨x12,rfl,hE,rfl⟩:=I;obtain⟨h',cs',rfl,eh',oc'⟩:=hE e An;dsimp only[jac,A3];refine if_n (λQ q=>ct_b (k:=false) (λQ q=>w2_i (b1_i (c2_i (jab rfl (jab rfl ⟨H,ns,h',cs',rfl,eH,eh',okn3,oc',jga (jpz _) (b1_i (c2_i (jab rfl (jab rfl ⟨H,_,h',cs',rfl,eH,eh',oo,oc',jga (jpz _) (jj2 _ q)⟩))))⟩))))) q) (kN' _ _ ⟨_,rfl,λe he'=>hE e (Ak _ he'),rfl⟩)
   ·simp only[Ax,A6,or_false]at he';rcases he' with rfl | rfl | rfl
    ·exact e1
    ·exact e2
    ·exact e3
  ·obtain⟨x10,x11,rfl,hE,rfl⟩:=I;obtain⟨a,b,rfl,⟨h,cs,rfl,eh,oc⟩,⟨h',cs',rfl,eh',oc'⟩⟩:=hE e An;refine Aj rfl ?_;dsimp only[jav,jb1,jac,A3];refine if_n (λQ q=>ct_b (k:=false) (λQ q=>w2_i (b1_i (c2_i (jab rfl (jab rfl ⟨h,cs,h',cs',rfl,eh,eh',oc,oc',jga (jpz _) (b1_i (c2_i (jab rfl (jab rfl ⟨h,cs,h',cs',rfl,eh,eh',oc,oc',jga (jpz _) (jj2 _ q)⟩))))⟩))))) q) (kN' _ _ ⟨_,_,rfl,λe he'=>hE e (Ak _ he'),rfl⟩)
  ·simp only[Ax,A6,or_false]at he';rcases he' with rfl | rfl | rfl | rfl | rfl
   ·exact⟨_,_,rfl,e1,e2⟩
   ·exact⟨_,_,rfl,e2,e1⟩
   ·exact⟨_,_,rfl,e1,e1⟩
   ·exact⟨_,_,rfl,e3,e1⟩
   ·exact⟨_,_,rfl,e2,e3⟩
def top (i:Nat):Stmt:=PySem.Challenge.pw_noteboard_k47_below_and_under.main.body.getD i (.Pass ⟨0,0,0,0⟩)
abbrev jjv:Stmt:=top 12
abbrev jjw:Stmt:=top 13
abbrev jp2:Stmt:=top 30
abbrev jwf:Stmt:=jjv
abbrev jwh:Stmt:=jjw
end Nb
namespace Nb
open PySem L2
section
variable {P:Bd} {w:Bq} {K:Af} {mg:Str->Option Ad} {base:Heap}
abbrev Zb:List Str:=["_law_script"]
theorem jv6:FnScope Zb Zb (jah jwf):=⟨rfl,rfl,rfl,by decide +kernel,rfl,by decide +kernel,by decide +kernel⟩
theorem juc {f:Addr} {fd:B8} (F:Fun K "_law_tape" "_law_tape" jwf f fd):FnOk P w K mg base CX0 1 f fd Zb (jih K):=by
 refine F.ok jv6 (λvs H Q E h=>?_) (λcdv A outer s H vs Q E hr h=>?_)
 ·obtain⟨a,ns,rfl,_⟩:=h;rfl
 ·obtain⟨a,ns,rfl,hS,hl,k⟩:=h;refine⟨_,jc8 (jgc (jny (jak (jks jtk (pv 0) jnu (jnt jan)) (jak jan (jak jan (jak (jny (jak jkt (jak jkt (jak jkt (jak jan (jak jan (jak jan (jak jan jbd)))))))) jbd)))))),?_⟩;refine⟨_,rfl,_,rfl,a,_,rfl,hS,λp hp=>⟨small (by simp),λg hg=>⟨small (by simp),λq hq=>?_⟩⟩⟩;rw[j0g (by rw[Ae];exact hl)]at hg hq ⊢;have hgp:g≠p:=λz=>by rw[z,jaf]at hg;cases hg
  have hg0:H g=none:=by rw[jad hgp]at hg;exact hg
  have hqg:q≠g:=λz=>by rw[z,jaf]at hq;cases hq
  rw[jad hqg]at hq;have hqp:q≠p:=λz=>by rw[z,jaf]at hq;cases hq
  have hq0:H q=none:=by rw[jad hqp]at hq;exact hq
  refine k q ⟨p,g⟩ _ ⟨⟨0,0,jaf,Int.le_refl _,Int.le_refl _⟩,by rw[jad hqp.symm,jad hgp.symm,jaf],hl,(λz=>by rw[jad hqg.symm,jaf];rfl),hqg.symm⟩ λb o e=>?_;rw[jad (jae e hq0),jad (jae e hg0),jad (jae e hp)];exact e
abbrev Ze:List Str:=["_law_tape_here","_law_many"]
theorem scDraw:FnScope ["_law_tape_here","_law_many","_law_found","_law_spot","_law_cell","_law_mixed"] Ze (jah jwh):=⟨rfl,rfl,rfl,by decide +kernel,rfl,by decide +kernel,by decide +kernel⟩
theorem jq2 {R:Prop} {G:Int->Prop} (use:(∀c,G c)->R) (fin:∀c,G c):R:=use fin
theorem jzr {R G:Prop} (use:G->R) (fin:G):R:=use fin
theorem jud {f:Addr} {fd:B8} (F:Fun K "_law_draw" "_law_draw" jwh f fd) (zl:mg "len"=none):FnOk P w K mg base CX0 1 f fd Ze jrv:=by
 refine F.ok scDraw (λvs H Q E h=>?_) (λcdv A outer s H vs Q E hr h=>?_)
 ·obtain⟨t,l,ns,n,many,rfl,_⟩:=h;rfl
 ·obtain⟨t,l,ns,n,many,rfl,T,hn,hm0,hm1,k⟩:=h;obtain⟨a,b,ht,ha0,ha1⟩:=T.ob;have ntl:=T.ne;have hl:=T.ls;have hlen:=T.len;refine⟨_,ja5 (jqd (jej op_gt (jd1 ix_list (pv 0) jan (λ_ _=>rfl)) jan (jis _))
    (ja5 (jcb (i:=2) scDraw.nd rfl (C5 rfl) (jbl jdj (jd1 ix_list (pv 0) jan (λ_ _=>rfl)) (pv 1)))
     (ja5 (jio (jbl jn8 (jd1 ix_list (pv 0) jan (λ_ _=>rfl)) (pv 1)) (jkr (pv 0) jan jd8))
     (jc8 (jgc (pv 2))))) jg2)
   (ja5 (jcb (i:=3) scDraw.nd rfl (C5 rfl) (jd1 ix_list (pv 0) jan (λ_ _=>rfl)))
   (ja5 (jio (jbl op_add (pv 3) jan) (jkr (pv 0) jan jd8))
   (ja5 (jcb (i:=4) scDraw.nd rfl (C5 rfl) jan)
   (ja5 (jqd (jej op_gt (jb9 jbo (by rfl) zl PySem.boot_len (jak (jd1 ix_list (pv 0) jan (λ_ _=>rfl)) jbd)) jan (jis _))
    (jc8 (jcb (i:=4) scDraw.nd rfl (C5 rfl) (jd1 ix_list (jd1 ix_list (pv 0) jan (λ_ _=>rfl))
     (jbl jdj (pv 3) (jb9 jbo (by rfl) zl PySem.boot_len (jak (jd1 ix_list (pv 0) jan (λ_ _=>rfl)) jbd))) (λ_ _=>rfl)))) jg2)
   (ja5 (jqd (PW.pt (jr3 (jej jzl (pv 4) (jbl jw4 jan jan) (jis _))
     (jnp (jej op_lt (pv 3) (jb9 jbo (by rfl) zl PySem.boot_len (jak (jd1 ix_list (pv 0) jan (λ_ _=>rfl)) jbd)) (jis _)))))
    (ja5 (jio (jbl jn8 (pv 4) (pv 1)) (jkr (pv 0) jan jd8)) (jc8 (jgc (jbl jdj (pv 4) (pv 1))))) jg2)
   (ja5 (jcb (i:=5) scDraw.nd rfl (C5 rfl) (jbl jdj (jbl jge (jbl op_add (jbl op_add (jbl jdj (pv 4) jan) (jbl jge (jbl jge jan (pv 3)) (pv 3))) jan) jan) jan))
   (jc8 (jgc (jbl jdj (jbl jdj (jbl jge (jbl jdj (jbl op_add (jbl jge (pv 5) jan) (jbl jge (pv 3) jan)) jan) jan) jan) (pv 1)))))))))),?_⟩
  -- tape[2] > 0
  refine⟨_,rfl,t,_,2,_,rfl,rfl,SqL.of ht,ja3 (j:=2) rfl,_,_,rfl,rfl,_,rfl,?_⟩;refine ite2 (λ_=>?_) (λ_=>?_)
  ·-- found=tape[2] % many;tape[2]=tape[2] // many;return found
   refine⟨_,rfl,t,_,2,_,rfl,rfl,SqL.of ht,ja3 (j:=2) rfl,_,rfl,_,_,rfl,rfl,hm0,?_⟩;refine⟨_,rfl,t,_,2,_,rfl,rfl,SqL.of ht,ja3 (j:=2) rfl,_,rfl,_,_,rfl,rfl,⟨hm0,hm1⟩,?_⟩;refine⟨_,rfl,t,_,2,2,rfl,rfl,ht,rfl,?_⟩;refine⟨_,rfl,?_⟩;refine k _ _ (Int.emod_nonneg _ (by omega)) (F2 _ hm0) ⟨⟨a,b / many,jaf,ha0,by omega⟩,by rw[jad ntl.symm];exact hl,hlen,(λz=>by rw[jad T.gne];exact T.ag z),T.gne⟩ Kp.tape
  ·-- spot=tape[1];tape[1]=spot+1;cell=0
   refine⟨_,rfl,t,_,1,_,rfl,rfl,SqL.of ht,ja3 (j:=1) rfl,?_⟩;refine⟨_,rfl,_,_,rfl,rfl,_,rfl,t,_,1,1,rfl,rfl,ht,rfl,?_⟩;have ht1:∀o,upd H t o t=some o:=λo=>jaf;have hl1:∀o,upd H t o l.s=some (.lst (ns.map V.int)):=λo=>by rw[jad ntl.symm];exact hl
   generalize hH1:upd H t (.lst (((.ref l.s::.int a::.int b::exOf l:List V)).set 1 (.int (a+1))))=H1;have g1:H1 t=some (.lst (.ref l.s::.int (a+1)::.int b::exOf l)):=by rw[<-hH1];exact jaf
   have g2:H1 l.s=some (.lst (ns.map V.int)):=by rw[<-hH1];exact hl1 _
   have g3:Kp t H H1:=by rw[<-hH1];exact Kp.tape
   have g4:jmm=true->H1 l.g=some (.lst jrl):=λz=>by rw[<-hH1,jad T.gne];exact T.ag z
   refine⟨_,rfl,t,_,0,_,rfl,rfl,SqL.of g1,ja3 (j:=0) rfl,l.s,_,rfl,.inl (SqL.of g2),_,_,rfl,rfl,_,rfl,?_⟩;apply jq2
   case use =>
    intro fin;refine ite2 (λhp=>?_) (λ_=>?_)
    ·have hpos:(0:Int) < ((ns.map V.int).length:Int):=of_decide_eq_true hp;obtain⟨v,hv,hm⟩:=ju8 (xs:=ns.map V.int) (r:=a % ((ns.map V.int).length:Int)) (Int.emod_nonneg _ (by omega)) (F2 _ hpos);obtain⟨c,_,rfl⟩:=Bp.mp hm;refine⟨_,rfl,t,_,0,_,rfl,rfl,SqL.of g1,ja3 (j:=0) rfl,_,rfl,_,rfl,t,_,0,_,rfl,rfl,SqL.of g1,ja3 (j:=0) rfl,l.s,_,rfl,.inl (SqL.of g2),_,_,rfl,rfl,hpos,l.s,_,_,.int c,rfl,rfl,SqL.of g2,hv,?_⟩;exact fin c
    ·exact fin 0
   case fin =>
    intro c;refine⟨_,rfl,_,_,rfl,rfl,⟨by decide,by decide,by decide⟩,_,_,rfl,rfl,_,rfl,?_⟩;apply jzr
    case use =>
     intro fin;refine ite2 (λ_=>?_) (λ_=>?_)
     ·refine⟨_,rfl,_,rfl,t,_,0,_,rfl,rfl,SqL.of g1,ja3 (j:=0) rfl,l.s,_,rfl,.inl (SqL.of g2),_,_,rfl,rfl,_,rfl,?_⟩;refine ite2 (λ_=>?_) (λ_=>fin);refine⟨_,rfl,_,rfl,_,_,rfl,rfl,⟨hm0,hm1⟩,_,rfl,t,_,2,2,rfl,rfl,g1,rfl,_,rfl,_,rfl,_,_,rfl,rfl,hm0,?_⟩;exact k _ _ (Int.emod_nonneg _ (by omega)) (F2 _ hm0) ⟨⟨a+1,_,jaf,by omega,by omega⟩,by rw[jad ntl.symm];exact g2,hlen,(λz=>by rw[jad T.gne];exact g4 z),T.gne⟩ (g3.trans Kp.tape)
     ·exact iteF fin
    case fin =>
     refine⟨_,rfl,_,_,rfl,rfl,(by show(0:Int) < 999331;decide),_,rfl,_,_,rfl,rfl,.inl ⟨by decide,by decide⟩,_,rfl,_,_,rfl,rfl,.inl ⟨by omega,by omega⟩,_,_,rfl,rfl,_,_,rfl,rfl,_,_,rfl,rfl,.inr ⟨by decide,by decide⟩,_,_,rfl,rfl,(by show(0:Int) < 999961;decide),?_⟩;refine⟨_,rfl,_,_,rfl,rfl,.inr ⟨by decide,by decide⟩,_,rfl,_,_,rfl,rfl,.inr ⟨by decide,by decide⟩,_,_,rfl,rfl,_,_,rfl,rfl,(by show(0:Int) < 999953;decide),_,_,rfl,rfl,.inr ⟨by decide,by decide⟩,_,_,rfl,rfl,(by show(0:Int) < 524287;decide),_,rfl,_,_,rfl,rfl,hm0,?_⟩;exact k _ _ (Int.emod_nonneg _ (by omega)) (F2 _ hm0) ⟨⟨a+1,b,g1,by omega,by omega⟩,g2,hlen,g4,T.gne⟩ g3
end
end Nb
namespace Nb
open PySem L2 DL
theorem ls1 {α:Type} {us:List α} (h:us.length=1):∃a,us=[a]:=match us,h with | [a],_=>⟨a,rfl⟩
theorem ls2 {α:Type} {us:List α} (h:us.length=2):∃a b,us=[a,b]:=match us,h with | [a,b],_=>⟨a,b,rfl⟩
theorem ls3 {α:Type} {us:List α} (h:us.length=3):∃a b c,us=[a,b,c]:=match us,h with | [a,b,c],_=>⟨a,b,c,rfl⟩
theorem ls4 {α:Type} {us:List α} (h:us.length=4):∃a b c d,us=[a,b,c,d]:=match us,h with | [a,b,c,d],_=>⟨a,b,c,d,rfl⟩
theorem ls5 {α:Type} {us:List α} (h:us.length=5):∃a b c d e,us=[a,b,c,d,e]:=match us,h with | [a,b,c,d,e],_=>⟨a,b,c,d,e,rfl⟩
theorem scM {N ps:List Str} {S:Ee} (h1:S.kind=.function:=by rfl) (h2:S.isCoroutine=false:=by rfl) (h3:S.isGenerator=false:=by rfl) (h4:N.Nodup:=by decide +kernel) (h5:N.take ps.length=ps:=by rfl) (h6:∀x∈ps,S.names.lookup x=some .local\/S.names.lookup x=some .cell:=by decide +kernel) (h7:∀y∈S.names,y.2≠.free:=by decide +kernel):FnScope N ps S:=⟨h1,h2,h3,h4,h5,h6,h7⟩
theorem d_cA {X:Cx} {e:Expr} {es:List Expr} {pos p:Pos} {tR:TA} {wR:DTA} {k k':Nat} {ps:List Str} {S:DSp} {x:Str} (h:Has X.prog X.w X.K X.mg X.base k x ps S) (hr:Room k' X.A) (ha:DA X (e::es) tR wR) (hk:k<=k') (hg:Gl X x) (hdb:(x==("__debug__":Str))=false) (he:Au (e::es) X.env=(false,eval e X.env)::Au es X.env) (hpl:(Da pos (Au es X.env)).any (·.1)=false):DE X (.Call (.Name x p) (e::es) [] pos) (jei (spOf S) [] E0 tR) (jag S wR):=ju1 h (hr.mono hk) hg ha hdb he hpl
theorem d_cX {X:Cx} {e:Expr} {es:List Expr} {pos p:Pos} {tR:TA} {wR:DTA} {k k':Nat} {ps:List Str} {S:DSpX} {x:Str} (h:HasX X.prog X.w X.K X.mg X.base k x ps S) (hr:Room k' X.A) (ha:DA X (e::es) tR wR) (hk:k<=k') (hg:Gl X x) (hdb:(x==("__debug__":Str))=false) (he:Au (e::es) X.env=(false,eval e X.env)::Au es X.env) (hpl:(Da pos (Au es X.env)).any (·.1)=false):DE X (.Call (.Name x p) (e::es) [] pos) (jei (jjt S) [] E0 tR) (jkg S wR):=ju0 h (hr.mono hk) hg ha hdb he hpl
theorem s_oX {X:Cx} {e:Expr} {es:List Expr} {pos p pos' ap:Pos} {tR:TA} {wR:DTA} {k k' i:Nat} {ps:List Str} {S:DSpX} {x y:Str} (h:HasX X.prog X.w X.K X.mg X.base k x ps S) (hr:Room k' X.A) (ha:DA X (e::es) tR wR) (hk:k<=k') (hg:Gl X x) (hN:X.N.Nodup) (hi:X.N[i]?=some y) (hx:Loc X.env.scope y) (hs:Dy (.Call (.Name x p) (e::es) [] pos) (some (.Name y pos')) ap.line X.env=pure false) (hf:X.fn y=true\/X.env.scope.names.lookup y=some .local) (hdb:(x==("__debug__":Str))=false) (he:Au (e::es) X.env=(false,eval e X.env)::Au es X.env) (hpl:(Da pos (Au es X.env)).any (·.1)=false):DS X (.Assign [.Name y pos'] (.Call (.Name x p) (e::es) [] pos) ap) (tAsg (jei (jjt S) [] E0 tR) (jco i)) (jp3 i S wR):=jwa h (hr.mono hk) hg hN hi hx ha hs hf hdb he hpl
theorem f_sX {X:Cx} {o:Expr} {td:TE} {wd':DT} {pos p:Pos} {S:DSp} {k k':Nat} {ps:List Str} {x:Str} {kp kpos:Pos} (h:Has X.prog X.w X.K X.mg X.base k x ps S) (hr:Room k' X.A) (ho:DE X o td wd') (hk:k+2<=k') (hg:Gl X "sorted") (hm:X.mg "sorted"=none) (hgf:Gl X x) (hdb:(x==("__debug__":Str))=false) (he:Au [o] X.env=(false,eval o X.env)::Au [] X.env):DF X (.Call (.Name "sorted" p) [o] [⟨some "key",.Name x kp,kpos⟩] pos) (jmo X.K (spOf S) td) (jow S wd'):=juq h (hr.mono hk) hg hm hgf ho (hdb:=hdb) (he:=he)
theorem jzx {X:Cx} {o:Expr} {td:TE} {wd':DT} {pos p:Pos} {S:DSp} {k k':Nat} {ps:List Str} {x:Str} {kp kpos:Pos} (h:Has X.prog X.w X.K X.mg X.base k x ps S) (hr:Room k' X.A) (ho:DE X o td wd') (hk:k+2<=k') (hg:Gl X "sorted") (hm:X.mg "sorted"=none) (hgf:Gl X x) (hdb:(x==("__debug__":Str))=false) (he:Au [o] X.env=(false,eval o X.env)::Au [] X.env):DF X (.Call (.Name "sorted" p) [o] [⟨some "key",.Name x kp,kpos⟩] pos) (jmp X.K (spOf S) td) (jj8 S wd'):=jq3 h (hr.mono hk) hg hm hgf ho (hdb:=hdb) (he:=he)
def isL:NameKind->Bool
 |.local=>true
 |_=>false
def isF:NameKind->Bool
 |.free=>true
 |_=>false
def cFr (sc:Ee):List Str:=(sc.names.filter λy=>isF y.2).map (·.1)
def cN (sc:Ee):List Str:=((sc.names.drop 1).filter λy=>isL y.2).map (·.1)++cFr sc
def cCl (sc:Ee) (cells:List (Str×Addr)):List (Str×Addr):=(cFr sc).reverse.map λx=>(x,(cells.lookup x).getD 0)
def cRl (sc:Ee):List (Str×NameKind):=sc.names.map λy=>(y.1,bif isF y.2 then .cell else y.2)
inductive Frs (X:Cx) (sc:Ee):List (Option Nat)->List Str->Prop
 |nil:Frs X sc [] []
 |own {f:List (Option Nat)} {x:Str} {N:List Str} (h:Frs X sc f N):Frs X sc (none::f) (x::N)
 |free {f:List (Option Nat)} {x:Str} {N:List Str} {i:Nat} (h1:X.N[i]?=some x) (h2:Vis X.env.scope x) (h3:X.env.kindOf x=some .cell\/X.env.kindOf x=some .free) (h4:(cRl sc).lookup x=some .cell\/(cRl sc).lookup x=some .free) (h5:(cCl sc X.env.cells).lookup x=X.env.cells.lookup x) (h:Frs X sc f N):Frs X sc (some i::f) (x::N)
theorem Frs.len {X:Cx} {sc:Ee} {f:List (Option Nat)} {N:List Str} (h:Frs X sc f N):f.length=N.length:=by
 induction h with
 |nil=>rfl
 |own _ ih=>rw[Ar,Ar,ih]
 |free _ _ _ _ _ _ ih=>rw[Ar,Ar,ih]
theorem j0i {X:Cx} {sc:Ee} {f:List (Option Nat)} (h1:closureFor sc X.env=pure (cCl sc X.env.cells)) (h2:sc.kind=.function) (h3:∀y∈sc.names,y.2≠.cell) (h4:∀y∈sc.names,y.2=.local->sc.names.lookup y.1=some .local) (h5:((cFr sc).all λx=>(X.env.cells.lookup x).isSome)=true) (h6:(relabel sc X.env).names=cRl sc) (h7:∀y∈cRl sc,(y.2=.cell\/y.2=.free)->y.1∈(cFr sc).reverse) (h8:Frs X sc f (cN sc)):CompSc X (cN sc) sc (cCl sc X.env.cells) f:=by
 refine⟨h1,h2,h3,h4,jls λy hy=>?_,jq9 _ _ h6 (show(cCl sc X.env.cells).map (·.1)=(cFr sc).reverse by unfold cCl;rw[Dt];exact List.map_id' _) h7,h8.len,?_⟩
 ·obtain⟨x,hx,rfl⟩:=Bp.mp hy;obtain⟨c,hc⟩:=F3.mp (List.all_eq_true.mp h5 x (List.mem_reverse.mp hx));show X.env.cells.lookup x=some ((X.env.cells.lookup x).getD 0);rw[hc];rfl
 ·intro j i h;rw[h6];clear h1 h2 h3 h4 h5 h6 h7;generalize cN sc=N at h8 ⊢
  induction h8 generalizing j with
  |nil=>cases h
  |own _ ih=>cases j with
   |zero=>cases h
   |succ j=>exact ih j h
  |free a b c d e _ ih=>cases j with
   |zero=>cases h;exact⟨_,rfl,a,b,c,d,e⟩
   |succ j=>exact ih j h
theorem gFr {X:Cx} {sc:Ee} {f:List (Option Nat)} {N:List Str} (h:Frs X sc f N):Frs X sc f N:=h
theorem kC {X:Cx} {N:List Str} {sc:Ee} {cl:List (Str×Addr)} {s:Ah} {H:Hp} {fp:List Addr} {K:Af} (h:X.K=K):(jaq X N sc cl s H fp).K=K:=h
theorem nC {X:Cx} {N:List Str} {sc:Ee} {cl:List (Str×Addr)} {s:Ah} {H:Hp} {fp:List Addr} (h:N.Nodup):(jaq X N sc cl s H fp).N.Nodup:=h
def zL:List Str:=["dict","int","isinstance","len","list","max","range","repr","set","sorted","str","tuple"]
theorem zU {mg:Str->Option Ad} {x:Str} (z:∀x∈zL,mg x=none) (h:x∈zL):mg x=none:=z x h
theorem jyn:Bm "max"=some (.builtin "max"):=by decide +kernel
theorem jym:Bm "set"=some (.type "set"):=by decide +kernel
theorem jpf:Bm "sorted"=some (.builtin "sorted"):=by decide +kernel
section
variable {P:Bd} {w:Bq} {K:Af} {mg:Str->Option Ad} {base:Heap} {fa:Addr} {fd:B8}
theorem gDE {X:Cx} {e:Expr} {t:TE} {w:DT} (h:DE X e t w):DE X e t w:=h
theorem gDA {X:Cx} {e:List Expr} {t:TA} {w:DTA} (h:DA X e t w):DA X e t w:=h
theorem gDS {X:Cx} {e:Stmt} {t:TS} {w:DST} (h:DS X e t w):DS X e t w:=h
theorem gDSs {X:Cx} {e:List Stmt} {t:TS} {w:DST} (h:DSs X e t w):DSs X e t w:=h
theorem gDC {X:Cx} {e:Expr} {t:TT} {w:DTT} (h:DC X e t w):DC X e t w:=h
theorem gDF {X:Cx} {e:Expr} {t:TE} {w:DTF} (h:DF X e t w):DF X e t w:=h
theorem gDI {X:Cx} {g e:Expr} {t:TI} {w:DTI} (h:DI X g e t w):DI X g e t w:=h
theorem jze {X:Cx} {b rest:List Stmt} {st:Stmt} {T:TS} {W:DST} (e:b=st::rest) (h:DSs X (st::rest) T W):DSs X b T W:=e▸h
theorem bnd {x:Str} {st:Stmt} {ps:List Str} (F:Fun K x x st fa fd) (h:∀(kV doc pm:Ad) (an:Option Addr) (cdv ct:Ad) (us:List Ad),us.length=ps.length->bindArgs (Ek x x (jcq st) (jbc st) (jah st) .none kV doc pm an cdv ct) ⟨us,[]⟩=pure (ps.zip us):=by
 intro _ _ _ _ _ _ us hl
 first
  |obtain⟨_,rfl⟩:=ls1 hl;rfl
  |obtain⟨_,_,rfl⟩:=ls2 hl;rfl
  |obtain⟨_,_,_,rfl⟩:=ls3 hl;rfl
  |obtain⟨_,_,_,_,rfl⟩:=ls4 hl;rfl
  |obtain⟨_,_,_,_,_,rfl⟩:=ls5 hl;rfl):Binds K fd ps []:=F.binds h
def Bnd (x:Str) (st:Stmt) (ps:List Str):Prop:=∀{K:Af} {fa:Addr} {fd:B8},Fun K x x st fa fd->Binds K fd ps []
def Wire (P:Bd) (w:Bq) (K:Af) (mg:Str->Option Ad) (base:Heap) (k:Nat) (x:Str) (i:Nat) (fa:Addr) (N:List Str) (b:List Stmt) (W:DST):Prop:=N.Nodup->∀(cdv:Ad) (A:Bj) (outer:List Env) (s:Ah) (H:Hp) (E:XK),Room k (A.deeper (Dq x (jah (top i)) s.heap.objs.size fa cdv))->∃T,DSs (cxOf CX0 P w K mg base N x (jah (top i)) fa cdv A outer s H E).nox b T W
theorem auD {k:Nat} {x:Str} {i:Nat} {N:List Str} {b:List Stmt} {W:DST} (h:N.Nodup->∀(cdv:Ad) (A:Bj) (outer:List Env) (s:Ah) (H:Hp) (E:XK),Room k (A.deeper (Dq x (jah (top i)) s.heap.objs.size fa cdv))->∃T,DSs (cxOf CX0 P w K mg base N x (jah (top i)) fa cdv A outer s H E).nox b T W:=by
 intro nd cdv A outer s H E hr;apply Dh;apply jze (by exact rfl)
 repeat' first
  |with_reducible first | exact ju6 | exact jyo | exact jsn | exact PySem.boot_len | exact jka | exact jyn | exact PyProof.Rows.boot_range | exact ju5 | exact jym | exact jpf | exact jyl | exact jrf
  |with_reducible first | apply Room.units | apply Room.units80 | apply Room.units0 | apply Room.hd | apply Room.gd
  |exact rfl
  |exact C5 rfl
  |exact B9 (C5 rfl)
  |exact B9 (B9 rfl)
  |exact B9 rfl
  | (with_reducible apply gDE;with_reducible first | apply jz1 | apply j0c | apply d_cA | apply jz2 | apply j0a | apply jz5 | apply jz9 | apply juw | apply d_bl | apply jhq (ji7 ?_) jpu ?_ ?_ ?_ ?_ ?_ ?_ ?_ ?_ | apply jz7 | apply jhp (jew ?_) jlj ?_ ?_ ?_ ?_ ?_ ?_ ?_ ?_ | apply jhp (jew ?_) jf4 ?_ ?_ ?_ ?_ ?_ ?_ ?_ ?_ | apply jhq (jl2 ?_ ?_ ?_) jm6 ?_ ?_ ?_ ?_ ?_ ?_ ?_ ?_ | apply jyf | apply jut | apply jyc | apply jyb | apply jz3 | apply jz4 | apply juv | apply jyd | apply j0e | apply juy | apply jhq (ji7 ?_) jkm ?_ ?_ ?_ ?_ ?_ ?_ ?_ ?_ | apply j0d | apply jz8 | apply jux | apply jyg | apply d_cX | apply juz jn2 jkl | apply juz jw7 jvx | apply juz (jxb ?_ ?_) jrw | apply jhp jl7 jtf ?_ ?_ ?_ ?_ ?_ ?_ ?_ ?_ | apply jhq (jl4 ?_) jpt ?_ ?_ ?_ ?_ ?_ ?_ ?_ ?_ | apply jz6 | apply DF.d)
  | (with_reducible apply gDA;with_reducible first | apply jyt | apply j0p)
  | ((with_reducible apply gDS);first | ((with_reducible apply jv7);case hx=>exact rfl) | ((with_reducible apply jwb);case hx=>exact rfl) | with_reducible first | apply jy5 | apply s_if | apply jy4 | apply jzb | apply jzd | apply jy7 | apply jv9 | apply jwc | apply jy3 | apply jy6 | apply jzc | apply jv8 | apply s_oX)
  | (with_reducible apply gDSs;with_reducible first | apply jza | apply jwd | apply jy9 | apply jy8)
  | ((with_reducible apply gDC);first | (with_reducible apply DCW.cc;with_reducible first | apply cw_and | apply cw_or) | with_reducible first | apply jfx (jr6 ?_ ?_) jth | apply jfx jw6 jvw | apply jfx jw8 jte | apply jfx jzk jvv | apply jfx jxa jvy | apply jfx (jn3 ?_) jtg | apply jfx (jw5 ?_ ?_) jrw | apply j0l | apply jfx (jw9 ?_) jf6 | apply jfx (jr6 ?_ ?_) jm8 | apply jfx jn2 jkl | apply j0k)
  | (with_reducible apply gDF;with_reducible first | apply jzy | apply jov | apply jur | apply jq4 | apply jou | apply f_sX | apply jzx)
  | (with_reducible apply gDI;with_reducible first | apply jqz | apply jx0 | apply juk)
  |with_reducible first | apply jx5 | apply jun | apply jug | apply jx4 | apply jx3 | apply jxz | apply cw_or | apply cw_or1 | apply jxy | apply jxe | apply jxd | apply cw_and | apply cw_and1 | apply j0i
  |assumption
  |with_reducible first | apply kC | apply nC
  | ((with_reducible apply gFr);first | apply Frs.nil | apply Frs.own | apply Frs.free)
  |exact jis _
  |exact λ_ _=>rfl
  |exact λ_=>rfl
  |exact zU (by assumption) (by decide +kernel)
  |exact PassesOwn.never
  |exact⟨rfl,rfl,rfl,rfl⟩
  |with_unfolding_all rfl
  |decide
  |decide +kernel
  |exact B9 (B9 (C5 rfl))
  |exact B9 (B9 (B9 (C5 rfl)))
  |exact B9 (B9 (B9 (B9 rfl)))
  |intro(_:Ah) _ _
  |exact(0:Int)):Wire P w K mg base k x i fa N b W:=h
theorem hasD {i p:Nat} {N:List Str} {S:DSp} {W:DST} (k:Nat) (x:Str) (F:Fun K x x (top i) fa fd/\mg x=some (.ref fa)) (len:∀ws n Q,S ws n Q->ws.length=p) (body:∀ws n Q,S ws n Q->W (jap N ws) n {nx:=λ_ n=>Q (.d .none) n,rt:=Q}) (hp:(N.take p).length=p:=by rfl) (Sc:FnScope N (N.take p) (jah (top i)):=by exact scM) (b:Bnd x (top i) (N.take p):=by intro _ _ _ F;exact bnd F)
  (h:Wire P w K mg base k x i fa N (jbc (top i)) W:=by exact auD):Has P w K mg base (k+1) x (N.take p) S :=
 Has.mk' F.1 F.2 (b F.1) (Fun.okD F.1 Sc (λws n Q q=>by rw[hp];exact len ws n Q q) λcdv A outer s H E hr=>(h Sc.nd cdv A outer s H E hr).elim λT d=>⟨T,W,d,body⟩)
theorem hasX {i p:Nat} {N:List Str} {S:DSpX} {W:DST} (k:Nat) (x:Str) (F:Fun K x x (top i) fa fd/\mg x=some (.ref fa)) (len:∀ws n Q,S ws n Q->ws.length=p) (body:∀ws n Q,S ws n Q->W (jap N ws) n {nx:=λ_ _=>False,rt:=λ_ _=>False,rx:=Q}) (hp:(N.take p).length=p:=by rfl) (Sc:FnScope N (N.take p) (jah (top i)):=by exact scM) (b:Bnd x (top i) (N.take p):=by intro _ _ _ F;exact bnd F)
  (h:Wire P w K mg base k x i fa N (jbc (top i)) W:=by exact auD):HasX P w K mg base (k+1) x (N.take p) S :=
 HasX.mk' F.1 F.2 (b F.1) (Fun.okX F.1 Sc (λws n Q q=>by rw[hp];exact len ws n Q q) λcdv A outer s H E hr=>(h Sc.nd cdv A outer s H E hr).elim λT d=>⟨T,W,d,body⟩)
theorem okL {fT:Addr} {fdT:B8} {i:Nat} {N:List Str} {W:DST} {s0:Stmt} {rest:List Stmt} (k:Nat) (F:Fun K "law" "law" (top i) fa fd) (GT:FnOk P w K mg base CX0 1 fT fdT Zb (jih K)) (bT:Binds K fdT Zb []) (mT:mg "_law_tape"=some (.ref fT)) (kT:Cp K (.ref fT)=true) (hW:W (none::some (.w .tp)::C1 (N.length - 2) none) 0 lawEnds) (e:jbc (top i)=s0::rest) (h0:N.Nodup->∀(cdv:Ad) (A:Bj) (outer:List Env) (s:Ah) (H:Hp) (E:XK),Room k (A.deeper (Dq "law" (jah (top i)) s.heap.objs.size fa cdv))->PS (cxOf CX0 P w K mg base N "law" (jah (top i)) fa cdv A outer s H E).nox s0 (tAsg (jei (jih K) [] E0 (jby (tVar 0) tNil)) (jco 1))) (hN:∀v,start N [v]=some v::none::C1 (N.length - 2) none:=by intro _;rfl) (Sc:FnScope N Zb (jah (top i)):=by exact scM)
  (h:Wire P w K mg base k "law" i fa N rest W:=by exact auD):FnOk P w K mg base CX0 (k+1) fa fd Zb (DL.spLaw K) :=
 jxl F Sc GT bT mT kT hN hW λcdv A outer s H E hr=>(h Sc.nd cdv A outer s H E hr).elim λT d=>⟨s0,rest,T,e,h0 Sc.nd cdv A outer s H E hr,d⟩
end
abbrev oT (t:String) (d:Data):Obj:=⟨.type t,none,d,#[]⟩
structure Ds where
 i:Nat
 x:Str
 t:Nat
 l:Nat
 n:Nat
 r:Nat
 b:Bool
 v:Nat
 m:Nat
abbrev Ds.c (d:Ds):Nat:=if d.b then d.r+5 else d.r+3
abbrev Ds.f (d:Ds):Nat:=if d.b then d.r+6 else d.r+4
abbrev mOd (m:Nat):Ad:=[(.str "noteboard.values" 187),(.str "noteboard.entries" 209),(.str "law_noteboard_k47_below_and_under" 260)].getD m .none
abbrev fdO (d:Ds):B8:=Ek d.x d.x (jcq (top d.i)) (jbc (top d.i)) (jah (top d.i)) .none .none .none (mOd d.m) none (.ref d.c) .none
abbrev oF (d:Ds):Obj:=oT "function" (.func (fdO d))
abbrev oC (d:Ds):Obj:=oT "code" (.fields #[.str d.x d.t,.str d.x (d.t+1),.str "/claim/cut.py" (d.t+2),.int d.l 0,.int d.n 0,.int 0 0,.int 0 0,.int 3 0,.ref d.r,.bool true,.int 181 0,.ref (d.r+1),.none,if d.b then .ref (d.r+2)else .none,if d.b then .ref (d.r+3)else .none,.ref (if d.b then d.r+4 else d.r+2),.int d.v 0,.int d.l 0,.str "/claim/cut.py" (d.v+1)])
abbrev eN (P:Params) (x:Str) (t:Nat) (v:Ad):DictEntry:=⟨PyData.keyHash P x,.str x t,v⟩
abbrev en (P:Params) (d:Ds):DictEntry:=eN P d.x (d.v+2) (.ref d.f)
def dL:List Ds:=[⟨1,"value_key",189,2,1,15,true,193,0⟩,⟨2,"row_key",196,6,1,22,false,199,0⟩,⟨3,"in_order",202,8,1,27,true,206,0⟩,⟨5,"counts_of",211,11,1,34,false,214,1⟩,⟨6,"entry_of",217,13,1,39,true,223,1⟩,⟨7,"is_no_more",226,18,2,46,true,231,1⟩,⟨8,"has_no_more",234,22,2,53,true,241,1⟩,⟨9,"under",244,27,2,60,true,249,1⟩,⟨10,"below",252,29,2,67,true,257,1⟩,⟨12,"_law_tape",262,32,1,74,true,266,2⟩,⟨13,"_law_draw",269,34,2,81,true,278,2⟩,⟨14,"_law_value",281,49,1,88,true,285,2⟩,⟨15,"_law_size",288,51,1,95,true,292,2⟩,⟨16,"_law_pattern",295,53,2,102,true,306,2⟩,⟨17,"_law_template",309,70,2,109,true,317,2⟩,⟨18,"_law_term",320,79,2,116,true,325,2⟩,⟨19,"_law_act",328,83,3,123,true,338,2⟩,⟨20,"_law_program",341,96,1,130,false,344,2⟩,⟨21,"_law_notes",347,113,2,135,false,350,2⟩,⟨22,"_law_programs",353,119,1,140,false,356,2⟩,⟨23,"_law_known",359,124,3,145,false,362,2⟩,⟨24,"_law_stand",365,130,3,150,false,368,2⟩,⟨25,"_law_key",371,138,1,155,false,374,2⟩,⟨26,"_law_counted",377,140,1,160,true,384,2⟩,⟨27,"_law_told",387,145,1,167,false,390,2⟩,⟨28,"_law_entry",393,147,4,172,true,404,2⟩,⟨29,"_law_under",407,155,2,179,true,415,2⟩,⟨30,"law",418,163,1,186,true,434,2⟩]
def KK (P:Params):Af:=let e:=eN P
 (3,oT "dict" (.dict ([e "__name__" 165 (.str "law_noteboard_k47_below_and_under" 260),e "__doc__" 166 .none,e "__package__" 167 .none,e "__loader__" 168 (.builtin "__main__.__loader__#opaque"),e "__spec__" 169 .none,e "__annotations__" 170 (.ref 6),e "__builtins__" 171 (.ref 4),e "__file__" 173 (.str "/claim/cut.py" 172),e "__cached__" 174 .none]++((dL.drop 0).take 28).map (en P)).toArray 37))::(dL.flatMap λd=>[(d.c,oC d),(d.f,oF d)])++[]
def aS:List Addr:=3::(dL.flatMap λd=>[d.c,d.f])++[]
abbrev pp:Bd:=PySem.Challenge.pw_noteboard_k47_below_and_under
abbrev qq:Bd:=PySem.W.view pp [30]
def lO:List Str:=(["value_key","row_key","in_order","counts_of","entry_of","is_no_more","has_no_more","under","below","_law_tape","_law_draw","_law_value","_law_size","_law_pattern","_law_template","_law_term","_law_act","_law_program","_law_notes","_law_programs","_law_known","_law_stand","_law_key","_law_counted","_law_told","_law_entry","_law_under"]:List String).map Cy
abbrev xT:Ah->Bool:=λs=>PySem.W.xlAt qq [] s&&PySem.W.recOk (PySem.W.RowW.records PySem.Challenge.rw_noteboard_k47_below_and_under.row.toRowW) s
theorem aK:∀P,aS=(KK P).map (·.1):=λP=>by kernel_rfl
abbrev hK:PySem.W.Hook:=PySem.W.kHook KK aS aK
theorem left_:PySem.W.LeftO pp qq lO xT hK.obs hK.val 3000:=λw=>by kernel_rfl
def jya (s:Stmt):Pos:=match s with
 |.FunctionDef _ _ _ _ _ _ _ _ _ p=>p
 |_=>⟨0,0,0,0⟩
def dW:DefRec:=⟨"law",jcq jp2,jbc jp2,jah jp2,jya jp2⟩
theorem said_:PySem.Challenge.rw_noteboard_k47_below_and_under.wellSaid=true:=by kernel_rfl
theorem fnE (P:Params):(dL.map λd=>(PySem.W.nsIn (KK P) C8 d.x,(KK P).lookup d.f,PySem.W.codeIn (KK P) (.ref d.c) d.x))=dL.map λd=>(some (some (.ref d.f)),some (oF d),true):=by kernel_rfl
theorem jsd {α β:Type} {f g:α->β} {l:List α} (h:l.map f=l.map g) {j:Nat} {a:α} (e:l[j]?=some a):f a=g a:=by
 have:=congrArg (λl=>l[j]?) h;simp only[A0,e,Option.map_some]at this;exact Bh this
theorem zE (P:Params):(zL.map λx=>PySem.W.nsIn (KK P) C8 x)=zL.map λ_=>some none:=by kernel_rfl
section
variable {P:Params} {h:Heap} {mg:Str->Option Ad} (X:(KK P).In h) (G:h.Ns C8 mg)
include X G
theorem fnK (j:Nat) (d:Ds) (e:dL[j]?=some d):(Fun (KK P) d.x d.x (top d.i) d.f (fdO d)/\mg d.x=some (.ref d.f))/\Cp (KK P) (.ref d.f)=true:=by
 have q:=jsd (fnE P) e;obtain⟨q1,q2⟩:=Prod.mk.inj q;obtain⟨q2,q3⟩:=Prod.mk.inj q2;have k:Cp (KK P) (.ref d.f)=true:=by
  unfold Cp;simp only[q2]
 exact⟨⟨jx7 q2 q3 k,PySem.W.mg_of X G q1⟩,k⟩
theorem zK (x:Str) (h:x∈zL):mg x=none:=by
 obtain⟨j,e⟩:=List.mem_iff_getElem?.mp h;exact PySem.W.mg_none_of X G (jsd (zE P) e)
end
abbrev pR:Bd:=PySem.W.OpenLaw.prog PySem.Challenge.rw_noteboard_k47_below_and_under
structure Cv where
 P:Bd
 w:Bq
 K:Af
 mg:Str->Option Ad
 base:Heap
abbrev jam (c:Cv):Prop:=Has c.P c.w c.K c.mg c.base 1 "_law_draw" Ze jal
abbrev jfg (c:Cv):Prop:=Has c.P c.w c.K c.mg c.base 1 "value_key" ["value"] jjg
abbrev jjl (c:Cv):Prop:=Has c.P c.w c.K c.mg c.base 2 "row_key" ["row"] jdt
abbrev jgs (c:Cv):Prop:=Has c.P c.w c.K c.mg c.base 5 "in_order" ["rows"] jh0
abbrev jfh (c:Cv):Prop:=Has c.P c.w c.K c.mg c.base 6 "counts_of" ["having"] jro
abbrev jdg (c:Cv):Prop:=Has c.P c.w c.K c.mg c.base 7 "entry_of" ["stand"] jpl
abbrev jdu (c:Cv):Prop:=Has c.P c.w c.K c.mg c.base 1 "is_no_more" ["many","most"] jpk
abbrev jc3 (c:Cv):Prop:=Has c.P c.w c.K c.mg c.base 2 "has_no_more" ["counts","having"] jrn
abbrev jkd (c:Cv):Prop:=Has c.P c.w c.K c.mg c.base 3 "under" ["one","other"] jf3
abbrev jpn (c:Cv):Prop:=Has c.P c.w c.K c.mg c.base 8 "below" ["stand","entry"] jrp
abbrev ja7 (c:Cv):Prop:=Has c.P c.w c.K c.mg c.base 2 "_law_value" Zd jb5
abbrev jbu (c:Cv):Prop:=Has c.P c.w c.K c.mg c.base 2 "_law_size" Zd jfd
abbrev jcj (c:Cv):Prop:=Has c.P c.w c.K c.mg c.base 3 "_law_pattern" Zc jk7
abbrev jb6 (c:Cv):Prop:=Has c.P c.w c.K c.mg c.base 3 "_law_template" Zc jk6
abbrev jfi (c:Cv):Prop:=Has c.P c.w c.K c.mg c.base 3 "_law_term" Zc jff
abbrev jgu (c:Cv):Prop:=Has c.P c.w c.K c.mg c.base 4 "_law_act" ["_law_tape_here","_law_known_here","_law_open_ones"] jgr
abbrev jci (c:Cv):Prop:=Has c.P c.w c.K c.mg c.base 5 "_law_program" Zd jk5
abbrev jdx (c:Cv):Prop:=Has c.P c.w c.K c.mg c.base 3 "_law_notes" ["_law_tape_here","_law_most"] jhz
abbrev jb7 (c:Cv):Prop:=Has c.P c.w c.K c.mg c.base 6 "_law_programs" Zd jhy
abbrev jdy (c:Cv):Prop:=Has c.P c.w c.K c.mg c.base 1 "_law_known" ["_law_program_here","_law_block","_law_place"] jeb
abbrev jdw (c:Cv):Prop:=Has c.P c.w c.K c.mg c.base 4 "_law_stand" ["_law_tape_here","_law_programs_here","_law_most"] jfc
abbrev jgt (c:Cv):Prop:=Has c.P c.w c.K c.mg c.base 1 "_law_key" ["_law_row"] jdt
abbrev jbr (c:Cv):Prop:=HasX c.P c.w c.K c.mg c.base 1 "_law_counted" ["_law_notes_here"] jji
abbrev jcs (c:Cv):Prop:=Has c.P c.w c.K c.mg c.base 4 "_law_told" ["_law_found"] jfe
abbrev jdz (c:Cv):Prop:=Has c.P c.w c.K c.mg c.base 5 "_law_entry" ["_law_tape_here","_law_hands","_law_notes_here","_law_more"] jjh
abbrev jdv (c:Cv):Prop:=Has c.P c.w c.K c.mg c.base 1 "_law_under" ["_law_one","_law_other"] jf3
section
variable {c:Cv} (F:∀(j:Nat) (d:Ds),dL[j]?=some d->(Fun c.K d.x d.x (top d.i) d.f (fdO d)/\c.mg d.x=some (.ref d.f))/\Cp c.K (.ref d.f)=true) (z:∀x∈zL,c.mg x=none)
include F z
theorem jjr:jam c:=Has.mk' (F 10 _ rfl).1.1 (F 10 _ rfl).1.2 (bnd (F 10 _ rfl).1.1) (jq6 (jud (F 10 _ rfl).1.1 (zU z (by decide +kernel))))
theorem jjm:jfg c:=hasD (i:=1) 0 "value_key" (F 0 _ rfl).1 jha jfy
theorem jmn (h0:jfg c):jjl c:=hasD (i:=2) 1 "row_key" (F 1 _ rfl).1 jj5 ji8
theorem jlc (h0:jjl c):jgs c:=hasD (i:=3) 4 "in_order" (F 2 _ rfl).1 jiw jht
theorem jjn (h0:jgs c):jfh c:=hasD (i:=5) 5 "counts_of" (F 3 _ rfl).1 jhb jfz
theorem jld (h0:jfh c):jdg c:=hasD (i:=6) 6 "entry_of" (F 4 _ rfl).1 jix jhu
theorem jh5:jdu c:=hasD (i:=7) 0 "is_no_more" (F 5 _ rfl).1 jfn jex
theorem jgx (h0:jdu c):jc3 c:=hasD (i:=8) 1 "has_no_more" (F 6 _ rfl).1 jen jd7
theorem js1 (h0:jc3 c):jkd c:=hasD (i:=9) 2 "under" (F 7 _ rfl).1 joh jl9
theorem js2 (h0:jdg c) (h1:jkd c):jpn c:=hasD (i:=10) 7 "below" (F 8 _ rfl).1 joi jma
theorem jh6 (h0:jam c):ja7 c:=hasD (i:=14) 1 "_law_value" (F 11 _ rfl).1 jfo jey
theorem jjq (h0:jam c):jbu c:=hasD (i:=15) 1 "_law_size" (F 12 _ rfl).1 jhe jf2
theorem jfl (h0:jam c) (h1:jbu c) (h2:ja7 c):jcj c:=hasD (i:=16) 2 "_law_pattern" (F 13 _ rfl).1 jd3 jde
theorem jeg (h0:jam c) (h1:jbu c) (h2:ja7 c):jb6 c:=hasD (i:=17) 2 "_law_template" (F 14 _ rfl).1 jc9 jc0
theorem jjp (h0:jam c) (h1:ja7 c):jfi c:=hasD (i:=18) 2 "_law_term" (F 15 _ rfl).1 jhd jf1
theorem jlf (h0:jam c) (h1:jcj c) (h2:jb6 c) (h3:jfi c):jgu c:=hasD (i:=19) 3 "_law_act" (F 16 _ rfl).1 jiz jhw
theorem jfk (h0:jgu c) (h1:jam c):jci c:=hasD (i:=20) 4 "_law_program" (F 17 _ rfl).1 jd2 jdd
theorem jh9 (h0:jam c) (h1:jbu c) (h2:ja7 c):jdx c:=hasD (i:=21) 2 "_law_notes" (F 18 _ rfl).1 jfr je1
theorem jeh (h0:jam c) (h1:jci c):jb7 c:=hasD (i:=22) 5 "_law_programs" (F 19 _ rfl).1 jda jc1
theorem jia:jdy c:=hasD (i:=23) 0 "_law_known" (F 20 _ rfl).1 jfs je2
theorem jh8 (h0:jam c) (h1:jdy c) (h2:jdx c) (h3:ja7 c):jdw c:=hasD (i:=24) 3 "_law_stand" (F 21 _ rfl).1 jfq je0
theorem jle:jgt c:=hasD (i:=25) 0 "_law_key" (F 22 _ rfl).1 jiy jhv
theorem jfm:jbr c:=hasX (i:=26) 0 "_law_counted" (F 23 _ rfl).1 jd4 jdf
theorem jjo (h0:jgt c):jcs c:=hasD (i:=27) 3 "_law_told" (F 24 _ rfl).1 jhc jf0
theorem jib (h0:jbr c) (h1:jam c) (h2:jcs c):jdz c:=hasD (i:=28) 4 "_law_entry" (F 25 _ rfl).1 jft je3
theorem jh7:jdv c:=hasD (i:=29) 0 "_law_under" (F 26 _ rfl).1 jfp jez
theorem jyz (h0:jbr c) (h1:jam c) (h2:jdz c) (h3:jb7 c) (h4:jdw c) (h5:jcs c) (h6:jdv c) (h7:jpn c) (h8:jdg c) (h9:jkd c):FnOk c.P c.w c.K c.mg c.base CX0 9 (Ds.f ⟨30,"law",418,163,1,186,true,434,2⟩) (fdO ⟨30,"law",418,163,1,186,true,434,2⟩) Zb (DL.spLaw c.K):=by
 have bT:=bnd (ps:=Zb) (F 9 _ rfl).1.1;have GT:=juc (P:=c.P) (w:=c.w) (mg:=c.mg) (base:=c.base) (F 9 _ rfl).1.1;exact okL (i:=30) (N:=Za) 8 (F 27 _ rfl).1.1 GT bT (F 9 _ rfl).1.2 (F 9 _ rfl).2 jrg rfl λnd cdv A outer s H E hr=>jcb (i:=1) nd rfl (C5 rfl) (jg4 GT (hr.mono (by decide)) rfl (F 9 _ rfl).1.2 (F 9 _ rfl).2 bT .nil jql (jak (pv 0) jbd))
end
theorem jvb (c:Cv) (F:∀(j:Nat) (d:Ds),dL[j]?=some d->(Fun c.K d.x d.x (top d.i) d.f (fdO d)/\c.mg d.x=some (.ref d.f))/\Cp c.K (.ref d.f)=true) (z:∀x∈zL,c.mg x=none):FnOk c.P c.w c.K c.mg c.base CX0 9 (Ds.f ⟨30,"law",418,163,1,186,true,434,2⟩) (fdO ⟨30,"law",418,163,1,186,true,434,2⟩) Zb (DL.spLaw c.K):=by
 have a__law_draw:=jjr F z;have a_value_key:=jjm F z;have a_row_key:=jmn F z a_value_key;have a_in_order:=jlc F z a_row_key;have a_counts_of:=jjn F z a_in_order;have a_entry_of:=jld F z a_counts_of;have a_is_no_more:=jh5 F z;have a_has_no_more:=jgx F z a_is_no_more;have a_under:=js1 F z a_has_no_more;have a_below:=js2 F z a_entry_of a_under;have a__law_value:=jh6 F z a__law_draw;have a__law_size:=jjq F z a__law_draw;have a__law_pattern:=jfl F z a__law_draw a__law_size a__law_value;have a__law_template:=jeg F z a__law_draw a__law_size a__law_value;have a__law_term:=jjp F z a__law_draw a__law_value;have a__law_act:=jlf F z a__law_draw a__law_pattern a__law_template a__law_term;have a__law_program:=jfk F z a__law_act a__law_draw;have a__law_notes:=jh9 F z a__law_draw a__law_size a__law_value;have a__law_programs:=jeh F z a__law_draw a__law_program;have a__law_known:=jia F z;have a__law_stand:=jh8 F z a__law_draw a__law_known a__law_notes a__law_value;have a__law_key:=jle F z;have a__law_counted:=jfm F z;have a__law_told:=jjo F z a__law_key;have a__law_entry:=jib F z a__law_counted a__law_draw a__law_told;have a__law_under:=jh7 F z;exact jyz F z a__law_counted a__law_draw a__law_entry a__law_programs a__law_stand a__law_told a__law_under a_below a_entry_of a_under
theorem all_K (w:Bq) (mg:Str->Option Ad) (fa:Addr) (h:Heap) (X:(KK w.params).In h) (G:h.Ns C8 mg) (hfa:mg "law"=some (.ref fa)) :
  ∃fd:B8,(∀(s:Ah) (u:Ad),BindsTo s fd ⟨[u],[]⟩ [("_law_script",u)])/\∀base:Heap,(KK w.params).In base->base.Ns C8 mg->FnOk pR w (KK w.params) mg base CX0 9 fa fd Zb (DL.spLaw (KK w.params)):=by
 have e:=hfa.symm.trans (fnK X G 27 ⟨30,"law",418,163,1,186,true,434,2⟩ rfl).1.2;cases e;exact⟨fdO ⟨30,"law",418,163,1,186,true,434,2⟩,λs v=>.of_eq rfl,λbase _ _=>jvb ⟨pR,w,KK w.params,mg,base⟩ (λj d e=>fnK X G j d e) (zK X G)⟩
theorem walk {l:PySem.W.OpenLaw} {q:Bd} {loose:List Str} {XP:(Str->Option Ad)->Heap->Prop} {YP:Bq->Heap->Prop} {d:DefRec} {K:Params->Af} (hn:l.most=some 63) (hdf:d.params.defaults=[])
  (hY:∀(w:Bq) (h:Heap),YP w h->(K w.params).In h)
  (F:∀(w:Bq) (mg:Str->Option Ad) (fa:Addr) (h:Heap),(K w.params).In h->h.Ns C8 mg->mg d.name=some (.ref fa) ->
   ∃fd:B8,(∀(s:Ah) (u:Ad),BindsTo s fd ⟨[u],[]⟩ [("_law_script",u)])/\∀base:Heap,(K w.params).In base->base.Ns C8 mg->FnOk l.prog w (K w.params) mg base CX0 9 fa fd Zb (DL.spLaw (K w.params))) :
  PySem.W.WalkO q loose XP YP l.row.toRowW d [] (λf vs=>PySem.call f vs) :=
 L2.walk_of (n:=63) (k:=9) (x:="_law_script") (CX:=λ_=>CX0) (sp:=λw=>DL.spLaw (K w.params)) hn (by decide) hdf ⟨rfl,by decide,by decide,rfl⟩ hY F (λ_ _ a ns hl _ hS=>⟨a,ns,rfl,hS,hl,λ_=>rfl⟩) λ_ _ _ _ _ z=>z
end Nb
open PySem PySem.W PyProof.Rows
set_option maxRecDepth 100000 in
set_option maxHeartbeats 0 in
theorem PySem.Challenge.cw_noteboard_k47_below_and_under_holds : PySem.Challenge.rw_noteboard_k47_below_and_under.Holds := by
 refine holds_law Nb.said_ λsaid=>?_;refine holds_open (q:=Nb.qq) (loose:=Nb.lO) (Xt:=Nb.xT) (XP:=XL Nb.qq []) (Yf:=Hook.obs Nb.hK) (Ya:=Hook.val Nb.hK) (YP:=Hook.says Nb.hK) (d:=Nb.dW) (kwd:=[]) (N:=3000) Nb.left_ (Hook.of Nb.hK) (Hook.keeps Nb.hK) (λs e=>xl_of s (Bool.and_eq_true_iff.mp e).1) XL.keeps (by kernel_rfl) (by kernel_rfl) (by kernel_rfl) (λs e=>recFacts_of (Bool.and_eq_true_iff.mp e).2) (by kernel_rfl) said (by decide +kernel) ⟨rfl,rfl,rfl,rfl,rfl,by decide +kernel⟩ ?hw ?hc
 (case hw=>w_witness2)
 exact Nb.walk (l:=PySem.Challenge.rw_noteboard_k47_below_and_under) (by kernel_rfl) (by kernel_rfl) (λw h Y=>kIn_of Y) Nb.all_K
