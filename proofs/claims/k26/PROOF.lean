import PyProof.Rows.All
import Wide.All
import OpenK.AllK
import Wide.FinOn
import Lean
import PyProof.EqAt
import PyProof.EqKinds
import PyProof.TupleCall
import PyProof.AttrMissHeap
import PyProof.Rows.RegFStrParts
import PySem.Challenge.RW_noteboard_k26_weavings_parted
set_option Elab.async false
set_option linter.all false
set_option maxRecDepth 100000
open PySem renaming wpAny_bind -> Aa, PyData -> Ad, Value -> Af, Shared -> Ak, wpAny_pure -> Al, starEach -> Az, sizeLine -> A1, wpAny -> A4, model -> Ba, boot_len -> Bf, Program -> Bg, World -> Br, wpAny_newObj_type -> Bt, compareOp -> Bu, wpAny_callSpecial?_slot -> Bv, bootBuiltins -> B3, Around -> B4, wpAny_call_entry -> B6, behindInMarks -> B8, FuncData -> Cb, rawInt -> Cf, wpAny_holding -> Ck, mainGlobals -> Cp, wpAny_mono -> Cu, wpAny_field -> Cw, backTo -> Cz, wpAny_setField -> C2, wpAny_pyIter_tuple -> C9, wpAny_seqItems -> Dd, strKind -> Df, assignEach -> Di, wpAny_setEntries_of -> Dk, sizeLine_eq -> Dn, swapsWith -> Do, codeAny_builtin -> Dz, wpAny_truthy_bool -> D0, foldedSetIterable -> D2, Builtin -> D4, pyNext -> D6, firstArgMember -> Eb, binaryOp -> Ec, SetTable -> Ed, cLine -> Ef, sysModules -> Eh, wpAny_attempt -> El, wpAny_setState_of -> Ep, mem_of_lookup -> Et, isSubtype_type -> Ex, IsPair -> E1, plainId_quiet -> Fc, attributeBase -> Ff, codeAny -> Fg, wpAny_setField_rec -> Fj, tupleKind_room_in1 -> Fk, wpAny_typeOf -> Ft, wpAny_fieldsOf -> Fu, wpAny_rule -> Gc, wpAny_isInstance -> Gd, entryFor_of_tree -> Ge, sliceBounds -> Gh, wpAny_passesOwn -> Gm
open List renaming length_map -> Ab, length_append -> Ah, getElem?_eq_getElem -> Aj, set -> Ao, length_singleton -> Aq, length_cons -> Ar, mem_cons -> As, getElem?_eq_some_iff -> At, mem_cons_of_mem -> Au, not_mem_nil -> Aw, getElem?_map -> Ay, mem_cons_self -> A0, size_toArray -> A3, mem_of_getElem? -> A6, mem_append -> A8, map_append -> A9, mem_append_right -> Bc, mem_singleton -> Bd, map_cons -> Bi, find?_cons -> Bk, append_assoc -> Bn, mem_map -> Bo, range -> Bq, length_drop -> Bx, mem_iff_getElem? -> By, append_nil -> Bz, getElem?_append_right -> B5, getElem?_set_ne -> Cc, nil_append -> Ch, length_take -> Ci, getElem?_append_left -> Cl9, any_cons -> Co, toArray -> Cq, length_set -> Cr, take_of_length_le -> Cy, map_congr_left -> C1, getElem_mem -> C5, mem_range -> C7, map_eq_cons_iff -> C8, mem_filter -> Dc, map_map -> Dg, any_eq_true -> Dj, replicate -> Dl, drop_eq_getElem_cons -> Dq, nodup_cons -> Dr, mem_append_left -> Dt, map_eq_nil_iff -> D3, getElem?_replicate -> D5, not_lt -> D9, set_cons_zero -> Ea, length_range -> Ei, mem_of_mem_take -> En, drop_zero -> Eo, getElem_inj -> Er, of_mem_zip -> E5, getElem?_set_self' -> E8, findIdx?_eq_some_iff_getElem -> Fb, map_nil -> Fh, getElem?_eq_none -> Fp, ext_getElem -> Fr9, all_eq_true -> Fs, map_take -> Fw, length_take_le' -> Fy, eq_nil_of_length_eq_zero -> Fz, length_take_le -> Gf, flatMap_append -> Gg, zip_cons_cons -> Gi, mem_filterMap -> Gj, pairwise_singleton -> Gq
open PySem.Heap renaming get?_push_of_some -> Ae, lt_size -> Av, get?_push_size -> A2, get?_update_self -> Bs, size_push -> B7, SameBut -> Cs, get?_update_other -> Dh
open Bool renaming false_ne_true -> Ag, false_eq_true -> Ce, and_eq_true -> Cj, eq_iff_iff -> Gb
open PySem.W renaming Frag -> Ai, kia_one -> Cn, keepIn -> Cv, kas_rev -> D1, fnOf -> E6
open And renaming intro -> Am
open Nat renaming le_refl -> An, le_trans -> A5, ne_of_lt -> Bb, lt_of_lt_of_le -> Bj, zero_le -> Bm, lt_succ_of_lt -> Db, ne_of_gt -> Du, lt_irrefl -> Eg, sub_self -> Fl, le_of_lt -> Fm, lt_succ_self -> Fv
open Or renaming inl -> Ap, inr -> Bw
open Option.some renaming inj -> Ax
open PySem.Value renaming ref -> A7, none -> Be, type -> D8
open PySem.Heap.SameBut renaming update -> Bh
open Int renaming toNat_natCast -> Bp, natCast_nonneg -> Gn, emod_lt_of_pos -> Go, eq_ofNat_of_zero_le -> Gr
open PySem.Obj renaming data_mapFields -> B1, mapSeq -> Cg, isFreed_of_fields -> C3, putSet -> Dy, cls_mapFields -> Ek
open PyProof.Rows renaming seqObj -> B9, slot_tuple_getitem -> Dm, callWith_type1 -> D7
open PySem.Builtin.SmallTypes renaming nextOf -> Ca, ownedTupleIsFree -> C4, ownedTupleHandOut -> Gk
open Array renaming length_toList -> Cm, getElem?_eq_getElem -> Dp, toList_inj -> Fq
open Sum renaming inr -> Ct
open PySem.Str renaming ofString -> C0
open PySem.Around renaming under_plainId -> C6
open PySem.PyData renaming str -> Da, intsShort -> Em, showable -> Ey, int -> E3, eqv -> E4, depth -> E9, canLay0 -> Fa, weight -> Fo
open Exists renaming intro -> De
open True renaming intro -> Dv
open PySem.SetTable renaming grown -> Dw, below -> Dx
open PySem.Builtin.Slice renaming slicePlaces -> Ee, sliceAdjust -> Fx
open PySem.Builtin.Tuple renaming tupleExact -> Ej
open PySem.AutoSeq1 renaming wpAny_loadPart' -> Es
open PySem.F renaming args_tuple_add_2 -> Eu, slot_tuple_iterator_next -> Ev, entry_tuple_add -> E2, slot_tuple_add -> E7, plainAttrs_list -> Gp
open Option renaming isSome_iff_exists -> Ew, map_some -> Ez
open List.cons renaming inj -> Fi
open PySem.Builtin.List renaming listExtendWith -> Fn, listTooLong -> Ga
noncomputable section
namespace L2
open PySem PySem.Spec PyProof.Rows
abbrev Key:=Sum Int Str
def jrj:Key->Af->Bool
 |.inl k,v=>Value.isInt k v
 |.inr x,v=>Value.isStrOf x v
def keyH (w:Br):Key->Int
 |.inl k=>hashInt k
 |.inr x=>hashStr w x
theorem jbs:∀{k:Key} {v:Af},jrj k v=true->(∃i t,k=Sum.inl i/\v=Value.int i t)\/(∃x t,k=Ct x/\v=Value.str x t)
 |.inl i,v,h=>by
  obtain⟨t,e⟩:=Value.isInt_shape (k:=i) (v:=v) h;exact .inl ⟨i,t,rfl,e⟩
 |.inr x,v,h=>by
  obtain⟨t,e⟩:=Value.isStrOf_shape (x:=x) (v:=v) h;exact .inr ⟨x,t,rfl,e⟩
theorem jwq (i:Int) (t:Tok):jrj (.inl i) (.int i t)=true:=by simp[jrj,Value.isInt]
theorem jwp (x:Str) (t:Tok):jrj (.inr x) (.str x t)=true:=by simp[jrj,Value.isStrOf]
theorem j6t (a b:Int):decide ((Sum.inl a:Key)=Sum.inl b)=(a==b):=by
 by_cases e:a=b
 ·subst e;simp
 ·have h:¬(Sum.inl a:Key)=Sum.inl b:=λq=>e (Sum.inl.inj q);rw[decide_eq_false h];exact(beq_eq_false_iff_ne.mpr e).symm
theorem j6q (a b:Str):decide ((Ct a:Key)=Ct b)=decide (a=b):=by
 by_cases e:a=b
 ·subst e;simp
 ·have h:¬(Ct a:Key)=Ct b:=λq=>e (Sum.inr.inj q);rw[decide_eq_false h,decide_eq_false e]
theorem j6s (a:Int) (b:Str):decide ((Sum.inl a:Key)=Ct b)=false:=decide_eq_false (λq=>nomatch q)
theorem j6r (a:Str) (b:Int):decide ((Ct a:Key)=Sum.inl b)=false:=decide_eq_false (λq=>nomatch q)
def jbr (prog:Bg) (w:Br):PySem.KeyKind prog w Key where
 is:=jrj
 hash:=keyH w
 inj:=λv a b ha hb=>by
  rcases jbs ha with⟨i,t,rfl,rfl⟩ | ⟨x,t,rfl,rfl⟩
  ·rcases jbs hb with⟨j,u,rfl,e⟩ | ⟨y,u,rfl,e⟩
   ·injection e with e1 _;rw[e1]
   ·exact nomatch e
  ·rcases jbs hb with⟨j,u,rfl,e⟩ | ⟨y,u,rfl,e⟩
   ·exact nomatch e
   ·injection e with e1 _;rw[e1]
 byValue:=λk v h=>by
  rcases jbs h with⟨i,t,rfl,rfl⟩ | ⟨x,t,rfl,rfl⟩<;>rfl
 pyHash:=λhv h=>by
  rcases jbs hv with⟨i,t,rfl,rfl⟩ | ⟨x,t,rfl,rfl⟩
  ·exact wpAny_pyHash_int h
  ·exact wpAny_pyHash_str h
 eqBool:=λhu hv h=>by
  rcases jbs hu with⟨i,t,rfl,rfl⟩ | ⟨x,t,rfl,rfl⟩
  ·rcases jbs hv with⟨j,u,rfl,rfl⟩ | ⟨y,u,rfl,rfl⟩
   ·rw[j6t]at h;exact wpAny_eqBool_int h
   ·rw[j6s]at h;exact SeqAt.EqAt.int_str i t y u _ _ _ _ h
  ·rcases jbs hv with⟨j,u,rfl,rfl⟩ | ⟨y,u,rfl,rfl⟩
   ·rw[j6r]at h;exact SeqAt.EqAt.str_int x t j u _ _ _ _ h
   ·rw[j6q]at h;exact wpAny_eqBool_str h
 «strs»:=λk x t v h=>by
  rcases jbs h with⟨i,u,rfl,e⟩ | ⟨y,u,rfl,e⟩
  ·exact nomatch e
  ·injection e with e1 _;subst e1;cases v<;>rfl
theorem jrf (prog:Bg) (w:Br) (i:Int) (t:Tok):(jbr prog w).is (.inl i) (.int i t)=true:=jwq i t
theorem jre (prog:Bg) (w:Br) (x:Str) (t:Tok):(jbr prog w).is (.inr x) (.str x t)=true:=jwp x t
inductive V where
 |non | bl (b:Bool) | int (i:Int) | str (x:Str) | byt (b:Array UInt8) | flt (b:UInt64) | ref (a:Addr) | ty (n:String)
 deriving DecidableEq
def RelV:V->Af->Prop
 |.non,u=>u=Be
 |.bl b,u=>u=Value.bool b
 |.int i,u=>∃t,u=Value.int i t
 |.str x,u=>∃t,u=Value.str x t
 |.byt b,u=>∃t,u=Value.bytes b t
 |.flt b,u=>∃t,u=Value.float b t
 |.ref a,u=>u=A7 a
 |.ty n,u=>u=D8 n
abbrev Vals:List V->List Af->Prop:=Paired RelV
theorem Vals.length {xs:List V} {us:List Af} (r:Vals xs us):xs.length=us.length:=Paired.length r
theorem Vals.get:∀{xs:List V} {us:List Af} {i:Nat} {x:V},Vals xs us->xs[i]?=some x->∃u,us[i]?=some u/\RelV x u
 |_,_,_,_,.nil,e=>by simp at e
 |_,_,0,_,.cons r _,e=>by simp at e;subst e;exact⟨_,rfl,r⟩
 |_,_,i+1,x,.cons _ t,e=>by
  obtain⟨u,h1,h2⟩:=Vals.get (i:=i) (x:=x) t (by simpa using e);exact⟨u,by simpa using h1,h2⟩
theorem Vals.set {x:V} {u:Af} (r:RelV x u):∀{xs:List V} {us:List Af} (i:Nat),Vals xs us->Vals (xs.set i x) (us.set i u)
 |_,_,_,.nil=>.nil
 |_,_,0,.cons _ t=>.cons r t
 |_,_,i+1,.cons q t=>.cons q (Vals.set r i t)
theorem Vals.append:∀{xs ys:List V} {us ws:List Af},Vals xs us->Vals ys ws->Vals (xs++ys) (us++ws)
 |_,_,_,_,.nil,s=>s
 |_,_,_,_,.cons r t,s=>.cons r (Vals.append t s)
theorem Vals.take:∀{xs:List V} {us:List Af} (n:Nat),Vals xs us->Vals (xs.take n) (us.take n)
 |_,_,0,_=>.nil
 |_,_,_+1,.nil=>.nil
 |_,_,n+1,.cons r t=>.cons r (Vals.take n t)
theorem Vals.drop:∀{xs:List V} {us:List Af} (n:Nat),Vals xs us->Vals (xs.drop n) (us.drop n)
 |_,_,0,r=>r
 |_,_,_+1,.nil=>.nil
 |_,_,n+1,.cons _ t=>Vals.drop n t
def RelO:Option V->Option Af->Prop
 |some v,some u=>RelV v u
 |none,none=>True
 |_,_=>False
def KV {κ:Type}:List (κ×V)->List (κ×Af)->Prop:=Paired λ(p:κ×V) (q:κ×Af)=>p.1=q.1/\RelV p.2 q.2
def kV:Key->V
 |.inl i=>.int i
 |.inr x=>.str x
inductive HO where
 |lst (xs:List V)
 |tup (xs:List V)
 |dK (kvs:List (Key×V)) | dT (kvs:List (List Key×V))
 |set (S:Int->Bool) (n:Nat)
 |ins (C dx:Addr) (fs:List (Str×V))
 |own (x:Addr)
 |xd (fs:List (Str×V))
 |met (f x:Addr)
 |rng (lo hi:Int)
 |frz (o:Obj) (u:HO)
 |tbl (ps:Array Af)
 |ext (φ:Heap->Prop)
abbrev Hp:=Addr->Option HO
def upd (H:Hp) (a:Addr) (o:HO):Hp:=λb=>if b=a then some o else H b
theorem jao {H:Hp} {a:Addr} {o:HO}:upd H a o a=some o:=by unfold upd;rw[if_pos rfl]
theorem jap {H:Hp} {a b:Addr} {o:HO} (h:b≠a):upd H a o b=H b:=by unfold upd;rw[if_neg h]
theorem juo {H:Hp} {a:Addr} {o u:HO}:upd (upd H a o) a u=upd H a u:=by
 funext b;unfold upd;split<;>rfl
theorem j6j {H:Hp} {a b:Addr} {o u:HO} (h:H a=some o) (h':H b=some u) (d:o≠u):a≠b:=by
 intro e;subst e;rw[h]at h';exact d (Ax h')
theorem jal {H:Hp} {a b:Addr} {o:HO} (h:H a=some o) (h':H b=none):a≠b:=by
 intro e;subst e;rw[h]at h';cases h'
def IsTupP (h:Heap) (a:Addr) (items:Array Af):Prop:=∃o,h.get? a=some o/\o.cls=.type "tuple"/\(∃n,o.data=.seq items n)/\o.dict=none
theorem IsTupP.tup {h:Heap} {a:Addr} {items:Array Af} (x:IsTupP h a items):IsTup h a items:=let⟨o,e,c,d,_⟩:=x;⟨o,e,c,d⟩
theorem IsTupP.lt {h:Heap} {a:Addr} {items:Array Af} (x:IsTupP h a items):a < h.objs.size:=let⟨_,e,_⟩:=x;Av e
theorem IsTupP.new (h:Heap) (items:Array Af):IsTupP (h.push {cls:=.type "tuple",data:=.seq items}) h.objs.size items:=⟨_,A2 _ rfl,rfl,⟨_,rfl⟩,rfl⟩
section
variable (P:Bg) (w:Br)
def ObjOk (H:Hp) (h:Heap) (a:Addr):HO->Prop
 |.lst xs=>xs.length<=A1/\∃(its:List Af) (n:Nat),Vals xs its/\h.get? a=some {cls:=.type "list",data:=.seq its.toArray n}
 |.tup xs=>xs.length<=A1/\∃its:List Af,Vals xs its/\IsTupP h a its.toArray
 |.dK kvs=>kvs.length<=A1/\(a==Eh)=false/\∃vs,KV kvs vs/\h.DictOf (jbr P w) a vs
 |.dT kvs=>kvs.length<=A1/\(a==Eh)=false/\∃xs:List (List Key×Addr×Af),
   Paired (λ(p:List Key×V) (q:List Key×Addr×Af)=>p.1=q.1/\H q.2.1=some (.tup (p.1.map kV))/\RelV p.2 q.2.2) kvs xs /\
   ∃o es ep,h.get? a=some o/\o.ExactDict/\o.data=.dict es ep/\es.toList=xs.map (entryOfKey (tupleKind (jbr P w)))/\(xs.map (·.1)).Nodup
 |.set S n=>h.SetOf (intKind P w) a S n
 |.ins C dx fs=>H dx=some (.own a)/\fs.length<=1000/\dx≠a/\h.get? a=some (PySem.W.instObj C dx) /\
   ∃mA,h.Ns1 dx mA/\(∀f,RelO (fs.lookup f) (mA f))/\PySem.Within mA (fs.map (·.1))
 |.own _=>∃o,h.get? a=some o
 |.xd fs=>∃mA,h.Ns1 a mA/\∀f,RelO (fs.lookup f) (mA f)
 |.rng lo hi=>∃t u v,h.get? a=some {cls:=.type "range",data:=.fields #[.int lo t,.int hi u,.int 1 v]}
 |.frz o u=>h.get? a=some o/\ObjOk H h a u
 |.tbl ps=>h.get? a=some {cls:=.none,data:=.fields ps}
 |.met f x=>h.get? a=some (PySem.W.methodObj (.ref f) (.ref x))
 |.ext φ=>φ h/\(∃o,h.get? a=some o)/\∀h1 h2:Heap,φ h1->(∀o,h1.get? a=some o->h2.get? a=some o)->φ h2
def HOk (H:Hp) (h:Heap):Prop:=∀a o,H a=some o->ObjOk P w H h a o
end
section
variable {P:Bg} {w:Br} {H H':Hp} {h h':Heap} {a:Addr} {o:HO}
theorem ObjOk.lt (x:ObjOk P w H h a o):a < h.objs.size:=by
 cases o with
 |lst xs=>obtain⟨_,_,_,_,e⟩:=x;exact Av e
 |tup xs=>obtain⟨_,_,_,p⟩:=x;exact p.lt
 |dK kvs=>obtain⟨_,_,_,_,o,_,_,e,_⟩:=x;exact Av e
 |dT kvs=>obtain⟨_,_,_,_,o,_,_,e,_⟩:=x;exact Av e
 |set S n=>obtain⟨o,_,_,_,e,_⟩:=x;exact Av e
 |ins C dx fs=>obtain⟨_,_,_,e,_⟩:=x;exact Av e
 |own y=>obtain⟨_,e⟩:=x;exact Av e
 |xd fs=>obtain⟨_,⟨_,_,_,e,_⟩,_⟩:=x;exact Av e
 |rng lo hi=>obtain⟨_,_,_,e⟩:=x;exact Av e
 |frz ob u=>obtain⟨e,_⟩:=x;exact Av e
 |tbl ps=>exact Av (show h.get? a=some _ from x)
 |met f y=>exact Av (show h.get? a=some _ from x)
 |ext φ=>obtain⟨_,⟨_,e⟩,_⟩:=x;exact Av e
theorem Paired.mapP {α β:Type} {F G:α->β->Prop}:∀{l₁:List α} {l₂:List β},Paired F l₁ l₂->(∀a b,F a b->G a b)->Paired G l₁ l₂
 |_,_,.nil,_=>.nil
 |_,_,.cons r t,f=>.cons (f _ _ r) (Paired.mapP t f)
theorem ObjOk.stay (x:ObjOk P w H h a o) (k:∀b u,(b=a\/H b=some (.own a))->h.get? b=some u->h'.get? b=some u)
  (ho:∀b,H b=some (.own a)->H' b=some (.own a)) (ht:∀b xs,H b=some (.tup xs)->H' b=some (.tup xs)):ObjOk P w H' h' a o:=by
 induction o with
 |lst xs=>obtain⟨z,its,n,r,e⟩:=x;exact⟨z,its,n,r,k _ _ (.inl rfl) e⟩
 |tup xs=>obtain⟨z,its,r,ob,e,c⟩:=x;exact⟨z,its,r,ob,k _ _ (.inl rfl) e,c⟩
 |dK kvs=>obtain⟨z,y,vs,r,ob,es,ep,e,c⟩:=x;exact⟨z,y,vs,r,ob,es,ep,k _ _ (.inl rfl) e,c⟩
 |dT kvs =>
  obtain⟨z,y,xs,r,ob,es,ep,e,c⟩:=x;exact⟨z,y,xs,Paired.mapP r λp q z=>⟨z.1,ht _ _ z.2.1,z.2.2⟩,ob,es,ep,k _ _ (.inl rfl) e,c⟩
 |set S n=>obtain⟨ob,es,ep,t,e,c⟩:=x;exact⟨ob,es,ep,t,k _ _ (.inl rfl) e,c⟩
 |ins C dx fs =>
  obtain⟨d,z,ne,e,mA,⟨od,es,ep,e2,c⟩,r⟩:=x;exact⟨ho _ d,z,ne,k _ _ (.inl rfl) e,mA,⟨od,es,ep,k _ _ (.inr d) e2,c⟩,r⟩
 |own y=>obtain⟨ob,e⟩:=x;exact⟨ob,k _ _ (.inl rfl) e⟩
 |xd fs=>obtain⟨mA,⟨od,es,ep,e,c⟩,r⟩:=x;exact⟨mA,⟨od,es,ep,k _ _ (.inl rfl) e,c⟩,r⟩
 |rng lo hi=>obtain⟨t,u,v,e⟩:=x;exact⟨t,u,v,k _ _ (.inl rfl) e⟩
 |frz ob u ih=>obtain⟨e,q⟩:=x;exact⟨k _ _ (.inl rfl) e,ih q⟩
 |tbl ps =>
  have e:h.get? a=some {cls:=.none,data:=.fields ps}:=x;show h'.get? a=some {cls:=.none,data:=.fields ps};exact k a _ (.inl rfl) e
 |met f y =>
  have e:h.get? a=some (PySem.W.methodObj (.ref f) (.ref y)):=x;show h'.get? a=some (PySem.W.methodObj (.ref f) (.ref y));exact k a _ (.inl rfl) e
 |ext φ=>obtain⟨p,⟨o,e⟩,st⟩:=x;exact⟨st _ _ p λo q=>k _ _ (.inl rfl) q,⟨o,k _ _ (.inl rfl) e⟩,st⟩
theorem HOk.lt (x:HOk P w H h) (e:H a=some o):a < h.objs.size:=(x a o e).lt
theorem HOk.fresh (x:HOk P w H h) (e:h.objs.size<=a):H a=none:=by
 cases q:H a with
 |none=>rfl
 |some u=>exact absurd (Bj (x.lt q) e) (Eg _)
theorem HOk.kept (x:HOk P w H h) (k:∀b u,h.get? b=some u->h'.get? b=some u):HOk P w H h':=λa o e =>
 (x a o e).stay (λb u _ q=>k b u q) (λ_ q=>q) λ_ _ q=>q
theorem HOk.laid (x:HOk P w H h) (k:∀b u,h.get? b=some u->h'.get? b=some u) (hp:h.objs.size<=a) (new:ObjOk P w (upd H a o) h' a o):HOk P w (upd H a o) h':=λb u e=>by
 have hn:=x.fresh hp;by_cases hb:b=a
 ·subst hb;rw[jao]at e;cases e;exact new
 ·rw[jap hb]at e;exact(x b u e).stay (λc v _ q=>k c v q) (λc q=>by rw[jap (jal q hn)];exact q) λc xs q=>by rw[jap (jal q hn)];exact q
end
def Rd (H:Hp) (a:Addr) (u:HO):Prop:=H a=some u\/∃o,H a=some (.frz o u)
theorem Rd.ok {P:Bg} {w:Br} {H:Hp} {h:Heap} {a:Addr} {u:HO} (r:Rd H a u) (x:HOk P w H h):ObjOk P w H h a u:=by
 rcases r with r | ⟨o,r⟩
 ·exact x a u r
 ·obtain⟨_,q⟩:=x a _ r;exact q
def Mut:Option HO->Prop
 |some (.lst _)=>True
 |some (.dK _)=>True
 |some (.dT _)=>True
 |some (.set _ _)=>True
 |some (.ins _ _ _)=>True
 |some (.ext _)=>True
 |_=>False
section
variable {P:Bg} {w:Br} {H:Hp} {h h':Heap} {x e:Addr} {o':HO}
theorem HOk.write (ok:HOk P w H h) (mu:Mut (H x)) (he:e=x\/H e=some (.own x)) (k:∀b u,b≠e->h.get? b=some u->h'.get? b=some u) (heo:∃u,h'.get? e=some u)
  (new:ObjOk P w (upd H x o') h' x o'):HOk P w (upd H x o') h':=λb u q=>by
 have nown:∀c y,H c=some (.own y)->c≠x:=λc y r z=>by subst z;rw[r]at mu;exact mu
 have ntup:∀c xs,H c=some (.tup xs)->c≠x:=λc xs r z=>by subst z;rw[r]at mu;exact mu
 by_cases hb:b=x
 ·subst hb;rw[jao]at q;cases q;exact new
 ·rw[jap hb]at q;by_cases hbe:b=e
  ·have q':H b=some (.own x):=by
    rcases he with z | z
    ·exact absurd (hbe.trans z) hb
    ·rw[hbe];exact z
   rw[q]at q';cases q';obtain⟨v,hv⟩:=heo;exact⟨v,by rw[hbe];exact hv⟩
  ·refine(ok b u q).stay (λc v hc r=>k c v ?_ r) (λc r=>by rw[jap (nown c b r)];exact r) λc xs r=>by rw[jap (ntup c xs r)];exact r
   rcases hc with rfl | hc
   ·exact hbe
   ·rintro rfl
    rcases he with z | z
    ·exact nown c b hc z
    ·rw[hc]at z;cases z;exact hb rfl
end
structure Un (fs ex:List Addr) (H H':Hp) (h h':Heap):Prop where
 keep:∀b o,h.get? b=some o->H b=none->b∉fs->b∉ex->h'.get? b=some o
 slot:∀b o,h.get? b=some o->H b=none->b∈fs->b∉ex->∃sl,h'.get? b=some {o with slots:=sl}
 free:∀b o,h.get? b=some o->H b=none->b∉ex->H' b=none
 there:∀b o,h.get? b=some o->b∉ex->∃o',h'.get? b=some o'
 tups:∀b xs,H b=some (.tup xs)->H' b=some (.tup xs)
 frzs:∀b o u,H b=some (.frz o u)->H' b=some (.frz o u)
 tbls:∀b ps,H b=some (.tbl ps)->∃more,H' b=some (.tbl (ps++more))
section
variable {fs fs' ex ex':List Addr} {H H1 H2:Hp} {h h1 h2 h':Heap} {a x e:Addr} {o:HO}
theorem Un.any (u:Un fs ex H H1 h h1) {b:Addr} {ob:Obj} (q:h.get? b=some ob) (n:H b=none) (hx:b∉ex):∃sl,h1.get? b=some {ob with slots:=sl}:=by
 by_cases hb:b∈fs
 ·exact u.slot b ob q n hb hx
 ·exact⟨ob.slots,u.keep b ob q n hb hx⟩
theorem Un.kept (k:∀b u,h.get? b=some u->h'.get? b=some u):Un fs ex H H h h' :=
 ⟨λb ob q _ _ _=>k b ob q,λb ob q _ _ _=>⟨ob.slots,k b ob q⟩,λ_ _ _ n _=>n,λb ob q _=>⟨ob,k b ob q⟩,λ_ _ q=>q,λ_ _ _ q=>q,λ_ ps q=>⟨#[],by rw[q];simp⟩⟩
theorem Un.refl:Un fs ex H H h h:=Un.kept λ_ _ q=>q
theorem Un.laid (k:∀b u,h.get? b=some u->h'.get? b=some u) (hp:h.objs.size<=a) (hn:H a=none):Un fs ex H (upd H a o) h h' where
 keep:=λb u q _ _ _=>k b u q
 slot:=λb u q _ _ _=>⟨u.slots,k b u q⟩
 free:=λb u q n _=>by rw[jap (Bb (Bj (Av q) hp))];exact n
 there:=λb u q _=>⟨u,k b u q⟩
 tups:=λb xs q=>by rw[jap (jal q hn)];exact q
 frzs:=λb u xs q=>by rw[jap (jal q hn)];exact q
 tbls:=λb ps q=>⟨#[],by rw[jap (jal q hn),q];simp⟩
theorem Un.write (mu:Mut (H x)) (he:e=x\/H e=some (.own x)) (k:∀b u,b≠e->h.get? b=some u->h'.get? b=some u) (heo:∃u,h'.get? e=some u):Un fs ex H (upd H x o) h h':=by
 have hx:∀b,H b=none->b≠x:=λb n z=>by subst z;rw[n]at mu;exact mu
 have hb:∀b,H b=none->b≠e:=λb n z=>by
  subst z;rcases he with r | r
  ·exact hx b n r
  ·rw[n]at r;cases r
 have hm:∀b u,H b=some u->¬Mut (some u)->b≠x:=λb u q nm z=>by subst z;rw[q]at mu;exact nm mu
 refine⟨λb u q n _ _=>k b u (hb b n) q,λb u q n _ _=>⟨u.slots,k b u (hb b n) q⟩,λb u q n _=>by rw[jap (hx b n)];exact n,λb u q _=>?_,
  λb xs q=>by rw[jap (hm b _ q λz=>z)];exact q,λb u xs q=>by rw[jap (hm b _ q λz=>z)];exact q,λb ps q=>⟨#[],by rw[jap (hm b _ q λz=>z),q];simp⟩⟩
 by_cases hbe:b=e
 ·subst hbe;exact heo
 ·exact⟨u,k b u hbe q⟩
end
def trk (h:Heap) (H:Hp):List Addr:=(Bq h.objs.size).filter λa=>(H a).isSome
def hidT (h:Heap) (H:Hp):Heap:=PySem.W.hideAll h (trk h H)
theorem jwz (h:Heap) (H:Hp):(hidT h H).objs.size=h.objs.size:=PySem.W.hideAll_size _ _
theorem jzu {h:Heap} {H:Hp} {b:Addr} {o:Obj} (e:h.get? b=some o) (n:H b=none):(hidT h H).get? b=some o :=
 PySem.W.hideAll_get _ e λhm=>by
  have q:(H b).isSome=true:=(Dc.mp hm).2;rw[n]at q;simp at q
theorem j3h {h:Heap} {H:Hp} {b:Addr} {o:Obj} (e:(hidT h H).get? b=some o):h.get? b=some o/\H b=none:=by
 have e':h.get? b=some o:=PySem.W.of_hideAll (trk h H) e;refine⟨e',?_⟩;cases q:H b with
 |none=>rfl
 |some x =>
  have hm:b∈trk h H:=Dc.mpr ⟨C7.mpr (Av e'),by simp[q]⟩;have z:(hidT h H).get? b=none:=PySem.W.hideAll_none (trk h H) hm;rw[z]at e;cases e
def j4k (g h:Heap) (L:Addr):List (Addr×Obj):=(Bq h.objs.size).filterMap λa=>if a=L\/(g.get? a).isSome=true then none else(h.get? a).map λo=>(a,o)
def rest (g h:Heap) (L d:Addr):List (Addr×Obj):=(j4k g h L).filter λp=>decide (p.1≠d)
structure Mod (K:Ai) (mg:Str->Option Af) (base:Heap):Prop where
 kin:K.In base
 glob:base.Ns Cp mg
 blt:∃mb,base.Ns builtinsNs mb/\∀x:Str,x≠"__name__"->mb x=B3 x
 nolimit:base.NoLimit
structure Cx where
 prog:Bg
 w:Br
 K:Ai
 mg:Str->Option Af
 base:Heap
 A:B4
 N:List Str
 s₀:Ak
 H₀:Hp
 env:Env
 outer:List Env
 stack:List Env
 ex:List Addr
 fn:Str->Bool
 calm:Bool
 pn:List (Addr×Obj)
 xe:Af->Ak->Prop
def frs (l:List Env):List Addr:=l.filterMap (·.frame)
abbrev Cx.fs (X:Cx):List Addr:=frs X.outer
def Vis (sc:Scope) (x:Str):Prop:=sc.names.lookup x=some .local\/sc.names.lookup x=some .cell\/sc.names.lookup x=some .free
def Loc (sc:Scope) (x:Str):Prop:=sc.names.lookup x=some .local\/sc.names.lookup x=some .cell
def Look (env:Env) (h:Heap) (m:Str->Option Af) (x:Str) (u:Af):Prop :=
 (env.kindOf x=some .local/\m x=some u)\/((env.kindOf x=some .cell\/env.kindOf x=some .free)/\∃c,env.cells.lookup x=some c/\h.IsCell c (some u))
structure Cx.Ok (X:Cx):Prop where
 mod:Mod X.K X.mg X.base
 kind:X.env.scope.kind=.function
 glob:X.env.globals=Cp
 blt:X.env.builtins=builtinsNs
 above:X.s₀.heap.objs.size<=X.env.locals
 inj:∀x y c,X.env.cells.lookup x=some c->X.env.cells.lookup y=some c->x=y
 has:∀x,(X.env.kindOf x=some .cell\/X.env.kindOf x=some .free)->∃c,X.env.cells.lookup x=some c
 cab:∀x c,X.fn x=true->X.env.cells.lookup x=some c->X.s₀.heap.objs.size<=c
 hd:X.calm=true->X.A.handled=none
 frames:X.A.frames=some X.stack
 stk:X.stack=X.outer\/(X.stack=X.env::X.outer/\X.env.frame=some X.env.locals)
 exf:∀b∈X.ex,b≠X.env.locals/\∀x c,X.env.cells.lookup x=some c->c≠b
 bs:∀b o,X.base.get? b=some o->X.s₀.heap.get? b=some o/\X.H₀ b=none
 bsz:X.base.objs.size<=X.s₀.heap.objs.size
 noex:∀b o,X.base.get? b=some o->b∉X.ex
 exfs:∀b∈X.ex,b∉X.fs
 funs:X.s₀.heap.FunFrames X.base X.outer
 frf:∀b∈X.fs,X.H₀ b=none
structure Inv (X:Cx) (pins:List (Addr×Obj)) (σ:List (Option V)) (H:Hp) (s:Ak):Prop where
 ok:X.Ok
 os:s.os=X.s₀.os
 bare:AllBare s.gens
 base:Un X.fs X.ex X.H₀ H X.s₀.heap s.heap
 loc:∃m,s.heap.Ns X.env.locals m/\∀(i:Nat) (x:Str) (v:V),X.N[i]?=some x->σ[i]?=some (some v)->Vis X.env.scope x->∃u,RelV v u/\Look X.env s.heap m x u
 cell:∀x c,X.env.cells.lookup x=some c->∃v,s.heap.IsCell c v
 free:H X.env.locals=none
 freeC:∀x c,X.env.cells.lookup x=some c->H c=none
 pin:∀p∈X.pn++pins,s.heap.get? p.1=some p.2/\H p.1=none/\p.1≠X.env.locals/\p.1∉X.fs/\∀v,p.2.data≠.cell v
 hok:HOk X.prog X.w H s.heap
 len:σ.length=X.N.length
section
variable {X:Cx} {pins:List (Addr×Obj)} {σ:List (Option V)} {H H':Hp} {s:Ak} {h':Heap}
theorem Cx.Ok.nofr (ok:X.Ok) {b:Addr} {o:Obj} (e:X.base.get? b=some o):b∉X.fs:=λhb=>by
 have:=(ok.funs.mem hb).1;rw[e]at this;cases this
theorem Inv.bs (I:Inv X pins σ H s):∀b o,X.base.get? b=some o->s.heap.get? b=some o/\H b=none:=λb o e =>
 ⟨I.base.keep b o (I.ok.bs b o e).1 (I.ok.bs b o e).2 (I.ok.nofr e) (I.ok.noex b o e),I.base.free b o (I.ok.bs b o e).1 (I.ok.bs b o e).2 (I.ok.noex b o e)⟩
theorem Inv.bk (I:Inv X pins σ H s):∀b o,X.base.get? b=some o->s.heap.get? b=some o:=λb o e=>(I.bs b o e).1
theorem Inv.mod (I:Inv X pins σ H s):Mod X.K X.mg X.base:=I.ok.mod
theorem Inv.kIn (I:Inv X pins σ H s):X.K.In s.heap:=I.ok.mod.kin.keeps I.bk
theorem Inv.lt (I:Inv X pins σ H s):X.env.locals < s.heap.objs.size:=let⟨_,hn,_⟩:=I.loc;hn.lt
theorem Inv.sz (I:Inv X pins σ H s):X.s₀.heap.objs.size<=s.heap.objs.size:=A5 I.ok.above (Fm I.lt)
theorem Inv.nofs (I:Inv X pins σ H s) {a:Addr} (h:s.heap.objs.size<=a):a∉X.fs:=λhb=>by
 obtain⟨_,o,ho,_⟩:=I.ok.funs.mem hb;exact absurd (Bj (Av ho) (A5 I.sz h)) (Eg _)
theorem Inv.cne (I:Inv X pins σ H s):∀x c,X.env.cells.lookup x=some c->c≠X.env.locals:=λx c e z=>by
 obtain⟨v,o,ho,hd⟩:=I.cell x c e;obtain⟨m,⟨o',es,ep,ho',hd',_⟩,_⟩:=I.loc;rw[z,ho']at ho;cases ho;rw[hd']at hd;cases hd
theorem Inv.funs (I:Inv X pins σ H s):s.heap.FunFrames X.base X.outer:=by
 have all:∀(l:List Env),(∀b∈frs l,b∈X.fs)->X.s₀.heap.FunFrames X.base l->s.heap.FunFrames X.base l:=by
  intro l
  induction l with
  |nil=>intro _ _;trivial
  |cons env r ih =>
   intro hs hl;obtain⟨hk,⟨L,o,hf,hn,ho,hd⟩,hr⟩:=hl;have hL:L∈X.fs:=hs L (by unfold frs;rw[List.filterMap_cons,hf];exact A0);obtain⟨sl,e⟩:=I.base.slot L o ho (I.ok.frf L hL) hL λz=>I.ok.exfs L z hL;exact⟨hk,⟨L,_,hf,hn,e,hd⟩,ih (λb hb=>hs b (by unfold frs;rw[List.filterMap_cons,hf];exact Au _ hb)) hr⟩
 exact all X.outer (λ_ hb=>hb) I.ok.funs
theorem Inv.stack (I:Inv X pins σ H s):s.heap.FunFrames X.base X.stack:=by
 rcases I.ok.stk with e | ⟨e,hf⟩
 ·rw[e];exact I.funs
 ·rw[e];obtain⟨m,hn,_⟩:=I.loc;refine .cons (by rw[I.ok.kind];decide) hf hn ?_ I.funs;exact Heap.get?_none_of_le (A5 I.ok.bsz I.ok.above)
theorem Inv.stkSub (I:Inv X pins σ H s):∀b∈frs X.stack,b∈X.env.locals::X.fs:=λb hb=>by
 rcases I.ok.stk with e | ⟨e,hf⟩
 ·rw[e]at hb;exact Au _ hb
 ·rw[e]at hb;unfold frs at hb;rw[List.filterMap_cons,hf]at hb;exact hb
theorem Inv.stkFree (I:Inv X pins σ H s):∀b∈frs X.stack,H b=none:=λb hb=>by
 rcases As.mp (I.stkSub b hb)with e | hb
 ·rw[e];exact I.free
 ·obtain⟨_,o,ho,_⟩:=I.ok.funs.mem hb;exact I.base.free b o ho (I.ok.frf b hb) λz=>I.ok.exfs b z hb
theorem Inv.step {g':Array GenState} {t':Nat} {d':Drawn} {ch:List Addr} (I:Inv X pins σ H s)
  (hch:∀b∈ch,(b∈X.ex\/X.s₀.heap.objs.size<=b)/\b≠X.env.locals/\(∀x c,X.env.cells.lookup x=some c->c≠b)/\∀p∈X.pn++pins,p.1≠b)
  (keep:∀b o,b≠X.env.locals->b∉X.fs->b∉ch->s.heap.get? b=some o->H b=none->h'.get? b=some o)
  (slot:∀b o,b≠X.env.locals->b∈X.fs->b∉ch->s.heap.get? b=some o->H b=none->∃sl,h'.get? b=some {o with slots:=sl}) (free:∀b o,b∉ch->s.heap.get? b=some o->H b=none->H' b=none)
  (there:∀b o,b∉ch->s.heap.get? b=some o->∃o',h'.get? b=some o')
  (tups:∀b xs,H b=some (.tup xs)->H' b=some (.tup xs)) (frzs:∀b o u,H b=some (.frz o u)->H' b=some (.frz o u)) (tbls:∀b ps,H b=some (.tbl ps)->∃more,H' b=some (.tbl (ps++more)))
  (ns:∀m,s.heap.Ns X.env.locals m->h'.Ns X.env.locals m) (hok:HOk X.prog X.w H' h') (hg:AllBare g') :
  Inv X pins σ H' {s with heap:=h',gens:=g',drawn:=d',toks:=t'}:=by
 have neL:∀b o,X.s₀.heap.get? b=some o->b≠X.env.locals:=λb o e=>Bb (Bj (Av e) I.ok.above);have neC:∀b o,X.s₀.heap.get? b=some o->b∉X.ex->b∉ch:=λb o e hx hb=>by
  rcases(hch b hb).1 with z | z
  ·exact hx z
  ·exact absurd (Bj (Av e) z) (Eg _)
 have cellK:∀x c,X.env.cells.lookup x=some c->∀v,s.heap.IsCell c v->h'.IsCell c v:=λx c e v ⟨o,ho,hd⟩=>by
  have nch:c∉ch:=λz=>(hch c z).2.2.1 x c e rfl;by_cases hc:c∈X.fs
  ·obtain⟨sl,q⟩:=slot c o (I.cne x c e) hc nch ho (I.freeC x c e);exact⟨_,q,hd⟩
  ·exact⟨o,keep c o (I.cne x c e) hc nch ho (I.freeC x c e),hd⟩
 refine⟨I.ok,I.os,hg,⟨λb o e n hb hx=>?_,λb o e n hb hx=>?_,λb o e n hx=>?_,λb o e hx=>?_,λb xs e=>tups b xs (I.base.tups b xs e),λb o xs e=>frzs b o xs (I.base.frzs b o xs e),λb ps e=>?_⟩,?_,λx c e=>?_,?_,λx c e=>?_,λp hp=>?_,hok,I.len⟩
 ·exact keep b o (neL b o e) hb (neC b o e hx) (I.base.keep b o e n hb hx) (I.base.free b o e n hx)
 ·obtain⟨sl,e1⟩:=I.base.slot b o e n hb hx;obtain⟨sl',e2⟩:=slot b _ (neL b o e) hb (neC b o e hx) e1 (I.base.free b o e n hx);exact⟨sl',e2⟩
 ·obtain⟨o',e1⟩:=I.base.there b o e hx;exact free b o' (neC b o e hx) e1 (I.base.free b o e n hx)
 ·obtain⟨o',e1⟩:=I.base.there b o e hx;exact there b o' (neC b o e hx) e1
 ·obtain⟨m1,e1⟩:=I.base.tbls b ps e;obtain⟨m2,e2⟩:=tbls b _ e1;exact⟨m1++m2,by rw[e2,Array.append_assoc]⟩
 ·obtain⟨m,hn,hl⟩:=I.loc;refine⟨m,ns m hn,λi x v e1 e2 e3=>?_⟩;obtain⟨u,r,l⟩:=hl i x v e1 e2 e3;refine⟨u,r,?_⟩;rcases l with l | ⟨k,c,e,z⟩
  ·exact .inl l
  ·exact .inr ⟨k,c,e,cellK x c e _ z⟩
 ·obtain⟨v,z⟩:=I.cell x c e;exact⟨v,cellK x c e v z⟩
 ·obtain⟨m,⟨o,_,_,ho,_⟩,_⟩:=I.loc;exact free _ o (λz=>(hch _ z).2.1 rfl) ho I.free
 ·obtain⟨v,o,ho,hd⟩:=I.cell x c e;exact free c o (λz=>(hch c z).2.2.1 x c e rfl) ho (I.freeC x c e)
 ·obtain⟨e,n,ne,nf,d⟩:=I.pin p hp;have nch:p.1∉ch:=λz=>(hch p.1 z).2.2.2 p hp rfl;exact⟨keep p.1 p.2 ne nf nch e n,free p.1 p.2 nch e n,ne,nf,d⟩
theorem Inv.un {t':Nat} (I:Inv X pins σ H s) (u:Un X.fs [] H H' s.heap h') (hok:HOk X.prog X.w H' h'):Inv X pins σ H' {s with heap:=h',toks:=t'}:=by
 obtain⟨m,⟨o,es,ep,ho,r⟩,_⟩:=id I.loc;obtain⟨sl,hL⟩:=u.any ho I.free (by simp);exact I.step (g':=s.gens) (d':=s.drawn) (ch:=[]) (λ_ z=>nomatch z) (λb o _ hb _ e n=>u.keep b o e n hb (by simp)) (λb o _ hb _ e n=>u.slot b o e n hb (by simp)) (λb o _ e n=>u.free b o e n (by simp)) (λb o _ e=>u.there b o e (by simp)) u.tups u.frzs u.tbls (λm' hm=>by
  obtain⟨o',es',ep',ho',r'⟩:=hm;rw[ho]at ho';cases ho';exact⟨_,es',ep',hL,r'⟩) hok I.bare
theorem Inv.call {g':Array GenState} {t':Nat} {d':Drawn} {ch:List Addr} (I:Inv X pins σ H s) (u:Un (frs X.stack) ch H H' s.heap h') (hok:HOk X.prog X.w H' h') (hg:AllBare g')
  (hch:∀b∈ch,(b∈X.ex\/X.s₀.heap.objs.size<=b)/\b≠X.env.locals/\(∀x c,X.env.cells.lookup x=some c->c≠b)/\∀p∈X.pn++pins,p.1≠b) :
  Inv X pins σ H' {s with heap:=h',gens:=g',drawn:=d',toks:=t'}:=by
 obtain⟨m,⟨o,es,ep,ho,r⟩,_⟩:=id I.loc;obtain⟨sl,hL⟩:=u.any ho I.free λz=>(hch _ z).2.1 rfl;exact I.step (ch:=ch) hch (λb o hL hb hc e n=>u.keep b o e n (λz=>(As.mp (I.stkSub b z)).elim hL hb) hc) (λb o _ _ hc e n=>u.any e n hc) (λb o hc e n=>u.free b o e n hc) (λb o hc e=>u.there b o e hc) u.tups u.frzs u.tbls (λm' hm=>by
  obtain⟨o',es',ep',ho',r'⟩:=hm;rw[ho]at ho';cases ho';exact⟨_,es',ep',hL,r'⟩) hok hg
theorem Inv.turned {t':Nat} {it:Addr} (I:Inv X pins σ H s) (k:∀b o,b≠it->s.heap.get? b=some o->h'.get? b=some o) (hn:H it=none) (hL:it≠X.env.locals)
  (h1:it∈X.ex\/X.s₀.heap.objs.size<=it) (h2:∀x c,X.env.cells.lookup x=some c->c≠it) (h3:∀p∈X.pn++pins,p.1≠it):Inv X pins σ H {s with heap:=h',toks:=t'}:=by
 have nit:∀b u,H b=some u->b≠it:=λb u e z=>by rw[z,hn]at e;cases e
 refine I.step (g':=s.gens) (d':=s.drawn) (ch:=[it]) (λb hb=>?_) (λb o _ _ hc e _=>k b o (λz=>hc (by simp[z])) e) (λb o _ _ hc e _=>⟨o.slots,k b o (λz=>hc (by simp[z])) e⟩) (λ_ _ _ _ n=>n)
  (λb o hc e=>⟨o,k b o (λz=>hc (by simp[z])) e⟩) (λ_ _ e=>e) (λ_ _ _ e=>e) (λb ps e=>⟨#[],by rw[e];simp⟩) (λm hm=>?_) (λb u e=>?_) I.bare
 ·have e:b=it:=by simpa using hb
  subst e;exact⟨h1,hL,h2,h3⟩
 ·obtain⟨o,es,ep,ho,r⟩:=hm;exact⟨o,es,ep,k _ o (Ne.symm hL) ho,r⟩
 ·refine(I.hok b u e).stay (λc v hc q=>k c v ?_ q) (λ_ q=>q) λ_ _ q=>q;rcases hc with z | z
  ·rw[z];exact nit b u e
  ·exact nit c _ z
theorem Inv.tok (I:Inv X pins σ H s) (t:Nat):Inv X pins σ H {s with toks:=t}:=I.un (h':=s.heap) (t':=t) Un.refl I.hok
theorem Inv.kept {t':Nat} (I:Inv X pins σ H s) (k:∀b u,s.heap.get? b=some u->h'.get? b=some u):Inv X pins σ H {s with heap:=h',toks:=t'}:=I.un (Un.kept k) (I.hok.kept k)
theorem Inv.laid {a:Addr} {o:HO} {t':Nat} (I:Inv X pins σ H s) (k:∀b u,s.heap.get? b=some u->h'.get? b=some u) (hp:s.heap.objs.size<=a) (new:ObjOk X.prog X.w (upd H a o) h' a o) :
  Inv X pins σ (upd H a o) {s with heap:=h',toks:=t'}:=I.un (Un.laid k hp (I.hok.fresh hp)) (I.hok.laid k hp new)
theorem Inv.write {x e:Addr} {o:HO} {t':Nat} (I:Inv X pins σ H s) (mu:Mut (H x)) (he:e=x\/H e=some (.own x)) (k:∀b u,b≠e->s.heap.get? b=some u->h'.get? b=some u) (heo:∃u,h'.get? e=some u)
  (new:ObjOk X.prog X.w (upd H x o) h' x o):Inv X pins σ (upd H x o) {s with heap:=h',toks:=t'}:=I.un (Un.write mu he k heo) (I.hok.write mu he k heo new)
theorem Inv.pins_of {pins':List (Addr×Obj)} (I:Inv X pins σ H s) (h:∀p∈pins',s.heap.get? p.1=some p.2/\H p.1=none/\p.1≠X.env.locals/\p.1∉X.fs/\∀v,p.2.data≠.cell v):Inv X pins' σ H s :=
 ⟨I.ok,I.os,I.bare,I.base,I.loc,I.cell,I.free,I.freeC,λp hp=>(A8.mp hp).elim (λz=>I.pin p (Dt _ z)) (h p),I.hok,I.len⟩
theorem jss {N:List Str} (hN:N.Nodup) {i j:Nat} {x:Str} (a:N[i]?=some x) (b:N[j]?=some x):i=j:=by
 obtain⟨h1,e1⟩:=At.mp a;obtain⟨h2,e2⟩:=At.mp b;exact(Er hN).mp (e1.trans e2.symm)
theorem jpe {M:Model} {A:B4} {E:Af->Ak->Prop} {i:Nat} {x:Str} {v:V} {u:Af} {Q:Unit->Ak->Prop} (I:Inv X pins σ H s) (hN:X.N.Nodup) (hi:X.N[i]?=some x) (hx:Loc X.env.scope x) (r:RelV v u)
  (h:∀s',Inv X pins (σ.set i (some v)) H s'->(∃a,Cs a s.heap s'.heap/\(a=X.env.locals\/X.env.cells.lookup x=some a))->Q () s') (hf:X.fn x=true\/X.env.scope.names.lookup x=some .local:=by first | exact .inl rfl | exact .inr rfl | assumption):A4 M A (storeName X.env x u) Q E s:=by
 obtain⟨m,hn,hl⟩:=id I.loc;have hcls:(X.env.scope.kind==.class || (X.env.scope.kind==.module&&X.env.locals != X.env.globals))=false:=by rw[I.ok.kind];rfl
 have hiσ:i < σ.length:=by rw[I.len];exact(At.mp hi).1
 have cne:=I.cne;have tracked:∀{a:Addr} {h':Heap},(∃o,s.heap.get? a=some o/\H a=none)->Cs a s.heap h'->HOk X.prog X.w H h':=λ{a h'} ha hs b ob e=>by
  obtain⟨_,_,hfree⟩:=ha;refine(I.hok b ob e).stay (λc w' hc q=>(hs.2 c ?_).trans q) (λ_ q=>q) λ_ _ q=>q
  rintro rfl
  rcases hc with rfl | hc
  ·rw[hfree]at e;cases e
  ·rw[hfree]at hc;cases hc
 rcases hx with hk | hk
 ·refine wpAny_storeName_local hk hn (λh' hn' hs=>?_) hcls;obtain⟨oL,_,_,hoL,_⟩:=id hn;refine h _ ⟨I.ok,I.os,I.bare,⟨λb o e n hb hx=>?_,λb o e n hb hx=>?_,I.base.free,λb o e hx=>?_,I.base.tups,I.base.frzs,I.base.tbls⟩,⟨_,hn',λj y v' e1 e2 e3=>?_⟩,λy c e=>?_,I.free,I.freeC,λp hp=>?_,tracked ⟨oL,hoL,I.free⟩ hs,by simpa using I.len⟩ ⟨_,hs,.inl rfl⟩
  ·exact(hs.2 b (Bb (Bj (Av e) I.ok.above))).trans (I.base.keep b o e n hb hx)
  ·obtain⟨sl,e1⟩:=I.base.slot b o e n hb hx;exact⟨sl,(hs.2 b (Bb (Bj (Av e) I.ok.above))).trans e1⟩
  ·obtain⟨o',e1⟩:=I.base.there b o e hx;exact⟨o',(hs.2 b (Bb (Bj (Av e) I.ok.above))).trans e1⟩
  ·by_cases hj:j=i
   ·subst hj;rw[hi]at e1;cases e1;rw[List.getElem?_set_self hiσ]at e2;cases e2;exact⟨u,r,.inl ⟨hk,by simp⟩⟩
   ·rw[Cc (Ne.symm hj)]at e2;obtain⟨u',r',q⟩:=hl j y v' e1 e2 e3;refine⟨u',r',?_⟩;rcases q with⟨k,e⟩ | ⟨k,c,e,z⟩
    ·refine .inl ⟨k,?_⟩;have:y≠x:=λe=>hj (jss hN e1 (e▸hi));simp[this,e]
    ·exact .inr ⟨k,c,e,z.sameBut hs (cne y c e)⟩
  ·obtain⟨w',z⟩:=I.cell y c e;exact⟨w',z.sameBut hs (cne y c e)⟩
  ·obtain⟨e,n,ne,nf,d⟩:=I.pin p hp;exact⟨(hs.2 p.1 ne).trans e,n,ne,nf,d⟩
 ·have hfn:X.fn x=true:=by
   rcases hf with z | z
   ·exact z
   ·rw[z]at hk;cases hk
  obtain⟨c,hc⟩:=I.ok.has x (.inl hk);obtain⟨w',z⟩:=I.cell x c hc;refine wpAny_storeName_cell I.ok.kind hk hc z (λh' hc' hs=>?_);obtain⟨oc,hoc,hocd⟩:=id z;refine h {s with heap:=h'} ⟨I.ok,I.os,I.bare,⟨λb o e n hb hx=>?_,λb o e n hb hx=>?_,I.base.free,λb o e hx=>?_,I.base.tups,I.base.frzs,I.base.tbls⟩,⟨m,hn.sameBut hs (Ne.symm (cne x c hc)),λj y v' e1 e2 e3=>?_⟩,λy c' e=>?_,I.free,I.freeC,λp hp=>?_,tracked ⟨oc,hoc,I.freeC x c hc⟩ hs,by simpa using I.len⟩ ⟨c,hs,.inr hc⟩
  ·exact(hs.2 b (Bb (Bj (Av e) (I.ok.cab x c hfn hc)))).trans (I.base.keep b o e n hb hx)
  ·obtain⟨sl,e1⟩:=I.base.slot b o e n hb hx;exact⟨sl,(hs.2 b (Bb (Bj (Av e) (I.ok.cab x c hfn hc)))).trans e1⟩
  ·obtain⟨o',e1⟩:=I.base.there b o e hx;exact⟨o',(hs.2 b (Bb (Bj (Av e) (I.ok.cab x c hfn hc)))).trans e1⟩
  ·by_cases hj:j=i
   ·subst hj;rw[hi]at e1;cases e1;rw[List.getElem?_set_self hiσ]at e2;cases e2;exact⟨u,r,.inr ⟨.inl hk,c,hc,hc'⟩⟩
   ·rw[Cc (Ne.symm hj)]at e2;obtain⟨u',r',q⟩:=hl j y v' e1 e2 e3;refine⟨u',r',?_⟩;rcases q with q | ⟨k,c',e,z'⟩
    ·exact .inl q
    ·refine .inr ⟨k,c',e,z'.sameBut hs ?_⟩
     rintro rfl
     exact hj (jss hN e1 (I.ok.inj _ _ _ e hc▸hi))
  ·by_cases hcc:c'=c
   ·subst hcc;exact⟨_,hc'⟩
   ·obtain⟨w2,z2⟩:=I.cell y c' e;exact⟨w2,z2.sameBut hs hcc⟩
  ·obtain⟨e,n,ne,nf,d⟩:=I.pin p hp;refine⟨(hs.2 p.1 ?_).trans e,n,ne,nf,d⟩;intro q;rw[q,hoc]at e;have q':oc=p.2:=Ax e;exact d w' (by rw[<-q'];exact hocd)
theorem jr7 {M:Model} {A:B4} {E:Af->Ak->Prop} {i:Nat} {x:Str} {v:V} {u:Af} {Q:Unit->Ak->Prop} (I:Inv X pins σ H s) (hN:X.N.Nodup) (hi:X.N[i]?=some x) (hx:Loc X.env.scope x) (r:RelV v u)
  (h:∀s',Inv X pins (σ.set i (some v)) H s'->Q () s') (hf:X.fn x=true\/X.env.scope.names.lookup x=some .local:=by first | exact .inl rfl | exact .inr rfl | assumption):A4 M A (storeName X.env x u) Q E s :=
 jpe I hN hi hx r (λs' I' _=>h s' I') hf
theorem Inv.call' {s':Ak} {ch:List Addr} (I:Inv X pins σ H s) (ho:s'.os=s.os) (u:Un (frs X.stack) ch H H' s.heap s'.heap) (hok:HOk X.prog X.w H' s'.heap) (hg:AllBare s'.gens)
  (hch:∀b∈ch,(b∈X.ex\/X.s₀.heap.objs.size<=b)/\b≠X.env.locals/\(∀x c,X.env.cells.lookup x=some c->c≠b)/\∀p∈X.pn++pins,p.1≠b):Inv X pins σ H' s':=by
 obtain⟨h',g',d',t',o'⟩:=s';have e:o'=s.os:=ho;subst e;exact I.call (g':=g') (t':=t') (d':=d') u hok hg hch
end
abbrev XK:=Af->Option Addr->Hp->Prop
abbrev St:=List (Option V)
abbrev VK:=V->Hp->Prop
abbrev TE:=St->Hp->VK->Prop
abbrev TT:=St->Hp->(Bool->Hp->Prop)->Prop
abbrev TA:=St->Hp->(List V->Hp->Prop)->Prop
structure Ends where
 nx:St->Hp->Prop
 rt:VK
 bk:St->Hp->Prop:=λ_ _=>False
 ct:St->Hp->Prop:=λ_ _=>False
abbrev TS:=Ends->St->Hp->Prop
def EP (X:Cx) (pins:List (Addr×Obj)) (σ:St) (Q:VK) (u:Af) (s':Ak):Prop:=∃v H',Inv X pins σ H' s'/\RelV v u/\Q v H'
def TP (X:Cx) (pins:List (Addr×Obj)) (σ:St) (Q:Bool->Hp->Prop) (b:Bool) (s':Ak):Prop:=∃H',Inv X pins σ H' s'/\Q b H'
def AP (X:Cx) (pins:List (Addr×Obj)) (σ:St) (Q:List V->Hp->Prop) (us:List Af) (s':Ak):Prop:=∃vs H',Inv X pins σ H' s'/\Vals vs us/\Q vs H'
def SP (X:Cx) (pins:List (Addr×Obj)) (D:Ends) (f:Flow) (s':Ak):Prop :=
 match f with
 |.next=>∃σ' H',Inv X pins σ' H' s'/\D.nx σ' H'
 |.brk=>∃σ' H',Inv X pins σ' H' s'/\D.bk σ' H'
 |.cont=>∃σ' H',Inv X pins σ' H' s'/\D.ct σ' H'
 |.ret u=>∃v σ' H',Inv X pins σ' H' s'/\RelV v u/\D.rt v H'
def PE (X:Cx) (e:Expr) (t:TE):Prop :=
 ∀(pins:List (Addr×Obj)) (s:Ak) (σ:St) (H:Hp) (Q:VK),Inv X pins σ H s->t σ H Q->A4 (Ba X.prog X.w) X.A (eval e X.env) (EP X pins σ Q) X.xe s
def PT (X:Cx) (e:Expr) (t:TT):Prop :=
 ∀(pins:List (Addr×Obj)) (s:Ak) (σ:St) (H:Hp) (Q:Bool->Hp->Prop),Inv X pins σ H s->t σ H Q->A4 (Ba X.prog X.w) X.A (isTrue e X.env (eval e X.env)) (TP X pins σ Q) X.xe s
def PW (X:Cx) (e:Expr) (t:TT):Prop :=
 ∀(whole:Sem Af) (pins:List (Addr×Obj)) (s:Ak) (σ:St) (H:Hp) (Q:Bool->Hp->Prop),Inv X pins σ H s->t σ H Q->A4 (Ba X.prog X.w) X.A (isTrue e X.env whole) (TP X pins σ Q) X.xe s
theorem PW.pt {X:Cx} {e:Expr} {t:TT} (h:PW X e t):PT X e t:=h _
def PA (X:Cx) (es:List Expr) (t:TA):Prop :=
 ∀(pos:Pos) (pins:List (Addr×Obj)) (s:Ak) (σ:St) (H:Hp) (Q:List V->Hp->Prop),Inv X pins σ H s->t σ H Q->A4 (Ba X.prog X.w) X.A (spliced (Cz pos (Az es X.env))) (AP X pins σ Q) X.xe s
def PS (X:Cx) (st:Stmt) (t:TS):Prop :=
 ∀(pins:List (Addr×Obj)) (s:Ak) (σ:St) (H:Hp) (D:Ends),Inv X pins σ H s->t D σ H->A4 (Ba X.prog X.w) X.A (exec st X.env) (SP X pins D) X.xe s
def PSs (X:Cx) (st:List Stmt) (t:TS):Prop :=
 ∀(pins:List (Addr×Obj)) (s:Ak) (σ:St) (H:Hp) (D:Ends),Inv X pins σ H s->t D σ H->A4 (Ba X.prog X.w) X.A (execs st X.env) (SP X pins D) X.xe s
theorem thn {α:Type} {t:Sem α} {Q Q':α->Ak->Prop} {M:Model} {A:B4} {E:Af->Ak->Prop} {s:Ak} (h:A4 M A t Q E s) (hQ:∀a s,Q a s->Q' a s):A4 M A t Q' E s:=Cu h hQ λ_ _ x=>x
section
variable {X:Cx}
theorem bin {a b:Expr} {ta tb:TE} (ha:PE X a ta) (hb:PE X b tb) {pins:List (Addr×Obj)} {s:Ak} {σ:St} {H:Hp} {R:V->V->Hp->Prop} (I:Inv X pins σ H s) (h:ta σ H λx H1=>tb σ H1 λy H2=>R x y H2)
  {α:Type} {Q:α->Ak->Prop} {f:Af->Af->Sem α}
  (hf:∀v u s2 x y H2,Inv X pins σ H2 s2->RelV x v->RelV y u->R x y H2->A4 (Ba X.prog X.w) X.A (f v u) Q X.xe s2) :
  A4 (Ba X.prog X.w) X.A (eval a X.env) (λv s₁=>A4 (Ba X.prog X.w) X.A (eval b X.env) (λu s₂=>A4 (Ba X.prog X.w) X.A (f v u) Q X.xe s₂) X.xe s₁) X.xe s:=by
 refine thn (ha pins s σ H _ I h) λv s1 ⟨x,H1,I1,r1,q1⟩=>?_;refine thn (hb pins s1 σ H1 _ I1 q1) λu s2 ⟨y,H2,I2,r2,q2⟩=>?_;exact hf v u s2 x y H2 I2 r1 r2 q2
def tVar (i:Nat):TE:=λσ H Q=>∃v,σ[i]?=some (some v)/\Q v H
def tC (v:V):TE:=λ_ H Q=>Q v H
theorem jdl {i:Nat} {x:Str} {pos:Pos} (hN:X.N[i]?=some x) (hv:Vis X.env.scope x) (hd:(x==("__debug__":Str))=false:=by decide) (hcd:(x==("__classdict__":Str))=false:=by decide):PE X (.Name x pos) (tVar i):=by
 intro pins s σ H Q I h;obtain⟨v,e,h⟩:=h;obtain⟨m,hn,hl⟩:=I.loc;obtain⟨u,r,l⟩:=hl i x v hN e hv;have fin:EP X pins σ Q u s:=⟨v,H,I,r,h⟩;rcases l with⟨hk,hm⟩ | ⟨hk,c,hc,hcell⟩
 ·exact wpAny_Name (wpAny_loadName_local I.ok.kind hk hn hm fin) hd
 ·rcases hk with hk | hk
  ·exact wpAny_Name (wpAny_loadName_cell I.ok.kind hk hc hcell fin) hd
  ·exact wpAny_Name (wpAny_loadName_free I.ok.kind hk hc hcell fin hcd) hd
theorem jbh {i j pos}:PE X (.Constant (.int i) j pos) (tC (.int i)):=λ_ _ _ H _ I h=>wpAny_Constant_int ⟨.int i,H,I.tok _,⟨_,rfl⟩,h⟩
theorem j8g {b j pos}:PE X (.Constant (.bool b) j pos) (tC (.bl b)):=λ_ _ _ H _ I h=>Constant_bool ⟨.bl b,H,I,rfl,h⟩
theorem jso {j pos}:PE X (.Constant .none j pos) (tC .non):=λ_ _ _ H _ I h=>Constant_none ⟨.non,H,I,rfl,h⟩
theorem jsn {x j pos}:PE X (.Constant (.str x) j pos) (tC (.str x)):=λ_ _ _ H _ I h=>Calls.Constant_str ⟨.str x,H,I.tok _,⟨_,rfl⟩,h⟩
def Gl (X:Cx) (x:Str):Prop:=X.env.kindOf x=some .globalImplicit
theorem jwl {E:Af->Ak->Prop} {pins:List (Addr×Obj)} {s:Ak} {σ:St} {H:Hp} {x:Str} {u:Af} {pos:Pos} {Q:Af->Ak->Prop} (I:Inv X pins σ H s) (hg:Gl X x) (hm:X.mg x=some u) (h:Q u s)
  (hd:(x==("__debug__":Str))=false:=by decide):A4 (Ba X.prog X.w) X.A (eval (.Name x pos) X.env) Q E s :=
 Calls.Name_function_global I.ok.kind hg (Calls.loadGlobal_global (by rw[I.ok.glob];exact I.mod.glob.keeps I.bk) hm h) hd
theorem jm3 {E:Af->Ak->Prop} {pins:List (Addr×Obj)} {s:Ak} {σ:St} {H:Hp} {x:Str} {u:Af} {pos:Pos} {Q:Af->Ak->Prop} (I:Inv X pins σ H s) (hg:Gl X x) (hm:X.mg x=none) (hv:B3 x=some u) (h:Q u s)
  (hn:x≠"__name__":=by decide) (hd:(x==("__debug__":Str))=false:=by decide):A4 (Ba X.prog X.w) X.A (eval (.Name x pos) X.env) Q E s:=by
 obtain⟨mb,h1,h2⟩:=I.mod.blt;exact Calls.Name_function_global I.ok.kind hg (Calls.loadGlobal_builtin (by rw[I.ok.glob];exact I.mod.glob.keeps I.bk) hm (by rw[I.ok.blt];exact h1.keeps I.bk) ((h2 x hn).trans hv) h) hd
theorem jrc {x:Str} {v:V} {u:Af} {pos:Pos} (hg:Gl X x) (hm:X.mg x=some u) (r:RelV v u) (hd:(x==("__debug__":Str))=false:=by decide):PE X (.Name x pos) (tC v) :=
 λ_ _ _ H _ I h=>jwl I hg hm ⟨v,H,I,r,h⟩ hd
theorem j29 {x:Str} {v:V} {u:Af} {pos:Pos} (hg:Gl X x) (hm:X.mg x=none) (hv:B3 x=some u) (r:RelV v u) (hn:x≠"__name__":=by decide) (hd:(x==("__debug__":Str))=false:=by decide):PE X (.Name x pos) (tC v) :=
 λ_ _ _ H _ I h=>jm3 I hg hm hv ⟨v,H,I,r,h⟩ hn hd
variable {a b:Expr} {ta tb:TE} {pos:Pos}
def PC (X:Cx) (op:CmpOp) (a b:Expr) (t:TE):Prop :=
 ∀(pins:List (Addr×Obj)) (s:Ak) (σ:St) (H:Hp) (Q:VK),Inv X pins σ H s->t σ H Q ->
  A4 (Ba X.prog X.w) X.A (eval a X.env) (λv s₁=>A4 (Ba X.prog X.w) X.A (eval b X.env) (λu s₂=>A4 (Ba X.prog X.w) X.A (Bu op v u) (EP X pins σ Q) X.xe s₂) X.xe s₁) X.xe s
theorem jst (b:Expr) {op:CmpOp} (h:op≠.In) (h2:op≠.NotIn):B8 op b=false:=by
 have e1:(op==CmpOp.In)=false:=by cases op<;>first | rfl | exact absurd rfl h
 have e2:(op==CmpOp.NotIn)=false:=by cases op<;>first | rfl | exact absurd rfl h2
 cases b<;>simp[B8,e1,e2]
def tB (t:TE):TT:=λσ H Q=>t σ H λx H1=>∃c,x=.bl c/\Q c H1
theorem j1d {op:CmpOp} {t:TE} (h:PC X op a b t) (h1:B8 op b=false:=by first | exact jst _ (by decide) (by decide) | rfl):PE X (.Compare a [op] [b] pos) t:=λpins s σ H Q I hw=>wpAny_Compare1 (h pins s σ H Q I hw) h1
theorem j5z {op:CmpOp} {t:TE} (h:PC X op a b t) (h1:B8 op b=false:=by first | exact jst _ (by decide) (by decide) | rfl):PT X (.Compare a [op] [b] pos) (tB t):=by
 intro pins s σ H Q I hw;refine wpAny_isTrue_Compare1 (thn (h pins s σ H _ I hw) λv s1 h1=>thn h1 λu s2 h2=>thn h2 λc s3 ⟨x,H1,I1,r1,q1⟩=>?_) h1;obtain⟨d,rfl,q⟩:=q1;cases r1;exact D0 ⟨H1,I1,q⟩
theorem j5x {e:Expr} {t:TE} (h:PE X e t) (he:∀whole,isTrue e X.env whole=(do let v <-whole;standAt e.pos;holding [v] (truthy v)):=by intro _;rfl):PT X e (tB t):=by
 intro pins s σ H Q I hw;refine isTrue_plain (thn (h pins s σ H _ I hw) λv s1 ⟨x,H1,I1,r1,q1⟩=>?_) (he _);obtain⟨d,rfl,q⟩:=q1;cases r1;exact D0 ⟨H1,I1,q⟩
variable {tA tB':TT} {rest:List Expr}
def tAnd (t u:TT):TT:=λσ H Q=>t σ H λc H1=>if c=true then u σ H1 Q else Q false H1
def tOr (t u:TT):TT:=λσ H Q=>t σ H λc H1=>if c=true then Q true H1 else u σ H1 Q
def tNot (t:TT):TT:=λσ H Q=>t σ H λc H1=>Q (!c) H1
theorem jvw (ha:PT X a tA):PW X (.BoolOp .And [a] pos) tA:=by
 intro wh pins s σ H Q I h;refine isTrue_and (thn (ha pins s σ H Q I h) λc s1 e=>?_);cases c with
 |true=>exact isTrue_and_nil e
 |false=>exact e
theorem j5v (ha:PT X a tA):PW X (.BoolOp .Or [a] pos) tA:=by
 intro wh pins s σ H Q I h;refine isTrue_or (thn (ha pins s σ H Q I h) λc s1 e=>?_);cases c with
 |false=>exact isTrue_or_nil e
 |true=>exact e
theorem j1a (ha:PT X a tA) (hb:PW X (.BoolOp .And (b::rest) pos) tB'):PW X (.BoolOp .And (a::b::rest) pos) (tAnd tA tB'):=by
 intro wh pins s σ H Q I h;refine isTrue_and (thn (ha pins s σ H _ I h) λc s1 ⟨H1,I1,q1⟩=>?_);cases c with
 |true=>exact hb wh pins s1 σ H1 Q I1 q1
 |false=>exact⟨H1,I1,q1⟩
theorem j8c (ha:PT X a tA) (hb:PW X (.BoolOp .Or (b::rest) pos) tB'):PW X (.BoolOp .Or (a::b::rest) pos) (tOr tA tB'):=by
 intro wh pins s σ H Q I h;refine isTrue_or (thn (ha pins s σ H _ I h) λc s1 ⟨H1,I1,q1⟩=>?_);cases c with
 |true=>exact⟨H1,I1,q1⟩
 |false=>exact hb wh pins s1 σ H1 Q I1 q1
theorem j5y (ha:PT X a tA):PT X (.UnaryOp .Not a pos) (tNot tA):=by
 intro pins s σ H Q I h;exact isTrue_not (ha pins s σ H (λc H1=>Q (!c) H1) I h)
def j4z (ta tb:TE):TE:=λσ H Q=>ta σ H λx H1=>∃c,x=.bl c/\if c=true then tb σ H1 Q else Q (.bl false) H1
def tOrV (ta tb:TE):TE:=λσ H Q=>ta σ H λx H1=>∃c,x=.bl c/\if c=true then Q (.bl true) H1 else tb σ H1 Q
def j4u (ta:TE):TE:=λσ H Q=>ta σ H λx H1=>∃c,x=.bl c/\Q (.bl (!c)) H1
theorem j54 {op} {t:TE} (h:PE X a t):PE X (.BoolOp op [a] pos) t:=λpins s σ H Q I hw=>BoolOp_one (h pins s σ H Q I hw)
theorem j57 (ha:PE X a ta) (hb:PE X (.BoolOp .And (b::rest) pos) tb):PE X (.BoolOp .And (a::b::rest) pos) (j4z ta tb):=by
 intro pins s σ H Q I h;refine BoolOp_and (thn (ha pins s σ H _ I h) λv s1 ⟨x,H1,I1,r1,q1⟩=>?_);obtain⟨c,rfl,q1⟩:=q1;cases r1;refine D0 ?_;cases c with
 |true=>exact hb pins s1 σ H1 Q I1 q1
 |false=>exact⟨.bl false,H1,I1,rfl,q1⟩
theorem j8f (ha:PE X a ta) (hb:PE X (.BoolOp .Or (b::rest) pos) tb):PE X (.BoolOp .Or (a::b::rest) pos) (tOrV ta tb):=by
 intro pins s σ H Q I h;refine BoolOp_or (thn (ha pins s σ H _ I h) λv s1 ⟨x,H1,I1,r1,q1⟩=>?_);obtain⟨c,rfl,q1⟩:=q1;cases r1;refine D0 ?_;cases c with
 |false=>exact hb pins s1 σ H1 Q I1 q1
 |true=>exact⟨.bl true,H1,I1,rfl,q1⟩
theorem j55 (ha:PE X a ta):PE X (.UnaryOp .Not a pos) (j4u ta):=by
 intro pins s σ H Q I h;refine UnaryOp_ (thn (ha pins s σ H _ I h) λv s1 ⟨x,H1,I1,r1,q1⟩=>?_);obtain⟨c,rfl,q1⟩:=q1;cases r1;exact not_of (D0 ⟨.bl (!c),H1,I1,rfl,q1⟩)
def tIf (t:TT) (ta tb:TE):TE:=λσ H Q=>t σ H λc H1=>if c=true then ta σ H1 Q else tb σ H1 Q
theorem jy6 {c:Expr} (hc:PT X c tA) (ha:PE X a ta) (hb:PE X b tb):PE X (.IfExp c a b pos) (tIf tA ta tb):=by
 intro pins s σ H Q I h;refine wpAny_IfExp (thn (hc pins s σ H _ I h) λd s1 ⟨H1,I1,q1⟩=>?_);cases d with
 |true=>exact ha pins s1 σ H1 Q I1 q1
 |false=>exact hb pins s1 σ H1 Q I1 q1
end
def SqL (K:Ai) (H:Hp) (a:Addr) (xs:List V):Prop :=
 Rd H a (.lst xs) \/
  ∃(o:Obj) (its:Array Af) (n:Nat),K.lookup a=some o/\o.cls=.type "list"/\o.dict=none/\o.data=.seq its n/\its.size<=A1/\Vals xs its.toList
def SqT (K:Ai) (H:Hp) (a:Addr) (xs:List V):Prop :=
 Rd H a (.tup xs) \/
  ∃(o:Obj) (its:Array Af) (n:Nat),K.lookup a=some o/\o.cls=.type "tuple"/\o.data=.seq its n/\its.size<=A1/\Vals xs its.toList
def absV:Af->Option V
 |.none=>some .non
 |.bool b=>some (.bl b)
 |.int i _=>some (.int i)
 |.str x _=>some (.str x)
 |.bytes b _=>some (.byt b)
 |.float b _=>some (.flt b)
 |.ref a=>some (.ref a)
 |.type n=>some (.ty n)
 |_=>none
theorem RelV.abs {x:V} {u:Af} (r:RelV x u):absV u=some x:=by
 cases x with
 |non=>cases r;rfl
 |bl _=>cases r;rfl
 |int _=>obtain⟨t,rfl⟩:=r;rfl
 |str _=>obtain⟨t,rfl⟩:=r;rfl
 |byt _=>obtain⟨t,rfl⟩:=r;rfl
 |flt _=>obtain⟨t,rfl⟩:=r;rfl
 |ref _=>cases r;rfl
 |ty _=>cases r;rfl
theorem RelV.inj {x y:V} {u:Af} (r:RelV x u) (q:RelV y u):x=y:=Ax (r.abs.symm.trans q.abs)
theorem Vals.inj:∀{xs ys:List V} {us:List Af},Vals xs us->Vals ys us->xs=ys
 |_,_,_,.nil,.nil=>rfl
 |_,_,_,.cons r t,.cons r' t'=>by rw[r.inj r',Vals.inj t t']
section
variable {X:Cx} {pins:List (Addr×Obj)} {σ:St} {H:Hp} {s:Ak} {a:Addr} {xs ys:List V}
theorem SqL.of {K:Ai} (h:H a=some (.lst xs)):SqL K H a xs:=.inl (.inl h)
theorem SqT.of {K:Ai} (h:H a=some (.tup xs)):SqT K H a xs:=.inl (.inl h)
theorem Inv.list (I:Inv X pins σ H s) (h:SqL X.K H a xs):∃its:List Af,Vals xs its/\PlainL s.heap a its.toArray/\xs.length<=A1:=by
 rcases h with h | ⟨o,its,n,hk,hc,hd,hs,hz,r⟩
 ·obtain⟨z,its,n,r,e⟩:=h.ok I.hok;exact⟨its,r,⟨_,n,e,rfl,rfl,rfl⟩,z⟩
 ·refine⟨its.toList,r,⟨o,n,I.kIn a o hk,hc,hd,by simpa using hs⟩,?_⟩;have e:=r.length;simp only[Cm]at e;omega
theorem Inv.tuple (I:Inv X pins σ H s) (h:SqT X.K H a xs):∃its:List Af,Vals xs its/\IsTup s.heap a its.toArray/\xs.length<=A1:=by
 rcases h with h | ⟨o,its,n,hk,hc,hs,hz,r⟩
 ·obtain⟨z,its,r,p⟩:=h.ok I.hok;exact⟨its,r,p.tup,z⟩
 ·refine⟨its.toList,r,⟨o,I.kIn a o hk,hc,n,by simpa using hs⟩,?_⟩;have e:=r.length;simp only[Cm]at e;omega
theorem Inv.list_inj (I:Inv X pins σ H s) (h:SqL X.K H a xs) (h':SqL X.K H a ys):xs=ys:=by
 obtain⟨its,r,⟨o,n,e,_,_,d⟩,_⟩:=I.list h;obtain⟨its',r',⟨o',n',e',_,_,d'⟩,_⟩:=I.list h';rw[e]at e';cases e';rw[d]at d';injection d' with d1 _;have:its=its':=by simpa using congrArg Array.toList d1
 subst this;exact r.inj r'
theorem Inv.tuple_inj (I:Inv X pins σ H s) (h:SqT X.K H a xs) (h':SqT X.K H a ys):xs=ys:=by
 obtain⟨its,r,⟨o,e,_,n,d⟩,_⟩:=I.tuple h;obtain⟨its',r',⟨o',e',_,n',d'⟩,_⟩:=I.tuple h';rw[e]at e';cases e';rw[d]at d';injection d' with d1 _;have:its=its':=by simpa using congrArg Array.toList d1
 subst this;exact r.inj r'
end
abbrev Cx.wish (X:Cx) (E:Af->Ak->Prop):Cx:={ X with xe:=E}
abbrev Cx.nox (X:Cx):Cx:=X.wish λ_ _=>False
theorem Cx.Ok.wish {X:Cx} (ok:X.Ok) (E:Af->Ak->Prop):(X.wish E).Ok :=
 ⟨ok.mod,ok.kind,ok.glob,ok.blt,ok.above,ok.inj,ok.has,ok.cab,ok.hd,ok.frames,ok.stk,ok.exf,ok.bs,ok.bsz,ok.noex,ok.exfs,ok.funs,ok.frf⟩
theorem Cx.Ok.unwish {X:Cx} {E:Af->Ak->Prop} (ok:(X.wish E).Ok):X.Ok :=
 ⟨ok.mod,ok.kind,ok.glob,ok.blt,ok.above,ok.inj,ok.has,ok.cab,ok.hd,ok.frames,ok.stk,ok.exf,ok.bs,ok.bsz,ok.noex,ok.exfs,ok.funs,ok.frf⟩
section
variable {X:Cx} {pins:List (Addr×Obj)} {σ:St} {H:Hp} {s:Ak} {E:Af->Ak->Prop}
theorem Inv.wish (I:Inv X pins σ H s) (E:Af->Ak->Prop):Inv (X.wish E) pins σ H s:=⟨I.ok.wish E,I.os,I.bare,I.base,I.loc,I.cell,I.free,I.freeC,I.pin,I.hok,I.len⟩
theorem Inv.unwish (I:Inv (X.wish E) pins σ H s):Inv X pins σ H s:=⟨I.ok.unwish,I.os,I.bare,I.base,I.loc,I.cell,I.free,I.freeC,I.pin,I.hok,I.len⟩
theorem SP.unwish {D:Ends} {f:Flow} {s':Ak} (h:SP (X.wish E) pins D f s'):SP X pins D f s':=by
 cases f with
 |next=>obtain⟨σ',H',I,q⟩:=h;exact⟨σ',H',I.unwish,q⟩
 |brk=>obtain⟨σ',H',I,q⟩:=h;exact⟨σ',H',I.unwish,q⟩
 |cont=>obtain⟨σ',H',I,q⟩:=h;exact⟨σ',H',I.unwish,q⟩
 |ret u=>obtain⟨v,σ',H',I,r,q⟩:=h;exact⟨v,σ',H',I.unwish,r,q⟩
theorem PSs.nox {st:List Stmt} {t:TS} (h:PSs X.nox st t):PSs X st t:=λpins s σ H D I hw =>
 Cu (h pins s σ H D (I.wish _) hw) (λ_ _ q=>q.unwish) λ_ _ z=>False.elim z
end
section
variable {X:Cx} {st:Stmt} {rest:List Stmt} {t u:TS} {e:Expr} {te:TE} {pos:Pos}
def j4w:TS:=λD σ H=>D.nx σ H
def tSeq (t u:TS):TS:=λD σ H=>t {D with nx:=u D} σ H
theorem jns:PSs X [] j4w:=λ_ _ σ H _ I h=>wpAny_execs_nil ⟨σ,H,I,h⟩
theorem jcb (h1:PS X st t) (h2:PSs X rest u):PSs X (st::rest) (tSeq t u):=by
 intro pins s σ H D I h;refine wpAny_execs_cons (thn (h1 pins s σ H {D with nx:=u D} I h) λf s1 q=>?_);cases f with
 |next =>
  obtain⟨σ',H',I',q⟩:=q;exact h2 pins s1 σ' H' D I' q
 |ret v=>exact q
 |brk=>exact q
 |cont=>exact q
theorem jhc (h1:PS X st t):PSs X [st] t:=by
 intro pins s σ H D I h;refine wpAny_execs_cons (thn (h1 pins s σ H D I h) λf s1 q=>?_);cases f with
 |next=>exact wpAny_execs_nil q
 |ret v=>exact q
 |brk=>exact q
 |cont=>exact q
theorem Inv.quiet {pins:List (Addr×Obj)} {σ:St} {H:Hp} {s:Ak} (I:Inv X pins σ H s):interactive X.env=false:=by simp[interactive,I.ok.kind]
def jye (te:TE):TS:=λD σ H=>te σ H λ_ H1=>D.nx σ H1
theorem jrb (he:PE X e te) (hs:Do e none pos.line X.env=pure false:=by rfl):PS X (.Expr e pos) (jye te):=by
 intro pins s σ H D I h;exact wpAny_Expr_any (thn (he pins s σ H _ I h) λv s1 ⟨x,H1,I1,r1,q1⟩=>⟨σ,H1,I1,q1⟩) I.quiet hs
def tRet (te:TE):TS:=λD σ H=>te σ H D.rt
theorem jmx (he:PE X e te):PS X (.Return (some e) pos) (tRet te):=by
 intro pins s σ H D I h;exact wpAny_Return_some (thn (he pins s σ H _ I h) λv s1 ⟨x,H1,I1,r1,q1⟩=>⟨x,σ,H1,I1,r1,q1⟩)
def tIfS (c:TT) (t u:TS):TS:=λD σ H=>c σ H λb H1=>if b=true then t D σ H1 else u D σ H1
theorem jy2 {c:Expr} {a b:List Stmt} {tc:TT} (hc:PT X c tc) (ha:PSs X a t) (hb:PSs X b u):PS X (.If c a b pos) (tIfS tc t u):=by
 intro pins s σ H D I h;refine wpAny_If (thn (hc pins s σ H _ I h) λd s1 ⟨H1,I1,q1⟩=>?_);cases d with
 |true=>exact ha pins s1 σ H1 D I1 q1
 |false=>exact hb pins s1 σ H1 D I1 q1
end
abbrev TG:=V->St->Hp->(St->Hp->Prop)->Prop
abbrev TGs:=List V->St->Hp->(St->Hp->Prop)->Prop
def PG (X:Cx) (target:Expr) (t:TG):Prop :=
 ∀(pins:List (Addr×Obj)) (s:Ak) (σ:St) (H:Hp) (v:V) (u:Af) (Q:St->Hp->Prop),Inv X pins σ H s->RelV v u->t v σ H Q ->
  A4 (Ba X.prog X.w) X.A (assign target X.env u) (λ_ s'=>∃σ' H',Inv X pins σ' H' s'/\Q σ' H') X.xe s
def PGs (X:Cx) (ts:List Expr) (t:TGs):Prop :=
 ∀(pins:List (Addr×Obj)) (s:Ak) (σ:St) (H:Hp) (vs:List V) (us:List Af) (Q:St->Hp->Prop),Inv X pins σ H s->Vals vs us->t vs σ H Q ->
  A4 (Ba X.prog X.w) X.A (assignInOrder ((Di ts X.env).map (·.2)) us) (λ_ s'=>∃σ' H',Inv X pins σ' H' s'/\Q σ' H') X.xe s
abbrev TSet:=V->V->V->Hp->(Hp->Prop)->Prop
def PSet (X:Cx) (t:TSet):Prop :=
 ∀(pins:List (Addr×Obj)) (s:Ak) (σ:St) (H:Hp) (o i v:V) (ov iv u:Af) (Q:Hp->Prop),Inv X pins σ H s->RelV o ov->RelV i iv->RelV v u->t o i v H Q ->
  A4 (Ba X.prog X.w) X.A (setItem ov iv u) (λ_ s'=>∃H',Inv X pins σ H' s'/\Q H') X.xe s
section
variable {X:Cx} {pos:Pos}
def jhs (i:Nat):TG:=λv σ H Q=>Q (σ.set i (some v)) H
theorem j23 {i:Nat} {x:Str} (hN:X.N.Nodup) (hi:X.N[i]?=some x) (hx:Loc X.env.scope x) (hf:X.fn x=true\/X.env.scope.names.lookup x=some .local:=by first | exact .inl rfl | exact .inr rfl | assumption):PG X (.Name x pos) (jhs i):=by
 intro pins s σ H v u Q I r h;exact wpAny_assign_Name (jr7 I hN hi hx r (λs' I'=>⟨_,H,I',h⟩) hf)
def gNil:TGs:=λvs σ H Q=>vs=[]/\Q σ H
def j7a (t:TG) (u:TGs):TGs:=λvs σ H Q=>∃v r,vs=v::r/\t v σ H λσ' H'=>u r σ' H' Q
theorem j22:PGs X [] gNil:=by
 intro pins s σ H vs us Q I r h;obtain⟨e,h⟩:=h;subst e;cases r;exact assignInOrder_nil ⟨σ,H,I,h⟩
theorem jy5 {e:Expr} {es:List Expr} {t:TG} {u:TGs} (h1:PG X e t) (h2:PGs X es u)
  (hs:(Di (e::es) X.env).map (·.2)=assign e X.env::(Di es X.env).map (·.2):=by rfl):PGs X (e::es) (j7a t u):=by
 intro pins s σ H vs us Q I r h;obtain⟨v,vr,e1,h⟩:=h;subst e1;cases r with
 |cons r rr =>
  rw[hs];refine assignInOrder_cons (thn (h1 pins s σ H _ _ _ I r h) λ_ s1 ⟨σ1,H1,I1,q1⟩=>?_);exact h2 pins s1 σ1 H1 _ _ Q I1 rr q1
def gTup (K:Ai) (n:Nat) (t:TGs):TG:=λv σ H Q=>∃a xs,v=.ref a/\SqT K H a xs/\xs.length=n/\t xs σ H Q
theorem j53 {es:List Expr} {k:Nat} {t:TGs} {n:Nat} (hc:X.calm=true) (h:PGs X es t)
  (hn:(Di es X.env).length=n:=by rfl) (hst:(Di es X.env).findIdx? (·.1)=none:=by rfl):PG X (.Tuple es k pos) (gTup X.K n t):=by
 intro pins s σ H v u Q I r hw;obtain⟨a,xs,e1,hq,hl,hw⟩:=hw;subst e1;cases r;obtain⟨its,rv,ht,hz⟩:=I.tuple hq;refine assign_Tuple_tuple (I.ok.hd hc) ht (by simp[hn,<-hl,rv.length]) hst λh' hx=>?_;have I1:Inv X pins σ H {s with heap:=h'}:=I.kept (t':=s.toks) λb o e=>hx b o (Bb (Av e)) e;exact h pins _ σ H xs _ Q I1 (by simpa using rv) hw
def gSub (to ti:TE) (t:TSet):TG:=λv σ H Q=>to σ H λo H1=>ti σ H1 λi H2=>t o i v H2 λH3=>Q σ H3
theorem jsm {o i:Expr} {to ti:TE} {t:TSet} (ho:PE X o to) (hi:PE X i ti) (hs:PSet X t)
  (ha:∀v,assign (.Subscript o i pos) X.env v=(do
   let ov <-holding [v] (eval o X.env)
   let iv <-holding [v,ov] (eval i X.env)
   standAt pos
   holding [v,ov,iv] (setItem ov iv v)
   release [v,ov,iv] []):=by intro _;rfl):PG X (.Subscript o i pos) (gSub to ti t):=by
 intro pins s σ H v u Q I r h;rw[ha];refine Aa (Ck (thn (ho pins s σ H _ I h) λov s1 ⟨x,H1,I1,r1,q1⟩=>?_));refine Aa (Ck (thn (hi pins s1 σ H1 _ I1 q1) λiv s2 ⟨y,H2,I2,r2,q2⟩=>?_));refine Aa (wpAny_standAt (Aa (Ck (thn (hs pins s2 σ H2 x y v ov iv u _ I2 r1 r2 r q2) λ_ s3 ⟨H3,I3,q3⟩=>?_))));exact wpAny_release ⟨σ,H3,I3,q3⟩
def tAsg (te:TE) (g:TG):TS:=λD σ H=>te σ H λx H1=>g x σ H1 D.nx
theorem jpm {tg e:Expr} {te:TE} {g:TG} (he:PE X e te) (hg:PG X tg g) (hs:swapsWithSole [tg] e pos.line X.env=pure false:=by rfl) (hw:swappedStores [tg] e X.env=pure none:=by rfl)
  (h1:(Di [tg] X.env).map (·.2)=[assign tg X.env]:=by rfl):PS X (.Assign [tg] e pos) (tAsg te g):=by
 intro pins s σ H D I h;refine wpAny_Assign_stores (thn (he pins s σ H _ I h) λv s1 ⟨x,H1,I1,r1,q1⟩=>?_) hs hw;rw[h1];exact thn (hg pins s1 σ H1 x v _ I1 r1 q1) λ_ s2 q=>q
theorem jf4 {i:Nat} {x:Str} {e:Expr} {te:TE} {pos':Pos} (hN:X.N.Nodup) (hi:X.N[i]?=some x) (hx:Loc X.env.scope x) (he:PE X e te) (hs:Do e (some (.Name x pos')) pos.line X.env=pure false:=by rfl) (hf:X.fn x=true\/X.env.scope.names.lookup x=some .local:=by first | exact .inl rfl | exact .inr rfl | assumption) :
  PS X (.Assign [.Name x pos'] e pos) (tAsg te (jhs i)):=by
 intro pins s σ H D I h;refine wpAny_Assign_Name (thn (he pins s σ H _ I h) λv s1 ⟨y,H1,I1,r1,q1⟩=>?_) hs;exact jr7 I1 hN hi hx r1 (λs2 I2=>⟨_,H1,I2,q1⟩) hf
end
structure It where
 go:Nat->Hp->Prop
 yld:Nat->Hp->V->Hp->Prop
 stop:Nat->Hp->Prop
def FpOk (X:Cx) (pins:List (Addr×Obj)) (H:Hp) (b:Addr):Prop :=
 H b=none/\b≠X.env.locals/\b∉X.fs/\(b∈X.ex\/X.s₀.heap.objs.size<=b)/\(∀x c,X.env.cells.lookup x=some c->c≠b)/\∀p∈X.pn++pins,p.1≠b
theorem Inv.fpOk {X:Cx} {pins:List (Addr×Obj)} {σ:St} {H H':Hp} {s:Ak} {b:Addr} (I:Inv X pins σ H s) (hb:s.heap.objs.size<=b) (hn:H' b=none):FpOk X pins H' b:=by
 refine⟨hn,Du (Bj I.lt hb),I.nofs hb,.inr (A5 I.sz hb),λx c e z=>?_,λp hp z=>?_⟩
 ·obtain⟨v,q⟩:=I.cell x c e;exact absurd (Bj q.lt (by rw[z];exact hb)) (Eg _)
 ·exact absurd (Bj (Av (I.pin p hp).1) (by rw[z];exact hb)) (Eg _)
structure Turn (P:Bg) (w:Br) (K:Ai) (tg:Expr) (J:It) (fp:List Addr) (it:Addr) (tn:Nat->Heap->Prop):Prop where
 mem:it∈fp
 obj:∀i h,tn i h->∀b∈fp,∃o,h.get? b=some o/\∀v,o.data≠.cell v
 keep:∀i h h',tn i h->(∀b∈fp,∀o,h.get? b=some o->h'.get? b=some o)->tn i h'
 item:∀(X:Cx),X.prog=P->X.w=w->X.K=K->X.calm=true->∀(i:Nat) (pins:List (Addr×Obj)) (s:Ak) (σ:St) (H:Hp) (E:Af->Ak->Prop),Inv X pins σ H s->(∀b∈fp,FpOk X pins H b)->tn i s.heap->J.go i H ->
  A4 (Ba P w) X.A (D6 (.ref it)) (λr s1=>∃u,r=some u /\
   A4 (Ba P w) X.A (letOwnedTupleGo tg (.ref it) u) (λ_ s2=>∃x H',Inv X pins σ H' s2/\RelV x u/\J.yld i H x H'/\tn (i+1) s2.heap/\∀b∈fp,H' b=none) E s1) E s
 done:∀(X:Cx),X.prog=P->X.w=w->X.K=K->X.calm=true->∀(i:Nat) (pins:List (Addr×Obj)) (s:Ak) (σ:St) (H:Hp) (E:Af->Ak->Prop),Inv X pins σ H s->(∀b∈fp,FpOk X pins H b)->tn i s.heap->J.stop i H ->
  A4 (Ba P w) X.A (D6 (.ref it)) (λr s1=>r=none/\Inv X pins σ H s1) E s
 self:∀(A:B4) (i:Nat) (s:Ak) (Q:Af->Ak->Prop) (E:Af->Ak->Prop),tn i s.heap->Q (.ref it) s->A4 (Ba P w) A (pyIter (.ref it)) Q E s
abbrev TI:=St->Hp->(It->Hp->Prop)->Prop
def PIE (X:Cx) (pins:List (Addr×Obj)) (σ:St) (tg:Expr) (R:It->Hp->Prop) (itv:Af) (s2:Ak):Prop :=
 ∃(it:Addr) (fp:List Addr) (tn:Nat->Heap->Prop) (J:It) (H':Hp),itv=.ref it/\Inv X pins σ H' s2/\Turn X.prog X.w X.K tg J fp it tn/\tn 0 s2.heap/\(∀b∈fp,FpOk X pins H' b)/\R J H'
def PI (X:Cx) (tg iter:Expr) (wi:TI):Prop :=
 ∀(pins:List (Addr×Obj)) (s:Ak) (σ:St) (H:Hp) (R:It->Hp->Prop),Inv X pins σ H s->wi σ H R ->
  A4 (Ba X.prog X.w) X.A (eval iter X.env) (λv s1=>A4 (Ba X.prog X.w) X.A (pyIter v) (PIE X pins σ tg R) X.xe s1) X.xe s
theorem j3w {M:Model} {A:B4} {E:Af->Ak->Prop} {s:Ak} {tg:Expr} {it:Addr} {u:Af} {o:Obj} {n:String} {vs:Array Af} {Q:Unit->Ak->Prop} (ho:s.heap.get? it=some o) (hc:o.cls=.type n) (hd:o.data=.fields vs)
  (hn:["enumerate","zip","dict_itemiterator","dict_reverseitemiterator","odict_iterator","itertools.zip_longest","itertools.pairwise"].contains n=false) (hQ:Q () s):A4 M A (letOwnedTupleGo tg (.ref it) u) Q E s:=by
 unfold letOwnedTupleGo;cases tg<;>first
  |exact Al hQ
  | (cases u<;>first
    |exact Al hQ
    | (refine Aa (wpAny_load ho ?_)
       rw[hc,hd];show A4 M A (if (["enumerate","zip","dict_itemiterator","dict_reverseitemiterator","odict_iterator","itertools.zip_longest","itertools.pairwise"].contains n&&vs[0]?==some (Cf _))=true then _ else _) Q E s;rw[if_neg (by intro h;rw[hn,Bool.false_and]at h;cases h)];exact Al hQ))
def Itl (K:Ai) (a:Addr):It :=
 ⟨λi H=>∃xs x,SqL K H a xs/\xs[i]?=some x,λi H x H'=>H'=H/\∀xs,SqL K H a xs->xs[i]?=some x,λi H=>∃xs,SqL K H a xs/\xs.length<=i⟩
def Itt (K:Ai) (a:Addr):It :=
 ⟨λi H=>∃xs x,SqT K H a xs/\xs[i]?=some x,λi H x H'=>H'=H/\∀xs,SqT K H a xs->xs[i]?=some x,λi H=>∃xs,SqT K H a xs/\xs.length<=i⟩
def Itr (lo:Int) (n:Nat):It:=⟨λi _=>i < n,λi H x H'=>H'=H/\x=.int (lo+i),λi _=>n<=i⟩
theorem jup {P:Bg} {w:Br} {K:Ai} {tg:Expr} (a it:Addr):Turn P w K tg (Itl K a) [it] it (λi h=>h.IsListIter it a i) where
 mem:=by simp
 obj:=λi h st b hb=>by
  have e:b=it:=by simpa using hb
  subst e;obtain⟨o,e,c,d⟩:=st;exact⟨o,e,λv z=>by rw[d]at z;cases z⟩
 keep:=λi h h' st k=>st.at λo e=>k it (by simp) o e
 item:=by
  intro X hP hw hK hc i pins s σ H E I hf st hg;subst hP hw hK;obtain⟨xs,x,hq,hx⟩:=hg;obtain⟨its,rv,p,hz⟩:=I.list hq;obtain⟨u,hu,ru⟩:=rv.get hx;obtain⟨f0,f1,f2,f3,f4,f5⟩:=hf it (by simp);refine wpAny_pyNext_list_item st p.isList (x:=u) (by simpa using hu) λh' st' sb=>?_;have I1:Inv X pins σ H {s with heap:=h'}:=I.turned (t':=s.toks) (λb o hb e=>(sb.2 b hb).trans e) f0 f1 f3 f4 f5;obtain⟨o,e,c,d⟩:=id st';exact⟨u,rfl,j3w (s:={ s with heap:=h'}) e c d (by decide) ⟨x,H,I1,ru,⟨rfl,λys hy=>by rw[I.list_inj hy hq];exact hx⟩,st',λb hb=>(hf b hb).1⟩⟩
 done:=by
  intro X hP hw hK hc i pins s σ H E I hf st hg;subst hP hw hK;obtain⟨xs,hq,hx⟩:=hg;obtain⟨its,rv,p,hz⟩:=I.list hq;obtain⟨f0,f1,f2,f3,f4,f5⟩:=hf it (by simp);have hl:=rv.length;exact wpAny_pyNext_list_end (I.ok.hd hc) st p.isList (by simp;omega) λh' eb=>⟨rfl,I.turned (t':=s.toks) (λb o hb e=>eb b o hb e) f0 f1 f3 f4 f5⟩
 self:=λ_ _ _ _ _ st h=>wpAny_pyIter_listiter st h
theorem jtf {P:Bg} {w:Br} {K:Ai} {tg:Expr} (a it:Addr):Turn P w K tg (Itt K a) [it] it (λi h=>h.IsTupleIter it a i) where
 mem:=by simp
 obj:=λi h st b hb=>by
  have e:b=it:=by simpa using hb
  subst e;obtain⟨o,e,c,d⟩:=st;exact⟨o,e,λv z=>by rw[d]at z;cases z⟩
 keep:=λi h h' st k=>st.at λo e=>k it (by simp) o e
 item:=by
  intro X hP hw hK hc i pins s σ H E I hf st hg;subst hP hw hK;obtain⟨xs,x,hq,hx⟩:=hg;obtain⟨its,rv,p,hz⟩:=I.tuple hq;obtain⟨u,hu,ru⟩:=rv.get hx;obtain⟨f0,f1,f2,f3,f4,f5⟩:=hf it (by simp);refine wpAny_pyNext_tuple_item st (show s.heap.IsTuple a its.toArray from p) (x:=u) (by simpa using hu) λh' st' sb=>?_;have I1:Inv X pins σ H {s with heap:=h'}:=I.turned (t':=s.toks) (λb o hb e=>(sb.2 b hb).trans e) f0 f1 f3 f4 f5;obtain⟨o,e,c,d⟩:=id st';exact⟨u,rfl,j3w (s:={ s with heap:=h'}) e c d (by decide) ⟨x,H,I1,ru,⟨rfl,λys hy=>by rw[I.tuple_inj hy hq];exact hx⟩,st',λb hb=>(hf b hb).1⟩⟩
 done:=by
  intro X hP hw hK hc i pins s σ H E I hf st hg;subst hP hw hK;obtain⟨xs,hq,hx⟩:=hg;obtain⟨its,rv,p,hz⟩:=I.tuple hq;obtain⟨f0,f1,f2,f3,f4,f5⟩:=hf it (by simp);have hl:=rv.length;exact wpAny_pyNext_tuple_end (I.ok.hd hc) st (show s.heap.IsTuple a its.toArray from p) (by simp;omega) λh' eb=>⟨rfl,I.turned (t':=s.toks) (λb o hb e=>eb b o hb e) f0 f1 f3 f4 f5⟩
 self:=λ_ _ _ _ _ st h=>wpAny_pyIter_tupleiter st h
theorem jtg {P:Bg} {w:Br} {K:Ai} {tg:Expr} (it:Addr) (lo:Int) (n:Nat):Turn P w K tg (Itr lo n) [it] it (λi h=>IsRangeIter h it (lo+(i:Nat)*1) ((n:Int) - (i:Nat)) 1) where
 mem:=by simp
 obj:=λi h st b hb=>by
  have e:b=it:=by simpa using hb
  subst e;exact⟨_,st,λv z=>by
   have z':Data.fields _=Data.cell v:=z;cases z'⟩
 keep:=λi h h' st k=>k it (by simp) _ st
 item:=by
  intro X hP hw hK hc i pins s σ H E I hf st hg;subst hP hw hK;obtain⟨f0,f1,f2,f3,f4,f5⟩:=hf it (by simp);have W:=Walks.range (prog:=X.prog) (w:=X.w) (I.ok.hd hc) it lo 1 n;refine W.item i s _ _ hg st λv h' tk hv st' kk=>?_;obtain⟨t,rfl⟩:=hv;have I1:Inv X pins σ H {s with heap:=h',toks:=tk}:=I.turned (λb o hb e=>kk b o (by simpa using hb) e) f0 f1 f3 f4 f5;refine⟨_,rfl,j3w (s:={ s with heap:=h',toks:=tk}) (n:="range_iterator") st' rfl rfl (by decide) ⟨.int (lo+i),H,I1,⟨t,?_⟩,⟨rfl,rfl⟩,st',λb hb=>(hf b hb).1⟩⟩;rw[Int.mul_one]
 done:=by
  intro X hP hw hK hc i pins s σ H E I hf st hg;subst hP hw hK;obtain⟨f0,f1,f2,f3,f4,f5⟩:=hf it (by simp);exact wpAny_pyNext_range_end (I.ok.hd hc) st (by have:n<=i:=hg;omega) λh' eb=>⟨rfl,I.turned (t':=s.toks) (λb o hb e=>eb b o hb e) f0 f1 f3 f4 f5⟩
 self:=λ_ _ _ _ _ st h=>wpAny_pyIter_rangeiter st h
section
variable {X:Cx} {tg:Expr}
def j3u (K:Ai) (tl:TE):TI:=λσ H R=>tl σ H λx H1=>∃a,x=.ref a/\(∃xs,SqL K H1 a xs)/\R (Itl K a) H1
def iTup (K:Ai) (tl:TE):TI:=λσ H R=>tl σ H λx H1=>∃a,x=.ref a/\(∃xs,SqT K H1 a xs)/\R (Itt K a) H1
theorem j21 {l:Expr} {tl:TE} (hl:PE X l tl):PI X tg l (j3u X.K tl):=by
 intro pins s σ H R I h;refine thn (hl pins s σ H _ I h) λv s1 ⟨x,H1,I1,r1,q1⟩=>?_;obtain⟨a,e,⟨xs,hq⟩,q⟩:=q1;subst e;cases r1;obtain⟨its,rv,p,hz⟩:=I1.list hq;refine wpAny_pyIter_list p.isList ?_;refine⟨s1.heap.objs.size,[s1.heap.objs.size],_,_,H1,rfl,I1.kept (t':=s1.toks) λb o e=>Ae _ e,jup a _,⟨_,A2 _ rfl,rfl,rfl⟩,λb hb=>?_,q⟩;have e:b=s1.heap.objs.size:=by simpa using hb
 subst e;exact I1.fpOk (An _) (I1.hok.fresh (An _))
theorem j52 {l:Expr} {tl:TE} (hl:PE X l tl):PI X tg l (iTup X.K tl):=by
 intro pins s σ H R I h;refine thn (hl pins s σ H _ I h) λv s1 ⟨x,H1,I1,r1,q1⟩=>?_;obtain⟨a,e,⟨xs,hq⟩,q⟩:=q1;subst e;cases r1;obtain⟨its,rv,p,hz⟩:=I1.tuple hq;refine C9 (show s1.heap.IsTuple a its.toArray from p) ?_;refine⟨s1.heap.objs.size,[s1.heap.objs.size],_,_,H1,rfl,I1.kept (t':=s1.toks) λb o e=>Ae _ e,jtf a _,⟨_,A2 _ rfl,rfl,rfl⟩,λb hb=>?_,q⟩;have e:b=s1.heap.objs.size:=by simpa using hb
 subst e;exact I1.fpOk (An _) (I1.hok.fresh (An _))
theorem jyw {pins:List (Addr×Obj)} {σ:St} {H:Hp} {s:Ak} {R:It->Hp->Prop} {E:Af->Ak->Prop} {lo hi:Int} {t u v:Tok} {tk:Nat} (I:Inv X pins σ H s) (h1:-(2 ^ 62)<=lo) (h2:lo < 2 ^ 62) (h3:-(2 ^ 62)<=hi) (h4:hi < 2 ^ 62)
  (q:R (Itr lo (hi - lo).toNat) H):A4 (Ba X.prog X.w) X.A (pyIter (.ref s.heap.objs.size)) (PIE X pins σ tg R) E {s with heap:=s.heap.push {cls:=.type "range",data:=.fields #[.int lo t,.int hi u,.int 1 v]},toks:=tk}:=by
 refine wpAny_pyIter_range (IsRange.new ..) (small_one h1 h2 h3 h4) ?_;have I1:Inv X pins σ H {s with heap:=s.heap.push {cls:=.type "range",data:=.fields #[.int lo t,.int hi u,.int 1 v]},toks:=tk}:=I.kept λb o e=>Ae _ e;refine⟨(s.heap.push {cls:=.type "range",data:=.fields #[.int lo t,.int hi u,.int 1 v]}).objs.size,[(s.heap.push {cls:=.type "range",data:=.fields #[.int lo t,.int hi u,.int 1 v]}).objs.size],_,_,H,rfl,
  I1.kept (t':=tk) λb o e=>Ae _ e,jtg _ lo (hi - lo).toNat,?_,λb hb=>?_,q⟩
 ·have e1:lo+((0:Nat):Int)*1=lo:=by simp
  have e2:(((hi - lo).toNat:Nat):Int) - ((0:Nat):Int)=Builtin.Range.rangeSize lo hi 1:=by rw[rangeSize_one];split<;>omega
  show IsRangeIter _ _ (lo+((0:Nat):Int)*1) ((((hi - lo).toNat:Nat):Int) - ((0:Nat):Int)) 1;rw[e1,e2];exact A2 _ rfl
 ·have e:b=(s.heap.push {cls:=.type "range",data:=.fields #[.int lo t,.int hi u,.int 1 v]}).objs.size:=by simpa using hb
  subst e;exact I1.fpOk (An _) (I1.hok.fresh (An _))
def j66 (ta:TA):TI:=λσ H R=>ta σ H λvs H1=>∃j:Int,vs=[.int j]/\-(2 ^ 62)<=j/\j < 2 ^ 62/\R (Itr 0 j.toNat) H1
theorem jv2 {a:Expr} {ta:TA} {p pos:Pos} (hg:Gl X "range") (hm:X.mg "range"=none) (ha:PA X [a] ta) (hs:Az [a] X.env=[(false,eval a X.env)]:=by rfl):PI X tg (.Call (.Name "range" p) [a] [] pos) (j66 ta):=by
 intro pins s σ H R I h;refine Call_ (jm3 I hg hm boot_range (D7 (thn (ha pos pins s σ H _ I h) λus s1 ⟨vs,H1,I1,r1,q1⟩=>?_) hs rfl));obtain⟨j,e,q1,q2,q⟩:=q1;subst e;cases r1 with
 |cons r rr =>
  cases rr;obtain⟨t,rfl⟩:=r;exact call_range_1 (jyw I1 (by omega) (by omega) q1 q2 (by simpa using q))
def tFor (wi:TI) (g:TG) (tb:TS):TS:=λD σ H=>wi σ H λJ H1=>∃W:Nat->Nat->St->Hp->Prop,(∃m,W 0 m σ H1)/\∀i m σ H,W i m σ H ->
 (J.stop i H/\D.nx σ H)\/(J.go i H/\∃N:St->Hp->Prop,(∀σ' H',N σ' H'->∃m',m' < m/\W (i+1) m' σ' H')/\∀x H',J.yld i H x H'->g x σ H' λσ2 H2=>tb {D with nx:=N,ct:=N,bk:=D.nx} σ2 H2)
def jmy (fp:List Addr) (h:Heap):List (Addr×Obj):=fp.filterMap λb=>(h.get? b).map λo=>(b,o)
theorem jc4 {fp:List Addr} {h:Heap} {b:Addr} {o:Obj} (hb:b∈fp) (e:h.get? b=some o):(b,o)∈jmy fp h:=Gj.mpr ⟨b,hb,by rw[e];rfl⟩
theorem jwd {fp:List Addr} {h:Heap} {p:Addr×Obj} (hp:p∈jmy fp h):p.1∈fp/\h.get? p.1=some p.2:=by
 obtain⟨b,hb,e⟩:=Gj.mp hp;cases q:h.get? b with
 |none=>rw[q]at e;cases e
 |some o =>
  rw[q]at e;have e':(b,o)=p:=Ax e;subst e';exact⟨hb,q⟩
theorem Inv.pinned {pins:List (Addr×Obj)} {σ:St} {H:Hp} {s:Ak} {fp:List Addr} (I:Inv X pins σ H s) (hf:∀b∈fp,FpOk X pins H b) (ho:∀b∈fp,∃o,s.heap.get? b=some o/\∀v,o.data≠.cell v):Inv X (pins++jmy fp s.heap) σ H s :=
 I.pins_of λp hp=>(A8.mp hp).elim (λz=>I.pin p (Bc _ z)) λz=>by
  obtain⟨hb,e⟩:=jwd z;obtain⟨f0,f1,f2,_⟩:=hf p.1 hb;obtain⟨o,e',d⟩:=ho p.1 hb;rw[e]at e';cases e';exact⟨e,f0,f1,f2,d⟩
theorem Inv.unpinned {pins pl:List (Addr×Obj)} {σ:St} {H:Hp} {s:Ak} (I:Inv X (pins++pl) σ H s):Inv X pins σ H s:=I.pins_of λp hp=>I.pin p (Bc _ (Dt _ hp))
theorem j50 {iter:Expr} {body:List Stmt} {wi:TI} {g:TG} {tb:TS} {pos:Pos} (hp:PassesOwn (Ba X.prog X.w) X.A X.env X.xe) (hc:X.calm=true) (hi:PI X tg iter wi) (hg:PG X tg g) (hb:PSs X body tb)
  (hs:∀x,D2 iter X.env x=pure x:=by intro _;rfl):PS X (.For tg iter body [] pos) (tFor wi g tb):=by
 intro pins s σ H D I h;refine wpAny_For (thn (hi pins s σ H _ I h) λv s1 h1=>thn h1 λitv s2 h2=>?_) hs;obtain⟨it,fp,tn,J,H2,e,I2,T,st2,f2,W,⟨m0,w0⟩,turn⟩:=h2;subst e
 -- what stays true of the iterator's objects through the loop
 have stat:∀{H':Hp},(∀b∈fp,H' b=none)->∀b∈fp,FpOk X pins H' b:=λhn b hb=>⟨hn b hb,(f2 b hb).2⟩;refine codeAny_forLoop_any (λn s'=>∃i σ' H',Inv X pins σ' H' s'/\tn i s'.heap/\(∀b∈fp,H' b=none)/\W i n σ' H') ?_ m0 ⟨0,σ,H2,I2,st2,λb hb=>(f2 b hb).1,w0⟩
 rintro n s3 ⟨i,σ3,H3,I3,st3,fr3,w3⟩
 rcases turn i n σ3 H3 w3 with⟨stop,qn⟩ | ⟨go,N,hN,step⟩
 ·refine Gm hp (thn (T.done X rfl rfl rfl hc i pins s3 σ3 H3 X.xe I3 (stat fr3) st3 stop) λr s4 ⟨hr,I4⟩=>?_);subst hr;exact wpAny_execs_nil ⟨σ3,H3,I4,qn⟩
 ·refine Gm hp (thn (T.item X rfl rfl rfl hc i pins s3 σ3 H3 X.xe I3 (stat fr3) st3 go) λr s4 ⟨u,hr,h4⟩=>?_);subst hr;refine Gm hp (thn h4 λ_ s5 ⟨x,H5,I5,r5,y5,st5,fr5⟩=>?_);have I5':=I5.pinned (stat fr5) (T.obj _ _ st5);refine Gm hp (thn (hg _ s5 σ3 H5 x u _ I5' r5 (step x H5 y5)) λ_ s6 ⟨σ6,H6,I6,q6⟩=>?_);refine Gm hp (thn (hb _ s6 σ6 H6 _ I6 q6) λf s7 q7=>?_);have again:∀{σ7:St} {H7:Hp},Inv X (pins++jmy fp s5.heap) σ7 H7 s7->N σ7 H7->∃m,m < n/\∃i σ' H',Inv X pins σ' H' s7/\tn i s7.heap/\(∀b∈fp,H' b=none)/\W i m σ' H':=λ{σ7 H7} I7 n7=>by
   obtain⟨m',hm,w7⟩:=hN σ7 H7 n7;refine⟨m',hm,i+1,σ7,H7,I7.unpinned,T.keep _ _ _ st5 λb hb o e=>(I7.pin (b,o) (Bc _ (Bc _ (jc4 hb e)))).1,λb hb=>?_,w7⟩;obtain⟨o,e,d⟩:=T.obj _ _ st5 b hb;exact(I7.pin (b,o) (Bc _ (Bc _ (jc4 hb e)))).2.1
  cases f with
  |next=>obtain⟨σ7,H7,I7,n7⟩:=q7;exact again I7 n7
  |cont=>obtain⟨σ7,H7,I7,n7⟩:=q7;exact again I7 n7
  |brk=>obtain⟨σ7,H7,I7,q7⟩:=q7;exact⟨σ7,H7,I7.unpinned,q7⟩
  |ret v=>obtain⟨x7,σ7,H7,I7,r7,q7⟩:=q7;exact⟨x7,σ7,H7,I7.unpinned,r7,q7⟩
end
abbrev R2:=V->V->Hp->VK->Prop
def OpR (X:Cx) (f:Af->Af->Sem Af) (r:R2):Prop :=
 ∀(pins:List (Addr×Obj)) (s:Ak) (σ:St) (H:Hp) (x y:V) (v u:Af) (Q:VK),Inv X pins σ H s->RelV x v->RelV y u->r x y H Q ->
  A4 (Ba X.prog X.w) X.A (f v u) (EP X pins σ Q) X.xe s
def UnR (X:Cx) (f:Af->Sem Af) (r:V->Hp->VK->Prop):Prop :=
 ∀(pins:List (Addr×Obj)) (s:Ak) (σ:St) (H:Hp) (x:V) (v:Af) (Q:VK),Inv X pins σ H s->RelV x v->r x H Q ->
  A4 (Ba X.prog X.w) X.A (f v) (EP X pins σ Q) X.xe s
def CallR (X:Cx) (f:Af) (r:List V->Hp->VK->Prop):Prop :=
 ∀(pins:List (Addr×Obj)) (s:Ak) (σ:St) (H:Hp) (xs:List V) (us:List Af) (Q:VK),Inv X pins σ H s->Vals xs us->r xs H Q ->
  A4 (Ba X.prog X.w) X.A (call f us) (EP X pins σ Q) X.xe s
def tOp (r:R2) (ta tb:TE):TE:=λσ H Q=>ta σ H λx H1=>tb σ H1 λy H2=>r x y H2 Q
def tUn (r:V->Hp->VK->Prop) (ta:TE):TE:=λσ H Q=>ta σ H λx H1=>r x H1 Q
def rI (C:Int->Int->Prop) (g:Int->Int->V):R2:=λx y H Q=>∃i j,x=.int i/\y=.int j/\C i j/\Q (g i j) H
def rI0 (g:Int->Int->V):R2:=λx y H Q=>∃i j,x=.int i/\y=.int j/\Q (g i j) H
def rU (g:Int->V):V->Hp->VK->Prop:=λx H Q=>∃i,x=.int i/\Q (g i) H
section
variable {X:Cx} {a b c:Expr} {ta tb tc:TE} {pos:Pos}
theorem binT (ha:PE X a ta) (hb:PE X b tb) {pins:List (Addr×Obj)} {s:Ak} {σ:St} {H:Hp} {R:V->V->Hp->Prop} (I:Inv X pins σ H s)
  (h:ta σ H λx H1=>tb σ H1 λy H2=>R x y H2) {Q:Af->Ak->Prop} {f:Af->Af->Sem Af}
  (hf:∀v u s2 x y H2,Inv X pins σ H2 s2->RelV x v->RelV y u->R x y H2->A4 (Ba X.prog X.w) X.A (f v u) Q X.xe s2) :
  A4 (Ba X.prog X.w) X.A (eval a X.env) (λv s₁=>A4 (Ba X.prog X.w) X.A (eval b X.env) (λu s₂=>A4 (Ba X.prog X.w) X.A (f v u) Q X.xe s₂) X.xe s₁) X.xe s:=by
 refine thn (ha pins s σ H _ I h) λv s1 ⟨x,H1,I1,r1,q1⟩=>?_;refine thn (hb pins s1 σ H1 _ I1 q1) λu s2 ⟨y,H2,I2,r2,q2⟩=>?_;exact hf v u s2 x y H2 I2 r1 r2 q2
theorem jc7 {op:Operator} {r:R2} (ho:OpR X (Ec op) r) (ha:PE X a ta) (hb:PE X b tb):PE X (.BinOp a op b pos) (tOp r ta tb):=by
 intro pins s σ H Q I h;exact wpAny_BinOp (binT ha hb I h λv u s2 x y H2 I2 rx ry q=>ho pins s2 σ H2 x y v u Q I2 rx ry q)
theorem j8e {op:UnaryOp} {r:V->Hp->VK->Prop} (ho:UnR X (unaryOp op) r) (ha:PE X a ta):PE X (.UnaryOp op a pos) (tUn r ta):=by
 intro pins s σ H Q I h;exact UnaryOp_ (thn (ha pins s σ H _ I h) λv s1 ⟨x,H1,I1,r1,q1⟩=>ho pins s1 σ H1 x v Q I1 r1 q1)
theorem opI {f:Af->Af->Sem Af} {C:Int->Int->Prop} {g:Int->Int->Int}
  (rule:∀(i j:Int) (t u:Tok) (s:Ak) (Q:Af->Ak->Prop) (E:Af->Ak->Prop),C i j->Q (.int (g i j) s.toks) {s with toks:=s.toks+1}->A4 (Ba X.prog X.w) X.A (f (.int i t) (.int j u)) Q E s) :
  OpR X f (rI C λi j=>.int (g i j)):=by
 intro pins s σ H x y v u Q I rx ry h;obtain⟨i,j,rfl,rfl,hc,q⟩:=h;obtain⟨t,rfl⟩:=rx;obtain⟨t',rfl⟩:=ry;exact rule i j t t' s _ _ hc ⟨.int (g i j),H,I.tok _,⟨_,rfl⟩,q⟩
theorem opI0 {f:Af->Af->Sem Af} {g:Int->Int->Int}
  (rule:∀(i j:Int) (t u:Tok) (s:Ak) (Q:Af->Ak->Prop) (E:Af->Ak->Prop),Q (.int (g i j) s.toks) {s with toks:=s.toks+1}->A4 (Ba X.prog X.w) X.A (f (.int i t) (.int j u)) Q E s) :
  OpR X f (rI0 λi j=>.int (g i j)):=by
 intro pins s σ H x y v u Q I rx ry h;obtain⟨i,j,rfl,rfl,q⟩:=h;obtain⟨t,rfl⟩:=rx;obtain⟨t',rfl⟩:=ry;exact rule i j t t' s _ _ ⟨.int (g i j),H,I.tok _,⟨_,rfl⟩,q⟩
theorem opB0 {f:Af->Af->Sem Af} {g:Int->Int->Bool}
  (rule:∀(i j:Int) (t u:Tok) (s:Ak) (Q:Af->Ak->Prop) (E:Af->Ak->Prop),Q (.bool (g i j)) s->A4 (Ba X.prog X.w) X.A (f (.int i t) (.int j u)) Q E s) :
  OpR X f (rI0 λi j=>.bl (g i j)):=by
 intro pins s σ H x y v u Q I rx ry h;obtain⟨i,j,rfl,rfl,q⟩:=h;obtain⟨t,rfl⟩:=rx;obtain⟨t',rfl⟩:=ry;exact rule i j t t' s _ _ ⟨.bl (g i j),H,I,rfl,q⟩
def CDiv (i j:Int):Prop:=0 < j/\j < 1073741824
def CPow (i j:Int):Prop:=0<=j/\j<=1000000/\i.natAbs < 2 ^ 64
def CMul (i j:Int):Prop:=(-(2 ^ 64) < i/\i < 2 ^ 64)\/(-(2 ^ 64) < j/\j < 2 ^ 64)
theorem CMul.ok {i j:Int} (h:CMul i j):IntMulOk i j:=by
 rcases h with⟨h1,h2⟩ | ⟨h1,h2⟩
 ·exact .of_left (intBits_le_64 h1 h2)
 ·exact .of_right (intBits_le_64 h1 h2)
theorem op_add:OpR X (Ec .Add) (rI0 λi j=>.int (i+j)):=opI0 λ_ _ _ _ _ _ _ q=>add_int q
theorem j6b:OpR X (Ec .Sub) (rI0 λi j=>.int (i - j)):=opI0 λ_ _ _ _ _ _ _ q=>sub_int q
theorem jmz:OpR X (Ec .Mult) (rI CMul λi j=>.int (i*j)):=opI λ_ _ _ _ _ _ _ hc q=>mul_int q hc.ok
theorem jwb:OpR X (Ec .FloorDiv) (rI CDiv λi j=>.int (i / j)):=opI λi j _ _ _ _ _ hc q=>by
 have h1:(0:Int) < j:=hc.1;have h2:j < 1073741824:=hc.2;exact floordiv_int (by omega) (by rw[Int.fdiv_eq_ediv_of_nonneg i (by omega)];exact q) (.inl (PyProof.noPylong_small (by omega)))
theorem jgt:OpR X (Ec .Mod) (rI (λ_ j=>0 < j) λi j=>.int (i % j)):=opI λi j _ _ _ _ _ hc q=>by
 have h1:(0:Int) < j:=hc;exact mod_int' (by omega) (by rw[Int.fmod_eq_emod_of_nonneg i (by omega)];exact q)
theorem j6c:OpR X (Ec .Pow) (rI CPow λi j=>.int (i ^ j.toNat)):=opI λ_ _ _ _ _ _ _ hc q=>pow_int_small hc.1 hc.2.1 hc.2.2 q
theorem unI {f:Af->Sem Af} {g:Int->Int}
  (rule:∀(i:Int) (t:Tok) (s:Ak) (Q:Af->Ak->Prop) (E:Af->Ak->Prop),Q (.int (g i) s.toks) {s with toks:=s.toks+1}->A4 (Ba X.prog X.w) X.A (f (.int i t)) Q E s) :
  UnR X f (rU λi=>.int (g i)):=by
 intro pins s σ H x v Q I rx h;obtain⟨i,rfl,q⟩:=h;obtain⟨t,rfl⟩:=rx;exact rule i t s _ _ ⟨.int (g i),H,I.tok _,⟨_,rfl⟩,q⟩
theorem j4o:UnR X (unaryOp .USub) (rU λi=>.int (-i)):=unI λ_ _ _ _ _ q=>neg_int q
end
def scal:V->V->Bool
 |.non,.non=>true | .non,.int _=>true | .int _,.non=>true | .non,.bl _=>true | .bl _,.non=>true | .non,.str _=>true | .str _,.non=>true
 |.int _,.int _=>true | .bl _,.bl _=>true | .str _,.str _=>true | .byt _,.byt _=>true
 |.int _,.str _=>true | .str _,.int _=>true | .bl _,.str _=>true | .str _,.bl _=>true
 |_,_=>false
def rEq:R2:=λx y H Q=>scal x y=true/\Q (.bl (decide (x=y))) H
def rNe:R2:=λx y H Q=>scal x y=true/\Q (.bl (!decide (x=y))) H
theorem jw9 {i j:Int}:decide (V.int i=V.int j)=(i==j):=by
 rw[Gb];simp
theorem j1v {i j:Bool}:decide (V.bl i=V.bl j)=(i==j):=by
 rw[Gb];simp
theorem jw8 {i j:Str}:decide (V.str i=V.str j)=(i==j):=by
 rw[Gb];simp
theorem jxb {i j:Array UInt8}:decide (V.byt i=V.byt j)=(i.toList==j.toList):=by
 rw[Gb];cases i;cases j;simp
section
variable {X:Cx} {a b c:Expr} {ta tb tc:TE} {pos:Pos}
theorem jbm {pins:List (Addr×Obj)} {σ:St} {H:Hp} {s:Ak} {Q:VK} {k k':Bool} (I:Inv X pins σ H s) (q:Q (.bl k) H) (e:k=k'):EP X pins σ Q (.bool k') s:=by
 subst e;exact⟨.bl k,H,I,rfl,q⟩
theorem op_eq:OpR X (Bu .Eq) rEq:=by
 intro pins s σ H x y v u Q I rx ry h;obtain⟨hs,q⟩:=h;cases x with
 |non =>
  cases rx;cases y with
  |non=>cases ry;exact PySem.EqNone.eq_none_none (jbm I q (by simp))
  |bl j=>cases ry;exact PySem.EqNone.eq_none_bool (jbm I q (by simp))
  |int j=>obtain⟨t',rfl⟩:=ry;exact PySem.EqNone.eq_none_int (jbm I q (by simp))
  |str j=>obtain⟨t',rfl⟩:=ry;exact PySem.EqNone.eq_none_str (jbm I q (by simp))
  |_=>exact absurd (show false=true from hs) Ag
 |bl i =>
  cases rx;cases y with
  |non=>cases ry;exact PySem.EqNone.eq_bool_none (jbm I q (by simp))
  |bl j=>cases ry;exact eq_bool (jbm I q j1v)
  |str j=>obtain⟨t',rfl⟩:=ry;exact PySem.EqMixed.eq_bool_str (jbm I q (by simp))
  |_=>exact absurd (show false=true from hs) Ag
 |int i =>
  obtain⟨t,rfl⟩:=rx;cases y with
  |non=>cases ry;exact PySem.EqNone.eq_int_none (jbm I q (by simp))
  |int j=>obtain⟨t',rfl⟩:=ry;exact eq_int (jbm I q jw9)
  |str j=>obtain⟨t',rfl⟩:=ry;exact PySem.EqMixed.eq_int_str (jbm I q (by simp))
  |_=>exact absurd (show false=true from hs) Ag
 |str i =>
  obtain⟨t,rfl⟩:=rx;cases y with
  |non=>cases ry;exact PySem.EqNone.eq_str_none (jbm I q (by simp))
  |bl j=>cases ry;exact PySem.EqMixed.eq_str_bool (jbm I q (by simp))
  |int j=>obtain⟨t',rfl⟩:=ry;exact PySem.EqMixed.eq_str_int (jbm I q (by simp))
  |str j=>obtain⟨t',rfl⟩:=ry;exact eq_str (jbm I q jw8)
  |_=>exact absurd (show false=true from hs) Ag
 |byt i =>
  obtain⟨t,rfl⟩:=rx;cases y with
  |byt j=>obtain⟨t',rfl⟩:=ry;exact PySem.W.eq_bytes (jbm I q jxb)
  |_=>exact absurd (show false=true from hs) Ag
 |_=>cases y<;>exact absurd (show false=true from hs) Ag
theorem jli:OpR X (Bu .NotEq) rNe:=by
 intro pins s σ H x y v u Q I rx ry h;obtain⟨hs,q⟩:=h;cases x with
 |non =>
  cases rx;cases y with
  |non=>cases ry;exact PySem.EqNone.ne_none_none (jbm I q (by simp))
  |bl j=>cases ry;exact PySem.EqNone.ne_none_bool (jbm I q (by simp))
  |int j=>obtain⟨t',rfl⟩:=ry;exact PySem.EqNone.ne_none_int (jbm I q (by simp))
  |str j=>obtain⟨t',rfl⟩:=ry;exact PySem.EqNone.ne_none_str (jbm I q (by simp))
  |_=>exact absurd (show false=true from hs) Ag
 |bl i =>
  cases rx;cases y with
  |non=>cases ry;exact PySem.EqNone.ne_bool_none (jbm I q (by simp))
  |bl j=>cases ry;exact ne_bool (jbm I q (congrArg not j1v))
  |str j=>obtain⟨t',rfl⟩:=ry;exact PySem.EqMixed.ne_bool_str (jbm I q (by simp))
  |_=>exact absurd (show false=true from hs) Ag
 |int i =>
  obtain⟨t,rfl⟩:=rx;cases y with
  |non=>cases ry;exact PySem.EqNone.ne_int_none (jbm I q (by simp))
  |int j=>obtain⟨t',rfl⟩:=ry;exact ne_int (jbm I q (congrArg not jw9))
  |str j=>obtain⟨t',rfl⟩:=ry;exact PySem.EqMixed.ne_int_str (jbm I q (by simp))
  |_=>exact absurd (show false=true from hs) Ag
 |str i =>
  obtain⟨t,rfl⟩:=rx;cases y with
  |non=>cases ry;exact PySem.EqNone.ne_str_none (jbm I q (by simp))
  |bl j=>cases ry;exact PySem.EqMixed.ne_str_bool (jbm I q (by simp))
  |int j=>obtain⟨t',rfl⟩:=ry;exact PySem.EqMixed.ne_str_int (jbm I q (by simp))
  |str j=>obtain⟨t',rfl⟩:=ry;exact ne_str (jbm I q (congrArg not jw8))
  |_=>exact absurd (show false=true from hs) Ag
 |byt i =>
  obtain⟨t,rfl⟩:=rx;cases y with
  |byt j=>obtain⟨t',rfl⟩:=ry;exact PySem.W.ne_bytes (jbm I q (congrArg not jxb))
  |_=>exact absurd (show false=true from hs) Ag
 |_=>cases y<;>exact absurd (show false=true from hs) Ag
theorem op_lt:OpR X (Bu .Lt) (rI0 λi j=>.bl (decide (i < j))):=opB0 λ_ _ _ _ _ _ _ q=>lt_int q
theorem op_le:OpR X (Bu .LtE) (rI0 λi j=>.bl (decide (i<=j))):=opB0 λ_ _ _ _ _ _ _ q=>le_int q
theorem op_gt:OpR X (Bu .Gt) (rI0 λi j=>.bl (decide (j < i))):=opB0 λ_ _ _ _ _ _ _ q=>gt_int q
theorem j8h:OpR X (Bu .GtE) (rI0 λi j=>.bl (decide (j<=i))):=opB0 λ_ _ _ _ _ _ _ q=>ge_int q
theorem jv7:OpR X (Bu .Lt) (λx y H Q=>∃i j,x=.str i/\y=.str j/\Q (.bl (decide (i.cps.toList < j.cps.toList))) H):=by
 intro pins s σ H x y v u Q I rx ry h;obtain⟨i,j,rfl,rfl,q⟩:=h;obtain⟨t,rfl⟩:=rx;obtain⟨t',rfl⟩:=ry;exact lt_str (jbm I q rfl)
theorem jgu:OpR X (Bu .Is) (λx y H Q=>y=.non/\Q (.bl (decide (x=.non))) H):=by
 intro pins s σ H x y v u Q I rx ry h;obtain⟨rfl,q⟩:=h;cases ry;refine is_none_gen (jbm I q ?_);cases x<;>first
  | (cases rx;rfl)
  | (obtain⟨t,rfl⟩:=rx;rfl)
theorem jnw:OpR X (Bu .IsNot) (λx y H Q=>y=.non/\Q (.bl (!decide (x=.non))) H):=by
 intro pins s σ H x y v u Q I rx ry h;obtain⟨rfl,q⟩:=h;cases ry;refine isnot_none_gen (jbm I q ?_);cases x<;>first
  | (cases rx;rfl)
  | (obtain⟨t,rfl⟩:=rx;rfl)
theorem OpR.or {f:Af->Af->Sem Af} {r r':R2} (h:OpR X f r) (h':OpR X f r'):OpR X f (λx y H Q=>r x y H Q\/r' x y H Q):=by
 intro pins s σ H x y v u Q I rx ry q;rcases q with q | q
 ·exact h pins s σ H x y v u Q I rx ry q
 ·exact h' pins s σ H x y v u Q I rx ry q
theorem jar (b:Expr) {op:CmpOp} (h:op≠.In:=by decide) (h2:op≠.NotIn:=by decide):B8 op b=false:=by
 have e1:(op==CmpOp.In)=false:=by cases op<;>first | rfl | exact absurd rfl h
 have e2:(op==CmpOp.NotIn)=false:=by cases op<;>first | rfl | exact absurd rfl h2
 cases b<;>simp[B8,e1,e2]
theorem j27 {op:CmpOp} {r:R2} (ho:OpR X (Bu op) r) (ha:PE X a ta) (hb:PE X b tb) (hm:B8 op b=false):PE X (.Compare a [op] [b] pos) (tOp r ta tb):=by
 intro pins s σ H Q I h;exact wpAny_Compare1 (binT ha hb I h λv u s2 x y H2 I2 rx ry q=>ho pins s2 σ H2 x y v u Q I2 rx ry q) hm
def jo9 (t:TE):TT:=λσ H Q=>t σ H λx H'=>∃k,x=.bl k/\Q k H'
theorem je3 {op:CmpOp} {r:R2} (ho:OpR X (Bu op) r) (ha:PE X a ta) (hb:PE X b tb) (hm:B8 op b=false):PT X (.Compare a [op] [b] pos) (jo9 (tOp r ta tb)):=by
 intro pins s σ H Q I h;refine wpAny_isTrue_Compare1 (thn (ha pins s σ H _ I h) λv s1 ⟨x,H1,I1,r1,q1⟩=>thn (hb pins s1 σ H1 _ I1 q1) λu s2 ⟨y,H2,I2,r2,q2⟩ =>
  thn (ho pins s2 σ H2 x y v u _ I2 r1 r2 q2) λc s3 ⟨z,H3,I3,r3,k,e,q3⟩=>?_) hm
 subst e;cases r3;exact D0 ⟨H3,I3,q3⟩
def juu (r r':R2) (ta tb tc:TE):TE:=λσ H Q=>ta σ H λx H1=>tb σ H1 λy H2=>r x y H2 λz H3=>∃k,z=.bl k /\
 (if k=true then tc σ H3 λw' H4=>r' y w' H4 Q else Q (.bl false) H3)
theorem jza {op op':CmpOp} {r r':R2} (ho:OpR X (Bu op) r) (ho':OpR X (Bu op') r') (ha:PE X a ta) (hb:PE X b tb) (hc:PE X c tc)
  (hm:lastMarks [op,op'] [b,c]=false:=by with_unfolding_all rfl):PE X (.Compare a [op,op'] [b,c] pos) (juu r r' ta tb tc):=by
 intro pins s σ H Q I h;refine Compare_chain (thn (ha pins s σ H _ I h) λv s1 ⟨x,H1,I1,r1,q1⟩=>chain_link (thn (hb pins s1 σ H1 _ I1 q1) λu s2 ⟨y,H2,I2,r2,q2⟩ =>
  thn (ho pins s2 σ H2 x y v u _ I2 r1 r2 q2) λd s3 ⟨z,H3,I3,r3,k,e,q3⟩=>?_)) hm
 subst e;cases r3;refine D0 ?_;cases k with
 |false=>exact ite_ff ⟨.bl false,H3,I3,rfl,q3⟩
 |true=>exact ite_tt (chain_last (thn (hc pins s3 σ H3 _ I3 q3) λw' s4 ⟨z',H4,I4,r4,q4⟩=>ho' pins s4 σ H4 y z' u w' Q I4 r2 r4 q4))
theorem jm1:(A1:Nat) < 2 ^ 63:=by rw[Dn];decide
theorem op_add_str:OpR X (Ec .Add) (λx y H Q=>∃i j,x=.str i/\y=.str j/\i.length+j.length<=A1/\Q (.str (i++j)) H):=by
 intro pins s σ H x y v u Q I rx ry h;obtain⟨i,j,rfl,rfl,hz,q⟩:=h;obtain⟨t,rfl⟩:=rx;obtain⟨t',rfl⟩:=ry;exact add_str (λt' tk=>⟨.str (i++j),H,I.tok _,⟨_,rfl⟩,q⟩) hz
theorem jni {x:V} {us:List Af} (r:Vals [x] us):∃u,us=[u]/\RelV x u:=by
 cases r with
 |cons r1 r2=>cases r2;exact⟨_,rfl,r1⟩
theorem j18 {x y:V} {us:List Af} (r:Vals [x,y] us):∃u w',us=[u,w']/\RelV x u/\RelV y w':=by
 cases r with
 |cons r1 r2 =>
  cases r2 with
  |cons r3 r4=>cases r4;exact⟨_,_,rfl,r1,r3⟩
end
structure ObjM (h:Heap) (x dx C:Addr) (mA:Str->Option Af):Prop where
 obj:h.get? x=some (PySem.W.instObj C dx)
 ns:h.Ns1 dx mA
 ne:dx≠x
theorem jwh {h:Heap} {dx:Addr} {mA:Str->Option Af} (n:h.Ns1 dx mA):∃od,h.get? dx=some od/\∀name,PySem.W.lookIn name od=some (mA name):=by
 obtain⟨o,es,ep,ho,hd,hk,_,hm⟩:=n;refine⟨o,ho,λname=>?_⟩;have e:=hm name;unfold nsFind findBy at e;rw[<-Array.find?_toList]at e;unfold PySem.W.lookIn;rw[hd];dsimp only
 split
 ·rename_i y q;rw[q]at e;exact congrArg some e
 ·rename_i q;rw[q]at e;have a:es.toList.any (·.refKey)=false:=by
   rw[List.any_eq_false];intro y hy;obtain⟨z,t,hkey⟩:=hk y (Array.mem_toList_iff.mp hy);simp[DictEntry.refKey,hkey]
  have a':¬es.toList.any (·.refKey)=true:=by rw[a];exact Ag
  rw[if_neg a'];exact congrArg some e
theorem ObjM.look {h:Heap} {x dx C:Addr} {mA:Str->Option Af} (I:ObjM h x dx C mA):∃od,PySem.W.InstAt h x (PySem.W.instObj C dx) C (some od)/\∀name,PySem.W.lookIn name od=some (mA name) :=
 let⟨od,ho,hl⟩:=jwh I.ns
 ⟨od,⟨I.obj,rfl,rfl,ho⟩,hl⟩
theorem RelO.some_of {v:V} {o:Option Af} (r:RelO (some v) o):∃u,o=some u/\RelV v u:=by
 cases o with
 |none=>exact(show False from r).elim
 |some u=>exact⟨u,rfl,r⟩
section
variable {P:Bg} {w:Br} {H H':Hp} {h h':Heap} {a C dx:Addr} {fs fs':List (Str×V)}
theorem j3o (hok:HOk P w H h) (e:H a=some (.ins C dx fs)):∃mA,ObjM h a dx C mA/\(∀f,RelO (fs.lookup f) (mA f))/\PySem.Within mA (fs.map (·.1))/\fs.length<=1000/\H dx=some (.own a):=by
 obtain⟨d,z,ne,ob,mA,n,r,q⟩:=(show ObjOk P w H h a (.ins C dx fs)from hok a _ e);exact⟨mA,⟨ob,n,ne⟩,r,q,z,d⟩
end
structure Cls (K:Ai) (C:Addr):Prop where
 pg:PySem.W.plainGet K C Str.empty=true
 hd:PySem.W.hasDictIn K C=true
 po:PySem.W.plainOver K C=true
 sa:PySem.W.findIn K (.ref C) "__setattr__"=some (some (.builtin "object.__setattr__"))
theorem Cls.get {K:Ai} {C:Addr} (c:Cls K C) (f:Str):PySem.W.plainGet K C f=true:=c.pg
section
variable {X:Cx} {pins:List (Addr×Obj)} {σ:St} {H:Hp} {s:Ak} {A:B4} {E:Af->Ak->Prop} {Q:Af->Ak->Prop} {c:Af} {b:Bool}
inductive TyOf (K:Ai) (H:Hp):V->Af->Prop where
 |non:TyOf K H .non (.type "NoneType")
 |bl (x:Bool):TyOf K H (.bl x) (.type "bool")
 |int (i:Int):TyOf K H (.int i) (.type "int")
 |str (x:Str):TyOf K H (.str x) (.type "str")
 |flt (x:UInt64):TyOf K H (.flt x) (.type "float")
 |lst {a:Addr} {xs:List V} (e:H a=some (.lst xs)):TyOf K H (.ref a) (.type "list")
 |frz {a:Addr} {o:Obj} {xs:List V} (e:H a=some (.frz o (.lst xs))):TyOf K H (.ref a) (.type "list")
 |tup {a:Addr} {xs:List V} (e:H a=some (.tup xs)):TyOf K H (.ref a) (.type "tuple")
 |dK {a:Addr} {kvs:List (Key×V)} (e:H a=some (.dK kvs)):TyOf K H (.ref a) (.type "dict")
 |dT {a:Addr} {kvs:List (List Key×V)} (e:H a=some (.dT kvs)):TyOf K H (.ref a) (.type "dict")
 |ins {a C dx:Addr} {fs:List (Str×V)} (e:H a=some (.ins C dx fs)) (cl:Cls K C) (ha:PySem.W.findIn K (.ref C) "__class__"=some (some (.builtin "object.__class__")))
   (hn:PySem.W.specialIn K (.builtin "object.__class__") "__get__"=some (some (.builtin "getset_descriptor.__get__"))) (htk:PySem.W.takesIn K (.builtin "object.__class__")=some true)
   (hm:PySem.W.mroIn K C (.type "object")=some true):TyOf K H (.ref a) (.ref C)
theorem jwt {x:V} {u t:Af} (I:Inv X pins σ H s) (rx:RelV x u) (ty:TyOf X.K H x t) (e:PySem.W.kitOne X.K t c=some b) (h:∀tk,Q (.bool b) {s with toks:=tk}) :
  A4 (Ba X.prog X.w) A (call (.builtin "isinstance") [u,c]) Q E s:=by
 cases ty with
 |non=>cases(show u=Be from rx);exact Cn PySem.W.kitx_none I.kIn Dv e (λz=>nomatch z) h
 |bl y=>cases(show u=Value.bool y from rx);exact Cn PySem.W.kitx_bool I.kIn Dv e (λz=>nomatch z) h
 |int i=>obtain⟨t,q⟩:=(show ∃t,u=Value.int i t from rx);cases q;exact Cn PySem.W.kitx_int I.kIn Dv e (λz=>nomatch z) h
 |str y=>obtain⟨t,q⟩:=(show ∃t,u=Value.str y t from rx);cases q;exact Cn PySem.W.kitx_str I.kIn Dv e (λz=>nomatch z) h
 |flt y=>obtain⟨t,q⟩:=(show ∃t,u=Value.float y t from rx);cases q;exact Cn PySem.W.kitx_float I.kIn Dv e (λz=>nomatch z) h
 |@lst a xs ea =>
  cases(show u=A7 a from rx);obtain⟨_,_,n,_,h1⟩:=(show ObjOk X.prog X.w H s.heap a (.lst xs)from I.hok a _ ea);exact Cn PySem.W.kitx_list I.kIn ⟨_,h1,rfl⟩ e (λz=>nomatch z) h
 |@frz a ob xs ea =>
  cases(show u=A7 a from rx);obtain⟨_,_,_,n,_,h1⟩:=(show ObjOk X.prog X.w H s.heap a (.frz ob (.lst xs))from I.hok a _ ea);exact Cn PySem.W.kitx_list I.kIn ⟨_,h1,rfl⟩ e (λz=>nomatch z) h
 |@tup a xs ea =>
  cases(show u=A7 a from rx);obtain⟨_,_,_,p⟩:=(show ObjOk X.prog X.w H s.heap a (.tup xs)from I.hok a _ ea);obtain⟨o,h1,h2,_⟩:=p;exact Cn PySem.W.kitx_tuple I.kIn ⟨o,h1,h2⟩ e (λz=>nomatch z) h
 |@dK a kvs ea =>
  cases(show u=A7 a from rx);obtain⟨_,_,vs,_,p⟩:=(show ObjOk X.prog X.w H s.heap a (.dK kvs)from I.hok a _ ea);obtain⟨o,es,ep,h1,h2,_⟩:=p;exact Cn PySem.W.kitx_dict I.kIn ⟨o,h1,h2.1⟩ e (λz=>nomatch z) h
 |@dT a kvs ea =>
  cases(show u=A7 a from rx);obtain⟨_,_,xs,_,o,es,ep,h1,h2,_⟩:=(show ObjOk X.prog X.w H s.heap a (.dT kvs)from I.hok a _ ea);exact Cn PySem.W.kitx_dict I.kIn ⟨o,h1,h2.1⟩ e (λz=>nomatch z) h
 |@ins a C dx fs ea cl ha hn htk hm =>
  cases(show u=A7 a from rx);obtain⟨mA,O,_⟩:=j3o I.hok ea;obtain⟨od,J,_⟩:=O.look;exact Cn (PySem.W.kitx_own (cl.get _) cl.hd ha hn htk hm) I.kIn J e (λz=>nomatch z) h
end
structure Room (k:Nat) (A:B4):Prop where
 hd:A.handled=none
 dp:A.depth+3*k+5 < recursionLimit
 un:A.units+16*k+200 < Ef
 gd:A.guards=some []
theorem Room.mono {j k:Nat} {A:B4} (r:Room k A) (h:j<=k):Room j A:=⟨r.hd,by have:=r.dp;omega,by have:=r.un;omega,r.gd⟩
theorem Room.deeper {k:Nat} {A:B4} (r:Room (k+1) A) (env:Env):Room k (A.deeper env) :=
 ⟨r.hd,by have:=r.dp;show A.depth+1+3*k+5 < _;omega,by have:=r.un;show A.units+3+16*k+200 < _;omega,r.gd⟩
theorem Room.depth {k:Nat} {A:B4} (r:Room k A):A.depth < recursionLimit:=by have:=r.dp;omega
theorem Room.units {k:Nat} {A:B4} (r:Room k A):A.units+64 < Ef:=by have:=r.un;omega
theorem Room.units0 {k:Nat} {A:B4} (r:Room k A):A.units < Ef:=by have:=r.un;omega
def tNil:TA:=λ_ H Q=>Q [] H
def jcx (ta:TE) (tr:TA):TA:=λσ H Q=>ta σ H λx H1=>tr σ H1 λxs H2=>Q (x::xs) H2
section
variable {X:Cx} {e:Expr} {es:List Expr} {te:TE} {t:TA} {pos:Pos}
theorem jca:PA X [] tNil:=λ_ _ _ _ H Q I h=>Calls.spliced_nil ⟨[],H,I,.nil,h⟩
theorem ja9 (ha:PE X e te) (hr:PA X es t) (hs:Az (e::es) X.env=(false,eval e X.env)::Az es X.env:=by rfl):PA X (e::es) (jcx te t):=by
 intro pos pins s σ H Q I h;rw[hs];show A4 _ _ (spliced ((false,eval e X.env)::Cz pos (Az es X.env))) _ _ s;refine Calls.spliced_cons (thn (ha pins s σ H _ I h) λu s1 ⟨x,H1,I1,r1,q1⟩=>?_);exact thn (hr pos pins s1 σ H1 _ I1 q1) λus s2 ⟨xs,H2,I2,r2,q2⟩=>⟨x::xs,H2,I2,.cons r1 r2,q2⟩
def tTup (t:TA):TE:=λσ H Q=>t σ H λxs H1=>xs.length<=A1/\∀p,H1 p=none->Q (.ref p) (upd H1 p (.tup xs))
def tLst (t:TA):TE:=λσ H Q=>t σ H λxs H1=>xs.length<=A1/\∀p,H1 p=none->Q (.ref p) (upd H1 p (.lst xs))
theorem j1c {x1} (h:PA X es t):PE X (.Tuple es x1 pos) (tTup t):=by
 intro pins s σ H Q I hq;refine wpAny_Tuple_spliced (thn (h pos pins s σ H _ I hq) λus s1 ⟨xs,H1,I1,r,z,q⟩=>⟨by rw[<-r.length];exact z,?_⟩);have hf:H1 s1.heap.objs.size=none:=I1.hok.fresh (An _);refine⟨.ref s1.heap.objs.size,upd H1 s1.heap.objs.size (.tup xs),I1.laid (t':=s1.toks) (λb u e=>Ae _ e) (An _) ?_,rfl,q _ hf⟩;exact⟨z,us,r,IsTupP.new _ _⟩
theorem jv4 (h:PA X es t):PE X (.List es pos) (tLst t):=by
 intro pins s σ H Q I hq;refine wpAny_List_spliced (thn (h pos pins s σ H _ I hq) λus s1 ⟨xs,H1,I1,r,z,q⟩=>⟨by rw[<-r.length];exact z,?_⟩);have hf:H1 s1.heap.objs.size=none:=I1.hok.fresh (An _);refine⟨.ref s1.heap.objs.size,upd H1 s1.heap.objs.size (.lst xs),I1.laid (t':=s1.toks) (λb u e=>Ae _ e) (An _) ?_,rfl,q _ hf⟩;exact⟨z,us,0,r,A2 _ rfl⟩
end
abbrev Sp:=List V->Hp->VK->XK->Prop
abbrev CXT:=List Env->Hp->Ak->XK->Af->Ak->Prop
structure Env0 (P:Bg) (w:Br) (K:Ai) (mg:Str->Option Af) (base:Heap) (A:B4) (outer:List Env) (s:Ak) (H:Hp):Prop where
 frames:A.frames=some outer
 mod:Mod K mg base
 bs:∀b o,base.get? b=some o->s.heap.get? b=some o/\H b=none
 bsz:base.objs.size<=s.heap.objs.size
 funs:s.heap.FunFrames base outer
 frf:∀b∈frs outer,H b=none
 hok:HOk P w H s.heap
 bare:AllBare s.gens
def CE (outer:List Env) (P:Bg) (w:Br) (H:Hp) (s:Ak) (Q:VK) (u:Af) (s':Ak):Prop :=
 ∃v H',s'.os=s.os/\AllBare s'.gens/\Un (frs outer) [] H H' s.heap s'.heap/\HOk P w H' s'.heap/\RelV v u/\Q v H'
def CR (CX:CXT) (outer:List Env) (P:Bg) (w:Br) (H:Hp) (s:Ak) (Q:VK) (E:XK) (r:Result) (s':Ak):Prop :=
 match r with
 |.ok (.ret u)=>CE outer P w H s Q u s'
 |.ok _=>False
 |.error e=>CX outer H s E e s'
structure FnOk (P:Bg) (w:Br) (K:Ai) (mg:Str->Option Af) (base:Heap) (CX:CXT) (k:Nat) (f:Addr) (fd:Cb) (ps:List Str) (sp:Sp):Prop where
 len:∀vs H Q E,sp vs H Q E->vs.length=ps.length
 run:∀(A:B4) (outer:List Env) (s:Ak) (H:Hp) (args:Args) (us:List Af) (vs:List V) (Q:VK) (E:XK),Room k A->Env0 P w K mg base A outer s H->BindsTo s fd args (ps.zip us)->Vals vs us->sp vs H Q E ->
  Fg (Ba P w) A (.call (.ref f) args) (CR CX outer P w H s Q E) s
theorem FnOk.imp {P:Bg} {w:Br} {K:Ai} {mg:Str->Option Af} {base:Heap} {CX:CXT} {k:Nat} {f:Addr} {fd:Cb} {ps:List Str} {sp sp':Sp} (F:FnOk P w K mg base CX k f fd ps sp)
  (h:∀vs H Q E,sp' vs H Q E->sp vs H Q E):FnOk P w K mg base CX k f fd ps sp' :=
 ⟨λvs H Q E q=>F.len vs H Q E (h _ _ _ _ q),λA outer s H args us vs Q E hr he hb hv hs=>F.run A outer s H args us vs Q E hr he hb hv (h _ _ _ _ hs)⟩
section
variable {X:Cx} {pins:List (Addr×Obj)} {σ:St} {H:Hp} {s s':Ak}
theorem Inv.env0 (I:Inv X pins σ H s):Env0 X.prog X.w X.K X.mg X.base X.A X.stack s H :=
 ⟨I.ok.frames,I.ok.mod,I.bs,A5 I.ok.bsz I.sz,I.stack,I.stkFree,I.hok,I.bare⟩
theorem Inv.after {Q:VK} {u:Af} (I:Inv X pins σ H s) (h:CE X.stack X.prog X.w H s Q u s'):EP X pins σ Q u s':=by
 obtain⟨v,H',os,bare,un,hok,r,q⟩:=h;obtain⟨hh,g,d,t,os'⟩:=s';obtain rfl:os'=s.os:=os;exact⟨v,H',I.call (h':=hh) (g':=g) (d':=d) (t':=t) (ch:=[]) un hok bare (λb z=>absurd z (by simp)),r,q⟩
end
def jnl (sp:Sp) (dvs:List V) (E:XK) (t:TA):TE:=λσ H Q=>t σ H λvs H1=>sp (vs++dvs) H1 Q E
def Binds (K:Ai) (fd:Cb) (ps:List Str) (ds:List Af):Prop :=
 ∀(s:Ak) (us:List Af),K.In s.heap->(us++ds).length=ps.length->BindsTo s fd ⟨us,[]⟩ (ps.zip (us++ds))
theorem Binds.all {K:Ai} {fd:Cb} {ps:List Str} (h:∀us:List Af,us.length=ps.length->bindArgs fd ⟨us,[]⟩=pure (ps.zip us)):Binds K fd ps []:=λs us _ hl=>by
 rw[Bz]at hl ⊢;exact .of_eq (h us hl)
def jx3 (CX:CXT) (X:Cx) (E:XK):Prop:=∀(pins:List (Addr×Obj)) (σ:St) (H:Hp) (s:Ak) (e:Af) (s':Ak),Inv X pins σ H s->CX X.stack H s E e s'->X.xe e s'
section
variable {X:Cx} {CX:CXT} {k:Nat} {f C:Addr} {fd:Cb} {ps:List Str} {sp:Sp} {dvs:List V} {ds:List Af} {E:XK} {x m:Str} {p pos apos:Pos} {e o:Expr} {es:List Expr} {ta:TE} {t:TA}
theorem j5n {pins:List (Addr×Obj)} {σ:St} {H:Hp} {s:Ak} {Q:VK} {us:List Af} {vs:List V} (F:FnOk X.prog X.w X.K X.mg X.base CX k f fd ps sp) (hr:Room k X.A) (hb:Binds X.K fd ps ds) (hd:Vals dvs ds) (hx:jx3 CX X E)
  (I:Inv X pins σ H s) (r:Vals vs us) (h:sp (vs++dvs) H Q E):A4 (Ba X.prog X.w) X.A (call (.ref f) us) (EP X pins σ Q) X.xe s:=by
 have r2:Vals (vs++dvs) (us++ds):=r.append hd;have hl:(us++ds).length=ps.length:=by rw[<-r2.length];exact F.len _ _ _ _ h
 refine wpAny_call (codeAny_mono (F.run X.A X.stack s H ⟨us,[]⟩ (us++ds) (vs++dvs) Q E hr I.env0 (hb s us I.kIn hl) r2 h) λr s' hq=>?_);cases r with
 |error e=>exact hx pins σ H s e s' I hq
 |ok fl =>
  cases fl with
  |ret u=>exact I.after hq
  |next=>exact False.elim hq
  |brk=>exact False.elim hq
  |cont=>exact False.elim hq
theorem jrd (F:FnOk X.prog X.w X.K X.mg X.base CX k f fd ps sp) (hr:Room k X.A) (hg:Gl X x) (hm:X.mg x=some (.ref f)) (hk:Cv X.K (.ref f)=true) (hb:Binds X.K fd ps ds) (hd:Vals dvs ds) (hx:jx3 CX X E)
  (ha:PA X (e::es) t) (hdb:(x==("__debug__":Str))=false:=by decide) (he:Az (e::es) X.env=(false,eval e X.env)::Az es X.env:=by rfl) (hpl:(Cz pos (Az es X.env)).any (·.1)=false:=by rfl) :
  PE X (.Call (.Name x p) (e::es) [] pos) (jnl sp dvs E t):=by
 intro pins s σ H Q I h;refine wpAny_Call_Name_kw (jwl I hg hm ?_ hdb);refine PySem.W.callWith_K (h₀:=X.base) I.ok.mod.kin hk (thn (ha pos pins s σ H _ I h) λus s1 ⟨vs,H1,I1,r,q⟩=>⟨I1.kIn,?_⟩) he hpl;exact j5n F hr hb hd hx I1 r q
end
structure FnScope (N P:List Str) (sc:Scope):Prop where
 kind:sc.kind=.function
 co:sc.isCoroutine=false
 gen:sc.isGenerator=false
 nd:N.Nodup
 pre:N.take P.length=P
 par:∀x∈P,sc.names.lookup x=some .local\/sc.names.lookup x=some .cell
 nofree:∀y∈sc.names,y.2≠.free
theorem jql {kindOf:Str->Option NameKind} {x:Str}:∀{binds:List (Str×Af)} {m:Str->Option Af},(∀v,(x,v)∉binds)->bindL kindOf binds m x=m x
 |[],_,_=>rfl
 | (n,v)::r,m,h=>by
  unfold bindL;rw[jql λw hw=>h w (Au _ hw)]
  split
  ·have:x≠n:=by rintro rfl;exact h v A0
   simp[this]
  ·rfl
theorem jqn {kindOf:Str->Option NameKind} {x:Str}:∀{binds:List (Str×Af)} {m:Str->Option Af},(∀v,(x,v)∉binds)->bindC kindOf binds m x=m x
 |[],_,_=>rfl
 | (n,v)::r,m,h=>by
  unfold bindC;rw[jqn λw hw=>h w (Au _ hw)]
  split
  ·rfl
  ·have:x≠n:=by rintro rfl;exact h v A0
   simp[this]
theorem jqm {kindOf:Str->Option NameKind} {x:Str} {v:Af}:∀{P:List Str} {vs:List Af} {i:Nat} {m:Str->Option Af},P.Nodup->P[i]?=some x->vs[i]?=some v->kindOf x=some .local ->
  bindL kindOf (P.zip vs) m x=some v
 |[],_,_,_,_,h,_,_=>by simp at h
 |_::_,[],_,_,_,_,h,_=>by simp at h
 |p::P,w::vs,0,m,nd,h1,h2,hk=>by
  simp at h1 h2;subst h1;subst h2;show bindL kindOf ((p,w)::P.zip vs) m p=_;unfold bindL;rw[jql λv hv=>(Dr.mp nd).1 (E5 hv).1,if_pos hk];simp
 |p::P,w::vs,i+1,m,nd,h1,h2,hk=>by
  show bindL kindOf ((p,w)::P.zip vs) m x=_;unfold bindL;exact jqm (i:=i) (Dr.mp nd).2 (by simpa using h1) (by simpa using h2) hk
theorem jqo {kindOf:Str->Option NameKind} {x:Str} {v:Af}:∀{P:List Str} {vs:List Af} {i:Nat} {m:Str->Option Af},P.Nodup->P[i]?=some x->vs[i]?=some v->kindOf x≠some .local ->
  bindC kindOf (P.zip vs) m x=some v
 |[],_,_,_,_,h,_,_=>by simp at h
 |_::_,[],_,_,_,_,h,_=>by simp at h
 |p::P,w::vs,0,m,nd,h1,h2,hk=>by
  simp at h1 h2;subst h1;subst h2;show bindC kindOf ((p,w)::P.zip vs) m p=_;unfold bindC;rw[jqn λv hv=>(Dr.mp nd).1 (E5 hv).1,if_neg hk];simp
 |p::P,w::vs,i+1,m,nd,h1,h2,hk=>by
  show bindC kindOf ((p,w)::P.zip vs) m x=_;unfold bindC;exact jqo (i:=i) (Dr.mp nd).2 (by simpa using h1) (by simpa using h2) hk
def start (N:List Str) (vs:List V):St:=vs.map some++Dl (N.length - vs.length) none
def cxOf (CX:CXT) (P:Bg) (w:Br) (K:Ai) (mg:Str->Option Af) (base:Heap) (N:List Str) (qual:Str) (scope:Scope) (f:Addr) (cd:Af) (A:B4) (outer:List Env) (s:Ak) (H:Hp) (E:XK):Cx where
 prog:=P
 w:=w
 K:=K
 mg:=mg
 base:=base
 A:=A.deeper (envOfC qual scope s.heap.objs.size f cd)
 N:=N
 s₀:=s
 H₀:=H
 env:=envOfC qual scope s.heap.objs.size f cd
 outer:=outer
 stack:=envOfC qual scope s.heap.objs.size f cd::outer
 ex:=[]
 calm:=true
 fn:=λ_=>true
 pn:=[]
 xe:=λe s'=>A4 (Ba P w) (A.deeper (envOfC qual scope s.heap.objs.size f cd)) (leaving (envOfC qual scope s.heap.objs.size f cd) e) (λ_ s''=>CX outer H s E e s'') (λe' s''=>CX outer H s E e' s'') s'
theorem jtb {sc:Scope} {n:Nat} {x:Str} (h:sc.names.lookup x=some .cell):∃c,(cellsFrom n sc.names []).lookup x=some c:=by
 have q:=PySem.W.cellsFrom_some sc.names n [] (.inl h);exact Ew.mp q
theorem jwu {CX:CXT} {P:Bg} {w:Br} {K:Ai} {mg:Str->Option Af} {base:Heap} {N ps:List Str} {qual:Str} {scope:Scope} {f:Addr} {cd:Af} {A:B4} {outer:List Env} {s s1:Ak} {H:Hp} {E:XK} {us:List Af} {vs:List V}
  (S:FnScope N ps scope) (hd:A.handled=none) (e0:Env0 P w K mg base A outer s H) (hl:vs.length=ps.length) (r:Vals vs us)
  (x:InCallC s s.heap.objs.size (bindL (envOfC qual scope s.heap.objs.size f cd).kindOf (ps.zip us) λ_=>none) (cellsFrom (s.heap.objs.size+1) scope.names []) (bindC (envOfC qual scope s.heap.objs.size f cd).kindOf (ps.zip us) λ_=>none) s1) :
  Inv (cxOf CX P w K mg base N qual scope f cd A outer s H E) [] (start N vs) H s1:=by
 have hpl:ps.length<=N.length:=by have:=congrArg List.length S.pre;rw[Ci]at this;omega
 obtain⟨h1,tk,rfl,hk⟩:=x.done;have noA:∀b:Addr,b∉(cxOf CX P w K mg base N qual scope f cd A outer s H E).ex:=λb z=>absurd (show b∈([]:List Addr)from z) (by simp);refine⟨⟨e0.mod,S.kind,rfl,rfl,An _,λy z c h1 h2=>?_,λy hy=>?_,λy c _ h=>?_,λ_=>hd,Around.frames_deeper e0.frames,.inr ⟨rfl,rfl⟩,λb z=>absurd z (noA b),e0.bs,e0.bsz,λb _ _=>noA b,λb z=>absurd z (noA b),e0.funs,e0.frf⟩,
  rfl,e0.bare,Un.kept hk,⟨_,x.toInCall.ns,λi y v h1 h2 h3=>?_⟩,λy c h=>⟨_,x.cell y c h⟩,e0.hok.fresh (An _),λy c h=>?_,λp hp=>absurd (show p∈([]:List (Addr×Obj))from hp) (by simp),e0.hok.kept hk,?_⟩
 ·exact name_of_addr x.apart (Et h1) (Et h2)
 ·have hy:scope.names.lookup y=some .cell\/scope.names.lookup y=some .free:=hy;rcases hy with hy | hy
  ·exact jtb hy
  ·exact absurd rfl (S.nofree _ (Et hy))
 ·exact Fm (x.above y c (Et h))
 ·have hi:i < vs.length:=by
   unfold start at h2;by_cases hi:i < vs.length
   ·exact hi
   ·rw[B5 (by simpa using hi)]at h2;rw[D5]at h2
    split at h2<;>cases h2
  have ha:vs[i]?=some v:=by
   unfold start at h2;rw[Cl9 (by simpa using hi),Ay]at h2;cases e:vs[i]? with
   |none=>rw[e]at h2;cases h2
   |some a=>rw[e]at h2;cases h2;rfl
  obtain⟨u,hu,rv⟩:=r.get ha;have hp:ps[i]?=some y:=by
   rw[<-S.pre,List.getElem?_take_of_lt (by omega)];exact h1
  have ndP:ps.Nodup:=by rw[<-S.pre];exact S.nd.sublist (List.take_sublist _ _)
  refine⟨u,rv,?_⟩;rcases S.par y (A6 hp)with k | k
  ·exact .inl ⟨k,jqm ndP hp hu k⟩
  ·obtain⟨c,e⟩:=jtb (n:=s.heap.objs.size+1) k;refine .inr ⟨.inl k,c,e,?_⟩;have q:=x.cell y c e;rw[jqo ndP hp hu (by show scope.names.lookup y≠_;rw[k];decide)]at q;exact q
 ·exact e0.hok.fresh (Fm (x.above y c (Et h)))
 ·unfold start;show _=N.length;rw[Ah,Ab,List.length_replicate];omega
theorem j8u {CX:CXT} {P:Bg} {w:Br} {K:Ai} {mg:Str->Option Af} {base:Heap} {k:Nat} {f:Addr} {name qual:Str} {params:Arguments} {body:List Stmt} {scope:Scope} {dV kV doc pm cdv ct oc:Af} {an od:Option Addr}
  {osl:Array (Option Af)} {N ps:List Str} {sp:Sp} (lk:K.lookup f=some ⟨oc,od,.func (E6 name qual params body scope dV kV doc pm an cdv ct),osl⟩) (hcd:PySem.W.codeIn K cdv qual=true) (S:FnScope N ps scope)
  (len:∀vs H Q E,sp vs H Q E->vs.length=ps.length)
  (hbody:∀(A:B4) (outer:List Env) (s:Ak) (H:Hp) (vs:List V) (Q:VK) (E:XK),Room k (A.deeper (envOfC qual scope s.heap.objs.size f cdv))->sp vs H Q E ->
   ∃t,PSs (cxOf CX P w K mg base N qual scope f cdv A outer s H E) body t/\t {nx:=λ_ H'=>Q .non H',rt:=Q} (start N vs) H) :
  FnOk P w K mg base CX (k+1) f (E6 name qual params body scope dV kV doc pm an cdv ct) ps sp:=by
 refine⟨len,λA outer s H args us vs Q E hr e0 hb r hsp=>?_⟩;have hl:=len _ _ _ _ hsp;have KX:K.In s.heap:=e0.mod.kin.keeps λb o e=>(e0.bs b o e).1;have lim:s.heap.NoLimit:=e0.mod.nolimit.keeps λb o e=>(e0.bs b o e).1;have hkind:∀y∈ps.zip us,scope.names.lookup y.1=some .local\/(scope.names.lookup y.1=some .cell/\((cellsFrom (s.heap.objs.size+1) scope.names []).lookup y.1).isSome=true):=λ⟨n,v⟩ hy=>by
  rcases S.par n (E5 hy).1 with q | q
  ·exact .inl q
  ·exact .inr ⟨q,PySem.W.cellsFrom_some _ _ _ (.inl q)⟩
 refine codeAny_call_function hr.depth (KX _ _ lk) rfl S.co S.gen rfl (PySem.W.codeRec_of KX hcd) (hb _ _ _ _ ?_);refine wpAny_newFunctionEnv_cells S.kind hkind λenv he s1 x=>?_;subst he;refine⟨lim.keeps x.toInCall.keep,codeAny_func ?_⟩;obtain⟨t,ht,hq⟩:=hbody A outer s H vs Q E (hr.deeper _) hsp;have I:Inv (cxOf CX P w K mg base N qual scope f cdv A outer s H E) [] (start N vs) H s1:=jwu S hr.hd e0 hl r x;refine Cu (ht [] s1 (start N vs) H _ I hq) (λfl s' hs=>?_) λe s' hs=>hs;have fin:∀{σ':St} {H':Hp} {v:V} {u:Af},Inv (cxOf CX P w K mg base N qual scope f cdv A outer s H E) [] σ' H' s'->RelV v u->Q v H'->CE outer P w H s Q u s' :=
  λ{σ' H' v u} J rv q=>⟨v,H',J.os,J.bare,J.base,J.hok,rv,q⟩
 cases fl with
 |ret u =>
  obtain⟨v,σ',H',J,rv,q⟩:=hs;exact fin J rv q
 |next =>
  obtain⟨σ',H',J,q⟩:=hs;exact fin (v:=V.non) (u:=Be) J rfl q
 |brk =>
  obtain⟨_,_,_,q⟩:=hs;exact False.elim q
 |cont =>
  obtain⟨_,_,_,q⟩:=hs;exact False.elim q
section
variable {X:Cx} {x:Str} {p pos:Pos} {e:Expr} {es:List Expr} {t:TA} {id T:String} {r:List V->Hp->VK->Prop}
def tCB (r:List V->Hp->VK->Prop) (t:TA):TE:=λσ H Q=>t σ H λvs H1=>r vs H1 Q
theorem jdm (hc:CallR X (.builtin id) r) (hg:Gl X x) (hm:X.mg x=none) (hv:B3 x=some (.builtin id)) (ha:PA X (e::es) t) (hn:x≠"__name__":=by decide) (hdb:(x==("__debug__":Str))=false:=by decide)
  (he:Az (e::es) X.env=(false,eval e X.env)::Az es X.env:=by rfl) (hpl:(Cz pos (Az es X.env)).any (·.1)=false:=by rfl):PE X (.Call (.Name x p) (e::es) [] pos) (tCB r t):=by
 intro pins s σ H Q I h;refine wpAny_Call_Name_kw (jm3 I hg hm hv ?_ hn hdb);exact PyProof.Rows.callWith_builtin1 (thn (ha pos pins s σ H _ I h) λus s1 ⟨vs,H1,I1,r1,q1⟩=>hc pins s1 σ H1 vs us Q I1 r1 q1) he hpl
theorem jgs (hc:CallR X (.type T) r) (hg:Gl X x) (hm:X.mg x=none) (hv:B3 x=some (.type T)) (ha:PA X (e::es) t) (hn:x≠"__name__":=by decide) (hdb:(x==("__debug__":Str))=false:=by decide)
  (he:Az (e::es) X.env=(false,eval e X.env)::Az es X.env:=by rfl) (hpl:(Cz pos (Az es X.env)).any (·.1)=false:=by rfl):PE X (.Call (.Name x p) (e::es) [] pos) (tCB r t):=by
 intro pins s σ H Q I h;refine wpAny_Call_Name_kw (jm3 I hg hm hv ?_ hn hdb);exact D7 (thn (ha pos pins s σ H _ I h) λus s1 ⟨vs,H1,I1,r1,q1⟩=>hc pins s1 σ H1 vs us Q I1 r1 q1) he hpl
end
end L2
namespace HT
open PySem PyProof.Rows
section
variable {prog:Bg} {w:Br} {A:B4} {E:Af->Ak->Prop} {s:Ak}
theorem cat_tup {t b:Addr} {vs ws:List Af} {Q:Af->Ak->Prop} (ht:IsTup s.heap t vs.toArray) (hb:IsTup s.heap b ws.toArray) (hv:vs≠[])
  (h1:ws=[]->Q (.ref t) s) (h2:ws≠[]->Q (.ref s.heap.objs.size) {s with heap:=s.heap.push {cls:=.type "tuple",data:=.seq (vs++ws).toArray}})
  (hsz:vs.length+ws.length<=A1):A4 (Ba prog w) A (Ec .Add (.ref t) (.ref b)) Q E s:=by
 obtain⟨⟨cls,dd,data,sl⟩,ho,hc,n,hd⟩:=id ht;obtain⟨⟨cls2,dd2,data2,sl2⟩,ho2,hc2,n2,hd2⟩:=id hb;simp only at hc hd hc2 hd2;subst hc hd hc2 hd2;have e:vs.toArray++ws.toArray=(vs++ws).toArray:=by simp
 by_cases hw:ws=[]
 ·exact concat_meets ⟨_,ho,rfl⟩ ⟨_,ho2,rfl⟩ noFill_tuple_add seq_tuple_add E7 E2 (Eu _ _)
   (tuple_addW1 t b vs.toArray ws.toArray n n2 dd dd2 sl sl2 (by simpa using hv) (by simp[hw])) ⟨ho,ho2,h1 hw⟩
 ·refine concat_meets ⟨_,ho,rfl⟩ ⟨_,ho2,rfl⟩ noFill_tuple_add seq_tuple_add E7 E2 (Eu _ _)
   (tuple_addW2 t b vs.toArray ws.toArray n n2 dd dd2 sl sl2 (by simpa using hv) (by simpa using hw) (by rw[A3,A3];exact hsz)) ⟨ho,ho2,?_⟩
  rw[e];exact h2 hw
def sIx (n d:Nat):Option Int->Nat
 |none=>d
 |some v=>if v < 0 then(v+(n:Int)).toNat else min v.toNat n
theorem sIx_none (n d:Nat):sIx n d none=d:=rfl
theorem sIx_nat (n d k:Nat):sIx n d (some (k:Int))=min k n:=by
 show(if (k:Int) < 0 then((k:Int)+(n:Int)).toNat else min (k:Int).toNat n)=min k n;rw[if_neg (by omega),Bp]
theorem j5l (n d:Nat) (hd:d<=n) (o:Option Int):sIx n d o<=n:=by
 cases o with
 |none=>exact hd
 |some v =>
  show(if v < 0 then(v+(n:Int)).toNat else min v.toNat n)<=n;by_cases hv:v < 0
  ·rw[if_pos hv];omega
  ·rw[if_neg hv];exact Nat.min_le_right _ _
theorem jxl (v:Int) (n d:Nat):(if v < 0 then max (v+(n:Int)) 0 else min v (n:Int))=((sIx n d (some v):Nat):Int):=by
 show(if v < 0 then max (v+(n:Int)) 0 else min v (n:Int))=(((if v < 0 then(v+(n:Int)).toNat else min v.toNat n):Nat):Int);by_cases hv:v < 0
 ·simp only[if_pos hv];omega
 ·simp only[if_neg hv];omega
theorem jug (lo hi:Option Int) (n:Nat):Fx lo hi 1 (n:Int)=(((sIx n 0 lo:Nat):Int),((sIx n n hi:Nat):Int)):=by
 have h1:¬((1:Int) < 0):=by omega
 unfold Fx;simp only[h1,if_false];refine Prod.ext ?_ ?_
 ·cases lo with
  |none=>rfl
  |some v=>exact jxl v n 0
 ·cases hi with
  |none=>rfl
  |some v=>exact jxl v n n
theorem jtr (i j:Nat):Ee (i:Int) (j:Int) 1=j - i:=by
 unfold Ee;have h1:(1:Int) > 0:=by omega
 simp only[h1,if_true,Int.ediv_one]
 split<;>omega
theorem jmm {v:Af} {o:Option Int} {Q:Option Int->Ak->Prop} (p:IsPart v o) (h:Q o s):A4 (Ba prog w) A (Builtin.Slice.slicePartIndex v) Q E s:=by
 cases p with
 |none=>exact slicePart_none h
 |int i t=>exact slicePart_int h
theorem jem {sl:Addr} {vl vu:Af} {lo hi:Option Int} {n:Nat} {Q:Int×Int×Nat->Ak->Prop} (hs:s.heap.IsSliceOf sl vl vu .none) (pl:IsPart vl lo) (pu:IsPart vu hi)
  (h:Q (((sIx n 0 lo:Nat):Int),1,sIx n n hi - sIx n 0 lo) s):A4 (Ba prog w) A (Builtin.Slice.sliceApplied (.ref sl) (pure (n:Int))) Q E s:=by
 obtain⟨os,hos,hcs,hds⟩:=id hs;unfold Builtin.Slice.sliceApplied Builtin.Slice.sliceFields;refine Aa (Aa (Cw hos hds (x:=vl) rfl (Aa (Cw hos hds (x:=vu) rfl (Aa (Cw hos hds (x:=.none) rfl (Al ?_)))))));refine Aa (slicePart_none ?_);show A4 _ _ (if ((1:Int)==0)=true then _ else _) _ _ s;rw[if_neg (by decide)];refine Aa (jmm pl (Aa (jmm pu (Aa (Al ?_)))));show A4 _ _ (match Fx lo hi 1 (n:Int)with | (lo,hi)=>pure (lo,(1:Int),Ee lo hi 1)) _ _ s;rw[jug lo hi n];show A4 _ _ (pure (((sIx n 0 lo:Nat):Int),(1:Int),Ee ((sIx n 0 lo:Nat):Int) ((sIx n n hi:Nat):Int) 1)) _ _ s;rw[jtr];exact Al h
theorem jy3 (xs:Array Af) (i k:Nat):((Bq k).filterMap λ(m:Nat)=>xs[((i:Int)+(m:Int)*1).toNat]?).toArray=((xs.toList.drop i).take k).toArray:=by
 have e:(λ(m:Nat)=>xs[((i:Int)+(m:Int)*1).toNat]?)=λm=>xs[i+m]?:=by
  funext m
  have:((i:Int)+(m:Int)*1).toNat=i+m:=by omega
  rw[this]
 rw[e];have:=pick_run xs i k;rw[List.filterMap_map]at this;have e2:((λx=>xs[x]?) ∘ λx=>i+x)=λm=>xs[i+m]?:=rfl;rw[e2]at this;rw[this]
theorem getItem_tuple_cut {t sl:Addr} {items:Array Af} {vl vu:Af} {lo hi:Option Int} {Q:Af->Ak->Prop} (ht:IsTup s.heap t items) (hs:s.heap.IsSliceOf sl vl vu .none) (pl:IsPart vl lo) (pu:IsPart vu hi)
  (hw:¬(sIx items.size 0 lo=0/\sIx items.size items.size hi=items.size))
  (h:Q (.ref s.heap.objs.size) {s with heap:=s.heap.push {cls:=.type "tuple",data:=.seq ((items.toList.drop (sIx items.size 0 lo)).take (sIx items.size items.size hi - sIx items.size 0 lo)).toArray}})
  (hsz:items.size<=A1):A4 (Ba prog w) A (getItem (.ref t) (.ref sl)) Q E s:=by
 have htake:sizeOk (.seq ((items.toList.drop (sIx items.size 0 lo)).take (sIx items.size items.size hi - sIx items.size 0 lo)).toArray):=by
  show((items.toList.drop (sIx items.size 0 lo)).take (sIx items.size items.size hi - sIx items.size 0 lo)).toArray.size<=A1;rw[A3,Ci,Bx,Cm];omega
 have hj:sIx items.size items.size hi<=items.size:=j5l _ _ (An _) hi;obtain⟨os,hos,hcs,hds⟩:=id hs;have hTs:s.TypeIs (.ref sl) "slice":=⟨os,hos,hcs⟩;unfold getItem
 try with_reducible refine Ck ?_
 first | refine Aa (Al ?_) | skip
 refine Aa (wpAny_sequenceKey ht.typeIs (by decide) ?_);refine Aa (Bv (name:=C0 "__getitem__") ht.typeIs Dm
  (B6 Dm ht.typeIs entry_tuple_getitem ?_ (args_tuple_getitem _ _)))
 show A4 _ _ (Builtin.Tuple.tupleItemsOf (.ref t)>>=_) _ _ s;refine Aa (tupleItemsOf_ ht ?_);refine Aa (Ft hTs ?_);rw[if_pos (by decide)];refine Aa (jem hs pl pu ?_);have hno:¬((((sIx items.size 0 lo:Nat):Int)==0&&(1:Int)==1&&(sIx items.size items.size hi - sIx items.size 0 lo)==items.size)=true):=by
  intro q;rw[Cj,Cj]at q;have q1:((sIx items.size 0 lo:Nat):Int)=0:=eq_of_beq q.1.1;have q2:sIx items.size items.size hi - sIx items.size 0 lo=items.size:=eq_of_beq q.2;exact hw ⟨by omega,by omega⟩
 show A4 _ _ (if (((sIx items.size 0 lo:Nat):Int)==0&&(1:Int)==1&&(sIx items.size items.size hi - sIx items.size 0 lo)==items.size)=true then _ else _) _ _ s;rw[if_neg hno,jy3]
 first
  |exact Aa (m:=Ej _) (Bt (Al ⟨_,rfl,Al h⟩) htake)
  |exact Aa (m:=Ej _) (Bt (Aa (Al (Al ⟨_,rfl,Al h⟩))) htake)
  |exact Aa (Aa (m:=Ej _) (Bt (Al (Al ⟨_,rfl,Al h⟩)) htake))
  |exact Aa (Aa (m:=Ej _) (Bt (Al ⟨_,rfl,Al h⟩) htake))
end
end HT
namespace L2
open PySem PySem.Spec PyProof.Rows
abbrev TO:=St->Hp->(Option Int->Hp->Prop)->Prop
def PO (X:Cx) (e:Option Expr) (t:TO):Prop :=
 ∀(pins:List (Addr×Obj)) (s:Ak) (σ:St) (H:Hp) (Q:Option Int->Hp->Prop),Inv X pins σ H s->t σ H Q ->
  A4 (Ba X.prog X.w) X.A (evalPart e X.env) (λu s'=>∃o H',Inv X pins σ H' s'/\IsPart u o/\Q o H') X.xe s
def jus:TO:=λ_ H Q=>Q none H
def j4t (t:TE):TO:=λσ H Q=>t σ H λx H1=>∃i,x=.int i/\Q (some i) H1
section
variable {X:Cx} {e:Expr} {te:TE} {lo hi:Option Expr} {tl th:TO} {pos p2:Pos}
theorem jv1:PO X none jus:=by
 intro pins s σ H Q I h;rw[evalPart_none];exact Al ⟨none,H,I,.none,h⟩
theorem jv0 (h:PE X e te):PO X (some e) (j4t te):=by
 intro pins s σ H Q I hw;rw[evalPart_some];refine thn (h pins s σ H _ I hw) λu s1 ⟨x,H1,I1,r1,q1⟩=>?_;obtain⟨i,rfl,q⟩:=q1;obtain⟨t,rfl⟩:=r1;exact⟨some i,H1,I1,.int i t,q⟩
def SlR (X:Cx) (r:V->Option Int->Option Int->Hp->VK->Prop):Prop :=
 ∀(pins:List (Addr×Obj)) (s:Ak) (σ:St) (H:Hp) (x:V) (v vl vu:Af) (lo hi:Option Int) (sl:Addr) (Q:VK),Inv X pins σ H s->RelV x v->s.heap.IsSliceOf sl vl vu .none->IsPart vl lo->IsPart vu hi->r x lo hi H Q ->
  ∃T id,typeLookup (.type T) "__getitem__"=pure (some (.builtin id))/\s.TypeIs v T/\A4 (Ba X.prog X.w) X.A (getItem v (.ref sl)) (EP X pins σ Q) X.xe s
theorem SlR.or {r r':V->Option Int->Option Int->Hp->VK->Prop} (h:SlR X r) (h':SlR X r'):SlR X (λx lo hi H Q=>r x lo hi H Q\/r' x lo hi H Q):=by
 intro pins s σ H x v vl vu lo hi sl Q I rx hs pl pu q;rcases q with q | q
 ·exact h pins s σ H x v vl vu lo hi sl Q I rx hs pl pu q
 ·exact h' pins s σ H x v vl vu lo hi sl Q I rx hs pl pu q
def tSl (r:V->Option Int->Option Int->Hp->VK->Prop) (te:TE) (tl th:TO):TE:=λσ H Q=>te σ H λx H1=>tl σ H1 λl H2=>th σ H2 λu H3=>r x l u H3 Q
theorem jnu {r:V->Option Int->Option Int->Hp->VK->Prop} (hr:SlR X r) (he:PE X e te) (hl:PO X lo tl) (hu:PO X hi th):PE X (.Subscript e (.Slice lo hi none p2) pos) (tSl r te tl th):=by
 intro pins s σ H Q I h;refine Subscript_ (thn (he pins s σ H _ I h) λv s1 ⟨x,H1,I1,r1,q1⟩=>?_);refine wpAny_Slice (thn (hl pins s1 σ H1 _ I1 q1) λvl s2 ⟨l,H2,I2,pl,q2⟩=>thn (hu pins s2 σ H2 _ I2 q2) λvu s3 ⟨u,H3,I3,pu,q3⟩=>?_);rw[evalPart_none];refine Al ?_;have I4:Inv X pins σ H3 {s3 with heap:=s3.heap.push {cls:=.type "slice",data:=.fields #[vl,vu,.none]}}:=I3.kept (t':=s3.toks) λb ob q=>Ae _ q;obtain⟨T,id,hT,ht,hg⟩:=hr pins {s3 with heap:=s3.heap.push {cls:=.type "slice",data:=.fields #[vl,vu,.none]}} σ H3 x v vl vu l u s3.heap.objs.size Q I4 r1 (Heap.IsSliceOf.new ..) pl pu q3;show A4 (Ba X.prog X.w) X.A (subscriptTail e (.Slice lo hi none p2) v (.ref s3.heap.objs.size)) (EP X pins σ Q) X.xe {s3 with heap:=s3.heap.push {cls:=.type "slice",data:=.fields #[vl,vu,.none]}};exact tail_any (ops:=[.ref s3.heap.objs.size,v]) ht hT hg (by with_unfolding_all rfl)
def cutV (xs:List V) (lo hi:Option Int):List V:=(xs.drop (HT.sIx xs.length 0 lo)).take (HT.sIx xs.length xs.length hi - HT.sIx xs.length 0 lo)
theorem jef (xs:List V) (lo hi:Option Int):(cutV xs lo hi).length<=xs.length:=by
 unfold cutV;rw[Ci,Bx];omega
def rSlT (K:Ai):V->Option Int->Option Int->Hp->VK->Prop:=λx lo hi H Q=>∃a xs,x=.ref a/\SqT K H a xs /\
 ¬(HT.sIx xs.length 0 lo=0/\HT.sIx xs.length xs.length hi=xs.length)/\∀p,H p=none->Q (.ref p) (upd H p (.tup (cutV xs lo hi)))
theorem sl_tup:SlR X (rSlT X.K):=by
 intro pins s σ H x v vl vu lo hi sl Q I rx hs pl pu h;obtain⟨a,xs,rfl,hx,hw,q⟩:=h;cases rx;obtain⟨its,r,ht,hz⟩:=I.tuple hx;have hlen:its.toArray.size=xs.length:=by rw[A3];exact r.length.symm
 refine⟨"tuple",_,PyProof.Rows.slot_tuple_getitem.lookup,ht.typeIs,?_⟩;refine HT.getItem_tuple_cut ht hs pl pu (by rw[hlen];exact hw) ?_ (by rw[hlen];exact hz);rw[hlen];refine⟨.ref s.heap.objs.size,_,I.laid (t':=s.toks) (o:=.tup (cutV xs lo hi)) (λb ob q=>Ae _ q) (An _) ?_,rfl,q _ (I.hok.fresh (An _))⟩;exact⟨A5 (jef xs lo hi) hz,_,(r.drop (HT.sIx xs.length 0 lo)).take (HT.sIx xs.length xs.length hi - HT.sIx xs.length 0 lo),IsTupP.new _ _⟩
def j5t (K:Ai):R2:=λx y H Q=>∃a b xs ys,x=.ref a/\y=.ref b/\SqT K H a xs/\SqT K H b ys/\xs≠[]/\xs.length+ys.length<=A1 /\
 (ys=[]->Q (.ref a) H)/\(ys≠[]->∀p,H p=none->Q (.ref p) (upd H p (.tup (xs++ys))))
theorem Vals.nil_iff {xs:List V} {us:List Af} (r:Vals xs us):us=[]↔xs=[]:=by
 cases r with
 |nil=>simp
 |cons _ _=>simp
theorem op_catT:OpR X (Ec .Add) (j5t X.K):=by
 intro pins s σ H x y v u Q I rx ry h;obtain⟨a,b,xs,ys,rfl,rfl,ha,hb,hx,hz,q1,q2⟩:=h;cases rx;cases ry;obtain⟨its,r1,p1,_⟩:=I.tuple ha;obtain⟨its2,r2,p2,_⟩:=I.tuple hb;refine HT.cat_tup p1 p2 (λz=>hx (r1.nil_iff.mp z)) (λz=>⟨.ref a,H,I,rfl,q1 (r2.nil_iff.mp z)⟩) (λz=>?_) (by rw[<-r1.length,<-r2.length];exact hz);refine⟨.ref s.heap.objs.size,_,I.laid (t':=s.toks) (o:=.tup (xs++ys)) (λb ob q=>Ae _ q) (An _) ?_,rfl,q2 (λw=>z (r2.nil_iff.mpr w)) _ (I.hok.fresh (An _))⟩;exact⟨by rw[Ah];exact hz,_,r1.append r2,IsTupP.new _ _⟩
end
def ixN (n:Nat) (i:Int):Option Nat:=if 0<=i then(if i < n then some i.toNat else none)else if -(n:Int)<=i then some (i+n).toNat else none
def atI {α:Type} (xs:List α) (i:Int):Option α:=(ixN xs.length i).bind λj=>xs[j]?
theorem jws {n:Nat} {i:Int} {j:Nat} (h:ixN n i=some j):seqIndex? i n=some j/\j < n/\-(n:Int)<=i/\i < n:=by
 unfold ixN at h;by_cases h0:0<=i
 ·rw[if_pos h0]at h;by_cases h1:i < n
  ·rw[if_pos h1]at h;have e:i.toNat=j:=Ax h;exact⟨by rw[seqIndex_of h0 h1,e],by omega,by omega,h1⟩
  ·rw[if_neg h1]at h;cases h
 ·rw[if_neg h0]at h;by_cases h1:-(n:Int)<=i
  ·rw[if_pos h1]at h;have e:(i+n).toNat=j:=Ax h;exact⟨by rw[seqIndex_neg (by omega) h1,e],by omega,h1,by omega⟩
  ·rw[if_neg h1]at h;cases h
theorem jrw {α:Type} {xs:List α} {i:Int} {v:α} (h:atI xs i=some v):∃j,seqIndex? i xs.length=some j/\xs[j]?=some v/\j < xs.length/\-(xs.length:Int)<=i/\i < xs.length:=by
 unfold atI at h;cases e:ixN xs.length i with
 |none=>rw[e]at h;cases h
 |some j =>
  rw[e]at h;obtain⟨h1,h2,h3,h4⟩:=jws e;exact⟨j,h1,h,h2,h3,h4⟩
theorem jbx {α:Type} {xs:List α} {j:Nat} {v:α} (h:xs[j]?=some v):atI xs (j:Int)=some v:=by
 have hj:j < xs.length:=(At.mp h).1;have e:ixN xs.length (j:Int)=some j:=by
  unfold ixN;rw[if_pos (by omega),if_pos (by omega)];simp
 unfold atI;rw[e];exact h
def jld (b:Expr):Prop:=∀o i,subscripted b false o i=operate [o,i] (getItem o i)
def IxR (X:Cx) (r:R2):Prop :=
 ∀(value slice:Expr) (pins:List (Addr×Obj)) (s:Ak) (σ:St) (H:Hp) (x y:V) (v u:Af) (Q:VK),Inv X pins σ H s->RelV x v->RelV y u->r x y H Q ->
  subscripted slice false v u=operate [v,u] (getItem v u)->A4 (Ba X.prog X.w) X.A (subscriptTail value slice v u) (EP X pins σ Q) X.xe s
def MtR (X:Cx) (id:String) (r:V->List V->Hp->VK->Prop):Prop :=
 ∀(pins:List (Addr×Obj)) (s:Ak) (σ:St) (H:Hp) (x:V) (xs:List V) (v:Af) (us:List Af) (Q:VK),Inv X pins σ H s->RelV x v->Vals xs us->r x xs H Q ->
  A4 (Ba X.prog X.w) X.A (call (.builtin id) (v::us)) (EP X pins σ Q) X.xe s
section
variable {X:Cx} {a b:Expr} {ta tb:TE} {pos:Pos}
theorem IxR.or {r r':R2} (h:IxR X r) (h':IxR X r'):IxR X (λx y H Q=>r x y H Q\/r' x y H Q):=by
 intro value slice pins s σ H x y v u Q I rx ry q hs;rcases q with q | q
 ·exact h value slice pins s σ H x y v u Q I rx ry q hs
 ·exact h' value slice pins s σ H x y v u Q I rx ry q hs
theorem jhd {r:R2} (hr:IxR X r) (ha:PE X a ta) (hb:PE X b tb) (hs:jld b):PE X (.Subscript a b pos) (tOp r ta tb):=by
 intro pins s σ H Q I h;exact Subscript_ (binT ha hb I h λv u s2 x y H2 I2 rx ry q=>hr a b pins s2 σ H2 x y v u Q I2 rx ry q (hs _ _))
def rIxL (K:Ai):R2:=λx y H Q=>∃p xs i v,x=.ref p/\y=.int i/\SqL K H p xs/\atI xs i=some v/\Q v H
def rIxT (K:Ai):R2:=λx y H Q=>∃p xs i v,x=.ref p/\y=.int i/\SqT K H p xs/\atI xs i=some v/\Q v H
def rIxS:R2:=λx y H Q=>∃z i c,x=.str z/\y=.int i/\z.length<=A1/\atI z.cps.toList i=some c/\Q (.str ⟨#[c]⟩) H
theorem ix_list:IxR X (rIxL X.K):=by
 intro value slice pins s σ H x y v u Q I rx ry h hs;obtain⟨p,xs,i,z,rfl,rfl,hq,he,q⟩:=h;cases rx;obtain⟨t,rfl⟩:=ry;obtain⟨its,r,pl,hz⟩:=I.list hq;obtain⟨j,h1,h2,h3,h4,h5⟩:=jrw he;obtain⟨w,ew,rw'⟩:=r.get h2;have hl:=r.length;have hn:=jm1;have fin:EP X pins σ Q w s:=⟨z,H,I,rw',q⟩;by_cases h0:0<=i
 ·have hj:i.toNat=j:=by
   rw[seqIndex_of h0 h5]at h1;exact Ax h1
  exact item_listR pl.isList h0 (by omega) (by rw[hj];simpa using ew) fin hs
 ·have hj:(i+(its.toArray.size:Int)).toNat=j:=by
   rw[seqIndex_neg (by omega) h4]at h1;rw[A3,<-hl];exact Ax h1
  exact subscriptTail_builtinR (x:=w) pl.isList.typeIs slot_list_getitem.lookup
   (wpAny_getItem_list_neg (Q:=λr s'=>r=w/\EP X pins σ Q r s') pl.isList (by omega) (by rw[A3]<;>omega) (by omega) (by rw[hj];simpa using ew) ⟨rfl,fin⟩) hs
theorem ix_tup:IxR X (rIxT X.K):=by
 intro value slice pins s σ H x y v u Q I rx ry h hs;obtain⟨p,xs,i,z,rfl,rfl,hq,he,q⟩:=h;cases rx;obtain⟨t,rfl⟩:=ry;obtain⟨its,r,pl,hz⟩:=I.tuple hq;obtain⟨j,h1,h2,h3,h4,h5⟩:=jrw he;obtain⟨w,ew,rw'⟩:=r.get h2;have hl:=r.length;have hn:=jm1;have fin:EP X pins σ Q w s:=⟨z,H,I,rw',q⟩;exact subscriptTail_builtinR (x:=w) pl.typeIs slot_tuple_getitem.lookup
  (getItem_tuple (j:=j) (Q:=λr s'=>r=w/\EP X pins σ Q r s') pl (by omega) (by omega) (by rw[A3,<-hl];exact h1) (by simpa using ew) ⟨rfl,fin⟩) hs
theorem j6x:IxR X rIxS:=by
 intro value slice pins s σ H x y v u Q I rx ry h hs;obtain⟨z,i,c,rfl,rfl,hz,he,q⟩:=h;obtain⟨t,rfl⟩:=rx;obtain⟨t',rfl⟩:=ry;obtain⟨j,h1,h2,h3,h4,h5⟩:=jrw he;have hl:z.cps.toList.length=z.length:=by simp[Str.length]
 rw[hl]at h1 h4 h5;have hn:=jm1;exact tail_any (typeIs_str s z t) slot_str_getitem.lookup (getItem_str (c:=c) (by
  have e1:decide (i < -(2 ^ 63:Int))=false:=decide_eq_false (by omega);have e2:decide (i ≥ 2 ^ 63)=false:=decide_eq_false (by omega);rw[e1,e2,Bool.or_false]) (by rw[h1];simpa using h2) ⟨.str ⟨#[c]⟩,H,I.tok _,⟨_,rfl⟩,q⟩) hs
def rIx (K:Ai):R2:=λx y H Q=>rIxL K x y H Q\/rIxT K x y H Q\/rIxS x y H Q
theorem js0:IxR X (rIx X.K):=ix_list.or (ix_tup.or j6x)
theorem jtw (its:List Af) (n j:Nat) (u:Af):Cg (·.setIfInBounds j u) {cls:=.type "list",data:=.seq its.toArray n}={ cls:=.type "list",data:=.seq (its.set j u).toArray n}:=by
 simp[Cg]
theorem Inv.lst {pins:List (Addr×Obj)} {σ:St} {H:Hp} {s:Ak} {p:Addr} {xs:List V} (I:Inv X pins σ H s) (h:H p=some (.lst xs)) :
  ∃(its:List Af) (n:Nat),Vals xs its/\s.heap.get? p=some {cls:=.type "list",data:=.seq its.toArray n}/\xs.length<=A1:=by
 obtain⟨z,its,n,r,e⟩:=I.hok p _ h;exact⟨its,n,r,e,z⟩
theorem Inv.lstUpd {pins:List (Addr×Obj)} {σ:St} {H:Hp} {s:Ak} {p:Addr} {xs ys:List V} {its its':List Af} {n n':Nat} {f:Obj->Obj} (I:Inv X pins σ H s) (h:H p=some (.lst xs))
  (ho:s.heap.get? p=some {cls:=.type "list",data:=.seq its.toArray n}) (hf:f {cls:=.type "list",data:=.seq its.toArray n}={ cls:=.type "list",data:=.seq its'.toArray n'}) (r:Vals ys its') (hz:ys.length<=A1) (t:Nat) :
  Inv X pins σ (upd H p (.lst ys)) {s with heap:=s.heap.update p f,toks:=t}:=by
 have e:(s.heap.update p f).get? p=some {cls:=.type "list",data:=.seq its'.toArray n'}:=by
  rw[Bs f ho (by rw[hf]<;>rfl),hf]
 refine I.write (x:=p) (e:=p) (by rw[h];trivial) (.inl rfl) (λb u hb q=>(Dh _ _ (Ne.symm hb)).trans q) ⟨_,e⟩ ?_;exact⟨hz,its',n',r,e⟩
def j5r:V->V->V->Hp->(Hp->Prop)->Prop:=λo i v H Q=>∃p xs k j,o=.ref p/\i=.int k/\H p=some (.lst xs)/\ixN xs.length k=some j/\Q (upd H p (.lst (xs.set j v)))
theorem ji8:PSet X j5r:=by
 intro pins s σ H o i v ov iv u Q I ro ri rv h;obtain⟨p,xs,k,j,rfl,rfl,hp,hj,q⟩:=h;cases ro;obtain⟨t,rfl⟩:=ri;obtain⟨its,n,r,ho,hz⟩:=I.lst hp;obtain⟨h1,h2,h3,h4⟩:=jws hj;have hl:=r.length;have hn:=jm1;have I':Inv X pins σ (upd H p (.lst (xs.set j v))) {s with heap:=s.heap.update p (Cg (·.setIfInBounds j u))} :=
  I.lstUpd hp ho (jtw its n j u) (r.set rv j) (by rw[Cr];exact hz) s.toks
 by_cases h0:0<=k
 ·have hk:k.toNat=j:=by
   rw[seqIndex_of h0 h4]at h1;exact Ax h1
  exact PySem.W.ki_setAt ho h0 (by omega) (by rw[A3,<-hl];exact h4) (by rw[hk];exact⟨_,I',q⟩)
 ·have hk:(k+(its.toArray.size:Int)).toNat=j:=by
   rw[seqIndex_neg (by omega) h3]at h1;rw[A3,<-hl];exact Ax h1
  exact PySem.W.ki_setBack ho (by omega) (by rw[A3,<-hl];exact h3) (by omega) (by rw[hk];exact⟨_,I',q⟩)
theorem jpg (lo hi:Option Int) (n:Nat):(Gh lo hi none n).1=((HT.sIx n 0 lo:Nat):Int)/\(Gh lo hi none n).2.1=((HT.sIx n n hi:Nat):Int)/\(Gh lo hi none n).2.2=1:=by
 refine⟨?_,?_,rfl⟩
 ·cases lo with
  |none=>simp[Gh,HT.sIx]
  |some i =>
   simp only[Gh,HT.sIx,Option.getD_none,show(1:Int) > 0 by decide,if_true];by_cases h:i < 0
   ·simp only[h,if_true]<;>omega
   ·simp only[h,if_false]<;>omega
 ·cases hi with
  |none=>simp[Gh,HT.sIx]
  |some i =>
   simp only[Gh,HT.sIx,Option.getD_none,show(1:Int) > 0 by decide,if_true];by_cases h:i < 0
   ·simp only[h,if_true]<;>omega
   ·simp only[h,if_false]<;>omega
theorem jnp (its:List Af) (lo hi:Option Int):slicePick its.toArray lo hi none=((its.drop (HT.sIx its.length 0 lo)).take (HT.sIx its.length its.length hi - HT.sIx its.length 0 lo)).toArray:=by
 obtain⟨h1,h2,h3⟩:=jpg lo hi its.toArray.size;unfold slicePick;rw[h1,h2,h3];simp only[sliceRange_one,pick_run,A3]<;>rfl
def rSlL (K:Ai):V->Option Int->Option Int->Hp->VK->Prop:=λx lo hi H Q=>∃a xs,x=.ref a/\SqL K H a xs/\∀p,H p=none->Q (.ref p) (upd H p (.lst (cutV xs lo hi)))
theorem jvh:SlR X (rSlL X.K):=by
 intro pins s σ H x v vl vu lo hi sl Q I rx hs pl pu h;obtain⟨a,xs,rfl,hx,q⟩:=h;cases rx;obtain⟨its,r,ht,hz⟩:=I.list hx;have hlen:=r.length;refine⟨"list",_,slot_list_getitem.lookup,ht.isList.typeIs,?_⟩;refine wpAny_getItem_list_slice ht.isList hs pl pu .none (by simp) ?_ (by rw[A3]<;>omega);rw[jnp,<-hlen];refine⟨.ref s.heap.objs.size,_,I.laid (t':=s.toks) (o:=.lst (cutV xs lo hi)) (λb ob q=>Ae _ q) (An _) ?_,rfl,q _ (I.hok.fresh (An _))⟩;exact⟨A5 (jef xs lo hi) hz,_,0,(r.drop (HT.sIx xs.length 0 lo)).take (HT.sIx xs.length xs.length hi - HT.sIx xs.length 0 lo),A2 _ rfl⟩
def ji0:V->Bool
 |.non=>true
 |.bl _=>true
 |.int _=>true
 |.str _=>true
 |_=>false
def eqV:V->V->Bool
 |.non,.non=>true
 |.bl a,.bl b=>a==b
 |.bl a,.int b=>(if a then 1 else 0)==b
 |.int a,.bl b=>a==(if b then 1 else 0)
 |.int a,.int b=>a==b
 |.str a,.str b=>a==b
 |_,_=>false
theorem j1u {A:B4} {s:Ak} {y x:V} {u v:Af} (ry:RelV y u) (rx:RelV x v) (fy:ji0 y=true) (fx:ji0 x=true):SeqAt.EqAt A s u v (eqV y x):=by
 cases y with
 |non =>
  cases ry;cases x with
  |non=>cases rx;exact SeqAt.EqAt.same _
  |bl b=>cases rx;exact SeqAt.EqAt.none_bool b
  |int b=>obtain⟨t,rfl⟩:=rx;exact SeqAt.EqAt.none_int b t
  |str b=>obtain⟨t,rfl⟩:=rx;exact SeqAt.EqAt.none_str b t
  |_=>exact absurd (show false=true from fx) Ag
 |bl a =>
  cases ry;cases x with
  |non=>cases rx;exact SeqAt.EqAt.bool_none a
  |bl b=>cases rx;exact SeqAt.EqAt.bool_bool a b
  |int b=>obtain⟨t,rfl⟩:=rx;exact SeqAt.EqAt.bool_int a b t
  |str b=>obtain⟨t,rfl⟩:=rx;exact SeqAt.EqAt.bool_str a b t
  |_=>exact absurd (show false=true from fx) Ag
 |int a =>
  obtain⟨t',rfl⟩:=ry;cases x with
  |non=>cases rx;exact SeqAt.EqAt.int_none a t'
  |bl b=>cases rx;exact SeqAt.EqAt.int_bool a t' b
  |int b=>obtain⟨t,rfl⟩:=rx;exact SeqAt.EqAt.int_int a t' b t
  |str b=>obtain⟨t,rfl⟩:=rx;exact SeqAt.EqAt.int_str a t' b t
  |_=>exact absurd (show false=true from fx) Ag
 |str a =>
  obtain⟨t',rfl⟩:=ry;cases x with
  |non=>cases rx;exact SeqAt.EqAt.str_none a t'
  |bl b=>cases rx;exact SeqAt.EqAt.str_bool a t' b
  |int b=>obtain⟨t,rfl⟩:=rx;exact SeqAt.EqAt.str_int a t' b t
  |str b=>obtain⟨t,rfl⟩:=rx;exact SeqAt.EqAt.str_str a t' b t
  |_=>exact absurd (show false=true from fx) Ag
 |_=>exact absurd (show false=true from fy) Ag
def eqU (x:V) (u:Af):Bool:=match u with
 |.none=>eqV .non x
 |.bool b=>eqV (.bl b) x
 |.int i _=>eqV (.int i) x
 |.str z _=>eqV (.str z) x
 |_=>false
theorem j1t {x y:V} {u:Af} (r:RelV y u) (f:ji0 y=true):eqU x u=eqV y x:=by
 cases y with
 |non=>cases r;rfl
 |bl b=>cases r;rfl
 |int i=>obtain⟨t,rfl⟩:=r;rfl
 |str z=>obtain⟨t,rfl⟩:=r;rfl
 |_=>exact absurd (show false=true from f) Ag
theorem jk0 {x:V}:∀{xs:List V} {us:List Af},Vals xs us->xs.all ji0=true->us.any (eqU x)=xs.any λy=>eqV y x
 |_,_,.nil,_=>rfl
 |y::xs,u::us,.cons r t,f=>by
  rw[List.all_cons,Cj]at f;rw[Co,Co,j1t r f.1,jk0 t f.2]
theorem jgw {A:B4} {s:Ak} {x:V} {v:Af} (rx:RelV x v) (fx:ji0 x=true):∀{xs:List V} {us:List Af},Vals xs us->xs.all ji0=true->∀u∈us,SeqAt.EqAt A s u v (eqU x u)
 |_,_,.nil,_=>λu hu=>by cases hu
 |y::xs,u::us,.cons r t,f=>λu' hu=>by
  rw[List.all_cons,Cj]at f;rcases As.mp hu with rfl | hu
  ·rw[j1t r f.1];exact j1u r rx f.1 fx
  ·exact jgw rx fx t f.2 u' hu
def inV (x:V) (xs:List V):Bool:=xs.any λy=>eqV y x
def rIn (K:Ai) (neg:Bool):R2:=λx y H Q=>∃p xs,y=.ref p/\(SqL K H p xs\/SqT K H p xs)/\ji0 x=true/\xs.all ji0=true/\Q (.bl (if neg then !inV x xs else inV x xs)) H
theorem jv9:OpR X (Bu .In) (rIn X.K false):=by
 intro pins s σ H x y v u Q I rx ry h;obtain⟨p,xs,rfl,hq,fx,fs,q⟩:=h;cases ry;rcases hq with hq | hq
 ·obtain⟨its,r,pl,hz⟩:=I.list hq;refine SeqAt.in_listAt (eqU x) pl.isList (λw hw=>jgw rx fx r fs w (by simpa using hw)) ⟨.bl _,H,I,rfl,?_⟩;rw[show its.toArray.any (eqU x)=its.any (eqU x) by simp,jk0 r fs];exact q
 ·obtain⟨its,r,pl,hz⟩:=I.tuple hq;refine SeqAt.in_tupleAt (eqU x) pl (λw hw=>jgw rx fx r fs w (by simpa using hw)) ⟨.bl _,H,I,rfl,?_⟩;rw[show its.toArray.any (eqU x)=its.any (eqU x) by simp,jk0 r fs];exact q
theorem jpq:OpR X (Bu .NotIn) (rIn X.K true):=by
 intro pins s σ H x y v u Q I rx ry h;obtain⟨p,xs,rfl,hq,fx,fs,q⟩:=h;cases ry;rcases hq with hq | hq
 ·obtain⟨its,r,pl,hz⟩:=I.list hq;refine SeqAt.notIn_listAt (eqU x) pl.isList (λw hw=>jgw rx fx r fs w (by simpa using hw)) ⟨.bl _,H,I,rfl,?_⟩;rw[show its.toArray.any (eqU x)=its.any (eqU x) by simp,jk0 r fs];exact q
 ·obtain⟨its,r,pl,hz⟩:=I.tuple hq;refine SeqAt.notIn_tupleAt (eqU x) pl (λw hw=>jgw rx fx r fs w (by simpa using hw)) ⟨.bl _,H,I,rfl,?_⟩;rw[show its.toArray.any (eqU x)=its.any (eqU x) by simp,jk0 r fs];exact q
theorem jdq:CallR X (.builtin "len") (λxs H Q=>∃p ys,xs=[.ref p]/\(SqL X.K H p ys\/SqT X.K H p ys)/\Q (.int ys.length) H):=by
 intro pins s σ H xs us Q I r h;obtain⟨p,ys,rfl,hq,q⟩:=h;obtain⟨u,rfl,rx⟩:=jni r;cases rx;have hn:=jm1;rcases hq with hq | hq
 ·obtain⟨its,r',pl,hz⟩:=I.list hq;have hlen:=r'.length;exact Calls.call_len_list pl.isList (by simp only[A3]<;>omega) ⟨.int ys.length,H,I.tok _,⟨s.toks+1,by rw[A3,hlen]⟩,q⟩
 ·obtain⟨its,r',pl,hz⟩:=I.tuple hq;have hlen:=r'.length;exact len_tuple pl (by simp only[A3]<;>omega) ⟨.int ys.length,H,I.tok _,⟨s.toks+1,by rw[A3,hlen]⟩,q⟩
theorem call_len_str:CallR X (.builtin "len") (λxs H Q=>∃z,xs=[.str z]/\z.length<=A1/\Q (.int z.length) H):=by
 intro pins s σ H xs us Q I r h;obtain⟨z,rfl,hz,q⟩:=h;obtain⟨u,rfl,t,rfl⟩:=jni r;have hn:=jm1;exact len_str (by omega) ⟨.int z.length,H,I.tok _,⟨_,rfl⟩,q⟩
theorem CallR.or {f:Af} {r r':List V->Hp->VK->Prop} (h:CallR X f r) (h':CallR X f r'):CallR X f (λxs H Q=>r xs H Q\/r' xs H Q):=by
 intro pins s σ H xs us Q I rs q;rcases q with q | q
 ·exact h pins s σ H xs us Q I rs q
 ·exact h' pins s σ H xs us Q I rs q
theorem jqi:CallR X (.type "list") (λxs H Q=>∃p ys,xs=[.ref p]/\(SqL X.K H p ys\/SqT X.K H p ys)/\∀l,H l=none->Q (.ref l) (upd H l (.lst ys))):=by
 intro pins s σ H xs us Q I r h;obtain⟨p,ys,rfl,hq,q⟩:=h;obtain⟨u,rfl,rx⟩:=jni r;cases rx;have fin:∀(its:List Af),Vals ys its->ys.length<=A1->∀(h':Heap) (c':Nat),(∀b o',s.heap.get? b=some o'->h'.get? b=some o') ->
   h'.get? s.heap.objs.size=some {cls:=.type "list",dict:=none,data:=.seq its.toArray c',slots:=#[]}->EP X pins σ Q (.ref s.heap.objs.size) {s with heap:=h'}:=λits r' hz h' c' kp e =>
  ⟨.ref s.heap.objs.size,_,I.laid (t':=s.toks) kp (An _) (show ObjOk X.prog X.w _ h' _ (.lst ys)from⟨hz,its,c',r',e⟩),rfl,q _ (I.hok.fresh (An _))⟩
 rcases hq with hq | hq
 ·obtain⟨its,r',pl,hz⟩:=I.list hq;have hlen:=r'.length;obtain⟨o,ho,hc,n,hd⟩:=pl.isList;exact call_list_seq p (.inl rfl) ho hc hd (λh' c' kp e=>fin its r' hz h' c' kp e) (by simp only[A3]<;>omega)
 ·obtain⟨its,r',pl,hz⟩:=I.tuple hq;have hlen:=r'.length;obtain⟨o,ho,hc,n,hd⟩:=pl;exact call_list_seq p (.inr rfl) ho hc hd (λh' c' kp e=>fin its r' hz h' c' kp e) (by simp only[A3]<;>omega)
theorem jos:CallR X (.type "tuple") (λxs H Q=>∃p ys,xs=[.ref p]/\((SqL X.K H p ys/\∀l,H l=none->Q (.ref l) (upd H l (.tup ys)))\/(SqT X.K H p ys/\Q (.ref p) H))):=by
 intro pins s σ H xs us Q I r h;obtain⟨p,ys,rfl,h⟩:=h;obtain⟨u,rfl,rx⟩:=jni r;cases rx;rcases h with⟨hq,q⟩ | ⟨hq,q⟩
 ·obtain⟨its,r',pl,hz⟩:=I.list hq;have hlen:=r'.length;refine call_tuple_list pl.isList (λh' kp=>?_) (by simp only[A3]<;>omega);have I1:Inv X pins σ H {s with heap:=h'}:=I.kept (t':=s.toks) kp;have I2:Inv X pins σ (upd H h'.objs.size (.tup ys)) {s with heap:=h'.push {cls:=.type "tuple",data:=.seq its.toArray}} :=
   I1.laid (t':=s.toks) (λb o e=>Ae _ e) (An _) (show ObjOk X.prog X.w _ _ _ (.tup ys)from⟨hz,its,r',IsTupP.new _ _⟩)
  exact⟨.ref h'.objs.size,_,I2,rfl,q _ (I1.hok.fresh (An _))⟩
 ·obtain⟨its,r',pl,hz⟩:=I.tuple hq;exact call_tuple_same pl ⟨.ref p,H,I,rfl,q⟩
def tyV (K:Ai) (T:String) (x:V) (H:Hp):Prop:=match x with
 |.str _=>T="str"
 |.int _=>T="int"
 |.ref p=>(T="list"/\∃xs,SqL K H p xs)\/(T="tuple"/\∃o,K.lookup p=some o/\o.cls=.type "tuple"/\o.dict=none) \/
   (T="dict"/\((∃kvs,H p=some (.dK kvs))\/∃kvs,H p=some (.dT kvs)))\/(T="set"/\∃S n,H p=some (.set S n))
 |_=>False
theorem j0s {pins:List (Addr×Obj)} {σ:St} {H:Hp} {s:Ak} {T:String} {x:V} {v:Af} (I:Inv X pins σ H s) (r:RelV x v) (ty:tyV X.K T x H) :
  s.TypeIs v T/\∀a,v=.ref a->∃ob,s.heap.get? a=some ob/\ob.dict=none:=by
 cases x with
 |str z =>
  obtain⟨t,rfl⟩:=r;cases(show T="str" from ty);exact⟨typeIs_str s z t,λ_ e=>nomatch e⟩
 |int i =>
  obtain⟨t,rfl⟩:=r;cases(show T="int" from ty);exact⟨typeIs_int s i t,λ_ e=>nomatch e⟩
 |ref p =>
  cases r;rcases ty with⟨rfl,xs,hq⟩ | ⟨rfl,o,hk,hc,hd⟩ | ⟨rfl,hk⟩ | ⟨rfl,S,n,hk⟩
  ·obtain⟨its,_,pl,_⟩:=I.list hq;refine⟨pl.isList.typeIs,λa e=>?_⟩;cases e;obtain⟨o,n,e,c,hd,_⟩:=pl;exact⟨o,e,hd⟩
  ·refine⟨⟨o,I.kIn p o hk,hc⟩,λa e=>?_⟩;cases e;exact⟨o,I.kIn _ o hk,hd⟩
  ·have z:∃o,s.heap.get? p=some o/\o.ExactDict:=by
    rcases hk with⟨kvs,hk⟩ | ⟨kvs,hk⟩
    ·obtain⟨_,_,_,_,o,_,_,e,ex,_⟩:=I.hok p _ hk;exact⟨o,e,ex⟩
    ·obtain⟨_,_,_,_,o,_,_,e,ex,_⟩:=I.hok p _ hk;exact⟨o,e,ex⟩
   obtain⟨o,e,ex⟩:=z;refine⟨⟨o,e,ex.1⟩,λa e2=>?_⟩;cases e2;exact⟨o,e,ex.2.1⟩
  ·obtain⟨o,_,_,_,e,ex,_⟩:=I.hok p _ hk;refine⟨⟨o,e,ex.1⟩,λa e2=>?_⟩;cases e2;exact⟨o,e,ex.2.1⟩
 |_=>exact False.elim ty
def tBM0 (K:Ai) (T:String) (r:V->List V->Hp->VK->Prop) (to:TE):TE:=λσ H Q=>to σ H λx H1=>tyV K T x H1/\r x [] H1 Q
def tBM (K:Ai) (T:String) (r:V->List V->Hp->VK->Prop) (to:TE) (t:TA):TE:=λσ H Q=>to σ H λx H1=>tyV K T x H1/\t σ H1 λxs H2=>r x xs H2 Q
variable {o e:Expr} {es:List Expr} {to:TE} {t:TA} {name:Str} {apos cpos:Pos} {T id:String} {r:V->List V->Hp->VK->Prop}
theorem j56 (pa:PlainAttrs T) (slot:Slot T name id) (hty:typeOf (.builtin id)=pure (.type "method_descriptor")) (hm:MtR X id r) (ho:PE X o to)
  (hbase:Ff o name X.env (eval o X.env)=eval o X.env:=by rfl) (hline:(apos.endLine==cpos.line)=true:=by rfl):PE X (.Call (.Attribute o name apos) [] [] cpos) (tBM0 X.K T r to):=by
 intro pins s σ H Q I h;refine wpAny_Call_method0_late hbase hline (thn (ho pins s σ H _ I h) λv s1 ⟨x,H1,I1,r1,ty,q1⟩=>?_);obtain⟨h1,h2⟩:=j0s I1 r1 ty;exact⟨T,id,pa,slot,hty,h1,h2,Calls.callWith_builtin rfl (PySem.evalArgs_none (hm pins s1 σ H1 x [] v [] Q I1 r1 .nil q1))⟩
theorem j28 (pa:PlainAttrs T) (slot:Slot T name id) (hty:typeOf (.builtin id)=pure (.type "method_descriptor")) (hm:MtR X id r) (ho:PE X o to) (ha:PA X (e::es) t)
  (hbase:Ff o name X.env (eval o X.env)=eval o X.env:=by rfl)
  (hfew:((Cz cpos (Az (e::es) X.env)).all (λx=>!x.1)&&(backToKw cpos (keywordEach [] X.env)).all (λx=>x.1.isSome)
   && decide ((e::es).length+([]:List Keyword).length+(if ([]:List Keyword).isEmpty then 0 else 1) < 30))=true:=by rfl)
  (hline:(apos.endLine==cpos.line)=true:=by rfl) (hs:Az (e::es) X.env=(false,eval e X.env)::Az es X.env:=by rfl) (hplain:(Cz cpos (Az es X.env)).any (·.1)=false:=by rfl) :
  PE X (.Call (.Attribute o name apos) (e::es) [] cpos) (tBM X.K T r to t):=by
 intro pins s σ H Q I h;refine wpAny_Call_method_late hbase hfew hline rfl (thn (ho pins s σ H _ I h) λv s1 ⟨x,H1,I1,r1,ty,q1⟩=>?_);obtain⟨h1,h2⟩:=j0s I1 r1 ty;refine⟨T,id,pa,slot,hty,h1,h2,?_⟩;have hA:=ha cpos pins s1 σ H1 _ I1 q1;rw[hs]at hA ⊢;refine Calls.callWith_builtin (by show(false || (Cz cpos (Az es X.env)).any (·.1))=false;rw[hplain]<;>rfl) (Calls.evalArgs_plain ?_);exact thn hA λus s2 ⟨vs,H2,I2,r2,q2⟩=>hm pins s2 σ H2 x vs v us Q I2 r1 r2 q2
end
def MtM (X:Cx) (id:String) (r:V->List V->Hp->VK->Prop):Prop :=
 ∀(pins:List (Addr×Obj)) (s:Ak) (σ:St) (H:Hp) (x:V) (xs:List V) (v:Af) (us:List Af) (Q:VK),Inv X pins σ H s->RelV x v->Vals xs us->r x xs H Q ->
  A4 (Ba X.prog X.w) X.A (call (.builtin id) (v::us)) (EP X pins σ Q) X.xe s
theorem Vals.one:∀{x:V} {us:List Af},Vals [x] us->∃u,us=[u]/\RelV x u
 |_,_,.cons r .nil=>⟨_,rfl,r⟩
theorem Vals.zero:∀{us:List Af},Vals [] us->us=[]
 |_,.nil=>rfl
section
variable {X:Cx} {pins:List (Addr×Obj)} {σ:St} {H:Hp} {s:Ak} {l b:Addr} {xs ys zs:List V}
theorem Inv.lset {its its':List Af} {n:Nat} {f:Array Af->Array Af} {t':Nat} (I:Inv X pins σ H s) (hH:H l=some (.lst xs))
  (e:s.heap.get? l=some {cls:=.type "list",data:=.seq its.toArray n}) (hf:f its.toArray=its'.toArray) (hv:Vals ys its') (hz:ys.length<=A1) :
  Inv X pins σ (upd H l (.lst ys)) {s with heap:=s.heap.update l (Cg f),toks:=t'}:=by
 have q:=PySem.IsL.update e f;rw[hf]at q;refine I.write (x:=l) (e:=l) (by rw[hH];exact trivial) (.inl rfl) (λb' u hb hu=>(Dh s.heap (Cg f) (Ne.symm hb)).trans hu) ⟨_,q⟩ ?_;exact⟨hz,its',_,hv,q⟩
theorem Inv.lnew {its:List Af} {t':Nat} (I:Inv X pins σ H s) (hv:Vals ys its) (hz:ys.length<=A1) :
  Inv X pins σ (upd H s.heap.objs.size (.lst ys)) {s with heap:=s.heap.push {cls:=.type "list",data:=.seq its.toArray},toks:=t'} :=
 I.laid (λ_ _ q=>Ae _ q) (An _) ⟨hz,its,0,hv,A2 _ rfl⟩
theorem Inv.fresh (I:Inv X pins σ H s):H s.heap.objs.size=none:=I.hok.fresh (An _)
theorem Inv.lstM (I:Inv X pins σ H s) (hH:H l=some (.lst xs)):xs.length<=A1/\∃(its:List Af) (n:Nat),Vals xs its/\xs.length=its.length/\s.heap.get? l=some {cls:=.type "list",data:=.seq its.toArray n}:=by
 obtain⟨z,its,n,r,e⟩:=I.hok l _ hH;exact⟨z,its,n,r,r.length,e⟩
theorem jzf {n:Nat} (h:n<=A1):Ga n=false:=by
 unfold Ga;exact decide_eq_false (by omega)
end
section
variable {X:Cx}
def jvv:V->List V->Hp->VK->Prop:=λx vs H Q=>∃l xs y,x=.ref l/\vs=[y]/\H l=some (.lst xs)/\xs.length < A1/\Q .non (upd H l (.lst (xs++[y])))
theorem jj2:MtM X "list.append" jvv:=by
 intro pins s σ H x vs v us Q I rx rv h;obtain⟨l,xs,y,rfl,rfl,hH,hz,q⟩:=h;cases rx;obtain⟨u,rfl,ru⟩:=rv.one;obtain⟨z,its,n,r,hl,e⟩:=I.lstM hH;refine call_meets F.slot_list_append ⟨_,e,rfl⟩ F.entry_list_append (F.args_list_append_2 _ _) (PySem.list_append l its.toArray n u (by rw[A3];omega)) ⟨e,?_⟩;refine⟨.non,_,I.lset (its':=its++[u]) hH e (by simp) (r.append (.cons ru .nil)) ?_,rfl,q⟩;rw[Ah,Aq];omega
def jvu:V->List V->Hp->VK->Prop:=λx vs H Q=>∃l b xs zs,x=.ref l/\vs=[.ref b]/\H l=some (.lst xs)/\H b=some (.lst zs)/\xs.length+zs.length<=A1/\Q .non (upd H l (.lst (xs++zs)))
theorem jwf:MtM X "list.extend" jvu:=by
 intro pins s σ H x vs v us Q I rx rv h;obtain⟨l,b,xs,zs,rfl,rfl,hH,hB,hz,q⟩:=h;cases rx;obtain⟨u,rfl,ru⟩:=rv.one;cases ru;obtain⟨z,its,n,r,hl,e⟩:=I.lstM hH;obtain⟨z2,its2,n2,r2,hl2,e2⟩:=I.lstM hB;have hsz:its.toArray.size+its2.toArray.size<=A1:=by rw[A3,A3];omega
 have hlong:¬(!its.toArray.isEmpty&&Ga (its.toArray.size+its2.toArray.size))=true:=by
  rw[jzf hsz,Bool.and_false];exact Ag
 refine call_meets F.slot_list_extend ⟨_,e,rfl⟩ F.entry_list_extend (F.args_list_extend_2 _ _)
  (AutoSeq1.list_extend_list_list_0 l its.toArray n b its2.toArray n2 hlong (by rw[A3];omega) (by omega)) ⟨e,e2,?_⟩
 refine⟨.non,_,I.lset (its':=its++its2) hH e (by simp) (r.append r2) ?_,rfl,q⟩;rw[Ah];omega
def rCat:R2:=λx y H Q=>∃l b xs zs,x=.ref l/\y=.ref b/\H l=some (.lst xs)/\H b=some (.lst zs)/\xs.length+zs.length<=A1/\∀p,H p=none->Q (.ref p) (upd H p (.lst (xs++zs)))
theorem jwc:OpR X (Ec .Add) rCat:=by
 intro pins s σ H x y v u Q I rx ry h;obtain⟨l,b,xs,zs,rfl,rfl,hH,hB,hz,q⟩:=h;cases rx;cases ry;obtain⟨z,its,n,r,hl,e⟩:=I.lstM hH;obtain⟨z2,its2,n2,r2,hl2,e2⟩:=I.lstM hB;refine PySem.P.add_list e e2 ?_ (by rw[A3,A3];omega);have ea:its.toArray++its2.toArray=(its++its2).toArray:=by simp
 rw[ea];exact⟨.ref _,_,I.lnew (t':=s.toks) (r.append r2) (by rw[Ah];omega),rfl,q _ I.fresh⟩
end
section
variable {κ:Type} [DecidableEq κ]
def valV (kvs:List (κ×V)) (k:κ):Option V:=(kvs.find? λkv=>decide (kv.1=k)).map (·.2)
def putK (kvs:List (κ×V)) (k:κ) (v:V):List (κ×V) :=
 if (kvs.any λkv=>decide (kv.1=k))=true then kvs.map (λkv=>if kv.1=k then(kv.1,v)else kv)else kvs++[(k,v)]
theorem jnj {p:κ×V} {r:List (κ×V)} {k:κ} (e:p.1=k):valV (p::r) k=some p.2:=by simp[valV,Bk,e]
theorem jnk {p:κ×V} {r:List (κ×V)} {k:κ} (e:¬p.1=k):valV (p::r) k=valV r k:=by simp[valV,Bk,e]
theorem jr4 (k:κ):∀kvs:List (κ×V),(kvs.any λkv=>decide (kv.1=k))=(valV kvs k).isSome
 |[]=>rfl
 |p::r=>by
  rw[Co];by_cases e:p.1=k
  ·simp only[jnj e,decide_eq_true e,Bool.true_or,Option.isSome_some]
  ·rw[jnk e,decide_eq_false e,Bool.false_or];exact jr4 k r
theorem jc9 (kvs:List (κ×V)) (k:κ) (v:V):(putK kvs k v).length<=kvs.length+1:=by
 unfold putK
 split
 ·rw[Ab];omega
 ·rw[Ah,Ar,List.length_nil];omega
theorem RelO.isSome_eq {o:Option V} {u:Option Af} (r:RelO o u):o.isSome=u.isSome:=by
 cases o with
 |none=>cases u with
  |none=>rfl
  |some _=>exact(show False from r).elim
 |some _=>cases u with
  |none=>exact(show False from r).elim
  |some _=>rfl
theorem RelO.getD {o:Option V} {u:Option Af} {d:V} {d':Af} (r:RelO o u) (rd:RelV d d'):RelV (o.getD d) (u.getD d'):=by
 cases o with
 |none=>cases u with
  |none=>exact rd
  |some _=>exact(show False from r).elim
 |some _=>cases u with
  |none=>exact(show False from r).elim
  |some _=>exact r
theorem KV.val {kvs:List (κ×V)} {vs:List (κ×Af)} (r:KV kvs vs) (k:κ):RelO (valV kvs k) (valueAt vs k):=by
 unfold KV at r
 induction r with
 |nil=>exact Dv
 |@cons p q ps qs h t ih =>
  obtain⟨h1,h2⟩:=h;by_cases e:p.1=k
  ·have e':q.1=k:=h1.symm.trans e;have b:valueAt (q::qs) k=some q.2:=by simp[valueAt,Bk,e']
   rw[jnj e,b];exact h2
  ·have e':¬q.1=k:=λz=>e (h1.trans z);have b:valueAt (q::qs) k=valueAt qs k:=by simp[valueAt,Bk,e']
   rw[jnk e,b];exact ih
theorem KV.any {kvs:List (κ×V)} {vs:List (κ×Af)} (r:KV kvs vs) (k:κ):(kvs.any λkv=>decide (kv.1=k))=vs.any λkv=>decide (kv.1=k):=by
 unfold KV at r
 induction r with
 |nil=>rfl
 |cons h t ih=>rw[Co,Co,ih,h.1]
theorem KV.repl {kvs:List (κ×V)} {vs:List (κ×Af)} (r:KV kvs vs) (k:κ) {y:V} {u:Af} (ry:RelV y u) :
  KV (kvs.map λkv=>if kv.1=k then(kv.1,y)else kv) (vs.map λkv=>if kv.1=k then(kv.1,u)else kv):=by
 unfold KV at r ⊢
 induction r with
 |nil=>exact .nil
 |@cons p q ps qs h t ih =>
  rw[Bi,Bi];refine .cons ?_ ih;obtain⟨h1,h2⟩:=h;by_cases e:p.1=k
  ·rw[if_pos e,if_pos (h1.symm.trans e)];exact⟨h1,ry⟩
  ·rw[if_neg e,if_neg (λz=>e (h1.trans z))];exact⟨h1,h2⟩
theorem KV.put {kvs:List (κ×V)} {vs:List (κ×Af)} (r:KV kvs vs) (k:κ) {y:V} {u:Af} (ry:RelV y u):KV (putK kvs k y) (stored vs k u):=by
 unfold putK stored;rw[r.any k];by_cases e:(vs.any λkv=>decide (kv.1=k))=true
 ·rw[if_pos e,if_pos e];exact r.repl k ry
 ·rw[if_neg e,if_neg e];exact Paired.snoc r ⟨rfl,ry⟩
theorem KV.length {kvs:List (κ×V)} {vs:List (κ×Af)} (r:KV kvs vs):kvs.length=vs.length:=Paired.length r
end
theorem jpz {P:Bg} {w:Br} {k:Key} {u:Af} (r:RelV (kV k) u):(jbr P w).is k u=true:=by
 cases k with
 |inl i=>obtain⟨t,e⟩:=(show ∃t,u=Value.int i t from r);subst e;exact jrf P w i t
 |inr x=>obtain⟨t,e⟩:=(show ∃t,u=Value.str x t from r);subst e;exact jre P w x t
theorem jp1 {P:Bg} {w:Br}:∀{ks:List Key} {us:List Af},Vals (ks.map kV) us->ItemsAre (jbr P w) ks us
 |[],_,r=>by rw[Fh]at r;cases r;exact .nil
 |k::ks,_,r=>by
  rw[Bi]at r;cases r with
  |cons h t=>exact .cons (jpz h) (jp1 t)
abbrev KT (H:Hp):List (List Key×V)->List (List Key×Addr×Af)->Prop:=Paired λp q=>p.1=q.1/\H q.2.1=some (.tup (p.1.map kV))/\RelV p.2 q.2.2
theorem KT.val {H:Hp} {kvs:List (List Key×V)} {xs:List (List Key×Addr×Af)} (r:KT H kvs xs) (k:List Key):RelO (valV kvs k) ((atKey xs k).map (·.2)):=by
 induction r with
 |nil=>exact Dv
 |@cons p q ps qs h t ih =>
  obtain⟨h1,_,h2⟩:=h;by_cases e:p.1=k
  ·have e':q.1=k:=h1.symm.trans e;have b:atKey (q::qs) k=some q.2:=by simp[atKey,Bk,e']
   rw[jnj e,b];exact h2
  ·have e':¬q.1=k:=λz=>e (h1.trans z);have b:atKey (q::qs) k=atKey qs k:=by simp[atKey,Bk,e']
   rw[jnk e,b];exact ih
theorem KT.repl {H:Hp} {kvs:List (List Key×V)} {xs:List (List Key×Addr×Af)} (r:KT H kvs xs) (k:List Key) {y:V} {u:Af} (ry:RelV y u) :
  KT H (kvs.map λkv=>if kv.1=k then(kv.1,y)else kv) (xs.map (putAt k u)):=by
 induction r with
 |nil=>exact .nil
 |@cons p q ps qs h t ih =>
  rw[Bi,Bi];refine .cons ?_ ih;obtain⟨h1,h2,h3⟩:=h;unfold putAt;by_cases e:p.1=k
  ·rw[if_pos e,if_pos (h1.symm.trans e)];exact⟨h1,h2,ry⟩
  ·rw[if_neg e,if_neg (λz=>e (h1.trans z))];exact⟨h1,h2,h3⟩
theorem KT.put {H:Hp} {kvs:List (List Key×V)} {xs:List (List Key×Addr×Af)} (r:KT H kvs xs) (k:List Key) {b:Addr} {y:V} {u:Af} (hb:H b=some (.tup (k.map kV))) (ry:RelV y u) :
  KT H (putK kvs k y) (storedH xs k b u):=by
 have e:(kvs.any λkv=>decide (kv.1=k))=(atKey xs k).isSome:=by
  rw[jr4,(r.val k).isSome_eq,Option.isSome_map]
 unfold putK storedH;rw[e];by_cases q:(atKey xs k).isSome=true
 ·rw[if_pos q,if_pos q];exact r.repl k ry
 ·rw[if_neg q,if_neg q];exact Paired.snoc r ⟨rfl,hb,ry⟩
theorem KT.keeps {H H':Hp} {kvs:List (List Key×V)} {xs:List (List Key×Addr×Af)} (r:KT H kvs xs) (ht:∀b ys,H b=some (.tup ys)->H' b=some (.tup ys)):KT H' kvs xs :=
 Paired.mapP r λ_ _ z=>⟨z.1,ht _ _ z.2.1,z.2.2⟩
section
variable {P:Bg} {w:Br} {H:Hp} {h:Heap} {a:Addr}
theorem j5q {u:HO} (ok:HOk P w H h) (e:Rd H a u):ObjOk P w H h a u:=e.ok ok
theorem jrq {kvs:List (Key×V)} (ok:HOk P w H h) (e:Rd H a (.dK kvs)):kvs.length<=A1/\(a==Eh)=false/\∃vs,KV kvs vs/\h.DictOf (jbr P w) a vs :=
 show ObjOk P w H h a (.dK kvs)from j5q ok e
theorem j32 {kvs:List (Key×V)} (ok:HOk P w H h) (e:H a=some (.dK kvs)):kvs.length<=A1/\(a==Eh)=false/\∃vs,KV kvs vs/\h.DictOf (jbr P w) a vs:=jrq ok (.inl e)
theorem jm4 {ks:List Key} (ok:HOk P w H h) (e:H a=some (.tup (ks.map kV))):(tupleKind (jbr P w)).is h ks a:=by
 obtain⟨_,its,r,o,h1,h2,⟨n,h3⟩,_⟩:=(show ObjOk P w H h a (.tup (ks.map kV))from ok a _ e);exact⟨o,its.toArray,n,h1,h2,h3,by simpa using jp1 r⟩
theorem jrp {kvs:List (List Key×V)} (ok:HOk P w H h) (e:Rd H a (.dT kvs)):kvs.length<=A1/\(a==Eh)=false /\
  ∃xs,KT H kvs xs/\h.DictOfH (tupleKind (jbr P w)) a xs:=by
 obtain⟨z,y,xs,r,o,es,ep,h1,h2,h3,h4,h5⟩:=(show ObjOk P w H h a (.dT kvs)from j5q ok e);refine⟨z,y,xs,r,o,es,ep,h1,h2,h3,h4,λx hx=>?_,h5⟩;have all:∀{l:List (List Key×V)} {m:List (List Key×Addr×Af)},KT H l m->∀x∈m,(tupleKind (jbr P w)).is h x.1 x.2.1:=by
  intro l m q
  induction q with
  |nil=>intro x hx;exact nomatch hx
  |@cons p q ps qs hq t ih =>
   intro x hx;rcases As.mp hx with e | hx
   ·subst e;exact jm4 ok (by rw[<-hq.1];exact hq.2.1)
   ·exact ih x hx
 exact all r x hx
theorem j8z {kvs:List (List Key×V)} (ok:HOk P w H h) (e:H a=some (.dT kvs)):kvs.length<=A1/\(a==Eh)=false /\
  ∃xs,KT H kvs xs/\h.DictOfH (tupleKind (jbr P w)) a xs:=jrp ok (.inl e)
end
def DGet (H:Hp) (a:Addr) (y:V) (r:Option V):Prop :=
 (∃kvs k,Rd H a (.dK kvs)/\y=kV k/\r=valV kvs k)\/∃kvs k b,Rd H a (.dT kvs)/\y=.ref b/\H b=some (.tup (k.map kV))/\r=valV kvs k
def DPut (H:Hp) (a:Addr) (y v:V) (H':Hp):Prop :=
 (∃kvs k,H a=some (.dK kvs)/\y=kV k/\kvs.length < A1/\H'=upd H a (.dK (putK kvs k v))) \/
 ∃kvs k b,H a=some (.dT kvs)/\y=.ref b/\H b=some (.tup (k.map kV))/\kvs.length < A1/\H'=upd H a (.dT (putK kvs k v))
theorem DGet.t {H:Hp} {a b:Addr} {kvs:List (List Key×V)} {k:List Key} (e:H a=some (.dT kvs)) (eb:H b=some (.tup (k.map kV))):DGet H a (.ref b) (valV kvs k):=.inr ⟨kvs,k,b,.inl e,rfl,eb,rfl⟩
theorem DPut.k {H:Hp} {a:Addr} {kvs:List (Key×V)} {k:Key} {v:V} (e:H a=some (.dK kvs)) (hl:kvs.length < A1):DPut H a (kV k) v (upd H a (.dK (putK kvs k v))):=.inl ⟨kvs,k,e,rfl,hl,rfl⟩
theorem DPut.t {H:Hp} {a b:Addr} {kvs:List (List Key×V)} {k:List Key} {v:V} (e:H a=some (.dT kvs)) (eb:H b=some (.tup (k.map kV))) (hl:kvs.length < A1) :
  DPut H a (.ref b) v (upd H a (.dT (putK kvs k v))):=.inr ⟨kvs,k,b,e,rfl,eb,hl,rfl⟩
section
variable {X:Cx} {pins:List (Addr×Obj)} {σ:St} {H:Hp} {s:Ak} {a:Addr} {y v:V} {u r:Af} {o:Option V} {A:B4} {E:Af->Ak->Prop}
theorem Inv.big (I:Inv X pins σ H s):Eh < s.heap.objs.size:=by
 have h:Cp < s.heap.objs.size:=(I.mod.glob.keeps I.bk).lt;exact Nat.lt_trans (by decide) h
theorem jxf {Q:Af->Ak->Prop} (hu:A.units+1 < Ef) (I:Inv X pins σ H s) (g:DGet H a y (some v)) (ry:RelV y u) (h:∀w' s',Inv X pins σ H s'->RelV v w'->Q w' s') :
  A4 (Ba X.prog X.w) A (getItem (.ref a) u) Q E s:=by
 rcases g with⟨kvs,k,e,ey,l⟩ | ⟨kvs,k,b,e,ey,eb,l⟩
 ·subst ey;obtain⟨z,hd,vs,rel,dd⟩:=jrq I.hok e;obtain⟨w',hw,rw'⟩:=RelO.some_of (v:=v) (o:=valueAt vs k) (by rw[l];exact rel.val k);exact wpAny_getItem_of (jpz ry) dd.mapOf hw (h w' _ (I.tok _) rw')
 ·subst ey;cases(show u=A7 b from ry);obtain⟨z,hd,xs,rel,dd⟩:=jrp I.hok e;obtain⟨w',hw,rw'⟩:=RelO.some_of (v:=v) (o:=(atKey xs k).map (·.2)) (by rw[l];exact rel.val k);obtain⟨p,hp,hp2⟩:=Option.map_eq_some_iff.mp hw;refine wpAny_getItem_heap (Fk hu) (jm4 I.hok eb) dd hp ?_;rw[hp2];exact h w' _ (I.tok _) rw'
theorem d_in {Q:Af->Ak->Prop} (hu:A.units+1 < Ef) (I:Inv X pins σ H s) (g:DGet H a y o) (ry:RelV y u) (h:∀s',Inv X pins σ H s'->Q (.bool o.isSome) s') :
  A4 (Ba X.prog X.w) A (Bu .In u (.ref a)) Q E s:=by
 rcases g with⟨kvs,k,e,ey,l⟩ | ⟨kvs,k,b,e,ey,eb,l⟩
 ·subst ey;obtain⟨z,hd,vs,rel,dd⟩:=jrq I.hok e;refine wpAny_in_of (jpz ry) hd dd.mapOf ?_;rw[<-(rel.val k).isSome_eq,<-l];exact h _ (I.tok _)
 ·subst ey;cases(show u=A7 b from ry);obtain⟨z,hd,xs,rel,dd⟩:=jrp I.hok e;refine wpAny_in_heap (Fk hu) (jm4 I.hok eb) hd dd ?_;have q:=(rel.val k).isSome_eq;rw[Option.isSome_map]at q;rw[<-q,<-l];exact h _ (I.tok _)
theorem j35 {Q:Af->Ak->Prop} (hu:A.units+1 < Ef) (I:Inv X pins σ H s) (g:DGet H a y o) (ry:RelV y u) (h:∀s',Inv X pins σ H s'->Q (.bool (!o.isSome)) s') :
  A4 (Ba X.prog X.w) A (Bu .NotIn u (.ref a)) Q E s:=by
 rcases g with⟨kvs,k,e,ey,l⟩ | ⟨kvs,k,b,e,ey,eb,l⟩
 ·subst ey;obtain⟨z,hd,vs,rel,dd⟩:=jrq I.hok e;refine wpAny_notIn_of (jpz ry) hd dd.mapOf ?_;rw[<-(rel.val k).isSome_eq,<-l];exact h _ (I.tok _)
 ·subst ey;cases(show u=A7 b from ry);obtain⟨z,hd,xs,rel,dd⟩:=jrp I.hok e;refine wpAny_notIn_heap (Fk hu) (jm4 I.hok eb) hd dd ?_;have q:=(rel.val k).isSome_eq;rw[Option.isSome_map]at q;rw[<-q,<-l];exact h _ (I.tok _)
theorem jop {h':Heap} {t':Nat} {ob:HO} (I:Inv X pins σ H s) (mu:Mut (H a)) (hs:Cs a s.heap h') (he:∃q,h'.get? a=some q) (new:ObjOk X.prog X.w (upd H a ob) h' a ob) :
  Inv X pins σ (upd H a ob) {s with heap:=h',toks:=t'} :=
 I.write (x:=a) (e:=a) mu (.inl rfl) (λb q hb z=>(hs.2 b hb).trans z) he new
theorem jw6 {P:Bg} {w:Br} {H':Hp} {h':Heap} {kvs:List (Key×V)} {vs:List (Key×Af)} (z:kvs.length<=A1) (hd:(a==Eh)=false) (rel:KV kvs vs) (dd:h'.DictOf (jbr P w) a vs) :
  ObjOk P w H' h' a (.dK kvs):=⟨z,hd,vs,rel,dd⟩
theorem jxe {H':Hp} {Q:Unit->Ak->Prop} (hu:A.units+1 < Ef) (I:Inv X pins σ H s) (g:DPut H a y v H') (ry:RelV y u) (rv:RelV v r) (h:∀s',Inv X pins σ H' s'->Q () s') :
  A4 (Ba X.prog X.w) A (setItem (.ref a) u r) Q E s:=by
 rcases g with⟨kvs,k,e,ey,l,eH⟩ | ⟨kvs,k,b,e,ey,eb,l,eH⟩
 ·subst ey eH;obtain⟨z,hd,vs,rel,dd⟩:=j32 I.hok e;have hz:vs.length<=A1:=by rw[<-rel.length];exact z
  have hl:(putK kvs k v).length<=A1:=by have:=jc9 kvs k v;omega
  refine wpAny_setItem_pairs (hsz:=hz) (jpz ry) dd λh' dd' hs=>h _ ?_;have he:∃q,h'.get? a=some q:=let⟨q,_,_,hq,_⟩:=dd';⟨q,hq⟩;exact jop I (by rw[e];exact Dv) hs he (jw6 hl hd (rel.put k rv) dd')
 ·subst ey eH;cases(show u=A7 b from ry);obtain⟨z,hd,xs,rel,dd⟩:=j8z I.hok e;have hz:xs.length<=A1:=by rw[<-Paired.length rel];exact z
  have hl:(putK kvs k v).length<=A1:=by have:=jc9 kvs k v;omega
  refine wpAny_setItem_heap (hsz:=hz) (Fk hu) (jm4 I.hok eb) dd λh' dd' hs=>h _ ?_;obtain⟨q,es,ep,hq,h2,h3,h4,_,h5⟩:=dd';refine jop I (by rw[e];exact Dv) hs ⟨q,hq⟩ ⟨hl,hd,_,(rel.put k eb rv).keeps λc ys ec=>?_,q,es,ep,hq,h2,h3,h4,h5⟩;rw[jap (j6j ec e (λz=>nomatch z))];exact ec
end
def NoSl (i:Expr):Prop:=∀ov iv,subscripted i false ov iv=operate [ov,iv] (getItem ov iv)
theorem j2f {prog:Bg} {w:Br} {A:B4} {E:Af->Ak->Prop} {s:Ak} {env:Env} {value slice:Expr} {pos:Pos} {T id:String} {Q:Af->Ak->Prop}
  (hl:typeLookup (.type T) "__getitem__"=pure (some (.builtin id))) (hs:NoSl slice)
  (h:A4 (Ba prog w) A (eval value env) (λo s₁=>A4 (Ba prog w) A (eval slice env) (λi s₂=>s₂.TypeIs o T/\A4 (Ba prog w) A (getItem o i) Q E s₂) E s₁) E s) :
  A4 (Ba prog w) A (eval (.Subscript value slice pos) env) Q E s:=by
 refine Subscript_ (Cu h (λo s₁ h₁=>Cu h₁ (λi s₂ h₂=>?_) λ_ _ x=>x) λ_ _ x=>x);obtain⟨hT,h₂⟩:=h₂;unfold subscriptTail;refine Aa ?_;rw[getitemInPython_of_ne hT.not_modules];refine Aa (wpAny_specialOf hT hl ?_);have fin:A4 (Ba prog w) A (subscripted slice false o i) (λr s₃=>A4 (Ba prog w) A (letTemporaryGo value o r>>=λ_=>pure r) Q E s₃) E s₂:=by
  rw[hs o i];exact wpAny_operating (Cu h₂ (λr s₃ h₃=>Aa (wpAny_letTemporaryGo (Al h₃))) λ_ _ x=>x)
 first
  |exact Al (Aa fin)
  |exact Aa (Al (Aa fin))
  |exact Aa fin
theorem jrr {X:Cx} {pins:List (Addr×Obj)} {σ:St} {H:Hp} {s:Ak} {a:Addr} {y:V} {o:Option V} (I:Inv X pins σ H s) (g:DGet H a y o):s.TypeIs (.ref a) "dict":=by
 rcases g with⟨kvs,k,e,_,_⟩ | ⟨kvs,k,b,e,_,_,_⟩
 ·obtain⟨_,_,vs,_,dd⟩:=jrq I.hok e;exact dd.typeIs
 ·obtain⟨_,_,xs,_,dd⟩:=jrp I.hok e;exact dd.typeIs
def j4y (td ty:TE):TE:=λσ H Q=>td σ H λx H1=>ty σ H1 λy H2=>∃a v,x=.ref a/\DGet H2 a y (some v)/\Q v H2
def tDIn (ty td:TE):TE:=λσ H Q=>ty σ H λy H1=>td σ H1 λx H2=>∃a o,x=.ref a/\DGet H2 a y o/\Q (.bl o.isSome) H2
def jjk (ty td:TE):TE:=λσ H Q=>ty σ H λy H1=>td σ H1 λx H2=>∃a o,x=.ref a/\DGet H2 a y o/\Q (.bl (!o.isSome)) H2
def j2s (td ty tv:TE):TS:=λD σ H=>tv σ H λv H1=>td σ H1 λx H2=>ty σ H2 λy H3=>∃a H4,x=.ref a/\DPut H3 a y v H4/\D.nx σ H4
section
variable {X:Cx} {o i e value:Expr} {pos pos' tpos:Pos} {td ty tv:TE}
theorem j25 (hu:X.A.units+1 < Ef) (ho:PE X o td) (hi:PE X i ty) (hs:NoSl i):PE X (.Subscript o i pos) (j4y td ty):=by
 intro pins s σ H Q I h;refine j2f PySem.F.slot_dict_getitem.lookup hs (thn (ho pins s σ H _ I h) λu s1 ⟨x,H1,I1,rx,q1⟩=>thn (hi pins s1 σ H1 _ I1 q1) λiv s2 ⟨y,H2,I2,ry,a,v,ex,g,q2⟩=>?_);subst ex;obtain rfl:u=A7 a:=rx;exact⟨jrr I2 g,jxf hu I2 g ry λw' s3 I3 rw'=>⟨v,H2,I3,rw',q2⟩⟩
theorem j58 (hu:X.A.units+1 < Ef) (hi:PE X i ty) (ho:PE X o td):PC X .In i o (tDIn ty td):=by
 intro pins s σ H Q I h;refine thn (hi pins s σ H _ I h) λiv s1 ⟨y,H1,I1,ry,q1⟩=>thn (ho pins s1 σ H1 _ I1 q1) λu s2 ⟨x,H2,I2,rx,a,ov,ex,g,q2⟩=>?_;subst ex;obtain rfl:u=A7 a:=rx;exact d_in hu I2 g ry λs3 I3=>⟨.bl ov.isSome,H2,I3,rfl,q2⟩
theorem jpo (hu:X.A.units+1 < Ef) (hi:PE X i ty) (ho:PE X o td):PC X .NotIn i o (jjk ty td):=by
 intro pins s σ H Q I h;refine thn (hi pins s σ H _ I h) λiv s1 ⟨y,H1,I1,ry,q1⟩=>thn (ho pins s1 σ H1 _ I1 q1) λu s2 ⟨x,H2,I2,rx,a,ov,ex,g,q2⟩=>?_;subst ex;obtain rfl:u=A7 a:=rx;exact j35 hu I2 g ry λs3 I3=>⟨.bl (!ov.isSome),H2,I3,rfl,q2⟩
theorem jvy (hu:X.A.units+1 < Ef) (ho:PE X o td) (hi:PE X i ty) (hv:PE X value tv) (hs:Do value (some (.Subscript o i pos')) pos.line X.env=pure false) :
  PS X (.Assign [.Subscript o i pos'] value pos) (j2s td ty tv):=by
 intro pins s σ H D I h;refine wpAny_Assign_Subscript (thn (hv pins s σ H _ I h) λr s1 ⟨v,H1,I1,rv,q1⟩=>thn (ho pins s1 σ H1 _ I1 q1) λu s2 ⟨x,H2,I2,rx,q2⟩=>thn (hi pins s2 σ H2 _ I2 q2) λiv s3 ⟨y,H3,I3,ry,a,H4,ex,g,q3⟩=>?_) hs;subst ex;obtain rfl:u=A7 a:=rx;exact jxe hu I3 g ry rv λs4 I4=>⟨σ,H4,I4,q3⟩
end
theorem jom {P:Bg} {w:Br} {H:Hp} (h:Heap) (hb:Eh < h.objs.size):ObjOk P w H (h.push {cls:=.type "dict",data:=.dict #[]}) h.objs.size (.dK []) :=
 ⟨Bm _,beq_eq_false_iff_ne.mpr (Ne.symm (Bb hb)),[],.nil,Heap.DictOf.new h⟩
theorem jz1 {P:Bg} {w:Br} {H:Hp} (h:Heap) (hb:Eh < h.objs.size):ObjOk P w H (h.push {cls:=.type "dict",data:=.dict #[]}) h.objs.size (.dT []) :=
 ⟨Bm _,beq_eq_false_iff_ne.mpr (Ne.symm (Bb hb)),[],.nil,_,#[],0,A2 _ rfl,⟨rfl,rfl,rfl⟩,rfl,rfl,List.nodup_nil⟩
def j0v:TE:=λ_ H Q=>∀p,H p=none->Q (.ref p) (upd H p (.dK []))
def j0u:TE:=λ_ H Q=>∀p,H p=none->Q (.ref p) (upd H p (.dT []))
section
variable {X:Cx} {pos:Pos}
theorem jy8:PE X (.Dict [] [] pos) j0v:=λpins s σ H Q I h =>
 wpAny_Dict_empty ⟨.ref s.heap.objs.size,_,I.laid (a:=s.heap.objs.size) (o:=.dK []) (t':=s.toks) (λ_ _ q=>Ae _ q) (An _) (jom s.heap I.big),rfl,h _ (I.hok.fresh (An _))⟩
theorem jy7:PE X (.Dict [] [] pos) j0u:=λpins s σ H Q I h =>
 wpAny_Dict_empty ⟨.ref s.heap.objs.size,_,I.laid (a:=s.heap.objs.size) (o:=.dT []) (t':=s.toks) (λ_ _ q=>Ae _ q) (An _) (jz1 s.heap I.big),rfl,h _ (I.hok.fresh (An _))⟩
end
def jr6:List (TE×TE)->St->Hp->(List (V×V)->Hp->Prop)->Prop
 |[],_,H,Q=>Q [] H
 | (tk,tv)::r,σ,H,Q=>tk σ H λx H1=>tv σ H1 λy H2=>jr6 r σ H2 λps H3=>Q ((x,y)::ps) H3
abbrev VV:List (V×V)->List (Af×Af)->Prop:=Paired λp q=>RelV p.1 q.1/\RelV p.2 q.2
def PPs (X:Cx) (pos:Pos) (keys:List (Option Expr)) (values:List Expr) (trs:List (TE×TE)):Prop :=
 ∀(pins:List (Addr×Obj)) (s:Ak) (σ:St) (H:Hp) (Q:List (V×V)->Hp->Prop),Inv X pins σ H s->jr6 trs σ H Q ->
  A4 (Ba X.prog X.w) X.A (evalPairs (pairTrees keys values X.env pos)) (λvs s'=>∃ps H',Inv X pins σ H' s'/\VV ps vs/\Q ps H') X.xe s
theorem j2y {X:Cx} {pos:Pos}:PPs X pos [] [] []:=λpins s σ H Q I h=>pairTrees_nil_walk ⟨[],H,I,.nil,h⟩
theorem jsl {X:Cx} {pos:Pos} {k v:Expr} {ks:List (Option Expr)} {vs:List Expr} {tk tv:TE} {trs:List (TE×TE)} (hk:PE X k tk) (hv:PE X v tv) (hr:PPs X pos ks vs trs) :
  PPs X pos (some k::ks) (v::vs) ((tk,tv)::trs):=λpins s σ H Q I h =>
 pairTrees_cons_walk (thn (hk pins s σ H _ I h) λu s1 ⟨x,H1,I1,rx,q1⟩=>thn (hv pins s1 σ H1 _ I1 q1) λw2 s2 ⟨y,H2,I2,ry,q2⟩ =>
  thn (hr pins s2 σ H2 _ I2 q2) λws s3 ⟨ps,H3,I3,rel,q3⟩=>⟨(x,y)::ps,H3,I3,.cons ⟨rx,ry⟩ rel,q3⟩)
def jeq (kvs more:List (Key×V)):List (Key×V):=more.foldl (λacc kv=>putK acc kv.1 kv.2) kvs
theorem KV.merge:∀{more:List (Key×V)} {rs:List (Key×Af)} {kvs:List (Key×V)} {vs:List (Key×Af)},KV more rs->KV kvs vs->KV (jeq kvs more) (merged vs rs):=by
 intro more rs kvs vs r;unfold KV at r
 induction r generalizing kvs vs with
 |nil=>intro q;exact q
 |@cons p q ps qs h t ih =>
  intro r0;have e:KV (putK kvs p.1 p.2) (stored vs q.1 q.2):=by
   have:=r0.put p.1 h.2;rw[<-h.1];exact this
  exact ih e
theorem jgy:∀(more kvs:List (Key×V)),(jeq kvs more).length<=kvs.length+more.length
 |[],kvs=>by show kvs.length<=kvs.length+0;omega
 |p::r,kvs=>by
  have h1:=jgy r (putK kvs p.1 p.2);have h2:=jc9 kvs p.1 p.2;show(jeq (putK kvs p.1 p.2) r).length<=_;rw[Ar];omega
theorem jna {P:Bg} {w:Br}:∀{kvs:List (Key×V)} {ws:List (Af×Af)},VV (kvs.map λkv=>(kV kv.1,kv.2)) ws->∃rs,Carries (jbr P w) ws rs/\KV kvs rs
 |[],_,r=>by rw[Fh]at r;cases r;exact⟨[],Dv,.nil⟩
 |p::kvs,_,r=>by
  rw[Bi]at r;cases r with
  |@cons a b as bs h t =>
   obtain⟨rs,c,q⟩:=jna (P:=P) (w:=w) t;obtain⟨b1,b2⟩:=b;exact⟨(p.1,b2)::rs,⟨jpz h.1,rfl,c⟩,.cons ⟨rfl,h.2⟩ q⟩
def j4x (trs:List (TE×TE)):TE:=λσ H Q=>∀p,H p=none->jr6 trs σ (upd H p (.dK [])) λps H2=>H2 p=some (.dK [])/\∃kvs:List (Key×V),ps=kvs.map (λkv=>(kV kv.1,kv.2))/\kvs.length<=15/\Q (.ref p) (upd H2 p (.dK (jeq [] kvs)))
theorem j24 {X:Cx} {pos:Pos} {keys:List (Option Expr)} {values:List Expr} {trs:List (TE×TE)} (h:PPs X pos keys values trs) (hall:keys.all (·.isSome)=true) (hl:keys.length=values.length) (h0:keys≠[])
  (h15:keys.length<=15):PE X (.Dict keys values pos) (j4x trs):=by
 intro pins s σ H Q I q;have hn:=I.hok.fresh (An s.heap.objs.size);have I1:=I.laid (a:=s.heap.objs.size) (o:=.dK []) (h':=s.heap.push {cls:=.type "dict",data:=.dict #[]}) (t':=s.toks) (λ_ _ q=>Ae _ q) (An _) (jom s.heap I.big);refine wpAny_Dict_walk (knd:=jbr X.prog X.w) hall hl h0 h15 (thn (h pins _ σ _ _ I1 (q _ hn)) λws s2 ⟨ps,H2,I2,rel,e,kvs,ep,lk,q2⟩=>?_);subst ep;obtain⟨rs,c,rk⟩:=jna (P:=X.prog) (w:=X.w) rel;obtain⟨z,hd,vs0,r0,dd⟩:=j32 I2.hok e;cases r0;refine⟨rs,c,dd,λh' dd' hs=>⟨.ref s.heap.objs.size,_,?_,rfl,q2⟩⟩;have hz:(jeq [] kvs).length<=A1:=by
  have h1:=jgy kvs [];rw[List.length_nil]at h1;rw[Dn];omega
 have he:∃q,h'.get? s.heap.objs.size=some q:=let⟨q,_,_,hq,_⟩:=dd';⟨q,hq⟩;exact jop I2 (by rw[e];exact Dv) hs he (jw6 hz hd (rk.merge .nil) dd')
structure M2 (X:Cx) (o:Expr) (m:Str) (apos:Pos) (e f:Expr) (cpos:Pos):Prop where
 base:Ff o m X.env (eval o X.env)=eval o X.env
 few:((Cz cpos (Az [e,f] X.env)).all (λx=>!x.1)&&(backToKw cpos (keywordEach [] X.env)).all (λx=>x.1.isSome)
  && decide (([e,f]:List Expr).length+([]:List Keyword).length+(if ([]:List Keyword).isEmpty then 0 else 1) < 30))=true
 line:(apos.endLine==cpos.line)=true
 trees:Cz cpos (Az [e,f] X.env)=[(false,eval e X.env),(false,eval f X.env)]
def IsD (H:Hp) (a:Addr):Prop:=(∃kvs,Rd H a (.dK kvs))\/∃kvs,Rd H a (.dT kvs)
theorem j6z {X:Cx} {pins:List (Addr×Obj)} {σ:St} {H:Hp} {s:Ak} {a:Addr} (I:Inv X pins σ H s) (d:IsD H a) :
  s.TypeIs (.ref a) "dict"/\(∀b,A7 a=.ref b->∃ob,s.heap.get? b=some ob/\ob.dict=none)/\(a==Eh)=false:=by
 rcases d with⟨kvs,e⟩ | ⟨kvs,e⟩
 ·obtain⟨_,hd,vs,_,dd⟩:=jrq I.hok e;refine⟨dd.typeIs,λb q=>?_,hd⟩;cases q;obtain⟨ob,_,_,h1,h2,_⟩:=dd;exact⟨ob,h1,h2.2.1⟩
 ·obtain⟨_,hd,xs,_,dd⟩:=jrp I.hok e;refine⟨dd.typeIs,λb q=>?_,hd⟩;cases q;obtain⟨ob,_,_,h1,h2,_⟩:=dd;exact⟨ob,h1,h2.2.1⟩
section
variable {X:Cx} {pins:List (Addr×Obj)} {σ:St} {H:Hp} {s:Ak} {a:Addr} {y d:V} {u r:Af} {o:Option V} {A:B4} {E:Af->Ak->Prop}
theorem j7n {Q:Af->Ak->Prop} (hu:A.units+1 < Ef) (I:Inv X pins σ H s) (g:DGet H a y o) (ry:RelV y u) (rd:RelV d r) (h:∀w' s',Inv X pins σ H s'->RelV (o.getD d) w'->Q w' s') :
  A4 (Ba X.prog X.w) A (call (.builtin "dict.get") [.ref a,u,r]) Q E s:=by
 rcases g with⟨kvs,k,e,ey,l⟩ | ⟨kvs,k,b,e,ey,eb,l⟩
 ·subst ey;obtain⟨z,hd,vs,rel,dd⟩:=jrq I.hok e;refine call_meetsIn PySem.F.slot_dict_get dd.typeIs PySem.F.entry_dict_get (PySem.F.args_dict_get_3 _ _ _) (meets_dict_get_default (jbr X.prog X.w) a (jpz ry) hd r) ⟨_,dd.mapOf,h _ _ (I.tok _) ?_⟩;rw[l];exact(rel.val k).getD rd
 ·subst ey;cases(show u=A7 b from ry);obtain⟨z,hd,xs,rel,dd⟩:=jrp I.hok e;refine call_meetsIn PySem.F.slot_dict_get dd.typeIs PySem.F.entry_dict_get (PySem.F.args_dict_get_3 _ _ _) (meetsH_dict_get_default (tupleKind (jbr X.prog X.w)) a b hd r) ⟨Fk hu,k,xs,jm4 I.hok eb,dd,h _ _ (I.tok _) ?_⟩;rw[l];exact(rel.val k).getD rd
end
def j0w (td ty tx:TE):TE:=λσ H Q=>td σ H λx H1=>∃a,x=.ref a/\IsD H1 a/\ty σ H1 λy H2=>tx σ H2 λz H3=>∃o,DGet H3 a y o/\Q (o.getD z) H3
section
variable {X:Cx} {o e f:Expr} {apos cpos:Pos} {td ty tx:TE}
theorem jy9 (hu:X.A.units+1 < Ef) (ho:PE X o td) (he:PE X e ty) (hf:PE X f tx) (m:M2 X o "get" apos e f cpos):PE X (.Call (.Attribute o "get" apos) [e,f] [] cpos) (j0w td ty tx):=by
 intro pins s σ H Q I h;refine wpAny_Call_method m.base m.few m.line PySem.F.plainAttrs_dict PySem.F.slot_dict_get PySem.F.type_dict_get (thn (ho pins s σ H _ I h) λu s1 ⟨x,H1,I1,rx,a,ex,d,q1⟩=>?_);subst ex;obtain rfl:u=A7 a:=rx;obtain⟨t1,t2,_⟩:=j6z I1 d;refine⟨t1,t2,?_⟩;rw[m.trees];refine Calls.callWith_builtin rfl (Calls.evalArgs_plain (Calls.spliced_cons (thn (he pins s1 σ H1 _ I1 q1) λiv s2 ⟨y,H2,I2,ry,q2⟩ =>
  Calls.spliced_cons (thn (hf pins s2 σ H2 _ I2 q2) λfv s3 ⟨z,H3,I3,rz,ov,g,q3⟩=>Calls.spliced_nil ?_))))
 exact j7n hu I3 g ry rz λw' s4 I4 rw'=>⟨_,H3,I4,rw',q3⟩
end
end L2
namespace Att
open PySem PySem.W PySem.Calls PyProof.Rows
theorem jkb {P:Params} {h:Heap}:∀(ns:List Int) (vs:List Af),WellAll P h vs (ns.map WData.int)->IntsAre vs ns:=by
 intro ns
 induction ns with
 |nil =>
  intro vs w;rw[Fh]at w;cases w;exact .nil
 |cons n ns ih =>
  intro vs w;rw[Bi]at w;cases w with
  |cons a b =>
   cases a;exact .cons _ _ (ih _ b)
theorem jvl {l:OpenLaw} {n:Nat} (hn:l.most=some n) {P:Params} {h:Heap} {args:List WData} {vals:List Af}
  (hpre:l.row.toRowW.claim.pre args=true) (hwl:WellAll P h vals args) :
  ∃a vs ns,vals=[A7 a]/\args=[WData.list (ns.map WData.int)]/\h.get? a=some {cls:=.type "list",data:=.seq vs.toArray}/\IntsAre vs ns/\ns.length<=n:=by
 have hsh:WShape.hasAll [] args [.list .int]=true:=(pre_splitW hpre).1;have hc:l.pre.holds [] {args:=args}=true:=(pre_splitW hpre).2;obtain⟨d,r,rfl,h1,h2⟩:=hasAllW_cons hsh;obtain rfl:=hasAllW_nil h2;obtain⟨xs,rfl,h3⟩:=hasW_list h1;obtain⟨ns,rfl⟩:=items_int h3;have hlen:ns.length<=n:=by
  unfold OpenLaw.pre at hc;have h4:(WTm.not (.lt (.lit (.int (n:Int))) (.len (.arg 0)))).holds [] {args:=[.list (ns.map .int)]}=true:=by
   have h4:=(holds_andW hc).1;rw[hn]at h4;exact h4
  have h5:=condW_of h4 (w_not (w_lt w_lit (w_len_list (w_arg rfl))));rw[Ab]at h5;refine Nat.le_of_not_lt λq=>?_;have q':(n:Int) < ((ns.length:Nat):Int):=by omega
  first
   | (rw[decide_eq_true q']at h5;exact absurd h5 (by decide))
   | (simp at h5;omega)
 cases hwl with
 |cons w1 w2 =>
  cases w2;cases w1 with
  |list ho hall=>exact⟨_,_,ns,rfl,rfl,ho,jkb ns _ hall,hlen⟩
theorem jvz (l:OpenLaw) (args:List WData):l.row.toRowW.claim.post args (.bool true) args=true :=
 postW_of (r:=l.row.toRowW) (X:=(true==true))
  (show WShape.has [] (.bool true) .bool=true by first | rfl | decide | simp[WShape.has,WShape.arms,WShape.armsAll])
  (show(WTm.eq .res (.lit (.bool true))).value [] {args:=args,res:=some (.bool true),after:=args}=some (.bool (true==true))from w_eq_bool (w_res rfl) w_lit) rfl
theorem attach_call {l:OpenLaw} {n:Nat} {q:Bg} {loose:List Str} {XP:(Str->Option Af)->Heap->Prop} {YP:Br->Heap->Prop} {d:DefRec}
  (hn:l.most=some n) (hdf:d.params.defaults=[])
  (call:∀(w:Br) (s₀ s₁:Ak) (mg mb:Str->Option Af) (fa:Addr) (o:Obj) (pm cd doc:Af) (a:Addr) (vs:List Af) (ns:List Int),
   Ground q loose [] XP w s₀ mg mb s₁.heap->YP w s₁.heap ->
   s₁.heap.get? fa=some o->o.data=.func (docDef d.name d.params d.body d.scope pm cd doc)->s₁.heap.CodeRec cd d.name->mg d.name=some (.ref fa) ->
   s₁.heap.get? a=some {cls:=.type "list",data:=.seq vs.toArray}->IntsAre vs ns->ns.length<=n->s₁.gens=#[] ->
   Fg (Ba l.prog w) callerA (.call (.ref fa) ⟨[.ref a],[]⟩) (λr s'=>r=.ok (.ret (.bool true))/\OldK s₁.heap s'.heap/\s'.os=s₁.os/\AllBare s'.gens) s₁) :
  WalkO q loose XP YP l.row.toRowW d [] (λf vs=>PySem.call f vs):=by
 intro w s₀ s₁ mg mb G Y fa o pm cd doc dV kV ho hd hcd hD hmg hg args vals as hpre hlay hrd hwl hlo;obtain rfl:dV=.none:=Dflts.none hD hdf;obtain rfl:kV=.none:=Dflts.noKw hD;obtain⟨a,vs,ns,rfl,rfl,hobj,hints,hlen⟩:=jvl hn hpre hwl;refine enter_call (codeAny_mono (call w s₀ s₁ mg mb fa o pm cd doc a vs ns G Y ho (fd_plain hd) hcd hmg hobj hints hlen hg) λr s' hq=>?_);obtain⟨rfl,h2,h3,h4⟩:=hq;exact⟨.inl ⟨.bool true,.bool true,[],rfl,λ_=>rfl,.bool true,jvz l _,λ_=>⟨List.Pairwise.nil,λ_ hm=>(nomatch hm)⟩⟩,h2,h3,h4⟩
end Att
namespace L2
open PySem PySem.Spec PyProof.Rows
theorem jo8:∀{vs:List Af} {ns:List Int},IntsAre vs ns->Vals (ns.map V.int) vs
 |_,_,.nil=>.nil
 |_,_,.cons n t h=>.cons ⟨t,rfl⟩ (jo8 h)
def Only (H:Hp):Prop:=∀b,H b=none\/∃o xs,H b=some (.frz o (.lst xs))
theorem jzq {P:Bg} {w:Br} {K:Ai} {mg mb:Str->Option Af} {CX:CXT} {k:Nat} {fa a:Addr} {fd:Cb} {x:Str} {sp:Sp} {s₁:Ak} {vs:List Af} {ns:List Int}
  (KX:K.In s₁.heap) (hns:s₁.heap.Ns Cp mg) (hb:s₁.heap.Ns builtinsNs mb) (hbb:∀x:Str,x≠"__name__"->mb x=B3 x) (hlim:s₁.heap.NoLimit) (hg:s₁.gens=#[])
  (ha:s₁.heap.get? a=some {cls:=.type "list",data:=.seq vs.toArray}) (hi:IntsAre vs ns) (hl:ns.length<=A1) (hr:Room k callerA)
  (F:∀base:Heap,K.In base->base.Ns Cp mg->FnOk P w K mg base CX k fa fd [x] sp) (hbind:∀(s:Ak) (u:Af),BindsTo s fd ⟨[u],[]⟩ [(x,u)])
  (hsp:∀H:Hp,Only H->SqL K H a (ns.map V.int)->sp [.ref a] H (λv _=>v=.bl true) λ_ _ _=>False)
  (hCX:∀H e s',CX [] H s₁ (λ_ _ _=>False) e s'->False) :
  Fg (Ba P w) callerA (.call (.ref fa) ⟨[.ref a],[]⟩) (λr s'=>r=.ok (.ret (.bool true))/\OldK s₁.heap s'.heap/\s'.os=s₁.os/\AllBare s'.gens) s₁:=by
 have rv:=jo8 hi;have lenV:=hi.length
 -- from an abstract heap in which nothing but the script may be tracked
 have core:∀H:Hp,Only H->SqL K H a (ns.map V.int)->HOk P w H s₁.heap->(∀b,H b≠none->b=a)->(H a≠none->K.lookup a=none) ->
   Fg (Ba P w) callerA (.call (.ref fa) ⟨[.ref a],[]⟩) (λr s'=>r=.ok (.ret (.bool true))/\OldK s₁.heap s'.heap/\s'.os=s₁.os/\AllBare s'.gens) s₁:=by
  intro H hO hS hok hA hK;have base_of:∀{b:Addr} {o:Obj},s₁.heap.get? b=some o->H b=none->(hidT s₁.heap H).get? b=some o:=λe n=>jzu e n;have noA:∀{b:Addr} {o:Obj} {es:Array DictEntry} {ep:Nat},s₁.heap.get? b=some o->o.data=.dict es ep->H b=none:=λ{b o es ep} e d=>by
   cases q:H b with
   |none=>rfl
   |some u =>
    have e':b=a:=hA b (by rw[q];simp);subst e';rw[ha]at e;cases e;have d':Data.seq vs.toArray _=Data.dict es ep:=d;cases d'
  have nsK:∀{b:Addr} {m:Str->Option Af},s₁.heap.Ns b m->(hidT s₁.heap H).Ns b m:=λ{b m} ⟨o,es,ep,e,d,r⟩=>⟨o,es,ep,base_of e (noA e d),d,r⟩;have hKb:K.In (hidT s₁.heap H):=λb o e=>base_of (KX b o e) (by
   cases q:H b with
   |none=>rfl
   |some u =>
    have e':b=a:=hA b (by rw[q];simp);subst e';rw[hK (by rw[q];simp)]at e;cases e)
  have hM:Mod K mg (hidT s₁.heap H):=⟨hKb,nsK hns,⟨mb,nsK hb,hbb⟩,let⟨mc,h1,h2⟩:=hlim;⟨mc,nsK h1,h2⟩⟩;have e0:Env0 P w K mg (hidT s₁.heap H) callerA [] s₁ H:=⟨rfl,hM,λb o e=>j3h e,Nat.le_of_eq (jwz _ _),trivial,λb hb=>absurd (show b∈([]:List Addr)from hb) (by simp),hok,.of_eq hg⟩;refine codeAny_mono ((F _ hKb (nsK hns)).run callerA [] s₁ H ⟨[.ref a],[]⟩ [.ref a] [.ref a] _ _ hr e0 (hbind s₁ (.ref a)) (.cons rfl .nil) (hsp H hO hS)) λr s' h=>?_;cases r with
  |error e=>exact(hCX H e s' h).elim
  |ok fl =>
   cases fl with
   |next=>exact False.elim h
   |brk=>exact False.elim h
   |cont=>exact False.elim h
   |ret u =>
    obtain⟨v,H',os,bare,un,hok',r',q⟩:=h;have q':v=.bl true:=q;subst q';obtain rfl:u=Value.bool true:=r';refine⟨rfl,OldK.of_keep λb o e=>?_,os,bare⟩;cases q:H b with
    |none=>exact un.keep b o e q (by intro z;exact absurd (show b∈([]:List Addr)from z) (by simp)) (by simp)
    |some u =>
     rcases hO b with z | ⟨ob,xs,z⟩
     ·rw[q]at z;cases z
     ·have z2:=un.frzs b ob _ z;obtain⟨e1,_⟩:=hok b _ z;obtain⟨e2,_⟩:=hok' b _ z2;rw[e]at e1;cases e1;exact e2
 cases hk:K.lookup a with
 |some o =>
  -- the script is one of the module's own objects
  have e:=KX a o hk;rw[ha]at e;cases e;refine core (λ_=>none) (λ_=>.inl rfl) (.inr ⟨_,vs.toArray,_,hk,rfl,rfl,rfl,by rw[A3,lenV];exact hl,by simpa using rv⟩) (λb u z=>by have z':(none:Option HO)=some u:=z;cases z') (λb z=>absurd rfl z) λz=>absurd rfl z
 |none =>
  refine core (λb=>if b=a then some (.frz {cls:=.type "list",data:=.seq vs.toArray} (.lst (ns.map V.int)))else none) (λb=>?_) (.inl (.inr ⟨{cls:=.type "list",data:=.seq vs.toArray},if_pos rfl⟩)) (λb u z=>?_) (λb z=>?_) λ_=>hk
  ·by_cases hb:b=a
   ·exact .inr ⟨_,_,if_pos hb⟩
   ·exact .inl (if_neg hb)
  ·by_cases hb:b=a
   ·have z':=(if_pos hb).symm.trans z;cases z';subst hb;exact⟨ha,by rw[Ab];exact hl,vs,_,rv,ha⟩
   ·have z':=(if_neg hb).symm.trans z;cases z'
  ·by_cases hb:b=a
   ·exact hb
   ·exact absurd (if_neg hb) z
theorem walk_of {l:PySem.W.OpenLaw} {n k:Nat} {q:Bg} {loose:List Str} {XP:(Str->Option Af)->Heap->Prop} {YP:Br->Heap->Prop} {d:DefRec} {K:Params->Ai} {CX:Br->CXT} {sp:Br->Sp} {x:Str}
  (hn:l.most=some n) (hn2:n<=A1) (hdf:d.params.defaults=[]) (hr:Room k callerA)
  (hY:∀(w:Br) (h:Heap),YP w h->(K w.params).In h)
  (F:∀(w:Br) (mg:Str->Option Af) (fa:Addr) (h:Heap),(K w.params).In h->h.Ns Cp mg->mg d.name=some (.ref fa) ->
   ∃fd:Cb,(∀(s:Ak) (u:Af),BindsTo s fd ⟨[u],[]⟩ [(x,u)]) /\
    ∀base:Heap,(K w.params).In base->base.Ns Cp mg->FnOk l.prog w (K w.params) mg base (CX w) k fa fd [x] (sp w))
  (hsp:∀(w:Br) (H:Hp) (a:Addr) (ns:List Int),ns.length<=n->Only H->SqL (K w.params) H a (ns.map V.int)->sp w [.ref a] H (λv _=>v=.bl true) λ_ _ _=>False)
  (hCX:∀(w:Br) (H:Hp) (s:Ak) (e:Af) (s':Ak),CX w [] H s (λ_ _ _=>False) e s'->False) :
  PySem.W.WalkO q loose XP YP l.row.toRowW d [] (λf vs=>PySem.call f vs):=by
 refine Att.attach_call hn hdf λw s₀ s₁ mg mb fa o pm cd doc a vs ns G Y ho hd hcd hmg hobj hints hlen hg=>?_;have KX:=hY w _ Y;obtain⟨fd,hb,hF⟩:=F w mg fa _ KX G.T.g hmg;exact jzq KX G.T.g G.T.b G.T.builtins G.T.nolimit hg hobj hints (A5 hlen hn2) hr hF hb (λH hO hS=>hsp w H a ns hlen hO hS) λH e s'=>hCX w H s₁ e s'
def jht (s:Stmt):Arguments:=match s with
 |.FunctionDef _ a _ _ _ _ _ _ _ _=>a
 |_=>{ posonlyargs:=[],args:=[],vararg:=none,kwonlyargs:=[],kw_defaults:=[],kwarg:=none,defaults:=[]}
def jdt (s:Stmt):List Stmt:=match s with
 |.FunctionDef _ _ b _ _ _ _ _ _ _=>b
 |_=>[]
def jak (s:Stmt):Scope:=match s with
 |.FunctionDef _ _ _ _ _ _ sc _ _ _=>sc
 |_=>{ kind:=.function,names:=[],isGenerator:=false,isCoroutine:=false}
abbrev CX0:CXT:=λ_ _ _ _ _ _=>False
abbrev E0:XK:=λ_ _ _=>False
theorem j3a {X:Cx}:jx3 CX0 X E0:=λ_ _ _ _ _ _ _ h=>h.elim
structure Fun (K:Ai) (x qual:Str) (st:Stmt) (f:Addr) (fd:Cb):Prop where
 ex:∃(oc:Af) (od:Option Addr) (kV doc pm:Af) (an:Option Addr) (cdv ct:Af) (osl:Array (Option Af)),
  fd=E6 x qual (jht st) (jdt st) (jak st) .none kV doc pm an cdv ct/\K.lookup f=some ⟨oc,od,.func fd,osl⟩/\PySem.W.codeIn K cdv qual=true
 kp:Cv K (.ref f)=true
section
variable {P:Bg} {w:Br} {K:Ai} {mg:Str->Option Af} {base:Heap}
theorem Fun.ok {x qual:Str} {st:Stmt} {f:Addr} {fd:Cb} {N ps:List Str} {k:Nat} {sp:Sp} (F:Fun K x qual st f fd) (S:FnScope N ps (jak st)) (len:∀vs H Q E,sp vs H Q E->vs.length=ps.length)
  (hbody:∀(cdv:Af) (A:B4) (outer:List Env) (s:Ak) (H:Hp) (vs:List V) (Q:VK) (E:XK),Room k (A.deeper (envOfC qual (jak st) s.heap.objs.size f cdv))->sp vs H Q E ->
   ∃t,PSs (cxOf CX0 P w K mg base N qual (jak st) f cdv A outer s H E).nox (jdt st) t/\t {nx:=λ_ H'=>Q .non H',rt:=Q} (start N vs) H):FnOk P w K mg base CX0 (k+1) f fd ps sp:=by
 obtain⟨oc,od,kV,doc,pm,an,cdv,ct,osl,rfl,lk,hcd⟩:=F.ex;refine j8u lk hcd S len λA outer s H vs Q E hr hsp=>?_;obtain⟨t,h,q⟩:=hbody cdv A outer s H vs Q E hr hsp;exact⟨t,h.nox,q⟩
theorem Fun.binds {x qual:Str} {st:Stmt} {f:Addr} {fd:Cb} {ps:List Str} (F:Fun K x qual st f fd)
  (h:∀(kV doc pm:Af) (an:Option Addr) (cdv ct:Af) (us:List Af),us.length=ps.length->bindArgs (E6 x qual (jht st) (jdt st) (jak st) .none kV doc pm an cdv ct) ⟨us,[]⟩=pure (ps.zip us)):Binds K fd ps []:=by
 obtain⟨oc,od,kV,doc,pm,an,cdv,ct,osl,rfl,lk,hcd⟩:=F.ex;exact .all (h kV doc pm an cdv ct)
theorem j7b {x qual:Str} {st:Stmt} {f:Addr} {oc:Af} {od an:Option Addr} {osl:Array (Option Af)} {kV doc pm cdv ct:Af} (l:K.lookup f=some ⟨oc,od,.func (E6 x qual (jht st) (jdt st) (jak st) .none kV doc pm an cdv ct),osl⟩)
  (c:PySem.W.codeIn K cdv qual=true) (k:Cv K (.ref f)=true):Fun K x qual st f (E6 x qual (jht st) (jdt st) (jak st) .none kV doc pm an cdv ct):=⟨⟨oc,od,kV,doc,pm,an,cdv,ct,osl,rfl,l,c⟩,k⟩
end
theorem jpf {n:Nat} (h:n<=1000):n < A1:=Nat.lt_of_le_of_lt h (by decide)
section
variable {X:Cx}
theorem pv (i:Nat) {x:Str} {pos:Pos} (hN:X.N[i]?=some x:=by rfl) (hv:Vis X.env.scope x:=by first | exact Ap rfl | exact Bw (Ap rfl) | exact Bw (Bw rfl)) (hd:(x==("__debug__":Str))=false:=by decide)
  (hcd:(x==("__classdict__":Str))=false:=by decide):PE X (.Name x pos) (tVar i):=jdl hN hv hd hcd
end
theorem iteF {A B:Prop} (h:B):if false=true then A else B:=by
 rw[if_neg Ag];exact h
theorem ite2 {c A B:Prop} [Decidable c] (h1:c->A) (h2:¬c->B):if c then A else B:=by
 by_cases h:c
 ·rw[if_pos h];exact h1 h
 ·rw[if_neg h];exact h2 h
def Same (H H':Hp):Prop:=∀b o,H b=some o->H' b=some o
end L2
set_option maxHeartbeats 4000000
set_option maxHeartbeats 4000000
namespace Nb
open PySem L2
def jur:Bool:=true
def j0k:List V:=[.non,.non,.non,.int 1,.int 2,.int 3,.int 20]
def jo0:List Ad:=[.none,.none,.none,.int 1,.int 2,.int 3,.int 20]
end Nb
namespace L2
open PySem PySem.Spec PyProof.Rows
section
variable {prog:Bg} {w:Br} {A:B4} {R:Result->Ak->Prop} {s:Ak}
theorem jim {elt target iter:Expr} {ifs:List Expr} {scope:Scope} {pos:Pos} {it acc:Af} {env:Env} (I:Nat->Ak->Prop)
  (turn:∀n s,I n s->A4 (Ba prog w) A (D6 it) (λr s₁=>match r with
   |none=>R (.ok .next) s₁
   |some v=>A4 (Ba prog w) A (letOwnedTupleGo target it v) (λ_ s₁'=>A4 (Ba prog w) A (assign target env v) (λ_ s₂ =>
     A4 (Ba prog w) A (forIn ifs true λc r=>if r=true then do let ok <-isTrue c env (eval c env);pure (ForInStep.yield ok)else pure (ForInStep.yield r)) (λok s₃ =>
      if ok=true then A4 (Ba prog w) A (eval elt env) (λx s₄ =>
       A4 (Ba prog w) A (call (.builtin "list.append") [acc,x]) (λ_ s₅=>∃m,m < n/\I m s₅) (λ_ _=>False) s₄) (λ_ _=>False) s₃
      else ∃m,m < n/\I m s₃) (λ_ _=>False) s₂) (λ_ _=>False) s₁') (λ_ _=>False) s₁) (λ_ _=>False) s)
  (n:Nat) (h:I n s):Fg (Ba prog w) A (.compLoop (.ListComp elt [⟨target,iter,ifs,0⟩] scope pos) 0 it acc env) R s:=by
 refine codeAny_loop rfl I (λn s hI=>?_) n h;show A4 _ A ((compTurn (.ListComp elt [⟨target,iter,ifs,0⟩] scope pos) 0 it acc env).onRaise (λx=>do noteFrame x env;theTreesLotGoes x)) _ _ s;refine wpAny_noted ?_;rw[compTurn_list];refine Aa (wpAny_standAt (Aa (Cu (turn n s hI) (λr s₁ h₁=>?_) λ_ _ f=>f.elim)));cases r with
 |none=>exact Al h₁
 |some v =>
  refine Aa (Cu h₁ (λ_ s₁' h₁'=>?_) λ_ _ f=>f.elim);refine Aa (Cu h₁' (λ_ s₂ h₂=>Aa (Cu h₂ (λok s₃ h₃=>?_) λ_ _ f=>f.elim)) λ_ _ f=>f.elim);cases ok with
  |false=>exact Al ⟨rfl,h₃⟩
  |true =>
   exact Aa (Aa (Cu h₃ (λx s₄ h₄=>Aa (Cu h₄ (λ_ s₅ h₅=>Al (Al ⟨rfl,h₅⟩)) λ_ _ f=>f.elim)) λ_ _ f=>f.elim))
end
def jbo (X:Cx) (N:List Str) (scope:Scope) (cl:List (Str×Addr)) (s:Ak) (H:Hp) (fp:List Addr):Cx :=
 { X with N:=N,s₀:=s,H₀:=H,env:=compEnvC scope cl s.heap.objs.size X.env,outer:=X.stack,ex:=fp,fn:=λ_=>false,pn:=[],xe:=λ_ _=>False}
structure CompSc (X:Cx) (N:List Str) (scope:Scope) (cl:List (Str×Addr)) (fr:List (Option Nat)):Prop where
 clos:closureFor scope X.env=pure cl
 kind:scope.kind=.function
 nocell:∀y∈scope.names,y.2≠.cell
 names:∀y∈scope.names,y.2=.local->scope.names.lookup y.1=some .local
 sub:∀x c,cl.lookup x=some c->X.env.cells.lookup x=some c
 has:∀x,((relabel scope X.env).names.lookup x=some .cell\/(relabel scope X.env).names.lookup x=some .free)->∃c,cl.lookup x=some c
 len:fr.length=N.length
 fre:∀(j i:Nat),fr[j]?=some (some i)->∃x,N[j]?=some x/\X.N[i]?=some x/\Vis X.env.scope x/\(X.env.kindOf x=some .cell\/X.env.kindOf x=some .free) /\
  ((relabel scope X.env).names.lookup x=some .cell\/(relabel scope X.env).names.lookup x=some .free)/\cl.lookup x=X.env.cells.lookup x
theorem jfu {κ:Type}:∀{l:List (Str×κ)} {x:Str} {k:κ},l.lookup x=some k->(x,k)∈l
 |[],_,_,h=>nomatch h
 | (y,k')::r,x,k,h=>by
  rw[List.lookup_cons]at h;cases e:x==y with
  |true =>
   rw[e]at h;have e':x=y:=by simpa using e
   have h':k'=k:=Ax h;rw[e',h'];exact A0
  |false =>
   rw[e]at h;exact Au _ (jfu h)
theorem jm0 {κ:Type}:∀{l:List (Str×κ)} {x:Str},x∈l.map (·.1)->∃k,l.lookup x=some k
 |[],_,h=>absurd h (by simp)
 | (y,k')::r,x,h=>by
  rw[List.lookup_cons];cases e:x==y with
  |true=>exact⟨k',rfl⟩
  |false =>
   have ne:¬x=y:=λz=>by rw[z]at e;simp at e
   have h':x∈y::r.map (·.1):=h;rcases As.mp h' with z | z
   ·exact absurd z ne
   ·exact jm0 z
theorem jb6 {X:Cx} {scope:Scope} {cl:List (Str×Addr)} (nm:List (Str×NameKind)) (ks:List Str) (hrel:(relabel scope X.env).names=nm) (hks:cl.map (·.1)=ks) (h3:∀y∈nm,(y.2=.cell\/y.2=.free)->y.1∈ks) :
  ∀x,((relabel scope X.env).names.lookup x=some .cell\/(relabel scope X.env).names.lookup x=some .free)->∃c,cl.lookup x=some c:=by
 intro x h;rw[hrel]at h;refine jm0 ?_;rw[hks];rcases h with h | h
 ·exact h3 _ (jfu h) (.inl rfl)
 ·exact h3 _ (jfu h) (.inr rfl)
def capt (fr:List (Option Nat)) (σ:St):St:=fr.map λo=>o.bind λi=>(σ[i]?).bind id
theorem j0a {fr:List (Option Nat)} {σ:St} {j:Nat} {v:V} (h:(capt fr σ)[j]?=some (some v)):∃i,fr[j]?=some (some i)/\σ[i]?=some (some v):=by
 unfold capt at h;rw[Ay]at h;cases e:fr[j]? with
 |none=>rw[e]at h;cases h
 |some o =>
  rw[e]at h;cases o with
  |none=>cases h
  |some i =>
   refine⟨i,rfl,?_⟩;have h':(σ[i]?).bind id=some v:=Ax h;cases e2:σ[i]? with
   |none=>rw[e2]at h';cases h'
   |some o2 =>
    rw[e2]at h';have h2:o2=some v:=h';rw[h2]
def PIf (X:Cx) (ifs:List Expr) (tt:TT):Prop :=
 ∀(pins:List (Addr×Obj)) (s:Ak) (σ:St) (H:Hp) (Q:Bool->Hp->Prop),Inv X pins σ H s->tt σ H Q ->
  A4 (Ba X.prog X.w) X.A (forIn ifs true λc r=>if r=true then do let ok <-isTrue c X.env (eval c X.env);pure (ForInStep.yield ok)else pure (ForInStep.yield r)) (TP X pins σ Q) X.xe s
def j4v:TT:=λ_ H Q=>Q true H
theorem j20 {X:Cx}:PIf X [] j4v:=λ_ _ _ H _ I h=>wpAny_tests_nil ⟨H,I,h⟩
theorem j2z {X:Cx} {c:Expr} {tt:TT} (h:PT X c tt):PIf X [c] tt:=λpins s σ H Q I q=>wpAny_tests_one (h pins s σ H Q I q)
def jut (fr:List (Option Nat)) (wi:TI) (g:TG) (tt:TT) (te:TE):TE:=λσ H Q=>wi σ H λJ H1=>∀D,H1 D=none ->
 ∃W:Nat->Nat->List V->St->Hp->Prop,(∃m,W 0 m [] (capt fr σ) (upd H1 D (.lst [])))/\∀i m ys τ H,W i m ys τ H ->
  ((J.stop i H/\Q (.ref D) H)\/(J.go i H/\ys.length < A1/\∀x H',J.yld i H x H'->g x τ H' λτ2 H2=>tt τ2 H2 λb H3 =>
   if b=true then te τ2 H3 (λy H4=>H4 D=some (.lst ys)/\∃m',m' < m/\W (i+1) m' (ys++[y]) τ2 (upd H4 D (.lst (ys++[y]))))else ∃m',m' < m/\W (i+1) m' ys τ2 H3))
section
variable {X:Cx} {N:List Str} {scope:Scope} {cl:List (Str×Addr)} {fr:List (Option Nat)} {pins:List (Addr×Obj)} {σ:St} {H:Hp} {s:Ak} {fp:List Addr}
theorem j4a (S:CompSc X N scope cl fr) (I:Inv X pins σ H s) (hf:∀b∈fp,FpOk X pins H b) (hlt:∀b∈fp,b < s.heap.objs.size):(jbo X N scope cl s H fp).Ok where
 mod:=I.ok.mod
 kind:=S.kind
 glob:=I.ok.glob
 blt:=I.ok.blt
 above:=An _
 inj:=λx y c a b=>I.ok.inj x y c (S.sub x c a) (S.sub y c b)
 has:=λx h=>S.has x h
 cab:=λx c h=>nomatch h
 hd:=I.ok.hd
 frames:=I.ok.frames
 stk:=.inl rfl
 exf:=λb hb=>⟨Bb (hlt b hb),λx c e=>(hf b hb).2.2.2.2.1 x c (S.sub x c e)⟩
 bs:=I.bs
 bsz:=A5 I.ok.bsz I.sz
 noex:=λb o e hb=>by
  rcases(hf b hb).2.2.2.1 with z | z
  ·exact I.ok.noex b o e z
  ·exact absurd (Bj (Av (I.ok.bs b o e).1) z) (Eg _)
 exfs:=λb hb z=>by
  rcases As.mp (I.stkSub b z)with e | e
  ·exact(hf b hb).2.1 e
  ·exact(hf b hb).2.2.1 e
 funs:=I.stack
 frf:=I.stkFree
theorem jm9 {h₁:Heap} {t':Nat} (S:CompSc X N scope cl fr) (I:Inv X pins σ H s) (hf:∀b∈fp,FpOk X pins H b) (hlt:∀b∈fp,b < s.heap.objs.size)
  {ob:Obj} (hsb:Cs s.heap.objs.size (s.heap.push ob) h₁) {m:Str->Option Af} (hn:h₁.Ns s.heap.objs.size m) :
  Inv (jbo X N scope cl s H fp) [] (capt fr σ) H {s with heap:=h₁,toks:=t'}:=by
 have old:∀b o,s.heap.get? b=some o->h₁.get? b=some o:=λb o e=>(hsb.2 b (Bb (Av e))).trans (Ae _ e);refine⟨j4a S I hf hlt,rfl,I.bare,Un.kept old,⟨m,hn,λj x v e1 e2 e3=>?_⟩,λx c e=>?_,I.fresh,λx c e=>I.freeC x c (S.sub x c e),λp hp=>?_,I.hok.kept old,?_⟩
 ·obtain⟨i,f1,f2⟩:=j0a e2;obtain⟨y,g1,g2,g3,g4,g5,g6⟩:=S.fre j i f1;have e1':N[j]?=some x:=e1;rw[g1]at e1';have exy:y=x:=Ax e1';subst exy;obtain⟨m0,hn0,hl⟩:=I.loc;obtain⟨u,r,l⟩:=hl i y v g2 f2 g3;refine⟨u,r,.inr ⟨g5,?_⟩⟩;rcases l with⟨k,_⟩ | ⟨k,c,e,z⟩
  ·rcases g4 with q | q
   ·rw[q]at k;cases k
   ·rw[q]at k;cases k
  ·exact⟨c,g6.trans e,z.keeps old⟩
 ·obtain⟨v,z⟩:=I.cell x c (S.sub x c e);exact⟨v,z.keeps old⟩
 ·exact absurd hp (by simp[jbo])
 ·show(capt fr σ).length=N.length;unfold capt;rw[Ab,S.len]
theorem js8 {H':Hp} {τ:St} {s0 s':Ak} {h':Heap} (I:Inv X pins σ H s0) (hf:∀b∈fp,FpOk X pins H b) (I':Inv (jbo X N scope cl s0 H fp) [] τ H' s') (hs:Cs s0.heap.objs.size s'.heap h') :
  Inv X pins σ H' {s' with heap:=h'}:=by
 have hC:H' s0.heap.objs.size=none:=I'.free;have u:Un (frs X.stack) fp H H' s0.heap s'.heap:=I'.base;have ne:∀b o,s0.heap.get? b=some o->b≠s0.heap.objs.size:=λb o e=>Bb (Av e);have hok':HOk X.prog X.w H' h':=λb o e=>by
  have q:ObjOk X.prog X.w H' s'.heap b o:=I'.hok b o e;refine q.stay (λc v hc z=>(hs.2 c ?_).trans z) (λ_ z=>z) λ_ _ z=>z
  rintro rfl
  rcases hc with z | z
  ·rw[<-z,hC]at e;cases e
  ·rw[hC]at z;cases z
 refine I.call' (s':={ s' with heap:=h'}) (ch:=fp) I'.os ?_ hok' I'.bare λb hb=>?_
 ·refine⟨λb o e n h1 h2=>(hs.2 b (ne b o e)).trans (u.keep b o e n h1 h2),λb o e n h1 h2=>?_,u.free,λb o e h2=>?_,u.tups,u.frzs,u.tbls⟩
  ·obtain⟨sl,z⟩:=u.slot b o e n h1 h2;exact⟨sl,(hs.2 b (ne b o e)).trans z⟩
  ·obtain⟨o',z⟩:=u.there b o e h2;exact⟨o',(hs.2 b (ne b o e)).trans z⟩
 ·obtain⟨_,f1,_,f3,f4,f5⟩:=hf b hb;exact⟨f3,f1,f4,f5⟩
end
theorem j26 {X:Cx} {elt tg iter:Expr} {ifs:List Expr} {scope:Scope} {cl:List (Str×Addr)} {pos:Pos} {N:List Str} {fr:List (Option Nat)} {wi:TI} {g:TG} {tt:TT} {te:TE}
  (hc:X.calm=true) (S:CompSc X N scope cl fr) (hi:PI X tg iter wi) (hg:∀s H fp,PG (jbo X N scope cl s H fp) tg g) (ht:∀s H fp,PIf (jbo X N scope cl s H fp) ifs tt)
  (he:∀s H fp,PE (jbo X N scope cl s H fp) elt te) (hs:∀x,D2 iter X.env x=pure x:=by intro _;rfl) :
  PE X (.ListComp elt [⟨tg,iter,ifs,0⟩] scope pos) (jut fr wi g tt te):=by
 intro pins s σ H Q I h;rw[eval_ListComp];refine wpAny_comprehension_free (use:=none) (cl:=cl) rfl hs S.clos S.kind S.names (thn (hi pins s σ H _ I h) λv s1 h1=>thn h1 λitv s2 h2=>?_);obtain⟨it,fp,tn,J,H2,e,I2,T,st2,f2,q⟩:=h2;subst e;refine Bt (wpAny_newFunctionEnv S.nocell (by intro y hy;simp at hy) (λh₁ hn hsb=>?_) S.kind);dsimp only at hn hsb ⊢;obtain⟨W,⟨m0,w0⟩,turn⟩:=q s2.heap.objs.size I2.fresh
 -- the state with the new list
 have I3:Inv X pins σ (upd H2 s2.heap.objs.size (.lst [])) {s2 with heap:=s2.heap.push {cls:=.type "list",dict:=none,data:=.seq ([]:List Af).toArray}}:=I2.lnew (its:=[]) (t':=s2.toks) .nil (Bm _);have key:∀s3:Ak,s3={ s2 with heap:=s2.heap.push {cls:=.type "list",dict:=none,data:=.seq ([]:List Af).toArray}}->Inv X pins σ (upd H2 s2.heap.objs.size (.lst [])) s3 ->
   ∀(ob:Obj) (mm:Str->Option Af),Cs s3.heap.objs.size (s3.heap.push ob) h₁->h₁.Ns s3.heap.objs.size mm ->
   Fg (Ba X.prog X.w) X.A (.compStart (.ListComp elt [⟨tg,iter,ifs,0⟩] scope pos) 0 (.ref it) (.ref s2.heap.objs.size) (compEnvC scope cl s3.heap.objs.size X.env))
    (compPost (Ba X.prog X.w) X.A X.xe none (EP X pins σ Q) (.ref s2.heap.objs.size) s3.heap.objs.size) {s3 with heap:=h₁,toks:=s3.toks+([]:List (Str×Af)).length}:=?key
 ·exact key _ rfl I3 _ _ hsb hn
 clear I3 hn hsb;intro s3 hs3 I3 ob mm hsb hn;have hfp:∀b∈fp,∃o,s2.heap.get? b=some o:=λb hb=>let⟨o,e,_⟩:=T.obj _ _ st2 b hb;⟨o,e⟩;have up:∀b o,s2.heap.get? b=some o->s3.heap.get? b=some o:=λb o e=>by rw[hs3];exact Ae _ e
 have f3:∀b∈fp,FpOk X pins (upd H2 s2.heap.objs.size (.lst [])) b:=λb hb=>by
  obtain⟨o,e⟩:=hfp b hb;obtain⟨g0,gr⟩:=f2 b hb;exact⟨by rw[jap (Bb (Av e))];exact g0,gr⟩
 have hlt:∀b∈fp,b < s3.heap.objs.size:=λb hb=>let⟨o,e⟩:=hfp b hb;Av (up b o e);generalize hH3:upd H2 s2.heap.objs.size (.lst [])=H3 at I3 f3 w0;have I4:=jm9 (t':=s3.toks+([]:List (Str×Af)).length) S I3 f3 hlt hsb hn;have st4:tn 0 h₁:=T.keep _ _ _ st2 λb hb o e=>(hsb.2 b (Bb (Av (up b o e)))).trans (Ae _ (up b o e));have stat:∀{H':Hp},(∀b∈fp,H' b=none)->∀b∈fp,FpOk (jbo X N scope cl s3 H3 fp) [] H' b:=λhn b hb=>by
  obtain⟨_,k1,k2,k3,k4,k5⟩:=f3 b hb;refine⟨hn b hb,Bb (hlt b hb),λz=>?_,.inl hb,λx c e=>k4 x c (S.sub x c e),λp hp=>absurd hp (by simp[jbo])⟩;rcases As.mp (I3.stkSub b z)with e | e
  ·exact k1 e
  ·exact k2 e
 have loop:Fg (Ba X.prog X.w) X.A (.compLoop (.ListComp elt [⟨tg,iter,ifs,0⟩] scope pos) 0 (.ref it) (.ref s2.heap.objs.size) (compEnvC scope cl s3.heap.objs.size X.env))
   (compPost (Ba X.prog X.w) X.A X.xe none (EP X pins σ Q) (.ref s2.heap.objs.size) s3.heap.objs.size) {s3 with heap:=h₁,toks:=s3.toks+([]:List (Str×Af)).length}:=by
  refine jim (λn s'=>∃i ys τ Hc,Inv (jbo X N scope cl s3 H3 fp) [] τ Hc s'/\tn i s'.heap/\(∀b∈fp,Hc b=none)/\W i n ys τ Hc) ?_ m0 ⟨0,[],capt fr σ,H3,I4,st4,λb hb=>(f3 b hb).1,w0⟩
  rintro n s5 ⟨i,ys,τ,Hc,I5,st5,fr5,w5⟩
  rcases turn i n ys τ Hc w5 with⟨stop,qn⟩ | ⟨go,hz,step⟩
  ·refine thn (T.done (jbo X N scope cl s3 H3 fp) rfl rfl rfl hc i [] s5 τ Hc (λ_ _=>False) I5 (stat fr5) st5 stop) λr s6 ⟨hr,I6⟩=>?_;subst hr;obtain⟨mm,hm,_⟩:=I6.loc;exact⟨mm,hm,λh' hs'=>⟨.ref s2.heap.objs.size,Hc,js8 I3 f3 I6 hs',rfl,qn⟩⟩
  ·refine thn (T.item (jbo X N scope cl s3 H3 fp) rfl rfl rfl hc i [] s5 τ Hc (λ_ _=>False) I5 (stat fr5) st5 go) λr s6 ⟨u,hr,h6⟩=>?_;subst hr;refine thn h6 λ_ s7 ⟨x,H7,I7,r7,y7,st7,fr7⟩=>?_;have I7':=I7.pinned (stat fr7) (T.obj _ _ st7);refine thn (hg s3 H3 fp _ s7 τ H7 x u _ I7' r7 (step x H7 y7)) λ_ s8 ⟨τ8,H8,I8,q8⟩=>?_;refine thn (ht s3 H3 fp _ s8 τ8 H8 _ I8 q8) λok s9 ⟨H9,I9,q9⟩=>?_;have keep:∀{st:Ak} {τ':St} {H':Hp},Inv (jbo X N scope cl s3 H3 fp) ([]++jmy fp s7.heap) τ' H' st->tn (i+1) st.heap/\∀b∈fp,H' b=none:=λ{st τ' H'} Ix=>by
    refine⟨T.keep _ _ _ st7 λb hb o e=>(Ix.pin (b,o) (Bc _ (Bc _ (jc4 hb e)))).1,λb hb=>?_⟩;obtain⟨o,e,d⟩:=T.obj _ _ st7 b hb;exact(Ix.pin (b,o) (Bc _ (Bc _ (jc4 hb e)))).2.1
   cases ok with
   |false =>
    rw[if_neg Ag]at q9 ⊢;obtain⟨m',hm,w9⟩:=q9;obtain⟨k1,k2⟩:=keep I9;exact⟨m',hm,i+1,ys,τ8,H9,I9.unpinned,k1,k2,w9⟩
   |true =>
    rw[if_pos rfl]at q9 ⊢;refine thn (he s3 H3 fp _ s9 τ8 H9 _ I9 q9) λxv s10 ⟨y,H10,I10,r10,hD,m',hm,w10⟩=>?_;refine thn (jj2 _ s10 τ8 H10 (.ref s2.heap.objs.size) [y] (.ref s2.heap.objs.size) [xv] (λz H'=>∃m',m' < n/\W (i+1) m' (ys++[y]) τ8 H') I10 rfl (.cons r10 .nil) ⟨_,ys,y,rfl,rfl,hD,hz,m',hm,w10⟩) λz s11 ⟨z',H11,I11,_,m'',hm',w11⟩=>?_;obtain⟨k1,k2⟩:=keep I11;exact⟨m'',hm',i+1,ys++[y],τ8,H11,I11.unpinned,k1,k2,w11⟩
 exact codeAny_compStart_list loop (T.self _ 0 _ _ _ st4 loop)
mutual
inductive RdD (K:Ai) (H:Hp):V->Ad->Prop
 |non:RdD K H .non .none
 |bl (b:Bool):RdD K H (.bl b) (.bool b)
 |int (i:Int):RdD K H (.int i) (.int i)
 |str (x:Str):RdD K H (.str x) (.str x)
 |lst {a:Addr} {xs:List V} {ds:List Ad}:SqL K H a xs->RdAll K H xs ds->RdD K H (.ref a) (.list ds)
 |tup {a:Addr} {xs:List V} {ds:List Ad}:SqT K H a xs->RdAll K H xs ds->RdD K H (.ref a) (.tuple ds)
inductive RdAll (K:Ai) (H:Hp):List V->List Ad->Prop
 |nil:RdAll K H [] []
 |cons {x:V} {xs:List V} {d:Ad} {ds:List Ad}:RdD K H x d->RdAll K H xs ds->RdAll K H (x::xs) (d::ds)
end
section
variable {X:Cx} {pins:List (Addr×Obj)} {σ:St} {H:Hp} {s:Ak}
mutual
theorem RdD.reads (I:Inv X pins σ H s):∀{v:V} {d:Ad} {u:Af},RdD X.K H v d->RelV v u->∃as,Reads s.heap u d as
 |_,_,u,.non,r=>by
  cases(show u=Be from r);exact⟨_,.none⟩
 |_,_,u,.bl b,r=>by
  cases(show u=Value.bool b from r);exact⟨_,.bool b⟩
 |_,_,u,.int i,r=>by
  obtain⟨t,rfl⟩:=(show ∃t,u=Value.int i t from r);exact⟨_,.int i t⟩
 |_,_,u,.str x,r=>by
  obtain⟨t,rfl⟩:=(show ∃t,u=Value.str x t from r);exact⟨_,.str x t⟩
 |_,_,u,.lst (a:=a) h1 h2,r=>by
  cases(show u=A7 a from r);obtain⟨its,rv,⟨o,n,e,c,_,d⟩,_⟩:=I.list h1;obtain⟨as,ha⟩:=RdAll.reads I h2 rv;exact⟨_,.list e c d (by simpa using ha)⟩
 |_,_,u,.tup (a:=a) h1 h2,r=>by
  cases(show u=A7 a from r);obtain⟨its,rv,⟨o,e,c,n,d⟩,_⟩:=I.tuple h1;obtain⟨as,ha⟩:=RdAll.reads I h2 rv;exact⟨_,.tuple e c d (by simpa using ha)⟩
theorem RdAll.reads (I:Inv X pins σ H s):∀{vs:List V} {ds:List Ad} {us:List Af},RdAll X.K H vs ds->Vals vs us->∃as,ReadsAll s.heap us ds as
 |_,_,_,.nil,.nil=>⟨_,.nil⟩
 |_,_,_,.cons h1 h2,.cons r1 r2=>by
  obtain⟨as,ha⟩:=RdD.reads I h1 r1;obtain⟨bs,hb⟩:=RdAll.reads I h2 r2;exact⟨_,.cons ha hb⟩
end
end
def Small (d:Ad):Prop:=Fa d=true/\E9 d<=20/\Fo d<=2 ^ 20/\Em 13 d=true/\Ey d=true
theorem Small.len {d:Ad} (h:Small d):d.shown.length<=A1:=by
 have hl:PyData.layable0 d=true:=by
  unfold PyData.layable0;rw[h.1,decide_eq_true (show E9 d<=64 by have:=h.2.1;omega),decide_eq_true h.2.2.1];rfl
 have:=shown_le13 hl h.2.2.2.1;rw[Dn];omega
theorem Small.noDict {d:Ad} (h:Small d):d.hasDict=false:=PyData.hasDict_of_canLay d h.1
theorem jxo {X:Cx} (hg:X.A.guards=some []) (hu:X.A.units+64 < Ef):CallR X (.builtin "repr") (λxs H Q=>∃a d,xs=[.ref a]/\RdD X.K H (.ref a) d/\Small d/\Q (.str d.shown) H):=by
 intro pins s σ H xs us Q I r h;obtain⟨a,d,rfl,hd,hs,q⟩:=h;obtain⟨u,rfl,ru⟩:=jni r;cases(show u=A7 a from ru);obtain⟨as,hr⟩:=RdD.reads I hd (show RelV (.ref a) (A7 a)from rfl);have hdp:=hs.2.1;refine repr_of_reads' hr hs.2.2.2.2 (PyData.noDict_hsm hs.noDict) hg (by omega) (λ_ _ e=>e) (λh' u tk hk=>?_) hs.len;exact⟨.str d.shown,H,I.kept hk,⟨u,rfl⟩,q⟩
def jsi (K:Ai):R2:=λx y H Q=>∃a b xs,x=.ref a/\y=.ref b/\SqL K H a xs/\SqL K H b []/\Q (.bl xs.isEmpty) H
theorem jzd {X:Cx} (hu:X.A.units < Ef):OpR X (Bu .Eq) (jsi X.K):=by
 intro pins s σ H x y v u Q I rx ry h;obtain⟨a,b,xs,rfl,rfl,ha,hb,q⟩:=h;cases(show v=A7 a from rx);cases(show u=A7 b from ry);obtain⟨its,r1,p1,_⟩:=I.list ha;obtain⟨its2,r2,p2,_⟩:=I.list hb;have e2:its2=[]:=Vals.zero r2;subst e2;cases r1 with
 |nil=>exact PySem.SeqAt.eq_listAt (e:=λ_=>true) p1.isList p2.isList rfl hu (λj h1=>absurd h1 (by simp)) ⟨.bl true,H,I,(by rfl),q⟩
 |cons r1 r3=>exact PySem.SeqAt.eq_list_lengthsAt p1.isList p2.isList (by simp) hu ⟨.bl false,H,I,rfl,q⟩
def j5u (K:Ai):R2:=λx y H Q=>∃a b xs ys,x=.ref a/\y=.ref b/\SqT K H a xs/\SqT K H b ys/\ys≠[]/\xs.length+ys.length<=A1 /\
 (xs=[]->Q (.ref b) H)/\(xs≠[]->∀p,H p=none->Q (.ref p) (upd H p (.tup (xs++ys))))
theorem op_catA {X:Cx}:OpR X (Ec .Add) (j5u X.K):=by
 intro pins s σ H x y v u Q I rx ry h;obtain⟨a,b,xs,ys,rfl,rfl,ha,hb,hy,hz,q0,q2⟩:=h;by_cases hx:xs=[]
 ·cases(show v=A7 a from rx);cases(show u=A7 b from ry);obtain⟨its,r1,p1,_⟩:=I.tuple ha;obtain⟨its2,r2,p2,_⟩:=I.tuple hb;obtain⟨⟨cls,dd,data,sl⟩,ho,hc,n,hd⟩:=id p1;obtain⟨⟨cls2,dd2,data2,sl2⟩,ho2,hc2,n2,hd2⟩:=id p2;simp only at hc hd hc2 hd2;subst hc hd hc2 hd2;have hi:its=[]:=r1.nil_iff.mpr hx;exact concat_meets ⟨_,ho,rfl⟩ ⟨_,ho2,rfl⟩ noFill_tuple_add seq_tuple_add E7 E2 (Eu _ _)
   (tuple_addW0 a b its.toArray its2.toArray n n2 dd dd2 sl sl2 (by simp[hi])) ⟨ho,ho2,⟨.ref b,H,I,rfl,q0 hx⟩⟩
 ·exact op_catT pins s σ H (.ref a) (.ref b) v u Q I rx ry ⟨a,b,xs,ys,rfl,rfl,ha,hb,hx,hz,λe=>absurd e hy,λ_=>q2 hx⟩
theorem j0c {X:Cx} {T:String}:CallR X (.builtin "isinstance") (λxs H Q=>∃x t b,xs=[x,.ty T]/\TyOf X.K H x t/\PySem.W.kitOne X.K t (.type T)=some b/\Q (.bl b) H):=by
 intro pins s σ H xs us Q I r h;obtain⟨x,t,b,rfl,ty,e,q⟩:=h;obtain⟨u,u',rfl,ru,ru'⟩:=j18 r;cases(show u'=D8 T from ru');exact jwt I ru ty e λtk=>⟨.bl b,H,I.tok tk,rfl,q⟩
section
variable {prog:Bg} {w:Br} {A:B4} {E:Af->Ak->Prop} {s:Ak}
theorem jf5:entryFor table "dict.update.loop"=some D4.«dict.update.loop»:=Ge (by kernel_rfl)
theorem jcr:plainId "dict.update.loop"=true:=by decide +kernel
theorem jwo:typeLookup (.type "tuple") "keys"=pure none:=by rw[typeLookup_type,builtinLookup_eq_fast];kernel_rfl
theorem jtt {a:Addr} {its:List Af} {Q:List Af->Ak->Prop} (p:IsTup s.heap a its.toArray) (h:Q its s):A4 (Ba prog w) A (Builtin.Dict.pairItems (.ref a)) Q E s:=by
 obtain⟨o,ho,hc,n,hd⟩:=id p;unfold Builtin.Dict.pairItems;refine Aa (Ft (show s.TypeIs (.ref a) "tuple" from⟨o,ho,hc⟩) ?_);rw[if_pos (by decide)];refine Aa (Dd ho hd (Al ?_));simpa using h
set_option maxRecDepth 8000 in
theorem joi {a:Addr} {o:Obj} {xs:Array Af} {k:Nat} {name:Str} {Q:Option Af->Ak->Prop}
  (hx:s.heap.get? a=some o) (hc:o.cls=.type "tuple") (hdat:o.data=.seq xs k) (hd:o.dict=none) (hmiss:typeLookup (.type "tuple") name=pure none) (hname:(["__module__","__name__","__qualname__","__doc__","__annotations__"]:List Str).contains name=false) (hA:A.handled=none)
  (h:∀h' tk e,Heap.NewExcOf s.heap h' e "AttributeError"->Q none {s with heap:=h',toks:=tk}) (hsz:name.length+100<=A1:=by size_fits) :
  A4 (Ba prog w) A (getAttr? (.ref a) name) Q E s:=by
 obtain⟨c,dct,dat,sl⟩:=o;simp only at hc hdat hd;subst hc hdat hd;obtain⟨hp,g,d,tk,os⟩:=s;have hT:∀tk',(⟨hp,g,d,tk',os⟩:Ak).TypeIs (.ref a) "tuple":=λ_=>⟨_,hx,rfl⟩;have f1:=sub_AttributeError;have f3:=F.slot_tuple_getattribute.lookup;have f4:=F.slot_tuple_getattribute.bind (.ref a);have f5:=am_tuple_getattr_none;unfold getAttr? getAttrBy? getAttrBy
 repeat (any_goals (first | assumption | exact hT _ | ((with_reducible show A4 _ _ (call (Value.builtin "tuple.__getattribute__") _ _) _ _ _);refine call_meets F.slot_tuple_getattribute (hT _) am_entry_tuple_getattribute (F.args_tuple_getattribute_2 _ _) (meets_getattribute_miss_tuple a xs k sl name _ hmiss hname hsz) ⟨hx,hA,λh' tk' e hx'=>?_⟩) | wp_step))
 obtain⟨t',u',he⟩:=hx'.there;show A4 _ _ (getattributeRaised _ _ _ _ _ _ _) _ _ _;unfold getattributeRaised
 repeat (any_goals (first | assumption | wp_step))
 exact h _ _ _ hx'.of
end
section
variable {X:Cx} {pins:List (Addr×Obj)} {σ:St} {A:B4} {R:Result->Ak->Prop}
theorem SqT.upd {K:Ai} {H:Hp} {a d:Addr} {xs:List V} {o:HO} (h:H a=some (.tup xs)) (hd:a≠d):(L2.upd H d o) a=some (.tup xs):=by rw[jap hd];exact h
theorem jx9 (hA:A.handled=none) {src d it:Addr} (ps:List (Addr×Key×V)):∀(n i:Nat) (H:Hp) (s:Ak) (kvs:List (Key×V)),n+i=ps.length->Inv X pins σ H s->H d=some (.dK kvs)->kvs.length+n<=A1 ->
  H src=some (.tup (ps.map λp=>.ref p.1))->(∀p∈ps,H p.1=some (.tup [kV p.2.1,p.2.2]))->s.heap.IsTupleIter it src i->FpOk X pins H it ->
  (∀H' s',Inv X pins σ H' s'->H'=L2.upd H d (.dK (jeq kvs ((ps.drop i).map (·.2))))->R (.ok (.ret .none)) s') ->
  Fg (Ba X.prog X.w) A (.builtin "dict.update.loop" ⟨[.ref d,.ref it,Cf i,.none],[]⟩) R s:=by
 intro n
 induction n with
 |zero =>
  intro i H s kvs hn I hd hz hs hp st f hR;obtain⟨its,rv,p,_⟩:=I.tuple (SqT.of (K:=X.K) hs);obtain⟨f0,f1,f2,f3,f4,f5⟩:=f;refine Dz jf5 ?_;rw[C6 jcr _];show A4 _ _ (D6 (.ref it)>>=_) _ _ s;have hl:=rv.length;rw[Ab]at hl;refine Aa (wpAny_pyNext_tuple_end (A:=A.in1) hA st (show s.heap.IsTuple src its.toArray from p) (by simp;omega) λh' eb=>?_);show A4 _ _ (Builtin.Dict.addKeywords d []>>=_) _ _ _;refine Aa (Al (Al ?_));refine hR H _ (I.turned (t':=s.toks) (λb o hb e=>eb b o hb e) f0 f1 f3 f4 f5) ?_;have e1:ps.drop i=[]:=List.drop_eq_nil_of_le (by omega);rw[e1]
  funext b
  unfold L2.upd
  split
  ·rename_i hb;rw[hb,hd];rfl
  ·rfl
 |succ n ih =>
  intro i H s kvs hn I hd hz hs hp st f hR;obtain⟨its,rv,p,_⟩:=I.tuple (SqT.of (K:=X.K) hs);obtain⟨f0,f1,f2,f3,f4,f5⟩:=id f;have hi:i < ps.length:=by omega
  have hpi:(ps.map λp=>V.ref p.1)[i]?=some (V.ref (ps[i]).1):=by simp[hi]
  obtain⟨u,hu,ru⟩:=rv.get hpi;cases(show u=A7 (ps[i]).1 from ru);have hmem:ps[i]∈ps:=C5 hi;have hq:=hp _ hmem;refine Dz jf5 ?_;rw[C6 jcr _];show A4 _ _ (D6 (.ref it)>>=_) _ _ s;refine Aa (wpAny_pyNext_tuple_item st (show s.heap.IsTuple src its.toArray from p) (x:=A7 (ps[i]).1) (by simpa using hu) λh1 st1 sb=>?_);have I1:Inv X pins σ H {s with heap:=h1}:=I.turned (t':=s.toks) (λb o hb e=>(sb.2 b hb).trans e) f0 f1 f3 f4 f5;obtain⟨its1,rv1,p1,_⟩:=I1.tuple (SqT.of (K:=X.K) hq);obtain⟨u1,u2,rfl,r1,r2⟩:=j18 rv1;refine Aa (Ck ?_);refine Aa (wpAny_tryCatch (jtt p1 ?_));obtain⟨z,hdS,vs,rel,dd⟩:=j32 I1.hok hd;have hz1:vs.length<=A1:=by rw[<-rel.length];exact z
  have hl1:=jc9 kvs (ps[i]).2.1 (ps[i]).2.2;refine Ck (wpAny_dictSet_pairs (hsz:=hz1) (jpz r1) dd λh2 dd2 hs2=>?_);have he2:∃q,h2.get? d=some q:=let⟨q,_,_,hq,_⟩:=dd2;⟨q,hq⟩;have I2:=jop (t':=s.toks+1) I1 (by rw[hd];exact Dv) hs2 he2 (jw6 (by omega) hdS (rel.put (ps[i]).2.1 r2) dd2);have nd:∀b xs,H b=some (.tup xs)->b≠d:=λb xs e z=>by rw[z,hd]at e;cases e
  have nit:it≠d:=λz=>by rw[z,hd]at f0;cases f0
  have hc:((i:Int)+1)=((i+1:Nat):Int):=by push_cast;rfl
  show A4 _ _ (pure (Fin.again (.builtin "dict.update.loop" ⟨[.ref d,.ref it,Cf ((i:Int)+1),.none],[]⟩))) _ _ _;refine Al ⟨Fc jcr _,?_⟩;rw[hc];refine ih (i+1) _ _ (putK kvs (ps[i]).2.1 (ps[i]).2.2) (by omega) I2 jao (by omega) (SqT.upd (K:=X.K) hs (nd _ _ hs)) (λq hq'=>SqT.upd (K:=X.K) (hp q hq') (nd _ _ (hp q hq'))) (by
   obtain⟨o,e,r⟩:=st1;exact⟨o,(hs2.2 it nit).trans e,r⟩) ⟨by rw[jap nit];exact f0,f1,f2,f3,f4,f5⟩ λH' s' I' e=>?_
  refine hR H' s' I' ?_;rw[e,juo,Dq hi];rfl
theorem jbn {n:Nat} (h:n<=1000):n<=A1:=Fm (jpf h)
theorem jud (hh:X.A.handled=none):CallR X (.type "dict") (λxs H Q=>∃(src:Addr) (ps:List (Addr×Key×V)),xs=[.ref src]/\H src=some (.tup (ps.map λp=>V.ref p.1))/\(∀p∈ps,H p.1=some (.tup [kV p.2.1,p.2.2]))/\ps.length<=1000 /\
  ∀l,H l=none->Q (.ref l) (L2.upd H l (.dK (jeq [] (ps.map (·.2)))))):=by
 intro pins s σ H xs us Q I r h;obtain⟨src,ps,rfl,hs,hp,hlen,q⟩:=h;obtain⟨u,rfl,ru⟩:=jni r;cases(show u=A7 src from ru);have big:=I.big;refine callType_codes (Q₁:=λobj s₁=>obj=.ref s.heap.objs.size/\s₁={ s with heap:=s.heap.push {cls:=.type "dict",data:=.dict #[]}}) F.kt_called_dict (F.kt_typeCall_dict_1 _) F.entry_dict_init (kt_code_dict_new _ ⟨rfl,rfl⟩) ?_
 rintro obj s₁ ⟨rfl,rfl⟩
 have hfr:H s.heap.objs.size=none:=I.fresh;have I1:Inv X pins σ (L2.upd H s.heap.objs.size (.dK [])) {s with heap:=s.heap.push {cls:=.type "dict",data:=.dict #[]}}:=I.laid (t':=s.toks) (λb o e=>Ae _ e) (An _) (jom s.heap big);have nd:∀b xs,H b=some (.tup xs)->b≠s.heap.objs.size:=λb xs e z=>by rw[z,hfr]at e;cases e
 have hs1:=SqT.upd (K:=X.K) (o:=.dK []) hs (nd _ _ hs);obtain⟨zz,its,rv,o,ho,hc,⟨n,hdat⟩,hd⟩:=(show ObjOk X.prog X.w _ _ src (.tup _)from I1.hok src _ hs1);have hnew:(s.heap.push {cls:=.type "dict",data:=.dict #[]}).DictOf (jbr X.prog X.w) s.heap.objs.size []:=Heap.DictOf.new s.heap;refine⟨hnew.typeIs,F.args_dict_init_2 _ _,?_⟩;unfold D4.«dict.__init__»;refine Aa ?_;unfold Builtin.Dict.selfAndRest;refine Aa (wpAny_notOrdered_dict hnew.typeIs ?_);show A4 _ _ (pure (s.heap.objs.size,[A7 src])) _ _ _;refine Al ?_;show A4 _ _ (Builtin.Dict.updateFrom "dict.__init__" s.heap.objs.size (.ref src) [] .none) _ _ _;unfold Builtin.Dict.updateFrom;refine Aa (Ft (T:="tuple") ⟨o,ho,hc⟩ ?_);rw[if_pos (by decide)];refine Aa (joi ho hc hdat hd jwo (by decide +kernel) hh (λh' tk e ne=>?_));have I2:=I1.kept (t':=tk) ne.keeps;have p2:IsTup h' src its.toArray:=IsTup.keeps ⟨o,ho,hc,n,hdat⟩ ne.keeps;show A4 _ _ (rule _>>=_) _ _ _;refine Aa (Gc ?_);refine Aa (C9 (show Heap.IsTuple h' src its.toArray from p2) ?_);refine Al ⟨Fc jcr _,?_⟩;have I3:=I2.kept (t':=tk) (λb o e=>Ae {cls:=.type "tuple_iterator",data:=.fields #[.ref src,.int 0 0]} e);refine jx9 (A:=X.A.in1) hh ps ps.length 0 _ _ [] (by omega) I3 jao (by simp only[List.length_nil];exact jbn (by omega)) hs1 (λq hq=>SqT.upd (K:=X.K) (hp q hq) (nd _ _ (hp q hq))) ⟨_,A2 _ rfl,rfl,rfl⟩ (I2.fpOk (An _) I2.fresh) λH' s' I' e=>?_;refine⟨rfl,.ref s.heap.objs.size,H',I',rfl,?_⟩;rw[e,juo];exact q _ hfr
end
theorem jv8 {X:Cx}:OpR X (Bu .LtE) (λx y H Q=>∃i j,x=.str i/\y=.str j/\Q (.bl (!decide (j.cps.toList < i.cps.toList))) H):=by
 intro pins s σ H x y v u Q I rx ry h;obtain⟨i,j,rfl,rfl,q⟩:=h;obtain⟨t,rfl⟩:=rx;obtain⟨t',rfl⟩:=ry;exact P.le_str (jbm I q rfl)
theorem jwa {X:Cx}:OpR X (Bu .Gt) (λx y H Q=>∃i j,x=.str i/\y=.str j/\Q (.bl (decide (j.cps.toList < i.cps.toList))) H):=by
 intro pins s σ H x y v u Q I rx ry h;obtain⟨i,j,rfl,rfl,q⟩:=h;obtain⟨t,rfl⟩:=rx;obtain⟨t',rfl⟩:=ry;exact P.gt_str (jbm I q rfl)
def tyD:Ad->String
 |.none=>"NoneType"
 |.bool _=>"bool"
 |.int _=>"int"
 |.str _=>"str"
 |.list _=>"list"
 |.tuple _=>"tuple"
 |.dict _=>"dict"
def isiB (T:String) (d:Ad):Bool:=tyD d==T || (T=="int"&&tyD d=="bool")
def jat (h:Str):Ad->Bool
 |.str x=>decide (x=h)
 |_=>false
theorem jmw {X:Cx} {elt tg iter:Expr} {ifs:List Expr} {scope:Scope} {cl:List (Str×Addr)} {cpos pos pos':Pos} {N:List Str} {fr:List (Option Nat)} {wi:TI} {g:TG} {tt:TT} {te:TE} {i:Nat} {x:Str}
  (hN:X.N.Nodup) (hix:X.N[i]?=some x) (hx:X.env.scope.names.lookup x=some .local)
  (hc:X.calm=true) (S:CompSc X N scope cl fr) (hi:PI X tg iter wi) (hg:∀s H fp,PG (jbo X N scope cl s H fp) tg g) (ht:∀s H fp,PIf (jbo X N scope cl s H fp) ifs tt)
  (he:∀s H fp,PE (jbo X N scope cl s H fp) elt te) (hs:∀x,D2 iter X.env x=pure x:=by intro _;rfl)
  (hsw:Do (.ListComp elt [⟨tg,iter,ifs,0⟩] scope cpos) (some (.Name x pos')) pos.line X.env=pure true:=by rfl) :
  PS X (.Assign [.Name x pos'] (.ListComp elt [⟨tg,iter,ifs,0⟩] scope cpos) pos) (tAsg (jut fr wi g tt te) (jhs i)):=by
 intro pins s σ H D I h;rw[exec_Assign_Name_used _ _ _ _ hsw];refine Aa (wpAny_standAt (Aa ?_));show A4 _ _ (do let _ <-comprehension (.ListComp elt [⟨tg,iter,ifs,0⟩] scope cpos) scope X.env (firstIterPos [⟨tg,iter,ifs,0⟩] cpos) (newList []) (firstAsync [⟨tg,iter,ifs,0⟩]) (firstIter [⟨tg,iter,ifs,0⟩] X.env) (some (assign (.Name x pos') X.env))) _ _ s;refine Aa ?_;have fin:∀(u:Unit) (s':Ak),SP X pins D .next s'->A4 (Ba X.prog X.w) X.A (pure Flow.next) (SP X pins D) X.xe s':=λ_ s' z=>Al z
 refine thn (Q:=λ_ s'=>SP X pins D .next s') ?_ λ_ s' z=>Al (Al z);refine wpAny_comprehension_free (use:=some (assign (.Name x pos') X.env)) (cl:=cl) rfl hs S.clos S.kind S.names (thn (hi pins s σ H _ I h) λv s1 h1=>thn h1 λitv s2 h2=>?_);obtain⟨it,fp,tn,J,H2,e,I2,T,st2,f2,q⟩:=h2;subst e;refine Bt (wpAny_newFunctionEnv S.nocell (by intro y hy;simp at hy) (λh₁ hn hsb=>?_) S.kind);dsimp only at hn hsb ⊢;obtain⟨W,⟨m0,w0⟩,turn⟩:=q s2.heap.objs.size I2.fresh
 -- the state with the new list
 have I3:Inv X pins σ (upd H2 s2.heap.objs.size (.lst [])) {s2 with heap:=s2.heap.push {cls:=.type "list",dict:=none,data:=.seq ([]:List Af).toArray}}:=I2.lnew (its:=[]) (t':=s2.toks) .nil (Bm _);have key:∀s3:Ak,s3={ s2 with heap:=s2.heap.push {cls:=.type "list",dict:=none,data:=.seq ([]:List Af).toArray}}->Inv X pins σ (upd H2 s2.heap.objs.size (.lst [])) s3 ->
   ∀(ob:Obj) (mm:Str->Option Af),Cs s3.heap.objs.size (s3.heap.push ob) h₁->h₁.Ns s3.heap.objs.size mm ->
   Fg (Ba X.prog X.w) X.A (.compStart (.ListComp elt [⟨tg,iter,ifs,0⟩] scope cpos) 0 (.ref it) (.ref s2.heap.objs.size) (compEnvC scope cl s3.heap.objs.size X.env))
    (compPost (Ba X.prog X.w) X.A X.xe (some (assign (.Name x pos') X.env)) (λ_ s'=>SP X pins D .next s') (.ref s2.heap.objs.size) s3.heap.objs.size) {s3 with heap:=h₁,toks:=s3.toks+([]:List (Str×Af)).length}:=?key
 ·exact key _ rfl I3 _ _ hsb hn
 clear I3 hn hsb;intro s3 hs3 I3 ob mm hsb hn;have hfp:∀b∈fp,∃o,s2.heap.get? b=some o:=λb hb=>let⟨o,e,_⟩:=T.obj _ _ st2 b hb;⟨o,e⟩;have up:∀b o,s2.heap.get? b=some o->s3.heap.get? b=some o:=λb o e=>by rw[hs3];exact Ae _ e
 have f3:∀b∈fp,FpOk X pins (upd H2 s2.heap.objs.size (.lst [])) b:=λb hb=>by
  obtain⟨o,e⟩:=hfp b hb;obtain⟨g0,gr⟩:=f2 b hb;exact⟨by rw[jap (Bb (Av e))];exact g0,gr⟩
 have hlt:∀b∈fp,b < s3.heap.objs.size:=λb hb=>let⟨o,e⟩:=hfp b hb;Av (up b o e);generalize hH3:upd H2 s2.heap.objs.size (.lst [])=H3 at I3 f3 w0;have I4:=jm9 (t':=s3.toks+([]:List (Str×Af)).length) S I3 f3 hlt hsb hn;have st4:tn 0 h₁:=T.keep _ _ _ st2 λb hb o e=>(hsb.2 b (Bb (Av (up b o e)))).trans (Ae _ (up b o e));have stat:∀{H':Hp},(∀b∈fp,H' b=none)->∀b∈fp,FpOk (jbo X N scope cl s3 H3 fp) [] H' b:=λhn b hb=>by
  obtain⟨_,k1,k2,k3,k4,k5⟩:=f3 b hb;refine⟨hn b hb,Bb (hlt b hb),λz=>?_,.inl hb,λx c e=>k4 x c (S.sub x c e),λp hp=>absurd hp (by simp[jbo])⟩;rcases As.mp (I3.stkSub b z)with e | e
  ·exact k1 e
  ·exact k2 e
 have loop:Fg (Ba X.prog X.w) X.A (.compLoop (.ListComp elt [⟨tg,iter,ifs,0⟩] scope cpos) 0 (.ref it) (.ref s2.heap.objs.size) (compEnvC scope cl s3.heap.objs.size X.env))
   (compPost (Ba X.prog X.w) X.A X.xe (some (assign (.Name x pos') X.env)) (λ_ s'=>SP X pins D .next s') (.ref s2.heap.objs.size) s3.heap.objs.size) {s3 with heap:=h₁,toks:=s3.toks+([]:List (Str×Af)).length}:=by
  refine jim (λn s'=>∃i ys τ Hc,Inv (jbo X N scope cl s3 H3 fp) [] τ Hc s'/\tn i s'.heap/\(∀b∈fp,Hc b=none)/\W i n ys τ Hc) ?_ m0 ⟨0,[],capt fr σ,H3,I4,st4,λb hb=>(f3 b hb).1,w0⟩
  rintro n s5 ⟨i,ys,τ,Hc,I5,st5,fr5,w5⟩
  rcases turn i n ys τ Hc w5 with⟨stop,qn⟩ | ⟨go,hz,step⟩
  ·refine thn (T.done (jbo X N scope cl s3 H3 fp) rfl rfl rfl hc i [] s5 τ Hc (λ_ _=>False) I5 (stat fr5) st5 stop) λr s6 ⟨hr,I6⟩=>?_;subst hr;obtain⟨mm,hm,_⟩:=I6.loc;have I6x:Inv X pins σ Hc s6:=js8 I3 f3 I6 (Heap.SameBut.refl _ _);have hC:Hc s3.heap.objs.size=none:=I6.free;obtain⟨_,c1,_,c3,c4,c5⟩:=I3.fpOk (H':=Hc) (An _) hC;show A4 (Ba X.prog X.w) X.A (assign (.Name x pos') X.env (.ref s2.heap.objs.size)) _ X.xe s6;refine wpAny_assign_Name (jpe I6x hN hix (.inl hx) (show RelV (.ref s2.heap.objs.size) (A7 s2.heap.objs.size)from rfl) (λs7 I7 hsb=>?_) (.inr hx));obtain⟨ad,hsb,had⟩:=hsb;have hne:s3.heap.objs.size≠ad:=by
    rcases had with z | z
    ·rw[z];exact c1
    ·exact λq=>c4 x ad z q.symm
   obtain⟨oo,es,ep,ho,rr⟩:=hm;refine⟨mm,⟨oo,es,ep,(hsb.2 _ hne).trans ho,rr⟩,λh' hs'=>⟨_,Hc,?_,qn⟩⟩;have ne:∀b,b∉[s3.heap.objs.size]->b≠s3.heap.objs.size:=λb z q=>z (by rw[q];exact Bd.mpr rfl);have hok':HOk X.prog X.w Hc h':=λb o e=>by
    refine(I7.hok b o e).stay (λc v hc z=>(hs'.2 c ?_).trans z) (λ_ z=>z) λ_ _ z=>z
    rintro rfl
    rcases hc with z | z
    ·rw[<-z,hC]at e;cases e
    ·rw[hC]at z;cases z
   refine I7.call' (s':={ s7 with heap:=h'}) (ch:=[s3.heap.objs.size]) rfl ?_ hok' I7.bare λb hb=>?_
   ·exact⟨λb o e n h1 h2=>(hs'.2 b (ne b h2)).trans e,λb o e n h1 h2=>⟨o.slots,(hs'.2 b (ne b h2)).trans e⟩,λb o e n h2=>n,λb o e h2=>⟨o,(hs'.2 b (ne b h2)).trans e⟩,λ_ _ z=>z,λ_ _ _ z=>z,λb ps z=>⟨#[],by rw[Array.append_empty];exact z⟩⟩
   ·cases Bd.mp hb;exact⟨c3,c1,c4,c5⟩
  ·refine thn (T.item (jbo X N scope cl s3 H3 fp) rfl rfl rfl hc i [] s5 τ Hc (λ_ _=>False) I5 (stat fr5) st5 go) λr s6 ⟨u,hr,h6⟩=>?_;subst hr;refine thn h6 λ_ s7 ⟨x,H7,I7,r7,y7,st7,fr7⟩=>?_;have I7':=I7.pinned (stat fr7) (T.obj _ _ st7);refine thn (hg s3 H3 fp _ s7 τ H7 x u _ I7' r7 (step x H7 y7)) λ_ s8 ⟨τ8,H8,I8,q8⟩=>?_;refine thn (ht s3 H3 fp _ s8 τ8 H8 _ I8 q8) λok s9 ⟨H9,I9,q9⟩=>?_;have keep:∀{st:Ak} {τ':St} {H':Hp},Inv (jbo X N scope cl s3 H3 fp) ([]++jmy fp s7.heap) τ' H' st->tn (i+1) st.heap/\∀b∈fp,H' b=none:=λ{st τ' H'} Ix=>by
    refine⟨T.keep _ _ _ st7 λb hb o e=>(Ix.pin (b,o) (Bc _ (Bc _ (jc4 hb e)))).1,λb hb=>?_⟩;obtain⟨o,e,d⟩:=T.obj _ _ st7 b hb;exact(Ix.pin (b,o) (Bc _ (Bc _ (jc4 hb e)))).2.1
   cases ok with
   |false =>
    rw[if_neg Ag]at q9 ⊢;obtain⟨m',hm,w9⟩:=q9;obtain⟨k1,k2⟩:=keep I9;exact⟨m',hm,i+1,ys,τ8,H9,I9.unpinned,k1,k2,w9⟩
   |true =>
    rw[if_pos rfl]at q9 ⊢;refine thn (he s3 H3 fp _ s9 τ8 H9 _ I9 q9) λxv s10 ⟨y,H10,I10,r10,hD,m',hm,w10⟩=>?_;refine thn (jj2 _ s10 τ8 H10 (.ref s2.heap.objs.size) [y] (.ref s2.heap.objs.size) [xv] (λz H'=>∃m',m' < n/\W (i+1) m' (ys++[y]) τ8 H') I10 rfl (.cons r10 .nil) ⟨_,ys,y,rfl,rfl,hD,hz,m',hm,w10⟩) λz s11 ⟨z',H11,I11,_,m'',hm',w11⟩=>?_;obtain⟨k1,k2⟩:=keep I11;exact⟨m'',hm',i+1,ys++[y],τ8,H11,I11.unpinned,k1,k2,w11⟩
 exact codeAny_compStart_list loop (T.self _ 0 _ _ _ st4 loop)
end L2
set_option Elab.async false
set_option maxRecDepth 100000
namespace Nb
open PySem L2
def Kp (t:Addr) (H H':Hp):Prop:=∀b o,H b=some o->b≠t->H' b=some o
theorem Kp.refl (t:Addr) (H:Hp):Kp t H H:=λ_ _ h _=>h
theorem Kp.trans {t:Addr} {H H1 H2:Hp} (a:Kp t H H1) (b:Kp t H1 H2):Kp t H H2:=λc o h n=>b c o (a c o h n) n
theorem Kp.new {t p:Addr} {H:Hp} {o:HO} (h:H p=none):Kp t H (upd H p o):=λc o' e _=>by
 rw[jap (jal e h)];exact e
theorem Kp.tape {t:Addr} {H:Hp} {o:HO}:Kp t H (upd H t o):=λc o' e n=>by
 rw[jap n];exact e
structure TL where
 s:Addr
 g:Addr
def exOf (l:TL):List V:=if jur=true then[.ref l.g]else[]
structure Tp (H:Hp) (t:Addr) (l:TL) (ns:List Int) (n:Int):Prop where
 ob:∃a b:Int,H t=some (.lst (.ref l.s::.int a::.int b::exOf l))/\0<=a/\a<=n
 ls:H l.s=some (.lst (ns.map V.int))
 len:ns.length<=63
 ag:jur=true->H l.g=some (.lst j0k)
 gne:l.g≠t
theorem Tp.ne {H:Hp} {t:Addr} {l:TL} {ns:List Int} {n:Int} (T:Tp H t l ns n):t≠l.s:=by
 obtain⟨a,b,h,_⟩:=T.ob;refine j6j h T.ls λz=>?_;have z':(.ref l.s::.int a::.int b::exOf l:List V)=ns.map V.int:=HO.lst.inj z;cases ns with
 |nil=>cases z'
 |cons m r =>
  rw[Bi]at z';have:=(Fi z').1;cases this
theorem Tp.other {H:Hp} {t p:Addr} {l:TL} {ns:List Int} {n:Int} {o:HO} (T:Tp H t l ns n) (h1:t≠p) (h2:l.s≠p) (h3:jur=true->l.g≠p):Tp (upd H p o) t l ns n:=by
 obtain⟨a,b,e,h⟩:=T.ob;exact⟨⟨a,b,by rw[jap h1];exact e,h⟩,by rw[jap h2];exact T.ls,T.len,λz=>by rw[jap (h3 z)];exact T.ag z,T.gne⟩
theorem Tp.new {H:Hp} {t p:Addr} {l:TL} {ns:List Int} {n:Int} {o:HO} (T:Tp H t l ns n) (h:H p=none):Tp (upd H p o) t l ns n:=by
 obtain⟨a,b,e,_⟩:=T.ob;exact T.other (jal e h) (jal T.ls h) λz=>jal (T.ag z) h
theorem j4j {xs:List V} {r:Int} (h0:0<=r) (h1:r < xs.length):∃v,atI xs r=some v/\v∈xs:=by
 obtain⟨j,rfl⟩:=Gr h0;have hj:j < xs.length:=by omega
 exact⟨xs[j],jbx (Aj hj),C5 hj⟩
theorem small {n:Nat} (h:n<=1000):n<=A1:=Fm (jpf h)
theorem jbk:B3 "tuple"=some (.type "tuple"):=by decide +kernel
theorem j1z:B3 "int"=some (.type "int"):=by decide +kernel
theorem jtc:B3 "str"=some (.type "str"):=by decide +kernel
theorem jff:B3 "repr"=some (.builtin "repr"):=by decide +kernel
theorem j7x:B3 "isinstance"=some (.builtin "isinstance"):=by decide +kernel
theorem jxq:B3 "list"=some (.type "list"):=by decide +kernel
theorem j4h:B3 "bool"=some (.type "bool"):=by decide +kernel
theorem j84 {xs:List V} (h:xs.length<=63):cutV xs none (some 63)=xs:=by
 unfold cutV;have e1:HT.sIx xs.length 0 none=0:=rfl;have e2:HT.sIx xs.length xs.length (some 63)=xs.length:=by
  have e:=HT.sIx_nat xs.length xs.length 63;rw[show((63:Nat):Int)=63 from rfl]at e;rw[e];omega
 rw[e1,e2,Eo,Nat.sub_zero,List.take_length]
def jr9 (K:Ai):Sp:=λvs H Q _=>∃(a:Addr) (ns:List Int),vs=[.ref a]/\SqL K H a (ns.map V.int)/\ns.length<=63 /\
 ∀(t:Addr) (l:TL) (H':Hp),Tp H' t l ns 0->(∀b o,H b=some o->H' b=some o)->Q (.ref t) H'
def j0z:Sp:=λvs H Q _=>∃(t:Addr) (l:TL) (ns:List Int) (n many:Int),vs=[.ref t,.int many]/\Tp H t l ns n/\n < 2 ^ 40/\0 < many/\many < 1073741824 /\
 ∀(r:Int) (H':Hp),0<=r->r < many->Tp H' t l ns (n+1)->Kp t H H'->Q (.int r) H'
end Nb
namespace DL
open PySem L2 Nb
abbrev D:=Ad
mutual
inductive RdX (H:Hp) (B:Addr->Prop):V->Ad->Prop
 |non:RdX H B .non .none
 |bl (b:Bool):RdX H B (.bl b) (.bool b)
 |int (i:Int):RdX H B (.int i) (.int i)
 |str (x:Str) (h:x.length<=A1):RdX H B (.str x) (.str x)
 |lst {a:Addr} {xs:List V} {ds:List Ad}:H a=some (.lst xs)->¬B a->xs.length<=A1->RdXs H B xs ds->RdX H B (.ref a) (.list ds)
 |tup {a:Addr} {xs:List V} {ds:List Ad}:H a=some (.tup xs)->¬B a->xs.length<=A1->RdXs H B xs ds->RdX H B (.ref a) (.tuple ds)
inductive RdXs (H:Hp) (B:Addr->Prop):List V->List Ad->Prop
 |nil:RdXs H B [] []
 |cons {x:V} {xs:List V} {d:Ad} {ds:List Ad}:RdX H B x d->RdXs H B xs ds->RdXs H B (x::xs) (d::ds)
end
mutual
theorem RdX.move {H H':Hp} {B B':Addr->Prop} (k:∀b o,H b=some o->¬B b->H' b=some o/\¬B' b):∀{v:V} {d:Ad},RdX H B v d->RdX H' B' v d
 |_,_,.non=>.non
 |_,_,.bl b=>.bl b
 |_,_,.int i=>.int i
 |_,_,.str x h=>.str x h
 |_,_,.lst h1 h2 h3 h4=>.lst (k _ _ h1 h2).1 (k _ _ h1 h2).2 h3 (RdXs.move k h4)
 |_,_,.tup h1 h2 h3 h4=>.tup (k _ _ h1 h2).1 (k _ _ h1 h2).2 h3 (RdXs.move k h4)
theorem RdXs.move {H H':Hp} {B B':Addr->Prop} (k:∀b o,H b=some o->¬B b->H' b=some o/\¬B' b):∀{vs:List V} {ds:List Ad},RdXs H B vs ds->RdXs H' B' vs ds
 |_,_,.nil=>.nil
 |_,_,.cons h1 h2=>.cons (RdX.move k h1) (RdXs.move k h2)
end
section
variable {H H':Hp} {B B':Addr->Prop} {v:V} {d:Ad} {vs ws:List V} {ds es:List Ad} {t:Addr}
theorem RdX.kp (k:Kp t H H') (ht:B t) (h:RdX H B v d):RdX H' B v d:=h.move λb o e n=>⟨k b o e λz=>n (z▸ht),n⟩
theorem RdXs.kp (k:Kp t H H') (ht:B t) (h:RdXs H B vs ds):RdXs H' B vs ds:=h.move λb o e n=>⟨k b o e λz=>n (z▸ht),n⟩
theorem RdX.less (k:∀b,B' b->B b) (h:RdX H B v d):RdX H B' v d:=h.move λb o e n=>⟨e,λz=>n (k b z)⟩
theorem RdXs.less (k:∀b,B' b->B b) (h:RdXs H B vs ds):RdXs H B' vs ds:=h.move λb o e n=>⟨e,λz=>n (k b z)⟩
theorem RdXs.keep (k:∀b o,H b=some o->¬B b->H' b=some o) (h:RdXs H B vs ds):RdXs H' B vs ds:=h.move λb o e n=>⟨k b o e n,n⟩
theorem RdXs.len:∀{vs:List V} {ds:List Ad},RdXs H B vs ds->vs.length=ds.length
 |_,_,.nil=>rfl
 |_,_,.cons _ t=>by rw[Ar,Ar,RdXs.len t]
theorem RdXs.get:∀{vs:List V} {ds:List Ad} {i:Nat} {v:V},RdXs H B vs ds->vs[i]?=some v->∃d,ds[i]?=some d/\RdX H B v d
 |_,_,_,_,.nil,e=>by simp at e
 |_,_,0,_,.cons h _,e=>by
  simp at e;subst e;exact⟨_,rfl,h⟩
 |_,_,i+1,v,.cons _ t,e=>by
  obtain⟨d,h1,h2⟩:=RdXs.get (i:=i) (v:=v) t (by simpa using e);exact⟨d,by simpa using h1,h2⟩
theorem RdXs.getD:∀{vs:List V} {ds:List Ad} {i:Nat} {d:Ad},RdXs H B vs ds->ds[i]?=some d->∃v,vs[i]?=some v/\RdX H B v d
 |_,_,_,_,.nil,e=>by simp at e
 |_,_,0,_,.cons h _,e=>by
  simp at e;subst e;exact⟨_,rfl,h⟩
 |_,_,i+1,d,.cons _ t,e=>by
  obtain⟨v,h1,h2⟩:=RdXs.getD (i:=i) (d:=d) t (by simpa using e);exact⟨v,by simpa using h1,h2⟩
theorem RdXs.append:∀{vs ws:List V} {ds es:List Ad},RdXs H B vs ds->RdXs H B ws es->RdXs H B (vs++ws) (ds++es)
 |_,_,_,_,.nil,h=>h
 |_,_,_,_,.cons h1 h2,h=>.cons h1 (RdXs.append h2 h)
theorem RdXs.set:∀{vs:List V} {ds:List Ad} (i:Nat) {v:V} {d:Ad},RdXs H B vs ds->RdX H B v d->RdXs H B (vs.set i v) (ds.set i d)
 |_,_,_,_,_,.nil,_=>.nil
 |_,_,0,_,_,.cons _ t,h=>.cons h t
 |_,_,i+1,_,_,.cons q t,h=>.cons q (RdXs.set i t h)
theorem RdXs.take:∀{vs:List V} {ds:List Ad} (n:Nat),RdXs H B vs ds->RdXs H B (vs.take n) (ds.take n)
 |_,_,0,_=>.nil
 |_,_,_+1,.nil=>.nil
 |_,_,n+1,.cons r t=>.cons r (RdXs.take n t)
theorem RdXs.drop:∀{vs:List V} {ds:List Ad} (n:Nat),RdXs H B vs ds->RdXs H B (vs.drop n) (ds.drop n)
 |_,_,0,r=>r
 |_,_,_+1,.nil=>.nil
 |_,_,n+1,.cons _ t=>RdXs.drop n t
end
mutual
theorem RdX.rd {K:Ai} {H:Hp} {B:Addr->Prop}:∀{v:V} {d:Ad},RdX H B v d->RdD K H v d
 |_,_,.non=>.non
 |_,_,.bl b=>.bl b
 |_,_,.int i=>.int i
 |_,_,.str x h=>.str x
 |_,_,.lst h1 h2 h3 h4=>.lst (SqL.of h1) (RdXs.rd h4)
 |_,_,.tup h1 h2 h3 h4=>.tup (SqT.of h1) (RdXs.rd h4)
theorem RdXs.rd {K:Ai} {H:Hp} {B:Addr->Prop}:∀{vs:List V} {ds:List Ad},RdXs H B vs ds->RdAll K H vs ds
 |_,_,.nil=>.nil
 |_,_,.cons h1 h2=>.cons (RdX.rd h1) (RdXs.rd h2)
end
inductive Ob where
 |o | p (d:Ad) | k (m:List (Key×Ad)) | q (d:Ad) (m:List (Key×Ad))
inductive Wv where
 |d (x:Ad) | tp | dk (kvs:List (Key×Ad)) | ln (ds:List Ad) | ob (o:Ob)
def Wv.lent:Wv->Bool
 |.dk _=>true
 |.ln _=>true
 |_=>false
inductive SV where
 |w (x:Wv) | own (ds:List Ad) | odk (kvs:List (Key×Ad)) | odt (kvs:List (List Key×Ad))
abbrev Sl:=List (Option SV)
def RdK (H:Hp) (B:Addr->Prop):List (Key×V)->List (Key×Ad)->Prop:=Paired λp q=>p.1=q.1/\RdX H B p.2 q.2
theorem RdK.move {H H':Hp} {B B':Addr->Prop} (k:∀b o,H b=some o->¬B b->H' b=some o/\¬B' b) {l:List (Key×V)} {m:List (Key×Ad)} (h:RdK H B l m):RdK H' B' l m :=
 Paired.mapP h λ_ _ z=>⟨z.1,z.2.move k⟩
def RdT (H:Hp) (B:Addr->Prop):List (List Key×V)->List (List Key×Ad)->Prop:=Paired λp q=>p.1=q.1/\RdX H B p.2 q.2
theorem RdT.move {H H':Hp} {B B':Addr->Prop} (k:∀b o,H b=some o->¬B b->H' b=some o/\¬B' b) {l:List (List Key×V)} {m:List (List Key×Ad)} (h:RdT H B l m):RdT H' B' l m :=
 Paired.mapP h λ_ _ z=>⟨z.1,z.2.move k⟩
def ORel (H:Hp) (B:Addr->Prop) (v:V):Ob->Prop
 |.o=>∃a,v=.ref a
 |.p d=>∃a x y,v=.ref a/\H a=some (.tup [x,y])/\¬B a/\RdX H B x d
 |.k m=>∃a l,v=.ref a/\H a=some (.dK l)/\¬B a/\RdK H B l m
 |.q d m=>∃a x b l,v=.ref a/\H a=some (.tup [x,.ref b])/\¬B a/\RdX H B x d/\H b=some (.dK l)/\¬B b/\RdK H B l m
theorem ORel.move {H H':Hp} {B B':Addr->Prop} (k:∀b o,H b=some o->¬B b->H' b=some o/\¬B' b) {v:V} {o:Ob} (h:ORel H B v o):ORel H' B' v o:=by
 cases o with
 |o=>exact h
 |p d =>
  obtain⟨a,x,y,e,h1,h2,h3⟩:=h;exact⟨a,x,y,e,(k _ _ h1 h2).1,(k _ _ h1 h2).2,h3.move k⟩
 |k m =>
  obtain⟨a,l,e,h1,h2,h3⟩:=h;exact⟨a,l,e,(k _ _ h1 h2).1,(k _ _ h1 h2).2,h3.move k⟩
 |q d m =>
  obtain⟨a,x,b,l,e,h1,h2,h3,h4,h5,h6⟩:=h;exact⟨a,x,b,l,e,(k _ _ h1 h2).1,(k _ _ h1 h2).2,h3.move k,(k _ _ h4 h5).1,(k _ _ h4 h5).2,h6.move k⟩
def WRel (H:Hp) (B:Addr->Prop) (t:Addr) (v:V):Wv->Prop
 |.d x=>RdX H B v x
 |.tp=>v=.ref t
 |.dk kvs=>∃a l,v=.ref a/\H a=some (.dK l)/\a≠t/\RdK H B l kvs
 |.ln ds=>∃a xs,v=.ref a/\H a=some (.lst xs)/\a≠t/\xs.length<=A1/\RdXs H B xs ds
 |.ob o=>ORel H B v o
def SRel (H0:Hp) (H:Hp) (B:Addr->Prop) (t:Addr) (v:V):SV->Prop
 |.w x=>WRel H B t v x/\(x.lent=true->∃a,v=.ref a/\H0 a≠none)
 |.own ds=>∃a xs,v=.ref a/\H a=some (.lst xs)/\B a/\H0 a=none/\xs.length<=A1/\RdXs H B xs ds
 |.odk kvs=>∃a l,v=.ref a/\H a=some (.dK l)/\B a/\H0 a=none/\l.length<=1000/\RdK H B l kvs
 |.odt kvs=>∃a l,v=.ref a/\H a=some (.dT l)/\B a/\H0 a=none/\l.length<=1000/\RdT H B l kvs
def SV.isOwn:SV->Bool
 |.w _=>false
 |_=>true
structure Ctx where
 t:Addr
 l:TL
 ns:List Int
 H0:Hp
 B0:Addr->Prop
 fz:Hp
structure Rel (C:Ctx) (H:Hp) (B:Addr->Prop) (σ:St) (δ:Sl) (n:Int):Prop where
 tp:Tp H C.t C.l C.ns n
 kp:Kp C.t C.H0 H
 t0:C.H0 C.t≠none
 l0:C.H0 C.l.s≠none
 g0:jur=true->C.H0 C.l.g≠none
 fz:∀b o,C.fz b=some o->H b=some o/\¬B b
 bt:B C.t
 b0:∀b,C.B0 b->B b
 ba:∀b,B b->H b≠none
 a0:∀b,C.B0 b->C.H0 b≠none
 sl:∀(i:Nat) (x:SV),δ[i]?=some (some x)->∃v,σ[i]?=some (some v)/\SRel C.H0 H B C.t v x
 ow:∀(i j:Nat) (x y:SV) (v:V),δ[i]?=some (some x)->δ[j]?=some (some y)->x.isOwn=true->y.isOwn=true->σ[i]?=some (some v)->σ[j]?=some (some v)->i=j
 len:σ.length=δ.length
theorem WRel.kp {H H':Hp} {B:Addr->Prop} {t:Addr} {v:V} {x:Wv} (k:Kp t H H') (ht:B t) (h:WRel H B t v x):WRel H' B t v x:=by
 cases x with
 |d x=>exact RdX.kp k ht h
 |tp=>exact h
 |dk kvs =>
  obtain⟨a,l,e,h1,h2,h3⟩:=h;exact⟨a,l,e,k _ _ h1 h2,h2,h3.move λb o e n=>⟨k b o e λz=>n (z▸ht),n⟩⟩
 |ln ds =>
  obtain⟨a,l,e,h1,h2,h3,h4⟩:=h;exact⟨a,l,e,k _ _ h1 h2,h2,h3,h4.kp k ht⟩
 |ob o=>exact ORel.move (λb o e n=>⟨k b o e λz=>n (z▸ht),n⟩) h
theorem WRel.less {H:Hp} {B B':Addr->Prop} {t:Addr} {v:V} {x:Wv} (k:∀b,B' b->B b) (h:WRel H B t v x):WRel H B' t v x:=by
 cases x with
 |d x=>exact RdX.less k h
 |tp=>exact h
 |dk kvs =>
  obtain⟨a,l,e,h1,h2,h3⟩:=h;exact⟨a,l,e,h1,h2,h3.move λb o e n=>⟨e,λz=>n (k b z)⟩⟩
 |ln ds =>
  obtain⟨a,l,e,h1,h2,h3,h4⟩:=h;exact⟨a,l,e,h1,h2,h3,h4.less k⟩
 |ob o=>exact ORel.move (λb o e n=>⟨e,λz=>n (k b z)⟩) h
theorem SRel.kp {H0 H H':Hp} {B:Addr->Prop} {t:Addr} {v:V} {x:SV} (k:Kp t H H') (ht:B t) (t0:H0 t≠none) (h:SRel H0 H B t v x):SRel H0 H' B t v x:=by
 cases x with
 |w x=>exact⟨h.1.kp k ht,h.2⟩
 |own ds =>
  obtain⟨a,xs,e,h1,h2,h3,h4,h5⟩:=h;exact⟨a,xs,e,k _ _ h1 (λz=>t0 (z▸h3)),h2,h3,h4,h5.kp k ht⟩
 |odk kvs =>
  obtain⟨a,l,e,h1,h2,h3,h4,h5⟩:=h;exact⟨a,l,e,k _ _ h1 (λz=>t0 (z▸h3)),h2,h3,h4,h5.move λb o e n=>⟨k b o e λz=>n (z▸ht),n⟩⟩
 |odt kvs =>
  obtain⟨a,l,e,h1,h2,h3,h4,h5⟩:=h;exact⟨a,l,e,k _ _ h1 (λz=>t0 (z▸h3)),h2,h3,h4,h5.move λb o e n=>⟨k b o e λz=>n (z▸ht),n⟩⟩
theorem Rel.step {C:Ctx} {H H':Hp} {B:Addr->Prop} {σ:St} {δ:Sl} {n n':Int} (R:Rel C H B σ δ n) (T:Tp H' C.t C.l C.ns n') (k:Kp C.t H H'):Rel C H' B σ δ n' where
 tp:=T
 kp:=R.kp.trans k
 t0:=R.t0
 l0:=R.l0
 g0:=R.g0
 fz:=λb o e=>⟨k b o (R.fz b o e).1 λz=>(R.fz b o e).2 (z▸R.bt),(R.fz b o e).2⟩
 bt:=R.bt
 b0:=R.b0
 ba:=λb hb e=>by
  by_cases z:b=C.t
  ·subst z;obtain⟨x,y,h,_⟩:=T.ob;rw[h]at e;cases e
  ·cases q:H b with
   |none=>exact R.ba b hb q
   |some o=>rw[k b o q z]at e;cases e
 a0:=R.a0
 sl:=λi x e=>by
  obtain⟨v,h1,h2⟩:=R.sl i x e;exact⟨v,h1,h2.kp k R.bt R.t0⟩
 ow:=R.ow
 len:=R.len
theorem Rel.new {C:Ctx} {H:Hp} {B:Addr->Prop} {σ:St} {δ:Sl} {n:Int} {p:Addr} {o:HO} (R:Rel C H B σ δ n) (h:H p=none):Rel C (upd H p o) B σ δ n:=R.step (R.tp.new h) (Kp.new h)
theorem Rel.nb {C:Ctx} {H:Hp} {B:Addr->Prop} {σ:St} {δ:Sl} {n:Int} {p:Addr} (R:Rel C H B σ δ n) (h:H p=none):¬B p:=λz=>R.ba p z h
theorem ja8 {α:Type} {l:List (Option α)} {i j:Nat} {x y:α} (h:(l.set i (some x))[j]?=some (some y)):(j=i/\y=x)\/(j≠i/\l[j]?=some (some y)):=by
 by_cases e:i=j
 ·subst e;rw[E8]at h;cases q:l[i]? with
  |none=>rw[q]at h;cases h
  |some z =>
   rw[q]at h;exact .inl ⟨rfl,(Ax (Ax h)).symm⟩
 ·rw[Cc e]at h;exact .inr ⟨λz=>e z.symm,h⟩
theorem jse {α:Type} {l:List (Option α)} {i:Nat} {x y:Option α} (h:(l.set i x)[i]?=some y):i < l.length:=by
 have:=(At.mp h).1;rwa [Cr]at this
theorem jdk {α:Type} {l:List (Option α)} {i:Nat} {x:α} (h:i < l.length):(l.set i (some x))[i]?=some (some x):=by simp[h]
theorem jcc {α:Type} {l:List (Option α)} {i j:Nat} {x:α} (h:j≠i):(l.set i (some x))[j]?=l[j]?:=Cc (λz=>h z.symm)
theorem Rel.set {C:Ctx} {H:Hp} {B:Addr->Prop} {σ:St} {δ:Sl} {n:Int} {i:Nat} {v:V} {x:Wv} (R:Rel C H B σ δ n) (h:WRel H B C.t v x) (hx:x.lent=false):Rel C H B (σ.set i (some v)) (δ.set i (some (.w x))) n where
 tp:=R.tp
 kp:=R.kp
 t0:=R.t0
 l0:=R.l0
 g0:=R.g0
 fz:=R.fz
 bt:=R.bt
 b0:=R.b0
 ba:=R.ba
 a0:=R.a0
 sl:=λj y e=>by
  rcases ja8 e with⟨rfl,rfl⟩ | ⟨ne,e'⟩
  ·exact⟨v,jdk (by rw[R.len];exact jse e),h,λz=>by rw[hx]at z;cases z⟩
  ·obtain⟨u,h1,h2⟩:=R.sl j y e';exact⟨u,by rw[jcc ne];exact h1,h2⟩
 ow:=λj k y z u e1 e2 o1 o2 f1 f2=>by
  rcases ja8 e1 with⟨rfl,rfl⟩ | ⟨ne1,e1'⟩
  ·cases o1
  ·rcases ja8 e2 with⟨rfl,rfl⟩ | ⟨ne2,e2'⟩
   ·cases o2
   ·rw[jcc ne1]at f1;rw[jcc ne2]at f2;exact R.ow j k y z u e1' e2' o1 o2 f1 f2
 len:=by rw[Cr,Cr];exact R.len
theorem Rel.mut {C:Ctx} {H:Hp} {B:Addr->Prop} {σ:St} {δ:Sl} {n:Int} {a:Addr} {o:HO} (R:Rel C H B σ δ n) (hb:B a) (h0:C.H0 a=none)
  (ho:∀(i:Nat) (x:SV),δ[i]?=some (some x)->x.isOwn=true->σ[i]?≠some (some (.ref a))):Rel C (upd H a o) B σ δ n where
 tp:=R.tp.other (λz=>R.t0 (z▸h0)) (λz=>R.l0 (z▸h0)) (λe z=>R.g0 e (z▸h0))
 kp:=λb o' e ne=>by
  rw[jap (jal e h0)];exact R.kp b o' e ne
 t0:=R.t0
 l0:=R.l0
 g0:=R.g0
 fz:=λb o' e=>⟨by rw[jap λ(z:b=a)=>(R.fz b o' e).2 (z▸hb)];exact(R.fz b o' e).1,(R.fz b o' e).2⟩
 bt:=R.bt
 b0:=R.b0
 ba:=λb hb' e=>by
  by_cases z:b=a
  ·rw[z,jao]at e;cases e
  ·rw[jap z]at e;exact R.ba b hb' e
 a0:=R.a0
 sl:=λi x e=>by
  obtain⟨v,h1,h2⟩:=R.sl i x e;have mv:∀b o',H b=some o'->¬B b->upd H a o b=some o'/\¬B b:=λb o' e n=>⟨by rw[jap λ(z:b=a)=>n (z▸hb)];exact e,n⟩;refine⟨v,h1,?_⟩;cases x with
  |w x =>
   refine⟨?_,h2.2⟩;cases x with
   |d x=>exact h2.1.move mv
   |tp=>exact h2.1
   |dk kvs =>
    obtain⟨a',l,e1,e2,e3,e4⟩:=h2.1;obtain⟨a'',f1,f2⟩:=h2.2 rfl;rw[e1]at f1;cases f1;exact⟨a',l,e1,by rw[jap λ(z:a'=a)=>f2 (z▸h0)];exact e2,e3,e4.move mv⟩
   |ln ds =>
    obtain⟨a',l,e1,e2,e3,e4,e5⟩:=h2.1;obtain⟨a'',f1,f2⟩:=h2.2 rfl;rw[e1]at f1;cases f1;exact⟨a',l,e1,by rw[jap λ(z:a'=a)=>f2 (z▸h0)];exact e2,e3,e4,e5.move mv⟩
   |ob o=>exact ORel.move mv h2.1
  |own ds =>
   obtain⟨a',xs,e1,e2,e3,e4,e5,e6⟩:=h2;have ne:a'≠a:=λz=>ho i _ e rfl (by rw[h1,e1,z]);exact⟨a',xs,e1,by rw[jap ne];exact e2,e3,e4,e5,e6.move mv⟩
  |odk kvs =>
   obtain⟨a',xs,e1,e2,e3,e4,e5,e6⟩:=h2;have ne:a'≠a:=λz=>ho i _ e rfl (by rw[h1,e1,z]);exact⟨a',xs,e1,by rw[jap ne];exact e2,e3,e4,e5,e6.move mv⟩
  |odt kvs =>
   obtain⟨a',xs,e1,e2,e3,e4,e5,e6⟩:=h2;have ne:a'≠a:=λz=>ho i _ e rfl (by rw[h1,e1,z]);exact⟨a',xs,e1,by rw[jap ne];exact e2,e3,e4,e5,e6.move mv⟩
 ow:=R.ow
 len:=R.len
theorem Rel.mutOwn {C:Ctx} {H:Hp} {B:Addr->Prop} {σ:St} {δ:Sl} {n:Int} {i:Nat} {x x':SV} {a:Addr} {o:HO} (R:Rel C H B σ δ n) (hi:δ[i]?=some (some x)) (hx:x.isOwn=true) (hσ:σ[i]?=some (some (.ref a))) (hb:B a) (h0:C.H0 a=none)
  (h:SRel C.H0 (upd H a o) B C.t (.ref a) x') (hx':x'.isOwn=true):Rel C (upd H a o) B σ (δ.set i (some x')) n:=by
 -- first the other slots: slot i is taken out
 have R1:Rel C H B σ (δ.set i none) n:={
  tp:=R.tp,kp:=R.kp,t0:=R.t0,l0:=R.l0,g0:=R.g0,fz:=R.fz,bt:=R.bt,b0:=R.b0,ba:=R.ba,a0:=R.a0
  sl:=λj y e=>by
   by_cases z:i=j
   ·subst z;rw[E8]at e;rw[hi]at e;cases e
   ·rw[Cc z]at e;exact R.sl j y e
  ow:=λj k y z u e1 e2 o1 o2 f1 f2=>by
   have g:∀{m:Nat} {w:SV},(δ.set i none)[m]?=some (some w)->δ[m]?=some (some w):=λ{m w} e=>by
    by_cases q:i=m
    ·subst q;rw[E8,hi]at e;cases e
    ·rwa [Cc q]at e
   exact R.ow j k y z u (g e1) (g e2) o1 o2 f1 f2
  len:=by rw[Cr];exact R.len}
 have R2:Rel C (upd H a o) B σ (δ.set i none) n:=R1.mut hb h0 λj y e oy f=>by
  by_cases z:i=j
  ·subst z;rw[E8,hi]at e;cases e
  ·rw[Cc z]at e;exact z (R.ow i j x y _ hi e hx oy hσ f)
 have hlt:i < δ.length:=(At.mp hi).1;exact{
  tp:=R2.tp,kp:=R2.kp,t0:=R2.t0,l0:=R2.l0,g0:=R2.g0,fz:=R2.fz,bt:=R2.bt,b0:=R2.b0,ba:=R2.ba,a0:=R2.a0
  sl:=λj y e=>by
   rcases ja8 e with⟨rfl,rfl⟩ | ⟨ne,e'⟩
   ·exact⟨_,hσ,h⟩
   ·exact R2.sl j y (by rw[Cc λz=>ne z.symm];exact e')
  ow:=λj k y z u e1 e2 o1 o2 f1 f2=>by
   rcases ja8 e1 with⟨rfl,rfl⟩ | ⟨ne1,e1'⟩
   ·rcases ja8 e2 with⟨rfl,rfl⟩ | ⟨ne2,e2'⟩
    ·rfl
    ·exact R.ow _ _ x z u hi e2' hx o2 f1 f2
   ·rcases ja8 e2 with⟨rfl,rfl⟩ | ⟨ne2,e2'⟩
    ·exact R.ow _ _ y x u e1' hi o1 hx f1 f2
    ·exact R.ow j k y z u e1' e2' o1 o2 f1 f2
  len:=by rw[Cr];exact R.len}
theorem Rel.own {C:Ctx} {H H':Hp} {B:Addr->Prop} {σ:St} {δ:Sl} {n n':Int} {i:Nat} {a:Addr} {x:SV} (R:Rel C H B σ δ n) (R':Rel C H' B σ δ n') (k:Kp C.t H H') (h0:H a=none) (h1:H' a≠none) (hx:x.isOwn=true)
  (h:SRel C.H0 H' (λb=>B b\/b=a) C.t (.ref a) x):Rel C H' (λb=>B b\/b=a) (σ.set i (some (.ref a))) (δ.set i (some x)) n' where
 tp:=R'.tp
 kp:=R'.kp
 t0:=R'.t0
 l0:=R'.l0
 g0:=R'.g0
 fz:=λb o e=>⟨(R'.fz b o e).1,λz=>z.elim (R'.fz b o e).2 λq=>jal (R.fz b o e).1 h0 q⟩
 bt:=.inl R.bt
 b0:=λb z=>.inl (R.b0 b z)
 ba:=λb z=>z.elim (R'.ba b) λq=>q▸h1
 a0:=R.a0
 sl:=λj y e=>by
  have hta:C.t≠a:=λz=>by
   obtain⟨_,_,q,_⟩:=R.tp.ob;rw[z,h0]at q;cases q
  have mv:∀b o',H b=some o'->¬B b->H' b=some o'/\¬(B b\/b=a):=λb o' e n=>⟨k b o' e λz=>n (z▸R.bt),λz=>z.elim n λq=>jal e h0 q⟩;rcases ja8 e with⟨rfl,rfl⟩ | ⟨ne,e'⟩
  ·exact⟨_,jdk (by rw[R.len];exact jse e),h⟩
  ·obtain⟨v,f1,f2⟩:=R.sl j y e';refine⟨v,by rw[jcc ne];exact f1,?_⟩;cases y with
   |w y =>
    refine⟨?_,f2.2⟩;cases y with
    |d y=>exact f2.1.move mv
    |tp=>exact f2.1
    |dk kvs =>
     obtain⟨a',l,e1,e2,e3,e4⟩:=f2.1;exact⟨a',l,e1,k _ _ e2 e3,e3,e4.move mv⟩
    |ln ds =>
     obtain⟨a',l,e1,e2,e3,e4,e5⟩:=f2.1;exact⟨a',l,e1,k _ _ e2 e3,e3,e4,e5.move mv⟩
    |ob o=>exact ORel.move mv f2.1
   |own ds =>
    obtain⟨a',xs,e1,e2,e3,e4,e5,e6⟩:=f2;exact⟨a',xs,e1,k _ _ e2 (λz=>R.t0 (z▸e4)),.inl e3,e4,e5,e6.move mv⟩
   |odk kvs =>
    obtain⟨a',xs,e1,e2,e3,e4,e5,e6⟩:=f2;exact⟨a',xs,e1,k _ _ e2 (λz=>R.t0 (z▸e4)),.inl e3,e4,e5,e6.move mv⟩
   |odt kvs =>
    obtain⟨a',xs,e1,e2,e3,e4,e5,e6⟩:=f2;exact⟨a',xs,e1,k _ _ e2 (λz=>R.t0 (z▸e4)),.inl e3,e4,e5,e6.move mv⟩
 ow:=λj m y z u e1 e2 o1 o2 f1 f2=>by
  have out:∀{p:Nat} {w:SV},δ[p]?=some (some w)->w.isOwn=true->σ[p]?=some (some (.ref a))->False:=λ{p w} e ow f=>by
   obtain⟨v,g1,g2⟩:=R.sl p w e;rw[f]at g1;cases g1;cases w with
   |w _=>cases ow
   |own ds =>
    obtain⟨a',xs,e1,e2,_⟩:=g2;cases e1;rw[h0]at e2;cases e2
   |odk ds =>
    obtain⟨a',xs,e1,e2,_⟩:=g2;cases e1;rw[h0]at e2;cases e2
   |odt ds =>
    obtain⟨a',xs,e1,e2,_⟩:=g2;cases e1;rw[h0]at e2;cases e2
  rcases ja8 e1 with⟨rfl,rfl⟩ | ⟨ne1,e1'⟩
  ·rcases ja8 e2 with⟨rfl,rfl⟩ | ⟨ne2,e2'⟩
   ·rfl
   ·rw[jdk (by rw[R.len];exact jse e1)]at f1;rw[jcc ne2]at f2;cases f1;exact(out e2' o2 f2).elim
  ·rcases ja8 e2 with⟨rfl,rfl⟩ | ⟨ne2,e2'⟩
   ·rw[jdk (by rw[R.len];exact jse e2)]at f2;rw[jcc ne1]at f1;cases f2;exact(out e1' o1 f1).elim
   ·rw[jcc ne1]at f1;rw[jcc ne2]at f2;exact R.ow j m y z u e1' e2' o1 o2 f1 f2
 len:=by rw[Cr,Cr];exact R.len
theorem Rel.give {C:Ctx} {H:Hp} {B:Addr->Prop} {σ:St} {δ:Sl} {n:Int} {i:Nat} {x:SV} {y:Wv} {a:Addr} (R:Rel C H B σ δ n) (hi:δ[i]?=some (some x)) (ox:x.isOwn=true) (hv:σ[i]?=some (some (.ref a))) (e4:C.H0 a=none) (hy:WRel H (λb=>B b/\b≠a) C.t (.ref a) y) (hl:y.lent=false):Rel C H (λb=>B b/\b≠a) σ (δ.set i (some (.w y))) n:=by
 have less:∀b,(B b/\b≠a)->B b:=λb z=>z.1;exact{
  tp:=R.tp,kp:=R.kp,t0:=R.t0,l0:=R.l0,g0:=R.g0
  fz:=λb o e=>⟨(R.fz b o e).1,λz=>(R.fz b o e).2 z.1⟩
  bt:=⟨R.bt,λz=>R.t0 (z▸e4)⟩
  b0:=λb z=>⟨R.b0 b z,λq=>R.a0 b z (q▸e4)⟩
  ba:=λb z=>R.ba b z.1
  a0:=R.a0
  sl:=λj y' e=>by
   rcases ja8 e with⟨rfl,rfl⟩ | ⟨ne,e'⟩
   ·exact⟨_,hv,hy,λz=>by rw[hl]at z;cases z⟩
   ·obtain⟨u,f1,f2⟩:=R.sl j y' e';refine⟨u,f1,?_⟩;cases y' with
    |w y=>exact⟨f2.1.less less,f2.2⟩
    |own ds' =>
     obtain⟨a',xs',g1,g2,g3,g4,g5,g6⟩:=f2;refine⟨a',xs',g1,g2,⟨g3,λz=>?_⟩,g4,g5,g6.less less⟩;exact ne (R.ow j i _ _ _ e' hi rfl ox f1 (by rw[hv,g1,z]))
    |odk ds' =>
     obtain⟨a',xs',g1,g2,g3,g4,g5,g6⟩:=f2;refine⟨a',xs',g1,g2,⟨g3,λz=>?_⟩,g4,g5,g6.move λb o e n=>⟨e,λz=>n z.1⟩⟩;exact ne (R.ow j i _ _ _ e' hi rfl ox f1 (by rw[hv,g1,z]))
    |odt ds' =>
     obtain⟨a',xs',g1,g2,g3,g4,g5,g6⟩:=f2;refine⟨a',xs',g1,g2,⟨g3,λz=>?_⟩,g4,g5,g6.move λb o e n=>⟨e,λz=>n z.1⟩⟩;exact ne (R.ow j i _ _ _ e' hi rfl ox f1 (by rw[hv,g1,z]))
  ow:=λj k y z u e1 e2 o1 o2 f1 f2=>by
   rcases ja8 e1 with⟨rfl,rfl⟩ | ⟨ne1,e1'⟩
   ·cases o1
   ·rcases ja8 e2 with⟨rfl,rfl⟩ | ⟨ne2,e2'⟩
    ·cases o2
    ·exact R.ow j k y z u e1' e2' o1 o2 f1 f2
  len:=by rw[Cr];exact R.len}
theorem Rel.frz {C:Ctx} {H:Hp} {B:Addr->Prop} {σ:St} {δ:Sl} {n:Int} {i:Nat} {ds:List Ad} (R:Rel C H B σ δ n) (hi:δ[i]?=some (some (.own ds))):∃B',Rel C H B' σ (δ.set i (some (.w (.d (.list ds))))) n:=by
 obtain⟨v,hv,a,xs,rfl,e2,e3,e4,e5,e6⟩:=R.sl i _ hi;exact⟨_,R.give hi rfl hv e4 (show RdX H _ (.ref a) (.list ds)from .lst e2 (λz=>z.2 rfl) e5 (e6.less λb z=>z.1)) rfl⟩
theorem Rel.frzK {C:Ctx} {H:Hp} {B:Addr->Prop} {σ:St} {δ:Sl} {n:Int} {i:Nat} {m:List (Key×Ad)} (R:Rel C H B σ δ n) (hi:δ[i]?=some (some (.odk m))):∃B',Rel C H B' σ (δ.set i (some (.w (.ob (.k m))))) n:=by
 obtain⟨v,hv,a,xs,rfl,e2,e3,e4,e5,e6⟩:=R.sl i _ hi;exact⟨_,R.give hi rfl hv e4 ⟨a,xs,rfl,e2,λz=>z.2 rfl,e6.move λb o e n=>⟨e,λz=>n z.1⟩⟩ rfl⟩
abbrev DQ:=Wv->Int->Prop
abbrev DT:=Sl->Int->DQ->Prop
abbrev DTT:=Sl->Int->(Bool->Int->Prop)->Prop
abbrev DTA:=Sl->Int->(List Wv->Int->Prop)->Prop
inductive ARel (H:Hp) (B:Addr->Prop) (t:Addr):List V->List Wv->Prop
 |nil:ARel H B t [] []
 |cons {v:V} {vs:List V} {x:Wv} {xs:List Wv}:WRel H B t v x->ARel H B t vs xs->ARel H B t (v::vs) (x::xs)
theorem ARel.kp {H H':Hp} {B:Addr->Prop} {t:Addr} (k:Kp t H H') (ht:B t):∀{vs:List V} {xs:List Wv},ARel H B t vs xs->ARel H' B t vs xs
 |_,_,.nil=>.nil
 |_,_,.cons a b=>.cons (a.kp k ht) (ARel.kp k ht b)
theorem ARel.len {H:Hp} {B:Addr->Prop} {t:Addr}:∀{vs:List V} {xs:List Wv},ARel H B t vs xs->vs.length=xs.length
 |_,_,.nil=>rfl
 |_,_,.cons _ b=>by rw[Ar,Ar,ARel.len b]
def Snd (t:TE) (w:DT):Prop:=∀(C:Ctx) (H:Hp) (B:Addr->Prop) (σ:St) (δ:Sl) (n:Int) (Q:DQ) (Q':VK),Rel C H B σ δ n->w δ n Q ->
 (∀v x H' n',Rel C H' B σ δ n'->Kp C.t H H'->WRel H' B C.t v x->Q x n'->Q' v H')->t σ H Q'
def SndT (t:TT) (w:DTT):Prop:=∀(C:Ctx) (H:Hp) (B:Addr->Prop) (σ:St) (δ:Sl) (n:Int) (Q:Bool->Int->Prop) (Q':Bool->Hp->Prop),Rel C H B σ δ n->w δ n Q ->
 (∀b H' n',Rel C H' B σ δ n'->Kp C.t H H'->Q b n'->Q' b H')->t σ H Q'
def SndA (t:TA) (w:DTA):Prop:=∀(C:Ctx) (H:Hp) (B:Addr->Prop) (σ:St) (δ:Sl) (n:Int) (Q:List Wv->Int->Prop) (Q':List V->Hp->Prop),Rel C H B σ δ n->w δ n Q ->
 (∀vs xs H' n',Rel C H' B σ δ n'->Kp C.t H H'->ARel H' B C.t vs xs->Q xs n'->Q' vs H')->t σ H Q'
abbrev DTF:=Sl->Int->(List Ad->Int->Prop)->Prop
def SndF (t:TE) (w:DTF):Prop:=∀(C:Ctx) (H:Hp) (B:Addr->Prop) (σ:St) (δ:Sl) (n:Int) (Q:List Ad->Int->Prop) (Q':VK),Rel C H B σ δ n->w δ n Q ->
 (∀a xs ds H' n',Rel C H' B σ δ n'->Kp C.t H H'->H a=none->H' a=some (.lst xs)->xs.length<=A1->RdXs H' (λb=>B b\/b=a) xs ds->Q ds n'->Q' (.ref a) H')->t σ H Q'
structure DE (X:Cx) (e:Expr) (t:TE) (w:DT):Prop where
 pe:PE X e t
 sd:Snd t w
structure DC (X:Cx) (e:Expr) (t:TT) (w:DTT):Prop where
 pt:PT X e t
 sd:SndT t w
structure DCW (X:Cx) (e:Expr) (t:TT) (w:DTT):Prop where
 pw:PW X e t
 sd:SndT t w
structure DA (X:Cx) (es:List Expr) (t:TA) (w:DTA):Prop where
 pa:PA X es t
 sd:SndA t w
structure DF (X:Cx) (e:Expr) (t:TE) (w:DTF):Prop where
 pe:PE X e t
 sd:SndF t w
variable {X:Cx} {a b c e:Expr} {ta tb tc te:TE} {wa wb wc we:DT} {pos:Pos}
def wVar (i:Nat):DT:=λδ n Q=>match δ[i]? with
 |some (some (.w x))=>Q x n
 |_=>False
theorem jac (i:Nat) {x:Str} {p:Pos} (hN:X.N[i]?=some x:=by rfl) (hv:Vis X.env.scope x:=by first | exact Ap rfl | exact Bw (Ap rfl) | exact Bw (Bw rfl)) (hd:(x==("__debug__":Str))=false:=by decide)
  (hcd:(x==("__classdict__":Str))=false:=by decide):DE X (.Name x p) (tVar i) (wVar i):=⟨jdl hN hv hd hcd,λC H B σ δ n Q Q' R h k=>by
 unfold wVar at h
 split at h
 ·rename_i x e;obtain⟨v,h1,h2⟩:=R.sl i _ e;exact⟨v,h1,k v x H n R (Kp.refl _ _) h2.1 h⟩
 ·exact h.elim⟩
def wC (d:Ad):DT:=λ_ n Q=>Q (.d d) n
theorem jve {v:V} {d:Ad} (h:∀H B,RdX H B v d):Snd (tC v) (wC d):=λC H B σ δ n Q Q' R q k=>k v (.d d) H n R (Kp.refl _ _) (h H B) q
theorem jag {i j p}:DE X (.Constant (.int i) j p) (tC (.int i)) (wC (.int i)):=⟨jbh,jve λ_ _=>.int i⟩
theorem d_bl {i j p}:DE X (.Constant (.bool i) j p) (tC (.bl i)) (wC (.bool i)):=⟨j8g,jve λ_ _=>.bl i⟩
theorem jcq {j p}:DE X (.Constant .none j p) (tC .non) (wC .none):=⟨jso,jve λ_ _=>.non⟩
theorem ja5 {x j p} (h:Str.length x<=A1:=by decide +kernel):DE X (.Constant (.str x) j p) (tC (.str x)) (wC (.str x)):=⟨jsn,jve λ_ _=>.str x h⟩
theorem j7m {x:Str} {i:Int} {tk:Tok} {p:Pos} (hg:Gl X x) (hm:X.mg x=some (.int i tk)) (hd:(x==("__debug__":Str))=false:=by decide):DE X (.Name x p) (tC (.int i)) (wC (.int i)):=⟨jrc hg hm ⟨tk,rfl⟩ hd,jve λ_ _=>.int i⟩
def w2 (wa wb:DT) (g:Wv->Wv->Int->DQ->Prop):DT:=λδ n Q=>wa δ n λx n1=>wb δ n1 λy n2=>g x y n2 Q
def SndO (r:R2) (g:Wv->Wv->Int->DQ->Prop):Prop:=∀(C:Ctx) (H:Hp) (B:Addr->Prop) (σ:St) (δ:Sl) (n:Int) (x y:V) (p q:Wv) (Q:DQ) (Q':VK),Rel C H B σ δ n->WRel H B C.t x p->WRel H B C.t y q->g p q n Q ->
 (∀v x H' n',Rel C H' B σ δ n'->Kp C.t H H'->WRel H' B C.t v x->Q x n'->Q' v H')->r x y H Q'
theorem jmj {r:R2} {g:Wv->Wv->Int->DQ->Prop} (hr:SndO r g) (ha:Snd ta wa) (hb:Snd tb wb):Snd (tOp r ta tb) (w2 wa wb g):=λC H B σ δ n Q Q' R h k =>
 ha C H B σ δ n _ _ R h λv x H1 n1 R1 k1 r1 q1=>hb C H1 B σ δ n1 _ _ R1 q1 λu y H2 n2 R2 k2 r2 q2 =>
  hr C H2 B σ δ n2 v u x y Q Q' R2 (r1.kp k2 R1.bt) r2 q2 λz p H3 n3 R3 k3 r3 q3=>k z p H3 n3 R3 ((k1.trans k2).trans k3) r3 q3
theorem d_op {op:Operator} {r:R2} {g:Wv->Wv->Int->DQ->Prop} (ho:OpR X (Ec op) r) (hr:SndO r g) (ha:DE X a ta wa) (hb:DE X b tb wb):DE X (.BinOp a op b pos) (tOp r ta tb) (w2 wa wb g) :=
 ⟨jc7 ho ha.pe hb.pe,jmj hr ha.sd hb.sd⟩
theorem jl6 {op:CmpOp} {r:R2} {g:Wv->Wv->Int->DQ->Prop} (ho:OpR X (Bu op) r) (hr:SndO r g) (ha:DE X a ta wa) (hb:DE X b tb wb) (hm:B8 op b=false):DE X (.Compare a [op] [b] pos) (tOp r ta tb) (w2 wa wb g) :=
 ⟨j27 ho ha.pe hb.pe hm,jmj hr ha.sd hb.sd⟩
def cT (w:DT):DTT:=λδ n Q=>w δ n λx n'=>match x with
 |.d (.bool k)=>Q k n'
 |_=>False
theorem wd {H:Hp} {B:Addr->Prop} {t:Addr} {v:V} {d:Ad} (h:RdX H B v d):WRel H B t v (.d d):=h
theorem jfr {t:TE} {w:DT} (h:Snd t w):SndT (jo9 t) (cT w):=λC H B σ δ n Q Q' R q k =>
 h C H B σ δ n _ _ R q λv x H' n' R' k' r' q'=>by
  split at q'
  ·rename_i b;cases(show RdX H' B v (.bool b)from r');exact⟨b,rfl,k b H' n' R' k' q'⟩
  ·exact q'.elim
theorem jaz {op:CmpOp} {r:R2} {g:Wv->Wv->Int->DQ->Prop} (ho:OpR X (Bu op) r) (hr:SndO r g) (ha:DE X a ta wa) (hb:DE X b tb wb) (hm:B8 op b=false):DC X (.Compare a [op] [b] pos) (jo9 (tOp r ta tb)) (cT (w2 wa wb g)) :=
 ⟨je3 ho ha.pe hb.pe hm,jfr (jmj hr ha.sd hb.sd)⟩
theorem jru {t:TE} {w:DT} (h:DE X e t w) (he:∀whole,isTrue e X.env whole=(do let v <-whole;standAt e.pos;holding [v] (truthy v)):=by intro _;rfl):DC X e (jo9 t) (cT w):=⟨j5x h.pe he,jfr h.sd⟩
def ji7 (x:Wv) (A B:Prop):Prop:=match x with
 |.d (.bool true)=>A
 |.d (.bool false)=>B
 |_=>False
theorem jxu (b:Bool) (A B:Prop):ji7 (.d (.bool b)) A B=if b=true then A else B:=by cases b<;>simp[ji7]
def jr3 (g g':Wv->Wv->Int->DQ->Prop) (wa wb wc:DT):DT:=λδ n Q=>wa δ n λx n1=>wb δ n1 λy n2=>g x y n2 λz n3=>ji7 z (wc δ n3 λu n4=>g' y u n4 Q) (Q (.d (.bool false)) n3)
theorem jvc {r r':R2} {g g':Wv->Wv->Int->DQ->Prop} (hr:SndO r g) (hr':SndO r' g') (ha:Snd ta wa) (hb:Snd tb wb) (hc:Snd tc wc):Snd (juu r r' ta tb tc) (jr3 g g' wa wb wc):=λC H B σ δ n Q Q' R h k =>
 ha C H B σ δ n _ _ R h λv x H1 n1 R1 k1 r1 q1=>hb C H1 B σ δ n1 _ _ R1 q1 λu y H2 n2 R2 k2 r2 q2 =>
  hr C H2 B σ δ n2 v u x y _ _ R2 (r1.kp k2 R1.bt) r2 q2 λz p H3 n3 R3 k3 r3 q3=>by
   have k13:=(k1.trans k2).trans k3;unfold ji7 at q3
   split at q3
   ·cases(show RdX H3 B z (.bool true)from r3);refine⟨true,rfl,?_⟩;rw[if_pos rfl];exact hc C H3 B σ δ n3 _ _ R3 q3 λw0 x0 H4 n4 R4 k4 r4 q4=>hr' C H4 B σ δ n4 u w0 y x0 Q Q' R4 ((r2.kp k3 R2.bt).kp k4 R3.bt) r4 q4 λz p H5 n5 R5 k5 r5 q5=>k z p H5 n5 R5 ((k13.trans k4).trans k5) r5 q5
   ·cases(show RdX H3 B z (.bool false)from r3);refine⟨false,rfl,?_⟩;rw[if_neg Ag];exact k _ _ H3 n3 R3 k13 (wd (.bl false)) q3
   ·exact q3.elim
theorem j37 {op op':CmpOp} {r r':R2} {g g':Wv->Wv->Int->DQ->Prop} (ho:OpR X (Bu op) r) (hr:SndO r g) (ho':OpR X (Bu op') r') (hr':SndO r' g') (ha:DE X a ta wa) (hb:DE X b tb wb) (hc:DE X c tc wc)
  (hm:lastMarks [op,op'] [b,c]=false:=by with_unfolding_all rfl):DE X (.Compare a [op,op'] [b,c] pos) (juu r r' ta tb tc) (jr3 g g' wa wb wc):=⟨jza ho ho' ha.pe hb.pe hc.pe hm,jvc hr hr' ha.sd hb.sd hc.sd⟩
variable {tA tB':TT} {cA cB:DTT} {rest:List Expr}
def cAnd (u v:DTT):DTT:=λδ n Q=>u δ n λb n1=>if b=true then v δ n1 Q else Q false n1
def cOr (u v:DTT):DTT:=λδ n Q=>u δ n λb n1=>if b=true then Q true n1 else v δ n1 Q
def cNot (u:DTT):DTT:=λδ n Q=>u δ n λb n1=>Q (!b) n1
theorem cw_and1 (h:DC X a tA cA):DCW X (.BoolOp .And [a] pos) tA cA:=⟨jvw h.pt,h.sd⟩
theorem cw_or1 (h:DC X a tA cA):DCW X (.BoolOp .Or [a] pos) tA cA:=⟨j5v h.pt,h.sd⟩
theorem cw_and (h:DC X a tA cA) (h2:DCW X (.BoolOp .And (b::rest) pos) tB' cB):DCW X (.BoolOp .And (a::b::rest) pos) (tAnd tA tB') (cAnd cA cB):=⟨j1a h.pt h2.pw,λC H B σ δ n Q Q' R q k =>
 h.sd C H B σ δ n _ _ R q λb H1 n1 R1 k1 q1=>by
  cases b with
  |true =>
   rw[if_pos rfl]at q1 ⊢;exact h2.sd C H1 B σ δ n1 _ _ R1 q1 λb H2 n2 R2 k2 q2=>k b H2 n2 R2 (k1.trans k2) q2
  |false =>
   rw[if_neg Ag]at q1 ⊢;exact k false H1 n1 R1 k1 q1⟩
theorem cw_or (h:DC X a tA cA) (h2:DCW X (.BoolOp .Or (b::rest) pos) tB' cB):DCW X (.BoolOp .Or (a::b::rest) pos) (tOr tA tB') (cOr cA cB):=⟨j8c h.pt h2.pw,λC H B σ δ n Q Q' R q k =>
 h.sd C H B σ δ n _ _ R q λb H1 n1 R1 k1 q1=>by
  cases b with
  |true =>
   rw[if_pos rfl]at q1 ⊢;exact k true H1 n1 R1 k1 q1
  |false =>
   rw[if_neg Ag]at q1 ⊢;exact h2.sd C H1 B σ δ n1 _ _ R1 q1 λb H2 n2 R2 k2 q2=>k b H2 n2 R2 (k1.trans k2) q2⟩
theorem DCW.cc (h:DCW X a tA cA):DC X a tA cA:=⟨h.pw.pt,h.sd⟩
theorem j0d (h:DC X a tA cA):DC X (.UnaryOp .Not a pos) (tNot tA) (cNot cA):=⟨j5y h.pt,λC H B σ δ n Q Q' R q k=>h.sd C H B σ δ n _ _ R q λb H1 n1 R1 k1 q1=>k (!b) H1 n1 R1 k1 q1⟩
def wAnd (u v:DT):DT:=λδ n Q=>u δ n λx n1=>ji7 x (v δ n1 Q) (Q (.d (.bool false)) n1)
def wOr (u v:DT):DT:=λδ n Q=>u δ n λx n1=>ji7 x (Q (.d (.bool true)) n1) (v δ n1 Q)
def wNot (u:DT):DT:=λδ n Q=>u δ n λx n1=>match x with
 |.d (.bool b)=>Q (.d (.bool !b)) n1
 |_=>False
theorem jt7 {op} (h:DE X a ta wa):DE X (.BoolOp op [a] pos) ta wa:=⟨j54 h.pe,h.sd⟩
theorem jz4 (h:DE X a ta wa) (h2:DE X (.BoolOp .And (b::rest) pos) tb wb):DE X (.BoolOp .And (a::b::rest) pos) (j4z ta tb) (wAnd wa wb):=⟨j57 h.pe h2.pe,λC H B σ δ n Q Q' R q k =>
 h.sd C H B σ δ n _ _ R q λv x H1 n1 R1 k1 r1 q1=>by
  unfold ji7 at q1
  split at q1
  ·cases(show RdX H1 B v (.bool true)from r1);refine⟨true,rfl,?_⟩;rw[if_pos rfl];exact h2.sd C H1 B σ δ n1 _ _ R1 q1 λv x H2 n2 R2 k2 r2 q2=>k v x H2 n2 R2 (k1.trans k2) r2 q2
  ·cases(show RdX H1 B v (.bool false)from r1);refine⟨false,rfl,?_⟩;rw[if_neg Ag];exact k _ _ H1 n1 R1 k1 (wd (.bl false)) q1
  ·exact q1.elim⟩
theorem d_or (h:DE X a ta wa) (h2:DE X (.BoolOp .Or (b::rest) pos) tb wb):DE X (.BoolOp .Or (a::b::rest) pos) (tOrV ta tb) (wOr wa wb):=⟨j8f h.pe h2.pe,λC H B σ δ n Q Q' R q k =>
 h.sd C H B σ δ n _ _ R q λv x H1 n1 R1 k1 r1 q1=>by
  unfold ji7 at q1
  split at q1
  ·cases(show RdX H1 B v (.bool true)from r1);refine⟨true,rfl,?_⟩;rw[if_pos rfl];exact k _ _ H1 n1 R1 k1 (wd (.bl true)) q1
  ·cases(show RdX H1 B v (.bool false)from r1);refine⟨false,rfl,?_⟩;rw[if_neg Ag];exact h2.sd C H1 B σ δ n1 _ _ R1 q1 λv x H2 n2 R2 k2 r2 q2=>k v x H2 n2 R2 (k1.trans k2) r2 q2
  ·exact q1.elim⟩
theorem j80 (h:DE X a ta wa):DE X (.UnaryOp .Not a pos) (j4u ta) (wNot wa):=⟨j55 h.pe,λC H B σ δ n Q Q' R q k =>
 h.sd C H B σ δ n _ _ R q λv x H1 n1 R1 k1 r1 q1=>by
  split at q1
  ·rename_i b;cases(show RdX H1 B v (.bool b)from r1);exact⟨b,rfl,k _ _ H1 n1 R1 k1 (wd (.bl _)) q1⟩
  ·exact q1.elim⟩
def wIf (u:DTT) (v w:DT):DT:=λδ n Q=>u δ n λb n1=>if b=true then v δ n1 Q else w δ n1 Q
theorem jee (h:DC X c tA cA) (h1:DE X a ta wa) (h2:DE X b tb wb):DE X (.IfExp c a b pos) (tIf tA ta tb) (wIf cA wa wb):=⟨jy6 h.pt h1.pe h2.pe,λC H B σ δ n Q Q' R q k =>
 h.sd C H B σ δ n _ _ R q λb H1 n1 R1 k1 q1=>by
  cases b with
  |true =>
   rw[if_pos rfl]at q1 ⊢;exact h1.sd C H1 B σ δ n1 _ _ R1 q1 λv x H2 n2 R2 k2 r2 q2=>k v x H2 n2 R2 (k1.trans k2) r2 q2
  |false =>
   rw[if_neg Ag]at q1 ⊢;exact h2.sd C H1 B σ δ n1 _ _ R1 q1 λv x H2 n2 R2 k2 r2 q2=>k v x H2 n2 R2 (k1.trans k2) r2 q2⟩
variable {es:List Expr} {tR:TA} {wR:DTA}
def aNil:DTA:=λ_ n Q=>Q [] n
def jab (w:DT) (r:DTA):DTA:=λδ n Q=>w δ n λx n1=>r δ n1 λxs n2=>Q (x::xs) n2
theorem jae:DA X [] tNil aNil:=⟨jca,λC H B σ δ n Q Q' R q k=>k [] [] H n R (Kp.refl _ _) .nil q⟩
theorem jaa (h:DE X e te we) (hr:DA X es tR wR) (hs:Az (e::es) X.env=(false,eval e X.env)::Az es X.env:=by rfl):DA X (e::es) (jcx te tR) (jab we wR):=⟨ja9 h.pe hr.pa hs,λC H B σ δ n Q Q' R q k =>
 h.sd C H B σ δ n _ _ R q λv x H1 n1 R1 k1 r1 q1=>hr.sd C H1 B σ δ n1 _ _ R1 q1 λvs xs H2 n2 R2 k2 r2 q2=>k (v::vs) (x::xs) H2 n2 R2 (k1.trans k2) (.cons (r1.kp k2 R1.bt) r2) q2⟩
def je4:List Wv->Option (List Ad)
 |[]=>some []
 |.d x::r=>(je4 r).map (x::·)
 |_::_=>none
theorem ARel.plain {H:Hp} {B:Addr->Prop} {t:Addr}:∀{vs:List V} {xs:List Wv} {ds:List Ad},ARel H B t vs xs->je4 xs=some ds->RdXs H B vs ds
 |_,_,_,.nil,h=>by
  cases h;exact .nil
 |_,_,ds,.cons (x:=x) (xs:=xs) a b,h=>by
  cases x with
  |d x =>
   have h':(je4 xs).map (x::·)=some ds:=h;cases e:je4 xs with
   |none=>rw[e]at h';cases h'
   |some es =>
    rw[e]at h';cases h';exact .cons a (ARel.plain b e)
  |tp=>cases h
  |dk _=>cases h
  |ln _=>cases h
  |ob _=>cases h
theorem RdXs.fresh {H:Hp} {B:Addr->Prop} {vs:List V} {ds:List Ad} {p:Addr} {o:HO} (h:RdXs H B vs ds) (hp:H p=none):RdXs (upd H p o) (λb=>B b\/b=p) vs ds :=
 h.move λb o' e n=>⟨by rw[jap (jal e hp)];exact e,λz=>z.elim n λq=>jal e hp q⟩
def wTup (w:DTA):DT:=λδ n Q=>w δ n λxs n1=>match je4 xs with
 |some ds=>ds.length<=1000/\Q (.d (.tuple ds)) n1
 |none=>False
theorem jbc {x1} (h:DA X es tR wR):DE X (.Tuple es x1 pos) (tTup tR) (wTup wR):=⟨j1c h.pa,λC H B σ δ n Q Q' R q k =>
 h.sd C H B σ δ n _ _ R q λvs xs H1 n1 R1 k1 r1 q1=>by
  split at q1
  ·rename_i ds e;have r:=r1.plain e;have hl:vs.length<=A1:=by rw[r.len];exact small q1.1
   refine⟨hl,λp hp=>k _ _ _ n1 (R1.new hp) (k1.trans (Kp.new hp)) (wd (show RdX _ B (.ref p) (.tuple ds)from ?_)) q1.2⟩;exact .tup jao (R1.nb hp) hl ((r.fresh hp).less λb z=>.inl z)
  ·exact q1.elim⟩
def fLst (w:DTA):DTF:=λδ n Q=>w δ n λxs n1=>match je4 xs with
 |some ds=>ds.length<=1000/\Q ds n1
 |none=>False
theorem jb9 (h:DA X es tR wR):DF X (.List es pos) (tLst tR) (fLst wR):=⟨jv4 h.pa,λC H B σ δ n Q Q' R q k =>
 h.sd C H B σ δ n _ _ R q λvs xs H1 n1 R1 k1 r1 q1=>by
  split at q1
  ·rename_i ds e;have r:=r1.plain e;have hl:vs.length<=A1:=by rw[r.len];exact small q1.1
   have hn:∀p,H1 p=none->H p=none:=λp hp=>by
    cases q:H p with
    |none=>rfl
    |some o =>
     by_cases z:p=C.t
     ·subst z;obtain⟨_,_,h,_⟩:=R1.tp.ob;rw[h]at hp;cases hp
     ·rw[k1 p o q z]at hp;cases hp
   exact⟨hl,λp hp=>k p vs ds _ n1 (R1.new hp) (k1.trans (Kp.new hp)) (hn p hp) jao hl (r.fresh hp) q1.2⟩
  ·exact q1.elim⟩
def wOf (w:DTF):DT:=λδ n Q=>w δ n λds n1=>Q (.d (.list ds)) n1
theorem j44 {t:TE} {w:DTF} (h:SndF t w):Snd t (wOf w):=λC H B σ δ n Q Q' R q k =>
 h C H B σ δ n _ _ R q λa xs ds H' n' R' k' h0 h1 h2 h3 q'=>k _ _ H' n' R' k' (wd (show RdX H' B (.ref a) (.list ds)from .lst h1 (R.nb h0) h2 (h3.less λb z=>.inl z))) q'
theorem DF.d {w:DTF} {t:TE} (h:DF X e t w):DE X e t (wOf w):=⟨h.pe,j44 h.sd⟩
theorem Rel.was {C:Ctx} {H H1:Hp} {B:Addr->Prop} {σ:St} {δ:Sl} {n1:Int} (R1:Rel C H1 B σ δ n1) (k1:Kp C.t H H1) {p:Addr} (hp:H1 p=none):H p=none:=by
 cases q:H p with
 |none=>rfl
 |some o =>
  by_cases z:p=C.t
  ·subst z;obtain⟨_,_,h,_⟩:=R1.tp.ob;rw[h]at hp;cases hp
  ·rw[k1 p o q z]at hp;cases hp
abbrev DSp:=List Wv->Int->DQ->Prop
def spOf (S:DSp):Sp:=λvs H Q _=>∃(t:Addr) (l:TL) (ns:List Int) (B:Addr->Prop) (ws:List Wv) (n:Int) (Q0:DQ),Tp H t l ns n/\B t/\(∀b,B b->H b≠none)/\ARel H B t vs ws/\S ws n Q0 /\
 ∀w n',Q0 w n'->∀v H',Tp H' t l ns n'->Kp t H H'->WRel H' B t v w->Q v H'
section
variable {X:Cx} {e:Expr} {es:List Expr} {pos p:Pos} {tR:TA} {wR:DTA}
def jam (S:DSp) (w:DTA):DT:=λδ n Q=>w δ n λxs n1=>S xs n1 Q
theorem jym {S:DSp} {t:TA} {w:DTA} (h:SndA t w):Snd (jnl (spOf S) [] E0 t) (jam S w):=λC H B σ δ n Q Q' R q k =>
 h C H B σ δ n _ _ R q λvs xs H1 n1 R1 k1 r1 q1=>by
  refine⟨C.t,C.l,C.ns,B,xs,n1,Q,R1.tp,R1.bt,R1.ba,by rw[Bz];exact r1,q1,λw n' q2 v H' T' k' r'=>?_⟩;exact k v w H' n' (R1.step T' k') (k1.trans k') r' q2
theorem j7q {k:Nat} {f:Addr} {fd:Cb} {ps:List Str} {S:DSp} {x:Str} (F:FnOk X.prog X.w X.K X.mg X.base CX0 k f fd ps (spOf S)) (hr:Room k X.A) (hg:Gl X x) (hm:X.mg x=some (.ref f)) (hk:Cv X.K (.ref f)=true) (hb:Binds X.K fd ps [])
  (ha:DA X (e::es) tR wR) (hdb:(x==("__debug__":Str))=false:=by decide) (he:Az (e::es) X.env=(false,eval e X.env)::Az es X.env:=by rfl) (hpl:(Cz pos (Az es X.env)).any (·.1)=false:=by rfl) :
  DE X (.Call (.Name x p) (e::es) [] pos) (jnl (spOf S) [] E0 tR) (jam S wR):=⟨jrd F hr hg hm hk hb .nil j3a ha.pa hdb he hpl,jym ha.sd⟩
def SndB (r:List V->Hp->VK->Prop) (g:List Wv->Int->DQ->Prop):Prop:=∀(C:Ctx) (H:Hp) (B:Addr->Prop) (σ:St) (δ:Sl) (n:Int) (vs:List V) (xs:List Wv) (Q:DQ) (Q':VK),Rel C H B σ δ n->ARel H B C.t vs xs->g xs n Q ->
 (∀v x H' n',Rel C H' B σ δ n'->Kp C.t H H'->WRel H' B C.t v x->Q x n'->Q' v H')->r vs H Q'
def wB (g:List Wv->Int->DQ->Prop) (w:DTA):DT:=λδ n Q=>w δ n λxs n1=>g xs n1 Q
theorem j46 {r:List V->Hp->VK->Prop} {g:List Wv->Int->DQ->Prop} {t:TA} {w:DTA} (hr:SndB r g) (h:SndA t w):Snd (tCB r t) (wB g w):=λC H B σ δ n Q Q' R q k =>
 h C H B σ δ n _ _ R q λvs xs H1 n1 R1 k1 r1 q1=>hr C H1 B σ δ n1 vs xs Q Q' R1 r1 q1 λv x H2 n2 R2 k2 r2 q2=>k v x H2 n2 R2 (k1.trans k2) r2 q2
theorem jbd {id:String} {x:Str} {r:List V->Hp->VK->Prop} {g:List Wv->Int->DQ->Prop} (hc:CallR X (.builtin id) r) (hr:SndB r g) (hg:Gl X x) (hm:X.mg x=none) (hv:B3 x=some (.builtin id)) (ha:DA X (e::es) tR wR) (hn:x≠"__name__":=by decide) (hdb:(x==("__debug__":Str))=false:=by decide)
  (he:Az (e::es) X.env=(false,eval e X.env)::Az es X.env:=by rfl) (hpl:(Cz pos (Az es X.env)).any (·.1)=false:=by rfl):DE X (.Call (.Name x p) (e::es) [] pos) (tCB r tR) (wB g wR):=⟨jdm hc hg hm hv ha.pa hn hdb he hpl,j46 hr ha.sd⟩
theorem jbg {T:String} {x:Str} {r:List V->Hp->VK->Prop} {g:List Wv->Int->DQ->Prop} (hc:CallR X (.type T) r) (hr:SndB r g) (hg:Gl X x) (hm:X.mg x=none) (hv:B3 x=some (.type T)) (ha:DA X (e::es) tR wR) (hn:x≠"__name__":=by decide) (hdb:(x==("__debug__":Str))=false:=by decide)
  (he:Az (e::es) X.env=(false,eval e X.env)::Az es X.env:=by rfl) (hpl:(Cz pos (Az es X.env)).any (·.1)=false:=by rfl):DE X (.Call (.Name x p) (e::es) [] pos) (tCB r tR) (wB g wR):=⟨jgs hc hg hm hv ha.pa hn hdb he hpl,j46 hr ha.sd⟩
end
structure DEnds where
 nx:Sl->Int->Prop
 rt:DQ
 bk:Sl->Int->Prop:=λ_ _=>False
 ct:Sl->Int->Prop:=λ_ _=>False
 rn:List Ad->Int->Prop:=λ_ _=>False
abbrev DST:=Sl->Int->DEnds->Prop
structure EndsOk (C:Ctx) (K:DEnds) (D:Ends):Prop where
 nx:∀H B σ δ n,Rel C H B σ δ n->K.nx δ n->D.nx σ H
 rt:∀H B σ δ n v w,Rel C H B σ δ n->WRel H B C.t v w->K.rt w n->D.rt v H
 bk:∀H B σ δ n,Rel C H B σ δ n->K.bk δ n->D.bk σ H
 ct:∀H B σ δ n,Rel C H B σ δ n->K.ct δ n->D.ct σ H
 rn:∀H B σ δ n a xs ds,Rel C H B σ δ n->C.H0 a=none->H a=some (.lst xs)->xs.length<=A1->RdXs H (λb=>B b\/b=a) xs ds->K.rn ds n->D.rt (.ref a) H
def SndS (T:TS) (W:DST):Prop:=∀(C:Ctx) (H:Hp) (B:Addr->Prop) (σ:St) (δ:Sl) (n:Int) (K:DEnds) (D:Ends),Rel C H B σ δ n->W δ n K->EndsOk C K D->T D σ H
structure DS (X:Cx) (st:Stmt) (T:TS) (W:DST):Prop where
 ps:PS X st T
 sd:SndS T W
structure DSs (X:Cx) (st:List Stmt) (T:TS) (W:DST):Prop where
 ps:PSs X st T
 sd:SndS T W
section
variable {X:Cx} {st:Stmt} {rest:List Stmt} {T U:TS} {W V':DST} {e:Expr} {te:TE} {we:DT} {pos:Pos}
def jas:DST:=λδ n K=>K.nx δ n
def sSeq (W V:DST):DST:=λδ n K=>W δ n {K with nx:=λδ n=>V δ n K}
theorem jbp:DSs X [] j4w jas:=⟨jns,λC H B σ δ n K D R h E=>E.nx H B σ δ n R h⟩
theorem jah (h:DS X st T W) (h2:DSs X rest U V'):DSs X (st::rest) (tSeq T U) (sSeq W V'):=⟨jcb h.ps h2.ps,λC H B σ δ n K D R q E =>
 h.sd C H B σ δ n _ _ R q ⟨λH B σ δ n R q=>h2.sd C H B σ δ n K D R q E,E.rt,E.bk,E.ct,E.rn⟩⟩
theorem jan (h:DS X st T W):DSs X [st] T W:=⟨jhc h.ps,h.sd⟩
def sRet (w:DT):DST:=λδ n K=>w δ n K.rt
theorem ja7 (h:DE X e te we):DS X (.Return (some e) pos) (tRet te) (sRet we):=⟨jmx h.pe,λC H B σ δ n K D R q E =>
 h.sd C H B σ δ n _ _ R q λv x H' n' R' _ r' q'=>E.rt H' B σ δ n' v x R' r' q'⟩
def sIf (c:DTT) (W V:DST):DST:=λδ n K=>c δ n λb n1=>if b=true then W δ n1 K else V δ n1 K
theorem s_if {c:Expr} {a b:List Stmt} {tc:TT} {cc:DTT} (hc:DC X c tc cc) (ha:DSs X a T W) (hb:DSs X b U V'):DS X (.If c a b pos) (tIfS tc T U) (sIf cc W V'):=⟨jy2 hc.pt ha.ps hb.ps,λC H B σ δ n K D R q E =>
 hc.sd C H B σ δ n _ _ R q λb H1 n1 R1 _ q1=>by
  cases b with
  |true =>
   rw[if_pos rfl]at q1 ⊢;exact ha.sd C H1 B σ δ n1 K D R1 q1 E
  |false =>
   rw[if_neg Ag]at q1 ⊢;exact hb.sd C H1 B σ δ n1 K D R1 q1 E⟩
def sSet (i:Nat) (w:DT):DST:=λδ n K=>w δ n λx n1=>match x with
 |.d d=>K.nx (δ.set i (some (.w (.d d)))) n1
 |.tp=>K.nx (δ.set i (some (.w .tp))) n1
 |.dk _=>False
 |.ln _=>False
 |.ob o=>K.nx (δ.set i (some (.w (.ob o)))) n1
theorem jba {i:Nat} {x:Str} {pos':Pos} (hN:X.N.Nodup) (hi:X.N[i]?=some x) (hx:Loc X.env.scope x) (he:DE X e te we) (hs:Do e (some (.Name x pos')) pos.line X.env=pure false:=by rfl) (hf:X.fn x=true\/X.env.scope.names.lookup x=some .local:=by first | exact .inl rfl | exact .inr rfl | assumption) :
  DS X (.Assign [.Name x pos'] e pos) (tAsg te (jhs i)) (sSet i we):=⟨jf4 hN hi hx he.pe hs hf,λC H B σ δ n K D R q E =>
 he.sd C H B σ δ n _ _ R q λv x H1 n1 R1 _ r1 q1=>by
  cases x with
  |d d=>exact E.nx _ _ _ _ _ (R1.set r1 rfl) q1
  |tp=>exact E.nx _ _ _ _ _ (R1.set r1 rfl) q1
  |dk _=>exact q1.elim
  |ln _=>exact q1.elim
  |ob o=>exact E.nx _ _ _ _ _ (R1.set r1 rfl) q1⟩
def sOwn (i:Nat) (w:DTF):DST:=λδ n K=>w δ n λds n1=>K.nx (δ.set i (some (.own ds))) n1
theorem Rel.h0 {C:Ctx} {H:Hp} {B:Addr->Prop} {σ:St} {δ:Sl} {n:Int} {a:Addr} (R:Rel C H B σ δ n) (h:H a=none):C.H0 a=none:=R.was R.kp h
theorem jfy {i:Nat} {x:Str} {pos':Pos} {w:DTF} (hN:X.N.Nodup) (hi:X.N[i]?=some x) (hx:Loc X.env.scope x) (he:DF X e te w) (hs:Do e (some (.Name x pos')) pos.line X.env=pure false:=by rfl) (hf:X.fn x=true\/X.env.scope.names.lookup x=some .local:=by first | exact .inl rfl | exact .inr rfl | assumption) :
  DS X (.Assign [.Name x pos'] e pos) (tAsg te (jhs i)) (sOwn i w):=⟨jf4 hN hi hx he.pe hs hf,λC H B σ δ n K D R q E =>
 he.sd C H B σ δ n _ _ R q λa xs ds H1 n1 R1 k1 h0 h1 h2 h3 q1=>by
  refine E.nx _ _ _ _ _ (R.own R1 k1 h0 (by rw[h1];exact λz=>nomatch z) rfl ?_) q1;exact⟨a,xs,rfl,h1,.inr rfl,R.h0 h0,h2,h3⟩⟩
def sFrz (i:Nat) (W:DST):DST:=λδ n K=>match δ[i]? with
 |some (some (.own ds))=>W (δ.set i (some (.w (.d (.list ds))))) n K
 |some (some (.odk m))=>W (δ.set i (some (.w (.ob (.k m))))) n K
 |_=>W δ n K
theorem jfz (i:Nat) {sts:List Stmt} (h:DSs X sts T W):DSs X sts T (sFrz i W):=⟨h.ps,λC H B σ δ n K D R q E=>by
 unfold sFrz at q
 split at q
 ·rename_i ds e;obtain⟨B',R'⟩:=R.frz e;exact h.sd C H B' σ _ n K D R' q E
 ·rename_i m e;obtain⟨B',R'⟩:=R.frzK e;exact h.sd C H B' σ _ n K D R' q E
 ·exact h.sd C H B σ δ n K D R q E⟩
def sApp (i:Nat) (w:DT):DST:=λδ n K=>match δ[i]? with
 |some (some (.own ds))=>w δ n λx n1=>match x with
  |.d d=>ds.length < 1000000/\K.nx (δ.set i (some (.own (ds++[d])))) n1
  |_=>False
 |_=>False
theorem jwg {n:Nat} (h:n < 1000000):n < A1:=Nat.lt_trans h (by decide)
theorem jev {i:Nat} {x:Str} {xp ap cp:Pos} (hN:X.N[i]?=some x) (he:DE X e te we) (hv:Vis X.env.scope x:=by first | exact Ap rfl | exact Bw (Ap rfl) | exact Bw (Bw rfl)) (hd:(x==("__debug__":Str))=false:=by decide)
  (hcd:(x==("__classdict__":Str))=false:=by decide)
  (hbase:Ff (.Name x xp) "append" X.env (eval (.Name x xp) X.env)=eval (.Name x xp) X.env:=by rfl)
  (hfew:((Cz cp (Az [e] X.env)).all (λx=>!x.1)&&(backToKw cp (keywordEach [] X.env)).all (λx=>x.1.isSome)
   && decide ([e].length+([]:List Keyword).length+(if ([]:List Keyword).isEmpty then 0 else 1) < 30))=true:=by rfl)
  (hline:(ap.endLine==cp.line)=true:=by rfl) (hs:Az [e] X.env=[(false,eval e X.env)]:=by rfl) (hplain:(Cz cp (Az [] X.env)).any (·.1)=false:=by rfl)
  (hsw:Do (.Call (.Attribute (.Name x xp) "append" ap) [e] [] cp) none pos.line X.env=pure false:=by rfl) :
  DS X (.Expr (.Call (.Attribute (.Name x xp) "append" ap) [e] [] cp) pos) (jye (tBM X.K "list" jvv (tVar i) (jcx te tNil))) (sApp i we) :=
 ⟨jrb (j28 Gp PySem.F.slot_list_append PySem.F.type_list_append jj2 (jdl hN hv hd hcd) (ja9 he.pe jca hs) hbase hfew hline hs hplain) hsw,λC H B σ δ n K D R q E=>by
  unfold sApp at q
  split at q
  ·rename_i ds ei;obtain⟨v,hv,a,xs,rfl,e2,e3,e4,e5,e6⟩:=R.sl i _ ei;refine⟨_,hv,.inl ⟨rfl,_,SqL.of e2⟩,he.sd C H B σ δ n _ _ R q λu y H1 n1 R1 k1 r1 q1=>?_⟩;cases y with
   |d d =>
    have hat:a≠C.t:=λz=>R.t0 (z▸e4);have e2':=k1 _ _ e2 hat;refine⟨a,xs,u,rfl,rfl,e2',jwg (by rw[e6.len];exact q1.1),?_⟩;refine E.nx _ _ _ _ _ (R1.mutOwn ei rfl hv e3 e4 ?_ rfl) q1.2;refine⟨a,xs++[u],rfl,jao,e3,e4,?_,?_⟩
    ·rw[Ah,e6.len];exact jwg q1.1
    ·refine RdXs.keep (λb o e n=>?_) ((e6.kp k1 R.bt).append (.cons r1 .nil));rw[jap λ(z:b=a)=>n (z▸e3)];exact e
   |tp=>exact q1.elim
   |dk _=>exact q1.elim
   |ln _=>exact q1.elim
   |ob _=>exact q1.elim
  ·exact q.elim⟩
end
def ja3 (N:List Str) (ws:List Wv):Sl:=ws.map (λx=>some (.w x))++Dl (N.length - ws.length) none
theorem ARel.get {H:Hp} {B:Addr->Prop} {t:Addr}:∀{vs:List V} {xs:List Wv} {i:Nat} {x:Wv},ARel H B t vs xs->xs[i]?=some x->∃v,vs[i]?=some v/\WRel H B t v x
 |_,_,_,_,.nil,e=>by simp at e
 |_,_,0,_,.cons h _,e=>by
  simp at e;subst e;exact⟨_,rfl,h⟩
 |_,_,i+1,x,.cons _ r,e=>by
  obtain⟨v,h1,h2⟩:=ARel.get (i:=i) (x:=x) r (by simpa using e);exact⟨v,by simpa using h1,h2⟩
theorem jpk {H:Hp} {t:Addr} {l:TL} {ns:List Int} {B:Addr->Prop} {vs:List V} {ws:List Wv} {n:Int} {N:List Str} (T:Tp H t l ns n) (bt:B t) (ba:∀b,B b->H b≠none) (r:ARel H B t vs ws):Rel ⟨t,l,ns,H,B,λ_=>none⟩ H B (L2.start N vs) (ja3 N ws) n where
 tp:=T
 kp:=Kp.refl _ _
 t0:=by
  obtain⟨_,_,h,_⟩:=T.ob;show H t≠none;rw[h];exact λz=>nomatch z
 l0:=by
  show H l.s≠none;rw[T.ls];exact λz=>nomatch z
 g0:=λe=>by
  show H l.g≠none;rw[T.ag e];exact λz=>nomatch z
 fz:=λb o e=>nomatch e
 bt:=bt
 b0:=λ_ z=>z
 ba:=ba
 a0:=ba
 sl:=λi x e=>by
  have hl:=r.len;unfold ja3 at e;rw[List.getElem?_append]at e
  split at e
  ·rename_i hi;rw[Ab]at hi;rw[Ay]at e;cases q:ws[i]? with
   |none=>rw[q]at e;cases e
   |some y =>
    rw[q]at e;cases e;obtain⟨v,h1,h2⟩:=r.get q;refine⟨v,?_,h2,λz=>?_⟩
    ·unfold L2.start;rw[Cl9 (by rw[Ab,hl];exact hi),Ay,h1];rfl
    ·cases y with
     |d _=>cases z
     |tp=>cases z
     |dk _ =>
      obtain⟨a,l',f1,f2,_⟩:=h2;exact⟨a,f1,by show H a≠none;rw[f2];exact λz=>nomatch z⟩
     |ln _ =>
      obtain⟨a,l',f1,f2,_⟩:=h2;exact⟨a,f1,by show H a≠none;rw[f2];exact λz=>nomatch z⟩
     |ob _=>cases z
  ·rw[D5]at e
   split at e
   ·cases e
   ·cases e
 ow:=λi j x y v e1 e2 o1 o2 _ _=>by
  unfold ja3 at e1;rw[List.getElem?_append]at e1
  split at e1
  ·rw[Ay]at e1;cases q:ws[i]? with
   |none=>rw[q]at e1;cases e1
   |some y =>
    rw[q]at e1;cases e1;cases o1
  ·rw[D5]at e1
   split at e1
   ·cases e1
   ·cases e1
 len:=by
  unfold L2.start ja3;rw[Ah,Ah,Ab,Ab,List.length_replicate,List.length_replicate,r.len]
section
variable {P:Bg} {w:Br} {K:Ai} {mg:Str->Option Af} {base:Heap}
theorem Fun.okD {x qual:Str} {st:Stmt} {f:Addr} {fd:Cb} {N ps:List Str} {k:Nat} {S:DSp} (F:Fun K x qual st f fd) (Sc:FnScope N ps (jak st)) (len:∀ws n Q,S ws n Q->ws.length=ps.length)
  (hbody:∀(cdv:Af) (A:B4) (outer:List Env) (s:Ak) (H:Hp) (E:XK),Room k (A.deeper (PyProof.Rows.envOfC qual (jak st) s.heap.objs.size f cdv)) ->
   ∃T W,DSs (cxOf CX0 P w K mg base N qual (jak st) f cdv A outer s H E).nox (jdt st) T W/\∀ws n Q,S ws n Q->W (ja3 N ws) n {nx:=λ_ n=>Q (.d .none) n,rt:=Q}):FnOk P w K mg base CX0 (k+1) f fd ps (spOf S):=by
 refine F.ok Sc (λvs H Q E h=>?_) (λcdv A outer s H vs Q E hr h=>?_)
 ·obtain⟨t,l,ns,B,ws,n,Q0,_,_,_,r,q,_⟩:=h;rw[r.len];exact len ws n Q0 q
 ·obtain⟨t,l,ns,B,ws,n,Q0,T,bt,ba,r,q,kk⟩:=h;obtain⟨T',W,d,hw⟩:=hbody cdv A outer s H E hr;refine⟨T',d.ps,d.sd ⟨t,l,ns,H,B,λ_=>none⟩ H B _ _ n _ _ (jpk T bt ba r) (hw ws n Q0 q) ⟨?_,?_,?_,?_,λ_ _ _ _ _ _ _ _ _ _ _ _ _ z=>z.elim⟩⟩
  ·exact λH' B' σ δ n' R' q'=>kk _ _ q' .non H' R'.tp R'.kp (show RdX H' B .non .none from .non)
  ·exact λH' B' σ δ n' v x R' r' q'=>kk _ _ q' v H' R'.tp R'.kp (r'.less R'.b0)
  ·exact λ_ _ _ _ _ _ z=>z.elim
  ·exact λ_ _ _ _ _ _ z=>z.elim
end
section
variable {X:Cx} {a b c e:Expr} {ta tb tc te:TE} {wa wb wc we:DT} {pos p:Pos}
def gI (Cd:Int->Int->Prop) (f:Int->Int->Ad):Wv->Wv->Int->DQ->Prop:=λx y n Q=>match x,y with
 |.d (.int i),.d (.int j)=>Cd i j/\Q (.d (f i j)) n
 |_,_=>False
theorem j43 {Cd:Int->Int->Prop} {g:Int->Int->V} {f:Int->Int->Ad} (h:∀i j H B,RdX H B (g i j) (f i j)):SndO (rI Cd g) (gI Cd f):=λC H B σ δ n x y p q Q Q' R rx ry h1 k=>by
 unfold gI at h1
 split at h1
 ·rename_i i j;cases(show RdX H B x (.int i)from rx);cases(show RdX H B y (.int j)from ry);exact⟨i,j,rfl,rfl,h1.1,k _ _ H n R (Kp.refl _ _) (wd (h i j H B)) h1.2⟩
 ·exact h1.elim
def gI0 (f:Int->Int->Ad):Wv->Wv->Int->DQ->Prop:=λx y n Q=>match x,y with
 |.d (.int i),.d (.int j)=>Q (.d (f i j)) n
 |_,_=>False
theorem ju8 {g:Int->Int->V} {f:Int->Int->Ad} (h:∀i j H B,RdX H B (g i j) (f i j)):SndO (rI0 g) (gI0 f):=λC H B σ δ n x y p q Q Q' R rx ry h1 k=>by
 unfold gI0 at h1
 split at h1
 ·rename_i i j;cases(show RdX H B x (.int i)from rx);cases(show RdX H B y (.int j)from ry);exact⟨i,j,rfl,rfl,k _ _ H n R (Kp.refl _ _) (wd (h i j H B)) h1⟩
 ·exact h1.elim
theorem jxd (ha:DE X a ta wa) (hb:DE X b tb wb):DE X (.BinOp a .Sub b pos) (tOp (rI0 λi j=>.int (i - j)) ta tb) (w2 wa wb (gI0 λi j=>.int (i - j))):=d_op j6b (ju8 λ_ _ _ _=>.int _) ha hb
theorem j81 (ha:DE X a ta wa) (hb:DE X b tb wb):DE X (.BinOp a .Mod b pos) (tOp (rI (λ_ j=>0 < j) λi j=>.int (i % j)) ta tb) (w2 wa wb (gI (λ_ j=>0 < j) λi j=>.int (i % j))):=d_op jgt (j43 λ_ _ _ _=>.int _) ha hb
def wNeg (w:DT):DT:=λδ n Q=>w δ n λx n1=>match x with
 |.d (.int i)=>Q (.d (.int (-i))) n1
 |_=>False
theorem jrs (ha:DE X a ta wa):DE X (.UnaryOp .USub a pos) (tUn (rU λi=>.int (-i)) ta) (wNeg wa):=⟨j8e j4o ha.pe,λC H B σ δ n Q Q' R q k=>ha.sd C H B σ δ n _ _ R q λv x H1 n1 R1 k1 r1 q1=>by
 split at q1
 ·rename_i i;cases(show RdX H1 B v (.int i)from r1);exact⟨i,rfl,k _ _ H1 n1 R1 k1 (wd (.int _)) q1⟩
 ·exact q1.elim⟩
def gAdd:Wv->Wv->Int->DQ->Prop:=λx y n Q=>match x,y with
 |.d (.int i),.d (.int j)=>Q (.d (.int (i+j))) n
 |.d (.str i),.d (.str j)=>i.length+j.length<=A1/\Q (.d (.str (i++j))) n
 |.d (.tuple i),.d (.tuple j)=>(i≠[]\/j≠[])/\i.length+j.length<=A1/\Q (.d (.tuple (i++j))) n
 |.d (.list i),.d (.list j)=>i.length+j.length<=A1/\Q (.d (.list (i++j))) n
 |_,_=>False
def jyz (K:Ai):R2:=λx y H Q=>(rI0 λi j=>.int (i+j)) x y H Q\/(∃i j,x=.str i/\y=.str j/\i.length+j.length<=A1/\Q (.str (i++j)) H)\/j5u K x y H Q\/j5t K x y H Q\/rCat x y H Q
theorem op_addA:OpR X (Ec .Add) (jyz X.K) :=
 op_add.or (op_add_str.or (op_catA.or (op_catT.or jwc)))
theorem jq4 (i j:Str):(i++j).length=i.length+j.length:=Array.size_append
theorem jyo {K:Ai}:SndO (jyz K) gAdd:=λC H B σ δ n x y p q Q Q' R rx ry h1 k=>by
 unfold gAdd at h1
 split at h1
 ·rename_i i j;cases(show RdX H B x (.int i)from rx);cases(show RdX H B y (.int j)from ry);exact .inl ⟨i,j,rfl,rfl,k _ _ H n R (Kp.refl _ _) (wd (.int _)) h1⟩
 ·rename_i i j;cases(show RdX H B x (.str i)from rx);cases(show RdX H B y (.str j)from ry);exact .inr (.inl ⟨i,j,rfl,rfl,h1.1,k _ _ H n R (Kp.refl _ _) (wd (show RdX H B _ (.str (i++j))from .str _ (by rw[jq4];exact h1.1))) h1.2⟩)
 ·rename_i i j;cases(show RdX H B x (.tuple i)from rx)with
  |@tup ax xs _ e1 e2 e3 e4 =>
   cases(show RdX H B y (.tuple j)from ry)with
   |@tup ay ys _ f1 f2 f3 f4 =>
    obtain⟨ne,hl,q⟩:=h1;have hl':xs.length+ys.length<=A1:=by rw[e4.len,f4.len];exact hl
    have new:∀pn,H pn=none->Q' (.ref pn) (upd H pn (.tup (xs++ys))):=λpn hp=>by
     refine k _ _ _ n (R.new hp) (Kp.new hp) (wd (show RdX _ B _ (.tuple (i++j))from .tup jao (R.nb hp) (by rw[Ah];exact hl') ?_)) q;exact((e4.append f4).fresh hp).less λb z=>.inl z
    by_cases hy:ys=[]
    ·have hx:xs≠[]:=λz=>by
      subst hy z;cases e4;cases f4;exact ne.elim (λq=>q rfl) λq=>q rfl
     refine .inr (.inr (.inr (.inl ⟨ax,ay,xs,ys,rfl,rfl,SqT.of e1,SqT.of f1,hx,hl',λ_=>?_,λ_=>new⟩)));subst hy;cases f4;rw[Bz]at q;exact k _ _ H n R (Kp.refl _ _) (wd (show RdX H B _ (.tuple i)from .tup e1 e2 e3 e4)) q
    ·refine .inr (.inr (.inl ⟨ax,ay,xs,ys,rfl,rfl,SqT.of e1,SqT.of f1,hy,hl',λz=>?_,λ_=>new⟩));subst z;cases e4;exact k _ _ H n R (Kp.refl _ _) (wd (show RdX H B _ (.tuple j)from .tup f1 f2 f3 f4)) q
 ·rename_i i j;cases(show RdX H B x (.list i)from rx)with
  |@lst ax xs _ e1 e2 e3 e4 =>
   cases(show RdX H B y (.list j)from ry)with
   |@lst ay ys _ f1 f2 f3 f4 =>
    obtain⟨hl,q⟩:=h1;have hl':xs.length+ys.length<=A1:=by rw[e4.len,f4.len];exact hl
    refine .inr (.inr (.inr (.inr ⟨ax,ay,xs,ys,rfl,rfl,e1,f1,hl',λpn hp=>?_⟩)));refine k _ _ _ n (R.new hp) (Kp.new hp) (wd (show RdX _ B _ (.list (i++j))from .lst jao (R.nb hp) (by rw[Ah];exact hl') ?_)) q;exact((e4.append f4).fresh hp).less λb z=>.inl z
 ·exact h1.elim
def gCmp (f:Int->Int->Bool) (h:List Nat->List Nat->Bool):Wv->Wv->Int->DQ->Prop:=λx y n Q=>match x,y with
 |.d (.int i),.d (.int j)=>Q (.d (.bool (f i j))) n
 |.d (.str i),.d (.str j)=>Q (.d (.bool (h i.cps.toList j.cps.toList))) n
 |_,_=>False
theorem jq5 {f:Int->Int->Bool} {h:List Nat->List Nat->Bool}:SndO (λx y H Q=>(rI0 λi j=>.bl (f i j)) x y H Q\/∃i j,x=.str i/\y=.str j/\Q (.bl (h i.cps.toList j.cps.toList)) H) (gCmp f h):=λC H B σ δ n x y p q Q Q' R rx ry h1 k=>by
 unfold gCmp at h1
 split at h1
 ·rename_i i j;cases(show RdX H B x (.int i)from rx);cases(show RdX H B y (.int j)from ry);exact .inl ⟨i,j,rfl,rfl,k _ _ H n R (Kp.refl _ _) (wd (.bl _)) h1⟩
 ·rename_i i j;cases(show RdX H B x (.str i)from rx);cases(show RdX H B y (.str j)from ry);exact .inr ⟨i,j,rfl,rfl,k _ _ H n R (Kp.refl _ _) (wd (.bl _)) h1⟩
 ·exact h1.elim
abbrev gLt:=gCmp (λi j=>decide (i < j)) (λi j=>decide (i < j))
abbrev gLe:=gCmp (λi j=>decide (i<=j)) (λi j=>!decide (j < i))
abbrev gGt:=gCmp (λi j=>decide (j < i)) (λi j=>decide (j < i))
def rLtA:R2:=λx y H Q=>(rI0 λi j=>.bl (decide (i < j))) x y H Q\/∃i j,x=.str i/\y=.str j/\Q (.bl (decide (i.cps.toList < j.cps.toList))) H
theorem jjz:OpR X (Bu .Lt) rLtA:=op_lt.or jv7
def rLeA:R2:=λx y H Q=>(rI0 λi j=>.bl (decide (i<=j))) x y H Q\/∃i j,x=.str i/\y=.str j/\Q (.bl (!decide (j.cps.toList < i.cps.toList))) H
theorem j1e:OpR X (Bu .LtE) rLeA:=op_le.or jv8
def rGtA:R2:=λx y H Q=>(rI0 λi j=>.bl (decide (j < i))) x y H Q\/∃i j,x=.str i/\y=.str j/\Q (.bl (decide (j.cps.toList < i.cps.toList))) H
theorem jsq:OpR X (Bu .Gt) rGtA:=op_gt.or jwa
theorem jjl:SndO rLtA gLt:=jq5 (f:=λi j=>decide (i < j)) (h:=λi j=>decide (i < j))
theorem j00:SndO rLeA gLe:=jq5 (f:=λi j=>decide (i<=j)) (h:=λi j=>!decide (j < i))
theorem jsb:SndO rGtA gGt:=jq5 (f:=λi j=>decide (j < i)) (h:=λi j=>decide (j < i))
def eqD:Ad->Ad->Option Bool
 |.none,.none=>some true
 |.none,.int _=>some false
 |.int _,.none=>some false
 |.none,.bool _=>some false
 |.bool _,.none=>some false
 |.none,.str _=>some false
 |.str _,.none=>some false
 |.int i,.int j=>some (decide (i=j))
 |.bool i,.bool j=>some (decide (i=j))
 |.str i,.str j=>some (decide (i=j))
 |.int _,.str _=>some false
 |.str _,.int _=>some false
 |.bool _,.str _=>some false
 |.str _,.bool _=>some false
 |.list _,.str _=>some false
 |.tuple _,.str _=>some false
 |.dict _,.str _=>some false
 |.list xs,.list []=>some xs.isEmpty
 |_,_=>none
def jyy:R2:=λx y H Q=>∃d h B,RdX H B x d/\y=.str h/\Q (.bl (jat h d)) H
theorem joo (x y:Str):decide (V.str x=V.str y)=decide (x=y):=by
 by_cases z:x=y
 ·rw[z,decide_eq_true rfl,decide_eq_true rfl]
 ·rw[decide_eq_false z,decide_eq_false λw=>z (V.str.inj w)]
theorem js7 (x y:Int):decide (V.int x=V.int y)=decide (x=y):=by
 by_cases z:x=y
 ·rw[z,decide_eq_true rfl,decide_eq_true rfl]
 ·rw[decide_eq_false z,decide_eq_false λw=>z (V.int.inj w)]
theorem jxc (x y:Bool):decide (V.bl x=V.bl y)=decide (x=y):=by
 by_cases z:x=y
 ·rw[z,decide_eq_true rfl,decide_eq_true rfl]
 ·rw[decide_eq_false z,decide_eq_false λw=>z (V.bl.inj w)]
theorem j3d (hu:X.A.units < Ef):OpR X (Bu .Eq) jyy:=by
 intro pins s σ H x y v u Q I rx ry h;obtain⟨d,hh,B,hd,rfl,q⟩:=h;cases hd with
 |non=>exact op_eq pins s σ H _ _ v u Q I rx ry ⟨rfl,q⟩
 |bl b=>exact op_eq pins s σ H _ _ v u Q I rx ry ⟨rfl,q⟩
 |int i=>exact op_eq pins s σ H _ _ v u Q I rx ry ⟨rfl,q⟩
 |str x hx =>
  refine op_eq pins s σ H _ _ v u Q I rx ry ⟨rfl,?_⟩;rw[joo];exact q
 |@lst a xs ds h1 h2 h3 h4 =>
  cases(show v=A7 a from rx);obtain⟨t,rfl⟩:=(show ∃t,u=Value.str hh t from ry);obtain⟨its,_,p,_⟩:=I.list (SqL.of (K:=X.K) h1);exact PySem.SeqAt.RcAt.list_str hh t p.isList hu _ _ _ _ ⟨.bl false,H,I,rfl,q⟩
 |@tup a xs ds h1 h2 h3 h4 =>
  cases(show v=A7 a from rx);obtain⟨t,rfl⟩:=(show ∃t,u=Value.str hh t from ry);obtain⟨its,_,p,_⟩:=I.tuple (SqT.of (K:=X.K) h1);exact PySem.SeqAt.RcAt.tuple_str hh t (show s.heap.IsTuple a its.toArray from p) hu _ _ _ _ ⟨.bl false,H,I,rfl,q⟩
def gEq:Wv->Wv->Int->DQ->Prop:=λx y n Q=>match x,y with
 |.d a,.d b=>match eqD a b with
  |some r=>Q (.d (.bool r)) n
  |none=>False
 |_,_=>False
theorem j6e (hu:X.A.units < Ef):OpR X (Bu .Eq) (λx y H Q=>rEq x y H Q\/jyy x y H Q\/jsi X.K x y H Q):=op_eq.or ((j3d hu).or (jzd hu))
theorem j45 {K:Ai}:SndO (λx y H Q=>rEq x y H Q\/jyy x y H Q\/jsi K x y H Q) gEq:=λC H B σ δ n x y p q Q Q' R rx ry h1 k=>by
 unfold gEq at h1
 split at h1
 ·rename_i da db;have rx:RdX H B x da:=rx;have ry:RdX H B y db:=ry;have fin:∀r:Bool,Q (.d (.bool r)) n->Q' (.bl r) H:=λr q=>k _ _ H n R (Kp.refl _ _) (wd (.bl r)) q
  split at h1
  ·rename_i r er;have h1:=fin r h1;cases rx with
   |non=>cases ry<;>first | (cases er;done) | (cases er;exact .inl ⟨rfl,h1⟩)
   |bl i=>cases ry<;>first | (cases er;done) | (cases er;exact .inl ⟨rfl,by first | exact h1 | (rw[jxc];exact h1)⟩)
   |int i=>cases ry<;>first | (cases er;done) | (cases er;exact .inl ⟨rfl,by first | exact h1 | (rw[js7];exact h1)⟩)
   |str i hi=>cases ry<;>first | (cases er;done) | (cases er;exact .inl ⟨rfl,by first | exact h1 | (rw[joo];exact h1)⟩)
   |@lst ax xs ds e1 e2 e3 e4 =>
    cases ry with
    |str j hj=>cases er;exact .inr (.inl ⟨_,j,B,.lst e1 e2 e3 e4,rfl,h1⟩)
    |@lst ay ys es f1 f2 f3 f4 =>
     cases f4 with
     |nil =>
      have er:some ds.isEmpty=some r:=er;cases er;refine .inr (.inr ⟨ax,ay,xs,rfl,rfl,SqL.of e1,SqL.of f1,?_⟩);have:xs.isEmpty=ds.isEmpty:=by cases e4<;>rfl
      rw[this];exact h1
     |cons _ _=>cases er
    |_=>cases er
   |@tup ax xs ds e1 e2 e3 e4 =>
    cases ry with
    |str j hj=>cases er;exact .inr (.inl ⟨_,j,B,.tup e1 e2 e3 e4,rfl,h1⟩)
    |_=>cases er
  ·exact h1.elim
 ·exact h1.elim
def neD (a b:Ad):Option Bool:=match a,b with
 |.list _,_=>none
 |.tuple _,_=>none
 |a,b=>(eqD a b).map not
def gNe:Wv->Wv->Int->DQ->Prop:=λx y n Q=>match x,y with
 |.d a,.d b=>match neD a b with
  |some r=>Q (.d (.bool r)) n
  |none=>False
 |_,_=>False
theorem jf0:SndO rNe gNe:=λC H B σ δ n x y p q Q Q' R rx ry h1 k=>by
 unfold gNe at h1
 split at h1
 ·rename_i da db;have rx:RdX H B x da:=rx;have ry:RdX H B y db:=ry;have fin:∀r:Bool,Q (.d (.bool r)) n->Q' (.bl r) H:=λr q=>k _ _ H n R (Kp.refl _ _) (wd (.bl r)) q
  split at h1
  ·rename_i r er;have h1:=fin r h1;cases rx with
   |non=>cases ry<;>first | (cases er;done) | (cases er;exact⟨rfl,h1⟩)
   |bl i=>cases ry<;>first | (cases er;done) | (cases er;exact⟨rfl,by first | exact h1 | (rw[jxc];exact h1)⟩)
   |int i=>cases ry<;>first | (cases er;done) | (cases er;exact⟨rfl,by first | exact h1 | (rw[js7];exact h1)⟩)
   |str i hi=>cases ry<;>first | (cases er;done) | (cases er;exact⟨rfl,by first | exact h1 | (rw[joo];exact h1)⟩)
   |lst _ _ _ _=>cases er
   |tup _ _ _ _=>cases er
  ·exact h1.elim
 ·exact h1.elim
def jcy:Ad->Bool
 |.none=>true
 |_=>false
def gIsN (neg:Bool):Wv->Wv->Int->DQ->Prop:=λx y n Q=>match x,y with
 |.d a,.d .none=>Q (.d (.bool (if neg then !jcy a else jcy a))) n
 |_,_=>False
theorem jsr {H:Hp} {B:Addr->Prop} {v:V} {d:Ad} (h:RdX H B v d):decide (v=.non)=jcy d:=by cases h<;>rfl
theorem jhb:SndO (λx y H Q=>y=.non/\Q (.bl (decide (x=.non))) H) (gIsN false):=λC H B σ δ n x y p q Q Q' R rx ry h1 k=>by
 unfold gIsN at h1
 split at h1
 ·rename_i da;cases(show RdX H B y .none from ry);exact⟨rfl,k _ _ H n R (Kp.refl _ _) (wd (show RdX H B _ (.bool (jcy da))from by rw[jsr rx];exact .bl _)) h1⟩
 ·exact h1.elim
theorem jnn:SndO (λx y H Q=>y=.non/\Q (.bl (!decide (x=.non))) H) (gIsN true):=λC H B σ δ n x y p q Q Q' R rx ry h1 k=>by
 unfold gIsN at h1
 split at h1
 ·rename_i da;cases(show RdX H B y .none from ry);exact⟨rfl,k _ _ H n R (Kp.refl _ _) (wd (show RdX H B _ (.bool (!jcy da))from by rw[jsr rx];exact .bl _)) h1⟩
 ·exact h1.elim
def jdz:Ad->Bool
 |.none=>true
 |.bool _=>true
 |.int _=>true
 |.str _=>true
 |_=>false
def eqF:Ad->Ad->Bool
 |.none,.none=>true
 |.bool a,.bool b=>a==b
 |.bool a,.int b=>(if a then 1 else 0)==b
 |.int a,.bool b=>a==(if b then 1 else 0)
 |.int a,.int b=>a==b
 |.str a,.str b=>a==b
 |_,_=>false
def inD (x:Ad) (ds:List Ad):Bool:=ds.any λy=>eqF y x
theorem jge {H:Hp} {B:Addr->Prop} {v:V} {d:Ad} (h:RdX H B v d) (f:jdz d=true):ji0 v=true:=by cases h<;>first | rfl | cases f
theorem jdn {H:Hp} {B:Addr->Prop}:∀{vs:List V} {ds:List Ad},RdXs H B vs ds->ds.all jdz=true->vs.all ji0=true
 |_,_,.nil,_=>rfl
 |_,_,.cons h r,f=>by
  rw[List.all_cons,Cj]at f ⊢;exact⟨jge h f.1,jdn r f.2⟩
theorem j7h {H:Hp} {B:Addr->Prop} {v u:V} {d e:Ad} (h:RdX H B v d) (h2:RdX H B u e):eqV v u=eqF d e:=by cases h<;>cases h2<;>rfl
theorem jkc {H:Hp} {B:Addr->Prop} {v:V} {d:Ad} (h:RdX H B v d):∀{vs:List V} {ds:List Ad},RdXs H B vs ds->inV v vs=inD d ds
 |_,_,.nil=>rfl
 |_,_,.cons h1 r=>by
  have:=jkc h r;unfold inV inD at this ⊢;rw[Co,Co,this,j7h h1 h]
def gIn (neg:Bool):Wv->Wv->Int->DQ->Prop:=λx y n Q=>match x,y with
 |.d a,.d (.tuple ds)=>jdz a=true/\ds.all jdz=true/\Q (.d (.bool (if neg then !inD a ds else inD a ds))) n
 |.d a,.d (.list ds)=>jdz a=true/\ds.all jdz=true/\Q (.d (.bool (if neg then !inD a ds else inD a ds))) n
 |_,_=>False
theorem jel {K:Ai} {neg:Bool}:SndO (rIn K neg) (gIn neg):=λC H B σ δ n x y p q Q Q' R rx ry h1 k=>by
 unfold gIn at h1
 split at h1
 ·rename_i da ds;obtain⟨f1,f2,q⟩:=h1;have rx:RdX H B x da:=rx;cases(show RdX H B y (.tuple ds)from ry)with
  |@tup ay ys _ e1 e2 e3 e4 =>
   refine⟨ay,ys,rfl,.inr (SqT.of e1),jge rx f1,jdn e4 f2,?_⟩;rw[jkc rx e4];exact k _ _ H n R (Kp.refl _ _) (wd (.bl _)) q
 ·rename_i da ds;obtain⟨f1,f2,q⟩:=h1;have rx:RdX H B x da:=rx;cases(show RdX H B y (.list ds)from ry)with
  |@lst ay ys _ e1 e2 e3 e4 =>
   refine⟨ay,ys,rfl,.inl (SqL.of e1),jge rx f1,jdn e4 f2,?_⟩;rw[jkc rx e4];exact k _ _ H n R (Kp.refl _ _) (wd (.bl _)) q
 ·exact h1.elim
def gIx:Wv->Wv->Int->DQ->Prop:=λx y n Q=>match x,y with
 |.d (.list ds),.d (.int i)=>match atI ds i with
  |some d=>Q (.d d) n
  |none=>False
 |.d (.tuple ds),.d (.int i)=>match atI ds i with
  |some d=>Q (.d d) n
  |none=>False
 |.d (.str z),.d (.int i)=>match atI z.cps.toList i with
  |some c=>Q (.d (.str ⟨#[c]⟩)) n
  |none=>False
 |_,_=>False
theorem jxv {H:Hp} {B:Addr->Prop} {vs:List V} {ds:List Ad} {i:Int} {d:Ad} (r:RdXs H B vs ds) (h:atI ds i=some d):∃v,atI vs i=some v/\RdX H B v d:=by
 unfold atI at h ⊢;rw[r.len];cases e:ixN ds.length i with
 |none=>rw[e]at h;cases h
 |some j =>
  rw[e]at h;exact r.getD h
theorem jmk {K:Ai}:SndO (rIx K) gIx:=λC H B σ δ n x y p q Q Q' R rx ry h1 k=>by
 unfold gIx at h1
 split at h1
 ·rename_i ds i
  split at h1
  ·rename_i d e;cases(show RdX H B y (.int i)from ry);cases(show RdX H B x (.list ds)from rx)with
   |@lst ay ys _ e1 e2 e3 e4 =>
    obtain⟨v,f1,f2⟩:=jxv e4 e;exact .inl ⟨ay,ys,i,v,rfl,rfl,SqL.of e1,f1,k _ _ H n R (Kp.refl _ _) (wd f2) h1⟩
  ·exact h1.elim
 ·rename_i ds i
  split at h1
  ·rename_i d e;cases(show RdX H B y (.int i)from ry);cases(show RdX H B x (.tuple ds)from rx)with
   |@tup ay ys _ e1 e2 e3 e4 =>
    obtain⟨v,f1,f2⟩:=jxv e4 e;exact .inr (.inl ⟨ay,ys,i,v,rfl,rfl,SqT.of e1,f1,k _ _ H n R (Kp.refl _ _) (wd f2) h1⟩)
  ·exact h1.elim
 ·rename_i z i
  split at h1
  ·rename_i c e;cases(show RdX H B y (.int i)from ry);cases(show RdX H B x (.str z)from rx)with
   |str _ hz=>exact .inr (.inr ⟨z,i,c,rfl,rfl,hz,e,k _ _ H n R (Kp.refl _ _) (wd (show RdX H B _ (.str ⟨#[c]⟩)from .str _ (by show 1<=A1;decide))) h1⟩)
  ·exact h1.elim
 ·exact h1.elim
theorem d_ix (ha:DE X a ta wa) (hb:DE X b tb wb) (hs:jld b:=by exact λ_ _=>rfl):DE X (.Subscript a b pos) (tOp (rIx X.K) ta tb) (w2 wa wb gIx):=⟨jhd js0 ha.pe hb.pe hs,jmj jmk ha.sd hb.sd⟩
def gLen:List Wv->Int->DQ->Prop:=λxs n Q=>match xs with
 |[.d (.str x)]=>Q (.d (.int x.length)) n
 |[.d (.list ds)]=>Q (.d (.int ds.length)) n
 |[.d (.tuple ds)]=>Q (.d (.int ds.length)) n
 |_=>False
theorem jxp:CallR X (.builtin "len") (λxs H Q=>(∃z,xs=[.str z]/\z.length<=A1/\Q (.int z.length) H)\/∃p ys,xs=[.ref p]/\(SqL X.K H p ys\/SqT X.K H p ys)/\Q (.int ys.length) H):=call_len_str.or jdq
theorem j2j {K:Ai}:SndB (λxs H Q=>(∃z,xs=[.str z]/\z.length<=A1/\Q (.int z.length) H)\/∃p ys,xs=[.ref p]/\(SqL K H p ys\/SqT K H p ys)/\Q (.int ys.length) H) gLen:=λC H B σ δ n vs xs Q Q' R r h k=>by
 unfold gLen at h
 split at h
 ·rename_i x;cases r with
  |cons r1 r2 =>
   cases r2;cases(show RdX H B _ (.str x)from r1)with
   |str _ hz=>exact .inl ⟨x,rfl,hz,k _ _ H n R (Kp.refl _ _) (wd (.int _)) h⟩
 ·rename_i ds;cases r with
  |cons r1 r2 =>
   cases r2;cases(show RdX H B _ (.list ds)from r1)with
   |@lst ay ys _ e1 e2 e3 e4 =>
    refine .inr ⟨ay,ys,rfl,.inl (SqL.of e1),?_⟩;rw[e4.len];exact k _ _ H n R (Kp.refl _ _) (wd (.int _)) h
 ·rename_i ds;cases r with
  |cons r1 r2 =>
   cases r2;cases(show RdX H B _ (.tuple ds)from r1)with
   |@tup ay ys _ e1 e2 e3 e4 =>
    refine .inr ⟨ay,ys,rfl,.inr (SqT.of e1),?_⟩;rw[e4.len];exact k _ _ H n R (Kp.refl _ _) (wd (.int _)) h
 ·exact h.elim
theorem j4p {K:Ai} {H:Hp} {B:Addr->Prop} {v:V} {d:Ad} (h:RdX H B v d):TyOf K H v (.type (tyD d)):=by
 cases h with
 |non=>exact .non
 |bl b=>exact .bl b
 |int i=>exact .int i
 |str x h=>exact .str x
 |lst h1 h2 h3 h4=>exact .lst h1
 |tup h1 h2 h3 h4=>exact .tup h1
theorem j8k {K:Ai} {H:Hp} {B:Addr->Prop} {v:V} {d:Ad} (h:RdX H B v d) {T:String} (hT:T="int"\/T="bool"\/T="str"\/T="tuple"\/T="list"):PySem.W.kitOne K (.type (tyD d)) (.type T)=some (isiB T d):=by
 cases h<;>rcases hT with rfl | rfl | rfl | rfl | rfl<;>rfl
def wIsi (T:String) (w:DT):DT:=λδ n Q=>w δ n λx n1=>match x with
 |.d d=>Q (.d (.bool (isiB T d))) n1
 |_=>False
theorem j82 {T:String} {x:Str} {p p2:Pos} (hT:T="int"\/T="bool"\/T="str"\/T="tuple"\/T="list") (hg:Gl X "isinstance") (hm:X.mg "isinstance"=none) (hg2:Gl X x) (hm2:X.mg x=none) (hv:B3 x=some (.type T)) (ha:DE X a ta wa) (hn:x≠"__name__":=by decide) (hdb:(x==("__debug__":Str))=false:=by decide)
  (he:Az [a,.Name x p2] X.env=(false,eval a X.env)::Az [.Name x p2] X.env:=by rfl) (he2:Az [.Name x p2] X.env=(false,eval (.Name x p2) X.env)::Az [] X.env:=by rfl) (hpl:(Cz pos (Az [.Name x p2] X.env)).any (·.1)=false:=by rfl) :
  DE X (.Call (.Name "isinstance" p) [a,.Name x p2] [] pos) (tCB (λxs H Q=>∃x t b,xs=[x,.ty T]/\TyOf X.K H x t/\PySem.W.kitOne X.K t (.type T)=some b/\Q (.bl b) H) (jcx ta (jcx (tC (.ty T)) tNil))) (wIsi T wa) :=
 ⟨jdm (j0c (T:=T)) hg hm j7x (ja9 ha.pe (ja9 (j29 (v:=.ty T) hg2 hm2 hv rfl hn hdb) jca he2) he) (by decide) (by decide) he hpl,λC H B σ δ n Q Q' R q k=>ha.sd C H B σ δ n _ _ R q λv x H1 n1 R1 k1 r1 q1=>by
  cases x with
  |d d=>exact⟨v,_,_,rfl,j4p r1,j8k (show RdX H1 B v d from r1) hT,k _ _ H1 n1 R1 k1 (wd (.bl _)) q1⟩
  |tp=>exact q1.elim
  |dk _=>exact q1.elim
  |ln _=>exact q1.elim
  |ob _=>exact q1.elim⟩
def jdd:List Wv->Int->DQ->Prop:=λxs n Q=>match xs with
 |[.d (.list ds)]=>Small (.list ds)/\Q (.d (.str (PyData.shown (.list ds)))) n
 |[.d (.tuple ds)]=>Small (.tuple ds)/\Q (.d (.str (PyData.shown (.tuple ds)))) n
 |_=>False
theorem jyh {K:Ai}:SndB (λxs H Q=>∃a d,xs=[.ref a]/\RdD K H (.ref a) d/\Small d/\Q (.str d.shown) H) jdd:=λC H B σ δ n vs xs Q Q' R r h k=>by
 unfold jdd at h
 split at h
 ·rename_i ds;cases r with
  |cons r1 r2 =>
   cases r2;cases(show RdX H B _ (.list ds)from r1)with
   |@lst ay ys _ e1 e2 e3 e4=>exact⟨ay,_,rfl,(RdX.lst e1 e2 e3 e4).rd,h.1,k _ _ H n R (Kp.refl _ _) (wd (show RdX H B _ (.str _)from .str _ h.1.len)) h.2⟩
 ·rename_i ds;cases r with
  |cons r1 r2 =>
   cases r2;cases(show RdX H B _ (.tuple ds)from r1)with
   |@tup ay ys _ e1 e2 e3 e4=>exact⟨ay,_,rfl,(RdX.tup e1 e2 e3 e4).rd,h.1,k _ _ H n R (Kp.refl _ _) (wd (show RdX H B _ (.str _)from .str _ h.1.len)) h.2⟩
 ·exact h.elim
def jby:List Wv->Int->DQ->Prop:=λxs n Q=>match xs with
 |[.d (.list ds)]=>Q (.d (.tuple ds)) n
 |[.d (.tuple ds)]=>Q (.d (.tuple ds)) n
 |_=>False
theorem ju7 {K:Ai}:SndB (λxs H Q=>∃p ys,xs=[.ref p]/\((SqL K H p ys/\∀l,H l=none->Q (.ref l) (upd H l (.tup ys)))\/(SqT K H p ys/\Q (.ref p) H))) jby:=λC H B σ δ n vs xs Q Q' R r h k=>by
 unfold jby at h
 split at h
 ·rename_i ds;cases r with
  |cons r1 r2 =>
   cases r2;cases(show RdX H B _ (.list ds)from r1)with
   |@lst ay ys _ e1 e2 e3 e4 =>
    refine⟨ay,ys,rfl,.inl ⟨SqL.of e1,λl hl=>?_⟩⟩;exact k _ _ _ n (R.new hl) (Kp.new hl) (wd (show RdX _ B _ (.tuple ds)from .tup jao (R.nb hl) e3 ((e4.fresh hl).less λb z=>.inl z))) h
 ·rename_i ds;cases r with
  |cons r1 r2 =>
   cases r2;cases(show RdX H B _ (.tuple ds)from r1)with
   |@tup ay ys _ e1 e2 e3 e4=>exact⟨ay,ys,rfl,.inr ⟨SqT.of e1,k _ _ H n R (Kp.refl _ _) (wd (show RdX H B _ (.tuple ds)from .tup e1 e2 e3 e4)) h⟩⟩
 ·exact h.elim
def jw3:List Wv->Int->DQ->Prop:=λxs n Q=>match xs with
 |[.d (.list ds)]=>Q (.d (.list ds)) n
 |[.d (.tuple ds)]=>Q (.d (.list ds)) n
 |_=>False
theorem jyk {K:Ai}:SndB (λxs H Q=>∃p ys,xs=[.ref p]/\(SqL K H p ys\/SqT K H p ys)/\∀l,H l=none->Q (.ref l) (upd H l (.lst ys))) jw3:=λC H B σ δ n vs xs Q Q' R r h k=>by
 unfold jw3 at h
 split at h
 ·rename_i ds;cases r with
  |cons r1 r2 =>
   cases r2;cases(show RdX H B _ (.list ds)from r1)with
   |@lst ay ys _ e1 e2 e3 e4 =>
    refine⟨ay,ys,rfl,.inl (SqL.of e1),λl hl=>?_⟩;exact k _ _ _ n (R.new hl) (Kp.new hl) (wd (show RdX _ B _ (.list ds)from .lst jao (R.nb hl) e3 ((e4.fresh hl).less λb z=>.inl z))) h
 ·rename_i ds;cases r with
  |cons r1 r2 =>
   cases r2;cases(show RdX H B _ (.tuple ds)from r1)with
   |@tup ay ys _ e1 e2 e3 e4 =>
    refine⟨ay,ys,rfl,.inr (SqT.of e1),λl hl=>?_⟩;exact k _ _ _ n (R.new hl) (Kp.new hl) (wd (show RdX _ B _ (.list ds)from .lst jao (R.nb hl) e3 ((e4.fresh hl).less λb z=>.inl z))) h
 ·exact h.elim
end
structure ItOk (fz:Hp) (J:It) (ds:List Ad):Prop where
 le:ds.length<=A1
 go:∀i H,(∀b o,fz b=some o->H b=some o)->i < ds.length->J.go i H
 stop:∀H,(∀b o,fz b=some o->H b=some o)->J.stop ds.length H
 yld:∀i H x H' d,(∀b o,fz b=some o->H b=some o)->ds[i]?=some d->J.yld i H x H'->Same H H'/\∀B,(∀b o,fz b=some o->¬B b)->(∀b,B b->H b≠none)->RdX H' B x d
def thaw (H:Hp) (B:Addr->Prop) (fz:Hp):Prop:=(∀b o,fz b=some o->H b=some o/\¬B b)/\∀b o,H b=some o->¬B b->fz b=some o
abbrev DTI:=Sl->Int->(List Ad->Int->Prop)->Prop
def SndI (wi:TI) (v:DTI):Prop:=∀(C:Ctx) (H:Hp) (B:Addr->Prop) (σ:St) (δ:Sl) (n:Int) (Q:List Ad->Int->Prop) (Q':It->Hp->Prop),Rel C H B σ δ n->v δ n Q ->
 (∀J ds H' n',Rel C H' B σ δ n'->Kp C.t H H'->(∀fz,thaw H' B fz->ItOk fz J ds)->Q ds n'->Q' J H')->wi σ H Q'
structure DI (X:Cx) (tg iter:Expr) (wi:TI) (v:DTI):Prop where
 pi:PI X tg iter wi
 sd:SndI wi v
section
variable {X:Cx} {tg a b c e:Expr} {ta tb te:TE} {wa wb we:DT} {pos p:Pos}
def jlv (w:DT):DTI:=λδ n Q=>w δ n λx n1=>match x with
 |.d (.list ds)=>Q ds n1
 |_=>False
def jcl (w:DT):DTI:=λδ n Q=>w δ n λx n1=>match x with
 |.d (.tuple ds)=>Q ds n1
 |_=>False
theorem j65 (ha:DE X a ta wa):DI X tg a (j3u X.K ta) (jlv wa):=⟨j21 ha.pe,λC H B σ δ n Q Q' R q k=>ha.sd C H B σ δ n _ _ R q λv x H1 n1 R1 k1 r1 q1=>by
 split at q1
 ·rename_i ds;cases(show RdX H1 B v (.list ds)from r1)with
  |@lst ay ys _ e1 e2 e3 e4 =>
   refine⟨ay,rfl,⟨ys,SqL.of e1⟩,k _ ds H1 n1 R1 k1 (λfz th=>?_) q1⟩;have hfz:fz ay=some (.lst ys):=th.2 _ _ e1 e2;refine⟨by rw[<-e4.len];exact e3,λi H hH hi=>?_,λH hH=>?_,λi H x H' d hH hd hy=>?_⟩
   ·rw[<-e4.len]at hi;exact⟨ys,ys[i],SqL.of (hH _ _ hfz),Aj hi⟩
   ·exact⟨ys,SqL.of (hH _ _ hfz),by rw[e4.len];exact An _⟩
   ·obtain⟨rfl,hy⟩:=hy;refine⟨λ_ _ z=>z,λB' hB hBa=>?_⟩;obtain⟨u,hu,ru⟩:=e4.getD hd;have:=hy _ (SqL.of (hH _ _ hfz));rw[hu]at this;cases this;exact ru.move λb o e ne=>⟨hH _ _ (th.2 _ _ e ne),hB _ _ (th.2 _ _ e ne)⟩
 ·exact q1.elim⟩
theorem j8o (ha:DE X a ta wa):DI X tg a (iTup X.K ta) (jcl wa):=⟨j52 ha.pe,λC H B σ δ n Q Q' R q k=>ha.sd C H B σ δ n _ _ R q λv x H1 n1 R1 k1 r1 q1=>by
 split at q1
 ·rename_i ds;cases(show RdX H1 B v (.tuple ds)from r1)with
  |@tup ay ys _ e1 e2 e3 e4 =>
   refine⟨ay,rfl,⟨ys,SqT.of e1⟩,k _ ds H1 n1 R1 k1 (λfz th=>?_) q1⟩;have hfz:fz ay=some (.tup ys):=th.2 _ _ e1 e2;refine⟨by rw[<-e4.len];exact e3,λi H hH hi=>?_,λH hH=>?_,λi H x H' d hH hd hy=>?_⟩
   ·rw[<-e4.len]at hi;exact⟨ys,ys[i],SqT.of (hH _ _ hfz),Aj hi⟩
   ·exact⟨ys,SqT.of (hH _ _ hfz),by rw[e4.len];exact An _⟩
   ·obtain⟨rfl,hy⟩:=hy;refine⟨λ_ _ z=>z,λB' hB hBa=>?_⟩;obtain⟨u,hu,ru⟩:=e4.getD hd;have:=hy _ (SqT.of (hH _ _ hfz));rw[hu]at this;cases this;exact ru.move λb o e ne=>⟨hH _ _ (th.2 _ _ e ne),hB _ _ (th.2 _ _ e ne)⟩
 ·exact q1.elim⟩
def rngD (lo:Int) (n:Nat):List Ad:=(Bq n).map λi=>.int (lo+(i:Nat))
def jbe (w:DT):DTI:=λδ n Q=>w δ n λx n1=>match x with
 |.d (.int j)=>(-(2 ^ 62)<=j/\j<=1000000)/\Q (rngD 0 j.toNat) n1
 |_=>False
theorem jzr (fz:Hp) (lo:Int) (n:Nat) (hn:n<=1000000):ItOk fz (Itr lo n) (rngD lo n):=by
 have hl:(rngD lo n).length=n:=by unfold rngD;simp
 refine⟨?_,λi H hH hi=>?_,λH hH=>?_,λi H y H' d hH hd hy=>?_⟩
 ·rw[hl];exact A5 hn (by decide)
 ·rw[hl]at hi;exact hi
 ·show n<=(rngD lo n).length;rw[hl];exact An _
 ·obtain⟨rfl,rfl⟩:=hy;refine⟨λ_ _ z=>z,λB' hB hBa=>?_⟩;unfold rngD at hd;rw[Ay]at hd;cases e:(Bq n)[i]? with
  |none=>rw[e]at hd;cases hd
  |some j =>
   rw[e]at hd;have:j=i:=by
    obtain⟨h1,h2⟩:=At.mp e;rw[List.getElem_range]at h2;exact h2.symm
   subst this;cases hd;exact .int _
theorem jb3 {p:Pos} (hg:Gl X "range") (hm:X.mg "range"=none) (ha:DE X a ta wa) (hs:Az [a] X.env=[(false,eval a X.env)]:=by rfl):DI X tg (.Call (.Name "range" p) [a] [] pos) (j66 (jcx ta tNil)) (jbe wa):=⟨jv2 hg hm (ja9 ha.pe jca hs) hs,λC H B σ δ n Q Q' R q k=>ha.sd C H B σ δ n _ _ R q λv x H1 n1 R1 k1 r1 q1=>by
 split at q1
 ·rename_i j;cases(show RdX H1 B v (.int j)from r1);refine⟨j,rfl,q1.1.1,by have:=q1.1.2;have:(2:Int)^62=4611686018427387904:=(by decide);omega,k _ (rngD 0 j.toNat) H1 n1 R1 k1 (λfz _=>jzr fz 0 j.toNat (by have:=q1.1.2;omega)) q1.2⟩
 ·exact q1.elim⟩
end
abbrev DTG:=Ad->Sl->(Sl->Prop)->Prop
def SndG (g:TG) (v:DTG):Prop:=∀(C:Ctx) (H:Hp) (B:Addr->Prop) (σ:St) (δ:Sl) (n:Int) (x:V) (d:Ad) (Q:Sl->Prop) (Q':St->Hp->Prop),Rel C H B σ δ n->RdX H B x d->v d δ Q ->
 (∀σ' δ',Rel C H B σ' δ' n->Q δ'->Q' σ' H)->g x σ H Q'
structure DG (X:Cx) (tg:Expr) (g:TG) (v:DTG):Prop where
 pg:PG X tg g
 sd:SndG g v
section
variable {X:Cx} {pos:Pos}
def jai (i:Nat):DTG:=λd δ Q=>Q (δ.set i (some (.w (.d d))))
theorem jay {i:Nat} {x:Str} (hN:X.N.Nodup) (hi:X.N[i]?=some x) (hx:Loc X.env.scope x) (hf:X.fn x=true\/X.env.scope.names.lookup x=some .local:=by first | exact .inl rfl | exact .inr rfl | assumption):DG X (.Name x pos) (jhs i) (jai i) :=
 ⟨j23 hN hi hx hf,λC H B σ δ n x d Q Q' R r q k=>k _ _ (R.set (x:=.d d) r rfl) q⟩
end
def forD (g:DTG) (W:DST) (K:DEnds):List Ad->Sl->Int->Prop
 |[],δ,n=>K.nx δ n
 |d::r,δ,n=>g d δ λδ'=>W δ' n {K with nx:=forD g W K r,ct:=forD g W K r,bk:=K.nx}
def sFor (v:DTI) (g:DTG) (W:DST):DST:=λδ n K=>v δ n λds n1=>forD g W K ds δ n1
def fzOf (H:Hp) (B:Addr->Prop):Hp:=λb=>open Classical in if B b then none else H b
theorem jjj (H:Hp) (B:Addr->Prop):thaw H B (fzOf H B):=by
 refine⟨λb o e=>?_,λb o e n=>?_⟩
 ·unfold fzOf at e
  split at e
  ·cases e
  ·rename_i h;exact⟨e,h⟩
 ·unfold fzOf;rw[if_neg n];exact e
theorem Rel.refz {C:Ctx} {H:Hp} {B:Addr->Prop} {σ:St} {δ:Sl} {n:Int} (R:Rel C H B σ δ n):Rel {C with fz:=fzOf H B} H B σ δ n :=
 ⟨R.tp,R.kp,R.t0,R.l0,R.g0,(jjj H B).1,R.bt,R.b0,R.ba,R.a0,R.sl,R.ow,R.len⟩
theorem Rel.unfz {C:Ctx} {fz:Hp} {H:Hp} {B:Addr->Prop} {σ:St} {δ:Sl} {n:Int} (R:Rel {C with fz:=fz} H B σ δ n) (h:∀b o,C.fz b=some o->fz b=some o):Rel C H B σ δ n :=
 ⟨R.tp,R.kp,R.t0,R.l0,R.g0,λb o e=>R.fz b o (h b o e),R.bt,R.b0,R.ba,R.a0,R.sl,R.ow,R.len⟩
theorem Rel.same {C:Ctx} {H H':Hp} {B:Addr->Prop} {σ:St} {δ:Sl} {n:Int} (R:Rel C H B σ δ n) (k:Same H H'):Rel C H' B σ δ n:=by
 obtain⟨a,b,e,h⟩:=R.tp.ob;exact R.step ⟨⟨a,b,k _ _ e,h⟩,k _ _ R.tp.ls,R.tp.len,λz=>k _ _ (R.tp.ag z),R.tp.gne⟩ λb o e _=>k b o e
section
variable {X:Cx} {tg iter:Expr} {body:List Stmt} {wi:TI} {v:DTI} {g:TG} {gd:DTG} {T:TS} {W:DST} {pos:Pos}
theorem jdx (hi:DI X tg iter wi v) (hg:DG X tg g gd) (hb:DSs X body T W) (hp:PassesOwn (Ba X.prog X.w) X.A X.env X.xe:=by exact PassesOwn.never) (hc:X.calm=true:=by rfl)
  (hs:∀x,D2 iter X.env x=pure x:=by intro _;rfl):DS X (.For tg iter body [] pos) (tFor wi g T) (sFor v gd W):=⟨j50 hp hc hi.pi hg.pg hb.ps hs,λC H B σ δ n K D R q E =>
 hi.sd C H B σ δ n _ _ R q λJ ds H1 n1 R1 k1 hJ q1=>by
  have ok:=hJ (fzOf H1 B) (jjj H1 B);have R1':=R1.refz;have back:∀{H B' σ δ n},Rel {C with fz:=fzOf H1 B} H B' σ δ n->Rel C H B' σ δ n:=λR=>R.unfz λb o e=>(jjj H1 B).2 b o (R1.fz b o e).1 (R1.fz b o e).2;refine⟨λi m σ H=>m=ds.length - i/\i<=ds.length/\∃B' δ n,Rel {C with fz:=fzOf H1 B} H B' σ δ n/\forD gd W K (ds.drop i) δ n,⟨ds.length,by simp,Bm _,B,δ,n1,R1',by simpa using q1⟩,?_⟩
  rintro i m σ2 H2 ⟨rfl,hi,B2,δ2,n2,R2,q2⟩
  have hfz:∀b o,fzOf H1 B b=some o->H2 b=some o:=λb o e=>(R2.fz b o e).1;by_cases hlt:i < ds.length
  ·rw[Dq hlt]at q2;refine .inr ⟨ok.go i H2 hfz hlt,λσ3 H3=>∃B' δ n,Rel {C with fz:=fzOf H1 B} H3 B' σ3 δ n/\forD gd W K (ds.drop (i+1)) δ n,λσ' H' z=>⟨ds.length - (i+1),by omega,rfl,hlt,z⟩,λx H' hy=>?_⟩;obtain⟨sm,rd⟩:=ok.yld i H2 x H' ds[i] hfz (Aj hlt) hy;have R3:=R2.same sm;refine hg.sd _ H' B2 σ2 δ2 n2 x ds[i] _ _ R3 (rd B2 (λb o e=>(R2.fz b o e).2) R2.ba) q2 λσ' δ' R4 q4=>?_;refine hb.sd _ H' B2 σ' δ' n2 _ _ R4 q4 ⟨?_,?_,?_,?_,λH B σ δ n a xs ds R h0 h1 h2 h3 q=>E.rn H B σ δ n a xs ds (back R) h0 h1 h2 h3 q⟩
   ·exact λH B σ δ n R q=>⟨B,δ,n,R,q⟩
   ·exact λH B σ δ n v w R r q=>E.rt H B σ δ n v w (back R) r q
   ·exact λH B σ δ n R q=>E.nx H B σ δ n (back R) q
   ·exact λH B σ δ n R q=>⟨B,δ,n,R,q⟩
  ·have e:i=ds.length:=by omega
   subst e;rw[List.drop_length]at q2;exact .inl ⟨ok.stop H2 hfz,E.nx H2 B2 σ2 δ2 n2 (back R2) q2⟩⟩
end
def jor (fr:List (Option Nat)) (δ:Sl):Sl:=fr.map λo=>o.bind λi=>match δ[i]? with
 |some (some (.w x))=>some (.w x)
 |some (some (.odk kvs))=>some (.w (.dk kvs))
 |some (some (.own ds))=>some (.w (.ln ds))
 |_=>none
def jcj (g:DTG) (c:DTT) (w:DT) (Q:List Ad->Int->Prop):List Ad->List Ad->Sl->Int->Prop
 |[],acc,_,n=>Q acc n
 |d::r,acc,δ,n=>g d δ λδ'=>c δ' n λb n1=>if b=true then w δ' n1 λx n2=>match x with
   |.d y=>jcj g c w Q r (acc++[y]) δ' n2
   |_=>False
  else jcj g c w Q r acc δ' n1
def jcf (fr:List (Option Nat)) (v:DTI) (g:DTG) (c:DTT) (w:DT):DTF:=λδ n Q=>v δ n λds n1=>jcj g c w Q ds [] (jor fr δ) n1
structure DIf (X:Cx) (ifs:List Expr) (t:TT) (c:DTT):Prop where
 pf:PIf X ifs t
 sd:SndT t c
def cYes:DTT:=λ_ n Q=>Q true n
theorem jm5 {X:Cx}:DIf X [] j4v cYes:=⟨j20,λC H B σ δ n Q Q' R q k=>k true H n R (Kp.refl _ _) q⟩
theorem jkd {X:Cx} {c:Expr} {t:TT} {cc:DTT} (h:DC X c t cc):DIf X [c] t cc:=⟨j2z h.pt,h.sd⟩
theorem jz9 (fr:List (Option Nat)) (σ:St):(capt fr σ).length=fr.length:=by unfold capt;rw[Ab]
theorem jxm (fr:List (Option Nat)) (δ:Sl):(jor fr δ).length=fr.length:=by unfold jor;rw[Ab]
theorem jkn {fr:List (Option Nat)} {δ:Sl} {j:Nat} {x:SV} (h:(jor fr δ)[j]?=some (some x)):∃i y,fr[j]?=some (some i)/\δ[i]?=some (some y)/\((∃z,x=.w z/\y=.w z)\/(∃kvs,x=.w (.dk kvs)/\y=.odk kvs)\/∃ds,x=.w (.ln ds)/\y=.own ds):=by
 unfold jor at h;rw[Ay]at h;cases e:fr[j]? with
 |none=>rw[e]at h;cases h
 |some o =>
  rw[e]at h;cases o with
  |none=>cases h
  |some i =>
   have h':=Ax h;dsimp only[Option.bind]at h'
   split at h'
   ·rename_i z ez;cases h';exact⟨i,_,rfl,ez,.inl ⟨z,rfl,rfl⟩⟩
   ·rename_i kvs ez;cases h';exact⟨i,_,rfl,ez,.inr (.inl ⟨kvs,rfl,rfl⟩)⟩
   ·rename_i ds ez;cases h';exact⟨i,_,rfl,ez,.inr (.inr ⟨ds,rfl,rfl⟩)⟩
   ·cases h'
theorem j4d {fr:List (Option Nat)} {σ:St} {j i:Nat} {v:V} (h:fr[j]?=some (some i)) (h2:σ[i]?=some (some v)):(capt fr σ)[j]?=some (some v):=by
 unfold capt;rw[Ay,h];show some ((σ[i]?).bind id)=_;rw[h2];rfl
theorem jyv {C:Ctx} {H:Hp} {B:Addr->Prop} {σ:St} {δ:Sl} {n:Int} {L:Addr} {fr:List (Option Nat)} (R:Rel C H B σ δ n) (hL:H L=none) :
  Rel ⟨C.t,C.l,C.ns,H,B,fzOf H B⟩ (upd H L (.lst [])) (λb=>B b\/b=L) (capt fr σ) (jor fr δ) n where
 tp:=R.tp.new hL
 kp:=Kp.new hL
 t0:=R.ba _ R.bt
 l0:=by
  show H C.l.s≠none;rw[R.tp.ls];exact λz=>nomatch z
 g0:=λe=>by
  show H C.l.g≠none;rw[R.tp.ag e];exact λz=>nomatch z
 fz:=λb o e=>by
  obtain⟨e1,e2⟩:=(jjj H B).1 b o e;exact⟨by rw[jap (jal e1 hL)];exact e1,λz=>z.elim e2 λq=>jal e1 hL q⟩
 bt:=.inl R.bt
 b0:=λb z=>.inl z
 ba:=λb z e=>by
  by_cases q:b=L
  ·rw[q,jao]at e;cases e
  ·rw[jap q]at e;exact R.ba b (z.resolve_right q) e
 a0:=R.ba
 sl:=λj x e=>by
  have mv:∀b o',H b=some o'->¬B b->upd H L (.lst []) b=some o'/\¬(B b\/b=L):=λb o' e n=>⟨by rw[jap (jal e hL)];exact e,λz=>z.elim n λq=>jal e hL q⟩;obtain⟨i,y,e1,e2,hy⟩:=jkn e;obtain⟨v,f1,f2⟩:=R.sl i y e2;refine⟨v,j4d e1 f1,?_⟩;rcases hy with⟨z,rfl,rfl⟩ | ⟨kvs,rfl,rfl⟩ | ⟨ds,rfl,rfl⟩
  ·cases z with
   |d d=>exact⟨f2.1.move mv,λz=>by cases z⟩
   |tp=>exact⟨f2.1,λz=>by cases z⟩
   |ln ds =>
    obtain⟨a,l,g1,g2,g3,g4,g5⟩:=f2.1;exact⟨⟨a,l,g1,by rw[jap (jal g2 hL)];exact g2,g3,g4,g5.move mv⟩,λ_=>⟨a,g1,by show H a≠none;rw[g2];exact λz=>nomatch z⟩⟩
   |dk kvs =>
    obtain⟨a,l,g1,g2,g3,g4⟩:=f2.1;exact⟨⟨a,l,g1,by rw[jap (jal g2 hL)];exact g2,g3,g4.move mv⟩,λ_=>⟨a,g1,by show H a≠none;rw[g2];exact λz=>nomatch z⟩⟩
   |ob o =>
    refine⟨?_,λz=>by cases z⟩;exact ORel.move mv f2.1
  ·obtain⟨a,l,g1,g2,g3,g4,g5,g6⟩:=f2;exact⟨⟨a,l,g1,by rw[jap (jal g2 hL)];exact g2,λz=>R.t0 (z▸g4),g6.move mv⟩,λ_=>⟨a,g1,by show H a≠none;rw[g2];exact λz=>nomatch z⟩⟩
  ·obtain⟨a,l,g1,g2,g3,g4,g5,g6⟩:=f2;exact⟨⟨a,l,g1,by rw[jap (jal g2 hL)];exact g2,λz=>R.t0 (z▸g4),g5,g6.move mv⟩,λ_=>⟨a,g1,by show H a≠none;rw[g2];exact λz=>nomatch z⟩⟩
 ow:=λi j x y v e1 e2 o1 o2 _ _=>by
  obtain⟨_,_,_,_,hy⟩:=jkn e1;rcases hy with⟨z,rfl,_⟩ | ⟨kvs,rfl,_⟩ | ⟨ds,rfl,_⟩
  ·cases o1
  ·cases o1
  ·cases o1
 len:=by rw[jz9,jxm]
section
variable {X:Cx} {elt tg iter:Expr} {ifs:List Expr} {scope:Scope} {cl:List (Str×Addr)} {pos:Pos} {N:List Str} {fr:List (Option Nat)} {wi:TI} {v:DTI} {g:TG} {gd:DTG} {tt:TT} {cc:DTT} {te:TE} {we:DT}
def jis (δ:Sl):Prop:=∀(i:Nat) (x:SV),δ[i]?=some (some x)->x.isOwn=false
theorem j0b (fr:List (Option Nat)) (δ:Sl):jis (jor fr δ):=λi x e=>by
 obtain⟨_,_,_,_,hy⟩:=jkn e;rcases hy with⟨z,rfl,_⟩ | ⟨kvs,rfl,_⟩ | ⟨ds,rfl,_⟩<;>rfl
def jle (v:DTG):Prop:=∀d δ Q,jis δ->v d δ Q->v d δ λδ'=>jis δ'/\Q δ'
theorem jch (i:Nat):jle (jai i):=λd δ Q h q=>⟨λj x e=>by
 rcases ja8 e with⟨_,rfl⟩ | ⟨_,e'⟩
 ·rfl
 ·exact h j x e',q⟩
theorem jd0 (hc:X.calm=true) (S:CompSc X N scope cl fr) (hi:DI X tg iter wi v) (hg:∀s H fp,DG (jbo X N scope cl s H fp) tg g gd) (ht:∀s H fp,DIf (jbo X N scope cl s H fp) ifs tt cc)
  (he:∀s H fp,DE (jbo X N scope cl s H fp) elt te we) (hno:jle gd) (hs:∀x,D2 iter X.env x=pure x:=by intro _;rfl) :
  DF X (.ListComp elt [⟨tg,iter,ifs,0⟩] scope pos) (jut fr wi g tt te) (jcf fr v gd cc we):=by
 refine⟨j26 hc S hi.pi (λs H fp=>(hg s H fp).pg) (λs H fp=>(ht s H fp).pf) (λs H fp=>(he s H fp).pe) hs,λC H B σ δ n Q Q' R q k=>hi.sd C H B σ δ n _ _ R q λJ ds H1 n1 R1 k1 hJ q1=>λL hL=>?_⟩;have sg:=(hg X.s₀ X.H₀ []).sd;have st:=(ht X.s₀ X.H₀ []).sd;have se:=(he X.s₀ X.H₀ []).sd;have ok:=hJ (fzOf H1 B) (jjj H1 B);have hLt:L≠C.t:=λz=>R1.ba _ R1.bt (z▸hL);refine⟨λi m ys τ H=>m=ds.length - i/\i<=ds.length/\ys.length<=i/\∃δ' n' acc,Rel ⟨C.t,C.l,C.ns,H1,B,fzOf H1 B⟩ H (λb=>B b\/b=L) τ δ' n'/\jis δ'/\H L=some (.lst ys)/\RdXs H (λb=>B b\/b=L) ys acc/\jcj gd cc we Q (ds.drop i) acc δ' n',
  ⟨ds.length,by simp,Bm _,Bm _,jor fr δ,n1,[],jyv R1 hL,j0b fr δ,jao,.nil,by simpa using q1⟩,?_⟩
 rintro i m ys τ H2 ⟨rfl,hi,hys,δ2,n2,acc,R2,no2,hL2,rd2,q2⟩
 have hfz:∀b o,fzOf H1 B b=some o->H2 b=some o:=λb o e=>(R2.fz b o e).1;by_cases hlt:i < ds.length
 ·rw[Dq hlt]at q2;refine .inr ⟨ok.go i H2 hfz hlt,Bj (Nat.lt_of_le_of_lt hys hlt) ok.le,λx H' hy=>?_⟩;obtain⟨sm,rd⟩:=ok.yld i H2 x H' ds[i] hfz (Aj hlt) hy;have R3:=R2.same sm;refine sg _ H' _ τ δ2 n2 x ds[i] _ _ R3 (rd _ (λb o e=>(R2.fz b o e).2) R2.ba) (hno _ _ _ no2 q2) λτ3 δ3 R4 ⟨no3,q4⟩=>?_;refine st _ H' _ τ3 δ3 n2 _ _ R4 q4 λb H4 n4 R5 k5 q5=>?_;have hL4:H4 L=some (.lst ys):=k5 _ _ (sm _ _ hL2) hLt;have rd4:RdXs H4 (λb=>B b\/b=L) ys acc:=(rd2.keep λb o e _=>sm b o e).kp k5 R4.bt;cases b with
  |false =>
   rw[if_neg Ag]at q5 ⊢;exact⟨ds.length - (i+1),by omega,rfl,hlt,by omega,δ3,n4,acc,R5,no3,hL4,rd4,q5⟩
  |true =>
   rw[if_pos rfl]at q5 ⊢;refine se _ H4 _ τ3 δ3 n4 _ _ R5 q5 λu y H5 n5 R6 k6 r6 q6=>?_;cases y with
   |d y =>
    have hL5:H5 L=some (.lst ys):=k6 _ _ hL4 hLt;refine⟨hL5,ds.length - (i+1),by omega,rfl,hlt,by rw[Ah,Aq];omega,δ3,n5,acc++[y],R6.mut (.inr rfl) hL λj z e o=>absurd (no3 j z e) (by rw[o];exact λq=>nomatch q),no3,jao,?_,q6⟩;refine RdXs.keep (λb o e n=>?_) ((rd4.kp k6 R5.bt).append (.cons r6 .nil));rw[jap λ(z:b=L)=>n (.inr z)];exact e
   |tp=>exact q6.elim
   |dk _=>exact q6.elim
   |ln _=>exact q6.elim
   |ob _=>exact q6.elim
 ·have e:i=ds.length:=by omega
  subst e;rw[List.drop_length]at q2;refine .inl ⟨ok.stop H2 hfz,k L ys acc H2 n2 (R1.step R2.tp R2.kp) (k1.trans R2.kp) (R1.was k1 hL) hL2 (A5 hys ok.le) rd2 q2⟩
end
abbrev DTGs:=List Ad->Sl->(Sl->Prop)->Prop
def j9d (g:TGs) (v:DTGs):Prop:=∀(C:Ctx) (H:Hp) (B:Addr->Prop) (σ:St) (δ:Sl) (n:Int) (xs:List V) (ds:List Ad) (Q:Sl->Prop) (Q':St->Hp->Prop),Rel C H B σ δ n->RdXs H B xs ds->v ds δ Q ->
 (∀σ' δ',Rel C H B σ' δ' n->Q δ'->Q' σ' H)->g xs σ H Q'
structure DGs (X:Cx) (ts:List Expr) (g:TGs) (v:DTGs):Prop where
 pg:PGs X ts g
 sd:j9d g v
def jb5:DTGs:=λds δ Q=>match ds with
 |[]=>Q δ
 |_=>False
def jax (v:DTG) (r:DTGs):DTGs:=λds δ Q=>match ds with
 |d::ds=>v d δ λδ'=>r ds δ' Q
 |[]=>False
def jdc (n:Nat) (r:DTGs):DTG:=λd δ Q=>match d with
 |.tuple ds=>ds.length=n/\r ds δ Q
 |_=>False
theorem jr1:∀ds δ Q,jis δ->jb5 ds δ Q->jb5 ds δ λδ'=>jis δ'/\Q δ':=λds δ Q h q=>by
 cases ds with
 |nil=>exact⟨h,q⟩
 |cons _ _=>exact q
theorem jip {v:DTG} {r:DTGs} (mono:∀d δ (Q Q':Sl->Prop),(∀δ',Q δ'->Q' δ')->v d δ Q->v d δ Q') (hv:jle v) (hr:∀ds δ Q,jis δ->r ds δ Q->r ds δ λδ'=>jis δ'/\Q δ'):∀ds δ Q,jis δ->jax v r ds δ Q->jax v r ds δ λδ'=>jis δ'/\Q δ':=λds δ Q h q=>by
 cases ds with
 |nil=>exact q
 |cons d ds=>exact mono d δ _ _ (λδ' z=>hr ds δ' Q z.1 z.2) (hv d δ _ h q)
theorem j6h {n:Nat} {r:DTGs} (hr:∀ds δ Q,jis δ->r ds δ Q->r ds δ λδ'=>jis δ'/\Q δ'):jle (jdc n r):=λd δ Q h q=>by
 unfold jdc at q ⊢
 split at q
 ·exact⟨q.1,hr _ _ _ h q.2⟩
 ·exact q.elim
theorem j3i (i j n:Nat):jle (jdc n (jax (jai i) (jax (jai j) jb5))) :=
 j6h (jip (λ_ _ _ _ h q=>h _ q) (jch i) (jip (λ_ _ _ _ h q=>h _ q) (jch j) jr1))
section
variable {X:Cx} {pos:Pos}
theorem jes:DGs X [] gNil jb5:=⟨j22,λC H B σ δ n xs ds Q Q' R r q k=>by
 cases r with
 |nil=>exact⟨rfl,k σ δ R q⟩
 |cons _ _=>exact q.elim⟩
end
section
variable {X:Cx} {pos:Pos}
theorem jbl {e:Expr} {es:List Expr} {t:TG} {u:TGs} {v:DTG} {r:DTGs} (h1:DG X e t v) (h2:DGs X es u r)
  (hs:(Di (e::es) X.env).map (·.2)=assign e X.env::(Di es X.env).map (·.2):=by rfl):DGs X (e::es) (j7a t u) (jax v r):=⟨jy5 h1.pg h2.pg hs,λC H B σ δ n xs ds Q Q' R rr q k=>by
 cases rr with
 |nil=>exact q.elim
 |cons r1 r2=>exact⟨_,_,rfl,h1.sd C H B σ δ n _ _ _ _ R r1 q λσ' δ' R' q'=>h2.sd C H B σ' δ' n _ _ _ _ R' r2 q' k⟩⟩
theorem j8s {es:List Expr} {k:Nat} {t:TGs} {n:Nat} {r:DTGs} (h:DGs X es t r) (hc:X.calm=true:=by rfl)
  (hn:(Di es X.env).length=n:=by rfl) (hst:(Di es X.env).findIdx? (·.1)=none:=by rfl):DG X (.Tuple es k pos) (gTup X.K n t) (jdc n r):=⟨j53 hc h.pg hn hst,λC H B σ δ n' x d Q Q' R rr q k=>by
 unfold jdc at q
 split at q
 ·rename_i ds;cases rr with
  |@tup ay ys _ e1 e2 e3 e4=>exact⟨ay,ys,rfl,SqT.of e1,by rw[e4.len];exact q.1,h.sd C H B σ δ n' _ _ _ _ R e4 q.2 k⟩
 ·exact q.elim⟩
def j2g:List Ad->Option (List Str)
 |[]=>some []
 |.str b::r=>(j2g r).map (b::·)
 |_::_=>none
def j9f (w w':DT):DT:=λδ n Q=>w δ n λx n1=>match x with
 |.d (.str z)=>w' δ n1 λy n2=>match y with
  |.d (.list ds)=>match j2g ds with
   |some ys=>(ys.map (·.length)).sum+ys.length*z.length<=16777216/\Q (.d (.str (Txt.join z ys))) n2
   |none=>False
  |.d (.tuple ds)=>match j2g ds with
   |some ys=>(ys.map (·.length)).sum+ys.length*z.length<=16777216/\Q (.d (.str (Txt.join z ys))) n2
   |none=>False
  |_=>False
 |_=>False
def sPut (i:Nat) (wj w:DT):DST:=λδ n K=>match δ[i]? with
 |some (some (.own ds))=>w δ n λx n1=>wj δ n1 λj n2=>match x,j with
  |.d d,.d (.int k)=>match ixN ds.length k with
   |some m=>K.nx (δ.set i (some (.own (ds.set m d)))) n2
   |none=>False
  |_,_=>False
 |_=>False
theorem j79 {i:Nat} {x:Str} {xp sp:Pos} {j e:Expr} {tj te:TE} {wj we:DT} (hN:X.N[i]?=some x) (hj:DE X j tj wj) (he:DE X e te we) (hv:Vis X.env.scope x:=by first | exact Ap rfl | exact Bw (Ap rfl) | exact Bw (Bw rfl)) (hd:(x==("__debug__":Str))=false:=by decide)
  (hcd:(x==("__classdict__":Str))=false:=by decide)
  (ha:∀v,assign (.Subscript (.Name x xp) j sp) X.env v=(do
   let ov <-holding [v] (eval (.Name x xp) X.env)
   let iv <-holding [v,ov] (eval j X.env)
   standAt sp
   holding [v,ov,iv] (setItem ov iv v)
   release [v,ov,iv] []):=by intro _;rfl)
  (hs:swapsWithSole [.Subscript (.Name x xp) j sp] e pos.line X.env=pure false:=by rfl) (hw:swappedStores [.Subscript (.Name x xp) j sp] e X.env=pure none:=by rfl)
  (h1:(Di [.Subscript (.Name x xp) j sp] X.env).map (·.2)=[assign (.Subscript (.Name x xp) j sp) X.env]:=by rfl) :
  DS X (.Assign [.Subscript (.Name x xp) j sp] e pos) (tAsg te (gSub (tVar i) tj j5r)) (sPut i wj we) :=
 ⟨jpm he.pe (jsm (jdl hN hv hd hcd) hj.pe ji8 ha) hs hw h1,λC H B σ δ n K D R q E=>by
  unfold sPut at q
  split at q
  ·rename_i ds ei;refine he.sd C H B σ δ n _ _ R q λu y H1 n1 R1 k1 r1 q1=>?_;obtain⟨v,hv,a,xs,rfl,e2,e3,e4,e5,e6⟩:=R1.sl i _ ei;refine⟨_,hv,hj.sd C H1 B σ δ n1 _ _ R1 q1 λw z H2 n2 R2 k2 r2 q2=>?_⟩
   split at q2
   ·rename_i d k
    split at q2
    ·rename_i m em;cases(show RdX H2 B w (.int k)from r2);have hat:a≠C.t:=λz=>R.t0 (z▸e4);have e2':=k2 _ _ e2 hat;have r1':RdX H2 B u d:=r1.kp k2 R1.bt;refine⟨a,xs,k,m,rfl,rfl,e2',by rw[e6.len];exact em,?_⟩;refine E.nx _ _ _ _ _ (R2.mutOwn ei rfl hv e3 e4 ?_ rfl) q2;refine⟨a,xs.set m u,rfl,jao,e3,e4,by rw[Cr];exact e5,?_⟩;refine RdXs.keep (λb o e n=>?_) (RdXs.set m (e6.kp k2 R1.bt) r1');rw[jap λ(z:b=a)=>n (z▸e3)];exact e
    ·exact q2.elim
   ·exact q2.elim
  ·exact q.elim⟩
end
structure Has (P:Bg) (w:Br) (K:Ai) (mg:Str->Option Af) (base:Heap) (k:Nat) (x:Str) (ps:List Str) (S:DSp):Prop where
 ex:∃(f:Addr) (fd:Cb),FnOk P w K mg base CX0 k f fd ps (spOf S)/\Binds K fd ps []/\mg x=some (.ref f)/\Cv K (.ref f)=true
section
variable {P:Bg} {w:Br} {K:Ai} {mg:Str->Option Af} {base:Heap}
theorem Has.mk' {k:Nat} {x qual:Str} {st:Stmt} {ps:List Str} {S:DSp} {f:Addr} {fd:Cb} (F:Fun K x qual st f fd) (m:mg x=some (.ref f)) (b:Binds K fd ps []) (h:FnOk P w K mg base CX0 k f fd ps (spOf S)):Has P w K mg base k x ps S:=⟨f,fd,h,b,m,F.kp⟩
end
theorem j38 {X:Cx} {e:Expr} {es:List Expr} {pos p:Pos} {tR:TA} {wR:DTA} {k:Nat} {ps:List Str} {S:DSp} {x:Str} (h:Has X.prog X.w X.K X.mg X.base k x ps S) (hr:Room k X.A) (hg:Gl X x)
  (ha:DA X (e::es) tR wR) (hdb:(x==("__debug__":Str))=false:=by decide) (he:Az (e::es) X.env=(false,eval e X.env)::Az es X.env:=by rfl) (hpl:(Cz pos (Az es X.env)).any (·.1)=false:=by rfl) :
  DE X (.Call (.Name x p) (e::es) [] pos) (jnl (spOf S) [] E0 tR) (jam S wR):=by
 obtain⟨f,fd,h1,h2,h3,h4⟩:=h.ex;exact j7q h1 hr hg h3 h4 h2 ha hdb he hpl
theorem jhe {cl cells:List (Str×Addr)} (h:∀y∈cl,cells.lookup y.1=some y.2):∀x c,cl.lookup x=some c->cells.lookup x=some c:=λx c e=>h _ (jfu e)
def jav:DSp:=λws n Q=>match ws with
 |[.tp,.d (.int many)]=>(n < 2 ^ 40/\0 < many/\many < 1073741824)/\∀r:Int,0<=r->r < many->Q (.d (.int r)) (n+1)
 |_=>False
section
variable {P:Bg} {w:Br} {K:Ai} {mg:Str->Option Af} {base:Heap}
theorem jz2 {k:Nat} {f:Addr} {fd:Cb} {ps:List Str} (h:FnOk P w K mg base CX0 k f fd ps j0z):FnOk P w K mg base CX0 k f fd ps (spOf jav):=h.imp λvs H Q E hs=>by
 obtain⟨t,l,ns,B,ws,n,Q0,T,bt,ba,r,q,kk⟩:=hs;unfold jav at q
 split at q
 ·rename_i many;cases r with
  |cons r1 r2 =>
   cases r2 with
   |cons r3 r4 =>
    cases r4;cases(show _=V.ref t from r1);cases(show RdX H B _ (.int many)from r3);exact⟨t,l,ns,n,many,rfl,T,q.1.1,q.1.2.1,q.1.2.2,λr H' h0 h1 T' k'=>kk _ _ (q.2 r h0 h1) _ H' T' k' (.int r)⟩
 ·exact q.elim
def spLaw (K:Ai):Sp:=λvs H Q _=>∃(a:Addr) (ns:List Int),vs=[.ref a]/\SqL K H a (ns.map V.int)/\ns.length<=63/\∀H',Q (.bl true) H'
def jn8:DEnds:={ nx:=λ_ _=>False,rt:=λw _=>w=.d (.bool true)}
theorem j2u {H:Hp} {t:Addr} {l:TL} {ns:List Int} {a:V} {k:Nat} (T:Tp H t l ns 0):Rel ⟨t,l,ns,H,λb=>b=t,λ_=>none⟩ H (λb=>b=t) (some a::some (.ref t)::Dl k none) (none::some (.w .tp)::Dl k none) 0 where
 tp:=T
 kp:=Kp.refl _ _
 t0:=by
  obtain⟨_,_,h,_⟩:=T.ob;show H t≠none;rw[h];exact λz=>nomatch z
 l0:=by
  show H l.s≠none;rw[T.ls];exact λz=>nomatch z
 g0:=λe=>by
  show H l.g≠none;rw[T.ag e];exact λz=>nomatch z
 fz:=λb o e=>nomatch e
 bt:=rfl
 b0:=λ_ z=>z
 ba:=λb z=>by
  obtain⟨_,_,h,_⟩:=T.ob;rw[z,h];exact λz=>nomatch z
 a0:=λb z=>by
  obtain⟨_,_,h,_⟩:=T.ob;show H b≠none;rw[show b=t from z,h];exact λz=>nomatch z
 sl:=λi x e=>by
  rcases i with _ | _ | i
  ·cases e
  ·cases e;exact⟨_,rfl,rfl,λz=>by cases z⟩
  ·have e':(Dl k (none:Option SV))[i]?=some (some x):=e;rw[D5]at e'
   split at e'
   ·cases e'
   ·cases e'
 ow:=λi j x y v e1 e2 o1 o2 f1 f2=>by
  rcases i with _ | _ | i
  ·cases e1
  ·cases e1;cases o1
  ·have e':(Dl k (none:Option SV))[i]?=some (some x):=e1;rw[D5]at e'
   split at e'
   ·cases e'
   ·cases e'
 len:=by simp
theorem j6o {f fT:Addr} {fd fdT:Cb} {st:Stmt} {N:List Str} {k:Nat} {W:DST} (F:Fun K "law" "law" st f fd) (Sc:FnScope N ["_law_script"] (jak st))
  (GT:FnOk P w K mg base CX0 1 fT fdT ["_law_script"] (jr9 K)) (bT:Binds K fdT ["_law_script"] []) (mT:mg "_law_tape"=some (.ref fT)) (kT:Cv K (.ref fT)=true)
  (hN:∀v,start N [v]=some v::none::Dl (N.length - 2) none)
  (hW:W (none::some (.w .tp)::Dl (N.length - 2) none) 0 jn8)
  (hbody:∀(cdv:Af) (A:B4) (outer:List Env) (s:Ak) (H:Hp) (E:XK),Room k (A.deeper (PyProof.Rows.envOfC "law" (jak st) s.heap.objs.size f cdv)) ->
   ∃s0 rest T,jdt st=s0::rest/\PS (cxOf CX0 P w K mg base N "law" (jak st) f cdv A outer s H E).nox s0 (tAsg (jnl (jr9 K) [] E0 (jcx (tVar 0) tNil)) (jhs 1))/\DSs (cxOf CX0 P w K mg base N "law" (jak st) f cdv A outer s H E).nox rest T W) :
  FnOk P w K mg base CX0 (k+1) f fd ["_law_script"] (spLaw K):=by
 refine F.ok Sc (λvs H Q E h=>?_) (λcdv A outer s H vs Q E hr h=>?_)
 ·obtain⟨a,ns,rfl,_⟩:=h;rfl
 ·obtain⟨a,ns,rfl,hS,hl,kk⟩:=h;obtain⟨s0,rest,T,e,p0,d⟩:=hbody cdv A outer s H E hr;rw[e];refine⟨_,jcb p0 d.ps,?_⟩;rw[hN];refine⟨_,rfl,a,ns,rfl,hS,hl,λt l H1 T1 _=>?_⟩;refine d.sd ⟨t,l,ns,H1,λb=>b=t,λ_=>none⟩ H1 (λb=>b=t) _ _ 0 jn8 _ (j2u (a:=.ref a) (k:=N.length - 2) T1) hW ⟨?_,?_,?_,?_,λ_ _ _ _ _ _ _ _ _ _ _ _ _ z=>z.elim⟩
  ·exact λ_ _ _ _ _ _ z=>z.elim
  ·intro H B σ δ n v w R r z;have z:w=.d (.bool true):=z;subst z;cases(show RdX H B v (.bool true)from r);exact kk H
  ·exact λ_ _ _ _ _ _ z=>z.elim
  ·exact λ_ _ _ _ _ _ z=>z.elim
end
section
variable {X:Cx} {elt tg iter:Expr} {ifs:List Expr} {scope:Scope} {cl:List (Str×Addr)} {cpos pos pos':Pos} {N:List Str} {fr:List (Option Nat)} {wi:TI} {v:DTI} {g:TG} {gd:DTG} {tt:TT} {cc:DTT} {te:TE} {we:DT} {i:Nat} {x:Str}
theorem j2i {t:TE} {w:DTF} (h:SndF t w):SndS (tAsg t (jhs i)) (sOwn i w):=λC H B σ δ n K D R q E =>
 h C H B σ δ n _ _ R q λa xs ds H1 n1 R1 k1 h0 h1 h2 h3 q1=>by
  refine E.nx _ _ _ _ _ (R.own R1 k1 h0 (by rw[h1];exact λz=>nomatch z) rfl ?_) q1;exact⟨a,xs,rfl,h1,.inr rfl,R.h0 h0,h2,h3⟩
theorem j2h {t:TE} {w:DT} (h:Snd t w):SndS (tAsg t (jhs i)) (sSet i w):=λC H B σ δ n K D R q E =>
 h C H B σ δ n _ _ R q λv x H1 n1 R1 _ r1 q1=>by
  cases x with
  |d d=>exact E.nx _ _ _ _ _ (R1.set r1 rfl) q1
  |tp=>exact E.nx _ _ _ _ _ (R1.set r1 rfl) q1
  |dk _=>exact q1.elim
  |ln _=>exact q1.elim
  |ob _=>exact E.nx _ _ _ _ _ (R1.set r1 rfl) q1
theorem j5g (hN:X.N.Nodup) (hix:X.N[i]?=some x) (hx:X.env.scope.names.lookup x=some .local) (hc:X.calm=true) (S:CompSc X N scope cl fr) (hi:DI X tg iter wi v) (hg:∀s H fp,DG (jbo X N scope cl s H fp) tg g gd) (ht:∀s H fp,DIf (jbo X N scope cl s H fp) ifs tt cc)
  (he:∀s H fp,DE (jbo X N scope cl s H fp) elt te we) (hno:jle gd) (hs:∀x,D2 iter X.env x=pure x:=by intro _;rfl)
  (hsw:Do (.ListComp elt [⟨tg,iter,ifs,0⟩] scope cpos) (some (.Name x pos')) pos.line X.env=pure true:=by rfl) :
  DS X (.Assign [.Name x pos'] (.ListComp elt [⟨tg,iter,ifs,0⟩] scope cpos) pos) (tAsg (jut fr wi g tt te) (jhs i)) (sOwn i (jcf fr v gd cc we)) :=
 ⟨jmw hN hix hx hc S hi.pi (λs H fp=>(hg s H fp).pg) (λs H fp=>(ht s H fp).pf) (λs H fp=>(he s H fp).pe) hs hsw,j2i (jd0 (pos:=cpos) hc S hi hg ht he hno hs).sd⟩
theorem j5d (hN:X.N.Nodup) (hix:X.N[i]?=some x) (hx:X.env.scope.names.lookup x=some .local) (hc:X.calm=true) (S:CompSc X N scope cl fr) (hi:DI X tg iter wi v) (hg:∀s H fp,DG (jbo X N scope cl s H fp) tg g gd) (ht:∀s H fp,DIf (jbo X N scope cl s H fp) ifs tt cc)
  (he:∀s H fp,DE (jbo X N scope cl s H fp) elt te we) (hno:jle gd) (hs:∀x,D2 iter X.env x=pure x:=by intro _;rfl)
  (hsw:Do (.ListComp elt [⟨tg,iter,ifs,0⟩] scope cpos) (some (.Name x pos')) pos.line X.env=pure true:=by rfl) :
  DS X (.Assign [.Name x pos'] (.ListComp elt [⟨tg,iter,ifs,0⟩] scope cpos) pos) (tAsg (jut fr wi g tt te) (jhs i)) (sSet i (wOf (jcf fr v gd cc we))) :=
 ⟨jmw hN hix hx hc S hi.pi (λs H fp=>(hg s H fp).pg) (λs H fp=>(ht s H fp).pf) (λs H fp=>(he s H fp).pe) hs hsw,j2h (jd0 (pos:=cpos) hc S hi hg ht he hno hs).d.sd⟩
end
section
variable {X:Cx} {tg a b c e:Expr} {ta tb tc te:TE} {wa wb wc we:DT} {pos p:Pos} {K:Ai}
theorem jaq (ha:DE X a ta wa) (hb:DE X b tb wb) (hK:X.K=K:=by rfl) (hs:jld b:=by exact λ_ _=>rfl):DE X (.Subscript a b pos) (tOp (rIx K) ta tb) (w2 wa wb gIx):=by subst hK;exact d_ix ha hb hs
def rIsi (K:Ai) (T:String):List V->Hp->VK->Prop:=λxs H Q=>∃x t b,xs=[x,.ty T]/\TyOf K H x t/\PySem.W.kitOne K t (.type T)=some b/\Q (.bl b) H
theorem jkm {T:String} {x:Str} {p p2:Pos} (hT:T="int"\/T="bool"\/T="str"\/T="tuple"\/T="list") (hg:Gl X "isinstance") (hm:X.mg "isinstance"=none) (hg2:Gl X x) (hm2:X.mg x=none) (hv:B3 x=some (.type T)) (ha:DE X a ta wa) (hK:X.K=K:=by rfl) (hn:x≠"__name__":=by decide) (hdb:(x==("__debug__":Str))=false:=by decide)
  (he:Az [a,.Name x p2] X.env=(false,eval a X.env)::Az [.Name x p2] X.env:=by rfl) (he2:Az [.Name x p2] X.env=(false,eval (.Name x p2) X.env)::Az [] X.env:=by rfl) (hpl:(Cz pos (Az [.Name x p2] X.env)).any (·.1)=false:=by rfl) :
  DE X (.Call (.Name "isinstance" p) [a,.Name x p2] [] pos) (tCB (rIsi K T) (jcx ta (jcx (tC (.ty T)) tNil))) (wIsi T wa):=by subst hK;exact j82 hT hg hm hg2 hm2 hv ha hn hdb he he2 hpl
def rEqK (K:Ai):R2:=λx y H Q=>rEq x y H Q\/jyy x y H Q\/jsi K x y H Q
theorem jbb (hu:X.A.units < Ef) (hK:X.K=K:=by rfl):OpR X (Bu .Eq) (rEqK K):=by subst hK;exact j6e hu
theorem ja4:SndO (rEqK K) gEq:=j45
theorem jig (hK:X.K=K:=by rfl):OpR X (Bu .In) (rIn K false):=by subst hK;exact jv9
theorem je5 (hK:X.K=K:=by rfl):OpR X (Bu .NotIn) (rIn K true):=by subst hK;exact jpq
def jyx (K:Ai):List V->Hp->VK->Prop:=λxs H Q=>(∃z,xs=[.str z]/\z.length<=A1/\Q (.int z.length) H)\/∃p ys,xs=[.ref p]/\(SqL K H p ys\/SqT K H p ys)/\Q (.int ys.length) H
theorem ja2 (hK:X.K=K:=by rfl):CallR X (.builtin "len") (jyx K):=by subst hK;exact jxp
theorem jbt:SndB (jyx K) gLen:=j2j
def j08 (K:Ai):List V->Hp->VK->Prop:=λxs H Q=>∃a d,xs=[.ref a]/\RdD K H (.ref a) d/\Small d/\Q (.str d.shown) H
theorem jce (hg:X.A.guards=some []) (hu:X.A.units+64 < Ef) (hK:X.K=K:=by rfl):CallR X (.builtin "repr") (j08 K):=by subst hK;exact jxo hg hu
theorem jcv:SndB (j08 K) jdd:=jyh
def jq9 (K:Ai):List V->Hp->VK->Prop:=λxs H Q=>∃p ys,xs=[.ref p]/\((SqL K H p ys/\∀l,H l=none->Q (.ref l) (upd H l (.tup ys)))\/(SqT K H p ys/\Q (.ref p) H))
theorem jau (hK:X.K=K:=by rfl):CallR X (.type "tuple") (jq9 K):=by subst hK;exact jos
theorem jbi:SndB (jq9 K) jby:=ju7
def jvr (K:Ai):List V->Hp->VK->Prop:=λxs H Q=>∃p ys,xs=[.ref p]/\(SqL K H p ys\/SqT K H p ys)/\∀l,H l=none->Q (.ref l) (upd H l (.lst ys))
theorem jnc (hK:X.K=K:=by rfl):CallR X (.type "list") (jvr K):=by subst hK;exact jqi
theorem ju9:SndB (jvr K) jw3:=jyk
theorem jrl (ha:DE X a ta wa) (hK:X.K=K:=by rfl):DI X tg a (j3u K ta) (jlv wa):=by subst hK;exact j65 ha
theorem jdy (ha:DE X a ta wa) (hK:X.K=K:=by rfl):DI X tg a (iTup K ta) (jcl wa):=by subst hK;exact j8o ha
theorem jet {es:List Expr} {k:Nat} {t:TGs} {n:Nat} {r:DTGs} (h:DGs X es t r) (hc:X.calm=true:=by rfl) (hK:X.K=K:=by rfl)
  (hn:(Di es X.env).length=n:=by rfl) (hst:(Di es X.env).findIdx? (·.1)=none:=by rfl):DG X (.Tuple es k pos) (gTup K n t) (jdc n r):=by subst hK;exact j8s h hc hn hst
end
end DL
namespace KS
open PySem PySem.W PyProof.Rows
def run {α:Type} (c:Nat->Nat->Bool):KasT α->α
 |.ret a=>a
 |.ask i j k=>run c (k (c i j))
theorem jfs {α β:Type} (c:Nat->Nat->Bool) (f:α->KasT β):∀t:KasT α,run c (t.bind f)=run c (f (run c t))
 |.ret _=>rfl
 |.ask i j k=>jfs c f (k (c i j))
def Wi {α:Type} (n:Nat) (P:α->Prop):KasT α->Prop
 |.ret a=>P a
 |.ask i j k=>i < n/\j < n/\∀b,Wi n P (k b)
theorem Wi.bind {α β:Type} {n:Nat} {P:α->Prop} {R:β->Prop} {f:α->KasT β} (hf:∀a,P a->Wi n R (f a)):∀{t:KasT α},Wi n P t->Wi n R (t.bind f)
 |.ret a,h=>hf a h
 |.ask i j k,h=>⟨h.1,h.2.1,λb=>Wi.bind hf (h.2.2 b)⟩
theorem Wi.out {α:Type} {n:Nat} {P:α->Prop} (c:Nat->Nat->Bool):∀{t:KasT α},Wi n P t->P (run c t)
 |.ret a,h=>h
 |.ask i j k,h=>Wi.out c (t:=k (c i j)) (h.2.2 (c i j))
theorem wp_run {α:Type} {n:Nat} {P:α->Prop} {cmp:Nat->Nat->(Bool->Ak->Prop)->Ak->Prop} {c:Nat->Nat->Bool} {St:Ak->Prop} {Q:α->Ak->Prop}
  (hc:∀i j C s,i < n->j < n->St s->(∀s',St s'->C (c i j) s')->cmp i j C s):∀(t:KasT α) (s:Ak),Wi n P t->St s->(∀s',St s'->Q (run c t) s')->t.kasWp cmp Q s
 |.ret a,s,_,hs,h=>h s hs
 |.ask i j k,s,w,hs,h=>hc i j _ s w.1 w.2.1 hs λs' hs'=>wp_run hc (k (c i j)) s' (w.2.2 _) hs' h
def Lo (n:Nat) (p:Array Nat):Prop:=∀i,p.getD i 0 < n
theorem jfb (p:Array Nat) (i:Nat):p.getD i 0=(p[i]?).getD 0:=by simp
theorem j6l {n:Nat} {p:Array Nat} (hn:0 < n) (h:∀x∈p,x < n):Lo n p:=λi=>by
 rw[jfb];cases e:p[i]? with
 |none=>exact hn
 |some x=>exact h x (Array.mem_of_getElem? e)
def Pm (n:Nat) (p:Array Nat):Prop:=p.Perm (Cq (Bq n))
theorem Pm.size {n:Nat} {p:Array Nat} (h:Pm n p):p.size=n:=by rw[Array.Perm.size_eq h];simp
theorem Pm.lo {n:Nat} {p:Array Nat} (hn:0 < n) (h:Pm n p):Lo n p:=j6l hn λx hx=>by
 have:x∈Cq (Bq n):=(Array.Perm.mem_iff h).mp hx;simpa using this
theorem Pm.rev {n:Nat} {p:Array Nat} (h:Pm n p) (i j:Nat):Pm n (D1 p i j):=(mirror_perm p i j _).trans h
theorem Pm.bub {n:Nat} {p:Array Nat} (h:Pm n p) (i j:Nat):Pm n (bubble p i j):=(bubble_perm p i j).trans h
section
variable {n:Nat} (hn:0 < n)
include hn
theorem jul {p:Array Nat} (h:Lo n p):∀f m,Wi n (λ_=>True) (kas_asc p f m)
 |0,m=>trivial
 |f+1,m=>⟨h _,h _,λb=>by
  cases b with
  |true=>exact trivial
  |false=>exact jul h f (m+1)⟩
theorem jnh:∀f (p:Array Nat) m q,Pm n p->Wi n (λr=>Pm n r.1) (kas_desc f p m q)
 |0,p,m,q,h=>h
 |f+1,p,m,q,h=>⟨h.lo hn _,h.lo hn _,λb=>by
  cases b with
  |true =>
   show Wi n _ (if q > 0 then _ else _)
   split
   ·exact jnh f _ _ _ (h.rev _ _)
   ·exact jnh f _ _ _ h
  |false=>exact⟨h.lo hn _,h.lo hn _,λd=>by
    cases d with
    |true=>exact h
    |false=>exact jnh f _ _ _ h⟩⟩
theorem jr2 (m nrem:Nat) {p:Array Nat} (h:Pm n p):Wi n (λr=>Pm n r.2) (kas_tail3 m nrem p):=by
 unfold kas_tail3;refine Wi.bind (P:=λ_=>True) (λa _=>?_) (jul hn ((h.rev 0 m).lo hn) _ _);show Pm n (D1 p 0 m);exact h.rev _ _
theorem jjf (m nrem:Nat) {p:Array Nat} (h:Pm n p):Wi n (λr=>Pm n r.2) (kas_descPart m nrem p) :=
 Wi.bind (λr hr=>by
  show Wi n _ (if r.2.2 > 0 then _ else _)
  split
  ·exact jr2 hn _ _ (Pm.rev hr _ _)
  ·exact jr2 hn _ _ hr) (jnh hn _ p _ _ h)
theorem jx5 (nrem:Nat) {p:Array Nat} (h:Pm n p):Wi n (λr=>Pm n r.2) (kas_count nrem p) :=
 Wi.bind (λm _=>by
  show Wi n _ (if (m==nrem)=true then _ else if m > 1 then _ else _)
  split
  ·exact h
  ·split
   ·exact⟨h.lo hn _,h.lo hn _,λb=>by
     cases b with
     |true=>exact h
     |false=>exact jjf hn _ _ (h.rev _ _)⟩
   ·exact jjf hn _ _ h) (jul hn (h.lo hn) _ _)
theorem jng {p:Array Nat} (h:Lo n p) (k:Nat):∀f l r,Wi n (λ_=>True) (kas_place p k f l r)
 |0,l,r=>trivial
 |f+1,l,r=>by
  show Wi n _ (if l ≥ r then _ else _)
  split
  ·exact trivial
  ·exact⟨h _,h _,λb=>by
    cases b with
    |true=>exact jng h k f _ _
    |false=>exact jng h k f _ _⟩
theorem j0r:∀f (p:Array Nat) k,Pm n p->Wi n (Pm n) (kas_bin f p k)
 |0,p,k,h=>h
 |f+1,p,k,h=>Wi.bind (λl _=>j0r f _ _ (h.bub _ _)) (jng hn (h.lo hn) k _ _ _)
theorem wi_sort:Wi n (Pm n) (kas_sort n) :=
 Wi.bind (λr hr=>by
  show Wi n _ (if r.1 < n then _ else _)
  split
  ·exact j0r hn _ _ _ hr
  ·exact hr) (jx5 hn n (Array.Perm.refl _))
end
structure Ord (lt:Nat->Nat->Bool):Prop where
 asym:∀i j,lt i j=true->lt j i=false
 ltr:∀i j k,lt j i=false->lt k j=false->lt k i=false
section
variable {lt:Nat->Nat->Bool} (O:Ord lt)
def g (p:Array Nat) (i:Nat):Nat:=p.getD i 0
def SP (lt:Nat->Nat->Bool) (p:Array Nat) (n:Nat):Prop:=∀i j,i < j->j < n->lt (g p j) (g p i)=false
def DP (lt:Nat->Nat->Bool) (p:Array Nat) (n:Nat):Prop:=∀i j,i < j->j < n->lt (g p i) (g p j)=false
def Sim (lt:Nat->Nat->Bool) (x y:Nat):Prop:=lt x y=false/\lt y x=false
include O
theorem irr (i:Nat):lt i i=false:=by
 cases e:lt i i with
 |false=>rfl
 |true=>exact(O.asym i i e).symm.trans e |>.symm▸rfl
theorem Sim.eq {a b x y:Nat} (h1:Sim lt a x) (h2:Sim lt b y):lt a b=lt x y:=by
 cases e:lt x y with
 |false=>exact O.ltr _ _ _ h2.2 (O.ltr _ _ _ e h1.1)
 |true =>
  cases e2:lt a b with
  |true=>rfl
  |false =>
   have:lt x y=false:=O.ltr _ _ _ h2.1 (O.ltr _ _ _ e2 h1.2);rw[this]at e;cases e
theorem SP.snoc {p:Array Nat} {n:Nat} (h:SP lt p n) (h1:1<=n) (e:lt (g p n) (g p (n - 1))=false):SP lt p (n+1):=λi j hij hj=>by
 by_cases q:j < n
 ·exact h i j hij q
 ·have:j=n:=by omega
  subst this;by_cases r:i=j - 1
  ·subst r;exact e
  ·exact O.ltr _ _ _ (h i (j - 1) (by omega) (by omega)) e
theorem jxw {p:Array Nat}:∀f n,1<=n->SP lt p n->n<=run lt (kas_asc p f n)/\run lt (kas_asc p f n)<=n+f/\SP lt p (run lt (kas_asc p f n))/\(run lt (kas_asc p f n)=n+f\/lt (g p (run lt (kas_asc p f n))) (g p (run lt (kas_asc p f n) - 1))=true)
 |0,n,h1,h=>⟨An _,An _,h,.inl rfl⟩
 |f+1,n,h1,h=>by
  have e:run lt (kas_asc p (f+1) n)=run lt (if lt (g p n) (g p (n - 1))=true then .ret n else kas_asc p f (n+1)):=rfl;rw[e];cases q:lt (g p n) (g p (n - 1))with
  |true=>exact⟨An _,Nat.le_add_right _ _,h,.inr q⟩
  |false =>
   rw[if_neg Ag];obtain⟨a1,a2,a3,a4⟩:=jxw f (n+1) (by omega) (SP.snoc O h h1 q);exact⟨by omega,by omega,a3,a4.imp (λz=>by omega) id⟩
omit O
theorem jvp {p:Array Nat} {i j:Nat} (hj:j<=p.size) (k:Nat):g (D1 p i j) k=if i<=k/\k < j then g p (i+j - 1 - k)else g p k:=by
 unfold g D1;rw[jfb,jfb,jfb,getElem?_mirror hj _ (by omega)];by_cases h:i<=k/\k < j
 ·rw[if_pos h];by_cases q:(i<=k/\k < i+(j - i) / 2)\/(j - (j - i) / 2<=k/\k < j)
  ·rw[if_pos q]
  ·rw[if_neg q];have:i+j - 1 - k=k:=by omega
   rw[this]
 ·rw[if_neg h,if_neg (by omega)]
include O
theorem jq8 {p:Array Nat} {i j:Nat} (hj:j<=p.size) (h:∀a b,i<=a->a < j->i<=b->b < j->Sim lt (g p a) (g p b)) (k:Nat):Sim lt (g (D1 p i j) k) (g p k):=by
 rw[jvp hj]
 split
 ·rename_i q;exact h _ _ (by omega) (by omega) q.1 q.2
 ·exact⟨irr O _,irr O _⟩
theorem DP.sim {p p':Array Nat} {n:Nat} (h:DP lt p n) (s:∀k,Sim lt (g p' k) (g p k)):DP lt p' n:=λi j hij hj=>(Sim.eq O (s i) (s j)).trans (h i j hij hj)
theorem DP.snoc {p:Array Nat} {n:Nat} (h:DP lt p n) (h1:1<=n) (e:lt (g p (n - 1)) (g p n)=false):DP lt p (n+1):=λi j hij hj=>by
 by_cases q:j < n
 ·exact h i j hij q
 ·have:j=n:=by omega
  subst this;by_cases r:i=j - 1
  ·subst r;exact e
  ·exact O.ltr _ _ _ e (h i (j - 1) (by omega) (by omega))
omit O
def j4m (lt:Nat->Nat->Bool) (sz n f:Nat) (r:Array Nat×Nat×Nat):Prop :=
 r.1.size=sz/\n<=r.2.1/\r.2.1<=n+f/\r.2.2+1<=r.2.1/\DP lt r.1 r.2.1/\(∀a b,r.2.1 - (r.2.2+1)<=a->a < r.2.1->r.2.1 - (r.2.2+1)<=b->b < r.2.1->Sim lt (g r.1 a) (g r.1 b))
def CntP (lt:Nat->Nat->Bool) (sz nrem:Nat) (r:Nat×Array Nat):Prop:=r.2.size=sz/\1<=r.1/\r.1<=nrem/\SP lt r.2 r.1
def PlP (lt:Nat->Nat->Bool) (p:Array Nat) (k m:Nat):Prop:=m<=k/\(∀i,i < m->lt (g p k) (g p i)=false)/\(∀i,m<=i->i < k->lt (g p k) (g p i)=true)
include O
theorem jon:∀f (p:Array Nat) n q,q+1<=n->n+f<=p.size->DP lt p n->(∀a b,n - (q+1)<=a->a < n->n - (q+1)<=b->b < n->Sim lt (g p a) (g p b)) ->
  j4m lt p.size n f (run lt (kas_desc f p n q))
 |0,p,n,q,h1,h2,h3,h4=>⟨rfl,An _,An _,h1,h3,h4⟩
 |f+1,p,n,q,h1,h2,h3,h4=>by
  have one:∀(p':Array Nat) (m:Nat) (a b:Nat),m+1 - (0+1)<=a->a < m+1->m+1 - (0+1)<=b->b < m+1->Sim lt (g p' a) (g p' b):=λp' m a b ha ha' hb hb'=>by
   have e1:a=m:=by omega
   have e2:b=m:=by omega
   rw[e1,e2];exact⟨irr O _,irr O _⟩
  show j4m lt p.size n (f+1) (run lt (if lt (g p n) (g p (n - 1))=true then(if q > 0 then kas_desc f (D1 p (n - (q+1)) n) (n+1) 0 else kas_desc f p (n+1) 0)else .ask (p.getD (n - 1) 0) (p.getD n 0) λd=>if d=true then .ret (p,n,q)else kas_desc f p (n+1) (q+1)));cases c1:lt (g p n) (g p (n - 1))with
  |true =>
   rw[if_pos rfl];by_cases hq:q > 0
   ·rw[if_pos hq];have sim:=jq8 O (p:=p) (i:=n - (q+1)) (j:=n) (by omega) h4;have hd:DP lt (D1 p (n - (q+1)) n) (n+1):=DP.sim O (DP.snoc O h3 (by omega) (O.asym _ _ c1)) sim;have hs:(D1 p (n - (q+1)) n).size=p.size:=mirror_size _ _ _ _;obtain⟨a1,a2,a3,a4,a5,a6⟩:=jon f (D1 p (n - (q+1)) n) (n+1) 0 (by omega) (by rw[hs];omega) hd (one _ n);exact⟨a1.trans hs,by omega,by omega,a4,a5,a6⟩
   ·rw[if_neg hq];obtain⟨a1,a2,a3,a4,a5,a6⟩:=jon f p (n+1) 0 (by omega) (by omega) (DP.snoc O h3 (by omega) (O.asym _ _ c1)) (one _ n);exact⟨a1,by omega,by omega,a4,a5,a6⟩
  |false =>
   rw[if_neg Ag];show j4m lt p.size n (f+1) (run lt (if lt (g p (n - 1)) (g p n)=true then .ret (p,n,q)else kas_desc f p (n+1) (q+1)));cases c2:lt (g p (n - 1)) (g p n)with
   |true=>exact⟨rfl,An _,by show n<=n+(f+1);omega,h1,h3,h4⟩
   |false =>
    rw[if_neg Ag];have s1:Sim lt (g p n) (g p (n - 1)):=⟨c1,c2⟩;have tr:∀{x y z:Nat},Sim lt x y->Sim lt y z->Sim lt x z:=λh h'=>⟨O.ltr _ _ _ h'.1 h.1,O.ltr _ _ _ h.2 h'.2⟩;obtain⟨a1,a2,a3,a4,a5,a6⟩:=jon f p (n+1) (q+1) (by omega) (by omega) (DP.snoc O h3 (by omega) c2) (λa b ha ha' hb hb'=>by
     have key:∀x,n+1 - (q+1+1)<=x->x < n+1->Sim lt (g p x) (g p (n - 1)):=λx hx hx'=>by
      by_cases e:x=n
      ·rw[e];exact s1
      ·exact h4 x (n - 1) (by omega) (by omega) (by omega) (by omega)
     have kb:=key b hb hb';exact tr (key a ha ha') ⟨kb.2,kb.1⟩)
    exact⟨a1,by omega,by omega,a4,a5,a6⟩
theorem jr5 {p:Array Nat} {n nrem:Nat} (h1:1<=n) (hn:n<=nrem) (hz:nrem<=p.size) (h:DP lt p n):CntP lt p.size nrem (run lt (kas_tail3 n nrem p)):=by
 unfold kas_tail3;rw[jfs];have hs:(D1 p 0 n).size=p.size:=mirror_size _ _ _ _;have sp:SP lt (D1 p 0 n) n:=λi j hij hj=>by
  rw[jvp (by omega),jvp (by omega),if_pos ⟨Bm _,hj⟩,if_pos ⟨Bm _,by omega⟩];exact h _ _ (by omega) (by omega)
 obtain⟨a1,a2,a3,_⟩:=jxw O (p:=D1 p 0 n) (nrem - n) n h1 sp;exact⟨hs,by show 1<=run lt (kas_asc (D1 p 0 n) (nrem - n) n);omega,by show run lt (kas_asc (D1 p 0 n) (nrem - n) n)<=nrem;omega,a3⟩
theorem jkl {p:Array Nat} {n nrem:Nat} (h1:1<=n) (hn:n+1<=nrem) (hz:nrem<=p.size) (h:DP lt p (n+1)):CntP lt p.size nrem (run lt (kas_descPart n nrem p)):=by
 unfold kas_descPart;rw[jfs];obtain⟨a1,a2,a3,a4,a5,a6⟩:=jon O (nrem - (n+1)) p (n+1) 0 (by omega) (by omega) h (λa b ha ha' hb hb'=>by
  have e1:a=n:=by omega
  have e2:b=n:=by omega
  rw[e1,e2];exact⟨irr O _,irr O _⟩)
 generalize run lt (kas_desc (nrem - (n+1)) p (n+1) 0)=r at a1 a2 a3 a4 a5 a6;by_cases hq:r.2.2 > 0
 ·rw[if_pos hq];have hs:(D1 r.1 (r.2.1 - (r.2.2+1)) r.2.1).size=r.1.size:=mirror_size _ _ _ _;obtain⟨b1,b2⟩:=jr5 O (p:=D1 r.1 (r.2.1 - (r.2.2+1)) r.2.1) (n:=r.2.1) (nrem:=nrem) (by omega) (by omega) (by rw[hs];omega) (DP.sim O a5 (jq8 O (by omega) a6));exact⟨b1.trans (hs.trans a1),b2⟩
 ·rw[if_neg hq];obtain⟨b1,b2⟩:=jr5 O (p:=r.1) (n:=r.2.1) (nrem:=nrem) (by omega) (by omega) (by omega) a5;exact⟨b1.trans a1,b2⟩
theorem jz7 {p:Array Nat} {nrem:Nat} (h1:1<=nrem) (hz:nrem<=p.size):CntP lt p.size nrem (run lt (kas_count nrem p)):=by
 unfold kas_count;rw[jfs];obtain⟨a1,a2,a3,a4⟩:=jxw O (p:=p) (nrem - 1) 1 (An _) (λi j hij hj=>by omega);generalize run lt (kas_asc p (nrem - 1) 1)=m at a1 a2 a3 a4;by_cases q:(m==nrem)=true
 ·rw[if_pos q];exact⟨rfl,a1,by show m<=nrem;omega,a3⟩
 ·rw[if_neg q];have hm:m≠nrem:=λz=>q (by rw[z];exact beq_self_eq_true _);have a4:lt (g p m) (g p (m - 1))=true:=a4.resolve_left (by omega);by_cases hm1:m > 1
  ·rw[if_pos hm1];show CntP lt p.size nrem (run lt (if lt (g p 0) (g p (m - 1))=true then .ret (m,p)else kas_descPart m nrem (D1 p 0 m)));cases c:lt (g p 0) (g p (m - 1))with
   |true=>exact⟨rfl,a1,by show m<=nrem;omega,a3⟩
   |false =>
    rw[if_neg Ag];have hs:(D1 p 0 m).size=p.size:=mirror_size _ _ _ _;have up:∀a b,a < m->b < m->lt (g p b) (g p a)=false:=λa b ha hb=>by
     have le0:lt (g p a) (g p 0)=false:=by
      by_cases z:a=0
      ·rw[z];exact irr O _
      ·exact a3 0 a (by omega) ha
     have leb:lt (g p (m - 1)) (g p b)=false:=by
      by_cases z:b=m - 1
      ·rw[z];exact irr O _
      ·exact a3 b (m - 1) (by omega) (by omega)
     have l1:lt (g p b) (g p 0)=false:=by
      by_cases z:b=0
      ·rw[z];exact irr O _
      ·exact a3 0 b (by omega) hb
     have l2:lt (g p 0) (g p a)=false:=O.ltr _ _ _ (by
      by_cases z:a=m - 1
      ·rw[z];exact irr O _
      ·exact a3 a (m - 1) (by omega) (by omega)) c
     -- b <= m-1 <= 0 <= a
     exact O.ltr _ _ _ l2 l1
    have all:∀a b,0<=a->a < m->0<=b->b < m->Sim lt (g p a) (g p b):=λa b _ ha _ hb=>⟨up b a hb ha,up a b ha hb⟩;have sim:=jq8 O (p:=p) (i:=0) (j:=m) (by omega) all;have dp:DP lt p (m+1):=DP.snoc O (λi j hij hj=>up j i hj (by omega)) a1 (O.asym _ _ a4);obtain⟨b1,b2⟩:=jkl O (p:=D1 p 0 m) (n:=m) (nrem:=nrem) a1 (by omega) (by rw[hs];omega) (DP.sim O dp sim);exact⟨b1.trans hs,b2⟩
  ·rw[if_neg hm1];have e:m=1:=by omega
   subst e;exact jkl O (p:=p) (An _) (by omega) hz (DP.snoc O (λi j hij hj=>by omega) (An _) (O.asym _ _ a4))
theorem jnt {p:Array Nat} {k:Nat} (h:SP lt p k):∀f l r,l<=r->r<=k->r - l<=f->(∀i,i < l->lt (g p k) (g p i)=false)->(∀i,r<=i->i < k->lt (g p k) (g p i)=true) ->
  PlP lt p k (run lt (kas_place p k f l r))
 |0,l,r,hlr,hr,hf,h1,h2=>by
  have e:l=r:=by omega
  subst e;exact⟨hr,h1,h2⟩
 |f+1,l,r,hlr,hr,hf,h1,h2=>by
  show PlP lt p k (run lt (if l ≥ r then .ret l else .ask (p.getD k 0) (p.getD ((l+r) / 2) 0) λc=>if c=true then kas_place p k f l ((l+r) / 2)else kas_place p k f ((l+r) / 2+1) r));by_cases q:l ≥ r
  ·rw[if_pos q];have e:l=r:=by omega
   subst e;exact⟨hr,h1,h2⟩
  ·rw[if_neg q];show PlP lt p k (run lt (if lt (g p k) (g p ((l+r) / 2))=true then kas_place p k f l ((l+r) / 2)else kas_place p k f ((l+r) / 2+1) r));cases c:lt (g p k) (g p ((l+r) / 2))with
   |true =>
    rw[if_pos rfl];refine jnt h f l ((l+r) / 2) (by omega) (by omega) (by omega) h1 λi hi hik=>?_;by_cases e:i=(l+r) / 2
    ·rw[e];exact c
    ·cases z:lt (g p k) (g p i)with
     |true=>rfl
     |false =>
      have:=O.ltr _ _ _ (h ((l+r) / 2) i (by omega) hik) z;rw[this]at c;cases c
   |false =>
    rw[if_neg Ag];refine jnt h f ((l+r) / 2+1) r (by omega) hr (by omega) (λi hi=>?_) h2;by_cases e:i=(l+r) / 2
    ·rw[e];exact c
    ·exact O.ltr _ _ _ (h i ((l+r) / 2) (by omega) (by omega)) c
omit O
theorem j1y {p:Array Nat} {k l:Nat} (hk:k < p.size) (hl:l<=k) (i:Nat):g (bubble p k (k - l)) i=if i=l then g p k else if l < i/\i<=k then g p (i - 1)else g p i:=by
 unfold g;rw[jfb,getElem?_bubble hk _ (by omega),jfb,jfb,jfb];have e:k - (k - l)=l:=by omega
 rw[e];by_cases h1:i=l
 ·rw[if_pos h1,if_pos h1]
 ·rw[if_neg h1,if_neg h1];by_cases h2:l < i/\i<=k
  ·rw[if_pos h2,if_pos h2]
  ·rw[if_neg h2,if_neg h2]
include O
theorem j11:∀f (p:Array Nat) k,1<=k->k+f<=p.size->SP lt p k->SP lt (run lt (kas_bin f p k)) (k+f)
 |0,p,k,h1,hz,h=>h
 |f+1,p,k,h1,hz,h=>by
  show SP lt (run lt ((kas_place p k k 0 k).bind λl=>kas_bin f (bubble p k (k - l)) (k+1))) (k+(f+1));rw[jfs];obtain⟨b1,b2,b3⟩:=jnt O h k 0 k (Bm _) (An _) (by omega) (λi hi=>by omega) (λi hi hi'=>by omega);generalize run lt (kas_place p k k 0 k)=l at b1 b2 b3;have sp:SP lt (bubble p k (k - l)) (k+1):=λi j hij hj=>by
   rw[j1y (by omega) b1,j1y (by omega) b1];by_cases e1:j=l
   ·rw[if_pos e1,if_neg (by omega),if_neg (by omega)];exact b2 i (by omega)
   ·rw[if_neg e1];by_cases e2:l < j/\j<=k
    ·rw[if_pos e2];by_cases e3:i=l
     ·rw[if_pos e3];exact O.asym _ _ (b3 (j - 1) (by omega) (by omega))
     ·rw[if_neg e3];by_cases e4:l < i/\i<=k
      ·rw[if_pos e4];exact h (i - 1) (j - 1) (by omega) (by omega)
      ·rw[if_neg e4];exact h i (j - 1) (by omega) (by omega)
    ·rw[if_neg e2,if_neg (by omega),if_neg (by omega)];exact h i j hij (by omega)
  have:=j11 f (bubble p k (k - l)) (k+1) (by omega) (by rw[bubble_size];omega) sp;have e:k+1+f=k+(f+1):=by omega
  rwa [e]at this
theorem sort_ok {n:Nat} (h1:1<=n):SP lt (run lt (kas_sort n)) n:=by
 unfold kas_sort;rw[jfs];obtain⟨a1,a2,a3,a4⟩:=jz7 O (p:=Cq (Bq n)) (nrem:=n) h1 (by simp);generalize run lt (kas_count n (Cq (Bq n)))=r at a1 a2 a3 a4;have hs:r.2.size=n:=by rw[a1];simp
 by_cases q:r.1 < n
 ·rw[if_pos q];have e:max r.1 1=r.1:=by omega
  rw[e];have:=j11 O (n - r.1) r.2 r.1 a2 (by omega) a4;have e2:r.1+(n - r.1)=n:=by omega
  rwa [e2]at this
 ·rw[if_neg q];have e:r.1=n:=by omega
  rw[e]at a4;exact a4
end
end KS
namespace KS
open PySem PySem.W PySem.Calls PyProof.Rows
section
variable {prog:Bg} {w:Br} {A:B4} {E:Af->Ak->Prop} {s:Ak} {a:Addr} {vs:List Af}
theorem ls_sort {n:Nat} {P:PySem.Fin->Ak->Prop} (ho:s.heap.get? a=some (B9 "list" vs.toArray n)) (h2:2<=vs.length) (h64:vs.length < 64)
  (h:∀e1 h',h'.get? a=some (B9 "list" #[] e1)->(∀b o,b≠a->s.heap.get? b=some o->h'.get? b=some o) ->
   A4 (Ba prog w) A (keyKind' vs.toArray) (λκ s'=>(kas_sort vs.length).kasWp (kas_ask prog w A κ vs)
    (λp s''=>s''.heap.get? a=some (B9 "list" #[] e1)/\∀h3 c,Cs a s''.heap h3->h3.get? a=some (B9 "list" (Cq (p.toList.map λi=>vs.getD i Be)) c)->P (.done (.ret .none)) {s'' with heap:=h3}) s') (λ_ _=>False) {s with heap:=h'}) :
  A4 (Ba prog w) A (D4.«list.sort» ⟨[.ref a],[]⟩) P E s:=by
 have ha:a < s.heap.objs.size:=Av ho;have s1:=Bh s.heap a (Cg λ_=>(#[]:Array Af));obtain⟨e1,ho1⟩:∃e1,(s.heap.update a (Cg λ_=>(#[]:Array Af))).get? a=some (B9 "list" #[] e1):=⟨_,get?_update_seq ho λ_=>#[]⟩;have ask:=h e1 (((s.heap.update a (Cg λ_=>(#[]:Array Af))).push (B9 "tuple" vs.toArray 0)).push (B9 "list" #[] 0)) (Ae _ (Ae _ ho1))
  λb o hb e=>Ae _ (Ae _ ((s1.2 b hb).trans e))
 rw[list_sort_plain];refine Aa (listItems_at ho rfl ?_);refine Aa (listUpdate_at ho rfl ?_ (by rw[A3,Dn];omega) (Bm _));refine Aa (seqEpoch_at ho1 rfl ?_);refine Aa (wpAny_newTuple ?_ (by show vs.length<=_;rw[Dn];omega));refine Aa (wpAny_newList ?_ (Bm _));refine Ck ?_;show A4 (Ba prog w) A _ P E {s with heap:=((s.heap.update a (Cg λ_=>(#[]:Array Af))).push (B9 "tuple" vs.toArray 0)).push (B9 "list" #[] 0)};dsimp only;have hn2:¬vs.toArray.size < 2:=by rw[A3];omega
 rw[if_neg hn2,if_neg hn2];refine Aa (Cu ask (λκ s0 hk=>?_) λ_ _ x=>x.elim);refine Aa (Cu (kat_run (Q:=λst' s'=>∃p:Array Nat,p.size=vs.length/\arrOf st'=p.map (kas_item (vs.toArray.zip vs.toArray))/\failedOf st'=none/\s'.heap.get? a=some (B9 "list" #[] e1)/\∀h3 c,Cs a s'.heap h3->h3.get? a=some (B9 "list" (Cq (p.toList.map λi=>vs.getD i Be)) c)->P (.done (.ret .none)) {s' with heap:=h3})
  rfl h2 h64 (λp' st' s' a1 a2 a3 a4=>⟨p',a1,a2,a3,a4⟩) hk) ?_ λ_ _ e=>e)
 rintro⟨⟨⟩,st'⟩ s' ⟨p,hp,har,hf,na,k⟩
 dsimp only;have hout:=kat_snds rfl har;have hsz:(Cq (p.toList.map λi=>vs.getD i Be)).size=vs.length:=by rw[A3,Ab,Cm,hp]
 rw[hout];have s2:=Bh s'.heap a (Cg λ_=>Cq (p.toList.map λi=>vs.getD i Be));obtain⟨c2,hc2⟩:∃c2,(s'.heap.update a (Cg λ_=>Cq (p.toList.map λi=>vs.getD i Be))).get? a=some (B9 "list" (Cq (p.toList.map λi=>vs.getD i Be)) c2):=⟨_,get?_update_seq na λ_=>Cq (p.toList.map λi=>vs.getD i Be)⟩;refine Aa (seqEpoch_at na rfl ?_);refine Aa (listUpdate_at na rfl ?_ (Bm _) (A5 (Nat.le_of_eq hsz) (by rw[Dn];omega)));rw[hf];simp only[bne_self_eq_false,Ce,if_false];exact Al (k _ c2 s2 hc2)
theorem ls_short {n:Nat} {P:PySem.Fin->Ak->Prop} (ho:s.heap.get? a=some (B9 "list" vs.toArray n)) (h2:vs.length < 2)
  (h:∀h' c,h'.get? a=some (B9 "list" vs.toArray c)->(∀b o,b≠a->s.heap.get? b=some o->h'.get? b=some o)->P (.done (.ret .none)) {s with heap:=h'}) :
  A4 (Ba prog w) A (D4.«list.sort» ⟨[.ref a],[]⟩) P E s:=by
 have ha:a < s.heap.objs.size:=Av ho;have s1:=Bh s.heap a (Cg λ_=>(#[]:Array Af));obtain⟨e1,ho1⟩:∃e1,(s.heap.update a (Cg λ_=>(#[]:Array Af))).get? a=some (B9 "list" #[] e1):=⟨_,get?_update_seq ho λ_=>#[]⟩;have ho6:(((s.heap.update a (Cg λ_=>(#[]:Array Af))).push (B9 "tuple" vs.toArray 0)).push (B9 "list" #[] 0)).get? a=some (B9 "list" #[] e1):=Ae _ (Ae _ ho1);rw[list_sort_plain];refine Aa (listItems_at ho rfl ?_);refine Aa (listUpdate_at ho rfl ?_ (by rw[A3,Dn];omega) (Bm _));refine Aa (seqEpoch_at ho1 rfl ?_);refine Aa (wpAny_newTuple ?_ (by show vs.length<=_;rw[Dn];omega));refine Aa (wpAny_newList ?_ (Bm _));refine Ck ?_;show A4 (Ba prog w) A _ P E {s with heap:=((s.heap.update a (Cg λ_=>(#[]:Array Af))).push (B9 "tuple" vs.toArray 0)).push (B9 "list" #[] 0)};dsimp only;have hn2:vs.toArray.size < 2:=by rw[A3];omega
 rw[if_pos hn2,if_pos hn2];refine Aa (Al ?_);rw[StateT.run_pure];refine Aa (Al ?_);dsimp only;refine Aa (seqEpoch_at ho6 rfl ?_);refine Aa (listUpdate_at ho6 rfl ?_ (hsz2:=by rw[Array.size_map];show(pairsOf vs).size<=_;rw[pairsOf_size,Dn];omega));simp only[bne_self_eq_false,Ce,if_false];have e:(arrOf (SortSt.mk' general' (vs.toArray.zip vs.toArray) #[] 7 none)).map (·.2)=vs.toArray:=by
  show(vs.toArray.zip vs.toArray).map (·.2)=vs.toArray;apply Fq.mp;simp only[Array.toList_map,Array.toList_zip];exact List.map_snd_zip (An _)
 have s2:=Bh (((s.heap.update a (Cg λ_=>(#[]:Array Af))).push (B9 "tuple" vs.toArray 0)).push (B9 "list" #[] 0)) a (Cg λ_=>(arrOf (SortSt.mk' general' (vs.toArray.zip vs.toArray) #[] 7 none)).map (·.2));refine Al (h _ _ (by rw[e];exact get?_update_seq ho6 λ_=>vs.toArray) λb o hb q=>(s2.2 b hb).trans (Ae _ (Ae _ ((s1.2 b hb).trans q))))
theorem sorted_of {r:Af} {Q:Af->Ak->Prop} {R:List Af->Ak->Prop} (hcol:A4 (Ba prog w) A.in1 (collect r) R E s)
  (h:∀vs s1,R vs s1->vs.length<=A1/\A4 (Ba prog w) A.in1.in1 (D4.«list.sort» ⟨[.ref s1.heap.objs.size],[]⟩) (λf s2=>f=.done (.ret .none)/\Q (.ref s1.heap.objs.size) s2) E {s1 with heap:=s1.heap.push (B9 "list" vs.toArray 0)}) :
  A4 (Ba prog w) A (call (.builtin "sorted") [r]) Q E s:=by
 refine Calls.call_function_entry kind_sorted plain_sorted entry_sorted (args_sorted1 _) ?_;unfold D4.«sorted»;refine Aa (m:=checkCount "sorted" 1 1 _) (Al ?_);refine Aa (Cu hcol (λvs s1 hr=>?_) λ_ _ e=>e);obtain⟨hl,hs⟩:=h vs s1 hr;refine Aa (wpAny_newList ?_ hl);have hoL:(s1.heap.push (B9 "list" vs.toArray 0)).get? s1.heap.objs.size=some (B9 "list" vs.toArray 0):=A2 _ rfl;refine Aa (Ck (B6 (s:={ s1 with heap:=s1.heap.push (B9 "list" vs.toArray 0)}) slot_list_sort ⟨_,hoL,rfl⟩ entry_list_sort ?body (args_list_sort _)))
 case body =>
  refine Cu hs (λf s2 hf=>?_) λ_ _ e=>e;obtain⟨rfl,hq⟩:=hf;exact⟨_,rfl,Al ⟨_,rfl,hq⟩⟩
def ItsOk (h:Heap) (as:List Addr) (ks:List Str) (xs:List Af):Prop :=
 as.length=ks.length/\as.length=xs.length/\∀(j:Nat) (a:Addr),as[j]?=some a->∃k t x,ks[j]?=some k/\xs[j]?=some x/\h.get? a=some {cls:=.type "tuple",data:=.seq #[.str k t,x]}
def ltK (ks:List Str) (i j:Nat):Bool:=decide ((ks.getD i ⟨#[]⟩).cps.toList < (ks.getD j ⟨#[]⟩).cps.toList)
theorem jzi (x y:List Nat) (h:x < y):¬y < x:=λz=>List.lt_irrefl x (List.lt_trans h z)
theorem ordK (ks:List Str):Ord (ltK ks) where
 asym:=λi j h=>by
  unfold ltK at h ⊢;exact decide_eq_false (jzi _ _ (of_decide_eq_true h))
 ltr:=λi j k h1 h2=>by
  unfold ltK at h1 h2 ⊢;have h1:=of_decide_eq_false h1;have h2:=of_decide_eq_false h2;refine decide_eq_false λz=>?_;have l1:=D9.mp h1;have l2:=D9.mp h2;exact absurd z (D9.mpr (List.le_trans l1 l2))
theorem katTups {h:Heap}:∀{as:List Addr} {ks:List Str} {xs:List Af},ItsOk h as ks xs->∃fs:List Af,KatTups h (as.map A7) fs/\fs.length=as.length/\∀f∈fs,∃k t,f=.str k t
 |[],ks,xs,_=>⟨[],trivial,rfl,λf hf=>nomatch hf⟩
 |a::as,ks,xs,I=>by
  obtain⟨l1,l2,hp⟩:=I;obtain⟨k,t,x,e1,e2,e3⟩:=hp 0 a rfl;cases ks with
  |nil=>cases e1
  |cons k0 ks =>
   cases xs with
   |nil=>cases e2
   |cons x0 xs =>
    obtain⟨fs,f1,f2,f3⟩:=katTups (h:=h) (as:=as) (ks:=ks) (xs:=xs) ⟨by simpa using l1,by simpa using l2,λj b hb=>by
     obtain⟨k',t',x',g1,g2,g3⟩:=hp (j+1) b (by simpa using hb);exact⟨k',t',x',by simpa using g1,by simpa using g2,g3⟩⟩
    refine⟨.str k t::fs,.cons e3 rfl rfl rfl f1,by simp[f2],λf hf=>?_⟩;rcases As.mp hf with rfl | z
    ·exact⟨k,t,rfl⟩
    ·exact f3 f z
end
section
variable {prog:Bg} {w:Br} {A:B4} {E:Af->Ak->Prop} {s:Ak} {a:Addr} {as:List Addr} {ks:List Str} {xs:List Af}
theorem ask_items (hI:ItsOk s.heap as ks xs) (nd:ks.Nodup) (hx:∀x∈xs,∀(s:Ak),SeqAt.EqAt A s x x true) {i j:Nat} (hi:i < as.length) (hj:j < as.length) {C:Bool->Ak->Prop} (h:C (ltK ks i j) s) :
  kas_ask prog w A (tuples' true) (as.map A7) i j C s:=by
 obtain⟨l1,l2,hp⟩:=hI;obtain⟨k1,t1,x1,e1,e2,e3⟩:=hp i as[i] (Aj hi);obtain⟨k2,t2,x2,f1,f2,f3⟩:=hp j as[j] (Aj hj);unfold kas_ask;have g1:(as.map A7).getD i Be=.ref as[i]:=by simp[hi]
 have g2:(as.map A7).getD j Be=.ref as[j]:=by simp[hj]
 rw[g1,g2];have c1:ks.getD i ⟨#[]⟩=k1:=by simp[e1]
 have c2:ks.getD j ⟨#[]⟩=k2:=by simp[f1]
 have hc:ltK ks i j=decide (k1.cps.toList < k2.cps.toList):=by unfold ltK;rw[c1,c2]
 rw[hc]at h;refine kat_lt e3 rfl f3 rfl ?_;refine kat_cons (wpAny_eqBool_str ?_);by_cases e:k1=k2
 ·rw[decide_eq_true e];have hij:i=j:=by
   have hi':i < ks.length:=by omega
   have hj':j < ks.length:=by omega
   have q1:ks[i]=k1:=by have:=Aj hi';rw[e1]at this;exact(Ax this).symm
   have q2:ks[j]=k2:=by have:=Aj hj';rw[f1]at this;exact(Ax this).symm
   exact(Er nd).mp (q1.trans (e.trans q2.symm))
  subst hij;rw[e2]at f2;cases f2;refine kat_yes (kat_cons ?_);refine hx x1 (A6 e2) s _ _ _ _ ?_;refine kat_yes (kat_nil ?_);rw[e]at h;have:decide (k2.cps.toList < k2.cps.toList)=false:=decide_eq_false (List.lt_irrefl _);rw[this]at h;exact h
 ·rw[decide_eq_false e];exact kat_no (oneLt_str h)
end
end KS
namespace L2
open PySem PySem.Spec PyProof.Rows PySem.W
def jo6 (d v:Addr):HO:=.ext λh=>h.get? v=some {cls:=.type "dict_items",data:=.fields #[.ref d]}
theorem jzg {X:Cx}:MtR X "dict.items" (λx vs H Q=>∃d kvs,x=.ref d/\vs=[]/\H d=some (.dK kvs)/\∀v,H v=none->Q (.ref v) (upd H v (jo6 d v))):=by
 intro pins s σ H x xs v us Q I rx rv h;obtain⟨d,kvs,rfl,rfl,hd,q⟩:=h;cases rx;cases rv.zero;obtain⟨z,hsys,vs',rel,hD⟩:=I.hok d _ hd;refine call_meetsIn PySem.F.slot_dict_items hD.typeIs PySem.F.entry_dict_items (PySem.F.args_dict_items_1 _) (meets_dict_items (jbr X.prog X.w) d hsys) ⟨⟨vs',hD⟩,?_⟩;have e:(s.heap.push ({cls:=.type "dict_items",data:=.fields #[.ref d]}:Obj)).get? s.heap.objs.size=some {cls:=.type "dict_items",data:=.fields #[.ref d]}:=A2 _ rfl;exact⟨.ref s.heap.objs.size,_,I.laid (t':=s.toks) (o:=jo6 d s.heap.objs.size) (λb ob q=>Ae _ q) (An _) ⟨e,⟨_,e⟩,λh1 h2 q k=>k _ q⟩,rfl,q _ (I.hok.fresh (An _))⟩
def IxV (as:List Addr) (ks:List Str) (xv:List V) (i:Nat):Addr×Str×V:=(as.getD i 0,ks.getD i ⟨#[]⟩,xv.getD i .non)
def newH (H:Hp) (D:Addr) (l:List V) (as:List Addr) (ks:List Str) (xv:List V):Hp:=λb=>if b=D then some (.lst l)else match as.idxOf? b with
 |some j=>some (.tup [.str (ks.getD j ⟨#[]⟩),xv.getD j .non])
 |none=>H b
theorem jfv {as:List Addr} {b:Addr} {j:Nat} (h:as.idxOf? b=some j):as[j]?=some b:=by
 unfold List.idxOf? at h;obtain⟨h1,h2,_⟩:=Fb.mp h;rw[Aj h1];rw[beq_iff_eq]at h2;rw[h2]
theorem jtz {as:List Addr} {b:Addr} (h:as.idxOf? b=none):b∉as:=λhb=>by
 unfold List.idxOf? at h;rw[List.findIdx?_eq_none_iff]at h;have:=h b hb;simp at this
theorem jww {as:List Addr} (nd:as.Nodup) {j:Nat} {a:Addr} (h:as[j]?=some a):as.idxOf? a=some j:=by
 obtain⟨h1,h2⟩:=At.mp h;cases e:as.idxOf? a with
 |none=>exact absurd (A6 h) (jtz e)
 |some i =>
  have e':=jfv e;obtain⟨h3,h4⟩:=At.mp e';rw[(Er nd).mp (h4.trans h2.symm)]
section
variable {X:Cx} {pins:List (Addr×Obj)} {σ:St} {H:Hp} {s:Ak}
theorem jp0 {as:List Addr} {ks:List Str} {xv:List V} {xs:List Af} {D:Addr} {idx:List Nat} {h3:Heap} {tk c:Nat} {Q:VK} (I:Inv X pins σ H s) (hk:∀b o,s.heap.get? b=some o->h3.get? b=some o)
  (hI:KS.ItsOk h3 as ks xs) (hx:Vals xv xs) (hup:∀a∈as,s.heap.objs.size<=a) (nd:as.Nodup) (hD:∀b o,s.heap.get? b=some o->b≠D) (hDH:H D=none) (hDa:D∉as) (hl:as.length < 64) (hidx:idx.Perm (Bq as.length))
  (hL:h3.get? D=some (B9 "list" (Cq (idx.map λi=>(as.map A7).getD i Be)) c))
  (q:∀H',Same H H'->H D=none->(∀a∈as,H a=none)->H' D=some (.lst (idx.map λi=>V.ref (IxV as ks xv i).1))->(∀i∈idx,H' (IxV as ks xv i).1=some (.tup [.str (IxV as ks xv i).2.1,(IxV as ks xv i).2.2]))->Q (.ref D) H') :
  EP X pins σ Q (.ref D) {s with heap:=h3,toks:=tk}:=by
 obtain⟨l1,l2,hp⟩:=hI;have lx:=hx.length;have old:∀{b o},H b=some o->b < s.heap.objs.size:=λe=>I.hok.lt e;have hidlt:∀i∈idx,i < as.length:=λi hi=>C7.mp (hidx.mem_iff.mp hi);have hlen:idx.length=as.length:=by rw[hidx.length_eq,Ei]
 have hsame:Same H (newH H D (idx.map λi=>V.ref (IxV as ks xv i).1) as ks xv):=λb o e=>by
  unfold newH;rw[if_neg (λz=>by rw[z,hDH]at e;cases e)];cases q:as.idxOf? b with
  |none=>exact e
  |some j =>
   have:=hup b (A6 (jfv q));exact absurd (old e) (Nat.not_lt.mpr this)
 have hvals:Vals (idx.map λi=>V.ref (IxV as ks xv i).1) (idx.map λi=>(as.map A7).getD i Be):=by
  have:∀l:List Nat,(∀i∈l,i < as.length)->Vals (l.map λi=>V.ref (IxV as ks xv i).1) (l.map λi=>(as.map A7).getD i Be):=by
   intro l
   induction l with
   |nil=>intro _;exact .nil
   |cons i r ih =>
    intro hl;have hi:=hl i A0;refine .cons ?_ (ih λj hj=>hl j (Au _ hj));show(as.map A7).getD i Be=A7 (as.getD i 0);simp[hi]
  exact this idx hidlt
 have hnew:HOk X.prog X.w (newH H D (idx.map λi=>V.ref (IxV as ks xv i).1) as ks xv) h3:=λb o e=>by
  by_cases hb:b=D
  ·subst hb;unfold newH at e;rw[if_pos rfl]at e;cases e;refine⟨?_,_,c,hvals,hL⟩;rw[Ab,hlen];exact jbn (by omega)
  ·have e2:=e;unfold newH at e2;rw[if_neg hb]at e2;cases qi:as.idxOf? b with
   |none =>
    rw[qi]at e2;refine(I.hok b o e2).stay (λcc u _ z=>hk cc u z) (λcc z=>hsame _ _ z) λcc ys z=>hsame _ _ z
   |some j =>
    rw[qi]at e2;cases e2;obtain⟨k,t,x,g1,g2,g3⟩:=hp j b (jfv qi);have hjl:j < xv.length:=by
     have:=(At.mp g2).1;omega
    have ev:RelV (xv.getD j .non) x:=by
     obtain⟨u,hu,ru⟩:=hx.get (Aj hjl);rw[g2]at hu;cases hu;have:xv.getD j .non=xv[j]:=by simp[hjl]
     rw[this];exact ru
    have ek:ks.getD j ⟨#[]⟩=k:=by simp[g1]
    refine⟨by show 2<=A1;decide,[.str k t,x],.cons (by rw[ek];exact⟨t,rfl⟩) (.cons ev .nil),?_⟩;exact⟨_,g3,rfl,⟨_,rfl⟩,rfl⟩
 refine⟨.ref D,_,I.call' (s':={ s with heap:=h3,toks:=tk}) (ch:=[]) rfl ?_ hnew I.bare (λb hb=>nomatch hb),rfl,q _ hsame hDH (λa ha=>I.hok.fresh (hup a ha)) (by unfold newH;rw[if_pos rfl]) λi hi=>?_⟩
 ·refine⟨λb o e n _ _=>hk b o e,λb o e n _ _=>⟨o.slots,hk b o e⟩,λb o e n _=>?_,λb o e _=>⟨o,hk b o e⟩,λb ys z=>hsame _ _ z,λb o' u z=>hsame _ _ z,λb ps z=>⟨#[],by rw[Array.append_empty];exact hsame _ _ z⟩⟩;have hlt:=Av e;unfold newH;rw[if_neg (hD b o e)];cases qi:as.idxOf? b with
  |none=>exact n
  |some j=>exact absurd hlt (Nat.not_lt.mpr (hup b (A6 (jfv qi))))
 ·have hi':=hidlt i hi;have ea:(IxV as ks xv i).1=as[i]:=by show as.getD i 0=_;simp[hi']
  have eg:as[i]?=some as[i]:=Aj hi';have ne:as[i]≠D:=λz=>hDa (z▸C5 hi');rw[ea];unfold newH;rw[if_neg ne,jww nd eg];rfl
end
def jmu:List V->Hp->VK->Prop:=λxs H Q=>∃(v d:Addr) (ks:List Str) (xv:List V),xs=[.ref v]/\H v=some (jo6 d v)/\ks.length=xv.length/\H d=some (.dK ((ks.zip xv).map λp=>((Ct p.1:Key),p.2)))/\ks.length < 64/\ks.Nodup/\xv.all ji0=true /\
 ∀(D:Addr) (as:List Addr) (idx:List Nat) (H':Hp),as.length=ks.length->idx.Perm (Bq ks.length)->(idx.map λi=>ks.getD i ⟨#[]⟩).Pairwise (λa b=>¬b.cps.toList < a.cps.toList)->Same H H'->H D=none->(∀a∈as,H a=none) ->
  H' D=some (.lst (idx.map λi=>V.ref (IxV as ks xv i).1))->(∀i∈idx,H' (IxV as ks xv i).1=some (.tup [.str (IxV as ks xv i).2.1,(IxV as ks xv i).2.2]))->Q (.ref D) H'
theorem jsy {xs:List Af}:∀{ks:List Str} {xv:List V} {vs:List (Key×Af)},ks.length=xv.length->KV ((ks.zip xv).map λp=>((Ct p.1:Key),p.2)) vs->vs.length=ks.length/\Vals xv (vs.map (·.2))/\vs.map (·.1)=ks.map (Ct:Str->Key)
 |[],[],_,_,.nil=>⟨rfl,.nil,rfl⟩
 |k::ks,x::xv,_,hl,.cons r rr=>by
  obtain⟨h1,h2,h3⟩:=jsy (xs:=xs) (ks:=ks) (xv:=xv) (by simpa using hl) rr;refine⟨by simp[h1],.cons r.2 h2,?_⟩;rw[Bi,Bi,h3,<-r.1]
theorem j5w {ks:List Str} {p:Array Nat} {n:Nat} (hz:p.size=n) (h:KS.SP (KS.ltK ks) p n):(p.toList.map λi=>ks.getD i ⟨#[]⟩).Pairwise (λa b=>¬b.cps.toList < a.cps.toList):=by
 rw[List.pairwise_iff_getElem];intro i j hi hj hij;rw[Ab,Cm,hz]at hi hj;have:=h i j hij hj;unfold KS.ltK KS.g at this;have e1:p.getD i 0=p[i]:=by simp[hz,hi]
 have e2:p.getD j 0=p[j]:=by simp[hz,hj]
 rw[e1,e2]at this;simp only[List.getElem_map,Array.getElem_toList];exact of_decide_eq_false this
theorem jl7 {X:Cx} (hh:X.A.handled=none):CallR X (.builtin "sorted") jmu:=by
 intro pins s σ H xs us Q I r h;obtain⟨v,d,ks,xv,rfl,hv,hl,hd,h64,nd,fl,q⟩:=h;obtain⟨u,rfl,ru⟩:=jni r;cases(show u=A7 v from ru);have ov:s.heap.get? v=some {cls:=.type "dict_items",data:=.fields #[.ref d]}:=(I.hok v _ hv).1;obtain⟨z,hsys,vs',rel,hDict⟩:=I.hok d _ hd;obtain⟨ep,hat⟩:=hDict.dictAt;obtain⟨lv,hvals,hkeys⟩:=jsy (xs:=[]) hl rel;refine KS.sorted_of (R:=λvs s1=>∃(h':Heap) (tk:Nat) (as:List Addr),vs=as.map A7/\s1={ s with heap:=h',toks:=tk}/\(∀b o,s.heap.get? b=some o->h'.get? b=some o)/\as.length=vs'.length/\KdxG (jbr X.prog X.w) vs' s.heap.objs.size h' as)
  (kdx_collect (knd:=jbr X.prog X.w) (kvs:=vs') (ep:=ep) hh ⟨_,ov,rfl,rfl⟩ hat (by rw[lv];exact jbn (by omega)) λh' tk as hk hl hG=>⟨h',tk,as,rfl,rfl,hk,hl,hG⟩) ?_
 rintro vs s1 ⟨h',tk,as,rfl,rfl,hk,hla,hG⟩
 have hlen:as.length=ks.length:=hla.trans lv;have its:KS.ItsOk h' as ks (vs'.map (·.2)):=⟨hlen,by rw[Ab,hla],λj a ha=>by
  obtain⟨key,k,x,e1,e2,e3⟩:=hG.pairs j a ha;have hk1:(vs'.map (·.1))[j]?=some k:=by rw[Ay,e1];rfl
  rw[hkeys,Ay]at hk1;cases eq:ks[j]? with
  |none=>rw[eq]at hk1;cases hk1
  |some k0 =>
   rw[eq]at hk1;have hk2:(Ct k0:Key)=k:=Ax hk1;subst hk2;rcases jbs (k:=Ct k0) (v:=key) (show jrj (Ct k0) key=true from e2)with⟨i,t,z,_⟩ | ⟨y,t,z,rfl⟩
   ·cases z
   ·cases z;exact⟨k0,t,x,rfl,by rw[Ay,e1];rfl,e3⟩⟩
 have hup:∀a∈as,s.heap.objs.size<=a:=λa ha=>Fm (hG.above a ha);have ndA:as.Nodup:=hG.rise.imp λh=>Bb h;have hDa:h'.objs.size∉as:=λhm=>Eg _ (hG.there hm);have hs':∀b o,s.heap.get? b=some o->b≠h'.objs.size:=λb o e=>Bb (Av (hk b o e));have hsH:H h'.objs.size=none:=(I.hok.kept hk).fresh (An _);refine⟨by rw[Ab,hlen];exact jbn (by omega),?_⟩;have hoL:(h'.push (B9 "list" (as.map A7).toArray 0)).get? h'.objs.size=some (B9 "list" (as.map A7).toArray 0):=A2 _ rfl;have its2:∀h4:Heap,(∀b o,b≠h'.objs.size->(h'.push (B9 "list" (as.map A7).toArray 0)).get? b=some o->h4.get? b=some o)->KS.ItsOk h4 as ks (vs'.map (·.2)):=λh4 k4=>⟨its.1,its.2.1,λj a ha=>by
  obtain⟨k,t,x,e1,e2,e3⟩:=its.2.2 j a ha;exact⟨k,t,x,e1,e2,k4 a _ (λz=>hDa (z▸A6 ha)) (Ae _ e3)⟩⟩
 have keep4:∀h4:Heap,(∀b o,b≠h'.objs.size->(h'.push (B9 "list" (as.map A7).toArray 0)).get? b=some o->h4.get? b=some o)->∀b o,s.heap.get? b=some o->h4.get? b=some o:=λh4 k4 b o e =>
  k4 b o (hs' b o e) (Ae _ (hk b o e))
 by_cases h2:2<=(as.map A7).length
 ·refine KS.ls_sort (s:={ s with heap:=h'.push (B9 "list" (as.map A7).toArray 0),toks:=tk}) hoL h2 (by rw[Ab];omega) λe1 h4 ha4 k4=>?_;have its4:=its2 h4 k4;obtain⟨fs,f1,f2,f3⟩:=KS.katTups its4;rw[Ab]at h2;refine kat_kind (s:={ s with heap:=h4,toks:=tk}) (T:=D8 "str") f1 (by omega) (λf hf=>?_) rfl ?_
  ·obtain⟨k,t,rfl⟩:=f3 f hf;exact .now
  ·rw[Ab];have hn:0 < as.length:=by omega
   have hwi:=KS.wi_sort hn;refine KS.wp_run (n:=as.length) (P:=KS.Pm as.length) (c:=KS.ltK ks) (St:=λs'=>s'={ s with heap:=h4,toks:=tk}) (λi j C s' hi hj hs hC=>?_) _ _ hwi rfl λs' hs'=>?_
   ·subst hs;refine KS.ask_items its4 nd (λx hx s''=>?_) hi hj (hC _ rfl);obtain⟨j,hj⟩:=By.mp hx;have hjl:j < xv.length:=by
     have:=(At.mp hj).1;rw[Ab]at this;omega
    obtain⟨u,hu,ru⟩:=hvals.get (Aj hjl);rw[hj]at hu;cases hu;have fx:ji0 xv[j]=true:=Fs.mp fl _ (C5 hjl);have:=j1u (A:=X.A.in1.in1) (s:=s'') ru ru fx fx;have e1:eqV xv[j] xv[j]=true:=by
     cases ex:xv[j]<;>simp[eqV]<;>(rw[ex]at fx;cases fx)
    rw[e1]at this;exact this
   ·subst hs';refine⟨ha4,λh3 c sb hL3=>⟨rfl,?_⟩⟩;have hpm:KS.Pm as.length (KS.run (KS.ltK ks) (kas_sort as.length)):=KS.Wi.out _ hwi;have hsp:=KS.sort_ok (KS.ordK ks) (n:=as.length) hn;have hsz:=hpm.size;have hidx:(KS.run (KS.ltK ks) (kas_sort as.length)).toList.Perm (Bq as.length):=by
     have:=Array.perm_iff_toList_perm.mp hpm;simpa using this
    have k3:∀b o,b≠h'.objs.size->(h'.push (B9 "list" (as.map A7).toArray 0)).get? b=some o->h3.get? b=some o:=λb o hb e=>(sb.2 b hb).trans (k4 b o hb e);exact jp0 (s:=s) (tk:=tk) (xv:=xv) I (keep4 h3 k3) (its2 h3 k3) hvals hup ndA hs' hsH hDa (by omega) hidx hL3 λH' a1 a2 a3 a4 a5=>q _ as _ H' hlen (by rw[<-hlen];exact hidx) (j5w hsz hsp) a1 a2 a3 a4 a5
 ·refine KS.ls_short (s:={ s with heap:=h'.push (B9 "list" (as.map A7).toArray 0),toks:=tk}) hoL (by omega) λh4 c ha4 k4=>⟨rfl,?_⟩;rw[Ab]at h2;have el:as.map A7=(Bq as.length).map λi=>(as.map A7).getD i Be:=by
   apply Fr9 (by simp);intro i h1 h2;simp at h1;simp[h1]
  rw[el]at ha4;refine jp0 (s:=s) (tk:=tk) (xv:=xv) (idx:=Bq as.length) I (keep4 h4 k4) (its2 h4 k4) hvals hup ndA hs' hsH hDa (by omega) (List.Perm.refl _) ha4 λH' a1 a2 a3 a4 a5=>q _ as _ H' hlen (by rw[<-hlen]) ?_ a1 a2 a3 a4 a5;have:(Bq as.length).length<=1:=by simp;omega
  match hr:Bq as.length,this with
  |[],_=>exact .nil
  |[i],_=>exact Gq _ _
def TxOk (vs:List Af) (ks:List Str):Prop:=vs.length=ks.length/\∀(j:Nat) v,vs[j]?=some v->∃k t,ks[j]?=some k/\v=.str k t
theorem jpn {vs:List Af} {ks:List Str} (h:TxOk vs ks):∀(idx:List Nat),(∀i∈idx,i < ks.length)->Vals ((idx.map λi=>ks.getD i ⟨#[]⟩).map V.str) (idx.map λi=>vs.getD i Be)
 |[],_=>.nil
 |i::r,hi=>by
  have h1:=hi i A0;have h2:i < vs.length:=by rw[h.1];exact h1
  obtain⟨k,t,e1,e2⟩:=h.2 i vs[i] (Aj h2);refine .cons ⟨t,?_⟩ (jpn h r λj hj=>hi j (Au _ hj));simp[h2,e1,e2]
theorem jv3 {ks:List Str} {idx:List Nat} (h:idx.Perm (Bq ks.length)):(idx.map λi=>ks.getD i ⟨#[]⟩).Perm ks:=by
 have h1:=h.map λi=>ks.getD i (⟨#[]⟩:Str);have h2:(Bq ks.length).map (λi=>ks.getD i (⟨#[]⟩:Str))=ks:=by
  apply Fr9 (by simp);intro i h1 h2;simp[h2]
 rw[h2]at h1;exact h1
end L2
namespace L2
open PySem PySem.Spec PyProof.Rows
section
variable {prog:Bg} {w:Br} {A:B4} {E:Af->Ak->Prop} {s:Ak}
theorem jco {it t:Addr} {i:Nat} {items:Array Af} {x:Af} {Q:Af->Ak->Prop} (hit:s.heap.IsTupleIter it t i) (ht:s.heap.IsTuple t items) (hx:items[i]?=some x)
  (hQ:∀h',h'.IsTupleIter it t (i+1)->Cs it s.heap h'->Q x {s with heap:=h'}):A4 (Ba prog w) A (Ca (.ref it)) Q E s:=by
 obtain⟨o,ho,hc,hd⟩:=id hit;obtain⟨ol,hol,_,nl,hdl⟩:=ht;unfold Ca;refine Aa (Bv (name:=C0 "__next__") hit.typeIs Ev
  (B6 Ev hit.typeIs F.entry_tuple_iterator_next ?_ (F.args_tuple_iterator_next_1 _)))
 show A4 _ _ (field (.ref it) 0>>=_) _ _ s;refine Aa (Cw ho hd (x:=.ref t) rfl ?_);show A4 _ _ (if (A7 t==Be)=true then _ else _) _ _ s;rw[if_neg (show ¬((A7 t==Be)=true)from Ag)];show A4 _ _ (field (.ref it) 1>>=_) _ _ s;refine Aa (Cw ho hd (x:=.int i 0) rfl ?_);show A4 _ _ (seqItems? (.ref t)>>=_) _ _ s;refine Aa (Dd hol hdl ?_);simp only[Bp,hx];refine Aa (C2 ho hd (by simp) (Al ⟨x,rfl,Al (hQ _ ?_ (Bh ..))⟩));exact⟨_,Bs _ ho (C3 (B1 hd _)),(Ek ..).trans hc,by
  rw[B1 hd];simp[Cf]⟩
theorem jep {it t:Addr} {i:Nat} {items:Array Af} {Q:Af->Ak->Prop} (hh:A.handled=none) (hit:s.heap.IsTupleIter it t i) (ht:s.heap.IsTuple t items) (hx:items[i]?=none)
  (hE:∀h' e,Heap.ExtBut it s.heap h'->(∃o,h'.get? e=some o/\o.cls=.type "StopIteration")->E (.ref e) {s with heap:=h'}) :
  A4 (Ba prog w) A (Ca (.ref it)) Q E s:=by
 obtain⟨o,ho,hc,hd⟩:=id hit;obtain⟨ol,hol,_,nl,hdl⟩:=ht;unfold Ca;refine Aa (Bv (name:=C0 "__next__") hit.typeIs Ev
  (B6 Ev hit.typeIs F.entry_tuple_iterator_next ?_ (F.args_tuple_iterator_next_1 _)))
 show A4 _ _ (field (.ref it) 0>>=_) _ _ s;refine Aa (Cw ho hd (x:=.ref t) rfl ?_);show A4 _ _ (if (A7 t==Be)=true then _ else _) _ _ s;rw[if_neg (show ¬((A7 t==Be)=true)from Ag)];show A4 _ _ (field (.ref it) 1>>=_) _ _ s;refine Aa (Cw ho hd (x:=.int i 0) rfl ?_);show A4 _ _ (seqItems? (.ref t)>>=_) _ _ s;refine Aa (Dd hol hdl ?_);simp only[Bp,hx];refine Aa (Gc (Aa (C2 ho hd (by simp) ?_)));show A4 _ _ (newExc (.type "StopIteration") []>>=_) _ _ _;refine Aa ?_;simp only[newExc,newTuple];refine Aa (Bt ?_ (by size_fits));refine Aa (m:=Eb _ _) (wpAny_of_eq (a:=Be) (by first | rfl | (simp only[Eb];rfl)) ?_);refine Bt ?_ (by size_fits);simp only[raiseNew];refine Aa (wpAny_handled ?_)
 first | rw[show A.in1.handled=none from hh] | rw[hh]
 refine Aa (Al (wpAny_throw ?_));exact hE _ _ (((Bh ..).extBut.push _).push _) ⟨_,A2 _ rfl,rfl⟩
theorem jui {z TI TO i1 i2 l1 l2:Addr} {k:Nat} {xs ys:Array Af} {x y a b:Af} {Q:Af->Ak->Prop} (D:ZipApart z TI TO i1 i2 l1 l2)
  (hz:IsZip s.heap z TI TO .none) (hTI:E1 s.heap TI (.ref i1) (.ref i2)) (hTO:E1 s.heap TO a b)
  (h1:s.heap.IsTupleIter i1 l1 k) (h2:s.heap.IsTupleIter i2 l2 k) (hl1:s.heap.IsTuple l1 xs) (hl2:s.heap.IsTuple l2 ys) (hx:xs[k]?=some x) (hy:ys[k]?=some y)
  (hQ:∀h',IsZip h' z TI TO (Cf s.heap.objs.size)->E1 h' TO x y->h'.IsTupleIter i1 l1 (k+1)->h'.IsTupleIter i2 l2 (k+1)->E1 h' s.heap.objs.size x y->h'.objs.size=s.heap.objs.size+1 ->
   (∀c o,c≠z->c≠TO->c≠i1->c≠i2->s.heap.get? c=some o->h'.get? c=some o)->Q (.ref s.heap.objs.size) {s with heap:=h'}) :
  A4 (Ba prog w) A (D4.«zip.__next__» ⟨[.ref z],[]⟩) (λfin s'=>∃v,fin=.done (.ret v)/\Q v s') E s:=by
 show A4 _ _ (field (.ref z) 2>>=_) _ _ _;refine Aa (Cw hz rfl (x:=.bool false) rfl ?_);show A4 _ _ (field (.ref z) 3>>=_) _ _ _;refine Aa (Cw hz rfl (x:=.ref TI) rfl ?_);refine Aa (Dd hTI rfl ?_);show A4 _ _ (C4 (.ref z)>>=_) _ _ _;refine Aa ?_;unfold C4;refine Aa (Cw hz rfl (x:=.none) rfl (Al ?_));simp only[if_true];refine Aa (Gc ?_);refine Aa (Cw hz rfl (x:=.ref TO) rfl ?_);refine Aa (Fj hz (by simp) λg1 hz1 s1=>?_)
 replace hz1:IsZip g1 z TI TO .ellipsis:=hz1
 refine Aa ?_;simp only[List.zipIdx_cons,List.zipIdx_nil,List.forIn_cons,List.forIn_nil];refine Aa (Aa (wpAny_onRaise ?_));show A4 _ _ (Ca (.ref i1)>>=_) _ _ _;refine Aa (jco (h1.extBut s1.extBut D.i1z) (hl1.extBut s1.extBut D.l1z) hx λg2 t2 s2=>Al ?_);have p2:E1 g2 TO a b:=s2.extBut _ _ D.TOi1 (s1.extBut _ _ D.TOz hTO);refine Aa (Dd p2 rfl ?_);refine Aa (wpAny_updateSeq_pair p2 λg3 p3 s3=>?_)
 replace p3:E1 g3 TO x b:=p3
 refine Aa (wpAny_letGo (Al ?_));refine Aa (Aa (wpAny_onRaise ?_));show A4 _ _ (Ca (.ref i2)>>=_) _ _ _;refine Aa (jco (((h2.extBut s1.extBut D.i2z).extBut s2.extBut D.i12.symm).extBut s3.extBut D.TOi2.symm)
  (((hl2.extBut s1.extBut D.l2z).extBut s2.extBut D.l2i1).extBut s3.extBut D.l2TO) hy λg4 t4 s4=>Al ?_)
 have p4:E1 g4 TO x b:=s4.extBut _ _ D.TOi2 p3;refine Aa (Dd p4 rfl ?_);refine Aa (wpAny_updateSeq_pair p4 λg5 p5 s5=>?_)
 replace p5:E1 g5 TO x y:=p5
 refine Aa (wpAny_letGo (Al (Al ?_)));refine Aa (Dd p5 rfl ?_);refine Aa (wpAny_newTuple ?_);have sz:g5.objs.size=s.heap.objs.size:=by rw[s5.1,s4.1,s3.1,s2.1,s1.1]
 have z5:IsZip g5 z TI TO .ellipsis:=s5.extBut _ _ D.TOz.symm (s4.extBut _ _ D.i2z.symm (s3.extBut _ _ D.TOz.symm (s2.extBut _ _ D.i1z.symm hz1)));have k5:∀c o,c≠z->c≠TO->c≠i1->c≠i2->s.heap.get? c=some o->g5.get? c=some o:=λc o c1 c2 c3 c4 e =>
  s5.extBut _ _ c2 (s4.extBut _ _ c4 (s3.extBut _ _ c2 (s2.extBut _ _ c3 (s1.extBut _ _ c1 e))))
 have u1:g5.IsTupleIter i1 l1 (k+1):=((t2.extBut s3.extBut D.TOi1.symm).extBut s4.extBut D.i12).extBut s5.extBut D.TOi1.symm;have u2:g5.IsTupleIter i2 l2 (k+1):=t4.extBut s5.extBut D.TOi2.symm;have zlt:z < g5.objs.size:=Av z5;show A4 _ _ (Gk (.ref z) (.ref g5.objs.size)>>=_) _ _ _;refine Aa ?_;unfold Gk;have z6:IsZip (g5.push {cls:=.type "tuple",data:=.seq #[x,y]}) z TI TO .ellipsis:=Ae _ z5;refine Aa (Fj z6 (by simp) λg7 z7 s7=>?_)
 replace z7:IsZip g7 z TI TO (Cf g5.objs.size):=z7
 refine Fj z7 (by simp) λg8 z8 s8=>?_
 replace z8:IsZip g8 z TI TO (Cf g5.objs.size):=z8
 have up:∀c o,c≠z->g5.get? c=some o->g8.get? c=some o:=λc o c1 e=>s8.extBut _ _ c1 (s7.extBut _ _ c1 (Ae _ e));have T8:E1 g8 g5.objs.size x y:=s8.extBut _ _ (Du zlt) (s7.extBut _ _ (Du zlt) (A2 _ rfl));have e8:g8.objs.size=g5.objs.size+1:=by rw[s8.1,s7.1,B7]
 rw[sz]at z8 T8 e8;refine Al ⟨_,rfl,?_⟩;show Q (.ref g5.objs.size) _;rw[sz];exact hQ g8 z8 (up _ _ D.TOz p5) (u1.at λo e=>up _ o D.i1z e) (u2.at λo e=>up _ o D.i2z e) T8 e8 λc o c1 c2 c3 c4 e=>up c o c1 (k5 c o c1 c2 c3 c4 e)
theorem jx4 {z TI TO i1 i2 l1 l2:Addr} {k:Nat} {xs:Array Af} {Q:Fin->Ak->Prop} (hh:A.handled=none) (D:ZipApart z TI TO i1 i2 l1 l2)
  (hz:IsZip s.heap z TI TO .none) (hTI:E1 s.heap TI (.ref i1) (.ref i2)) (h1:s.heap.IsTupleIter i1 l1 k) (hl1:s.heap.IsTuple l1 xs) (hx:xs[k]?=none)
  (hE:∀h' e,(∀c o,c≠z->c≠i1->s.heap.get? c=some o->h'.get? c=some o)->(∃o,h'.get? e=some o/\o.cls=.type "StopIteration")->E (.ref e) {s with heap:=h'}) :
  A4 (Ba prog w) A (D4.«zip.__next__» ⟨[.ref z],[]⟩) Q E s:=by
 show A4 _ _ (field (.ref z) 2>>=_) _ _ _;refine Aa (Cw hz rfl (x:=.bool false) rfl ?_);show A4 _ _ (field (.ref z) 3>>=_) _ _ _;refine Aa (Cw hz rfl (x:=.ref TI) rfl ?_);refine Aa (Dd hTI rfl ?_);show A4 _ _ (C4 (.ref z)>>=_) _ _ _;refine Aa ?_;unfold C4;refine Aa (Cw hz rfl (x:=.none) rfl (Al ?_));simp only[if_true];refine Aa (Gc ?_);refine Aa (Cw hz rfl (x:=.ref TO) rfl ?_);refine Aa (Fj hz (by simp) λg1 hz1 s1=>?_)
 replace hz1:IsZip g1 z TI TO .ellipsis:=hz1
 refine Aa ?_;simp only[List.zipIdx_cons,List.zipIdx_nil,List.forIn_cons,List.forIn_nil];refine Aa (Aa (wpAny_onRaise ?_));show A4 _ _ (Ca (.ref i1)>>=_) _ _ _;refine Aa (jep hh (h1.extBut s1.extBut D.i1z) (hl1.extBut s1.extBut D.l1z) hx λg2 e s2 he=>?_);obtain⟨oe,hoe,hce⟩:=he;have z2:IsZip g2 z TI TO .ellipsis:=s2 _ _ D.i1z.symm hz1;have hez:e≠z:=λx=>by subst x;rw[z2]at hoe;cases hoe;simp at hce
 refine Fj z2 (by simp) λg3 _ s3=>hE g3 e (λc o c1 c3 x=>s3.extBut _ _ c1 (s2 _ _ c3 (s1.extBut _ _ c1 x))) ⟨oe,s3.extBut _ _ hez hoe,hce⟩
theorem jlj {z TI TO i1 i2 l1 l2:Addr} {k:Nat} {xs ys:Array Af} {x y a b:Af} {Q:Option Af->Ak->Prop} (D:ZipApart z TI TO i1 i2 l1 l2)
  (hz:IsZip s.heap z TI TO .none) (hTI:E1 s.heap TI (.ref i1) (.ref i2)) (hTO:E1 s.heap TO a b)
  (h1:s.heap.IsTupleIter i1 l1 k) (h2:s.heap.IsTupleIter i2 l2 k) (hl1:s.heap.IsTuple l1 xs) (hl2:s.heap.IsTuple l2 ys) (hx:xs[k]?=some x) (hy:ys[k]?=some y)
  (hQ:∀h',IsZip h' z TI TO (Cf s.heap.objs.size)->E1 h' TO x y->h'.IsTupleIter i1 l1 (k+1)->h'.IsTupleIter i2 l2 (k+1)->E1 h' s.heap.objs.size x y->h'.objs.size=s.heap.objs.size+1 ->
   (∀c o,c≠z->c≠TO->c≠i1->c≠i2->s.heap.get? c=some o->h'.get? c=some o)->Q (some (.ref s.heap.objs.size)) {s with heap:=h'}) :
  A4 (Ba prog w) A (D6 (.ref z)) Q E s:=by
 have hT:s.TypeIs (.ref z) "zip":=⟨_,hz,rfl⟩;unfold D6;exact Aa (El (Bv (name:=C0 "__next__") hT F.slot_zip_next
  (B6 F.slot_zip_next hT F.entry_zip_next
   (jui D hz hTI hTO h1 h2 hl1 hl2 hx hy λh' a1 a2 a3 a4 a5 a6 a7=>Al (hQ h' a1 a2 a3 a4 a5 a6 a7)) (F.args_zip_next_1 _))))
theorem jnx {z TI TO i1 i2 l1 l2:Addr} {k:Nat} {xs:Array Af} {Q:Option Af->Ak->Prop} (hh:A.handled=none) (D:ZipApart z TI TO i1 i2 l1 l2)
  (hz:IsZip s.heap z TI TO .none) (hTI:E1 s.heap TI (.ref i1) (.ref i2)) (h1:s.heap.IsTupleIter i1 l1 k) (hl1:s.heap.IsTuple l1 xs) (hx:xs[k]?=none)
  (hQ:∀h',(∀c o,c≠z->c≠i1->s.heap.get? c=some o->h'.get? c=some o)->Q none {s with heap:=h'}):A4 (Ba prog w) A (D6 (.ref z)) Q E s:=by
 have hT:s.TypeIs (.ref z) "zip":=⟨_,hz,rfl⟩;unfold D6;refine Aa (El (Bv (name:=C0 "__next__") hT F.slot_zip_next
  (B6 F.slot_zip_next hT F.entry_zip_next (jx4 hh D hz hTI h1 hl1 hx λh' e hk he=>?_) (F.args_zip_next_1 _))))
 obtain⟨o,ho,hc⟩:=he;refine Aa (Gd (T:="StopIteration") (b:=true) ⟨o,ho,hc⟩ isSubtype_stop ?_);exact Al (hQ _ hk)
end
abbrev zt1 (h:Heap) (l1:Addr):Heap:=h.push {cls:=.type "tuple_iterator",data:=.fields #[.ref l1,.int 0 0]}
abbrev zt2 (h:Heap) (l1 l2:Addr):Heap:=(zt1 h l1).push {cls:=.type "tuple_iterator",data:=.fields #[.ref l2,.int 0 0]}
abbrev zt3 (h:Heap) (l1 l2:Addr):Heap:=(zt2 h l1 l2).push {cls:=.type "tuple",data:=.seq #[.ref h.objs.size,.ref (zt1 h l1).objs.size]}
abbrev zt4 (h:Heap) (l1 l2:Addr):Heap:=(zt3 h l1 l2).push {cls:=.type "tuple",data:=.seq #[.none,.none]}
abbrev zt5 (h:Heap) (l1 l2:Addr):Heap:=(zt4 h l1 l2).push {cls:=.type "zip",data:=.fields #[.none,.bool false,.bool false,.ref (zt2 h l1 l2).objs.size,.ref (zt3 h l1 l2).objs.size]}
theorem jlk (l1 l2:Addr) (xs ys:Array Af) :
  Meets (D4.«zip.__new__» ⟨[.type "zip",.ref l1,.ref l2],[]⟩) (λ_ R s=>s.heap.IsTuple l1 xs/\s.heap.IsTuple l2 ys /\
   R (.ok (.ret (.ref (zt4 s.heap l1 l2).objs.size))) {s with heap:=zt5 s.heap l1 l2}) :=
 .of_wp λprog w A R s h=>by
  obtain⟨hp,g,d,tk,os⟩:=s;obtain⟨hl1,hl2,h⟩:=h;have hsub:=sub_zip;have hL1:Heap.IsTuple (Shared.heap ⟨hp,g,d,tk,os⟩) l1 xs:=hl1;have hL2:Heap.IsTuple (Shared.heap ⟨hp.push {cls:=.type "tuple_iterator",data:=.fields #[.ref l1,.int 0 0]},g,d,tk,os⟩) l2 ys:=Heap.IsTuple.push hl2 _
  wp_walk using C9 hL1,C9 hL2
  exact⟨_,rfl,h⟩
section
variable {prog:Bg} {w:Br} {A:B4} {E:Af->Ak->Prop} {s:Ak}
theorem jxn {l1 l2:Addr} {xs ys:Array Af} {Q:Af->Ak->Prop} (hl1:s.heap.IsTuple l1 xs) (hl2:s.heap.IsTuple l2 ys)
  (h:∀h',IsZip h' (s.heap.objs.size+4) (s.heap.objs.size+2) (s.heap.objs.size+3) .none->E1 h' (s.heap.objs.size+2) (.ref s.heap.objs.size) (.ref (s.heap.objs.size+1)) ->
   E1 h' (s.heap.objs.size+3) .none .none->h'.IsTupleIter s.heap.objs.size l1 0->h'.IsTupleIter (s.heap.objs.size+1) l2 0 ->
   (∀c o,s.heap.get? c=some o->h'.get? c=some o)->Q (.ref (s.heap.objs.size+4)) {s with heap:=h'}) :
  A4 (Ba prog w) A (call (.type "zip") [.ref l1,.ref l2]) Q E s:=by
 refine callType_new F.called_zip (by decide) (F.typeCall_zip_2 _ _) (F.newCall_zip_2 _ _) (λobj=>F.args_object_init_3 obj _ _) F.entry_zip_new
  (jlk l1 l2 xs ys) ⟨hl1,hl2,?_⟩
 have z1:(zt1 s.heap l1).objs.size=s.heap.objs.size+1:=B7 ..;have z2:(zt2 s.heap l1 l2).objs.size=s.heap.objs.size+2:=by rw[B7,z1]
 have z3:(zt3 s.heap l1 l2).objs.size=s.heap.objs.size+3:=by rw[B7,z2]
 have z4:(zt4 s.heap l1 l2).objs.size=s.heap.objs.size+4:=by rw[B7,z3]
 have g5:(zt5 s.heap l1 l2).get? (zt4 s.heap l1 l2).objs.size=some _:=A2 _ rfl;have g4:(zt5 s.heap l1 l2).get? (zt3 s.heap l1 l2).objs.size=some _:=Ae _ (A2 _ rfl);have g3:(zt5 s.heap l1 l2).get? (zt2 s.heap l1 l2).objs.size=some _:=Ae _ (Ae _ (A2 _ rfl));have g2:(zt5 s.heap l1 l2).get? (zt1 s.heap l1).objs.size=some _:=Ae _ (Ae _ (Ae _ (A2 _ rfl)));have g1:(zt5 s.heap l1 l2).get? s.heap.objs.size=some _:=Ae _ (Ae _ (Ae _ (Ae _ (A2 _ rfl))));show _/\_;rw[z2,z3,z4]at g5;rw[z1,z2]at g3;rw[z3]at g4;rw[z1]at g2;rw[z4];exact⟨⟨_,g5,rfl⟩,h _ g5 g3 g4 ⟨_,g1,rfl,rfl⟩ ⟨_,g2,rfl,rfl⟩ λc o x =>
  Ae _ (Ae _ (Ae _ (Ae _ (Ae _ x))))⟩
end
def Itz (K:Ai) (a b:Addr):It :=
 ⟨λi H=>∃xs ys x y,SqT K H a xs/\SqT K H b ys/\xs[i]?=some x/\ys[i]?=some y,
  λi H v H'=>∃T x y,v=.ref T/\H T=none/\H'=upd H T (.tup [x,y])/\(∀xs,SqT K H a xs->xs[i]?=some x)/\∀ys,SqT K H b ys->ys[i]?=some y,
  λi H=>∃xs,SqT K H a xs/\xs.length<=i⟩
theorem Inv.many {X:Cx} {pins:List (Addr×Obj)} {σ:St} {H:Hp} {s:Ak} {h':Heap} {t':Nat} {fp:List Addr} {a:Addr} {o:HO} (I:Inv X pins σ H s) (hf:∀b∈fp,FpOk X pins H b) (k:∀b u,b∉fp->s.heap.get? b=some u->h'.get? b=some u)
  (ha:s.heap.objs.size<=a) (new:ObjOk X.prog X.w (upd H a o) h' a o):Inv X pins σ (upd H a o) {s with heap:=h',toks:=t'}:=by
 have hn:H a=none:=I.hok.fresh ha;have nf:∀b u,H b=some u->b∉fp:=λb u e z=>by rw[(hf b z).1]at e;cases e
 refine I.call' (s':={ s with heap:=h',toks:=t'}) (ch:=fp) rfl ⟨λb u q _ _ z=>k b u z q,λb u q _ _ z=>⟨u.slots,k b u z q⟩,λb u q n _=>?_,λb u q z=>⟨u,k b u z q⟩,λb xs q=>?_,λb u xs q=>?_,λb ps q=>⟨#[],?_⟩⟩ (λb u e=>?_) I.bare (λb hb=>?_)
 ·rw[jap (Bb (Bj (Av q) ha))];exact n
 ·rw[jap (jal q hn)];exact q
 ·rw[jap (jal q hn)];exact q
 ·rw[jap (jal q hn),q];simp
 ·by_cases z:b=a
  ·subst z;rw[jao]at e;cases e;exact new
  ·rw[jap z]at e;refine(I.hok b u e).stay (λc v hc q=>k c v ?_ q) (λc q=>?_) λc ys q=>?_
   ·rcases hc with z | z
    ·rw[z];exact nf b u e
    ·exact nf c _ z
   ·rw[jap (jal q hn)];exact q
   ·rw[jap (jal q hn)];exact q
 ·obtain⟨f0,f1,f2,f3,f4,f5⟩:=hf b hb;exact⟨f3,f1,f4,f5⟩
theorem Inv.many0 {X:Cx} {pins:List (Addr×Obj)} {σ:St} {H:Hp} {s:Ak} {h':Heap} {t':Nat} {fp:List Addr} (I:Inv X pins σ H s) (hf:∀b∈fp,FpOk X pins H b) (k:∀b u,b∉fp->s.heap.get? b=some u->h'.get? b=some u):Inv X pins σ H {s with heap:=h',toks:=t'}:=by
 have nf:∀b u,H b=some u->b∉fp:=λb u e z=>by rw[(hf b z).1]at e;cases e
 refine I.call' (s':={ s with heap:=h',toks:=t'}) (ch:=fp) rfl ⟨λb u q _ _ z=>k b u z q,λb u q _ _ z=>⟨u.slots,k b u z q⟩,λb u q n _=>n,λb u q z=>⟨u,k b u z q⟩,λb xs q=>q,λb u xs q=>q,λb ps q=>⟨#[],by rw[q];simp⟩⟩ (λb u e=>?_) I.bare (λb hb=>?_)
 ·refine(I.hok b u e).stay (λc v hc q=>k c v ?_ q) (λc q=>q) λc ys q=>q;rcases hc with z | z
  ·rw[z];exact nf b u e
  ·exact nf c _ z
 ·obtain⟨f0,f1,f2,f3,f4,f5⟩:=hf b hb;exact⟨f3,f1,f4,f5⟩
theorem jya {P:Bg} {w:Br} {K:Ai} {elts:List Expr} {kk:Nat} {pos:Pos} {a b z TI TO i1 i2:Addr} (D:ZipApart z TI TO i1 i2 a b):Turn P w K (.Tuple elts kk pos) (Itz K a b) [z,TI,TO,i1,i2] z
  (λi h=>IsZip h z TI TO .none/\E1 h TI (.ref i1) (.ref i2)/\(∃x y,E1 h TO x y)/\h.IsTupleIter i1 a i/\h.IsTupleIter i2 b i) where
 mem:=by simp
 obj:=λi h st c hc=>by
  obtain⟨hz,hI,⟨x,y,hO⟩,⟨o1,e1,c1,d1⟩,⟨o2,e2,c2,d2⟩⟩:=st;simp only[As,Aw,or_false]at hc;rcases hc with rfl | rfl | rfl | rfl | rfl
  ·exact⟨_,hz,λv q=>by have q':Data.fields _=Data.cell v:=q;cases q'⟩
  ·exact⟨_,hI,λv q=>by have q':Data.seq _ _=Data.cell v:=q;cases q'⟩
  ·exact⟨_,hO,λv q=>by have q':Data.seq _ _=Data.cell v:=q;cases q'⟩
  ·exact⟨o1,e1,λv q=>by rw[d1]at q;cases q⟩
  ·exact⟨o2,e2,λv q=>by rw[d2]at q;cases q⟩
 keep:=λi h h' st k=>by
  obtain⟨hz,hI,⟨x,y,hO⟩,h1,h2⟩:=st;exact⟨k z (by simp) _ hz,k TI (by simp) _ hI,⟨x,y,k TO (by simp) _ hO⟩,h1.at λo e=>k i1 (by simp) o e,h2.at λo e=>k i2 (by simp) o e⟩
 item:=by
  intro X hP hw hK hc i pins s σ H E I hf st hg;subst hP hw hK;obtain⟨hz,hI,⟨x0,y0,hO⟩,h1,h2⟩:=st;obtain⟨xs,ys,x,y,qa,qb,ex,ey⟩:=hg;obtain⟨its,rv,p,_⟩:=I.tuple qa;obtain⟨jts,rw',p',_⟩:=I.tuple qb;obtain⟨u,hu,ru⟩:=rv.get ex;obtain⟨u',hu',ru'⟩:=rw'.get ey;refine jlj D hz hI hO h1 h2 (show s.heap.IsTuple a its.toArray from p) (show s.heap.IsTuple b jts.toArray from p') (x:=u) (y:=u') (by simpa using hu) (by simpa using hu') λh' a1 a2 a3 a4 a5 a6 a7=>⟨_,rfl,?_⟩;refine wpAny_letOwnedTupleGo_zip (s:={ s with heap:=h'}) a1 λh'' b1 b2=>?_;have T:h''.get? s.heap.objs.size=some {cls:=.type "tuple",data:=.seq #[u,u']}:=b2.extBut _ _ (Du (Av hz)) a5;have Tn:H s.heap.objs.size=none:=I.hok.fresh (An _);have kp:∀c o,c∉[z,TI,TO,i1,i2]->s.heap.get? c=some o->h''.get? c=some o:=λc o hc e=>by
   simp only[As,Aw,or_false,not_or]at hc;exact b2.extBut _ _ hc.1 (a7 c o hc.1 hc.2.2.1 hc.2.2.2.1 hc.2.2.2.2 e)
  refine⟨.ref s.heap.objs.size,upd H s.heap.objs.size (.tup [x,y]),I.many (t':=s.toks) hf kp (An _) ⟨by show 2<=A1;decide,[u,u'],.cons ru (.cons ru' .nil),_,T,rfl,⟨_,rfl⟩,rfl⟩,rfl,⟨_,x,y,rfl,Tn,rfl,λzs q=>by rw[I.tuple_inj q qa];exact ex,λzs q=>by rw[I.tuple_inj q qb];exact ey⟩,
   ⟨b1,b2.extBut _ _ D.TIz (a7 _ _ D.TIz D.TITO D.TIi1 D.TIi2 hI),⟨_,_,b2.extBut _ _ D.TOz a2⟩,a3.extBut b2.extBut D.i1z,a4.extBut b2.extBut D.i2z⟩,λc hc=>?_⟩
  have hlt:c < s.heap.objs.size:=by
   simp only[As,Aw,or_false]at hc;rcases hc with rfl | rfl | rfl | rfl | rfl
   ·exact Av hz
   ·exact Av hI
   ·exact Av hO
   ·obtain⟨_,e,_⟩:=h1;exact Av e
   ·obtain⟨_,e,_⟩:=h2;exact Av e
  rw[jap (Bb hlt)];exact(hf c hc).1
 done:=by
  intro X hP hw hK hc i pins s σ H E I hf st hg;subst hP hw hK;obtain⟨hz,hI,_,h1,h2⟩:=st;obtain⟨xs,hq,hx⟩:=hg;obtain⟨its,rv,p,_⟩:=I.tuple hq;have hl:=rv.length;refine jnx (I.ok.hd hc) D hz hI h1 (show s.heap.IsTuple a its.toArray from p) (by simp;omega) λh' k=>⟨rfl,I.many0 (t':=s.toks) hf λc o hc e=>?_⟩;simp only[As,Aw,or_false,not_or]at hc;exact k c o hc.1 hc.2.2.2.1 e
 self:=λ_ _ _ _ _ st h=>wpAny_pyIter_zip st.1 h
def iZip (K:Ai) (ta:TA):TI:=λσ H R=>ta σ H λvs H1=>∃a b,vs=[.ref a,.ref b]/\(∃xs,SqT K H1 a xs)/\(∃ys,SqT K H1 b ys)/\R (Itz K a b) H1
theorem j7w:B3 "zip"=some (.type "zip"):=by decide +kernel
theorem j51 {X:Cx} {elts:List Expr} {kk:Nat} {tpos:Pos} {e1 e2:Expr} {ta:TA} {p pos:Pos} (hg:Gl X "zip") (hm:X.mg "zip"=none) (ha:PA X [e1,e2] ta) (hs:Az [e1,e2] X.env=[(false,eval e1 X.env),(false,eval e2 X.env)]:=by rfl) (hs2:Az [e2] X.env=[(false,eval e2 X.env)]:=by rfl) :
  PI X (.Tuple elts kk tpos) (.Call (.Name "zip" p) [e1,e2] [] pos) (iZip X.K ta):=by
 intro pins s σ H R I h;refine Call_ (jm3 I hg hm j7w (D7 (thn (ha pos pins s σ H _ I h) λus s1 ⟨vs,H1,I1,r1,q1⟩=>?_) (by rw[hs,hs2]) (by rw[hs2];rfl)));obtain⟨a,b,e,⟨xs,qa⟩,⟨ys,qb⟩,q⟩:=q1;subst e;cases r1 with
 |cons r rr =>
  cases rr with
  |cons r' rr =>
   cases rr;cases r;cases r';obtain⟨its,rv,pp,_⟩:=I1.tuple qa;obtain⟨jts,rw',pp',_⟩:=I1.tuple qb;have la:a < s1.heap.objs.size:=by obtain⟨_,e,_⟩:=id pp;exact Av e
   have lb:b < s1.heap.objs.size:=by obtain⟨_,e,_⟩:=id pp';exact Av e
   refine jxn (show s1.heap.IsTuple a its.toArray from pp) (show s1.heap.IsTuple b jts.toArray from pp') λh' a1 a2 a3 a4 a5 a6=>wpAny_pyIter_zip (s:={ s1 with heap:=h'}) a1 ?_;refine⟨_,_,_,_,H1,rfl,I1.kept (t':=s1.toks) a6,jya (zipApart_new la lb),⟨a1,a2,⟨_,_,a3⟩,a4,a5⟩,λc hc=>?_,q⟩;have hlt:s1.heap.objs.size<=c:=by
    simp only[As,Aw,or_false]at hc;rcases hc with rfl | rfl | rfl | rfl | rfl<;>omega
   exact I1.fpOk hlt (I1.hok.fresh hlt)
theorem jqf {P:Bg} {w:Br} {A:B4} (hh:A.handled=none) (it t:Addr) (hne:t≠it) (xs:Array Af):Draws P w A it [it,t] xs.size (λi v=>xs[i]?=some v) (λi h=>h.IsTupleIter it t i/\h.IsTuple t xs) where
 live:=λ_ _ z=>by obtain⟨⟨o,q,_⟩,_⟩:=z;exact⟨o,q⟩
 frame:=λ_ _ _ z k=>⟨z.1.at λo e=>k it (.head _) o e,z.2.at λo e=>k t (.tail _ (.head _)) o e⟩
 item:=λi s Q E hi z k=>jco z.1 z.2 (x:=xs[i]) (Dp hi) λh' a b=>k _ h' s.toks (Dp hi) ⟨a,z.2.extBut b.extBut hne⟩ b
 done:=λs Q E z k=>jep hh z.1 z.2 (by simp) k
abbrev et1 (h:Heap) (l:Addr):Heap:=h.push {cls:=.type "tuple_iterator",data:=.fields #[.ref l,.int 0 0]}
abbrev et2 (h:Heap) (l:Addr):Heap:=(et1 h l).push {cls:=.type "enumerate",data:=.fields #[.none,.bool false,.ref h.objs.size,Cf 0,.none,.none]}
theorem jj3 (l:Addr) (xs:Array Af) (n:Nat) (dc:Option Addr) (sl:Array (Option Af)) :
  Meets (D4.«enumerate.__new__» ⟨[.type "enumerate",.ref l],[]⟩) (λ_ R s=>s.heap.get? l=some {cls:=.type "tuple",dict:=dc,data:=.seq xs n,slots:=sl} /\
   R (.ok (.ret (.ref (et1 s.heap l).objs.size))) {s with heap:=et2 s.heap l}) :=
 .of_wp λP w A R s h=>by
  obtain⟨hp,g,d,tk,os⟩:=s;obtain⟨hl,h⟩:=h;have hsub:=sub_enumerate;have hT:Heap.IsTuple (Shared.heap ⟨hp,g,d,tk,os⟩) l xs:=⟨_,hl,rfl,n,rfl⟩
  wp_walk using Es hl
  refine wpAny_stack_any λst=>Al ?_
  split
  ·rename_i c _ _ _ _ _;cases(c==D8 "enumerate")
   ·wp_walk using Es hl,C9 hT
    exact⟨_,rfl,h⟩
   ·wp_walk using Es hl,C9 hT
    exact⟨_,rfl,h⟩
  ·wp_walk using Es hl,C9 hT
   exact⟨_,rfl,h⟩
section
variable {prog:Bg} {w:Br} {A:B4} {E:Af->Ak->Prop} {s:Ak}
theorem juc {l:Addr} {xs:Array Af} {Q:Af->Ak->Prop} (hl:s.heap.IsTuple l xs)
  (h:∀h',IsEnum h' (s.heap.objs.size+1) s.heap.objs.size 0 .none->h'.IsTupleIter s.heap.objs.size l 0->(∀c o,s.heap.get? c=some o->h'.get? c=some o)->Q (.ref (s.heap.objs.size+1)) {s with heap:=h'}) :
  A4 (Ba prog w) A (call (.type "enumerate") [.ref l]) Q E s:=by
 obtain⟨⟨c,dc,dt,sl⟩,hl,hc,n,hd⟩:=hl;obtain rfl:c=.type "tuple":=hc;obtain rfl:dt=.seq xs n:=hd;refine callType_new F.called_enumerate (by decide) (F.typeCall_enumerate_1 _) (F.newCall_enumerate_1 _) (λo=>F.args_object_init_2 o _) F.entry_enumerate_new (jj3 l xs n dc sl) ⟨hl,?_⟩;have z1:(et1 s.heap l).objs.size=s.heap.objs.size+1:=B7 ..;have g2:(et2 s.heap l).get? (et1 s.heap l).objs.size=some _:=A2 _ rfl;have g1:(et2 s.heap l).get? s.heap.objs.size=some _:=Ae _ (A2 _ rfl);show _/\_;rw[z1]at g2 ⊢;exact⟨⟨_,g2,rfl⟩,h _ g2 ⟨_,g1,rfl,rfl⟩ λc o x=>Ae _ (Ae _ x)⟩
end
def Ite (K:Ai) (a:Addr):It :=
 ⟨λi H=>∃xs x,SqT K H a xs/\xs[i]?=some x,
  λi H v H'=>∃T x,v=.ref T/\H T=none/\H'=upd H T (.tup [.int i,x])/\∀xs,SqT K H a xs->xs[i]?=some x,
  λi H=>∃xs,SqT K H a xs/\xs.length=i⟩
theorem juq {P:Bg} {w:Br} {K:Ai} {elts:List Expr} {kk:Nat} {pos:Pos} {a e it:Addr} (h1:e≠it) (h2:a≠it) (h3:e≠a):Turn P w K (.Tuple elts kk pos) (Ite K a) [e,it] e
  (λi h=>(∃old,IsEnum h e it i old)/\h.IsTupleIter it a i) where
 mem:=by simp
 obj:=λi h st c hc=>by
  obtain⟨⟨x,he⟩,⟨o1,e1,c1,d1⟩⟩:=st;simp only[As,Aw,or_false]at hc;rcases hc with rfl | rfl
  ·exact⟨_,he,λv q=>by have q':Data.fields _=Data.cell v:=q;cases q'⟩
  ·exact⟨o1,e1,λv q=>by rw[d1]at q;cases q⟩
 keep:=λi h h' st k=>⟨st.1.imp λ_ q=>k e (by simp) _ q,st.2.at λo q=>k it (by simp) o q⟩
 item:=by
  intro X hP hw hK hc i pins s σ H E I hf st hg;subst hP hw hK;obtain⟨⟨old,he⟩,hi⟩:=st;obtain⟨xs,x,qa,ex⟩:=hg;obtain⟨its,rv,p,_⟩:=I.tuple qa;obtain⟨u,hu,ru⟩:=rv.get ex;have hlt:i < its.toArray.size:=by simpa using(At.mp hu).1
  have hef:e∉[it,a]:=λz=>by
   simp only[As,Aw,or_false]at z;exact z.elim h1 h3
  refine wpAny_pyNext_enum_itemD (jqf (A:=X.A.in1) (I.ok.hd hc) it a h2 its.toArray) he ⟨hi,show s.heap.IsTuple a its.toArray from p⟩ hlt h1 hef λy h' tk a1 a2 a3 a4 a5 a6=>⟨_,rfl,?_⟩;obtain rfl:u=y:=by
   rw[List.getElem?_toArray,hu]at a1;cases a1;rfl
  refine wpAny_letOwnedTupleGo_enum (s:={ s with heap:=h',toks:=tk+1}) a2 λh'' b1 b2=>?_;have T:h''.get? s.heap.objs.size=some {cls:=.type "tuple",data:=.seq #[.int i tk,u]}:=b2.extBut _ _ (Du (Av he)) a4;have Tn:H s.heap.objs.size=none:=I.hok.fresh (An _);have kp:∀c o,c∉[e,it]->s.heap.get? c=some o->h''.get? c=some o:=λc o hc e=>by
   simp only[As,Aw,or_false,not_or]at hc;exact b2.extBut _ _ hc.1 (a6 c o hc.1 hc.2 e)
  refine⟨.ref s.heap.objs.size,upd H s.heap.objs.size (.tup [.int i,x]),I.many (t':=tk+1) hf kp (An _) ⟨by show 2<=A1;decide,[.int i tk,u],.cons ⟨tk,rfl⟩ (.cons ru .nil),_,T,rfl,⟨_,rfl⟩,rfl⟩,rfl,⟨_,x,rfl,Tn,rfl,λzs q=>by rw[I.tuple_inj q qa];exact ex⟩,
   ⟨⟨u,by rw[show((i+1:Nat):Int)=(i:Int)+1 from rfl];exact b1⟩,a3.1.extBut b2.extBut h1.symm⟩,λc hc=>?_⟩
  have hlt:c < s.heap.objs.size:=by
   simp only[As,Aw,or_false]at hc;rcases hc with rfl | rfl
   ·exact Av he
   ·obtain⟨_,e,_⟩:=hi;exact Av e
  rw[jap (Bb hlt)];exact(hf c hc).1
 done:=by
  intro X hP hw hK hc i pins s σ H E I hf st hg;subst hP hw hK;obtain⟨⟨old,he⟩,hi⟩:=st;obtain⟨xs,hq,hx⟩:=hg;obtain⟨its,rv,p,_⟩:=I.tuple hq;have hl:=rv.length;have hs:its.toArray.size=i:=by simp;omega
  refine wpAny_pyNext_enum_endD (jqf (A:=X.A.in1) (I.ok.hd hc) it a h2 its.toArray) he (by rw[hs];exact⟨hi,p⟩) λh' k=>⟨rfl,I.many0 (t':=s.toks) hf λc o hc e=>?_⟩;simp only[As,Aw,or_false,not_or]at hc;exact k c o hc.2 e
 self:=λ_ _ _ _ _ st h=>wpAny_pyIter_enum st.1.choose_spec h
end L2
namespace DL
open PySem L2 Nb
def valD (kvs:List (Key×Ad)) (k:Key):Option Ad:=(kvs.find? λkv=>decide (kv.1=k)).map (·.2)
def putD (kvs:List (Key×Ad)) (k:Key) (v:Ad):List (Key×Ad) :=
 if (kvs.any λkv=>decide (kv.1=k))=true then kvs.map (λkv=>if kv.1=k then(kv.1,v)else kv)else kvs++[(k,v)]
def jer (kvs more:List (Key×Ad)):List (Key×Ad):=more.foldl (λacc kv=>putD acc kv.1 kv.2) kvs
section
variable {H H':Hp} {B B':Addr->Prop} {l:List (Key×V)} {m:List (Key×Ad)} {v:V} {d:Ad} {t:Addr}
theorem RdK.len (h:RdK H B l m):l.length=m.length:=by
 unfold RdK at h
 induction h with
 |nil=>rfl
 |cons _ _ ih=>rw[Ar,Ar,ih]
theorem RdK.val (h:RdK H B l m) (k:Key):(valV l k=none/\valD m k=none)\/∃v d,valV l k=some v/\valD m k=some d/\RdX H B v d:=by
 unfold RdK at h
 induction h with
 |nil=>exact .inl ⟨rfl,rfl⟩
 |@cons p q ps qs r _ ih =>
  by_cases e:p.1=k
  ·have e':q.1=k:=r.1▸e;exact .inr ⟨p.2,q.2,by simp[valV,Bk,e],by simp[valD,Bk,e'],r.2⟩
  ·have e':¬q.1=k:=r.1▸e;have a1:valV (p::ps) k=valV ps k:=by simp[valV,Bk,e]
   have a2:valD (q::qs) k=valD qs k:=by simp[valD,Bk,e']
   rw[a1,a2];exact ih
theorem RdK.any (h:RdK H B l m) (k:Key):(l.any λkv=>decide (kv.1=k))=(m.any λkv=>decide (kv.1=k)):=by
 unfold RdK at h
 induction h with
 |nil=>rfl
 |cons r _ ih=>rw[Co,Co,ih,r.1]
theorem RdK.map (h:RdK H B l m) (r:RdX H B v d) (k:Key):RdK H B (l.map λkv=>if kv.1=k then(kv.1,v)else kv) (m.map λkv=>if kv.1=k then(kv.1,d)else kv):=by
 unfold RdK at h ⊢
 induction h with
 |nil=>exact .nil
 |@cons p q ps qs r' _ ih =>
  rw[Bi,Bi];refine .cons ?_ ih;by_cases e:p.1=k
  ·rw[if_pos e,if_pos (r'.1▸e:q.1=k)];exact⟨r'.1,r⟩
  ·rw[if_neg e,if_neg (r'.1▸e:¬q.1=k)];exact r'
theorem RdK.append {l2:List (Key×V)} {m2:List (Key×Ad)} (h:RdK H B l m) (h2:RdK H B l2 m2):RdK H B (l++l2) (m++m2):=by
 unfold RdK at h ⊢
 induction h with
 |nil=>exact h2
 |cons r' _ ih=>exact .cons r' ih
theorem RdK.put (h:RdK H B l m) (r:RdX H B v d) (k:Key):RdK H B (putK l k v) (putD m k d):=by
 unfold putK putD;rw[h.any k]
 split
 ·exact h.map r k
 ·exact h.append (.cons ⟨rfl,r⟩ .nil)
theorem RdK.merge {l2:List (Key×V)} {m2:List (Key×Ad)} (h2:RdK H B l2 m2):∀{l:List (Key×V)} {m:List (Key×Ad)},RdK H B l m->RdK H B (jeq l l2) (jer m m2):=by
 unfold RdK at h2
 induction h2 with
 |nil=>intro l m h;exact h
 |@cons p q ps qs r _ ih =>
  intro l m h;show RdK H B (jeq (putK l p.1 p.2) ps) (jer (putD m q.1 q.2) qs);rw[r.1];exact ih (h.put r.2 _)
theorem jsk (l:List (Key×V)) (k:Key) (v:V):(putK l k v).length<=l.length+1:=by
 unfold putK
 split
 ·rw[Ab];omega
 ·rw[Ah];exact An _
theorem jtv (l2:List (Key×V)):∀l:List (Key×V),(jeq l l2).length<=l.length+l2.length:=by
 induction l2 with
 |nil=>intro l;exact An _
 |cons p r ih =>
  intro l;show(jeq (putK l p.1 p.2) r).length<=_;have:=ih (putK l p.1 p.2);have:=jsk l p.1 p.2;rw[Ar];omega
end
section
variable {X:Cx} {a b c e o i f:Expr} {ta tb te td ty tx:TE} {wa wb we wd' wy wx:DT} {pos p:Pos} {K:Ai}
def jb1 (i:Nat):DT:=λδ n Q=>match δ[i]? with
 |some (some (.odk kvs))=>Q (.dk kvs) n
 |some (some (.w x))=>Q x n
 |_=>False
theorem jc1 (i:Nat) {x:Str} {p:Pos} (hN:X.N[i]?=some x:=by rfl) (hv:Vis X.env.scope x:=by first | exact Ap rfl | exact Bw (Ap rfl) | exact Bw (Bw rfl)) (hd:(x==("__debug__":Str))=false:=by decide)
  (hcd:(x==("__classdict__":Str))=false:=by decide):DE X (.Name x p) (tVar i) (jb1 i):=⟨jdl hN hv hd hcd,λC H B σ δ n Q Q' R h k=>by
 unfold jb1 at h
 split at h
 ·rename_i kvs e;obtain⟨v,h1,a,l,rfl,g2,g3,g4,g5,g6⟩:=R.sl i _ e;exact⟨_,h1,k _ (.dk kvs) H n R (Kp.refl _ _) ⟨a,l,rfl,g2,λz=>R.t0 (z▸g4),g6⟩ h⟩
 ·rename_i x e;obtain⟨v,h1,h2⟩:=R.sl i _ e;exact⟨v,h1,k v x H n R (Kp.refl _ _) h2.1 h⟩
 ·exact h.elim⟩
def jew:Wv->Wv->Int->DQ->Prop:=λx y n Q=>match x,y with
 |.dk kvs,.d (.str k)=>match valD kvs (.inr k)with
  |some d=>Q (.d d) n
  |none=>False
 |_,_=>False
theorem jik (hu:X.A.units+64 < Ef) (ho:DE X o td wd') (hi:DE X i ty wy) (hs:NoSl i:=by exact λ_ _=>rfl):DE X (.Subscript o i pos) (j4y td ty) (w2 wd' wy jew):=⟨j25 (by omega) ho.pe hi.pe hs,λC H B σ δ n Q Q' R h k =>
 ho.sd C H B σ δ n _ _ R h λv x H1 n1 R1 k1 r1 q1=>hi.sd C H1 B σ δ n1 _ _ R1 q1 λu y H2 n2 R2 k2 r2 q2=>by
  have r1':=r1.kp k2 R1.bt;unfold jew at q2
  split at q2
  ·rename_i kvs key;obtain⟨a,l,rfl,g1,g2,g3⟩:=r1';cases(show RdX H2 B u (.str key)from r2);rcases g3.val (.inr key)with⟨e1,e2⟩ | ⟨v,d,e1,e2,e3⟩
   ·rw[e2]at q2;exact q2.elim
   ·rw[e2]at q2;exact⟨a,v,rfl,.inl ⟨l,.inr key,.inl g1,rfl,e1.symm⟩,k v (.d d) H2 n2 R2 (k1.trans k2) e3 q2⟩
  ·exact q2.elim⟩
def gDIn (neg:Bool):Wv->Wv->Int->DQ->Prop:=λx y n Q=>match x,y with
 |.d (.str k),.dk kvs=>Q (.d (.bool (if neg then !(valD kvs (.inr k)).isSome else(valD kvs (.inr k)).isSome))) n
 |_,_=>False
theorem j2n (hi:DE X i ty wy) (ho:DE X o td wd'):Snd (tDIn ty td) (w2 wy wd' (gDIn false)):=λC H B σ δ n Q Q' R h k =>
 hi.sd C H B σ δ n _ _ R h λv x H1 n1 R1 k1 r1 q1=>ho.sd C H1 B σ δ n1 _ _ R1 q1 λu y H2 n2 R2 k2 r2 q2=>by
  have r1':=r1.kp k2 R1.bt;unfold gDIn at q2
  split at q2
  ·rename_i key kvs;obtain⟨a,l,rfl,g1,g2,g3⟩:=r2;cases(show RdX H2 B v (.str key)from r1');refine⟨a,valV l (.inr key),rfl,.inl ⟨l,.inr key,.inl g1,rfl,rfl⟩,k _ _ H2 n2 R2 (k1.trans k2) (wd (.bl _)) ?_⟩;rcases g3.val (.inr key)with⟨e1,e2⟩ | ⟨v,d,e1,e2,e3⟩
   ·rw[e1];rw[e2]at q2;exact q2
   ·rw[e1];rw[e2]at q2;exact q2
  ·exact q2.elim
theorem jyl (hi:DE X i ty wy) (ho:DE X o td wd'):Snd (jjk ty td) (w2 wy wd' (gDIn true)):=λC H B σ δ n Q Q' R h k =>
 hi.sd C H B σ δ n _ _ R h λv x H1 n1 R1 k1 r1 q1=>ho.sd C H1 B σ δ n1 _ _ R1 q1 λu y H2 n2 R2 k2 r2 q2=>by
  have r1':=r1.kp k2 R1.bt;unfold gDIn at q2
  split at q2
  ·rename_i key kvs;obtain⟨a,l,rfl,g1,g2,g3⟩:=r2;cases(show RdX H2 B v (.str key)from r1');refine⟨a,valV l (.inr key),rfl,.inl ⟨l,.inr key,.inl g1,rfl,rfl⟩,k _ _ H2 n2 R2 (k1.trans k2) (wd (.bl _)) ?_⟩;rcases g3.val (.inr key)with⟨e1,e2⟩ | ⟨v,d,e1,e2,e3⟩
   ·rw[e1];rw[e2]at q2;exact q2
   ·rw[e1];rw[e2]at q2;exact q2
  ·exact q2.elim
theorem j7p (hu:X.A.units+64 < Ef) (hi:DE X i ty wy) (ho:DE X o td wd') (hm:B8 .In o=false:=by with_unfolding_all rfl):DE X (.Compare i [.In] [o] pos) (tDIn ty td) (w2 wy wd' (gDIn false)):=⟨j1d (j58 (by omega) hi.pe ho.pe) hm,j2n hi ho⟩
theorem j7o (hu:X.A.units+64 < Ef) (hi:DE X i ty wy) (ho:DE X o td wd') (hm:B8 .NotIn o=false:=by with_unfolding_all rfl):DE X (.Compare i [.NotIn] [o] pos) (jjk ty td) (w2 wy wd' (gDIn true)):=⟨j1d (jpo (by omega) hi.pe ho.pe) hm,jyl hi ho⟩
def jo5 (wd wy wx:DT):DT:=λδ n Q=>wd δ n λx n1=>match x with
 |.dk kvs=>wy δ n1 λy n2=>wx δ n2 λz n3=>match y,z with
  |.d (.str k),.d z=>Q (.d ((valD kvs (.inr k)).getD z)) n3
  |_,_=>False
 |_=>False
theorem j36 {ap cp:Pos} (hu:X.A.units+64 < Ef) (ho:DE X o td wd') (he:DE X e ty wy) (hf:DE X f tx wx) (m:M2 X o "get" ap e f cp:=by exact⟨rfl,rfl,rfl,rfl⟩):DE X (.Call (.Attribute o "get" ap) [e,f] [] cp) (j0w td ty tx) (jo5 wd' wy wx):=⟨jy9 (by omega) ho.pe he.pe hf.pe m,λC H B σ δ n Q Q' R h k =>
 ho.sd C H B σ δ n _ _ R h λv x H1 n1 R1 k1 r1 q1=>by
  cases x with
  |d _=>exact q1.elim
  |tp=>exact q1.elim
  |ln _=>exact q1.elim
  |ob _=>exact q1.elim
  |dk kvs =>
   obtain⟨a,l,rfl,g1,g2,g3⟩:=r1;refine⟨a,rfl,.inl ⟨l,.inl g1⟩,he.sd C H1 B σ δ n1 _ _ R1 q1 λu y H2 n2 R2 k2 r2 q2=>hf.sd C H2 B σ δ n2 _ _ R2 q2 λw z H3 n3 R3 k3 r3 q3=>?_⟩;have r2':=r2.kp k3 R2.bt;have g1':=(k2.trans k3) _ _ g1 g2;have g3':RdK H3 B l kvs:=g3.move λb o e n=>⟨(k2.trans k3) b o e λz=>n (z▸R1.bt),n⟩
   split at q3
   ·rename_i key dz;cases(show RdX H3 B u (.str key)from r2');refine⟨valV l (.inr key),.inl ⟨l,.inr key,.inl g1',rfl,rfl⟩,?_⟩;rcases g3'.val (.inr key)with⟨e1,e2⟩ | ⟨v,d,e1,e2,e3⟩
    ·rw[e1];rw[e2]at q3;exact k w (.d dz) H3 n3 R3 ((k1.trans k2).trans k3) r3 q3
    ·rw[e1];rw[e2]at q3;exact k v (.d d) H3 n3 R3 ((k1.trans k2).trans k3) e3 q3
   ·exact q3.elim⟩
abbrev DTK:=Sl->Int->(List (Key×Ad)->Int->Prop)->Prop
def SndK (t:TE) (w:DTK):Prop:=∀(C:Ctx) (H:Hp) (B:Addr->Prop) (σ:St) (δ:Sl) (n:Int) (Q:List (Key×Ad)->Int->Prop) (Q':VK),Rel C H B σ δ n->w δ n Q ->
 (∀a l kvs H' n',Rel C H' B σ δ n'->Kp C.t H H'->H a=none->H' a=some (.dK l)->l.length<=1000->RdK H' (λb=>B b\/b=a) l kvs->Q kvs n'->Q' (.ref a) H')->t σ H Q'
structure DN (X:Cx) (e:Expr) (t:TE) (w:DTK):Prop where
 pe:PE X e t
 sd:SndK t w
def kNil:DTK:=λ_ n Q=>Q [] n
theorem j8l:DN X (.Dict [] [] pos) j0v kNil:=⟨jy8,λC H B σ δ n Q Q' R q k=>λa ha=>k a [] [] _ n (R.new ha) (Kp.new ha) ha jao (Bm _) .nil q⟩
def jjy:List Ad->Option (List (Key×Ad))
 |[]=>some []
 |.tuple [.str k,d]::r=>(jjy r).map ((.inr k,d)::·)
 |_=>none
theorem jsp {H:Hp} {B:Addr->Prop}:∀{xs:List V} {ds:List Ad} {ps:List (Key×Ad)},RdXs H B xs ds->jjy ds=some ps->∃qs:List (Addr×Key×V),xs=qs.map (λp=>V.ref p.1)/\(∀p∈qs,H p.1=some (.tup [kV p.2.1,p.2.2]))/\RdK H B (qs.map (·.2)) ps
 |_,_,ps,.nil,h=>by
  cases h;exact⟨[],rfl,λp (hp:p∈[])=>absurd hp Aw,Paired.nil⟩
 |_,_,ps,.cons (d:=d) (ds:=ds) h1 h2,h=>by
  unfold jjy at h
  split at h
  ·rename_i e;cases e
  ·rename_i k d' r e;cases e;cases e2:jjy ds with
   |none=>rw[e2]at h;cases h
   |some ps' =>
    rw[e2]at h;cases h;obtain⟨qs,f1,f2,f3⟩:=jsp h2 e2;cases h1 with
    |@tup a ys _ g1 g2 g3 g4 =>
     cases g4 with
     |cons c1 c2 =>
      cases c2 with
      |cons c3 c4 =>
       cases c4;cases c1;refine⟨(a,.inr k,_)::qs,by rw[f1];rfl,λp hp=>?_,.cons ⟨rfl,c3⟩ f3⟩;rcases As.mp hp with rfl | z
       ·exact g1
       ·exact f2 p z
  ·cases h
def j09:List V->Hp->VK->Prop:=λxs H Q=>∃(src:Addr) (ps:List (Addr×Key×V)),xs=[.ref src]/\H src=some (.tup (ps.map λp=>V.ref p.1))/\(∀p∈ps,H p.1=some (.tup [kV p.2.1,p.2.2]))/\ps.length<=1000 /\
  ∀l,H l=none->Q (.ref l) (L2.upd H l (.dK (jeq [] (ps.map (·.2)))))
def jka (w:DT):DTK:=λδ n Q=>w δ n λx n1=>match x with
 |.d (.tuple ds)=>match jjy ds with
  |some ps=>ds.length<=1000/\Q (jer [] ps) n1
  |none=>False
 |_=>False
theorem jj9 (hh:X.A.handled=none) (hg:Gl X "dict") (hm:X.mg "dict"=none) (he:DE X e te we) (hv:B3 "dict"=some (.type "dict"):=by decide +kernel)
  (he':Az [e] X.env=(false,eval e X.env)::Az [] X.env:=by rfl) (hpl:(Cz pos (Az [] X.env)).any (·.1)=false:=by rfl):DN X (.Call (.Name "dict" p) [e] [] pos) (tCB j09 (jcx te tNil)) (jka we) :=
 ⟨jgs (jud hh) hg hm hv (ja9 he.pe jca he') (by decide) (by decide) he' hpl,λC H B σ δ n Q Q' R q k =>
  he.sd C H B σ δ n _ _ R q λv x H1 n1 R1 k1 r1 q1=>by
   split at q1
   ·rename_i ds
    split at q1
    ·rename_i ps ep;cases(show RdX H1 B v (.tuple ds)from r1)with
     |@tup a ys _ g1 g2 g3 g4 =>
      obtain⟨qs,f1,f2,f3⟩:=jsp g4 ep;subst f1;have hl:qs.length<=1000:=by have:=g4.len;rw[Ab]at this;rw[this];exact q1.1
      refine⟨a,qs,rfl,g1,f2,hl,λl hl0=>?_⟩;refine k l _ (jer [] ps) _ n1 (R1.new hl0) (k1.trans (Kp.new hl0)) (R1.was k1 hl0) jao ?_ ?_ q1.2
      ·have:=jtv (qs.map (·.2)) [];rw[Ab]at this;have z:([]:List (Key×V)).length=0:=rfl;omega
      ·refine RdK.merge ?_ .nil;exact f3.move λb o e n=>⟨by rw[jap (jal e hl0)];exact e,λz=>z.elim n λq=>jal e hl0 q⟩
    ·exact q1.elim
   ·exact q1.elim⟩
def jjw (i:Nat) (w:DTK):DST:=λδ n K=>w δ n λkvs n1=>K.nx (δ.set i (some (.odk kvs))) n1
theorem jjo {i:Nat} {x:Str} {pos':Pos} {w:DTK} (hN:X.N.Nodup) (hi:X.N[i]?=some x) (hx:Loc X.env.scope x) (he:DN X e te w) (hs:Do e (some (.Name x pos')) pos.line X.env=pure false:=by rfl) (hf:X.fn x=true\/X.env.scope.names.lookup x=some .local:=by first | exact .inl rfl | exact .inr rfl | assumption) :
  DS X (.Assign [.Name x pos'] e pos) (tAsg te (jhs i)) (jjw i w):=⟨jf4 hN hi hx he.pe hs hf,λC H B σ δ n K D R q E =>
 he.sd C H B σ δ n _ _ R q λa l kvs H1 n1 R1 k1 h0 h1 h2 h3 q1=>by
  refine E.nx _ _ _ _ _ (R.own R1 k1 h0 (by rw[h1];exact λz=>nomatch z) rfl ?_) q1;exact⟨a,l,rfl,h1,.inr rfl,R.h0 h0,h2,h3⟩⟩
def jlh (i:Nat) (wy wv:DT):DST:=λδ n K=>match δ[i]? with
 |some (some (.odk kvs))=>wv δ n λv n1=>wy δ n1 λy n2=>match v,y with
  |.d d,.d (.str k)=>kvs.length < 1000/\K.nx (δ.set i (some (.odk (putD kvs (.inr k) d)))) n2
  |_,_=>False
 |_=>False
theorem jsf {i:Nat} {x:Str} {xp sp:Pos} {j e:Expr} {tj te:TE} {wj we:DT} (hu:X.A.units+64 < Ef) (hN:X.N[i]?=some x) (hj:DE X j tj wj) (he:DE X e te we) (hv:Vis X.env.scope x:=by first | exact Ap rfl | exact Bw (Ap rfl) | exact Bw (Bw rfl)) (hd:(x==("__debug__":Str))=false:=by decide)
  (hcd:(x==("__classdict__":Str))=false:=by decide) (hs:Do e (some (.Subscript (.Name x xp) j sp)) pos.line X.env=pure false:=by rfl) :
  DS X (.Assign [.Subscript (.Name x xp) j sp] e pos) (j2s (tVar i) tj te) (jlh i wj we) :=
 ⟨jvy (by omega) (jdl hN hv hd hcd) hj.pe he.pe hs,λC H B σ δ n K D R q E=>by
  unfold jlh at q
  split at q
  ·rename_i kvs ei;refine he.sd C H B σ δ n _ _ R q λu y H1 n1 R1 k1 r1 q1=>?_;obtain⟨v,hv,a,l,rfl,e2,e3,e4,e5,e6⟩:=R1.sl i _ ei;refine⟨_,hv,hj.sd C H1 B σ δ n1 _ _ R1 q1 λw z H2 n2 R2 k2 r2 q2=>?_⟩
   split at q2
   ·rename_i d key;cases(show RdX H2 B w (.str key)from r2);have hat:a≠C.t:=λz=>R.t0 (z▸e4);have e2':=k2 _ _ e2 hat;have r1':RdX H2 B u d:=r1.kp k2 R1.bt;have e6':RdK H2 B l kvs:=e6.move λb o e n=>⟨k2 b o e λz=>n (z▸R1.bt),n⟩;have hl:l.length < 1000:=by rw[e6'.len];exact q2.1
    refine⟨a,_,rfl,DPut.k (k:=.inr key) e2' (Bj hl (jbn (An _))),?_⟩;refine E.nx _ _ _ _ _ (R2.mutOwn ei rfl hv e3 e4 ?_ rfl) q2.2;refine⟨a,_,rfl,jao,e3,e4,?_,?_⟩
    ·have:=jsk l (.inr key) u;omega
    ·exact(e6'.put r1' _).move λb o e n=>⟨by rw[jap λ(z:b=a)=>n (z▸e3)];exact e,n⟩
   ·exact q2.elim
  ·exact q.elim⟩
def jjh (i:Nat):DT:=λδ n Q=>match δ[i]? with
 |some (some (.own ds))=>Q (.d (.int ds.length)) n
 |_=>False
theorem jz3 (i:Nat) {x:Str} {xp:Pos} (hg:Gl X "len") (hm:X.mg "len"=none) (hK:X.K=K:=by rfl) (hN:X.N[i]?=some x:=by rfl) (hv:Vis X.env.scope x:=by first | exact Ap rfl | exact Bw (Ap rfl) | exact Bw (Bw rfl)) (hd:(x==("__debug__":Str))=false:=by decide)
  (hcd:(x==("__classdict__":Str))=false:=by decide) (he':Az [Expr.Name x xp] X.env=(false,eval (.Name x xp) X.env)::Az [] X.env:=by rfl) (hpl:(Cz pos (Az [] X.env)).any (·.1)=false:=by rfl) :
  DE X (.Call (.Name "len" p) [.Name x xp] [] pos) (tCB (jyx K) (jcx (tVar i) tNil)) (jjh i) :=
 ⟨jdm (ja2 hK) hg hm Bf (ja9 (jdl hN hv hd hcd) jca he') (by decide) (by decide) he' hpl,λC H B σ δ n Q Q' R q k=>by
  unfold jjh at q
  split at q
  ·rename_i ds e;obtain⟨v,h1,a,xs,rfl,g2,g3,g4,g5,g6⟩:=R.sl i _ e;refine⟨_,h1,.inr ⟨a,xs,rfl,.inl (SqL.of g2),k _ _ H n R (Kp.refl _ _) (wd (.int _)) ?_⟩⟩;rw[g6.len];exact q
  ·exact q.elim⟩
def jmh (i:Nat) (w:DT):DT:=λδ n Q=>w δ n λx n1=>match x,δ[i]? with
 |.d a,some (some (.own ds))=>jdz a=true/\ds.all jdz=true/\Q (.d (.bool (inD a ds))) n1
 |_,_=>False
theorem jva {i:Nat} (h:Snd ta wa):Snd (tOp (rIn K false) ta (tVar i)) (jmh i wa):=λC H B σ δ n Q Q' R q k =>
 h C H B σ δ n _ _ R q λv x H1 n1 R1 k1 r1 q1=>by
  split at q1
  ·rename_i da ds e;have r1:RdX H1 B v da:=r1;obtain⟨u,h1,a,xs,rfl,g2,g3,g4,g5,g6⟩:=R1.sl i _ e;refine⟨_,h1,a,xs,rfl,.inl (SqL.of g2),jge r1 q1.1,jdn g6 q1.2.1,k _ _ H1 n1 R1 k1 (wd (.bl _)) ?_⟩;rw[jkc r1 g6];exact q1.2.2
  ·exact q1.elim
theorem j4g (i:Nat) {x:Str} {xp:Pos} (ha:DE X a ta wa) (hK:X.K=K:=by rfl) (hN:X.N[i]?=some x:=by rfl) (hv:Vis X.env.scope x:=by first | exact Ap rfl | exact Bw (Ap rfl) | exact Bw (Bw rfl)) (hd:(x==("__debug__":Str))=false:=by decide)
  (hcd:(x==("__classdict__":Str))=false:=by decide) (hm:B8 .In (Expr.Name x xp)=false:=by with_unfolding_all rfl):DC X (.Compare a [.In] [.Name x xp] pos) (jo9 (tOp (rIn K false) ta (tVar i))) (cT (jmh i wa)) :=
 ⟨je3 (jig hK) ha.pe (jdl hN hv hd hcd) hm,jfr (jva ha.sd)⟩
end
section
variable {X:Cx} {a b c e o i f:Expr} {ta tb te td ty tx:TE} {wa wb we wd' wy wx:DT} {pos p:Pos} {K:Ai}
def txK (ps:List (Str×Ad)):List (Key×Ad):=ps.map λp=>(Ct p.1,p.2)
def jgr (ps:List (Str×Ad)):Prop:=ps.Pairwise λa b=>¬b.1.cps.toList < a.1.cps.toList
def jd1 (w:DT):DTF:=λδ n Q=>w δ n λx n1=>match x with
 |.dk kvs=>∃ps:List (Str×Ad),kvs=txK ps/\ps.length < 64/\(ps.map (·.1)).Nodup/\(∀p∈ps,p.1.length<=1000/\jdz p.2=true)/\∀ps':List (Str×Ad),ps'.Perm ps->jgr ps'->Q (ps'.map λp=>.tuple [.str p.1,p.2]) n1
 |_=>False
theorem j07 {H:Hp} {B:Addr->Prop}:∀{l:List (Key×V)} {ps:List (Str×Ad)},RdK H B l (txK ps)->∃xv:List V,xv.length=ps.length/\l=(((ps.map (·.1)).zip xv).map λp=>((Ct p.1:Key),p.2))/\RdXs H B xv (ps.map (·.2))
 |[],[],_=>⟨[],rfl,rfl,.nil⟩
 |[],_::_,h=>nomatch h
 |_::_,[],h=>nomatch h
 |q::l,p::ps,.cons r h=>by
  obtain⟨xv,e1,e2,e3⟩:=j07 (l:=l) (ps:=ps) h;refine⟨q.2::xv,by simp[e1],?_,.cons r.2 e3⟩;rw[e2];have r1:q.1=(Ct p.1:Key):=r.1;have:q=((Ct p.1:Key),q.2):=by rw[<-r1]
  rw[this];rfl
def j5s:V->List V->Hp->VK->Prop:=λx vs H Q=>∃d kvs,x=.ref d/\vs=[]/\H d=some (.dK kvs)/\∀v,H v=none->Q (.ref v) (upd H v (jo6 d v))
theorem js3 {α β:Type} {f:α->β} {l:List α} {i:Nat} {x:α} {y:β} (h:i < l.length):(l.map f).getD i y=f (l.getD i x):=by simp[h]
theorem jkj {ap ip:Pos} (hh:X.A.handled=none) (hg:Gl X "sorted") (hm:X.mg "sorted"=none) (ho:DE X o td wd') (hv:B3 "sorted"=some (.builtin "sorted"):=by decide +kernel) (hK:X.K=K:=by rfl)
  (hbase:Ff o "items" X.env (eval o X.env)=eval o X.env:=by rfl) (hline:(ap.endLine==ip.line)=true:=by rfl)
  (he':Az [Expr.Call (.Attribute o "items" ap) [] [] ip] X.env=(false,eval (Expr.Call (.Attribute o "items" ap) [] [] ip) X.env)::Az [] X.env:=by rfl) (hpl:(Cz pos (Az [] X.env)).any (·.1)=false:=by rfl) :
  DF X (.Call (.Name "sorted" p) [.Call (.Attribute o "items" ap) [] [] ip] [] pos) (tCB jmu (jcx (tBM0 K "dict" j5s td) tNil)) (jd1 wd'):=by
 subst hK;refine⟨jdm (jl7 hh) hg hm hv (ja9 (j56 PySem.F.plainAttrs_dict PySem.F.slot_dict_items PySem.F.type_dict_items jzg ho.pe hbase hline) jca he') (by decide) (by decide) he' hpl,λC H B σ δ n Q Q' R q k =>
  ho.sd C H B σ δ n _ _ R q λv x H1 n1 R1 k1 r1 q1=>?_⟩
 cases x with
 |d _=>exact q1.elim
 |tp=>exact q1.elim
 |ln _=>exact q1.elim
 |ob _=>exact q1.elim
 |dk kvs =>
  obtain⟨a,l,rfl,g1,g2,g3⟩:=r1;obtain⟨ps,rfl,h64,nd,hps,kq⟩:=q1;obtain⟨xv,ex1,ex2,ex3⟩:=j07 g3;refine⟨.inr (.inr (.inl ⟨rfl,.inl ⟨l,g1⟩⟩)),a,l,rfl,rfl,g1,λv hv=>?_⟩;have R2:=R1.new (o:=jo6 a v) hv;have kp2:Kp C.t H1 (upd H1 v (jo6 a v)):=Kp.new hv;have hne:a≠v:=jal g1 hv;refine⟨v,a,ps.map (·.1),xv,rfl,jao,by rw[Ab,ex1],by rw[jap hne,g1,ex2],by rw[Ab];exact h64,nd,jdn ex3 ?_,λD as idx H' hla hidx hpw sm hD has hD' hit=>?_⟩
  ·rw[Fs];intro d hd;obtain⟨p,hp,rfl⟩:=Bo.mp hd;exact(hps p hp).2
  ·rw[Ab]at hla hidx;have R3:=R2.same sm;have k3:Kp C.t H H':=(k1.trans kp2).trans λb o e _=>sm b o e;have hDn:H D=none:=R1.was k1 (by
    cases q:H1 D with
    |none=>rfl
    |some o =>
     have:upd H1 v (jo6 a v) D=some o:=by rw[jap (jal q hv)];exact q
     rw[hD]at this;cases this)
   have hlt:∀i∈idx,i < ps.length:=λi hi=>C7.mp (hidx.mem_iff.mp hi);have lidx:idx.length=ps.length:=by rw[hidx.length_eq,Ei]
   refine k D _ _ H' n1 R3 k3 hDn hD' (by rw[Ab,lidx];exact jbn (by omega)) ?_ (kq (idx.map λi=>ps.getD i (⟨#[]⟩,.none)) ?_ ?_)
   ·rw[Dg];have key:∀m:List Nat,(∀i∈m,i∈idx)->RdXs H' (λb=>B b\/b=D) (m.map λi=>V.ref (IxV as (ps.map (·.1)) xv i).1) (m.map ((λp=>PyData.tuple [.str p.1,p.2]) ∘ λi=>ps.getD i (⟨#[]⟩,.none))):=by
     intro m
     induction m with
     |nil=>intro _;exact .nil
     |cons i r ih =>
      intro hm;have hi:=hm i A0;have hil:=hlt i hi;refine .cons ?_ (ih λj hj=>hm j (Au _ hj));have ht:=hit i hi;have hia:i < as.length:=by rw[hla];exact hil
      have eA:(IxV as (ps.map (·.1)) xv i).1=as[i]:=by show as.getD i 0=_;simp[hia]
      have eK:(IxV as (ps.map (·.1)) xv i).2.1=ps[i].1:=by show(ps.map (·.1)).getD i ⟨#[]⟩=_;simp[hil]
      have hix:i < xv.length:=by rw[ex1];exact hil
      have eX:(IxV as (ps.map (·.1)) xv i).2.2=xv[i]:=by show xv.getD i .non=_;simp[hix]
      rw[eA,eK,eX]at ht;show RdX H' _ (.ref (IxV as (ps.map (·.1)) xv i).1) _;rw[eA];have eP:ps.getD i (⟨#[]⟩,.none)=ps[i]:=by simp[hil]
      show RdX H' _ (.ref as[i]) (.tuple [.str (ps.getD i (⟨#[]⟩,.none)).1,(ps.getD i (⟨#[]⟩,.none)).2]);rw[eP];have hAn:=has as[i] (C5 hia);have nB:¬B as[i]:=R2.nb hAn;have nD:as[i]≠D:=λz=>by rw[z,hD']at ht;cases ht
      refine .tup ht (λz=>z.elim nB nD) (by show 2<=A1;decide) (.cons (.str _ (jbn (hps ps[i] (C5 hil)).1)) (.cons ?_ .nil));obtain⟨d,f1,f2⟩:=ex3.get (Aj hix);rw[Ay,Aj hil]at f1;cases f1;exact f2.move λb o e n=>⟨sm b o (by rw[jap (jal e hv)];exact e),λz=>z.elim n λq=>by
       have e2:upd H1 v (jo6 a v) b=some o:=by rw[jap (jal e hv)];exact e
       rw[q,hD]at e2;cases e2⟩
    exact key idx λ_ h=>h
   ·have h1:=hidx.map λi=>ps.getD i ((⟨#[]⟩:Str),PyData.none);have h2:(Bq ps.length).map (λi=>ps.getD i ((⟨#[]⟩:Str),PyData.none))=ps:=by
     apply Fr9 (by simp);intro i h1 h2;simp[h2]
    rw[h2]at h1;exact h1
   ·unfold jgr;rw[List.pairwise_map];rw[List.pairwise_map]at hpw;refine List.Pairwise.imp_of_mem (λ{x y} hx hy h=>?_) hpw;rw[js3 (x:=((⟨#[]⟩:Str),PyData.none)) (hlt x hx),js3 (x:=((⟨#[]⟩:Str),PyData.none)) (hlt y hy)]at h;exact h
theorem jnq {H:Hp} {B:Addr->Prop}:∀{ys:List Str},(∀y∈ys,y.length<=1000)->RdXs H B (ys.map V.str) (ys.map .str)
 |[],_=>.nil
 |y::r,h=>.cons (.str _ (jbn (h y A0))) (jnq λz hz=>h z (Au _ hz))
def gInt:List Wv->Int->DQ->Prop:=λxs n Q=>match xs with
 |[.d (.int i)]=>Q (.d (.int i)) n
 |[.d (.bool b)]=>Q (.d (.int (if b then 1 else 0))) n
 |_=>False
def zipD (xs ys:List Ad):List Ad:=List.zipWith (λx y=>.tuple [x,y]) xs ys
def jwy (w w':DT):DTI:=λδ n Q=>w δ n λx n1=>w' δ n1 λy n2=>match x,y with
 |.d (.tuple xs),.d (.tuple ys)=>xs.length=ys.length/\Q (zipD xs ys) n2
 |_,_=>False
theorem j64 {elts:List Expr} {kk:Nat} {tpos:Pos} (hg:Gl X "zip") (hm:X.mg "zip"=none) (ha:DE X a ta wa) (hb:DE X b tb wb) (hK:X.K=K:=by rfl) (hs:Az [a,b] X.env=[(false,eval a X.env),(false,eval b X.env)]:=by rfl) (hs2:Az [b] X.env=[(false,eval b X.env)]:=by rfl)
  (he1:Az [a,b] X.env=(false,eval a X.env)::Az [b] X.env:=by rfl) (he2:Az [b] X.env=(false,eval b X.env)::Az [] X.env:=by rfl) :
  DI X (.Tuple elts kk tpos) (.Call (.Name "zip" p) [a,b] [] pos) (iZip K (jcx ta (jcx tb tNil))) (jwy wa wb):=by
 subst hK;refine⟨j51 hg hm (ja9 ha.pe (ja9 hb.pe jca he2) he1) hs hs2,λC H B σ δ n Q Q' R q k=>ha.sd C H B σ δ n _ _ R q λv x H1 n1 R1 k1 r1 q1=>hb.sd C H1 B σ δ n1 _ _ R1 q1 λu y H2 n2 R2 k2 r2 q2=>?_⟩;have r1':=r1.kp k2 R1.bt
 split at q2
 ·rename_i xs ys;cases(show RdX H2 B v (.tuple xs)from r1')with
  |@tup aa vs _ e1 e2 e3 e4 =>
   cases(show RdX H2 B u (.tuple ys)from r2)with
   |@tup ab ws _ f1 f2 f3 f4 =>
    refine⟨aa,ab,rfl,⟨vs,SqT.of e1⟩,⟨ws,SqT.of f1⟩,k _ (zipD xs ys) H2 n2 R2 (k1.trans k2) (λfz th=>?_) q2.2⟩;have za:fz aa=some (.tup vs):=th.2 _ _ e1 e2;have zb:fz ab=some (.tup ws):=th.2 _ _ f1 f2;have lz:(zipD xs ys).length=xs.length:=by unfold zipD;rw[List.length_zipWith,q2.1,Nat.min_self]
    refine⟨by rw[lz,<-e4.len];exact e3,λi H hH hi=>?_,λH hH=>?_,λi H x H' d hH hd hy=>?_⟩
    ·rw[lz]at hi;have h1:i < vs.length:=by rw[e4.len];exact hi
     have h2:i < ws.length:=by rw[f4.len,<-q2.1];exact hi
     exact⟨vs,ws,vs[i],ws[i],SqT.of (hH _ _ za),SqT.of (hH _ _ zb),Aj h1,Aj h2⟩
    ·exact⟨vs,SqT.of (hH _ _ za),by rw[lz,e4.len];exact An _⟩
    ·obtain⟨T,x1,y1,rfl,hT,rfl,hx,hy⟩:=hy;refine⟨λb o e=>by rw[jap (jal e hT)];exact e,λB' hB hBa=>?_⟩;have hi:i < xs.length:=by rw[<-lz];exact(At.mp hd).1
     have hi2:i < ys.length:=by rw[<-q2.1];exact hi
     have ed:d=.tuple [xs[i],ys[i]]:=by
      unfold zipD at hd;rw[List.getElem?_zipWith,Aj hi,Aj hi2]at hd;exact(Ax hd).symm
     subst ed;obtain⟨u1,hu1,ru1⟩:=e4.getD (Aj hi);obtain⟨u2,hu2,ru2⟩:=f4.getD (Aj hi2);have t1:=hx _ (SqT.of (hH _ _ za));have t2:=hy _ (SqT.of (hH _ _ zb));rw[hu1]at t1;rw[hu2]at t2;cases t1;cases t2;have mv:∀b o,H2 b=some o->¬B b->upd H T (.tup [x1,y1]) b=some o/\¬B' b:=λb o e ne=>by
      have:=hH _ _ (th.2 _ _ e ne);exact⟨by rw[jap (jal this hT)];exact this,hB _ _ (th.2 _ _ e ne)⟩
     exact .tup jao (λz=>hBa T z hT) (by show 2<=A1;decide) (.cons (ru1.move mv) (.cons (ru2.move mv) .nil))
 ·exact q2.elim
end
end DL
namespace L2
open PySem PySem.Spec PyProof.Rows PySem.SeqAt
end L2
namespace DL
open PySem L2 Nb
section
variable {X:Cx} {K:Ai}
def rXX (K:Ai) (f:Ad->Ad->Option Bool):R2:=λx y H Q=>∃d e b,RdD K H x d/\RdD K H y e/\d.canLay0=true/\e.canLay0=true/\d.depth<=20/\e.depth<=20/\f d e=some b/\Q (.bl b) H
theorem j9e (hu:X.A.units+64 < Ef) (hK:X.K=K:=by rfl):OpR X (Bu .Eq) (rXX K λd e=>some (E4 d e)):=by
 subst hK;intro pins s σ H x y v u Q I rx ry h;obtain⟨d,e,b,h1,h2,h3,h4,h5,h6,h7,q⟩:=h;cases h7;obtain⟨as,r1⟩:=RdD.reads I h1 rx;obtain⟨bs,r2⟩:=RdD.reads I h2 ry;exact SeqAt.compareEq_reads r1 r2 h3 h4 (by omega) ⟨.bl _,H,I,rfl,q⟩
theorem j6d (hu:X.A.units+64 < Ef) (hK:X.K=K:=by rfl):OpR X (Bu .NotEq) (rXX K λd e=>some (!E4 d e)):=by
 subst hK;intro pins s σ H x y v u Q I rx ry h;obtain⟨d,e,b,h1,h2,h3,h4,h5,h6,h7,q⟩:=h;cases h7;obtain⟨as,r1⟩:=RdD.reads I h1 rx;obtain⟨bs,r2⟩:=RdD.reads I h2 ry;exact SeqAt.compareNe_reads r1 r2 h3 h4 (by omega) ⟨.bl _,H,I,rfl,q⟩
def gXX (f:Ad->Ad->Option Bool):Wv->Wv->Int->DQ->Prop:=λx y n Q=>match x,y with
 |.d d,.d e=>d.canLay0=true/\e.canLay0=true/\d.depth<=20/\e.depth<=20/\∃b,f d e=some b/\Q (.d (.bool b)) n
 |_,_=>False
theorem j47 {f:Ad->Ad->Option Bool}:SndO (rXX K f) (gXX f):=λC H B σ δ n x y p q Q Q' R rx ry h1 k=>by
 unfold gXX at h1
 split at h1
 ·rename_i d e;obtain⟨a1,a2,a3,a4,b,a5,a6⟩:=h1;exact⟨d,e,b,RdX.rd rx,RdX.rd ry,a1,a2,a3,a4,a5,k _ _ H n R (Kp.refl _ _) (wd (.bl b)) a6⟩
 ·exact h1.elim
end
end DL
namespace L2
open PySem PySem.Spec PyProof.Rows PySem.W
section
variable {prog:Bg} {w:Br} {A:B4} {E:Af->Ak->Prop} {s:Ak}
theorem ju4 {src:Source} {n:Nat} {Q:Nat->Ak->Prop} (hn:n≠0) (h:∀i dr,i < n->Q i {s with drawn:=dr}):A4 (Ba prog w) A (choose src n) Q E s :=
 λ_ _ _=>⟨hn,h _ _ (Nat.mod_lt _ (Nat.pos_of_ne_zero hn))⟩
theorem jki {α:Type}:∀(l:List α) (i:Nat) (h:i < l.length),(l[i]::l.eraseIdx i).Perm l
 |x::r,0,_=>List.Perm.refl _
 |x::r,i+1,h=>(List.Perm.swap x (r[i]'(Nat.lt_of_succ_lt_succ h)) (r.eraseIdx i)).trans ((jki r i (Nat.lt_of_succ_lt_succ h)).cons x)
theorem ju1 {α:Type}:∀(n:Nat) (xs:List α) (s:Ak) {Q:List α->Ak->Prop},xs.length=n->(∀ys dr,ys.Perm xs->Q ys {s with drawn:=dr})->A4 (Ba prog w) A (drawOrder n xs) Q E s
 |0,xs,s,Q,hl,h=>by
  cases Fz hl;exact Al (h [] s.drawn (List.Perm.refl _))
 |n+1,[],s,Q,hl,h=>by cases hl
 |n+1,x::r,s,Q,hl,h=>by
  unfold drawOrder;refine Aa (ju4 (by simp) λi dr hi=>?_);rw[Aj hi];dsimp only;refine Aa (ju1 n _ _ (by rw[List.length_eraseIdx_of_lt hi];simp at hl ⊢;omega) λys dr' hp=>Al (h _ dr' ?_));exact(hp.cons _).trans (jki _ _ hi)
theorem juw {α:Type} (next:Nat->Nat):∀(fuel k:Nat) (left:List α) (out:Array α),left.length=fuel->(pickOrder.go next fuel k left out).toList.Perm (out.toList++left)
 |0,k,left,out,hl=>by
  cases Fz hl;simp[pickOrder.go]
 |fuel+1,k,left,out,hl=>by
  have hi:next k % left.length < left.length:=Nat.mod_lt _ (by omega)
  unfold pickOrder.go;rw[Aj hi];dsimp only;refine(juw next fuel (k+1) _ _ (by rw[List.length_eraseIdx_of_lt hi];omega)).trans ?_;rw[Array.toList_push,Bn];exact List.Perm.append_left _ (jki _ _ hi)
theorem jtj {α:Type} (next:Nat->Nat) (xs:Array α):(pickOrder next xs).toList.Perm xs.toList:=by
 have:=juw next xs.size 0 xs.toList #[] (by simp)
 simpa[pickOrder]using this
def byTx (w:Br):Bool:=w.params.followText "set-order"
theorem jnm {Q:Bool->Ak->Prop} (h:Q (byTx w) s):A4 (Ba prog w) A setsByText Q E s:=by
 unfold setsByText;exact Aa (wpAny_askSetting (Al h))
structure SetTb (w:Br) (h:Heap) (a:Addr) (es:Array (Int×Af)) (ep:Nat) (t:Ed):Prop where
 obj:∃o,h.get? a=some o/\o.ExactSet/\o.data=.set es ep t
 fits:t.fits es.size=true
 led:t.led=!byTx w
 plain:t.plain=true->es.size=0
theorem SetTb.move {h h':Heap} {a:Addr} {es:Array (Int×Af)} {ep:Nat} {t:Ed} (x:SetTb w h a es ep t) (k:∀o,h.get? a=some o->h'.get? a=some o):SetTb w h' a es ep t :=
 ⟨let⟨o,e,r⟩:=x.obj;⟨o,k o e,r⟩,x.fits,x.led,x.plain⟩
theorem SetTb.typeIs {a:Addr} {es:Array (Int×Af)} {ep:Nat} {t:Ed} (x:SetTb w s.heap a es ep t):s.TypeIs (.ref a) "set":=let⟨o,e,r,_⟩:=x.obj;⟨o,e,r.1⟩
theorem SetTb.lt {h:Heap} {a:Addr} {es:Array (Int×Af)} {ep:Nat} {t:Ed} (x:SetTb w h a es ep t):a < h.objs.size:=let⟨_,e,_⟩:=x.obj;Av e
theorem j3b (t:Ed) (n:Nat):(t.orStandIn n).led=t.led:=by
 unfold SetTable.orStandIn
 split<;>rfl
theorem j3m (t:Ed) (es:Array (Int×Af)) (h:Int) (x:Af):(layNew t es h x).2.1.led=t.led:=by
 unfold layNew
 split
 ·exact j3b _ _
 ·rfl
theorem jtq {t t':Ed} {hs:Array Int} {n:Nat} {ord:Array Nat} (h:t.relaid hs n=some (t',ord)):t'.led=t.led/\t'.plain=t.plain:=by
 unfold SetTable.relaid SetTable.laid at h;cases hc:SetTable.layClean (SetTable.sizeAbove n - 1) hs with
 |none=>rw[hc]at h;cases h
 |some ow =>
  rw[hc]at h;cases h;exact⟨rfl,rfl⟩
theorem jpj (t:Ed) (es:Array (Int×Af)) (n:Nat):(relayAll t es n).2.1.led=t.led/\((relayAll t es n).2.1.plain=true->t.plain=true):=by
 unfold relayAll
 split
 ·rename_i t' ord he;obtain⟨h1,h2⟩:=jtq he;dsimp only
  split
  ·exact⟨h1,λz=>h2▸z⟩
  ·exact⟨rfl,λz=>by simp[SetTable.standIn]at z⟩
 ·exact⟨rfl,λz=>by simp[SetTable.standIn]at z⟩
def txOf (v:Af):Str:=match v with
 |.str k _=>k
 |_=>⟨#[]⟩
def ksOf (es:Array (Int×Af)):List Str:=es.toList.map λe=>txOf e.2
def TxEs (w:Br) (es:Array (Int×Af)):Prop:=∀e∈es.toList,∃k t,e.2=.str k t/\e.1=hashStr w k
theorem TxEs.elems {es:Array (Int×Af)} (h:TxEs w es):ElemsOf (Df prog w) es.toList:=λe he=>by
 obtain⟨k,t,e1,e2⟩:=h e he;refine⟨⟨k,?_,e2⟩,by rw[e1];rfl⟩;rw[e1];simp[Df,Value.isStrOf]
def jk3 (w:Br) (h:Heap) (a:Addr) (seen:List Str):Prop:=∃es ep t,SetTb w h a es ep t/\TxEs w es/\(ksOf es).Nodup/\(∀k,k∈ksOf es↔k∈seen)/\es.size<=seen.length
end
theorem jg1:entryFor table "set.update.loop"=some D4.«set.update.loop»:=Ge (by kernel_rfl)
theorem jd7:plainId "set.update.loop"=true:=by decide +kernel
section
variable {prog:Bg} {w:Br} {A:B4} {E:Af->Ak->Prop} {s:Ak}
theorem j2b {es es':Array (Int×Af)} {seen:List Str} {k:Str} {tk:Tok} (hx:TxEs w es) (nd:(ksOf es).Nodup) (hm:∀k,k∈ksOf es↔k∈seen) (hl:es.size<=seen.length) (hk:k∉ksOf es)
  (p:es'.toList.Perm (es.toList++[(hashStr w k,.str k tk)])):TxEs w es'/\(ksOf es').Nodup/\(∀k',k'∈ksOf es'↔k'∈seen++[k])/\es'.size<=(seen++[k]).length/\es'.size=es.size+1:=by
 have pk:(ksOf es').Perm (ksOf es++[k]):=by
  have:=p.map λe=>txOf e.2;rw[A9]at this;exact this
 have hz:es'.size=es.size+1:=by
  have:=p.length_eq;simpa using this
 refine⟨λe he=>?_,pk.nodup_iff.mpr ?_,λk'=>?_,by rw[hz,Ah];exact Nat.succ_le_succ hl,hz⟩
 ·rcases A8.mp (p.mem_iff.mp he)with h | h
  ·exact hx e h
  ·rw[Bd]at h;subst h;exact⟨k,tk,rfl,rfl⟩
 ·rw[List.nodup_append];exact⟨nd,Gq _ _,λa ha b hb e=>hk (by rw[Bd]at hb;rw[<-hb,<-e];exact ha)⟩
 ·rw[pk.mem_iff,A8,A8,hm k']
theorem juv {es es':Array (Int×Af)} (hx:TxEs w es) (nd:(ksOf es).Nodup) (p:es'.toList.Perm es.toList):TxEs w es'/\(ksOf es').Nodup/\(∀k',k'∈ksOf es'↔k'∈ksOf es)/\es'.size=es.size:=by
 have pk:(ksOf es').Perm (ksOf es):=List.Perm.map (λe:Int×Af=>txOf e.2) p;exact⟨λe he=>hx e (p.mem_iff.mp he),pk.nodup_iff.mpr nd,λk'=>pk.mem_iff,by have:=p.length_eq;simpa using this⟩
theorem j41 {a:Addr} {k:Str} {tk:Tok} {seen:List Str} {Q:Bool->Ak->Prop} (hS:jk3 w s.heap a seen) (hb:seen.length < 1000)
  (h:∀b h',Cs a s.heap h'->jk3 w h' a (seen++[k])->Q b {s with heap:=h'}):A4 (Ba prog w) A (setAddHashed a (.str k tk) (hashStr w k)) Q E s:=by
 obtain⟨es,ep,t,T,hx,nd,hm,hl⟩:=hS;obtain⟨o,ho,hex,hd⟩:=T.obj;have hel:ElemsOf (Df prog w) es.toList:=hx.elems;have hsz:es.size < scanBound:=by unfold scanBound;omega
 have hkey:(Df prog w).is k (.str k tk)=true:=by simp[Df,Value.isStrOf]
 unfold setAddHashed setAddHashedIn;refine Ck (Aa (Ep ho hd T.fits ?_));dsimp only;rw[byScan_of (knd:=Df prog w) (x:=.str k tk) rfl hsz hel];simp only[↓reduceIte];unfold setAddByScan;refine Aa (Aa (Gc (Aa (wpAny_setScan_of (knd:=Df prog w) (k:=k) hkey ho hd T.fits hel ?_))));cases hr:es.toList.findIdx? (λe=>(Df prog w).is k e.2)with
 |some j =>
  dsimp only;obtain⟨hj,hpj,_⟩:=Fb.mp hr;have hk:k∈ksOf es:=by
   obtain⟨u,hu⟩:=Value.isStrOf_shape hpj;exact Bo.mpr ⟨es.toList[j],C5 hj,by rw[hu];rfl⟩
  refine Al (Al (h _ s.heap (Heap.SameBut.refl a s.heap) ⟨es,ep,t,T,hx,nd,λk'=>?_,by rw[Ah];omega⟩));rw[hm k',A8,Bd];exact⟨.inl,λz=>z.elim id λe=>e▸(hm k).mp hk⟩
 |none =>
  dsimp only;have hk:k∉ksOf es:=λz=>by
   obtain⟨e,he,e2⟩:=Bo.mp z;obtain⟨k',t',e3,_⟩:=hx e he;have q:=List.findIdx?_eq_none_iff.mp hr e he;rw[e3]at e2 q;have e2:k'=k:=e2;subst e2;simp[Df,Value.isStrOf]at q
  have hgw:∀(b:Bool) {s₁:Ak} {Q':Unit->Ak->Prop},Q' () s₁->A4 (Ba prog w) A (match b with | true=>rule "set.scan.the-table-gave-way" | false=>pure ()) Q' E s₁ :=
   λb s₁ Q' hq=>by cases b with
    |true=>exact Gc hq
    |false=>exact Al hq
  have hp:=layNew_perm t es (hashStr w k) (.str k tk);have hf:=layNew_fits t es (hashStr w k) (.str k tk);have hle:=j3m t es (hashStr w k) (.str k tk);have eh:(Df prog w).hash k=hashStr w k:=rfl
  try rw[eh]
  generalize layNew t es (hashStr w k) (.str k tk)=L at hp hf hle ⊢;obtain⟨es1,t1,wd,gave⟩:=L;dsimp only at hp hf hle ⊢;rw[Array.toList_push]at hp;obtain⟨x1,n1,m1,l1,z1⟩:=j2b hx nd hm hl hk hp;refine Aa (hgw _ ?_)
  split
  ·refine Aa ?_;rw[hashByValue_scannable 8 rfl];refine Al ?_;have hpl:({t1 with plain:=false}:Ed).plain=false:=rfl;have hft:({t1 with plain:=false}:Ed).fits es1.size=true:=SetTable.fits_plain_off hf;have hld:({t1 with plain:=false}:Ed).led=t.led:=hle;simp only[plainKind,Ce,↓reduceIte];generalize({t1 with plain:=false}:Ed)=t2 at hpl hft hld ⊢;have hb1:es1.size < scanBound:=by unfold scanBound;omega
   refine Aa (wpAny_storeSet_of ho hd ?_ (fits_of_scanBound hb1));have g1:(s.heap.update a (Dy es1 t2)).get? a=some {o with data:=.set es1 (ep+1) t2}:=by
    have:=Bs (Dy es1 t2) ho (by rw[putSet_of es1 t2 hd];rfl);rw[putSet_of es1 t2 hd]at this;exact this
   have sb1:=Bh s.heap a (Dy es1 t2)
   split
   ·have hp2:=relayAll_perm t2 es1 (Dw es1.size);have hf2:=relayAll_fits t2 es1 (Dw es1.size);obtain⟨hl2,hq2⟩:=jpj t2 es1 (Dw es1.size);generalize relayAll t2 es1 (Dw es1.size)=R at hp2 hf2 hl2 hq2 ⊢;obtain⟨es2,t3,gave2⟩:=R;dsimp only at hp2 hf2 hl2 hq2 ⊢;obtain⟨x2,n2,m2,z2⟩:=juv x1 n1 hp2;refine Aa (hgw _ ?_);refine Aa (wpAny_storeSet_of g1 rfl ?_ (fits_of_scanBound (by rw[z2];exact hb1)));have g2:((s.heap.update a (Dy es1 t2)).update a (Dy es2 t3)).get? a=some {o with data:=.set es2 (ep+1+1) t3}:=by
     have:=Bs (Dy es2 t3) g1 (by rw[putSet_of es2 t3 rfl];rfl);rw[putSet_of es2 t3 rfl]at this;exact this
    refine Al (Al (h _ _ (sb1.trans (Bh _ a _)) ⟨es2,ep+1+1,t3,⟨⟨_,g2,hex,rfl⟩,hf2,by rw[hl2,hld];exact T.led,λz=>?_⟩,x2,n2,λk'=>(m2 k').trans (m1 k'),by rw[z2];exact l1⟩));have:=hq2 z;rw[hpl]at this;cases this
   ·refine Al (Al (h _ _ sb1 ⟨es1,ep+1,t2,⟨⟨_,g1,hex,rfl⟩,hft,by rw[hld];exact T.led,λz=>?_⟩,x1,n1,m1,l1⟩));rw[hpl]at z;cases z
  ·rename_i hpl0;have hpl:t1.plain=false:=by simpa using hpl0
   have hft:=hf;have hld:=hle;refine Aa (Al ?_);simp only[↓reduceIte];clear hf hle hpl0;generalize t1=t2 at hpl hft hld ⊢;have hb1:es1.size < scanBound:=by unfold scanBound;omega
   refine Aa (wpAny_storeSet_of ho hd ?_ (fits_of_scanBound hb1));have g1:(s.heap.update a (Dy es1 t2)).get? a=some {o with data:=.set es1 (ep+1) t2}:=by
    have:=Bs (Dy es1 t2) ho (by rw[putSet_of es1 t2 hd];rfl);rw[putSet_of es1 t2 hd]at this;exact this
   have sb1:=Bh s.heap a (Dy es1 t2)
   split
   ·have hp2:=relayAll_perm t2 es1 (Dw es1.size);have hf2:=relayAll_fits t2 es1 (Dw es1.size);obtain⟨hl2,hq2⟩:=jpj t2 es1 (Dw es1.size);generalize relayAll t2 es1 (Dw es1.size)=R at hp2 hf2 hl2 hq2 ⊢;obtain⟨es2,t3,gave2⟩:=R;dsimp only at hp2 hf2 hl2 hq2 ⊢;obtain⟨x2,n2,m2,z2⟩:=juv x1 n1 hp2;refine Aa (hgw _ ?_);refine Aa (wpAny_storeSet_of g1 rfl ?_ (fits_of_scanBound (by rw[z2];exact hb1)));have g2:((s.heap.update a (Dy es1 t2)).update a (Dy es2 t3)).get? a=some {o with data:=.set es2 (ep+1+1) t3}:=by
     have:=Bs (Dy es2 t3) g1 (by rw[putSet_of es2 t3 rfl];rfl);rw[putSet_of es2 t3 rfl]at this;exact this
    refine Al (Al (h _ _ (sb1.trans (Bh _ a _)) ⟨es2,ep+1+1,t3,⟨⟨_,g2,hex,rfl⟩,hf2,by rw[hl2,hld];exact T.led,λz=>?_⟩,x2,n2,λk'=>(m2 k').trans (m1 k'),by rw[z2];exact l1⟩));have:=hq2 z;rw[hpl]at this;cases this
   ·refine Al (Al (h _ _ sb1 ⟨es1,ep+1,t2,⟨⟨_,g1,hex,rfl⟩,hft,by rw[hld];exact T.led,λz=>?_⟩,x1,n1,m1,l1⟩));rw[hpl]at z;cases z
def SeqV (ks:List Str) (i:Nat) (v:Af):Prop:=∃k t,ks[i]?=some k/\v=.str k t
theorem j2c {R:Result->Ak->Prop} {I:Addr} {fp wr:List Addr} {G:Array GenState->Array GenState->Prop} {n:Nat} {St:Nat->Ak->Prop} {ks:List Str} (W:WalksS prog w A.in1 I fp wr G n (SeqV ks) St) (S:Addr) (hSf:S∉fp) (hn:ks.length=n) (hb:n < 64) :
  ∀(m i:Nat) (s:Ak),n - i=m->i<=n->St i s->jk3 w s.heap S (ks.take i) ->
   (∀s',Moved (S::wr) G s s'->jk3 w s'.heap S ks->R (.ok (.ret .none)) s')->Fg (Ba prog w) A (.builtin "set.update.loop" ⟨[.ref S,.ref I],[]⟩) R s:=by
 have hSw:S∉wr:=λh=>hSf (W.sub _ h);have hsub:∀b∈wr,b∈S::wr:=λb hb=>Au _ hb;have mv:∀{h h':Heap} {seen:List Str},(∀o,h.get? S=some o->h'.get? S=some o)->jk3 w h S seen->jk3 w h' S seen:=λk x=>by
  obtain⟨es,ep,t,T,r⟩:=x;exact⟨es,ep,t,T.move k,r⟩
 intro m
 induction m with
 |zero =>
  intro i s hk hi hst hS hR;have hin:i=n:=by omega
  subst hin;refine Dz jg1 ?_;rw[C6 jd7 _];show A4 _ A.in1 (D6 (.ref I)>>=_) _ _ s;refine Aa (W.done s _ _ hst λs' hm=>?_);show A4 _ A.in1 (ret Be) _ _ s';rw[<-hn,List.take_length]at hS;exact Al (hR s' (hm.mono hsub) (mv (λo e=>hm.heap S _ hSw e) hS))
 |succ m ih =>
  intro i s hk hi hst hS hR;have hlt:i < n:=by omega
  refine Dz jg1 ?_;rw[C6 jd7 _];show A4 _ A.in1 (D6 (.ref I)>>=_) _ _ s;refine Aa (W.item i s _ _ hlt hst λv s' hP hst' hm=>?_);obtain⟨k,t,hk1,rfl⟩:=hP;have hS':=mv (λo e=>hm.heap S _ hSw e) hS;show A4 _ A.in1 (holding [Value.str k t] (setAdd S (.str k t))>>=_) _ _ s';refine Aa (Ck ?_);unfold setAdd;refine Ck ?_;refine Aa (wpAny_pyHash_str ?_);refine j41 (s:={ s' with toks:=s'.toks+1}) hS' (by rw[Ci];omega) λb h' hsb hS2=>?_;have et:ks.take i++[k]=ks.take (i+1):=by
   rw[List.take_add_one,hk1];rfl
  rw[et]at hS2;refine Al ⟨Fc jd7 _,ih (i+1) _ (by omega) hlt (W.frame _ s' _ _ hst' (Nat.le_succ _) λb hb o e=>?_) hS2 λs'' hm'' hS''=>?_⟩
  ·rw[hsb.2 b (λh:b=S=>hSf (by rw[<-h];exact hb))];exact e
  ·refine hR s'' (Moved.trans W.gtrans ((hm.mono hsub).then_heap (Nat.le_succ _) λb o hb e=>?_) hm'') hS'';rw[hsb.2 b (λh:b=S=>hb (by rw[h];exact A0))];exact e
end
theorem slot_setit_next:Slot "set_iterator" "__next__" "set_iterator.__next__":=Slot.of (owner:="set_iterator") (n:="__next__") (by rw[typeLookup_type,builtinLookup_eq_fast];kernel_rfl)
 (by decide +kernel) (by decide +kernel) (by decide +kernel) (by first | exact .inl (by decide +kernel) | exact .inr (by decide +kernel)) (by rw[Ex];kernel_rfl)
theorem jbq:entryFor table "set_iterator.__next__"=some D4.«set_iterator.__next__»:=Ge (by kernel_rfl)
theorem jbu (a:Af):argsOk "set_iterator.__next__" ⟨[a],[]⟩:=by unfold argsOk;kernel_rfl
theorem jey:Slot "set_iterator" "__iter__" "set_iterator.__iter__":=Slot.of (owner:="set_iterator") (n:="__iter__") (by rw[typeLookup_type,builtinLookup_eq_fast];kernel_rfl)
 (by decide +kernel) (by decide +kernel) (by decide +kernel) (by first | exact .inl (by decide +kernel) | exact .inr (by decide +kernel)) (by rw[Ex];kernel_rfl)
theorem ji2:entryFor table "set_iterator.__iter__"=some D4.«dict_keyiterator.__iter__»:=by exact entryFor_alias (id':="dict_keyiterator.__iter__") (by kernel_rfl) rfl (by decide +kernel) (by kernel_rfl)
theorem jky (a:Af):argsOk "set_iterator.__iter__" ⟨[a],[]⟩:=by unfold argsOk;kernel_rfl
theorem jkk:entryFor table "set.__iter__"=some D4.«frozenset.__iter__»:=by exact entryFor_alias (id':="frozenset.__iter__") (by kernel_rfl) rfl (by decide +kernel) (by kernel_rfl)
def SetIt (h:Heap) (I:Addr) (first:Af) (i:Nat) (a:Addr) (n ep:Nat):Prop:=∃o,h.get? I=some o/\o.cls=.type "set_iterator"/\o.data=.fields #[first,.int i 0,.ref a,.int n 0,.int ep 0]
section
variable {prog:Bg} {w:Br} {A:B4} {E:Af->Ak->Prop} {s:Ak} {I a T:Addr} {n ep i j:Nat} {es:Array (Int×Af)} {t:Ed} {first:Af}
theorem SetIt.typeIs (x:SetIt s.heap I first i a n ep):s.TypeIs (.ref I) "set_iterator":=let⟨o,e,c,_⟩:=x;⟨o,e,c⟩
theorem SetIt.move {h h':Heap} (x:SetIt h I first i a n ep) (k:∀o,h.get? I=some o->h'.get? I=some o):SetIt h' I first i a n ep:=let⟨o,e,r⟩:=x;⟨o,k o e,r⟩
theorem jcu {Q:Af->Ak->Prop} (hit:SetIt s.heap I first i a n ep) (h:Q (.ref I) s):A4 (Ba prog w) A (pyIter (.ref I)) Q E s:=by
 refine wpAny_pyIter_slot hit.typeIs jey (B6 jey hit.typeIs ji2 ?_ (jky _));show A4 _ _ (ret (.ref I)) _ _ s;exact Al ⟨_,rfl,"set_iterator",_,hit.typeIs,slot_setit_next.lookup,h⟩
theorem juy {pl:Array Af} {x:Int×Af} {Q:Option Af->Ak->Prop} (hit:SetIt s.heap I (.ref T) i a n ep) (hs:SetTb w s.heap a es ep t) (hn:es.size=n) (hT:s.heap.IsTuple T pl) (hp:pl[i]?=some (.int j 0)) (hx:es[j]?=some x)
  (hQ:∀h',SetIt h' I (.ref T) (i+1) a n ep->Cs I s.heap h'->Q (some x.2) {s with heap:=h'}):A4 (Ba prog w) A (D6 (.ref I)) Q E s:=by
 obtain⟨o,ho,hc,hd⟩:=id hit;obtain⟨oa,hoa,_,hda⟩:=hs.obj;obtain⟨ol,hol,_,nl,hdl⟩:=hT;unfold D6;refine Aa (El (Bv (name:=C0 "__next__") hit.typeIs slot_setit_next (B6 slot_setit_next hit.typeIs jbq ?_ (jbu _))));refine Aa (Al ?_);refine Aa (Fu ho hd ?_);dsimp only;refine Aa (Dk hoa hda hs.fits ?_);rw[if_neg (by rw[hn];simp)];refine Aa (Dd hol hdl ?_);simp only[Bp,hp];refine Aa ?_;unfold setNextDrawn;refine Aa (Ep hoa hda hs.fits ?_);simp only[Bp,bne_self_eq_false,Ce,if_false,hx];refine Al ?_;refine Aa (C2 ho hd (by simp) (Al ⟨x.2,rfl,Al (hQ _ ?_ (Bh ..))⟩));exact⟨_,Bs _ ho (C3 (B1 hd _)),(Ek ..).trans hc,by
  rw[B1 hd];simp[Cf]⟩
theorem ju2 {pl:Array Af} {Q:Option Af->Ak->Prop} (hh:A.handled=none) (hit:SetIt s.heap I (.ref T) i a n ep) (hs:SetTb w s.heap a es ep t) (hn:es.size=n) (hT:s.heap.IsTuple T pl) (hp:pl[i]?=none)
  (hQ:∀h',Heap.ExtBut I s.heap h'->Q none {s with heap:=h'}):A4 (Ba prog w) A (D6 (.ref I)) Q E s:=by
 obtain⟨ol,hol,_,nl,hdl⟩:=hT;obtain⟨o,ho,hc,hd⟩:=id hit;obtain⟨oa,hoa,_,hda⟩:=hs.obj;unfold D6;refine Aa (El (Bv (name:=C0 "__next__") hit.typeIs slot_setit_next (B6 slot_setit_next hit.typeIs jbq ?_ (jbu _))));refine Aa (Al ?_);refine Aa (Fu ho hd ?_);dsimp only;refine Aa (Dk hoa hda hs.fits ?_);rw[if_neg (by rw[hn];simp)];refine Aa (Dd hol hdl ?_);simp only[Bp,hp];refine Aa (C2 ho hd (by simp) ?_);have ho2:=Bs (Obj.mapFields (·.setIfInBounds 0 (Cf 0))) ho (C3 (B1 hd _));have hd2:=B1 hd (·.setIfInBounds 0 (Cf 0));refine Aa (C2 ho2 hd2 (by simp) ?_);refine Aa ?_;simp only[newExc,newTuple];refine Aa (Bt ?_ (by size_fits));refine Aa (m:=Eb _ _) (wpAny_of_eq (a:=Be) (by first | rfl | (simp only[Eb];rfl)) ?_);refine Bt ?_ (by size_fits);simp only[raiseNew];refine Aa (wpAny_handled ?_)
 first | rw[show A.in1.handled=none from hh] | rw[hh]
 refine Aa (Al (wpAny_throw ?_));refine Aa (Gd (T:="StopIteration") (b:=true) ⟨_,A2 _ rfl,rfl⟩ isSubtype_stop ?_);exact Al (hQ _ (((((Bh ..).trans (Bh ..)).extBut).push _).push _))
def jh6 (w:Br) (a:Addr) (ep:Nat) (es:Array (Int×Af)):Array (Int×Af):=pickOrder (w.params.setOrder a ep) es
theorem jpb {Q:Option (Af×Nat)->Ak->Prop} {k:Nat} (hb:byTx w=true) (hs:SetTb w s.heap a es ep t) (h:Q (((jh6 w a ep es)[i]?).map λe=>(e.2,k)) s):A4 (Ba prog w) A (setNext a k i ep) Q E s:=by
 obtain⟨oa,hoa,_,hda⟩:=hs.obj;unfold setNext;refine Aa (Ep hoa hda hs.fits ?_);dsimp only;refine Aa (jnm ?_);rw[hb];simp only[↓reduceIte,bne_self_eq_false,Ce,if_false];refine Aa ?_;unfold setWalk;refine Aa (Ep hoa hda hs.fits ?_);dsimp only;refine Aa (jnm ?_);rw[hb];simp only[↓reduceIte];refine Aa (wpAny_askSetting (Al (Al h)))
theorem juz {x:Int×Af} {Q:Option Af->Ak->Prop} (hb:byTx w=true) (hit:SetIt s.heap I (.int 0 0) i a n ep) (hs:SetTb w s.heap a es ep t) (hn:es.size=n) (hx:(jh6 w a ep es)[i]?=some x)
  (hQ:∀h',SetIt h' I (.int 0 0) (i+1) a n ep->Cs I s.heap h'->Q (some x.2) {s with heap:=h'}):A4 (Ba prog w) A (D6 (.ref I)) Q E s:=by
 obtain⟨o,ho,hc,hd⟩:=id hit;obtain⟨oa,hoa,_,hda⟩:=hs.obj;unfold D6;refine Aa (El (Bv (name:=C0 "__next__") hit.typeIs slot_setit_next (B6 slot_setit_next hit.typeIs jbq ?_ (jbu _))));refine Aa (Al ?_);refine Aa (Fu ho hd ?_);dsimp only;refine Aa (Dk hoa hda hs.fits ?_);rw[if_neg (by rw[hn];simp)];refine Aa (jpb hb hs ?_);simp only[Bp,hx,Ez];refine Aa (C2 ho hd (by simp) ?_);have ho2:=Bs (Obj.mapFields (·.setIfInBounds 0 (Cf ((0:Int).toNat:Nat)))) ho (C3 (B1 hd _));have hd2:=B1 hd (·.setIfInBounds 0 (Cf ((0:Int).toNat:Nat)));refine Aa (C2 ho2 hd2 (by simp) (Al ⟨x.2,rfl,Al (hQ _ ?_ ((Bh ..).trans (Bh ..)))⟩));exact⟨_,Bs _ ho2 (C3 (B1 hd2 _)),(Ek ..).trans ((Ek ..).trans hc),by
  rw[B1 hd2];simp[Cf]⟩
theorem ju3 {Q:Option Af->Ak->Prop} (hh:A.handled=none) (hb:byTx w=true) (hit:SetIt s.heap I (.int 0 0) i a n ep) (hs:SetTb w s.heap a es ep t) (hn:es.size=n) (hx:(jh6 w a ep es)[i]?=none)
  (hQ:∀h',Heap.ExtBut I s.heap h'->Q none {s with heap:=h'}):A4 (Ba prog w) A (D6 (.ref I)) Q E s:=by
 obtain⟨o,ho,hc,hd⟩:=id hit;obtain⟨oa,hoa,_,hda⟩:=hs.obj;unfold D6;refine Aa (El (Bv (name:=C0 "__next__") hit.typeIs slot_setit_next (B6 slot_setit_next hit.typeIs jbq ?_ (jbu _))));refine Aa (Al ?_);refine Aa (Fu ho hd ?_);dsimp only;refine Aa (Dk hoa hda hs.fits ?_);rw[if_neg (by rw[hn];simp)];refine Aa (jpb hb hs ?_);simp only[Bp,hx,Option.map_none];refine Aa (C2 ho hd (by simp) ?_);refine Aa ?_;simp only[newExc,newTuple];refine Aa (Bt ?_ (by size_fits));refine Aa (m:=Eb _ _) (wpAny_of_eq (a:=Be) (by first | rfl | (simp only[Eb];rfl)) ?_);refine Bt ?_ (by size_fits);simp only[raiseNew];refine Aa (wpAny_handled ?_)
 first | rw[show A.in1.handled=none from hh] | rw[hh]
 refine Aa (Al (wpAny_throw ?_));refine Aa (Gd (T:="StopIteration") (b:=true) ⟨_,A2 _ rfl,rfl⟩ isSubtype_stop ?_);exact Al (hQ _ (((Bh ..).extBut.push _).push _))
theorem jpa {Q:Option (Af×Nat)->Ak->Prop} {k:Nat} (hb:byTx w=false) (h1:es.size<=1) (hs:SetTb w s.heap a es ep t)
  (h:Q (match es[Dx t.place k]?,t.place[Dx t.place k]? with
   |some (_,x),some j=>some (x,j+1)
   |_,_=>none) s):A4 (Ba prog w) A (setNext a k i ep) Q E s:=by
 obtain⟨oa,hoa,_,hda⟩:=hs.obj;have hl:t.led=true:=by rw[hs.led,hb];rfl
 unfold setNext;refine Aa (Ep hoa hda hs.fits ?_);dsimp only;refine Aa (jnm ?_);rw[hb];simp only[Ce,↓reduceIte];have hd:(!t.plain&&decide (es.size > 1))=false:=by
  have:decide (es.size > 1)=false:=decide_eq_false (by omega);rw[this,Bool.and_false]
 split
 ·rename_i z;have z':(!t.plain&&decide (es.size > 1))=true:=z;rw[hd]at z';cases z'
 ·refine Aa (wpAny_of_eq (a:=()) ?_ (Al h));show(if (!t.led&&!es.isEmpty)=true then unsupported "set:maker-not-led" else pure ())=pure ();rw[hl];rfl
theorem jqp {j:Nat}:Dx #[j] 0=0/\Dx #[j] (j+1)=1:=by
 constructor
 ·simp[Dx,SetTable.below.go]
 ·simp[Dx,SetTable.below.go]
theorem jux {x:Int×Af} {Q:Option Af->Ak->Prop} (hb:byTx w=false) (hp:t.place=#[j]) (he:es=#[x]) (hit:SetIt s.heap I (.int 0 0) 0 a 1 ep) (hs:SetTb w s.heap a es ep t)
  (hQ:∀h',SetIt h' I (.int ((j+1:Nat):Int) 0) 1 a 1 ep->Cs I s.heap h'->Q (some x.2) {s with heap:=h'}):A4 (Ba prog w) A (D6 (.ref I)) Q E s:=by
 have hn:es.size=1:=by rw[he];rfl
 obtain⟨o,ho,hc,hd⟩:=id hit;obtain⟨oa,hoa,_,hda⟩:=hs.obj;unfold D6;refine Aa (El (Bv (name:=C0 "__next__") hit.typeIs slot_setit_next (B6 slot_setit_next hit.typeIs jbq ?_ (jbu _))));refine Aa (Al ?_);refine Aa (Fu ho hd ?_);dsimp only;refine Aa (Dk hoa hda hs.fits ?_);rw[if_neg (by rw[hn];simp)];refine Aa (jpa hb (by omega) hs ?_);have b1:Dx t.place (0:Int).toNat=0:=by rw[hp];exact jqp.1
 rw[b1,hp,he];show A4 _ _ (setField (.ref I) 0 (Cf ((j+1:Nat):Int))>>=_) _ _ _;refine Aa (C2 ho hd (by simp) ?_);have ho2:=Bs (Obj.mapFields (·.setIfInBounds 0 (Cf ((j+1:Nat):Int)))) ho (C3 (B1 hd _));have hd2:=B1 hd (·.setIfInBounds 0 (Cf ((j+1:Nat):Int)));refine Aa (C2 ho2 hd2 (by simp) (Al ⟨x.2,rfl,Al (hQ _ ?_ ((Bh ..).trans (Bh ..)))⟩));exact⟨_,Bs _ ho2 (C3 (B1 hd2 _)),(Ek ..).trans ((Ek ..).trans hc),by
  rw[B1 hd2];simp[Cf]⟩
theorem jpc {k:Nat} {Q:Option Af->Ak->Prop} (hh:A.handled=none) (hb:byTx w=false) (h1:es.size<=1) (hk:es[Dx t.place k]?=none) (hit:SetIt s.heap I (.int (k:Int) 0) i a n ep) (hs:SetTb w s.heap a es ep t) (hn:es.size=n)
  (hQ:∀h',Heap.ExtBut I s.heap h'->Q none {s with heap:=h'}):A4 (Ba prog w) A (D6 (.ref I)) Q E s:=by
 obtain⟨o,ho,hc,hd⟩:=id hit;obtain⟨oa,hoa,_,hda⟩:=hs.obj;unfold D6;refine Aa (El (Bv (name:=C0 "__next__") hit.typeIs slot_setit_next (B6 slot_setit_next hit.typeIs jbq ?_ (jbu _))));refine Aa (Al ?_);refine Aa (Fu ho hd ?_);dsimp only;refine Aa (Dk hoa hda hs.fits ?_);rw[if_neg (by rw[hn];simp)];refine Aa (jpa hb h1 hs ?_);rw[Bp,hk];dsimp only;refine Aa (C2 ho hd (by simp) ?_);refine Aa ?_;simp only[newExc,newTuple];refine Aa (Bt ?_ (by size_fits));refine Aa (m:=Eb _ _) (wpAny_of_eq (a:=Be) (by first | rfl | (simp only[Eb];rfl)) ?_);refine Bt ?_ (by size_fits);simp only[raiseNew];refine Aa (wpAny_handled ?_)
 first | rw[show A.in1.handled=none from hh] | rw[hh]
 refine Aa (Al (wpAny_throw ?_));refine Aa (Gd (T:="StopIteration") (b:=true) ⟨_,A2 _ rfl,rfl⟩ isSubtype_stop ?_);exact Al (hQ _ (((Bh ..).extBut.push _).push _))
end
section
variable {prog:Bg} {w:Br} {A:B4} {E:Af->Ak->Prop} {s:Ak} {a:Addr} {ep:Nat} {es:Array (Int×Af)} {t:Ed}
def jqr (vs:List (Int×Af)) (i:Nat) (v:Af):Prop:=∃e,vs[i]?=some e/\v=e.2
structure SetWk (prog:Bg) (w:Br) (sz:Nat) (h':Heap) (a I:Addr) (vs:List (Int×Af)):Prop where
 above:sz<=I
 walk:∃(fp:List Addr) (St:Nat->Heap->Prop),(∀b∈fp,b=a\/sz<=b)/\(∀b∈fp,b < h'.objs.size)/\(∀A:B4,A.handled=none->Walks prog w A I fp [I] vs.length (jqr vs) St)/\St 0 h'
theorem j3x {α:Type} {xs:Array α} {j:Nat} {d:α} (h:j < xs.size):xs[j]?=some (xs.getD j d):=by
 simp[h]
theorem jt6 {ys:List Nat} {n:Nat} (hp:ys.Perm (Bq n)) (hn:es.size=n):(ys.map λj=>es.getD j (0,Be)).Perm es.toList:=by
 have h1:=hp.map λj=>es.getD j ((0:Int),Be);have h2:(Bq n).map (λj=>es.getD j ((0:Int),Be))=es.toList:=by
  apply Fr9 (by simp[hn]);intro i h1 h2;simp at h2;simp[h2]
 rw[h2]at h1;exact h1
theorem j14 {I T:Addr} {ys:List Nat} {n:Nat} (hne:a≠I) (hTI:T≠I) (hp:ys.Perm (Bq n)) (hn:es.size=n) (A:B4) (hh:A.handled=none) :
  Walks prog w A I [I,a,T] [I] (ys.map λj=>es.getD j (0,Be)).length (jqr (ys.map λj=>es.getD j (0,Be)))
   (λi h=>SetIt h I (.ref T) i a n ep/\SetTb w h a es ep t/\h.IsTuple T (ys.map λ(j:Nat)=>Value.int (j:Int) 0).toArray) where
 sub:=λb hb=>by simp at hb;simp[hb]
 frame:=λ_ _ _ st hk=>⟨st.1.move λo e=>hk I (by simp) o e,st.2.1.move λo e=>hk a (by simp) o e,let⟨o,e,r⟩:=st.2.2;⟨o,hk T (by simp) o e,r⟩⟩
 item:=λi s Q E hi st hQ=>by
  rw[Ab]at hi;have hj:ys[i] < es.size:=by rw[hn];exact C7.mp (hp.mem_iff.mp (C5 hi))
  refine juy (j:=ys[i]) st.1 st.2.1 hn st.2.2 (by simp[hi]) (j3x (d:=(0,Be)) hj) λh' hit' hs'=>?_;refine hQ _ h' s.toks ⟨_,by rw[Ay,Aj hi];rfl,rfl⟩ ⟨hit',st.2.1.move λo e=>(hs'.2 a hne).trans e,let⟨o,e,r⟩:=st.2.2;⟨o,(hs'.2 T hTI).trans e,r⟩⟩ λb o hb e=>hs'.extBut b o (λh=>hb (by simp[h])) e
 done:=λs Q E st hQ=>ju2 hh st.1 st.2.1 hn st.2.2 (by simp) λh' he'=>hQ h' s.toks λb o hb e=>he' b o (λh=>hb (by simp[h])) e
 self:=λ_ _ _ _ st hQ=>jcu st.1 hQ
theorem j15 {I:Addr} {n:Nat} (hb:byTx w=true) (hne:a≠I) (hn:es.size=n) (A:B4) (hh:A.handled=none) :
  Walks prog w A I [I,a] [I] (jh6 w a ep es).toList.length (jqr (jh6 w a ep es).toList) (λi h=>SetIt h I (.int 0 0) i a n ep/\SetTb w h a es ep t) where
 sub:=λb hb=>by simp at hb;simp[hb]
 frame:=λ_ _ _ st hk=>⟨st.1.move λo e=>hk I (by simp) o e,st.2.move λo e=>hk a (by simp) o e⟩
 item:=λi s Q E hi st hQ=>by
  rw[Cm]at hi;have hx:(jh6 w a ep es)[i]?=some (jh6 w a ep es)[i]:=Dp hi;refine juz hb st.1 st.2 hn hx λh' hit' hs'=>?_;exact hQ _ h' s.toks ⟨_,by rw[Array.getElem?_toList];exact hx,rfl⟩ ⟨hit',st.2.move λo e=>(hs'.2 a hne).trans e⟩ λb o hb e=>hs'.extBut b o (λh=>hb (by simp[h])) e
 done:=λs Q E st hQ=>ju3 hh hb st.1 st.2 hn (by simp) λh' he'=>hQ h' s.toks λb o hb e=>he' b o (λh=>hb (by simp[h])) e
 self:=λ_ _ _ _ st hQ=>jcu st.1 hQ
theorem j17 {I:Addr} (hb:byTx w=false) (hn:es.size=0) (A:B4) (hh:A.handled=none) :
  Walks prog w A I [I,a] [I] ([]:List (Int×Af)).length (jqr []) (λ_ h=>SetIt h I (.int ((0:Nat):Int) 0) 0 a 0 ep/\SetTb w h a es ep t) where
 sub:=λb hb=>by simp at hb;simp[hb]
 frame:=λ_ _ _ st hk=>⟨st.1.move λo e=>hk I (by simp) o e,st.2.move λo e=>hk a (by simp) o e⟩
 item:=λi s Q E hi st hQ=>by simp at hi
 done:=λs Q E st hQ=>jpc (k:=0) hh hb (by omega) (by rw[Array.getElem?_eq_none];omega) st.1 st.2 hn λh' he'=>hQ h' s.toks λb o hb e=>he' b o (λh=>hb (by simp[h])) e
 self:=λ_ _ _ _ st hQ=>jcu st.1 hQ
theorem j16 {I:Addr} {x:Int×Af} {j:Nat} (hb:byTx w=false) (hne:a≠I) (he:es=#[x]) (hp:t.place=#[j]) (A:B4) (hh:A.handled=none) :
  Walks prog w A I [I,a] [I] [x].length (jqr [x]) (λi h=>((i=0/\SetIt h I (.int 0 0) 0 a 1 ep)\/(i=1/\SetIt h I (.int ((j+1:Nat):Int) 0) 1 a 1 ep))/\SetTb w h a es ep t) where
 sub:=λb hb=>by simp at hb;simp[hb]
 frame:=λ_ _ _ st hk=>⟨st.1.imp (λz=>⟨z.1,z.2.move λo e=>hk I (by simp) o e⟩) (λz=>⟨z.1,z.2.move λo e=>hk I (by simp) o e⟩),st.2.move λo e=>hk a (by simp) o e⟩
 item:=λi s Q E hi st hQ=>by
  have hi0:i=0:=by simpa using hi
  subst hi0;rcases st.1 with⟨_,z⟩ | ⟨z,_⟩
  ·refine jux hb hp he z st.2 λh' hit' hs'=>?_;exact hQ _ h' s.toks ⟨x,rfl,rfl⟩ ⟨.inr ⟨rfl,hit'⟩,st.2.move λo e=>(hs'.2 a hne).trans e⟩ λb o hb e=>hs'.extBut b o (λh=>hb (by simp[h])) e
  ·cases z
 done:=λs Q E st hQ=>by
  rcases st.1 with⟨z,_⟩ | ⟨_,z⟩
  ·cases z
  ·refine jpc (k:=j+1) hh hb (by rw[he];exact An 1) ?_ z st.2 (by rw[he];rfl) λh' he'=>hQ h' s.toks λb o hb e=>he' b o (λh=>hb (by simp[h])) e;rw[hp,jqp.2,he];rfl
 self:=λi s Q E st hQ=>by
  rcases st.1 with⟨_,z⟩ | ⟨_,z⟩
  ·exact jcu z hQ
  ·exact jcu z hQ
theorem j2d {Q:Af->Ak->Prop} (hs:SetTb w s.heap a es ep t) (h64:es.size < 64)
  (h:∀(h':Heap) (dr:Drawn) (I:Addr) (vs:List (Int×Af)),vs.Perm es.toList->(∀b o,s.heap.get? b=some o->h'.get? b=some o)->SetWk prog w s.heap.objs.size h' a I vs->Q (.ref I) {s with heap:=h',drawn:=dr}) :
  A4 (Ba prog w) A (pyIter (.ref a)) Q E s:=by
 obtain⟨oa,hoa,hex,hda⟩:=hs.obj;have hlt:=hs.lt;refine wpAny_pyIter_slot hs.typeIs F.slot_set_iter (B6 F.slot_set_iter hs.typeIs jkk ?_ (F.args_set_iter_1 _));refine Aa (Al ?_);refine Aa (Aa (Dk hoa hda hs.fits (Al ?_)));refine Aa ?_;unfold setDrawn;refine Aa (Ep hoa hda hs.fits ?_);dsimp only;refine Aa (jnm ?_);refine Al ?_
 split
 ·rename_i hd;refine Aa (ju1 es.size (Bq es.size) s (by simp) λys dr hp=>?_);have hly:ys.length=es.size:=by rw[hp.length_eq,Ei]
  refine Aa (wpAny_newTuple ?_ (by rw[Ab,hly,Dn];omega));have hoa1:=Ae ({cls:=.type "tuple",data:=.seq (ys.map λ(i:Nat)=>Cf i).toArray}:Obj) hoa;refine Aa (wpAny_setEpoch_of hoa1 hda hs.fits ?_);refine Aa (Bt (Al ⟨_,rfl,"set_iterator",_,⟨_,A2 _ rfl,rfl⟩,slot_setit_next.lookup,?_⟩));have hT:(s.heap.push ({cls:=.type "tuple",data:=.seq (ys.map λ(i:Nat)=>Cf i).toArray}:Obj)).get? s.heap.objs.size=some {cls:=.type "tuple",data:=.seq (ys.map λ(i:Nat)=>Cf i).toArray}:=A2 _ rfl;refine h _ dr _ (ys.map λj=>es.getD j (0,Be)) (jt6 hp rfl) (λb o e=>Ae _ (Ae _ e)) ⟨by rw[B7];exact Nat.le_succ _,[_,a,s.heap.objs.size],_,λb hb=>?_,λb hb=>?_,λA hh=>j14 (t:=t) (ep:=ep) (T:=s.heap.objs.size) (by rw[B7];exact Bb (Db hlt)) (by rw[B7];exact Bb (Fv _)) hp rfl A hh,⟨⟨_,A2 _ rfl,rfl,rfl⟩,hs.move λo e=>Ae _ (Ae _ e),⟨_,Ae _ hT,rfl,_,rfl⟩⟩⟩
  ·simp only[As,Aw,or_false]at hb;rcases hb with rfl | rfl | rfl
   ·rw[B7];exact .inr (Nat.le_succ _)
   ·exact .inl rfl
   ·exact .inr (An _)
  ·simp only[As,Aw,or_false]at hb;rw[B7,B7];rcases hb with rfl | rfl | rfl
   ·rw[B7];exact Fv _
   ·exact Db (Db hlt)
   ·exact Db (Fv _)
 ·rename_i hd;refine Aa (Al ?_);refine Aa (wpAny_setEpoch_of hoa hda hs.fits ?_);refine Aa (Bt (Al ⟨_,rfl,"set_iterator",_,⟨_,A2 _ rfl,rfl⟩,slot_setit_next.lookup,?_⟩));have hit:SetIt (s.heap.push {cls:=.type "set_iterator",data:=.fields #[Cf 0,Cf 0,.ref a,Cf es.size,Cf ep]}) s.heap.objs.size (.int 0 0) 0 a es.size ep:=⟨_,A2 _ rfl,rfl,rfl⟩;have hst:SetTb w (s.heap.push {cls:=.type "set_iterator",data:=.fields #[Cf 0,Cf 0,.ref a,Cf es.size,Cf ep]}) a es ep t:=hs.move λo e=>Ae _ e;have kp:∀b o,s.heap.get? b=some o->(s.heap.push {cls:=.type "set_iterator",data:=.fields #[Cf 0,Cf 0,.ref a,Cf es.size,Cf ep]}).get? b=some o:=λb o e=>Ae _ e;have f1:∀b∈[s.heap.objs.size,a],b=a\/s.heap.objs.size<=b:=λb hb=>by
   simp only[As,Aw,or_false]at hb;rcases hb with rfl | rfl
   ·exact .inr (An _)
   ·exact .inl rfl
  have f2:∀b∈[s.heap.objs.size,a],b < (s.heap.push {cls:=.type "set_iterator",data:=.fields #[Cf 0,Cf 0,.ref a,Cf es.size,Cf ep]}).objs.size:=λb hb=>by
   simp only[As,Aw,or_false]at hb;rw[B7];rcases hb with rfl | rfl
   ·exact Fv _
   ·exact Db hlt
  have hne:a≠s.heap.objs.size:=Bb hlt;cases hb:byTx w with
  |true=>exact h _ s.drawn _ (jh6 w a ep es).toList (jtj _ _) kp ⟨An _,[s.heap.objs.size,a],_,f1,f2,λA hh=>j15 (t:=t) hb hne rfl A hh,⟨hit,hst⟩⟩
  |false =>
   have hd0:¬((!byTx w&&(!t.plain&&decide (es.size > 1)))=true):=hd;have hd':(!byTx w&&(!t.plain&&decide (es.size > 1)))=false:=by simpa using hd0
   have h1:es.size<=1:=by
    rw[hb]at hd';by_cases hz:es.size<=1
    ·exact hz
    ·have hg:decide (es.size > 1)=true:=decide_eq_true (by omega);rw[hg]at hd';have hpl:t.plain=true:=by simpa using hd'
     have:=hs.plain hpl;omega
   by_cases h0:es.size=0
   ·have e0:es.toList=[]:=Fz (by simpa using h0);refine h _ s.drawn _ [] (by rw[e0]) kp ⟨An _,[s.heap.objs.size,a],_,f1,f2,λA hh=>j17 (t:=t) (ep:=ep) hb h0 A hh,⟨?_,hst⟩⟩;rw[h0]at hit ⊢;exact hit
   ·have h1':es.size=1:=by omega
    obtain⟨x,hx⟩:∃x,es=#[x]:=by
     have:es.toList.length=1:=by simpa using h1'
     obtain⟨x,hx⟩:=List.length_eq_one_iff.mp this;exact⟨x,Fq.mp hx⟩
    have hps:t.place.size=1:=by
     have:=hs.fits;simp only[SetTable.fits,Cj,beq_iff_eq]at this;rw[this.1,h1']
    obtain⟨j,hj⟩:∃j,t.place=#[j]:=by
     have:t.place.toList.length=1:=by simpa using hps
     obtain⟨x,hx⟩:=List.length_eq_one_iff.mp this;exact⟨x,Fq.mp hx⟩
    refine h _ s.drawn _ [x] (by rw[hx]) kp ⟨An _,[s.heap.objs.size,a],_,f1,f2,λA hh=>j16 (t:=t) (ep:=ep) hb hne hx hj A hh,⟨.inl ⟨rfl,?_⟩,hst⟩⟩;rw[h1']at hit ⊢;exact hit
end
theorem jol:entryFor table "proto.collect"=some D4.«proto.collect»:=Ge (by kernel_rfl)
theorem jt5:entryFor table "list.__iadd__"=some D4.«list.__iadd__»:=Ge (by kernel_rfl)
section
variable {prog:Bg} {w:Br} {A:B4} {E:Af->Ak->Prop} {s:Ak} {a:Addr} {ep:Nat} {es:Array (Int×Af)} {t:Ed}
theorem j2e {Q:Bool->Ak->Prop} (hT:s.TypeIs (.ref a) "set") (h:Q false s):A4 (Ba prog w) A (Builtin.List.listLengthHint (.ref a)) Q E s:=by
 unfold Builtin.List.listLengthHint;refine Aa (wpAny_specialOf hT F.slot_set_len.lookup ?_);generalize hid:("set.__len__":String)=id0
 wp_delta
 rw[show splitId id0=some ("set","__len__")from by subst hid;decide +kernel];subst hid;refine Aa (Gd (T:="set") (b:=true) hT (by rw[Ex];kernel_rfl) ?_);refine wpAny_ite_split (λhab=>absurd hab (by decide)) (λ_=>?_);refine wpAny_ite_split (λ_=>?_) (λhab=>absurd (by decide +kernel) hab);refine Aa (Ft hT ?_);exact Al h
theorem ju0 {R:Result->Ak->Prop} (hh:A.handled=none) (hs:SetTb w s.heap a es ep t) (h64:es.size < 64) (S:Addr) (hSa:S≠a) (res:Af) (hS:s.heap.get? S=some {cls:=.type "list",data:=.seq #[]})
  (hR:∀h' tk dr (vs:List (Int×Af)) acc c,vs.Perm es.toList->(∀b o,b≠S->s.heap.get? b=some o->h'.get? b=some o)->h'.get? S=some {cls:=.type "list",dict:=none,data:=.seq acc c,slots:=#[]}->ItemsOf (jqr vs) acc vs.length->R (.ok (.ret res)) {s with heap:=h',toks:=tk,drawn:=dr}) :
  A4 (Ba prog w) A.in1 (Fn (.ref S) (.ref a) res)
   (λfin s'=>match fin with | .done f=>R (.ok f) s' | .again c'=>c'.quiet=true/\Fg (Ba prog w) A c' R s') (λe s'=>R (.error e) s') s:=by
 unfold Fn;refine Aa (Ft (T:="set") hs.typeIs ?_);have h1:Builtin.List.listSameRef (.ref S) (.ref a)=false:=by simp[Builtin.List.listSameRef,hSa]
 have h2:(D8 "set"==D8 "list")=false:=by decide
 have h3:(D8 "set"==D8 "tuple")=false:=by decide
 simp only[h1,h2,h3,Bool.or_false,Ce,if_false];refine Aa (j2d (A:=A.in1) hs h64 λh' dr I vs hp hk hw=>?_);obtain⟨hI,fp,St,hf1,hf2,W,st⟩:=hw;have hSlt:S < s.heap.objs.size:=Av hS;have hSf:S∉fp:=λhm=>(hf1 S hm).elim hSa λz=>Eg _ (Bj hSlt z);have hS1:=hk S _ hS;have hlen:vs.length=es.size:=by rw[hp.length_eq,Cm]
 have key:∀(h:Heap) (c₁ tk:Nat),St 0 h->(∀b o,b≠S->s.heap.get? b=some o->h.get? b=some o) ->
   h.get? S=some {cls:=.type "list",data:=.seq #[] c₁}->Fg (Ba prog w) A (.builtin "list.extend.loop" ⟨[.ref S,.ref I,res],[]⟩) R {s with heap:=h,toks:=tk,drawn:=dr}:=by
  intro h c₁ tk hst hk2 hS₁;refine codeAny_extend_loopS (W A.in1 hh).toS (by rw[hlen,Dn];omega) S hSf res vs.length 0 _ #[] c₁ rfl (Bm _) hst hS₁ (ItemsOf.nil _) λs' acc' c' hm hS' hacc=>?_;rw[Moved.eq_with hm];refine hR s'.heap s'.toks dr vs acc' c' hp (λb o hb e=>hm.heap b o (λhmem=>?_) (hk2 b o hb e)) hS' hacc;rcases As.mp hmem with e' | hmem
  ·exact hb e'
  ·have hbI:=Bd.mp hmem;exact absurd (Av e) (by rw[hbI];exact Nat.not_lt.mpr hI)
 refine Aa (Ck (j2e (s:={ s with heap:=h',drawn:=dr}) (hs.move λo e=>hk a o e).typeIs ?_));refine wpAny_ite_split (λ_=>?_) (λ_=>Al ⟨Fc PySem.F.plain_extend_loop _,key _ 0 _ st (λb o _ e=>hk b o e) hS1⟩);refine Aa (Gc ?_);refine Aa ?_;show A4 _ _ (updateSeq S (·.push .none)>>=λ_=>updateSeq S (·.pop)) _ _ _;refine Aa (wpAny_updateSeq hS1 rfl ?_);have hS₂:=Bs (Cg (·.push Be)) hS1 rfl;refine wpAny_updateSeq (hz:=by seq_fits) hS₂ rfl ?_;have hS₃:=Bs (Cg (·.pop)) hS₂ rfl;refine Al ⟨Fc PySem.F.plain_extend_loop _,key _ _ _ ?_ (λb o hb e=>?_) hS₃⟩
 ·refine(W A hh).frame 0 _ _ st λb hb o e=>?_;have hbS:b≠S:=λh=>hSf (h▸hb);exact(Dh _ _ (Ne.symm hbS)).trans ((Dh _ _ (Ne.symm hbS)).trans e)
 ·exact(Dh _ _ (Ne.symm hb)).trans ((Dh _ _ (Ne.symm hb)).trans (hk b o e))
theorem js1 {vs:List (Int×Af)} {acc:Array Af} (h:ItemsOf (jqr vs) acc vs.length):acc.toList=vs.map (·.2):=by
 apply List.ext_getElem?;intro i;by_cases hi:i < vs.length
 ·have hi2:i < acc.size:=by rw[h.1];exact hi
  obtain⟨e,e1,e2⟩:=h.2 i acc[i] (Dp hi2);rw[Ay,e1,Array.getElem?_toList,Dp hi2,e2];rfl
 ·rw[Fp (by rw[Cm,h.1];omega),Fp (by rw[Ab];omega)]
theorem jtk {R:List Af->Ak->Prop} (hh:A.handled=none) (hs:SetTb w s.heap a es ep t) (h64:es.size < 64)
  (h:∀(h':Heap) (tk:Nat) (dr:Drawn) (vs:List (Int×Af)),vs.Perm es.toList->(∀b o,s.heap.get? b=some o->h'.get? b=some o)->R (vs.map (·.2)) {s with heap:=h',toks:=tk,drawn:=dr}) :
  A4 (Ba prog w) A (collect (.ref a)) R E s:=by
 unfold collect;refine Aa (wpAny_runValue (Dz jol ?_));rw[C6 PySem.F.plain_proto_collect _];show A4 _ A.in1 (newList []>>=λl=>again (.builtin "list.__iadd__" ⟨[l,.ref a],[]⟩)) _ _ s;refine Aa (Bt ?_);refine Al ⟨Fc PySem.F.plain_list_iadd _,Dz jt5 ?_⟩;rw[C6 PySem.F.plain_list_iadd _];have hS₁:(s.heap.push {cls:=.type "list",data:=.seq ([]:List Af).toArray}).get? s.heap.objs.size=some {cls:=.type "list",data:=.seq #[]}:=A2 _ rfl;show A4 _ A.in1 (Fn (.ref s.heap.objs.size) (.ref a) (.ref s.heap.objs.size)) _ _ _;have key:=ju0 (prog:=prog) (A:=A) (s:={ s with heap:=s.heap.push {cls:=.type "list",data:=.seq ([]:List Af).toArray}})
  (R:=λ(q:Result) (s':Ak)=>∃(h':Heap) (tk:Nat) (dr:Drawn) (vs:List (Int×Af)) (acc':Array Af) (c':Nat),q=.ok (.ret (.ref s.heap.objs.size))/\s'={ s with heap:=h',toks:=tk,drawn:=dr}/\vs.Perm es.toList /\
   (∀b o,s.heap.get? b=some o->h'.get? b=some o)/\h'.get? s.heap.objs.size=some {cls:=.type "list",dict:=none,data:=.seq acc' c',slots:=#[]}/\ItemsOf (jqr vs) acc' vs.length)
  hh (hs.move λo e=>Ae _ e) h64 s.heap.objs.size (Du hs.lt) (.ref s.heap.objs.size) hS₁
  (λh' tk dr vs acc' c' hp hk hS' hacc=>⟨h',tk,dr,vs,acc',c',rfl,rfl,hp,λb o e=>hk b o (Bb (Av e)) (Ae _ e),hS',hacc⟩)
 refine Cu key (λfin s' x=>?_) λe s' x=>?_
 ·cases fin with
  |done f =>
   obtain⟨h',tk,dr,vs,acc',c',e,rfl,hp,hk,hS',hacc⟩:=x;cases e;show A4 _ A (load s.heap.objs.size>>=_) _ _ _;refine Aa (wpAny_load hS' ?_);refine Al ?_;rw[js1 hacc];exact h h' tk dr vs hp hk
  |again c₁ =>
   refine⟨x.1,codeAny_mono x.2 λq s₂ y=>?_⟩;obtain⟨h',tk,dr,vs,acc',c',rfl,rfl,hp,hk,hS',hacc⟩:=y;show A4 _ A (load s.heap.objs.size>>=_) _ _ _;refine Aa (wpAny_load hS' ?_);refine Al ?_;rw[js1 hacc];exact h h' tk dr vs hp hk
 ·obtain⟨_,_,_,_,_,_,z,_⟩:=x;cases z
end
def set0 (w:Br):Obj:={ cls:=.type "set",dict:=none,data:=.set #[] 0 (.fresh 0 0 (!byTx w))}
section
variable {prog:Bg} {w:Br} {A:B4} {E:Af->Ak->Prop} {s:Ak}
theorem j2r {h:Heap} {a:Addr} (e:h.get? a=some (set0 w)):jk3 w h a [] :=
 ⟨#[],0,.fresh 0 0 (!byTx w),⟨⟨_,e,⟨rfl,rfl,rfl⟩,rfl⟩,rfl,rfl,λ_=>rfl⟩,λe he=>by simp at he,List.Pairwise.nil,λk=>by simp[ksOf],An _⟩
theorem j40 (a:Af) {Q₁:Af->Ak->Prop} (h:Q₁ (.ref s.heap.objs.size) {s with heap:=s.heap.push (set0 w)}) :
  Fg (Ba prog w) A (.call (.builtin "set.__new__") ⟨[.type "set",a],[]⟩) (wants Q₁ E) s:=by
 refine codeAny_of_tree ?_;show A4 _ A.in1 (do checkBuiltinCall "set.__new__" ⟨[.type "set",a],[]⟩;again (.builtin "set.__new__" ⟨[.type "set",a],[]⟩)) _ _ s;refine Aa (wpAny_of_eq (F.newCall_set_1 a) (Al ⟨Fc F.plain_set_new _,Dz F.entry_set_new ?_⟩));rw[C6 F.plain_set_new _];unfold D4.«set.__new__» Builtin.Frozenset.newClass;have hsub:=sub_set_self;obtain⟨hp,g,d,tk,os⟩:=s;dsimp only
 wp_walk
 refine wpAny_askSetting (Al ?_);dsimp only;simp only[newObj];exact Aa (wpAny_alloc (Al (Al h)))
structure TxSrc (prog:Bg) (w:Br) (T:String) (x:Addr) (ks:List Str) (OK:Heap->Prop):Prop where
 type:∀s:Ak,OK s.heap->s.TypeIs (.ref x) T
 there:∀h:Heap,OK h->x < h.objs.size
 keep:∀h h':Heap,OK h->(∀o,h.get? x=some o->h'.get? x=some o)->OK h'
 notSet:isSubtype (.type T) (.type "set")=pure false
 notFrozen:isSubtype (.type T) (.type "frozenset")=pure false
 notDict:(D8 T==D8 "dict")=false
 iter:∀s:Ak,OK s.heap->∃(oI:Obj) (St:Nat->Heap->Prop),
  (∀(A:B4) (E:Af->Ak->Prop) (Q:Af->Ak->Prop),Q (.ref s.heap.objs.size) {s with heap:=s.heap.push oI}->A4 (Ba prog w) A (pyIter (.ref x)) Q E s) /\
  (∀A:B4,A.handled=none->Walks prog w A s.heap.objs.size [s.heap.objs.size,x] [s.heap.objs.size] ks.length (SeqV ks) St)/\St 0 (s.heap.push oI)
set_option maxHeartbeats 3200000 in
theorem jqh {T:String} {x:Addr} {ks:List Str} {OK:Heap->Prop} {Q:Af->Ak->Prop} (K:TxSrc prog w T x ks OK) (hh:A.handled=none) (hok:OK s.heap) (h64:ks.length < 64)
  (h:∀(h':Heap) (tk:Nat),jk3 w h' s.heap.objs.size ks->(∀b o,b < s.heap.objs.size->s.heap.get? b=some o->h'.get? b=some o)->Q (.ref s.heap.objs.size) {s with heap:=h',toks:=tk}) :
  A4 (Ba prog w) A (call (.type "set") [.ref x]) Q E s:=by
 obtain⟨c,tl,hmro⟩:=F.called_set.mro;have hmade:=F.called_set.made;have hsub:=F.called_set.sub;refine wpAny_call (codeAny_of_tree ?_);show A4 _ _ (callAny (.type "set") _) _ _ _;refine Al ⟨Code.quiet_builtin _ (by decide +kernel),Dz F.entry_type_call ?_⟩;rw[Around.under_plain (weight_type_call_type "set" [.ref x] []) rfl];have h1:=F.called_set.notType;have h2:=F.called_set.canCreate;have hct:=F.typeCall_set_1 (.ref x)
 repeat (any_goals (first | assumption | wp_step))
 refine codeAny_mono (j40 (.ref x) (E:=E) (Q₁:=λobj s₁=>obj=.ref s.heap.objs.size/\s₁={ s with heap:=s.heap.push (set0 w)}) ⟨rfl,rfl⟩) λr s₁ hr=>?_;cases r with
 |error e=>exact hr
 |ok fl =>
  cases fl with
  |ret obj =>
   obtain⟨rfl,rfl⟩:=hr;have hS:(s.heap.push (set0 w)).get? s.heap.objs.size=some (set0 w):=A2 _ rfl;have hT:Shared.TypeIs {s with heap:=s.heap.push (set0 w)} (.ref s.heap.objs.size) "set":=⟨_,hS,rfl⟩;have hli:=F.called_set.init.lookup;have hbi:=F.called_set.init.bind (.ref s.heap.objs.size)
   repeat (any_goals (first | assumption | wp_step))
   refine codeAny_mono (codeAny_call_builtin (R:=wants (λr s₂=>r=.none/\∃h' tk,s₂={ s with heap:=h',toks:=tk}/\jk3 w h' s.heap.objs.size ks /\
     (∀b o,b < s.heap.objs.size->s.heap.get? b=some o->h'.get? b=some o)) E) F.called_set.init.plain F.entry_set_init (check_set_init_1 hT ?_)) λr₂ s₂ hr₂=>?_
   ·have hok1:OK (s.heap.push (set0 w)):=K.keep _ _ hok λo e=>Ae _ e;have hTx:Shared.TypeIs {s with heap:=s.heap.push (set0 w)} (.ref x) T:=K.type {s with heap:=s.heap.push (set0 w)} hok1;have hsls:=K.notSet;have hslf:=K.notFrozen;have hne:=K.notDict;unfold D4.«set.__init__» noKeywords Builtin.Frozenset.updateFrom;generalize hPI:pyIter=PI
    wp_walk
    subst hPI;have hh3:A.in1.in1.in1.handled=none:=by simp[hh]
    obtain⟨oI,St,hit,W,st⟩:=K.iter {s with heap:=s.heap.push (set0 w)} hok1;refine hit _ _ _ ?_;refine Aa (wpAny_runValue ?_);have hxS:x < s.heap.objs.size:=K.there _ hok;have hSf:s.heap.objs.size∉[(s.heap.push (set0 w)).objs.size,x]:=by
     rw[B7];simp only[As,Bd,Aw,or_false,not_or];exact⟨Bb (Fv _),Du hxS⟩
    refine j2c (W _ hh3).toS s.heap.objs.size hSf rfl h64 (ks.length - 0) 0 _ (by omega) (Bm _) st (j2r (Ae _ hS)) ?_;intro s' hm hS';obtain⟨h',g',d',tk',os'⟩:=s';have eg:g'=s.gens:=hm.gens;have ed:d'=s.drawn:=hm.drawn;have eo:os'=s.os:=hm.os;subst eg;subst ed;subst eo;show A4 _ _ _ _ _ _;refine Al ?_;show A4 _ _ (ret Be) _ _ _;refine Al ⟨rfl,h',tk',rfl,hS',λb o hb e=>?_⟩;have hb1:b≠s.heap.objs.size:=Bb hb;have hb2:b≠(s.heap.push (set0 w)).objs.size:=by
     rw[B7];exact Bb (Db hb)
    exact hm.heap b o (by simp only[As,Bd,Aw,or_false,not_or];exact⟨hb1,hb2⟩) (Ae _ (Ae _ e))
   ·cases r₂ with
    |error e=>exact hr₂
    |ok fl₂ =>
     cases fl₂ with
     |ret r =>
      obtain⟨rfl,h',tk,rfl,hS',hk'⟩:=hr₂
      repeat (any_goals (first | assumption | wp_step))
      exact h _ _ hS' hk'
     |_=>exact hr₂.elim
  |_=>exact hr.elim
theorem jyg {x:Addr} {ks:List Str} {items:Array Af} (hk:∀i v,items[i]?=some v->SeqV ks i v) (hl:items.size=ks.length):TxSrc prog w "list" x ks (λh=>h.IsList x items) where
 type:=λs h=>h.typeIs
 there:=λh hl=>let⟨_,e,_⟩:=hl;Av e
 keep:=λh h' hl k=>let⟨o,e,r⟩:=hl;⟨o,k o e,r⟩
 notSet:=by rw[Ex];kernel_rfl
 notFrozen:=by rw[Ex];kernel_rfl
 notDict:=by decide
 iter:=λs hok=>⟨_,(λi h=>h.IsListIter s.heap.objs.size x i/\h.IsList x items),(λA E Q hq=>wpAny_pyIter_list hok hq),(λA hh=>by
  have W:=Walks.list (prog:=prog) (w:=w) hh s.heap.objs.size x (Bb (let⟨_,e,_⟩:=hok;Av e)) items;refine⟨W.sub,W.frame,λi s Q E hi st hQ=>W.item i s Q E (by rw[hl];exact hi) st λv h' tk hv a b=>hQ v h' tk (hk i v hv) a b,?_,W.self⟩;rw[<-hl];exact W.done),⟨⟨_,A2 _ rfl,rfl,rfl⟩,hok.push _⟩⟩
theorem ju6 {x:Addr} {ks:List Str} {items:Array Af} (hk:∀i v,items[i]?=some v->SeqV ks i v) (hl:items.size=ks.length):TxSrc prog w "tuple" x ks (λh=>h.IsTuple x items) where
 type:=λs h=>h.typeIs
 there:=λh hl=>let⟨_,e,_⟩:=hl;Av e
 keep:=λh h' hl k=>let⟨o,e,r⟩:=hl;⟨o,k o e,r⟩
 notSet:=by rw[Ex];kernel_rfl
 notFrozen:=by rw[Ex];kernel_rfl
 notDict:=by decide
 iter:=λs hok=>⟨_,(λi h=>h.IsTupleIter s.heap.objs.size x i/\h.IsTuple x items),(λA E Q hq=>C9 hok hq),(λA hh=>by
  have W:=Walks.tuple (prog:=prog) (w:=w) hh s.heap.objs.size x (Bb (let⟨_,e,_⟩:=hok;Av e)) items;refine⟨W.sub,W.frame,λi s Q E hi st hQ=>W.item i s Q E (by rw[hl];exact hi) st λv h' tk hv a b=>hQ v h' tk (hk i v hv) a b,?_,W.self⟩;rw[<-hl];exact W.done),⟨⟨_,A2 _ rfl,rfl,rfl⟩,hok.push _⟩⟩
end
def setO (w:Br) (v:Addr) (ks:List Str):HO:=.ext λh=>jk3 w h v ks
def jvq (w:Br):List V->Hp->VK->Prop:=λxs H Q=>∃(a:Addr) (ks:List Str),xs=[.ref a]/\(H a=some (.lst (ks.map V.str))\/H a=some (.tup (ks.map V.str)))/\ks.length < 64/\∀v,H v=none->Q (.ref v) (upd H v (setO w v ks))
theorem jvk {ks:List Str} {vs:List Af} (h:Vals (ks.map V.str) vs) (i:Nat) (v:Af) (e:vs.toArray[i]?=some v):SeqV ks i v:=by
 have e':vs[i]?=some v:=by simpa using e
 have hl:=h.length;rw[Ab]at hl;have hi:i < ks.length:=by rw[hl];exact(At.mp e').1
 obtain⟨u,hu,ru⟩:=h.get (show(ks.map V.str)[i]?=some (V.str ks[i]) by rw[Ay,Aj hi];rfl);rw[e']at hu;cases hu;obtain⟨t,ht⟩:=ru;exact⟨ks[i],t,Aj hi,ht⟩
theorem jvi {ks:List Str} {vs:List Af} (h:Vals (ks.map V.str) vs):vs.toArray.size=ks.length:=by
 have hl:=h.length;rw[Ab]at hl;rw[A3,<-hl]
theorem jub {X:Cx} (hh:X.A.handled=none):CallR X (.type "set") (jvq X.w):=by
 intro pins s σ H xs us Q I r h;obtain⟨a,ks,rfl,ha,h64,q⟩:=h;obtain⟨u,rfl,ru⟩:=jni r;cases(show u=A7 a from ru);have fin:∀(h':Heap) (tk:Nat),jk3 X.w h' s.heap.objs.size ks->(∀b o,b < s.heap.objs.size->s.heap.get? b=some o->h'.get? b=some o)->EP X pins σ Q (.ref s.heap.objs.size) {s with heap:=h',toks:=tk}:=λh' tk hS hk=>by
  have hob:∃o,h'.get? s.heap.objs.size=some o:=by
   obtain⟨es,ep,t,T,_⟩:=hS;obtain⟨o,e,_⟩:=T.obj;exact⟨o,e⟩
  refine⟨.ref s.heap.objs.size,_,I.laid (t':=tk) (o:=setO X.w s.heap.objs.size ks) (λb o e=>hk b o (Av e) e) (An _) ⟨hS,hob,λh1 h2 q k=>?_⟩,rfl,q _ (I.hok.fresh (An _))⟩;obtain⟨es,ep,t,T,r⟩:=q;exact⟨es,ep,t,T.move λo e=>k _ e,r⟩
 rcases ha with ha | ha
 ·obtain⟨hl,vs,c,hv,hL⟩:=I.hok a _ ha;exact jqh (jyg (jvk hv) (jvi hv)) hh ⟨_,hL,rfl,_,rfl⟩ h64 fin
 ·obtain⟨hl,vs,hv,o,ho,hc,⟨n,hd⟩,_⟩:=I.hok a _ ha;exact jqh (ju6 (jvk hv) (jvi hv)) hh ⟨o,ho,hc,n,hd⟩ h64 fin
theorem Inv.drew {X:Cx} {pins:List (Addr×Obj)} {σ:St} {H:Hp} {s:Ak} (I:Inv X pins σ H s) (dr:Drawn):Inv X pins σ H {s with drawn:=dr}:=⟨I.ok,I.os,I.bare,I.base,I.loc,I.cell,I.free,I.freeC,I.pin,I.hok,I.len⟩
theorem jtm {X:Cx} {pins:List (Addr×Obj)} {σ:St} {H:Hp} {s:Ak} {h':Heap} {tk:Nat} {vs:List Af} {ks:List Str} {Q:VK} (I:Inv X pins σ H s) (hkp:∀b o,s.heap.get? b=some o->h'.get? b=some o) (hT:TxOk vs ks) (h64:ks.length < 64)
  (q:∀(D:Addr) (ys:List Str),ys.Perm ks->ys.Pairwise (λa b=>¬b.cps.toList < a.cps.toList)->H D=none->Q (.ref D) (upd H D (.lst (ys.map V.str)))) :
  vs.length<=A1/\A4 (Ba X.prog X.w) X.A.in1.in1 (D4.«list.sort» ⟨[.ref h'.objs.size],[]⟩) (λf s2=>f=.done (.ret .none)/\EP X pins σ Q (.ref h'.objs.size) s2) X.xe {s with heap:=h'.push (B9 "list" vs.toArray 0),toks:=tk}:=by
 have hl:=hT.1;refine⟨by rw[hl];exact jbn (by omega),?_⟩;have hoL:(h'.push (B9 "list" vs.toArray 0)).get? h'.objs.size=some (B9 "list" vs.toArray 0):=A2 _ rfl;have hs':∀b o,s.heap.get? b=some o->b≠h'.objs.size:=λb o e=>Bb (Av (hkp b o e));have fin:∀(idx:List Nat) (h3:Heap) (c:Nat),idx.Perm (Bq ks.length)->(idx.map λi=>ks.getD i ⟨#[]⟩).Pairwise (λa b=>¬b.cps.toList < a.cps.toList) ->
   (∀b o,b≠h'.objs.size->(h'.push (B9 "list" vs.toArray 0)).get? b=some o->h3.get? b=some o)->h3.get? h'.objs.size=some (B9 "list" (Cq (idx.map λi=>vs.getD i Be)) c)->EP X pins σ Q (.ref h'.objs.size) {s with heap:=h3,toks:=tk}:=λidx h3 c hp hw k3 hL=>by
  have I1:Inv X pins σ H {s with heap:=h',toks:=tk}:=I.kept hkp;have hn:H h'.objs.size=none:=I1.hok.fresh (An _);refine⟨.ref h'.objs.size,_,I1.laid (t':=tk) (h':=h3) (o:=.lst ((idx.map λi=>ks.getD i ⟨#[]⟩).map V.str)) (λb o e=>k3 b o (Bb (Av e)) (Ae _ e)) (An _) ⟨?_,_,c,jpn hT idx (λi hi=>C7.mp (hp.mem_iff.mp hi)),hL⟩,rfl,q _ _ (jv3 hp) hw hn⟩;rw[Ab,Ab,hp.length_eq,Ei];exact jbn (by omega)
 by_cases h2:2<=vs.length
 ·refine KS.ls_sort (s:={ s with heap:=h'.push (B9 "list" vs.toArray 0),toks:=tk}) hoL h2 (by omega) λe1 h4 ha4 k4=>?_;refine kas_kind (s:={ s with heap:=h4,toks:=tk}) (T:=D8 "str") h2 (λf hf=>?_) rfl rfl ?_
  ·obtain⟨j,hj⟩:=By.mp hf;obtain⟨k,t,_,rfl⟩:=hT.2 j f hj;exact .now
  ·have hn:0 < vs.length:=by omega
   have hwi:=KS.wi_sort hn;refine KS.wp_run (n:=vs.length) (P:=KS.Pm vs.length) (c:=KS.ltK ks) (St:=λs'=>s'={ s with heap:=h4,toks:=tk}) (λi j C s' hi hj hs hC=>?_) _ _ hwi rfl λs' hs'=>?_
   ·subst hs;obtain⟨k1,t1,a1,a2⟩:=hT.2 i vs[i] (Aj hi);obtain⟨k2,t2,b1,b2⟩:=hT.2 j vs[j] (Aj hj);unfold kas_ask;have g1:vs.getD i Be=.str k1 t1:=by simp[hi,a2]
    have g2:vs.getD j Be=.str k2 t2:=by simp[hj,b2]
    rw[g1,g2];have c1:ks.getD i ⟨#[]⟩=k1:=by simp[a1]
    have c2:ks.getD j ⟨#[]⟩=k2:=by simp[b1]
    have:=hC _ rfl;unfold KS.ltK at this;rw[c1,c2]at this;exact kas_lt_str this
   ·subst hs';refine⟨ha4,λh3 c sb hL3=>⟨rfl,?_⟩⟩;have hpm:KS.Pm vs.length (KS.run (KS.ltK ks) (kas_sort vs.length)):=KS.Wi.out _ hwi;have hsp:=KS.sort_ok (KS.ordK ks) (n:=vs.length) hn;have hsz:=hpm.size;have hidx:(KS.run (KS.ltK ks) (kas_sort vs.length)).toList.Perm (Bq vs.length):=by
     have:=Array.perm_iff_toList_perm.mp hpm;simpa using this
    refine fin _ h3 c (by rw[<-hl];exact hidx) (j5w hsz hsp) (λb o hb e=>(sb.2 b hb).trans (k4 b o hb e)) hL3
 ·refine KS.ls_short (s:={ s with heap:=h'.push (B9 "list" vs.toArray 0),toks:=tk}) hoL (by omega) λh4 c ha4 k4=>⟨rfl,?_⟩;have el:vs=(Bq ks.length).map λi=>vs.getD i Be:=by
   apply Fr9 (by simp[hl]);intro i h1 h2;simp[h1]
  have ha5:h4.get? h'.objs.size=some (B9 "list" (Cq ((Bq ks.length).map λi=>vs.getD i Be)) c):=by rw[<-el];exact ha4
  refine fin (Bq ks.length) h4 c (List.Perm.refl _) ?_ k4 ha5;have:(Bq ks.length).length<=1:=by simp;omega
  match hr:Bq ks.length,this with
  |[],_=>exact .nil
  |[i],_=>exact Gq _ _
def jnr (w:Br):List V->Hp->VK->Prop:=λxs H Q=>∃(v:Addr) (ks:List Str),xs=[.ref v]/\H v=some (setO w v ks)/\ks.length < 64 /\
 ∀(D:Addr) (ys:List Str),ys.Nodup->(∀k,k∈ys↔k∈ks)->ys.Pairwise (λa b=>¬b.cps.toList < a.cps.toList)->H D=none->Q (.ref D) (upd H D (.lst (ys.map V.str)))
theorem j2a {w:Br} {es vs:List (Int×Af)} (h:∀e∈es,∃k t,e.2=.str k t/\e.1=hashStr w k) (p:vs.Perm es):TxOk (vs.map (·.2)) (vs.map λe=>txOf e.2):=by
 refine⟨by rw[Ab,Ab],λj v hj=>?_⟩;rw[Ay]at hj;cases e:vs[j]? with
 |none=>rw[e]at hj;cases hj
 |some x =>
  rw[e]at hj;obtain⟨k,t,e1,_⟩:=h x (p.mem_iff.mp (A6 e));have hv:x.2=v:=Ax hj;refine⟨k,t,?_,hv▸e1⟩;rw[Ay,e];show some (txOf x.2)=some k;rw[e1];rfl
theorem jqg {X:Cx} (hh:X.A.handled=none):CallR X (.builtin "sorted") (jnr X.w):=by
 intro pins s σ H xs us Q I r h;obtain⟨v,ks,rfl,hv,h64,q⟩:=h;obtain⟨u,rfl,ru⟩:=jni r;cases(show u=A7 v from ru);obtain⟨es,ep,t,T,hx,nd,hm,hl⟩:=(I.hok v _ hv).1;have h64':es.size < 64:=Nat.lt_of_le_of_lt hl h64;refine KS.sorted_of (R:=λvs s1=>∃(h':Heap) (tk:Nat) (dr:Drawn) (ys:List Str),s1={ s with heap:=h',toks:=tk,drawn:=dr}/\(∀b o,s.heap.get? b=some o->h'.get? b=some o)/\TxOk vs ys/\ys.Nodup/\(∀k,k∈ys↔k∈ks)/\ys.length < 64)
  (jtk hh T h64' λh' tk dr vs hp hk=>?_) ?_
 ·have pk:(vs.map λe=>txOf e.2).Perm (ksOf es):=List.Perm.map (λe:Int×Af=>txOf e.2) hp;exact⟨h',tk,dr,vs.map λe=>txOf e.2,rfl,hk,j2a hx hp,pk.nodup_iff.mpr nd,λk=>pk.mem_iff.trans (hm k),by rw[Ab,hp.length_eq,Cm];exact h64'⟩
 rintro vs s1 ⟨h',tk,dr,ys,rfl,hkp,hT,nd',hm',h64'⟩
 exact jtm (s:={ s with drawn:=dr}) (I.drew dr) hkp hT h64' λD zs hp hw hD=>q D zs (hp.nodup_iff.mpr nd') (λk=>hp.mem_iff.trans (hm' k)) hw hD
end L2
namespace DL
open PySem L2 Nb
section
variable {X:Cx} {o:Expr} {td:TE} {wd':DT} {pos p p2 ip:Pos} {W:Br}
def upT (ys:List Str):Prop:=ys.Pairwise λa b=>¬b.cps.toList < a.cps.toList
def jok (w:DT):DTF:=λδ n Q=>w δ n λx n1=>∃ks:List Str,(x=.d (.list (ks.map .str))\/x=.d (.tuple (ks.map .str)))/\ks.length < 64/\(∀k∈ks,k.length<=1000) /\
 ∀ys:List Str,ys.Nodup->(∀k,k∈ys↔k∈ks)->upT ys->Q (ys.map .str) n1
theorem j1i {α:Type}:∀{xs ys:List α},xs.Nodup->(∀x∈xs,x∈ys)->xs.length<=ys.length
 |[],_,_,_=>Bm _
 |x::xs,ys,nd,h=>by
  obtain⟨h1,h2⟩:=Dr.mp nd;obtain⟨l,r,e⟩:=List.append_of_mem (h x A0);have:=j1i (ys:=l++r) h2 λz hz=>by
   have hm:=h z (Au _ hz);rw[e]at hm;rcases A8.mp hm with q | q
   ·exact Dt _ q
   ·rcases As.mp q with q | q
    ·exact absurd (q▸hz) h1
    ·exact Bc _ q
  rw[e];simp only[Ar,Ah]at this ⊢;omega
theorem jf7 {H:Hp} {B:Addr->Prop}:∀{xs:List V} {ks:List Str},RdXs H B xs (ks.map .str)->xs=ks.map V.str
 |[],[],_=>rfl
 |_::_,[],h=>nomatch h
 |[],_::_,h=>nomatch h
 |x::xs,k::ks,.cons h t=>by
  cases h;rw[jf7 t];rfl
theorem jw5 (hh:X.A.handled=none) (hg:Gl X "sorted") (hm:X.mg "sorted"=none) (hg2:Gl X "set") (hm2:X.mg "set"=none) (ho:DE X o td wd') (hW:X.w=W:=by rfl) (hv:B3 "sorted"=some (.builtin "sorted"):=by decide +kernel) (hv2:B3 "set"=some (.type "set"):=by decide +kernel)
  (he2:Az [o] X.env=(false,eval o X.env)::Az [] X.env:=by rfl) (hpl2:(Cz ip (Az [] X.env)).any (·.1)=false:=by rfl)
  (he':Az [Expr.Call (.Name "set" p2) [o] [] ip] X.env=(false,eval (Expr.Call (.Name "set" p2) [o] [] ip) X.env)::Az [] X.env:=by rfl) (hpl:(Cz pos (Az [] X.env)).any (·.1)=false:=by rfl) :
  DF X (.Call (.Name "sorted" p) [.Call (.Name "set" p2) [o] [] ip] [] pos) (tCB (jnr W) (jcx (tCB (jvq W) (jcx td tNil)) tNil)) (jok wd'):=by
 subst hW;refine⟨jdm (jqg hh) hg hm hv (ja9 (jgs (jub hh) hg2 hm2 hv2 (ja9 ho.pe jca he2) (by decide) (by decide) he2 hpl2) jca he') (by decide) (by decide) he' hpl,λC H B σ δ n Q Q' R q k =>
  ho.sd C H B σ δ n _ _ R q λv x H1 n1 R1 k1 r1 q1=>?_⟩
 obtain⟨ks,hx,h64,hk,kq⟩:=q1;have key:∀a:Addr,v=.ref a->(H1 a=some (.lst (ks.map V.str))\/H1 a=some (.tup (ks.map V.str)))->tCB (jnr X.w) (jcx (λσ H Q=>jvq X.w [v] H Q) tNil) σ H1 Q':=λa ea ha=>by
  subst ea;refine⟨a,ks,rfl,ha,h64,λu hu=>⟨u,ks,rfl,jao,h64,λD ys nd hm hw hD=>?_⟩⟩;have R2:=R1.new (o:=setO X.w u ks) hu;have hD1:H1 D=none:=by
   cases e:H1 D with
   |none=>rfl
   |some ob =>
    have:upd H1 u (setO X.w u ks) D=some ob:=by rw[jap (jal e hu)];exact e
    rw[hD]at this;cases this
  have hy:∀y∈ys,y.length<=1000:=λy hy=>hk y ((hm y).mp hy);refine k D _ _ _ n1 (R2.new hD) ((k1.trans (Kp.new hu)).trans (Kp.new hD)) (R1.was k1 hD1) jao ?_ (jnq hy) (kq ys nd hm hw);rw[Ab];have:ys.length<=ks.length:=j1i nd λy hy=>(hm y).mp hy;exact jbn (by omega)
 rcases hx with rfl | rfl
 ·cases(show RdX H1 B v (.list (ks.map .str))from r1)with
  |@lst a xs _ e1 e2 e3 e4=>exact key a rfl (.inl (by rw[e1,jf7 e4]))
 ·cases(show RdX H1 B v (.tuple (ks.map .str))from r1)with
  |@tup a xs _ e1 e2 e3 e4=>exact key a rfl (.inr (by rw[e1,jf7 e4]))
variable {a:Expr} {ta:TE} {wa:DT} {K:Ai}
end
section
variable {X:Cx} {a b c e o i f:Expr} {ta tb te td ty tx:TE} {wa wb we wd' wy wx:DT} {pos p:Pos} {K:Ai}
def jd5 (i:Nat):DT:=λδ n Q=>match δ[i]? with
 |some (some (.own ds))=>Q (.ln ds) n
 |some (some (.w x))=>Q x n
 |_=>False
theorem jij (i:Nat) {x:Str} {p:Pos} (hN:X.N[i]?=some x:=by rfl) (hv:Vis X.env.scope x:=by first | exact Ap rfl | exact Bw (Ap rfl) | exact Bw (Bw rfl)) (hd:(x==("__debug__":Str))=false:=by decide)
  (hcd:(x==("__classdict__":Str))=false:=by decide):DE X (.Name x p) (tVar i) (jd5 i):=⟨jdl hN hv hd hcd,λC H B σ δ n Q Q' R h k=>by
 unfold jd5 at h
 split at h
 ·rename_i ds e;obtain⟨v,h1,a,xs,rfl,g2,g3,g4,g5,g6⟩:=R.sl i _ e;exact⟨_,h1,k _ (.ln ds) H n R (Kp.refl _ _) ⟨a,xs,rfl,g2,λz=>R.t0 (z▸g4),g5,g6⟩ h⟩
 ·rename_i x e;obtain⟨v,h1,h2⟩:=R.sl i _ e;exact⟨v,h1,k v x H n R (Kp.refl _ _) h2.1 h⟩
 ·exact h.elim⟩
def gIxL:Wv->Wv->Int->DQ->Prop:=λx y n Q=>match x with
 |.ln ds=>match y with
  |.d (.int i)=>match atI ds i with
   |some d=>Q (.d d) n
   |none=>False
  |_=>False
 |x=>gIx x y n Q
theorem j2l:SndO (rIx K) gIxL:=λC H B σ δ n x y p q Q Q' R rx ry h1 k=>by
 cases p with
 |ln ds =>
  unfold gIxL at h1;dsimp only at h1
  split at h1
  ·rename_i i
   split at h1
   ·rename_i d e;cases(show RdX H B y (.int i)from ry);obtain⟨ay,ys,rfl,e1,e2,e3,e4⟩:=rx;obtain⟨v,f1,f2⟩:=jxv e4 e;exact .inl ⟨ay,ys,i,v,rfl,rfl,SqL.of e1,f1,k _ _ H n R (Kp.refl _ _) (wd f2) h1⟩
   ·exact h1.elim
  ·exact h1.elim
 |d _=>exact jmk C H B σ δ n x y _ q Q Q' R rx ry h1 k
 |tp=>exact jmk C H B σ δ n x y _ q Q Q' R rx ry h1 k
 |dk _=>exact jmk C H B σ δ n x y _ q Q Q' R rx ry h1 k
 |ob _=>exact jmk C H B σ δ n x y _ q Q Q' R rx ry h1 k
theorem jd4 (ha:DE X a ta wa) (hb:DE X b tb wb) (hK:X.K=K:=by rfl) (hs:jld b:=by exact λ_ _=>rfl):DE X (.Subscript a b pos) (tOp (rIx K) ta tb) (w2 wa wb gIxL):=by
 subst hK;exact⟨jhd js0 ha.pe hb.pe hs,jmj j2l ha.sd hb.sd⟩
def gInL (neg:Bool):Wv->Wv->Int->DQ->Prop:=λx y n Q=>match y with
 |.ln ds=>match x with
  |.d a=>jdz a=true/\ds.all jdz=true/\Q (.d (.bool (if neg then !inD a ds else inD a ds))) n
  |_=>False
 |y=>gIn neg x y n Q
theorem jvb {neg:Bool}:SndO (rIn K neg) (gInL neg):=λC H B σ δ n x y p q Q Q' R rx ry h1 k=>by
 cases q with
 |ln ds =>
  unfold gInL at h1;dsimp only at h1
  split at h1
  ·rename_i da;obtain⟨f1,f2,q⟩:=h1;have rx:RdX H B x da:=rx;obtain⟨ay,ys,rfl,e1,e2,e3,e4⟩:=ry;refine⟨ay,ys,rfl,.inl (SqL.of e1),jge rx f1,jdn e4 f2,?_⟩;rw[jkc rx e4];exact k _ _ H n R (Kp.refl _ _) (wd (.bl _)) q
  ·exact h1.elim
 |d _=>exact jel C H B σ δ n x y p _ Q Q' R rx ry h1 k
 |tp=>exact jel C H B σ δ n x y p _ Q Q' R rx ry h1 k
 |dk _=>exact jel C H B σ δ n x y p _ Q Q' R rx ry h1 k
 |ob _=>exact jel C H B σ δ n x y p _ Q Q' R rx ry h1 k
def jfc:List Wv->Int->DQ->Prop:=λxs n Q=>match xs with
 |[.ln ds]=>Q (.d (.int ds.length)) n
 |xs=>gLen xs n Q
theorem jc2:SndB (jyx K) jfc:=λC H B σ δ n vs xs Q Q' R r h k=>by
 unfold jfc at h
 split at h
 ·rename_i ds;cases r with
  |cons r1 r2 =>
   cases r2;obtain⟨ay,ys,rfl,e1,e2,e3,e4⟩:=r1;refine .inr ⟨ay,ys,rfl,.inl (SqL.of e1),?_⟩;rw[e4.len];exact k _ _ H n R (Kp.refl _ _) (wd (.int _)) h
 ·exact jbt C H B σ δ n vs xs Q Q' R r h k
def gEqL:Wv->Wv->Int->DQ->Prop:=λx y n Q=>match x,y with
 |.ln ds,.d (.list [])=>Q (.d (.bool ds.isEmpty)) n
 |x,y=>gEq x y n Q
theorem jd6:SndO (rEqK K) gEqL:=λC H B σ δ n x y p q Q Q' R rx ry h1 k=>by
 unfold gEqL at h1
 split at h1
 ·rename_i ds;obtain⟨ax,xs,rfl,e1,e2,e3,e4⟩:=rx;cases(show RdX H B y (.list [])from ry)with
  |@lst ay ys _ f1 f2 f3 f4 =>
   cases f4;refine .inr (.inr ⟨ax,ay,xs,rfl,rfl,SqL.of e1,SqL.of f1,?_⟩);have:xs.isEmpty=ds.isEmpty:=by cases e4<;>rfl
   rw[this];exact k _ _ H n R (Kp.refl _ _) (wd (.bl _)) h1
 ·exact ja4 C H B σ δ n x y p q Q Q' R rx ry h1 k
def lsOf:Wv->Option (List Ad)
 |.ln ds=>some ds
 |.d (.list ds)=>some ds
 |_=>none
def gCat:Wv->Wv->Int->DQ->Prop:=λx y n Q=>match lsOf x,lsOf y with
 |some i,some j=>i.length+j.length<=A1/\Q (.d (.list (i++j))) n
 |_,_=>False
theorem jsv {H:Hp} {B:Addr->Prop} {t:Addr} {v:V} {x:Wv} {ds:List Ad} (h:WRel H B t v x) (e:lsOf x=some ds):∃a xs,v=.ref a/\H a=some (.lst xs)/\xs.length<=A1/\RdXs H B xs ds:=by
 cases x with
 |ln es =>
  cases e;obtain⟨a,xs,h1,h2,h3,h4,h5⟩:=h;exact⟨a,xs,h1,h2,h4,h5⟩
 |d y =>
  cases y with
  |list es =>
   cases e;cases(show RdX H B v (.list ds)from h)with
   |@lst a xs _ e1 e2 e3 e4=>exact⟨a,xs,rfl,e1,e3,e4⟩
  |_=>cases e
 |tp=>cases e
 |dk _=>cases e
 |ob _=>cases e
theorem j2o:SndO rCat gCat:=λC H B σ δ n x y p q Q Q' R rx ry h1 k=>by
 unfold gCat at h1
 split at h1
 ·rename_i i j ei ej;obtain⟨ax,xs,rfl,e1,e3,e4⟩:=jsv rx ei;obtain⟨ay,ys,rfl,f1,f3,f4⟩:=jsv ry ej;obtain⟨hl,q⟩:=h1;have hl':xs.length+ys.length<=A1:=by rw[e4.len,f4.len];exact hl
  refine⟨ax,ay,xs,ys,rfl,rfl,e1,f1,hl',λpn hp=>?_⟩;refine k _ _ _ n (R.new hp) (Kp.new hp) (wd (show RdX _ B _ (.list (i++j))from .lst jao (R.nb hp) (by rw[Ah];exact hl') ?_)) q;exact((e4.append f4).fresh hp).less λb z=>.inl z
 ·exact h1.elim
theorem j83 (ha:DE X a ta wa) (hb:DE X b tb wb):DE X (.BinOp a .Add b pos) (tOp rCat ta tb) (w2 wa wb gCat):=d_op jwc j2o ha hb
end
section
variable {X:Cx} {a b c e o i f:Expr} {ta tb te td ty tx:TE} {wa wb we wd' wy wx:DT} {pos p:Pos} {K:Ai}
def sUnp (w:DT) (g:DTG):DST:=λδ n K=>w δ n λx n1=>match x with
 |.d d=>g d δ λδ'=>K.nx δ' n1
 |_=>False
theorem jto {tg:Expr} {g:TG} {gd:DTG} (he:DE X e te we) (hg:DG X tg g gd) (hs:swapsWithSole [tg] e pos.line X.env=pure false:=by rfl) (hw:swappedStores [tg] e X.env=pure none:=by rfl)
  (h1:(Di [tg] X.env).map (·.2)=[assign tg X.env]:=by rfl):DS X (.Assign [tg] e pos) (tAsg te g) (sUnp we gd):=⟨jpm he.pe hg.pg hs hw h1,λC H B σ δ n K D R q E =>
 he.sd C H B σ δ n _ _ R q λv x H1 n1 R1 k1 r1 q1=>by
  cases x with
  |d d=>exact hg.sd C H1 B σ δ n1 v d _ _ R1 r1 q1 λσ' δ' R' q'=>E.nx _ _ _ _ _ R' q'
  |tp=>exact q1.elim
  |dk _=>exact q1.elim
  |ln _=>exact q1.elim
  |ob _=>exact q1.elim⟩
def sqOf:Wv->Option (List Ad)
 |.ln ds=>some ds
 |.d (.list ds)=>some ds
 |.d (.tuple ds)=>some ds
 |_=>none
theorem j42 {H:Hp} {B:Addr->Prop} {t:Addr} {v:V} {x:Wv} {ds:List Ad} (h:WRel H B t v x) (e:sqOf x=some ds):∃a xs,v=.ref a/\(SqL K H a xs\/SqT K H a xs)/\xs.length<=A1/\RdXs H B xs ds:=by
 cases x with
 |ln es =>
  cases e;obtain⟨a,xs,h1,h2,h3,h4,h5⟩:=h;exact⟨a,xs,h1,.inl (SqL.of h2),h4,h5⟩
 |d y =>
  cases y with
  |list es =>
   cases e;cases(show RdX H B v (.list ds)from h)with
   |@lst a xs _ e1 e2 e3 e4=>exact⟨a,xs,rfl,.inl (SqL.of e1),e3,e4⟩
  |tuple es =>
   cases e;cases(show RdX H B v (.tuple ds)from h)with
   |@tup a xs _ e1 e2 e3 e4=>exact⟨a,xs,rfl,.inr (SqT.of e1),e3,e4⟩
  |_=>cases e
 |tp=>cases e
 |dk _=>cases e
 |ob _=>cases e
def jec (w:DT):DTF:=λδ n Q=>w δ n λx n1=>match sqOf x with
 |some ds=>Q ds n1
 |none=>False
theorem joj (hg:Gl X "list") (hm:X.mg "list"=none) (ho:DE X o td wd') (hK:X.K=K:=by rfl) (he:Az [o] X.env=(false,eval o X.env)::Az [] X.env:=by rfl) (hpl:(Cz pos (Az [] X.env)).any (·.1)=false:=by rfl) :
  DF X (.Call (.Name "list" p) [o] [] pos) (tCB (jvr K) (jcx td tNil)) (jec wd') :=
 ⟨jgs (jnc hK) hg hm jxq (ja9 ho.pe jca he) (by decide) (by decide) he hpl,λC H B σ δ n Q Q' R q k=>ho.sd C H B σ δ n _ _ R q λv x H1 n1 R1 k1 r1 q1=>by
  split at q1
  ·rename_i ds ex;obtain⟨a,xs,rfl,h1,h2,h3⟩:=j42 (K:=K) r1 ex;refine⟨a,xs,rfl,h1,λl hl=>?_⟩;exact k l xs ds _ n1 (R1.new hl) (k1.trans (Kp.new hl)) (R1.was k1 hl) jao h2 (h3.fresh hl) q1
  ·exact q1.elim⟩
def jcz:List Wv->Int->DQ->Prop:=λxs n Q=>match xs with
 |[.ln ds]=>Q (.d (.tuple ds)) n
 |xs=>jby xs n Q
theorem jcn:SndB (jq9 K) jcz:=λC H B σ δ n vs xs Q Q' R r h k=>by
 unfold jcz at h
 split at h
 ·rename_i ds;cases r with
  |cons r1 r2 =>
   cases r2;obtain⟨ay,ys,rfl,e1,e2,e3,e4⟩:=r1;refine⟨ay,ys,rfl,.inl ⟨SqL.of e1,λl hl=>?_⟩⟩;refine k _ _ _ n (R.new hl) (Kp.new hl) (wd (show RdX _ B _ (.tuple ds)from .tup jao (R.nb hl) e3 ?_)) h;exact(e4.fresh hl).less λb z=>.inl z
 ·exact jbi C H B σ δ n vs xs Q Q' R r h k
def sExt (i:Nat) (w:DT):DST:=λδ n K=>match δ[i]? with
 |some (some (.own ds))=>w δ n λx n1=>match x with
  |.d (.list es)=>(ds.length < 1000000/\es.length < 1000000)/\K.nx (δ.set i (some (.own (ds++es)))) n1
  |_=>False
 |_=>False
theorem js4 {n m:Nat} (h:n < 1000000) (h':m < 1000000):n+m<=A1:=by
 have:2000000<=A1:=by decide
 omega
theorem j8b {i:Nat} {x:Str} {xp ap cp:Pos} (hN:X.N[i]?=some x) (he:DE X e te we) (hv:Vis X.env.scope x:=by first | exact Ap rfl | exact Bw (Ap rfl) | exact Bw (Bw rfl)) (hd:(x==("__debug__":Str))=false:=by decide)
  (hcd:(x==("__classdict__":Str))=false:=by decide)
  (hbase:Ff (.Name x xp) "extend" X.env (eval (.Name x xp) X.env)=eval (.Name x xp) X.env:=by rfl)
  (hfew:((Cz cp (Az [e] X.env)).all (λx=>!x.1)&&(backToKw cp (keywordEach [] X.env)).all (λx=>x.1.isSome)
   && decide ([e].length+([]:List Keyword).length+(if ([]:List Keyword).isEmpty then 0 else 1) < 30))=true:=by rfl)
  (hline:(ap.endLine==cp.line)=true:=by rfl) (hs:Az [e] X.env=[(false,eval e X.env)]:=by rfl) (hplain:(Cz cp (Az [] X.env)).any (·.1)=false:=by rfl)
  (hsw:Do (.Call (.Attribute (.Name x xp) "extend" ap) [e] [] cp) none pos.line X.env=pure false:=by rfl) :
  DS X (.Expr (.Call (.Attribute (.Name x xp) "extend" ap) [e] [] cp) pos) (jye (tBM X.K "list" jvu (tVar i) (jcx te tNil))) (sExt i we) :=
 ⟨jrb (j28 Gp PySem.F.slot_list_extend PySem.F.type_list_extend jwf (jdl hN hv hd hcd) (ja9 he.pe jca hs) hbase hfew hline hs hplain) hsw,λC H B σ δ n K D R q E=>by
  unfold sExt at q
  split at q
  ·rename_i ds ei;obtain⟨v,hv,a,xs,rfl,e2,e3,e4,e5,e6⟩:=R.sl i _ ei;refine⟨_,hv,.inl ⟨rfl,_,SqL.of e2⟩,he.sd C H B σ δ n _ _ R q λu y H1 n1 R1 k1 r1 q1=>?_⟩
   split at q1
   ·rename_i es;have hat:a≠C.t:=λz=>R.t0 (z▸e4);have e2':=k1 _ _ e2 hat;cases(show RdX H1 B u (.list es)from r1)with
    |@lst b zs _ f1 f2 f3 f4 =>
     have hl:xs.length+zs.length<=A1:=by rw[e6.len,f4.len];exact js4 q1.1.1 q1.1.2
     refine⟨a,b,xs,zs,rfl,rfl,e2',f1,hl,?_⟩;refine E.nx _ _ _ _ _ (R1.mutOwn ei rfl hv e3 e4 ?_ rfl) q1.2;refine⟨a,xs++zs,rfl,jao,e3,e4,by rw[Ah];exact hl,?_⟩;refine RdXs.keep (λb o e n=>?_) ((e6.kp k1 R.bt).append f4);rw[jap λ(z:b=a)=>n (z▸e3)];exact e
   ·exact q1.elim
  ·exact q.elim⟩
theorem j4l (H:Hp) (B:Addr->Prop):RdXs H B j0k jo0:=.cons .non (.cons .non (.cons .non (.cons (.int _) (.cons (.int _) (.cons (.int _) (.cons (.int _) .nil))))))
def wTp3 (i:Nat):DT:=λδ n Q=>match δ[i]? with
 |some (some (.w .tp))=>Q (.ln jo0) n
 |_=>False
theorem j7k (i:Nat) {x:Str} {ix:Int} {p p2:Pos} {jj} (hK:X.K=K:=by rfl) (hN:X.N[i]?=some x:=by rfl) (hv:Vis X.env.scope x:=by first | exact Ap rfl | exact Bw (Ap rfl) | exact Bw (Bw rfl)) (hd:(x==("__debug__":Str))=false:=by decide)
  (hcd:(x==("__classdict__":Str))=false:=by decide):DE X (.Subscript (.Name x p) (.Constant (.int 3) jj p2) pos) (tOp (rIx K) (tVar i) (tC (.int 3))) (wTp3 i):=by
 subst hK;refine⟨jhd js0 (jdl hN hv hd hcd) jbh (λ_ _=>rfl),λC H B σ δ n Q Q' R h k=>?_⟩;unfold wTp3 at h
 split at h
 ·rename_i e;obtain⟨v,h1,h2⟩:=R.sl i _ e;cases(show v=.ref C.t from h2.1);obtain⟨a,b,ho,_⟩:=R.tp.ob;refine⟨_,h1,.inl ⟨C.t,_,3,.ref C.l.g,rfl,rfl,SqL.of ho,jbx (j:=3) rfl,k _ (.ln jo0) H n R (Kp.refl _ _) ⟨C.l.g,j0k,rfl,R.tp.ag rfl,R.tp.gne,by decide,j4l _ _⟩ h⟩⟩
 ·exact h.elim
end
section
variable {X:Cx} {e:Expr} {st:Stmt} {sts:List Stmt}
def sNo:DST:=λ_ _ _=>False
theorem j76:DSs X sts (λ_ _ _=>False) sNo:=⟨λ_ _ _ _ _ _ h=>h.elim,λ_ _ _ _ _ _ _ _ _ h _=>h.elim⟩
end
end DL
namespace L2
open PySem PySem.Spec PyProof.Rows
end L2
namespace DL
open PySem L2 Nb
end DL
namespace HT
open PySem PyProof.Rows
open PySem.SeqAt
open PySem.AutoSeq1 (wpAny_loadPart')
open PySem.MeetsSeq PySem.MeetsSeq2 PySem.MeetsSeq3
section
variable {prog:Bg} {w:Br} {A:B4} {E:Af->Ak->Prop} {s:Ak}
theorem getItem_tuple_whole {t sl:Addr} {items:Array Af} {vl vu:Af} {lo hi:Option Int} {Q:Af->Ak->Prop} (ht:IsTup s.heap t items) (hs:s.heap.IsSliceOf sl vl vu .none) (pl:IsPart vl lo) (pu:IsPart vu hi)
  (h0:sIx items.size 0 lo=0) (h1:sIx items.size items.size hi=items.size) (h:Q (.ref t) s):A4 (Ba prog w) A (getItem (.ref t) (.ref sl)) Q E s:=by
 obtain⟨os,hos,hcs,hds⟩:=id hs;have hTs:s.TypeIs (.ref sl) "slice":=⟨os,hos,hcs⟩;unfold getItem
 try with_reducible refine Ck ?_
 first | refine Aa (Al ?_) | skip
 refine Aa (wpAny_sequenceKey ht.typeIs (by decide) ?_);refine Aa (Bv (name:=C0 "__getitem__") ht.typeIs Dm
  (B6 Dm ht.typeIs entry_tuple_getitem ?_ (args_tuple_getitem _ _)))
 show A4 _ _ (Builtin.Tuple.tupleItemsOf (.ref t)>>=_) _ _ s;refine Aa (tupleItemsOf_ ht ?_);refine Aa (Ft hTs ?_);rw[if_pos (by decide)];refine Aa (jem hs pl pu ?_);have hyes:(((sIx items.size 0 lo:Nat):Int)==0&&(1:Int)==1&&(sIx items.size items.size hi - sIx items.size 0 lo)==items.size)=true:=by
  rw[h0,h1];simp
 show A4 _ _ (if (((sIx items.size 0 lo:Nat):Int)==0&&(1:Int)==1&&(sIx items.size items.size hi - sIx items.size 0 lo)==items.size)=true then _ else _) _ _ s;rw[if_pos hyes];unfold Builtin.Tuple.tupleIsExact;refine Aa (Aa (Ft ht.typeIs (Al ?_)));rw[if_pos (by decide)];exact Aa (Gc (Al ⟨_,rfl,Al h⟩))
end
end HT
namespace L2
open PySem PySem.Spec PyProof.Rows
def rSlW (K:Ai):V->Option Int->Option Int->Hp->VK->Prop:=λx lo hi H Q=>∃a xs,x=.ref a/\SqT K H a xs/\HT.sIx xs.length 0 lo=0/\HT.sIx xs.length xs.length hi=xs.length/\Q (.ref a) H
theorem jyr {X:Cx}:SlR X (rSlW X.K):=by
 intro pins s σ H x v vl vu lo hi sl Q I rx hs pl pu h;obtain⟨a,xs,rfl,hx,h0,h1,q⟩:=h;cases rx;obtain⟨its,r,ht,hz⟩:=I.tuple hx;have hlen:its.toArray.size=xs.length:=by rw[A3];exact r.length.symm
 refine⟨"tuple",_,PyProof.Rows.slot_tuple_getitem.lookup,ht.typeIs,?_⟩;exact HT.getItem_tuple_whole ht hs pl pu (by rw[hlen];exact h0) (by rw[hlen];exact h1) ⟨.ref a,H,I,rfl,q⟩
end L2
namespace DL
open PySem L2 Nb
section
variable {X:Cx} {e:Expr} {te:TE} {we:DT} {pos p2:Pos} {K:Ai} {lo hi:Option Expr}
abbrev DTO:=Sl->Int->(Option Int->Int->Prop)->Prop
def jb8:DTO:=λ_ n Q=>Q none n
def jb7 (w:DT):DTO:=λδ n Q=>w δ n λx n1=>match x with
 |.d (.int i)=>Q (some i) n1
 |_=>False
def j9c (t:TO) (w:DTO):Prop:=∀(C:Ctx) (H:Hp) (B:Addr->Prop) (σ:St) (δ:Sl) (n:Int) (Q:Option Int->Int->Prop) (Q':Option Int->Hp->Prop),Rel C H B σ δ n->w δ n Q ->
 (∀o H' n',Rel C H' B σ δ n'->Kp C.t H H'->Q o n'->Q' o H')->t σ H Q'
structure DOp (X:Cx) (o:Option Expr) (t:TO) (w:DTO):Prop where
 po:PO X o t
 sd:j9c t w
theorem jeo:DOp X none jus jb8:=⟨jv1,λC H B σ δ n Q Q' R q k=>k none H n R (Kp.refl _ _) q⟩
theorem jen (h:DE X e te we):DOp X (some e) (j4t te) (jb7 we):=⟨jv0 h.pe,λC H B σ δ n Q Q' R q k=>h.sd C H B σ δ n _ _ R q λv x H1 n1 R1 k1 r1 q1=>by
 split at q1
 ·rename_i i;cases(show RdX H1 B v (.int i)from r1);exact⟨i,rfl,k (some i) H1 n1 R1 k1 q1⟩
 ·exact q1.elim⟩
def cutD (xs:List Ad) (lo hi:Option Int):List Ad:=(xs.drop (HT.sIx xs.length 0 lo)).take (HT.sIx xs.length xs.length hi - HT.sIx xs.length 0 lo)
def jbz (w:DT) (l u:DTO):DT:=λδ n Q=>w δ n λx n1=>l δ n1 λa n2=>u δ n2 λb n3=>match x with
 |.d (.tuple ds)=>Q (.d (.tuple (cutD ds a b))) n3
 |_=>False
def rSlA (K:Ai):V->Option Int->Option Int->Hp->VK->Prop:=λx lo hi H Q=>rSlT K x lo hi H Q\/rSlW K x lo hi H Q
theorem jed {tl th:TO} {wl wh:DTO} (he:DE X e te we) (hl:DOp X lo tl wl) (hh:DOp X hi th wh) (hK:X.K=K:=by rfl):DE X (.Subscript e (.Slice lo hi none p2) pos) (tSl (rSlA K) te tl th) (jbz we wl wh):=by
 subst hK;refine⟨jnu (sl_tup.or jyr) he.pe hl.po hh.po,λC H B σ δ n Q Q' R q k=>he.sd C H B σ δ n _ _ R q λv x H1 n1 R1 k1 r1 q1 =>
  hl.sd C H1 B σ δ n1 _ _ R1 q1 λa H2 n2 R2 k2 q2=>hh.sd C H2 B σ δ n2 _ _ R2 q2 λb H3 n3 R3 k3 q3=>?_⟩
 split at q3
 ·rename_i ds;have r3:RdX H3 B v (.tuple ds):=(r1.kp k2 R1.bt).kp k3 R2.bt;cases r3 with
  |@tup aa xs _ e1 e2 e3 e4 =>
   have kk:=(k1.trans k2).trans k3;by_cases hw:HT.sIx xs.length 0 a=0/\HT.sIx xs.length xs.length b=xs.length
   ·refine .inr ⟨aa,xs,rfl,SqT.of e1,hw.1,hw.2,k _ _ H3 n3 R3 kk (wd (show RdX H3 B _ (.tuple ds)from .tup e1 e2 e3 e4)) ?_⟩;have:cutD ds a b=ds:=by
     unfold cutD;rw[<-e4.len,hw.1,hw.2,Eo,Nat.sub_zero,e4.len,List.take_length]
    rw[this]at q3;exact q3
   ·refine .inl ⟨aa,xs,rfl,SqT.of e1,hw,λp hp=>?_⟩;refine k _ _ _ n3 (R3.new hp) (kk.trans (Kp.new hp)) (wd (show RdX _ B _ (.tuple (cutD ds a b))from .tup jao (R3.nb hp) (A5 (jef xs a b) e3) ?_)) q3;unfold cutD cutV;rw[<-e4.len];exact(((e4.drop _).take _).fresh hp).less λb z=>.inl z
 ·exact q3.elim
end
end DL
namespace Nb
open PySem L2
end Nb
namespace DL
open PySem L2 Nb
section
variable {X:Cx} {tg a b c e o i f:Expr} {ta tb te td ty tx:TE} {wa wb we wd' wy wx:DT} {pos p:Pos} {K:Ai}
def j9g (i:Nat) (w:DT):DST:=λδ n K=>match δ[i]? with
 |some (some (.own ds))=>w δ n λx n1=>match x with
  |.d (.tuple es)=>(ds.length < 1000000/\es.length < 1000000)/\K.nx (δ.set i (some (.own (ds++es)))) n1
  |_=>False
 |_=>False
def wInG (hs:List Str) (w:DT):DT:=λδ n Q=>w δ n λx n1=>match x with
 |.d a=>jdz a=true/\Q (.d (.bool (inD a (hs.map .str)))) n1
 |_=>False
theorem j2m {q:Addr} {hs:List Str} (hl:∀h∈hs,h.length<=1000) (hq:∀H,SqT K H q (hs.map V.str)) (h:Snd ta wa):Snd (tOp (rIn K false) ta (tC (.ref q))) (wInG hs wa):=λC H B σ δ n Q Q' R z k =>
 h C H B σ δ n _ _ R z λv x H1 n1 R1 k1 r1 q1=>by
  split at q1
  ·rename_i da;have r1:RdX H1 B v da:=r1;have rs:RdXs H1 B (hs.map V.str) (hs.map .str):=jnq hl;refine⟨q,_,rfl,.inr (hq H1),jge r1 q1.1,jdn rs ?_,k _ _ H1 n1 R1 k1 (wd (.bl _)) ?_⟩
   ·rw[List.all_map];exact Fs.mpr λ_ _=>rfl
   ·rw[jkc r1 rs];exact q1.2
  ·exact q1.elim
theorem j86 {q:Addr} {hs:List Str} {x:Str} {xp:Pos} (ha:DE X a ta wa) (hg:Gl X x) (hm:X.mg x=some (.ref q)) (hq:∀H,SqT K H q (hs.map V.str)) (hl:∀h∈hs,h.length<=1000:=by decide +kernel) (hK:X.K=K:=by rfl) (hd:(x==("__debug__":Str))=false:=by decide)
  (hmk:B8 .In (Expr.Name x xp)=false:=by with_unfolding_all rfl):DC X (.Compare a [.In] [.Name x xp] pos) (jo9 (tOp (rIn K false) ta (tC (.ref q)))) (cT (wInG hs wa)) :=
 ⟨je3 (jig hK) ha.pe (jrc hg hm rfl hd) hmk,jfr (j2m hl hq ha.sd)⟩
end
abbrev DSpN:=List Wv->Int->(List Ad->Int->Prop)->Prop
def jtl (S:DSpN):Sp:=λvs H Q _=>∃(t:Addr) (l:TL) (ns:List Int) (B:Addr->Prop) (ws:List Wv) (n:Int) (Q0:List Ad->Int->Prop),Tp H t l ns n/\B t/\(∀b,B b->H b≠none)/\ARel H B t vs ws/\S ws n Q0 /\
 ∀ds n',Q0 ds n'->∀a xs H',Tp H' t l ns n'->Kp t H H'->H a=none->H' a=some (.lst xs)->xs.length<=A1->RdXs H' (λb=>B b\/b=a) xs ds->Q (.ref a) H'
section
variable {X:Cx} {e:Expr} {es:List Expr} {pos p:Pos} {tR:TA} {wR:DTA} {te:TE} {we:DT}
def jqd (S:DSpN) (w:DTA):DTF:=λδ n Q=>w δ n λxs n1=>S xs n1 Q
theorem jvd {S:DSpN} {t:TA} {w:DTA} (h:SndA t w):SndF (jnl (jtl S) [] E0 t) (jqd S w):=λC H B σ δ n Q Q' R q k =>
 h C H B σ δ n _ _ R q λvs xs H1 n1 R1 k1 r1 q1=>by
  refine⟨C.t,C.l,C.ns,B,xs,n1,Q,R1.tp,R1.bt,R1.ba,by rw[Bz];exact r1,q1,λds n' q2 a ys H' T' k' h0 h1 h2 h3=>?_⟩;exact k a ys ds H' n' (R1.step T' k') (k1.trans k') (R1.was k1 h0) h1 h2 h3 q2
structure HasN (P:Bg) (w:Br) (K:Ai) (mg:Str->Option Af) (base:Heap) (k:Nat) (x:Str) (ps:List Str) (S:DSpN):Prop where
 ex:∃(f:Addr) (fd:Cb),FnOk P w K mg base CX0 k f fd ps (jtl S)/\Binds K fd ps []/\mg x=some (.ref f)/\Cv K (.ref f)=true
theorem HasN.mk' {P:Bg} {w:Br} {K:Ai} {mg:Str->Option Af} {base:Heap} {k:Nat} {x qual:Str} {st:Stmt} {ps:List Str} {S:DSpN} {f:Addr} {fd:Cb} (F:Fun K x qual st f fd) (m:mg x=some (.ref f)) (b:Binds K fd ps []) (h:FnOk P w K mg base CX0 k f fd ps (jtl S)):HasN P w K mg base k x ps S:=⟨f,fd,h,b,m,F.kp⟩
theorem j31 {k:Nat} {ps:List Str} {S:DSpN} {x:Str} (h:HasN X.prog X.w X.K X.mg X.base k x ps S) (hr:Room k X.A) (hg:Gl X x)
  (ha:DA X (e::es) tR wR) (hdb:(x==("__debug__":Str))=false:=by decide) (he:Az (e::es) X.env=(false,eval e X.env)::Az es X.env:=by rfl) (hpl:(Cz pos (Az es X.env)).any (·.1)=false:=by rfl) :
  DF X (.Call (.Name x p) (e::es) [] pos) (jnl (jtl S) [] E0 tR) (jqd S wR):=by
 obtain⟨f,fd,h1,h2,h3,h4⟩:=h.ex;exact⟨jrd h1 hr hg h3 h4 h2 .nil j3a ha.pa hdb he hpl,jvd ha.sd⟩
def jys (w:DTF):DST:=λδ n K=>w δ n K.rn
theorem j5e {w:DTF} (h:DF X e te w):DS X (.Return (some e) pos) (tRet te) (jys w):=⟨jmx h.pe,λC H B σ δ n K D R q E =>
 h.sd C H B σ δ n _ _ R q λa xs ds H' n' R' k' h0 h1 h2 h3 q'=>E.rn H' B σ δ n' a xs ds R' (R.h0 h0) h1 h2 h3 q'⟩
end
section
variable {P:Bg} {w:Br} {K:Ai} {mg:Str->Option Af} {base:Heap}
theorem Fun.okN {x qual:Str} {st:Stmt} {f:Addr} {fd:Cb} {N ps:List Str} {k:Nat} {S:DSpN} (F:Fun K x qual st f fd) (Sc:FnScope N ps (jak st)) (len:∀ws n Q,S ws n Q->ws.length=ps.length)
  (hbody:∀(cdv:Af) (A:B4) (outer:List Env) (s:Ak) (H:Hp) (E:XK),Room k (A.deeper (PyProof.Rows.envOfC qual (jak st) s.heap.objs.size f cdv)) ->
   ∃T W,DSs (cxOf CX0 P w K mg base N qual (jak st) f cdv A outer s H E).nox (jdt st) T W/\∀ws n Q,S ws n Q->W (ja3 N ws) n {nx:=λ_ _=>False,rt:=λ_ _=>False,rn:=Q}):FnOk P w K mg base CX0 (k+1) f fd ps (jtl S):=by
 refine F.ok Sc (λvs H Q E h=>?_) (λcdv A outer s H vs Q E hr h=>?_)
 ·obtain⟨t,l,ns,B,ws,n,Q0,_,_,_,r,q,_⟩:=h;rw[r.len];exact len ws n Q0 q
 ·obtain⟨t,l,ns,B,ws,n,Q0,T,bt,ba,r,q,kk⟩:=h;obtain⟨T',W,d,hw⟩:=hbody cdv A outer s H E hr;refine⟨T',d.ps,d.sd ⟨t,l,ns,H,B,λ_=>none⟩ H B _ _ n _ _ (jpk T bt ba r) (hw ws n Q0 q) ⟨?_,?_,?_,?_,?_⟩⟩
  ·exact λ_ _ _ _ _ _ z=>z.elim
  ·exact λ_ _ _ _ _ _ _ _ _ z=>z.elim
  ·exact λ_ _ _ _ _ _ z=>z.elim
  ·exact λ_ _ _ _ _ _ z=>z.elim
  ·exact λH' B' σ δ n' a xs ds R' h0 h1 h2 h3 q'=>kk _ _ q' a xs H' R'.tp R'.kp h0 h1 h2 (h3.less λb z=>z.elim (λz=>.inl (R'.b0 b z)) .inr)
end
end DL
namespace Nb
open PySem L2
end Nb
namespace DL
open PySem L2 Nb
section
variable {X:Cx} {a b c e o i f:Expr} {ta tb te ty:TE} {wa wb we wy:DT} {pos p xp:Pos} {K:Ai} {D:List (Str×Str)} {q:Addr} {x:Str}
theorem jzl {n:Nat} (h:n<=1000):n<=A1:=A5 h (by decide)
def fCat (wa wb:DT):DTF:=λδ n Q=>wa δ n λx n1=>wb δ n1 λy n2=>match lsOf x,lsOf y with
 |some i,some j=>i.length+j.length<=A1/\Q (i++j) n2
 |_,_=>False
theorem j8v (ha:DE X a ta wa) (hb:DE X b tb wb):DF X (.BinOp a .Add b pos) (tOp rCat ta tb) (fCat wa wb):=⟨jc7 jwc ha.pe hb.pe,λC H B σ δ n Q Q' R z k =>
 ha.sd C H B σ δ n _ _ R z λv x H1 n1 R1 k1 r1 q1=>hb.sd C H1 B σ δ n1 _ _ R1 q1 λu y H2 n2 R2 k2 r2 q2=>by
  have r1':=r1.kp k2 R1.bt
  split at q2
  ·rename_i i j ei ej;obtain⟨ax,xs,rfl,e1,e3,e4⟩:=jsv r1' ei;obtain⟨ay,ys,rfl,f1,f3,f4⟩:=jsv r2 ej;obtain⟨hl,q⟩:=q2;have hl':xs.length+ys.length<=A1:=by rw[e4.len,f4.len];exact hl
   refine⟨ax,ay,xs,ys,rfl,rfl,e1,f1,hl',λpn hp=>?_⟩;refine k pn (xs++ys) (i++j) _ n2 (R2.new hp) ((k1.trans k2).trans (Kp.new hp)) (R2.was (k1.trans k2) hp) jao (by rw[Ah];exact hl') ((e4.append f4).fresh hp) q
  ·exact q2.elim⟩
theorem j19 {H:Hp} {p:Addr} {x y:HO}:upd (upd H p x) p y=upd H p y:=by
 funext b
 by_cases e:b=p
 ·subst e;rw[jao,jao]
 ·rw[jap e,jap e,jap e]
end
end DL
namespace L2
open PySem PySem.Spec PyProof.Rows PySem.SeqAt PySem.W
end L2
namespace L2
open PySem PySem.Spec PyProof.Rows
end L2
namespace L2
open PySem PySem.Spec PyProof.Rows PySem.W
end L2
namespace L2
open PySem PySem.Spec PyProof.Rows
end L2
namespace L2
open PySem PySem.Spec PyProof.Rows PySem.SeqAt PySem.W
section
variable {X:Cx}
theorem jt2 {i:Int} (h0:0<=i) (h1:i<=1000):Builtin.List.listFitsIndex i=true:=fitsIndex_both (by omega) (by omega)
def jvs:V->List V->Hp->VK->Prop:=λx vs H Q=>∃l xs i y,x=.ref l/\vs=[.int i,y]/\H l=some (.lst xs)/\0<=i/\i<=xs.length/\xs.length < 1000/\Q .non (upd H l (.lst (xs.take i.toNat++y::xs.drop i.toNat)))
theorem jo7 {xs:List V} {vs:List Af} (h:Vals xs vs):∀k:Nat,Vals (xs.take k) (vs.take k)/\Vals (xs.drop k) (vs.drop k):=by
 induction h with
 |nil=>intro k;rw[List.take_nil,List.take_nil,List.drop_nil,List.drop_nil];exact⟨.nil,.nil⟩
 |cons r hr ih =>
  intro k;cases k with
  |zero=>exact⟨.nil,.cons r hr⟩
  |succ k=>exact⟨.cons r (ih k).1,(ih k).2⟩
theorem jwe:MtM X "list.insert" jvs:=by
 intro pins s σ H x vs v us Q I rx rv h;obtain⟨l,xs,i,y,rfl,rfl,hH,h0,h1,h2,q⟩:=h;cases rx;obtain⟨u1,u,rfl,⟨t,rfl⟩,ru⟩:=j18 rv;obtain⟨z,its,n,r,hl,e⟩:=I.lstM hH;refine call_meets F.slot_list_insert ⟨_,e,rfl⟩ F.entry_list_insert (F.args_list_insert_3 _ _ _) (AutoSeq1.list_insert_list_int_val_1 l its.toArray n i t u (by rw[jt2 h0 (by omega)];simp) (by rw[A3];omega)) ⟨e,?_⟩;refine⟨.non,_,I.lset (its':=its.take i.toNat++u::its.drop i.toNat) hH e ?_ ((jo7 r _).1.append (.cons ru (jo7 r _).2)) ?_,rfl,q⟩
 ·have e1:(if i < 0 then(i+((its.toArray.size:Nat):Int)).toNat else min i.toNat its.toArray.size)=i.toNat:=by
   rw[if_neg (by omega),A3];omega
  show(its.toArray.extract 0 (if i < 0 then(i+((its.toArray.size:Nat):Int)).toNat else min i.toNat its.toArray.size)).push u++its.toArray.extract (if i < 0 then(i+((its.toArray.size:Nat):Int)).toNat else min i.toNat its.toArray.size) its.toArray.size=_;rw[e1];apply Fq.mp;simp;exact Cy (by rw[Bx];exact An _)
 ·rw[Ah,Ar,Ci,Bx,Dn];omega
end
end L2
namespace DL
open PySem L2 Nb
section
variable {X:Cx} {a b c e o i f:Expr} {ta tb te td ty tx:TE} {wa wb we wd' wy wx:DT} {pos p:Pos} {K:Ai}
def sIns (i:Nat) (wa wb:DT):DST:=λδ n K=>match δ[i]? with
 |some (some (.own ds))=>wa δ n λx n1=>wb δ n1 λy n2=>match x,y with
  |.d (.int k),.d d=>(0<=k/\k<=ds.length/\ds.length < 1000)/\K.nx (δ.set i (some (.own (ds.take k.toNat++d::ds.drop k.toNat)))) n2
  |_,_=>False
 |_=>False
theorem RdXs.takes {H:Hp} {B:Addr->Prop}:∀{vs:List V} {ds:List Ad},RdXs H B vs ds->∀k:Nat,RdXs H B (vs.take k) (ds.take k)/\RdXs H B (vs.drop k) (ds.drop k)
 |_,_,.nil,k=>by rw[List.take_nil,List.take_nil,List.drop_nil,List.drop_nil];exact⟨.nil,.nil⟩
 |_,_,.cons h r,0=>⟨.nil,.cons h r⟩
 |_,_,.cons h r,k+1=>⟨.cons h (RdXs.takes r k).1,(RdXs.takes r k).2⟩
theorem j8a {i:Nat} {x:Str} {xp ap cp:Pos} (hN:X.N[i]?=some x) (ha:DE X a ta wa) (hb:DE X b tb wb) (hv:Vis X.env.scope x:=by first | exact Ap rfl | exact Bw (Ap rfl) | exact Bw (Bw rfl)) (hd:(x==("__debug__":Str))=false:=by decide)
  (hcd:(x==("__classdict__":Str))=false:=by decide)
  (hbase:Ff (.Name x xp) "insert" X.env (eval (.Name x xp) X.env)=eval (.Name x xp) X.env:=by rfl)
  (hfew:((Cz cp (Az [a,b] X.env)).all (λx=>!x.1)&&(backToKw cp (keywordEach [] X.env)).all (λx=>x.1.isSome)
   && decide ([a,b].length+([]:List Keyword).length+(if ([]:List Keyword).isEmpty then 0 else 1) < 30))=true:=by rfl)
  (hline:(ap.endLine==cp.line)=true:=by rfl) (hs:Az [a,b] X.env=(false,eval a X.env)::Az [b] X.env:=by rfl) (hs2:Az [b] X.env=(false,eval b X.env)::Az [] X.env:=by rfl) (hplain:(Cz cp (Az [b] X.env)).any (·.1)=false:=by rfl)
  (hsw:Do (.Call (.Attribute (.Name x xp) "insert" ap) [a,b] [] cp) none pos.line X.env=pure false:=by rfl) :
  DS X (.Expr (.Call (.Attribute (.Name x xp) "insert" ap) [a,b] [] cp) pos) (jye (tBM X.K "list" jvs (tVar i) (jcx ta (jcx tb tNil)))) (sIns i wa wb) :=
 ⟨jrb (j28 Gp PySem.F.slot_list_insert PySem.F.type_list_insert jwe (jdl hN hv hd hcd) (ja9 ha.pe (ja9 hb.pe jca hs2) hs) hbase hfew hline hs hplain) hsw,λC H B σ δ n K D R q E=>by
  unfold sIns at q
  split at q
  ·rename_i ds ei;obtain⟨v,hv,aa,xs,rfl,e2,e3,e4,e5,e6⟩:=R.sl i _ ei;refine⟨_,hv,.inl ⟨rfl,_,SqL.of e2⟩,ha.sd C H B σ δ n _ _ R q λu x H1 n1 R1 k1 r1 q1=>hb.sd C H1 B σ δ n1 _ _ R1 q1 λu2 y H2 n2 R2 k2 r2 q2=>?_⟩
   split at q2
   ·rename_i kk d;obtain⟨⟨q3,q4,q5⟩,q6⟩:=q2;cases(show RdX H1 B u (.int kk)from r1);have hat:aa≠C.t:=λz=>R.t0 (z▸e4);have e2':=k2 _ _ (k1 _ _ e2 hat) hat;have hle:=e6.len;have r3:RdXs H2 B xs ds:=(e6.kp k1 R.bt).kp k2 R.bt;refine⟨aa,xs,kk,u2,rfl,rfl,e2',q3,by omega,by omega,?_⟩;refine E.nx _ _ _ _ _ (R2.mutOwn ei rfl hv e3 e4 ?_ rfl) q6;refine⟨aa,xs.take kk.toNat++u2::xs.drop kk.toNat,rfl,jao,e3,e4,?_,?_⟩
    ·rw[Ah,Ar,Ci,Bx];exact jbn (by omega)
    ·refine RdXs.keep (λb o e n=>?_) ((r3.takes _).1.append (.cons r2 (r3.takes _).2));rw[jap λ(z:b=aa)=>n (z▸e3)];exact e
   ·exact q2.elim
  ·exact q.elim⟩
end
end DL
namespace L2
open PySem PySem.Spec PyProof.Rows PySem.SeqAt PySem.W
end L2
namespace DL
open PySem L2 Nb
section
variable {X:Cx} {o:Expr} {td:TE} {wd':DT} {pos p p2:Pos} {K:Ai}
def vD:Key->Ad
 |.inl i=>.int i
 |.inr x=>.str x
def rowD (k:List Key):Ad:=.tuple (k.map vD)
theorem j04 {H:Hp} {B:Addr->Prop} {k:List Key}:∀{vs:List V},RdXs H B vs (k.map vD)->vs=k.map kV:=by
 induction k with
 |nil=>intro vs h;cases h;rfl
 |cons x k ih =>
  intro vs h;cases h with
  |cons h t =>
   rw[ih t];cases x with
   |inl i=>cases(show RdX H B _ (.int i)from h);rfl
   |inr x=>cases(show RdX H B _ (.str x)from h);rfl
end
end DL
namespace HT
open PySem PyProof.Rows
end HT
namespace L2
open PySem PySem.Spec PyProof.Rows
end L2
namespace DL
open PySem L2 Nb
end DL
namespace L2
open PySem PySem.Spec PyProof.Rows PySem.SeqAt
end L2
namespace DL
open PySem L2 Nb
end DL
namespace L2
open PySem PySem.Spec PyProof.Rows
end L2
namespace DL
open PySem L2 Nb
end DL
namespace L2
open PySem PySem.Spec PyProof.Rows
def j2w (K:Ai):R2:=λx y H Q=>∃a b ys,x=.ref a/\y=.ref b/\SqT K H a []/\SqT K H b ys/\Q (.ref b) H
theorem j3e {X:Cx}:OpR X (Ec .Add) (j2w X.K):=by
 intro pins s σ H x y v u Q I rx ry h;obtain⟨a,b,ys,rfl,rfl,ha,hb,q0⟩:=h;cases(show v=A7 a from rx);cases(show u=A7 b from ry);obtain⟨its,r1,p1,_⟩:=I.tuple ha;obtain⟨its2,r2,p2,_⟩:=I.tuple hb;obtain⟨⟨cls,dd,data,sl⟩,ho,hc,n,hd⟩:=id p1;obtain⟨⟨cls2,dd2,data2,sl2⟩,ho2,hc2,n2,hd2⟩:=id p2;simp only at hc hd hc2 hd2;subst hc hd hc2 hd2;have hi:its=[]:=r1.nil_iff.mpr rfl;exact concat_meets ⟨_,ho,rfl⟩ ⟨_,ho2,rfl⟩ noFill_tuple_add seq_tuple_add E7 E2 (Eu _ _)
  (tuple_addW0 a b its.toArray its2.toArray n n2 dd dd2 sl sl2 (by simp[hi])) ⟨ho,ho2,⟨.ref b,H,I,rfl,q0⟩⟩
end L2
namespace DL
open PySem L2 Nb
section
variable {X:Cx} {a b:Expr} {ta tb:TE} {wa wb:DT} {pos p:Pos} {K:Ai}
def jeb:Wv->Wv->Int->DQ->Prop:=λx y n Q=>match x,y with
 |.d (.tuple []),.d (.tuple j)=>Q (.d (.tuple j)) n
 |x,y=>gAdd x y n Q
theorem jyn:SndO (λx y H Q=>jyz K x y H Q\/j2w K x y H Q) jeb:=λC H B σ δ n x y p q Q Q' R rx ry h1 k=>by
 unfold jeb at h1
 split at h1
 ·rename_i j;cases(show RdX H B x (.tuple [])from rx)with
  |@tup ax xs _ e1 e2 e3 e4 =>
   cases(show RdX H B y (.tuple j)from ry)with
   |@tup ay ys _ f1 f2 f3 f4 =>
    cases e4;exact .inr ⟨ax,ay,ys,rfl,rfl,SqT.of e1,SqT.of f1,k _ _ H n R (Kp.refl _ _) (wd (show RdX H B _ (.tuple j)from .tup f1 f2 f3 f4)) h1⟩
 ·exact .inl (jyo C H B σ δ n x y _ _ Q Q' R rx ry h1 k)
theorem jil (ha:DE X a ta wa) (hb:DE X b tb wb) (hK:X.K=K:=by rfl):DE X (.BinOp a .Add b pos) (tOp (λx y H Q=>jyz K x y H Q\/j2w K x y H Q) ta tb) (w2 wa wb jeb):=by
 subst hK;exact d_op (op_addA.or j3e) jyn ha hb
end
end DL
namespace L2
open PySem PySem.Spec PyProof.Rows
end L2
namespace DL
open PySem L2 Nb
end DL
namespace L2
open PySem PySem.Spec PyProof.Rows
end L2
namespace DL
open PySem L2 Nb
end DL
namespace L2
open PySem PySem.Spec PyProof.Rows
end L2
namespace DL
open PySem L2 Nb
end DL
namespace L2
open PySem PySem.Spec PyProof.Rows
end L2
namespace DL
open PySem L2 Nb
theorem jdo {X:Cx} {a b:Expr} {ta tb:TE} {wa wb:DT} {pos:Pos} (ha:DE X a ta wa) (hb:DE X b tb wb):DE X (.BinOp a .Add b pos) (tOp (rI0 λi j=>.int (i+j)) ta tb) (w2 wa wb (gI0 λi j=>.int (i+j))):=d_op op_add (ju8 λ_ _ _ _=>.int _) ha hb
section
variable {X:Cx} {a b e o i f:Expr} {ta tb te td ty:TE} {wa wb we wd' wy:DT} {pos p p2:Pos} {K:Ai}
def gIsO (neg:Bool):Wv->Wv->Int->DQ->Prop:=λx y n Q=>(∃o,x=.ob o/\y=.d .none/\Q (.d (.bool neg)) n)\/gIsN neg x y n Q
theorem j1f {H:Hp} {B:Addr->Prop} {t:Addr} {v:V} {o:Ob} (h:WRel H B t v (.ob o)):∃a,v=.ref a:=by
 cases o with
 |o=>exact h
 |p d=>obtain⟨a,_,_,e,_⟩:=h;exact⟨a,e⟩
 |k m=>obtain⟨a,_,e,_⟩:=h;exact⟨a,e⟩
 |q d m=>obtain⟨a,_,_,_,e,_⟩:=h;exact⟨a,e⟩
theorem jno:SndO (λx y H Q=>y=.non/\Q (.bl (decide (x=.non))) H) (gIsO false):=λC H B σ δ n x y p q Q Q' R rx ry h1 k=>by
 rcases h1 with⟨o,rfl,rfl,h⟩ | h
 ·obtain⟨a,rfl⟩:=j1f rx;cases(show RdX H B y .none from ry);exact⟨rfl,k _ _ H n R (Kp.refl _ _) (wd (.bl _)) h⟩
 ·exact jhb C H B σ δ n x y p q Q Q' R rx ry h k
theorem jsa:SndO (λx y H Q=>y=.non/\Q (.bl (!decide (x=.non))) H) (gIsO true):=λC H B σ δ n x y p q Q Q' R rx ry h1 k=>by
 rcases h1 with⟨o,rfl,rfl,h⟩ | h
 ·obtain⟨a,rfl⟩:=j1f rx;cases(show RdX H B y .none from ry);exact⟨rfl,k _ _ H n R (Kp.refl _ _) (wd (.bl _)) h⟩
 ·exact jnn C H B σ δ n x y p q Q Q' R rx ry h k
def jum (w w':DT):DT:=λδ n Q=>w δ n λx n1=>w' δ n1 λy n2=>∃d m,x=.d d/\y=.ob (.k m)/\Q (.ob (.q d m)) n2
theorem j34 {x1} (ha:DE X a ta wa) (hb:DE X b tb wb) (he:Az [a,b] X.env=(false,eval a X.env)::Az [b] X.env:=by rfl) (he':Az [b] X.env=(false,eval b X.env)::Az [] X.env:=by rfl):DE X (.Tuple [a,b] x1 pos) (tTup (jcx ta (jcx tb tNil))) (jum wa wb) :=
 ⟨j1c (ja9 ha.pe (ja9 hb.pe jca he') he),λC H B σ δ n Q Q' R q k =>
  ha.sd C H B σ δ n _ _ R q λv x H1 n1 R1 k1 r1 q1=>hb.sd C H1 B σ δ n1 _ _ R1 q1 λu y H2 n2 R2 k2 r2 q2=>by
   obtain⟨d,m,rfl,rfl,q3⟩:=q2;have r1':RdX H2 B v d:=r1.kp k2 R1.bt;obtain⟨b,l,rfl,g1,g2,g3⟩:=r2;refine⟨small (show 2<=1000 by decide),λp hp=>k _ (.ob (.q d m)) _ n2 (R2.new hp) ((k1.trans k2).trans (Kp.new hp)) ⟨p,v,b,l,rfl,jao,R2.nb hp,?_,?_,g2,?_⟩ q3⟩
   ·exact r1'.kp (Kp.new (t:=C.t) hp) R2.bt
   ·exact Kp.new (t:=C.t) hp _ _ g1 λz=>g2 (z▸R2.bt)
   ·exact g3.move λb o e n=>⟨Kp.new (t:=C.t) hp b o e λz=>n (z▸R2.bt),n⟩⟩
def gIxO:Wv->Wv->Int->DQ->Prop:=λx y n Q=>(∃d m,x=.ob (.q d m)/\((y=.d (.int 0)/\Q (.d d) n)\/(y=.d (.int 1)/\Q (.dk m) n)))\/gIx x y n Q
theorem j2k:SndO (rIx K) gIxO:=λC H B σ δ n x y p q Q Q' R rx ry h1 k=>by
 rcases h1 with⟨d,m,rfl,h⟩ | h
 ·obtain⟨a,v,b,l,rfl,e2,e3,e4,e5,e6,e7⟩:=rx;rcases h with⟨rfl,h⟩ | ⟨rfl,h⟩
  ·cases(show RdX H B y (.int 0)from ry);exact .inr (.inl ⟨a,[v,.ref b],0,v,rfl,rfl,SqT.of e2,rfl,k _ _ H n R (Kp.refl _ _) (wd e4) h⟩)
  ·cases(show RdX H B y (.int 1)from ry);exact .inr (.inl ⟨a,[v,.ref b],1,.ref b,rfl,rfl,SqT.of e2,rfl,k _ (.dk m) H n R (Kp.refl _ _) ⟨b,l,rfl,e5,λz=>e6 (z▸R.bt),e7⟩ h⟩)
 ·exact jmk C H B σ δ n x y p q Q Q' R rx ry h k
theorem jex (ha:DE X a ta wa) (hb:DE X b tb wb) (hK:X.K=K:=by rfl) (hs:jld b:=by exact λ_ _=>rfl):DE X (.Subscript a b pos) (tOp (rIx K) ta tb) (w2 wa wb gIxO):=by
 subst hK;exact⟨jhd js0 ha.pe hb.pe hs,jmj j2k ha.sd hb.sd⟩
end
section
variable {X:Cx} {a b e o:Expr} {ta tb te td ty:TE} {wa wb we wd' wy:DT} {pos p p2:Pos} {K:Ai} {H:Hp} {B:Addr->Prop} {l:List (List Key×V)} {m:List (List Key×Ad)}
def inT (m:List (List Key×Ad)) (k:List Key):Bool:=m.any λkv=>decide (kv.1=k)
def putT (m:List (List Key×Ad)) (k:List Key) (d:Ad):List (List Key×Ad):=if inT m k=true then m.map (λkv=>if kv.1=k then(kv.1,d)else kv)else m++[(k,d)]
theorem RdT.any (h:RdT H B l m) (k:List Key):(l.any λkv=>decide (kv.1=k))=inT m k:=by
 unfold RdT at h;unfold inT
 induction h with
 |nil=>rfl
 |cons r _ ih=>rw[Co,Co,ih,r.1]
theorem RdT.isSome (h:RdT H B l m) (k:List Key):(valV l k).isSome=inT m k:=by
 rw[<-h.any k];unfold valV;rw[Option.isSome_map,List.isSome_find?]
theorem RdT.len (h:RdT H B l m):l.length=m.length:=by
 unfold RdT at h
 induction h with
 |nil=>rfl
 |cons _ _ ih=>rw[Ar,Ar,ih]
theorem RdT.map {v:V} {d:Ad} (h:RdT H B l m) (r:RdX H B v d) (k:List Key):RdT H B (l.map λkv=>if kv.1=k then(kv.1,v)else kv) (m.map λkv=>if kv.1=k then(kv.1,d)else kv):=by
 unfold RdT at h ⊢
 induction h with
 |nil=>exact .nil
 |@cons p q ps qs z _ ih =>
  rw[Bi,Bi];refine .cons ?_ ih;by_cases e:p.1=k
  ·have e':q.1=k:=z.1▸e;rw[if_pos e,if_pos e'];exact⟨z.1,r⟩
  ·have e':¬q.1=k:=z.1▸e;rw[if_neg e,if_neg e'];exact z
theorem RdT.snoc {v:V} {d:Ad} (h:RdT H B l m) (r:RdX H B v d) (k:List Key):RdT H B (l++[(k,v)]) (m++[(k,d)]):=by
 unfold RdT at h ⊢
 induction h with
 |nil=>exact .cons ⟨rfl,r⟩ .nil
 |cons z _ ih=>exact .cons z ih
theorem RdT.put {v:V} {d:Ad} (h:RdT H B l m) (r:RdX H B v d) (k:List Key):RdT H B (putK l k v) (putT m k d):=by
 unfold putK putT;rw[h.any k]
 split
 ·exact h.map r k
 ·exact h.snoc r k
def jyt (i:Nat):DST:=λδ n K=>K.nx (δ.set i (some (.odt []))) n
theorem j5h {i:Nat} {x:Str} {pos':Pos} (hN:X.N.Nodup) (hi:X.N[i]?=some x) (hx:Loc X.env.scope x) (hs:Do (.Dict [] [] p) (some (.Name x pos')) pos.line X.env=pure false:=by rfl) (hf:X.fn x=true\/X.env.scope.names.lookup x=some .local:=by first | exact .inl rfl | exact .inr rfl | assumption) :
  DS X (.Assign [.Name x pos'] (.Dict [] [] p) pos) (tAsg j0u (jhs i)) (jyt i):=⟨jf4 hN hi hx jy7 hs hf,λC H B σ δ n K D R q E=>λa ha=>by
  refine E.nx _ _ _ _ _ (R.own (R.new ha) (Kp.new ha) ha (by rw[jao];exact λz=>nomatch z) rfl ?_) q;exact⟨a,[],rfl,jao,.inr rfl,R.h0 ha,Bm _,.nil⟩⟩
def jx7 (i:Nat) (w:DT):DT:=λδ n Q=>w δ n λx n1=>∃k kvs,x=.d (rowD k)/\δ[i]?=some (some (.odt kvs))/\Q (.d (.bool !inT kvs k)) n1
theorem jyi {i:Nat} (hi:DE X a ta wa):Snd (jjk ta (tVar i)) (jx7 i wa):=λC H B σ δ n Q Q' R h k =>
 hi.sd C H B σ δ n _ _ R h λv x H1 n1 R1 k1 r1 q1=>by
  obtain⟨key,kvs,rfl,e,q⟩:=q1;obtain⟨w,h1,b,l,rfl,g2,g3,g4,g5,g6⟩:=R1.sl i _ e;refine⟨_,h1,?_⟩;cases(show RdX H1 B v (.tuple (key.map vD))from r1)with
  |@tup c zs _ i1 i2 i3 i4 =>
   have ez:=j04 i4;subst ez;refine⟨b,valV l key,rfl,DGet.t g2 i1,k _ _ H1 n1 R1 k1 (wd (.bl _)) ?_⟩;rw[g6.isSome key];exact q
theorem j7u {i:Nat} {x:Str} {xp:Pos} (hu:X.A.units+64 < Ef) (hN:X.N[i]?=some x) (hi:DE X a ta wa) (hv:Vis X.env.scope x:=by first | exact Ap rfl | exact Bw (Ap rfl) | exact Bw (Bw rfl)) (hd:(x==("__debug__":Str))=false:=by decide)
  (hcd:(x==("__classdict__":Str))=false:=by decide) (hm:B8 .NotIn (.Name x xp)=false:=by with_unfolding_all rfl):DC X (.Compare a [.NotIn] [.Name x xp] pos) (jo9 (jjk ta (tVar i))) (cT (jx7 i wa)):=⟨j5z (jpo (by omega) hi.pe (jdl hN hv hd hcd)) hm,jfr (jyi hi)⟩
def j5k (i:Nat) (wy wv:DT):DST:=λδ n K=>wv δ n λv n1=>∃kvs,δ[i]?=some (some (.odt kvs))/\wy δ n1 λy n2=>∃k d,v=.d d/\y=.d (rowD k)/\kvs.length < 1000/\K.nx (δ.set i (some (.odt (putT kvs k d)))) n2
theorem j5f {i:Nat} {x:Str} {xp sp:Pos} {j e:Expr} {tj te:TE} {wj we:DT} (hu:X.A.units+64 < Ef) (hN:X.N[i]?=some x) (hj:DE X j tj wj) (he:DE X e te we) (hv:Vis X.env.scope x:=by first | exact Ap rfl | exact Bw (Ap rfl) | exact Bw (Bw rfl)) (hd:(x==("__debug__":Str))=false:=by decide)
  (hcd:(x==("__classdict__":Str))=false:=by decide) (hs:Do e (some (.Subscript (.Name x xp) j sp)) pos.line X.env=pure false:=by rfl) :
  DS X (.Assign [.Subscript (.Name x xp) j sp] e pos) (j2s (tVar i) tj te) (j5k i wj we) :=
 ⟨jvy (by omega) (jdl hN hv hd hcd) hj.pe he.pe hs,λC H B σ δ n K D R q E =>
  he.sd C H B σ δ n _ _ R q λu y H1 n1 R1 k1 r1 q1=>by
   obtain⟨kvs,ei,q1⟩:=q1;obtain⟨v,hv,a,l,rfl,e2,e3,e4,e5,e6⟩:=R1.sl i _ ei;refine⟨_,hv,hj.sd C H1 B σ δ n1 _ _ R1 q1 λw z H2 n2 R2 k2 r2 q2=>?_⟩;obtain⟨key,d,rfl,rfl,hl0,q2⟩:=q2;have hat:a≠C.t:=λz=>R.t0 (z▸e4);have e2':=k2 _ _ e2 hat;have r1':RdX H2 B u d:=RdX.kp k2 R1.bt r1;have e6':RdT H2 B l kvs:=e6.move λb o e n=>⟨k2 b o e λz=>n (z▸R1.bt),n⟩;have hl:l.length < 1000:=by rw[e6'.len];exact hl0
   cases(show RdX H2 B w (.tuple (key.map vD))from r2)with
   |@tup c zs _ i1 i2 i3 i4 =>
    have ez:=j04 i4;subst ez;refine⟨a,_,rfl,DPut.t e2' i1 (Bj hl (jbn (An _))),?_⟩;refine E.nx _ _ _ _ _ (R2.mutOwn ei rfl hv e3 e4 ?_ rfl) q2;refine⟨a,_,rfl,jao,e3,e4,?_,?_⟩
    ·have:=jc9 l key u;omega
    ·exact(e6'.put r1' _).move λb o e n=>⟨by rw[jap λ(z:b=a)=>n (z▸e3)];exact e,n⟩⟩
end
section
variable {X:Cx} {a b e o i f:Expr} {ta tb te td ty:TE} {wa wb we wd' wy:DT} {pos p p2:Pos} {K:Ai}
def ji1 (k:Int) (xs:List Ad):List Ad:=xs.zipIdx.map λq=>.tuple [.int (k+q.2),q.1]
theorem jd2 {k:Int} {xs:List Ad}:(ji1 k xs).length=xs.length:=by unfold ji1;rw[Ab,List.length_zipIdx]
theorem jqe {k:Int} {xs:List Ad} {i:Nat} {d:Ad} (h:(ji1 k xs)[i]?=some d):∃x,xs[i]?=some x/\d=.tuple [.int (k+i),x]:=by
 unfold ji1 at h;rw[Ay,List.getElem?_zipIdx]at h;cases e:xs[i]? with
 |none=>rw[e]at h;cases h
 |some x =>
  rw[e]at h;refine⟨x,rfl,?_⟩;have:=Ax h;rw[<-this,Nat.zero_add]
theorem jfw {k:Int} {x:Ad} {xs:List Ad}:ji1 k (x::xs)=.tuple [.int k,x]::ji1 (k+1) xs:=by
 refine List.ext_getElem? λi=>?_;unfold ji1;cases i with
 |zero=>rw[List.zipIdx_cons,Bi,List.getElem?_cons_zero,List.getElem?_cons_zero,Int.natCast_zero,Int.add_zero]
 |succ i =>
  rw[List.getElem?_cons_succ,Ay,Ay,List.getElem?_zipIdx,List.getElem?_zipIdx,List.getElem?_cons_succ];cases xs[i]? with
  |none=>rfl
  |some y =>
   show some (PyData.tuple [.int (k+(0+(i+1):Nat)),y])=some (.tuple [.int (k+1+(0+i:Nat)),y]);have:k+(0+(i+1):Nat)=k+1+(0+i:Nat):=by omega
   rw[this]
def jx6 (k1 s1 k2:Str) (i2:Int):DT:=λ_ n Q=>Q (.dk (jer [] [(.inr k1,.str s1),(.inr k2,.int i2)])) n
theorem j7l {k1 s1 k2:Str} {i2:Int} {e1 e2 v1 v2:Expr} (h:PPs X pos [some e1,some e2] [v1,v2] [(tC (.str k1),tC (.str s1)),(tC (.str k2),tC (.int i2))]) (hl:s1.length<=1000:=by decide +kernel) :
  DE X (.Dict [some e1,some e2] [v1,v2] pos) (j4x [(tC (.str k1),tC (.str s1)),(tC (.str k2),tC (.int i2))]) (jx6 k1 s1 k2 i2):=⟨j24 h rfl rfl (λz=>nomatch z) (show 2<=15 by decide),λC H B σ δ n Q Q' R q k=>λa ha=>by
 refine(show jr6 [(tC (.str k1),tC (.str s1)),(tC (.str k2),tC (.int i2))] σ _ _ from⟨jao,[(Ct k1,V.str s1),(Ct k2,V.int i2)],rfl,by show 2<=15;decide,?_⟩);rw[j19];exact k (.ref a) (.dk (jer [] [(.inr k1,.str s1),(.inr k2,.int i2)])) _ n (R.new ha) (Kp.new ha) ⟨a,_,rfl,jao,λz=>R.ba C.t R.bt (z▸ha),RdK.merge (.cons ⟨rfl,.str _ (jzl hl)⟩ (.cons ⟨rfl,.int _⟩ .nil)) .nil⟩ q⟩
def jun (hs:List Str) (w:DT):DT:=λδ n Q=>w δ n λx n1=>∃a,x=.d a/\jdz a=true/\Q (.d (.bool !inD a (hs.map .str))) n1
theorem jyj {q:Addr} {hs:List Str} (hl:∀h∈hs,h.length<=1000) (hq:∀H,SqT K H q (hs.map V.str)) (h:Snd ta wa):Snd (tOp (rIn K true) ta (tC (.ref q))) (jun hs wa):=λC H B σ δ n Q Q' R z k =>
 h C H B σ δ n _ _ R z λv x H1 n1 R1 k1 r1 q1=>by
  obtain⟨da,rfl,q1⟩:=q1;have r1:RdX H1 B v da:=r1;have rs:RdXs H1 B (hs.map V.str) (hs.map .str):=jnq hl;refine⟨q,_,rfl,.inr (hq H1),jge r1 q1.1,jdn rs ?_,k _ _ H1 n1 R1 k1 (wd (.bl _)) ?_⟩
  ·rw[List.all_map];exact Fs.mpr λ_ _=>rfl
  ·rw[jkc r1 rs];exact q1.2
theorem j7v {q:Addr} {hs:List Str} {x:Str} {xp:Pos} (ha:DE X a ta wa) (hg:Gl X x) (hm:X.mg x=some (.ref q)) (hq:∀H,SqT K H q (hs.map V.str)) (hl:∀h∈hs,h.length<=1000:=by decide +kernel) (hK:X.K=K:=by rfl) (hd:(x==("__debug__":Str))=false:=by decide)
  (hmk:B8 .NotIn (Expr.Name x xp)=false:=by with_unfolding_all rfl):DC X (.Compare a [.NotIn] [.Name x xp] pos) (jo9 (tOp (rIn K true) ta (tC (.ref q)))) (cT (jun hs wa)) :=
 ⟨je3 (je5 hK) ha.pe (jrc hg hm rfl hd) hmk,jfr (jyj hl hq ha.sd)⟩
end
section
variable {X:Cx} {e:Expr} {te:TE} {we:DT} {pos p:Pos}
def wOfK (w:DTK):DT:=λδ n Q=>w δ n λkvs n1=>Q (.dk kvs) n1
theorem DN.d {w:DTK} (h:DN X e te w):DE X e te (wOfK w):=⟨h.pe,λC H B σ δ n Q Q' R q k =>
 h.sd C H B σ δ n _ _ R q λa l kvs H' n' R' k' h0 h1 h2 h3 q1=>by
  refine k _ (.dk kvs) H' n' R' k' ⟨a,l,rfl,h1,λz=>?_,h3.move λb o e n=>⟨e,λz=>n (.inl z)⟩⟩ q1;obtain⟨_,_,q,_⟩:=R.tp.ob;rw[<-z,h0]at q;cases q⟩
abbrev jo4 (w:DT):DT:=wOfK (jka w)
theorem jxg (hh:X.A.handled=none) (hg:Gl X "dict") (hm:X.mg "dict"=none) (he:DE X e te we) (he':Az [e] X.env=(false,eval e X.env)::Az [] X.env:=by rfl) (hpl:(Cz pos (Az [] X.env)).any (·.1)=false:=by rfl):DE X (.Call (.Name "dict" p) [e] [] pos) (tCB j09 (jcx te tNil)) (jo4 we) :=
 (jj9 hh hg hm he (by decide +kernel) he' hpl).d
end
section
variable {X:Cx} {e:Expr} {te:TE} {we:DT} {pos p2:Pos} {K:Ai}
def cTr (w:DT):DTT:=λδ n Q=>w δ n λx n1=>match x with
 |.d (.list ds)=>Q (!ds.isEmpty) n1
 |_=>False
def jc6 (w:DT) (l u:DTO):DT:=λδ n Q=>w δ n λx n1=>l δ n1 λa n2=>u δ n2 λb n3=>match x with
 |.d (.list ds)=>Q (.d (.list (cutD ds a b))) n3
 |_=>False
theorem joq {lo hi:Option Expr} {tl th:TO} {wl wh:DTO} (he:DE X e te we) (hl:DOp X lo tl wl) (hh:DOp X hi th wh) (hK:X.K=K:=by rfl):DE X (.Subscript e (.Slice lo hi none p2) pos) (tSl (rSlL K) te tl th) (jc6 we wl wh):=by
 subst hK;refine⟨jnu jvh he.pe hl.po hh.po,λC H B σ δ n Q Q' R q k=>he.sd C H B σ δ n _ _ R q λv x H1 n1 R1 k1 r1 q1 =>
  hl.sd C H1 B σ δ n1 _ _ R1 q1 λa H2 n2 R2 k2 q2=>hh.sd C H2 B σ δ n2 _ _ R2 q2 λb H3 n3 R3 k3 q3=>?_⟩
 split at q3
 ·rename_i ds;have r3:RdX H3 B v (.list ds):=(r1.kp k2 R1.bt).kp k3 R2.bt;cases r3 with
  |@lst aa xs _ e1 e2 e3 e4 =>
   have kk:=(k1.trans k2).trans k3;refine⟨aa,xs,rfl,SqL.of e1,λp hp=>?_⟩;refine k _ _ _ n3 (R3.new hp) (kk.trans (Kp.new hp)) (wd (show RdX _ B _ (.list (cutD ds a b))from .lst jao (R3.nb hp) (A5 (jef xs a b) e3) ?_)) q3;unfold cutD cutV;rw[<-e4.len];exact(((e4.drop _).take _).fresh hp).less λb z=>.inl z
 ·exact q3.elim
end
end DL
namespace L2
open PySem PySem.Spec PyProof.Rows
def IteL (K:Ai) (a:Addr):It :=
 ⟨λi H=>∃xs x,SqL K H a xs/\xs[i]?=some x,
  λi H v H'=>∃T x,v=.ref T/\H T=none/\H'=upd H T (.tup [.int i,x])/\∀xs,SqL K H a xs->xs[i]?=some x,
  λi H=>∃xs,SqL K H a xs/\xs.length=i⟩
theorem jth {P:Bg} {w:Br} {K:Ai} {elts:List Expr} {kk:Nat} {pos:Pos} {a e it:Addr} (h1:e≠it) (h2:a≠it) (h3:e≠a):Turn P w K (.Tuple elts kk pos) (IteL K a) [e,it] e
  (λi h=>(∃old,IsEnum h e it i old)/\h.IsListIter it a i) where
 mem:=by simp
 obj:=λi h st c hc=>by
  obtain⟨⟨x,he⟩,⟨o1,e1,c1,d1⟩⟩:=st;simp only[As,Aw,or_false]at hc;rcases hc with rfl | rfl
  ·exact⟨_,he,λv q=>by have q':Data.fields _=Data.cell v:=q;cases q'⟩
  ·exact⟨o1,e1,λv q=>by rw[d1]at q;cases q⟩
 keep:=λi h h' st k=>⟨st.1.imp λ_ q=>k e (by simp) _ q,st.2.at λo q=>k it (by simp) o q⟩
 item:=by
  intro X hP hw hK hc i pins s σ H E I hf st hg;subst hP hw hK;obtain⟨⟨old,he⟩,hi⟩:=st;obtain⟨xs,x,qa,ex⟩:=hg;obtain⟨its,rv,p,_⟩:=I.list qa;obtain⟨u,hu,ru⟩:=rv.get ex;have hlt:i < its.toArray.size:=by simpa using(At.mp hu).1
  have hef:e∉[it,a]:=λz=>by
   simp only[As,Aw,or_false]at z;exact z.elim h1 h3
  refine wpAny_pyNext_enum_itemD (Draws.list (A:=X.A.in1) (I.ok.hd hc) it a h2 its.toArray) he ⟨hi,p.isList⟩ hlt h1 hef λy h' tk a1 a2 a3 a4 a5 a6=>⟨_,rfl,?_⟩;obtain rfl:u=y:=by
   rw[List.getElem?_toArray,hu]at a1;cases a1;rfl
  refine wpAny_letOwnedTupleGo_enum (s:={ s with heap:=h',toks:=tk+1}) a2 λh'' b1 b2=>?_;have T:h''.get? s.heap.objs.size=some {cls:=.type "tuple",data:=.seq #[.int i tk,u]}:=b2.extBut _ _ (Du (Av he)) a4;have Tn:H s.heap.objs.size=none:=I.hok.fresh (An _);have kp:∀c o,c∉[e,it]->s.heap.get? c=some o->h''.get? c=some o:=λc o hc e=>by
   simp only[As,Aw,or_false,not_or]at hc;exact b2.extBut _ _ hc.1 (a6 c o hc.1 hc.2 e)
  refine⟨.ref s.heap.objs.size,upd H s.heap.objs.size (.tup [.int i,x]),I.many (t':=tk+1) hf kp (An _) ⟨by show 2<=A1;decide,[.int i tk,u],.cons ⟨tk,rfl⟩ (.cons ru .nil),_,T,rfl,⟨_,rfl⟩,rfl⟩,rfl,⟨_,x,rfl,Tn,rfl,λzs q=>by rw[I.list_inj q qa];exact ex⟩,
   ⟨⟨u,by rw[show((i+1:Nat):Int)=(i:Int)+1 from rfl];exact b1⟩,a3.1.extBut b2.extBut h1.symm⟩,λc hc=>?_⟩
  have hlt:c < s.heap.objs.size:=by
   simp only[As,Aw,or_false]at hc;rcases hc with rfl | rfl
   ·exact Av he
   ·obtain⟨_,e,_⟩:=hi;exact Av e
  rw[jap (Bb hlt)];exact(hf c hc).1
 done:=by
  intro X hP hw hK hc i pins s σ H E I hf st hg;subst hP hw hK;obtain⟨⟨old,he⟩,hi⟩:=st;obtain⟨xs,hq,hx⟩:=hg;obtain⟨its,rv,p,_⟩:=I.list hq;have hl:=rv.length;have hs:its.toArray.size=i:=by simp;omega
  refine wpAny_pyNext_enum_endD (Draws.list (A:=X.A.in1) (I.ok.hd hc) it a h2 its.toArray) he (by rw[hs];exact⟨hi,p.isList⟩) λh' k=>⟨rfl,I.many0 (t':=s.toks) hf λc o hc e=>?_⟩;simp only[As,Aw,or_false,not_or]at hc;exact k c o hc.2 e
 self:=λ_ _ _ _ _ st h=>wpAny_pyIter_enum st.1.choose_spec h
def j1q (K:Ai) (ta:TA):TI:=λσ H R=>ta σ H λvs H1=>∃a,vs=[.ref a]/\((∃xs,SqT K H1 a xs)/\R (Ite K a) H1\/(∃xs,SqL K H1 a xs)/\R (IteL K a) H1)
theorem jy4 {X:Cx} {elts:List Expr} {kk:Nat} {tpos:Pos} {e1:Expr} {ta:TA} {p pos:Pos} (hg:Gl X "enumerate") (hm:X.mg "enumerate"=none) (ha:PA X [e1] ta) (hs:Az [e1] X.env=[(false,eval e1 X.env)]:=by rfl) :
  PI X (.Tuple elts kk tpos) (.Call (.Name "enumerate" p) [e1] [] pos) (j1q X.K ta):=by
 intro pins s σ H R I h;refine Call_ (jm3 I hg hm boot_enumerate (D7 (thn (ha pos pins s σ H _ I h) λus s1 ⟨vs,H1,I1,r1,q1⟩=>?_) (by rw[hs];rfl) rfl));obtain⟨a,e,q⟩:=q1;subst e;cases r1 with
 |cons r rr =>
  cases rr;cases r;have fp:∀c∈[s1.heap.objs.size+1,s1.heap.objs.size],s1.heap.objs.size<=c:=λc hc=>by
   simp only[As,Aw,or_false]at hc;rcases hc with rfl | rfl<;>omega
  rcases q with⟨⟨xs,qa⟩,q⟩ | ⟨⟨xs,qa⟩,q⟩
  ·obtain⟨its,rv,pp,_⟩:=I1.tuple qa;have la:a < s1.heap.objs.size:=by obtain⟨_,e,_⟩:=id pp;exact Av e
   refine juc (show s1.heap.IsTuple a its.toArray from pp) λh' a1 a2 a3=>wpAny_pyIter_enum (s:={ s1 with heap:=h'}) a1 ?_;exact⟨_,_,_,_,H1,rfl,I1.kept (t':=s1.toks) a3,juq (Nat.succ_ne_self _) (Bb la) (Du (Db la)),⟨⟨_,a1⟩,a2⟩,λc hc=>I1.fpOk (fp c hc) (I1.hok.fresh (fp c hc)),q⟩
  ·obtain⟨its,rv,pp,_⟩:=I1.list qa;have la:a < s1.heap.objs.size:=by obtain⟨_,e,_⟩:=pp.isList;exact Av e
   refine call_enumerate_list pp.isList λh' a1 a2 _ a3=>wpAny_pyIter_enum (s:={ s1 with heap:=h'}) a1 ?_;exact⟨_,_,_,_,H1,rfl,I1.kept (t':=s1.toks) a3,jth (Nat.succ_ne_self _) (Bb la) (Du (Db la)),⟨⟨_,a1⟩,a2⟩,λc hc=>I1.fpOk (fp c hc) (I1.hok.fresh (fp c hc)),q⟩
end L2
namespace DL
open PySem L2 Nb
section
variable {X:Cx} {a:Expr} {ta:TE} {wa:DT} {pos p:Pos} {K:Ai}
def jp3 (w:DT):DTI:=λδ n Q=>w δ n λx n1=>∃xs,(x=.d (.tuple xs)\/x=.d (.list xs))/\Q (ji1 0 xs) n1
theorem jwx {elts:List Expr} {kk:Nat} {tpos:Pos} (hg:Gl X "enumerate") (hm:X.mg "enumerate"=none) (ha:DE X a ta wa) (hK:X.K=K:=by rfl) (hs:Az [a] X.env=[(false,eval a X.env)]:=by rfl) (he1:Az [a] X.env=(false,eval a X.env)::Az [] X.env:=by rfl) :
  DI X (.Tuple elts kk tpos) (.Call (.Name "enumerate" p) [a] [] pos) (j1q K (jcx ta tNil)) (jp3 wa):=by
 subst hK;refine⟨jy4 hg hm (ja9 ha.pe jca he1) hs,λC H B σ δ n Q Q' R q k=>ha.sd C H B σ δ n _ _ R q λv x H1 n1 R1 k1 r1 q1=>?_⟩;obtain⟨xs,rfl | rfl,q2⟩:=q1
 ·cases(show RdX H1 B v (.tuple xs)from r1)with
  |@tup aa vs _ e1 e2 e3 e4 =>
   refine⟨aa,rfl,.inl ⟨⟨vs,SqT.of e1⟩,k _ (ji1 0 xs) H1 n1 R1 k1 (λfz th=>?_) q2⟩⟩;have za:fz aa=some (.tup vs):=th.2 _ _ e1 e2;refine⟨by rw[jd2,<-e4.len];exact e3,λi H hH hi=>?_,λH hH=>?_,λi H x H' d hH hd hy=>?_⟩
   ·rw[jd2]at hi;have h1:i < vs.length:=by rw[e4.len];exact hi
    exact⟨vs,vs[i],SqT.of (hH _ _ za),Aj h1⟩
   ·exact⟨vs,SqT.of (hH _ _ za),by rw[jd2,e4.len]⟩
   ·obtain⟨T,x1,rfl,hT,rfl,hx⟩:=hy;refine⟨λb o e=>by rw[jap (jal e hT)];exact e,λB' hB hBa=>?_⟩;obtain⟨y,hy,rfl⟩:=jqe hd;obtain⟨u1,hu1,ru1⟩:=e4.getD hy;have t1:=hx _ (SqT.of (hH _ _ za));rw[hu1]at t1;cases t1;have mv:∀b o,H1 b=some o->¬B b->upd H T (.tup [.int i,x1]) b=some o/\¬B' b:=λb o e ne=>by
     have:=hH _ _ (th.2 _ _ e ne);exact⟨by rw[jap (jal this hT)];exact this,hB _ _ (th.2 _ _ e ne)⟩
    rw[Int.zero_add];exact .tup jao (λz=>hBa T z hT) (by show 2<=A1;decide) (.cons (.int _) (.cons (ru1.move mv) .nil))
 ·cases(show RdX H1 B v (.list xs)from r1)with
  |@lst aa vs _ e1 e2 e3 e4 =>
   refine⟨aa,rfl,.inr ⟨⟨vs,SqL.of e1⟩,k _ (ji1 0 xs) H1 n1 R1 k1 (λfz th=>?_) q2⟩⟩;have za:fz aa=some (.lst vs):=th.2 _ _ e1 e2;refine⟨by rw[jd2,<-e4.len];exact e3,λi H hH hi=>?_,λH hH=>?_,λi H x H' d hH hd hy=>?_⟩
   ·rw[jd2]at hi;have h1:i < vs.length:=by rw[e4.len];exact hi
    exact⟨vs,vs[i],SqL.of (hH _ _ za),Aj h1⟩
   ·exact⟨vs,SqL.of (hH _ _ za),by rw[jd2,e4.len]⟩
   ·obtain⟨T,x1,rfl,hT,rfl,hx⟩:=hy;refine⟨λb o e=>by rw[jap (jal e hT)];exact e,λB' hB hBa=>?_⟩;obtain⟨y,hy,rfl⟩:=jqe hd;obtain⟨u1,hu1,ru1⟩:=e4.getD hy;have t1:=hx _ (SqL.of (hH _ _ za));rw[hu1]at t1;cases t1;have mv:∀b o,H1 b=some o->¬B b->upd H T (.tup [.int i,x1]) b=some o/\¬B' b:=λb o e ne=>by
     have:=hH _ _ (th.2 _ _ e ne);exact⟨by rw[jap (jal this hT)];exact this,hB _ _ (th.2 _ _ e ne)⟩
    rw[Int.zero_add];exact .tup jao (λz=>hBa T z hT) (by show 2<=A1;decide) (.cons (.int _) (.cons (ru1.move mv) .nil))
end
end DL
namespace Nb
open PySem L2 DL
theorem jdp {c:DTT} {w:DT} {Q:List Ad->Int->Prop} {rest:Sl} (P:Ad->Prop) (p:Ad->Bool) (f:Ad->Ad) (hp:∀d n Q',P d->Q' (p d) n->c (some (.w (.d d))::rest) n Q') (h:∀d n Q',P d->Q' (.d (f d)) n->w (some (.w (.d d))::rest) n Q') :
  ∀(items acc:List Ad) (x:Option SV) (n:Int),(∀d∈items,P d)->Q (acc++(items.filter p).map f) n->jcj (jai 0) c w Q items acc (x::rest) n
 |[],acc,x,n,hP,q=>by
  rw[List.filter_nil,Fh,Bz]at q;exact q
 |d::r,acc,x,n,hP,q=>by
  simp only[jcj,jai,Ea];refine hp d n _ (hP d A0) ?_;cases e:p d with
  |true =>
   rw[if_pos rfl];refine h d n _ (hP d A0) ?_;refine jdp P p f hp h r (acc++[f d]) _ n (λe he=>hP e (Au _ he)) ?_;rw[List.filter_cons_of_pos e]at q;rw[Bn];exact q
  |false =>
   rw[if_neg Ag];refine jdp P p f hp h r acc _ n (λe he=>hP e (Au _ he)) ?_;rw[List.filter_cons_of_neg (by rw[e];exact Ag)]at q;exact q
def okD:Ad->Bool
 |.str y=>!decide (y.cps.toList < ("a":Str).cps.toList)&&!decide (("z":Str).cps.toList < y.cps.toList)
 |_=>false
theorem jtd {α:Type} {xs:List α} {r:Int} (h0:0<=r) (h1:r < xs.length):∃v,atI xs r=some v/\v∈xs:=by
 obtain⟨j,rfl⟩:=Gr h0;have hj:j < xs.length:=by omega
 exact⟨xs[j],jbx (Aj hj),C5 hj⟩
theorem jhj (d:Ad):isiB "str" d=match d with | .str _=>true | _=>false:=by cases d<;>rfl
theorem ifb {b:Bool} {A B:Prop} (h1:b=true->A) (h2:b=false->B):if b=true then A else B:=by
 cases b with
 |true=>rw[if_pos rfl];exact h1 rfl
 |false=>rw[if_neg Ag];exact h2 rfl
theorem js6 {n many:Int} {Q:DQ} (h:n < 2 ^ 40) (h0:0 < many) (h1:many < 1073741824) (k:∀r:Int,0<=r->r < many->Q (.d (.int r)) (n+1)):jav [.tp,.d (.int many)] n Q:=⟨⟨h,h0,h1⟩,k⟩
theorem jwr {ds:List Ad} {r:Int} {n:Int} {Q:DQ} (h0:0<=r) (h1:r < (ds.length:Int)) (k:∀d∈ds,Q (.d d) n):gIx (.d (.list ds)) (.d (.int r)) n Q:=by
 obtain⟨v,hv,hm⟩:=jtd h0 h1;show match atI ds r with | some d=>Q (.d d) n | none=>False
 simp only[hv];exact k v hm
theorem jxk {w:DT} {Q:List Ad->Int->Prop} {rest:Sl} (c:Nat) (h:∀d n Q',n+(c:Int) < 2 ^ 39->(∀y n',n'<=n+(c:Int)->Q' (.d y) n')->w (some (.w (.d d))::rest) n Q') :
  ∀(items acc:List Ad) (x:Option SV) (n:Int),n+(c:Int)*(items.length:Int) < 2 ^ 39->(∀ds n',n'<=n+(c:Int)*(items.length:Int)->Q ds n')->jcj (jai 0) cYes w Q items acc (x::rest) n
 |[],acc,x,n,hn,q=>q acc n (by simp)
 |d::r,acc,x,n,hn,q=>by
  simp only[jcj,jai,cYes,if_true,Ea];rw[Ar]at hn q;have e:(c:Int)*((r.length+1:Nat):Int)=(c:Int)*(r.length:Int)+c:=by rw[Int.natCast_add,Int.mul_add];simp
  rw[e]at hn q;have hc:0<=(c:Int)*(r.length:Int):=Int.mul_nonneg (Gn _) (Gn _);refine h d n _ (by omega) λy n' hn'=>?_;exact jxk c h r (acc++[y]) _ n' (by omega) λds n'' h''=>q ds n'' (by omega)
theorem jbv (n:Nat):(rngD 0 n).length=n:=by unfold rngD;simp
theorem jhv {w:DT} {Q:List Ad->Int->Prop} {rest:Sl} (P:Ad->Prop) (c:Nat) (h:∀d n Q',n+(c:Int) < 2 ^ 39->(∀y n',P y->n'<=n+(c:Int)->Q' (.d y) n')->w (some (.w (.d d))::rest) n Q') :
  ∀(items acc:List Ad) (x:Option SV) (n:Int),n+(c:Int)*(items.length:Int) < 2 ^ 39->(∀ds n',ds.length=items.length->(∀d∈ds,P d)->n'<=n+(c:Int)*(items.length:Int)->Q (acc++ds) n')->jcj (jai 0) cYes w Q items acc (x::rest) n
 |[],acc,x,n,hn,q=>by
  have:=q [] n rfl (by simp) (by simp);rwa [Bz]at this
 |d::r,acc,x,n,hn,q=>by
  simp only[jcj,jai,cYes,if_true,Ea];rw[Ar]at hn q;have e:(c:Int)*((r.length+1:Nat):Int)=(c:Int)*(r.length:Int)+c:=by rw[Int.natCast_add,Int.mul_add];simp
  rw[e]at hn q;have hc:0<=(c:Int)*(r.length:Int):=Int.mul_nonneg (Gn _) (Gn _);refine h d n _ (by omega) λy n' hy hn'=>?_;refine jhv P c h r (acc++[y]) _ n' (by omega) λds n'' hl hds h''=>?_;rw[Bn];refine q (y::ds) n'' (by rw[Ar,hl]) (λd hd=>?_) (by omega);rcases As.mp hd with rfl | z
  ·exact hy
  ·exact hds d z
theorem eq_str (a:Ad) (h:Str):eqD a (.str h)=some (jat h a):=by cases a<;>rfl
theorem eq_int (i j:Int):eqD (.int i) (.int j)=some (decide (i=j)):=rfl
theorem at0 {α:Type} (a:α) (r:List α):atI (a::r) 0=some a:=jbx (j:=0) rfl
theorem at1 {α:Type} (a b:α) (r:List α):atI (a::b::r) 1=some b:=jbx (j:=1) rfl
section
variable {δ:Sl} {n:Int} {Q:DQ} {K:DEnds} {W V:DST} {i j:Nat} {a b d:Ad} {r ds:List Ad} {h:Str}
theorem jaj (h:W δ n {K with nx:=λδ n=>V δ n K}):sSeq W V δ n K:=h
theorem jad {x:Wv} (e:δ[i]?=some (some (.w x))) (k:Q x n):wVar i δ n Q:=by unfold wVar;rw[e];exact k
theorem ix_i {m:Nat} (e:δ[i]?=some (some (.w (.d (.tuple ds))))) (e2:ds[m]?=some a) (k:Q (.d a) n):w2 (wVar i) (wC (.int (m:Int))) gIx δ n Q:=by
 unfold w2;refine jad e ?_;unfold wC gIx;simp only[jbx e2];exact k
theorem jdj (e:δ[i]?=some (some (.w (.d (.tuple (a::r)))))) (k:Q (.d a) n):w2 (wVar i) (wC (.int 0)) gIx δ n Q:=ix_i (m:=0) e rfl k
theorem jcp (e:δ[i]?=some (some (.w (.d (.tuple (a::b::r)))))) (k:Q (.d b) n):w2 (wVar i) (wC (.int 1)) gIx δ n Q:=ix_i (m:=1) e rfl k
theorem jg0 {d:Ad} (e:δ[i]?=some (some (.w (.d d)))) (k:Q (.d (.bool (jat h d))) n):w2 (wVar i) (wC (.str h)) gEq δ n Q:=by
 unfold w2;refine jad e ?_;unfold wC gEq;simp only[eq_str];exact k
theorem jt3 (e:δ[i]?=some (some (.w (.d (.tuple (a::r)))))) (k:Q (.d (.bool (jat h a))) n):w2 (w2 (wVar i) (wC (.int 0)) gIx) (wC (.str h)) gEq δ n Q:=by
 show w2 (wVar i) (wC (.int 0)) gIx δ n λx n1=>wC (.str h) δ n1 λy n2=>gEq x y n2 Q;refine jdj e ?_;unfold wC gEq;simp only[eq_str];exact k
theorem if_i {c:DTT} (k:c δ n λb n1=>if b=true then W δ n1 K else V δ n1 K):sIf c W V δ n K:=k
theorem j63 {d:Ad} (e:δ[i]?=some (some (.w (.d d)))) (hT:jat h d=true->W δ n K) (hF:jat h d=false->V δ n K):sIf (cT (w2 (wVar i) (wC (.str h)) gEq)) W V δ n K:=by
 unfold sIf cT;exact jg0 e (ifb hT hF)
theorem j3r (e:δ[i]?=some (some (.w (.d (.tuple (a::r)))))) (hT:jat h a=true->W δ n K) (hF:jat h a=false->V δ n K):sIf (cT (w2 (w2 (wVar i) (wC (.int 0)) gIx) (wC (.str h)) gEq)) W V δ n K:=by
 unfold sIf cT;exact jt3 e (ifb hT hF)
theorem jty {d:Ad} (e:δ[i]?=some (some (.w (.d d)))) (z:jat h d=false) (hF:V δ n K):sIf (cT (w2 (wVar i) (wC (.str h)) gEq)) W V δ n K:=j63 e (λq=>by rw[z]at q;cases q) λ_=>hF
theorem j62 {d:Ad} (e:δ[i]?=some (some (.w (.d d)))) (z:jat h d=true) (hT:W δ n K):sIf (cT (w2 (wVar i) (wC (.str h)) gEq)) W V δ n K:=j63 e (λ_=>hT) λq=>by rw[z]at q;cases q
theorem jn9 (e:δ[i]?=some (some (.w (.d (.tuple (a::r)))))) (z:jat h a=false) (hF:V δ n K):sIf (cT (w2 (w2 (wVar i) (wC (.int 0)) gIx) (wC (.str h)) gEq)) W V δ n K:=j3r e (λq=>by rw[z]at q;cases q) λ_=>hF
theorem j3q (e:δ[i]?=some (some (.w (.d (.tuple (a::r)))))) (z:jat h a=true) (hT:W δ n K):sIf (cT (w2 (w2 (wVar i) (wC (.int 0)) gIx) (wC (.str h)) gEq)) W V δ n K:=j3r e (λ_=>hT) λq=>by rw[z]at q;cases q
end
theorem jjc:jat "is" (.str "is")=true:=by decide +kernel
theorem jp5:jat "is" (.str "any")=false:=by decide +kernel
theorem jm6:jat "is" (.str "word")=false:=by decide +kernel
theorem jii:jat "is" (.str "number")=false:=by decide +kernel
theorem jm7:jat "is" (.str "bind")=false:=by decide +kernel
theorem jjd:jat "is" (.str "as")=false:=by decide +kernel
theorem jp4:jat "word" (.str "word")=true:=by decide +kernel
theorem jlw:jat "word" (.str "number")=false:=by decide +kernel
theorem jt0:jat "as" (.str "bind")=false:=by decide +kernel
theorem jzt:jat "as" (.str "as")=true:=by decide +kernel
theorem je6:jat "bind" (.str "bind")=true:=by decide +kernel
section
variable {δ:Sl} {n:Int} {Q:DQ} {K:DEnds} {W V:DST} {i j:Nat} {a b d:Ad} {r ds:List Ad}
theorem w2_i {wa wb:DT} {g:Wv->Wv->Int->DQ->Prop} (k:wa δ n λx n1=>wb δ n1 λy n2=>g x y n2 Q):w2 wa wb g δ n Q:=k
theorem ja6 {w:DT} {x:Ad} (h:∀Q:DQ,Q (.d x) n->w δ n Q) (k:K.nx (δ.set i (some (.w (.d x)))) n):sSet i w δ n K:=h _ k
theorem jc8 (k:K.nx (δ.set i (some (.own []))) n):sOwn i (fLst aNil) δ n K:=⟨Bm _,k⟩
theorem g0_i (k:Q (.d a) n):gIx (.d (.tuple (a::r))) (.d (.int 0)) n Q:=by
 show(match atI (a::r) 0 with | some d=>Q (.d d) n | none=>False);rw[at0];exact k
theorem g1_i (k:Q (.d b) n):gIx (.d (.tuple (a::b::r))) (.d (.int 1)) n Q:=by
 show(match atI (a::b::r) 1 with | some d=>Q (.d d) n | none=>False);rw[at1];exact k
theorem g2_i {c:Ad} (k:Q (.d c) n):gIx (.d (.tuple (a::b::c::r))) (.d (.int 2)) n Q:=by
 show(match atI (a::b::c::r) 2 with | some d=>Q (.d d) n | none=>False);rw[show atI (a::b::c::r) 2=some c from jbx (j:=2) rfl];exact k
theorem c_i {c:Ad} (k:Q (.d c) n):wC c δ n Q:=k
theorem b1_i {w:DT} {g:List Wv->Int->DQ->Prop} (k:w δ n λx n1=>g [x] n1 Q):wB g (jab w aNil) δ n Q:=k
theorem c1_i {w:DT} {S:DSp} (k:w δ n λx n1=>S [x] n1 Q):jam S (jab w aNil) δ n Q:=k
theorem c2_i {w w':DT} {S:DSp} (k:w δ n λx n1=>w' δ n1 λy n2=>S [x,y] n2 Q):jam S (jab w (jab w' aNil)) δ n Q:=k
theorem c3_i {w w' w'':DT} {S:DSp} (k:w δ n λx n1=>w' δ n1 λy n2=>w'' δ n2 λz n3=>S [x,y,z] n3 Q):jam S (jab w (jab w' (jab w'' aNil))) δ n Q:=k
theorem of_i {w:DTF} (k:w δ n λds n1=>Q (.d (.list ds)) n1):wOf w δ n Q:=k
theorem jfe {fr:List (Option Nat)} {w e:DT} {g:DTG} {c:DTT} {Q:List Ad->Int->Prop} (hw:∀Q:DQ,Q (.d (.tuple ds)) n->w δ n Q) (k:jcj g c e Q ds [] (jor fr δ) n):jcf fr (jcl w) g c e δ n Q:=by
 unfold jcf jcl;exact hw _ k
theorem j6m (e:δ[i]?=some (some (.w (.d (.tuple ds))))) (k:Q (.d (.int ds.length)) n):wB gLen (jab (wVar i) aNil) δ n Q:=b1_i (jad e k)
theorem j59 (e:δ[j]?=some (some (.w (.d (.tuple ds))))) (k:K.nx (δ.set i (some (.own ds))) n):sOwn i (jec (wVar j)) δ n K:=by
 unfold sOwn jec;exact jad e k
theorem jbf {w:DT} (k:w δ n K.rt):sRet w δ n K:=k
theorem j4c {wa wb wc:DT} {x y z:Int} (ha:∀Q:DQ,Q (.d (.int x)) n->wa δ n Q) (hb:∀Q:DQ,Q (.d (.int y)) n->wb δ n Q) (hc:∀Q:DQ,Q (.d (.int z)) n->wc δ n Q) (h:x<=y) (k:Q (.d (.bool (decide (y<=z)))) n):jr3 gLe gLe wa wb wc δ n Q:=by
 refine ha _ (hb _ ?_);show ji7 (.d (.bool (decide (x<=y)))) (wc δ n λu n4=>gLe (.d (.int y)) u n4 Q) (Q (.d (.bool false)) n);rw[decide_eq_true h];exact hc _ k
theorem jgd (e:δ[i]?=some (some (.own ds))) (k:W (δ.set i (some (.w (.d (.list ds))))) n K):sFrz i W δ n K:=by
 unfold sFrz;rw[e];exact k
theorem j89 {u v:DT} (hu:∀Q:DQ,Q (.d (.bool true)) n->u δ n Q) (hv:v δ n Q):wAnd u v δ n Q:=hu _ hv
theorem ct_b {w:DT} {k:Bool} {Q:Bool->Int->Prop} (hw:∀Q':DQ,Q' (.d (.bool k)) n->w δ n Q') (q:Q k n):cT w δ n Q:=hw _ q
theorem if_n {C:DTT} (hc:∀Q:Bool->Int->Prop,Q false n->C δ n Q) (hF:V δ n K):sIf C W V δ n K:=hc _ (by show if false=true then _ else _;rw[if_neg Ag];exact hF)
theorem if_y {C:DTT} (hc:∀Q:Bool->Int->Prop,Q true n->C δ n Q) (hT:W δ n K):sIf C W V δ n K:=hc _ (by show if true=true then _ else _;rw[if_pos rfl];exact hT)
theorem jhu {A B:DTT} {Q:Bool->Int->Prop} (ha:∀Q:Bool->Int->Prop,Q false n->A δ n Q) (hb:B δ n Q):cOr A B δ n Q:=ha _ (by show if false=true then _ else _;rw[if_neg Ag];exact hb)
theorem jt8 {A B:DTT} {Q:Bool->Int->Prop} (ha:∀Q:Bool->Int->Prop,Q true n->A δ n Q) (k:Q true n):cOr A B δ n Q:=ha _ (by show if true=true then _ else _;rw[if_pos rfl];exact k)
theorem jko {A B:DTT} {Q:Bool->Int->Prop} (ha:∀Q:Bool->Int->Prop,Q true n->A δ n Q) (hb:B δ n Q):cAnd A B δ n Q:=ha _ (by show if true=true then _ else _;rw[if_pos rfl];exact hb)
theorem jta {A:DTT} {k:Bool} {Q:Bool->Int->Prop} (ha:∀Q:Bool->Int->Prop,Q k n->A δ n Q) (q:Q (!k) n):cNot A δ n Q:=ha _ q
end
theorem jbj {g:DTG} {W:DST} {K:DEnds} (I:List Ad->Sl->Int->Prop) (h0:∀δ n,I [] δ n->K.nx δ n)
  (h1:∀d r δ n (N:Sl->Int->Prop),I (d::r) δ n->(∀δ n,I r δ n->N δ n)->g d δ λδ'=>W δ' n {K with nx:=N,ct:=N,bk:=K.nx}):∀ds δ n,I ds δ n->forD g W K ds δ n
 |[],δ,n,h=>h0 δ n h
 |d::r,δ,n,h=>h1 d r δ n (forD g W K r) h (jbj I h0 h1 r)
section
variable {δ:Sl} {n m:Int} {Q:DQ} {K:DEnds} {W V:DST} {i j:Nat} {ds:List Ad}
theorem jd3 {w:DT} (e0:δ[0]?=some (some (.w .tp))) (hw:∀Q:DQ,Q (.d (.int m)) n->w δ n Q) (h:n < 2 ^ 40) (h0:0 < m) (h1:m < 1073741824) (k:∀r:Int,0<=r->r < m->Q (.d (.int r)) (n+1)):jam jav (jab (wVar 0) (jab w aNil)) δ n Q :=
 c2_i (jad e0 (hw _ (js6 h h0 h1 k)))
theorem jfd (e0:δ[0]?=some (some (.w .tp))) (h:n < 2 ^ 40) (h0:0 < m) (h1:m < 1073741824) (k:∀r:Int,0<=r->r < m->Q (.d (.int r)) (n+1)):jam jav (jab (wVar 0) (jab (wC (.int m)) aNil)) δ n Q:=jd3 e0 (λQ q=>c_i q) h h0 h1 k
theorem jvj (e0:δ[0]?=some (some (.w .tp))) (h:n < 2 ^ 40) (h0:0 < m) (h1:m < 1073741824) (k:∀r:Int,0<=r->r < m->K.nx (δ.set i (some (.w (.d (.int r))))) (n+1)):sSet i (jam jav (jab (wVar 0) (jab (wC (.int m)) aNil))) δ n K:=jfd e0 h h0 h1 k
theorem jrk {r:Int} (h0:0<=r) (h1:r < (ds.length:Int)) (k:∀d∈ds,Q (.d d) n):gIxL (.ln ds) (.d (.int r)) n Q:=by
 obtain⟨v,hv,hm⟩:=jtd h0 h1;show(match atI ds r with | some d=>Q (.d d) n | none=>False);rw[hv];exact k v hm
theorem jci {r:Int} (h0:0<=r) (h1:r < (ds.length:Int)) (k:∀d∈ds,Q (.d d) n):gIxL (.d (.list ds)) (.d (.int r)) n Q:=jwr h0 h1 k
theorem jm2 (e:δ[i]?=some (some (.own ds))) (k:Q (.ln ds) n):jd5 i δ n Q:=by
 unfold jd5;rw[e];exact k
theorem jrx {w:DT} {x:Ad} {es:List Ad} (e:δ[i]?=some (some (.own es))) (hw:∀Q:DQ,Q (.d x) m->w δ n Q) (hl:es.length < 1000000) (k:K.nx (δ.set i (some (.own (es++[x])))) m):sApp i w δ n K:=by
 unfold sApp;rw[e];exact hw _ (Am hl k)
theorem jkz {w:DT} {es:List Ad} (e:δ[i]?=some (some (.own es))) (k:w δ n λx n1=>match x with
  |.d d=>es.length < 1000000/\K.nx (δ.set i (some (.own (es++[d])))) n1
  |_=>False):sApp i w δ n K:=by
 unfold sApp;rw[e];exact k
theorem jb2 {w w':DT} (k:w δ n λx n1=>w' δ n1 λy n2=>match je4 [x,y]with
  |some ds=>ds.length<=1000/\Q (.d (.tuple ds)) n2
  |none=>False):wTup (jab w (jab w' aNil)) δ n Q:=k
theorem jlg {w w' w'':DT} (k:w δ n λx n1=>w' δ n1 λy n2=>w'' δ n2 λz n3=>match je4 [x,y,z]with
  |some ds=>ds.length<=1000/\Q (.d (.tuple ds)) n3
  |none=>False):wTup (jab w (jab w' (jab w'' aNil))) δ n Q:=k
theorem jji (k:Q (.d (.tuple ds)) n):jcz [.d (.list ds)] n Q:=k
theorem lt_i {a b:Int} (k:Q (.d (.bool (decide (a < b)))) n):gLt (.d (.int a)) (.d (.int b)) n Q:=k
theorem iflt {a b:Int} (e:δ[i]?=some (some (.w (.d (.int a))))) (hT:a < b->W δ n K) (hF:¬a < b->V δ n K):sIf (cT (w2 (wVar i) (wC (.int b)) gLt)) W V δ n K:=by
 refine if_i (w2_i (jad e (c_i ?_)));show if decide (a < b)=true then _ else _
 by_cases h:a < b
 ·rw[if_pos (decide_eq_true h)];exact hT h
 ·rw[if_neg (by simpa using h)];exact hF h
end
section
variable {δ:Sl} {n m:Int} {Q:DQ} {K:DEnds} {W V:DST} {i j:Nat} {ds:List Ad}
theorem j74 {w w' w'' v:DT} (k:w δ n λx n1=>w' δ n1 λy n2=>w'' δ n2 λz n3=>v δ n3 λu n4=>match je4 [x,y,z,u]with
  |some ds=>ds.length<=1000/\Q (.d (.tuple ds)) n4
  |none=>False):wTup (jab w (jab w' (jab w'' (jab v aNil)))) δ n Q:=k
theorem jgv (k:Q (.d (.list [])) n):wOf (fLst aNil) δ n Q:=Am (Bm _) k
theorem eqLn (k:Q (.d (.bool ds.isEmpty)) n):gEqL (.ln ds) (.d (.list [])) n Q:=k
theorem eqLi {a b:Int} (k:Q (.d (.bool (decide (a=b)))) n):gEqL (.d (.int a)) (.d (.int b)) n Q:=k
theorem ifeq {a b:Int} (e:δ[i]?=some (some (.w (.d (.int a))))) (hT:a=b->W δ n K) (hF:¬a=b->V δ n K):sIf (cT (w2 (wVar i) (wC (.int b)) gEqL)) W V δ n K:=by
 refine if_i (w2_i (jad e (c_i ?_)));show if decide (a=b)=true then _ else _
 by_cases h:a=b
 ·rw[if_pos (decide_eq_true h)];exact hT h
 ·rw[if_neg (by simpa using h)];exact hF h
theorem ifgt {a b:Int} (e:δ[i]?=some (some (.w (.d (.int a))))) (hT:b < a->W δ n K) (hF:¬b < a->V δ n K):sIf (cT (w2 (wVar i) (wC (.int b)) gGt)) W V δ n K:=by
 refine if_i (w2_i (jad e (c_i ?_)));show if decide (b < a)=true then _ else _
 by_cases h:b < a
 ·rw[if_pos (decide_eq_true h)];exact hT h
 ·rw[if_neg (by simpa using h)];exact hF h
end
theorem jgz (hs:List Str):(hs.map Da).all jdz=true:=by
 rw[Fs];intro d hd;obtain⟨x,_,rfl⟩:=Bo.mp hd;rfl
theorem j05 {δ:Sl} {n m:Int} {K:DEnds} {W:DST} {g:DTG} {L:List Ad} {wl:DT} {M:Nat} (e:δ[0]?=some (some (.w .tp))) (hl:∀Q:DQ,Q (.d (.list L)) n->wl δ n Q) (hn:n < 2 ^ 40) (hm:m=L.length) (h0:0 < m) (h1:m < 1000) (hL:∀d∈L,∃j:Nat,j<=M/\d=.int j) (hM:M<=1000) (k:∀j:Nat,j<=M->forD g W K (rngD 0 j) δ (n+1)) :
  sFor (jbe (w2 wl (jam jav (jab (wVar 0) (jab (wC (.int m)) aNil))) gIxL)) g W δ n K:=by
 unfold sFor jbe;refine w2_i (hl _ (jfd e hn h0 (by omega) λr r0 r1=>jci r0 (by omega) λd hd=>?_));obtain⟨j,hj,rfl⟩:=hL d hd;refine Am ⟨by omega,by omega⟩ ?_;rw[Bp];exact k j hj
theorem j6n {ds:List Ad} {n:Int} {Q:DQ} (k:Q (.d (.int ds.length)) n):jfc [.ln ds] n Q:=k
theorem gN_i {n:Int} {Q:DQ} {i:Nat} {x:Ad} {xs:List Ad} (h:xs[i]?=some x) (k:Q (.d x) n):gIx (.d (.tuple xs)) (.d (.int (i:Nat))) n Q:=by
 show(match atI xs ((i:Nat):Int)with | some d=>Q (.d d) n | none=>False);rw[jbx h];exact k
theorem j1w (xs:List Ad) {p:Nat} (hp:p<=xs.length):cutD xs none (some (p:Int))=xs.take p:=by
 unfold cutD;rw[HT.sIx_nat];show(xs.drop 0).take (min p xs.length - 0)=_;rw[Eo,Nat.sub_zero,Nat.min_eq_left hp]
abbrev Nm:=List (Str×Ad)
inductive Fd where
 |is (v:Ad) | any | word | number | bind (x:Str) | as (x:Str)
def Fd.d:Fd->Ad
 |.is v=>.tuple [.str "is",v]
 |.any=>.tuple [.str "any"]
 |.word=>.tuple [.str "word"]
 |.number=>.tuple [.str "number"]
 |.bind x=>.tuple [.str "bind",.str x]
 |.as x=>.tuple [.str "as",.str x]
abbrev okX (x:Str):Prop:=x.length<=4/\PyData.strOk x=true
def isV:Ad->Bool
 |.str x=>decide (x.length<=8)&&PyData.strOk x
 |.int i=>decide (0<=i)&&(decide (i<=99)&&(decide (Fo (.int i)<=20)&&(Em 13 (.int i)&&Ey (.int i))))
 |_=>false
def Fd.ok:Fd->Prop
 |.is v=>isV v=true
 |.bind x=>okX x
 |.as x=>okX x
 |_=>True
def eqB (a b:Ad):Bool:=(eqD a b).getD false
theorem jt4 {a b:Ad} (ha:isV a=true) (hb:isV b=true):eqD a b=some (eqB a b):=by
 cases a<;>first | cases ha | (cases b<;>first | cases hb | rfl)
theorem j7i {a b:Ad} (ha:isV a=true) (hb:isV b=true) (h:eqB a b=true):a=b:=by
 cases a<;>first | cases ha | (cases b<;>first | cases hb | cases h | (rw[show _=_ from of_decide_eq_true h]))
theorem j1s {a:Ad} (ha:isV a=true):jdz a=true:=by cases a<;>first | cases ha | rfl
def isSt:Ad->Bool
 |.str _=>true
 |_=>false
def isIn:Ad->Bool
 |.int _=>true
 |_=>false
def look (ps:Nm) (x:Str):Option Ad:=(ps.find? λp=>decide (p.1=x)).map (·.2)
def put (ps:Nm) (x:Str) (v:Ad):Nm:=if (ps.any λp=>decide (p.1=x))=true then ps.map (λp=>if p.1=x then(p.1,v)else p)else ps++[(x,v)]
theorem j60 (a b:Str):decide ((Ct a:Key)=Ct b)=decide (a=b):=by
 by_cases z:a=b
 ·rw[z,decide_eq_true rfl,decide_eq_true rfl]
 ·rw[decide_eq_false z,decide_eq_false λw=>z (Sum.inr.inj w)]
theorem jek (ps:Nm) (x:Str):valD (txK ps) (.inr x)=look ps x:=by
 induction ps with
 |nil=>rfl
 |cons p r ih =>
  by_cases e:p.1=x
  ·have a1:valD (txK (p::r)) (.inr x)=some p.2:=by simp[valD,txK,Bk,e]
   have a2:look (p::r) x=some p.2:=by simp[look,Bk,e]
   rw[a1,a2]
  ·have a1:valD (txK (p::r)) (.inr x)=valD (txK r) (.inr x):=by simp[valD,txK,Bk,e]
   have a2:look (p::r) x=look r x:=by simp[look,Bk,e]
   rw[a1,a2,ih]
theorem j71 (ps:Nm) (x:Str):((txK ps).any λkv=>decide (kv.1=(Ct x:Key)))=(ps.any λp=>decide (p.1=x)):=by
 unfold txK;rw[List.any_map]
 congr 1
 funext p
 exact j60 _ _
theorem jpl (ps:Nm) (x:Str) (v:Ad):putD (txK ps) (.inr x) v=txK (put ps x v):=by
 unfold putD put;rw[j71]
 split
 ·unfold txK;rw[Dg,Dg];apply C1;intro p _;show(if (Ct p.1:Key)=Ct x then _ else _)=_;by_cases e:p.1=x
  ·rw[if_pos (congrArg Ct e)];show _=(Ct (if p.1=x then(p.1,v)else p).1,(if p.1=x then(p.1,v)else p).2);rw[if_pos e]
  ·rw[if_neg λz=>e (Sum.inr.inj z)];show _=(Ct (if p.1=x then(p.1,v)else p).1,(if p.1=x then(p.1,v)else p).2);rw[if_neg e]
 ·unfold txK;rw[A9];rfl
theorem jcw {ps:Nm} {x:Str} {v:Ad} (h:look ps x=some v):(x,v)∈ps:=by
 unfold look at h;cases e:ps.find? λp=>decide (p.1=x)with
 |none=>rw[e]at h;cases h
 |some p =>
  rw[e]at h;have h1:=List.find?_some e;have h2:p.1=x:=of_decide_eq_true h1;have h3:p.2=v:=Ax h;have:=List.mem_of_find?_eq_some e;rw[<-h2,<-h3];exact this
theorem jjb (ps:Nm) (x:Str):(ps.any λp=>decide (p.1=x))=(look ps x).isSome:=by
 induction ps with
 |nil=>rfl
 |cons p r ih =>
  by_cases e:p.1=x
  ·have a2:look (p::r) x=some p.2:=by simp[look,Bk,e]
   rw[a2,Co,decide_eq_true e];rfl
  ·have a2:look (p::r) x=look r x:=by simp[look,Bk,e]
   rw[a2,Co,decide_eq_false e,Bool.false_or,ih]
theorem jsj (ps:Nm) (x:Str) (v:Ad):(put ps x v).map (·.1)=if (ps.any λp=>decide (p.1=x))=true then ps.map (·.1)else ps.map (·.1)++[x]:=by
 unfold put
 split
 ·rw[Dg];apply C1;intro p _;show(if p.1=x then(p.1,v)else p).1=p.1
  split<;>rfl
 ·rw[A9];rfl
theorem jvx {ps:Nm} {x:Str} {v:Ad} (h:(ps.map (·.1)).Nodup):((put ps x v).map (·.1)).Nodup:=by
 rw[jsj]
 split
 ·exact h
 ·rename_i e;rw[List.nodup_append];refine⟨h,by simp,λa ha b hb z=>?_⟩;have hb:b=x:=by simpa using hb
  obtain⟨p,hp,rfl⟩:=Bo.mp ha;exact e (Dj.mpr ⟨p,hp,decide_eq_true (z.trans hb)⟩)
theorem jjx (ps:Nm) (x:Str) (v:Ad):(put ps x v).length<=ps.length+1:=by
 unfold put
 split
 ·rw[Ab];omega
 ·rw[Ah];exact An _
def okV (p:Str×Ad):Prop:=okX p.1/\isV p.2=true
theorem jmv {ps:Nm} {x:Str} {v:Ad} (h:∀p∈ps,okV p) (hx:okX x) (hv:isV v=true):∀p∈put ps x v,okV p:=by
 intro p hp;unfold put at hp
 split at hp
 ·obtain⟨q,hq,rfl⟩:=Bo.mp hp
  split
  ·exact⟨(h q hq).1,hv⟩
  ·exact h q hq
 ·rcases A8.mp hp with hp | hp
  ·exact h p hp
  ·have:p=(x,v):=by simpa using hp
   subst this;exact⟨hx,hv⟩
theorem jy0 {ps:Nm} {x:Str} {v:Ad} (nd:(ps.map (·.1)).Nodup) (h:look ps x=some v):put ps x v=ps:=by
 unfold put;rw[jjb,h,if_pos (show(some v).isSome=true from rfl)];have hm:=jcw h;have:ps.map (λp=>if p.1=x then(p.1,v)else p)=ps.map id:=by
  apply C1;intro p hp
  split
  ·rename_i e;have:p=(x,v):=by
    obtain⟨i,hi⟩:=By.mp hp;obtain⟨j,hj⟩:=By.mp hm;have a1:(ps.map (·.1))[i]?=some x:=by rw[Ay,hi];exact congrArg some e
    have a2:(ps.map (·.1))[j]?=some x:=by rw[Ay,hj];rfl
    obtain⟨b1,b2⟩:=At.mp a1;obtain⟨c1,c2⟩:=At.mp a2;have:=(Er nd).mp (b2.trans c2.symm);rw[this,hj]at hi;exact(Ax hi).symm
   rw[this];rfl
  ·rfl
 rw[this,List.map_id]
theorem jgx (ps:Nm) (x:Str) (v:Ad):look (put ps x v) x=some v:=by
 unfold put;rw[jjb]
 split
 ·rename_i e
  induction ps with
  |nil=>cases e
  |cons p r ih =>
   by_cases z:p.1=x
   ·simp[look,Bk,z]
   ·have a2:look (p::r) x=look r x:=by simp[look,Bk,z]
    rw[a2]at e;rw[Bi,if_neg z];have a3:look (p::r.map λp=>if p.1=x then(p.1,v)else p) x=look (r.map λp=>if p.1=x then(p.1,v)else p) x:=by simp[look,Bk,z]
    rw[a3];exact ih e
 ·rename_i e;have:look ps x=none:=by cases q:look ps x with | none=>rfl | some _=>rw[q]at e;exact absurd rfl e
  unfold look at this ⊢;rw[List.find?_append];cases q:ps.find? λp=>decide (p.1=x)with
  |some p=>rw[q]at this;cases this
  |none=>simp
theorem jj4 {ps:Nm} {x y:Str} {v:Ad} (h:y≠x):look (put ps x v) y=look ps y:=by
 unfold put
 split
 ·induction ps with
  |nil=>rfl
  |cons p r ih =>
   rw[Bi];have key:look (r.map λp=>if p.1=x then(p.1,v)else p) y=look r y:=by
    rename_i e;by_cases q:(r.any λp=>decide (p.1=x))=true
    ·exact ih q
    ·have:r.map (λp=>if p.1=x then(p.1,v)else p)=r.map id:=by
      apply C1;intro p hp;rw[if_neg λz=>q (Dj.mpr ⟨p,hp,decide_eq_true z⟩)];rfl
     rw[this,List.map_id]
   by_cases z:p.1=x
   ·rw[if_pos z];have n1:¬p.1=y:=λw=>h (w.symm.trans z);have a1:look ((p.1,v)::r.map λp=>if p.1=x then(p.1,v)else p) y=look (r.map λp=>if p.1=x then(p.1,v)else p) y:=by simp[look,Bk,n1]
    have a2:look (p::r) y=look r y:=by simp[look,Bk,n1]
    rw[a1,a2,key]
   ·rw[if_neg z];by_cases w:p.1=y
    ·simp[look,Bk,w]
    ·have a1:look (p::r.map λp=>if p.1=x then(p.1,v)else p) y=look (r.map λp=>if p.1=x then(p.1,v)else p) y:=by simp[look,Bk,w]
     have a2:look (p::r) y=look r y:=by simp[look,Bk,w]
     rw[a1,a2,key]
 ·unfold look;rw[List.find?_append];have:[(x,v)].find? (λp=>decide (p.1=y))=none:=by simp[λz=>h (Eq.symm z),Ne.symm h]
  rw[this,Option.or_none]
def ffB (f:Fd) (v:Ad) (h bs:Nm):Bool:=match f with
 |.is w=>eqB w v
 |.any=>true
 |.word=>isSt v
 |.number=>isIn v
 |.as x=>match look h x with
  |some w=>eqB w v
  |none=>false
 |.bind x=>match look bs x with
  |some w=>eqB w v
  |none=>true
def wk:List (Fd×Ad)->Nm->List Str->Option Nm
 |[],h,_=>some h
 | (.is w,v)::r,h,hs=>if eqB w v=true then wk r h hs else none
 | (.any,_)::r,h,hs=>wk r h hs
 | (.word,v)::r,h,hs=>if isSt v=true then wk r h hs else none
 | (.number,v)::r,h,hs=>if isIn v=true then wk r h hs else none
 | (.as x,v)::r,h,hs=>match look h x with
  |some w=>if eqB w v=true then wk r h hs else none
  |none=>none
 | (.bind x,v)::r,h,hs=>if x∈hs then(match look h x with
   |some w=>if eqB w v=true then wk r h hs else none
   |none=>none)else wk r (put h x v) (hs++[x])
def jir (p:Str×Ad):Ad:=.tuple [.str p.1,p.2]
def ja0 (ps:Nm):Ad:=.tuple (ps.map jir)
def patD (fs:List Fd):Ad:=.tuple (fs.map Fd.d)
def okN (ps:Nm):Prop:=ps.length<=40/\(ps.map (·.1)).Nodup/\∀p∈ps,okV p
def okP (fs:List Fd):Prop:=1<=fs.length/\fs.length<=4/\∀f∈fs,f.ok
def okR (row:List Ad):Prop:=row.length<=4/\∀d∈row,isV d=true
theorem tri (x y:Str) (h1:¬x.cps.toList < y.cps.toList) (h2:¬y.cps.toList < x.cps.toList):x=y:=by
 have:x.cps.toList=y.cps.toList:=List.le_antisymm (D9.mp h2) (D9.mp h1);have e:=Fq.mp this;cases x;cases y;simp only at e;rw[e]
theorem jvo {h a b:Nm} (nd:(h.map (·.1)).Nodup) (ha:a.Perm h) (hb:b.Perm h) (ra:jgr a) (rb:jgr b):a=b:=by
 refine List.Perm.eq_of_pairwise (λx y hx hy l1 l2=>?_) ra rb (ha.trans hb.symm);have e:x.1=y.1:=tri _ _ l2 l1;have hx':=ha.mem_iff.mp hx;have hy':=hb.mem_iff.mp hy;obtain⟨i,hi⟩:=By.mp hx';obtain⟨j,hj⟩:=By.mp hy';have a1:(h.map (·.1))[i]?=some x.1:=by rw[Ay,hi];rfl
 have a2:(h.map (·.1))[j]?=some x.1:=by rw[Ay,hj,e];rfl
 obtain⟨b1,b2⟩:=At.mp a1;obtain⟨c1,c2⟩:=At.mp a2;have:=(Er nd).mp (b2.trans c2.symm);rw[this,hj]at hi;exact(Ax hi).symm
theorem jo3:∀(l:List (Fd×Ad)) (h:Nm) (hs:List Str) (k:Nm),(h.map (·.1)).Nodup->wk l h hs=some k->(k.map (·.1)).Nodup
 |[],h,hs,k,nd,e=>by cases e;exact nd
 | (.is w,v)::r,h,hs,k,nd,e=>by unfold wk at e;split at e;exact jo3 r h hs k nd e;cases e
 | (.any,v)::r,h,hs,k,nd,e=>by unfold wk at e;exact jo3 r h hs k nd e
 | (.word,v)::r,h,hs,k,nd,e=>by unfold wk at e;split at e;exact jo3 r h hs k nd e;cases e
 | (.number,v)::r,h,hs,k,nd,e=>by unfold wk at e;split at e;exact jo3 r h hs k nd e;cases e
 | (.as x,v)::r,h,hs,k,nd,e=>by
  unfold wk at e
  split at e
  ·split at e
   ·exact jo3 r h hs k nd e
   ·cases e
  ·cases e
 | (.bind x,v)::r,h,hs,k,nd,e=>by
  unfold wk at e
  split at e
  ·split at e
   ·split at e
    ·exact jo3 r h hs k nd e
    ·cases e
   ·cases e
  ·exact jo3 r _ _ k (jvx nd) e
def leK (a b:Str×Ad):Bool:=decide (¬b.1.cps.toList < a.1.cps.toList)
def srtN (h:Nm):Nm:=h.mergeSort leK
theorem jr8 (h:Nm):(srtN h).Perm h:=List.mergeSort_perm h leK
theorem j0x (h:Nm):jgr (srtN h):=by
 have:=List.pairwise_mergeSort (le:=leK) (λa b c x y=>decide_eq_true (D9.mpr (List.le_trans (D9.mp (of_decide_eq_true x)) (D9.mp (of_decide_eq_true y))))) (λa b=>?_) h
 ·exact List.Pairwise.imp (λx=>of_decide_eq_true x) this
 ·rw[Bool.or_eq_true];rcases List.le_total a.1.cps.toList b.1.cps.toList with z | z
  ·exact .inl (decide_eq_true (D9.mpr z))
  ·exact .inr (decide_eq_true (D9.mpr z))
theorem j0y {h h':Nm} (nd:(h.map (·.1)).Nodup) (p:h'.Perm h) (r:jgr h'):h'=srtN h:=jvo nd p (jr8 h) r (j0x h)
def wkN (fs:List Fd) (row:List Ad) (nm:Nm):Nm:=(wk (fs.zip row) nm []).getD []
def fitB (fs:List Fd) (row:List Ad) (nm:Nm):Bool:=decide (fs.length=row.length)&&(wk (fs.zip row) nm []).isSome
def fitD (fs:List Fd) (row:List Ad) (nm:Nm):Ad:=if fitB fs row nm=true then ja0 (srtN (wkN fs row nm))else .none
def Fit (fs:List Fd) (row:List Ad) (ps:Nm) (r:Ad):Prop :=
 if fs.length=row.length then match wk (fs.zip row) ps []with
  |none=>r=.none
  |some h=>r=ja0 (srtN h)
 else r=.none
theorem j7f {fs:List Fd} {row:List Ad} {ps:Nm} {r:Ad} (h:Fit fs row ps r):r=fitD fs row ps:=by
 unfold Fit at h;unfold fitD fitB wkN;by_cases e:fs.length=row.length
 ·rw[if_pos e]at h;rw[decide_eq_true e,Bool.true_and];cases q:wk (fs.zip row) ps []with
  |none=>rw[q]at h;rw[if_neg (by rw[Option.isSome_none];exact Ag)];exact h
  |some x=>rw[q]at h;rw[if_pos (show(some x).isSome=true from rfl)];exact h
 ·rw[if_neg e]at h;rw[decide_eq_false e,if_neg (by rw[Bool.false_and];exact Ag)];exact h
def S_ff:DSp:=λws n Q=>∃(f:Fd) (v:Ad) (hp bp:Nm),ws=[.d f.d,.d v,.dk (txK hp),.dk (txK bp)]/\f.ok/\isV v=true/\(∀p∈hp,okV p)/\(∀p∈bp,okV p)/\Q (.d (.bool (ffB f v hp bp))) n
def jk9:DSp:=λws n Q=>∃(fs:List Fd) (row:List Ad) (nm:Nm),ws=[.d (patD fs),.d (.tuple row),.d (ja0 nm)]/\okP fs/\okR row/\okN nm/\Q (.d (fitD fs row nm)) n
def jcg (ys:List Str):Ad:=.tuple (ys.map .str)
def jx8:List Ad:=[.str "a",.int 0,.int 1,.str "ab",.str "go",.int 99]
inductive Fe where
 |any | word | num | isv (d:Ad) | bind (k:Str) | as (k:Str) | nx (k:Str)
def Fe.hd:Fe->Str
 |.any=>"any"
 |.word=>"word"
 |.num=>"number"
 |.isv _=>"is"
 |.bind _=>"bind"
 |.as _=>"as"
 |.nx _=>"next"
def Fe.tl:Fe->List Ad
 |.any=>[]
 |.word=>[]
 |.num=>[]
 |.isv d=>[d]
 |.bind k=>[.str k]
 |.as k=>[.str k]
 |.nx k=>[.str k]
def Fe.d (f:Fe):Ad:=.tuple (.str f.hd::f.tl)
abbrev okK (k:Str):Prop:=okX k
def Fe.ok:Fe->Prop
 |.isv d=>isV d=true
 |.bind k=>okK k
 |.as k=>okK k
 |.nx k=>okK k
 |_=>True
def Fe.bd:Fe->Option Str
 |.bind k=>some k
 |_=>none
def Fe.us:Fe->Option Str
 |.as k=>some k
 |.nx k=>some k
 |_=>none
def bndE (fs:List Fe):List Str:=fs.filterMap Fe.bd
def Fe.pt:Fe->Bool
 |.nx _=>false
 |_=>true
def Fe.tm:Fe->Bool
 |.isv _=>true
 |.as _=>true
 |.nx _=>true
 |_=>false
def Fe.te:Fe->Bool
 |.isv _=>true
 |.as _=>true
 |_=>false
def okFs (fs:List Fe):Prop:=fs.length<=4/\∀f∈fs,f.ok
def rF:List Str->List Fe->Prop
 |_,[]=>True
 |ks,f::r=>(∀k,f.us=some k->k∈ks)/\rF (ks++f.bd.toList) r
inductive Ac where
 |lay (fs:List Fe) (age:Ad) | take (fs:List Fe) | read (fs:List Fe) | look (fs:List Fe) (b:Nat) | same (f g:Fe) (b:Nat) | go (b:Nat)
def fsD (fs:List Fe):Ad:=.tuple (fs.map Fe.d)
def Ac.d:Ac->Ad
 |.lay fs age=>.tuple [.str "lay",fsD fs,age]
 |.take fs=>.tuple [.str "take",fsD fs]
 |.read fs=>.tuple [.str "read",fsD fs]
 |.look fs b=>.tuple [.str "look",fsD fs,.int b]
 |.same f g b=>.tuple [.str "same",f.d,g.d,.int b]
 |.go b=>.tuple [.str "go",.int b]
def Ac.bs:Ac->List Str
 |.take fs=>bndE fs
 |.read fs=>bndE fs
 |.look fs _=>bndE fs
 |_=>[]
def Ac.fs:Ac->List Fe
 |.lay fs _=>fs
 |.take fs=>fs
 |.read fs=>fs
 |.look fs _=>fs
 |.same f g _=>[f,g]
 |.go _=>[]
def Ac.to:Ac->Option Nat
 |.look _ b=>some b
 |.same _ _ b=>some b
 |.go b=>some b
 |_=>none
def Ac.right (wants:List (List Str)) (ks:List Str) (a:Ac):Prop:=rF ks a.fs/\∀b,a.to=some b->∃w,wants[b]?=some w/\∀k∈w,k∈ks
def jj0 (d:Ad):Prop:=d=.none\/∃i:Int,d=.int i/\1<=i/\i<=20
def patO (fs:List Fe):Prop:=1<=fs.length/\∀f∈fs,f.pt=true
def Ac.pat:Ac->Prop
 |.take fs=>patO fs
 |.read fs=>patO fs
 |.look fs _=>patO fs
 |.lay fs age=>(∀f∈fs,f.tm=true)/\jj0 age
 |.same f g _=>f.te=true/\g.te=true
 |.go _=>True
def okA (a:Ac):Prop:=okFs a.fs/\a.pat
abbrev Bl:=List Str×List Ac
def blD (b:Bl):Ad:=.tuple [jcg b.1,.tuple (b.2.map Ac.d)]
def prD (bs:List Bl):Ad:=.tuple (bs.map blD)
def kn (w:List Str) (as:List Ac) (p:Nat):List Str:=w++(as.take p).flatMap Ac.bs
def okB (b:Bl):Prop:=b.1.length<=4/\(∀k∈b.1,okK k)/\b.2.length<=8/\(∀a∈b.2,okA a)/\b.1.Nodup/\upT b.1
def riB (wants:List (List Str)) (b:Bl):Prop:=∀(p:Nat) (a:Ac),b.2[p]?=some a->a.right wants (kn b.1 b.2 p)
def jcm:DSp:=λws n Q=>ws=[.tp]/\n < 2 ^ 39/\∀v∈jx8,Q (.d v) (n+1)
def jf6:DSp:=λws n Q=>ws=[.tp]/\n < 2 ^ 39/\∀m:Nat,1<=m->m<=4->Q (.d (.int m)) (n+1)
def jqw:DSp:=λws n Q=>∃ks:List Str,ws=[.tp,.ln (ks.map .str)]/\ks.length<=1000/\(∀k∈ks,okK k)/\n+9 < 2 ^ 39/\∀(fs:List Fe) (n':Int),okFs fs->(∀f∈fs,f.tm=true)->rF ks fs->n'<=n+9->Q (.d (fsD fs)) n'
def jh4:DSp:=λws n Q=>∃ks:List Str,ws=[.tp,.ln (ks.map .str)]/\ks.length<=1000/\(∀k∈ks,okK k)/\n+2 < 2 ^ 39/\∀(f:Fe) (n':Int),f.ok->f.te=true->(∀k,f.us=some k->k∈ks)->n'<=n+2->Q (.d f.d) n'
def jk8:DSp:=λws n Q=>∃(ks:List Str) (os:List Nat) (wants:List (List Str)),ws=[.tp,.ln (ks.map .str),.d (.list (os.map λb=>.int (b:Nat)))]/\ks.length<=1000/\(∀k∈ks,okK k)/\0 < os.length/\os.length<=1000 /\
 (∀b∈os,∃w,wants[b]?=some w/\∀k∈w,k∈ks)/\n+11 < 2 ^ 39/\∀(a:Ac) (n':Int),okA a->a.right wants ks->n'<=n+11->Q (.d (.tuple [a.d,.list (a.bs.map .str)])) n'
def okG (bs:List Bl):Prop:=1<=bs.length/\bs.length<=6/\∀b∈bs,okB b/\riB (bs.map (·.1)) b
def jqx:DSp:=λws n Q=>∃(ks:List Str) (v:Wv),ws=[.tp,v]/\lsOf v=some (ks.map .str)/\ks.length<=1000/\(∀k∈ks,okK k)/\n+9 < 2 ^ 39/\∀(fs:List Fe) (n':Int),1<=fs.length->okFs fs->(∀f∈fs,f.pt=true)->rF ks fs->n'<=n+9->Q (.d (.tuple [fsD fs,.list ((bndE fs).map .str)])) n'
def fst0 (bs:List Bl):Prop:=∃w,bs.map (·.1)=[]::w
def jqt:DSp:=λws n Q=>ws=[.tp]/\n+600 < 2 ^ 39/\∀(bs:List Bl) (n':Int),okG bs->fst0 bs->n'<=n+600->Q (.d (prD bs)) n'
abbrev Hn:=Nat×Nat×Nm
def hnD (h:Hn):Ad:=.tuple [.int h.1,.int h.2.1,ja0 h.2.2]
abbrev Nt:=List Ad×Ad
def ntD (q:Nt):Ad:=.tuple [.tuple q.1,q.2]
def nsD (ns:List Nt):Ad:=.tuple (ns.map ntD)
def stD (hs:List Hn) (ns:List Nt):Ad:=.tuple [.tuple (hs.map hnD),nsD ns]
abbrev Pg:=List (List Bl)
def pgD (ps:Pg):Ad:=.tuple (ps.map prD)
def okPg (ps:Pg):Prop:=ps.length<=5/\∀P∈ps,okG P
def okQ (q:Nt):Prop:=okR q.1/\jj0 q.2
def okNs (m:Nat) (ns:List Nt):Prop:=ns.length<=m/\∀q∈ns,okQ q
structure okHn (b:Bl) (h:Hn):Prop where
 pl:h.2.1<=b.2.length
 nd:(h.2.2.map (·.1)).Nodup
 ok:∀p∈h.2.2,okV p
 up:jgr h.2.2
 mem:∀k,k∈h.2.2.map (·.1)↔k∈kn b.1 b.2 h.2.1
 ln:h.2.2.length<=40
theorem okHn.n {b:Bl} {h:Hn} (H:okHn b h):okN h.2.2:=⟨H.ln,H.nd,H.ok⟩
def okHs (ps:Pg) (hs:List Hn):Prop:=hs.length=ps.length/\∀(i:Nat) (P:List Bl),ps[i]?=some P->∃(h:Hn) (b:Bl),hs[i]?=some h/\P[h.1]?=some b/\okHn b h
def actO (ps:Pg) (hs:List Hn) (h:Nat):Option Ac:=ps[h]?.bind λP=>hs[h]?.bind λx=>P[x.1]?.bind λb=>b.2[x.2.1]?
def acD:Option Ac->Ad
 |none=>.none
 |some a=>a.d
def Fe.fd:Fe->Fd
 |.any=>.any
 |.word=>.word
 |.num=>.number
 |.isv d=>.is d
 |.bind k=>.bind k
 |.as k=>.as k
 |.nx _=>.any
def Ac.pf:Ac->Option (List Fd)
 |.take fs=>some (fs.map Fe.fd)
 |.read fs=>some (fs.map Fe.fd)
 |.look fs _=>some (fs.map Fe.fd)
 |_=>none
def Ac.wt:Ac->Bool
 |.take _=>true
 |.read _=>true
 |_=>false
def fstO (fs:List Fd) (nm:Nm) (ns:List Nt):Option Nat:=ns.findIdx? λq=>fitB fs q.1 nm
def nmO (hs:List Hn) (h:Nat):Nm:=(hs[h]?.map (·.2.2)).getD []
def gotO (ps:Pg) (hs:List Hn) (ns:List Nt) (h:Nat):Option Nat:=(actO ps hs h).bind λa=>a.pf.bind λfs=>fstO fs (nmO hs h) ns
def canB (ps:Pg) (hs:List Hn) (ns:List Nt) (h:Nat):Bool:=((actO ps hs h).map λa=>!a.wt || (gotO ps hs ns h).isSome).getD false
def natD:Option Nat->Ad
 |none=>.none
 |some i=>.int i
def rowO (ns:List Nt) (i:Nat):List Ad:=(ns[i]?.map (·.1)).getD []
def gotP (ps:Pg) (hs:List Hn) (ns:List Nt) (h:Nat):Option (Nat×Nm):=(actO ps hs h).bind λa=>a.pf.bind λfs=>(fstO fs (nmO hs h) ns).map λi=>(i,wkN fs (rowO ns i) (nmO hs h))
def gotW:Option (Nat×Nm)->Wv
 |none=>.d .none
 |some (i,h)=>.ob (.q (.int i) (txK h))
def fitW (fs:List Fd) (row:List Ad) (nm:Nm):Wv:=if fitB fs row nm=true then .ob (.k (txK (wkN fs row nm)))else .d .none
def okSt (ps:Pg) (hs:List Hn) (ns:List Nt):Prop:=okPg ps/\okHs ps hs/\okNs 100 ns
def nxO:Ad->Ad
 |.int i=>if i=99 then .int 0 else .int (i+1)
 |d=>d
def lkO (nm:Nm) (k:Str):Ad:=(look nm k).getD .none
def fvO (nm:Nm):Fe->Ad
 |.isv d=>d
 |.as k=>lkO nm k
 |.nx k=>nxO (lkO nm k)
 |_=>.none
def filO (fs:List Fe) (nm:Nm):List Ad:=fs.map (fvO nm)
def wtO (P:List Bl) (b:Nat):List Str:=(P[b]?.map (·.1)).getD []
def goTo (P:List Bl) (b:Nat) (nm:Nm):Hn:=(b,0,nm.filter λp=>decide (p.1∈wtO P b))
def goOn (x:Hn) (nm:Nm):Hn:=(x.1,x.2.1+1,nm)
def setH (hs:List Hn) (h:Nat) (x:Hn):List Hn:=hs.take h++x::hs.drop (h+1)
def ageO:Ad->Ad
 |.int i=>.int (i - 1)
 |d=>d
def isI1:Ad->Bool
 |.int i=>decide (i=1)
 |_=>false
def clkO (ns:List Nt):List Nt:=(ns.filter λq=>!isI1 q.2).map λq=>(q.1,ageO q.2)
def outO (ns:List Nt) (i:Nat):List Nt:=ns.take i++ns.drop (i+1)
def getO (fs:List Fe) (x:Hn) (ns:List Nt):Option (Nat×Hn):=(fstO (fs.map Fe.fd) x.2.2 ns).map λi=>(i,goOn x (srtN (wkN (fs.map Fe.fd) (rowO ns i) x.2.2)))
def actM (P:List Bl) (x:Hn) (ns:List Nt):Ac->Option (Hn×List Nt)
 |.lay fs age=>some (goOn x x.2.2,ns++[(filO fs x.2.2,age)])
 |.go b=>some (goTo P b x.2.2,ns)
 |.same f g b=>some (if eqB (fvO x.2.2 f) (fvO x.2.2 g)=true then goOn x x.2.2 else goTo P b x.2.2,ns)
 |.take fs=>(getO fs x ns).map λq=>(q.2,outO ns q.1)
 |.read fs=>(getO fs x ns).map λq=>(q.2,ns)
 |.look fs b=>match getO fs x ns with
  |some q=>some (q.2,ns)
  |none=>some (goTo P b x.2.2,ns)
def movO (ps:Pg) (hs:List Hn) (ns:List Nt) (h:Nat):Option (List Hn×List Nt):=ps[h]?.bind λP=>hs[h]?.bind λx=>(actO ps hs h).bind λa=>(actM P x ns a).map λr=>(setH hs h r.1,r.2)
def aftO (ps:Pg) (hs:List Hn) (ns:List Nt) (m:Nat):Option (List Hn×List Nt):=if m=ps.length then some (hs,clkO ns)else movO ps hs ns m
def moD:Option (List Hn×List Nt)->Ad
 |none=>.none
 |some r=>stD r.1 r.2
def fvOk (nm:Nm) (f:Fe):Prop:=f.ok/\f.tm=true/\∀k,f.us=some k->∃v,look nm k=some v/\isV v=true
def jk4:DSp:=λws n Q=>∃i:Int,ws=[.d (.int i)]/\Q (.d (.bool true)) n
def jg6:DSp:=λws n Q=>∃i m:Int,ws=[.d (.int i),.d (.int m)]/\0<=i/\i<=m/\Q (.d (.bool true)) n
def jx1:DSp:=λws n Q=>∃v,ws=[.d v]/\isV v=true/\Q (.d (nxO v)) n
def jio:DSp:=λws n Q=>∃(f:Fe) (nm:Nm),ws=[.d f.d,.dk (txK nm)]/\fvOk nm f/\Q (.d (fvO nm f)) n
def jha:DSp:=λws n Q=>∃(fs:List Fe) (nm:Nm),ws=[.d (fsD fs),.d (ja0 nm)]/\fs.length<=4/\(∀f∈fs,fvOk nm f)/\okN nm/\Q (.d (.tuple (filO fs nm))) n
def jfq:DSp:=λws n Q=>∃(fs:List Fe) (nm:Nm),ws=[.d (fsD fs),.dk (txK nm)]/\fs.length<=4/\(∀f∈fs,fvOk nm f)/\Q (.d (.tuple (filO fs nm))) n
def juh:DSp:=λws n Q=>∃(f:Fe) (nm:Nm),ws=[.d f.d,.d (ja0 nm)]/\fvOk nm f/\f.te=true/\okN nm/\Q (.d (fvO nm f)) n
def jqs:DSp:=λws n Q=>∃(f g:Fe) (b:Nat) (nm:Nm),ws=[.d (Ac.same f g b).d,.d (ja0 nm)]/\fvOk nm f/\fvOk nm g/\f.te=true/\g.te=true/\okN nm/\Q (.d (.bool (eqB (fvO nm f) (fvO nm g)))) n
def jo2:DSp:=λws n Q=>∃(x:Hn) (nm:Nm),ws=[.d (hnD x),.d (ja0 nm)]/\Q (.d (hnD (goOn x nm))) n
def jq0:DSp:=λws n Q=>∃(P:List Bl) (b:Nat) (nm:Nm) (w:Bl),ws=[.d (prD P),.d (.int b),.d (ja0 nm)]/\P[b]?=some w/\w.1.length<=4/\Q (.d (hnD (goTo P b nm))) n
def jg9:DSp:=λws n Q=>∃(P:List Bl) (b:Nat) (nm:Nm) (w:Bl),ws=[.d (prD P),.d (ja0 nm),.d (.int b)]/\P[b]?=some w/\w.1.length<=4/\okN nm/\jgr nm/\w.1.Nodup/\upT w.1/\(∀k∈w.1,k∈nm.map (·.1))/\Q (.d (hnD (goTo P b nm))) n
def jeu:DSp:=λws n Q=>∃(hs:List Hn) (h:Nat) (x:Hn),ws=[.d (.tuple (hs.map hnD)),.d (.int h),.d (hnD x)]/\h < hs.length/\hs.length<=5/\Q (.d (.tuple ((setH hs h x).map hnD))) n
def jk6:DSp:=λws n Q=>∃(ps:Pg) (hs:List Hn) (ns:List Nt) (h:Nat) (a:Ac),ws=[.d (pgD ps),.d (stD hs ns),.d (.int h),.d a.d]/\okSt ps hs ns/\h < ps.length/\actO ps hs h=some a/\a.pf.isSome=true/\Q (.d (moD (movO ps hs ns h))) n
def jqz:DSp:=λws n Q=>∃(ps:Pg) (hs:List Hn) (ns:List Nt) (h:Nat),ws=[.d (pgD ps),.d (stD hs ns),.d (.int h)]/\okSt ps hs ns/\h < ps.length/\Q (.d (moD (movO ps hs ns h))) n
def jq2:DSp:=λws n Q=>∃q:Nt,ws=[.d (ntD q)]/\jj0 q.2/\Q (.d (ntD (q.1,ageO q.2))) n
def jlb:DSp:=λws n Q=>∃(hs:List Hn) (ns:List Nt),ws=[.d (stD hs ns)]/\(∀q∈ns,jj0 q.2)/\Q (.d (stD hs (clkO ns))) n
def jlc:DSp:=λws n Q=>∃(ps:Pg) (hs:List Hn) (ns:List Nt) (m:Nat),ws=[.d (pgD ps),.d (stD hs ns),.d (.int m)]/\okSt ps hs ns/\m<=ps.length/\Q (.d (moD (aftO ps hs ns m))) n
def jx2:DSp:=λws n Q=>∃(ps:Pg) (hs:List Hn) (ns:List Nt) (m:Nat) (r:List Hn×List Nt),ws=[.d (pgD ps),.d (stD hs ns),.d (.int m)]/\okSt ps hs ns/\m<=ps.length/\aftO ps hs ns m=some r/\Q (.d (stD r.1 r.2)) n
def jh5:DSp:=jx2
def jck:DSp:=λws n Q=>∃(ps:Pg) (hs:List Hn) (ns:List Nt) (h:Nat),ws=[.d (pgD ps),.d (stD hs ns),.d (.int h)]/\okHs ps hs/\h < ps.length/\Q (.d (acD (actO ps hs h))) n
def jq1:DSp:=λws n Q=>∃(ps:Pg) (hs:List Hn) (ns:List Nt) (h:Nat),ws=[.d (pgD ps),.d (stD hs ns),.d (.int h)]/\okSt ps hs ns/\h < ps.length/\Q (.d (natD (gotO ps hs ns h))) n
def jr0:DSp:=λws n Q=>∃(ps:Pg) (hs:List Hn) (ns:List Nt) (h:Nat),ws=[.d (pgD ps),.d (stD hs ns),.d (.int h)]/\okSt ps hs ns/\h < ps.length/\Q (gotW (gotP ps hs ns h)) n
def jdi:DSp:=λws n Q=>∃(ps:Pg) (hs:List Hn) (ns:List Nt) (h:Nat),ws=[.d (pgD ps),.d (stD hs ns),.d (.int h)]/\okSt ps hs ns/\h < ps.length/\Q (.d (.bool (canB ps hs ns h))) n
def jqy:DSp:=λws n Q=>∃(fs:List Fd) (row:List Ad) (nm:Nm),ws=[.d (patD fs),.d (.tuple row),.d (ja0 nm)]/\okP fs/\okR row/\okN nm/\Q (fitW fs row nm) n
def jqv:DSp:=λws n Q=>∃(fs:List Fd) (nm:Nm),ws=[.tp,.d (patD fs),.d (ja0 nm)]/\okP fs/\okN nm/\n+4 < 2 ^ 39/\∀(row:List Ad) (n':Int),okR row->n'<=n+4->Q (.d (.tuple row)) n'
def jk7:DSp:=λws n Q=>∃(ps:Pg) (hs:List Hn) (ns:List Nt),ws=[.tp,.d (pgD ps),.d (stD hs ns)]/\okPg ps/\okHs ps hs/\okNs 6 ns/\n+50 < 2 ^ 39/\∀(ns':List Nt) (n':Int),okNs 11 ns'->n'<=n+50->Q (.d (stD hs ns')) n'
def jmg:DSp:=λws n Q=>ws=[.tp]/\n < 2 ^ 39/\∀v∈jo0,Q (.d v) (n+1)
def jfp:DSp:=λws n Q=>∃m:Nat,ws=[.tp,.d (.int m)]/\m<=12/\n+100 < 2 ^ 39/\∀(ns:List Nt) (n':Int),okNs m ns->n'<=n+100->Q (.d (nsD ns)) n'
def jqu:DSp:=λws n Q=>ws=[.tp]/\n+4200 < 2 ^ 39/\∀(ps:Pg) (ns:List Nt) (n':Int),okPg ps->(∀P∈ps,fst0 P)->okNs 12 ns->n'<=n+4200->Q (.d (.tuple [pgD ps,nsD ns])) n'
def jg8:DSp:=λws n Q=>∃(P:List Bl) (i p:Nat) (b:Bl),ws=[.d (prD P),.d (.int i),.d (.int p)]/\P[i]?=some b/\okB b/\p<=b.2.length/\∀ys:List Str,ys.Nodup->(∀k∈ys,okK k)->upT ys->(∀k,k∈ys↔k∈kn b.1 b.2 p)->Q (.d (.list (ys.map .str))) n
def jk5:DSp:=λws n Q=>∃ps:Pg,ws=[.tp,.d (pgD ps)]/\okPg ps/\n+400 < 2 ^ 39/\∀(hs:List Hn) (ns:List Nt) (n':Int),okHs ps hs->okNs 6 ns->n'<=n+400->Q (.d (stD hs ns)) n'
def rdyL (ps:Pg) (hs:List Hn) (ns:List Nt):List Ad:=((Bq ps.length).filter (canB ps hs ns)).map λh=>.int (h:Nat)
abbrev Sd:=List Hn×List Nt
def sdD (s:Sd):Ad:=stD s.1 s.2
inductive Wov (ps:Pg):Sd->List Nat->Sd->Prop
 |nil {s:Sd}:Wov ps s [] s
 |cons {s t u:Sd} {m:Nat} {L:List Nat}:m<=ps.length->aftO ps s.1 s.2 m=some t->Wov ps t L u->Wov ps s (m::L) u
def intL (L:List Nat):List Ad:=L.map λi=>.int (i:Nat)
def jc0:DSp:=λws n Q=>∃(ps:Pg) (s t:Sd) (L:List Nat) (v:Ad),ws=[.d (pgD ps),.d (sdD s),.d v]/\(v=.tuple (intL L)\/v=.list (intL L))/\okPg ps/\okHs ps s.1/\okNs (100 - L.length) s.2/\L.length<=40/\Wov ps s L t/\Q (.d (sdD t)) n
def jg7:DSpN:=λws n Q=>∃(ps:Pg) (hs:List Hn) (ns:List Nt),ws=[.d (pgD ps),.d (stD hs ns)]/\okSt ps hs ns/\Q (rdyL ps hs ns++[.int ps.length]) n
structure Wlk (ps:Pg) (s0:Sd) (L:List Nat) (S:List Sd):Prop where
 len:S.length=L.length+1
 fst:S[0]?=some s0
 ok:∀i s,S[i]?=some s->okHs ps s.1/\okNs (12+i) s.2
 st:∀i m,L[i]?=some m->m<=ps.length/\∃s t,S[i]?=some s/\S[i+1]?=some t/\aftO ps s.1 s.2 m=some t
def jne:DSp:=λws n Q=>∃(ps:Pg) (s:Sd),ws=[.tp,.d (pgD ps),.d (sdD s),.d (.int 24)]/\okPg ps/\okHs ps s.1/\okNs 12 s.2/\n+60 < 2 ^ 39/\∀(L:List Nat) (S:List Sd) (n':Int),Wlk ps s L S->L.length<=24->n'<=n+60->Q (.d (.tuple [.list (intL L),.list (S.map sdD)])) n'
def hs0 (ps:Pg):List Hn:=ps.map λ_=>(0,0,[])
def jla:DSp:=λws n Q=>∃(ps:Pg) (ns:List Nt),ws=[.d (.tuple [pgD ps,nsD ns])]/\ps.length<=5/\Q (.d (stD (hs0 ps) ns)) n
def jnd:DST:=(sRet (wAnd (wIsi "int" (wVar 0)) (wNot (wIsi "bool" (wVar 0)))))
def jfi:DST:=(sSeq (sSet 4 (w2 (wVar 0) (wC (.int (0))) gIx)) (sSeq (sIf (cT (w2 (wVar 4) (wC (.str "is")) gEq)) (sRet (w2 (w2 (wVar 0) (wC (.int (1))) gIx) (wVar 1) gEq)) jas) (sSeq (sIf (cT (w2 (wVar 4) (wC (.str "word")) gEq)) (sRet (wIsi "str" (wVar 1))) jas) (sSeq (sIf (cT (w2 (wVar 4) (wC (.str "number")) gEq)) (sRet (wIsi "int" (wVar 1))) jas) (sSeq (sIf (cT (w2 (wVar 4) (wC (.str "as")) gEq)) (sRet (wAnd (w2 (w2 (wVar 0) (wC (.int (1))) gIx) (jb1 2) (gDIn false)) (w2 (w2 (jb1 2) (w2 (wVar 0) (wC (.int (1))) gIx) jew) (wVar 1) gEq))) jas) (sSeq (sIf (cT (w2 (wVar 4) (wC (.str "bind")) gEq)) (sRet (wOr (w2 (w2 (wVar 0) (wC (.int (1))) gIx) (jb1 3) (gDIn true)) (w2 (w2 (jb1 3) (w2 (wVar 0) (wC (.int (1))) gIx) jew) (wVar 1) gEq))) jas) (sRet (wC (.bool true)))))))))
def jte:DST:=(sSeq (sIf (cT (w2 (wB gLen (jab (wVar 0) aNil)) (wB gLen (jab (wVar 1) aNil)) gNe)) (sRet (wC .none)) jas) (sSeq (jjw 3 (jka (wVar 2))) (sSeq (jjw 4 kNil) (sSeq (sFor (jwy (wVar 0) (wVar 1)) (jdc 2 (jax (jai 5) (jax (jai 6) jb5))) (sSeq (sIf (cNot (cT (jam S_ff (jab (wVar 5) (jab (wVar 6) (jab (jb1 3) (jab (jb1 4) aNil))))))) (sRet (wC .none)) jas) (sIf (cT (w2 (w2 (wVar 5) (wC (.int (0))) gIx) (wC (.str "bind")) gEq)) (sSeq (jlh 4 (w2 (wVar 5) (wC (.int (1))) gIx) (wVar 6)) (jlh 3 (w2 (wVar 5) (wC (.int (1))) gIx) (wVar 6))) jas))) (sRet (wB jby (jab (wOf (jd1 (jb1 3))) aNil)))))))
def jfg:DST:=(sSeq (sIf (cT (wIsi "str" (wVar 0))) (sRet (wVar 0)) jas) (sRet (wIf (cT (w2 (wVar 0) (wC (.int (99))) gEq)) (wC (.int (0))) (w2 (wVar 0) (wC (.int (1))) (gI0 λi j=>.int (i+j))))))
def jeg:DST:=(sSeq (sIf (cT (w2 (w2 (wVar 0) (wC (.int (0))) gIx) (wC (.str "is")) gEq)) (sRet (w2 (wVar 0) (wC (.int (1))) gIx)) jas) (sSeq (sSet 2 (w2 (jb1 1) (w2 (wVar 0) (wC (.int (1))) gIx) jew)) (sRet (wIf (cT (w2 (w2 (wVar 0) (wC (.int (0))) gIx) (wC (.str "next")) gEq)) (jam jx1 (jab (wVar 2) aNil)) (wVar 2)))))
def jo1:DST:=(sSeq (jjw 2 (jka (wVar 1))) (sRet (wB jby (jab (wOf (jcf [none,some 2] (jcl (wVar 0)) (jai 0) cYes (jam jio (jab (wVar 0) (jab (jb1 1) aNil))))) aNil))))
def jgg:DST:=(sRet (wAnd (jam jk4 (jab (wVar 0) aNil)) (jr3 gLe gLe (wC (.int (0))) (wVar 0) (wVar 1))))
def jhz:DST:=(sSeq (sSet 3 (w2 (w2 (w2 (wVar 1) (wC (.int (0))) gIx) (wVar 2) gIx) (wC (.int (0))) gIx)) (sSeq (sSet 4 (w2 (w2 (w2 (wVar 1) (wC (.int (0))) gIx) (wVar 2) gIx) (wC (.int (1))) gIx)) (sSeq (sSet 5 (w2 (w2 (w2 (wVar 0) (wVar 2) gIx) (wVar 3) gIx) (wC (.int (1))) gIx)) (sRet (wIf (cT (w2 (wVar 4) (wB gLen (jab (wVar 5) aNil)) gLt)) (w2 (wVar 5) (wVar 4) gIx) (wC .none))))))
abbrev zqo:List Str:=["take","read","look"]
def jxz:DST:=(sSeq (sSet 3 (jam jck (jab (wVar 0) (jab (wVar 1) (jab (wVar 2) aNil))))) (sSeq (sIf (cOr (cT (w2 (wVar 3) (wC .none) (gIsN false))) (cT (jun zqo (w2 (wVar 3) (wC (.int (0))) gIx)))) (sRet (wC .none)) jas) (sSeq (sSet 4 (w2 (w2 (w2 (wVar 1) (wC (.int (0))) gIx) (wVar 2) gIx) (wC (.int (2))) gIx)) (sSeq (jyt 5) (sSeq (sFor (jp3 (w2 (wVar 1) (wC (.int (1))) gIx)) (jdc 2 (jax (jai 6) (jax (jai 7) jb5))) (sIf (cT (jx7 5 (w2 (wVar 7) (wC (.int (0))) gIx))) (sSeq (sIf (cT (w2 (jam jk9 (jab (w2 (wVar 3) (wC (.int (1))) gIx) (jab (w2 (wVar 7) (wC (.int (0))) gIx) (jab (wVar 4) aNil)))) (wC .none) (gIsN true))) (sRet (wVar 6)) jas) (j5k 5 (w2 (wVar 7) (wC (.int (0))) gIx) (wC (.bool true)))) jas)) (sRet (wC .none)))))))
def jk2:DST:=(sRet (wTup (jab (w2 (wVar 0) (wC (.int (0))) gIx) (jab (w2 (w2 (wVar 0) (wC (.int (1))) gIx) (wC (.int (1))) (gI0 λi j=>.int (i+j))) (jab (wVar 1) aNil)))))
def jk1:DST:=(sSeq (sSet 3 (w2 (w2 (wVar 0) (wVar 1) gIx) (wC (.int (0))) gIx)) (sRet (wTup (jab (wVar 1) (jab (wC (.int (0))) (jab (wB jby (jab (wOf (jcf [none,some 3] (jcl (wVar 2)) (jai 0) (cT (w2 (w2 (wVar 0) (wC (.int (0))) gIx) (wVar 1) (gIn false))) (wVar 0))) aNil)) aNil))))))
def jgf:DST:=(sRet (w2 (w2 (jbz (wVar 0) jb8 (jb7 (wVar 1))) (wTup (jab (wVar 2) aNil)) jeb) (jbz (wVar 0) (jb7 (w2 (wVar 1) (wC (.int (1))) (gI0 λi j=>.int (i+j)))) jb8) jeb))
def j0o:DST:=(sSeq (sSet 4 (w2 (w2 (wVar 1) (wC (.int (0))) gIx) (wVar 2) gIx)) (sSeq (sSet 5 (w2 (wVar 1) (wC (.int (1))) gIx)) (sSeq (sSet 6 (jam jq1 (jab (wVar 0) (jab (wVar 1) (jab (wVar 2) aNil))))) (sSeq (sIf (cT (w2 (wVar 6) (wC .none) (gIsN false))) (sSeq (sIf (cT (w2 (w2 (wVar 3) (wC (.int (0))) gIx) (wC (.str "look")) gNe)) (sRet (wC .none)) jas) (sRet (wTup (jab (jam jeu (jab (w2 (wVar 1) (wC (.int (0))) gIx) (jab (wVar 2) (jab (jam jq0 (jab (w2 (wVar 0) (wVar 2) gIx) (jab (w2 (wVar 3) (wC (.int (2))) gIx) (jab (w2 (wVar 4) (wC (.int (2))) gIx) aNil)))) aNil)))) (jab (wVar 5) aNil))))) jas) (sSeq (sSet 7 (jam jk9 (jab (w2 (wVar 3) (wC (.int (1))) gIx) (jab (w2 (w2 (wVar 5) (wVar 6) gIx) (wC (.int (0))) gIx) (jab (w2 (wVar 4) (wC (.int (2))) gIx) aNil))))) (sSeq (sIf (cT (w2 (w2 (wVar 3) (wC (.int (0))) gIx) (wC (.str "take")) gEq)) (sSet 5 (w2 (jbz (wVar 5) jb8 (jb7 (wVar 6))) (jbz (wVar 5) (jb7 (w2 (wVar 6) (wC (.int (1))) (gI0 λi j=>.int (i+j)))) jb8) jeb)) jas) (sRet (wTup (jab (jam jeu (jab (w2 (wVar 1) (wC (.int (0))) gIx) (jab (wVar 2) (jab (jam jo2 (jab (wVar 4) (jab (wVar 7) aNil))) aNil)))) (jab (wVar 5) aNil))))))))))
def jde:DST:=(sSeq (jjw 2 (jka (wVar 1))) (sRet (w2 (jam jio (jab (w2 (wVar 0) (wC (.int (1))) gIx) (jab (jb1 2) aNil))) (jam jio (jab (w2 (wVar 0) (wC (.int (2))) gIx) (jab (jb1 2) aNil))) gEq)))
def jfh:DST:=(sSeq (sSet 3 (jam jck (jab (wVar 0) (jab (wVar 1) (jab (wVar 2) aNil))))) (sSeq (sIf (cT (w2 (wVar 3) (wC .none) (gIsN false))) (sRet (wC .none)) jas) (sSeq (sIf (cT (wInG zqo (w2 (wVar 3) (wC (.int (0))) gIx))) (sRet (jam jk6 (jab (wVar 0) (jab (wVar 1) (jab (wVar 2) (jab (wVar 3) aNil)))))) jas) (sSeq (sSet 4 (w2 (w2 (wVar 1) (wC (.int (0))) gIx) (wVar 2) gIx)) (sSeq (sSet 5 (w2 (wVar 1) (wC (.int (1))) gIx)) (sSeq (sSet 6 (w2 (wVar 4) (wC (.int (2))) gIx)) (sSeq (sIf (cT (w2 (w2 (wVar 3) (wC (.int (0))) gIx) (wC (.str "lay")) gEq)) (sSeq (sSet 5 (w2 (wVar 5) (wTup (jab (wTup (jab (jam jha (jab (w2 (wVar 3) (wC (.int (1))) gIx) (jab (wVar 6) aNil))) (jab (w2 (wVar 3) (wC (.int (2))) gIx) aNil))) aNil)) jeb)) (sSet 4 (jam jo2 (jab (wVar 4) (jab (wVar 6) aNil))))) (sIf (cAnd (cT (w2 (w2 (wVar 3) (wC (.int (0))) gIx) (wC (.str "same")) gEq)) (cT (jam jqs (jab (wVar 3) (jab (wVar 6) aNil))))) (sSet 4 (jam jo2 (jab (wVar 4) (jab (wVar 6) aNil)))) (sSet 4 (jam jq0 (jab (w2 (wVar 0) (wVar 2) gIx) (jab (w2 (wVar 3) (wNeg (wC (.int (1)))) gIx) (jab (wVar 6) aNil))))))) (sRet (wTup (jab (jam jeu (jab (w2 (wVar 1) (wC (.int (0))) gIx) (jab (wVar 2) (jab (wVar 4) aNil)))) (jab (wVar 5) aNil)))))))))))
def jx0:DST:=(sRet (wIf (cT (w2 (w2 (wVar 0) (wC (.int (1))) gIx) (wC .none) (gIsN false))) (wVar 0) (wTup (jab (w2 (wVar 0) (wC (.int (0))) gIx) (jab (w2 (w2 (wVar 0) (wC (.int (1))) gIx) (wC (.int (1))) (gI0 λi j=>.int (i - j))) aNil)))))
def jeh:DST:=(sRet (wTup (jab (w2 (wVar 0) (wC (.int (0))) gIx) (jab (wB jby (jab (wOf (jcf [none] (jcl (w2 (wVar 0) (wC (.int (1))) gIx)) (jai 0) (cT (w2 (w2 (wVar 0) (wC (.int (1))) gIx) (wC (.int (1))) gNe)) (jam jq2 (jab (wVar 0) aNil)))) aNil)) aNil))))
def jrz:DST:=(sSeq (sSet 3 (wB gLen (jab (wVar 0) aNil))) (sSeq (sIf (cNot (cT (jam jg6 (jab (wVar 2) (jab (wVar 3) aNil))))) (sRet (wC .none)) jas) (sRet (wIf (cT (w2 (wVar 2) (wVar 3) gEq)) (jam jlb (jab (wVar 1) aNil)) (jam jqz (jab (wVar 0) (jab (wVar 1) (jab (wVar 2) aNil))))))))
def jry:DST:=(sSeq (sFor (jp3 (wVar 2)) (jdc 2 (jax (jai 3) (jax (jai 4) jb5))) (sSeq (sSet 1 (jam jlc (jab (wVar 0) (jab (wVar 1) (jab (wVar 4) aNil))))) (sIf (cT (w2 (wVar 1) (wC .none) (gIsN false))) sNo jas))) (sRet (wVar 1)))
def jfj:DST:=(sRet (w2 (wOf (fLst (jab (wC (.str "a")) (jab (wC (.int (0))) (jab (wC (.str "a")) (jab (wC (.int (1))) (jab (wC (.str "ab")) (jab (wC (.str "go")) (jab (wC (.int (99))) (jab (wC (.int (0))) aNil)))))))))) (jam jav (jab (wVar 0) (jab (wC (.int (8))) aNil))) gIx))
def jgj:DST:=(sRet (w2 (wOf (fLst (jab (wC (.int (1))) (jab (wC (.int (2))) (jab (wC (.int (2))) (jab (wC (.int (2))) (jab (wC (.int (1))) (jab (wC (.int (3))) (jab (wC (.int (4))) aNil))))))))) (jam jav (jab (wVar 0) (jab (wC (.int (7))) aNil))) gIx))
def jh2:DST:=(sRet (w2 (wTp3 0) (jam jav (jab (wVar 0) (jab (wB jfc (jab (wTp3 0) aNil)) aNil))) gIxL))
def jdv:DST:=(sSeq (sOwn 2 (fLst aNil)) (sSeq (sOwn 3 (fLst aNil)) (sSeq (sFor (jbe (jam jf6 (jab (wVar 0) aNil))) (jai 4) (sSeq (sSet 5 (jam jav (jab (wVar 0) (jab (wC (.int (9))) aNil)))) (sSeq (sSet 6 (w2 (wVar 1) (jd5 3) gCat)) (sIf (cT (w2 (wVar 5) (wC (.int (3))) gLt)) (sApp 2 (wTup (jab (wC (.str "is")) (jab (jam jcm (jab (wVar 0) aNil)) aNil)))) (sIf (cT (w2 (wVar 5) (wC (.int (6))) gLt)) (sApp 2 (w2 (wOf (fLst (jab (wTup (jab (wC (.str "any")) aNil)) (jab (wTup (jab (wC (.str "word")) aNil)) (jab (wTup (jab (wC (.str "number")) aNil)) aNil))))) (w2 (wVar 5) (wC (.int (3))) (gI0 λi j=>.int (i - j))) gIxL)) (sIf (cOr (cT (w2 (wVar 5) (wC (.int (8))) gLt)) (cT (w2 (wVar 6) (wOf (fLst aNil)) gEqL))) (sSeq (sSet 7 (w2 (wOf (fLst (jab (wC (.str "n")) (jab (wC (.str "nm")) (jab (wC (.str "go")) (jab (wC (.str "m")) aNil)))))) (jam jav (jab (wVar 0) (jab (wC (.int (4))) aNil))) gIxL)) (sSeq (sApp 3 (wVar 7)) (sApp 2 (wTup (jab (wC (.str "bind")) (jab (wVar 7) aNil)))))) (sApp 2 (wTup (jab (wC (.str "as")) (jab (w2 (wVar 6) (jam jav (jab (wVar 0) (jab (wB jfc (jab (wVar 6) aNil)) aNil))) gIxL) aNil)))))))))) (sFrz 2 (sFrz 3 (sRet (wTup (jab (wB jcz (jab (wVar 2) aNil)) (jab (wVar 3) aNil)))))))))
def jdg:DST:=(sSeq (sOwn 2 (fLst aNil)) (sSeq (sFor (jbe (jam jf6 (jab (wVar 0) aNil))) (jai 3) (sSeq (sSet 4 (jam jav (jab (wVar 0) (jab (wC (.int (6))) aNil)))) (sIf (cOr (cT (w2 (wVar 4) (wC (.int (3))) gLt)) (cT (w2 (wVar 1) (wOf (fLst aNil)) gEqL))) (sApp 2 (wTup (jab (wC (.str "is")) (jab (jam jcm (jab (wVar 0) aNil)) aNil)))) (sApp 2 (wTup (jab (w2 (wOf (fLst (jab (wC (.str "as")) (jab (wC (.str "as")) (jab (wC (.str "next")) aNil))))) (w2 (wVar 4) (wC (.int (3))) (gI0 λi j=>.int (i - j))) gIxL) (jab (w2 (wVar 1) (jam jav (jab (wVar 0) (jab (wB jfc (jab (wVar 1) aNil)) aNil))) gIxL) aNil))))))) (sFrz 2 (sRet (wB jcz (jab (wVar 2) aNil))))))
def jgi:DST:=(sSeq (sIf (cOr (cT (w2 (wVar 1) (wOf (fLst aNil)) gEqL)) (cT (w2 (jam jav (jab (wVar 0) (jab (wC (.int (2))) aNil))) (wC (.int (0))) gEqL))) (sRet (wTup (jab (wC (.str "is")) (jab (jam jcm (jab (wVar 0) aNil)) aNil)))) jas) (sRet (wTup (jab (wC (.str "as")) (jab (w2 (wVar 1) (jam jav (jab (wVar 0) (jab (wB jfc (jab (wVar 1) aNil)) aNil))) gIxL) aNil)))))
def jh3:DST:=(sSeq (sSet 3 (jam jav (jab (wVar 0) (jab (wC (.int (12))) aNil)))) (sSeq (sIf (cT (w2 (wVar 3) (wC (.int (4))) gLt)) (sRet (wTup (jab (wTup (jab (wC (.str "lay")) (jab (jam jqw (jab (wVar 0) (jab (wVar 1) aNil))) (jab (jam jmg (jab (wVar 0) aNil)) aNil)))) (jab (wOf (fLst aNil)) aNil)))) jas) (sSeq (sSet 4 (w2 (wVar 2) (jam jav (jab (wVar 0) (jab (wB jfc (jab (wVar 2) aNil)) aNil))) gIxL)) (sSeq (sIf (cT (w2 (wVar 3) (wC (.int (10))) gEqL)) (sRet (wTup (jab (wTup (jab (wC (.str "same")) (jab (jam jh4 (jab (wVar 0) (jab (wVar 1) aNil))) (jab (jam jh4 (jab (wVar 0) (jab (wVar 1) aNil))) (jab (wVar 4) aNil))))) (jab (wOf (fLst aNil)) aNil)))) jas) (sSeq (sIf (cT (w2 (wVar 3) (wC (.int (11))) gEqL)) (sRet (wTup (jab (wTup (jab (wC (.str "go")) (jab (wVar 4) aNil))) (jab (wOf (fLst aNil)) aNil)))) jas) (sSeq (sUnp (jam jqx (jab (wVar 0) (jab (wVar 1) aNil))) (jdc 2 (jax (jai 5) (jax (jai 6) jb5)))) (sSeq (sIf (cT (w2 (wVar 3) (wC (.int (7))) gGt)) (sRet (wTup (jab (wTup (jab (wC (.str "look")) (jab (wVar 5) (jab (wVar 4) aNil)))) (jab (wVar 6) aNil)))) jas) (sRet (wTup (jab (wTup (jab (w2 (wOf (fLst (jab (wC (.str "take")) (jab (wC (.str "take")) (jab (wC (.str "take")) (jab (wC (.str "read")) aNil)))))) (w2 (wVar 3) (wC (.int (4))) (gI0 λi j=>.int (i - j))) gIxL) (jab (wVar 5) aNil))) (jab (wVar 6) aNil)))))))))))
def jdu:DST:=(sSeq (sOwn 1 (fLst (jab (wTup aNil) aNil))) (sSeq (sFor (jbe (w2 (wOf (fLst (jab (wC (.int (0))) (jab (wC (.int (1))) (jab (wC (.int (2))) (jab (wC (.int (1))) (jab (wC (.int (0))) (jab (wC (.int (2))) (jab (wC (.int (5))) aNil))))))))) (jam jav (jab (wVar 0) (jab (wC (.int (7))) aNil))) gIxL)) (jai 2) (sApp 1 (w2 (wOf (fLst (jab (wTup aNil) (jab (wTup (jab (wC (.str "n")) aNil)) (jab (wTup (jab (wC (.str "go")) (jab (wC (.str "n")) aNil))) (jab (wTup (jab (wC (.str "nm")) aNil)) (jab (wTup aNil) aNil))))))) (jam jav (jab (wVar 0) (jab (wC (.int (5))) aNil))) gIxL))) (sSeq (sOwn 3 (fLst aNil)) (sFrz 1 (sSeq (sFor (jlv (wVar 1)) (jai 4) (sSeq (sOwn 5 (jec (wVar 4))) (sSeq (sOwn 6 (fLst aNil)) (sSeq (sFor (jbe (w2 (wOf (fLst (jab (wC (.int (2))) (jab (wC (.int (3))) (jab (wC (.int (1))) (jab (wC (.int (4))) (jab (wC (.int (2))) (jab (wC (.int (0))) (jab (wC (.int (3))) (jab (wC (.int (8))) aNil)))))))))) (jam jav (jab (wVar 0) (jab (wC (.int (8))) aNil))) gIxL)) (jai 2) (sSeq (sSet 8 (wOf (jcf [none,some 5,some 1] (jbe (wB jfc (jab (wVar 1) aNil))) (jai 0) (cT (w2 (wOf (jcf [none,some 1] (jcl (w2 (wVar 2) (wVar 0) gIxL)) (jai 0) (cT (w2 (wVar 0) (wVar 1) (gInL true))) (wVar 0))) (wOf (fLst aNil)) gEqL)) (wVar 0)))) (sSeq (sUnp (jam jk8 (jab (wVar 0) (jab (jd5 5) (jab (wVar 8) aNil)))) (jdc 2 (jax (jai 9) (jax (jai 10) jb5)))) (sSeq (sApp 6 (wVar 9)) (sFor (jlv (wVar 10)) (jai 7) (sIf (cT (w2 (wVar 7) (jd5 5) (gInL true))) (sApp 5 (wVar 7)) jas)))))) (sFrz 6 (sApp 3 (wTup (jab (wVar 4) (jab (wB jcz (jab (wVar 6) aNil)) aNil))))))))) (sFrz 3 (sRet (wB jcz (jab (wVar 3) aNil)))))))))
def jfl:DST:=(sSeq (sOwn 2 (fLst aNil)) (sSeq (sFor (jbe (jam jav (jab (wVar 0) (jab (w2 (wVar 1) (wC (.int (1))) (gI0 λi j=>.int (i+j))) aNil)))) (jai 3) (sSeq (sSet 4 (wB jcz (jab (wOf (jcf [none,some 0] (jbe (jam jf6 (jab (wVar 0) aNil))) (jai 0) cYes (jam jcm (jab (wVar 1) aNil)))) aNil))) (sApp 2 (wTup (jab (wVar 4) (jab (jam jmg (jab (wVar 0) aNil)) aNil)))))) (sFrz 2 (sRet (wB jcz (jab (wVar 2) aNil))))))
def jgk:DST:=(sSeq (sOwn 1 (jcf [none,some 0] (jbe (w2 (wOf (fLst (jab (wC (.int (2))) (jab (wC (.int (1))) (jab (wC (.int (2))) (jab (wC (.int (3))) (jab (wC (.int (2))) (jab (wC (.int (1))) (jab (wC (.int (0))) (jab (wC (.int (5))) aNil)))))))))) (jam jav (jab (wVar 0) (jab (wC (.int (8))) aNil))) gIxL)) (jai 0) cYes (jam jqt (jab (wVar 1) aNil)))) (sSeq (sIf (cAnd (cT (w2 (wB jfc (jab (jd5 1) aNil)) (wC (.int (2))) gEqL)) (cT (w2 (jam jav (jab (wVar 0) (jab (wC (.int (4))) aNil))) (wC (.int (0))) gEqL))) (sPut 1 (wC (.int (1))) (w2 (jd5 1) (wC (.int (0))) gIxL)) jas) (sFrz 1 (sRet (wTup (jab (wB jcz (jab (wVar 1) aNil)) (jab (jam jfp (jab (wVar 0) (jab (w2 (wOf (fLst (jab (wC (.int (4))) (jab (wC (.int (3))) (jab (wC (.int (6))) (jab (wC (.int (12))) aNil)))))) (jam jav (jab (wVar 0) (jab (wC (.int (4))) aNil))) gIxL) aNil))) aNil)))))))
def jfn:DST:=(sSeq (sOwn 3 (jec (w2 (w2 (wVar 0) (wVar 1) gIx) (wC (.int (0))) gIx))) (sSeq (sFor (jcl (jbz (w2 (w2 (wVar 0) (wVar 1) gIx) (wC (.int (1))) gIx) jb8 (jb7 (wVar 2)))) (jai 4) (sIf (cT (w2 (w2 (wVar 4) (wC (.int (0))) gIx) (wTup (jab (wC (.str "take")) (jab (wC (.str "read")) (jab (wC (.str "look")) aNil)))) (gIn false))) (sExt 3 (wOf (jcf [none] (jcl (w2 (wVar 4) (wC (.int (1))) gIx)) (jai 0) (cT (w2 (w2 (wVar 0) (wC (.int (0))) gIx) (wC (.str "bind")) gEq)) (w2 (wVar 0) (wC (.int (1))) gIx)))) jas)) (sFrz 3 (sRet (wOf (jok (wVar 3)))))))
def jfk:DST:=(sSeq (sOwn 2 (fLst aNil)) (sSeq (sFor (jcl (wVar 1)) (jai 3) (sSeq (sSet 4 (jam jav (jab (wVar 0) (jab (wB gLen (jab (wVar 3) aNil)) aNil)))) (sSeq (sSet 5 (jam jav (jab (wVar 0) (jab (w2 (wB gLen (jab (w2 (w2 (wVar 3) (wVar 4) gIx) (wC (.int (1))) gIx) aNil)) (wC (.int (1))) (gI0 λi j=>.int (i+j))) aNil)))) (sSeq (sSet 6 (wB jby (jab (wOf (jcf [none,some 0] (jlv (jam jg8 (jab (wVar 3) (jab (wVar 4) (jab (wVar 5) aNil))))) (jai 0) cYes (wTup (jab (wVar 0) (jab (jam jcm (jab (wVar 1) aNil)) aNil))))) aNil))) (sApp 2 (wTup (jab (wVar 4) (jab (wVar 5) (jab (wVar 6) aNil))))))))) (sFrz 2 (sRet (wTup (jab (wB jby (jab (wVar 2) aNil)) (jab (jam jfp (jab (wVar 0) (jab (wC (.int (6))) aNil))) aNil)))))))
def jfx:DST:=(sSeq (sIf (cT (w2 (wB gLen (jab (wVar 0) aNil)) (wB gLen (jab (wVar 1) aNil)) gNe)) (sRet (wC .none)) jas) (sSeq (jjw 3 (jka (wVar 2))) (sSeq (sOwn 4 (fLst aNil)) (sSeq (sFor (jwy (wVar 0) (wVar 1)) (jdc 2 (jax (jai 5) (jax (jai 6) jb5))) (sSeq (sSet 7 (w2 (wVar 5) (wC (.int (0))) gIx)) (sSeq (sSet 8 (wC (.bool true))) (sSeq (sIf (cT (w2 (wVar 7) (wC (.str "is")) gEq)) (sSet 8 (w2 (w2 (wVar 5) (wC (.int (1))) gIx) (wVar 6) gEq)) (sIf (cT (w2 (wVar 7) (wTup (jab (wC (.str "word")) (jab (wC (.str "number")) aNil))) (gIn false))) (sSet 8 (w2 (wIsi "str" (wVar 6)) (w2 (wVar 7) (wC (.str "word")) gEq) gEq)) (sIf (cOr (cT (w2 (wVar 7) (wC (.str "as")) gEq)) (cAnd (cT (w2 (wVar 7) (wC (.str "bind")) gEq)) (cT (jmh 4 (w2 (wVar 5) (wC (.int (1))) gIx))))) (sSet 8 (wAnd (w2 (w2 (wVar 5) (wC (.int (1))) gIx) (jb1 3) (gDIn false)) (w2 (w2 (jb1 3) (w2 (wVar 5) (wC (.int (1))) gIx) jew) (wVar 6) gEq))) (sIf (cT (w2 (wVar 7) (wC (.str "bind")) gEq)) (sSeq (jlh 3 (w2 (wVar 5) (wC (.int (1))) gIx) (wVar 6)) (sApp 4 (w2 (wVar 5) (wC (.int (1))) gIx))) jas)))) (sIf (cNot (cT (wVar 8))) (sRet (wC .none)) jas))))) (sFrz 3 (sRet (wVar 3)))))))
def jdh:DST:=(sSeq (sUnp (w2 (w2 (wVar 1) (wC (.int (0))) gIx) (wVar 2) gIx) (jdc 3 (jax (jai 3) (jax (jai 4) (jax (jai 5) jb5))))) (sSeq (sSet 6 (w2 (w2 (w2 (wVar 0) (wVar 2) gIx) (wVar 3) gIx) (wC (.int (1))) gIx)) (sRet (wIf (cT (w2 (wVar 4) (wB gLen (jab (wVar 6) aNil)) gLt)) (w2 (wVar 6) (wVar 4) gIx) (wC .none)))))
def jh0:DST:=(sSeq (sSet 3 (jam jck (jab (wVar 0) (jab (wVar 1) (jab (wVar 2) aNil))))) (sSeq (sIf (cOr (cT (w2 (wVar 3) (wC .none) (gIsO false))) (cT (w2 (w2 (wVar 3) (wC (.int (0))) gIx) (wTup (jab (wC (.str "take")) (jab (wC (.str "read")) (jab (wC (.str "look")) aNil)))) (gIn true)))) (sRet (wC .none)) jas) (sSeq (sFor (jbe (wB gLen (jab (w2 (wVar 1) (wC (.int (1))) gIx) aNil))) (jai 4) (sSeq (sSet 5 (jam jqy (jab (w2 (wVar 3) (wC (.int (1))) gIx) (jab (w2 (w2 (w2 (wVar 1) (wC (.int (1))) gIx) (wVar 4) gIx) (wC (.int (0))) gIx) (jab (w2 (w2 (w2 (wVar 1) (wC (.int (0))) gIx) (wVar 2) gIx) (wC (.int (2))) gIx) aNil))))) (sIf (cT (w2 (wVar 5) (wC .none) (gIsO true))) (sRet (jum (wVar 4) (wVar 5))) jas))) (sRet (wC .none)))))
def jh1:DST:=(sSeq (sSet 3 (jam jck (jab (wVar 0) (jab (wVar 1) (jab (wVar 2) aNil))))) (sSeq (sIf (cT (w2 (wVar 3) (wC .none) (gIsO false))) (sRet (wC (.bool false))) jas) (sRet (wOr (w2 (w2 (wVar 3) (wC (.int (0))) gIx) (wTup (jab (wC (.str "take")) (jab (wC (.str "read")) aNil))) (gIn true)) (w2 (jam jr0 (jab (wVar 0) (jab (wVar 1) (jab (wVar 2) aNil)))) (wC .none) (gIsO true))))))
def jej:DST:=(sSeq (sOwn 2 (fLst aNil)) (sSeq (sFor (jcl (wVar 0)) (jdc 2 (jax (jai 3) (jax (jai 4) jb5))) (sSeq (sSet 5 (wIf (cT (w2 (wVar 3) (wC (.str "is")) gEq)) (wVar 4) (w2 (jb1 1) (wVar 4) jew))) (sSeq (sIf (cAnd (cT (w2 (wVar 3) (wC (.str "next")) gEq)) (cNot (cT (wIsi "str" (wVar 5))))) (sSet 5 (w2 (w2 (wVar 5) (wC (.int (1))) (gI0 λi j=>.int (i+j))) (wC (.int (100))) (gI (λ_ j=>0 < j) λi j=>.int (i % j)))) jas) (sApp 2 (wVar 5))))) (sFrz 2 (sRet (wB jby (jab (wVar 2) aNil))))))
def jdf:DST:=(sSeq (jjw 3 (jka (wVar 1))) (sRet (wTup (jab (wVar 2) (jab (wC (.int (0))) (jab (wB jby (jab (wOf (jcf [none,some 3] (jcl (w2 (w2 (wVar 0) (wVar 2) gIx) (wC (.int (0))) gIx)) (jai 0) cYes (wTup (jab (wVar 0) (jab (w2 (jb1 1) (wVar 0) jew) aNil))))) aNil)) aNil))))))
def jdw:DST:=(sRet (wIf (cT (w2 (w2 (wVar 0) (wC (.int (0))) gIx) (wC (.str "is")) gEq)) (w2 (wVar 0) (wC (.int (1))) gIx) (w2 (jo4 (wVar 1)) (w2 (wVar 0) (wC (.int (1))) gIx) jew)))
def jgl:DST:=(sSeq (sUnp (wVar 1) (jdc 2 (jax (jai 3) (jax (jai 4) jb5)))) (sSeq (sIf (cT (w2 (wVar 2) (wB gLen (jab (wVar 0) aNil)) gEq)) (sRet (wTup (jab (wVar 3) (jab (wB jby (jab (wOf (jcf [none,none] (jcl (wVar 4)) (jdc 2 (jax (jai 0) (jax (jai 1) jb5))) (cT (w2 (wVar 1) (wC (.int (1))) gNe)) (wTup (jab (wVar 0) (jab (wIf (cT (w2 (wVar 1) (wC .none) (gIsO false))) (wC .none) (w2 (wVar 1) (wC (.int (1))) (gI0 λi j=>.int (i - j)))) aNil))))) aNil)) aNil)))) jas) (sSeq (sSet 5 (jam jck (jab (wVar 0) (jab (wVar 1) (jab (wVar 2) aNil))))) (sSeq (sUnp (w2 (wVar 3) (wVar 2) gIxO) (jdc 3 (jax (jai 6) (jax (jai 7) (jax (jai 8) jb5))))) (sSeq (sSet 9 (jam jr0 (jab (wVar 0) (jab (wVar 1) (jab (wVar 2) aNil))))) (sSeq (sSet 10 (wTup (jab (wVar 6) (jab (w2 (wVar 7) (wC (.int (1))) (gI0 λi j=>.int (i+j))) (jab (wVar 8) aNil))))) (sSeq (sIf (cT (w2 (w2 (wVar 5) (wC (.int (0))) gIxO) (wC (.str "lay")) gEq)) (sSet 4 (w2 (wVar 4) (wTup (jab (wTup (jab (jam jfq (jab (w2 (wVar 5) (wC (.int (1))) gIxO) (jab (jo4 (wVar 8)) aNil))) (jab (w2 (wVar 5) (wC (.int (2))) gIxO) aNil))) aNil)) jeb)) (sIf (cT (w2 (w2 (wVar 5) (wC (.int (0))) gIxO) (wC (.str "go")) gEq)) (sSet 10 (jam jg9 (jab (w2 (wVar 0) (wVar 2) gIxO) (jab (wVar 8) (jab (w2 (wVar 5) (wC (.int (1))) gIxO) aNil))))) (sIf (cT (w2 (w2 (wVar 5) (wC (.int (0))) gIxO) (wC (.str "same")) gEq)) (sIf (cT (w2 (jam juh (jab (w2 (wVar 5) (wC (.int (1))) gIxO) (jab (wVar 8) aNil))) (jam juh (jab (w2 (wVar 5) (wC (.int (2))) gIxO) (jab (wVar 8) aNil))) gNe)) (sSet 10 (jam jg9 (jab (w2 (wVar 0) (wVar 2) gIxO) (jab (wVar 8) (jab (w2 (wVar 5) (wC (.int (3))) gIxO) aNil))))) jas) (sIf (cT (w2 (wVar 9) (wC .none) (gIsO false))) (sSet 10 (jam jg9 (jab (w2 (wVar 0) (wVar 2) gIxO) (jab (wVar 8) (jab (w2 (wVar 5) (wC (.int (2))) gIxO) aNil))))) (sSeq (sSet 10 (wTup (jab (wVar 6) (jab (w2 (wVar 7) (wC (.int (1))) (gI0 λi j=>.int (i+j))) (jab (wB jby (jab (wOf (jd1 (w2 (wVar 9) (wC (.int (1))) gIxO))) aNil)) aNil))))) (sIf (cT (w2 (w2 (wVar 5) (wC (.int (0))) gIxO) (wC (.str "take")) gEq)) (sSet 4 (w2 (jbz (wVar 4) jb8 (jb7 (w2 (wVar 9) (wC (.int (0))) gIxO))) (jbz (wVar 4) (jb7 (w2 (w2 (wVar 9) (wC (.int (0))) gIxO) (wC (.int (1))) (gI0 λi j=>.int (i+j)))) jb8) jeb)) jas)))))) (sRet (wTup (jab (w2 (w2 (jbz (wVar 3) jb8 (jb7 (wVar 2))) (wTup (jab (wVar 10) aNil)) jeb) (jbz (wVar 3) (jb7 (w2 (wVar 2) (wC (.int (1))) (gI0 λi j=>.int (i+j)))) jb8) jeb) (jab (wVar 4) aNil)))))))))))
def jei:DST:=(jys (fCat (wOf (jcf [none,some 0,some 1] (jbe (wB gLen (jab (wVar 0) aNil))) (jai 0) (cT (jam jdi (jab (wVar 1) (jab (wVar 2) (jab (wVar 0) aNil))))) (wVar 0))) (wOf (fLst (jab (wB gLen (jab (wVar 0) aNil)) aNil)))))
def jgh:DST:=(sSeq (sOwn 4 (fLst aNil)) (sSeq (sOwn 5 (fLst (jab (wVar 2) aNil))) (sSeq (sFor (jbe (jam jav (jab (wVar 0) (jab (w2 (wVar 3) (wC (.int (1))) (gI0 λi j=>.int (i+j))) aNil)))) (jai 6) (sSeq (sSet 7 (wOf (jqd jg7 (jab (wVar 1) (jab (w2 (jd5 5) (wNeg (wC (.int (1)))) gIxL) aNil))))) (sSeq (sIf (cAnd (cT (w2 (wB jfc (jab (wVar 7) aNil)) (wC (.int (1))) gGt)) (cT (w2 (jam jav (jab (wVar 0) (jab (wC (.int (5))) aNil))) (wC (.int (0))) gGt))) (sSet 7 (jc6 (wVar 7) jb8 (jb7 (wNeg (wC (.int (1))))))) jas) (sSeq (sApp 4 (w2 (wVar 7) (jam jav (jab (wVar 0) (jab (wB jfc (jab (wVar 7) aNil)) aNil))) gIxL)) (sApp 5 (jam jh5 (jab (wVar 1) (jab (w2 (jd5 5) (wNeg (wC (.int (1)))) gIxL) (jab (w2 (jd5 4) (wNeg (wC (.int (1)))) gIxL) aNil))))))))) (sFrz 5 (sFrz 4 (sRet (wTup (jab (wVar 4) (jab (wVar 5) aNil)))))))))
def jgm:DST:=(sSeq (jjw 3 (jka (wVar 2))) (sSeq (sOwn 4 (fLst aNil)) (sSeq (sFor (jcl (wVar 1)) (jai 5) (sSeq (sSet 6 (jam jcm (jab (wVar 0) aNil))) (sSeq (sIf (cT (w2 (w2 (wVar 5) (wC (.int (0))) gIx) (wC (.str "is")) gEq)) (sSet 6 (w2 (wVar 5) (wC (.int (1))) gIx)) (sIf (cT (w2 (w2 (wVar 5) (wC (.int (0))) gIx) (wTup (jab (wC (.str "word")) (jab (wC (.str "number")) aNil))) (gIn false))) (sSet 6 (w2 (jx6 "word" "ab" "number" 99) (w2 (wVar 5) (wC (.int (0))) gIx) jew)) (sIf (cT (w2 (w2 (wVar 5) (wC (.int (0))) gIx) (wTup (jab (wC (.str "bind")) (jab (wC (.str "as")) aNil))) (gIn false))) (sSeq (sSet 6 (jo5 (jb1 3) (w2 (wVar 5) (wC (.int (1))) gIx) (wVar 6))) (jlh 3 (w2 (wVar 5) (wC (.int (1))) gIx) (wVar 6))) jas))) (sApp 4 (wVar 6))))) (sFrz 4 (sRet (wB jby (jab (wVar 4) aNil)))))))
def jfm:DST:=(sSeq (sOwn 3 (jec (w2 (wVar 2) (wC (.int (1))) gIx))) (sSeq (sFor (jbe (wB gLen (jab (wVar 1) aNil))) (jai 4) (sSeq (sSet 5 (jam jck (jab (wVar 1) (jab (wVar 2) (jab (wVar 4) aNil))))) (sIf (cAnd (cT (w2 (wVar 5) (wC .none) (gIsN true))) (cAnd (cT (w2 (w2 (wVar 5) (wC (.int (0))) gIx) (wTup (jab (wC (.str "take")) (jab (wC (.str "read")) (jab (wC (.str "look")) aNil)))) (gIn false))) (cT (w2 (jam jav (jab (wVar 0) (jab (wC (.int (3))) aNil))) (wC (.int (0))) gGt)))) (sSeq (sSet 6 (wTup (jab (jam jqv (jab (wVar 0) (jab (w2 (wVar 5) (wC (.int (1))) gIx) (jab (w2 (w2 (w2 (wVar 2) (wC (.int (0))) gIx) (wVar 4) gIx) (wC (.int (2))) gIx) aNil)))) (jab (jam jmg (jab (wVar 0) aNil)) aNil)))) (sIns 3 (jam jav (jab (wVar 0) (jab (w2 (jjh 3) (wC (.int (1))) (gI0 λi j=>.int (i+j))) aNil))) (wVar 6))) jas))) (sFrz 3 (sRet (wTup (jab (w2 (wVar 2) (wC (.int (0))) gIx) (jab (wB jby (jab (wVar 3) aNil)) aNil)))))))
def jfo:DST:=(sRet (wTup (jab (wB jby (jab (wOf (jcf [none] (jcl (w2 (wVar 0) (wC (.int (0))) gIx)) (jai 0) cYes (wTup (jab (wC (.int (0))) (jab (wC (.int (0))) (jab (wTup aNil) aNil)))))) aNil)) (jab (w2 (wVar 0) (wC (.int (1))) gIx) aNil))))
def j72:DST:=(sSeq (sSet 2 (jam jqu (jab (wVar 1) aNil))) (sSeq (sSet 3 (w2 (wVar 2) (wC (.int (0))) gIx)) (sSeq (sFor (jbe (wC (.int (3)))) (jai 4) (sSeq (sSet 5 (jam jla (jab (wVar 2) aNil))) (sSeq (sIf (cT (w2 (jam jav (jab (wVar 1) (jab (wC (.int (2))) aNil))) (wC (.int (0))) gEq)) (sSet 5 (jam jk7 (jab (wVar 1) (jab (wVar 3) (jab (jam jk5 (jab (wVar 1) (jab (wVar 3) aNil))) aNil))))) jas) (sSeq (sUnp (jam jne (jab (wVar 1) (jab (wVar 3) (jab (wVar 5) (jab (wC (.int (24))) aNil))))) (jdc 2 (jax (jai 6) (jax (jai 7) jb5)))) (sSeq (sSet 8 (wB jw3 (jab (wVar 6) aNil))) (sSeq (sFor (jcl (wTup (jab (wVar 8) (jab (wB jby (jab (wVar 6) aNil)) (jab (wVar 8) aNil))))) (jai 9) (sIf (cOr (cT (w2 (wB jdd (jab (jam jc0 (jab (wVar 3) (jab (wVar 5) (jab (wVar 9) aNil)))) aNil)) (wB jdd (jab (w2 (wVar 7) (wNeg (wC (.int (1)))) gIx) aNil)) gNe)) (cT (w2 (wVar 8) (wVar 6) (gXX λd e=>some (!E4 d e))))) (sRet (wC (.bool false))) jas)) (sSeq (sSet 10 (jam jav (jab (wVar 1) (jab (w2 (wB gLen (jab (wVar 6) aNil)) (wC (.int (1))) (gI0 λi j=>.int (i+j))) aNil)))) (sSeq (sSet 11 (jam jc0 (jab (wVar 3) (jab (wVar 5) (jab (jc6 (wVar 6) jb8 (jb7 (wVar 10))) aNil))))) (sSeq (sIf (cOr (cT (w2 (wB jdd (jab (wVar 11) aNil)) (wB jdd (jab (w2 (wVar 7) (wVar 10) gIx) aNil)) gNe)) (cT (w2 (wB jdd (jab (jam jc0 (jab (wVar 3) (jab (wVar 11) (jab (jc6 (wVar 6) (jb7 (wVar 10)) jb8) aNil)))) aNil)) (wB jdd (jab (w2 (wVar 7) (wNeg (wC (.int (1)))) gIx) aNil)) gNe))) (sRet (wC (.bool false))) jas) (sIf (cT (w2 (wB jdd (jab (jam jc0 (jab (wVar 3) (jab (wVar 5) (jab (wOf (fLst aNil)) aNil)))) aNil)) (wB jdd (jab (wVar 5) aNil)) gNe)) (sRet (wC (.bool false))) jas)))))))))) (sRet (wC (.bool true))))))
theorem jln:∀ws n Q,S_ff ws n Q->ws.length=4:=λws n Q h=>by
 obtain⟨_,_,_,_,rfl,_⟩:=h;rfl
theorem jkr:∀ws n Q,S_ff ws n Q->jfi (ja3 ["field","value","having","bound","head"] ws) n {nx:=λ_ n=>Q (.d .none) n,rt:=Q}:=λws n Q h=>by
 obtain⟨f,v,hp,bp,rfl,fok,hv,hh,hb,k⟩:=h;show jfi [some (.w (.d f.d)),some (.w (.d v)),some (.w (.dk (txK hp))),some (.w (.dk (txK bp))),none] n {nx:=λ_ n=>Q (.d .none) n,rt:=Q};cases f with
 |is w =>
  show(match eqD w v with | some r=>Q (.d (.bool r)) n | none=>False);rw[jt4 (show isV w=true from fok) hv];exact k
 |any=>exact k
 |word =>
  show Q (.d (.bool (isiB "str" v))) n;cases v<;>exact k
 |number =>
  show Q (.d (.bool (isiB "int" v))) n;cases v<;>first | cases hv | exact k
 |as x =>
  show ji7 (.d (.bool (valD (txK hp) (.inr x)).isSome)) (match valD (txK hp) (.inr x)with | some d=>(match eqD d v with | some r=>Q (.d (.bool r)) n | none=>False) | none=>False) (Q (.d (.bool false)) n);rw[jek];unfold ffB at k;cases e:look hp x with
  |none =>
   simp only[e]at k;exact k
  |some w =>
   simp only[e]at k;show(match eqD w v with | some r=>Q (.d (.bool r)) n | none=>False);rw[jt4 (hh _ (jcw e)).2 hv];exact k
 |bind x =>
  show ji7 (.d (.bool (!(valD (txK bp) (.inr x)).isSome))) (Q (.d (.bool true)) n) (match valD (txK bp) (.inr x)with | some d=>(match eqD d v with | some r=>Q (.d (.bool r)) n | none=>False) | none=>False);rw[jek];unfold ffB at k;cases e:look bp x with
  |none =>
   simp only[e]at k;exact k
  |some w =>
   simp only[e]at k;show(match eqD w v with | some r=>Q (.d (.bool r)) n | none=>False);rw[jt4 (hb _ (jcw e)).2 hv];exact k
theorem jxa {p:Prop} [Decidable p] {A B:Prop} (h1:p->A) (h2:¬p->B):if decide p=true then A else B:=by
 by_cases z:p
 ·rw[if_pos (decide_eq_true z)];exact h1 z
 ·rw[if_neg (by rw[decide_eq_false z];exact Ag)];exact h2 z
theorem jnv:∀ps:Nm,jjy (ps.map jir)=some (txK ps)
 |[]=>rfl
 |p::r=>by
  show(jjy (r.map jir)).map _=_;rw[jnv r];rfl
theorem j2x {l:Nm} {x:Str} {v:Ad} (h:x∉l.map (·.1)):put l x v=l++[(x,v)]:=by
 unfold put;rw[if_neg λz=>by
  obtain⟨p,hp,e⟩:=Dj.mp z;exact h (Bo.mpr ⟨p,hp,of_decide_eq_true e⟩)]
theorem jja:∀(r l:Nm),((l++r).map (·.1)).Nodup->jer (txK l) (txK r)=txK (l++r)
 |[],l,_=>by rw[Bz];rfl
 |p::r,l,nd=>by
  have e:l++p::r=(l++[p])++r:=by simp
  show jer (putD (txK l) (.inr p.1) p.2) (txK r)=_;rw[jpl,j2x,e]
  ·exact jja r (l++[p]) (by rw[<-e];exact nd)
  ·intro z;rw[A9,Bi,List.nodup_append]at nd;exact nd.2.2 _ z _ A0 rfl
theorem jft {δ:Sl} {n:Int} {K:DEnds} {i j:Nat} {ps:Nm} (e:δ[j]?=some (some (.w (.d (ja0 ps))))) (ok:okN ps) (k:K.nx (δ.set i (some (.odk (txK ps)))) n):jjw i (jka (wVar j)) δ n K:=by
 unfold jjw jka;refine jad e ?_;unfold ja0;simp only[jnv];refine⟨by rw[Ab];have:=ok.1;omega,?_⟩;have:=jja ps [] (by rw[Ch];exact ok.2.1);rw[Ch]at this;rw[show([]:List (Key×Ad))=txK []from rfl,this];exact k
section
variable {δ:Sl} {n:Int} {K:DEnds} {W V:DST} {Q:DQ}
theorem j3y {i j n:Int} {Q:DQ} (k:Q (.d (.bool (!decide (i=j)))) n):gNe (.d (.int i)) (.d (.int j)) n Q:=k
theorem j1p {xs ys:List Ad} (e0:δ[0]?=some (some (.w (.d (.tuple xs))))) (e1:δ[1]?=some (some (.w (.d (.tuple ys))))) (hT:xs.length≠ys.length->W δ n K) (hF:xs.length=ys.length->V δ n K) :
  sIf (cT (w2 (wB gLen (jab (wVar 0) aNil)) (wB gLen (jab (wVar 1) aNil)) gNe)) W V δ n K:=by
 unfold sIf cT w2 wB jab aNil;refine jad e0 ?_;show wVar 1 δ n _;refine jad e1 ?_;dsimp only[gLen];refine j3y ?_;refine ifb (λh=>hT λz=>?_) λh=>hF ?_
 ·rw[z,decide_eq_true rfl]at h;cases h
 ·by_cases z:(xs.length:Int)=(ys.length:Int)
  ·exact Int.ofNat.inj z
  ·rw[decide_eq_false z]at h;cases h
theorem j8n {g:Fd} {v:Ad} {hp bp:Nm} (e5:δ[5]?=some (some (.w (.d g.d)))) (e6:δ[6]?=some (some (.w (.d v)))) (e3:δ[3]?=some (some (.odk (txK hp)))) (e4:δ[4]?=some (some (.odk (txK bp)))) (gok:g.ok) (hv:isV v=true) (hh:∀p∈hp,okV p) (hb:∀p∈bp,okV p)
  (hT:ffB g v hp bp=false->W δ n K) (hF:ffB g v hp bp=true->V δ n K):sIf (cNot (cT (jam S_ff (jab (wVar 5) (jab (wVar 6) (jab (jb1 3) (jab (jb1 4) aNil))))))) W V δ n K:=by
 unfold sIf cNot cT jam jab aNil;refine jad e5 ?_;refine jad e6 ?_;unfold jb1;simp only[e3,e4];refine⟨g,v,hp,bp,rfl,gok,hv,hh,hb,?_⟩;refine ifb (λh=>hT ?_) λh=>hF ?_
 ·cases q:ffB g v hp bp with | false=>rfl | true=>rw[q]at h;cases h
 ·cases q:ffB g v hp bp with | true=>rfl | false=>rw[q]at h;cases h
variable {xs:List Ad} {j:Nat} {a b v:Ad} {r:List Ad}
end
def Res (gs:List Fd) (vs:List Ad) (hp:Nm) (hs:List Str) (r:Ad):Prop:=match wk (gs.zip vs) hp hs with
 |none=>r=.none
 |some h=>r=ja0 (srtN h)
theorem j5p {g:Fd} {v:Ad} {gs:List Fd} {vs:List Ad} {hp bp:Nm} {hs:List Str} (h1:∀x,x∈hs↔(look bp x).isSome=true) (h2:∀x w,look bp x=some w->look hp x=some w) (h:ffB g v hp bp=false):Res (g::gs) (v::vs) hp hs .none:=by
 have key:wk ((g,v)::gs.zip vs) hp hs=none:=by
  cases g with
  |is w=>unfold wk;rw[if_neg (by rw[show eqB w v=false from h];exact Ag)]
  |any=>cases h
  |word=>unfold wk;rw[if_neg (by rw[show isSt v=false from h];exact Ag)]
  |number=>unfold wk;rw[if_neg (by rw[show isIn v=false from h];exact Ag)]
  |as x =>
   unfold wk;unfold ffB at h;cases q:look hp x with
   |none=>rfl
   |some w =>
    simp only[q]at h;simp only[h,Ce,if_false]
  |bind x =>
   unfold wk;unfold ffB at h;cases q:look bp x with
   |none=>simp only[q]at h;cases h
   |some w =>
    simp only[q]at h;rw[if_pos ((h1 x).mpr (by rw[q];rfl)),h2 x w q];simp only[h,Ce,if_false]
 unfold Res;rw[Gi,key]
theorem j4n {g:Fd} {v:Ad} {l:List (Fd×Ad)} {hp bp:Nm} {hs:List Str} (ng:∀x,g≠.bind x) (h:ffB g v hp bp=true):wk ((g,v)::l) hp hs=wk l hp hs:=by
 cases g with
 |is w=>rw[wk,if_pos (show eqB w v=true from h)]
 |any=>rw[wk]
 |word=>rw[wk,if_pos (show isSt v=true from h)]
 |number=>rw[wk,if_pos (show isIn v=true from h)]
 |as x =>
  rw[wk];unfold ffB at h;cases q:look hp x with
  |none=>simp only[q]at h;cases h
  |some w =>
   simp only[q]at h;simp only[h,if_true]
 |bind x=>exact absurd rfl (ng x)
def Fd.hd:Fd->Str
 |.is _=>"is"
 |.any=>"any"
 |.word=>"word"
 |.number=>"number"
 |.bind _=>"bind"
 |.as _=>"as"
def Fd.tl:Fd->List Ad
 |.is v=>[v]
 |.bind x=>[.str x]
 |.as x=>[.str x]
 |_=>[]
theorem Fd.parts (g:Fd):g.d=.tuple (.str g.hd::g.tl):=by cases g<;>rfl
theorem jhk (x:Str):∀hs:List Str,inD (.str x) (hs.map .str)=decide (x∈hs)
 |[]=>by simp[inD]
 |y::r=>by
  show(eqF (.str y) (.str x) || inD (.str x) (r.map .str))=_;rw[jhk x r];have e:eqF (.str y) (.str x)=decide (x=y):=by
   show(y==x)=_;by_cases z:x=y
   ·subst z;rw[decide_eq_true rfl];exact beq_self_eq_true _
   ·rw[decide_eq_false z];exact beq_eq_false_iff_ne.mpr λw=>z w.symm
  rw[e];by_cases z:x=y
  ·subst z;simp
  ·rw[decide_eq_false z,Bool.false_or];by_cases q:x∈r
   ·rw[decide_eq_true q,decide_eq_true (Au _ q)]
   ·rw[decide_eq_false q,decide_eq_false (by simp[z,q])]
theorem jzj {hp:Nm} (nd:(hp.map (·.1)).Nodup) {p:Str×Ad} (h:p∈hp):look hp p.1=some p.2:=by
 cases q:look hp p.1 with
 |none =>
  have a:=jjb hp p.1;rw[q]at a;have b:(hp.any λq=>decide (q.1=p.1))=true:=Dj.mpr ⟨p,h,decide_eq_true rfl⟩;rw[b]at a;cases a
 |some v =>
  have hm:=jcw q;obtain⟨i,hi⟩:=By.mp h;obtain⟨j,hj⟩:=By.mp hm;have a1:(hp.map (·.1))[i]?=some p.1:=by rw[Ay,hi];rfl
  have a2:(hp.map (·.1))[j]?=some p.1:=by rw[Ay,hj];rfl
  obtain⟨b1,b2⟩:=At.mp a1;obtain⟨c1,c2⟩:=At.mp a2;have:=(Er nd).mp (b2.trans c2.symm);rw[this,hj]at hi;have:=Ax hi;rw[<-this]
theorem j6a {δ:Sl} {n:Int} {K:DEnds} {i:Nat} (k:K.nx (δ.set i (some (.odk (txK [])))) n):jjw i kNil δ n K:=k
theorem jw4 {δ:Sl} {n:Int} {K:DEnds} {g:DTG} {W:DST} {xs ys:List Ad} (e0:δ[0]?=some (some (.w (.d (.tuple xs))))) (e1:δ[1]?=some (some (.w (.d (.tuple ys))))) (hl:xs.length=ys.length) (k:forD g W K (zipD xs ys) δ n):sFor (jwy (wVar 0) (wVar 1)) g W δ n K:=by
 unfold sFor jwy;exact jad e0 (jad e1 ⟨hl,k⟩)
theorem jzn:∀ws n Q,jk9 ws n Q->ws.length=3:=λws n Q h=>by
 obtain⟨_,_,_,rfl,_⟩:=h;rfl
abbrev zqy1:List Str:=["pattern","row","names","having","bound","field","value"]
theorem jxs:∀ws n Q,jk9 ws n Q->jte (ja3 zqy1 ws) n {nx:=λ_ n=>Q (.d .none) n,rt:=Q}:=λws n Q h=>by
 obtain⟨fs,row,nm,rfl,okp,okr,okn,k0⟩:=h;have k:∀r,Fit fs row nm r->Q (.d r) n:=λr hr=>by rw[j7f hr];exact k0
 show jte [some (.w (.d (patD fs))),some (.w (.d (.tuple row))),some (.w (.d (ja0 nm))),none,none,none,none] n {nx:=λ_ n=>Q (.d .none) n,rt:=Q};unfold jte;refine jaj (j1p (xs:=fs.map Fd.d) (ys:=row) rfl rfl (λne=>?_) λel=>?_)
 ·show Q (.d .none) n;refine k .none ?_;unfold Fit;rw[Ab]at ne;rw[if_neg ne]
 ·rw[Ab]at el;dsimp only[jas];refine jaj (jft rfl okn ?_);dsimp only[Ao];refine jaj (j6a ?_);dsimp only[Ao];refine jaj (jw4 (xs:=fs.map Fd.d) (ys:=row) rfl rfl (by rw[Ab];exact el) ?_);refine jbj (λds δ m=>m=n/\∃(gs:List Fd) (vs:List Ad) (hp bp:Nm) (hs:List Str) (y z:Option SV),ds=zipD (gs.map Fd.d) vs/\gs.length=vs.length/\δ=[some (.w (.d (patD fs))),some (.w (.d (.tuple row))),some (.w (.d (ja0 nm))),some (.odk (txK hp)),some (.odk (txK bp)),y,z] /\
   (∀g∈gs,g.ok)/\(∀d∈vs,isV d=true)/\(hp.map (·.1)).Nodup/\(∀p∈hp,okV p)/\(∀p∈bp,okV p)/\hp.length+gs.length<=48/\bp.length+gs.length<=48/\(∀x,x∈hs↔(look bp x).isSome=true)/\(∀x w,look bp x=some w->look hp x=some w)/\∀r,Res gs vs hp hs r->Q (.d r) n) ?_ ?_ _ _ _ ?_
  ·rintro δ m ⟨rfl,gs,vs,hp,bp,hs,y,z,e,hl,rfl,gok,vok,nd,hok,bok,l1,l2,i1,i2,kq⟩
   have:gs=[]:=by
    cases gs with
    |nil=>rfl
    |cons g gs=>cases vs with | nil=>cases hl | cons v vs=>cases e
   subst this;rw[List.length_nil]at l1;show ∃ps':Nm,txK hp=txK ps'/\_;refine⟨hp,rfl,by omega,nd,λp hp'=>⟨A5 (hok p hp').1.1 (by decide),j1s (hok p hp').2⟩,λps' p1 r1=>?_⟩;exact kq (.tuple (ps'.map jir)) (by show PyData.tuple (ps'.map jir)=ja0 (srtN hp);rw[j0y nd p1 r1];rfl)
  ·rintro d r δ m N ⟨rfl,gs,vs,hp,bp,hs,y,z,e,hl,rfl,gok,vok,nd,hok,bok,l1,l2,i1,i2,kq⟩ hN
   cases gs with
   |nil=>cases e
   |cons g gs =>
    cases vs with
    |nil=>cases hl
    |cons v vs =>
     have e1:d=.tuple [g.d,v]:=by have:=congrArg (λl=>l.head?) e;simpa[zipD]using this
     have e2:r=zipD (gs.map Fd.d) vs:=by have:=congrArg List.tail e;simpa[zipD]using this
     subst e1 e2;rw[Ar]at l1 l2;rw[Ar,Ar]at hl;have gk:=gok g A0;have vk:=vok v A0;refine⟨rfl,?_⟩;dsimp only[jax,jai,jb5,Ao];refine jaj (j8n rfl rfl rfl rfl gk vk hok bok (λff=>?_) λff=>?_)
     ·exact kq .none (j5p i1 i2 ff)
     ·dsimp only[jas];have go:(∀x,g≠.bind x)->N [some (.w (.d (patD fs))),some (.w (.d (.tuple row))),some (.w (.d (ja0 nm))),some (.odk (txK hp)),some (.odk (txK bp)),some (.w (.d g.d)),some (.w (.d v))] m:=λng=>by
       refine hN _ _ ⟨rfl,gs,vs,hp,bp,hs,_,_,rfl,by omega,rfl,λg hg=>gok g (Au _ hg),λd hd=>vok d (Au _ hd),nd,hok,bok,by omega,by omega,i1,i2,λr hr=>kq r ?_⟩;unfold Res at hr ⊢;rw[Gi,j4n ng ff];exact hr
      cases g with
      |is w=>exact go λx z=>nomatch z
      |any=>exact go λx z=>nomatch z
      |word=>exact go λx z=>nomatch z
      |number=>exact go λx z=>nomatch z
      |as x=>exact go λx z=>nomatch z
      |bind x =>
       refine j3q (a:=.str "bind") (r:=[.str x]) rfl je6 ?_;show(txK bp).length < 1000/\(txK hp).length < 1000/\N [some (.w (.d (patD fs))),some (.w (.d (.tuple row))),some (.w (.d (ja0 nm))),some (.odk (putD (txK hp) (.inr x) v)),some (.odk (putD (txK bp) (.inr x) v)),some (.w (.d (Fd.d (.bind x)))),some (.w (.d v))] m;rw[jpl,jpl];refine⟨by unfold txK;rw[Ab];omega,by unfold txK;rw[Ab];omega,?_⟩;have p1:=jjx hp x v;have p2:=jjx bp x v;refine hN _ _ ⟨rfl,gs,vs,put hp x v,put bp x v,if x∈hs then hs else hs++[x],_,_,rfl,by omega,rfl,λg hg=>gok g (Au _ hg),λd hd=>vok d (Au _ hd),jvx nd,jmv hok gk vk,jmv bok gk vk,by omega,by omega,λy=>?_,λy w hw=>?_,λr hr=>kq r ?_⟩
       ·by_cases q:y=x
        ·subst q;rw[jgx];refine⟨λ_=>rfl,λ_=>?_⟩
         split
         ·assumption
         ·exact Bc _ (Bd.mpr rfl)
        ·rw[jj4 q,<-i1]
         split
         ·exact Iff.rfl
         ·simp[q]
       ·by_cases q:y=x
        ·subst q;rw[jgx]at hw ⊢;exact hw
        ·rw[jj4 q]at hw ⊢;exact i2 y w hw
       ·unfold Res at hr ⊢;rw[Gi,wk];by_cases q:x∈hs
        ·rw[if_pos q]at hr ⊢;cases lb:look bp x with
         |none=>rw[i1,lb]at q;cases q
         |some w =>
          have lh:=i2 x w lb;unfold ffB at ff;simp only[lb]at ff;have wv:w=v:=j7i (bok _ (jcw lb)).2 vk ff;subst wv;rw[jy0 nd lh]at hr;simp only[lh,ff,if_true];exact hr
        ·rw[if_neg q]at hr ⊢;exact hr
  ·refine⟨rfl,fs,row,nm,[],[],none,none,rfl,el,rfl,okp.2.2,okr.2,okn.2.1,okn.2.2,λ_ z=>absurd z Aw,by have:=okp.2.1;have:=okn.1;omega,by have:=okp.2.1;simp;omega,λx=>⟨λz=>absurd z Aw,λz=>by cases z⟩,λx w z=>(nomatch z),λr hr=>k r ?_⟩;unfold Fit;rw[if_pos el];exact hr
theorem jlo:∀ws n Q,jcm ws n Q->ws.length=1:=λws n Q h=>by obtain⟨rfl,_⟩:=h;rfl
abbrev zqb:List Str:=["_law_tape_here"]
theorem jks:∀ws n Q,jcm ws n Q->jfj (ja3 zqb ws) n {nx:=λ_ n=>Q (.d .none) n,rt:=Q}:=λws n Q h=>by
 obtain⟨rfl,hn,k⟩:=h;show jfj [some (.w .tp)] n _;refine jbf (w2_i (of_i (Am (by decide) ?_)));dsimp only;refine jfd (m:=8) rfl (by omega) (by decide) (by decide) λr h0 h1=>jwr (ds:=[.str "a",.int 0,.str "a",.int 1,.str "ab",.str "go",.int 99,.int 0]) h0 h1 λd hd=>k d ?_;simp only[As,Aw,or_false]at hd;rcases hd with rfl | rfl | rfl | rfl | rfl | rfl | rfl | rfl<;>simp[jx8]
theorem jn4:∀ws n Q,jf6 ws n Q->ws.length=1:=λws n Q h=>by obtain⟨rfl,_⟩:=h;rfl
theorem jmc:∀ws n Q,jf6 ws n Q->jgj (ja3 zqb ws) n {nx:=λ_ n=>Q (.d .none) n,rt:=Q}:=λws n Q h=>by
 obtain⟨rfl,hn,k⟩:=h;show jgj [some (.w .tp)] n _;refine jbf (w2_i (of_i (Am (by decide) ?_)));dsimp only;refine jfd (m:=7) rfl (by omega) (by decide) (by decide) λr h0 h1=>jwr (ds:=[.int 1,.int 2,.int 2,.int 2,.int 1,.int 3,.int 4]) h0 h1 λd hd=>?_;simp only[As,Aw,or_false]at hd;rcases hd with rfl | rfl | rfl | rfl | rfl | rfl | rfl
 ·exact k 1 (by decide) (by decide)
 ·exact k 2 (by decide) (by decide)
 ·exact k 2 (by decide) (by decide)
 ·exact k 2 (by decide) (by decide)
 ·exact k 1 (by decide) (by decide)
 ·exact k 3 (by decide) (by decide)
 ·exact k 4 (by decide) (by decide)
theorem j5o {δ:Sl} {n:Int} {K:DEnds} {W:DST} {g:DTG} (e:δ[0]?=some (some (.w .tp))) (hn:n < 2 ^ 39) (k:∀m:Nat,1<=m->m<=4->forD g W K (rngD 0 m) δ (n+1)):sFor (jbe (jam jf6 (jab (wVar 0) aNil))) g W δ n K:=by
 unfold sFor jbe;refine c1_i (jad e (Am rfl ⟨hn,λm h1 h4=>?_⟩));refine Am ⟨by omega,by omega⟩ ?_;rw[Bp];exact k m h1 h4
theorem jrt {c:DTT} {w:DT} {Q:List Ad->Int->Prop} {rest:Sl} (g:Fe->Option Ad) (hno:∀(f:Fe) (n:Int) (Q':Bool->Int->Prop),g f=none->Q' false n->c (some (.w (.d f.d))::rest) n Q')
  (hyes:∀(f:Fe) (n:Int) (Q':Bool->Int->Prop) (y:Ad),g f=some y->Q' true n->c (some (.w (.d f.d))::rest) n Q') (hw:∀(f:Fe) (n:Int) (Q':DQ) (y:Ad),g f=some y->Q' (.d y) n->w (some (.w (.d f.d))::rest) n Q') :
  ∀(fs:List Fe) (acc:List Ad) (x:Option SV) (n:Int),Q (acc++fs.filterMap g) n->jcj (jai 0) c w Q (fs.map Fe.d) acc (x::rest) n
 |[],acc,x,n,q=>by
  rw[List.filterMap_nil,Bz]at q;exact q
 |f::r,acc,x,n,q=>by
  rw[Bi];simp only[jcj,jai,Ea];cases e:g f with
  |none =>
   refine hno f n _ e ?_;rw[if_neg Ag];refine jrt g hno hyes hw r acc _ n ?_;rw[List.filterMap_cons_none e]at q;exact q
  |some y =>
   refine hyes f n _ y e ?_;rw[if_pos rfl];refine hw f n _ y e ?_;refine jrt g hno hyes hw r (acc++[y]) _ n ?_;rw[List.filterMap_cons_some e]at q;rw[Bn];exact q
def strO (o:Option Str):Option Ad:=o.map .str
theorem jyf (g:Fe->Option Str) (fs:List Fe):fs.filterMap (λf=>strO (g f))=(fs.filterMap g).map .str:=by
 rw[List.map_filterMap];rfl
theorem j88 (f:Fe):jat "bind" (.str f.hd)=f.bd.isSome:=by
 cases f with
 |any=>exact(show jat "bind" (.str "any")=false by decide +kernel)
 |word=>exact(show jat "bind" (.str "word")=false by decide +kernel)
 |num=>exact(show jat "bind" (.str "number")=false by decide +kernel)
 |isv _=>exact(show jat "bind" (.str "is")=false by decide +kernel)
 |bind _=>exact(show jat "bind" (.str "bind")=true by decide +kernel)
 |as _=>exact(show jat "bind" (.str "as")=false by decide +kernel)
 |nx _=>exact(show jat "bind" (.str "next")=false by decide +kernel)
theorem j87 {f:Fe} {k:Str} (h:f.bd=some k):f.d=.tuple [.str f.hd,.str k]:=by
 cases f<;>cases h;rfl
theorem jpd {o:Option Str} {y:Ad} (h:strO o=some y):∃k,o=some k/\y=.str k:=by
 cases o with
 |none=>cases h
 |some k=>cases h;exact⟨k,rfl,rfl⟩
theorem ju5 {o:Option Str} (h:strO o=none):o=none:=by
 cases o with
 |none=>rfl
 |some k=>cases h
theorem jze {fs:List Fe} (h:okFs fs):∀k∈bndE fs,okK k:=λk hk=>by
 obtain⟨f,hf,e⟩:=Gj.mp hk;have:=h.2 f hf;cases f<;>cases e;exact this
theorem jzk {fs:List Fe} (h:okFs fs):(bndE fs).length<=4:=A5 (List.length_filterMap_le _ _) h.1
theorem j6y {δ:Sl} {n:Int} {Q:DQ} {a b:Ad} (e:δ[0]?=some (some (.w (.d (.tuple [a,b]))))) (k:Q (.d b) n):w2 (wVar 0) (wC (.int 1)) gIx δ n Q:=jcp (r:=[]) e k
theorem j10 {f:Fe} {rest:Sl} {n:Int} {Q':Bool->Int->Prop} (k:Q' f.bd.isSome n):cT (w2 (w2 (wVar 0) (wC (.int 0)) gIx) (wC (.str "bind")) gEq) (some (.w (.d f.d))::rest) n Q':=by
 refine jt3 (i:=0) (a:=.str f.hd) (r:=f.tl) rfl ?_;show Q' (jat "bind" (.str f.hd)) n;rw[j88];exact k
theorem jt9 {Q:List Ad->Int->Prop} (fs:List Fe) (n:Int) (k:Q ((bndE fs).map .str) n) :
  jcj (jai 0) (cT (w2 (w2 (wVar 0) (wC (.int 0)) gIx) (wC (.str "bind")) gEq)) (w2 (wVar 0) (wC (.int 1)) gIx) Q (fs.map Fe.d) [] [none] n:=by
 refine jrt (λf=>strO f.bd) (λf n Q' e q=>j10 ?_) (λf n Q' y e q=>j10 ?_) (λf n Q' y e q=>?_) fs [] none n ?_
 ·rw[ju5 e];exact q
 ·obtain⟨x,e1,_⟩:=jpd e;rw[e1];exact q
 ·obtain⟨x,e1,rfl⟩:=jpd e;exact j6y (by rw[j87 e1];rfl) q
 ·rw[jyf];exact k
theorem j61 {δ:Sl} {n:Int} {hs:List Str} {w:DT} {s:Str} {b:Bool} {Q:Bool->Int->Prop} (hw:∀Q:DQ,Q (.d (.str s)) n->w δ n Q) (e:inD (.str s) (hs.map .str)=b) (q:Q b n):cT (wInG hs w) δ n Q:=hw _ (Am rfl (by show Q (inD (.str s) (hs.map .str)) n;rw[e];exact q))
theorem j4i {a:Ac} (h:okFs a.fs):(∀k∈a.bs,okK k)/\a.bs.length<=4:=by
 cases a with
 |take fs=>exact⟨jze h,jzk h⟩
 |read fs=>exact⟨jze h,jzk h⟩
 |look fs b=>exact⟨jze h,jzk h⟩
 |lay fs b=>exact⟨λk hk=>by simp[Ac.bs]at hk,by simp[Ac.bs]⟩
 |same f g b=>exact⟨λk hk=>by simp[Ac.bs]at hk,by simp[Ac.bs]⟩
 |go b=>exact⟨λk hk=>by simp[Ac.bs]at hk,by simp[Ac.bs]⟩
theorem jj1:∀{ys ks:List Str},ys.Nodup->(∀k∈ys,k∈ks)->ys.length<=ks.length
 |[],_,_,_=>Bm _
 |y::ys,ks,h,hs=>by
  obtain⟨h1,h2⟩:=Dr.mp h;have hm:=hs y A0;have:=jj1 (ks:=ks.erase y) h2 λk hk=>(List.mem_erase_of_ne (λ(e:k=y)=>h1 (e▸hk))).mpr (hs k (Au _ hk));rw[List.length_erase_of_mem hm]at this;have:=List.length_pos_of_mem hm;rw[Ar];omega
structure KnI (w:List Str) (dn:List Ac) (L:List Str):Prop where
 mem:∀k,k∈L↔k∈w++dn.flatMap Ac.bs
 len:L.length<=4+4*dn.length
 ok:∀k∈L,okK k
theorem KnI.first {w:List Str} (h:w.length<=4) (ok:∀k∈w,okK k):KnI w [] w:=⟨λk=>by simp,by simpa using h,ok⟩
theorem KnI.skip {w L:List Str} {dn:List Ac} {a:Ac} (I:KnI w dn L) (e:a.bs=[]):KnI w (dn++[a]) L :=
 ⟨λk=>by rw[I.mem k,Gg];simp[e],by rw[Ah,Aq];have:=I.len;omega,I.ok⟩
theorem KnI.more {w L ys:List Str} {dn:List Ac} {a:Ac} (I:KnI w dn L) (h:∀k,k∈ys↔k∈a.bs) (hl:ys.length<=4) (ok:okFs a.fs):KnI w (dn++[a]) (L++ys) :=
 ⟨λk=>by rw[A8,I.mem k,h k,Gg,<-Bn];simp[or_assoc],by rw[Ah,Ah,Aq];have:=I.len;omega,λk hk=>by
  rcases A8.mp hk with z | z
  ·exact I.ok k z
  ·exact(j4i ok).1 k ((h k).mp z)⟩
theorem jmi {v:Ad} (h:v∈jx8):isV v=true:=by
 simp only[jx8,As,Aw,or_false]at h;rcases h with rfl | rfl | rfl | rfl | rfl | rfl<;>decide +kernel
theorem j85 {v:Wv} {a b:List Ad} {n:Int} {Q:DQ} (hv:lsOf v=some a) (hl:a.length+b.length<=A1) (q:Q (.d (.list (a++b))) n):gCat v (.ln b) n Q:=by
 unfold gCat;rw[hv];exact⟨hl,q⟩
theorem j9a {δ:Sl} {n:Int} {Q:DQ} (e0:δ[0]?=some (some (.w .tp))) (h:n < 2 ^ 39) (k:∀v∈jo0,Q (.d v) (n+1)):w2 (wTp3 0) (jam jav (jab (wVar 0) (jab (wB jfc (jab (wTp3 0) aNil)) aNil))) gIxL δ n Q:=by
 have ht:∀(n:Int) (Q:DQ),Q (.ln jo0) n->wTp3 0 δ n Q:=λn Q q=>by unfold wTp3;rw[e0];exact q
 exact w2_i (ht _ _ (jd3 (m:=7) e0 (λQ q=>b1_i (ht _ _ q)) (by omega) (by decide) (by decide) λr h0 h1=>jrk h0 h1 k))
theorem j0j (f:Fe) (r:List Fe):bndE (f::r)=f.bd.toList++bndE r:=by cases f<;>rfl
theorem j0i (fs:List Fe) (f:Fe):bndE (fs++[f])=bndE fs++f.bd.toList:=by
 unfold bndE;rw[List.filterMap_append];cases f<;>rfl
theorem jra:∀{fs:List Fe} {ks:List Str} {f:Fe},rF ks fs->(∀k,f.us=some k->k∈ks++bndE fs)->rF ks (fs++[f])
 |[],ks,f,_,h=>⟨λk hk=>by simpa[bndE]using h k hk,trivial⟩
 |g::r,ks,f,h1,h2=>⟨h1.1,jra h1.2 λk hk=>by
  have:=h2 k hk;rw[j0j,<-Bn]at this;exact this⟩
theorem jnz {f:Ad} {ks:List Str} (h:f∈ks.map .str):∃s∈ks,f=.str s:=by
 obtain⟨s,hs,rfl⟩:=Bo.mp h;exact⟨s,hs,rfl⟩
def PatI (kv:Wv) (ks:List Str) (n0:Int) (ds:List Ad) (δ:Sl) (n:Int):Prop:=∃(fs:List Fe) (x y z u:Option SV),δ=[some (.w .tp),some (.w kv),some (.own (fs.map Fe.d)),some (.own ((bndE fs).map .str)),x,y,z,u]/\1<=fs.length+ds.length/\fs.length+ds.length<=4/\(∀f∈fs,f.ok/\f.pt=true)/\rF ks fs/\n+2*(ds.length:Int)<=n0+9
theorem jiu:∀ws n Q,jqx ws n Q->ws.length=2:=λws n Q h=>by obtain⟨_,_,rfl,_⟩:=h;rfl
abbrev zqz:List Str:=["_law_tape_here","_law_known_here","_law_fields","_law_bound","_law_k","_law_way","_law_some","_law_name"]
theorem jhx:∀ws n Q,jqx ws n Q->jdv (ja3 zqz ws) n {nx:=λ_ n=>Q (.d .none) n,rt:=Q}:=λws n0 Q h=>by
 obtain⟨ks,kv,rfl,hkv,hks,hok,hn0,k⟩:=h;show jdv [some (.w .tp),some (.w kv),none,none,none,none,none,none] n0 _;refine jaj (jc8 ?_);dsimp only[Ao];refine jaj (jc8 ?_);dsimp only[Ao];refine jaj (j5o rfl (by omega) λm h1 h4=>?_);refine jbj (PatI kv ks n0) (λδ n I=>?_) (λd r δ n N I kN=>?_) _ _ _ ⟨[],none,none,none,none,rfl,by rw[jbv];simpa using h1,by rw[jbv];simpa using h4,λf hf=>(by simp at hf),trivial,by rw[jbv];omega⟩
 ·obtain⟨fs,x,y,z,u,rfl,hf1,hf,hfo,hr,hn⟩:=I;dsimp only;refine jgd rfl ?_;dsimp only[Ao];refine jgd rfl ?_;dsimp only[Ao];exact jbf (jb2 (b1_i (jad rfl (jji (jad rfl (Am (show 2<=1000 by decide) (k fs n (by simpa using hf1) ⟨by simpa using hf,λf z=>(hfo f z).1⟩ (λf z=>(hfo f z).2) hr (by simpa using hn))))))))
 ·obtain⟨fs,x,y,z,u,rfl,hf1,hf,hfo,hr,hn⟩:=I;rw[Ar]at hf1 hf hn;dsimp only[jai,Ao];have hfl:(fs.map Fe.d).length < 1000000:=by rw[Ab];omega
  have hbl:(bndE fs).length<=4:=A5 (List.length_filterMap_le _ _) (by omega);have hbo:∀s∈ks++bndE fs,okK s:=λs hs=>(A8.mp hs).elim (hok s) λz=>jze (fs:=fs) ⟨by omega,λf z=>(hfo f z).1⟩ s z;have nxt:∀(f:Fe) (n':Int) (y z u:Option SV) (B:List Ad),f.ok/\f.pt=true->(∀k,f.us=some k->k∈ks++bndE fs)->n'<=n+2->B=(bndE fs).map .str++f.bd.toList.map .str->N [some (.w .tp),some (.w kv),some (.own (fs.map Fe.d++[f.d])),some (.own B),some (.w (.d d)),y,z,u] n':=λf n' y z u B fo fu hn' hB =>
   kN _ _ ⟨fs++[f],some (.w (.d d)),y,z,u,by rw[hB,A9,j0i,A9];rfl,by rw[Ah,Aq];omega,by rw[Ah,Aq];omega,λg hg=>(A8.mp hg).elim (hfo g) λz=>by rw[Bd]at z;subst z;exact fo,jra hr fu,by omega⟩
  have nxtN:∀(f:Fe) (n':Int) (y z u:Option SV),f.bd=none->f.ok/\f.pt=true->(∀k,f.us=some k->k∈ks++bndE fs)->n'<=n+2->N [some (.w .tp),some (.w kv),some (.own (fs.map Fe.d++[f.d])),some (.own ((bndE fs).map .str)),some (.w (.d d)),y,z,u] n':=λf n' y z u fb fo fu hn' =>
   nxt f n' y z u _ fo fu hn' (by rw[fb];exact(Bz _).symm)
  refine jaj (jvj (m:=9) rfl (by omega) (by decide) (by decide) λw w0 w1=>?_);dsimp only[Ao];refine jaj (ja6 (x:=.list (ks.map .str++(bndE fs).map .str)) (λQ q=>w2_i (jad rfl (jm2 rfl (j85 hkv (js4 (by rw[Ab];omega) (by rw[Ab];omega)) q)))) ?_);dsimp only[Ao];refine iflt rfl (λhw=>?_) (λhw=>?_)
  ·refine jkz rfl (jb2 (c_i (c1_i (jad rfl (Am rfl ⟨by omega,λv hv=>?_⟩)))));exact Am (show 2<=1000 by decide) (Am hfl (nxtN (.isv v) _ _ _ _ rfl ⟨jmi hv,rfl⟩ (λk hk=>by cases hk) (by omega)))
  ·refine iflt rfl (λhw6=>?_) (λhw6=>?_)
   ·refine jkz rfl (w2_i (of_i (Am (by decide) (Am (by decide) (Am (by decide) (Am (by decide) ?_))))));dsimp only;refine w2_i (jad rfl (c_i ?_));dsimp only[gI0];refine jci (ds:=[.tuple [.str "any"],.tuple [.str "word"],.tuple [.str "number"]]) (r:=w - 3) (by omega) (show w - 3 < 3 by omega) λf hf'=>?_;simp only[As,Aw,or_false]at hf';rcases hf' with rfl | rfl | rfl
    ·exact Am hfl (nxtN .any _ _ _ _ rfl ⟨trivial,rfl⟩ (λk hk=>by cases hk) (by omega))
    ·exact Am hfl (nxtN .word _ _ _ _ rfl ⟨trivial,rfl⟩ (λk hk=>by cases hk) (by omega))
    ·exact Am hfl (nxtN .num _ _ _ _ rfl ⟨trivial,rfl⟩ (λk hk=>by cases hk) (by omega))
   ·have bind:∀(K:DEnds) (L:List Ad),(∀δ n,N δ n->K.nx δ n)->sSeq (sSet 7 (w2 (wOf (fLst (jab (wC (.str "n")) (jab (wC (.str "nm")) (jab (wC (.str "go")) (jab (wC (.str "m")) aNil)))))) (jam jav (jab (wVar 0) (jab (wC (.int (4))) aNil))) gIxL)) (sSeq (sApp 3 (wVar 7)) (sApp 2 (wTup (jab (wC (.str "bind")) (jab (wVar 7) aNil)))))
      [some (.w .tp),some (.w kv),some (.own (fs.map Fe.d)),some (.own ((bndE fs).map .str)),some (.w (.d d)),some (.w (.d (.int w))),some (.w (.d (.list L))),u] (n+1) K:=λK L hK=>by
     refine jaj (show w2 _ _ _ _ _ _ from w2_i (of_i (Am (by decide) ?_)));dsimp only;refine jfd (m:=4) rfl (by omega) (by decide) (by decide) λr r0 r1=>jci (ds:=[.str "n",.str "nm",.str "go",.str "m"]) r0 r1 λf hf'=>?_;have:∃s:Str,f=.str s/\okK s:=by
      simp only[As,Aw,or_false]at hf';rcases hf' with rfl | rfl | rfl | rfl<;>exact⟨_,rfl,by decide +kernel,by decide +kernel⟩
     obtain⟨s,rfl,so⟩:=this;dsimp only[Ao];refine jaj (jrx rfl (λQ q=>jad rfl q) (by rw[Ab];omega) ?_);dsimp only[Ao];refine jrx (x:=.tuple [.str "bind",.str s]) rfl (λQ q=>jb2 (c_i (jad rfl (Am (show 2<=1000 by decide) q)))) hfl (hK _ _ ?_);exact nxt (.bind s) (n+1+1) _ _ _ _ ⟨so,rfl⟩ (λk hk=>by cases hk) (by omega) rfl
    by_cases hw8:w < 8
    ·refine if_y (λQ q=>jt8 (λQ q=>ct_b (k:=true) (λQ q=>w2_i (jad rfl (c_i ?_))) q) q) (bind _ _ λ_ _ z=>z);show Q (.d (.bool (decide (w < 8)))) _;rw[decide_eq_true hw8];exact q
    ·have hmem:∀f∈ks.map Da++(bndE fs).map Da,∃s∈ks++bndE fs,f=.str s:=λf hf=>jnz (by rw[A9];exact hf);have hlen:(ks.map Da++(bndE fs).map Da).length<=2000:=by rw[Ah,Ab,Ab];omega
     generalize(ks.map Da++(bndE fs).map Da)=L at hmem hlen;cases L with
     |nil =>
      refine if_y (λQ q=>jhu (λQ q=>ct_b (k:=false) (λQ q=>w2_i (jad rfl (c_i ?_))) q) (ct_b (k:=true) (λQ q=>w2_i (jad rfl (of_i (Am (Bm _) q)))) q)) (bind _ _ λ_ _ z=>z);show Q (.d (.bool (decide (w < 8)))) _;rw[decide_eq_false hw8];exact q
     |cons a l =>
      refine if_n (λQ q=>jhu (λQ q=>ct_b (k:=false) (λQ q=>w2_i (jad rfl (c_i ?_))) q) (ct_b (k:=false) (λQ q=>w2_i (jad rfl (of_i (Am (Bm _) q)))) q)) ?_
      ·show Q (.d (.bool (decide (w < 8)))) _;rw[decide_eq_false hw8];exact q
      ·refine jkz rfl (jb2 (c_i (w2_i (jad rfl ?_))));refine jd3 (m:=(a::l).length) rfl (λQ q=>b1_i (jad rfl q)) (by omega) (by rw[Ar];omega) (by omega) λr r0 r1=>jci r0 r1 λf hf'=>?_;obtain⟨s,hs,rfl⟩:=hmem f hf';exact Am (show 2<=1000 by decide) (Am hfl (nxtN (.as s) _ _ _ _ rfl ⟨hbo s hs,rfl⟩ (λk hk=>by cases hk;exact hs) (by omega)))
theorem jxx {v:Ad} (h:v∈jo0):jj0 v:=by
 simp only[jo0,As,Aw,or_false]at h;rcases h with rfl | rfl | rfl | rfl | rfl | rfl | rfl<;>first | exact .inl rfl | exact .inr ⟨_,rfl,by decide,by decide⟩
theorem jpx:∀ws n Q,jmg ws n Q->ws.length=1:=λws n Q h=>by obtain⟨rfl,_⟩:=h;rfl
theorem joy:∀ws n Q,jmg ws n Q->jh2 (ja3 zqb ws) n {nx:=λ_ n=>Q (.d .none) n,rt:=Q}:=λws n Q h=>by
 obtain⟨rfl,hn,k⟩:=h;show jh2 [some (.w .tp)] n _;exact jbf (j9a rfl hn k)
theorem j4f {δ:Sl} {n:Int} {Q:DQ} (e0:δ[0]?=some (some (.w .tp))) (h:n < 2 ^ 39) (k:∀v∈jo0,Q (.d v) (n+1)):jam jmg (jab (wVar 0) aNil) δ n Q:=c1_i (jad e0 ⟨rfl,h,k⟩)
def TemI (ks:List Str) (n0:Int) (ds:List Ad) (δ:Sl) (n:Int):Prop:=∃(fs:List Fe) (x y:Option SV),δ=[some (.w .tp),some (.w (.ln (ks.map .str))),some (.own (fs.map Fe.d)),x,y]/\fs.length+ds.length<=4/\(∀f∈fs,f.ok/\f.tm=true)/\rF ks fs/\n+2*(ds.length:Int)<=n0+9
theorem jhh:∀ws n Q,jqw ws n Q->ws.length=2:=λws n Q h=>by obtain⟨_,rfl,_⟩:=h;rfl
abbrev zqr1:List Str:=["_law_tape_here","_law_known_here","_law_fields","_law_k","_law_way"]
theorem jg4:∀ws n Q,jqw ws n Q->jdg (ja3 zqr1 ws) n {nx:=λ_ n=>Q (.d .none) n,rt:=Q}:=λws n0 Q h=>by
 obtain⟨ks,rfl,hks,hok,hn0,k⟩:=h;show jdg [some (.w .tp),some (.w (.ln (ks.map .str))),none,none,none] n0 _;refine jaj (jc8 ?_);dsimp only[Ao];refine jaj (j5o rfl (by omega) λm h1 h4=>?_);refine jbj (TemI ks n0) (λδ n I=>?_) (λd r δ n N I kN=>?_) _ _ _ ⟨[],none,none,rfl,by rw[jbv];simpa using h4,λf hf=>(by simp at hf),trivial,by rw[jbv];omega⟩
 ·obtain⟨fs,x,y,rfl,hf,hfo,hr,hn⟩:=I;dsimp only;refine jgd rfl ?_;dsimp only[Ao];exact jbf (b1_i (jad rfl (jji (k fs n ⟨by simpa using hf,λf z=>(hfo f z).1⟩ (λf z=>(hfo f z).2) hr (by simpa using hn)))))
 ·obtain⟨fs,x,y,rfl,hf,hfo,hr,hn⟩:=I;rw[Ar]at hf hn;dsimp only[jai,Ao];have hfl:(fs.map Fe.d).length < 1000000:=by rw[Ab];omega
  have nxt:∀(f:Fe) (n':Int) (y:Option SV),f.ok/\f.tm=true->(∀k,f.us=some k->k∈ks)->n'<=n+2->N [some (.w .tp),some (.w (.ln (ks.map .str))),some (.own (fs.map Fe.d++[f.d])),some (.w (.d d)),y] n':=λf n' y fo fu hn' =>
   kN _ _ ⟨fs++[f],some (.w (.d d)),y,by rw[A9];rfl,by rw[Ah,Aq];omega,λg hg=>(A8.mp hg).elim (hfo g) λz=>by rw[Bd]at z;subst z;exact fo,jra hr λk hk=>Dt _ (fu k hk),by omega⟩
  refine jaj (jvj (m:=6) rfl (by omega) (by decide) (by decide) λw w0 w1=>?_);dsimp only[Ao];have isv:∀K:DEnds,(∀δ n,N δ n->K.nx δ n)->sApp 2 (wTup (jab (wC (.str "is")) (jab (jam jcm (jab (wVar 0) aNil)) aNil))) [some (.w .tp),some (.w (.ln (ks.map .str))),some (.own (fs.map Fe.d)),some (.w (.d d)),some (.w (.d (.int w)))] (n+1) K:=λK hK =>
   jkz rfl (jb2 (c_i (c1_i (jad rfl (Am rfl ⟨by omega,λv hv=>Am (show 2<=1000 by decide) (Am hfl (hK _ _ (nxt (.isv v) _ _ ⟨jmi hv,rfl⟩ (λk hk=>by cases hk) (by omega))))⟩)))))
  by_cases hw3:w < 3
  ·refine if_y (λQ q=>jt8 (λQ q=>ct_b (k:=true) (λQ q=>w2_i (jad rfl (c_i ?_))) q) q) (isv _ λ_ _ z=>z);show Q (.d (.bool (decide (w < 3)))) _;rw[decide_eq_true hw3];exact q
  ·have ct3:∀Q:DQ,Q (.d (.bool false)) (n+1)->w2 (wVar 4) (wC (.int 3)) gLt [some (.w .tp),some (.w (.ln (ks.map .str))),some (.own (fs.map Fe.d)),some (.w (.d d)),some (.w (.d (.int w)))] (n+1) Q:=λQ q=>w2_i (jad rfl (c_i (by
    show Q (.d (.bool (decide (w < 3)))) _;rw[decide_eq_false hw3];exact q)))
   cases ks with
   |nil=>exact if_y (λQ q=>jhu (λQ q=>ct_b (k:=false) ct3 q) (ct_b (k:=true) (λQ q=>w2_i (jad rfl (jgv (eqLn q)))) q)) (isv _ λ_ _ z=>z)
   |cons a l =>
    refine if_n (λQ q=>jhu (λQ q=>ct_b (k:=false) ct3 q) (ct_b (k:=false) (λQ q=>w2_i (jad rfl (jgv (eqLn q)))) q)) ?_;refine jkz rfl (jb2 (w2_i (of_i (Am (by decide) ?_))));dsimp only;refine w2_i (jad rfl (c_i ?_));dsimp only[gI0];refine jci (ds:=[.str "as",.str "as",.str "next"]) (r:=w - 3) (by omega) (show w - 3 < 3 by omega) λf hf'=>?_;refine w2_i (jad rfl ?_);have hl:((a::l).map Da).length<=1000:=by rw[Ab];exact hks
    refine jd3 (m:=((a::l).map Da).length) rfl (λQ q=>b1_i (jad rfl q)) (by omega) (by rw[Ab,Ar];omega) (by omega) λr r0 r1=>jrk r0 r1 λf' hf''=>?_;obtain⟨s,hs,rfl⟩:=jnz hf'';simp only[As,Aw,or_false]at hf';rcases hf' with rfl | rfl | rfl
    ·exact Am (show 2<=1000 by decide) (Am hfl (nxt (.as s) _ _ ⟨hok s hs,rfl⟩ (λk hk=>by cases hk;exact hs) (by omega)))
    ·exact Am (show 2<=1000 by decide) (Am hfl (nxt (.as s) _ _ ⟨hok s hs,rfl⟩ (λk hk=>by cases hk;exact hs) (by omega)))
    ·exact Am (show 2<=1000 by decide) (Am hfl (nxt (.nx s) _ _ ⟨hok s hs,rfl⟩ (λk hk=>by cases hk;exact hs) (by omega)))
theorem jn3:∀ws n Q,jh4 ws n Q->ws.length=2:=λws n Q h=>by obtain⟨_,rfl,_⟩:=h;rfl
abbrev zqd:List Str:=["_law_tape_here","_law_known_here"]
theorem jmb:∀ws n Q,jh4 ws n Q->jgi (ja3 zqd ws) n {nx:=λ_ n=>Q (.d .none) n,rt:=Q}:=λws n Q h=>by
 obtain⟨ks,rfl,hks,hok,hn0,k⟩:=h;show jgi [some (.w .tp),some (.w (.ln (ks.map .str)))] n _;have isv:∀n',n'<=n+1->sRet (wTup (jab (wC (.str "is")) (jab (jam jcm (jab (wVar 0) aNil)) aNil))) [some (.w .tp),some (.w (.ln (ks.map .str)))] n' {nx:=λ_ n=>Q (.d .none) n,rt:=Q}:=λn' hn' =>
  jbf (jb2 (c_i (c1_i (jad rfl (Am rfl ⟨by omega,λv hv=>Am (show 2<=1000 by decide) (k (.isv v) _ (jmi hv) rfl (λk hk=>by cases hk) (by omega))⟩)))))
 cases ks with
 |nil=>exact jaj (if_y (λQ q=>jt8 (λQ q=>ct_b (k:=true) (λQ q=>w2_i (jad rfl (jgv (eqLn q)))) q) q) (isv n (by omega)))
 |cons a l =>
  refine jaj (if_i (jhu (λQ q=>ct_b (k:=false) (λQ q=>w2_i (jad rfl (jgv (eqLn q)))) q) ?_));refine w2_i (jfd (m:=2) rfl (by omega) (by decide) (by decide) λr r0 r1=>c_i (eqLi ?_));show if decide (r=0)=true then _ else _
  by_cases h:r=0
  ·rw[if_pos (decide_eq_true h)];exact isv (n+1) (by omega)
  ·rw[if_neg (by simpa using h)];dsimp only[jas];refine jbf (jb2 (c_i (w2_i (jad rfl ?_))));have hl:((a::l).map Da).length<=1000:=by rw[Ab];exact hks
   refine jd3 (m:=((a::l).map Da).length) rfl (λQ q=>b1_i (jad rfl q)) (by omega) (by rw[Ab,Ar];omega) (by omega) λr r0 r1=>jrk r0 r1 λf' hf''=>?_;obtain⟨s,hs,rfl⟩:=jnz hf'';exact Am (show 2<=1000 by decide) (k (.as s) _ (hok s hs) rfl (λk hk=>by cases hk;exact hs) (by omega))
theorem jpy:∀ws n Q,jk8 ws n Q->ws.length=3:=λws n Q h=>by obtain⟨_,_,_,rfl,_⟩:=h;rfl
abbrev zqy:List Str:=["_law_tape_here","_law_known_here","_law_open_ones","_law_way","_law_block","_law_pattern_here","_law_bound"]
theorem joz:∀ws n Q,jk8 ws n Q->jh3 (ja3 zqy ws) n {nx:=λ_ n=>Q (.d .none) n,rt:=Q}:=λws n Q h=>by
 obtain⟨ks,os,wants,rfl,hks,hok,ho,ho',hop,hn0,k⟩:=h;show jh3 [some (.w .tp),some (.w (.ln (ks.map .str))),some (.w (.d (.list (os.map λb=>.int (b:Nat))))),none,none,none,none] n _;refine jaj (jvj (m:=12) rfl (by omega) (by decide) (by decide) λw w0 w1=>?_);dsimp only[Ao];refine jaj (iflt rfl (λhw=>?_) (λhw=>?_))
 ·refine jbf (jb2 (jlg (c_i (c2_i (jad rfl (jad rfl (De ks ⟨rfl,hks,hok,by omega,λfs n' hfs htm hrf hn'=>?_⟩)))))));refine j4f rfl (by omega) λv hv=>?_;exact Am (show 3<=1000 by decide) (jgv (Am (show 2<=1000 by decide) (k (.lay fs v) _ ⟨hfs,htm,jxx hv⟩ ⟨hrf,λb hb=>by cases hb⟩ (by omega))))
 dsimp only[jas];refine jaj (show sSet 4 _ _ _ _ from w2_i (jad rfl ?_));refine jd3 (m:=(os.map λb:Nat=>E3 (b:Nat)).length) rfl (λQ q=>b1_i (jad rfl q)) (by omega) (by rw[Ab];omega) (by rw[Ab];omega) λr r0 r1=>jci r0 r1 λb hb=>?_;obtain⟨b,hbo,rfl⟩:=Bo.mp hb;have hto:=hop b hbo;dsimp only[Ao];refine jaj (ifeq rfl (λh10=>?_) (λh10=>?_))
 ·refine jbf (jb2 (j74 (c_i (c2_i (jad rfl (jad rfl (De ks ⟨rfl,hks,hok,by omega,λf n' fo fb fu hn'=>?_⟩)))))));refine c2_i (jad rfl (jad rfl (De ks ⟨rfl,hks,hok,by omega,λg n'' go gb gu hn''=>?_⟩)));refine jad rfl (Am (show 4<=1000 by decide) (jgv (Am (show 2<=1000 by decide) (k (.same f g b) _ ⟨⟨show 2<=4 by decide,λe he=>?_⟩,fb,gb⟩ ⟨⟨fu,λk hk=>Dt _ (gu k hk),trivial⟩,λb' hb'=>by cases hb';exact hto⟩ (by omega)))));simp only[Ac.fs,As,Aw,or_false]at he;rcases he with rfl | rfl
  ·exact fo
  ·exact go
 dsimp only[jas];refine jaj (ifeq rfl (λh11=>?_) (λh11=>?_))
 ·exact jbf (jb2 (jb2 (c_i (jad rfl (Am (show 2<=1000 by decide) (jgv (Am (show 2<=1000 by decide) (k (.go b) _ ⟨⟨show 0<=4 by decide,λe he=>by simp[Ac.fs]at he⟩,trivial⟩ ⟨trivial,λb' hb'=>by cases hb';exact hto⟩ (by omega)))))))))
 dsimp only[jas];refine jaj ?_;unfold sUnp;refine c2_i (jad rfl (jad rfl (De ks ⟨.ln (ks.map .str),rfl,rfl,hks,hok,by omega,λfs n' hf1 hfs hpt hrf hn'=>?_⟩)));refine Am rfl ?_;dsimp only[jax,jb5,jai,Ao];refine jaj (ifgt rfl (λh7=>?_) (λh7=>?_))
 ·exact jbf (jb2 (jlg (c_i (jad rfl (jad rfl (Am (show 3<=1000 by decide) (jad rfl (Am (show 2<=1000 by decide) (k (.look fs b) _ ⟨hfs,hf1,hpt⟩ ⟨hrf,λb' hb'=>by cases hb';exact hto⟩ (by omega))))))))))
 dsimp only[jas];refine jbf (jb2 (jb2 (w2_i (of_i (Am (by decide) ?_)))));dsimp only;refine w2_i (jad rfl (c_i ?_));dsimp only[gI0];refine jci (ds:=[.str "take",.str "take",.str "take",.str "read"]) (r:=w - 4) (by omega) (show w - 4 < 4 by omega) λf hf'=>?_;simp only[As,Aw,or_false]at hf';rcases hf' with rfl | rfl | rfl | rfl
 ·exact jad rfl (Am (show 2<=1000 by decide) (jad rfl (Am (show 2<=1000 by decide) (k (.take fs) _ ⟨hfs,hf1,hpt⟩ ⟨hrf,λb' hb'=>by cases hb'⟩ (by omega)))))
 ·exact jad rfl (Am (show 2<=1000 by decide) (jad rfl (Am (show 2<=1000 by decide) (k (.take fs) _ ⟨hfs,hf1,hpt⟩ ⟨hrf,λb' hb'=>by cases hb'⟩ (by omega)))))
 ·exact jad rfl (Am (show 2<=1000 by decide) (jad rfl (Am (show 2<=1000 by decide) (k (.take fs) _ ⟨hfs,hf1,hpt⟩ ⟨hrf,λb' hb'=>by cases hb'⟩ (by omega)))))
 ·exact jad rfl (Am (show 2<=1000 by decide) (jad rfl (Am (show 2<=1000 by decide) (k (.read fs) _ ⟨hfs,hf1,hpt⟩ ⟨hrf,λb' hb'=>by cases hb'⟩ (by omega)))))
def jiq:List (List Str):=[[],["n"],["go","n"],["nm"]]
theorem j13 {w:List Str} (h:w∈jiq):w.length<=4/\(∀k∈w,okK k)/\w.Nodup/\upT w:=by
 have key:∀w∈jiq,w.length<=4/\(∀k∈w,k.length<=4/\PyData.strOk k=true)/\w.Nodup/\w.Pairwise λa b=>¬b.cps.toList < a.cps.toList:=by decide +kernel
 exact key w h
theorem jxj {Q:List Ad->Int->Prop} {n:Int} (ss ks:List Str) (k:Q ((ss.map Da).filter λx=>!inD x (ks.map .str)) n) :
  jcj (jai 0) (cT (w2 (wVar 0) (wVar 1) (gInL true))) (wVar 0) Q (ss.map .str) [] [none,some (.w (.ln (ks.map .str)))] n:=by
 refine jdp (λd=>∃s:Str,d=.str s) (λx=>!inD x (ks.map .str)) id (λd n Q' hd q=>?_) (λd n Q' hd q=>jad rfl q) _ [] none n (λd hd=>?_) ?_
 ·obtain⟨s,rfl⟩:=hd;exact ct_b (k:=!inD (.str s) (ks.map .str)) (λQ q=>w2_i (jad rfl (jad rfl (Am rfl ⟨jgz ks,q⟩)))) q
 ·obtain⟨s,_,rfl⟩:=Bo.mp hd;exact⟨s,rfl⟩
 ·rw[Ch,List.map_id];exact k
theorem jzh (ss ks:List Str):((ss.map Da).filter λx=>!inD x (ks.map .str)).isEmpty=decide (∀k∈ss,k∈ks):=by
 rw[Gb,List.isEmpty_iff,List.filter_eq_nil_iff,decide_eq_true_iff]
 constructor
 ·intro h k hk;have:=h (.str k) (Bo.mpr ⟨k,hk,rfl⟩);rw[jhk]at this;simpa using this
 ·intro h d hd;obtain⟨k,hk,rfl⟩:=Bo.mp hd;rw[jhk,decide_eq_true (h k hk)];simp
def jzc (ws:List (List Str)) (ks:List Str):Ad->Bool
 |.int j=>decide (∀k∈ws.getD j.toNat [],k∈ks)
 |_=>false
def jpp (ws:List (List Str)) (ks:List Str):List Nat:=(Bq ws.length).filter λb=>decide (∀k∈ws.getD b [],k∈ks)
theorem jzb (ws:List (List Str)) (ks:List Str):(rngD 0 ws.length).filter (jzc ws ks)=(jpp ws ks).map λb=>.int (b:Nat):=by
 unfold rngD jpp;rw[List.filter_map];have e:(λi:Nat=>E3 (0+(i:Int)))=λb=>.int (b:Nat):=funext λi=>by rw[Int.zero_add]
 rw[e];rfl
theorem jxh {Q:List Ad->Int->Prop} {n:Int} (ws:List (List Str)) (ks:List Str) (k:Q ((jpp ws ks).map λb=>.int (b:Nat)) n) :
  jcj (jai 0) (cT (w2 (wOf (jcf [none,some 1] (jcl (w2 (wVar 2) (wVar 0) gIxL)) (jai 0) (cT (w2 (wVar 0) (wVar 1) (gInL true))) (wVar 0))) (wOf (fLst aNil)) gEqL)) (wVar 0) Q (rngD 0 ws.length) [] [none,some (.w (.ln (ks.map .str))),some (.w (.d (.list (ws.map jcg))))] n:=by
 refine jdp (λd=>∃j:Nat,j < ws.length/\d=.int j) (jzc ws ks) id (λd n Q' hd q=>?_) (λd n Q' hd q=>jad rfl q) _ [] none n (λd hd=>?_) ?_
 ·obtain⟨j,hj,rfl⟩:=hd;have hg:(ws.map jcg)[j]?=some (.tuple (ws[j].map .str)):=by rw[Ay,Aj hj];rfl
  refine ct_b (k:=jzc ws ks (.int j)) (λQ q=>w2_i (of_i (jfe (ds:=ws[j].map .str) (λQ q=>w2_i (jad rfl (jad rfl ?_))) (jxj ws[j] ks (jgv ?_))))) q
  ·show(match atI (ws.map jcg) (j:Int)with | some d=>Q (.d d) n | none=>False);rw[jbx hg];exact q
  ·have eo:jzc ws ks (.int j)=((ws[j].map Da).filter λx=>!inD x (ks.map .str)).isEmpty:=by
    rw[jzh];show decide (∀k∈ws.getD (j:Int).toNat [],k∈ks)=_;rw[Bp,List.getD_eq_getElem?_getD,Aj hj,Option.getD_some]
   rw[eo]at q;exact q
 ·unfold rngD at hd;obtain⟨j,hj,rfl⟩:=Bo.mp hd;exact⟨j,C7.mp hj,by rw[Int.zero_add]⟩
 ·rw[Ch,List.map_id,jzb];exact k
theorem jv6 {ws w0:List (List Str)} {ks:List Str} (h:ws=[]::w0):0 < (jpp ws ks).length :=
 List.length_pos_of_mem (a:=0) (Dc.mpr ⟨C7.mpr (by rw[h];simp),by subst h;simp⟩)
theorem j3c {ws:List (List Str)} {ks:List Str} {b:Nat} (h:b∈jpp ws ks):∃w,ws[b]?=some w/\∀k∈w,k∈ks:=by
 obtain⟨h1,h2⟩:=Dc.mp h;have hj:=C7.mp h1;refine⟨ws[b],Aj hj,?_⟩;have:=of_decide_eq_true h2;rw[List.getD_eq_getElem?_getD,Aj hj,Option.getD_some]at this;exact this
theorem jvt:∀{fs:List Fe} {ks ks':List Str},(∀k∈ks,k∈ks')->rF ks fs->rF ks' fs
 |[],_,_,_,_=>trivial
 |f::r,ks,ks',h,z=>⟨λk hk=>h k (z.1 k hk),jvt (λk hk=>(A8.mp hk).elim (λq=>Dt _ (h k q)) λq=>Bc _ q) z.2⟩
theorem Ac.right_mono {ws:List (List Str)} {ks ks':List Str} {a:Ac} (h:∀k∈ks,k∈ks') (z:a.right ws ks):a.right ws ks' :=
 ⟨jvt h z.1,λb hb=>by obtain⟨w,h1,h2⟩:=z.2 b hb;exact⟨w,h1,λk hk=>h k (h2 k hk)⟩⟩
theorem jyu {ws:List (List Str)} {w ks:List Str} {as:List Ac} {a:Ac} (h:riB ws (w,as)) (hk:∀k∈ks,k∈w++as.flatMap Ac.bs) (ha:a.right ws ks):riB ws (w,as++[a]):=λp b hb=>by
 dsimp only at hb ⊢;by_cases hp:p < as.length
 ·rw[Cl9 hp]at hb;have:=h p b hb;unfold kn at this ⊢;rw[List.take_append_of_le_length (Fm hp)];exact this
 ·rw[B5 (by omega)]at hb;have e0:p - as.length=0:=by
   by_cases e:p - as.length=0
   ·exact e
   ·rw[Fp (by rw[Aq];omega)]at hb;cases hb
  rw[e0]at hb;cases hb;have ep:p=as.length:=by omega
  subst ep;refine Ac.right_mono (λk z=>?_) ha;unfold kn;rw[List.take_append_of_le_length (An _),List.take_length];exact hk k z
structure ActO (ws:List (List Str)) (want ks:List Str) (acts:List Ac):Prop where
 mem:∀k,k∈ks↔k∈want++acts.flatMap Ac.bs
 ok:∀k∈ks,okK k
 fs:∀a∈acts,okA a
 ri:riB ws (want,acts)
def ActI (ws:List (List Str)) (bl:List Ad) (want:List Str) (nb:Int) (ds:List Ad) (δ:Sl) (n:Int):Prop:=∃(ks:List Str) (acts:List Ac) (x2 x7 x8 x9 x10:Option SV),
 δ=[some (.w .tp),some (.w (.d (.list (ws.map jcg)))),x2,some (.own bl),some (.w (.d (jcg want))),some (.own (ks.map .str)),some (.own (acts.map Ac.d)),x7,x8,x9,x10]/\ActO ws want ks acts/\ks.length+4*ds.length<=40/\acts.length+ds.length<=8/\n+11*(ds.length:Int)<=nb+89
theorem j0m {ws w0:List (List Str)} {bl r:List Ad} {want:List Str} {d:Ad} {ks:List Str} {acts:List Ac} {nb n:Int} {x7 x8 x9 x10:Option SV} {K:DEnds} (hw0:ws=[]::w0) (hwl:ws.length<=6) (hnb:nb+89 < 2 ^ 39) (O:ActO ws want ks acts) (hk:ks.length+4*(r.length+1)<=40) (ha:acts.length+(r.length+1)<=8) (hn:n+11*((r.length:Int)+1)<=nb+89)
  (kN:∀δ n,ActI ws bl want nb r δ n->K.nx δ n) :
  sSeq (sSet 8 (wOf (jcf [none,some 5,some 1] (jbe (wB jfc (jab (wVar 1) aNil))) (jai 0) (cT (w2 (wOf (jcf [none,some 1] (jcl (w2 (wVar 2) (wVar 0) gIxL)) (jai 0) (cT (w2 (wVar 0) (wVar 1) (gInL true))) (wVar 0))) (wOf (fLst aNil)) gEqL)) (wVar 0)))) (sSeq (sUnp (jam jk8 (jab (wVar 0) (jab (jd5 5) (jab (wVar 8) aNil)))) (jdc 2 (jax (jai 9) (jax (jai 10) jb5)))) (sSeq (sApp 6 (wVar 9)) (sFor (jlv (wVar 10)) (jai 7) (sIf (cT (w2 (wVar 7) (jd5 5) (gInL true))) (sApp 5 (wVar 7)) jas))))
   [some (.w .tp),some (.w (.d (.list (ws.map jcg)))),some (.w (.d d)),some (.own bl),some (.w (.d (jcg want))),some (.own (ks.map .str)),some (.own (acts.map Ac.d)),x7,x8,x9,x10] n K:=by
 refine jaj (show sSet 8 _ _ _ _ from of_i ?_);unfold jcf jbe;refine b1_i (jad rfl ?_);refine Am ⟨by omega,by rw[Ab];omega⟩ ?_;rw[Bp,Ab];refine jxh ws ks ?_;dsimp only[Ao];refine jaj ?_;unfold sUnp;have ol:(jpp ws ks).length<=6:=A5 (List.length_filter_le _ _) (by rw[Ei];exact hwl);refine c3_i (jad rfl (jm2 rfl (jad rfl ?_)));refine De ks (De (jpp ws ks) (De ws ⟨rfl,by omega,O.ok,jv6 hw0,by omega,λb hb=>j3c hb,by omega,λact n' hfs hri hn'=>?_⟩));refine Am rfl ?_;dsimp only[jax,jb5,jai,Ao];refine jaj (jrx rfl (λQ q=>jad rfl q) (by rw[Ab];omega) ?_);dsimp only[Ao];unfold sFor jlv;refine jad rfl ?_;dsimp only;have hbs:=j4i hfs.1;refine jbj (λds δ n''=>∃(ks' dn bs':List Str) (x7:Option SV),ds=bs'.map .str/\dn++bs'=act.bs/\(∀k,k∈ks'↔k∈ks++dn)/\n''=n'/\δ=[some (.w .tp),some (.w (.d (.list (ws.map jcg)))),some (.w (.d d)),some (.own bl),some (.w (.d (jcg want))),some (.own (ks'.map .str)),some (.own (acts.map Ac.d++[act.d])),x7,some (.w (.d (.list ((jpp ws ks).map λb=>.int (b:Nat))))),some (.w (.d act.d)),some (.w (.d (.list (act.bs.map .str))))]/\ks'.length+bs'.length<=ks.length+4)
  (λδ n'' I=>?_) (λe r' δ n'' N I kN'=>?_) _ _ _ ⟨ks,[],act.bs,x7,rfl,rfl,λk=>by simp,rfl,rfl,by have:=hbs.2;omega⟩
 ·obtain⟨ks',dn,bs',x7,e,hdn,hm,rfl,rfl,hk'⟩:=I;cases D3.mp e.symm;rw[Bz]at hdn;subst hdn;have hm':∀k,k∈ks'↔k∈want++(acts++[act]).flatMap Ac.bs:=λk=>by
   rw[hm k,A8,O.mem k,Gg,<-Bn,A8 (s:=want++acts.flatMap Ac.bs)];simp
  refine kN _ _ ⟨ks',acts++[act],_,_,_,_,_,by rw[A9];rfl,⟨hm',λk z=>?_,λa z=>?_,jyu O.ri (λk z=>(O.mem k).mp z) hri⟩,by omega,by rw[Ah,Aq];omega,by omega⟩
  ·exact(A8.mp ((hm k).mp z)).elim (O.ok k) (hbs.1 k)
  ·rcases A8.mp z with z | z
   ·exact O.fs a z
   ·rw[Bd]at z;subst z;exact hfs
 ·obtain⟨ks',dn,bs',x7,e',hdn,hm,rfl,rfl,hk'⟩:=I;obtain⟨s,bs'',rfl,rfl,rfl⟩:=C8.mp e'.symm;rw[Ar]at hk';dsimp only[jai,Ao];have hdn':(dn++[s])++bs''=act.bs:=by rw[Bn];exact hdn
  refine if_i (w2_i (jad rfl (jm2 rfl (Am rfl ⟨jgz ks',?_⟩))));refine ifb (λz=>?_) (λz=>?_)
  ·refine jrx rfl (λQ q=>jad rfl q) (by rw[Ab];omega) (kN' _ _ ⟨ks'++[s],dn++[s],bs'',some (.w (.d (.str s))),rfl,hdn',λk=>?_,rfl,?_,by rw[Ah,Aq];omega⟩)
   ·rw[A8,hm k,<-Bn,A8 (s:=ks++dn)]
   ·rw[A9];rfl
  ·have hs:s∈ks':=by
    have z':(!inD (.str s) (ks'.map .str))=false:=z;rw[jhk]at z';simpa using z'
   refine kN' _ _ ⟨ks',dn++[s],bs'',some (.w (.d (.str s))),rfl,hdn',λk=>?_,rfl,rfl,by omega⟩;rw[<-Bn,A8 (s:=ks++dn),Bd,<-hm k];exact⟨.inl,λq=>q.elim id λe=>e▸hs⟩
def WanI (n0:Int) (ds:List Ad) (δ:Sl) (n:Int):Prop:=∃(more:List (List Str)) (x2:Option SV),δ=[some (.w .tp),some (.own (([]::more).map jcg)),x2,none,none,none,none,none,none,none,none]/\more.length+ds.length<=5/\(∀w∈more,w∈jiq)/\n+(ds.length:Int)<=n0+6
def BlkI (ws:List (List Str)) (n0:Int) (ds:List Ad) (δ:Sl) (n:Int):Prop:=∃(bl:List Bl) (re:List (List Str)) (x2 x4 x5 x6 x7 x8 x9 x10:Option SV),
 δ=[some (.w .tp),some (.w (.d (.list (ws.map jcg)))),x2,some (.own (bl.map blD)),x4,x5,x6,x7,x8,x9,x10]/\ds=re.map jcg/\bl.map (·.1)++re=ws/\(∀b∈bl,okB b/\riB ws b)/\n+90*(ds.length:Int)<=n0+600
theorem jit:∀ws n Q,jqt ws n Q->ws.length=1:=λws n Q h=>by obtain⟨rfl,_⟩:=h;rfl
theorem j0g {ws w0 re:List (List Str)} {bl:List Bl} {want:List Str} {n0 n:Int} {x2 x5 x6 x7 x8 x9 x10:Option SV} {K:DEnds} (hw:∀w∈ws,w∈jiq) (hw0:ws=[]::w0) (hwl:ws.length<=6) (hn0:n0+600 < 2 ^ 39) (hb:bl.map (·.1)++want::re=ws) (hbo:∀b∈bl,okB b/\riB ws b) (hn:n+90*((re.length:Int)+1)<=n0+600)
  (kN:∀δ n,BlkI ws n0 (re.map jcg) δ n->K.nx δ n) :
  sSeq (sOwn 5 (jec (wVar 4))) (sSeq (sOwn 6 (fLst aNil)) (sSeq (sFor (jbe (w2 (wOf (fLst (jab (wC (.int (2))) (jab (wC (.int (3))) (jab (wC (.int (1))) (jab (wC (.int (4))) (jab (wC (.int (2))) (jab (wC (.int (0))) (jab (wC (.int (3))) (jab (wC (.int (8))) aNil)))))))))) (jam jav (jab (wVar 0) (jab (wC (.int (8))) aNil))) gIxL)) (jai 2) (sSeq (sSet 8 (wOf (jcf [none,some 5,some 1] (jbe (wB jfc (jab (wVar 1) aNil))) (jai 0) (cT (w2 (wOf (jcf [none,some 1] (jcl (w2 (wVar 2) (wVar 0) gIxL)) (jai 0) (cT (w2 (wVar 0) (wVar 1) (gInL true))) (wVar 0))) (wOf (fLst aNil)) gEqL)) (wVar 0)))) (sSeq (sUnp (jam jk8 (jab (wVar 0) (jab (jd5 5) (jab (wVar 8) aNil)))) (jdc 2 (jax (jai 9) (jax (jai 10) jb5)))) (sSeq (sApp 6 (wVar 9)) (sFor (jlv (wVar 10)) (jai 7) (sIf (cT (w2 (wVar 7) (jd5 5) (gInL true))) (sApp 5 (wVar 7)) jas)))))) (sFrz 6 (sApp 3 (wTup (jab (wVar 4) (jab (wB jcz (jab (wVar 6) aNil)) aNil)))))))
   [some (.w .tp),some (.w (.d (.list (ws.map jcg)))),x2,some (.own (bl.map blD)),some (.w (.d (jcg want))),x5,x6,x7,x8,x9,x10] n K:=by
 obtain⟨hss,hso,hnd,hup⟩:=j13 (hw want (by rw[<-hb];exact Bc _ A0));have hbl:bl.length+(re.length+1)<=6:=by rw[<-hb,Ah,Ab,Ar]at hwl;exact hwl
 refine jaj (j59 (ds:=want.map .str) rfl ?_);dsimp only[Ao];refine jaj (jc8 ?_);dsimp only[Ao];refine jaj (j05 (L:=[.int 2,.int 3,.int 1,.int 4,.int 2,.int 0,.int 3,.int 8]) (M:=8) rfl (λQ q=>of_i (Am (by decide) q)) (by omega) rfl (by decide) (by decide) (λd hd=>?_) (by decide) λj hj=>?_)
 ·simp only[As,Aw,or_false]at hd;rcases hd with rfl | rfl | rfl | rfl | rfl | rfl | rfl | rfl
  ·exact⟨2,by decide,rfl⟩
  ·exact⟨3,by decide,rfl⟩
  ·exact⟨1,by decide,rfl⟩
  ·exact⟨4,by decide,rfl⟩
  ·exact⟨2,by decide,rfl⟩
  ·exact⟨0,by decide,rfl⟩
  ·exact⟨3,by decide,rfl⟩
  ·exact⟨8,by decide,rfl⟩
 refine jbj (ActI ws (bl.map blD) want n) (λδ n' I=>?_) (λd r' δ n' N I kN'=>?_) _ _ _ ⟨want,[],_,_,_,_,_,rfl,⟨λk=>by simp,hso,λa ha=>by simp at ha,λp a ha=>by simp at ha⟩,by rw[jbv];omega,by rw[jbv];simpa using hj,by rw[jbv];omega⟩
 ·obtain⟨ks,acts,y2,y7,y8,y9,y10,rfl,O,_,ha,hn'⟩:=I;dsimp only;refine jgd rfl ?_;dsimp only[Ao];refine jkz rfl (jb2 (jad rfl (b1_i (jad rfl (jji ?_)))));have ha':acts.length<=8:=by simpa using ha
  refine Am (show 2<=1000 by decide) (Am (by rw[Ab];omega) (kN _ _ ⟨bl++[(want,acts)],re,_,_,_,_,_,_,_,_,by rw[A9];rfl,rfl,by rw[A9,Bn];exact hb,λb z=>?_,?_⟩))
  ·rcases A8.mp z with z | z
   ·exact hbo b z
   ·rw[Bd]at z;subst z;exact⟨⟨hss,hso,ha',O.fs,hnd,hup⟩,O.ri⟩
  ·have h0:n'<=n+89:=by simpa using hn'
   rw[Ab];omega
 ·obtain⟨ks,acts,y2,y7,y8,y9,y10,rfl,O,hk,ha,hn'⟩:=I;rw[Ar]at hk ha hn';dsimp only[jai,Ao];exact j0m hw0 hwl (by omega) O hk ha (by omega) kN'
abbrev zqi:List Str:=["_law_tape_here","_law_wants","_law_k","_law_blocks","_law_want","_law_known_here","_law_acts","_law_name","_law_open_ones","_law_act_here","_law_bound"]
theorem jhw:∀ws n Q,jqt ws n Q->jdu (ja3 zqi ws) n {nx:=λ_ n=>Q (.d .none) n,rt:=Q}:=λws n0 Q h=>by
 obtain⟨rfl,hn0,k⟩:=h;show jdu [some (.w .tp),none,none,none,none,none,none,none,none,none,none] n0 _;refine jaj (show sOwn 1 _ _ _ _ from Am (Bm _) (Am (by decide) ?_));dsimp only[Ao];refine jaj (j05 (L:=[.int 0,.int 1,.int 2,.int 1,.int 0,.int 2,.int 5]) (M:=5) rfl (λQ q=>of_i (Am (by decide) q)) (by omega) rfl (by decide) (by decide) (λd hd=>?_) (by decide) λj hj=>?_)
 ·simp only[As,Aw,or_false]at hd;rcases hd with rfl | rfl | rfl | rfl | rfl | rfl | rfl
  ·exact⟨0,by decide,rfl⟩
  ·exact⟨1,by decide,rfl⟩
  ·exact⟨2,by decide,rfl⟩
  ·exact⟨1,by decide,rfl⟩
  ·exact⟨0,by decide,rfl⟩
  ·exact⟨2,by decide,rfl⟩
  ·exact⟨5,by decide,rfl⟩
 refine jbj (WanI n0) (λδ n I=>?_) (λd r δ n N I kN=>?_) _ _ _ ⟨[],none,rfl,by rw[jbv];simpa using hj,λd hd=>by simp at hd,by rw[jbv];omega⟩
 ·obtain⟨more,x2,rfl,hl,hm,hn⟩:=I;dsimp only;refine jaj (jc8 ?_);dsimp only[Ao];refine jgd rfl ?_;dsimp only[Ao];refine jaj ?_;unfold sFor jlv;refine jad rfl ?_;dsimp only;have hw:∀w∈([]:List Str)::more,w∈jiq:=λd hd=>by
   rcases As.mp hd with rfl | z
   ·simp[jiq]
   ·exact hm d z
  have hwl:(([]:List Str)::more).length<=6:=by rw[Ar];simp at hl;omega
  refine jbj (BlkI ([]::more) n0) (λδ n' I=>?_) (λd r δ n' N I kN=>?_) _ _ _ ⟨[],[]::more,_,_,_,_,_,_,_,_,rfl,rfl,rfl,λb hb=>by simp at hb,?_⟩
  ·obtain⟨bl,re,y2,y4,y5,y6,y7,y8,y9,y10,rfl,er,hb,hbo,hn'⟩:=I;cases D3.mp er.symm;rw[Bz]at hb;dsimp only;refine jgd rfl ?_;dsimp only[Ao];refine jbf (b1_i (jad rfl (jji (k bl n' ⟨by have:=congrArg List.length hb;simp at this;omega,?_,λb z=>⟨(hbo b z).1,by rw[hb];exact(hbo b z).2⟩⟩ ⟨more,hb⟩ (by simpa using hn')))));rw[<-hb,Ab]at hwl;exact hwl
  ·obtain⟨bl,re,y2,y4,y5,y6,y7,y8,y9,y10,rfl,er,hb,hbo,hn'⟩:=I;obtain⟨want,re,rfl,rfl,rfl⟩:=C8.mp er.symm;rw[Ar,Ab]at hn';dsimp only[jai,Ao];exact j0g hw rfl hwl hn0 hb hbo (by omega) kN
  ·have h1:n<=n0+6:=by simpa using hn
   have h2:(((([]:List Str)::more).map jcg).length:Int)<=6:=by rw[Ab];omega
   omega
 ·obtain⟨more,x2,rfl,hl,hm,hn⟩:=I;rw[Ar]at hl hn;dsimp only[jai,Ao];refine jkz rfl (w2_i (of_i (Am (by decide) (Am (by decide) (Am (by decide) (Am (by decide) (Am (by decide) (Am (by decide) ?_))))))));dsimp only;refine jfd (m:=5) rfl (by omega) (by decide) (by decide) λq q0 q1=>jci (ds:=[jcg [],jcg ["n"],jcg ["go","n"],jcg ["nm"],jcg []]) q0 q1 λw hw=>?_;have:∃v∈jiq,w=jcg v:=by
   simp only[As,Aw,or_false]at hw;rcases hw with rfl | rfl | rfl | rfl | rfl
   ·exact⟨[],by simp[jiq],rfl⟩
   ·exact⟨["n"],by simp[jiq],rfl⟩
   ·exact⟨["go","n"],by simp[jiq],rfl⟩
   ·exact⟨["nm"],by simp[jiq],rfl⟩
   ·exact⟨[],by simp[jiq],rfl⟩
  obtain⟨v,hv,rfl⟩:=this;refine Am (by rw[Ab,Ar];omega) (kN _ _ ⟨more++[v],some (.w (.d d)),?_,by rw[Ah,Aq];omega,λe he=>?_,by omega⟩)
  ·rw[show([]::(more++[v]):List (List Str))=([]::more)++[v]from rfl,A9];rfl
  rcases A8.mp he with z | z
  ·exact hm e z
  ·rw[Bd]at z;subst z;exact hv
section
variable {δ:Sl} {n:Int} {K:DEnds} {i:Nat} {s a b c:Str} {r:List Ad} {k:Bool} {Q:Bool->Int->Prop}
theorem jzs (e:δ[i]?=some (some (.w (.d (.tuple (.str s::r)))))) (h:inD (.str s) [.str a,.str b,.str c]=k) (q:Q k n):cT (w2 (w2 (wVar i) (wC (.int 0)) gIx) (wTup (jab (wC (.str a)) (jab (wC (.str b)) (jab (wC (.str c)) aNil)))) (gIn false)) δ n Q:=by
 refine w2_i (jdj e ?_);show 3<=1000/\jdz (.str s)=true/\_/\Q (inD (.str s) [.str a,.str b,.str c]) n;exact⟨by decide,rfl,rfl,by rw[h];exact q⟩
theorem jp2 (e:δ[i]?=some (some (.w (.d (.tuple (.str s::r)))))) (h:inD (.str s) [.str a,.str b]=k) (q:Q k n):cT (w2 (w2 (wVar i) (wC (.int 0)) gIx) (wTup (jab (wC (.str a)) (jab (wC (.str b)) aNil))) (gIn false)) δ n Q:=by
 refine w2_i (jdj e ?_);show 2<=1000/\jdz (.str s)=true/\_/\Q (inD (.str s) [.str a,.str b]) n;exact⟨by decide,rfl,rfl,by rw[h];exact q⟩
theorem jnb {A B:DTT} (ha:∀Q:Bool->Int->Prop,Q false n->A δ n Q) (q:Q false n):cAnd A B δ n Q:=ha _ (by show if false=true then _ else _;rw[if_neg Ag];exact q)
end
theorem j8w {δ:Sl} {n:Int} {K:DEnds} {i:Nat} {w:DT} {es:List Ad} (e:δ[i]?=some (some (.own es))) (k:w δ n λx n1=>match x with
  |.d (.list fs)=>(es.length < 1000000/\fs.length < 1000000)/\K.nx (δ.set i (some (.own (es++fs)))) n1
  |_=>False):sExt i w δ n K:=by
 unfold sExt;rw[e];exact k
theorem jls:∀ws n Q,jg8 ws n Q->ws.length=3:=λws n Q h=>by obtain⟨_,_,_,_,rfl,_⟩:=h;rfl
abbrev zqq1:List Str:=["_law_program_here","_law_block","_law_place","_law_found","_law_act_here"]
theorem jkw:∀ws n Q,jg8 ws n Q->jfn (ja3 zqq1 ws) n {nx:=λ_ n=>Q (.d .none) n,rt:=Q}:=λws n Q h=>by
 obtain⟨bs,i,p,⟨w,as⟩,rfl,hi,⟨hb1,hb2,hb3,hb4,_,_⟩,hp,k⟩:=h;dsimp only at hb1 hb2 hb3 hb4 hp k;have hi':(bs.map blD)[i]?=some (blD (w,as)):=by rw[Ay,hi];rfl
 show jfn [some (.w (.d (.tuple (bs.map blD)))),some (.w (.d (.int i))),some (.w (.d (.int p))),none,none] n _;refine jaj (show sOwn 3 (jec _) _ _ _ from w2_i (w2_i (jad rfl (jad rfl (gN_i hi' (c_i (g0_i ?_)))))));dsimp only[jcg,Ao];refine jaj ?_;unfold sFor jcl jbz;refine w2_i (w2_i (jad rfl (jad rfl (gN_i hi' (c_i (g1_i ?_))))));dsimp only[jb8,jb7];refine jad rfl ?_;dsimp only;rw[j1w _ (by rw[Ab];exact hp),<-Fw];refine jbj (λds δ n'=>∃(dn re:List Ac) (L:List Str) (x:Option SV),ds=re.map Ac.d/\dn++re=as.take p/\n'=n/\δ=[some (.w (.d (.tuple (bs.map blD)))),some (.w (.d (.int i))),some (.w (.d (.int p))),some (.own (L.map .str)),x]/\KnI w dn L) (λδ n' I=>?_) (λd r δ n' N I kN=>?_) _ _ _
  ⟨[],as.take p,w,none,rfl,rfl,rfl,rfl,KnI.first hb1 hb2⟩
 ·obtain⟨dn,re,L,x,e,hdn,rfl,rfl,I⟩:=I;cases D3.mp e.symm;rw[Bz]at hdn;subst hdn;dsimp only;refine jgd rfl ?_;dsimp only[Ao];have hl:(as.take p).length<=8:=A5 (Gf _ _) (by omega);have hI:=I.len;refine jbf (of_i (show jok _ _ _ _ from jad rfl ?_));exact De L ⟨.inl rfl,by omega,λx hx=>A5 (I.ok x hx).1 (by decide),λys a b c=>k ys a (λz hz=>I.ok z ((b z).mp hz)) c λz=>(b z).trans (I.mem z)⟩
 ·obtain⟨dn,re,L,x,e,hdn,rfl,rfl,I⟩:=I;obtain⟨a,re,rfl,rfl,rfl⟩:=C8.mp e.symm;dsimp only[jai,Ao];have ha:okFs a.fs:=(hb4 a (En (i:=p) (by rw[<-hdn];exact Bc _ A0))).1;have hlen:L.length<=36:=by
   have h1:dn.length+(re.length+1)=(as.take p).length:=by rw[<-hdn,Ah,Ar]
   have h3:=I.len;have h4:(as.take p).length<=as.length:=Fy _ _;omega
  have hdn':(dn++[a])++re=as.take p:=by rw[Bn];exact hdn
  have nxt:∀L',KnI w (dn++[a]) L'->N [some (.w (.d (.tuple (bs.map blD)))),some (.w (.d (.int i))),some (.w (.d (.int p))),some (.own (L'.map .str)),some (.w (.d a.d))] n':=λL' I'=>kN _ _ ⟨dn++[a],re,L',_,rfl,hdn',rfl,rfl,I'⟩;have get:∀(K:DEnds) (hK:∀δ n,N δ n->K.nx δ n) (s:Str) (fs:List Fe) (r:List Ad),a.d=.tuple (.str s::fsD fs::r)->inD (.str s) [.str "take",.str "read",.str "look"]=true->a.bs=bndE fs->a.fs=fs->sIf (cT (w2 (w2 (wVar 4) (wC (.int (0))) gIx) (wTup (jab (wC (.str "take")) (jab (wC (.str "read")) (jab (wC (.str "look")) aNil)))) (gIn false))) (sExt 3 (wOf (jcf [none] (jcl (w2 (wVar 4) (wC (.int (1))) gIx)) (jai 0) (cT (w2 (w2 (wVar 0) (wC (.int (0))) gIx) (wC (.str "bind")) gEq)) (w2 (wVar 0) (wC (.int (1))) gIx)))) jas
    [some (.w (.d (.tuple (bs.map blD)))),some (.w (.d (.int i))),some (.w (.d (.int p))),some (.own (L.map .str)),some (.w (.d a.d))] n' K:=λK hK s fs r e1 e2 e3 e4=>by
   rw[e1]at nxt ⊢;refine if_y (λQ q=>jzs rfl e2 q) ?_;have hb:(bndE fs).length<=4:=jzk (e4▸ha);refine j8w rfl (of_i (jfe (ds:=fs.map Fe.d) (λQ q=>jcp rfl q) (jt9 fs n' ?_)));refine Am ⟨by rw[Ab];omega,by rw[Ab];omega⟩ ?_;have:=nxt (L++bndE fs) (I.more (λk=>by rw[e3]) hb ha);rw[A9]at this;exact hK _ _ this
  have skip:∀(K:DEnds) (hK:∀δ n,N δ n->K.nx δ n) (s:Str) (r:List Ad),a.d=.tuple (.str s::r)->inD (.str s) [.str "take",.str "read",.str "look"]=false->a.bs=[]->sIf (cT (w2 (w2 (wVar 4) (wC (.int (0))) gIx) (wTup (jab (wC (.str "take")) (jab (wC (.str "read")) (jab (wC (.str "look")) aNil)))) (gIn false))) (sExt 3 (wOf (jcf [none] (jcl (w2 (wVar 4) (wC (.int (1))) gIx)) (jai 0) (cT (w2 (w2 (wVar 0) (wC (.int (0))) gIx) (wC (.str "bind")) gEq)) (w2 (wVar 0) (wC (.int (1))) gIx)))) jas
    [some (.w (.d (.tuple (bs.map blD)))),some (.w (.d (.int i))),some (.w (.d (.int p))),some (.own (L.map .str)),some (.w (.d a.d))] n' K:=λK hK s r e1 e2 e3=>by
   rw[e1]at nxt ⊢;refine if_n (λQ q=>jzs rfl e2 q) (hK _ _ (nxt L (I.skip e3)))
  cases a with
  |lay fs age=>exact skip _ (λ_ _ z=>z) "lay" [fsD fs,age] rfl (by decide +kernel) rfl
  |take fs=>exact get _ (λ_ _ z=>z) "take" fs [] rfl (by decide +kernel) rfl rfl
  |read fs=>exact get _ (λ_ _ z=>z) "read" fs [] rfl (by decide +kernel) rfl rfl
  |look fs b=>exact get _ (λ_ _ z=>z) "look" fs [.int b] rfl (by decide +kernel) rfl rfl
  |same f g b=>exact skip _ (λ_ _ z=>z) "same" [f.d,g.d,.int b] rfl (by decide +kernel) rfl
  |go b=>exact skip _ (λ_ _ z=>z) "go" [.int b] rfl (by decide +kernel) rfl
theorem j1j {α:Type} {f:α->Ad} {P:α->Prop}:∀{ds:List Ad},(∀d∈ds,∃x,P x/\d=f x)->∃xs:List α,ds=xs.map f/\∀x∈xs,P x
 |[],_=>⟨[],rfl,λx hx=>by simp at hx⟩
 |d::r,h=>by
  obtain⟨x,hx,rfl⟩:=h d A0;obtain⟨xs,rfl,hxs⟩:=j1j λe he=>h e (Au _ he);exact⟨x::xs,rfl,λy hy=>(As.mp hy).elim (λe=>e▸hx) (hxs y)⟩
theorem jlq:∀ws n Q,jfp ws n Q->ws.length=2:=λws n Q h=>by obtain⟨_,rfl,_⟩:=h;rfl
def NotI (m:Nat) (n0:Int) (ds:List Ad) (δ:Sl) (n:Int):Prop:=∃(ns:List Nt) (x y:Option SV),δ=[some (.w .tp),some (.w (.d (.int m))),some (.own (ns.map ntD)),x,y]/\ns.length+ds.length<=m/\(∀q∈ns,okQ q)/\n+6*(ds.length:Int)<=n0+100
abbrev zqw1:List Str:=["_law_tape_here","_law_most","_law_found","_law_k","_law_row"]
theorem jku:∀ws n Q,jfp ws n Q->jfl (ja3 zqw1 ws) n {nx:=λ_ n=>Q (.d .none) n,rt:=Q}:=λws n0 Q h=>by
 obtain⟨m,rfl,hm,hn0,k⟩:=h;show jfl [some (.w .tp),some (.w (.d (.int m))),none,none,none] n0 _;refine jaj (jc8 ?_);dsimp only[Ao];refine jaj ?_;unfold sFor jbe;refine jd3 (m:=(m:Int)+1) rfl (λQ q=>w2_i (jad rfl (c_i q))) (by omega) (by omega) (by omega) λr r0 r1=>?_;refine Am ⟨by omega,by omega⟩ ?_;have hr:r.toNat<=m:=by omega
 refine jbj (NotI m n0) (λδ n I=>?_) (λd r' δ n N I kN=>?_) _ _ _ ⟨[],none,none,rfl,by rw[jbv];simpa using hr,λd hd=>by simp at hd,by rw[jbv];omega⟩
 ·obtain⟨ns,x,y,rfl,hl,hns,hn⟩:=I;dsimp only;refine jgd rfl ?_;dsimp only[Ao];exact jbf (b1_i (jad rfl (jji (k ns n ⟨by simpa using hl,hns⟩ (by simpa using hn)))))
 ·obtain⟨ns,x,y,rfl,hl,hns,hn⟩:=I;rw[Ar]at hl hn;dsimp only[jai,Ao];refine jaj (show sSet 4 _ _ _ _ from b1_i (of_i ?_));unfold jcf;dsimp only;refine c1_i (jad rfl (Am rfl ⟨by omega,λs s1 s4=>?_⟩));refine Am ⟨by omega,by omega⟩ ?_;rw[Bp];refine jhv (λv=>isV v=true) 1 (λd n Q' hn q=>c1_i (jad rfl (Am rfl ⟨by omega,λv hv=>q v _ (jmi hv) (by omega)⟩))) _ [] none _ (by rw[jbv];omega) λrow n' hrl hrow hn'=>?_;rw[jbv]at hrl hn';rw[Ch];refine jji ?_;dsimp only[Ao];refine jkz rfl (jb2 (jad rfl (j4f rfl (by omega) λv hv=>?_)));refine Am (show 2<=1000 by decide) (Am (by rw[Ab];omega) (kN _ _ ⟨ns++[(row,v)],_,_,by rw[A9];rfl,by rw[Ah,Aq];omega,λe he=>?_,by omega⟩));rcases A8.mp he with z | z
  ·exact hns e z
  ·rw[Bd]at z;subst z;exact⟨⟨by show row.length<=4;omega,hrow⟩,jxx hv⟩
theorem jn5:∀ws n Q,jqu ws n Q->ws.length=1:=λws n Q h=>by obtain⟨rfl,_⟩:=h;rfl
abbrev zqk:List Str:=["_law_tape_here","_law_programs"]
theorem jmd:∀ws n Q,jqu ws n Q->jgk (ja3 zqk ws) n {nx:=λ_ n=>Q (.d .none) n,rt:=Q}:=λws n0 Q h=>by
 obtain⟨rfl,hn0,k⟩:=h;show jgk [some (.w .tp),none] n0 _;refine jaj (show sOwn 1 _ _ _ _ from ?_);unfold sOwn jcf jbe;refine w2_i (of_i (Am (by decide) ?_));dsimp only;refine jfd (m:=8) rfl (by omega) (by decide) (by decide) λq q0 q1=>jci (ds:=[.int 2,.int 1,.int 2,.int 3,.int 2,.int 1,.int 0,.int 5]) q0 q1 λd hd=>?_;have hj:∃j:Nat,j<=5/\d=.int j:=by
  simp only[As,Aw,or_false]at hd;rcases hd with rfl | rfl | rfl | rfl | rfl | rfl | rfl | rfl
  ·exact⟨2,by decide,rfl⟩
  ·exact⟨1,by decide,rfl⟩
  ·exact⟨2,by decide,rfl⟩
  ·exact⟨3,by decide,rfl⟩
  ·exact⟨2,by decide,rfl⟩
  ·exact⟨1,by decide,rfl⟩
  ·exact⟨0,by decide,rfl⟩
  ·exact⟨5,by decide,rfl⟩
 obtain⟨j,hj,rfl⟩:=hj;refine Am ⟨by omega,by omega⟩ ?_;rw[Bp];refine jhv (λd=>∃P,(okG P/\fst0 P)/\d=prD P) 600 (λd n Q' hn q=>c1_i (jad rfl (Am rfl ⟨by omega,λP n' hP hP' hn'=>q (prD P) n' ⟨P,⟨hP,hP'⟩,rfl⟩ (by omega)⟩))) _ [] none _ (by rw[jbv];omega) λds n1 hpl hps0 hn1=>?_;rw[jbv]at hpl hn1;rw[Ch];obtain⟨ps,rfl,hps⟩:=j1j hps0;clear hps0;rw[Ab]at hpl;dsimp only[Ao];have rest:∀(ps':Pg) (n2:Int),ps'.length<=5->(∀P∈ps',okG P/\fst0 P)->n2<=n1+1->sFrz 1 (sRet (wTup (jab (wB jcz (jab (wVar 1) aNil)) (jab (jam jfp (jab (wVar 0) (jab (w2 (wOf (fLst (jab (wC (.int (4))) (jab (wC (.int (3))) (jab (wC (.int (6))) (jab (wC (.int (12))) aNil)))))) (jam jav (jab (wVar 0) (jab (wC (.int (4))) aNil))) gIxL) aNil))) aNil)))) [some (.w .tp),some (.own (ps'.map prD))] n2 {nx:=λ_ n=>Q (.d .none) n,rt:=Q}:=λps' n2 hl' hp' hn2=>by
  refine jgd rfl ?_;dsimp only[Ao];refine jbf (jb2 (b1_i (jad rfl (jji (c2_i (jad rfl (w2_i (of_i (Am (by decide) ?_)))))))));dsimp only;refine jfd (m:=4) rfl (by omega) (by decide) (by decide) λr r0 r1=>jci (ds:=[.int 4,.int 3,.int 6,.int 12]) r0 r1 λd hd=>?_;have hm:∃m:Nat,m<=12/\d=.int m:=by
   simp only[As,Aw,or_false]at hd;rcases hd with rfl | rfl | rfl | rfl
   ·exact⟨4,by decide,rfl⟩
   ·exact⟨3,by decide,rfl⟩
   ·exact⟨6,by decide,rfl⟩
   ·exact⟨12,by decide,rfl⟩
  obtain⟨m,hm,rfl⟩:=hm;exact De m ⟨rfl,hm,by omega,λns n' hns hn'=>Am (show 2<=1000 by decide) (k ps' _ n' ⟨hl',λP hP=>(hp' P hP).1⟩ (λP hP=>(hp' P hP).2) ⟨A5 hns.1 hm,hns.2⟩ (by omega))⟩
 refine jaj (if_i ?_);refine(show cT _ _ _ _ from w2_i (b1_i (jm2 rfl (j6n (c_i (eqLi ?_))))));rw[Ab];show if decide ((ps.length:Int)=2)=true then _ else _
 by_cases h2:(ps.length:Int)=2
 ·rw[if_pos (decide_eq_true h2)];refine w2_i (jfd (m:=4) rfl (by omega) (by decide) (by decide) λq q0 q1=>c_i (eqLi ?_));show if decide (q=0)=true then _ else _
  by_cases hq:q=0
  ·rw[if_pos (decide_eq_true hq)];have hl2:ps.length=2:=by omega
   obtain⟨P,P',rfl⟩:∃P P',ps=[P,P']:=by
    match ps,hl2 with
    |[P,P'],_=>exact⟨P,P',rfl⟩
   refine(show sPut 1 _ _ _ _ _ from w2_i (jm2 rfl (c_i ?_)));refine(show gIxL (.ln [prD P,prD P']) (.d (.int 0)) _ _ from ?_);refine rest [P,P] _ (show 2<=5 by decide) (λR hR=>?_) (by omega);simp only[As,Aw,or_false,or_self]at hR;subst hR;exact hps _ A0
  ·rw[if_neg (by simpa using hq)];exact rest ps _ (by omega) hps (by omega)
 ·rw[if_neg (by simpa using h2)];exact rest ps _ (by omega) hps (by omega)
theorem addI {i j n:Int} {Q:DQ} (k:Q (.d (.int (i+j))) n):gI0 (λi j=>.int (i+j)) (.d (.int i)) (.d (.int j)) n Q:=k
theorem jxi {Q:List Ad->Int->Prop}:∀(ys:List Str) (acc:Nm) (x:Option SV) (n:Int),n+(ys.length:Int) < 2 ^ 39->(∀p∈acc,isV p.2=true)->(∀(nm:Nm) (n':Int),nm.map (·.1)=acc.map (·.1)++ys->(∀p∈nm,isV p.2=true)->n'<=n+(ys.length:Int)->Q (nm.map jir) n') ->
  jcj (jai 0) cYes (wTup (jab (wVar 0) (jab (jam jcm (jab (wVar 1) aNil)) aNil))) Q (ys.map .str) (acc.map jir) [x,some (.w .tp)] n
 |[],acc,x,n,_,ha,q=>q acc n (by rw[Bz]) ha (by omega)
 |y::ys,acc,x,n,hn,ha,q=>by
  rw[Ar]at hn q;simp only[Bi,jcj,jai,cYes,if_true,Ea];refine jb2 (jad rfl (c1_i (jad rfl (Am rfl ⟨by omega,λv hv=>Am (show 2<=1000 by decide) ?_⟩))));have:=jxi (Q:=Q) ys (acc++[(y,v)]) (some (.w (.d (.str y)))) (n+1) (by omega) (λp hp=>(A8.mp hp).elim (ha p) λz=>by rw[Bd.mp z];exact jmi hv) λnm n' e hm hn'=>q nm n' (by rw[e,A9,Bn];rfl) hm (by omega);rw[A9]at this;exact this
theorem j7y (as:List Ac) (h:∀a∈as,okA a):(as.flatMap Ac.bs).length<=4*as.length:=by
 induction as with
 |nil=>exact Bm _
 |cons a r ih =>
  rw[List.flatMap_cons,Ah,Ar];have:=(j4i (h a A0).1).2;have:=ih λb hb=>h b (Au _ hb);omega
theorem j1o {b:Bl} (ob:okB b) (p:Nat):(kn b.1 b.2 p).length<=36:=by
 unfold kn;rw[Ah];have:=j7y (b.2.take p) λa ha=>ob.2.2.2.1 a (En ha);have:=Gf p b.2;have:=ob.1;have:=ob.2.2.1;have:=Fy p b.2;omega
theorem jlp:∀ws n Q,jk5 ws n Q->ws.length=2:=λws n Q h=>by obtain⟨_,rfl,_⟩:=h;rfl
def StI (ps:Pg) (n0:Int) (ds:List Ad) (δ:Sl) (n:Int):Prop:=∃(hs:List Hn) (re:Pg) (x4 x5 x6 x7:Option SV),δ=[some (.w .tp),some (.w (.d (pgD ps))),some (.own (hs.map hnD)),x4,x5,x6,x7]/\ds=re.map prD/\re=ps.drop hs.length/\hs.length<=ps.length /\
 (∀(i:Nat) (P:List Bl),i < hs.length->ps[i]?=some P->∃(h:Hn) (b:Bl),hs[i]?=some h/\P[h.1]?=some b/\okHn b h)/\n+42*(ds.length:Int)<=n0+210
abbrev zqa1:List Str:=["_law_tape_here","_law_programs","_law_hands","_law_program_here","_law_block","_law_place","_law_names"]
theorem jkt:∀ws n Q,jk5 ws n Q->jfk (ja3 zqa1 ws) n {nx:=λ_ n=>Q (.d .none) n,rt:=Q}:=λws n0 Q h=>by
 obtain⟨ps,rfl,⟨hpl,hps⟩,hn0,k⟩:=h;show jfk [some (.w .tp),some (.w (.d (pgD ps))),none,none,none,none,none] n0 _;refine jaj (jc8 ?_);dsimp only[Ao];refine jaj ?_;unfold sFor jcl;refine jad rfl ?_;dsimp only[pgD];refine jbj (StI ps n0) (λδ n I=>?_) (λd r δ n N I kN=>?_) _ _ _ ⟨[],ps,none,none,none,none,rfl,rfl,rfl,Bm _,λi P hi=>absurd hi (Nat.not_lt_zero _),by rw[Ab];omega⟩
 ·obtain⟨hs,re,x4,x5,x6,x7,rfl,er,hre,hle,hok,hn⟩:=I;have e0:=D3.mp er.symm;rw[e0]at hre;have hlen:ps.length<=hs.length:=List.drop_eq_nil_iff.mp hre.symm;dsimp only;refine jgd rfl ?_;dsimp only[Ao];refine jbf (jb2 (b1_i (jad rfl (c2_i (jad rfl (c_i (De 6 ⟨rfl,by decide,by simp at hn;omega,λns n' hns hn'=>?_⟩)))))));exact Am (show 2<=1000 by decide) (k hs ns n' ⟨by omega,λi P hi=>hok i P (by have:=(At.mp hi).1;omega) hi⟩ hns (by simp at hn;omega))
 ·obtain⟨hs,re,x4,x5,x6,x7,rfl,er,hre,hle,hok,hn⟩:=I;obtain⟨P,re',rfl,rfl,rfl⟩:=C8.mp er.symm;rw[Ar,Ab]at hn;have hlt:hs.length < ps.length:=by
   have:=congrArg List.length hre;rw[Ar,Bx]at this;omega
  have hcons:=Dq hlt;rw[<-hre]at hcons;obtain⟨hP,hre'⟩:=Fi hcons;have hPg:ps[hs.length]?=some P:=by rw[Aj hlt,hP]
  obtain⟨g1,g2,g3⟩:=hps P (A6 hPg);dsimp only[jai,Ao];refine jaj (show sSet 4 _ _ _ _ from jd3 (m:=(P.map blD).length) rfl (λQ q=>b1_i (jad rfl q)) (by omega) (by rw[Ab];omega) (by rw[Ab];omega) λr r0 r1=>?_);rw[Ab]at r1;obtain⟨b,hb⟩:∃b:Nat,r=(b:Int):=⟨r.toNat,by omega⟩;subst hb;have hbl:b < P.length:=by omega
  obtain⟨bl,hbl'⟩:∃bl:Bl,P[b]?=some bl:=⟨P[b],Aj hbl⟩;obtain⟨w,as⟩:=bl;have hi':(P.map blD)[b]?=some (blD (w,as)):=by rw[Ay,hbl'];rfl
  obtain⟨ob,_⟩:=g3 (w,as) (A6 hbl');have has:as.length<=8:=ob.2.2.1;dsimp only[Ao];refine jaj (show sSet 5 _ _ _ _ from jd3 (m:=((as.map Ac.d).length:Int)+1) rfl (λQ q=>w2_i (b1_i (w2_i (w2_i (jad rfl (jad rfl (gN_i hi' (c_i (g1_i ?_)))))))) ) (by omega) (by omega) (by rw[Ab];omega) λr r0' r1'=>?_)
  ·exact addI q
  rw[Ab]at r1';obtain⟨p,hp⟩:∃p:Nat,r=(p:Int):=⟨r.toNat,by omega⟩;subst hp;dsimp only[Ao];refine jaj (show sSet 6 _ _ _ _ from b1_i (of_i ?_));unfold jcf jlv;dsimp only;refine c3_i (jad rfl (jad rfl (jad rfl (De P ⟨b,p,(w,as),rfl,hbl',ob,by show p<=as.length;omega,λys hnd hyo hup hmem=>?_⟩))));have hys:ys.length<=36:=A5 (jj1 hnd λz hz=>(hmem z).mp hz) (j1o ob p);dsimp only;refine jxi ys [] none _ (by omega) (λp hp=>by simp at hp) λnm n' hnm hnv hn'=>?_;rw[Fh,Ch]at hnm;have hnl:nm.length=ys.length:=by rw[<-hnm,Ab]
  have onm:okHn (w,as) (b,p,nm):=⟨by show p<=as.length;omega,by show(nm.map (·.1)).Nodup;rw[hnm];exact hnd,λq hq=>⟨hyo _ (by rw[<-hnm];exact Bo.mpr ⟨q,hq,rfl⟩),hnv q hq⟩,(by have q:upT (nm.map (·.1)):=(by rw[hnm];exact hup);unfold upT at q;rw[List.pairwise_map]at q;exact q),λk=>by show k∈nm.map (·.1)↔_;rw[hnm];exact hmem k,by show nm.length<=40;omega⟩;dsimp only[jby,Ao];refine jkz rfl (jlg (jad rfl (jad rfl (jad rfl ?_))));refine Am (show 3<=1000 by decide) (Am (by rw[Ab];omega) (kN _ _ ⟨hs++[(b,p,nm)],re',_,_,_,_,by rw[A9];rfl,rfl,by rw[Ah,Aq];exact hre',by rw[Ah,Aq];omega,λi P' hi hP'=>?_,by rw[Ab];omega⟩));rw[Ah,Aq]at hi;by_cases z:i < hs.length
  ·obtain⟨h,b',q1,q2,q3⟩:=hok i P' z hP';exact⟨h,b',by rw[Cl9 z];exact q1,q2,q3⟩
  ·have z':i=hs.length:=by omega
   subst z';rw[hPg]at hP';cases hP';exact⟨(b,p,nm),(w,as),by simp,hbl',onm⟩
theorem jlf {δ:Sl} {n:Int} {Q:DQ} {u:DTT} {v w:DT} {b:Bool} (hu:∀Q:Bool->Int->Prop,Q b n->u δ n Q) (k:if b=true then v δ n Q else w δ n Q):wIf u v w δ n Q:=hu _ k
theorem jua {α:Type} {c:DTT} {w:DT} {Q:List Ad->Int->Prop} {rest:Sl} (f g:α->Ad) (p:α->Bool):∀(xs:List α) (acc:List Ad) (x:Option SV) (n:Int),(∀a∈xs,∀(n:Int) (Q':Bool->Int->Prop),Q' (p a) n->c (some (.w (.d (f a)))::rest) n Q')->(∀a∈xs,∀(n:Int) (Q':DQ),Q' (.d (g a)) n->w (some (.w (.d (f a)))::rest) n Q')->Q (acc++(xs.filter p).map g) n->jcj (jai 0) c w Q (xs.map f) acc (x::rest) n
 |[],acc,x,n,_,_,q=>by rw[List.filter_nil,Fh,Bz]at q;exact q
 |a::r,acc,x,n,hp,h,q=>by
  simp only[Bi,jcj,jai,Ea];refine hp a A0 n _ ?_;cases e:p a with
  |true =>
   simp only[if_true];refine h a A0 n _ (jua f g p r (acc++[g a]) _ n (λb hb=>hp b (Au _ hb)) (λb hb=>h b (Au _ hb)) ?_);rw[List.filter_cons,if_pos e,Bi]at q;rw[Bn];exact q
  |false =>
   simp only[Ce,if_false];refine jua f g p r acc _ n (λb hb=>hp b (Au _ hb)) (λb hb=>h b (Au _ hb)) ?_;rw[List.filter_cons,if_neg (by rw[e];exact Ag)]at q;exact q
structure HandAt (ps:Pg) (hs:List Hn) (h:Nat) (P:List Bl) (xb xp:Nat) (nm:Nm) (w:List Str) (as:List Ac):Prop where
 prog:ps[h]?=some P
 hand:hs[h]?=some (xb,xp,nm)
 blk:P[xb]?=some (w,as)
 hn:okHn (w,as) (xb,xp,nm)
theorem jda {ps:Pg} {hs:List Hn} (ok:okHs ps hs) {h:Nat} (hh:h < ps.length):∃P xb xp nm w as,HandAt ps hs h P xb xp nm w as:=by
 have hP:ps[h]?=some ps[h]:=Aj hh;obtain⟨⟨xb,xp,xn⟩,⟨w,as⟩,e1,e2,e3⟩:=ok.2 h _ hP;exact⟨_,xb,xp,xn,w,as,hP,e1,e2,e3⟩
section
variable {ps:Pg} {hs:List Hn} {h:Nat} {P:List Bl} {xb xp:Nat} {nm:Nm} {w:List Str} {as:List Ac}
theorem HandAt.act (H:HandAt ps hs h P xb xp nm w as):actO ps hs h=as[xp]?:=by
 unfold actO;rw[H.prog,H.hand];show(P[xb]?.bind λb=>b.2[xp]?)=_;rw[H.blk];rfl
theorem HandAt.nms (H:HandAt ps hs h P xb xp nm w as):okN nm:=H.hn.n
theorem HandAt.nmq (H:HandAt ps hs h P xb xp nm w as):nmO hs h=nm:=by unfold nmO;rw[H.hand];rfl
theorem HandAt.ok (H:HandAt ps hs h P xb xp nm w as) (ok:okPg ps) {a:Ac} (e:actO ps hs h=some a):okA a:=by
 rw[H.act]at e;have hP:=(ok.2 P (A6 H.prog)).2.2 (w,as) (A6 H.blk);exact hP.1.2.2.2.1 a (A6 e)
theorem HandAt.hD (H:HandAt ps hs h P xb xp nm w as):(hs.map hnD)[h]?=some (.tuple [.int xb,.int xp,ja0 nm]):=by rw[Ay,H.hand];rfl
theorem HandAt.pD (H:HandAt ps hs h P xb xp nm w as):(ps.map prD)[h]?=some (.tuple (P.map blD)):=by rw[Ay,H.prog];rfl
theorem HandAt.bD (H:HandAt ps hs h P xb xp nm w as):(P.map blD)[xb]?=some (.tuple [jcg w,.tuple (as.map Ac.d)]):=by rw[Ay,H.blk];rfl
end
theorem jxy {δ:Sl} {n:Int} {Q:DQ} {i j xp:Nat} {as:List Ac} (e4:δ[j]?=some (some (.w (.d (.int xp))))) (e5:δ[i]?=some (some (.w (.d (.tuple (as.map Ac.d)))))) (k:Q (.d (acD as[xp]?)) n):wIf (cT (w2 (wVar j) (wB gLen (jab (wVar i) aNil)) gLt)) (w2 (wVar i) (wVar j) gIx) (wC .none) δ n Q:=by
 refine jlf (b:=decide ((xp:Int) < ((as.map Ac.d).length:Nat))) (λQ q=>ct_b (λQ q=>w2_i (jad e4 (b1_i (jad e5 (lt_i q))))) q) ?_;rw[Ab];by_cases z:(xp:Int) < (as.length:Nat)
 ·rw[if_pos (decide_eq_true z)];have zl:xp < as.length:=by omega
  have ha:(as.map Ac.d)[xp]?=some (Ac.d as[xp]):=by rw[Ay,Aj zl];rfl
  rw[Aj zl]at k;exact w2_i (jad e5 (jad e4 (gN_i ha k)))
 ·rw[if_neg (by simpa using z)];rw[Fp (by omega)]at k;exact c_i k
theorem jih:∀ws n Q,jck ws n Q->ws.length=3:=λws n Q h=>by obtain⟨_,_,_,_,rfl,_⟩:=h;rfl
theorem jhi:∀ws n Q,jck ws n Q->ws.length=3:=jih
theorem jot:∀ws n Q,jck ws n Q->jhz (ja3 ["programs","stand","hand","block","place","acts"] ws) n {nx:=λ_ n=>Q (.d .none) n,rt:=Q}:=λws n Q h=>by
 obtain⟨ps,hs,ns,h,rfl,hok,hh,k⟩:=h;obtain⟨P,xb,xp,nm,w,as,H⟩:=jda hok hh;rw[H.act]at k;show jhz [some (.w (.d (pgD ps))),some (.w (.d (stD hs ns))),some (.w (.d (.int h))),none,none,none] n _;refine jaj (ja6 (x:=.int xb) (λQ q=>w2_i (w2_i (w2_i (jad rfl (c_i (g0_i (jad rfl (gN_i H.hD (c_i (g0_i q)))))))))) ?_);dsimp only[Ao];refine jaj (ja6 (x:=.int xp) (λQ q=>w2_i (w2_i (w2_i (jad rfl (c_i (g0_i (jad rfl (gN_i H.hD (c_i (g1_i q)))))))))) ?_);dsimp only[Ao];refine jaj (ja6 (x:=.tuple (as.map Ac.d)) (λQ q=>w2_i (w2_i (w2_i (jad rfl (jad rfl (gN_i H.pD (jad rfl (gN_i H.bD (c_i (g1_i q)))))))))) ?_);dsimp only[Ao];exact jbf (jxy rfl rfl k)
abbrev zqe1:List Str:=["_law_programs","_law_stand_here","_law_hand","_law_block","_law_place","_law_names","_law_acts"]
theorem jg5:∀ws n Q,jck ws n Q->jdh (ja3 zqe1 ws) n {nx:=λ_ n=>Q (.d .none) n,rt:=Q}:=λws n Q h=>by
 obtain⟨ps,hs,ns,h,rfl,hok,hh,k⟩:=h;obtain⟨P,xb,xp,nm,w,as,H⟩:=jda hok hh;rw[H.act]at k;show jdh [some (.w (.d (pgD ps))),some (.w (.d (stD hs ns))),some (.w (.d (.int h))),none,none,none,none] n _;refine jaj ?_;unfold sUnp;refine w2_i (w2_i (jad rfl (c_i (g0_i (jad rfl (gN_i H.hD ?_))))));refine Am rfl ?_;dsimp only[jax,jb5,jai,Ao];refine jaj (ja6 (x:=.tuple (as.map Ac.d)) (λQ q=>w2_i (w2_i (w2_i (jad rfl (jad rfl (gN_i H.pD (jad rfl (gN_i H.bD (c_i (g1_i q)))))))))) ?_);dsimp only[Ao];exact jbf (jxy rfl rfl k)
section
variable {δ:Sl} {n:Int} {K:DEnds} {a v:Ad} {r:List Ad} {x:Str} {hp:Nm} {hs:List Str} {W V:DST}
theorem j1r {b:Bool} (e:δ[8]?=some (some (.w (.d (.bool b))))) (kT:b=true->K.nx δ n) (kF:b=false->K.rt (.d .none) n):sIf (cNot (cT (wVar 8))) (sRet (wC .none)) jas δ n K:=by
 refine if_i (jta (k:=b) (λQ q=>ct_b (λQ q=>jad e q) q) ?_);cases b with
 |true=>exact kT rfl
 |false=>exact kF rfl
def knB (hp:Nm) (x:Str) (v:Ad):Bool:=((look hp x).map λw=>eqB w v).getD false
theorem j1n (e5:δ[5]?=some (some (.w (.d (.tuple (a::.str x::r)))))) (e3:δ[3]?=some (some (.odk (txK hp)))) (e6:δ[6]?=some (some (.w (.d v)))) (hv:isV v=true) (hok:∀p∈hp,okV p) (k:K.nx (δ.set 8 (some (.w (.d (.bool (knB hp x v)))))) n) :
  sSet 8 (wAnd (w2 (w2 (wVar 5) (wC (.int 1)) gIx) (jb1 3) (gDIn false)) (w2 (w2 (jb1 3) (w2 (wVar 5) (wC (.int 1)) gIx) jew) (wVar 6) gEq)) δ n K:=by
 unfold sSet wAnd;refine w2_i (jcp e5 ?_);have pk:∀(n:Int) (Q:DQ),Q (.dk (txK hp)) n->jb1 3 δ n Q:=λn Q q=>by unfold jb1;rw[e3];exact q
 refine pk _ _ ?_;show ji7 (.d (.bool (valD (txK hp) (.inr x)).isSome)) _ _;rw[jek];unfold knB at k;cases q:look hp x with
 |none=>rw[q]at k;exact k
 |some w =>
  rw[q]at k;rw[Option.isSome_some,jxu,if_pos rfl];refine w2_i (w2_i (pk _ _ (jcp e5 ?_)));unfold jew;simp only[jek,q];refine jad e6 ?_;unfold gEq;simp only[jt4 (hok _ (jcw q)).2 hv];exact k
theorem j6p {l:List (Fd×Ad)} {g:Fd} (hg:g=.as x\/g=.bind x/\x∈hs):wk ((g,v)::l) hp hs=if knB hp x v=true then wk l hp hs else none:=by
 unfold knB;rcases hg with rfl | ⟨rfl,hx⟩
 ·rw[wk];cases q:look hp x with
  |none=>rw[Option.map_none,Option.getD_none,if_neg Ag]
  |some w=>rw[Ez,Option.getD_some]
 ·rw[wk,if_pos hx];cases q:look hp x with
  |none=>rw[Option.map_none,Option.getD_none,if_neg Ag]
  |some w=>rw[Ez,Option.getD_some]
theorem inv2 {s a b:Str} {k:Bool} {Q:Bool->Int->Prop} {i:Nat} (e:δ[i]?=some (some (.w (.d (.str s))))) (h:inD (.str s) [.str a,.str b]=k) (q:Q k n):cT (w2 (wVar i) (wTup (jab (wC (.str a)) (jab (wC (.str b)) aNil))) (gIn false)) δ n Q:=by
 refine w2_i (jad e ?_);show 2<=1000/\jdz (.str s)=true/\_/\Q (inD (.str s) [.str a,.str b]) n;exact⟨by decide,rfl,rfl,by rw[h];exact q⟩
theorem j7z (s:Str) (e7:δ[7]?=some (some (.w (.d (.str s))))) (h1:jat "as" (.str s)=false) (h2:jat "bind" (.str s)=false) (hF:V δ n K) :
  sIf (cOr (cT (w2 (wVar 7) (wC (.str "as")) gEq)) (cAnd (cT (w2 (wVar 7) (wC (.str "bind")) gEq)) (cT (jmh 4 (w2 (wVar 5) (wC (.int 1)) gIx))))) W V δ n K:=by
 refine if_n (λQ q=>jhu (λQ q=>jg0 e7 ?_) (jnb (λQ q=>jg0 e7 ?_) q)) hF
 ·show Q (jat "as" (.str s)) n;rw[h1];exact q
 ·show Q (jat "bind" (.str s)) n;rw[h2];exact q
theorem j70 (e7:δ[7]?=some (some (.w (.d (.str "bind"))))) (e5:δ[5]?=some (some (.w (.d (.tuple [.str "bind",.str x]))))) (e4:δ[4]?=some (some (.own (hs.map .str)))) (hT:x∈hs->W δ n K) (hF:x∉hs->V δ n K) :
  sIf (cOr (cT (w2 (wVar 7) (wC (.str "as")) gEq)) (cAnd (cT (w2 (wVar 7) (wC (.str "bind")) gEq)) (cT (jmh 4 (w2 (wVar 5) (wC (.int 1)) gIx))))) W V δ n K:=by
 refine if_i (jhu (λQ q=>jg0 e7 ?_) (jko (λQ q=>jg0 e7 ?_) ?_))
 ·show Q (jat "as" (.str "bind")) n;rw[jt0];exact q
 ·show Q (jat "bind" (.str "bind")) n;rw[je6];exact q
 ·unfold cT jmh;refine jcp e5 ?_;rw[e4];refine⟨rfl,jgz hs,?_⟩;show if inD (.str x) (hs.map .str)=true then _ else _
  rw[jhk];exact jxa hT hF
end
theorem j7c {δ:Sl} {n:Int} {K:DEnds} {W:DST} {i:Nat} {kvs:List (Key×Ad)} (e:δ[i]?=some (some (.odk kvs))) (k:W (δ.set i (some (.w (.ob (.k kvs))))) n K):sFrz i W δ n K:=by
 unfold sFrz;rw[e];exact k
def resW:Option Nm->Wv
 |none=>.d .none
 |some h=>.ob (.k (txK h))
theorem j3z {fs:List Fd} {row:List Ad} {nm:Nm} (h:¬fs.length=row.length):fitW fs row nm=.d .none:=by
 unfold fitW fitB;rw[decide_eq_false h,if_neg (by rw[Bool.false_and];exact Ag)]
theorem j30 {fs:List Fd} {row:List Ad} {nm:Nm} (h:fs.length=row.length):fitW fs row nm=resW (wk (fs.zip row) nm []):=by
 unfold fitW fitB wkN;rw[decide_eq_true h,Bool.true_and];cases wk (fs.zip row) nm []with
 |none=>rw[if_neg (by rw[Option.isSome_none];exact Ag)];rfl
 |some x=>rw[if_pos (show(some x).isSome=true from rfl)];rfl
theorem jpv:∀ws n Q,jqy ws n Q->ws.length=3:=λws n Q h=>by obtain⟨_,_,_,rfl,_⟩:=h;rfl
abbrev zqv:List Str:=["_law_pattern_here","_law_row","_law_names","_law_has","_law_mine","_law_field","_law_value_here","_law_word","_law_good"]
theorem jow:∀ws n Q,jqy ws n Q->jfx (ja3 zqv ws) n {nx:=λ_ n=>Q (.d .none) n,rt:=Q}:=λws n Q h=>by
 obtain⟨fs,row,nm,rfl,okp,okr,okn,k⟩:=h;show jfx [some (.w (.d (patD fs))),some (.w (.d (.tuple row))),some (.w (.d (ja0 nm))),none,none,none,none,none,none] n {nx:=λ_ n=>Q (.d .none) n,rt:=Q};unfold jfx;refine jaj (j1p (xs:=fs.map Fd.d) (ys:=row) rfl rfl (λne=>?_) λel=>?_)
 ·show Q (.d .none) n;rw[Ab]at ne;rw[j3z ne]at k;exact k
 ·rw[Ab]at el;rw[j30 el]at k;dsimp only[jas];refine jaj (jft rfl okn ?_);dsimp only[Ao];refine jaj (jc8 ?_);dsimp only[Ao];refine jaj (jw4 (xs:=fs.map Fd.d) (ys:=row) rfl rfl (by rw[Ab];exact el) ?_);refine jbj (λds δ m=>m=n/\∃(gs:List Fd) (vs:List Ad) (hp:Nm) (hs:List Str) (y z u t:Option SV),ds=zipD (gs.map Fd.d) vs/\gs.length=vs.length/\δ=[some (.w (.d (patD fs))),some (.w (.d (.tuple row))),some (.w (.d (ja0 nm))),some (.odk (txK hp)),some (.own (hs.map .str)),y,z,u,t] /\
   (∀g∈gs,g.ok)/\(∀d∈vs,isV d=true)/\(hp.map (·.1)).Nodup/\(∀p∈hp,okV p)/\hp.length+gs.length<=48/\hs.length+gs.length<=48/\Q (resW (wk (gs.zip vs) hp hs)) n) ?_ ?_ _ _ _ ?_
  ·rintro δ m ⟨rfl,gs,vs,hp,hs,y,z,u,t,e,hl,rfl,gok,vok,nd,hok,l1,l2,kq⟩
   have:gs=[]:=by
    cases gs with
    |nil=>rfl
    |cons g gs=>cases vs with | nil=>cases hl | cons v vs=>cases e
   subst this;dsimp only;refine j7c rfl ?_;dsimp only[Ao];exact jbf (jad rfl (show Q (.ob (.k (txK hp))) m from kq))
  ·rintro d r δ m N ⟨rfl,gs,vs,hp,hs,y,z,u,t,e,hl,rfl,gok,vok,nd,hok,l1,l2,kq⟩ hN
   cases gs with
   |nil=>cases e
   |cons g gs =>
    cases vs with
    |nil=>cases hl
    |cons v vs =>
     have e1:d=.tuple [g.d,v]:=by have:=congrArg (λl=>l.head?) e;simpa[zipD]using this
     have e2:r=zipD (gs.map Fd.d) vs:=by have:=congrArg List.tail e;simpa[zipD]using this
     subst e1 e2;rw[Ar]at l1 l2;rw[Ar,Ar]at hl;have gk:=gok g A0;have vk:=vok v A0;rw[Gi]at kq;have no:(wk ((g,v)::gs.zip vs) hp hs=none)->Q (.d .none) m:=λw=>by rw[w]at kq;exact kq
     have go:∀(hp':Nm) (hs':List Str) (y z u t:Option SV),wk ((g,v)::gs.zip vs) hp hs=wk (gs.zip vs) hp' hs'->(hp'.map (·.1)).Nodup->(∀p∈hp',okV p)->hp'.length<=hp.length+1->hs'.length<=hs.length+1 ->
       N [some (.w (.d (patD fs))),some (.w (.d (.tuple row))),some (.w (.d (ja0 nm))),some (.odk (txK hp')),some (.own (hs'.map .str)),y,z,u,t] m:=λhp' hs' y z u t hw a1 a2 a3 a4 =>
      hN _ _ ⟨rfl,gs,vs,hp',hs',y,z,u,t,rfl,by omega,rfl,λg hg=>gok g (Au _ hg),λd hd=>vok d (Au _ hd),a1,a2,by omega,by omega,by rw[<-hw];exact kq⟩
     have fin:∀(b:Bool) (y z u:Option SV) (hw:wk ((g,v)::gs.zip vs) hp hs=if b=true then wk (gs.zip vs) hp hs else none),sIf (cNot (cT (wVar 8))) (sRet (wC .none)) jas [some (.w (.d (patD fs))),some (.w (.d (.tuple row))),some (.w (.d (ja0 nm))),some (.odk (txK hp)),some (.own (hs.map .str)),y,z,u,some (.w (.d (.bool b)))] m {nx:=N,ct:=N,bk:=λδ n_1=>sFrz 3 (sRet (wVar 3)) δ n_1 {nx:=λ_ n=>Q (.d .none) n,rt:=Q},rt:=Q}:=λb y z u hw =>
      j1r rfl (λz'=>go hp hs _ _ _ _ (by rw[hw,if_pos z']) nd hok (by omega) (by omega)) (λz'=>no (by rw[hw,if_neg (by rw[z'];exact Ag)]))
     refine⟨rfl,?_⟩;dsimp only[jax,jai,jb5,Ao];refine jaj (ja6 (x:=.str g.hd) (λQ q=>jdj (r:=g.tl) (by rw[Fd.parts];rfl) q) ?_);dsimp only[Ao];refine jaj (ja6 (x:=.bool true) (λQ q=>c_i q) ?_);dsimp only[Ao];cases g with
     |any =>
      refine jaj (jty (d:=.str "any") rfl jp5 (if_n (λQ q=>inv2 (s:="any") rfl (by decide +kernel) q) (j7z "any" rfl (by decide +kernel) (by decide +kernel) (jty (d:=.str "any") rfl (by decide +kernel) ?_))));dsimp only[jas];exact fin true _ _ _ (by rw[wk,if_pos rfl])
     |is w =>
      refine jaj (j62 (d:=.str "is") rfl jjc (ja6 (x:=.bool (eqB w v)) (λQ q=>w2_i (jcp (a:=.str "is") (b:=w) (r:=[]) rfl (jad rfl ?_))) ?_))
      ·unfold gEq;simp only[jt4 (show isV w=true from gk) vk];exact q
      dsimp only[Ao];exact fin _ _ _ _ (by rw[wk])
     |word =>
      refine jaj (jty (d:=.str "word") rfl jm6 (if_y (λQ q=>inv2 (s:="word") rfl (by decide +kernel) q) (ja6 (x:=.bool (isSt v)) (λQ q=>w2_i ?_) ?_)))
      ·unfold wIsi;refine jad rfl (jg0 (d:=.str "word") rfl ?_);rw[jp4];cases v with
       |str s=>rw[jhj];exact q
       |int i=>rw[jhj];exact q
       |_=>cases vk
      dsimp only[Ao];exact fin _ _ _ _ (by rw[wk])
     |number =>
      refine jaj (jty (d:=.str "number") rfl jii (if_y (λQ q=>inv2 (s:="number") rfl (by decide +kernel) q) (ja6 (x:=.bool (isIn v)) (λQ q=>w2_i ?_) ?_)))
      ·unfold wIsi;refine jad rfl (jg0 (d:=.str "number") rfl ?_);rw[jlw];cases v with
       |str s=>rw[jhj];exact q
       |int i=>rw[jhj];exact q
       |_=>cases vk
      dsimp only[Ao];exact fin _ _ _ _ (by rw[wk])
     |as x =>
      refine jaj (jty (d:=.str "as") rfl jjd (if_n (λQ q=>inv2 (s:="as") rfl (by decide +kernel) q) (if_y (λQ q=>jt8 (λQ q=>jg0 (d:=.str "as") rfl ?_) q) (j1n (a:=.str "as") (x:=x) (r:=[]) rfl rfl rfl vk hok ?_))))
      ·show Q (jat "as" (.str "as")) m;rw[jzt];exact q
      dsimp only[Ao];exact fin _ _ _ _ (j6p (.inl rfl))
     |bind x =>
      refine jaj (jty (d:=.str "bind") rfl jm7 (if_n (λQ q=>inv2 (s:="bind") rfl (by decide +kernel) q) (j70 (hs:=hs) rfl rfl rfl (λhx=>j1n (a:=.str "bind") (x:=x) (r:=[]) rfl rfl rfl vk hok ?_) λhx=>j62 (d:=.str "bind") rfl je6 ?_)))
      ·dsimp only[Ao];exact fin _ _ _ _ (j6p (.inr ⟨rfl,hx⟩))
      ·refine jaj ?_;unfold jlh;refine(show(match some (some (SV.odk (txK hp)))with | some (some (.odk kvs))=>_ | _=>False)from ?_);refine jad rfl (jcp (a:=.str "bind") (b:=.str x) (r:=[]) rfl ⟨by unfold txK;rw[Ab];omega,?_⟩);rw[jpl];dsimp only[Ao];refine jrx (x:=.str x) (es:=hs.map .str) rfl (λQ q=>jcp (a:=.str "bind") (b:=.str x) (r:=[]) rfl q) (by rw[Ab];omega) ?_;dsimp only[Ao];have:=go (put hp x v) (hs++[x]) (some (.w (.d (.tuple [.str "bind",.str x])))) (some (.w (.d v))) (some (.w (.d (.str "bind")))) (some (.w (.d (.bool true)))) (by rw[wk,if_neg hx]) (jvx nd) (jmv hok gk vk) (jjx _ _ _) (by rw[Ah];exact An _);rw[A9]at this;exact j1r (b:=true) rfl (λ_=>this) (λz=>by cases z)
  ·exact⟨rfl,fs,row,nm,[],none,none,none,none,rfl,el,rfl,okp.2.2,okr.2,okn.2.1,okn.2.2,by have:=okp.2.1;have:=okn.1;omega,by have:=okp.2.1;simpa using A5 this (by decide),k⟩
theorem jsz:∀{row:List Ad},(∀d∈row,isV d=true)->∃k:List Key,row=k.map DL.vD
 |[],_=>⟨[],rfl⟩
 |d::r,h=>by
  obtain⟨k,rfl⟩:=jsz λe he=>h e (Au _ he);have hd:=h d A0;cases d with
  |int i=>exact⟨.inl i::k,rfl⟩
  |str x=>exact⟨.inr x::k,rfl⟩
  |_=>cases hd
theorem ji9 (k:Int) (m:Nat):rngD k (m+1)=.int k::rngD (k+1) m:=by
 unfold rngD;rw[List.range_succ_eq_map,Bi,Dg]
 congr 1
 ·rw[show((0:Nat):Int)=0 from rfl,Int.add_zero]
 ·refine C1 λi _=>?_;show E3 (k+((i+1:Nat):Int))=.int (k+1+(i:Int));have:k+((i+1:Nat):Int)=k+1+(i:Int):=by omega
  rw[this]
theorem fd_d {f:Fe} (h:f.pt=true):(Fe.fd f).d=f.d:=by cases f<;>first | rfl | cases h
theorem jm8 {fs:List Fe} (ok:okFs fs) (h:patO fs):fsD fs=patD (fs.map Fe.fd)/\okP (fs.map Fe.fd):=by
 refine⟨?_,by rw[Ab];exact h.1,by rw[Ab];exact ok.1,λg hg=>?_⟩
 ·unfold fsD patD;rw[Dg]
  congr 1
  exact C1 λf hf=>(fd_d (h.2 f hf)).symm
 ·obtain⟨f,hf,rfl⟩:=Bo.mp hg;have:=ok.2 f hf;cases f<;>first | exact this | trivial
theorem j0n {a:Ac} (h:a.pf=none):a.wt=false/\∃s r,a.d=.tuple (.str s::r)/\inD (.str s) [.str "take",.str "read",.str "look"]=false/\inD (.str s) [.str "take",.str "read"]=false:=by
 cases a with
 |lay fs age=>exact⟨rfl,"lay",_,rfl,by decide +kernel,by decide +kernel⟩
 |same f g b=>exact⟨rfl,"same",_,rfl,by decide +kernel,by decide +kernel⟩
 |go b=>exact⟨rfl,"go",_,rfl,by decide +kernel,by decide +kernel⟩
 |take fs=>cases h
 |read fs=>cases h
 |look fs b=>cases h
theorem jqq {a:Ac} {fs:List Fd} (h:a.pf=some fs) (ok:okA a):okP fs/\∃s r,a.d=.tuple (.str s::patD fs::r)/\inD (.str s) [.str "take",.str "read",.str "look"]=true/\inD (.str s) [.str "take",.str "read"]=a.wt:=by
 cases a with
 |lay fs age=>cases h
 |same f g b=>cases h
 |go b=>cases h
 |take gs =>
  cases h;obtain⟨e,o⟩:=jm8 (fs:=gs) ok.1 ok.2;exact⟨o,"take",[],by rw[<-e];rfl,by decide +kernel,show inD (.str "take") [.str "take",.str "read"]=true by decide +kernel⟩
 |read gs =>
  cases h;obtain⟨e,o⟩:=jm8 (fs:=gs) ok.1 ok.2;exact⟨o,"read",[],by rw[<-e];rfl,by decide +kernel,show inD (.str "read") [.str "take",.str "read"]=true by decide +kernel⟩
 |look gs b =>
  cases h;obtain⟨e,o⟩:=jm8 (fs:=gs) ok.1 ok.2;exact⟨o,"look",[.int b],by rw[<-e];rfl,by decide +kernel,show inD (.str "look") [.str "take",.str "read"]=false by decide +kernel⟩
theorem jzz (fs:List Fd) (row:List Ad) (nm:Nm):jcy (fitD fs row nm)=!fitB fs row nm:=by
 unfold fitD;cases fitB fs row nm<;>rfl
theorem jje {fs:List Fd} {nm:Nm} {q:Nt} {r:List Nt}:fstO fs nm (q::r)=if fitB fs q.1 nm=true then some 0 else(fstO fs nm r).map (·+1):=by
 unfold fstO;rw[List.findIdx?_cons]
theorem j3p {m:List (List Key×Ad)} {k k':List Key} {d:Ad} (h:inT (putT m k d) k'=true):k'=k\/inT m k'=true:=by
 unfold putT at h
 split at h
 ·unfold inT at h ⊢;rw[List.any_map,Dj]at h;obtain⟨p,hp,e⟩:=h;refine .inr (Dj.mpr ⟨p,hp,?_⟩);have e':=of_decide_eq_true e;dsimp only at e';by_cases z:p.1=k
  ·rw[if_pos z]at e';exact decide_eq_true e'
  ·rw[if_neg z]at e';exact decide_eq_true e'
 ·unfold inT at h ⊢;rw[List.any_append,Bool.or_eq_true]at h;rcases h with h | h
  ·exact .inr h
  ·simp at h;exact .inl h.symm
theorem jy1 {m:List (List Key×Ad)} {k:List Key} {d:Ad}:(putT m k d).length<=m.length+1:=by
 unfold putT
 split
 ·rw[Ab];omega
 ·rw[Ah];exact An _
section
variable {δ:Sl} {n:Int} {Q:DQ} {K:DEnds} {W V:DST} {i:Nat}
theorem jf8 {neg:Bool} {a:Ad} (k:Q (.d (.bool (if neg then !jcy a else jcy a))) n):gIsN neg (.d a) (.d .none) n Q:=k
theorem jlu {neg:Bool} {a:Ad} (k:Q (.d (.bool (if neg then !jcy a else jcy a))) n):gIsO neg (.d a) (.d .none) n Q:=.inr k
theorem j3n {neg:Bool} {o:Ob} (k:Q (.d (.bool neg)) n):gIsO neg (.ob o) (.d .none) n Q:=.inl ⟨o,rfl,rfl,k⟩
theorem j1h {s a b c:Str} {r:List Ad} {k:Bool} {Q:Bool->Int->Prop} (e:δ[i]?=some (some (.w (.d (.tuple (.str s::r)))))) (h:inD (.str s) [.str a,.str b,.str c]=k) (q:Q (!k) n):cT (w2 (w2 (wVar i) (wC (.int 0)) gIx) (wTup (jab (wC (.str a)) (jab (wC (.str b)) (jab (wC (.str c)) aNil)))) (gIn true)) δ n Q:=by
 refine w2_i (jdj e ?_);show 3<=1000/\jdz (.str s)=true/\_/\Q (!inD (.str s) [.str a,.str b,.str c]) n;exact⟨by decide,rfl,rfl,by rw[h];exact q⟩
theorem j6i {s a b:Str} {r:List Ad} {k:Bool} (e:δ[i]?=some (some (.w (.d (.tuple (.str s::r)))))) (h:inD (.str s) [.str a,.str b]=k) (q:Q (.d (.bool !k)) n):w2 (w2 (wVar i) (wC (.int 0)) gIx) (wTup (jab (wC (.str a)) (jab (wC (.str b)) aNil))) (gIn true) δ n Q:=by
 refine w2_i (jdj e ?_);show 2<=1000/\jdz (.str s)=true/\_/\Q (.d (.bool !inD (.str s) [.str a,.str b])) n;exact⟨by decide,rfl,rfl,by rw[h];exact q⟩
theorem j1g {s:Str} {hs:List Str} {r:List Ad} {k:Bool} {Q:Bool->Int->Prop} (e:δ[i]?=some (some (.w (.d (.tuple (.str s::r)))))) (h:inD (.str s) (hs.map .str)=k) (q:Q (!k) n):cT (jun hs (w2 (wVar i) (wC (.int 0)) gIx)) δ n Q:=by
 unfold cT jun;exact jdj e ⟨_,rfl,rfl,by rw[h];exact q⟩
theorem jtu {ps:Pg} {hs:List Hn} {ns:List Nt} {h i j l:Nat} (e0:δ[i]?=some (some (.w (.d (pgD ps))))) (e1:δ[j]?=some (some (.w (.d (stD hs ns))))) (e2:δ[l]?=some (some (.w (.d (.int h))))) (ok:okHs ps hs) (hh:h < ps.length) (k:Q (.d (acD (actO ps hs h))) n):jam jck (jab (wVar i) (jab (wVar j) (jab (wVar l) aNil))) δ n Q :=
 c3_i (jad e0 (jad e1 (jad e2 ⟨ps,hs,ns,h,rfl,ok,hh,k⟩)))
end
theorem jzm:∀ws n Q,jq1 ws n Q->ws.length=3:=λws n Q h=>by obtain⟨_,_,_,_,rfl,_⟩:=h;rfl
abbrev zqu1:List Str:=["programs","stand","hand","act","names","tried","place","note"]
theorem jxr:∀ws n Q,jq1 ws n Q->jxz (ja3 zqu1 ws) n {nx:=λ_ n=>Q (.d .none) n,rt:=Q}:=λws n Q h=>by
 obtain⟨ps,hs,ns,h,rfl,⟨okp,okh,okn⟩,hh,k⟩:=h;obtain⟨P,xb,xp,nm,w,as,H⟩:=jda okh hh;unfold gotO at k;rw[H.nmq]at k;show jxz [some (.w (.d (pgD ps))),some (.w (.d (stD hs ns))),some (.w (.d (.int h))),none,none,none,none,none] n _;refine jaj (ja6 (λQ q=>jtu rfl rfl rfl okh hh q) ?_);dsimp only[Ao];cases ea:actO ps hs h with
 |none =>
  rw[ea]at k;exact jaj (if_y (λQ q=>jt8 (λQ q=>ct_b (k:=true) (λQ q=>w2_i (jad rfl (c_i (jf8 q)))) q) q) (jbf (c_i k)))
 |some a =>
  rw[ea]at k;have k:Q (.d (natD (a.pf.bind λfs=>fstO fs nm ns))) n:=k;have oa:=H.ok okp ea;show sSeq _ _ [some (.w (.d (pgD ps))),some (.w (.d (stD hs ns))),some (.w (.d (.int h))),some (.w (.d a.d)),none,none,none,none] n _;have g1:∀(s:Str) (r:List Ad),jcy (PyData.tuple (.str s::r))=false:=λ_ _=>rfl;cases ef:a.pf with
  |none =>
   rw[ef]at k;obtain⟨_,s,r,e,h1,_⟩:=j0n ef;rw[e];exact jaj (if_y (λQ q=>jhu (λQ q=>ct_b (k:=false) (λQ q=>w2_i (jad rfl (c_i (jf8 q)))) q) (j1g rfl h1 q)) (jbf (c_i k)))
  |some fs =>
   rw[ef]at k;have k:Q (.d (natD (fstO fs nm ns))) n:=k;obtain⟨of,s,r,e,h1,_⟩:=jqq ef oa;rw[e];refine jaj (if_n (λQ q=>jhu (λQ q=>ct_b (k:=false) (λQ q=>w2_i (jad rfl (c_i (jf8 q)))) q) (j1g rfl h1 q)) ?_);dsimp only[jas];refine jaj (ja6 (x:=ja0 nm) (λQ q=>w2_i (w2_i (w2_i (jad rfl (c_i (g0_i (jad rfl (gN_i H.hD (c_i (g2_i q)))))))))) ?_);dsimp only[Ao];refine jaj (show jyt 5 _ _ _ from ?_);unfold jyt;dsimp only[Ao];refine jaj ?_;unfold sFor jp3;refine w2_i (jad rfl (c_i (g1_i ⟨ns.map ntD,.inl rfl,?_⟩)));refine jbj (λds δ m=>m=n/\∃(re:List Nt) (j:Nat) (kvs:List (List Key×Ad)) (x6 x7:Option SV),ds=ji1 j (re.map ntD)/\δ=[some (.w (.d (pgD ps))),some (.w (.d (stD hs ns))),some (.w (.d (.int h))),some (.w (.d (.tuple (.str s::patD fs::r)))),some (.w (.d (ja0 nm))),some (.odt kvs),x6,x7] /\
    (∀q∈re,okQ q)/\kvs.length+re.length<=100/\(∀key,inT kvs key=true->fitB fs (key.map DL.vD) nm=false)/\Q (.d (natD ((fstO fs nm re).map (·+j)))) n) (λδ m I=>?_) (λd r' δ m N I kN=>?_) _ _ _ ⟨rfl,ns,0,[],none,none,rfl,rfl,okn.2,by have:=okn.1;simpa using this,λkey z=>(by cases z),?_⟩
   ·obtain⟨rfl,re,j,kvs,x6,x7,ed,rfl,_,_,_,kq⟩:=I;have:re=[]:=by
     cases re with
     |nil=>rfl
     |cons q re=>rw[Bi,jfw]at ed;cases ed
    subst this;exact(show Q (.d .none) m from kq)
   ·obtain⟨rfl,re,j,kvs,x6,x7,ed,rfl,hre,hl,ht,kq⟩:=I;cases re with
    |nil=>cases ed
    |cons q re =>
     rw[Bi,jfw]at ed;obtain⟨rfl,rfl⟩:=Fi ed;rw[Ar]at hl;have oq:=hre q A0;obtain⟨key,ek⟩:=jsz oq.1.2;have nxt:∀kvs',kvs'.length<=kvs.length+1->(∀key,inT kvs' key=true->fitB fs (key.map DL.vD) nm=false)->fitB fs q.1 nm=false->N [some (.w (.d (pgD ps))),some (.w (.d (stD hs ns))),some (.w (.d (.int h))),some (.w (.d (.tuple (.str s::patD fs::r)))),some (.w (.d (ja0 nm))),some (.odt kvs'),some (.w (.d (.int j))),some (.w (.d (ntD q)))] m:=λkvs' a1 a2 a3=>by
      refine kN _ _ ⟨rfl,re,j+1,kvs',_,_,by rw[show((j+1:Nat):Int)=(j:Int)+1 from rfl],rfl,λx hx=>hre x (Au _ hx),by omega,a2,?_⟩;rw[jje,if_neg (by rw[a3];exact Ag),Option.map_map]at kq;have:((λx=>x+j) ∘ λx=>x+1)=λx=>x+(j+1):=funext λx=>by show x+1+j=x+(j+1);omega
      rw[this]at kq;exact kq
     refine⟨rfl,?_⟩;dsimp only[jax,jb5,jai,Ao];refine if_i (show jx7 5 _ _ _ _ from jdj rfl ⟨key,kvs,by rw[ek];rfl,rfl,?_⟩);show if (!inT kvs key)=true then _ else _
     cases et:inT kvs key with
     |true =>
      rw[if_neg (by rw[Bool.not_true];exact Ag)];exact nxt kvs (by omega) ht (by rw[ek];exact ht key et)
     |false =>
      rw[if_pos (show(!false)=true from rfl)];refine jaj (if_i (w2_i (c3_i (jcp rfl (jdj rfl (jad rfl ⟨fs,q.1,nm,rfl,of,oq.1,H.nms,?_⟩))))));refine c_i (jf8 ?_);show if (!jcy (fitD fs q.1 nm))=true then _ else _
      rw[jzz,Bool.not_not];cases eb:fitB fs q.1 nm with
      |true =>
       rw[if_pos rfl];rw[jje,if_pos eb,Ez,Nat.zero_add]at kq;exact jbf (jad rfl kq)
      |false =>
       rw[if_neg Ag];dsimp only[jas];refine c_i ⟨kvs,rfl,jdj rfl ⟨key,.bool true,rfl,by rw[ek];rfl,by omega,?_⟩⟩;dsimp only[Ao];refine nxt _ jy1 (λkey' z=>?_) eb;rcases j3p z with rfl | z
       ·rw[<-ek];exact eb
       ·exact ht key' z
   ·have:(λx:Nat=>x+0)=id:=rfl;rw[this,Option.map_id];exact k
theorem setw {δ:Sl} {n:Int} {K:DEnds} {i:Nat} {w:DT} {fs:List Fd} {row:List Ad} {nm:Nm} (h:∀Q:DQ,Q (fitW fs row nm) n->w δ n Q) (k:K.nx (δ.set i (some (.w (fitW fs row nm)))) n):sSet i w δ n K:=by
 refine h _ ?_
 revert k
 unfold fitW
 split<;>exact id
theorem sets {δ:Sl} {n:Int} {K:DEnds} {i:Nat} {w:DT} {o:Option (Nat×Nm)} (h:∀Q:DQ,Q (gotW o) n->w δ n Q) (k:K.nx (δ.set i (some (.w (gotW o)))) n):sSet i w δ n K:=by
 refine h _ ?_;cases o<;>exact k
theorem j8q (ps:Pg) (hs:List Hn) (ns:List Nt) (h:Nat):(gotP ps hs ns h).map (·.1)=gotO ps hs ns h:=by
 unfold gotP gotO;cases actO ps hs h with
 |none=>rfl
 |some a =>
  show((a.pf.bind _).map _)=a.pf.bind _;cases a.pf with
  |none=>rfl
  |some fs =>
   show((fstO fs (nmO hs h) ns).map _).map _=fstO fs (nmO hs h) ns;rw[Option.map_map];exact Option.map_id'
theorem jpu:∀ws n Q,jr0 ws n Q->ws.length=3:=λws n Q h=>by obtain⟨_,_,_,_,rfl,_⟩:=h;rfl
abbrev zqm1:List Str:=["_law_programs","_law_stand_here","_law_hand","_law_act_here","_law_place","_law_has"]
theorem jov:∀ws n Q,jr0 ws n Q->jh0 (ja3 zqm1 ws) n {nx:=λ_ n=>Q (.d .none) n,rt:=Q}:=λws n Q h=>by
 obtain⟨ps,hs,ns,h,rfl,⟨okp,okh,okn⟩,hh,k⟩:=h;obtain⟨P,xb,xp,nm,w,as,H⟩:=jda okh hh;unfold gotP at k;rw[H.nmq]at k;show jh0 [some (.w (.d (pgD ps))),some (.w (.d (stD hs ns))),some (.w (.d (.int h))),none,none,none] n _;refine jaj (ja6 (λQ q=>jtu rfl rfl rfl okh hh q) ?_);dsimp only[Ao];cases ea:actO ps hs h with
 |none =>
  rw[ea]at k;exact jaj (if_y (λQ q=>jt8 (λQ q=>ct_b (k:=true) (λQ q=>w2_i (jad rfl (c_i (jlu q)))) q) q) (jbf (c_i k)))
 |some a =>
  rw[ea]at k;have k:Q (gotW (a.pf.bind λfs=>(fstO fs nm ns).map λi=>(i,wkN fs (rowO ns i) nm))) n:=k;have oa:=H.ok okp ea;show sSeq _ _ [some (.w (.d (pgD ps))),some (.w (.d (stD hs ns))),some (.w (.d (.int h))),some (.w (.d a.d)),none,none] n _;cases ef:a.pf with
  |none =>
   rw[ef]at k;obtain⟨_,s,r,e,h1,_⟩:=j0n ef;rw[e];exact jaj (if_y (λQ q=>jhu (λQ q=>ct_b (k:=false) (λQ q=>w2_i (jad rfl (c_i (jlu q)))) q) (j1h rfl h1 q)) (jbf (c_i k)))
  |some fs =>
   rw[ef]at k;have k:Q (gotW ((fstO fs nm ns).map λi=>(i,wkN fs (rowO ns i) nm))) n:=k;obtain⟨of,s,r,e,h1,_⟩:=jqq ef oa;rw[e];refine jaj (if_n (λQ q=>jhu (λQ q=>ct_b (k:=false) (λQ q=>w2_i (jad rfl (c_i (jlu q)))) q) (j1h rfl h1 q)) ?_);dsimp only[jas];refine jaj ?_;unfold sFor jbe;refine b1_i (w2_i (jad rfl (c_i (g1_i ?_))));refine Am ⟨by omega,by rw[Ab];have:=okn.1;omega⟩ ?_;rw[Bp,Ab];refine jbj (λds δ m=>m=n/\∃(dn re:List Nt) (x6 x7:Option SV),ds=rngD (dn.length:Nat) re.length/\dn++re=ns/\δ=[some (.w (.d (pgD ps))),some (.w (.d (stD hs ns))),some (.w (.d (.int h))),some (.w (.d (.tuple (.str s::patD fs::r)))),x6,x7] /\
    Q (gotW ((fstO fs nm re).map λi=>(i+dn.length,wkN fs (rowO ns (i+dn.length)) nm))) n) (λδ m I=>?_) (λd r' δ m N I kN=>?_) _ _ _ ⟨rfl,[],ns,none,none,rfl,rfl,rfl,?_⟩
   ·obtain⟨rfl,dn,re,x6,x7,ed,en,rfl,kq⟩:=I;have:re=[]:=by
     cases re with
     |nil=>rfl
     |cons q re=>rw[Ar,ji9]at ed;cases ed
    subst this;exact(show Q (.d .none) m from kq)
   ·obtain⟨rfl,dn,re,x6,x7,ed,en,rfl,kq⟩:=I;cases re with
    |nil=>cases ed
    |cons q re =>
     rw[Ar,ji9]at ed;obtain⟨rfl,rfl⟩:=Fi ed;have hq:ns[dn.length]?=some q:=by rw[<-en];simp
     have oq:=okn.2 q (A6 hq);have hq':(ns.map ntD)[dn.length]?=some (.tuple [.tuple q.1,q.2]):=by rw[Ay,hq];rfl
     dsimp only[jai,Ao];refine jaj (setw (fs:=fs) (row:=q.1) (nm:=nm) (λQ q'=>?_) ?_)
     ·refine c3_i (jcp rfl ?_);refine w2_i (w2_i (w2_i (jad rfl (c_i (g1_i (jad rfl (gN_i hq' (c_i (g0_i ?_)))))))));refine w2_i (w2_i (w2_i (jad rfl (c_i (g0_i (jad rfl (gN_i H.hD (c_i (g2_i ?_)))))))));exact⟨fs,q.1,nm,rfl,of,oq.1,H.nms,q'⟩
     dsimp only[Ao];cases eb:fitB fs q.1 nm with
     |true =>
      rw[jje,if_pos eb,Ez,Nat.zero_add,show rowO ns dn.length=q.1 by unfold rowO;rw[hq];rfl]at kq;rw[show fitW fs q.1 nm=.ob (.k (txK (wkN fs q.1 nm))) by unfold fitW;rw[if_pos eb]];refine if_y (λQ q=>ct_b (k:=true) (λQ q=>w2_i (jad rfl (c_i (j3n q)))) q) (jbf (show jum _ _ _ _ _ from jad rfl (jad rfl ⟨_,_,rfl,rfl,kq⟩)))
     |false =>
      rw[show fitW fs q.1 nm=.d .none by unfold fitW;rw[if_neg (by rw[eb];exact Ag)]];refine if_n (λQ q=>ct_b (k:=false) (λQ q=>w2_i (jad rfl (c_i (jlu q)))) q) (kN _ _ ⟨rfl,dn++[q],re,_,_,?_,by rw[Bn];exact en,rfl,?_⟩)
      ·rw[Ah,Aq];rw[show((dn.length+1:Nat):Int)=(dn.length:Int)+1 from rfl]
      ·rw[jje,if_neg (by rw[eb];exact Ag),Option.map_map]at kq;have:((λi=>(i+dn.length,wkN fs (rowO ns (i+dn.length)) nm)) ∘ λx=>x+1)=λi=>(i+(dn++[q]).length,wkN fs (rowO ns (i+(dn++[q]).length)) nm):=funext λx=>by
        show(x+1+dn.length,wkN fs (rowO ns (x+1+dn.length)) nm)=_;have e:x+1+dn.length=x+(dn++[q]).length:=by rw[Ah,Aq];omega
        rw[e]
       rw[this]at kq;exact kq
   ·exact k
theorem j1x {ps:Pg} {hs:List Hn} {ns:List Nt} {h:Nat} {a:Ac} (e:actO ps hs h=some a):canB ps hs ns h=(!a.wt || (gotO ps hs ns h).isSome):=by unfold canB;rw[e];rfl
theorem jpt:∀ws n Q,jdi ws n Q->ws.length=3:=λws n Q h=>by obtain⟨_,_,_,_,rfl,_⟩:=h;rfl
theorem jpw:∀ws n Q,jdi ws n Q->ws.length=3:=jpt
theorem j8p {a:Ac} (oa:okA a):∃s r,a.d=.tuple (.str s::r)/\inD (.str s) [.str "take",.str "read"]=a.wt:=by
 cases ef:a.pf with
 |none =>
  obtain⟨hw,s,r,e,_,h2⟩:=j0n ef;exact⟨s,r,e,by rw[h2,hw]⟩
 |some fs =>
  obtain⟨_,s,r,e,_,h2⟩:=jqq ef oa;exact⟨s,_,e,h2⟩
abbrev zqx1:List Str:=["_law_programs","_law_stand_here","_law_hand","_law_act_here"]
theorem jox:∀ws n Q,jdi ws n Q->jh1 (ja3 zqx1 ws) n {nx:=λ_ n=>Q (.d .none) n,rt:=Q}:=λws n Q h=>by
 obtain⟨ps,hs,ns,h,rfl,ok,hh,k⟩:=h;obtain⟨P,xb,xp,nm,w,as,H⟩:=jda ok.2.1 hh;show jh1 [some (.w (.d (pgD ps))),some (.w (.d (stD hs ns))),some (.w (.d (.int h))),none] n _;refine jaj (ja6 (λQ q=>jtu rfl rfl rfl ok.2.1 hh q) ?_);dsimp only[Ao];cases ea:actO ps hs h with
 |none =>
  unfold canB at k;rw[ea]at k;exact jaj (if_y (λQ q=>ct_b (k:=true) (λQ q=>w2_i (jad rfl (c_i (jlu q)))) q) (jbf (c_i k)))
 |some a =>
  rw[j1x ea]at k;obtain⟨s,r,e,h2⟩:=j8p (H.ok ok.1 ea);show sSeq _ _ [some (.w (.d (pgD ps))),some (.w (.d (stD hs ns))),some (.w (.d (.int h))),some (.w (.d a.d))] n _;rw[e];refine jaj (if_n (λQ q=>ct_b (k:=false) (λQ q=>w2_i (jad rfl (c_i (jlu q)))) q) ?_);dsimp only[jas];refine jbf (show wOr _ _ _ _ _ from j6i rfl h2 ?_);rw[jxu];cases hw:a.wt with
  |false=>rw[hw]at k;exact k
  |true =>
   rw[hw]at k;rw[if_neg (by decide)];refine w2_i (c3_i (jad rfl (jad rfl (jad rfl ⟨ps,hs,ns,h,rfl,ok,hh,c_i ?_⟩))));rw[<-j8q]at k;cases eg:gotP ps hs ns h with
   |none=>rw[eg]at k;exact jlu k
   |some i=>rw[eg]at k;exact j3n k
theorem jz8 {Q:List Ad->Int->Prop} {ps:Pg} {hs:List Hn} {ns:List Nt} {n:Int} (ok:okSt ps hs ns) (k:Q (rdyL ps hs ns) n):jcj (jai 0) (cT (jam jdi (jab (wVar 1) (jab (wVar 2) (jab (wVar 0) aNil))))) (wVar 0) Q (rngD 0 ps.length) [] [none,some (.w (.d (pgD ps))),some (.w (.d (stD hs ns)))] n:=by
 have e:rngD 0 ps.length=(Bq ps.length).map λh=>.int (h:Nat):=by
  unfold rngD;exact C1 λi _=>by rw[Int.zero_add]
 rw[e];refine jua (λh:Nat=>E3 (h:Nat)) (λh:Nat=>E3 (h:Nat)) (canB ps hs ns) _ [] none n (λh hh n Q' q=>?_) (λh hh n Q' q=>jad rfl q) (by rw[Ch];exact k);exact c3_i (jad rfl (jad rfl (jad rfl ⟨ps,hs,ns,h,rfl,ok,C7.mp hh,q⟩)))
section
variable {δ:Sl} {n:Int} {Q:DQ} {w u:DT} {ds i j:List Ad}
theorem jz5 (xs:List Ad) {p:Nat} (hp:p<=xs.length):cutD xs (some (p:Int)) none=xs.drop p:=by
 unfold cutD;rw[HT.sIx_nat,HT.sIx_none,Nat.min_eq_left hp];exact Cy (by rw[Bx];exact An _)
theorem jyb (k:w δ n λx n1=>match je4 [x]with
  |some ds=>ds.length<=1000/\Q (.d (.tuple ds)) n1
  |none=>False):wTup (jab w aNil) δ n Q:=k
theorem jsc {p:Nat} (hw:∀Q:DQ,Q (.d (.tuple ds)) n->w δ n Q) (hu:∀Q:DQ,Q (.d (.int p)) n->u δ n Q) (hp:p<=ds.length) (k:Q (.d (.tuple (ds.take p))) n):jbz w jb8 (jb7 u) δ n Q:=by
 unfold jbz;refine hw _ ?_;dsimp only[jb8,jb7];refine hu _ ?_;dsimp only;rw[j1w _ hp];exact k
theorem jsd {p:Nat} (hw:∀Q:DQ,Q (.d (.tuple ds)) n->w δ n Q) (hu:∀Q:DQ,Q (.d (.int p)) n->u δ n Q) (hp:p<=ds.length) (k:Q (.d (.tuple (ds.drop p))) n):jbz w (jb7 u) jb8 δ n Q:=by
 unfold jbz;refine hw _ ?_;dsimp only[jb8,jb7];refine hu _ ?_;dsimp only;rw[jz5 _ hp];exact k
theorem jin (h:i.length+j.length<=1000000) (k:Q (.d (.tuple (i++j))) n):jeb (.d (.tuple i)) (.d (.tuple j)) n Q:=by
 cases i with
 |nil=>exact k
 |cons a r=>exact⟨.inl (λz=>nomatch z),A5 h (by decide),k⟩
end
theorem jps:∀ws n Q,jk4 ws n Q->ws.length=1:=λws n Q h=>by obtain⟨_,rfl,_⟩:=h;rfl
theorem jou:∀ws n Q,jk4 ws n Q->jnd (ja3 ["thing"] ws) n {nx:=λ_ n=>Q (.d .none) n,rt:=Q}:=λws n Q h=>by
 obtain⟨i,rfl,k⟩:=h;exact k
theorem jn1:∀ws n Q,jg6 ws n Q->ws.length=2:=λws n Q h=>by obtain⟨_,_,rfl,_⟩:=h;rfl
abbrev zqv1:List Str:=["thing","most"]
theorem jl9:∀ws n Q,jg6 ws n Q->jgg (ja3 zqv1 ws) n {nx:=λ_ n=>Q (.d .none) n,rt:=Q}:=λws n Q h=>by
 obtain⟨i,m,rfl,h0,h1,k⟩:=h;show jgg [some (.w (.d (.int i))),some (.w (.d (.int m)))] n _;exact jbf (j89 (λQ q=>c1_i (jad rfl ⟨i,rfl,q⟩)) (j4c (λQ q=>c_i q) (λQ q=>jad rfl q) (λQ q=>jad rfl q) h0 (by rw[decide_eq_true h1];exact k)))
theorem jll:∀ws n Q,jx1 ws n Q->ws.length=1:=λws n Q h=>by obtain⟨_,rfl,_⟩:=h;rfl
theorem jkp:∀ws n Q,jx1 ws n Q->jfg (ja3 ["value"] ws) n {nx:=λ_ n=>Q (.d .none) n,rt:=Q}:=λws n Q h=>by
 obtain⟨v,rfl,hv,k⟩:=h;show jfg [some (.w (.d v))] n {nx:=λ_ n=>Q (.d .none) n,rt:=Q};cases v with
 |str x=>exact k
 |int i =>
  have k:Q (.d (if i=99 then E3 0 else E3 (i+1))) n:=k;show if decide (i=99)=true then Q (.d (.int 0)) n else Q (.d (.int (i+1))) n
  refine jxa (λe=>?_) λe=>?_
  ·rw[if_pos e]at k;exact k
  ·rw[if_neg e]at k;exact k
 |_=>cases hv
theorem jj5:∀ws n Q,jio ws n Q->ws.length=2:=λws n Q h=>by obtain⟨_,_,rfl,_⟩:=h;rfl
theorem ji3:∀ws n Q,jio ws n Q->jeg (ja3 ["field","having","value"] ws) n {nx:=λ_ n=>Q (.d .none) n,rt:=Q}:=λws n Q h=>by
 obtain⟨f,nm,rfl,⟨_,tm,us⟩,k⟩:=h;show jeg [some (.w (.d f.d)),some (.w (.dk (txK nm))),none] n {nx:=λ_ n=>Q (.d .none) n,rt:=Q};cases f with
 |isv d=>exact k
 |as x =>
  obtain⟨v,e,hv⟩:=us x rfl;have k:Q (.d ((look nm x).getD .none)) n:=k;rw[e]at k;refine jaj (jn9 (h:="is") (a:=.str "as") rfl (by decide +kernel) ?_);dsimp only[jas];refine jaj ?_;show(match valD (txK nm) (.inr x)with | some d=>_ | none=>False);rw[jek,e];exact k
 |nx x =>
  obtain⟨v,e,hv⟩:=us x rfl;have k:Q (.d (nxO ((look nm x).getD .none))) n:=k;rw[e]at k;refine jaj (jn9 (h:="is") (a:=.str "next") rfl (by decide +kernel) ?_);dsimp only[jas];refine jaj ?_;show(match valD (txK nm) (.inr x)with | some d=>_ | none=>False);rw[jek,e];exact⟨v,rfl,hv,k⟩
 |_=>cases tm
theorem j7r {δ:Sl} {n:Int} {Q:Bool->Int->Prop} (q:Q true n):cYes δ n Q:=q
theorem j4b {α:Type} {w:DT} {Q:List Ad->Int->Prop} {rest:Sl} (f g:α->Ad) (xs:List α) (x:Option SV) (n:Int) (h:∀a∈xs,∀(n:Int) (Q':DQ),Q' (.d (g a)) n->w (some (.w (.d (f a)))::rest) n Q') (q:Q (xs.map g) n):jcj (jai 0) cYes w Q (xs.map f) [] (x::rest) n:=by
 refine jua f g (λ_=>true) xs [] x n (λa _ n Q' q=>j7r q) h ?_;rw[Ch,List.filter_eq_self.mpr λ_ _=>rfl];exact q
theorem j68 {ds:List Ad} {n:Int} {Q:DQ} (k:Q (.d (.tuple ds)) n):jby [.d (.list ds)] n Q:=k
theorem jtx:∀ws n Q,jha ws n Q->ws.length=2:=λws n Q h=>by obtain⟨_,_,rfl,_⟩:=h;rfl
theorem jrv:∀ws n Q,jha ws n Q->jo1 (ja3 ["template","names","having"] ws) n {nx:=λ_ n=>Q (.d .none) n,rt:=Q}:=λws n Q h=>by
 obtain⟨fs,nm,rfl,hl,ok,okn,k⟩:=h;show jo1 [some (.w (.d (fsD fs))),some (.w (.d (ja0 nm))),none] n {nx:=λ_ n=>Q (.d .none) n,rt:=Q};refine jaj (jft rfl okn ?_);dsimp only[Ao];refine jbf (b1_i (of_i (jfe (ds:=fs.map Fe.d) (λQ q=>jad rfl q) ?_)));show jcj _ _ _ _ _ _ [none,some (.w (.dk (txK nm)))] n;exact j4b Fe.d (fvO nm) fs none n (λf hf n Q' q=>c2_i (jad rfl (show jb1 1 _ _ _ from⟨f,nm,rfl,ok f hf,q⟩))) (j68 k)
theorem jrh:∀ws n Q,jo2 ws n Q->ws.length=2:=λws n Q h=>by obtain⟨_,_,rfl,_⟩:=h;rfl
abbrev zqn1:List Str:=["place","names"]
theorem jqk:∀ws n Q,jo2 ws n Q->jk2 (ja3 zqn1 ws) n {nx:=λ_ n=>Q (.d .none) n,rt:=Q}:=λws n Q h=>by
 obtain⟨x,nm,rfl,k⟩:=h;show jk2 [some (.w (.d (hnD x))),some (.w (.d (ja0 nm)))] n _;exact jbf (jlg (jdj rfl (w2_i (jcp rfl (c_i (addI (jad rfl (Am (show 3<=1000 by decide) k))))))))
theorem jrg:∀ws n Q,jq0 ws n Q->ws.length=3:=λws n Q h=>by obtain⟨_,_,_,_,rfl,_⟩:=h;rfl
theorem jqj:∀ws n Q,jq0 ws n Q->jk1 (ja3 ["program","block","names","wanted"] ws) n {nx:=λ_ n=>Q (.d .none) n,rt:=Q}:=λws n Q h=>by
 obtain⟨P,b,nm,⟨w,as⟩,rfl,hb,hw,k⟩:=h;have hbD:(P.map blD)[b]?=some (.tuple [jcg w,.tuple (as.map Ac.d)]):=by rw[Ay,hb];rfl
 have ew:wtO P b=w:=by unfold wtO;rw[hb];rfl
 unfold goTo at k;rw[ew]at k;show jk1 [some (.w (.d (prD P))),some (.w (.d (.int b))),some (.w (.d (ja0 nm))),none] n _;refine jaj (ja6 (x:=jcg w) (λQ q=>w2_i (w2_i (jad rfl (jad rfl (gN_i hbD (c_i (g0_i q))))))) ?_);dsimp only[Ao];refine jbf (jlg (jad rfl (c_i (b1_i (of_i (jfe (ds:=nm.map jir) (λQ q=>jad rfl q) ?_))))));show jcj _ _ _ _ _ _ [none,some (.w (.d (jcg w)))] n;refine jua jir jir (λp=>decide (p.1∈w)) nm [] none n (λp _ n Q' q=>ct_b (k:=decide (p.1∈w)) (λQ q=>w2_i (jdj rfl (jad rfl ⟨rfl,jgz w,?_⟩))) q) (λp _ n Q' q=>jad rfl q) ?_
 ·show Q (.d (.bool (inD (.str p.1) (w.map .str)))) n;rw[jhk];exact q
 ·exact Am (show 3<=1000 by decide) k
theorem jn0:∀ws n Q,jeu ws n Q->ws.length=3:=λws n Q h=>by obtain⟨_,_,_,rfl,_⟩:=h;rfl
abbrev zqt:List Str:=["hands","hand","place"]
theorem jl8:∀ws n Q,jeu ws n Q->jgf (ja3 zqt ws) n {nx:=λ_ n=>Q (.d .none) n,rt:=Q}:=λws n Q h=>by
 obtain⟨hs,h,x,rfl,hh,hl,k⟩:=h;show jgf [some (.w (.d (.tuple (hs.map hnD)))),some (.w (.d (.int h))),some (.w (.d (hnD x)))] n _;have hd:(setH hs h x).map hnD=((hs.map hnD).take h++[hnD x])++(hs.map hnD).drop (h+1):=by
  unfold setH;rw[A9,Bi,Fw,List.map_drop,Bn];rfl
 rw[hd]at k;have l1:((hs.map hnD).take h).length<=5:=A5 (Fy _ _) (by rw[Ab];exact hl);have l2:((hs.map hnD).drop (h+1)).length<=5:=by rw[Bx,Ab];omega
 refine jbf (w2_i (w2_i (jsc (p:=h) (λQ q=>jad rfl q) (λQ q=>jad rfl q) (by rw[Ab];omega) (jyb (jad rfl (Am (show 1<=1000 by decide) (jin (by rw[Aq];omega) ?_)))))));exact jsd (p:=h+1) (λQ q=>jad rfl q) (λQ q=>w2_i (jad rfl (c_i (addI q)))) (by rw[Ab];omega) (jin (by rw[Ah,Aq];omega) k)
theorem jzo:∀ws n Q,jq2 ws n Q->ws.length=1:=λws n Q h=>by obtain⟨_,rfl,_⟩:=h;rfl
theorem jxt:∀ws n Q,jq2 ws n Q->jx0 (ja3 ["note"] ws) n {nx:=λ_ n=>Q (.d .none) n,rt:=Q}:=λws n Q h=>by
 obtain⟨⟨row,a⟩,rfl,ha,k⟩:=h;show jx0 [some (.w (.d (ntD (row,a))))] n _;rcases ha with rfl | ⟨i,rfl,_⟩
 ·exact jbf (jlf (b:=true) (λQ q=>ct_b (k:=true) (λQ q=>w2_i (jcp rfl (c_i (jf8 q)))) q) (by rw[if_pos rfl];exact jad rfl k))
 ·exact jbf (jlf (b:=false) (λQ q=>ct_b (k:=false) (λQ q=>w2_i (jcp rfl (c_i (jf8 q)))) q) (by rw[if_neg Ag];exact jb2 (jdj rfl (w2_i (jcp rfl (c_i (Am (show 2<=1000 by decide) k)))))))
theorem j6k {a:Ad} {n:Int} {Q:DQ} (ha:jj0 a) (k:Q (.d (.bool (!isI1 a))) n):gNe (.d a) (.d (.int 1)) n Q:=by
 rcases ha with rfl | ⟨i,rfl,_⟩<;>exact k
theorem jj6:∀ws n Q,jlb ws n Q->ws.length=1:=λws n Q h=>by obtain⟨_,_,rfl,_⟩:=h;rfl
theorem ji4:∀ws n Q,jlb ws n Q->jeh (ja3 ["stand"] ws) n {nx:=λ_ n=>Q (.d .none) n,rt:=Q}:=λws n Q h=>by
 obtain⟨hs,ns,rfl,ha,k⟩:=h;show jeh [some (.w (.d (stD hs ns)))] n _;refine jbf (jb2 (jdj rfl (b1_i (of_i (jfe (ds:=ns.map ntD) (λQ q=>jcp rfl q) ?_)))));show jcj _ _ _ _ _ _ [none] n;refine jua ntD (λq=>ntD (q.1,ageO q.2)) (λq=>!isI1 q.2) ns [] none n (λq hq n Q' k'=>ct_b (λQ q'=>w2_i (jcp rfl (c_i (j6k (ha q hq) q')))) k') (λq hq n Q' k'=>c1_i (jad rfl ⟨q,rfl,ha q hq,k'⟩)) ?_;refine Am (show 2<=1000 by decide) ?_;unfold stD nsD clkO at k;rw[Dg]at k;exact k
theorem j9b:∀j:Fin 100,isV (.int ((j.val:Nat):Int))=true:=by decide +kernel
theorem V_of {i:Int} (h0:0<=i) (h1:i<=99):isV (.int i)=true:=by
 have:=j9b ⟨i.toNat,by omega⟩;rw[show((i.toNat:Nat):Int)=i by omega]at this;exact this
theorem j73 {i:Int} (h:isV (.int i)=true):0<=i/\i<=99:=by
 simp only[isV,Cj,decide_eq_true_eq]at h;exact⟨h.1,h.2.1⟩
theorem nx_V {v:Ad} (h:isV v=true):isV (nxO v)=true:=by
 cases v with
 |str x=>exact h
 |int i =>
  obtain⟨h0,h1⟩:=j73 h;show isV (if i=99 then .int 0 else .int (i+1))=true
  split
  ·exact V_of (by decide) (by decide)
  ·exact V_of (by omega) (by omega)
 |_=>cases h
theorem fv_V {nm:Nm} {f:Fe} (h:fvOk nm f):isV (fvO nm f)=true:=by
 obtain⟨ok,tm,us⟩:=h;cases f with
 |isv d=>exact ok
 |as k=>obtain⟨v,e,hv⟩:=us k rfl;show isV ((look nm k).getD .none)=true;rw[e];exact hv
 |nx k=>obtain⟨v,e,hv⟩:=us k rfl;show isV (nxO ((look nm k).getD .none))=true;rw[e];exact nx_V hv
 |_=>cases tm
theorem j8y {a b:Ad} {n:Int} {Q:DQ} (ha:isV a=true) (hb:isV b=true) (k:Q (.d (.bool (eqB a b))) n):gEq (.d a) (.d b) n Q:=by
 unfold gEq;simp only[jt4 ha hb];exact k
theorem jhf:∀ws n Q,jqs ws n Q->ws.length=2:=λws n Q h=>by obtain⟨_,_,_,_,rfl,_⟩:=h;rfl
theorem jg2:∀ws n Q,jqs ws n Q->jde (ja3 ["act","names","having"] ws) n {nx:=λ_ n=>Q (.d .none) n,rt:=Q}:=λws n Q h=>by
 obtain⟨f,g,b,nm,rfl,hf,hg,_,_,okn,k⟩:=h;show jde [some (.w (.d (.tuple [.str "same",f.d,g.d,.int b]))),some (.w (.d (ja0 nm))),none] n _;refine jaj (jft rfl okn ?_);dsimp only[Ao];exact jbf (w2_i (c2_i (jcp rfl (show jb1 2 _ _ _ from⟨f,nm,rfl,hf,c2_i (w2_i (jad rfl (c_i (g2_i (show jb1 2 _ _ _ from⟨g,nm,rfl,hg,j8y (fv_V hf) (fv_V hg) k⟩)))))⟩))))
theorem jro {fs:List Fd} {nm:Nm} {ns:List Nt} {i:Nat} (h:fstO fs nm ns=some i):∃q,ns[i]?=some q/\fitB fs q.1 nm=true:=by
 unfold fstO at h;rw[Fb]at h;obtain⟨hl,h1,_⟩:=h;exact⟨ns[i],Aj hl,h1⟩
theorem jz0 {fs:List Fd} {row:List Ad} {nm:Nm} (h:fitB fs row nm=true):fitD fs row nm=ja0 (srtN (wkN fs row nm)):=by unfold fitD;rw[if_pos h]
theorem jpr {ps:Pg} {hs:List Hn} {ns:List Nt} {h:Nat} {P:List Bl} {xb xp:Nat} {nm:Nm} {w:List Str} {as:List Ac} (H:HandAt ps hs h P xb xp nm w as) {a:Ac} (e:actO ps hs h=some a):movO ps hs ns h=(actM P (xb,xp,nm) ns a).map λr=>(setH hs h r.1,r.2):=by
 unfold movO;rw[H.prog,H.hand,e];rfl
theorem jc3 {fs:List Fe} {x:Hn} {ns:List Nt} (e:fstO (fs.map Fe.fd) x.2.2 ns=none):getO fs x ns=none:=by unfold getO;rw[e];rfl
theorem jct {fs:List Fe} {x:Hn} {ns:List Nt} {i:Nat} (e:fstO (fs.map Fe.fd) x.2.2 ns=some i):getO fs x ns=some (i,goOn x (srtN (wkN (fs.map Fe.fd) (rowO ns i) x.2.2))):=by unfold getO;rw[e];rfl
theorem j3j {s h:Str} {n:Int} {Q:DQ} (k:Q (.d (.bool (!jat h (.str s)))) n):gNe (.d (.str s)) (.d (.str h)) n Q:=k
theorem jv5 (ns:List Nt) (i:Nat):(outO ns i).map ntD=(ns.map ntD).take i++(ns.map ntD).drop (i+1):=by unfold outO;rw[A9,Fw,List.map_drop]
section
variable {ps:Pg} {hs:List Hn} {ns:List Nt} {h:Nat} {P:List Bl} {xb xp:Nat} {nm:Nm} {w:List Str} {as:List Ac} {n:Int} {Q:DQ}
theorem juk {δ:Sl} {w2':DT} {x:Hn} {i1 i2 i5:Nat} {ns':List Nt} (e1:δ[i1]?=some (some (.w (.d (stD hs ns))))) (e2:δ[i2]?=some (some (.w (.d (.int h))))) (e5:δ[i5]?=some (some (.w (.d (nsD ns'))))) (hx:∀Q:DQ,Q (.d (hnD x)) n->w2' δ n Q) (hh:h < hs.length) (hl:hs.length<=5) (k:Q (.d (stD (setH hs h x) ns')) n) :
  wTup (jab (jam jeu (jab (w2 (wVar i1) (wC (.int (0))) gIx) (jab (wVar i2) (jab w2' aNil)))) (jab (wVar i5) aNil)) δ n Q :=
 jb2 (c3_i (jdj e1 (jad e2 (hx _ ⟨hs,h,x,rfl,hh,hl,jad e5 (Am (show 2<=1000 by decide) k)⟩))))
theorem jw2 {a:Ac} {s:Str} {gs:List Fe} {r:List Ad} (H:HandAt ps hs h P xb xp nm w as) (okp:okPg ps) (okh:okHs ps hs) (okn:okNs 100 ns) (hh:h < ps.length) (ea:actO ps hs h=some a) (ed:a.d=.tuple (.str s::fsD gs::r)) (hpf:a.pf=some (gs.map Fe.fd)) (hof:okFs gs) (hpat:patO gs)
  (kN:fstO (gs.map Fe.fd) nm ns=none->sSeq (sIf (cT (w2 (w2 (wVar 3) (wC (.int (0))) gIx) (wC (.str "look")) gNe)) (sRet (wC .none)) jas) (sRet (wTup (jab (jam jeu (jab (w2 (wVar 1) (wC (.int (0))) gIx) (jab (wVar 2) (jab (jam jq0 (jab (w2 (wVar 0) (wVar 2) gIx) (jab (w2 (wVar 3) (wC (.int (2))) gIx) (jab (w2 (wVar 4) (wC (.int (2))) gIx) aNil)))) aNil)))) (jab (wVar 5) aNil))))
   [some (.w (.d (pgD ps))),some (.w (.d (stD hs ns))),some (.w (.d (.int h))),some (.w (.d (.tuple (.str s::fsD gs::r)))),some (.w (.d (hnD (xb,xp,nm)))),some (.w (.d (nsD ns))),some (.w (.d .none)),none] n {nx:=λ_ _=>True,rt:=Q})
  (kS:∀i ns',fstO (gs.map Fe.fd) nm ns=some i->ns'=(if jat "take" (.str s)=true then outO ns i else ns)->Q (.d (stD (setH hs h (goOn (xb,xp,nm) (srtN (wkN (gs.map Fe.fd) (rowO ns i) nm)))) ns')) n) :
  j0o [some (.w (.d (pgD ps))),some (.w (.d (stD hs ns))),some (.w (.d (.int h))),some (.w (.d a.d)),none,none,none,none] n {nx:=λ_ n=>Q (.d .none) n,rt:=Q}:=by
 rw[ed];obtain⟨ep,op⟩:=jm8 hof hpat;have hlt:h < hs.length:=by rw[okh.1];exact hh
 have hl5:hs.length<=5:=by rw[okh.1];exact okp.1
 refine jaj (ja6 (x:=hnD (xb,xp,nm)) (λQ q=>w2_i (w2_i (jad rfl (c_i (g0_i (jad rfl (gN_i H.hD q))))))) ?_);dsimp only[Ao];refine jaj (ja6 (x:=nsD ns) (λQ q=>jcp rfl q) ?_);dsimp only[Ao];have eg:gotO ps hs ns h=fstO (gs.map Fe.fd) nm ns:=by
  unfold gotO;rw[ea,H.nmq];show(a.pf.bind _)=_;rw[hpf];rfl
 refine jaj (ja6 (x:=natD (fstO (gs.map Fe.fd) nm ns)) (λQ q=>c3_i (jad rfl (jad rfl (jad rfl ⟨ps,hs,ns,h,rfl,⟨okp,okh,okn⟩,hh,by rw[eg];exact q⟩)))) ?_);dsimp only[Ao];cases eq:fstO (gs.map Fe.fd) nm ns with
 |none=>exact jaj (if_y (λQ q=>ct_b (k:=true) (λQ q=>w2_i (jad rfl (c_i (jf8 q)))) q) (kN eq))
 |some i =>
  obtain⟨⟨row,age⟩,hq,hf⟩:=jro eq;have hi:i < ns.length:=(At.mp hq).1;have hq':(ns.map ntD)[i]?=some (.tuple [.tuple row,age]):=by rw[Ay,hq];rfl
  have er:rowO ns i=row:=by unfold rowO;rw[hq];rfl
  have oq:=okn.2 _ (A6 hq);refine jaj (if_n (λQ q=>ct_b (k:=false) (λQ q=>w2_i (jad rfl (c_i (jf8 q)))) q) ?_);dsimp only[jas];refine jaj (ja6 (x:=ja0 (srtN (wkN (gs.map Fe.fd) (rowO ns i) nm))) (λQ q=>?_) ?_)
  ·refine c3_i (jcp rfl (w2_i (w2_i (jad rfl (jad rfl (gN_i hq' (c_i (g0_i ?_))))))));refine w2_i (jad rfl (c_i (g2_i ⟨gs.map Fe.fd,row,nm,by rw[ep],op,oq.1,H.nms,?_⟩)));rw[jz0 hf];rw[er]at q;exact q
  dsimp only[Ao];have fin:∀ns',ns'=(if jat "take" (.str s)=true then outO ns i else ns)->sRet (wTup (jab (jam jeu (jab (w2 (wVar 1) (wC (.int (0))) gIx) (jab (wVar 2) (jab (jam jo2 (jab (wVar 4) (jab (wVar 7) aNil))) aNil)))) (jab (wVar 5) aNil)))
    [some (.w (.d (pgD ps))),some (.w (.d (stD hs ns))),some (.w (.d (.int h))),some (.w (.d (.tuple (.str s::fsD gs::r)))),some (.w (.d (hnD (xb,xp,nm)))),some (.w (.d (nsD ns'))),some (.w (.d (.int i))),some (.w (.d (ja0 (srtN (wkN (gs.map Fe.fd) (rowO ns i) nm)))))] n {nx:=λ_ n=>Q (.d .none) n,rt:=Q}:=λns' e' =>
   jbf (juk (x:=goOn (xb,xp,nm) (srtN (wkN (gs.map Fe.fd) (rowO ns i) nm))) rfl rfl rfl (λQ q=>c2_i (jad rfl (jad rfl ⟨(xb,xp,nm),_,rfl,q⟩))) hlt hl5 (kS i ns' eq e'))
  refine jaj (j3r rfl (λz=>?_) λz=>?_)
  ·refine ja6 (x:=nsD (outO ns i)) (λQ q=>w2_i (jsc (p:=i) (λQ q=>jad rfl q) (λQ q=>jad rfl q) (by rw[Ab];omega) (jsd (p:=i+1) (λQ q=>jad rfl q) (λQ q=>w2_i (jad rfl (c_i (addI q)))) (by rw[Ab];omega) (jin ?_ ?_)))) ?_
   ·have:=okn.1;rw[Ci,Bx,Ab];omega
   ·unfold nsD at q;rw[jv5]at q;exact q
   ·dsimp only[Ao];exact fin (outO ns i) (by rw[if_pos z])
  ·dsimp only[jas];exact fin ns (by rw[if_neg (by rw[z];exact Ag)])
end
theorem j3l:∀ws n Q,jk6 ws n Q->ws.length=4:=λws n Q h=>by obtain⟨_,_,_,_,_,rfl,_⟩:=h;rfl
abbrev zqt1:List Str:=["programs","stand","hand","act","place","notes","number","names"]
theorem j0f:∀ws n Q,jk6 ws n Q->j0o (ja3 zqt1 ws) n {nx:=λ_ n=>Q (.d .none) n,rt:=Q}:=λws n Q h=>by
 obtain⟨ps,hs,ns,h,a,rfl,⟨okp,okh,okn⟩,hh,ea,hp,k⟩:=h;obtain⟨P,xb,xp,nm,w,as,H⟩:=jda okh hh;have oa:=H.ok okp ea;rw[jpr H ea]at k;have hlt:h < hs.length:=by rw[okh.1];exact hh
 have hl5:hs.length<=5:=by rw[okh.1];exact okp.1
 show j0o [some (.w (.d (pgD ps))),some (.w (.d (stD hs ns))),some (.w (.d (.int h))),some (.w (.d a.d)),none,none,none,none] n _;cases a with
 |lay fs age=>cases hp
 |same f g b=>cases hp
 |go b=>cases hp
 |take gs =>
  refine jw2 (s:="take") (gs:=gs) (r:=[]) H okp okh okn hh ea rfl rfl oa.1 oa.2 (λe=>?_) λi ns' e e'=>?_
  ·have k:Q (.d (moD (((getO gs (xb,xp,nm) ns).map λq=>(q.2,outO ns q.1)).map λr=>(setH hs h r.1,r.2)))) n:=k;rw[jc3 e]at k;exact jaj (if_y (λQ q=>ct_b (k:=true) (λQ q=>w2_i (jdj rfl (c_i (j3j (by rw[show jat "look" (.str "take")=false by decide +kernel];exact q))))) q) (jbf (c_i k)))
  ·rw[if_pos (by decide +kernel)]at e';rw[e'];have k:Q (.d (moD (((getO gs (xb,xp,nm) ns).map λq=>(q.2,outO ns q.1)).map λr=>(setH hs h r.1,r.2)))) n:=k;rw[jct e]at k;exact k
 |read gs =>
  refine jw2 (s:="read") (gs:=gs) (r:=[]) H okp okh okn hh ea rfl rfl oa.1 oa.2 (λe=>?_) λi ns' e e'=>?_
  ·have k:Q (.d (moD (((getO gs (xb,xp,nm) ns).map λq=>(q.2,ns)).map λr=>(setH hs h r.1,r.2)))) n:=k;rw[jc3 e]at k;exact jaj (if_y (λQ q=>ct_b (k:=true) (λQ q=>w2_i (jdj rfl (c_i (j3j (by rw[show jat "look" (.str "read")=false by decide +kernel];exact q))))) q) (jbf (c_i k)))
  ·rw[if_neg (by decide +kernel)]at e';rw[e'];have k:Q (.d (moD (((getO gs (xb,xp,nm) ns).map λq=>(q.2,ns)).map λr=>(setH hs h r.1,r.2)))) n:=k;rw[jct e]at k;exact k
 |look gs b =>
  refine jw2 (s:="look") (gs:=gs) (r:=[.int b]) H okp okh okn hh ea rfl rfl oa.1 oa.2 (λe=>?_) λi ns' e e'=>?_
  ·have k:Q (.d (moD ((match getO gs (xb,xp,nm) ns with | some q=>some (q.2,ns) | none=>some (goTo P b nm,ns):Option (Hn×List Nt)).map λr=>(setH hs h r.1,r.2)))) n:=k;rw[jc3 e]at k;have hr:=(okp.2 P (A6 H.prog)).2.2 (w,as) (A6 H.blk);rw[H.act]at ea;obtain⟨wb,hwb,_⟩:=(hr.2 xp _ ea).2 b rfl;rw[Ay]at hwb;obtain⟨bl,hbl,_⟩:=Option.map_eq_some_iff.mp hwb;have obl:=((okp.2 P (A6 H.prog)).2.2 bl (A6 hbl)).1;refine jaj (if_n (λQ q=>ct_b (k:=false) (λQ q=>w2_i (jdj rfl (c_i (j3j (by rw[show jat "look" (.str "look")=true by decide +kernel];exact q))))) q) ?_);dsimp only[jas];refine jbf (juk (x:=goTo P b nm) rfl rfl rfl (λQ q=>?_) hlt hl5 k);refine c3_i (w2_i (jad rfl (jad rfl (gN_i H.pD ?_))));refine w2_i (jad rfl (c_i (g2_i ?_)));exact w2_i (jad rfl (c_i (g2_i ⟨P,b,nm,bl,rfl,hbl,obl.1,q⟩)))
  ·rw[if_neg (by decide +kernel)]at e';rw[e'];have k:Q (.d (moD ((match getO gs (xb,xp,nm) ns with | some q=>some (q.2,ns) | none=>some (goTo P b nm,ns):Option (Hn×List Nt)).map λr=>(setH hs h r.1,r.2)))) n:=k;rw[jct e]at k;exact k
theorem c4_i {δ:Sl} {n:Int} {Q:DQ} {w w' w'' v:DT} {S:DSp} (k:w δ n λx n1=>w' δ n1 λy n2=>w'' δ n2 λz n3=>v δ n3 λu n4=>S [x,y,z,u] n4 Q):jam S (jab w (jab w' (jab w'' (jab v aNil)))) δ n Q:=k
theorem jsw {nm:Nm} {k:Str} (h:k∈nm.map (·.1)):∃v,look nm k=some v:=by
 obtain⟨p,hp,e⟩:=Bo.mp h;have:(nm.any λp=>decide (p.1=k))=true:=Dj.mpr ⟨p,hp,decide_eq_true e⟩;rw[jjb]at this;exact Ew.mp this
theorem j75 {f:Fe} (h:f.tm=true):f.bd=none:=by cases f<;>first | rfl | cases h
theorem jyc {f:Fe} (h:f.te=true):f.tm=true:=by cases f<;>first | rfl | cases h
theorem j2v:∀{fs:List Fe} {ks:List Str},rF ks fs->(∀f∈fs,f.tm=true)->∀f∈fs,∀k,f.us=some k->k∈ks
 |[],_,_,_,f,hf,_,_=>by simp at hf
 |g::r,ks,h,ht,f,hf,k,hk=>by
  rcases As.mp hf with rfl | hf
  ·exact h.1 k hk
  ·have h2:=h.2;rw[j75 (ht g A0)]at h2;have:=j2v h2 (λx hx=>ht x (Au _ hx)) f hf k hk;simpa using this
section
variable {ps:Pg} {hs:List Hn} {ns:List Nt} {h:Nat} {P:List Bl} {xb xp:Nat} {nm:Nm} {w:List Str} {as:List Ac} {n:Int} {Q:DQ}
theorem HandAt.okb (H:HandAt ps hs h P xb xp nm w as) (okp:okPg ps):okB (w,as)/\riB (P.map (·.1)) (w,as):=(okp.2 P (A6 H.prog)).2.2 (w,as) (A6 H.blk)
theorem HandAt.right (H:HandAt ps hs h P xb xp nm w as) (okp:okPg ps) {a:Ac} (e:actO ps hs h=some a):a.right (P.map (·.1)) (kn w as xp):=by
 rw[H.act]at e;exact(H.okb okp).2 xp a e
theorem HandAt.fv (H:HandAt ps hs h P xb xp nm w as) {f:Fe} (ok:f.ok) (tm:f.tm=true) (us:∀k,f.us=some k->k∈kn w as xp):fvOk nm f:=⟨ok,tm,λk hk=>by
 obtain⟨v,e⟩:=jsw ((H.hn.mem k).mpr (us k hk));exact⟨v,e,(H.hn.ok _ (jcw e)).2⟩⟩
theorem HandAt.lay (H:HandAt ps hs h P xb xp nm w as) (okp:okPg ps) {fs:List Fe} {age:Ad} (e:actO ps hs h=some (.lay fs age)):fs.length<=4/\∀f∈fs,fvOk nm f:=by
 have oa:=H.ok okp e;have r:=(H.right okp e).1;exact⟨oa.1.1,λf hf=>H.fv (oa.1.2 f hf) (oa.2.1 f hf) (j2v r oa.2.1 f hf)⟩
theorem HandAt.same (H:HandAt ps hs h P xb xp nm w as) (okp:okPg ps) {f g:Fe} {b:Nat} (e:actO ps hs h=some (.same f g b)):fvOk nm f/\fvOk nm g/\f.te=true/\g.te=true:=by
 have oa:=H.ok okp e;have r:=j2v (H.right okp e).1 (λx hx=>by
  simp only[Ac.fs,As,Aw,or_false]at hx;rcases hx with rfl | rfl
  ·exact jyc oa.2.1
  ·exact jyc oa.2.2)
 exact⟨H.fv (oa.1.2 f (by simp[Ac.fs])) (jyc oa.2.1) (r f (by simp[Ac.fs])),H.fv (oa.1.2 g (by simp[Ac.fs])) (jyc oa.2.2) (r g (by simp[Ac.fs])),oa.2.1,oa.2.2⟩
theorem HandAt.to (H:HandAt ps hs h P xb xp nm w as) (okp:okPg ps) {a:Ac} {b:Nat} (e:actO ps hs h=some a) (hb:a.to=some b):∃bl:Bl,P[b]?=some bl/\okB bl/\∀k∈bl.1,k∈nm.map (·.1):=by
 obtain⟨wb,hwb,hk⟩:=(H.right okp e).2 b hb;rw[Ay]at hwb;obtain⟨bl,hbl,rfl⟩:=Option.map_eq_some_iff.mp hwb;exact⟨bl,hbl,((okp.2 P (A6 H.prog)).2.2 bl (A6 hbl)).1,λk z=>(H.hn.mem k).mpr (hk k z)⟩
end
theorem j6w {a b:Ad} {n:Int} {Q:DQ} {δ:Sl} {i:Nat} (e:δ[i]?=some (some (.w (.d (.tuple [a,b]))))) (k:Q (.d b) n):w2 (wVar i) (wNeg (wC (.int 1))) gIx δ n Q:=w2_i (jad e k)
theorem j6v {a b c d:Ad} {n:Int} {Q:DQ} {δ:Sl} {i:Nat} (e:δ[i]?=some (some (.w (.d (.tuple [a,b,c,d]))))) (k:Q (.d d) n):w2 (wVar i) (wNeg (wC (.int 1))) gIx δ n Q:=w2_i (jad e k)
theorem jlm:∀ws n Q,jqz ws n Q->ws.length=3:=λws n Q h=>by obtain⟨_,_,_,_,rfl,_⟩:=h;rfl
abbrev zqz1:List Str:=["programs","stand","hand","act","place","notes","names"]
theorem jkq:∀ws n Q,jqz ws n Q->jfh (ja3 zqz1 ws) n {nx:=λ_ n=>Q (.d .none) n,rt:=Q}:=λws n Q h=>by
 obtain⟨ps,hs,ns,h,rfl,⟨okp,okh,okn⟩,hh,k⟩:=h;obtain⟨P,xb,xp,nm,w,as,H⟩:=jda okh hh;have hlt:h < hs.length:=by rw[okh.1];exact hh
 have hl5:hs.length<=5:=by rw[okh.1];exact okp.1
 show jfh [some (.w (.d (pgD ps))),some (.w (.d (stD hs ns))),some (.w (.d (.int h))),none,none,none,none] n _;refine jaj (ja6 (λQ q=>jtu rfl rfl rfl okh hh q) ?_);dsimp only[Ao];cases ea:actO ps hs h with
 |none =>
  unfold movO at k;rw[H.prog,H.hand,ea]at k;exact jaj (if_y (λQ q=>ct_b (k:=true) (λQ q=>w2_i (jad rfl (c_i (jf8 q)))) q) (jbf (c_i k)))
 |some a =>
  have oa:=H.ok okp ea;show sSeq _ _ [some (.w (.d (pgD ps))),some (.w (.d (stD hs ns))),some (.w (.d (.int h))),some (.w (.d a.d)),none,none,none] n _;cases ef:a.pf with
  |some fs =>
   obtain⟨of,s,r,e,h1,_⟩:=jqq ef oa;have ha:Q (.d (moD (movO ps hs ns h))) n->jam jk6 (jab (wVar 0) (jab (wVar 1) (jab (wVar 2) (jab (wVar 3) aNil)))) [some (.w (.d (pgD ps))),some (.w (.d (stD hs ns))),some (.w (.d (.int h))),some (.w (.d a.d)),none,none,none] n Q:=λk =>
    c4_i (jad rfl (jad rfl (jad rfl (jad rfl ⟨ps,hs,ns,h,a,rfl,⟨okp,okh,okn⟩,hh,ea,by rw[ef];rfl,k⟩))))
   rw[e]at ha ⊢;refine jaj (if_n (λQ q=>ct_b (k:=false) (λQ q=>w2_i (jad rfl (c_i (jf8 q)))) q) ?_);dsimp only[jas];exact jaj (if_y (λQ q=>j61 (λQ q=>jdj rfl q) h1 q) (jbf (ha k)))
  |none =>
   rw[jpr H ea]at k;have pre:∀(V:DST) (s:Str) (r:List Ad),a.d=.tuple (.str s::r)->inD (.str s) [.str "take",.str "read",.str "look"]=false ->
     V [some (.w (.d (pgD ps))),some (.w (.d (stD hs ns))),some (.w (.d (.int h))),some (.w (.d a.d)),some (.w (.d (hnD (xb,xp,nm)))),some (.w (.d (nsD ns))),some (.w (.d (ja0 nm)))] n {nx:=λ_ n=>Q (.d .none) n,rt:=Q} ->
     sSeq (sIf (cT (w2 (wVar 3) (wC .none) (gIsN false))) (sRet (wC .none)) jas) (sSeq (sIf (cT (wInG zqo (w2 (wVar 3) (wC (.int (0))) gIx))) (sRet (jam jk6 (jab (wVar 0) (jab (wVar 1) (jab (wVar 2) (jab (wVar 3) aNil)))))) jas) (sSeq (sSet 4 (w2 (w2 (wVar 1) (wC (.int (0))) gIx) (wVar 2) gIx)) (sSeq (sSet 5 (w2 (wVar 1) (wC (.int (1))) gIx)) (sSeq (sSet 6 (w2 (wVar 4) (wC (.int (2))) gIx)) V))))
      [some (.w (.d (pgD ps))),some (.w (.d (stD hs ns))),some (.w (.d (.int h))),some (.w (.d a.d)),none,none,none] n {nx:=λ_ n=>Q (.d .none) n,rt:=Q}:=λV s r e h1 kk=>by
    rw[e]at kk ⊢;refine jaj (if_n (λQ q=>ct_b (k:=false) (λQ q=>w2_i (jad rfl (c_i (jf8 q)))) q) ?_);dsimp only[jas];refine jaj (if_n (λQ q=>j61 (λQ q=>jdj rfl q) h1 q) ?_);dsimp only[jas];refine jaj (ja6 (x:=hnD (xb,xp,nm)) (λQ q=>w2_i (w2_i (jad rfl (c_i (g0_i (jad rfl (gN_i H.hD q))))))) ?_);dsimp only[Ao];refine jaj (ja6 (x:=nsD ns) (λQ q=>jcp rfl q) ?_);dsimp only[Ao];refine jaj (ja6 (x:=ja0 nm) (λQ q=>w2_i (jad rfl (c_i (g2_i q)))) ?_);dsimp only[Ao];exact kk
   have fin:∀(x:Hn) (ns':List Nt) (d:Ad),Q (.d (stD (setH hs h x) ns')) n->sRet (wTup (jab (jam jeu (jab (w2 (wVar 1) (wC (.int (0))) gIx) (jab (wVar 2) (jab (wVar 4) aNil)))) (jab (wVar 5) aNil))) [some (.w (.d (pgD ps))),some (.w (.d (stD hs ns))),some (.w (.d (.int h))),some (.w (.d d)),some (.w (.d (hnD x))),some (.w (.d (nsD ns'))),some (.w (.d (ja0 nm)))] n {nx:=λ_ n=>Q (.d .none) n,rt:=Q}:=λx ns' d q =>
    jbf (juk (x:=x) rfl rfl rfl (λQ q=>jad rfl q) hlt hl5 q)
   cases a with
   |take fs=>cases ef
   |read fs=>cases ef
   |look fs b=>cases ef
   |lay fs age =>
    obtain⟨hl4,hfv⟩:=H.lay okp ea;refine pre _ "lay" [fsD fs,age] rfl (by decide +kernel) ?_;refine jaj (j3q (a:=.str "lay") rfl (by decide +kernel) (jaj ?_));refine ja6 (x:=nsD (ns++[(filO fs nm,age)])) (λQ q=>?_) ?_
    ·refine w2_i (jad rfl (jyb (jb2 (c2_i (jcp rfl (jad rfl ⟨fs,nm,rfl,hl4,hfv,H.nms,?_⟩))))));refine w2_i (jad rfl (c_i (g2_i (Am (show 2<=1000 by decide) (Am (show 1<=1000 by decide) (jin (by rw[Ab,Aq];have:=okn.1;omega) ?_))))));unfold nsD at q;rw[A9]at q;exact q
    ·dsimp only[Ao];refine ja6 (x:=hnD (goOn (xb,xp,nm) nm)) (λQ q=>c2_i (jad rfl (jad rfl ⟨(xb,xp,nm),nm,rfl,q⟩))) ?_;dsimp only[Ao];exact fin _ _ _ k
   |same f g b =>
    obtain⟨hf,hg,tf,tg⟩:=H.same okp ea;obtain⟨bl,hbl,obl,_⟩:=H.to okp ea (b:=b) rfl;refine pre _ "same" [f.d,g.d,.int b] rfl (by decide +kernel) ?_;refine jaj (jn9 (a:=.str "same") rfl (by decide +kernel) (if_i (jko (λQ q=>jt3 (a:=.str "same") rfl ?_) ?_)))
    ·rw[show jat "same" (.str "same")=true by decide +kernel];exact q
    refine(show cT _ _ _ _ from c2_i (jad rfl (jad rfl ⟨f,g,b,nm,rfl,hf,hg,tf,tg,H.nms,?_⟩)));have k:Q (.d (stD (setH hs h (if eqB (fvO nm f) (fvO nm g)=true then goOn (xb,xp,nm) nm else goTo P b nm)) ns)) n:=k;refine ifb (λz=>?_) λz=>?_
    ·rw[if_pos z]at k;refine ja6 (x:=hnD (goOn (xb,xp,nm) nm)) (λQ q=>c2_i (jad rfl (jad rfl ⟨(xb,xp,nm),nm,rfl,q⟩))) ?_;dsimp only[Ao];exact fin _ _ _ k
    ·rw[if_neg (by rw[z];exact Ag)]at k;refine ja6 (x:=hnD (goTo P b nm)) (λQ q=>c3_i (w2_i (jad rfl (jad rfl (gN_i H.pD (j6v rfl (jad rfl ⟨P,b,nm,bl,rfl,hbl,obl.1,q⟩))))))) ?_;dsimp only[Ao];exact fin _ _ _ k
   |go b =>
    obtain⟨bl,hbl,obl,_⟩:=H.to okp ea (b:=b) rfl;refine pre _ "go" [.int b] rfl (by decide +kernel) ?_;refine jaj (jn9 (a:=.str "go") rfl (by decide +kernel) (if_n (λQ q=>jnb (λQ q=>jt3 (a:=.str "go") rfl ?_) q) ?_))
    ·rw[show jat "same" (.str "go")=false by decide +kernel];exact q
    refine ja6 (x:=hnD (goTo P b nm)) (λQ q=>c3_i (w2_i (jad rfl (jad rfl (gN_i H.pD (j6w rfl (jad rfl ⟨P,b,nm,bl,rfl,hbl,obl.1,q⟩))))))) ?_;dsimp only[Ao];exact fin _ _ _ k
theorem jwk:∀ws n Q,jlc ws n Q->ws.length=3:=λws n Q h=>by obtain⟨_,_,_,_,rfl,_⟩:=h;rfl
theorem j7g {a b n:Int} {Q:DQ} (k:Q (.d (.bool (decide (a=b)))) n):gEq (.d (.int a)) (.d (.int b)) n Q:=k
theorem juf:∀ws n Q,jlc ws n Q->jrz (ja3 ["programs","stand","mover","clock"] ws) n {nx:=λ_ n=>Q (.d .none) n,rt:=Q}:=λws n Q h=>by
 obtain⟨ps,hs,ns,m,rfl,ok,hm,k⟩:=h;show jrz [some (.w (.d (pgD ps))),some (.w (.d (stD hs ns))),some (.w (.d (.int m))),none] n _;refine jaj (ja6 (x:=.int ps.length) (λQ q=>b1_i (jad rfl (show Q (.d (.int ((ps.map prD).length:Nat))) n by rw[Ab];exact q))) ?_);dsimp only[Ao];refine jaj (if_n (λQ q=>jta (k:=true) (λQ q=>ct_b (k:=true) (λQ q=>c2_i (jad rfl (jad rfl ⟨_,_,rfl,by omega,by omega,q⟩))) q) q) ?_);dsimp only[jas];unfold aftO at k;refine jbf (jlf (b:=decide ((m:Int)=ps.length)) (λQ q=>ct_b (λQ q=>w2_i (jad rfl (jad rfl (j7g q)))) q) ?_);by_cases e:m=ps.length
 ·rw[if_pos e]at k;rw[if_pos (decide_eq_true (by omega))];exact c1_i (jad rfl ⟨hs,ns,rfl,λq hq=>(ok.2.2.2 q hq).2,k⟩)
 ·rw[if_neg e]at k;rw[if_neg (by rw[decide_eq_false (by omega)];exact Ag)];exact c3_i (jad rfl (jad rfl (jad rfl ⟨ps,hs,ns,m,rfl,ok,by omega,k⟩)))
theorem jwj:∀ws n Q,jx2 ws n Q->ws.length=3:=λws n Q h=>by obtain⟨_,_,_,_,_,rfl,_⟩:=h;rfl
theorem j1b {δ:Sl} {n:Int} {Q:DQ} {i:Nat} {x:Wv} (e:δ[i]?=some (some (.w x))) (k:Q x n):jb1 i δ n Q:=by unfold jb1;rw[e];exact k
theorem jw7 {δ:Sl} {n:Int} {Q:DQ} {j:Nat} {ps:Nm} (e:δ[j]?=some (some (.w (.d (ja0 ps))))) (ok:okN ps) (k:Q (.dk (txK ps)) n):jo4 (wVar j) δ n Q:=by
 unfold jo4 wOfK jka;refine jad e ?_;unfold ja0;simp only[jnv];refine⟨by rw[Ab];have:=ok.1;omega,?_⟩;have:=jja ps [] (by rw[Ch];exact ok.2.1);rw[Ch]at this;rw[show([]:List (Key×Ad))=txK []from rfl,this];exact k
theorem j6g {i:Int} (h:isV (.int i)=true):nxO (.int i)=.int ((i+1) % 100):=by
 obtain⟨h0,h1⟩:=j73 h;show(if i=99 then E3 0 else E3 (i+1))=_
 split
 ·rename_i e;subst e;rfl
 ·rw[Int.emod_eq_of_lt (by omega) (by omega)]
theorem jj8:∀ws n Q,jfq ws n Q->ws.length=2:=λws n Q h=>by obtain⟨_,_,rfl,_⟩:=h;rfl
abbrev zqk1:List Str:=["_law_template_here","_law_has","_law_row","_law_word","_law_thing","_law_value_here"]
theorem ji6:∀ws n Q,jfq ws n Q->jej (ja3 zqk1 ws) n {nx:=λ_ n=>Q (.d .none) n,rt:=Q}:=λws n Q h=>by
 obtain⟨fs,nm,rfl,hl,ok,k⟩:=h;show jej [some (.w (.d (fsD fs))),some (.w (.dk (txK nm))),none,none,none,none] n _;refine jaj (jc8 ?_);dsimp only[Ao];refine jaj ?_;unfold sFor jcl;refine jad rfl ?_;dsimp only[fsD];refine jbj (λds δ m=>m=n/\∃(dn re:List Fe) (x y z:Option SV),ds=re.map Fe.d/\dn++re=fs/\δ=[some (.w (.d (fsD fs))),some (.w (.dk (txK nm))),some (.own (dn.map (fvO nm))),x,y,z]) (λδ m I=>?_) (λd r δ m N I kN=>?_) _ _ _ ⟨rfl,[],fs,none,none,none,rfl,rfl,rfl⟩
 ·obtain⟨rfl,dn,re,x,y,z,ed,en,rfl⟩:=I;cases D3.mp ed.symm;rw[Bz]at en;subst en;dsimp only;refine jgd rfl ?_;dsimp only[Ao];exact jbf (b1_i (jad rfl (j68 k)))
 ·obtain⟨rfl,dn,re,x,y,z,ed,en,rfl⟩:=I;obtain⟨f,re,rfl,rfl,rfl⟩:=C8.mp ed.symm;have hf:=ok f (by rw[<-en];exact Bc _ A0);have hdn:dn.length < 1000000:=by
   have:=congrArg List.length en;rw[Ah]at this;omega
  have nxt:∀(x y z:Option SV),N [some (.w (.d (fsD fs))),some (.w (.dk (txK nm))),some (.own (dn.map (fvO nm)++[fvO nm f])),x,y,z] m:=λx y z =>
   kN _ _ ⟨rfl,dn++[f],re,x,y,z,rfl,by rw[Bn];exact en,by rw[A9];rfl⟩
  obtain⟨fo,tm,us⟩:=hf;have app:∀(K:DEnds) (x y:Option SV) (v:Ad),v=fvO nm f->(∀δ n,N δ n->K.nx δ n)->sApp 2 (wVar 5) [some (.w (.d (fsD fs))),some (.w (.dk (txK nm))),some (.own (dn.map (fvO nm))),x,y,some (.w (.d v))] m K:=λK x y v e hK =>
   jrx rfl (λQ q=>jad rfl q) (by rw[Ab];exact hdn) (by subst e;exact hK _ _ (nxt _ _ _))
  have named:∀(K:DEnds) (s x:Str) (v:Ad),look nm x=some v->jat "is" (.str s)=false->(∀δ n,N δ n->K.nx δ n)->(sSeq (sIf (cAnd (cT (w2 (wVar 3) (wC (.str "next")) gEq)) (cNot (cT (wIsi "str" (wVar 5))))) (sSet 5 (w2 (w2 (wVar 5) (wC (.int (1))) (gI0 λi j=>.int (i+j))) (wC (.int (100))) (gI (λ_ j=>0 < j) λi j=>.int (i % j)))) jas) (sApp 2 (wVar 5))) [some (.w (.d (fsD fs))),some (.w (.dk (txK nm))),some (.own (dn.map (fvO nm))),some (.w (.d (.str s))),some (.w (.d (.str x))),some (.w (.d v))] m K ->
    sSeq (sSet 5 (wIf (cT (w2 (wVar 3) (wC (.str "is")) gEq)) (wVar 4) (w2 (jb1 1) (wVar 4) jew))) (sSeq (sIf (cAnd (cT (w2 (wVar 3) (wC (.str "next")) gEq)) (cNot (cT (wIsi "str" (wVar 5))))) (sSet 5 (w2 (w2 (wVar 5) (wC (.int (1))) (gI0 λi j=>.int (i+j))) (wC (.int (100))) (gI (λ_ j=>0 < j) λi j=>.int (i % j)))) jas) (sApp 2 (wVar 5))) [some (.w (.d (fsD fs))),some (.w (.dk (txK nm))),some (.own (dn.map (fvO nm))),some (.w (.d (.str s))),some (.w (.d (.str x))),z] m K:=λK s x v e hs hK kk=>by
   refine jaj (ja6 (x:=v) (λQ q=>jlf (b:=false) (λQ q=>ct_b (λQ q=>jg0 (d:=.str s) rfl (by rw[hs];exact q)) q) ?_) ?_)
   ·rw[if_neg Ag];refine w2_i (j1b rfl (jad rfl ?_));unfold jew;simp only[jek,e];exact q
   ·dsimp only[Ao];exact kk
  refine⟨(by cases f<;>first | rfl | cases tm),?_⟩;cases f with
  |isv d =>
   dsimp only[Fe.hd,Fe.tl,jax,jb5,jai,Ao];refine jaj (ja6 (x:=d) (λQ q=>jlf (b:=true) (λQ q=>ct_b (λQ q=>jg0 (d:=.str "is") rfl (by rw[jjc];exact q)) q) (by rw[if_pos rfl];exact jad rfl q)) ?_);dsimp only[Ao];refine jaj (if_n (λQ q=>jnb (λQ q=>jg0 (d:=.str "is") rfl (by rw[show jat "next" (.str "is")=false by decide +kernel];exact q)) q) ?_);dsimp only[jas];exact app _ _ _ _ rfl λ_ _ z=>z
  |as x =>
   obtain⟨v,e,hv⟩:=us x rfl;dsimp only[Fe.hd,Fe.tl,jax,jb5,jai,Ao];refine named _ "as" x v e jjd (λ_ _ z=>z) ?_;refine jaj (if_n (λQ q=>jnb (λQ q=>jg0 (d:=.str "as") rfl (by rw[show jat "next" (.str "as")=false by decide +kernel];exact q)) q) ?_);dsimp only[jas];exact app _ _ _ _ (by show v=lkO nm x;unfold lkO;rw[e];rfl) λ_ _ z=>z
  |nx x =>
   obtain⟨v,e,hv⟩:=us x rfl;have ev:fvO nm (.nx x)=nxO v:=by show nxO (lkO nm x)=_;unfold lkO;rw[e];rfl
   dsimp only[Fe.hd,Fe.tl,jax,jb5,jai,Ao];refine named _ "next" x v e (by decide +kernel) (λ_ _ z=>z) ?_;cases v with
   |str t =>
    refine jaj (if_n (λQ q=>jko (λQ q=>jg0 (d:=.str "next") rfl (by rw[show jat "next" (.str "next")=true by decide +kernel];exact q)) (jta (k:=true) (λQ q=>ct_b (k:=true) (λQ q=>show wIsi _ _ _ _ _ from jad rfl (show Q (.d (.bool (isiB "str" (.str t)))) m by rw[jhj];exact q)) q) q)) ?_);dsimp only[jas];exact app _ _ _ _ (by rw[ev];rfl) λ_ _ z=>z
   |int i =>
    refine jaj (if_y (λQ q=>jko (λQ q=>jg0 (d:=.str "next") rfl (by rw[show jat "next" (.str "next")=true by decide +kernel];exact q)) (jta (k:=false) (λQ q=>ct_b (k:=false) (λQ q=>show wIsi _ _ _ _ _ from jad rfl (show Q (.d (.bool (isiB "str" (.int i)))) m by rw[jhj];exact q)) q) q)) ?_);refine ja6 (x:=.int ((i+1) % 100)) (λQ q=>w2_i (w2_i (jad rfl (c_i (addI (c_i ⟨show(0:Int) < 100 by decide,q⟩)))))) ?_;dsimp only[Ao];exact app _ _ _ _ (by rw[ev,j6g hv]) λ_ _ z=>z
   |_=>cases hv
  |_=>cases tm
theorem jiv:∀ws n Q,juh ws n Q->ws.length=2:=λws n Q h=>by obtain⟨_,_,rfl,_⟩:=h;rfl
abbrev zqp:List Str:=["_law_term_here","_law_names"]
theorem jhy:∀ws n Q,juh ws n Q->jdw (ja3 zqp ws) n {nx:=λ_ n=>Q (.d .none) n,rt:=Q}:=λws n Q h=>by
 obtain⟨f,nm,rfl,⟨fo,tm,us⟩,te,okn,k⟩:=h;show jdw [some (.w (.d f.d)),some (.w (.d (ja0 nm)))] n _;cases f with
 |isv d=>exact jbf (jlf (b:=true) (λQ q=>ct_b (λQ q=>jt3 (a:=.str "is") rfl (by rw[jjc];exact q)) q) (by rw[if_pos rfl];exact jcp rfl k))
 |as x =>
  obtain⟨v,e,hv⟩:=us x rfl;have k:Q (.d (lkO nm x)) n:=k;unfold lkO at k;rw[e]at k;refine jbf (jlf (b:=false) (λQ q=>ct_b (λQ q=>jt3 (a:=.str "as") rfl (by rw[jjd];exact q)) q) ?_);rw[if_neg Ag];refine w2_i (jw7 rfl okn (jcp (a:=.str "as") (b:=.str x) (r:=[]) rfl ?_));unfold jew;simp only[jek,e];exact k
 |_=>cases te
theorem jsh:∀{xs ys:List Str},xs.Nodup->ys.Nodup->(∀k,k∈xs↔k∈ys)->upT xs->upT ys->xs=ys
 |[],[],_,_,_,_,_=>rfl
 |[],y::ys,_,_,h,_,_=>by have:=(h y).mpr A0;simp at this
 |x::xs,[],_,_,h,_,_=>by have:=(h x).mp A0;simp at this
 |x::xs,y::ys,n1,n2,h,u1,u2=>by
  obtain⟨a1,b1⟩:=Dr.mp n1;obtain⟨a2,b2⟩:=Dr.mp n2;obtain⟨c1,d1⟩:=List.pairwise_cons.mp u1;obtain⟨c2,d2⟩:=List.pairwise_cons.mp u2;have e:x=y:=by
   rcases As.mp ((h x).mp A0)with e | hx
   ·exact e
   ·rcases As.mp ((h y).mpr A0)with e | hy
    ·exact e.symm
    ·exact tri _ _ (c2 x hx) (c1 y hy)
  subst e;rw[jsh b1 b2 (λk=>⟨λhk=>?_,λhk=>?_⟩) d1 d2]
  ·rcases As.mp ((h k).mp (Au _ hk))with e | q
   ·exact absurd (e▸hk) a1
   ·exact q
  ·rcases As.mp ((h k).mpr (Au _ hk))with e | q
   ·exact absurd (e▸hk) a2
   ·exact q
theorem j4r {nm:Nm} {w:List Str} (nd:(nm.map (·.1)).Nodup) (up:jgr nm) (wn:w.Nodup) (wu:upT w) (sub:∀k∈w,k∈nm.map (·.1)):nm.filter (λp=>decide (p.1∈w))=w.map λk=>(k,lkO nm k):=by
 have ek:(nm.filter λp=>decide (p.1∈w)).map (·.1)=w:=by
  refine jsh ?_ wn (λk=>⟨λhk=>?_,λhk=>?_⟩) ?_ wu
  ·exact List.Nodup.sublist (List.Sublist.map _ List.filter_sublist) nd
  ·obtain⟨p,hp,rfl⟩:=Bo.mp hk;exact of_decide_eq_true (Dc.mp hp).2
  ·obtain⟨p,hp,rfl⟩:=Bo.mp (sub k hk);exact Bo.mpr ⟨p,Dc.mpr ⟨hp,decide_eq_true hk⟩,rfl⟩
  ·unfold upT;rw[List.pairwise_map];exact List.Pairwise.sublist List.filter_sublist up
 have e2:(nm.filter λp=>decide (p.1∈w))=(nm.filter λp=>decide (p.1∈w)).map λp=>(p.1,lkO nm p.1):=by
  have:(nm.filter λp=>decide (p.1∈w)).map id=(nm.filter λp=>decide (p.1∈w)).map λp=>(p.1,lkO nm p.1):=by
   refine C1 λp hp=>?_;have:=jzj nd (Dc.mp hp).1;show p=(p.1,lkO nm p.1);unfold lkO;rw[this];rfl
  rw[List.map_id]at this;exact this
 rw[e2]
 conv=>rhs;rw[<-ek]
 rw[Dg];rfl
theorem jhg:∀ws n Q,jg9 ws n Q->ws.length=3:=λws n Q h=>by obtain⟨_,_,_,_,rfl,_⟩:=h;rfl
abbrev zqa2:List Str:=["_law_program_here","_law_names","_law_block","_law_has"]
theorem jg3:∀ws n Q,jg9 ws n Q->jdf (ja3 zqa2 ws) n {nx:=λ_ n=>Q (.d .none) n,rt:=Q}:=λws n Q h=>by
 obtain⟨P,b,nm,⟨w,as⟩,rfl,hb,hw,okn,up,wn,wu,sub,k⟩:=h;have hbD:(P.map blD)[b]?=some (.tuple [jcg w,.tuple (as.map Ac.d)]):=by rw[Ay,hb];rfl
 have ew:wtO P b=w:=by unfold wtO;rw[hb];rfl
 unfold goTo at k;rw[ew,j4r okn.2.1 up wn wu sub]at k;show jdf [some (.w (.d (prD P))),some (.w (.d (ja0 nm))),some (.w (.d (.int b))),none] n _;refine jaj (jft rfl okn ?_);dsimp only[Ao];refine jbf (jlg (jad rfl (c_i (b1_i (of_i (jfe (ds:=w.map .str) (λQ q=>w2_i (w2_i (jad rfl (jad rfl (gN_i hbD (c_i (g0_i q)))))) ) ?_))))));show jcj _ _ _ _ _ _ [none,some (.w (.dk (txK nm)))] n;refine j4b .str (λx=>jir (x,lkO nm x)) w none n (λx hx n Q' q=>?_) ?_
 ·obtain⟨v,e⟩:=jsw (sub x hx);refine jb2 (jad rfl (w2_i (j1b rfl (jad rfl ?_))));unfold jew;simp only[jek,e];unfold lkO at q;rw[e]at q;exact Am (show 2<=1000 by decide) q
 ·refine Am (show 3<=1000 by decide) ?_;unfold hnD ja0 at k;rw[Dg]at k;exact k
theorem js9 {Q:List Ad->Int->Prop}:∀(ns:List Nt) (acc:List Ad) (x y:Option SV) (n:Int),(∀q∈ns,jj0 q.2)->Q (acc++(clkO ns).map ntD) n ->
  jcj (jdc 2 (jax (jai 0) (jax (jai 1) jb5))) (cT (w2 (wVar 1) (wC (.int (1))) gNe)) (wTup (jab (wVar 0) (jab (wIf (cT (w2 (wVar 1) (wC .none) (gIsO false))) (wC .none) (w2 (wVar 1) (wC (.int (1))) (gI0 λi j=>.int (i - j)))) aNil))) Q (ns.map ntD) acc [x,y] n
 |[],acc,x,y,n,_,q=>by
  have:clkO []=[]:=rfl;rw[this,Fh,Bz]at q;exact q
 | (row,a)::r,acc,x,y,n,h,q=>by
  have ha:jj0 a:=h (row,a) A0;have ih:=λacc x y n q=>js9 (Q:=Q) r acc x y n (λq hq=>h q (Au _ hq)) q;rw[Bi];refine(show jdc 2 _ (ntD (row,a)) [x,y] _ from⟨rfl,?_⟩);dsimp only[jax,jb5,jai,Ao];refine ct_b (k:=!isI1 a) (λQ q=>w2_i (jad rfl (c_i (j6k ha q)))) ?_;show if (!isI1 a)=true then _ else _
  have e0:clkO ((row,a)::r)=(if (!isI1 a)=true then[(row,ageO a)]else[])++clkO r:=by
   unfold clkO;rw[List.filter_cons];dsimp only
   split<;>rfl
  rw[e0]at q;cases hi:isI1 a with
  |true =>
   rw[hi,if_neg (by decide),Ch]at q;rw[if_neg (by decide)];exact ih _ _ _ _ q
  |false =>
   rw[hi,if_pos (by decide),A9,<-Bn]at q;rw[if_pos (by decide)];rcases ha with rfl | ⟨i,rfl,_⟩
   ·exact jb2 (jad rfl (jlf (b:=true) (λQ q=>ct_b (k:=true) (λQ q=>w2_i (jad rfl (c_i (jlu q)))) q) (by rw[if_pos rfl];exact c_i (Am (show 2<=1000 by decide) (ih _ _ _ _ q)))))
   ·exact jb2 (jad rfl (jlf (b:=false) (λQ q=>ct_b (k:=false) (λQ q=>w2_i (jad rfl (c_i (jlu q)))) q) (by rw[if_neg Ag];exact w2_i (jad rfl (c_i (Am (show 2<=1000 by decide) (ih _ _ _ _ q)))))))
section
variable {δ:Sl} {n:Int} {Q:DQ} {K:DEnds} {W V:DST} {i:Nat} {s h:Str} {r:List Ad} {b c d e:Ad}
theorem ixo {x y:Wv} (k:gIx x y n Q):gIxO x y n Q:=.inr k
theorem j8x (k:Q (.d (.bool (jat h (.str s)))) n):gEq (.d (.str s)) (.d (.str h)) n Q:=k
theorem j3t (e:δ[i]?=some (some (.w (.d (.tuple (.str s::r)))))) (k:if jat h (.str s)=true then W δ n K else V δ n K):sIf (cT (w2 (w2 (wVar i) (wC (.int 0)) gIxO) (wC (.str h)) gEq)) W V δ n K :=
 if_i (show cT _ _ _ _ from w2_i (w2_i (jad e (c_i (ixo (g0_i (c_i (j8x k))))))))
theorem j3s (e:δ[i]?=some (some (.w (.d (.tuple (.str s::r)))))) (z:jat h (.str s)=true) (k:W δ n K):sIf (cT (w2 (w2 (wVar i) (wC (.int 0)) gIxO) (wC (.str h)) gEq)) W V δ n K:=j3t e (by rw[if_pos z];exact k)
theorem jiw (e:δ[i]?=some (some (.w (.d (.tuple (.str s::r)))))) (z:jat h (.str s)=false) (k:V δ n K):sIf (cT (w2 (w2 (wVar i) (wC (.int 0)) gIxO) (wC (.str h)) gEq)) W V δ n K:=j3t e (by rw[if_neg (by rw[z];exact Ag)];exact k)
theorem ixo1 (e:δ[i]?=some (some (.w (.d (.tuple (b::c::r)))))) (k:Q (.d c) n):w2 (wVar i) (wC (.int 1)) gIxO δ n Q:=w2_i (jad e (c_i (ixo (g1_i k))))
theorem ixo2 (e:δ[i]?=some (some (.w (.d (.tuple (b::c::d::r)))))) (k:Q (.d d) n):w2 (wVar i) (wC (.int 2)) gIxO δ n Q:=w2_i (jad e (c_i (ixo (g2_i k))))
theorem ixo3 (e':δ[i]?=some (some (.w (.d (.tuple [b,c,d,e]))))) (k:Q (.d e) n):w2 (wVar i) (wC (.int 3)) gIxO δ n Q:=w2_i (jad e' (c_i (ixo k)))
theorem j6u {m:List (Key×Ad)} (e':δ[i]?=some (some (.w (.ob (.q d m))))) (k:Q (.d d) n):w2 (wVar i) (wC (.int 0)) gIxO δ n Q:=w2_i (jad e' (c_i (.inl ⟨d,m,rfl,.inl ⟨rfl,k⟩⟩)))
theorem j8m {m:List (Key×Ad)} (e':δ[i]?=some (some (.w (.ob (.q d m))))) (k:Q (.dk m) n):w2 (wVar i) (wC (.int 1)) gIxO δ n Q:=w2_i (jad e' (c_i (.inl ⟨d,m,rfl,.inr ⟨rfl,k⟩⟩)))
theorem j8i {a b:Ad} (ha:isV a=true) (hb:isV b=true) (k:Q (.d (.bool (!eqB a b))) n):gNe (.d a) (.d b) n Q:=by
 cases a with
 |str x=>cases b with
  |str y=>exact k
  |int j=>exact k
  |_=>cases hb
 |int i=>cases b with
  |str y=>exact k
  |int j=>exact k
  |_=>cases hb
 |_=>cases ha
end
theorem j0q {fs:List Fd} {row:List Ad} {nm:Nm} (nd:(nm.map (·.1)).Nodup) (h:fitB fs row nm=true):((wkN fs row nm).map (·.1)).Nodup/\(wk (fs.zip row) nm []=some (wkN fs row nm)):=by
 unfold fitB at h;rw[Cj]at h;unfold wkN;obtain⟨x,hx⟩:=Ew.mp h.2;rw[hx];exact⟨jo3 _ _ _ _ nd hx,rfl⟩
theorem juj:∀(l:List (Fd×Ad)) (h:Nm) (hs:List Str) (k:Nm),(∀p∈l,p.1.ok/\isV p.2=true)->(∀p∈h,okV p)->wk l h hs=some k->(∀p∈k,okV p)/\k.length<=h.length+l.length
 |[],h,hs,k,_,ho,e=>by cases e;exact⟨ho,An _⟩
 | (f,v)::r,h,hs,k,hl,ho,e=>by
  have hr:∀p∈r,p.1.ok/\isV p.2=true:=λp hp=>hl p (Au _ hp);have same:wk r h hs=some k->(∀p∈k,okV p)/\k.length<=h.length+((f,v)::r).length:=λe=>by
   have:=juj r h hs k hr ho e;exact⟨this.1,by rw[Ar];omega⟩
  cases f with
  |is w=>unfold wk at e;split at e;exact same e;cases e
  |any=>unfold wk at e;exact same e
  |word=>unfold wk at e;split at e;exact same e;cases e
  |number=>unfold wk at e;split at e;exact same e;cases e
  |as x =>
   unfold wk at e
   split at e
   ·split at e
    ·exact same e
    ·cases e
   ·cases e
  |bind x =>
   unfold wk at e
   split at e
   ·split at e
    ·split at e
     ·exact same e
     ·cases e
    ·cases e
   ·have hb:=hl _ A0;have:=juj r (put h x v) (hs++[x]) k hr (jmv ho hb.1 hb.2) e;have:=jjx h x v;exact⟨by have:=juj r (put h x v) (hs++[x]) k hr (jmv ho hb.1 hb.2) e;exact this.1,by rw[Ar];omega⟩
theorem j0p {fs:List Fd} {row:List Ad} (of:okP fs) (or:okR row):∀p∈fs.zip row,p.1.ok/\isV p.2=true:=λp hp=>by
 obtain⟨p1,p2⟩:=p;exact⟨of.2.2 _ (E5 hp).1,or.2 _ (E5 hp).2⟩
theorem jn6:∀ws n Q,jh5 ws n Q->ws.length=3:=jwj
abbrev zqh:List Str:=["_law_programs","_law_stand_here","_law_mover","_law_hands","_law_notes_here","_law_act_here","_law_block","_law_place","_law_names","_law_found","_law_hand"]
theorem jme:∀ws n Q,jh5 ws n Q->jgl (ja3 zqh ws) n {nx:=λ_ n=>Q (.d .none) n,rt:=Q}:=λws n Q h=>by
 obtain⟨ps,hs,ns,m,r,rfl,⟨okp,okh,okn⟩,hm,e,k⟩:=h;show jgl [some (.w (.d (pgD ps))),some (.w (.d (stD hs ns))),some (.w (.d (.int m))),none,none,none,none,none,none,none,none] n _;refine jaj ?_;unfold sUnp;refine jad rfl (Am rfl ?_);dsimp only[jax,jb5,jai,Ao];unfold aftO at e;refine jaj (if_i (ct_b (k:=decide ((m:Int)=(ps.length:Nat))) (λQ q=>w2_i (jad rfl (b1_i (jad rfl ?_)))) ?_))
 ·show Q (.d (.bool (decide ((m:Int)=((ps.map prD).length:Nat))))) n;rw[Ab];exact q
 by_cases em:m=ps.length
 ·rw[if_pos em]at e;cases e;show if decide ((m:Int)=(ps.length:Nat))=true then _ else _
  rw[if_pos (decide_eq_true (by omega))];refine jbf (jb2 (jad rfl (b1_i (of_i (jfe (ds:=ns.map ntD) (λQ q=>jad rfl q) ?_)))));show jcj _ _ _ _ _ _ [none,none] n;exact js9 ns [] none none n (λq hq=>(okn.2 q hq).2) (Am (show 2<=1000 by decide) k)
 rw[if_neg em]at e;show if decide ((m:Int)=(ps.length:Nat))=true then _ else _
 rw[if_neg (by rw[decide_eq_false (by omega)];exact Ag)];dsimp only[jas];have hh:m < ps.length:=by omega
 obtain⟨P,xb,xp,nm,w,as,H⟩:=jda okh hh;have hlt:m < hs.length:=by rw[okh.1];exact hh
 have hl5:hs.length<=5:=by rw[okh.1];exact okp.1
 refine jaj (ja6 (λQ q=>jtu rfl rfl rfl okh hh q) ?_);dsimp only[Ao];cases ea:actO ps hs m with
 |none =>
  unfold movO at e;rw[H.prog,H.hand,ea]at e;cases e
 |some a =>
 rw[jpr H ea]at e;have oa:=H.ok okp ea;refine jaj ?_;refine w2_i (jad rfl (jad rfl (ixo (gN_i H.hD ?_))));refine Am rfl ?_;dsimp only[jax,jb5,jai,Ao];refine jaj (sets (o:=gotP ps hs ns m) (λQ q=>c3_i (jad rfl (jad rfl (jad rfl ⟨ps,hs,ns,m,rfl,⟨okp,okh,okn⟩,hh,q⟩)))) ?_);dsimp only[Ao];refine jaj (ja6 (x:=hnD (goOn (xb,xp,nm) nm)) (λQ q=>jlg (jad rfl (w2_i (jad rfl (c_i (addI (jad rfl (Am (show 3<=1000 by decide) q)))))))) ?_);dsimp only[Ao];have fin:∀(x:Hn) (ns':List Nt) (x5 x6 x7 x8 x9:Option SV),Q (.d (stD (setH hs m x) ns')) n->sRet (wTup (jab (w2 (w2 (jbz (wVar 3) jb8 (jb7 (wVar 2))) (wTup (jab (wVar 10) aNil)) jeb) (jbz (wVar 3) (jb7 (w2 (wVar 2) (wC (.int (1))) (gI0 λi j=>.int (i+j)))) jb8) jeb) (jab (wVar 4) aNil)))
   [some (.w (.d (pgD ps))),some (.w (.d (stD hs ns))),some (.w (.d (.int m))),some (.w (.d (.tuple (hs.map hnD)))),some (.w (.d (nsD ns'))),x5,x6,x7,x8,x9,some (.w (.d (hnD x)))] n {nx:=λ_ n=>Q (.d .none) n,rt:=Q}:=λx ns' x5 x6 x7 x8 x9 q=>by
  have hd:(setH hs m x).map hnD=((hs.map hnD).take m++[hnD x])++(hs.map hnD).drop (m+1):=by
   unfold setH;rw[A9,Bi,Fw,List.map_drop,Bn];rfl
  unfold stD at q;rw[hd]at q;have l1:((hs.map hnD).take m).length<=5:=A5 (Fy _ _) (by rw[Ab];exact hl5);have l2:((hs.map hnD).drop (m+1)).length<=5:=by rw[Bx,Ab];omega
  refine jbf (jb2 (w2_i (w2_i (jsc (p:=m) (λQ q=>jad rfl q) (λQ q=>jad rfl q) (by rw[Ab];omega) (jyb (jad rfl (Am (show 1<=1000 by decide) (jin (by rw[Aq];omega) ?_))))))));exact jsd (p:=m+1) (λQ q=>jad rfl q) (λQ q=>w2_i (jad rfl (c_i (addI q)))) (by rw[Ab];omega) (jin (by rw[Ah,Aq];omega) (jad rfl (Am (show 2<=1000 by decide) q)))
 have toB:∀(b:Nat),a.to=some b->∀(x5 x9:Option SV) (i5:DT),(∀Q:DQ,Q (.d (.int b)) n->i5 [some (.w (.d (pgD ps))),some (.w (.d (stD hs ns))),some (.w (.d (.int m))),some (.w (.d (.tuple (hs.map hnD)))),some (.w (.d (nsD ns))),x5,some (.w (.d (.int xb))),some (.w (.d (.int xp))),some (.w (.d (ja0 nm))),x9,some (.w (.d (hnD (goOn (xb,xp,nm) nm))))] n Q)->∀K:DEnds,
   (∀δ n,sRet (wTup (jab (w2 (w2 (jbz (wVar 3) jb8 (jb7 (wVar 2))) (wTup (jab (wVar 10) aNil)) jeb) (jbz (wVar 3) (jb7 (w2 (wVar 2) (wC (.int (1))) (gI0 λi j=>.int (i+j)))) jb8) jeb) (jab (wVar 4) aNil))) δ n {nx:=λ_ n=>Q (.d .none) n,rt:=Q}->K.nx δ n)->Q (.d (stD (setH hs m (goTo P b nm)) ns)) n ->
   sSet 10 (jam jg9 (jab (w2 (wVar 0) (wVar 2) gIxO) (jab (wVar 8) (jab i5 aNil)))) [some (.w (.d (pgD ps))),some (.w (.d (stD hs ns))),some (.w (.d (.int m))),some (.w (.d (.tuple (hs.map hnD)))),some (.w (.d (nsD ns))),x5,some (.w (.d (.int xb))),some (.w (.d (.int xp))),some (.w (.d (ja0 nm))),x9,some (.w (.d (hnD (goOn (xb,xp,nm) nm))))] n K:=λb hb x5 x9 i5 h5 K hK q=>by
  obtain⟨bl,hbl,obl,sub⟩:=H.to okp ea hb;refine ja6 (x:=hnD (goTo P b nm)) (λQ q=>c3_i (w2_i (jad rfl (jad rfl (ixo (gN_i H.pD (jad rfl (h5 _ ⟨P,b,nm,bl,rfl,hbl,obl.1,H.nms,H.hn.up,obl.2.2.2.2.1,obl.2.2.2.2.2,sub,q⟩))))))) ) ?_;dsimp only[Ao];exact hK _ _ (fin _ _ _ _ _ _ _ q)
 have getY:∀(s:Str) (gs:List Fe) (r5:List Ad) (i:Nat),a.pf=some (gs.map Fe.fd)->okFs gs->patO gs->fstO (gs.map Fe.fd) nm ns=some i->∀K:DEnds,
   (∀δ n,sRet (wTup (jab (w2 (w2 (jbz (wVar 3) jb8 (jb7 (wVar 2))) (wTup (jab (wVar 10) aNil)) jeb) (jbz (wVar 3) (jb7 (w2 (wVar 2) (wC (.int (1))) (gI0 λi j=>.int (i+j)))) jb8) jeb) (jab (wVar 4) aNil))) δ n {nx:=λ_ n=>Q (.d .none) n,rt:=Q}->K.nx δ n) ->
   Q (.d (stD (setH hs m (goOn (xb,xp,nm) (srtN (wkN (gs.map Fe.fd) (rowO ns i) nm)))) (if jat "take" (.str s)=true then outO ns i else ns))) n ->
   sIf (cT (w2 (wVar 9) (wC .none) (gIsO false))) (sSet 10 (jam jg9 (jab (w2 (wVar 0) (wVar 2) gIxO) (jab (wVar 8) (jab (w2 (wVar 5) (wC (.int (2))) gIxO) aNil))))) (sSeq (sSet 10 (wTup (jab (wVar 6) (jab (w2 (wVar 7) (wC (.int (1))) (gI0 λi j=>.int (i+j))) (jab (wB jby (jab (wOf (jd1 (w2 (wVar 9) (wC (.int (1))) gIxO))) aNil)) aNil))))) (sIf (cT (w2 (w2 (wVar 5) (wC (.int (0))) gIxO) (wC (.str "take")) gEq)) (sSet 4 (w2 (jbz (wVar 4) jb8 (jb7 (w2 (wVar 9) (wC (.int (0))) gIxO))) (jbz (wVar 4) (jb7 (w2 (w2 (wVar 9) (wC (.int (0))) gIxO) (wC (.int (1))) (gI0 λi j=>.int (i+j)))) jb8) jeb)) jas))
    [some (.w (.d (pgD ps))),some (.w (.d (stD hs ns))),some (.w (.d (.int m))),some (.w (.d (.tuple (hs.map hnD)))),some (.w (.d (nsD ns))),some (.w (.d (.tuple (.str s::r5)))),some (.w (.d (.int xb))),some (.w (.d (.int xp))),some (.w (.d (ja0 nm))),some (.w (gotW (gotP ps hs ns m))),some (.w (.d (hnD (goOn (xb,xp,nm) nm))))] n K:=λs gs r5 i hpf hof hpat ei K hK q=>by
  have eg:gotP ps hs ns m=some (i,wkN (gs.map Fe.fd) (rowO ns i) nm):=by
   unfold gotP;rw[ea,H.nmq];show(a.pf.bind _)=_;rw[hpf];show(fstO _ _ _).map _=_;rw[ei];rfl
  obtain⟨⟨row,age⟩,hq,hf⟩:=jro ei;have hi:i < ns.length:=(At.mp hq).1;have er:rowO ns i=row:=by unfold rowO;rw[hq];rfl
  have oq:=okn.2 _ (A6 hq);obtain⟨ep,op⟩:=jm8 hof hpat;rw[er]at q eg;obtain⟨nd,ew⟩:=j0q H.hn.nd hf;obtain⟨wo,wl⟩:=juj _ _ _ _ (j0p op oq.1) H.hn.ok ew;have wl':(wkN (gs.map Fe.fd) row nm).length < 64:=by
   have h1:=H.hn.ln;have h2:((gs.map Fe.fd).zip row).length<=4:=by rw[List.length_zip];have:=op.2.1;omega
   have h3:nm.length<=40:=h1;have h4:(wkN (gs.map Fe.fd) row nm).length<=nm.length+((gs.map Fe.fd).zip row).length:=wl;omega
  rw[eg];refine if_n (λQ q=>ct_b (k:=false) (λQ q=>w2_i (jad rfl (c_i (j3n q)))) q) (jaj ?_);refine ja6 (x:=hnD (goOn (xb,xp,nm) (srtN (wkN (gs.map Fe.fd) row nm)))) (λQ q=>?_) ?_
  ·refine jlg (jad rfl (w2_i (jad rfl (c_i (addI ?_)))));refine b1_i (of_i ?_);refine(show jd1 _ _ _ _ from j8m rfl ?_);refine⟨_,rfl,wl',nd,λp hp=>⟨A5 (wo p hp).1.1 (by decide),j1s (wo p hp).2⟩,λps' p1 r1=>?_⟩;refine Am (show 3<=1000 by decide) ?_;rw[j0y nd p1 r1];exact q
  dsimp only[Ao];refine j3t rfl ?_;refine ifb (λz=>?_) λz=>?_
  ·rw[if_pos z]at q;refine ja6 (x:=nsD (outO ns i)) (λQ q=>w2_i (jsc (p:=i) (λQ q=>jad rfl q) (λQ q=>j6u rfl q) (by rw[Ab];omega) (jsd (p:=i+1) (λQ q=>jad rfl q) (λQ q=>w2_i (j6u rfl (c_i (addI q)))) (by rw[Ab];omega) (jin ?_ ?_)))) ?_
   ·have:=okn.1;rw[Ci,Bx,Ab];omega
   ·unfold nsD at q;rw[jv5]at q;exact q
   ·dsimp only[Ao];exact hK _ _ (fin _ _ _ _ _ _ _ q)
  ·rw[if_neg (by rw[z];exact Ag)]at q;exact hK _ _ (fin _ _ _ _ _ _ _ q)
 cases a with
 |lay fs age =>
  obtain⟨hl4,hfv⟩:=H.lay okp ea;cases e;refine jaj (j3s (s:="lay") rfl (by decide +kernel) ?_);refine ja6 (x:=nsD (ns++[(filO fs nm,age)])) (λQ q=>?_) ?_
  ·refine w2_i (jad rfl (jyb (jb2 (c2_i (ixo1 rfl (jw7 rfl H.nms ⟨fs,nm,rfl,hl4,hfv,?_⟩))))));refine ixo2 rfl (Am (show 2<=1000 by decide) (Am (show 1<=1000 by decide) (jin (by rw[Ab,Aq];have:=okn.1;omega) ?_)));unfold nsD at q;rw[A9]at q;exact q
  ·dsimp only[Ao];exact fin _ _ _ _ _ _ _ k
 |go b =>
  cases e;refine jaj (jiw (s:="go") rfl (by decide +kernel) (j3s (s:="go") rfl (by decide +kernel) ?_));exact toB b rfl _ _ _ (λQ q=>ixo1 rfl q) _ (λ_ _ z=>z) k
 |same f g b =>
  obtain⟨hf,hg,tf,tg⟩:=H.same okp ea;cases e;refine jaj (jiw (s:="same") rfl (by decide +kernel) (jiw (s:="same") rfl (by decide +kernel) (j3s (s:="same") rfl (by decide +kernel) ?_)));refine if_i (show cT _ _ _ _ from w2_i (c2_i (ixo1 rfl (jad rfl ⟨f,nm,rfl,hf,tf,H.nms,c2_i (ixo2 rfl (jad rfl ⟨g,nm,rfl,hg,tg,H.nms,j8i (fv_V hf) (fv_V hg) ?_⟩))⟩))));have k:Q (.d (stD (setH hs m (if eqB (fvO nm f) (fvO nm g)=true then goOn (xb,xp,nm) nm else goTo P b nm)) ns)) n:=k;show if (!eqB (fvO nm f) (fvO nm g))=true then _ else _
  cases z:eqB (fvO nm f) (fvO nm g)with
  |true =>
   rw[z,if_pos rfl]at k;rw[if_neg (by decide)];exact fin _ _ _ _ _ _ _ k
  |false =>
   rw[z,if_neg Ag]at k;rw[if_pos (by decide)];exact toB b rfl _ _ _ (λQ q=>ixo3 rfl q) _ (λ_ _ z=>z) k
 |take gs =>
  have e:(((getO gs (xb,xp,nm) ns).map λq=>(q.2,outO ns q.1)).map λr=>(setH hs m r.1,r.2))=some r:=e;refine jaj (jiw (s:="take") rfl (by decide +kernel) (jiw (s:="take") rfl (by decide +kernel) (jiw (s:="take") rfl (by decide +kernel) ?_)));cases ei:fstO (gs.map Fe.fd) nm ns with
  |none=>rw[jc3 ei]at e;cases e
  |some i =>
   rw[jct ei]at e;cases e;exact getY "take" gs [fsD gs] i rfl oa.1 oa.2 ei _ (λ_ _ z=>z) (by rw[if_pos (by decide +kernel)];exact k)
 |read gs =>
  have e:(((getO gs (xb,xp,nm) ns).map λq=>(q.2,ns)).map λr=>(setH hs m r.1,r.2))=some r:=e;refine jaj (jiw (s:="read") rfl (by decide +kernel) (jiw (s:="read") rfl (by decide +kernel) (jiw (s:="read") rfl (by decide +kernel) ?_)));cases ei:fstO (gs.map Fe.fd) nm ns with
  |none=>rw[jc3 ei]at e;cases e
  |some i =>
   rw[jct ei]at e;cases e;exact getY "read" gs [fsD gs] i rfl oa.1 oa.2 ei _ (λ_ _ z=>z) (by rw[if_neg (by decide +kernel)];exact k)
 |look gs b =>
  have e:((match getO gs (xb,xp,nm) ns with | some q=>some (q.2,ns) | none=>some (goTo P b nm,ns):Option (Hn×List Nt)).map λr=>(setH hs m r.1,r.2))=some r:=e;refine jaj (jiw (s:="look") rfl (by decide +kernel) (jiw (s:="look") rfl (by decide +kernel) (jiw (s:="look") rfl (by decide +kernel) ?_)));cases ei:fstO (gs.map Fe.fd) nm ns with
  |none =>
   rw[jc3 ei]at e;cases e;have eg:gotP ps hs ns m=none:=by
    unfold gotP;rw[ea,H.nmq];show(fstO _ _ _).map _=_;rw[ei];rfl
   rw[eg];refine if_y (λQ q=>ct_b (k:=true) (λQ q=>w2_i (jad rfl (c_i (jlu q)))) q) ?_;exact toB b rfl _ _ _ (λQ q=>ixo2 rfl q) _ (λ_ _ z=>z) k
  |some i =>
   rw[jct ei]at e;cases e;exact getY "look" gs [fsD gs,.int b] i rfl oa.1 oa.2 ei _ (λ_ _ z=>z) (by rw[if_neg (by decide +kernel)];exact k)
theorem j0t:jer [] [(.inr "word",.str "ab"),(.inr "number",.int 99)]=txK [("word",.str "ab"),("number",.int 99)]:=jja [("word",.str "ab"),("number",.int 99)] [] (by decide +kernel)
theorem jyd:valD (jer [] [(.inr "word",.str "ab"),(.inr "number",.int 99)]) (.inr "word")=some (.str "ab"):=by
 rw[j0t,jek];unfold look;rw[List.find?_cons_of_pos (by exact decide_eq_true rfl)];rfl
theorem jti:valD (jer [] [(.inr "word",.str "ab"),(.inr "number",.int 99)]) (.inr "number")=some (.int 99):=by
 rw[j0t,jek];unfold look;rw[List.find?_cons_of_neg (by rw[decide_eq_false (show ¬("word":Str)="number" by decide +kernel)];exact Ag),List.find?_cons_of_pos (by exact decide_eq_true rfl)];rfl
section
variable {δ:Sl} {n:Int} {Q:DQ} {K:DEnds} {a v:Ad} {r:List Ad} {x:Str} {hp:Nm}
theorem j4s {s:Str} {d:Ad} (e5:δ[5]?=some (some (.w (.d (.tuple (.str s::r)))))) (h:valD (jer [] [(.inr "word",.str "ab"),(.inr "number",.int 99)]) (.inr s)=some d) (k:Q (.d d) n):w2 (jx6 "word" "ab" "number" 99) (w2 (wVar 5) (wC (.int 0)) gIx) jew δ n Q:=by
 unfold w2 jx6;refine(show w2 (wVar 5) (wC (.int 0)) gIx δ n _ from jdj e5 ?_);unfold jew;simp only[h];exact k
theorem j33 (e5:δ[5]?=some (some (.w (.d (.tuple (a::.str x::r)))))) (e3:δ[3]?=some (some (.odk (txK hp)))) (e6:δ[6]?=some (some (.w (.d v)))) (k:Q (.d ((look hp x).getD v)) n):jo5 (jb1 3) (w2 (wVar 5) (wC (.int 1)) gIx) (wVar 6) δ n Q:=by
 unfold jo5 jb1;rw[e3];refine jcp e5 (jad e6 ?_);dsimp only;rw[jek];exact k
theorem j8d (e5:δ[5]?=some (some (.w (.d (.tuple (a::.str x::r)))))) (e3:δ[3]?=some (some (.odk (txK hp)))) (e6:δ[6]?=some (some (.w (.d v)))) (hl:hp.length < 1000) (k:K.nx (δ.set 3 (some (.odk (txK (put hp x v))))) n):jlh 3 (w2 (wVar 5) (wC (.int 1)) gIx) (wVar 6) δ n K:=by
 unfold jlh;rw[e3];refine jad e6 (jcp e5 ⟨by unfold txK;rw[Ab];exact hl,?_⟩);rw[jpl];exact k
end
theorem jzp {δ:Sl} {n:Int} {Q:DQ} {i:Nat} {ds:List Ad} (e:δ[i]?=some (some (.own ds))) (k:Q (.d (.int ds.length)) n):jjh i δ n Q:=by unfold jjh;rw[e];exact k
theorem j1l {hp:Nm} {x:Str} {v:Ad} (hok:∀p∈hp,okV p) (hv:isV v=true):isV ((look hp x).getD v)=true:=by
 cases e:look hp x with
 |none=>exact hv
 |some w=>exact(hok _ (jcw e)).2
theorem jn7:∀ws n Q,jqv ws n Q->ws.length=3:=λws n Q h=>by obtain⟨_,_,rfl,_⟩:=h;rfl
abbrev zqc1:List Str:=["_law_tape_here","_law_pattern_here","_law_names","_law_has","_law_row","_law_field","_law_value_here"]
theorem jmf:∀ws n Q,jqv ws n Q->jgm (ja3 zqc1 ws) n {nx:=λ_ n=>Q (.d .none) n,rt:=Q}:=λws n0 Q h=>by
 obtain⟨fs,nm,rfl,okp,okn,hn0,k⟩:=h;show jgm [some (.w .tp),some (.w (.d (patD fs))),some (.w (.d (ja0 nm))),none,none,none,none] n0 _;refine jaj (jft rfl okn ?_);dsimp only[Ao];refine jaj (jc8 ?_);dsimp only[Ao];refine jaj ?_;unfold sFor jcl;refine jad rfl ?_;dsimp only[patD];refine jbj (λds δ m=>∃(gs:List Fd) (hp:Nm) (row:List Ad) (x y:Option SV),ds=gs.map Fd.d/\δ=[some (.w .tp),some (.w (.d (.tuple (fs.map Fd.d)))),some (.w (.d (ja0 nm))),some (.odk (txK hp)),some (.own row),x,y]/\(∀g∈gs,g.ok)/\(∀p∈hp,okV p)/\hp.length+gs.length<=48/\row.length+gs.length<=4/\(∀d∈row,isV d=true)/\m+(gs.length:Int)<=n0+4)
  (λδ m I=>?_) (λd r δ m N I kN=>?_) _ _ _ ⟨fs,nm,[],none,none,rfl,rfl,okp.2.2,okn.2.2,by have:=okp.2.1;have:=okn.1;omega,by have:=okp.2.1;simpa using this,λd hd=>by simp at hd,by have:=okp.2.1;omega⟩
 ·obtain⟨gs,hp,row,x,y,ed,rfl,gok,hok,l1,l2,hrow,hm⟩:=I;cases D3.mp ed.symm;dsimp only;refine jgd rfl ?_;dsimp only[Ao];exact jbf (b1_i (jad rfl (k row m ⟨by simpa using l2,hrow⟩ (by simpa using hm))))
 ·obtain⟨gs,hp,row,x,y,ed,rfl,gok,hok,l1,l2,hrow,hm⟩:=I;obtain⟨g,gs,rfl,rfl,rfl⟩:=C8.mp ed.symm;rw[Ar]at l1 l2 hm;have gk:=gok g A0;dsimp only[jai,Ao];refine jaj (show sSet 6 _ _ _ _ from c1_i (jad rfl (Am rfl ⟨by omega,λv hv=>?_⟩)));dsimp only[Ao];have vk:=jmi hv;have fin:∀(hp':Nm) (w:Ad) (K:DEnds),(∀δ n,N δ n->K.nx δ n)->(∀p∈hp',okV p)->hp'.length<=hp.length+1->isV w=true->sApp 4 (wVar 6) [some (.w .tp),some (.w (.d (.tuple (fs.map Fd.d)))),some (.w (.d (ja0 nm))),some (.odk (txK hp')),some (.own row),some (.w (.d g.d)),some (.w (.d w))] (m+1) K:=λhp' w K hK a1 a2 a3=>by
   refine jrx rfl (λQ q=>jad rfl q) (by omega) (hK _ _ (kN _ _ ⟨gs,hp',row++[w],_,_,rfl,rfl,λf hf=>gok f (Au _ hf),a1,by omega,by rw[Ah,Aq];omega,λd hd=>?_,by omega⟩));rcases A8.mp hd with z | z
   ·exact hrow d z
   ·rw[Bd.mp z];exact a3
  have named:∀(s x:Str) (K:DEnds),(∀δ n,N δ n->K.nx δ n)->g.d=.tuple [.str s,.str x]->okX x->sSeq (sSet 6 (jo5 (jb1 3) (w2 (wVar 5) (wC (.int 1)) gIx) (wVar 6))) (jlh 3 (w2 (wVar 5) (wC (.int 1)) gIx) (wVar 6)) [some (.w .tp),some (.w (.d (.tuple (fs.map Fd.d)))),some (.w (.d (ja0 nm))),some (.odk (txK hp)),some (.own row),some (.w (.d g.d)),some (.w (.d v))] (m+1) {K with nx:=λδ n=>sApp 4 (wVar 6) δ n K}:=λs x K hK eg hx=>by
   have fin':=fin (put hp x ((look hp x).getD v)) ((look hp x).getD v) K hK (jmv hok hx (j1l hok vk)) (jjx _ _ _) (j1l hok vk);rw[eg]at fin' ⊢;refine jaj (ja6 (x:=(look hp x).getD v) (λQ q=>j33 (a:=.str s) (x:=x) (r:=[]) rfl rfl rfl q) ?_);dsimp only[Ao];exact j8d (a:=.str s) (x:=x) (r:=[]) rfl rfl rfl (by omega) fin'
  cases g with
  |any =>
   refine jaj (jn9 (a:=.str "any") (r:=[]) rfl jp5 (if_n (λQ q=>jp2 (s:="any") (r:=[]) rfl (by decide +kernel) q) (if_n (λQ q=>jp2 (s:="any") (r:=[]) rfl (by decide +kernel) q) ?_)));exact fin hp v _ (λ_ _ z=>z) hok (by omega) vk
  |is w =>
   refine jaj (j3q (a:=.str "is") (r:=[w]) rfl jjc (ja6 (x:=w) (λQ q=>jcp (a:=.str "is") (b:=w) (r:=[]) rfl q) ?_));exact fin hp w _ (λ_ _ z=>z) hok (by omega) gk
  |word =>
   refine jaj (jn9 (a:=.str "word") (r:=[]) rfl jm6 (if_y (λQ q=>jp2 (s:="word") (r:=[]) rfl (by decide +kernel) q) (ja6 (x:=.str "ab") (λQ q=>j4s (s:="word") (r:=[]) rfl jyd q) ?_)));exact fin hp (.str "ab") _ (λ_ _ z=>z) hok (by omega) (by decide +kernel)
  |number =>
   refine jaj (jn9 (a:=.str "number") (r:=[]) rfl jii (if_y (λQ q=>jp2 (s:="number") (r:=[]) rfl (by decide +kernel) q) (ja6 (x:=.int 99) (λQ q=>j4s (s:="number") (r:=[]) rfl jti q) ?_)));exact fin hp (.int 99) _ (λ_ _ z=>z) hok (by omega) (by decide +kernel)
  |as x =>
   refine jaj (jn9 (a:=.str "as") (r:=[.str x]) rfl jjd (if_n (λQ q=>jp2 (s:="as") (r:=[.str x]) rfl (by decide +kernel) q) (if_y (λQ q=>jp2 (s:="as") (r:=[.str x]) rfl (by decide +kernel) q) ?_)));exact named "as" x _ (λ_ _ z=>z) rfl gk
  |bind x =>
   refine jaj (jn9 (a:=.str "bind") (r:=[.str x]) rfl jm7 (if_n (λQ q=>jp2 (s:="bind") (r:=[.str x]) rfl (by decide +kernel) q) (if_y (λQ q=>jp2 (s:="bind") (r:=[.str x]) rfl (by decide +kernel) q) ?_)));exact named "bind" x _ (λ_ _ z=>z) rfl gk
theorem jlr:∀ws n Q,jk7 ws n Q->ws.length=3:=λws n Q h=>by obtain⟨_,_,_,rfl,_⟩:=h;rfl
abbrev zqx:List Str:=["_law_tape_here","_law_programs","_law_stand_here","_law_notes_here","_law_hand","_law_act_here","_law_note"]
theorem jkv:∀ws n Q,jk7 ws n Q->jfm (ja3 zqx ws) n {nx:=λ_ n=>Q (.d .none) n,rt:=Q}:=λws n0 Q h=>by
 obtain⟨ps,hs,ns,rfl,okp,okh,okn,hn0,k⟩:=h;show jfm [some (.w .tp),some (.w (.d (pgD ps))),some (.w (.d (stD hs ns))),none,none,none,none] n0 _;refine jaj (show sOwn 3 (jec _) _ _ _ from w2_i (jad rfl (c_i (g1_i ?_))));dsimp only[nsD,Ao];refine jaj ?_;unfold sFor jbe;refine b1_i (jad rfl ?_);refine Am ⟨by omega,by rw[Ab];have:=okp.1;omega⟩ ?_;rw[Bp,Ab];refine jbj (λds δ m=>∃(j l:Nat) (ns':List Nt) (x y z:Option SV),ds=rngD (j:Nat) l/\j+l=ps.length/\δ=[some (.w .tp),some (.w (.d (pgD ps))),some (.w (.d (stD hs ns))),some (.own (ns'.map ntD)),x,y,z]/\ns'.length+l<=11/\(∀q∈ns',okQ q)/\m+8*(l:Int)<=n0+50)
  (λδ m I=>?_) (λd r δ m N I kN=>?_) _ _ _ ⟨0,ps.length,ns,none,none,none,rfl,by omega,rfl,by have:=okn.1;have:=okp.1;omega,okn.2,by have:=okp.1;omega⟩
 ·obtain⟨j,l,ns',x,y,z,ed,hj,rfl,hl,hr,hm⟩:=I;have:l=0:=by
   cases l with
   |zero=>rfl
   |succ l=>rw[ji9]at ed;cases ed
  subst this;dsimp only;refine jgd rfl ?_;dsimp only[Ao];exact jbf (jb2 (jdj rfl (b1_i (jad rfl (Am (show 2<=1000 by decide) (k ns' m ⟨by omega,hr⟩ (by omega)))))))
 ·obtain⟨j,l,ns',x,y,z,ed,hj,rfl,hl,hr,hm⟩:=I;cases l with
  |zero=>cases ed
  |succ l =>
   rw[ji9]at ed;obtain⟨rfl,rfl⟩:=Fi ed;have hjl:j < ps.length:=by omega
   obtain⟨P,xb,xp,nm,w,as,H⟩:=jda okh hjl;dsimp only[jai,Ao];refine jaj (ja6 (λQ q=>jtu (i:=1) (j:=2) (l:=4) rfl rfl rfl okh hjl q) ?_);dsimp only[Ao];have nxt:∀(ns'':List Nt) (y z:Option SV) (n':Int),ns''.length<=ns'.length+1->(∀q∈ns'',okQ q)->n'<=m+8->N [some (.w .tp),some (.w (.d (pgD ps))),some (.w (.d (stD hs ns))),some (.own (ns''.map ntD)),some (.w (.d (.int j))),y,z] n':=λns'' y z n' a1 a2 a3 =>
    kN _ _ ⟨j+1,l,ns'',_,_,_,by rw[show((j+1:Nat):Int)=(j:Int)+1 from rfl],by omega,rfl,by omega,a2,by omega⟩
   cases ea:actO ps hs j with
   |none=>exact if_n (λQ q=>jnb (λQ q=>ct_b (k:=false) (λQ q=>w2_i (jad rfl (c_i (jf8 q)))) q) q) (nxt ns' _ _ m (by omega) hr (by omega))
   |some a =>
    have oa:=H.ok okp ea;show sIf _ _ _ [some (.w .tp),some (.w (.d (pgD ps))),some (.w (.d (stD hs ns))),some (.own (ns'.map ntD)),some (.w (.d (.int j))),some (.w (.d a.d)),z] m _;cases ef:a.pf with
    |none =>
     obtain⟨_,s,r,e,h1,_⟩:=j0n ef;rw[e];exact if_n (λQ q=>jko (λQ q=>ct_b (k:=true) (λQ q=>w2_i (jad rfl (c_i (jf8 q)))) q) (jnb (λQ q=>jzs rfl h1 q) q)) (nxt ns' _ _ m (by omega) hr (by omega))
    |some fs =>
     obtain⟨of,s,r,e,h1,_⟩:=jqq ef oa;rw[e];refine if_i (jko (λQ q=>ct_b (k:=true) (λQ q=>w2_i (jad rfl (c_i (jf8 q)))) q) (jko (λQ q=>jzs rfl h1 q) ?_));refine w2_i (jfd (m:=3) rfl (by omega) (by decide) (by decide) λt t0 t1=>c_i ?_);show if decide (0 < t)=true then _ else _
     refine jxa (λ_=>?_) (λ_=>nxt ns' _ _ _ (by omega) hr (by omega));refine jaj (show sSet 6 _ _ _ _ from jb2 (c3_i (jad rfl (jcp rfl ?_))));refine w2_i (w2_i (w2_i (jad rfl (c_i (g0_i (jad rfl (gN_i H.hD (c_i (g2_i ?_)))))))));refine⟨fs,nm,rfl,of,H.nms,by omega,λrow n' hrow hn'=>j4f rfl (by omega) λv hv=>Am (show 2<=1000 by decide) ?_⟩;dsimp only[Ao];unfold sIns;refine(show(match some (some (SV.own (ns'.map ntD)))with | some (some (.own ds))=>_ | _=>False)from ?_);refine jd3 (m:=((ns'.map ntD).length:Int)+1) rfl (λQ q=>w2_i (jzp rfl (c_i (addI q)))) (by omega) (by omega) (by rw[Ab];omega) λt t0 t1=>?_;refine jad rfl ⟨⟨t0,by omega,by rw[Ab];omega⟩,?_⟩;dsimp only[Ao];have en:(ns'.map ntD).take t.toNat++PyData.tuple [.tuple row,v]::(ns'.map ntD).drop t.toNat=(ns'.take t.toNat++(row,v)::ns'.drop t.toNat).map ntD:=by
      rw[A9,Bi,Fw,List.map_drop];rfl
     rw[en];refine nxt _ _ _ _ ?_ (λq hq=>?_) (by omega)
     ·rw[Ah,Ar,Ci,Bx];omega
     ·rcases A8.mp hq with hq | hq
      ·exact hr q (En hq)
      ·rcases As.mp hq with rfl | hq
       ·exact⟨hrow,jxx hv⟩
       ·exact hr q (List.mem_of_mem_drop hq)
def Sm (k w:Nat) (d:Ad):Prop:=Fa d=true/\E9 d<=k/\Fo d<=w/\Em 13 d=true/\Ey d=true
theorem Sm.small {k w:Nat} {d:Ad} (h:Sm k w d) (hk:k<=20) (hw:w<=2 ^ 20):Small d:=⟨h.1,by have:=h.2.1;omega,by have:=h.2.2.1;omega,h.2.2.2⟩
theorem jvg {k w:Nat}:∀ds:List Ad,(∀d∈ds,Sm k w d)->PyData.canLayAll0 ds=true/\PyData.depthAll ds<=k/\PyData.weightAll ds<=(w+1)*ds.length/\PyData.intsShortAll 13 ds=true/\PyData.showableAll ds=true
 |[],_=>⟨rfl,Bm _,Bm _,rfl,rfl⟩
 |d::r,h=>by
  obtain⟨a1,a2,a3,a4,a5⟩:=jvg r λx hx=>h x (Au _ hx);obtain⟨b1,b2,b3,b4,b5⟩:=h d A0;refine⟨?_,?_,?_,?_,?_⟩
  ·rw[PyData.canLayAll0,a1,b1];rfl
  ·rw[PyData.depthAll];omega
  ·rw[PyData.weightAll,Ar,Nat.mul_succ];omega
  ·rw[PyData.intsShortAll,a4,b4];rfl
  ·rw[PyData.showableAll,a5,b5];rfl
theorem jml {k w m:Nat} {ds:List Ad} (h:∀d∈ds,Sm k w d) (hl:ds.length<=m):Sm (k+1) ((w+1)*m) (.tuple ds):=by
 obtain⟨a1,a2,a3,a4,a5⟩:=jvg ds h;have:=Nat.mul_le_mul_left (w+1) hl;refine⟨by rw[Fa];exact a1,by rw[E9];omega,by rw[Fo];omega,by rw[Em];exact a4,by rw[Ey];exact a5⟩
theorem j49 {k w m:Nat} {ds:List Ad} (h:∀d∈ds,Sm k w d) (hl:ds.length<=m):Sm (k+1) ((w+1)*m) (.list ds):=by
 obtain⟨a1,a2,a3,a4,a5⟩:=jvg ds h;have:=Nat.mul_le_mul_left (w+1) hl;refine⟨by rw[Fa];exact a1,by rw[E9];omega,by rw[Fo];omega,by rw[Em];exact a4,by rw[Ey];exact a5⟩
theorem Sm.up {k w k' w':Nat} {d:Ad} (h:Sm k w d) (hk:k<=k') (hw:w<=w'):Sm k' w' d:=⟨h.1,A5 h.2.1 hk,A5 h.2.2.1 hw,h.2.2.2⟩
theorem jjm {d:Ad} (h:isV d=true):Sm 0 20 d:=by
 cases d with
 |str x =>
  have h:(decide (x.length<=8)&&PyData.strOk x)=true:=h;rw[Cj]at h;have h1:x.cps.size<=8:=of_decide_eq_true h.1;refine⟨?_,by rw[E9];exact An _,?_,by rw[Em],by rw[Ey]⟩
  ·rw[Fa];exact h.2
  ·rw[Fo];omega
 |int i =>
  simp only[isV,Cj,decide_eq_true_eq]at h;exact⟨by rw[Fa],by rw[E9];exact An _,h.2.2.1,h.2.2.2.1,h.2.2.2.2⟩
 |_=>cases h
theorem j48 {x:Str} (h:okX x):Sm 0 20 (.str x):=jjm (by show(decide (x.length<=8)&&PyData.strOk x)=true;rw[decide_eq_true (A5 h.1 (by decide)),h.2];rfl)
theorem jvf {a b:Ad} {k w:Nat} (ha:Sm k w a) (hb:Sm k w b):Sm (k+1) ((w+1)*2) (.tuple [a,b]):=jml (λd hd=>by
 simp only[As,Aw,or_false]at hd;rcases hd with rfl | rfl
 ·exact ha
 ·exact hb) (An _)
theorem jyq {nm:Nm} (h:∀p∈nm,okV p) (hl:nm.length<=40):Sm 2 1720 (ja0 nm):=(jml (k:=1) (w:=42) (m:=40) (ds:=nm.map jir) (λd hd=>by
 obtain⟨p,hp,rfl⟩:=Bo.mp hd;exact jvf (j48 (h p hp).1) (jjm (h p hp).2)) (by rw[Ab];exact hl)).up (An _) (by decide)
theorem j5a {d:Ad} (h:jj0 d):Sm 0 20 d:=by
 rcases h with rfl | ⟨i,rfl,h0,h1⟩
 ·exact⟨rfl,An _,by decide,rfl,rfl⟩
 ·exact jjm (V_of (by omega) (by omega))
theorem j2q {h:Hn} (h1:h.1<=99) (h2:h.2.1<=99) (ho:∀p∈h.2.2,okV p) (hl:h.2.2.length<=40):Sm 3 5163 (hnD h):=jml (k:=2) (w:=1720) (m:=3) (λd hd=>by
 simp only[As,Aw,or_false]at hd;rcases hd with rfl | rfl | rfl
 ·exact(jjm (V_of (by omega) (by omega))).up (by decide) (by decide)
 ·exact(jjm (V_of (by omega) (by omega))).up (by decide) (by decide)
 ·exact jyq ho hl) (An _)
theorem j2p {q:Nt} (h:okQ q):Sm 2 170 (ntD q):=jvf ((jml (k:=0) (w:=20) (m:=4) (λd hd=>jjm (h.1.2 d hd)) h.1.1)) ((j5a h.2).up (by decide) (by decide))
theorem jyp {ps:Pg} {hs:List Hn} {ns:List Nt} (okp:okPg ps) (okh:okHs ps hs) (okn:okNs 101 ns):Small (stD hs ns):=by
 have h1:Sm 4 25820 (.tuple (hs.map hnD)):=jml (k:=3) (w:=5163) (m:=5) (λd hd=>by
  obtain⟨h,hh,rfl⟩:=Bo.mp hd;obtain⟨i,hi⟩:=By.mp hh;have hil:=(At.mp hi).1;have hil':i < ps.length:=by rw[<-okh.1];exact hil
  have hP:ps[i]?=some ps[i]:=Aj hil';obtain⟨h',b,e1,e2,e3⟩:=okh.2 i _ hP;rw[hi]at e1;cases e1;have og:=okp.2 _ (A6 hP);have hb:=(At.mp e2).1;have ob:=(og.2.2 b (A6 e2)).1;have:=e3.pl;have:=ob.2.2.1;have:=og.2.1;exact j2q (by omega) (by omega) e3.ok e3.ln) (by rw[Ab,okh.1];exact okp.1)
 have h2:Sm 3 17271 (nsD ns):=jml (k:=2) (w:=170) (m:=101) (λd hd=>by
  obtain⟨q,hq,rfl⟩:=Bo.mp hd;exact j2p (okn.2 q hq)) (by rw[Ab];exact okn.1)
 exact(jvf h1 (h2.up (by decide) (by decide))).small (by decide) (by decide)
theorem j5b {hs:List Hn} {h:Nat} {x:Hn} (hh:h < hs.length):setH hs h x=hs.set h x:=by
 rw[List.set_eq_take_append_cons_drop,if_pos hh];rfl
theorem okHs.put {ps:Pg} {hs:List Hn} {h:Nat} {x:Hn} {P:List Bl} {b:Bl} (ok:okHs ps hs) (hP:ps[h]?=some P) (hb:P[x.1]?=some b) (hx:okHn b x):okHs ps (setH hs h x):=by
 have hh:h < hs.length:=by rw[ok.1];exact(At.mp hP).1
 rw[j5b hh];refine⟨by rw[Cr];exact ok.1,λi P' hi=>?_⟩;by_cases e:h=i
 ·subst e;rw[hP]at hi;cases hi;exact⟨x,b,List.getElem?_set_self hh,hb,hx⟩
 ·obtain⟨h',b',e1,e2,e3⟩:=ok.2 i P' hi;exact⟨h',b',by rw[Cc e];exact e1,e2,e3⟩
theorem jwn {w:List Str} {as:List Ac} {p:Nat} {a:Ac} (h:as[p]?=some a):kn w as (p+1)=kn w as p++a.bs:=by
 unfold kn;rw[List.take_add_one,h,Gg,Bn];simp
theorem jq3:∀(l:List (Fd×Ad)) (h:Nm) (hs:List Str) (k:Nm),(∀x∈hs,x∈h.map (·.1))->wk l h hs=some k->∀x,x∈k.map (·.1)↔x∈h.map (·.1)\/∃p∈l,p.1=.bind x
 |[],h,hs,k,_,e,x=>by cases e;simp
 | (f,v)::r,h,hs,k,hh,e,x=>by
  have same:wk r h hs=some k->(∀y,f=.bind y->y∈h.map (·.1))->(x∈k.map (·.1)↔x∈h.map (·.1)\/∃p∈(f,v)::r,p.1=.bind x):=λe nb=>by
   rw[jq3 r h hs k hh e x]
   constructor
   ·rintro(q | ⟨p,hp,q⟩)
    ·exact .inl q
    ·exact .inr ⟨p,Au _ hp,q⟩
   ·rintro(q | ⟨p,hp,q⟩)
    ·exact .inl q
    ·rcases As.mp hp with rfl | hp
     ·exact .inl (nb x q)
     ·exact .inr ⟨p,hp,q⟩
  cases f with
  |is w=>unfold wk at e;split at e;exact same e (λy z=>by cases z);cases e
  |any=>unfold wk at e;exact same e (λy z=>by cases z)
  |word=>unfold wk at e;split at e;exact same e (λy z=>by cases z);cases e
  |number=>unfold wk at e;split at e;exact same e (λy z=>by cases z);cases e
  |as y =>
   unfold wk at e
   split at e
   ·split at e
    ·exact same e (λy z=>by cases z)
    ·cases e
   ·cases e
  |bind y =>
   unfold wk at e
   split at e
   ·rename_i hy
    split at e
    ·split at e
     ·exact same e (λz q=>by cases q;exact hh y hy)
     ·cases e
    ·cases e
   ·have pk:∀z,z∈(put h y v).map (·.1)↔z∈h.map (·.1)\/z=y:=λz=>by
     rw[jsj]
     split
     ·rename_i q;obtain⟨p,hp,q⟩:=Dj.mp q;have hy:y∈h.map (·.1):=Bo.mpr ⟨p,hp,of_decide_eq_true q⟩;exact⟨.inl,λq=>q.elim id λq=>q▸hy⟩
     ·rw[A8,Bd]
    rw[jq3 r (put h y v) (hs++[y]) k (λz hz=>(pk z).mpr ((A8.mp hz).elim (λq=>.inl (hh z q)) λq=>.inr (Bd.mp q))) e x,pk x]
    constructor
    ·rintro((q | rfl) | ⟨p,hp,q⟩)
     ·exact .inl q
     ·exact .inr ⟨_,A0,rfl⟩
     ·exact .inr ⟨p,Au _ hp,q⟩
    ·rintro(q | ⟨p,hp,q⟩)
     ·exact .inl (.inl q)
     ·rcases As.mp hp with rfl | hp
      ·cases q;exact .inl (.inr rfl)
      ·exact .inr ⟨p,hp,q⟩
theorem j0h {gs:List Fe} {row:List Ad} (hp:∀f∈gs,f.pt=true) (hl:(gs.map Fe.fd).length=row.length) (x:Str):(∃p∈(gs.map Fe.fd).zip row,p.1=.bind x)↔x∈bndE gs:=by
 unfold bndE;rw[Gj]
 constructor
 ·rintro⟨⟨a,b⟩,hp',e⟩
  obtain⟨f,hf,e'⟩:=Bo.mp (E5 hp').1;refine⟨f,hf,?_⟩;have e:a=.bind x:=e;rw[e]at e';cases f<;>first | (cases e';rfl) | cases e'
 ·rintro⟨f,hf,e⟩
  have ef:f=.bind x:=by cases f<;>first | (cases e;rfl) | cases e
  subst ef;obtain⟨i,hi⟩:=By.mp hf;have hil:=(At.mp hi).1;rw[Ab]at hl;refine⟨(.bind x,row[i]'(by omega)),By.mpr ⟨i,?_⟩,rfl⟩;rw[List.getElem?_zip_eq_some];exact⟨by rw[Ay,hi];rfl,Aj (by omega)⟩
theorem j0l {d:Ad} (h:jj0 d) (h1:isI1 d=false):jj0 (ageO d):=by
 rcases h with rfl | ⟨i,rfl,h0,h2⟩
 ·exact .inl rfl
 ·have:¬i=1:=by simpa[isI1]using h1
  exact .inr ⟨i - 1,rfl,by omega,by omega⟩
theorem j7t {m:Nat} {ns:List Nt} (h:okNs m ns):okNs m (clkO ns):=by
 unfold clkO;refine⟨by rw[Ab];exact A5 (List.length_filter_le _ _) h.1,λq hq=>?_⟩;obtain⟨p,hp,rfl⟩:=Bo.mp hq;obtain⟨h1,h2⟩:=Dc.mp hp;exact⟨(h.2 p h1).1,j0l (h.2 p h1).2 (by simpa using h2)⟩
theorem jsu {ps:Pg} {hs:List Hn} {ns:List Nt} {m M:Nat} {r:List Hn×List Nt} (okp:okPg ps) (okh:okHs ps hs) (okn:okNs M ns) (hm:m<=ps.length) (e:aftO ps hs ns m=some r):okHs ps r.1/\okNs (M+1) r.2:=by
 unfold aftO at e;by_cases em:m=ps.length
 ·rw[if_pos em]at e;cases e;have:=j7t okn;exact⟨okh,Nat.le_succ_of_le this.1,this.2⟩
 rw[if_neg em]at e;have hh:m < ps.length:=by omega
 obtain⟨P,xb,xp,nm,w,as,H⟩:=jda okh hh;cases ea:actO ps hs m with
 |none =>
  unfold movO at e;rw[H.prog,H.hand,ea]at e;cases e
 |some a =>
 rw[jpr H ea]at e;have oa:=H.ok okp ea;have ea':=ea;rw[H.act]at ea';have hxp:xp < as.length:=(At.mp ea').1;have okn':okNs (M+1) ns:=⟨Nat.le_succ_of_le okn.1,okn.2⟩;have on:a.bs=[]->okHs ps (setH hs m (goOn (xb,xp,nm) nm)):=λhb=>okh.put H.prog (x:=goOn (xb,xp,nm) nm) H.blk ⟨hxp,H.hn.nd,H.hn.ok,H.hn.up,λk=>by
  show k∈nm.map (·.1)↔k∈kn w as (xp+1);rw[jwn ea',hb,Bz];exact H.hn.mem k,H.hn.ln⟩
 have to:∀b,a.to=some b->okHs ps (setH hs m (goTo P b nm)):=λb hb=>by
  obtain⟨bl,hbl,obl,sub⟩:=H.to okp ea hb;have ew:wtO P b=bl.1:=by unfold wtO;rw[hbl];rfl
  refine okh.put H.prog (x:=goTo P b nm) hbl ?_;have en:(goTo P b nm).2.2=bl.1.map λk=>(k,lkO nm k):=by
   unfold goTo;rw[ew];exact j4r H.hn.nd H.hn.up obl.2.2.2.2.1 obl.2.2.2.2.2 sub
  have ek:(goTo P b nm).2.2.map (·.1)=bl.1:=by rw[en,Dg];exact List.map_id' _
  have sl:(goTo P b nm).2.2.Sublist nm:=List.filter_sublist;refine⟨Bm _,by rw[ek];exact obl.2.2.2.2.1,λp hp=>H.hn.ok p (sl.subset hp),List.Pairwise.sublist sl H.hn.up,λk=>by rw[ek];unfold kn;show _↔k∈bl.1++(bl.2.take 0).flatMap Ac.bs;simp,A5 sl.length_le H.hn.ln⟩
 have get:∀(gs:List Fe) (i:Nat),a.pf=some (gs.map Fe.fd)->a.bs=bndE gs->okFs gs->patO gs->fstO (gs.map Fe.fd) nm ns=some i->okHs ps (setH hs m (goOn (xb,xp,nm) (srtN (wkN (gs.map Fe.fd) (rowO ns i) nm)))):=λgs i hpf hbs hof hpat ei=>by
  obtain⟨⟨row,age⟩,hq,hf⟩:=jro ei;have er:rowO ns i=row:=by unfold rowO;rw[hq];rfl
  rw[er];have oq:=okn.2 _ (A6 hq);obtain⟨ep,op⟩:=jm8 hof hpat;obtain⟨nd,ew⟩:=j0q H.hn.nd hf;obtain⟨wo,_⟩:=juj _ _ _ _ (j0p op oq.1) H.hn.ok ew;have hlen:(gs.map Fe.fd).length=row.length:=by
   unfold fitB at hf;rw[Cj]at hf;exact of_decide_eq_true hf.1
  have pm:=jr8 (wkN (gs.map Fe.fd) row nm);have pk:((srtN (wkN (gs.map Fe.fd) row nm)).map (·.1)).Perm ((wkN (gs.map Fe.fd) row nm).map (·.1)):=pm.map _;have hmem:∀k,k∈(srtN (wkN (gs.map Fe.fd) row nm)).map (·.1)↔k∈kn w as (xp+1):=λk=>by
   rw[pk.mem_iff,jq3 _ _ _ _ (λx hx=>by simp at hx) ew k,j0h hpat.2 hlen,jwn ea',A8,hbs];exact or_congr (H.hn.mem k) Iff.rfl
  have nd':=pk.nodup_iff.mpr nd;refine okh.put H.prog (x:=goOn (xb,xp,nm) _) H.blk ⟨hxp,nd',λp hp=>wo p (pm.mem_iff.mp hp),j0x _,hmem,?_⟩;have:=jj1 nd' (ks:=kn w as (xp+1)) λk hk=>(hmem k).mp hk;rw[Ab]at this;have h36:=j1o (H.okb okp).1 (xp+1);exact A5 this (A5 h36 (by decide))
 cases a with
 |lay fs age =>
  cases e;obtain⟨hl4,hfv⟩:=H.lay okp ea;refine⟨on rfl,by rw[Ah,Aq];have:=okn.1;omega,λq hq=>?_⟩;rcases A8.mp hq with hq | hq
  ·exact okn.2 q hq
  ·rw[Bd.mp hq];exact⟨⟨by show(filO fs nm).length<=4;unfold filO;rw[Ab];exact hl4,λd hd=>by
    obtain⟨f,hf,rfl⟩:=Bo.mp hd;exact fv_V (hfv f hf)⟩,oa.2.2⟩
 |go b=>cases e;exact⟨to b rfl,okn'⟩
 |same f g b =>
  cases e;refine⟨?_,okn'⟩;show okHs ps (setH hs m (if eqB (fvO nm f) (fvO nm g)=true then goOn (xb,xp,nm) nm else goTo P b nm))
  split
  ·exact on rfl
  ·exact to b rfl
 |take gs =>
  have e:(((getO gs (xb,xp,nm) ns).map λq=>(q.2,outO ns q.1)).map λr=>(setH hs m r.1,r.2))=some r:=e;cases ei:fstO (gs.map Fe.fd) nm ns with
  |none=>rw[jc3 ei]at e;cases e
  |some i =>
   rw[jct ei]at e;cases e;refine⟨get gs i rfl rfl oa.1 oa.2 ei,?_,λq hq=>?_⟩
   ·show(outO ns i).length<=_;unfold outO;rw[Ah,Ci,Bx];have:=okn.1;omega
   ·rcases A8.mp hq with hq | hq
    ·exact okn.2 q (En hq)
    ·exact okn.2 q (List.mem_of_mem_drop hq)
 |read gs =>
  have e:(((getO gs (xb,xp,nm) ns).map λq=>(q.2,ns)).map λr=>(setH hs m r.1,r.2))=some r:=e;cases ei:fstO (gs.map Fe.fd) nm ns with
  |none=>rw[jc3 ei]at e;cases e
  |some i =>
   rw[jct ei]at e;cases e;exact⟨get gs i rfl rfl oa.1 oa.2 ei,okn'⟩
 |look gs b =>
  have e:((match getO gs (xb,xp,nm) ns with | some q=>some (q.2,ns) | none=>some (goTo P b nm,ns):Option (Hn×List Nt)).map λr=>(setH hs m r.1,r.2))=some r:=e;cases ei:fstO (gs.map Fe.fd) nm ns with
  |none =>
   rw[jc3 ei]at e;cases e;exact⟨to b rfl,okn'⟩
  |some i =>
   rw[jct ei]at e;cases e;exact⟨get gs i rfl rfl oa.1 oa.2 ei,okn'⟩
theorem j4e {ps:Pg} {hs:List Hn} {ns:List Nt} {m:Nat} (okh:okHs ps hs) (hh:m < ps.length) (h:canB ps hs ns m=true):∃r,aftO ps hs ns m=some r:=by
 obtain⟨P,xb,xp,nm,w,as,H⟩:=jda okh hh;unfold aftO;rw[if_neg (by omega)];cases ea:actO ps hs m with
 |none=>unfold canB at h;rw[ea]at h;cases h
 |some a =>
 rw[j1x ea]at h;rw[jpr H ea];have eg:∀gs:List Fe,a.pf=some (gs.map Fe.fd)->gotO ps hs ns m=fstO (gs.map Fe.fd) nm ns:=λgs hpf=>by
  unfold gotO;rw[ea,H.nmq];show(a.pf.bind _)=_;rw[hpf];rfl
 have gt:∀gs:List Fe,(gotO ps hs ns m).isSome=true->a.pf=some (gs.map Fe.fd)->∃q,getO gs (xb,xp,nm) ns=some q:=λgs h1 h2=>by
  rw[eg gs h2]at h1;obtain⟨i,hi⟩:=Ew.mp h1;exact⟨_,jct hi⟩
 cases a with
 |lay fs age=>exact⟨_,rfl⟩
 |go b=>exact⟨_,rfl⟩
 |same f g b=>exact⟨_,rfl⟩
 |take gs =>
  obtain⟨q,hq⟩:=gt gs h rfl;show ∃r,(((getO gs (xb,xp,nm) ns).map λq=>(q.2,outO ns q.1)).map λr=>(setH hs m r.1,r.2))=some r;rw[hq];exact⟨_,rfl⟩
 |read gs =>
  obtain⟨q,hq⟩:=gt gs h rfl;show ∃r,(((getO gs (xb,xp,nm) ns).map λq=>(q.2,ns)).map λr=>(setH hs m r.1,r.2))=some r;rw[hq];exact⟨_,rfl⟩
 |look gs b =>
  show ∃r,((match getO gs (xb,xp,nm) ns with | some q=>some (q.2,ns) | none=>some (goTo P b nm,ns):Option (Hn×List Nt)).map λr=>(setH hs m r.1,r.2))=some r;cases getO gs (xb,xp,nm) ns with
  |none=>exact⟨_,rfl⟩
  |some q=>exact⟨_,rfl⟩
theorem cN2 {δ:Sl} {n:Int} {S:DSpN} {w w':DT} {Q:List Ad->Int->Prop} (k:w δ n λx n1=>w' δ n1 λy n2=>S [x,y] n2 Q):jqd S (jab w (jab w' aNil)) δ n Q:=k
theorem jtn (l:List Nat) (hl:l.length<=100) (h:∀i∈l,i < 16):Small (.list (intL l)):=(j49 (k:=0) (w:=20) (m:=100) (λd hd=>by
 obtain⟨i,hi,rfl⟩:=Bo.mp hd;have:=h i hi;exact jjm (V_of (by omega) (by omega))) (by unfold intL;rw[Ab];exact hl)).small (by decide) (by decide)
theorem jny {s:Str} {n:Int} {Q:DQ} (k:Q (.d (.bool false)) n):gNe (.d (.str s)) (.d (.str s)) n Q:=by
 show Q (.d (.bool (!jat s (.str s)))) n;have:jat s (.str s)=true:=by unfold jat;exact decide_eq_true rfl
 rw[this];exact k
theorem j39 (xs:List Ad) (p:Nat):cutD xs none (some (p:Int))=xs.take p:=by
 unfold cutD;rw[HT.sIx_nat,HT.sIx_none,Eo,Nat.sub_zero];by_cases h:p<=xs.length
 ·rw[Nat.min_eq_left h]
 ·rw[Nat.min_eq_right (by omega),Cy (An _),Cy (by omega)]
theorem j7d {δ:Sl} {n:Int} {K:DEnds} {W:DST} {g:DTG} {j:Int} (m:Nat) (ej:j=m) (hm:m<=1000) (k:forD g W K (rngD 0 m) δ n):sFor (jbe (wC (.int j))) g W δ n K:=by
 subst ej;exact⟨⟨by omega,by omega⟩,by rw[Bp];exact k⟩
theorem jwv (L:List Nat) (m:Nat):intL (L++[m])=intL L++[.int m]:=A9
theorem js2 (L:List Nat):(intL L).length=L.length:=Ab _
theorem j4q {ps:Pg} {hs:List Hn} {ns:List Nt} {m:Nat} (okh:okHs ps hs) (hm:m<=ps.length) (c:m=ps.length\/canB ps hs ns m=true):∃q,aftO ps hs ns m=some q:=by
 by_cases e:m=ps.length
 ·exact⟨_,by unfold aftO;rw[if_pos e]⟩
 ·exact j4e okh (by omega) (c.resolve_left e)
theorem j2t {ps:Pg} {hs:List Hn} {ns:List Nt} {n:Int} {Q:DQ} (okp:okPg ps) (okh:okHs ps hs) (okn:okNs 101 ns) (k:Q (.d (.str (PyData.shown (stD hs ns)))) n):jdd [.d (stD hs ns)] n Q:=Am (jyp okp okh okn) k
theorem js5:∀l:List Nat,PyData.eqvAll (intL l) (intL l)=true
 |[]=>by simp[intL,PyData.eqvAll]
 |a::l=>by
  show PyData.eqvAll (.int a::intL l) (.int a::intL l)=true;rw[PyData.eqvAll,js5 l];simp[E4]
section
variable {δ:Sl} {n:Int} {Q:DQ}
theorem drw {w:DT} {m:Int} (e1:δ[1]?=some (some (.w .tp))) (hw:∀Q:DQ,Q (.d (.int m)) n->w δ n Q) (h:n < 2 ^ 40) (h0:0 < m) (h1:m < 1073741824) (k:∀r:Int,0<=r->r < m->Q (.d (.int r)) (n+1)):jam jav (jab (wVar 1) (jab w aNil)) δ n Q :=
 c2_i (jad e1 (hw _ (js6 h h0 h1 k)))
theorem j3k {l:List Nat} (h:Small (.list (intL l))) (k:Q (.d (.bool false)) n):gXX (λd e=>some (!E4 d e)) (.d (.list (intL l))) (.d (.list (intL l))) n Q:=by
 refine⟨h.1,h.1,h.2.1,h.2.1,false,?_,k⟩;have e:E4 (.list (intL l)) (.list (intL l))=true:=by simp[E4,js5]
 show some (!E4 (.list (intL l)) (.list (intL l)))=some false;rw[e];rfl
end
theorem jlt:∀ws n Q,jla ws n Q->ws.length=1:=λws n Q h=>by obtain⟨_,_,rfl,_⟩:=h;rfl
abbrev zqs1:List Str:=["_law_plan_here"]
theorem jkx:∀ws n Q,jla ws n Q->jfo (ja3 zqs1 ws) n {nx:=λ_ n=>Q (.d .none) n,rt:=Q}:=λws n Q h=>by
 obtain⟨ps,ns,rfl,hp,k⟩:=h;show jfo [some (.w (.d (.tuple [pgD ps,nsD ns])))] n _;refine jbf (jb2 (b1_i (of_i (jfe (ds:=ps.map prD) (λQ q=>w2_i (jad rfl (c_i (g0_i q)))) ?_))));show jcj _ _ _ _ _ _ [none] n;refine j4b prD (λ_=>hnD (0,0,[])) ps none n (λP hP n Q' q=>jlg (c_i (c_i (show wTup aNil _ _ _ from Am (by decide) (Am (show 3<=1000 by decide) q))))) ?_;refine(show jby _ _ _ from w2_i (jad rfl (c_i (gN_i (i:=1) rfl (Am (show 2<=1000 by decide) ?_)))));have e:(hs0 ps).map hnD=ps.map λ_=>hnD (0,0,[]):=by unfold hs0;rw[Dg];rfl
 unfold stD at k;rw[e]at k;exact k
theorem j67 {ps:Pg} (hp:okPg ps) (hf:∀P∈ps,fst0 P):okHs ps (hs0 ps):=by
 refine⟨Ab _,λi P hi=>?_⟩;obtain⟨w,hw⟩:=hf P (A6 hi);obtain⟨b,r,rfl,hb,_⟩:=C8.mp hw;refine⟨(0,0,[]),b,?_,rfl,Bm _,List.nodup_nil,λp hp=>(by simp at hp),List.Pairwise.nil,λk=>?_,Bm _⟩
 ·unfold hs0;rw[Ay,hi];rfl
 ·show k∈([]:List Str)↔k∈kn b.1 b.2 0;unfold kn;rw[hb];simp
theorem jnf {ps:Pg} {s0:Sd} {L:List Nat} {S:List Sd} (W:Wlk ps s0 L S):∀(k i:Nat) {s t:Sd},i+k<=L.length->S[i]?=some s->S[i+k]?=some t->Wov ps s ((L.drop i).take k) t
 |0,i,s,t,h,e,e'=>by
  rw[Nat.add_zero,e]at e';cases e';rw[List.take_zero];exact .nil
 |k+1,i,s,t,h,e,e'=>by
  have hi:i < L.length:=by omega
  obtain⟨hm,s1,t1,e1,e2,ea⟩:=W.st i _ (Aj hi);rw[e]at e1;cases e1;rw[Dq hi,List.take_succ_cons];exact .cons hm ea (jnf W k (i+1) (by omega) e2 (by rw[show i+1+k=i+(k+1) by omega];exact e'))
theorem jwi:∀ws n Q,jc0 ws n Q->ws.length=3:=λws n Q h=>by obtain⟨_,_,_,_,_,rfl,_⟩:=h;rfl
theorem jue:∀ws n Q,jc0 ws n Q->jry (ja3 ["programs","stand","movers","place","mover"] ws) n {nx:=λ_ n=>Q (.d .none) n,rt:=Q}:=λws n Q h=>by
 obtain⟨ps,s,t,L,v,rfl,hv,okp,okh,okn,hl,hw,k⟩:=h;show jry [some (.w (.d (pgD ps))),some (.w (.d (sdD s))),some (.w (.d v)),none,none] n _;refine jaj ?_;unfold sFor jp3;refine jad rfl ⟨intL L,by rcases hv with rfl | rfl;exact .inl rfl;exact .inr rfl,?_⟩;refine jbj (λds δ m=>m=n/\∃(j:Nat) (M:List Nat) (s:Sd) (x3 x4:Option SV),ds=ji1 j (intL M)/\δ=[some (.w (.d (pgD ps))),some (.w (.d (sdD s))),some (.w (.d v)),x3,x4]/\okHs ps s.1/\okNs (100 - M.length) s.2/\M.length<=40/\Wov ps s M t) (λδ m I=>?_) (λd r δ m N I kN=>?_) _ _ _ ⟨rfl,0,L,s,none,none,rfl,rfl,okh,okn,hl,hw⟩
 ·obtain⟨rfl,j,M,s,x3,x4,ed,rfl,okh,okn,hl,hw⟩:=I;cases hw with
  |nil =>
   dsimp only;exact jbf (jad rfl k)
  |cons hm ea hw =>
   rw[show ∀a M,intL (a::M)=.int a::intL M from λ_ _=>rfl,jfw]at ed;cases ed
 ·obtain⟨rfl,j,M,s,x3,x4,ed,rfl,okh,okn,hl,hw⟩:=I;cases hw with
  |nil=>cases ed
  |@cons _ u _ a M hm ea hw =>
   rw[show ∀a M,intL (a::M)=.int a::intL M from λ_ _=>rfl,jfw]at ed;obtain⟨rfl,rfl⟩:=Fi ed;rw[Ar]at hl okn;obtain⟨k1,k2⟩:=jsu okp okh okn hm ea;refine⟨rfl,?_⟩;dsimp only[jax,jb5,jai,Ao];refine jaj (ja6 (x:=sdD u) (λQ q=>c3_i (jad rfl (jad rfl (jad rfl ⟨ps,s.1,s.2,a,rfl,⟨okp,okh,A5 okn.1 (by omega),okn.2⟩,hm,by rw[ea];exact q⟩)))) ?_);dsimp only[Ao];refine if_n (λQ q=>ct_b (k:=false) (λQ q=>w2_i (jad rfl (c_i (jf8 q)))) q) ?_;dsimp only[jas];exact kN _ _ ⟨rfl,j+1,M,u,_,_,by rw[show((j+1:Nat):Int)=(j:Int)+1 from rfl],rfl,k1,⟨A5 k2.1 (by omega),k2.2⟩,by omega,hw⟩
theorem j7e {δ:Sl} {n:Int} {w:DT} {Q:List Ad->Int->Prop} (k:w δ n λx n1=>match je4 [x]with
  |some ds=>ds.length<=1000/\Q ds n1
  |none=>False):fLst (jab w aNil) δ n Q:=k
theorem jj7:∀ws n Q,jg7 ws n Q->ws.length=2:=λws n Q h=>by obtain⟨_,_,_,rfl,_⟩:=h;rfl
theorem j06 {ps:Pg} {hs:List Hn} {ns:List Nt}:(rdyL ps hs ns).length<=ps.length:=by
 unfold rdyL;rw[Ab];exact A5 (List.length_filter_le _ _) (by rw[Ei];exact An _)
abbrev zqj:List Str:=["_law_programs","_law_stand_here"]
theorem ji5:∀ws n Q,jg7 ws n Q->jei (ja3 zqj ws) n {nx:=λ_ _=>False,rt:=λ_ _=>False,rn:=Q}:=λws n Q h=>by
 obtain⟨ps,hs,ns,rfl,ok,k⟩:=h;show jei [some (.w (.d (pgD ps))),some (.w (.d (stD hs ns)))] n _;refine(show jys _ _ _ _ from ?_);unfold jys fCat;refine of_i ?_;unfold jcf jbe;refine j6m (ds:=ps.map prD) rfl (Am ⟨by omega,by rw[Ab];have:=ok.1.1;omega⟩ ?_);rw[Bp,Ab];refine jz8 ok ?_;refine of_i (j7e (j6m (ds:=ps.map prD) rfl (Am (show 1<=1000 by decide) ?_)));rw[Ab];refine Am ?_ k;have h1:=j06 (ps:=ps) (hs:=hs) (ns:=ns);have:=ok.1.1;show(rdyL ps hs ns).length+1<=_;exact jbn (by omega)
theorem j12 {α:Type} (l:List α) (x:α):atI (l++[x]) (-1)=some x:=by
 have e:ixN (l++[x]).length (-1)=some l.length:=by
  unfold ixN;rw[Ah,Aq,if_neg (by omega),if_pos (by omega)]
  congr 1
  omega
 unfold atI;rw[e];show(l++[x])[l.length]?=some x;rw[B5 (An _),Fl];rfl
theorem j7s (xs:List Ad):cutD xs none (some (-1))=xs.take (xs.length - 1):=by
 have e:HT.sIx xs.length xs.length (some (-1))=xs.length - 1:=by
  show(if (-1:Int) < 0 then((-1:Int)+(xs.length:Int)).toNat else min (-1:Int).toNat xs.length)=_;rw[if_pos (by decide)];omega
 unfold cutD;rw[HT.sIx_none,Eo,Nat.sub_zero,e]
section
variable {δ:Sl} {n:Int} {Q:DQ} {i:Nat}
theorem jri {xs:List Ad} {x:Ad} (e:δ[i]?=some (some (.own (xs++[x])))) (k:Q (.d x) n):w2 (jd5 i) (wNeg (wC (.int (1)))) gIxL δ n Q:=by
 refine w2_i (jm2 e ?_);show(match atI (xs++[x]) (-1)with | some d=>Q (.d d) n | none=>False);rw[j12];exact k
theorem jwm {xs:List Ad} {x:Ad} (e:δ[i]?=some (some (.w (.d (.list (xs++[x])))))) (k:Q (.d x) n):w2 (wVar i) (wNeg (wC (.int (1)))) gIx δ n Q:=by
 refine w2_i (jad e ?_);show(match atI (xs++[x]) (-1)with | some d=>Q (.d d) n | none=>False);rw[j12];exact k
theorem j69 {a b:Int} (k:Q (.d (.bool (decide (b < a)))) n):gGt (.d (.int a)) (.d (.int b)) n Q:=k
theorem j1m {ds:List Ad} (e:δ[i]?=some (some (.w (.d (.list ds))))) (k:Q (.d (.int ds.length)) n):wB jfc (jab (wVar i) aNil) δ n Q:=b1_i (jad e k)
end
theorem Wlk.snoc {ps:Pg} {s z r:Sd} {L:List Nat} {S:List Sd} {m:Nat} (W:Wlk ps s L (S++[z])) (okp:okPg ps) (hm:m<=ps.length) (e:aftO ps z.1 z.2 m=some r):Wlk ps s (L++[m]) (S++[z]++[r]):=by
 have hS:S.length=L.length:=by have:=W.len;rw[Ah,Aq]at this;omega
 have hz:(S++[z])[S.length]?=some z:=by rw[B5 (An _),Fl];rfl
 have hr:(S++[z]++[r])[S.length+1]?=some r:=by rw[B5 (by rw[Ah,Aq];exact An _),Ah,Aq,Fl];rfl
 have up:∀i x,(S++[z])[i]?=some x->(S++[z]++[r])[i]?=some x:=λi x h=>by rw[Cl9 (At.mp h).1];exact h
 refine⟨?_,up _ _ W.fst,λi x h=>?_,λi k h=>?_⟩
 ·rw[Ah,W.len,Aq,Ah,Aq]
 ·by_cases hi:i < (S++[z]).length
  ·rw[Cl9 hi]at h;exact W.ok i x h
  ·have hl:=(At.mp h).1;rw[Ah,Ah,Aq,Aq]at hl;rw[Ah,Aq]at hi;obtain rfl:i=S.length+1:=by omega
   rw[hr]at h;cases h;obtain⟨h1,h2⟩:=W.ok _ _ hz;exact jsu okp h1 h2 hm e
 ·by_cases hi:i < L.length
  ·rw[Cl9 hi]at h;obtain⟨h1,a,b,h2,h3,h4⟩:=W.st i k h;exact⟨h1,a,b,up _ _ h2,up _ _ h3,h4⟩
  ·have hl:=(At.mp h).1;rw[Ah,Aq]at hl;obtain rfl:i=S.length:=by omega
   rw[B5 (by omega),show S.length - L.length=0 by omega]at h;cases h;exact⟨hm,z,r,up _ _ hz,hr,e⟩
def MvOk (ps:Pg) (z:Sd) (ds:List Ad):Prop:=0 < ds.length/\ds.length<=6/\∀d∈ds,∃m:Nat,d=.int m/\m<=ps.length/\(m=ps.length\/canB ps z.1 z.2 m=true)
def WalI (ps:Pg) (s:Sd) (n0:Int) (l:Nat) (δ:Sl) (n:Int):Prop:=∃(L:List Nat) (S:List Sd) (z:Sd) (x6 x7:Option SV),δ=[some (.w .tp),some (.w (.d (pgD ps))),some (.w (.d (sdD s))),some (.w (.d (.int 24))),some (.own (intL L)),some (.own (S.map sdD++[sdD z])),x6,x7]/\Wlk ps s L (S++[z])/\L.length+l<=24/\n+2*(l:Int)<=n0+60
theorem jjg {ps:Pg} {s z:Sd} {L:List Nat} {S:List Sd} {ds:List Ad} {n n0:Int} {l:Nat} {x6:Option SV} {K:DEnds} (okp:okPg ps) (W:Wlk ps s L (S++[z])) (hd:MvOk ps z ds) (hL:L.length+(l+1)<=24) (hn:n+1+2*(l:Int)<=n0+60) (hn0:n0+60 < 2 ^ 39) (kN:∀δ n,WalI ps s n0 l δ n->K.nx δ n) :
  sSeq (sApp 4 (w2 (wVar 7) (jam jav (jab (wVar 0) (jab (wB jfc (jab (wVar 7) aNil)) aNil))) gIxL)) (sApp 5 (jam jh5 (jab (wVar 1) (jab (w2 (jd5 5) (wNeg (wC (.int (1)))) gIxL) (jab (w2 (jd5 4) (wNeg (wC (.int (1)))) gIxL) aNil)))))
   [some (.w .tp),some (.w (.d (pgD ps))),some (.w (.d (sdD s))),some (.w (.d (.int 24))),some (.own (intL L)),some (.own (S.map sdD++[sdD z])),x6,some (.w (.d (.list ds)))] n K:=by
 obtain⟨d0,d6,dm⟩:=hd;have hS:S.length=L.length:=by have:=W.len;rw[Ah,Aq]at this;omega
 have hz:(S++[z])[S.length]?=some z:=by rw[B5 (An _),Fl];rfl
 obtain⟨ok1,ok2⟩:=W.ok _ _ hz;have ok:okSt ps z.1 z.2:=⟨okp,ok1,A5 ok2.1 (by omega),ok2.2⟩;refine jaj (jkz rfl (w2_i (jad rfl (jd3 (m:=(ds.length:Nat)) rfl (λQ q=>j1m rfl q) (by omega) (by omega) (by omega) λr r0 r1=>jci r0 r1 λd hd=>?_))));obtain⟨m,rfl,hm,hc⟩:=dm d hd;obtain⟨r,er⟩:=j4q ok1 hm hc;refine Am (by rw[js2];omega) ?_;dsimp only[Ao];refine jkz rfl (c3_i (jad rfl (jri rfl (jri rfl ⟨ps,z.1,z.2,m,r,rfl,ok,hm,er,?_⟩))));refine Am (by rw[Ah,Ab,Aq];omega) (kN _ _ ⟨L++[m],S++[z],r,x6,some (.w (.d (.list ds))),?_,W.snoc okp hm er,by rw[Ah,Aq];omega,by omega⟩);rw[jwv,A9];rfl
theorem j8j {ps:Pg} {z:Sd} (hp:ps.length<=5):MvOk ps z (rdyL ps z.1 z.2++[.int ps.length]):=by
 have h1:=j06 (ps:=ps) (hs:=z.1) (ns:=z.2);refine⟨by rw[Ah,Aq];omega,by rw[Ah,Aq];omega,λd hd=>?_⟩;rcases A8.mp hd with q | q
 ·unfold rdyL at q;obtain⟨m,hm,rfl⟩:=Bo.mp q;obtain⟨h2,h3⟩:=Dc.mp hm;have:=C7.mp h2;exact⟨m,rfl,by omega,.inr h3⟩
 ·rw[Bd]at q;exact⟨ps.length,q,An _,.inl rfl⟩
theorem jn2:∀ws n Q,jne ws n Q->ws.length=4:=λws n Q h=>by obtain⟨_,_,rfl,_⟩:=h;rfl
abbrev zqw:List Str:=["_law_tape_here","_law_programs","_law_stand_here","_law_most","_law_movers_here","_law_stands","_law_k","_law_some"]
theorem jma:∀ws n Q,jne ws n Q->jgh (ja3 zqw ws) n {nx:=λ_ n=>Q (.d .none) n,rt:=Q}:=λws n0 Q h=>by
 obtain⟨ps,s,rfl,okp,okh,okn,hn0,k⟩:=h;show jgh [some (.w .tp),some (.w (.d (pgD ps))),some (.w (.d (sdD s))),some (.w (.d (.int 24))),none,none,none,none] n0 _;refine jaj (jc8 ?_);dsimp only[Ao];refine jaj (show sOwn 5 _ _ _ _ from j7e (jad rfl (Am (show 1<=1000 by decide) ?_)));dsimp only[Ao];refine jaj ?_;unfold sFor jbe;refine jd3 (m:=25) rfl (λQ q=>w2_i (jad rfl (c_i (addI q)))) (by omega) (by omega) (by omega) λr r0 r1=>?_;refine Am ⟨by omega,by omega⟩ ?_;have W0:Wlk ps s [] ([]++[s]):=⟨rfl,rfl,λi x h=>by
  cases i with
  |zero=>cases h;exact⟨okh,okn⟩
  |succ i=>simp at h,λi m h=>by simp at h⟩
 refine jbj (λds δ n=>WalI ps s n0 ds.length δ n) (λδ n I=>?_) (λd t δ n N I kN=>?_) _ _ _ ⟨[],[],s,none,none,rfl,W0,by rw[jbv];show 0+_<=24;omega,by rw[jbv];omega⟩
 ·obtain⟨L,S,z,x6,x7,rfl,W,hL,hn⟩:=I;dsimp only;refine jgd rfl ?_;dsimp only[Ao];refine jgd rfl ?_;dsimp only[Ao];refine jbf (jb2 (jad rfl (jad rfl (Am (show 2<=1000 by decide) ?_))));have:=k L (S++[z]) n W (by simpa using hL) (by simpa using hn);rw[A9]at this;exact this
 ·obtain⟨L,S,z,x6,x7,rfl,W,hL,hn⟩:=I;rw[Ar]at hL hn;dsimp only[jai,Ao];have hz:(S++[z])[S.length]?=some z:=by rw[B5 (An _),Fl];rfl
  have hS:S.length=L.length:=by have:=W.len;rw[Ah,Aq]at this;omega
  obtain⟨ok1,ok2⟩:=W.ok _ _ hz;refine jaj (show sSet 7 _ _ _ _ from of_i (cN2 (jad rfl (jri rfl ⟨ps,z.1,z.2,rfl,⟨okp,ok1,A5 ok2.1 (by omega),ok2.2⟩,?_⟩))));dsimp only[Ao];have M:=j8j (z:=z) okp.1;generalize rdyL ps z.1 z.2++[.int ps.length]=ds at M;refine jaj (if_i ?_);refine(show cT _ _ _ _ from w2_i (j1m rfl (c_i (j69 ?_))));refine ifb (λz1=>?_) λ_=>?_
  ·have h1:1 < ds.length:=by have:=of_decide_eq_true z1;omega
   refine w2_i (jd3 (m:=5) rfl (λQ q=>c_i q) (by omega) (by omega) (by omega) λr r0 r1=>c_i (j69 ?_));refine ifb (λ_=>?_) λ_=>?_
   ·refine(show sSet 7 _ _ _ _ from ?_);unfold sSet jc6 jb8 jb7;refine jad rfl ?_;show(_:Prop);dsimp only[wNeg,wC];rw[j7s];dsimp only[Ao];refine jjg okp W ⟨by rw[Ci];omega,A5 (Gf _ _) (by have:=M.2.1;omega),λd hd=>M.2.2 d (En hd)⟩ (by omega) (by omega) hn0 kN
   ·dsimp only[jas];exact jjg okp W M (by omega) (by omega) hn0 kN
  ·dsimp only[jas];exact jjg okp W M (by omega) (by omega) hn0 kN
theorem jz6 (xs:List Ad) (p:Nat):cutD xs (some (p:Int)) none=xs.drop p:=by
 unfold cutD;rw[HT.sIx_nat,HT.sIx_none];by_cases h:p<=xs.length
 ·rw[Nat.min_eq_left h,Cy (by rw[Bx];exact An _)]
 ·rw[Nat.min_eq_right (by omega),Fl,List.take_zero,List.drop_of_length_le (by omega)]
theorem j8t {n:Int} {Q:DQ} {i:Nat} {x:Ad} {xs:List Ad} (h:xs[i]?=some x) (k:Q (.d x) n):gIx (.d (.list xs)) (.d (.int (i:Nat))) n Q:=by
 show(match atI xs ((i:Nat):Int)with | some d=>Q (.d d) n | none=>False);rw[jbx h];exact k
section
variable {δ:Sl} {n:Int} {Q:DQ}
theorem tupG {ds:List Ad} (k:Q (.d (.tuple ds)) n):jby [.d (.list ds)] n Q:=k
theorem lenG {ds:List Ad} (k:Q (.d (.int ds.length)) n):gLen [.d (.list ds)] n Q:=k
theorem j78 {i j:Nat} {ds:List Ad} {r:Nat} (e1:δ[i]?=some (some (.w (.d (.list ds))))) (e2:δ[j]?=some (some (.w (.d (.int r))))) (k:Q (.d (.list (ds.take r))) n):jc6 (wVar i) jb8 (jb7 (wVar j)) δ n Q:=by
 unfold jc6 jb8 jb7;refine jad e1 (jad e2 ?_);dsimp only;rw[j39];exact k
theorem j77 {i j:Nat} {ds:List Ad} {r:Nat} (e1:δ[i]?=some (some (.w (.d (.list ds))))) (e2:δ[j]?=some (some (.w (.d (.int r))))) (k:Q (.d (.list (ds.drop r))) n):jc6 (wVar i) (jb7 (wVar j)) jb8 δ n Q:=by
 unfold jc6 jb8 jb7;refine jad e1 (jad e2 ?_);dsimp only;rw[jz6];exact k
end
theorem jsx {ps:Pg} {s:Sd} {n:Int} {x2 x4 x6 x7 x8 x9 x10 x11:Option SV} {K:DEnds} (okp:okPg ps) (okh:okHs ps s.1) (okn:okNs 12 s.2) (hn:n < 2 ^ 30)
  (kN:∀(δ:Sl) (n':Int),(∃x4 x5 x6 x7 x8 x9 x10 x11:Option SV,δ=[none,some (.w .tp),x2,some (.w (.d (pgD ps))),x4,x5,x6,x7,x8,x9,x10,x11])->n'<=n+61->K.nx δ n') :
  (sSeq (sUnp (jam jne (jab (wVar 1) (jab (wVar 3) (jab (wVar 5) (jab (wC (.int (24))) aNil))))) (jdc 2 (jax (jai 6) (jax (jai 7) jb5)))) (sSeq (sSet 8 (wB jw3 (jab (wVar 6) aNil))) (sSeq (sFor (jcl (wTup (jab (wVar 8) (jab (wB jby (jab (wVar 6) aNil)) (jab (wVar 8) aNil))))) (jai 9) (sIf (cOr (cT (w2 (wB jdd (jab (jam jc0 (jab (wVar 3) (jab (wVar 5) (jab (wVar 9) aNil)))) aNil)) (wB jdd (jab (w2 (wVar 7) (wNeg (wC (.int (1)))) gIx) aNil)) gNe)) (cT (w2 (wVar 8) (wVar 6) (gXX λd e=>some (!E4 d e))))) (sRet (wC (.bool false))) jas)) (sSeq (sSet 10 (jam jav (jab (wVar 1) (jab (w2 (wB gLen (jab (wVar 6) aNil)) (wC (.int (1))) (gI0 λi j=>.int (i+j))) aNil)))) (sSeq (sSet 11 (jam jc0 (jab (wVar 3) (jab (wVar 5) (jab (jc6 (wVar 6) jb8 (jb7 (wVar 10))) aNil))))) (sSeq (sIf (cOr (cT (w2 (wB jdd (jab (wVar 11) aNil)) (wB jdd (jab (w2 (wVar 7) (wVar 10) gIx) aNil)) gNe)) (cT (w2 (wB jdd (jab (jam jc0 (jab (wVar 3) (jab (wVar 11) (jab (jc6 (wVar 6) (jb7 (wVar 10)) jb8) aNil)))) aNil)) (wB jdd (jab (w2 (wVar 7) (wNeg (wC (.int (1)))) gIx) aNil)) gNe))) (sRet (wC (.bool false))) jas) (sIf (cT (w2 (wB jdd (jab (jam jc0 (jab (wVar 3) (jab (wVar 5) (jab (wOf (fLst aNil)) aNil)))) aNil)) (wB jdd (jab (wVar 5) aNil)) gNe)) (sRet (wC (.bool false))) jas)))))))
  [none,some (.w .tp),x2,some (.w (.d (pgD ps))),x4,some (.w (.d (sdD s))),x6,x7,x8,x9,x10,x11] n K:=by
 refine jaj (show sUnp _ _ _ _ _ from c4_i (jad rfl (jad rfl (jad rfl (c_i ⟨ps,s,rfl,okp,okh,okn,by omega,λL S n1 W hL hn1=>⟨rfl,?_⟩⟩)))));dsimp only[jax,jb5,jai,Ao];have hlen:=W.len;obtain⟨S,z,rfl⟩:∃S' z,S=S'++[z]:=by
  have h:S≠[]:=λe=>by rw[e]at hlen;cases hlen
  exact⟨S.dropLast,S.getLast h,(List.dropLast_concat_getLast h).symm⟩
 have hS:S.length=L.length:=by rw[Ah,Aq]at hlen;omega
 have hz:(S++[z])[L.length]?=some z:=by rw[<-hS,B5 (An _),Fl];rfl
 have hi:∀i m,L[i]?=some m->m<=ps.length:=λi m e=>(W.st i m e).1;have sm:Small (.list (intL L)):=jtn L (by omega) λm hm=>by
  obtain⟨i,e⟩:=By.mp hm;have:=hi i m e;have:=okp.1;omega
 have wA:Wov ps s L z:=by
  have:=jnf W L.length 0 (by omega) W.fst (by rw[Nat.zero_add];exact hz);rwa [Eo,Cy (An _)]at this
 obtain⟨oz1,oz2⟩:=W.ok _ _ hz;have rz:∀{n:Int} {Q:DQ},Q (.d (.str (PyData.shown (sdD z)))) n->jdd [.d (sdD z)] n Q:=λq=>j2t okp oz1 ⟨A5 oz2.1 (by omega),oz2.2⟩ q;rw[A9,show[z].map sdD=[sdD z]from rfl];refine jaj (ja6 (x:=.list (intL L)) (λQ q=>b1_i (jad rfl q)) ?_);dsimp only[Ao];refine jaj ?_;unfold sFor jcl;refine jlg (jad rfl (b1_i (jad rfl (tupG (jad rfl (Am (show 3<=1000 by decide) ?_))))));refine jbj (λds δ n'=>n'=n1/\(∀d∈ds,d=.tuple (intL L)\/d=.list (intL L))/\∃x9:Option SV,δ=[none,some (.w .tp),x2,some (.w (.d (pgD ps))),x4,some (.w (.d (sdD s))),some (.w (.d (.list (intL L)))),some (.w (.d (.list (S.map sdD++[sdD z])))),some (.w (.d (.list (intL L)))),x9,x10,x11]) (λδ n' I=>?_) (λd t δ n' N I kN'=>?_) _ _ _ ⟨rfl,λd hd=>(by
  simp only[As,Aw,or_false]at hd;rcases hd with rfl | rfl | rfl
  ·exact .inr rfl
  ·exact .inl rfl
  ·exact .inr rfl),x9,rfl⟩
 ·obtain⟨rfl,_,x9,rfl⟩:=I;dsimp only;refine jaj (show sSet 10 _ _ _ _ from drw (m:=(L.length:Int)+1) rfl (λQ q=>w2_i (b1_i (jad rfl (lenG (c_i (addI (by rw[js2];exact q))))))) (by omega) (by omega) (by omega) λr r0 r1=>?_);obtain⟨r,rfl⟩:=Gr r0;have hr:r<=L.length:=by omega
  dsimp only[Ao];have hlt:r < (S++[z]).length:=by rw[Ah,Aq];omega
  have hu:(S++[z])[r]?=some (S++[z])[r]:=Aj hlt;generalize(S++[z])[r]=u at hu;obtain⟨ou1,ou2⟩:=W.ok _ _ hu;have wB':Wov ps s (L.take r) u:=by
   have:=jnf W r 0 (by omega) W.fst (by rw[Nat.zero_add];exact hu);rwa [Eo]at this
  have wC':Wov ps u (L.drop r) z:=by
   have:=jnf W (L.length - r) r (by omega) hu (by rw[show r+(L.length - r)=L.length by omega];exact hz);rwa [Cy (by rw[Bx];exact An _)]at this
  have tk:(intL L).take r=intL (L.take r):=by unfold intL;rw[Fw]
  have dk:(intL L).drop r=intL (L.drop r):=by unfold intL;rw[List.map_drop]
  have l1:=Gf r L;have l2:(L.drop r).length<=24:=by rw[Bx];omega
  refine jaj (ja6 (x:=sdD u) (λQ q=>c3_i (jad rfl (jad rfl (j78 rfl rfl ⟨ps,s,u,L.take r,_,rfl,.inr (by rw[tk]),okp,okh,⟨A5 okn.1 (by omega),okn.2⟩,by omega,wB',q⟩)))) ?_);dsimp only[Ao];have hm:(S.map sdD++[sdD z])[r]?=some (sdD u):=by
   have:((S++[z]).map sdD)[r]?=some (sdD u):=by rw[Ay,hu];rfl
   rwa [A9]at this
  have ru:∀{n:Int} {Q:DQ},Q (.d (.str (PyData.shown (sdD u)))) n->jdd [.d (sdD u)] n Q:=λq=>j2t okp ou1 ⟨A5 ou2.1 (by omega),ou2.2⟩ q;refine jaj (if_n (λQ q=>jhu (λQ q=>ct_b (k:=false) (λQ q=>w2_i (b1_i (jad rfl (ru (b1_i (w2_i (jad rfl (jad rfl (j8t hm (ru (jny q))))))))))) q) (ct_b (k:=false) (λQ q=>w2_i (b1_i (c3_i (jad rfl (jad rfl (j77 rfl rfl ⟨ps,u,z,L.drop r,_,rfl,.inr (by rw[dk]),okp,ou1,⟨A5 ou2.1 (by omega),ou2.2⟩,by omega,wC',rz (b1_i (jwm rfl (rz (jny q))))⟩)))))) q)) ?_);dsimp only[jas];have rs:∀{n:Int} {Q:DQ},Q (.d (.str (PyData.shown (sdD s)))) n->jdd [.d (sdD s)] n Q:=λq=>j2t okp okh ⟨A5 okn.1 (by omega),okn.2⟩ q;refine if_n (λQ q=>ct_b (k:=false) (λQ q=>w2_i (b1_i (c3_i (jad rfl (jad rfl (jgv ⟨ps,s,s,[],_,rfl,.inr rfl,okp,okh,⟨A5 okn.1 (by decide),okn.2⟩,by decide,.nil,rs (b1_i (jad rfl (rs (jny q))))⟩)))))) q) ?_;exact kN _ _ ⟨_,_,_,_,_,_,_,_,rfl⟩ (by omega)
 ·obtain⟨rfl,hd,x9,rfl⟩:=I;dsimp only[jai,Ao];refine if_n (λQ q=>jhu (λQ q=>ct_b (k:=false) (λQ q=>w2_i (b1_i (c3_i (jad rfl (jad rfl (jad rfl ⟨ps,s,z,L,d,rfl,hd d A0,okp,okh,⟨A5 okn.1 (by omega),okn.2⟩,by omega,wA,rz (b1_i (jwm rfl (rz (jny q))))⟩)))))) q) (ct_b (k:=false) (λQ q=>w2_i (jad rfl (jad rfl (j3k sm q)))) q)) ?_;exact kN' _ _ ⟨rfl,λx hx=>hd x (Au _ hx),_,rfl⟩
abbrev zqg:List Str:=["_law_script","_law_tape_here","_law_plan_here","_law_programs","_law_k","_law_begin","_law_movers_here","_law_stands","_law_handed","_law_some","_law_at","_law_middle"]
theorem j0e:j72 (none::some (.w .tp)::Dl (List.length zqg - 2) none) 0 jn8:=by
 show j72 [none,some (.w .tp),none,none,none,none,none,none,none,none,none,none] 0 jn8;refine jaj (show sSet 2 _ _ _ _ from c1_i (jad rfl (Am rfl ⟨by decide,λps ns0 n0 hp hf okn0 hn0=>?_⟩)));dsimp only[Ao];refine jaj (ja6 (x:=pgD ps) (λQ q=>w2_i (jad rfl (c_i (g0_i q)))) ?_);dsimp only[Ao];refine jaj (j7d 3 rfl (by decide) ?_);refine jbj (λds δ n=>(∃x4 x5 x6 x7 x8 x9 x10 x11:Option SV,δ=[none,some (.w .tp),some (.w (.d (.tuple [pgD ps,nsD ns0]))),some (.w (.d (pgD ps))),x4,x5,x6,x7,x8,x9,x10,x11])/\n+520*(ds.length:Int)<=9000) (λδ n I=>?_) (λd' t δ n N I kN=>?_) _ _ _ ⟨⟨_,_,_,_,_,_,_,_,rfl⟩,by rw[jbv];omega⟩
 ·obtain⟨⟨x4,x5,x6,x7,x8,x9,x10,x11,rfl⟩,hn⟩:=I;dsimp only;exact jbf (c_i rfl)
 ·obtain⟨⟨x4,x5,x6,x7,x8,x9,x10,x11,rfl⟩,hn⟩:=I;rw[Ar]at hn;dsimp only[jai,Ao];refine jaj (ja6 (x:=stD (hs0 ps) ns0) (λQ q=>c1_i (jad rfl ⟨ps,ns0,rfl,hp.1,q⟩)) ?_);dsimp only[Ao];have fin:∀(δ:Sl) (n':Int),(∃x4 x5 x6 x7 x8 x9 x10 x11:Option SV,δ=[none,some (.w .tp),some (.w (.d (.tuple [pgD ps,nsD ns0]))),some (.w (.d (pgD ps))),x4,x5,x6,x7,x8,x9,x10,x11])->n'<=n+520->N δ n':=λδ n' h h'=>kN _ _ ⟨h,by omega⟩;refine jaj (if_i (show cT _ _ _ _ from w2_i (drw rfl (λQ q=>c_i q) (by omega) (by decide) (by decide) λr r0 r1=>c_i (j7g ?_))));refine ifb (λ_=>?_) λ_=>?_
  ·refine(show sSet 5 _ _ _ _ from c3_i (jad rfl (jad rfl (c2_i (jad rfl (jad rfl ⟨ps,rfl,hp,by omega,λhs ns n1 okh okn hn1=>⟨ps,hs,ns,rfl,hp,okh,okn,by omega,λns' n2 okn' hn2=>?_⟩⟩))))));dsimp only[Ao];exact jsx (s:=(hs,ns')) hp okh ⟨A5 okn'.1 (by decide),okn'.2⟩ (by omega) λδ n' h h'=>fin δ n' h (by omega)
  ·dsimp only[jas];exact jsx (s:=(hs0 ps,ns0)) hp (j67 hp hf) okn0 (by omega) λδ n' h h'=>fin δ n' h (by omega)
def top (i:Nat):Stmt:=PySem.Challenge.pw_noteboard_k26_weavings_parted.main.body.getD i (.Pass ⟨0,0,0,0⟩)
abbrev jmo:Stmt:=top 5
abbrev jh9:Stmt:=top 7
abbrev j02:Stmt:=top 8
abbrev jh7:Stmt:=top 9
abbrev jgn:Stmt:=top 10
abbrev jsg:Stmt:=top 11
abbrev jjp:Stmt:=top 14
abbrev jmn:Stmt:=top 16
abbrev j01:Stmt:=top 17
abbrev jpi:Stmt:=top 18
abbrev jph:Stmt:=top 19
abbrev jjn:Stmt:=top 20
abbrev j5i:Stmt:=top 21
abbrev jez:Stmt:=top 22
abbrev jh8:Stmt:=top 23
abbrev j03:Stmt:=top 24
abbrev jgo:Stmt:=top 25
abbrev jvn:Stmt:=top 26
abbrev jvm:Stmt:=top 28
abbrev jq6:Stmt:=top 30
abbrev jq7:Stmt:=top 31
abbrev jia:Stmt:=top 32
abbrev jjs:Stmt:=top 33
abbrev jms:Stmt:=top 34
abbrev jf2:Stmt:=top 35
abbrev je1:Stmt:=top 36
abbrev jjr:Stmt:=top 37
abbrev jmt:Stmt:=top 38
abbrev jf1:Stmt:=top 39
abbrev jic:Stmt:=top 40
abbrev jjt:Stmt:=top 41
abbrev jie:Stmt:=top 42
abbrev jib:Stmt:=top 43
abbrev jmq:Stmt:=top 44
abbrev je2:Stmt:=top 45
abbrev jmp:Stmt:=top 46
abbrev jmr:Stmt:=top 47
abbrev jgq:Stmt:=top 48
abbrev je0:Stmt:=top 49
abbrev jf3:Stmt:=top 50
abbrev jju:Stmt:=top 51
abbrev jgp:Stmt:=top 52
abbrev jjq:Stmt:=top 53
abbrev jjv:Stmt:=top 54
abbrev jid:Stmt:=top 55
abbrev jif:Stmt:=top 56
abbrev jtp:Stmt:=top 57
abbrev j5j:Stmt:=jq6
abbrev j5m:Stmt:=jq7
end Nb
namespace Nb
open PySem L2
section
variable {P:Bg} {w:Br} {K:Ai} {mg:Str->Option Af} {base:Heap}
abbrev zql1:List Str:=["_law_script"]
theorem j5c:FnScope zql1 zql1 (jak j5j):=⟨rfl,rfl,rfl,by decide +kernel,rfl,by decide +kernel,by decide +kernel⟩
theorem j3f {f:Addr} {fd:Cb} (F:Fun K "_law_tape" "_law_tape" j5j f fd):FnOk P w K mg base CX0 1 f fd zql1 (jr9 K):=by
 refine F.ok j5c (λvs H Q E h=>?_) (λcdv A outer s H vs Q E hr h=>?_)
 ·obtain⟨a,ns,rfl,_⟩:=h;rfl
 ·obtain⟨a,ns,rfl,hS,hl,k⟩:=h;refine⟨_,jhc (jmx (jv4 (ja9 (jnu jvh (pv 0) jv1 (jv0 jbh)) (ja9 jbh (ja9 jbh (ja9 (jv4 (ja9 jso (ja9 jso (ja9 jso (ja9 jbh (ja9 jbh (ja9 jbh (ja9 jbh jca)))))))) jca)))))),?_⟩;refine⟨_,rfl,_,rfl,a,_,rfl,hS,λp hp=>⟨small (by simp),λg hg=>⟨small (by simp),λq hq=>?_⟩⟩⟩;rw[j84 (by rw[Ab];exact hl)]at hg hq ⊢;have hgp:g≠p:=λz=>by rw[z,jao]at hg;cases hg
  have hg0:H g=none:=by rw[jap hgp]at hg;exact hg
  have hqg:q≠g:=λz=>by rw[z,jao]at hq;cases hq
  rw[jap hqg]at hq;have hqp:q≠p:=λz=>by rw[z,jao]at hq;cases hq
  have hq0:H q=none:=by rw[jap hqp]at hq;exact hq
  refine k q ⟨p,g⟩ _ ⟨⟨0,0,jao,Int.le_refl _,Int.le_refl _⟩,by rw[jap hqp.symm,jap hgp.symm,jao],hl,(λz=>by rw[jap hqg.symm,jao];rfl),hqg.symm⟩ λb o e=>?_;rw[jap (jal e hq0),jap (jal e hg0),jap (jal e hp)];exact e
abbrev zqc:List Str:=["_law_tape_here","_law_many"]
theorem scDraw:FnScope ["_law_tape_here","_law_many","_law_found","_law_spot","_law_cell","_law_mixed"] zqc (jak j5m):=⟨rfl,rfl,rfl,by decide +kernel,rfl,by decide +kernel,by decide +kernel⟩
theorem jzy {R:Prop} {G:Int->Prop} (use:(∀c,G c)->R) (fin:∀c,G c):R:=use fin
theorem j8r {R G:Prop} (use:G->R) (fin:G):R:=use fin
theorem j3g {f:Addr} {fd:Cb} (F:Fun K "_law_draw" "_law_draw" j5m f fd) (zl:mg "len"=none):FnOk P w K mg base CX0 1 f fd zqc j0z:=by
 refine F.ok scDraw (λvs H Q E h=>?_) (λcdv A outer s H vs Q E hr h=>?_)
 ·obtain⟨t,l,ns,n,many,rfl,_⟩:=h;rfl
 ·obtain⟨t,l,ns,n,many,rfl,T,hn,hm0,hm1,k⟩:=h;obtain⟨a,b,ht,ha0,ha1⟩:=T.ob;have ntl:=T.ne;have hl:=T.ls;have hlen:=T.len;refine⟨_,jcb (jy2 (je3 op_gt (jhd ix_list (pv 0) jbh (λ_ _=>rfl)) jbh (jar _))
    (jcb (jf4 (i:=2) scDraw.nd rfl (Ap rfl) (jc7 jgt (jhd ix_list (pv 0) jbh (λ_ _=>rfl)) (pv 1)))
     (jcb (jpm (jc7 jwb (jhd ix_list (pv 0) jbh (λ_ _=>rfl)) (pv 1)) (jsm (pv 0) jbh ji8))
     (jhc (jmx (pv 2))))) jns)
   (jcb (jf4 (i:=3) scDraw.nd rfl (Ap rfl) (jhd ix_list (pv 0) jbh (λ_ _=>rfl)))
   (jcb (jpm (jc7 op_add (pv 3) jbh) (jsm (pv 0) jbh ji8))
   (jcb (jf4 (i:=4) scDraw.nd rfl (Ap rfl) jbh)
   (jcb (jy2 (je3 op_gt (jdm jdq (by rfl) zl Bf (ja9 (jhd ix_list (pv 0) jbh (λ_ _=>rfl)) jca)) jbh (jar _))
    (jhc (jf4 (i:=4) scDraw.nd rfl (Ap rfl) (jhd ix_list (jhd ix_list (pv 0) jbh (λ_ _=>rfl))
     (jc7 jgt (pv 3) (jdm jdq (by rfl) zl Bf (ja9 (jhd ix_list (pv 0) jbh (λ_ _=>rfl)) jca))) (λ_ _=>rfl)))) jns)
   (jcb (jy2 (PW.pt (j1a (je3 j8h (pv 4) (jc7 j6c jbh jbh) (jar _))
     (jvw (je3 op_lt (pv 3) (jdm jdq (by rfl) zl Bf (ja9 (jhd ix_list (pv 0) jbh (λ_ _=>rfl)) jca)) (jar _)))))
    (jcb (jpm (jc7 jwb (pv 4) (pv 1)) (jsm (pv 0) jbh ji8)) (jhc (jmx (jc7 jgt (pv 4) (pv 1))))) jns)
   (jcb (jf4 (i:=5) scDraw.nd rfl (Ap rfl) (jc7 jgt (jc7 jmz (jc7 op_add (jc7 op_add (jc7 jgt (pv 4) jbh) (jc7 jmz (jc7 jmz jbh (pv 3)) (pv 3))) jbh) jbh) jbh))
   (jhc (jmx (jc7 jgt (jc7 jgt (jc7 jmz (jc7 jgt (jc7 op_add (jc7 jmz (pv 5) jbh) (jc7 jmz (pv 3) jbh)) jbh) jbh) jbh) (pv 1)))))))))),?_⟩
  -- tape[2] > 0
  refine⟨_,rfl,t,_,2,_,rfl,rfl,SqL.of ht,jbx (j:=2) rfl,_,_,rfl,rfl,_,rfl,?_⟩;refine ite2 (λ_=>?_) (λ_=>?_)
  ·-- found=tape[2] % many;tape[2]=tape[2] // many;return found
   refine⟨_,rfl,t,_,2,_,rfl,rfl,SqL.of ht,jbx (j:=2) rfl,_,rfl,_,_,rfl,rfl,hm0,?_⟩;refine⟨_,rfl,t,_,2,_,rfl,rfl,SqL.of ht,jbx (j:=2) rfl,_,rfl,_,_,rfl,rfl,⟨hm0,hm1⟩,?_⟩;refine⟨_,rfl,t,_,2,2,rfl,rfl,ht,rfl,?_⟩;refine⟨_,rfl,?_⟩;refine k _ _ (Int.emod_nonneg _ (by omega)) (Go _ hm0) ⟨⟨a,b / many,jao,ha0,by omega⟩,by rw[jap ntl.symm];exact hl,hlen,(λz=>by rw[jap T.gne];exact T.ag z),T.gne⟩ Kp.tape
  ·-- spot=tape[1];tape[1]=spot+1;cell=0
   refine⟨_,rfl,t,_,1,_,rfl,rfl,SqL.of ht,jbx (j:=1) rfl,?_⟩;refine⟨_,rfl,_,_,rfl,rfl,_,rfl,t,_,1,1,rfl,rfl,ht,rfl,?_⟩;have ht1:∀o,upd H t o t=some o:=λo=>jao;have hl1:∀o,upd H t o l.s=some (.lst (ns.map V.int)):=λo=>by rw[jap ntl.symm];exact hl
   generalize hH1:upd H t (.lst (((.ref l.s::.int a::.int b::exOf l:List V)).set 1 (.int (a+1))))=H1;have g1:H1 t=some (.lst (.ref l.s::.int (a+1)::.int b::exOf l)):=by rw[<-hH1];exact jao
   have g2:H1 l.s=some (.lst (ns.map V.int)):=by rw[<-hH1];exact hl1 _
   have g3:Kp t H H1:=by rw[<-hH1];exact Kp.tape
   have g4:jur=true->H1 l.g=some (.lst j0k):=λz=>by rw[<-hH1,jap T.gne];exact T.ag z
   refine⟨_,rfl,t,_,0,_,rfl,rfl,SqL.of g1,jbx (j:=0) rfl,l.s,_,rfl,.inl (SqL.of g2),_,_,rfl,rfl,_,rfl,?_⟩;apply jzy
   case use =>
    intro fin;refine ite2 (λhp=>?_) (λ_=>?_)
    ·have hpos:(0:Int) < ((ns.map V.int).length:Int):=of_decide_eq_true hp;obtain⟨v,hv,hm⟩:=j4j (xs:=ns.map V.int) (r:=a % ((ns.map V.int).length:Int)) (Int.emod_nonneg _ (by omega)) (Go _ hpos);obtain⟨c,_,rfl⟩:=Bo.mp hm;refine⟨_,rfl,t,_,0,_,rfl,rfl,SqL.of g1,jbx (j:=0) rfl,_,rfl,_,rfl,t,_,0,_,rfl,rfl,SqL.of g1,jbx (j:=0) rfl,l.s,_,rfl,.inl (SqL.of g2),_,_,rfl,rfl,hpos,l.s,_,_,.int c,rfl,rfl,SqL.of g2,hv,?_⟩;exact fin c
    ·exact fin 0
   case fin =>
    intro c;refine⟨_,rfl,_,_,rfl,rfl,⟨by decide,by decide,by decide⟩,_,_,rfl,rfl,_,rfl,?_⟩;apply j8r
    case use =>
     intro fin;refine ite2 (λ_=>?_) (λ_=>?_)
     ·refine⟨_,rfl,_,rfl,t,_,0,_,rfl,rfl,SqL.of g1,jbx (j:=0) rfl,l.s,_,rfl,.inl (SqL.of g2),_,_,rfl,rfl,_,rfl,?_⟩;refine ite2 (λ_=>?_) (λ_=>fin);refine⟨_,rfl,_,rfl,_,_,rfl,rfl,⟨hm0,hm1⟩,_,rfl,t,_,2,2,rfl,rfl,g1,rfl,_,rfl,_,rfl,_,_,rfl,rfl,hm0,?_⟩;exact k _ _ (Int.emod_nonneg _ (by omega)) (Go _ hm0) ⟨⟨a+1,_,jao,by omega,by omega⟩,by rw[jap ntl.symm];exact g2,hlen,(λz=>by rw[jap T.gne];exact g4 z),T.gne⟩ (g3.trans Kp.tape)
     ·exact iteF fin
    case fin =>
     refine⟨_,rfl,_,_,rfl,rfl,(by show(0:Int) < 999331;decide),_,rfl,_,_,rfl,rfl,.inl ⟨by decide,by decide⟩,_,rfl,_,_,rfl,rfl,.inl ⟨by omega,by omega⟩,_,_,rfl,rfl,_,_,rfl,rfl,_,_,rfl,rfl,.inr ⟨by decide,by decide⟩,_,_,rfl,rfl,(by show(0:Int) < 999961;decide),?_⟩;refine⟨_,rfl,_,_,rfl,rfl,.inr ⟨by decide,by decide⟩,_,rfl,_,_,rfl,rfl,.inr ⟨by decide,by decide⟩,_,_,rfl,rfl,_,_,rfl,rfl,(by show(0:Int) < 999953;decide),_,_,rfl,rfl,.inr ⟨by decide,by decide⟩,_,_,rfl,rfl,(by show(0:Int) < 524287;decide),_,rfl,_,_,rfl,rfl,hm0,?_⟩;exact k _ _ (Int.emod_nonneg _ (by omega)) (Go _ hm0) ⟨⟨a+1,b,g1,by omega,by omega⟩,g2,hlen,g4,T.gne⟩ g3
end
end Nb
namespace Nb
open PySem L2 DL
theorem scM {N ps:List Str} {S:Scope} (h1:S.kind=.function:=by rfl) (h2:S.isCoroutine=false:=by rfl) (h3:S.isGenerator=false:=by rfl) (h4:N.Nodup:=by decide +kernel) (h5:N.take ps.length=ps:=by rfl) (h6:∀x∈ps,S.names.lookup x=some .local\/S.names.lookup x=some .cell:=by decide +kernel) (h7:∀y∈S.names,y.2≠.free:=by decide +kernel):FnScope N ps S:=⟨h1,h2,h3,h4,h5,h6,h7⟩
theorem d_cM {X:Cx} {e:Expr} {es:List Expr} {pos p:Pos} {tR:TA} {wR:DTA} {k k':Nat} {ps:List Str} {S:DSp} {x:Str} (h:Has X.prog X.w X.K X.mg X.base k x ps S) (hr:Room k' X.A) (ha:DA X (e::es) tR wR) (hk:k<=k':=by decide) (hg:Gl X x:=by rfl) (hdb:(x==("__debug__":Str))=false:=by decide) (he:Az (e::es) X.env=(false,eval e X.env)::Az es X.env:=by rfl) (hpl:(Cz pos (Az es X.env)).any (·.1)=false:=by rfl):DE X (.Call (.Name x p) (e::es) [] pos) (jnl (spOf S) [] E0 tR) (jam S wR):=j38 h (hr.mono hk) hg ha hdb he hpl
theorem f_cM {X:Cx} {e:Expr} {es:List Expr} {pos p:Pos} {tR:TA} {wR:DTA} {k k':Nat} {ps:List Str} {S:DSpN} {x:Str} (h:HasN X.prog X.w X.K X.mg X.base k x ps S) (hr:Room k' X.A) (ha:DA X (e::es) tR wR) (hk:k<=k':=by decide) (hg:Gl X x:=by rfl) (hdb:(x==("__debug__":Str))=false:=by decide) (he:Az (e::es) X.env=(false,eval e X.env)::Az es X.env:=by rfl) (hpl:(Cz pos (Az es X.env)).any (·.1)=false:=by rfl):DF X (.Call (.Name x p) (e::es) [] pos) (jnl (jtl S) [] E0 tR) (jqd S wR):=j31 h (hr.mono hk) hg ha hdb he hpl
section
variable {fa:Addr} {fd:Cb} {P:Bg} {w:Br} {K:Ai} {mg:Str->Option Af} {base:Heap}
theorem sc0:FnScope ["thing"] ["thing"] (jak jmo):=scM
theorem jp7 (F:Fun K "is_whole" "is_whole" jmo fa fd) (m:mg "is_whole"=some (.ref fa)) (b:Binds K fd ["thing"] []) (z_bool:mg "bool"=none) (z_int:mg "int"=none) (z_isinstance:mg "isinstance"=none):Has P w K mg base 1 "is_whole" ["thing"] jk4:=Has.mk' F m b (Fun.okD F sc0 jps λcdv A outer s H E hr=>⟨_,jnd,(jan (ja7 (jz4 (jkm (K:=K) (T:="int") (.inl rfl) (by rfl) z_isinstance (by rfl) z_int j1z (jac 0)) (jt7 (j80 (jkm (K:=K) (T:="bool") (.inr (.inl rfl)) (by rfl) z_isinstance (by rfl) z_bool j4h (jac 0))))))),jou⟩)
abbrev zqf1:List Str:=["field","value","having","bound"]
theorem sc1:FnScope ["field","value","having","bound","head"] zqf1 (jak jh9):=scM
theorem jlz (F:Fun K "field_fits" "field_fits" jh9 fa fd) (m:mg "field_fits"=some (.ref fa)) (b:Binds K fd zqf1 []) (z_int:mg "int"=none) (z_isinstance:mg "isinstance"=none) (z_str:mg "str"=none):Has P w K mg base 1 "field_fits" zqf1 S_ff:=Has.mk' F m b (Fun.okD F sc1 jln λcdv A outer s H E hr=>⟨_,jfi,(jah (jba (i:=4) sc1.nd rfl (Ap rfl) (jaq (K:=K) (jac 0) (jag))) (jah (s_if (jaz (jbb (K:=K) hr.units0) ja4 (jac 4) (ja5) (jar _)) (jan (ja7 (jl6 (jbb (K:=K) hr.units0) ja4 (jaq (K:=K) (jac 0) (jag)) (jac 1) (jar _)))) jbp) (jah (s_if (jaz (jbb (K:=K) hr.units0) ja4 (jac 4) (ja5) (jar _)) (jan (ja7 (jkm (K:=K) (T:="str") (.inr (.inr (.inl rfl))) (by rfl) z_isinstance (by rfl) z_str jtc (jac 1)))) jbp) (jah (s_if (jaz (jbb (K:=K) hr.units0) ja4 (jac 4) (ja5) (jar _)) (jan (ja7 (jkm (K:=K) (T:="int") (.inl rfl) (by rfl) z_isinstance (by rfl) z_int j1z (jac 1)))) jbp) (jah (s_if (jaz (jbb (K:=K) hr.units0) ja4 (jac 4) (ja5) (jar _)) (jan (ja7 (jz4 (j7p hr.units (jaq (K:=K) (jac 0) (jag)) (jc1 2)) (jt7 (jl6 (jbb (K:=K) hr.units0) ja4 (jik hr.units (jc1 2) (jaq (K:=K) (jac 0) (jag))) (jac 1) (jar _)))))) jbp) (jah (s_if (jaz (jbb (K:=K) hr.units0) ja4 (jac 4) (ja5) (jar _)) (jan (ja7 (d_or (j7o hr.units (jaq (K:=K) (jac 0) (jag)) (jc1 3)) (jt7 (jl6 (jbb (K:=K) hr.units0) ja4 (jik hr.units (jc1 3) (jaq (K:=K) (jac 0) (jag))) (jac 1) (jar _)))))) jbp) (jan (ja7 (d_bl))))))))),jkr⟩)
abbrev zqh1:List Str:=["pattern","row","names"]
theorem sc2:FnScope zqy1 zqh1 (jak j02):=scM
theorem jzw (F:Fun K "fits" "fits" j02 fa fd) (m:mg "fits"=some (.ref fa)) (b:Binds K fd zqh1 []) (h_field_fits:Has P w K mg base 1 "field_fits" zqf1 S_ff) (z_dict:mg "dict"=none) (z_len:mg "len"=none) (z_sorted:mg "sorted"=none) (z_tuple:mg "tuple"=none) (z_zip:mg "zip"=none):Has P w K mg base 2 "fits" zqh1 jk9:=Has.mk' F m b (Fun.okD F sc2 jzn λcdv A outer s H E hr=>⟨_,jte,(jah (s_if (jaz jli jf0 (jbd (ja2 (K:=K)) jbt (by rfl) z_len Bf (jaa (jac 0) jae)) (jbd (ja2 (K:=K)) jbt (by rfl) z_len Bf (jaa (jac 1) jae)) (jar _)) (jan (ja7 (jcq))) jbp) (jah (jjo (i:=3) sc2.nd rfl (Ap rfl) (jj9 hr.hd (by rfl) z_dict (jac 2))) (jah (jjo (i:=4) sc2.nd rfl (Ap rfl) j8l) (jah (jdx (j64 (K:=K) (by rfl) z_zip (jac 0) (jac 1)) (jet (K:=K) (jbl (jay (i:=5) sc2.nd rfl (Ap rfl)) (jbl (jay (i:=6) sc2.nd rfl (Ap rfl)) jes))) (jah (s_if (j0d (jru (d_cM h_field_fits hr (jaa (jac 5) (jaa (jac 6) (jaa (jc1 3) (jaa (jc1 4) jae))))))) (jan (ja7 (jcq))) jbp) (jan (s_if (jaz (jbb (K:=K) hr.units0) ja4 (jaq (K:=K) (jac 5) (jag)) (ja5) (jar _)) (jah (jsf (i:=4) hr.units rfl (jaq (K:=K) (jac 5) (jag)) (jac 6)) (jan (jsf (i:=3) hr.units rfl (jaq (K:=K) (jac 5) (jag)) (jac 6)))) jbp)))) (jan (ja7 (jbg (jau (K:=K)) jbi (by rfl) z_tuple jbk (jaa (DF.d (jkj (K:=K) hr.hd (by rfl) z_sorted (jc1 3))) jae)))))))),jxs⟩)
theorem sc3:FnScope ["value"] ["value"] (jak jh7):=scM
theorem jlx (F:Fun K "next_value" "next_value" jh7 fa fd) (m:mg "next_value"=some (.ref fa)) (b:Binds K fd ["value"] []) (z_isinstance:mg "isinstance"=none) (z_str:mg "str"=none) {tk_GREATEST_NUMBER:Tok} (g_GREATEST_NUMBER:mg "GREATEST_NUMBER"=some (.int 99 tk_GREATEST_NUMBER)):Has P w K mg base 1 "next_value" ["value"] jx1:=Has.mk' F m b (Fun.okD F sc3 jll λcdv A outer s H E hr=>⟨_,jfg,(jah (s_if (jru (jkm (K:=K) (T:="str") (.inr (.inr (.inl rfl))) (by rfl) z_isinstance (by rfl) z_str jtc (jac 0))) (jan (ja7 (jac 0))) jbp) (jan (ja7 (jee (jaz (jbb (K:=K) hr.units0) ja4 (jac 0) (j7m (by rfl) g_GREATEST_NUMBER) (jar _)) (jag) (jdo (jac 0) (jag)))))),jkp⟩)
abbrev zqi1:List Str:=["field","having"]
theorem sc4:FnScope ["field","having","value"] zqi1 (jak jgn):=scM
theorem jke (F:Fun K "field_value" "field_value" jgn fa fd) (m:mg "field_value"=some (.ref fa)) (b:Binds K fd zqi1 []) (h_next_value:Has P w K mg base 1 "next_value" ["value"] jx1):Has P w K mg base 2 "field_value" zqi1 jio:=Has.mk' F m b (Fun.okD F sc4 jj5 λcdv A outer s H E hr=>⟨_,jeg,(jah (s_if (jaz (jbb (K:=K) hr.units0) ja4 (jaq (K:=K) (jac 0) (jag)) (ja5) (jar _)) (jan (ja7 (jaq (K:=K) (jac 0) (jag)))) jbp) (jah (jba (i:=2) sc4.nd rfl (Ap rfl) (jik hr.units (jc1 1) (jaq (K:=K) (jac 0) (jag)))) (jan (ja7 (jee (jaz (jbb (K:=K) hr.units0) ja4 (jaq (K:=K) (jac 0) (jag)) (ja5) (jar _)) (d_cM h_next_value hr (jaa (jac 2) jae)) (jac 2)))))),ji3⟩)
theorem sc5:FnScope ["template","names","having"] ["template","names"] (jak jsg):=scM
theorem jt1 (F:Fun K "filled" "filled" jsg fa fd) (m:mg "filled"=some (.ref fa)) (b:Binds K fd ["template","names"] []) (h_field_value:Has P w K mg base 2 "field_value" zqi1 jio) (z_dict:mg "dict"=none) (z_tuple:mg "tuple"=none):Has P w K mg base 3 "filled" ["template","names"] jha:=Has.mk' F m b (Fun.okD F sc5 jtx λcdv A outer s H E hr=>⟨_,jo1,(jah (jjo (i:=2) sc5.nd rfl (Bw rfl) (jj9 hr.hd (by rfl) z_dict (jac 1))) (jan (ja7 (jbg (jau (K:=K)) jbi (by rfl) z_tuple jbk (jaa (DF.d (jd0 (N:=zqi1) (cl:=[("having",s.heap.objs.size+1)]) (fr:=[none,some 2]) rfl ⟨by rfl,rfl,by decide +kernel,by decide +kernel,(λx c h=>h),jb6 [(".0",.local),("field",.local),("field_value",.globalImplicit),("having",.cell)] ["having"] rfl rfl (by decide +kernel),rfl,(λj i h=>match j,h with | 0,h=>(by cases h) | 1,h=>(by cases(Ax (Ax h)).symm;exact⟨"having",rfl,rfl,Bw (Ap rfl),Ap rfl,Ap rfl,rfl⟩) | (j+2),h=>(by have h2:(none:Option (Option Nat))=some (some i):=h;cases h2))⟩ (jdy (K:=K) (jac 0)) (λ_ _ _=>(jay (i:=0) (show(zqi1:List Str).Nodup by decide +kernel) rfl (Ap rfl))) (λ_ _ _=>jm5) (λ_ _ _=>(d_cM h_field_value hr (jaa (jac 0) (jaa (jc1 1) jae)))) (jch 0))) jae))))),jrv⟩)
theorem sc6:FnScope zqv1 zqv1 (jak jjp):=scM
theorem job (F:Fun K "is_within" "is_within" jjp fa fd) (m:mg "is_within"=some (.ref fa)) (b:Binds K fd zqv1 []) (h_is_whole:Has P w K mg base 1 "is_whole" ["thing"] jk4):Has P w K mg base 2 "is_within" zqv1 jg6:=Has.mk' F m b (Fun.okD F sc6 jn1 λcdv A outer s H E hr=>⟨_,jgg,(jan (ja7 (jz4 (d_cM h_is_whole hr (jaa (jac 0) jae)) (jt7 (j37 j1e j00 j1e j00 (jag) (jac 0) (jac 1)))))),jl9⟩)
abbrev zqe:List Str:=["programs","stand","hand"]
theorem sc7:FnScope ["programs","stand","hand","block","place","acts"] zqe (jak jmn):=scM
theorem jp6 (F:Fun K "next_act" "next_act" jmn fa fd) (m:mg "next_act"=some (.ref fa)) (b:Binds K fd zqe []) (z_len:mg "len"=none):Has P w K mg base 1 "next_act" zqe jck:=Has.mk' F m b (Fun.okD F sc7 jih λcdv A outer s H E hr=>⟨_,jhz,(jah (jba (i:=3) sc7.nd rfl (Ap rfl) (jaq (K:=K) (jaq (K:=K) (jaq (K:=K) (jac 1) (jag)) (jac 2)) (jag))) (jah (jba (i:=4) sc7.nd rfl (Ap rfl) (jaq (K:=K) (jaq (K:=K) (jaq (K:=K) (jac 1) (jag)) (jac 2)) (jag))) (jah (jba (i:=5) sc7.nd rfl (Ap rfl) (jaq (K:=K) (jaq (K:=K) (jaq (K:=K) (jac 0) (jac 2)) (jac 3)) (jag))) (jan (ja7 (jee (jaz jjz jjl (jac 4) (jbd (ja2 (K:=K)) jbt (by rfl) z_len Bf (jaa (jac 5) jae)) (jar _)) (jaq (K:=K) (jac 5) (jac 4)) (jcq))))))),jot⟩)
theorem sc8:FnScope zqu1 zqe (jak j01):=scM
theorem jzv (F:Fun K "gets" "gets" j01 fa fd) (m:mg "gets"=some (.ref fa)) (b:Binds K fd ["programs","stand","hand"] []) (h_fits:Has P w K mg base 2 "fits" ["pattern","row","names"] jk9) (h_next_act:Has P w K mg base 1 "next_act" ["programs","stand","hand"] jck) (z_enumerate:mg "enumerate"=none) {q_GETTING:Addr} (g_GETTING:mg "GETTING"=some (.ref q_GETTING)) (t_GETTING:∀H,SqT K H q_GETTING ((["take","read","look"]:List Str).map V.str)):Has P w K mg base 3 "gets" ["programs","stand","hand"] jq1:=Has.mk' F m b (Fun.okD F sc8 jzm λcdv A outer s H E hr=>⟨_,jxz,(jah (jba (i:=3) sc8.nd rfl (Ap rfl) (d_cM h_next_act hr (jaa (jac 0) (jaa (jac 1) (jaa (jac 2) jae))))) (jah (s_if (DCW.cc (cw_or (jaz jgu jhb (jac 3) (jcq) (jar _)) (cw_or1 (j7v (K:=K) (hs:=["take","read","look"]) (jaq (K:=K) (jac 3) (jag)) (by rfl) g_GETTING t_GETTING)))) (jan (ja7 (jcq))) jbp) (jah (jba (i:=4) sc8.nd rfl (Ap rfl) (jaq (K:=K) (jaq (K:=K) (jaq (K:=K) (jac 1) (jag)) (jac 2)) (jag))) (jah (j5h (i:=5) sc8.nd rfl (Ap rfl)) (jah (jdx (jwx (K:=K) (by rfl) z_enumerate (jaq (K:=K) (jac 1) (jag))) (jet (K:=K) (jbl (jay (i:=6) sc8.nd rfl (Ap rfl)) (jbl (jay (i:=7) sc8.nd rfl (Ap rfl)) jes))) (jan (s_if (j7u (i:=5) hr.units rfl (jaq (K:=K) (jac 7) (jag))) (jah (s_if (jaz jnw jnn (d_cM h_fits hr (jaa (jaq (K:=K) (jac 3) (jag)) (jaa (jaq (K:=K) (jac 7) (jag)) (jaa (jac 4) jae)))) (jcq) (jar _)) (jan (ja7 (jac 6))) jbp) (jan (j5f (i:=5) hr.units rfl (jaq (K:=K) (jac 7) (jag)) (d_bl)))) jbp))) (jan (ja7 (jcq)))))))),jxr⟩)
theorem sc9:FnScope zqn1 zqn1 (jak jpi):=scM
theorem jrn (F:Fun K "gone_on" "gone_on" jpi fa fd) (m:mg "gone_on"=some (.ref fa)) (b:Binds K fd zqn1 []):Has P w K mg base 1 "gone_on" zqn1 jo2:=Has.mk' F m b (Fun.okD F sc9 jrh λcdv A outer s H E hr=>⟨_,jk2,(jan (ja7 (jbc (jaa (jaq (K:=K) (jac 0) (jag)) (jaa (jdo (jaq (K:=K) (jac 0) (jag)) (jag)) (jaa (jac 1) jae)))))),jqk⟩)
abbrev zqd1:List Str:=["program","block","names"]
theorem sc10:FnScope ["program","block","names","wanted"] zqd1 (jak jph):=scM
theorem jrm (F:Fun K "gone_to" "gone_to" jph fa fd) (m:mg "gone_to"=some (.ref fa)) (b:Binds K fd zqd1 []) (z_tuple:mg "tuple"=none):Has P w K mg base 1 "gone_to" zqd1 jq0:=Has.mk' F m b (Fun.okD F sc10 jrg λcdv A outer s H E hr=>⟨_,jk1,(jah (jba (i:=3) sc10.nd rfl (Bw rfl) (jaq (K:=K) (jaq (K:=K) (jac 0) (jac 1)) (jag))) (jan (ja7 (jbc (jaa (jac 1) (jaa (jag) (jaa (jbg (jau (K:=K)) jbi (by rfl) z_tuple jbk (jaa (DF.d (jd0 (N:=["pair","wanted"]) (cl:=[("wanted",s.heap.objs.size+1)]) (fr:=[none,some 3]) rfl ⟨by rfl,rfl,by decide +kernel,by decide +kernel,(λx c h=>h),jb6 [(".0",.local),("pair",.local),("wanted",.cell)] ["wanted"] rfl rfl (by decide +kernel),rfl,(λj i h=>match j,h with | 0,h=>(by cases h) | 1,h=>(by cases(Ax (Ax h)).symm;exact⟨"wanted",rfl,rfl,Bw (Ap rfl),Ap rfl,Ap rfl,rfl⟩) | (j+2),h=>(by have h2:(none:Option (Option Nat))=some (some i):=h;cases h2))⟩ (jdy (K:=K) (jac 2)) (λ_ _ _=>(jay (i:=0) (show(["pair","wanted"]:List Str).Nodup by decide +kernel) rfl (Ap rfl))) (λ_ _ _=>(jkd (jaz (jig (K:=K)) jel (jaq (K:=K) (jac 0) (jag)) (jac 1) (by with_unfolding_all rfl)))) (λ_ _ _=>(jac 0)) (jch 0))) jae)) jae))))))),jqj⟩)
theorem sc11:FnScope zqt zqt (jak jjn):=scM
theorem joa (F:Fun K "with_hand" "with_hand" jjn fa fd) (m:mg "with_hand"=some (.ref fa)) (b:Binds K fd zqt []):Has P w K mg base 1 "with_hand" zqt jeu:=Has.mk' F m b (Fun.okD F sc11 jn0 λcdv A outer s H E hr=>⟨_,jgf,(jan (ja7 (jil (K:=K) (jil (K:=K) (jed (K:=K) (jac 0) jeo (jen (jac 1))) (jbc (jaa (jac 2) jae))) (jed (K:=K) (jac 0) (jen (jdo (jac 1) (jag))) jeo)))),jl8⟩)
abbrev zqg1:List Str:=["programs","stand","hand","act"]
theorem sc12:FnScope zqt1 zqg1 (jak j5i):=scM
theorem j3v (F:Fun K "got" "got" j5i fa fd) (m:mg "got"=some (.ref fa)) (b:Binds K fd zqg1 []) (h_fits:Has P w K mg base 2 "fits" zqh1 jk9) (h_gets:Has P w K mg base 3 "gets" zqe jq1) (h_gone_on:Has P w K mg base 1 "gone_on" zqn1 jo2) (h_gone_to:Has P w K mg base 1 "gone_to" zqd1 jq0) (h_with_hand:Has P w K mg base 1 "with_hand" zqt jeu):Has P w K mg base 4 "got" zqg1 jk6:=Has.mk' F m b (Fun.okD F sc12 j3l λcdv A outer s H E hr=>⟨_,j0o,(jah (jba (i:=4) sc12.nd rfl (Ap rfl) (jaq (K:=K) (jaq (K:=K) (jac 1) (jag)) (jac 2))) (jah (jba (i:=5) sc12.nd rfl (Ap rfl) (jaq (K:=K) (jac 1) (jag))) (jah (jba (i:=6) sc12.nd rfl (Ap rfl) (d_cM h_gets hr (jaa (jac 0) (jaa (jac 1) (jaa (jac 2) jae))))) (jah (s_if (jaz jgu jhb (jac 6) (jcq) (jar _)) (jah (s_if (jaz jli jf0 (jaq (K:=K) (jac 3) (jag)) (ja5) (jar _)) (jan (ja7 (jcq))) jbp) (jan (ja7 (jbc (jaa (d_cM h_with_hand hr (jaa (jaq (K:=K) (jac 1) (jag)) (jaa (jac 2) (jaa (d_cM h_gone_to hr (jaa (jaq (K:=K) (jac 0) (jac 2)) (jaa (jaq (K:=K) (jac 3) (jag)) (jaa (jaq (K:=K) (jac 4) (jag)) jae)))) jae)))) (jaa (jac 5) jae)))))) jbp) (jah (jba (i:=7) sc12.nd rfl (Ap rfl) (d_cM h_fits hr (jaa (jaq (K:=K) (jac 3) (jag)) (jaa (jaq (K:=K) (jaq (K:=K) (jac 5) (jac 6)) (jag)) (jaa (jaq (K:=K) (jac 4) (jag)) jae))))) (jah (s_if (jaz (jbb (K:=K) hr.units0) ja4 (jaq (K:=K) (jac 3) (jag)) (ja5) (jar _)) (jan (jba (i:=5) sc12.nd rfl (Ap rfl) (jil (K:=K) (jed (K:=K) (jac 5) jeo (jen (jac 6))) (jed (K:=K) (jac 5) (jen (jdo (jac 6) (jag))) jeo)))) jbp) (jan (ja7 (jbc (jaa (d_cM h_with_hand hr (jaa (jaq (K:=K) (jac 1) (jag)) (jaa (jac 2) (jaa (d_cM h_gone_on hr (jaa (jac 4) (jaa (jac 7) jae))) jae)))) (jaa (jac 5) jae))))))))))),j0f⟩)
theorem sc13:FnScope ["act","names","having"] ["act","names"] (jak jez):=scM
theorem jhl (F:Fun K "is_same_value" "is_same_value" jez fa fd) (m:mg "is_same_value"=some (.ref fa)) (b:Binds K fd ["act","names"] []) (h_field_value:Has P w K mg base 2 "field_value" zqi1 jio) (z_dict:mg "dict"=none):Has P w K mg base 3 "is_same_value" ["act","names"] jqs:=Has.mk' F m b (Fun.okD F sc13 jhf λcdv A outer s H E hr=>⟨_,jde,(jah (jjo (i:=2) sc13.nd rfl (Ap rfl) (jj9 hr.hd (by rfl) z_dict (jac 1))) (jan (ja7 (jl6 (jbb (K:=K) hr.units0) ja4 (d_cM h_field_value hr (jaa (jaq (K:=K) (jac 0) (jag)) (jaa (jc1 2) jae))) (d_cM h_field_value hr (jaa (jaq (K:=K) (jac 0) (jag)) (jaa (jc1 2) jae))) (jar _))))),jg2⟩)
theorem sc14:FnScope zqz1 zqe (jak jh8):=scM
theorem jly (F:Fun K "hand_moved" "hand_moved" jh8 fa fd) (m:mg "hand_moved"=some (.ref fa)) (b:Binds K fd ["programs","stand","hand"] []) (h_filled:Has P w K mg base 3 "filled" ["template","names"] jha) (h_gone_on:Has P w K mg base 1 "gone_on" ["place","names"] jo2) (h_gone_to:Has P w K mg base 1 "gone_to" ["program","block","names"] jq0) (h_got:Has P w K mg base 4 "got" ["programs","stand","hand","act"] jk6) (h_is_same_value:Has P w K mg base 3 "is_same_value" ["act","names"] jqs) (h_next_act:Has P w K mg base 1 "next_act" ["programs","stand","hand"] jck) (h_with_hand:Has P w K mg base 1 "with_hand" ["hands","hand","place"] jeu) {q_GETTING:Addr} (g_GETTING:mg "GETTING"=some (.ref q_GETTING)) (t_GETTING:∀H,SqT K H q_GETTING ((["take","read","look"]:List Str).map V.str)):Has P w K mg base 5 "hand_moved" ["programs","stand","hand"] jqz:=Has.mk' F m b (Fun.okD F sc14 jlm λcdv A outer s H E hr=>⟨_,jfh,(jah (jba (i:=3) sc14.nd rfl (Ap rfl) (d_cM h_next_act hr (jaa (jac 0) (jaa (jac 1) (jaa (jac 2) jae))))) (jah (s_if (jaz jgu jhb (jac 3) (jcq) (jar _)) (jan (ja7 (jcq))) jbp) (jah (s_if (j86 (K:=K) (hs:=["take","read","look"]) (jaq (K:=K) (jac 3) (jag)) (by rfl) g_GETTING t_GETTING) (jan (ja7 (d_cM h_got hr (jaa (jac 0) (jaa (jac 1) (jaa (jac 2) (jaa (jac 3) jae))))))) jbp) (jah (jba (i:=4) sc14.nd rfl (Ap rfl) (jaq (K:=K) (jaq (K:=K) (jac 1) (jag)) (jac 2))) (jah (jba (i:=5) sc14.nd rfl (Ap rfl) (jaq (K:=K) (jac 1) (jag))) (jah (jba (i:=6) sc14.nd rfl (Ap rfl) (jaq (K:=K) (jac 4) (jag))) (jah (s_if (jaz (jbb (K:=K) hr.units0) ja4 (jaq (K:=K) (jac 3) (jag)) (ja5) (jar _)) (jah (jba (i:=5) sc14.nd rfl (Ap rfl) (jil (K:=K) (jac 5) (jbc (jaa (jbc (jaa (d_cM h_filled hr (jaa (jaq (K:=K) (jac 3) (jag)) (jaa (jac 6) jae))) (jaa (jaq (K:=K) (jac 3) (jag)) jae))) jae)))) (jan (jba (i:=4) sc14.nd rfl (Ap rfl) (d_cM h_gone_on hr (jaa (jac 4) (jaa (jac 6) jae)))))) (jan (s_if (DCW.cc (cw_and (jaz (jbb (K:=K) hr.units0) ja4 (jaq (K:=K) (jac 3) (jag)) (ja5) (jar _)) (cw_and1 (jru (d_cM h_is_same_value hr (jaa (jac 3) (jaa (jac 6) jae))))))) (jan (jba (i:=4) sc14.nd rfl (Ap rfl) (d_cM h_gone_on hr (jaa (jac 4) (jaa (jac 6) jae))))) (jan (jba (i:=4) sc14.nd rfl (Ap rfl) (d_cM h_gone_to hr (jaa (jaq (K:=K) (jac 0) (jac 2)) (jaa (jaq (K:=K) (jac 3) (jrs (jag))) (jaa (jac 6) jae))))))))) (jan (ja7 (jbc (jaa (d_cM h_with_hand hr (jaa (jaq (K:=K) (jac 1) (jag)) (jaa (jac 2) (jaa (jac 4) jae)))) (jaa (jac 5) jae)))))))))))),jkq⟩)
theorem sc15:FnScope ["note"] ["note"] (jak j03):=scM
theorem jzx (F:Fun K "aged" "aged" j03 fa fd) (m:mg "aged"=some (.ref fa)) (b:Binds K fd ["note"] []):Has P w K mg base 1 "aged" ["note"] jq2:=Has.mk' F m b (Fun.okD F sc15 jzo λcdv A outer s H E hr=>⟨_,jx0,(jan (ja7 (jee (jaz jgu jhb (jaq (K:=K) (jac 0) (jag)) (jcq) (jar _)) (jac 0) (jbc (jaa (jaq (K:=K) (jac 0) (jag)) (jaa (jxd (jaq (K:=K) (jac 0) (jag)) (jag)) jae)))))),jxt⟩)
theorem sc16:FnScope ["stand"] ["stand"] (jak jgo):=scM
theorem jkf (F:Fun K "clock_moved" "clock_moved" jgo fa fd) (m:mg "clock_moved"=some (.ref fa)) (b:Binds K fd ["stand"] []) (h_aged:Has P w K mg base 1 "aged" ["note"] jq2) (z_tuple:mg "tuple"=none):Has P w K mg base 2 "clock_moved" ["stand"] jlb:=Has.mk' F m b (Fun.okD F sc16 jj6 λcdv A outer s H E hr=>⟨_,jeh,(jan (ja7 (jbc (jaa (jaq (K:=K) (jac 0) (jag)) (jaa (jbg (jau (K:=K)) jbi (by rfl) z_tuple jbk (jaa (DF.d (jd0 (N:=["note"]) (cl:=[]) (fr:=[none]) rfl ⟨by rfl,rfl,by decide +kernel,by decide +kernel,(λx c h=>nomatch h),jb6 [(".0",.local),("note",.local),("aged",.globalImplicit)] [] rfl rfl (by decide +kernel),rfl,(λj i h=>match j,h with | 0,h=>(by cases h) | (j+1),h=>(by have h2:(none:Option (Option Nat))=some (some i):=h;cases h2))⟩ (jdy (K:=K) (jaq (K:=K) (jac 0) (jag))) (λ_ _ _=>(jay (i:=0) (show(["note"]:List Str).Nodup by decide +kernel) rfl (Ap rfl))) (λ_ _ _=>(jkd (jaz jli jf0 (jaq (K:=K) (jac 0) (jag)) (jag) (jar _)))) (λ_ _ _=>(d_cM h_aged hr (jaa (jac 0) jae))) (jch 0))) jae)) jae))))),ji4⟩)
abbrev zqp1:List Str:=["programs","stand","mover"]
theorem sc17:FnScope ["programs","stand","mover","clock"] zqp1 (jak jvn):=scM
theorem jw1 (F:Fun K "after" "after" jvn fa fd) (m:mg "after"=some (.ref fa)) (b:Binds K fd zqp1 []) (h_clock_moved:Has P w K mg base 2 "clock_moved" ["stand"] jlb) (h_hand_moved:Has P w K mg base 5 "hand_moved" zqe jqz) (h_is_within:Has P w K mg base 2 "is_within" zqv1 jg6) (z_len:mg "len"=none):Has P w K mg base 6 "after" zqp1 jlc:=Has.mk' F m b (Fun.okD F sc17 jwk λcdv A outer s H E hr=>⟨_,jrz,(jah (jba (i:=3) sc17.nd rfl (Ap rfl) (jbd (ja2 (K:=K)) jbt (by rfl) z_len Bf (jaa (jac 0) jae))) (jah (s_if (j0d (jru (d_cM h_is_within hr (jaa (jac 2) (jaa (jac 3) jae))))) (jan (ja7 (jcq))) jbp) (jan (ja7 (jee (jaz (jbb (K:=K) hr.units0) ja4 (jac 2) (jac 3) (jar _)) (d_cM h_clock_moved hr (jaa (jac 1) jae)) (d_cM h_hand_moved hr (jaa (jac 0) (jaa (jac 1) (jaa (jac 2) jae))))))))),juf⟩)
abbrev zqo1:List Str:=["programs","stand","movers"]
theorem sc18:FnScope ["programs","stand","movers","place","mover"] zqo1 (jak jvm):=scM
theorem jw0 (F:Fun K "woven" "woven" jvm fa fd) (m:mg "woven"=some (.ref fa)) (b:Binds K fd zqo1 []) (h_after:Has P w K mg base 6 "after" zqp1 jlc) (z_enumerate:mg "enumerate"=none):Has P w K mg base 7 "woven" zqo1 jc0:=Has.mk' F m b (Fun.okD F sc18 jwi λcdv A outer s H E hr=>⟨_,jry,(jah (jdx (jwx (K:=K) (by rfl) z_enumerate (jac 2)) (jet (K:=K) (jbl (jay (i:=3) sc18.nd rfl (Ap rfl)) (jbl (jay (i:=4) sc18.nd rfl (Ap rfl)) jes))) (jah (jba (i:=1) sc18.nd rfl (Ap rfl) (d_cM h_after hr (jaa (jac 0) (jaa (jac 1) (jaa (jac 4) jae))))) (jan (s_if (jaz jgu jhb (jac 1) (jcq) (jar _)) j76 jbp)))) (jan (ja7 (jac 1)))),jue⟩)
theorem sc19:FnScope zqb zqb (jak jia):=scM
theorem jl0 (F:Fun K "_law_value" "_law_value" jia fa fd) (m:mg "_law_value"=some (.ref fa)) (b:Binds K fd zqb []) (jaf:Has P w K mg base 1 "_law_draw" zqc jav):Has P w K mg base 2 "_law_value" zqb jcm:=Has.mk' F m b (Fun.okD F sc19 jlo λcdv A outer s H E hr=>⟨_,jfj,(jan (ja7 (jaq (K:=K) (DF.d (jb9 (jaa (ja5) (jaa (jag) (jaa (ja5) (jaa (jag) (jaa (ja5) (jaa (ja5) (jaa (jag) (jaa (jag) jae)))))))))) (d_cM jaf hr (jaa (jac 0) (jaa (jag) jae)))))),jks⟩)
theorem sc20:FnScope zqb zqb (jak jjs):=scM
theorem joe (F:Fun K "_law_size" "_law_size" jjs fa fd) (m:mg "_law_size"=some (.ref fa)) (b:Binds K fd zqb []) (jaf:Has P w K mg base 1 "_law_draw" zqc jav):Has P w K mg base 2 "_law_size" zqb jf6:=Has.mk' F m b (Fun.okD F sc20 jn4 λcdv A outer s H E hr=>⟨_,jgj,(jan (ja7 (jaq (K:=K) (DF.d (jb9 (jaa (jag) (jaa (jag) (jaa (jag) (jaa (jag) (jaa (jag) (jaa (jag) (jaa (jag) jae))))))))) (d_cM jaf hr (jaa (jac 0) (jaa (jag) jae)))))),jmc⟩)
theorem sc21:FnScope zqb zqb (jak jms):=scM
theorem jqb (F:Fun K "_law_age" "_law_age" jms fa fd) (m:mg "_law_age"=some (.ref fa)) (b:Binds K fd zqb []) (jaf:Has P w K mg base 1 "_law_draw" zqc jav) (z_len:mg "len"=none):Has P w K mg base 2 "_law_age" zqb jmg:=Has.mk' F m b (Fun.okD F sc21 jpx λcdv A outer s H E hr=>⟨_,jh2,(jan (ja7 (jd4 (K:=K) (j7k (K:=K) (ix:=3) 0) (d_cM jaf hr (jaa (jac 0) (jaa (jbd (ja2 (K:=K)) jc2 (by rfl) z_len Bf (jaa (j7k (K:=K) (ix:=3) 0) jae)) jae)))))),joy⟩)
theorem sc22:FnScope zqz zqd (jak jf2):=scM
theorem jiy (F:Fun K "_law_pattern" "_law_pattern" jf2 fa fd) (m:mg "_law_pattern"=some (.ref fa)) (b:Binds K fd ["_law_tape_here","_law_known_here"] []) (jaf:Has P w K mg base 1 "_law_draw" ["_law_tape_here","_law_many"] jav) (jbw:Has P w K mg base 2 "_law_size" ["_law_tape_here"] jf6) (jaw:Has P w K mg base 2 "_law_value" ["_law_tape_here"] jcm) (z_len:mg "len"=none) (z_range:mg "range"=none) (z_tuple:mg "tuple"=none):Has P w K mg base 3 "_law_pattern" ["_law_tape_here","_law_known_here"] jqx:=Has.mk' F m b (Fun.okD F sc22 jiu λcdv A outer s H E hr=>⟨_,jdv,(jah (jfy (i:=2) sc22.nd rfl (Ap rfl) (jb9 jae)) (jah (jfy (i:=3) sc22.nd rfl (Ap rfl) (jb9 jae)) (jah (jdx (jb3 (by rfl) z_range (d_cM jbw hr (jaa (jac 0) jae))) (jay (i:=4) sc22.nd rfl (Ap rfl)) (jah (jba (i:=5) sc22.nd rfl (Ap rfl) (d_cM jaf hr (jaa (jac 0) (jaa (jag) jae)))) (jah (jba (i:=6) sc22.nd rfl (Ap rfl) (j83 (jac 1) (jij 3))) (jan (s_if (jaz jjz jjl (jac 5) (jag) (jar _)) (jan (jev (i:=2) rfl (jbc (jaa (ja5) (jaa (d_cM jaw hr (jaa (jac 0) jae)) jae))))) (jan (s_if (jaz jjz jjl (jac 5) (jag) (jar _)) (jan (jev (i:=2) rfl (jd4 (K:=K) (DF.d (jb9 (jaa (jbc (jaa (ja5) jae)) (jaa (jbc (jaa (ja5) jae)) (jaa (jbc (jaa (ja5) jae)) jae))))) (jxd (jac 5) (jag))))) (jan (s_if (DCW.cc (cw_or (jaz jjz jjl (jac 5) (jag) (jar _)) (cw_or1 (jaz (jbb (K:=K) hr.units0) jd6 (jac 6) (DF.d (jb9 jae)) (jar _))))) (jah (jba (i:=7) sc22.nd rfl (Ap rfl) (jd4 (K:=K) (DF.d (jb9 (jaa (ja5) (jaa (ja5) (jaa (ja5) (jaa (ja5) jae)))))) (d_cM jaf hr (jaa (jac 0) (jaa (jag) jae))))) (jah (jev (i:=3) rfl (jac 7)) (jan (jev (i:=2) rfl (jbc (jaa (ja5) (jaa (jac 7) jae))))))) (jan (jev (i:=2) rfl (jbc (jaa (ja5) (jaa (jd4 (K:=K) (jac 6) (d_cM jaf hr (jaa (jac 0) (jaa (jbd (ja2 (K:=K)) jc2 (by rfl) z_len Bf (jaa (jac 6) jae)) jae)))) jae)))))))))))))) (jfz 2 (jfz 3 (jan (ja7 (jbc (jaa (jbg (jau (K:=K)) jcn (by rfl) z_tuple jbk (jaa (jac 2) jae)) (jaa (jac 3) jae)))))))))),jhx⟩)
theorem sc23:FnScope zqr1 zqd (jak je1):=scM
theorem jhn (F:Fun K "_law_template" "_law_template" je1 fa fd) (m:mg "_law_template"=some (.ref fa)) (b:Binds K fd ["_law_tape_here","_law_known_here"] []) (jaf:Has P w K mg base 1 "_law_draw" ["_law_tape_here","_law_many"] jav) (jbw:Has P w K mg base 2 "_law_size" ["_law_tape_here"] jf6) (jaw:Has P w K mg base 2 "_law_value" ["_law_tape_here"] jcm) (z_len:mg "len"=none) (z_range:mg "range"=none) (z_tuple:mg "tuple"=none):Has P w K mg base 3 "_law_template" ["_law_tape_here","_law_known_here"] jqw:=Has.mk' F m b (Fun.okD F sc23 jhh λcdv A outer s H E hr=>⟨_,jdg,(jah (jfy (i:=2) sc23.nd rfl (Ap rfl) (jb9 jae)) (jah (jdx (jb3 (by rfl) z_range (d_cM jbw hr (jaa (jac 0) jae))) (jay (i:=3) sc23.nd rfl (Ap rfl)) (jah (jba (i:=4) sc23.nd rfl (Ap rfl) (d_cM jaf hr (jaa (jac 0) (jaa (jag) jae)))) (jan (s_if (DCW.cc (cw_or (jaz jjz jjl (jac 4) (jag) (jar _)) (cw_or1 (jaz (jbb (K:=K) hr.units0) jd6 (jac 1) (DF.d (jb9 jae)) (jar _))))) (jan (jev (i:=2) rfl (jbc (jaa (ja5) (jaa (d_cM jaw hr (jaa (jac 0) jae)) jae))))) (jan (jev (i:=2) rfl (jbc (jaa (jd4 (K:=K) (DF.d (jb9 (jaa (ja5) (jaa (ja5) (jaa (ja5) jae))))) (jxd (jac 4) (jag))) (jaa (jd4 (K:=K) (jac 1) (d_cM jaf hr (jaa (jac 0) (jaa (jbd (ja2 (K:=K)) jc2 (by rfl) z_len Bf (jaa (jac 1) jae)) jae)))) jae))))))))) (jfz 2 (jan (ja7 (jbg (jau (K:=K)) jcn (by rfl) z_tuple jbk (jaa (jac 2) jae))))))),jg4⟩)
theorem sc24:FnScope zqd zqd (jak jjr):=scM
theorem jod (F:Fun K "_law_term" "_law_term" jjr fa fd) (m:mg "_law_term"=some (.ref fa)) (b:Binds K fd ["_law_tape_here","_law_known_here"] []) (jaf:Has P w K mg base 1 "_law_draw" ["_law_tape_here","_law_many"] jav) (jaw:Has P w K mg base 2 "_law_value" ["_law_tape_here"] jcm) (z_len:mg "len"=none):Has P w K mg base 3 "_law_term" ["_law_tape_here","_law_known_here"] jh4:=Has.mk' F m b (Fun.okD F sc24 jn3 λcdv A outer s H E hr=>⟨_,jgi,(jah (s_if (DCW.cc (cw_or (jaz (jbb (K:=K) hr.units0) jd6 (jac 1) (DF.d (jb9 jae)) (jar _)) (cw_or1 (jaz (jbb (K:=K) hr.units0) jd6 (d_cM jaf hr (jaa (jac 0) (jaa (jag) jae))) (jag) (jar _))))) (jan (ja7 (jbc (jaa (ja5) (jaa (d_cM jaw hr (jaa (jac 0) jae)) jae))))) jbp) (jan (ja7 (jbc (jaa (ja5) (jaa (jd4 (K:=K) (jac 1) (d_cM jaf hr (jaa (jac 0) (jaa (jbd (ja2 (K:=K)) jc2 (by rfl) z_len Bf (jaa (jac 1) jae)) jae)))) jae)))))),jmb⟩)
abbrev zql:List Str:=["_law_tape_here","_law_known_here","_law_open_ones"]
theorem sc25:FnScope zqy zql (jak jmt):=scM
theorem jqc (F:Fun K "_law_act" "_law_act" jmt fa fd) (m:mg "_law_act"=some (.ref fa)) (b:Binds K fd zql []) (jb4:Has P w K mg base 2 "_law_age" zqb jmg) (jaf:Has P w K mg base 1 "_law_draw" zqc jav) (jds:Has P w K mg base 3 "_law_pattern" zqd jqx) (jdb:Has P w K mg base 3 "_law_template" zqd jqw) (jd8:Has P w K mg base 3 "_law_term" zqd jh4) (z_len:mg "len"=none):Has P w K mg base 4 "_law_act" zql jk8:=Has.mk' F m b (Fun.okD F sc25 jpy λcdv A outer s H E hr=>⟨_,jh3,(jah (jba (i:=3) sc25.nd rfl (Ap rfl) (d_cM jaf hr (jaa (jac 0) (jaa (jag) jae)))) (jah (s_if (jaz jjz jjl (jac 3) (jag) (jar _)) (jan (ja7 (jbc (jaa (jbc (jaa (ja5) (jaa (d_cM jdb hr (jaa (jac 0) (jaa (jac 1) jae))) (jaa (d_cM jb4 hr (jaa (jac 0) jae)) jae)))) (jaa (DF.d (jb9 jae)) jae))))) jbp) (jah (jba (i:=4) sc25.nd rfl (Ap rfl) (jd4 (K:=K) (jac 2) (d_cM jaf hr (jaa (jac 0) (jaa (jbd (ja2 (K:=K)) jc2 (by rfl) z_len Bf (jaa (jac 2) jae)) jae))))) (jah (s_if (jaz (jbb (K:=K) hr.units0) jd6 (jac 3) (jag) (jar _)) (jan (ja7 (jbc (jaa (jbc (jaa (ja5) (jaa (d_cM jd8 hr (jaa (jac 0) (jaa (jac 1) jae))) (jaa (d_cM jd8 hr (jaa (jac 0) (jaa (jac 1) jae))) (jaa (jac 4) jae))))) (jaa (DF.d (jb9 jae)) jae))))) jbp) (jah (s_if (jaz (jbb (K:=K) hr.units0) jd6 (jac 3) (jag) (jar _)) (jan (ja7 (jbc (jaa (jbc (jaa (ja5) (jaa (jac 4) jae))) (jaa (DF.d (jb9 jae)) jae))))) jbp) (jah (jto (d_cM jds hr (jaa (jac 0) (jaa (jac 1) jae))) (jet (K:=K) (jbl (jay (i:=5) sc25.nd rfl (Ap rfl)) (jbl (jay (i:=6) sc25.nd rfl (Ap rfl)) jes)))) (jah (s_if (jaz jsq jsb (jac 3) (jag) (jar _)) (jan (ja7 (jbc (jaa (jbc (jaa (ja5) (jaa (jac 5) (jaa (jac 4) jae)))) (jaa (jac 6) jae))))) jbp) (jan (ja7 (jbc (jaa (jbc (jaa (jd4 (K:=K) (DF.d (jb9 (jaa (ja5) (jaa (ja5) (jaa (ja5) (jaa (ja5) jae)))))) (jxd (jac 3) (jag))) (jaa (jac 5) jae))) (jaa (jac 6) jae)))))))))))),joz⟩)
theorem sc26:FnScope zqi zqb (jak jf1):=scM
theorem jix (F:Fun K "_law_program" "_law_program" jf1 fa fd) (m:mg "_law_program"=some (.ref fa)) (b:Binds K fd zqb []) (jhr:Has P w K mg base 4 "_law_act" zql jk8) (jaf:Has P w K mg base 1 "_law_draw" zqc jav) (z_len:mg "len"=none) (z_list:mg "list"=none) (z_range:mg "range"=none) (z_tuple:mg "tuple"=none):Has P w K mg base 5 "_law_program" zqb jqt:=Has.mk' F m b (Fun.okD F sc26 jit λcdv A outer s H E hr=>⟨_,jdu,(jah (jfy (i:=1) sc26.nd rfl (Bw rfl) (jb9 (jaa (jbc jae) jae))) (jah (jdx (jb3 (by rfl) z_range (jd4 (K:=K) (DF.d (jb9 (jaa (jag) (jaa (jag) (jaa (jag) (jaa (jag) (jaa (jag) (jaa (jag) (jaa (jag) jae))))))))) (d_cM jaf hr (jaa (jac 0) (jaa (jag) jae))))) (jay (i:=2) sc26.nd rfl (Ap rfl)) (jan (jev (i:=1) rfl (jd4 (K:=K) (DF.d (jb9 (jaa (jbc jae) (jaa (jbc (jaa (ja5) jae)) (jaa (jbc (jaa (ja5) (jaa (ja5) jae))) (jaa (jbc (jaa (ja5) jae)) (jaa (jbc jae) jae))))))) (d_cM jaf hr (jaa (jac 0) (jaa (jag) jae))))))) (jah (jfy (i:=3) sc26.nd rfl (Ap rfl) (jb9 jae)) (jfz 1 (jah (jdx (jrl (K:=K) (jac 1)) (jay (i:=4) sc26.nd rfl (Ap rfl)) (jah (jfy (i:=5) sc26.nd rfl (Bw rfl) (joj (K:=K) (by rfl) z_list (jac 4))) (jah (jfy (i:=6) sc26.nd rfl (Ap rfl) (jb9 jae)) (jah (jdx (jb3 (by rfl) z_range (jd4 (K:=K) (DF.d (jb9 (jaa (jag) (jaa (jag) (jaa (jag) (jaa (jag) (jaa (jag) (jaa (jag) (jaa (jag) (jaa (jag) jae)))))))))) (d_cM jaf hr (jaa (jac 0) (jaa (jag) jae))))) (jay (i:=2) sc26.nd rfl (Ap rfl)) (jah (j5d (i:=8) (N:=["_law_b","_law_known_here","_law_wants"]) (cl:=[("_law_wants",s.heap.objs.size+1),("_law_known_here",s.heap.objs.size+2)]) (fr:=[none,some 5,some 1]) sc26.nd rfl rfl rfl ⟨by rfl,rfl,by decide +kernel,by decide +kernel,(jhe (by intro y hy;simp only[As,Aw,or_false]at hy;rcases hy with rfl | rfl<;>rfl)),jb6 [(".0",.local),("_law_b",.local),("_law_known_here",.cell),("_law_wants",.cell)] ["_law_wants","_law_known_here"] rfl rfl (by decide +kernel),rfl,(λj i h=>match j,h with | 0,h=>(by cases h) | 1,h=>(by cases(Ax (Ax h)).symm;exact⟨"_law_known_here",rfl,rfl,Bw (Ap rfl),Ap rfl,Ap rfl,rfl⟩) | 2,h=>(by cases(Ax (Ax h)).symm;exact⟨"_law_wants",rfl,rfl,Bw (Ap rfl),Ap rfl,Ap rfl,rfl⟩) | (j+3),h=>(by have h2:(none:Option (Option Nat))=some (some i):=h;cases h2))⟩ (jb3 (by rfl) z_range (jbd (ja2 (K:=K)) jc2 (by rfl) z_len Bf (jaa (jac 1) jae))) (λ_ _ _=>(jay (i:=0) (show(["_law_b","_law_known_here","_law_wants"]:List Str).Nodup by decide +kernel) rfl (Ap rfl))) (λ_ _ _=>(jkd (jaz (jbb (K:=K) hr.units0) jd6 (DF.d (jd0 (N:=["_law_name","_law_known_here"]) (cl:=[("_law_known_here",s.heap.objs.size+2)]) (fr:=[none,some 1]) rfl ⟨by rfl,rfl,by decide +kernel,by decide +kernel,(jhe (by intro y hy;simp only[As,Aw,or_false]at hy;rcases hy with rfl<;>rfl)),jb6 [(".0",.local),("_law_name",.local),("_law_known_here",.cell)] ["_law_known_here"] rfl rfl (by decide +kernel),rfl,(λj i h=>match j,h with | 0,h=>(by cases h) | 1,h=>(by cases(Ax (Ax h)).symm;exact⟨"_law_known_here",rfl,rfl,Bw (Ap rfl),Ap rfl,Ap rfl,rfl⟩) | (j+2),h=>(by have h2:(none:Option (Option Nat))=some (some i):=h;cases h2))⟩ (jdy (K:=K) (jd4 (K:=K) (jac 2) (jac 0))) (λ_ _ _=>(jay (i:=0) (show(["_law_name","_law_known_here"]:List Str).Nodup by decide +kernel) rfl (Ap rfl))) (λ_ _ _=>(jkd (jaz (je5 (K:=K)) jvb (jac 0) (jac 1) (by with_unfolding_all rfl)))) (λ_ _ _=>(jac 0)) (jch 0))) (DF.d (jb9 jae)) (jar _)))) (λ_ _ _=>(jac 0)) (jch 0)) (jah (jto (d_cM jhr hr (jaa (jac 0) (jaa (jij 5) (jaa (jac 8) jae)))) (jet (K:=K) (jbl (jay (i:=9) sc26.nd rfl (Ap rfl)) (jbl (jay (i:=10) sc26.nd rfl (Ap rfl)) jes)))) (jah (jev (i:=6) rfl (jac 9)) (jan (jdx (jrl (K:=K) (jac 10)) (jay (i:=7) sc26.nd rfl (Ap rfl)) (jan (s_if (jaz (je5 (K:=K)) jvb (jac 7) (jij 5) (by with_unfolding_all rfl)) (jan (jev (i:=5) rfl (jac 7))) jbp)))))))) (jfz 6 (jan (jev (i:=3) rfl (jbc (jaa (jac 4) (jaa (jbg (jau (K:=K)) jcn (by rfl) z_tuple jbk (jaa (jac 6) jae)) jae)))))))))) (jfz 3 (jan (ja7 (jbg (jau (K:=K)) jcn (by rfl) z_tuple jbk (jaa (jac 3) jae)))))))))),jhw⟩)
abbrev zqb1:List Str:=["_law_tape_here","_law_most"]
theorem sc27:FnScope zqw1 zqb1 (jak jic):=scM
theorem jl2 (F:Fun K "_law_notes" "_law_notes" jic fa fd) (m:mg "_law_notes"=some (.ref fa)) (b:Binds K fd zqb1 []) (jb4:Has P w K mg base 2 "_law_age" zqb jmg) (jaf:Has P w K mg base 1 "_law_draw" zqc jav) (jbw:Has P w K mg base 2 "_law_size" zqb jf6) (jaw:Has P w K mg base 2 "_law_value" zqb jcm) (z_range:mg "range"=none) (z_tuple:mg "tuple"=none):Has P w K mg base 3 "_law_notes" zqb1 jfp:=Has.mk' F m b (Fun.okD F sc27 jlq λcdv A outer s H E hr=>⟨_,jfl,(jah (jfy (i:=2) sc27.nd rfl (Ap rfl) (jb9 jae)) (jah (jdx (jb3 (by rfl) z_range (d_cM jaf hr (jaa (jac 0) (jaa (jdo (jac 1) (jag)) jae)))) (jay (i:=3) sc27.nd rfl (Ap rfl)) (jah (jba (i:=4) sc27.nd rfl (Ap rfl) (jbg (jau (K:=K)) jcn (by rfl) z_tuple jbk (jaa (DF.d (jd0 (N:=["_law_j","_law_tape_here"]) (cl:=[("_law_tape_here",s.heap.objs.size+1)]) (fr:=[none,some 0]) rfl ⟨by rfl,rfl,by decide +kernel,by decide +kernel,(λx c h=>h),jb6 [(".0",.local),("_law_j",.local),("_law_value",.globalImplicit),("_law_tape_here",.cell)] zqb rfl rfl (by decide +kernel),rfl,(λj i h=>match j,h with | 0,h=>(by cases h) | 1,h=>(by cases(Ax (Ax h)).symm;exact⟨"_law_tape_here",rfl,rfl,Bw (Ap rfl),Ap rfl,Ap rfl,rfl⟩) | (j+2),h=>(by have h2:(none:Option (Option Nat))=some (some i):=h;cases h2))⟩ (jb3 (by rfl) z_range (d_cM jbw hr (jaa (jac 0) jae))) (λ_ _ _=>(jay (i:=0) (show(["_law_j","_law_tape_here"]:List Str).Nodup by decide +kernel) rfl (Ap rfl))) (λ_ _ _=>jm5) (λ_ _ _=>(d_cM jaw hr (jaa (jac 1) jae))) (jch 0))) jae))) (jan (jev (i:=2) rfl (jbc (jaa (jac 4) (jaa (d_cM jb4 hr (jaa (jac 0) jae)) jae))))))) (jfz 2 (jan (ja7 (jbg (jau (K:=K)) jcn (by rfl) z_tuple jbk (jaa (jac 2) jae))))))),jku⟩)
theorem sc28:FnScope zqk zqb (jak jjt):=scM
theorem jof (F:Fun K "_law_plan" "_law_plan" jjt fa fd) (m:mg "_law_plan"=some (.ref fa)) (b:Binds K fd ["_law_tape_here"] []) (jaf:Has P w K mg base 1 "_law_draw" ["_law_tape_here","_law_many"] jav) (jcd:Has P w K mg base 3 "_law_notes" ["_law_tape_here","_law_most"] jfp) (jdr:Has P w K mg base 5 "_law_program" ["_law_tape_here"] jqt) (z_len:mg "len"=none) (z_range:mg "range"=none) (z_tuple:mg "tuple"=none):Has P w K mg base 6 "_law_plan" ["_law_tape_here"] jqu:=Has.mk' F m b (Fun.okD F sc28 jn5 λcdv A outer s H E hr=>⟨_,jgk,(jah (j5g (i:=1) (N:=["_law_k","_law_tape_here"]) (cl:=[("_law_tape_here",s.heap.objs.size+1)]) (fr:=[none,some 0]) sc28.nd rfl rfl rfl ⟨by rfl,rfl,by decide +kernel,by decide +kernel,(λx c h=>h),jb6 [(".0",.local),("_law_k",.local),("_law_program",.globalImplicit),("_law_tape_here",.cell)] ["_law_tape_here"] rfl rfl (by decide +kernel),rfl,(λj i h=>match j,h with | 0,h=>(by cases h) | 1,h=>(by cases(Ax (Ax h)).symm;exact⟨"_law_tape_here",rfl,rfl,Bw (Ap rfl),Ap rfl,Ap rfl,rfl⟩) | (j+2),h=>(by have h2:(none:Option (Option Nat))=some (some i):=h;cases h2))⟩ (jb3 (by rfl) z_range (jd4 (K:=K) (DF.d (jb9 (jaa (jag) (jaa (jag) (jaa (jag) (jaa (jag) (jaa (jag) (jaa (jag) (jaa (jag) (jaa (jag) jae)))))))))) (d_cM jaf hr (jaa (jac 0) (jaa (jag) jae))))) (λ_ _ _=>(jay (i:=0) (show(["_law_k","_law_tape_here"]:List Str).Nodup by decide +kernel) rfl (Ap rfl))) (λ_ _ _=>jm5) (λ_ _ _=>(d_cM jdr hr (jaa (jac 1) jae))) (jch 0)) (jah (s_if (DCW.cc (cw_and (jaz (jbb (K:=K) hr.units0) jd6 (jbd (ja2 (K:=K)) jc2 (by rfl) z_len Bf (jaa (jij 1) jae)) (jag) (jar _)) (cw_and1 (jaz (jbb (K:=K) hr.units0) jd6 (d_cM jaf hr (jaa (jac 0) (jaa (jag) jae))) (jag) (jar _))))) (jan (j79 (i:=1) rfl (jag) (jd4 (K:=K) (jij 1) (jag)))) jbp) (jfz 1 (jan (ja7 (jbc (jaa (jbg (jau (K:=K)) jcn (by rfl) z_tuple jbk (jaa (jac 1) jae)) (jaa (d_cM jcd hr (jaa (jac 0) (jaa (jd4 (K:=K) (DF.d (jb9 (jaa (jag) (jaa (jag) (jaa (jag) (jaa (jag) jae)))))) (d_cM jaf hr (jaa (jac 0) (jaa (jag) jae)))) jae))) jae)))))))),jmd⟩)
abbrev zqs:List Str:=["_law_program_here","_law_block","_law_place"]
theorem sc29:FnScope zqq1 zqs (jak jie):=scM
theorem jl4 (F:Fun K "_law_known" "_law_known" jie fa fd) (m:mg "_law_known"=some (.ref fa)) (b:Binds K fd zqs []) (z_list:mg "list"=none) (z_set:mg "set"=none) (z_sorted:mg "sorted"=none):Has P w K mg base 1 "_law_known" zqs jg8:=Has.mk' F m b (Fun.okD F sc29 jls λcdv A outer s H E hr=>⟨_,jfn,(jah (jfy (i:=3) sc29.nd rfl (Ap rfl) (joj (K:=K) (by rfl) z_list (jaq (K:=K) (jaq (K:=K) (jac 0) (jac 1)) (jag)))) (jah (jdx (jdy (K:=K) (jed (K:=K) (jaq (K:=K) (jaq (K:=K) (jac 0) (jac 1)) (jag)) jeo (jen (jac 2)))) (jay (i:=4) sc29.nd rfl (Ap rfl)) (jan (s_if (jaz (jig (K:=K)) jel (jaq (K:=K) (jac 4) (jag)) (jbc (jaa (ja5) (jaa (ja5) (jaa (ja5) jae)))) (by with_unfolding_all rfl)) (jan (j8b (i:=3) rfl (DF.d (jd0 (N:=["_law_field"]) (cl:=[]) (fr:=[none]) rfl ⟨by rfl,rfl,by decide +kernel,by decide +kernel,(λx c h=>nomatch h),jb6 [(".0",.local),("_law_field",.local)] [] rfl rfl (by decide +kernel),rfl,(λj i h=>match j,h with | 0,h=>(by cases h) | (j+1),h=>(by have h2:(none:Option (Option Nat))=some (some i):=h;cases h2))⟩ (jdy (K:=K) (jaq (K:=K) (jac 4) (jag))) (λ_ _ _=>(jay (i:=0) (show(["_law_field"]:List Str).Nodup by decide +kernel) rfl (Ap rfl))) (λ_ _ _=>(jkd (jaz (jbb (K:=K) hr.units0) ja4 (jaq (K:=K) (jac 0) (jag)) (ja5) (jar _)))) (λ_ _ _=>(jaq (K:=K) (jac 0) (jag))) (jch 0))))) jbp))) (jfz 3 (jan (ja7 (DF.d (jw5 (W:=w) hr.hd (by rfl) z_sorted (by rfl) z_set (jac 3)))))))),jkw⟩)
theorem sc30:FnScope zqa1 zqk (jak jib):=scM
theorem jl1 (F:Fun K "_law_stand" "_law_stand" jib fa fd) (m:mg "_law_stand"=some (.ref fa)) (b:Binds K fd zqk []) (jaf:Has P w K mg base 1 "_law_draw" zqc jav) (je9:Has P w K mg base 1 "_law_known" zqs jg8) (jcd:Has P w K mg base 3 "_law_notes" zqb1 jfp) (jaw:Has P w K mg base 2 "_law_value" zqb jcm) (z_len:mg "len"=none) (z_tuple:mg "tuple"=none):Has P w K mg base 4 "_law_stand" zqk jk5:=Has.mk' F m b (Fun.okD F sc30 jlp λcdv A outer s H E hr=>⟨_,jfk,(jah (jfy (i:=2) sc30.nd rfl (Ap rfl) (jb9 jae)) (jah (jdx (jdy (K:=K) (jac 1)) (jay (i:=3) sc30.nd rfl (Ap rfl)) (jah (jba (i:=4) sc30.nd rfl (Ap rfl) (d_cM jaf hr (jaa (jac 0) (jaa (jbd (ja2 (K:=K)) jbt (by rfl) z_len Bf (jaa (jac 3) jae)) jae)))) (jah (jba (i:=5) sc30.nd rfl (Ap rfl) (d_cM jaf hr (jaa (jac 0) (jaa (jdo (jbd (ja2 (K:=K)) jbt (by rfl) z_len Bf (jaa (jaq (K:=K) (jaq (K:=K) (jac 3) (jac 4)) (jag)) jae)) (jag)) jae)))) (jah (jba (i:=6) sc30.nd rfl (Ap rfl) (jbg (jau (K:=K)) jbi (by rfl) z_tuple jbk (jaa (DF.d (jd0 (N:=["_law_name","_law_tape_here"]) (cl:=[("_law_tape_here",s.heap.objs.size+1)]) (fr:=[none,some 0]) rfl ⟨by rfl,rfl,by decide +kernel,by decide +kernel,(λx c h=>h),jb6 [(".0",.local),("_law_name",.local),("_law_value",.globalImplicit),("_law_tape_here",.cell)] zqb rfl rfl (by decide +kernel),rfl,(λj i h=>match j,h with | 0,h=>(by cases h) | 1,h=>(by cases(Ax (Ax h)).symm;exact⟨"_law_tape_here",rfl,rfl,Bw (Ap rfl),Ap rfl,Ap rfl,rfl⟩) | (j+2),h=>(by have h2:(none:Option (Option Nat))=some (some i):=h;cases h2))⟩ (jrl (K:=K) (d_cM je9 hr (jaa (jac 3) (jaa (jac 4) (jaa (jac 5) jae))))) (λ_ _ _=>(jay (i:=0) (show(["_law_name","_law_tape_here"]:List Str).Nodup by decide +kernel) rfl (Ap rfl))) (λ_ _ _=>jm5) (λ_ _ _=>(jbc (jaa (jac 0) (jaa (d_cM jaw hr (jaa (jac 1) jae)) jae)))) (jch 0))) jae))) (jan (jev (i:=2) rfl (jbc (jaa (jac 4) (jaa (jac 5) (jaa (jac 6) jae)))))))))) (jfz 2 (jan (ja7 (jbc (jaa (jbg (jau (K:=K)) jbi (by rfl) z_tuple jbk (jaa (jac 2) jae)) (jaa (d_cM jcd hr (jaa (jac 0) (jaa (jag) jae))) jae)))))))),jkt⟩)
abbrev zqu:List Str:=["_law_pattern_here","_law_row","_law_names"]
theorem sc31:FnScope zqv zqu (jak jmq):=scM
theorem jp9 (F:Fun K "_law_fit" "_law_fit" jmq fa fd) (m:mg "_law_fit"=some (.ref fa)) (b:Binds K fd ["_law_pattern_here","_law_row","_law_names"] []) (z_dict:mg "dict"=none) (z_isinstance:mg "isinstance"=none) (z_len:mg "len"=none) (z_str:mg "str"=none) (z_zip:mg "zip"=none):Has P w K mg base 1 "_law_fit" ["_law_pattern_here","_law_row","_law_names"] jqy:=Has.mk' F m b (Fun.okD F sc31 jpv λcdv A outer s H E hr=>⟨_,jfx,(jah (s_if (jaz jli jf0 (jbd (ja2 (K:=K)) jbt (by rfl) z_len Bf (jaa (jac 0) jae)) (jbd (ja2 (K:=K)) jbt (by rfl) z_len Bf (jaa (jac 1) jae)) (jar _)) (jan (ja7 (jcq))) jbp) (jah (jjo (i:=3) sc31.nd rfl (Ap rfl) (jj9 hr.hd (by rfl) z_dict (jac 2))) (jah (jfy (i:=4) sc31.nd rfl (Ap rfl) (jb9 jae)) (jah (jdx (j64 (K:=K) (by rfl) z_zip (jac 0) (jac 1)) (jet (K:=K) (jbl (jay (i:=5) sc31.nd rfl (Ap rfl)) (jbl (jay (i:=6) sc31.nd rfl (Ap rfl)) jes))) (jah (jba (i:=7) sc31.nd rfl (Ap rfl) (jaq (K:=K) (jac 5) (jag))) (jah (jba (i:=8) sc31.nd rfl (Ap rfl) (d_bl)) (jah (s_if (jaz (jbb (K:=K) hr.units0) ja4 (jac 7) (ja5) (jar _)) (jan (jba (i:=8) sc31.nd rfl (Ap rfl) (jl6 (jbb (K:=K) hr.units0) ja4 (jaq (K:=K) (jac 5) (jag)) (jac 6) (jar _)))) (jan (s_if (jaz (jig (K:=K)) jel (jac 7) (jbc (jaa (ja5) (jaa (ja5) jae))) (by with_unfolding_all rfl)) (jan (jba (i:=8) sc31.nd rfl (Ap rfl) (jl6 (jbb (K:=K) hr.units0) ja4 (jkm (K:=K) (T:="str") (.inr (.inr (.inl rfl))) (by rfl) z_isinstance (by rfl) z_str jtc (jac 6)) (jl6 (jbb (K:=K) hr.units0) ja4 (jac 7) (ja5) (jar _)) (jar _)))) (jan (s_if (DCW.cc (cw_or (jaz (jbb (K:=K) hr.units0) ja4 (jac 7) (ja5) (jar _)) (cw_or1 (DCW.cc (cw_and (jaz (jbb (K:=K) hr.units0) ja4 (jac 7) (ja5) (jar _)) (cw_and1 (j4g (K:=K) 4 (jaq (K:=K) (jac 5) (jag))))))))) (jan (jba (i:=8) sc31.nd rfl (Ap rfl) (jz4 (j7p hr.units (jaq (K:=K) (jac 5) (jag)) (jc1 3)) (jt7 (jl6 (jbb (K:=K) hr.units0) ja4 (jik hr.units (jc1 3) (jaq (K:=K) (jac 5) (jag))) (jac 6) (jar _)))))) (jan (s_if (jaz (jbb (K:=K) hr.units0) ja4 (jac 7) (ja5) (jar _)) (jah (jsf (i:=3) hr.units rfl (jaq (K:=K) (jac 5) (jag)) (jac 6)) (jan (jev (i:=4) rfl (jaq (K:=K) (jac 5) (jag))))) jbp))))))) (jan (s_if (j0d (jru (jac 8))) (jan (ja7 (jcq))) jbp)))))) (jfz 3 (jan (ja7 (jac 3)))))))),jow⟩)
abbrev zqa:List Str:=["_law_programs","_law_stand_here","_law_hand"]
theorem sc32:FnScope zqe1 zqa (jak je2):=scM
theorem jho (F:Fun K "_law_next_act" "_law_next_act" je2 fa fd) (m:mg "_law_next_act"=some (.ref fa)) (b:Binds K fd zqa []) (z_len:mg "len"=none):Has P w K mg base 1 "_law_next_act" zqa jck:=Has.mk' F m b (Fun.okD F sc32 jhi λcdv A outer s H E hr=>⟨_,jdh,(jah (jto (jaq (K:=K) (jaq (K:=K) (jac 1) (jag)) (jac 2)) (jet (K:=K) (jbl (jay (i:=3) sc32.nd rfl (Ap rfl)) (jbl (jay (i:=4) sc32.nd rfl (Ap rfl)) (jbl (jay (i:=5) sc32.nd rfl (Ap rfl)) jes))))) (jah (jba (i:=6) sc32.nd rfl (Ap rfl) (jaq (K:=K) (jaq (K:=K) (jaq (K:=K) (jac 0) (jac 2)) (jac 3)) (jag))) (jan (ja7 (jee (jaz jjz jjl (jac 4) (jbd (ja2 (K:=K)) jbt (by rfl) z_len Bf (jaa (jac 6) jae)) (jar _)) (jaq (K:=K) (jac 6) (jac 4)) (jcq)))))),jg5⟩)
theorem sc33:FnScope zqm1 zqa (jak jmp):=scM
theorem jp8 (F:Fun K "_law_got" "_law_got" jmp fa fd) (m:mg "_law_got"=some (.ref fa)) (b:Binds K fd ["_law_programs","_law_stand_here","_law_hand"] []) (jhp:Has P w K mg base 1 "_law_fit" ["_law_pattern_here","_law_row","_law_names"] jqy) (ja1:Has P w K mg base 1 "_law_next_act" ["_law_programs","_law_stand_here","_law_hand"] jck) (z_len:mg "len"=none) (z_range:mg "range"=none):Has P w K mg base 2 "_law_got" ["_law_programs","_law_stand_here","_law_hand"] jr0:=Has.mk' F m b (Fun.okD F sc33 jpu λcdv A outer s H E hr=>⟨_,jh0,(jah (jba (i:=3) sc33.nd rfl (Ap rfl) (d_cM ja1 hr (jaa (jac 0) (jaa (jac 1) (jaa (jac 2) jae))))) (jah (s_if (DCW.cc (cw_or (jaz jgu jno (jac 3) (jcq) (jar _)) (cw_or1 (jaz (je5 (K:=K)) jel (jaq (K:=K) (jac 3) (jag)) (jbc (jaa (ja5) (jaa (ja5) (jaa (ja5) jae)))) (by with_unfolding_all rfl))))) (jan (ja7 (jcq))) jbp) (jah (jdx (jb3 (by rfl) z_range (jbd (ja2 (K:=K)) jbt (by rfl) z_len Bf (jaa (jaq (K:=K) (jac 1) (jag)) jae))) (jay (i:=4) sc33.nd rfl (Ap rfl)) (jah (jba (i:=5) sc33.nd rfl (Ap rfl) (d_cM jhp hr (jaa (jaq (K:=K) (jac 3) (jag)) (jaa (jaq (K:=K) (jaq (K:=K) (jaq (K:=K) (jac 1) (jag)) (jac 4)) (jag)) (jaa (jaq (K:=K) (jaq (K:=K) (jaq (K:=K) (jac 1) (jag)) (jac 2)) (jag)) jae))))) (jan (s_if (jaz jnw jsa (jac 5) (jcq) (jar _)) (jan (ja7 (j34 (jac 4) (jac 5)))) jbp)))) (jan (ja7 (jcq)))))),jov⟩)
theorem sc34:FnScope zqx1 zqa (jak jmr):=scM
theorem jqa (F:Fun K "_law_can" "_law_can" jmr fa fd) (m:mg "_law_can"=some (.ref fa)) (b:Binds K fd zqa []) (jc5:Has P w K mg base 2 "_law_got" zqa jr0) (ja1:Has P w K mg base 1 "_law_next_act" zqa jck):Has P w K mg base 3 "_law_can" zqa jdi:=Has.mk' F m b (Fun.okD F sc34 jpw λcdv A outer s H E hr=>⟨_,jh1,(jah (jba (i:=3) sc34.nd rfl (Ap rfl) (d_cM ja1 hr (jaa (jac 0) (jaa (jac 1) (jaa (jac 2) jae))))) (jah (s_if (jaz jgu jno (jac 3) (jcq) (jar _)) (jan (ja7 (d_bl))) jbp) (jan (ja7 (d_or (jl6 (je5 (K:=K)) jel (jaq (K:=K) (jac 3) (jag)) (jbc (jaa (ja5) (jaa (ja5) jae))) (by with_unfolding_all rfl)) (jt7 (jl6 jnw jsa (d_cM jc5 hr (jaa (jac 0) (jaa (jac 1) (jaa (jac 2) jae)))) (jcq) (jar _)))))))),jox⟩)
abbrev zqj1:List Str:=["_law_template_here","_law_has"]
theorem sc35:FnScope zqk1 zqj1 (jak jgq):=scM
theorem jkh (F:Fun K "_law_filled" "_law_filled" jgq fa fd) (m:mg "_law_filled"=some (.ref fa)) (b:Binds K fd ["_law_template_here","_law_has"] []) (z_isinstance:mg "isinstance"=none) (z_str:mg "str"=none) (z_tuple:mg "tuple"=none):Has P w K mg base 1 "_law_filled" ["_law_template_here","_law_has"] jfq:=Has.mk' F m b (Fun.okD F sc35 jj8 λcdv A outer s H E hr=>⟨_,jej,(jah (jfy (i:=2) sc35.nd rfl (Ap rfl) (jb9 jae)) (jah (jdx (jdy (K:=K) (jac 0)) (jet (K:=K) (jbl (jay (i:=3) sc35.nd rfl (Ap rfl)) (jbl (jay (i:=4) sc35.nd rfl (Ap rfl)) jes))) (jah (jba (i:=5) sc35.nd rfl (Ap rfl) (jee (jaz (jbb (K:=K) hr.units0) ja4 (jac 3) (ja5) (jar _)) (jac 4) (jik hr.units (jc1 1) (jac 4)))) (jah (s_if (DCW.cc (cw_and (jaz (jbb (K:=K) hr.units0) ja4 (jac 3) (ja5) (jar _)) (cw_and1 (j0d (jru (jkm (K:=K) (T:="str") (.inr (.inr (.inl rfl))) (by rfl) z_isinstance (by rfl) z_str jtc (jac 5))))))) (jan (jba (i:=5) sc35.nd rfl (Ap rfl) (j81 (jdo (jac 5) (jag)) (jag)))) jbp) (jan (jev (i:=2) rfl (jac 5)))))) (jfz 2 (jan (ja7 (jbg (jau (K:=K)) jbi (by rfl) z_tuple jbk (jaa (jac 2) jae))))))),ji6⟩)
abbrev zqr:List Str:=["_law_program_here","_law_names","_law_block"]
theorem sc36:FnScope zqa2 zqr (jak je0):=scM
theorem jhm (F:Fun K "_law_to_block" "_law_to_block" je0 fa fd) (m:mg "_law_to_block"=some (.ref fa)) (b:Binds K fd zqr []) (z_dict:mg "dict"=none) (z_tuple:mg "tuple"=none):Has P w K mg base 1 "_law_to_block" zqr jg9:=Has.mk' F m b (Fun.okD F sc36 jhg λcdv A outer s H E hr=>⟨_,jdf,(jah (jjo (i:=3) sc36.nd rfl (Bw rfl) (jj9 hr.hd (by rfl) z_dict (jac 1))) (jan (ja7 (jbc (jaa (jac 2) (jaa (jag) (jaa (jbg (jau (K:=K)) jbi (by rfl) z_tuple jbk (jaa (DF.d (jd0 (N:=["_law_name","_law_has"]) (cl:=[("_law_has",s.heap.objs.size+1)]) (fr:=[none,some 3]) rfl ⟨by rfl,rfl,by decide +kernel,by decide +kernel,(λx c h=>h),jb6 [(".0",.local),("_law_name",.local),("_law_has",.cell)] ["_law_has"] rfl rfl (by decide +kernel),rfl,(λj i h=>match j,h with | 0,h=>(by cases h) | 1,h=>(by cases(Ax (Ax h)).symm;exact⟨"_law_has",rfl,rfl,Bw (Ap rfl),Ap rfl,Ap rfl,rfl⟩) | (j+2),h=>(by have h2:(none:Option (Option Nat))=some (some i):=h;cases h2))⟩ (jdy (K:=K) (jaq (K:=K) (jaq (K:=K) (jac 0) (jac 2)) (jag))) (λ_ _ _=>(jay (i:=0) (show(["_law_name","_law_has"]:List Str).Nodup by decide +kernel) rfl (Ap rfl))) (λ_ _ _=>jm5) (λ_ _ _=>(jbc (jaa (jac 0) (jaa (jik hr.units (jc1 1) (jac 0)) jae)))) (jch 0))) jae)) jae))))))),jg3⟩)
theorem sc37:FnScope zqp zqp (jak jf3):=scM
theorem jiz (F:Fun K "_law_of_term" "_law_of_term" jf3 fa fd) (m:mg "_law_of_term"=some (.ref fa)) (b:Binds K fd zqp []) (z_dict:mg "dict"=none):Has P w K mg base 1 "_law_of_term" zqp juh:=Has.mk' F m b (Fun.okD F sc37 jiv λcdv A outer s H E hr=>⟨_,jdw,(jan (ja7 (jee (jaz (jbb (K:=K) hr.units0) ja4 (jaq (K:=K) (jac 0) (jag)) (ja5) (jar _)) (jaq (K:=K) (jac 0) (jag)) (jik hr.units (jxg hr.hd (by rfl) z_dict (jac 1)) (jaq (K:=K) (jac 0) (jag)))))),jhy⟩)
abbrev zqq:List Str:=["_law_programs","_law_stand_here","_law_mover"]
theorem sc38:FnScope zqh zqq (jak jju):=scM
theorem jog (F:Fun K "_law_move" "_law_move" jju fa fd) (m:mg "_law_move"=some (.ref fa)) (b:Binds K fd zqq []) (jea:Has P w K mg base 1 "_law_filled" zqj1 jfq) (jc5:Has P w K mg base 2 "_law_got" zqa jr0) (ja1:Has P w K mg base 1 "_law_next_act" zqa jck) (jcs:Has P w K mg base 1 "_law_of_term" zqp juh) (jb0:Has P w K mg base 1 "_law_to_block" zqr jg9) (z_dict:mg "dict"=none) (z_len:mg "len"=none) (z_sorted:mg "sorted"=none) (z_tuple:mg "tuple"=none):Has P w K mg base 3 "_law_move" zqq jh5:=Has.mk' F m b (Fun.okD F sc38 jn6 λcdv A outer s H E hr=>⟨_,jgl,(jah (jto (jac 1) (jet (K:=K) (jbl (jay (i:=3) sc38.nd rfl (Ap rfl)) (jbl (jay (i:=4) sc38.nd rfl (Ap rfl)) jes)))) (jah (s_if (jaz (jbb (K:=K) hr.units0) ja4 (jac 2) (jbd (ja2 (K:=K)) jbt (by rfl) z_len Bf (jaa (jac 0) jae)) (jar _)) (jan (ja7 (jbc (jaa (jac 3) (jaa (jbg (jau (K:=K)) jbi (by rfl) z_tuple jbk (jaa (DF.d (jd0 (N:=["_law_row","_law_age_here"]) (cl:=[]) (fr:=[none,none]) rfl ⟨by rfl,rfl,by decide +kernel,by decide +kernel,(λx c h=>nomatch h),jb6 [(".0",.local),("_law_row",.local),("_law_age_here",.local)] [] rfl rfl (by decide +kernel),rfl,(λj i h=>match j,h with | 0,h=>(by cases h) | 1,h=>(by cases h) | (j+2),h=>(by have h2:(none:Option (Option Nat))=some (some i):=h;cases h2))⟩ (jdy (K:=K) (jac 4)) (λ_ _ _=>(jet (K:=K) (jbl (jay (i:=0) (show(["_law_row","_law_age_here"]:List Str).Nodup by decide +kernel) rfl (Ap rfl)) (jbl (jay (i:=1) (show(["_law_row","_law_age_here"]:List Str).Nodup by decide +kernel) rfl (Ap rfl)) jes)))) (λ_ _ _=>(jkd (jaz jli jf0 (jac 1) (jag) (jar _)))) (λ_ _ _=>(jbc (jaa (jac 0) (jaa (jee (jaz jgu jno (jac 1) (jcq) (jar _)) (jcq) (jxd (jac 1) (jag))) jae)))) (j3i 0 1 2))) jae)) jae))))) jbp) (jah (jba (i:=5) sc38.nd rfl (Ap rfl) (d_cM ja1 hr (jaa (jac 0) (jaa (jac 1) (jaa (jac 2) jae))))) (jah (jto (jex (K:=K) (jac 3) (jac 2)) (jet (K:=K) (jbl (jay (i:=6) sc38.nd rfl (Ap rfl)) (jbl (jay (i:=7) sc38.nd rfl (Ap rfl)) (jbl (jay (i:=8) sc38.nd rfl (Ap rfl)) jes))))) (jah (jba (i:=9) sc38.nd rfl (Ap rfl) (d_cM jc5 hr (jaa (jac 0) (jaa (jac 1) (jaa (jac 2) jae))))) (jah (jba (i:=10) sc38.nd rfl (Ap rfl) (jbc (jaa (jac 6) (jaa (jdo (jac 7) (jag)) (jaa (jac 8) jae))))) (jah (s_if (jaz (jbb (K:=K) hr.units0) ja4 (jex (K:=K) (jac 5) (jag)) (ja5) (jar _)) (jan (jba (i:=4) sc38.nd rfl (Ap rfl) (jil (K:=K) (jac 4) (jbc (jaa (jbc (jaa (d_cM jea hr (jaa (jex (K:=K) (jac 5) (jag)) (jaa (jxg hr.hd (by rfl) z_dict (jac 8)) jae))) (jaa (jex (K:=K) (jac 5) (jag)) jae))) jae))))) (jan (s_if (jaz (jbb (K:=K) hr.units0) ja4 (jex (K:=K) (jac 5) (jag)) (ja5) (jar _)) (jan (jba (i:=10) sc38.nd rfl (Ap rfl) (d_cM jb0 hr (jaa (jex (K:=K) (jac 0) (jac 2)) (jaa (jac 8) (jaa (jex (K:=K) (jac 5) (jag)) jae)))))) (jan (s_if (jaz (jbb (K:=K) hr.units0) ja4 (jex (K:=K) (jac 5) (jag)) (ja5) (jar _)) (jan (s_if (jaz jli jf0 (d_cM jcs hr (jaa (jex (K:=K) (jac 5) (jag)) (jaa (jac 8) jae))) (d_cM jcs hr (jaa (jex (K:=K) (jac 5) (jag)) (jaa (jac 8) jae))) (jar _)) (jan (jba (i:=10) sc38.nd rfl (Ap rfl) (d_cM jb0 hr (jaa (jex (K:=K) (jac 0) (jac 2)) (jaa (jac 8) (jaa (jex (K:=K) (jac 5) (jag)) jae)))))) jbp)) (jan (s_if (jaz jgu jno (jac 9) (jcq) (jar _)) (jan (jba (i:=10) sc38.nd rfl (Ap rfl) (d_cM jb0 hr (jaa (jex (K:=K) (jac 0) (jac 2)) (jaa (jac 8) (jaa (jex (K:=K) (jac 5) (jag)) jae)))))) (jah (jba (i:=10) sc38.nd rfl (Ap rfl) (jbc (jaa (jac 6) (jaa (jdo (jac 7) (jag)) (jaa (jbg (jau (K:=K)) jbi (by rfl) z_tuple jbk (jaa (DF.d (jkj (K:=K) hr.hd (by rfl) z_sorted (jex (K:=K) (jac 9) (jag)))) jae)) jae))))) (jan (s_if (jaz (jbb (K:=K) hr.units0) ja4 (jex (K:=K) (jac 5) (jag)) (ja5) (jar _)) (jan (jba (i:=4) sc38.nd rfl (Ap rfl) (jil (K:=K) (jed (K:=K) (jac 4) jeo (jen (jex (K:=K) (jac 9) (jag)))) (jed (K:=K) (jac 4) (jen (jdo (jex (K:=K) (jac 9) (jag)) (jag))) jeo)))) jbp)))))))))) (jan (ja7 (jbc (jaa (jil (K:=K) (jil (K:=K) (jed (K:=K) (jac 3) jeo (jen (jac 2))) (jbc (jaa (jac 10) jae))) (jed (K:=K) (jac 3) (jen (jdo (jac 2) (jag))) jeo)) (jaa (jac 4) jae)))))))))))),jme⟩)
theorem sc39:FnScope zqj zqj (jak jgp):=scM
theorem jkg (F:Fun K "_law_movers" "_law_movers" jgp fa fd) (m:mg "_law_movers"=some (.ref fa)) (b:Binds K fd zqj []) (jhq:Has P w K mg base 3 "_law_can" zqa jdi) (z_len:mg "len"=none) (z_range:mg "range"=none):HasN P w K mg base 4 "_law_movers" zqj jg7:=HasN.mk' F m b (Fun.okN F sc39 jj7 λcdv A outer s H E hr=>⟨_,jei,(jan (j5e (j8v (DF.d (jd0 (N:=["_law_hand","_law_programs","_law_stand_here"]) (cl:=[("_law_stand_here",s.heap.objs.size+2),("_law_programs",s.heap.objs.size+1)]) (fr:=[none,some 0,some 1]) rfl ⟨by rfl,rfl,by decide +kernel,by decide +kernel,(jhe (by intro y hy;simp only[As,Aw,or_false]at hy;rcases hy with rfl | rfl<;>rfl)),jb6 [(".0",.local),("_law_hand",.local),("_law_can",.globalImplicit),("_law_programs",.cell),("_law_stand_here",.cell)] ["_law_stand_here","_law_programs"] rfl rfl (by decide +kernel),rfl,(λj i h=>match j,h with | 0,h=>(by cases h) | 1,h=>(by cases(Ax (Ax h)).symm;exact⟨"_law_programs",rfl,rfl,Bw (Ap rfl),Ap rfl,Ap rfl,rfl⟩) | 2,h=>(by cases(Ax (Ax h)).symm;exact⟨"_law_stand_here",rfl,rfl,Bw (Ap rfl),Ap rfl,Ap rfl,rfl⟩) | (j+3),h=>(by have h2:(none:Option (Option Nat))=some (some i):=h;cases h2))⟩ (jb3 (by rfl) z_range (jbd (ja2 (K:=K)) jbt (by rfl) z_len Bf (jaa (jac 0) jae))) (λ_ _ _=>(jay (i:=0) (show(["_law_hand","_law_programs","_law_stand_here"]:List Str).Nodup by decide +kernel) rfl (Ap rfl))) (λ_ _ _=>(jkd (jru (d_cM jhq hr (jaa (jac 1) (jaa (jac 2) (jaa (jac 0) jae))))))) (λ_ _ _=>(jac 0)) (jch 0))) (DF.d (jb9 (jaa (jbd (ja2 (K:=K)) jbt (by rfl) z_len Bf (jaa (jac 0) jae)) jae)))))),ji5⟩)
abbrev zqf:List Str:=["_law_tape_here","_law_programs","_law_stand_here","_law_most"]
theorem sc40:FnScope zqw zqf (jak jjq):=scM
theorem joc (F:Fun K "_law_walk" "_law_walk" jjq fa fd) (m:mg "_law_walk"=some (.ref fa)) (b:Binds K fd ["_law_tape_here","_law_programs","_law_stand_here","_law_most"] []) (jaf:Has P w K mg base 1 "_law_draw" ["_law_tape_here","_law_many"] jav) (jgb:Has P w K mg base 3 "_law_move" ["_law_programs","_law_stand_here","_law_mover"] jh5) (jd9:HasN P w K mg base 4 "_law_movers" ["_law_programs","_law_stand_here"] jg7) (z_len:mg "len"=none) (z_range:mg "range"=none):Has P w K mg base 5 "_law_walk" ["_law_tape_here","_law_programs","_law_stand_here","_law_most"] jne:=Has.mk' F m b (Fun.okD F sc40 jn2 λcdv A outer s H E hr=>⟨_,jgh,(jah (jfy (i:=4) sc40.nd rfl (Ap rfl) (jb9 jae)) (jah (jfy (i:=5) sc40.nd rfl (Ap rfl) (jb9 (jaa (jac 2) jae))) (jah (jdx (jb3 (by rfl) z_range (d_cM jaf hr (jaa (jac 0) (jaa (jdo (jac 3) (jag)) jae)))) (jay (i:=6) sc40.nd rfl (Ap rfl)) (jah (jba (i:=7) sc40.nd rfl (Ap rfl) (DF.d (f_cM jd9 hr (jaa (jac 1) (jaa (jd4 (K:=K) (jij 5) (jrs (jag))) jae))))) (jah (s_if (DCW.cc (cw_and (jaz jsq jsb (jbd (ja2 (K:=K)) jc2 (by rfl) z_len Bf (jaa (jac 7) jae)) (jag) (jar _)) (cw_and1 (jaz jsq jsb (d_cM jaf hr (jaa (jac 0) (jaa (jag) jae))) (jag) (jar _))))) (jan (jba (i:=7) sc40.nd rfl (Ap rfl) (joq (K:=K) (jac 7) jeo (jen (jrs (jag)))))) jbp) (jah (jev (i:=4) rfl (jd4 (K:=K) (jac 7) (d_cM jaf hr (jaa (jac 0) (jaa (jbd (ja2 (K:=K)) jc2 (by rfl) z_len Bf (jaa (jac 7) jae)) jae))))) (jan (jev (i:=5) rfl (d_cM jgb hr (jaa (jac 1) (jaa (jd4 (K:=K) (jij 5) (jrs (jag))) (jaa (jd4 (K:=K) (jij 4) (jrs (jag))) jae)))))))))) (jfz 5 (jfz 4 (jan (ja7 (jbc (jaa (jac 4) (jaa (jac 5) jae)))))))))),jma⟩)
abbrev zqn:List Str:=["_law_tape_here","_law_pattern_here","_law_names"]
theorem sc41:FnScope zqc1 zqn (jak jjv):=scM
theorem joh (F:Fun K "_law_lure" "_law_lure" jjv fa fd) (m:mg "_law_lure"=some (.ref fa)) (b:Binds K fd zqn []) (jaw:Has P w K mg base 2 "_law_value" zqb jcm) (z_dict:mg "dict"=none) (z_tuple:mg "tuple"=none):Has P w K mg base 3 "_law_lure" zqn jqv:=Has.mk' F m b (Fun.okD F sc41 jn7 λcdv A outer s H E hr=>⟨_,jgm,(jah (jjo (i:=3) sc41.nd rfl (Ap rfl) (jj9 hr.hd (by rfl) z_dict (jac 2))) (jah (jfy (i:=4) sc41.nd rfl (Ap rfl) (jb9 jae)) (jah (jdx (jdy (K:=K) (jac 1)) (jay (i:=5) sc41.nd rfl (Ap rfl)) (jah (jba (i:=6) sc41.nd rfl (Ap rfl) (d_cM jaw hr (jaa (jac 0) jae))) (jah (s_if (jaz (jbb (K:=K) hr.units0) ja4 (jaq (K:=K) (jac 5) (jag)) (ja5) (jar _)) (jan (jba (i:=6) sc41.nd rfl (Ap rfl) (jaq (K:=K) (jac 5) (jag)))) (jan (s_if (jaz (jig (K:=K)) jel (jaq (K:=K) (jac 5) (jag)) (jbc (jaa (ja5) (jaa (ja5) jae))) (by with_unfolding_all rfl)) (jan (jba (i:=6) sc41.nd rfl (Ap rfl) (jik hr.units (j7l (jsl jsn jsn (jsl jsn jbh j2y))) (jaq (K:=K) (jac 5) (jag))))) (jan (s_if (jaz (jig (K:=K)) jel (jaq (K:=K) (jac 5) (jag)) (jbc (jaa (ja5) (jaa (ja5) jae))) (by with_unfolding_all rfl)) (jah (jba (i:=6) sc41.nd rfl (Ap rfl) (j36 hr.units (jc1 3) (jaq (K:=K) (jac 5) (jag)) (jac 6))) (jan (jsf (i:=3) hr.units rfl (jaq (K:=K) (jac 5) (jag)) (jac 6)))) jbp))))) (jan (jev (i:=4) rfl (jac 6)))))) (jfz 4 (jan (ja7 (jbg (jau (K:=K)) jbi (by rfl) z_tuple jbk (jaa (jac 4) jae)))))))),jmf⟩)
abbrev zqm:List Str:=["_law_tape_here","_law_programs","_law_stand_here"]
theorem sc42:FnScope zqx zqm (jak jid):=scM
theorem jl3 (F:Fun K "_law_lured" "_law_lured" jid fa fd) (m:mg "_law_lured"=some (.ref fa)) (b:Binds K fd ["_law_tape_here","_law_programs","_law_stand_here"] []) (jb4:Has P w K mg base 2 "_law_age" ["_law_tape_here"] jmg) (jaf:Has P w K mg base 1 "_law_draw" ["_law_tape_here","_law_many"] jav) (jgc:Has P w K mg base 3 "_law_lure" ["_law_tape_here","_law_pattern_here","_law_names"] jqv) (ja1:Has P w K mg base 1 "_law_next_act" ["_law_programs","_law_stand_here","_law_hand"] jck) (z_len:mg "len"=none) (z_list:mg "list"=none) (z_range:mg "range"=none) (z_tuple:mg "tuple"=none):Has P w K mg base 4 "_law_lured" ["_law_tape_here","_law_programs","_law_stand_here"] jk7:=Has.mk' F m b (Fun.okD F sc42 jlr λcdv A outer s H E hr=>⟨_,jfm,(jah (jfy (i:=3) sc42.nd rfl (Ap rfl) (joj (K:=K) (by rfl) z_list (jaq (K:=K) (jac 2) (jag)))) (jah (jdx (jb3 (by rfl) z_range (jbd (ja2 (K:=K)) jbt (by rfl) z_len Bf (jaa (jac 1) jae))) (jay (i:=4) sc42.nd rfl (Ap rfl)) (jah (jba (i:=5) sc42.nd rfl (Ap rfl) (d_cM ja1 hr (jaa (jac 1) (jaa (jac 2) (jaa (jac 4) jae))))) (jan (s_if (DCW.cc (cw_and (jaz jnw jnn (jac 5) (jcq) (jar _)) (cw_and (jaz (jig (K:=K)) jel (jaq (K:=K) (jac 5) (jag)) (jbc (jaa (ja5) (jaa (ja5) (jaa (ja5) jae)))) (by with_unfolding_all rfl)) (cw_and1 (jaz jsq jsb (d_cM jaf hr (jaa (jac 0) (jaa (jag) jae))) (jag) (jar _)))))) (jah (jba (i:=6) sc42.nd rfl (Ap rfl) (jbc (jaa (d_cM jgc hr (jaa (jac 0) (jaa (jaq (K:=K) (jac 5) (jag)) (jaa (jaq (K:=K) (jaq (K:=K) (jaq (K:=K) (jac 2) (jag)) (jac 4)) (jag)) jae)))) (jaa (d_cM jb4 hr (jaa (jac 0) jae)) jae)))) (jan (j8a (i:=3) rfl (d_cM jaf hr (jaa (jac 0) (jaa (jdo (jz3 (K:=K) 3 (by rfl) z_len) (jag)) jae))) (jac 6)))) jbp)))) (jfz 3 (jan (ja7 (jbc (jaa (jaq (K:=K) (jac 2) (jag)) (jaa (jbg (jau (K:=K)) jbi (by rfl) z_tuple jbk (jaa (jac 3) jae)) jae)))))))),jkv⟩)
theorem sc43:FnScope zqs1 zqs1 (jak jif):=scM
theorem jl5 (F:Fun K "_law_first" "_law_first" jif fa fd) (m:mg "_law_first"=some (.ref fa)) (b:Binds K fd zqs1 []) (z_tuple:mg "tuple"=none):Has P w K mg base 1 "_law_first" zqs1 jla:=Has.mk' F m b (Fun.okD F sc43 jlt λcdv A outer s H E hr=>⟨_,jfo,(jan (ja7 (jbc (jaa (jbg (jau (K:=K)) jbi (by rfl) z_tuple jbk (jaa (DF.d (jd0 (N:=["_law_program_here"]) (cl:=[]) (fr:=[none]) rfl ⟨by rfl,rfl,by decide +kernel,by decide +kernel,(λx c h=>nomatch h),jb6 [(".0",.local),("_law_program_here",.local)] [] rfl rfl (by decide +kernel),rfl,(λj i h=>match j,h with | 0,h=>(by cases h) | (j+1),h=>(by have h2:(none:Option (Option Nat))=some (some i):=h;cases h2))⟩ (jdy (K:=K) (jaq (K:=K) (jac 0) (jag))) (λ_ _ _=>(jay (i:=0) (show(["_law_program_here"]:List Str).Nodup by decide +kernel) rfl (Ap rfl))) (λ_ _ _=>jm5) (λ_ _ _=>(jbc (jaa (jag) (jaa (jag) (jaa (jbc jae) jae))))) (jch 0))) jae)) (jaa (jaq (K:=K) (jac 0) (jag)) jae))))),jkx⟩)
theorem sc44:FnScope zqg zql1 (jak jtp):=scM
theorem j6f {fa fT:Addr} {fd fdT:Cb} (F:Fun K "law" "law" jtp fa fd) (GT:FnOk P w K mg base CX0 1 fT fdT zql1 (jr9 K)) (bT:Binds K fdT zql1 []) (mT:mg "_law_tape"=some (.ref fT)) (kT:Cv K (.ref fT)=true) (jaf:Has P w K mg base 1 "_law_draw" zqc jav) (jfa:Has P w K mg base 1 "_law_first" zqs1 jla) (je8:Has P w K mg base 4 "_law_lured" zqm jk7) (jga:Has P w K mg base 6 "_law_plan" zqb jqu) (je7:Has P w K mg base 4 "_law_stand" zqk jk5) (jf9:Has P w K mg base 5 "_law_walk" zqf jne) (h_woven:Has P w K mg base 7 "woven" zqo1 jc0) (z_len:mg "len"=none) (z_list:mg "list"=none) (z_range:mg "range"=none) (z_repr:mg "repr"=none) (z_tuple:mg "tuple"=none):FnOk P w K mg base CX0 8 fa fd zql1 (DL.spLaw K):=by
 refine j6o F sc44 GT bT mT kT (λv=>rfl) j0e ?_;intro cdv A outer s H E hr;exact⟨_,_,_,rfl,jf4 (i:=1) sc44.nd rfl (Ap rfl) (jrd GT (hr.mono (by decide)) rfl mT kT bT .nil j3a (ja9 (pv 0) jca)),(jah (jba (i:=2) sc44.nd rfl (Ap rfl) (d_cM jga hr (jaa (jac 1) jae))) (jah (jba (i:=3) sc44.nd rfl (Ap rfl) (jaq (K:=K) (jac 2) (jag))) (jah (jdx (jb3 (by rfl) z_range (jag)) (jay (i:=4) sc44.nd rfl (Ap rfl)) (jah (jba (i:=5) sc44.nd rfl (Ap rfl) (d_cM jfa hr (jaa (jac 2) jae))) (jah (s_if (jaz (jbb (K:=K) hr.units0) ja4 (d_cM jaf hr (jaa (jac 1) (jaa (jag) jae))) (jag) (jar _)) (jan (jba (i:=5) sc44.nd rfl (Ap rfl) (d_cM je8 hr (jaa (jac 1) (jaa (jac 3) (jaa (d_cM je7 hr (jaa (jac 1) (jaa (jac 3) jae))) jae)))))) jbp) (jah (jto (d_cM jf9 hr (jaa (jac 1) (jaa (jac 3) (jaa (jac 5) (jaa (jag) jae))))) (jet (K:=K) (jbl (jay (i:=6) sc44.nd rfl (Ap rfl)) (jbl (jay (i:=7) sc44.nd rfl (Ap rfl)) jes)))) (jah (jba (i:=8) sc44.nd rfl (Ap rfl) (jbg (jnc (K:=K)) ju9 (by rfl) z_list jxq (jaa (jac 6) jae))) (jah (jdx (jdy (K:=K) (jbc (jaa (jac 8) (jaa (jbg (jau (K:=K)) jbi (by rfl) z_tuple jbk (jaa (jac 6) jae)) (jaa (jac 8) jae))))) (jay (i:=9) sc44.nd rfl (Ap rfl)) (jan (s_if (DCW.cc (cw_or (jaz jli jf0 (jbd (jce (K:=K) hr.gd hr.units) jcv (by rfl) z_repr jff (jaa (d_cM h_woven hr (jaa (jac 3) (jaa (jac 5) (jaa (jac 9) jae)))) jae)) (jbd (jce (K:=K) hr.gd hr.units) jcv (by rfl) z_repr jff (jaa (jaq (K:=K) (jac 7) (jrs (jag))) jae)) (jar _)) (cw_or1 (jaz (j6d (K:=K) hr.units) j47 (jac 8) (jac 6) (jar _))))) (jan (ja7 (d_bl))) jbp))) (jah (jba (i:=10) sc44.nd rfl (Ap rfl) (d_cM jaf hr (jaa (jac 1) (jaa (jdo (jbd (ja2 (K:=K)) jbt (by rfl) z_len Bf (jaa (jac 6) jae)) (jag)) jae)))) (jah (jba (i:=11) sc44.nd rfl (Ap rfl) (d_cM h_woven hr (jaa (jac 3) (jaa (jac 5) (jaa (joq (K:=K) (jac 6) jeo (jen (jac 10))) jae))))) (jah (s_if (DCW.cc (cw_or (jaz jli jf0 (jbd (jce (K:=K) hr.gd hr.units) jcv (by rfl) z_repr jff (jaa (jac 11) jae)) (jbd (jce (K:=K) hr.gd hr.units) jcv (by rfl) z_repr jff (jaa (jaq (K:=K) (jac 7) (jac 10)) jae)) (jar _)) (cw_or1 (jaz jli jf0 (jbd (jce (K:=K) hr.gd hr.units) jcv (by rfl) z_repr jff (jaa (d_cM h_woven hr (jaa (jac 3) (jaa (jac 11) (jaa (joq (K:=K) (jac 6) (jen (jac 10)) jeo) jae)))) jae)) (jbd (jce (K:=K) hr.gd hr.units) jcv (by rfl) z_repr jff (jaa (jaq (K:=K) (jac 7) (jrs (jag))) jae)) (jar _))))) (jan (ja7 (d_bl))) jbp) (jan (s_if (jaz jli jf0 (jbd (jce (K:=K) hr.gd hr.units) jcv (by rfl) z_repr jff (jaa (d_cM h_woven hr (jaa (jac 3) (jaa (jac 5) (jaa (DF.d (jb9 jae)) jae)))) jae)) (jbd (jce (K:=K) hr.gd hr.units) jcv (by rfl) z_repr jff (jaa (jac 5) jae)) (jar _)) (jan (ja7 (d_bl))) jbp))))))))))) (jan (ja7 (d_bl))))))⟩
end
theorem ls1 {α:Type} {us:List α} (h:us.length=1):∃a,us=[a]:=match us,h with | [a],_=>⟨a,rfl⟩
theorem ls2 {α:Type} {us:List α} (h:us.length=2):∃a b,us=[a,b]:=match us,h with | [a,b],_=>⟨a,b,rfl⟩
theorem ls3 {α:Type} {us:List α} (h:us.length=3):∃a b c,us=[a,b,c]:=match us,h with | [a,b,c],_=>⟨a,b,c,rfl⟩
theorem ls4 {α:Type} {us:List α} (h:us.length=4):∃a b c d,us=[a,b,c,d]:=match us,h with | [a,b,c,d],_=>⟨a,b,c,d,rfl⟩
abbrev oT (t:String) (d:Data):Obj:=⟨.type t,none,d,#[]⟩
structure Ds where
 i:Nat
 x:Str
 t:Nat
 l:Nat
 n:Nat
 r:Nat
 b:Bool
 v:Nat
 m:Nat
abbrev Ds.c (d:Ds):Nat:=if d.b then d.r+5 else d.r+3
abbrev Ds.f (d:Ds):Nat:=if d.b then d.r+6 else d.r+4
abbrev mOd (m:Nat):Af:=[(.str "noteboard.values" 232),(.str "noteboard.patterns" 243),(.str "noteboard.stands" 295),(.str "noteboard.moving" 305),(.str "noteboard.weaving" 415),(.str "law_noteboard_k26_weavings_parted" 428)].getD m .none
abbrev fdO (d:Ds):Cb:=E6 d.x d.x (jht (top d.i)) (jdt (top d.i)) (jak (top d.i)) .none .none .none (mOd d.m) none (.ref d.c) .none
abbrev oF (d:Ds):Obj:=oT "function" (.func (fdO d))
abbrev oC (d:Ds):Obj:=oT "code" (.fields #[.str d.x d.t,.str d.x (d.t+1),.str "/claim/cut.py" (d.t+2),.int d.l 0,.int d.n 0,.int 0 0,.int 0 0,.int 3 0,.ref d.r,.bool true,.int 181 0,.ref (d.r+1),.none,if d.b then .ref (d.r+2)else .none,if d.b then .ref (d.r+3)else .none,.ref (if d.b then d.r+4 else d.r+2),.int d.v 0,.int d.l 0,.str "/claim/cut.py" (d.v+1)])
abbrev eN (P:Params) (x:Str) (t:Nat) (v:Af):DictEntry:=⟨PyData.keyHash P x,.str x t,v⟩
abbrev en (P:Params) (d:Ds):DictEntry:=eN P d.x (d.v+2) (.ref d.f)
def dL:List Ds:=[⟨5,"is_whole",236,11,1,47,true,240,0⟩,⟨7,"field_fits",245,14,4,54,true,253,1⟩,⟨8,"fits",256,27,3,61,true,266,1⟩,⟨9,"next_value",269,39,1,68,true,273,1⟩,⟨10,"field_value",276,43,2,75,true,282,1⟩,⟨11,"filled",285,48,2,82,false,288,1⟩,⟨14,"is_within",297,53,2,88,true,302,2⟩,⟨16,"next_act",307,56,3,95,true,316,3⟩,⟨17,"gets",319,61,3,102,true,330,3⟩,⟨18,"gone_on",333,73,2,109,true,338,3⟩,⟨19,"gone_to",341,75,3,116,false,344,3⟩,⟨20,"with_hand",347,78,3,121,true,353,3⟩,⟨21,"got",356,80,4,128,true,367,3⟩,⟨22,"is_same_value",370,92,2,135,true,376,3⟩,⟨23,"hand_moved",379,95,3,142,true,389,3⟩,⟨24,"aged",392,112,1,149,true,396,3⟩,⟨25,"clock_moved",399,114,1,156,false,402,3⟩,⟨26,"after",405,116,3,161,true,412,3⟩,⟨28,"woven",417,122,3,168,true,425,4⟩,⟨30,"_law_tape",430,129,1,175,true,434,5⟩,⟨31,"_law_draw",437,131,2,182,true,446,5⟩,⟨32,"_law_value",449,146,1,189,true,453,5⟩,⟨33,"_law_size",456,148,1,196,true,460,5⟩,⟨34,"_law_age",463,150,1,203,true,467,5⟩,⟨35,"_law_pattern",470,152,2,210,true,481,5⟩,⟨36,"_law_template",484,169,2,217,true,492,5⟩,⟨37,"_law_term",495,178,2,224,true,500,5⟩,⟨38,"_law_act",503,182,3,231,true,513,5⟩,⟨39,"_law_program",516,195,1,238,false,519,5⟩,⟨40,"_law_notes",522,212,2,243,false,525,5⟩,⟨41,"_law_plan",528,218,1,248,false,531,5⟩,⟨42,"_law_known",534,223,3,253,false,537,5⟩,⟨43,"_law_stand",540,229,2,258,false,543,5⟩,⟨44,"_law_fit",546,237,3,263,true,558,5⟩,⟨45,"_law_next_act",561,257,3,270,true,571,5⟩,⟨46,"_law_got",574,261,3,277,true,583,5⟩,⟨47,"_law_can",586,270,3,284,true,593,5⟩,⟨48,"_law_filled",596,275,2,291,true,605,5⟩,⟨49,"_law_to_block",608,283,3,298,false,611,5⟩,⟨50,"_law_of_term",614,286,2,303,true,619,5⟩,⟨51,"_law_move",622,288,3,310,false,625,5⟩,⟨52,"_law_movers",628,310,2,315,false,631,5⟩,⟨53,"_law_walk",634,312,4,320,true,645,5⟩,⟨54,"_law_lure",648,322,3,327,true,658,5⟩,⟨55,"_law_lured",661,336,3,334,true,671,5⟩,⟨56,"_law_first",674,344,1,341,false,677,5⟩,⟨57,"law",680,346,1,346,true,695,5⟩]
def KK (P:Params):Ai:=let e:=eN P
 (3,oT "dict" (.dict ([e "__name__" 165 (.str "law_noteboard_k26_weavings_parted" 428),e "__doc__" 166 .none,e "__package__" 167 .none,e "__loader__" 168 (.builtin "__main__.__loader__#opaque"),e "__spec__" 169 .none,e "__annotations__" 170 (.ref 6),e "__builtins__" 171 (.ref 4),e "__file__" 173 (.str "/claim/cut.py" 172),e "__cached__" 174 .none,e "BoardError" 206 (.ref 24),e "NotReady" 231 (.ref 44),e "GREATEST_NUMBER" 235 (.int 99 234)]++((dL.drop 0).take 6).map (en P)++[e "GETTING" 294 (.ref 87)]++((dL.drop 6).take 41).map (en P)).toArray 60))::(dL.flatMap λd=>[(d.c,oC d),(d.f,oF d)])++[(87,oT "tuple" (.seq #[(.str "take" 291),(.str "read" 292),(.str "look" 293)] 0))]
def aS:List Addr:=3::(dL.flatMap λd=>[d.c,d.f])++[87]
abbrev pp:Bg:=PySem.Challenge.pw_noteboard_k26_weavings_parted
abbrev qq:Bg:=PySem.W.view pp [57]
def lO:List Str:=(["BoardError","NotReady","GREATEST_NUMBER","is_whole","field_fits","fits","next_value","field_value","filled","GETTING","is_within","next_act","gets","gone_on","gone_to","with_hand","got","is_same_value","hand_moved","aged","clock_moved","after","woven","_law_tape","_law_draw","_law_value","_law_size","_law_age","_law_pattern","_law_template","_law_term","_law_act","_law_program","_law_notes","_law_plan","_law_known","_law_stand","_law_fit","_law_next_act","_law_got","_law_can","_law_filled","_law_to_block","_law_of_term","_law_move","_law_movers","_law_walk","_law_lure","_law_lured","_law_first"]:List String).map C0
abbrev xT:Ak->Bool:=λs=>PySem.W.xlAt qq [] s&&PySem.W.recOk (PySem.W.RowW.records PySem.Challenge.rw_noteboard_k26_weavings_parted.row.toRowW) s
theorem aK:∀P,aS=(KK P).map (·.1):=λP=>by kernel_rfl
abbrev hK:PySem.W.Hook:=PySem.W.kHook KK aS aK
theorem left_:PySem.W.LeftO pp qq lO xT hK.obs hK.val 3000:=λw=>by kernel_rfl
def j7j (s:Stmt):Pos:=match s with
 |.FunctionDef _ _ _ _ _ _ _ _ _ p=>p
 |_=>⟨0,0,0,0⟩
def dW:DefRec:=⟨"law",jht jtp,jdt jtp,jak jtp,j7j jtp⟩
theorem said_:PySem.Challenge.rw_noteboard_k26_weavings_parted.wellSaid=true:=by kernel_rfl
theorem fnE (P:Params):(dL.map λd=>(PySem.W.nsIn (KK P) Cp d.x,(KK P).lookup d.f,PySem.W.codeIn (KK P) (.ref d.c) d.x))=dL.map λd=>(some (some (.ref d.f)),some (oF d),true):=by kernel_rfl
theorem j1k {α β:Type} {f g:α->β} {l:List α} (h:l.map f=l.map g) {j:Nat} {a:α} (e:l[j]?=some a):f a=g a:=by
 have:=congrArg (λl=>l[j]?) h;simp only[Ay,e,Ez]at this;exact Ax this
def zL:List Str:=["bool","dict","enumerate","int","isinstance","len","list","range","repr","set","sorted","str","tuple","zip"]
theorem zE (P:Params):(zL.map λx=>PySem.W.nsIn (KK P) Cp x)=zL.map λ_=>some none:=by kernel_rfl
section
variable {P:Params} {h:Heap} {mg:Str->Option Af} (X:(KK P).In h) (G:h.Ns Cp mg)
include X G
theorem fnK (j:Nat) {d:Ds} (e:dL[j]?=some d):Fun (KK P) d.x d.x (top d.i) d.f (fdO d)/\mg d.x=some (.ref d.f)/\Cv (KK P) (.ref d.f)=true:=by
 have q:=j1k (fnE P) e;obtain⟨q1,q2⟩:=Prod.mk.inj q;obtain⟨q2,q3⟩:=Prod.mk.inj q2;have k:Cv (KK P) (.ref d.f)=true:=by
  unfold Cv;simp only[q2]
 exact⟨j7b q2 q3 k,PySem.W.mg_of X G q1,k⟩
theorem zK (j:Nat) {x:Str} (e:zL[j]?=some x):mg x=none:=PySem.W.mg_none_of X G (j1k (zE P) e)
end
abbrev pR:Bg:=PySem.W.OpenLaw.prog PySem.Challenge.rw_noteboard_k26_weavings_parted
theorem all_K (w:Br) (mg:Str->Option Af) (fa:Addr) (h:Heap) (X:(KK w.params).In h) (G:h.Ns Cp mg) (hfa:mg "law"=some (.ref fa)) :
  ∃fd:Cb,(∀(s:Ak) (u:Af),BindsTo s fd ⟨[u],[]⟩ [("_law_script",u)])/\∀base:Heap,(KK w.params).In base->base.Ns Cp mg->FnOk (pR) w (KK w.params) mg base CX0 8 fa fd zql1 (DL.spLaw (KK w.params)):=by
 obtain⟨F46,e,-⟩:=fnK X G 46 rfl;have e:=hfa.symm.trans e;cases e;obtain⟨F0,m0,-⟩:=fnK X G 0 rfl;obtain⟨F1,m1,-⟩:=fnK X G 1 rfl;obtain⟨F2,m2,-⟩:=fnK X G 2 rfl;obtain⟨F3,m3,-⟩:=fnK X G 3 rfl;obtain⟨F4,m4,-⟩:=fnK X G 4 rfl;obtain⟨F5,m5,-⟩:=fnK X G 5 rfl;obtain⟨F6,m6,-⟩:=fnK X G 6 rfl;obtain⟨F7,m7,-⟩:=fnK X G 7 rfl;obtain⟨F8,m8,-⟩:=fnK X G 8 rfl;obtain⟨F9,m9,-⟩:=fnK X G 9 rfl;obtain⟨F10,m10,-⟩:=fnK X G 10 rfl;obtain⟨F11,m11,-⟩:=fnK X G 11 rfl;obtain⟨F12,m12,-⟩:=fnK X G 12 rfl;obtain⟨F13,m13,-⟩:=fnK X G 13 rfl;obtain⟨F14,m14,-⟩:=fnK X G 14 rfl;obtain⟨F15,m15,-⟩:=fnK X G 15 rfl;obtain⟨F16,m16,-⟩:=fnK X G 16 rfl;obtain⟨F17,m17,-⟩:=fnK X G 17 rfl;obtain⟨F18,m18,-⟩:=fnK X G 18 rfl;obtain⟨F19,m19,k19⟩:=fnK X G 19 rfl;obtain⟨F20,m20,-⟩:=fnK X G 20 rfl;obtain⟨F21,m21,-⟩:=fnK X G 21 rfl;obtain⟨F22,m22,-⟩:=fnK X G 22 rfl;obtain⟨F23,m23,-⟩:=fnK X G 23 rfl;obtain⟨F24,m24,-⟩:=fnK X G 24 rfl;obtain⟨F25,m25,-⟩:=fnK X G 25 rfl;obtain⟨F26,m26,-⟩:=fnK X G 26 rfl;obtain⟨F27,m27,-⟩:=fnK X G 27 rfl;obtain⟨F28,m28,-⟩:=fnK X G 28 rfl;obtain⟨F29,m29,-⟩:=fnK X G 29 rfl;obtain⟨F30,m30,-⟩:=fnK X G 30 rfl;obtain⟨F31,m31,-⟩:=fnK X G 31 rfl;obtain⟨F32,m32,-⟩:=fnK X G 32 rfl;obtain⟨F33,m33,-⟩:=fnK X G 33 rfl;obtain⟨F34,m34,-⟩:=fnK X G 34 rfl;obtain⟨F35,m35,-⟩:=fnK X G 35 rfl;obtain⟨F36,m36,-⟩:=fnK X G 36 rfl;obtain⟨F37,m37,-⟩:=fnK X G 37 rfl;obtain⟨F38,m38,-⟩:=fnK X G 38 rfl;obtain⟨F39,m39,-⟩:=fnK X G 39 rfl;obtain⟨F40,m40,-⟩:=fnK X G 40 rfl;obtain⟨F41,m41,-⟩:=fnK X G 41 rfl;obtain⟨F42,m42,-⟩:=fnK X G 42 rfl;obtain⟨F43,m43,-⟩:=fnK X G 43 rfl;obtain⟨F44,m44,-⟩:=fnK X G 44 rfl;obtain⟨F45,m45,-⟩:=fnK X G 45 rfl;have z_bool:=zK X G (x:="bool") 0 rfl;have z_dict:=zK X G (x:="dict") 1 rfl;have z_enumerate:=zK X G (x:="enumerate") 2 rfl;have z_int:=zK X G (x:="int") 3 rfl;have z_isinstance:=zK X G (x:="isinstance") 4 rfl;have z_len:=zK X G (x:="len") 5 rfl;have z_list:=zK X G (x:="list") 6 rfl;have z_range:=zK X G (x:="range") 7 rfl;have z_repr:=zK X G (x:="repr") 8 rfl;have z_set:=zK X G (x:="set") 9 rfl;have z_sorted:=zK X G (x:="sorted") 10 rfl;have z_str:=zK X G (x:="str") 11 rfl;have z_tuple:=zK X G (x:="tuple") 12 rfl;have z_zip:=zK X G (x:="zip") 13 rfl;have g_GREATEST_NUMBER:=PySem.W.mg_of X G (show PySem.W.nsIn (KK w.params) Cp "GREATEST_NUMBER"=some (some (.int 99 234)) by kernel_rfl);have g_GETTING:=PySem.W.mg_of X G (show PySem.W.nsIn (KK w.params) Cp "GETTING"=some (some (.ref 87)) by kernel_rfl);have t_GETTING:∀H,SqT (KK w.params) H 87 ((zqo:List Str).map V.str):=λH=>.inr ⟨_,_,_,(show(KK w.params).lookup 87=some (oT "tuple" (.seq #[(.str "take" 291),(.str "read" 292),(.str "look" 293)] 0)) by kernel_rfl),rfl,rfl,show 3<=A1 by decide,(.cons ⟨_,rfl⟩ (.cons ⟨_,rfl⟩ (.cons ⟨_,rfl⟩ .nil)))⟩;refine⟨fdO ⟨57,"law",680,346,1,346,true,695,5⟩,λs v=>.of_eq rfl,λbase _ _=>?_⟩;have h_is_whole:=jp7 (P:=pR) (w:=w) (base:=base) F0 m0 (F0.binds λ_ _ _ _ _ _ us hl=>by obtain⟨_,rfl⟩:=ls1 hl;rfl) z_bool z_int z_isinstance;have h_field_fits:=jlz (P:=pR) (w:=w) (base:=base) F1 m1 (F1.binds λ_ _ _ _ _ _ us hl=>by obtain⟨_,_,_,_,rfl⟩:=ls4 hl;rfl) z_int z_isinstance z_str;have h_fits:=jzw (P:=pR) (w:=w) (base:=base) F2 m2 (F2.binds λ_ _ _ _ _ _ us hl=>by obtain⟨_,_,_,rfl⟩:=ls3 hl;rfl) h_field_fits z_dict z_len z_sorted z_tuple z_zip;have h_next_value:=jlx (P:=pR) (w:=w) (base:=base) F3 m3 (F3.binds λ_ _ _ _ _ _ us hl=>by obtain⟨_,rfl⟩:=ls1 hl;rfl) z_isinstance z_str g_GREATEST_NUMBER;have h_field_value:=jke (P:=pR) (w:=w) (base:=base) F4 m4 (F4.binds λ_ _ _ _ _ _ us hl=>by obtain⟨_,_,rfl⟩:=ls2 hl;rfl) h_next_value;have h_filled:=jt1 (P:=pR) (w:=w) (base:=base) F5 m5 (F5.binds λ_ _ _ _ _ _ us hl=>by obtain⟨_,_,rfl⟩:=ls2 hl;rfl) h_field_value z_dict z_tuple;have h_is_within:=job (P:=pR) (w:=w) (base:=base) F6 m6 (F6.binds λ_ _ _ _ _ _ us hl=>by obtain⟨_,_,rfl⟩:=ls2 hl;rfl) h_is_whole;have h_next_act:=jp6 (P:=pR) (w:=w) (base:=base) F7 m7 (F7.binds λ_ _ _ _ _ _ us hl=>by obtain⟨_,_,_,rfl⟩:=ls3 hl;rfl) z_len;have h_gets:=jzv (P:=pR) (w:=w) (base:=base) F8 m8 (F8.binds λ_ _ _ _ _ _ us hl=>by obtain⟨_,_,_,rfl⟩:=ls3 hl;rfl) h_fits h_next_act z_enumerate g_GETTING t_GETTING;have h_gone_on:=jrn (P:=pR) (w:=w) (base:=base) F9 m9 (F9.binds λ_ _ _ _ _ _ us hl=>by obtain⟨_,_,rfl⟩:=ls2 hl;rfl);have h_gone_to:=jrm (P:=pR) (w:=w) (base:=base) F10 m10 (F10.binds λ_ _ _ _ _ _ us hl=>by obtain⟨_,_,_,rfl⟩:=ls3 hl;rfl) z_tuple;have h_with_hand:=joa (P:=pR) (w:=w) (base:=base) F11 m11 (F11.binds λ_ _ _ _ _ _ us hl=>by obtain⟨_,_,_,rfl⟩:=ls3 hl;rfl);have h_got:=j3v (P:=pR) (w:=w) (base:=base) F12 m12 (F12.binds λ_ _ _ _ _ _ us hl=>by obtain⟨_,_,_,_,rfl⟩:=ls4 hl;rfl) h_fits h_gets h_gone_on h_gone_to h_with_hand;have h_is_same_value:=jhl (P:=pR) (w:=w) (base:=base) F13 m13 (F13.binds λ_ _ _ _ _ _ us hl=>by obtain⟨_,_,rfl⟩:=ls2 hl;rfl) h_field_value z_dict;have h_hand_moved:=jly (P:=pR) (w:=w) (base:=base) F14 m14 (F14.binds λ_ _ _ _ _ _ us hl=>by obtain⟨_,_,_,rfl⟩:=ls3 hl;rfl) h_filled h_gone_on h_gone_to h_got h_is_same_value h_next_act h_with_hand g_GETTING t_GETTING;have h_aged:=jzx (P:=pR) (w:=w) (base:=base) F15 m15 (F15.binds λ_ _ _ _ _ _ us hl=>by obtain⟨_,rfl⟩:=ls1 hl;rfl);have h_clock_moved:=jkf (P:=pR) (w:=w) (base:=base) F16 m16 (F16.binds λ_ _ _ _ _ _ us hl=>by obtain⟨_,rfl⟩:=ls1 hl;rfl) h_aged z_tuple;have h_after:=jw1 (P:=pR) (w:=w) (base:=base) F17 m17 (F17.binds λ_ _ _ _ _ _ us hl=>by obtain⟨_,_,_,rfl⟩:=ls3 hl;rfl) h_clock_moved h_hand_moved h_is_within z_len;have h_woven:=jw0 (P:=pR) (w:=w) (base:=base) F18 m18 (F18.binds λ_ _ _ _ _ _ us hl=>by obtain⟨_,_,_,rfl⟩:=ls3 hl;rfl) h_after z_enumerate;have GT:=j3f (P:=pR) (w:=w) (mg:=mg) (base:=base) F19;have jaf:Has (pR) w (KK w.params) mg base 1 "_law_draw" zqc jav:=Has.mk' F20 m20 (F20.binds λ_ _ _ _ _ _ us hl=>by obtain⟨_,_,rfl⟩:=ls2 hl;rfl) (jz2 (j3g (P:=pR) (w:=w) (base:=base) F20 z_len));have jaw:=jl0 (P:=pR) (w:=w) (base:=base) F21 m21 (F21.binds λ_ _ _ _ _ _ us hl=>by obtain⟨_,rfl⟩:=ls1 hl;rfl) jaf;have jbw:=joe (P:=pR) (w:=w) (base:=base) F22 m22 (F22.binds λ_ _ _ _ _ _ us hl=>by obtain⟨_,rfl⟩:=ls1 hl;rfl) jaf;have jb4:=jqb (P:=pR) (w:=w) (base:=base) F23 m23 (F23.binds λ_ _ _ _ _ _ us hl=>by obtain⟨_,rfl⟩:=ls1 hl;rfl) jaf z_len;have jds:=jiy (P:=pR) (w:=w) (base:=base) F24 m24 (F24.binds λ_ _ _ _ _ _ us hl=>by obtain⟨_,_,rfl⟩:=ls2 hl;rfl) jaf jbw jaw z_len z_range z_tuple;have jdb:=jhn (P:=pR) (w:=w) (base:=base) F25 m25 (F25.binds λ_ _ _ _ _ _ us hl=>by obtain⟨_,_,rfl⟩:=ls2 hl;rfl) jaf jbw jaw z_len z_range z_tuple;have jd8:=jod (P:=pR) (w:=w) (base:=base) F26 m26 (F26.binds λ_ _ _ _ _ _ us hl=>by obtain⟨_,_,rfl⟩:=ls2 hl;rfl) jaf jaw z_len;have jhr:=jqc (P:=pR) (w:=w) (base:=base) F27 m27 (F27.binds λ_ _ _ _ _ _ us hl=>by obtain⟨_,_,_,rfl⟩:=ls3 hl;rfl) jb4 jaf jds jdb jd8 z_len;have jdr:=jix (P:=pR) (w:=w) (base:=base) F28 m28 (F28.binds λ_ _ _ _ _ _ us hl=>by obtain⟨_,rfl⟩:=ls1 hl;rfl) jhr jaf z_len z_list z_range z_tuple;have jcd:=jl2 (P:=pR) (w:=w) (base:=base) F29 m29 (F29.binds λ_ _ _ _ _ _ us hl=>by obtain⟨_,_,rfl⟩:=ls2 hl;rfl) jb4 jaf jbw jaw z_range z_tuple;have jga:=jof (P:=pR) (w:=w) (base:=base) F30 m30 (F30.binds λ_ _ _ _ _ _ us hl=>by obtain⟨_,rfl⟩:=ls1 hl;rfl) jaf jcd jdr z_len z_range z_tuple;have je9:=jl4 (P:=pR) (w:=w) (base:=base) F31 m31 (F31.binds λ_ _ _ _ _ _ us hl=>by obtain⟨_,_,_,rfl⟩:=ls3 hl;rfl) z_list z_set z_sorted;have je7:=jl1 (P:=pR) (w:=w) (base:=base) F32 m32 (F32.binds λ_ _ _ _ _ _ us hl=>by obtain⟨_,_,rfl⟩:=ls2 hl;rfl) jaf je9 jcd jaw z_len z_tuple;have jhp:=jp9 (P:=pR) (w:=w) (base:=base) F33 m33 (F33.binds λ_ _ _ _ _ _ us hl=>by obtain⟨_,_,_,rfl⟩:=ls3 hl;rfl) z_dict z_isinstance z_len z_str z_zip;have ja1:=jho (P:=pR) (w:=w) (base:=base) F34 m34 (F34.binds λ_ _ _ _ _ _ us hl=>by obtain⟨_,_,_,rfl⟩:=ls3 hl;rfl) z_len;have jc5:=jp8 (P:=pR) (w:=w) (base:=base) F35 m35 (F35.binds λ_ _ _ _ _ _ us hl=>by obtain⟨_,_,_,rfl⟩:=ls3 hl;rfl) jhp ja1 z_len z_range;have jhq:=jqa (P:=pR) (w:=w) (base:=base) F36 m36 (F36.binds λ_ _ _ _ _ _ us hl=>by obtain⟨_,_,_,rfl⟩:=ls3 hl;rfl) jc5 ja1;have jea:=jkh (P:=pR) (w:=w) (base:=base) F37 m37 (F37.binds λ_ _ _ _ _ _ us hl=>by obtain⟨_,_,rfl⟩:=ls2 hl;rfl) z_isinstance z_str z_tuple;have jb0:=jhm (P:=pR) (w:=w) (base:=base) F38 m38 (F38.binds λ_ _ _ _ _ _ us hl=>by obtain⟨_,_,_,rfl⟩:=ls3 hl;rfl) z_dict z_tuple;have jcs:=jiz (P:=pR) (w:=w) (base:=base) F39 m39 (F39.binds λ_ _ _ _ _ _ us hl=>by obtain⟨_,_,rfl⟩:=ls2 hl;rfl) z_dict;have jgb:=jog (P:=pR) (w:=w) (base:=base) F40 m40 (F40.binds λ_ _ _ _ _ _ us hl=>by obtain⟨_,_,_,rfl⟩:=ls3 hl;rfl) jea jc5 ja1 jcs jb0 z_dict z_len z_sorted z_tuple;have jd9:=jkg (P:=pR) (w:=w) (base:=base) F41 m41 (F41.binds λ_ _ _ _ _ _ us hl=>by obtain⟨_,_,rfl⟩:=ls2 hl;rfl) jhq z_len z_range;have jf9:=joc (P:=pR) (w:=w) (base:=base) F42 m42 (F42.binds λ_ _ _ _ _ _ us hl=>by obtain⟨_,_,_,_,rfl⟩:=ls4 hl;rfl) jaf jgb jd9 z_len z_range;have jgc:=joh (P:=pR) (w:=w) (base:=base) F43 m43 (F43.binds λ_ _ _ _ _ _ us hl=>by obtain⟨_,_,_,rfl⟩:=ls3 hl;rfl) jaw z_dict z_tuple;have je8:=jl3 (P:=pR) (w:=w) (base:=base) F44 m44 (F44.binds λ_ _ _ _ _ _ us hl=>by obtain⟨_,_,_,rfl⟩:=ls3 hl;rfl) jb4 jaf jgc ja1 z_len z_list z_range z_tuple;have jfa:=jl5 (P:=pR) (w:=w) (base:=base) F45 m45 (F45.binds λ_ _ _ _ _ _ us hl=>by obtain⟨_,rfl⟩:=ls1 hl;rfl) z_tuple;exact j6f F46 GT (F19.binds λ_ _ _ _ _ _ us hl=>by obtain⟨_,rfl⟩:=ls1 hl;rfl) m19 k19 jaf jfa je8 jga je7 jf9 h_woven z_len z_list z_range z_repr z_tuple
theorem walk {l:PySem.W.OpenLaw} {q:Bg} {loose:List Str} {XP:(Str->Option Af)->Heap->Prop} {YP:Br->Heap->Prop} {d:DefRec} {K:Params->Ai} (hn:l.most=some 63) (hdf:d.params.defaults=[])
  (hY:∀(w:Br) (h:Heap),YP w h->(K w.params).In h)
  (F:∀(w:Br) (mg:Str->Option Af) (fa:Addr) (h:Heap),(K w.params).In h->h.Ns Cp mg->mg d.name=some (.ref fa) ->
   ∃fd:Cb,(∀(s:Ak) (u:Af),BindsTo s fd ⟨[u],[]⟩ [("_law_script",u)])/\∀base:Heap,(K w.params).In base->base.Ns Cp mg->FnOk l.prog w (K w.params) mg base CX0 8 fa fd zql1 (DL.spLaw (K w.params))) :
  PySem.W.WalkO q loose XP YP l.row.toRowW d [] (λf vs=>PySem.call f vs) :=
 L2.walk_of (n:=63) (k:=8) (x:="_law_script") (CX:=λ_=>CX0) (sp:=λw=>DL.spLaw (K w.params)) hn (by decide) hdf ⟨rfl,by decide,by decide,rfl⟩ hY F (λ_ _ a ns hl _ hS=>⟨a,ns,rfl,hS,hl,λ_=>rfl⟩) λ_ _ _ _ _ z=>z
end Nb
open PySem PySem.W PyProof.Rows
set_option maxRecDepth 100000 in
set_option maxHeartbeats 0 in
theorem PySem.Challenge.cw_noteboard_k26_weavings_parted_holds : PySem.Challenge.rw_noteboard_k26_weavings_parted.Holds := by
 refine holds_law Nb.said_ λsaid=>?_;refine holds_open (q:=Nb.qq) (loose:=Nb.lO) (Xt:=Nb.xT) (XP:=XL Nb.qq []) (Yf:=Hook.obs Nb.hK) (Ya:=Hook.val Nb.hK) (YP:=Hook.says Nb.hK) (d:=Nb.dW) (kwd:=[]) (N:=3000) Nb.left_ (Hook.of Nb.hK) (Hook.keeps Nb.hK) (λs e=>xl_of s (Bool.and_eq_true_iff.mp e).1) XL.keeps (by kernel_rfl) (by kernel_rfl) (by kernel_rfl) (λs e=>recFacts_of (Bool.and_eq_true_iff.mp e).2) (by kernel_rfl) said (by decide +kernel) ⟨rfl,rfl,rfl,rfl,rfl,by decide +kernel⟩ ?hw ?hc
 (case hw=>w_witness2)
 exact Nb.walk (l:=PySem.Challenge.rw_noteboard_k26_weavings_parted) (by kernel_rfl) (by kernel_rfl) (λw h Y=>kIn_of Y) Nb.all_K
