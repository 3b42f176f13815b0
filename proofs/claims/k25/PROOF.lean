import PyProof.Rows.All
import Wide.All
import OpenK.AllK
import Wide.FinOn
import Lean
import PyProof.EqAt
import PyProof.EqKinds
import PyProof.TupleCall
import PyProof.AttrMissHeap
import PyProof.Rows.RegFStrParts
import PySem.Challenge.RW_noteboard_k25_whole_others_stay
set_option Elab.async false
set_option linter.all false
set_option maxRecDepth 100000
open PySem renaming wpAny_bind -> Aa, PyData -> Ae, Value -> Af, wpAny_pure -> Ai, Shared -> Aj, starEach -> Az, sizeLine -> A1, wpAny -> A3, model -> A9, boot_len -> Bc, Program -> Bg, wpAny_callSpecial?_slot -> Br, World -> Bt, wpAny_newObj_type -> By, compareOp -> B1, wpAny_call_entry -> B4, Around -> B6, bootBuiltins -> B7, wpAny_field -> Ca, wpAny_seqItems -> Ce, rawInt -> Ci, behindInMarks -> Co, FuncData -> Cp, IsPair -> Cs, wpAny_setField_rec -> Cu, wpAny_holding -> Cw, mainGlobals -> C2, wpAny_pyIter_tuple -> C7, wpAny_mono -> C8, wpAny_setField -> Dc, backTo -> Dd, strKind -> Dl, Builtin -> Dn, pyNext -> Do, assignEach -> Dp, wpAny_setEntries_of -> Dr, wpAny_attempt -> Dv, swapsWith -> Dw, codeAny_builtin -> D8, wpAny_truthy_bool -> D9, sizeLine_eq -> Ea, foldedSetIterable -> Ec, IsZip -> Eg, firstArgMember -> Em, binaryOp -> En, SetTable -> Eo, sysModules -> Es, wpAny_setState_of -> E1, cLine -> E2, mem_of_lookup -> E6, wpAny_rule -> Ff, isSubtype_type -> Fg, wpAny_isInstance -> Fj, plainId_quiet -> Fq, attributeBase -> Fs, codeAny -> Ft, tupleKind_room_in1 -> Fw, wpAny_typeOf -> Gf, wpAny_fieldsOf -> Gg, entryFor_of_tree -> Gn, wpAny_onRaise -> Gq, wpAny_updateSeq_pair -> Gr, sliceBounds -> Gs, wpAny_passesOwn -> Gu
open List renaming length_map -> Ab, getElem?_eq_getElem -> Ag, length_append -> An, mem_cons -> Ao, mem_cons_of_mem -> As, set -> Av, not_mem_nil -> Aw, length_cons -> Ax, getElem?_eq_some_iff -> Ay, getElem?_map -> A0, mem_cons_self -> A2, size_toArray -> A4, length_singleton -> A5, mem_of_getElem? -> A6, mem_append -> A7, mem_singleton -> Be, mem_append_right -> Bf, map_append -> Bm, find?_cons -> Bn, map_cons -> Bo, mem_map -> Bq, range -> Bs, append_assoc -> Bw, nil_append -> B8, append_nil -> B9, mem_iff_getElem? -> Cb, length_drop -> Cc, getElem?_set_ne -> Cf, mem_range -> Ck, mem_filter -> Cm, length_take -> Ct, map_congr_left -> Cz, any_cons -> C1, toArray -> C3, length_set -> C4, getElem_mem -> Df, any_eq_true -> Dg, replicate -> Dt, nodup_cons -> Dz, mem_append_left -> D1, map_eq_nil_iff -> Ed, getElem?_replicate -> Ee, not_lt -> Ei, take_of_length_le -> Ej, set_cons_zero -> Ek, map_map -> El, length_range -> Et, mem_of_mem_take -> Ey, map_eq_cons_iff -> Ez, getElem_inj -> E3, all_eq_true -> E4, getElem?_append_left -> E9, drop_eq_getElem_cons -> Fb, of_mem_zip -> Fk, getElem?_set_self' -> Fn, findIdx?_eq_some_iff_getElem -> Fp, map_nil -> Fu, length_filter_le -> Ga, getElem?_eq_none -> Gb, zipIdx_cons -> Gd, ext_getElem -> Ge, eq_nil_of_length_eq_zero -> Gj, flatMap_append -> Gp, mem_filterMap -> Gt, pairwise_singleton -> Gy
open PySem.Heap renaming get?_push_of_some -> Ad, lt_size -> Ap, get?_push_size -> Au, get?_update_self -> Bu, size_push -> Bx, SameBut -> C5, get?_update_other -> Dm
open PySem.W renaming Frag -> Ah, kia_one -> C0, keepIn -> C9, kas_rev -> Eb, fnOf -> Fl
open Bool renaming false_ne_true -> Ak, and_eq_true -> Cn, false_eq_true -> Cq, eq_iff_iff -> Gm
open Nat renaming le_refl -> Al, le_trans -> Ba, ne_of_lt -> Bb, zero_le -> Bj, lt_of_lt_of_le -> Bk, ne_of_gt -> Dq, lt_succ_of_lt -> D2, lt_irrefl -> Er, le_of_lt -> E8, lt_succ_self -> Gh
open And renaming intro -> Am
open Option.some renaming inj -> Aq
open Or renaming inl -> Ar, inr -> Bz
open PySem.Value renaming ref -> A8, none -> Bh, type -> Eh
open PySem.PyData renaming eqv -> Bd, canLay0 -> Cj, str -> Dj, depth -> Dy, int -> Ef, intsShort -> Ex, showable -> Fh, weight -> Fy, eqvAll -> Fz
open PySem.Heap.SameBut renaming update -> Bi
open Int renaming toNat_natCast -> Bp, natCast_nonneg -> Gv, emod_lt_of_pos -> Gw
open PySem.Builtin.SmallTypes renaming ownedTupleIsFree -> Bv, nextOf -> B3, ownedTupleHandOut -> Da
open PySem.Obj renaming data_mapFields -> B5, mapSeq -> Cr, isFreed_of_fields -> De, putSet -> D7, cls_mapFields -> Ew
open PyProof.Rows renaming seqObj -> Cg, callWith_type1 -> Di, slot_tuple_getitem -> Du
open PySem.Str renaming ofString -> Cv
open Array renaming length_toList -> Cy, getElem?_eq_getElem -> Dx, toList_inj -> Gc
open Sum renaming inr -> C6
open PySem.Around renaming under_plainId -> Dh
open Exists renaming intro -> Dk
open Option renaming isSome_iff_exists -> D0, map_eq_some_iff -> Fo
open True renaming intro -> D3
open PySem.SetTable renaming grown -> D4, below -> D5
open PySem.F renaming slot_zip_next -> D6, args_tuple_add_2 -> E7, slot_tuple_iterator_next -> Fc, entry_tuple_add -> Fi, slot_tuple_add -> Fm, plainAttrs_list -> Gx
open PySem.Builtin.Slice renaming slicePlaces -> Ep, sliceAdjust -> Gi
open PySem.Builtin.Tuple renaming tupleExact -> Eu
open PySem.AutoSeq1 renaming wpAny_loadPart' -> E5
open List.cons renaming inj -> Fv
open PySem.Builtin.List renaming listExtendWith -> Fx, listTooLong -> Gk
noncomputable section
namespace L2
open PySem PySem.Spec PyProof.Rows
abbrev Key:=Sum Int Str
def jpn:Key->Af->Bool
 |.inl k,v=>Value.isInt k v
 |.inr x,v=>Value.isStrOf x v
def keyH (w:Bt):Key->Int
 |.inl k=>hashInt k
 |.inr x=>hashStr w x
theorem jbp:∀{k:Key} {v:Af},jpn k v=true->(∃i t,k=Sum.inl i/\v=Value.int i t)\/(∃x t,k=C6 x/\v=Value.str x t)
 |.inl i,v,h=>by
  obtain⟨t,e⟩:=Value.isInt_shape (k:=i) (v:=v) h;exact .inl ⟨i,t,rfl,e⟩
 |.inr x,v,h=>by
  obtain⟨t,e⟩:=Value.isStrOf_shape (x:=x) (v:=v) h;exact .inr ⟨x,t,rfl,e⟩
theorem jul (i:Int) (t:Tok):jpn (.inl i) (.int i t)=true:=by simp[jpn,Value.isInt]
theorem juk (x:Str) (t:Tok):jpn (.inr x) (.str x t)=true:=by simp[jpn,Value.isStrOf]
theorem j4y (a b:Int):decide ((Sum.inl a:Key)=Sum.inl b)=(a==b):=by
 by_cases e:a=b
 ·subst e;simp
 ·have h:¬(Sum.inl a:Key)=Sum.inl b:=λq=>e (Sum.inl.inj q);rw[decide_eq_false h];exact(beq_eq_false_iff_ne.mpr e).symm
theorem j4v (a b:Str):decide ((C6 a:Key)=C6 b)=decide (a=b):=by
 by_cases e:a=b
 ·subst e;simp
 ·have h:¬(C6 a:Key)=C6 b:=λq=>e (Sum.inr.inj q);rw[decide_eq_false h,decide_eq_false e]
theorem j4x (a:Int) (b:Str):decide ((Sum.inl a:Key)=C6 b)=false:=decide_eq_false (λq=>nomatch q)
theorem j4w (a:Str) (b:Int):decide ((C6 a:Key)=Sum.inl b)=false:=decide_eq_false (λq=>nomatch q)
def jbo (prog:Bg) (w:Bt):PySem.KeyKind prog w Key where
 is:=jpn
 hash:=keyH w
 inj:=λv a b ha hb=>by
  rcases jbp ha with⟨i,t,rfl,rfl⟩ | ⟨x,t,rfl,rfl⟩
  ·rcases jbp hb with⟨j,u,rfl,e⟩ | ⟨y,u,rfl,e⟩
   ·injection e with e1 _;rw[e1]
   ·exact nomatch e
  ·rcases jbp hb with⟨j,u,rfl,e⟩ | ⟨y,u,rfl,e⟩
   ·exact nomatch e
   ·injection e with e1 _;rw[e1]
 byValue:=λk v h=>by
  rcases jbp h with⟨i,t,rfl,rfl⟩ | ⟨x,t,rfl,rfl⟩<;>rfl
 pyHash:=λhv h=>by
  rcases jbp hv with⟨i,t,rfl,rfl⟩ | ⟨x,t,rfl,rfl⟩
  ·exact wpAny_pyHash_int h
  ·exact wpAny_pyHash_str h
 eqBool:=λhu hv h=>by
  rcases jbp hu with⟨i,t,rfl,rfl⟩ | ⟨x,t,rfl,rfl⟩
  ·rcases jbp hv with⟨j,u,rfl,rfl⟩ | ⟨y,u,rfl,rfl⟩
   ·rw[j4y]at h;exact wpAny_eqBool_int h
   ·rw[j4x]at h;exact SeqAt.EqAt.int_str i t y u _ _ _ _ h
  ·rcases jbp hv with⟨j,u,rfl,rfl⟩ | ⟨y,u,rfl,rfl⟩
   ·rw[j4w]at h;exact SeqAt.EqAt.str_int x t j u _ _ _ _ h
   ·rw[j4v]at h;exact wpAny_eqBool_str h
 «strs»:=λk x t v h=>by
  rcases jbp h with⟨i,u,rfl,e⟩ | ⟨y,u,rfl,e⟩
  ·exact nomatch e
  ·injection e with e1 _;subst e1;cases v<;>rfl
theorem jpk (prog:Bg) (w:Bt) (i:Int) (t:Tok):(jbo prog w).is (.inl i) (.int i t)=true:=jul i t
theorem jpj (prog:Bg) (w:Bt) (x:Str) (t:Tok):(jbo prog w).is (.inr x) (.str x t)=true:=juk x t
inductive V where
 |non | bl (b:Bool) | int (i:Int) | str (x:Str) | byt (b:Array UInt8) | flt (b:UInt64) | ref (a:Addr) | ty (n:String)
 deriving DecidableEq
def RelV:V->Af->Prop
 |.non,u=>u=Bh
 |.bl b,u=>u=Value.bool b
 |.int i,u=>∃t,u=Value.int i t
 |.str x,u=>∃t,u=Value.str x t
 |.byt b,u=>∃t,u=Value.bytes b t
 |.flt b,u=>∃t,u=Value.float b t
 |.ref a,u=>u=A8 a
 |.ty n,u=>u=Eh n
abbrev Vals:List V->List Af->Prop:=Paired RelV
theorem Vals.length {xs:List V} {us:List Af} (r:Vals xs us):xs.length=us.length:=Paired.length r
theorem Vals.get:∀{xs:List V} {us:List Af} {i:Nat} {x:V},Vals xs us->xs[i]?=some x->∃u,us[i]?=some u/\RelV x u
 |_,_,_,_,.nil,e=>by simp at e
 |_,_,0,_,.cons r _,e=>by simp at e;subst e;exact⟨_,rfl,r⟩
 |_,_,i+1,x,.cons _ t,e=>by
  obtain⟨u,h1,h2⟩:=Vals.get (i:=i) (x:=x) t (by simpa using e);exact⟨u,by simpa using h1,h2⟩
theorem Vals.set {x:V} {u:Af} (r:RelV x u):∀{xs:List V} {us:List Af} (i:Nat),Vals xs us->Vals (xs.set i x) (us.set i u)
 |_,_,_,.nil=>.nil
 |_,_,0,.cons _ t=>.cons r t
 |_,_,i+1,.cons q t=>.cons q (Vals.set r i t)
theorem Vals.append:∀{xs ys:List V} {us ws:List Af},Vals xs us->Vals ys ws->Vals (xs++ys) (us++ws)
 |_,_,_,_,.nil,s=>s
 |_,_,_,_,.cons r t,s=>.cons r (Vals.append t s)
theorem Vals.take:∀{xs:List V} {us:List Af} (n:Nat),Vals xs us->Vals (xs.take n) (us.take n)
 |_,_,0,_=>.nil
 |_,_,_+1,.nil=>.nil
 |_,_,n+1,.cons r t=>.cons r (Vals.take n t)
theorem Vals.drop:∀{xs:List V} {us:List Af} (n:Nat),Vals xs us->Vals (xs.drop n) (us.drop n)
 |_,_,0,r=>r
 |_,_,_+1,.nil=>.nil
 |_,_,n+1,.cons _ t=>Vals.drop n t
def RelO:Option V->Option Af->Prop
 |some v,some u=>RelV v u
 |none,none=>True
 |_,_=>False
def KV {κ:Type}:List (κ×V)->List (κ×Af)->Prop:=Paired λ(p:κ×V) (q:κ×Af)=>p.1=q.1/\RelV p.2 q.2
def kV:Key->V
 |.inl i=>.int i
 |.inr x=>.str x
inductive HO where
 |lst (xs:List V)
 |tup (xs:List V)
 |dK (kvs:List (Key×V)) | dT (kvs:List (List Key×V))
 |set (S:Int->Bool) (n:Nat)
 |ins (C dx:Addr) (fs:List (Str×V))
 |own (x:Addr)
 |xd (fs:List (Str×V))
 |met (f x:Addr)
 |rng (lo hi:Int)
 |frz (o:Obj) (u:HO)
 |tbl (ps:Array Af)
 |ext (φ:Heap->Prop)
abbrev Hp:=Addr->Option HO
def upd (H:Hp) (a:Addr) (o:HO):Hp:=λb=>if b=a then some o else H b
theorem jap {H:Hp} {a:Addr} {o:HO}:upd H a o a=some o:=by unfold upd;rw[if_pos rfl]
theorem jao {H:Hp} {a b:Addr} {o:HO} (h:b≠a):upd H a o b=H b:=by unfold upd;rw[if_neg h]
theorem jsj {H:Hp} {a:Addr} {o u:HO}:upd (upd H a o) a u=upd H a u:=by
 funext b;unfold upd;split<;>rfl
theorem j4p {H:Hp} {a b:Addr} {o u:HO} (h:H a=some o) (h':H b=some u) (d:o≠u):a≠b:=by
 intro e;subst e;rw[h]at h';exact d (Aq h')
theorem jaj {H:Hp} {a b:Addr} {o:HO} (h:H a=some o) (h':H b=none):a≠b:=by
 intro e;subst e;rw[h]at h';cases h'
def IsTupP (h:Heap) (a:Addr) (items:Array Af):Prop:=∃o,h.get? a=some o/\o.cls=.type "tuple"/\(∃n,o.data=.seq items n)/\o.dict=none
theorem IsTupP.tup {h:Heap} {a:Addr} {items:Array Af} (x:IsTupP h a items):IsTup h a items:=let⟨o,e,c,d,_⟩:=x;⟨o,e,c,d⟩
theorem IsTupP.lt {h:Heap} {a:Addr} {items:Array Af} (x:IsTupP h a items):a < h.objs.size:=let⟨_,e,_⟩:=x;Ap e
theorem IsTupP.new (h:Heap) (items:Array Af):IsTupP (h.push {cls:=.type "tuple",data:=.seq items}) h.objs.size items:=⟨_,Au _ rfl,rfl,⟨_,rfl⟩,rfl⟩
section
variable (P:Bg) (w:Bt)
def ObjOk (H:Hp) (h:Heap) (a:Addr):HO->Prop
 |.lst xs=>xs.length<=A1/\∃(its:List Af) (n:Nat),Vals xs its/\h.get? a=some {cls:=.type "list",data:=.seq its.toArray n}
 |.tup xs=>xs.length<=A1/\∃its:List Af,Vals xs its/\IsTupP h a its.toArray
 |.dK kvs=>kvs.length<=A1/\(a==Es)=false/\∃vs,KV kvs vs/\h.DictOf (jbo P w) a vs
 |.dT kvs=>kvs.length<=A1/\(a==Es)=false/\∃xs:List (List Key×Addr×Af),
   Paired (λ(p:List Key×V) (q:List Key×Addr×Af)=>p.1=q.1/\H q.2.1=some (.tup (p.1.map kV))/\RelV p.2 q.2.2) kvs xs /\
   ∃o es ep,h.get? a=some o/\o.ExactDict/\o.data=.dict es ep/\es.toList=xs.map (entryOfKey (tupleKind (jbo P w)))/\(xs.map (·.1)).Nodup
 |.set S n=>h.SetOf (intKind P w) a S n
 |.ins C dx fs=>H dx=some (.own a)/\fs.length<=1000/\dx≠a/\h.get? a=some (PySem.W.instObj C dx) /\
   ∃mA,h.Ns1 dx mA/\(∀f,RelO (fs.lookup f) (mA f))/\PySem.Within mA (fs.map (·.1))
 |.own _=>∃o,h.get? a=some o
 |.xd fs=>∃mA,h.Ns1 a mA/\∀f,RelO (fs.lookup f) (mA f)
 |.rng lo hi=>∃t u v,h.get? a=some {cls:=.type "range",data:=.fields #[.int lo t,.int hi u,.int 1 v]}
 |.frz o u=>h.get? a=some o/\ObjOk H h a u
 |.tbl ps=>h.get? a=some {cls:=.none,data:=.fields ps}
 |.met f x=>h.get? a=some (PySem.W.methodObj (.ref f) (.ref x))
 |.ext φ=>φ h/\(∃o,h.get? a=some o)/\∀h1 h2:Heap,φ h1->(∀o,h1.get? a=some o->h2.get? a=some o)->φ h2
def HOk (H:Hp) (h:Heap):Prop:=∀a o,H a=some o->ObjOk P w H h a o
end
section
variable {P:Bg} {w:Bt} {H H':Hp} {h h':Heap} {a:Addr} {o:HO}
theorem ObjOk.lt (x:ObjOk P w H h a o):a < h.objs.size:=by
 cases o with
 |lst xs=>obtain⟨_,_,_,_,e⟩:=x;exact Ap e
 |tup xs=>obtain⟨_,_,_,p⟩:=x;exact p.lt
 |dK kvs=>obtain⟨_,_,_,_,o,_,_,e,_⟩:=x;exact Ap e
 |dT kvs=>obtain⟨_,_,_,_,o,_,_,e,_⟩:=x;exact Ap e
 |set S n=>obtain⟨o,_,_,_,e,_⟩:=x;exact Ap e
 |ins C dx fs=>obtain⟨_,_,_,e,_⟩:=x;exact Ap e
 |own y=>obtain⟨_,e⟩:=x;exact Ap e
 |xd fs=>obtain⟨_,⟨_,_,_,e,_⟩,_⟩:=x;exact Ap e
 |rng lo hi=>obtain⟨_,_,_,e⟩:=x;exact Ap e
 |frz ob u=>obtain⟨e,_⟩:=x;exact Ap e
 |tbl ps=>exact Ap (show h.get? a=some _ from x)
 |met f y=>exact Ap (show h.get? a=some _ from x)
 |ext φ=>obtain⟨_,⟨_,e⟩,_⟩:=x;exact Ap e
theorem Paired.mapP {α β:Type} {F G:α->β->Prop}:∀{l₁:List α} {l₂:List β},Paired F l₁ l₂->(∀a b,F a b->G a b)->Paired G l₁ l₂
 |_,_,.nil,_=>.nil
 |_,_,.cons r t,f=>.cons (f _ _ r) (Paired.mapP t f)
theorem ObjOk.stay (x:ObjOk P w H h a o) (k:∀b u,(b=a\/H b=some (.own a))->h.get? b=some u->h'.get? b=some u)
  (ho:∀b,H b=some (.own a)->H' b=some (.own a)) (ht:∀b xs,H b=some (.tup xs)->H' b=some (.tup xs)):ObjOk P w H' h' a o:=by
 induction o with
 |lst xs=>obtain⟨z,its,n,r,e⟩:=x;exact⟨z,its,n,r,k _ _ (.inl rfl) e⟩
 |tup xs=>obtain⟨z,its,r,ob,e,c⟩:=x;exact⟨z,its,r,ob,k _ _ (.inl rfl) e,c⟩
 |dK kvs=>obtain⟨z,y,vs,r,ob,es,ep,e,c⟩:=x;exact⟨z,y,vs,r,ob,es,ep,k _ _ (.inl rfl) e,c⟩
 |dT kvs =>
  obtain⟨z,y,xs,r,ob,es,ep,e,c⟩:=x;exact⟨z,y,xs,Paired.mapP r λp q z=>⟨z.1,ht _ _ z.2.1,z.2.2⟩,ob,es,ep,k _ _ (.inl rfl) e,c⟩
 |set S n=>obtain⟨ob,es,ep,t,e,c⟩:=x;exact⟨ob,es,ep,t,k _ _ (.inl rfl) e,c⟩
 |ins C dx fs =>
  obtain⟨d,z,ne,e,mA,⟨od,es,ep,e2,c⟩,r⟩:=x;exact⟨ho _ d,z,ne,k _ _ (.inl rfl) e,mA,⟨od,es,ep,k _ _ (.inr d) e2,c⟩,r⟩
 |own y=>obtain⟨ob,e⟩:=x;exact⟨ob,k _ _ (.inl rfl) e⟩
 |xd fs=>obtain⟨mA,⟨od,es,ep,e,c⟩,r⟩:=x;exact⟨mA,⟨od,es,ep,k _ _ (.inl rfl) e,c⟩,r⟩
 |rng lo hi=>obtain⟨t,u,v,e⟩:=x;exact⟨t,u,v,k _ _ (.inl rfl) e⟩
 |frz ob u ih=>obtain⟨e,q⟩:=x;exact⟨k _ _ (.inl rfl) e,ih q⟩
 |tbl ps =>
  have e:h.get? a=some {cls:=.none,data:=.fields ps}:=x;show h'.get? a=some {cls:=.none,data:=.fields ps};exact k a _ (.inl rfl) e
 |met f y =>
  have e:h.get? a=some (PySem.W.methodObj (.ref f) (.ref y)):=x;show h'.get? a=some (PySem.W.methodObj (.ref f) (.ref y));exact k a _ (.inl rfl) e
 |ext φ=>obtain⟨p,⟨o,e⟩,st⟩:=x;exact⟨st _ _ p λo q=>k _ _ (.inl rfl) q,⟨o,k _ _ (.inl rfl) e⟩,st⟩
theorem HOk.lt (x:HOk P w H h) (e:H a=some o):a < h.objs.size:=(x a o e).lt
theorem HOk.fresh (x:HOk P w H h) (e:h.objs.size<=a):H a=none:=by
 cases q:H a with
 |none=>rfl
 |some u=>exact absurd (Bk (x.lt q) e) (Er _)
theorem HOk.kept (x:HOk P w H h) (k:∀b u,h.get? b=some u->h'.get? b=some u):HOk P w H h':=λa o e =>
 (x a o e).stay (λb u _ q=>k b u q) (λ_ q=>q) λ_ _ q=>q
theorem HOk.laid (x:HOk P w H h) (k:∀b u,h.get? b=some u->h'.get? b=some u) (hp:h.objs.size<=a) (new:ObjOk P w (upd H a o) h' a o):HOk P w (upd H a o) h':=λb u e=>by
 have hn:=x.fresh hp;by_cases hb:b=a
 ·subst hb;rw[jap]at e;cases e;exact new
 ·rw[jao hb]at e;exact(x b u e).stay (λc v _ q=>k c v q) (λc q=>by rw[jao (jaj q hn)];exact q) λc xs q=>by rw[jao (jaj q hn)];exact q
end
def Rd (H:Hp) (a:Addr) (u:HO):Prop:=H a=some u\/∃o,H a=some (.frz o u)
theorem Rd.ok {P:Bg} {w:Bt} {H:Hp} {h:Heap} {a:Addr} {u:HO} (r:Rd H a u) (x:HOk P w H h):ObjOk P w H h a u:=by
 rcases r with r | ⟨o,r⟩
 ·exact x a u r
 ·obtain⟨_,q⟩:=x a _ r;exact q
def Mut:Option HO->Prop
 |some (.lst _)=>True
 |some (.dK _)=>True
 |some (.dT _)=>True
 |some (.set _ _)=>True
 |some (.ins _ _ _)=>True
 |some (.ext _)=>True
 |_=>False
section
variable {P:Bg} {w:Bt} {H:Hp} {h h':Heap} {x e:Addr} {o':HO}
theorem HOk.write (ok:HOk P w H h) (mu:Mut (H x)) (he:e=x\/H e=some (.own x)) (k:∀b u,b≠e->h.get? b=some u->h'.get? b=some u) (heo:∃u,h'.get? e=some u)
  (new:ObjOk P w (upd H x o') h' x o'):HOk P w (upd H x o') h':=λb u q=>by
 have nown:∀c y,H c=some (.own y)->c≠x:=λc y r z=>by subst z;rw[r]at mu;exact mu
 have ntup:∀c xs,H c=some (.tup xs)->c≠x:=λc xs r z=>by subst z;rw[r]at mu;exact mu
 by_cases hb:b=x
 ·subst hb;rw[jap]at q;cases q;exact new
 ·rw[jao hb]at q;by_cases hbe:b=e
  ·have q':H b=some (.own x):=by
    rcases he with z | z
    ·exact absurd (hbe.trans z) hb
    ·rw[hbe];exact z
   rw[q]at q';cases q';obtain⟨v,hv⟩:=heo;exact⟨v,by rw[hbe];exact hv⟩
  ·refine(ok b u q).stay (λc v hc r=>k c v ?_ r) (λc r=>by rw[jao (nown c b r)];exact r) λc xs r=>by rw[jao (ntup c xs r)];exact r
   rcases hc with rfl | hc
   ·exact hbe
   ·rintro rfl
    rcases he with z | z
    ·exact nown c b hc z
    ·rw[hc]at z;cases z;exact hb rfl
end
structure Un (fs ex:List Addr) (H H':Hp) (h h':Heap):Prop where
 keep:∀b o,h.get? b=some o->H b=none->b∉fs->b∉ex->h'.get? b=some o
 slot:∀b o,h.get? b=some o->H b=none->b∈fs->b∉ex->∃sl,h'.get? b=some {o with slots:=sl}
 free:∀b o,h.get? b=some o->H b=none->b∉ex->H' b=none
 there:∀b o,h.get? b=some o->b∉ex->∃o',h'.get? b=some o'
 tups:∀b xs,H b=some (.tup xs)->H' b=some (.tup xs)
 frzs:∀b o u,H b=some (.frz o u)->H' b=some (.frz o u)
 tbls:∀b ps,H b=some (.tbl ps)->∃more,H' b=some (.tbl (ps++more))
section
variable {fs fs' ex ex':List Addr} {H H1 H2:Hp} {h h1 h2 h':Heap} {a x e:Addr} {o:HO}
theorem Un.any (u:Un fs ex H H1 h h1) {b:Addr} {ob:Obj} (q:h.get? b=some ob) (n:H b=none) (hx:b∉ex):∃sl,h1.get? b=some {ob with slots:=sl}:=by
 by_cases hb:b∈fs
 ·exact u.slot b ob q n hb hx
 ·exact⟨ob.slots,u.keep b ob q n hb hx⟩
theorem Un.kept (k:∀b u,h.get? b=some u->h'.get? b=some u):Un fs ex H H h h' :=
 ⟨λb ob q _ _ _=>k b ob q,λb ob q _ _ _=>⟨ob.slots,k b ob q⟩,λ_ _ _ n _=>n,λb ob q _=>⟨ob,k b ob q⟩,λ_ _ q=>q,λ_ _ _ q=>q,λ_ ps q=>⟨#[],by rw[q];simp⟩⟩
theorem Un.refl:Un fs ex H H h h:=Un.kept λ_ _ q=>q
theorem Un.laid (k:∀b u,h.get? b=some u->h'.get? b=some u) (hp:h.objs.size<=a) (hn:H a=none):Un fs ex H (upd H a o) h h' where
 keep:=λb u q _ _ _=>k b u q
 slot:=λb u q _ _ _=>⟨u.slots,k b u q⟩
 free:=λb u q n _=>by rw[jao (Bb (Bk (Ap q) hp))];exact n
 there:=λb u q _=>⟨u,k b u q⟩
 tups:=λb xs q=>by rw[jao (jaj q hn)];exact q
 frzs:=λb u xs q=>by rw[jao (jaj q hn)];exact q
 tbls:=λb ps q=>⟨#[],by rw[jao (jaj q hn),q];simp⟩
theorem Un.write (mu:Mut (H x)) (he:e=x\/H e=some (.own x)) (k:∀b u,b≠e->h.get? b=some u->h'.get? b=some u) (heo:∃u,h'.get? e=some u):Un fs ex H (upd H x o) h h':=by
 have hx:∀b,H b=none->b≠x:=λb n z=>by subst z;rw[n]at mu;exact mu
 have hb:∀b,H b=none->b≠e:=λb n z=>by
  subst z;rcases he with r | r
  ·exact hx b n r
  ·rw[n]at r;cases r
 have hm:∀b u,H b=some u->¬Mut (some u)->b≠x:=λb u q nm z=>by subst z;rw[q]at mu;exact nm mu
 refine⟨λb u q n _ _=>k b u (hb b n) q,λb u q n _ _=>⟨u.slots,k b u (hb b n) q⟩,λb u q n _=>by rw[jao (hx b n)];exact n,λb u q _=>?_,
  λb xs q=>by rw[jao (hm b _ q λz=>z)];exact q,λb u xs q=>by rw[jao (hm b _ q λz=>z)];exact q,λb ps q=>⟨#[],by rw[jao (hm b _ q λz=>z),q];simp⟩⟩
 by_cases hbe:b=e
 ·subst hbe;exact heo
 ·exact⟨u,k b u hbe q⟩
end
def trk (h:Heap) (H:Hp):List Addr:=(Bs h.objs.size).filter λa=>(H a).isSome
def hidT (h:Heap) (H:Hp):Heap:=PySem.W.hideAll h (trk h H)
theorem juv (h:Heap) (H:Hp):(hidT h H).objs.size=h.objs.size:=PySem.W.hideAll_size _ _
theorem jxt {h:Heap} {H:Hp} {b:Addr} {o:Obj} (e:h.get? b=some o) (n:H b=none):(hidT h H).get? b=some o :=
 PySem.W.hideAll_get _ e λhm=>by
  have q:(H b).isSome=true:=(Cm.mp hm).2;rw[n]at q;simp at q
theorem j1q {h:Heap} {H:Hp} {b:Addr} {o:Obj} (e:(hidT h H).get? b=some o):h.get? b=some o/\H b=none:=by
 have e':h.get? b=some o:=PySem.W.of_hideAll (trk h H) e;refine⟨e',?_⟩;cases q:H b with
 |none=>rfl
 |some x =>
  have hm:b∈trk h H:=Cm.mpr ⟨Ck.mpr (Ap e'),by simp[q]⟩;have z:(hidT h H).get? b=none:=PySem.W.hideAll_none (trk h H) hm;rw[z]at e;cases e
def j2p (g h:Heap) (L:Addr):List (Addr×Obj):=(Bs h.objs.size).filterMap λa=>if a=L\/(g.get? a).isSome=true then none else(h.get? a).map λo=>(a,o)
def rest (g h:Heap) (L d:Addr):List (Addr×Obj):=(j2p g h L).filter λp=>decide (p.1≠d)
structure Mod (K:Ah) (mg:Str->Option Af) (base:Heap):Prop where
 kin:K.In base
 glob:base.Ns C2 mg
 blt:∃mb,base.Ns builtinsNs mb/\∀x:Str,x≠"__name__"->mb x=B7 x
 nolimit:base.NoLimit
structure Cx where
 prog:Bg
 w:Bt
 K:Ah
 mg:Str->Option Af
 base:Heap
 A:B6
 N:List Str
 s₀:Aj
 H₀:Hp
 env:Env
 outer:List Env
 stack:List Env
 ex:List Addr
 fn:Str->Bool
 calm:Bool
 pn:List (Addr×Obj)
 xe:Af->Aj->Prop
def frs (l:List Env):List Addr:=l.filterMap (·.frame)
abbrev Cx.fs (X:Cx):List Addr:=frs X.outer
def Vis (sc:Scope) (x:Str):Prop:=sc.names.lookup x=some .local\/sc.names.lookup x=some .cell\/sc.names.lookup x=some .free
def Loc (sc:Scope) (x:Str):Prop:=sc.names.lookup x=some .local\/sc.names.lookup x=some .cell
def Look (env:Env) (h:Heap) (m:Str->Option Af) (x:Str) (u:Af):Prop :=
 (env.kindOf x=some .local/\m x=some u)\/((env.kindOf x=some .cell\/env.kindOf x=some .free)/\∃c,env.cells.lookup x=some c/\h.IsCell c (some u))
structure Cx.Ok (X:Cx):Prop where
 mod:Mod X.K X.mg X.base
 kind:X.env.scope.kind=.function
 glob:X.env.globals=C2
 blt:X.env.builtins=builtinsNs
 above:X.s₀.heap.objs.size<=X.env.locals
 inj:∀x y c,X.env.cells.lookup x=some c->X.env.cells.lookup y=some c->x=y
 has:∀x,(X.env.kindOf x=some .cell\/X.env.kindOf x=some .free)->∃c,X.env.cells.lookup x=some c
 cab:∀x c,X.fn x=true->X.env.cells.lookup x=some c->X.s₀.heap.objs.size<=c
 hd:X.calm=true->X.A.handled=none
 frames:X.A.frames=some X.stack
 stk:X.stack=X.outer\/(X.stack=X.env::X.outer/\X.env.frame=some X.env.locals)
 exf:∀b∈X.ex,b≠X.env.locals/\∀x c,X.env.cells.lookup x=some c->c≠b
 bs:∀b o,X.base.get? b=some o->X.s₀.heap.get? b=some o/\X.H₀ b=none
 bsz:X.base.objs.size<=X.s₀.heap.objs.size
 noex:∀b o,X.base.get? b=some o->b∉X.ex
 exfs:∀b∈X.ex,b∉X.fs
 funs:X.s₀.heap.FunFrames X.base X.outer
 frf:∀b∈X.fs,X.H₀ b=none
structure Inv (X:Cx) (pins:List (Addr×Obj)) (σ:List (Option V)) (H:Hp) (s:Aj):Prop where
 ok:X.Ok
 os:s.os=X.s₀.os
 bare:AllBare s.gens
 base:Un X.fs X.ex X.H₀ H X.s₀.heap s.heap
 loc:∃m,s.heap.Ns X.env.locals m/\∀(i:Nat) (x:Str) (v:V),X.N[i]?=some x->σ[i]?=some (some v)->Vis X.env.scope x->∃u,RelV v u/\Look X.env s.heap m x u
 cell:∀x c,X.env.cells.lookup x=some c->∃v,s.heap.IsCell c v
 free:H X.env.locals=none
 freeC:∀x c,X.env.cells.lookup x=some c->H c=none
 pin:∀p∈X.pn++pins,s.heap.get? p.1=some p.2/\H p.1=none/\p.1≠X.env.locals/\p.1∉X.fs/\∀v,p.2.data≠.cell v
 hok:HOk X.prog X.w H s.heap
 len:σ.length=X.N.length
section
variable {X:Cx} {pins:List (Addr×Obj)} {σ:List (Option V)} {H H':Hp} {s:Aj} {h':Heap}
theorem Cx.Ok.nofr (ok:X.Ok) {b:Addr} {o:Obj} (e:X.base.get? b=some o):b∉X.fs:=λhb=>by
 have:=(ok.funs.mem hb).1;rw[e]at this;cases this
theorem Inv.bs (I:Inv X pins σ H s):∀b o,X.base.get? b=some o->s.heap.get? b=some o/\H b=none:=λb o e =>
 ⟨I.base.keep b o (I.ok.bs b o e).1 (I.ok.bs b o e).2 (I.ok.nofr e) (I.ok.noex b o e),I.base.free b o (I.ok.bs b o e).1 (I.ok.bs b o e).2 (I.ok.noex b o e)⟩
theorem Inv.bk (I:Inv X pins σ H s):∀b o,X.base.get? b=some o->s.heap.get? b=some o:=λb o e=>(I.bs b o e).1
theorem Inv.mod (I:Inv X pins σ H s):Mod X.K X.mg X.base:=I.ok.mod
theorem Inv.kIn (I:Inv X pins σ H s):X.K.In s.heap:=I.ok.mod.kin.keeps I.bk
theorem Inv.lt (I:Inv X pins σ H s):X.env.locals < s.heap.objs.size:=let⟨_,hn,_⟩:=I.loc;hn.lt
theorem Inv.sz (I:Inv X pins σ H s):X.s₀.heap.objs.size<=s.heap.objs.size:=Ba I.ok.above (E8 I.lt)
theorem Inv.nofs (I:Inv X pins σ H s) {a:Addr} (h:s.heap.objs.size<=a):a∉X.fs:=λhb=>by
 obtain⟨_,o,ho,_⟩:=I.ok.funs.mem hb;exact absurd (Bk (Ap ho) (Ba I.sz h)) (Er _)
theorem Inv.cne (I:Inv X pins σ H s):∀x c,X.env.cells.lookup x=some c->c≠X.env.locals:=λx c e z=>by
 obtain⟨v,o,ho,hd⟩:=I.cell x c e;obtain⟨m,⟨o',es,ep,ho',hd',_⟩,_⟩:=I.loc;rw[z,ho']at ho;cases ho;rw[hd']at hd;cases hd
theorem Inv.funs (I:Inv X pins σ H s):s.heap.FunFrames X.base X.outer:=by
 have all:∀(l:List Env),(∀b∈frs l,b∈X.fs)->X.s₀.heap.FunFrames X.base l->s.heap.FunFrames X.base l:=by
  intro l
  induction l with
  |nil=>intro _ _;trivial
  |cons env r ih =>
   intro hs hl;obtain⟨hk,⟨L,o,hf,hn,ho,hd⟩,hr⟩:=hl;have hL:L∈X.fs:=hs L (by unfold frs;rw[List.filterMap_cons,hf];exact A2);obtain⟨sl,e⟩:=I.base.slot L o ho (I.ok.frf L hL) hL λz=>I.ok.exfs L z hL;exact⟨hk,⟨L,_,hf,hn,e,hd⟩,ih (λb hb=>hs b (by unfold frs;rw[List.filterMap_cons,hf];exact As _ hb)) hr⟩
 exact all X.outer (λ_ hb=>hb) I.ok.funs
theorem Inv.stack (I:Inv X pins σ H s):s.heap.FunFrames X.base X.stack:=by
 rcases I.ok.stk with e | ⟨e,hf⟩
 ·rw[e];exact I.funs
 ·rw[e];obtain⟨m,hn,_⟩:=I.loc;refine .cons (by rw[I.ok.kind];decide) hf hn ?_ I.funs;exact Heap.get?_none_of_le (Ba I.ok.bsz I.ok.above)
theorem Inv.stkSub (I:Inv X pins σ H s):∀b∈frs X.stack,b∈X.env.locals::X.fs:=λb hb=>by
 rcases I.ok.stk with e | ⟨e,hf⟩
 ·rw[e]at hb;exact As _ hb
 ·rw[e]at hb;unfold frs at hb;rw[List.filterMap_cons,hf]at hb;exact hb
theorem Inv.stkFree (I:Inv X pins σ H s):∀b∈frs X.stack,H b=none:=λb hb=>by
 rcases Ao.mp (I.stkSub b hb)with e | hb
 ·rw[e];exact I.free
 ·obtain⟨_,o,ho,_⟩:=I.ok.funs.mem hb;exact I.base.free b o ho (I.ok.frf b hb) λz=>I.ok.exfs b z hb
theorem Inv.step {g':Array GenState} {t':Nat} {d':Drawn} {ch:List Addr} (I:Inv X pins σ H s)
  (hch:∀b∈ch,(b∈X.ex\/X.s₀.heap.objs.size<=b)/\b≠X.env.locals/\(∀x c,X.env.cells.lookup x=some c->c≠b)/\∀p∈X.pn++pins,p.1≠b)
  (keep:∀b o,b≠X.env.locals->b∉X.fs->b∉ch->s.heap.get? b=some o->H b=none->h'.get? b=some o)
  (slot:∀b o,b≠X.env.locals->b∈X.fs->b∉ch->s.heap.get? b=some o->H b=none->∃sl,h'.get? b=some {o with slots:=sl}) (free:∀b o,b∉ch->s.heap.get? b=some o->H b=none->H' b=none)
  (there:∀b o,b∉ch->s.heap.get? b=some o->∃o',h'.get? b=some o')
  (tups:∀b xs,H b=some (.tup xs)->H' b=some (.tup xs)) (frzs:∀b o u,H b=some (.frz o u)->H' b=some (.frz o u)) (tbls:∀b ps,H b=some (.tbl ps)->∃more,H' b=some (.tbl (ps++more)))
  (ns:∀m,s.heap.Ns X.env.locals m->h'.Ns X.env.locals m) (hok:HOk X.prog X.w H' h') (hg:AllBare g') :
  Inv X pins σ H' {s with heap:=h',gens:=g',drawn:=d',toks:=t'}:=by
 have neL:∀b o,X.s₀.heap.get? b=some o->b≠X.env.locals:=λb o e=>Bb (Bk (Ap e) I.ok.above);have neC:∀b o,X.s₀.heap.get? b=some o->b∉X.ex->b∉ch:=λb o e hx hb=>by
  rcases(hch b hb).1 with z | z
  ·exact hx z
  ·exact absurd (Bk (Ap e) z) (Er _)
 have cellK:∀x c,X.env.cells.lookup x=some c->∀v,s.heap.IsCell c v->h'.IsCell c v:=λx c e v ⟨o,ho,hd⟩=>by
  have nch:c∉ch:=λz=>(hch c z).2.2.1 x c e rfl;by_cases hc:c∈X.fs
  ·obtain⟨sl,q⟩:=slot c o (I.cne x c e) hc nch ho (I.freeC x c e);exact⟨_,q,hd⟩
  ·exact⟨o,keep c o (I.cne x c e) hc nch ho (I.freeC x c e),hd⟩
 refine⟨I.ok,I.os,hg,⟨λb o e n hb hx=>?_,λb o e n hb hx=>?_,λb o e n hx=>?_,λb o e hx=>?_,λb xs e=>tups b xs (I.base.tups b xs e),λb o xs e=>frzs b o xs (I.base.frzs b o xs e),λb ps e=>?_⟩,?_,λx c e=>?_,?_,λx c e=>?_,λp hp=>?_,hok,I.len⟩
 ·exact keep b o (neL b o e) hb (neC b o e hx) (I.base.keep b o e n hb hx) (I.base.free b o e n hx)
 ·obtain⟨sl,e1⟩:=I.base.slot b o e n hb hx;obtain⟨sl',e2⟩:=slot b _ (neL b o e) hb (neC b o e hx) e1 (I.base.free b o e n hx);exact⟨sl',e2⟩
 ·obtain⟨o',e1⟩:=I.base.there b o e hx;exact free b o' (neC b o e hx) e1 (I.base.free b o e n hx)
 ·obtain⟨o',e1⟩:=I.base.there b o e hx;exact there b o' (neC b o e hx) e1
 ·obtain⟨m1,e1⟩:=I.base.tbls b ps e;obtain⟨m2,e2⟩:=tbls b _ e1;exact⟨m1++m2,by rw[e2,Array.append_assoc]⟩
 ·obtain⟨m,hn,hl⟩:=I.loc;refine⟨m,ns m hn,λi x v e1 e2 e3=>?_⟩;obtain⟨u,r,l⟩:=hl i x v e1 e2 e3;refine⟨u,r,?_⟩;rcases l with l | ⟨k,c,e,z⟩
  ·exact .inl l
  ·exact .inr ⟨k,c,e,cellK x c e _ z⟩
 ·obtain⟨v,z⟩:=I.cell x c e;exact⟨v,cellK x c e v z⟩
 ·obtain⟨m,⟨o,_,_,ho,_⟩,_⟩:=I.loc;exact free _ o (λz=>(hch _ z).2.1 rfl) ho I.free
 ·obtain⟨v,o,ho,hd⟩:=I.cell x c e;exact free c o (λz=>(hch c z).2.2.1 x c e rfl) ho (I.freeC x c e)
 ·obtain⟨e,n,ne,nf,d⟩:=I.pin p hp;have nch:p.1∉ch:=λz=>(hch p.1 z).2.2.2 p hp rfl;exact⟨keep p.1 p.2 ne nf nch e n,free p.1 p.2 nch e n,ne,nf,d⟩
theorem Inv.un {t':Nat} (I:Inv X pins σ H s) (u:Un X.fs [] H H' s.heap h') (hok:HOk X.prog X.w H' h'):Inv X pins σ H' {s with heap:=h',toks:=t'}:=by
 obtain⟨m,⟨o,es,ep,ho,r⟩,_⟩:=id I.loc;obtain⟨sl,hL⟩:=u.any ho I.free (by simp);exact I.step (g':=s.gens) (d':=s.drawn) (ch:=[]) (λ_ z=>nomatch z) (λb o _ hb _ e n=>u.keep b o e n hb (by simp)) (λb o _ hb _ e n=>u.slot b o e n hb (by simp)) (λb o _ e n=>u.free b o e n (by simp)) (λb o _ e=>u.there b o e (by simp)) u.tups u.frzs u.tbls (λm' hm=>by
  obtain⟨o',es',ep',ho',r'⟩:=hm;rw[ho]at ho';cases ho';exact⟨_,es',ep',hL,r'⟩) hok I.bare
theorem Inv.call {g':Array GenState} {t':Nat} {d':Drawn} {ch:List Addr} (I:Inv X pins σ H s) (u:Un (frs X.stack) ch H H' s.heap h') (hok:HOk X.prog X.w H' h') (hg:AllBare g')
  (hch:∀b∈ch,(b∈X.ex\/X.s₀.heap.objs.size<=b)/\b≠X.env.locals/\(∀x c,X.env.cells.lookup x=some c->c≠b)/\∀p∈X.pn++pins,p.1≠b) :
  Inv X pins σ H' {s with heap:=h',gens:=g',drawn:=d',toks:=t'}:=by
 obtain⟨m,⟨o,es,ep,ho,r⟩,_⟩:=id I.loc;obtain⟨sl,hL⟩:=u.any ho I.free λz=>(hch _ z).2.1 rfl;exact I.step (ch:=ch) hch (λb o hL hb hc e n=>u.keep b o e n (λz=>(Ao.mp (I.stkSub b z)).elim hL hb) hc) (λb o _ _ hc e n=>u.any e n hc) (λb o hc e n=>u.free b o e n hc) (λb o hc e=>u.there b o e hc) u.tups u.frzs u.tbls (λm' hm=>by
  obtain⟨o',es',ep',ho',r'⟩:=hm;rw[ho]at ho';cases ho';exact⟨_,es',ep',hL,r'⟩) hok hg
theorem Inv.turned {t':Nat} {it:Addr} (I:Inv X pins σ H s) (k:∀b o,b≠it->s.heap.get? b=some o->h'.get? b=some o) (hn:H it=none) (hL:it≠X.env.locals)
  (h1:it∈X.ex\/X.s₀.heap.objs.size<=it) (h2:∀x c,X.env.cells.lookup x=some c->c≠it) (h3:∀p∈X.pn++pins,p.1≠it):Inv X pins σ H {s with heap:=h',toks:=t'}:=by
 have nit:∀b u,H b=some u->b≠it:=λb u e z=>by rw[z,hn]at e;cases e
 refine I.step (g':=s.gens) (d':=s.drawn) (ch:=[it]) (λb hb=>?_) (λb o _ _ hc e _=>k b o (λz=>hc (by simp[z])) e) (λb o _ _ hc e _=>⟨o.slots,k b o (λz=>hc (by simp[z])) e⟩) (λ_ _ _ _ n=>n)
  (λb o hc e=>⟨o,k b o (λz=>hc (by simp[z])) e⟩) (λ_ _ e=>e) (λ_ _ _ e=>e) (λb ps e=>⟨#[],by rw[e];simp⟩) (λm hm=>?_) (λb u e=>?_) I.bare
 ·have e:b=it:=by simpa using hb
  subst e;exact⟨h1,hL,h2,h3⟩
 ·obtain⟨o,es,ep,ho,r⟩:=hm;exact⟨o,es,ep,k _ o (Ne.symm hL) ho,r⟩
 ·refine(I.hok b u e).stay (λc v hc q=>k c v ?_ q) (λ_ q=>q) λ_ _ q=>q;rcases hc with z | z
  ·rw[z];exact nit b u e
  ·exact nit c _ z
theorem Inv.tok (I:Inv X pins σ H s) (t:Nat):Inv X pins σ H {s with toks:=t}:=I.un (h':=s.heap) (t':=t) Un.refl I.hok
theorem Inv.kept {t':Nat} (I:Inv X pins σ H s) (k:∀b u,s.heap.get? b=some u->h'.get? b=some u):Inv X pins σ H {s with heap:=h',toks:=t'}:=I.un (Un.kept k) (I.hok.kept k)
theorem Inv.laid {a:Addr} {o:HO} {t':Nat} (I:Inv X pins σ H s) (k:∀b u,s.heap.get? b=some u->h'.get? b=some u) (hp:s.heap.objs.size<=a) (new:ObjOk X.prog X.w (upd H a o) h' a o) :
  Inv X pins σ (upd H a o) {s with heap:=h',toks:=t'}:=I.un (Un.laid k hp (I.hok.fresh hp)) (I.hok.laid k hp new)
theorem Inv.write {x e:Addr} {o:HO} {t':Nat} (I:Inv X pins σ H s) (mu:Mut (H x)) (he:e=x\/H e=some (.own x)) (k:∀b u,b≠e->s.heap.get? b=some u->h'.get? b=some u) (heo:∃u,h'.get? e=some u)
  (new:ObjOk X.prog X.w (upd H x o) h' x o):Inv X pins σ (upd H x o) {s with heap:=h',toks:=t'}:=I.un (Un.write mu he k heo) (I.hok.write mu he k heo new)
theorem Inv.pins_of {pins':List (Addr×Obj)} (I:Inv X pins σ H s) (h:∀p∈pins',s.heap.get? p.1=some p.2/\H p.1=none/\p.1≠X.env.locals/\p.1∉X.fs/\∀v,p.2.data≠.cell v):Inv X pins' σ H s :=
 ⟨I.ok,I.os,I.bare,I.base,I.loc,I.cell,I.free,I.freeC,λp hp=>(A7.mp hp).elim (λz=>I.pin p (D1 _ z)) (h p),I.hok,I.len⟩
theorem jqt {N:List Str} (hN:N.Nodup) {i j:Nat} {x:Str} (a:N[i]?=some x) (b:N[j]?=some x):i=j:=by
 obtain⟨h1,e1⟩:=Ay.mp a;obtain⟨h2,e2⟩:=Ay.mp b;exact(E3 hN).mp (e1.trans e2.symm)
theorem jng {M:Model} {A:B6} {E:Af->Aj->Prop} {i:Nat} {x:Str} {v:V} {u:Af} {Q:Unit->Aj->Prop} (I:Inv X pins σ H s) (hN:X.N.Nodup) (hi:X.N[i]?=some x) (hx:Loc X.env.scope x) (r:RelV v u)
  (h:∀s',Inv X pins (σ.set i (some v)) H s'->(∃a,C5 a s.heap s'.heap/\(a=X.env.locals\/X.env.cells.lookup x=some a))->Q () s') (hf:X.fn x=true\/X.env.scope.names.lookup x=some .local:=by first | exact .inl rfl | exact .inr rfl | assumption):A3 M A (storeName X.env x u) Q E s:=by
 obtain⟨m,hn,hl⟩:=id I.loc;have hcls:(X.env.scope.kind==.class || (X.env.scope.kind==.module&&X.env.locals != X.env.globals))=false:=by rw[I.ok.kind];rfl
 have hiσ:i < σ.length:=by rw[I.len];exact(Ay.mp hi).1
 have cne:=I.cne;have tracked:∀{a:Addr} {h':Heap},(∃o,s.heap.get? a=some o/\H a=none)->C5 a s.heap h'->HOk X.prog X.w H h':=λ{a h'} ha hs b ob e=>by
  obtain⟨_,_,hfree⟩:=ha;refine(I.hok b ob e).stay (λc w' hc q=>(hs.2 c ?_).trans q) (λ_ q=>q) λ_ _ q=>q
  rintro rfl
  rcases hc with rfl | hc
  ·rw[hfree]at e;cases e
  ·rw[hfree]at hc;cases hc
 rcases hx with hk | hk
 ·refine wpAny_storeName_local hk hn (λh' hn' hs=>?_) hcls;obtain⟨oL,_,_,hoL,_⟩:=id hn;refine h _ ⟨I.ok,I.os,I.bare,⟨λb o e n hb hx=>?_,λb o e n hb hx=>?_,I.base.free,λb o e hx=>?_,I.base.tups,I.base.frzs,I.base.tbls⟩,⟨_,hn',λj y v' e1 e2 e3=>?_⟩,λy c e=>?_,I.free,I.freeC,λp hp=>?_,tracked ⟨oL,hoL,I.free⟩ hs,by simpa using I.len⟩ ⟨_,hs,.inl rfl⟩
  ·exact(hs.2 b (Bb (Bk (Ap e) I.ok.above))).trans (I.base.keep b o e n hb hx)
  ·obtain⟨sl,e1⟩:=I.base.slot b o e n hb hx;exact⟨sl,(hs.2 b (Bb (Bk (Ap e) I.ok.above))).trans e1⟩
  ·obtain⟨o',e1⟩:=I.base.there b o e hx;exact⟨o',(hs.2 b (Bb (Bk (Ap e) I.ok.above))).trans e1⟩
  ·by_cases hj:j=i
   ·subst hj;rw[hi]at e1;cases e1;rw[List.getElem?_set_self hiσ]at e2;cases e2;exact⟨u,r,.inl ⟨hk,by simp⟩⟩
   ·rw[Cf (Ne.symm hj)]at e2;obtain⟨u',r',q⟩:=hl j y v' e1 e2 e3;refine⟨u',r',?_⟩;rcases q with⟨k,e⟩ | ⟨k,c,e,z⟩
    ·refine .inl ⟨k,?_⟩;have:y≠x:=λe=>hj (jqt hN e1 (e▸hi));simp[this,e]
    ·exact .inr ⟨k,c,e,z.sameBut hs (cne y c e)⟩
  ·obtain⟨w',z⟩:=I.cell y c e;exact⟨w',z.sameBut hs (cne y c e)⟩
  ·obtain⟨e,n,ne,nf,d⟩:=I.pin p hp;exact⟨(hs.2 p.1 ne).trans e,n,ne,nf,d⟩
 ·have hfn:X.fn x=true:=by
   rcases hf with z | z
   ·exact z
   ·rw[z]at hk;cases hk
  obtain⟨c,hc⟩:=I.ok.has x (.inl hk);obtain⟨w',z⟩:=I.cell x c hc;refine wpAny_storeName_cell I.ok.kind hk hc z (λh' hc' hs=>?_);obtain⟨oc,hoc,hocd⟩:=id z;refine h {s with heap:=h'} ⟨I.ok,I.os,I.bare,⟨λb o e n hb hx=>?_,λb o e n hb hx=>?_,I.base.free,λb o e hx=>?_,I.base.tups,I.base.frzs,I.base.tbls⟩,⟨m,hn.sameBut hs (Ne.symm (cne x c hc)),λj y v' e1 e2 e3=>?_⟩,λy c' e=>?_,I.free,I.freeC,λp hp=>?_,tracked ⟨oc,hoc,I.freeC x c hc⟩ hs,by simpa using I.len⟩ ⟨c,hs,.inr hc⟩
  ·exact(hs.2 b (Bb (Bk (Ap e) (I.ok.cab x c hfn hc)))).trans (I.base.keep b o e n hb hx)
  ·obtain⟨sl,e1⟩:=I.base.slot b o e n hb hx;exact⟨sl,(hs.2 b (Bb (Bk (Ap e) (I.ok.cab x c hfn hc)))).trans e1⟩
  ·obtain⟨o',e1⟩:=I.base.there b o e hx;exact⟨o',(hs.2 b (Bb (Bk (Ap e) (I.ok.cab x c hfn hc)))).trans e1⟩
  ·by_cases hj:j=i
   ·subst hj;rw[hi]at e1;cases e1;rw[List.getElem?_set_self hiσ]at e2;cases e2;exact⟨u,r,.inr ⟨.inl hk,c,hc,hc'⟩⟩
   ·rw[Cf (Ne.symm hj)]at e2;obtain⟨u',r',q⟩:=hl j y v' e1 e2 e3;refine⟨u',r',?_⟩;rcases q with q | ⟨k,c',e,z'⟩
    ·exact .inl q
    ·refine .inr ⟨k,c',e,z'.sameBut hs ?_⟩
     rintro rfl
     exact hj (jqt hN e1 (I.ok.inj _ _ _ e hc▸hi))
  ·by_cases hcc:c'=c
   ·subst hcc;exact⟨_,hc'⟩
   ·obtain⟨w2,z2⟩:=I.cell y c' e;exact⟨w2,z2.sameBut hs hcc⟩
  ·obtain⟨e,n,ne,nf,d⟩:=I.pin p hp;refine⟨(hs.2 p.1 ?_).trans e,n,ne,nf,d⟩;intro q;rw[q,hoc]at e;have q':oc=p.2:=Aq e;exact d w' (by rw[<-q'];exact hocd)
theorem jqb {M:Model} {A:B6} {E:Af->Aj->Prop} {i:Nat} {x:Str} {v:V} {u:Af} {Q:Unit->Aj->Prop} (I:Inv X pins σ H s) (hN:X.N.Nodup) (hi:X.N[i]?=some x) (hx:Loc X.env.scope x) (r:RelV v u)
  (h:∀s',Inv X pins (σ.set i (some v)) H s'->Q () s') (hf:X.fn x=true\/X.env.scope.names.lookup x=some .local:=by first | exact .inl rfl | exact .inr rfl | assumption):A3 M A (storeName X.env x u) Q E s :=
 jng I hN hi hx r (λs' I' _=>h s' I') hf
theorem Inv.call' {s':Aj} {ch:List Addr} (I:Inv X pins σ H s) (ho:s'.os=s.os) (u:Un (frs X.stack) ch H H' s.heap s'.heap) (hok:HOk X.prog X.w H' s'.heap) (hg:AllBare s'.gens)
  (hch:∀b∈ch,(b∈X.ex\/X.s₀.heap.objs.size<=b)/\b≠X.env.locals/\(∀x c,X.env.cells.lookup x=some c->c≠b)/\∀p∈X.pn++pins,p.1≠b):Inv X pins σ H' s':=by
 obtain⟨h',g',d',t',o'⟩:=s';have e:o'=s.os:=ho;subst e;exact I.call (g':=g') (t':=t') (d':=d') u hok hg hch
end
abbrev XK:=Af->Option Addr->Hp->Prop
abbrev St:=List (Option V)
abbrev VK:=V->Hp->Prop
abbrev TE:=St->Hp->VK->Prop
abbrev TT:=St->Hp->(Bool->Hp->Prop)->Prop
abbrev TA:=St->Hp->(List V->Hp->Prop)->Prop
structure Ends where
 nx:St->Hp->Prop
 rt:VK
 bk:St->Hp->Prop:=λ_ _=>False
 ct:St->Hp->Prop:=λ_ _=>False
abbrev TS:=Ends->St->Hp->Prop
def EP (X:Cx) (pins:List (Addr×Obj)) (σ:St) (Q:VK) (u:Af) (s':Aj):Prop:=∃v H',Inv X pins σ H' s'/\RelV v u/\Q v H'
def TP (X:Cx) (pins:List (Addr×Obj)) (σ:St) (Q:Bool->Hp->Prop) (b:Bool) (s':Aj):Prop:=∃H',Inv X pins σ H' s'/\Q b H'
def AP (X:Cx) (pins:List (Addr×Obj)) (σ:St) (Q:List V->Hp->Prop) (us:List Af) (s':Aj):Prop:=∃vs H',Inv X pins σ H' s'/\Vals vs us/\Q vs H'
def SP (X:Cx) (pins:List (Addr×Obj)) (D:Ends) (f:Flow) (s':Aj):Prop :=
 match f with
 |.next=>∃σ' H',Inv X pins σ' H' s'/\D.nx σ' H'
 |.brk=>∃σ' H',Inv X pins σ' H' s'/\D.bk σ' H'
 |.cont=>∃σ' H',Inv X pins σ' H' s'/\D.ct σ' H'
 |.ret u=>∃v σ' H',Inv X pins σ' H' s'/\RelV v u/\D.rt v H'
def PE (X:Cx) (e:Expr) (t:TE):Prop :=
 ∀(pins:List (Addr×Obj)) (s:Aj) (σ:St) (H:Hp) (Q:VK),Inv X pins σ H s->t σ H Q->A3 (A9 X.prog X.w) X.A (eval e X.env) (EP X pins σ Q) X.xe s
def PT (X:Cx) (e:Expr) (t:TT):Prop :=
 ∀(pins:List (Addr×Obj)) (s:Aj) (σ:St) (H:Hp) (Q:Bool->Hp->Prop),Inv X pins σ H s->t σ H Q->A3 (A9 X.prog X.w) X.A (isTrue e X.env (eval e X.env)) (TP X pins σ Q) X.xe s
def PW (X:Cx) (e:Expr) (t:TT):Prop :=
 ∀(whole:Sem Af) (pins:List (Addr×Obj)) (s:Aj) (σ:St) (H:Hp) (Q:Bool->Hp->Prop),Inv X pins σ H s->t σ H Q->A3 (A9 X.prog X.w) X.A (isTrue e X.env whole) (TP X pins σ Q) X.xe s
theorem PW.pt {X:Cx} {e:Expr} {t:TT} (h:PW X e t):PT X e t:=h _
def PA (X:Cx) (es:List Expr) (t:TA):Prop :=
 ∀(pos:Pos) (pins:List (Addr×Obj)) (s:Aj) (σ:St) (H:Hp) (Q:List V->Hp->Prop),Inv X pins σ H s->t σ H Q->A3 (A9 X.prog X.w) X.A (spliced (Dd pos (Az es X.env))) (AP X pins σ Q) X.xe s
def PS (X:Cx) (st:Stmt) (t:TS):Prop :=
 ∀(pins:List (Addr×Obj)) (s:Aj) (σ:St) (H:Hp) (D:Ends),Inv X pins σ H s->t D σ H->A3 (A9 X.prog X.w) X.A (exec st X.env) (SP X pins D) X.xe s
def PSs (X:Cx) (st:List Stmt) (t:TS):Prop :=
 ∀(pins:List (Addr×Obj)) (s:Aj) (σ:St) (H:Hp) (D:Ends),Inv X pins σ H s->t D σ H->A3 (A9 X.prog X.w) X.A (execs st X.env) (SP X pins D) X.xe s
theorem thn {α:Type} {t:Sem α} {Q Q':α->Aj->Prop} {M:Model} {A:B6} {E:Af->Aj->Prop} {s:Aj} (h:A3 M A t Q E s) (hQ:∀a s,Q a s->Q' a s):A3 M A t Q' E s:=C8 h hQ λ_ _ x=>x
section
variable {X:Cx}
theorem bin {a b:Expr} {ta tb:TE} (ha:PE X a ta) (hb:PE X b tb) {pins:List (Addr×Obj)} {s:Aj} {σ:St} {H:Hp} {R:V->V->Hp->Prop} (I:Inv X pins σ H s) (h:ta σ H λx H1=>tb σ H1 λy H2=>R x y H2)
  {α:Type} {Q:α->Aj->Prop} {f:Af->Af->Sem α}
  (hf:∀v u s2 x y H2,Inv X pins σ H2 s2->RelV x v->RelV y u->R x y H2->A3 (A9 X.prog X.w) X.A (f v u) Q X.xe s2) :
  A3 (A9 X.prog X.w) X.A (eval a X.env) (λv s₁=>A3 (A9 X.prog X.w) X.A (eval b X.env) (λu s₂=>A3 (A9 X.prog X.w) X.A (f v u) Q X.xe s₂) X.xe s₁) X.xe s:=by
 refine thn (ha pins s σ H _ I h) λv s1 ⟨x,H1,I1,r1,q1⟩=>?_;refine thn (hb pins s1 σ H1 _ I1 q1) λu s2 ⟨y,H2,I2,r2,q2⟩=>?_;exact hf v u s2 x y H2 I2 r1 r2 q2
def tVar (i:Nat):TE:=λσ H Q=>∃v,σ[i]?=some (some v)/\Q v H
def tC (v:V):TE:=λ_ H Q=>Q v H
theorem jdq {i:Nat} {x:Str} {pos:Pos} (hN:X.N[i]?=some x) (hv:Vis X.env.scope x) (hd:(x==("__debug__":Str))=false:=by decide) (hcd:(x==("__classdict__":Str))=false:=by decide):PE X (.Name x pos) (tVar i):=by
 intro pins s σ H Q I h;obtain⟨v,e,h⟩:=h;obtain⟨m,hn,hl⟩:=I.loc;obtain⟨u,r,l⟩:=hl i x v hN e hv;have fin:EP X pins σ Q u s:=⟨v,H,I,r,h⟩;rcases l with⟨hk,hm⟩ | ⟨hk,c,hc,hcell⟩
 ·exact wpAny_Name (wpAny_loadName_local I.ok.kind hk hn hm fin) hd
 ·rcases hk with hk | hk
  ·exact wpAny_Name (wpAny_loadName_cell I.ok.kind hk hc hcell fin) hd
  ·exact wpAny_Name (wpAny_loadName_free I.ok.kind hk hc hcell fin hcd) hd
theorem ja7 {i j pos}:PE X (.Constant (.int i) j pos) (tC (.int i)):=λ_ _ _ H _ I h=>wpAny_Constant_int ⟨.int i,H,I.tok _,⟨_,rfl⟩,h⟩
theorem j6h {b j pos}:PE X (.Constant (.bool b) j pos) (tC (.bl b)):=λ_ _ _ H _ I h=>Constant_bool ⟨.bl b,H,I,rfl,h⟩
theorem jqp {j pos}:PE X (.Constant .none j pos) (tC .non):=λ_ _ _ H _ I h=>Constant_none ⟨.non,H,I,rfl,h⟩
theorem jqn {x j pos}:PE X (.Constant (.str x) j pos) (tC (.str x)):=λ_ _ _ H _ I h=>Calls.Constant_str ⟨.str x,H,I.tok _,⟨_,rfl⟩,h⟩
def Gl (X:Cx) (x:Str):Prop:=X.env.kindOf x=some .globalImplicit
theorem juh {E:Af->Aj->Prop} {pins:List (Addr×Obj)} {s:Aj} {σ:St} {H:Hp} {x:Str} {u:Af} {pos:Pos} {Q:Af->Aj->Prop} (I:Inv X pins σ H s) (hg:Gl X x) (hm:X.mg x=some u) (h:Q u s)
  (hd:(x==("__debug__":Str))=false:=by decide):A3 (A9 X.prog X.w) X.A (eval (.Name x pos) X.env) Q E s :=
 Calls.Name_function_global I.ok.kind hg (Calls.loadGlobal_global (by rw[I.ok.glob];exact I.mod.glob.keeps I.bk) hm h) hd
theorem ji8 {E:Af->Aj->Prop} {pins:List (Addr×Obj)} {s:Aj} {σ:St} {H:Hp} {x:Str} {u:Af} {pos:Pos} {Q:Af->Aj->Prop} (I:Inv X pins σ H s) (hg:Gl X x) (hm:X.mg x=none) (hv:B7 x=some u) (h:Q u s)
  (hn:x≠"__name__":=by decide) (hd:(x==("__debug__":Str))=false:=by decide):A3 (A9 X.prog X.w) X.A (eval (.Name x pos) X.env) Q E s:=by
 obtain⟨mb,h1,h2⟩:=I.mod.blt;exact Calls.Name_function_global I.ok.kind hg (Calls.loadGlobal_builtin (by rw[I.ok.glob];exact I.mod.glob.keeps I.bk) hm (by rw[I.ok.blt];exact h1.keeps I.bk) ((h2 x hn).trans hv) h) hd
theorem jph {x:Str} {v:V} {u:Af} {pos:Pos} (hg:Gl X x) (hm:X.mg x=some u) (r:RelV v u) (hd:(x==("__debug__":Str))=false:=by decide):PE X (.Name x pos) (tC v) :=
 λ_ _ _ H _ I h=>juh I hg hm ⟨v,H,I,r,h⟩ hd
theorem j1i {x:Str} {v:V} {u:Af} {pos:Pos} (hg:Gl X x) (hm:X.mg x=none) (hv:B7 x=some u) (r:RelV v u) (hn:x≠"__name__":=by decide) (hd:(x==("__debug__":Str))=false:=by decide):PE X (.Name x pos) (tC v) :=
 λ_ _ _ H _ I h=>ji8 I hg hm hv ⟨v,H,I,r,h⟩ hn hd
variable {a b:Expr} {ta tb:TE} {pos:Pos}
def PC (X:Cx) (op:CmpOp) (a b:Expr) (t:TE):Prop :=
 ∀(pins:List (Addr×Obj)) (s:Aj) (σ:St) (H:Hp) (Q:VK),Inv X pins σ H s->t σ H Q ->
  A3 (A9 X.prog X.w) X.A (eval a X.env) (λv s₁=>A3 (A9 X.prog X.w) X.A (eval b X.env) (λu s₂=>A3 (A9 X.prog X.w) X.A (B1 op v u) (EP X pins σ Q) X.xe s₂) X.xe s₁) X.xe s
theorem jqu (b:Expr) {op:CmpOp} (h:op≠.In) (h2:op≠.NotIn):Co op b=false:=by
 have e1:(op==CmpOp.In)=false:=by cases op<;>first | rfl | exact absurd rfl h
 have e2:(op==CmpOp.NotIn)=false:=by cases op<;>first | rfl | exact absurd rfl h2
 cases b<;>simp[Co,e1,e2]
def tB (t:TE):TT:=λσ H Q=>t σ H λx H1=>∃c,x=.bl c/\Q c H1
theorem jzj {op:CmpOp} {t:TE} (h:PC X op a b t) (h1:Co op b=false:=by first | exact jqu _ (by decide) (by decide) | rfl):PE X (.Compare a [op] [b] pos) t:=λpins s σ H Q I hw=>wpAny_Compare1 (h pins s σ H Q I hw) h1
theorem j36 {op:CmpOp} {t:TE} (h:PC X op a b t) (h1:Co op b=false:=by first | exact jqu _ (by decide) (by decide) | rfl):PT X (.Compare a [op] [b] pos) (tB t):=by
 intro pins s σ H Q I hw;refine wpAny_isTrue_Compare1 (thn (h pins s σ H _ I hw) λv s1 h1=>thn h1 λu s2 h2=>thn h2 λc s3 ⟨x,H1,I1,r1,q1⟩=>?_) h1;obtain⟨d,rfl,q⟩:=q1;cases r1;exact D9 ⟨H1,I1,q⟩
theorem j34 {e:Expr} {t:TE} (h:PE X e t) (he:∀whole,isTrue e X.env whole=(do let v <-whole;standAt e.pos;holding [v] (truthy v)):=by intro _;rfl):PT X e (tB t):=by
 intro pins s σ H Q I hw;refine isTrue_plain (thn (h pins s σ H _ I hw) λv s1 ⟨x,H1,I1,r1,q1⟩=>?_) (he _);obtain⟨d,rfl,q⟩:=q1;cases r1;exact D9 ⟨H1,I1,q⟩
variable {tA tB':TT} {rest:List Expr}
def tAnd (t u:TT):TT:=λσ H Q=>t σ H λc H1=>if c=true then u σ H1 Q else Q false H1
def tOr (t u:TT):TT:=λσ H Q=>t σ H λc H1=>if c=true then Q true H1 else u σ H1 Q
def tNot (t:TT):TT:=λσ H Q=>t σ H λc H1=>Q (!c) H1
theorem jtt (ha:PT X a tA):PW X (.BoolOp .And [a] pos) tA:=by
 intro wh pins s σ H Q I h;refine isTrue_and (thn (ha pins s σ H Q I h) λc s1 e=>?_);cases c with
 |true=>exact isTrue_and_nil e
 |false=>exact e
theorem j32 (ha:PT X a tA):PW X (.BoolOp .Or [a] pos) tA:=by
 intro wh pins s σ H Q I h;refine isTrue_or (thn (ha pins s σ H Q I h) λc s1 e=>?_);cases c with
 |false=>exact isTrue_or_nil e
 |true=>exact e
theorem jzh (ha:PT X a tA) (hb:PW X (.BoolOp .And (b::rest) pos) tB'):PW X (.BoolOp .And (a::b::rest) pos) (tAnd tA tB'):=by
 intro wh pins s σ H Q I h;refine isTrue_and (thn (ha pins s σ H _ I h) λc s1 ⟨H1,I1,q1⟩=>?_);cases c with
 |true=>exact hb wh pins s1 σ H1 Q I1 q1
 |false=>exact⟨H1,I1,q1⟩
theorem j6d (ha:PT X a tA) (hb:PW X (.BoolOp .Or (b::rest) pos) tB'):PW X (.BoolOp .Or (a::b::rest) pos) (tOr tA tB'):=by
 intro wh pins s σ H Q I h;refine isTrue_or (thn (ha pins s σ H _ I h) λc s1 ⟨H1,I1,q1⟩=>?_);cases c with
 |true=>exact⟨H1,I1,q1⟩
 |false=>exact hb wh pins s1 σ H1 Q I1 q1
theorem j35 (ha:PT X a tA):PT X (.UnaryOp .Not a pos) (tNot tA):=by
 intro pins s σ H Q I h;exact isTrue_not (ha pins s σ H (λc H1=>Q (!c) H1) I h)
def j27 (ta tb:TE):TE:=λσ H Q=>ta σ H λx H1=>∃c,x=.bl c/\if c=true then tb σ H1 Q else Q (.bl false) H1
def tOrV (ta tb:TE):TE:=λσ H Q=>ta σ H λx H1=>∃c,x=.bl c/\if c=true then Q (.bl true) H1 else tb σ H1 Q
def j22 (ta:TE):TE:=λσ H Q=>ta σ H λx H1=>∃c,x=.bl c/\Q (.bl (!c)) H1
theorem j4c {op} {t:TE} (h:PE X a t):PE X (.BoolOp op [a] pos) t:=λpins s σ H Q I hw=>BoolOp_one (h pins s σ H Q I hw)
theorem j4f (ha:PE X a ta) (hb:PE X (.BoolOp .And (b::rest) pos) tb):PE X (.BoolOp .And (a::b::rest) pos) (j27 ta tb):=by
 intro pins s σ H Q I h;refine BoolOp_and (thn (ha pins s σ H _ I h) λv s1 ⟨x,H1,I1,r1,q1⟩=>?_);obtain⟨c,rfl,q1⟩:=q1;cases r1;refine D9 ?_;cases c with
 |true=>exact hb pins s1 σ H1 Q I1 q1
 |false=>exact⟨.bl false,H1,I1,rfl,q1⟩
theorem j6g (ha:PE X a ta) (hb:PE X (.BoolOp .Or (b::rest) pos) tb):PE X (.BoolOp .Or (a::b::rest) pos) (tOrV ta tb):=by
 intro pins s σ H Q I h;refine BoolOp_or (thn (ha pins s σ H _ I h) λv s1 ⟨x,H1,I1,r1,q1⟩=>?_);obtain⟨c,rfl,q1⟩:=q1;cases r1;refine D9 ?_;cases c with
 |false=>exact hb pins s1 σ H1 Q I1 q1
 |true=>exact⟨.bl true,H1,I1,rfl,q1⟩
theorem j4d (ha:PE X a ta):PE X (.UnaryOp .Not a pos) (j22 ta):=by
 intro pins s σ H Q I h;refine UnaryOp_ (thn (ha pins s σ H _ I h) λv s1 ⟨x,H1,I1,r1,q1⟩=>?_);obtain⟨c,rfl,q1⟩:=q1;cases r1;exact not_of (D9 ⟨.bl (!c),H1,I1,rfl,q1⟩)
def tIf (t:TT) (ta tb:TE):TE:=λσ H Q=>t σ H λc H1=>if c=true then ta σ H1 Q else tb σ H1 Q
theorem jwy {c:Expr} (hc:PT X c tA) (ha:PE X a ta) (hb:PE X b tb):PE X (.IfExp c a b pos) (tIf tA ta tb):=by
 intro pins s σ H Q I h;refine wpAny_IfExp (thn (hc pins s σ H _ I h) λd s1 ⟨H1,I1,q1⟩=>?_);cases d with
 |true=>exact ha pins s1 σ H1 Q I1 q1
 |false=>exact hb pins s1 σ H1 Q I1 q1
end
def SqL (K:Ah) (H:Hp) (a:Addr) (xs:List V):Prop :=
 Rd H a (.lst xs) \/
  ∃(o:Obj) (its:Array Af) (n:Nat),K.lookup a=some o/\o.cls=.type "list"/\o.dict=none/\o.data=.seq its n/\its.size<=A1/\Vals xs its.toList
def SqT (K:Ah) (H:Hp) (a:Addr) (xs:List V):Prop :=
 Rd H a (.tup xs) \/
  ∃(o:Obj) (its:Array Af) (n:Nat),K.lookup a=some o/\o.cls=.type "tuple"/\o.data=.seq its n/\its.size<=A1/\Vals xs its.toList
def absV:Af->Option V
 |.none=>some .non
 |.bool b=>some (.bl b)
 |.int i _=>some (.int i)
 |.str x _=>some (.str x)
 |.bytes b _=>some (.byt b)
 |.float b _=>some (.flt b)
 |.ref a=>some (.ref a)
 |.type n=>some (.ty n)
 |_=>none
theorem RelV.abs {x:V} {u:Af} (r:RelV x u):absV u=some x:=by
 cases x with
 |non=>cases r;rfl
 |bl _=>cases r;rfl
 |int _=>obtain⟨t,rfl⟩:=r;rfl
 |str _=>obtain⟨t,rfl⟩:=r;rfl
 |byt _=>obtain⟨t,rfl⟩:=r;rfl
 |flt _=>obtain⟨t,rfl⟩:=r;rfl
 |ref _=>cases r;rfl
 |ty _=>cases r;rfl
theorem RelV.inj {x y:V} {u:Af} (r:RelV x u) (q:RelV y u):x=y:=Aq (r.abs.symm.trans q.abs)
theorem Vals.inj:∀{xs ys:List V} {us:List Af},Vals xs us->Vals ys us->xs=ys
 |_,_,_,.nil,.nil=>rfl
 |_,_,_,.cons r t,.cons r' t'=>by rw[r.inj r',Vals.inj t t']
section
variable {X:Cx} {pins:List (Addr×Obj)} {σ:St} {H:Hp} {s:Aj} {a:Addr} {xs ys:List V}
theorem SqL.of {K:Ah} (h:H a=some (.lst xs)):SqL K H a xs:=.inl (.inl h)
theorem SqT.of {K:Ah} (h:H a=some (.tup xs)):SqT K H a xs:=.inl (.inl h)
theorem Inv.list (I:Inv X pins σ H s) (h:SqL X.K H a xs):∃its:List Af,Vals xs its/\PlainL s.heap a its.toArray/\xs.length<=A1:=by
 rcases h with h | ⟨o,its,n,hk,hc,hd,hs,hz,r⟩
 ·obtain⟨z,its,n,r,e⟩:=h.ok I.hok;exact⟨its,r,⟨_,n,e,rfl,rfl,rfl⟩,z⟩
 ·refine⟨its.toList,r,⟨o,n,I.kIn a o hk,hc,hd,by simpa using hs⟩,?_⟩;have e:=r.length;simp only[Cy]at e;omega
theorem Inv.tuple (I:Inv X pins σ H s) (h:SqT X.K H a xs):∃its:List Af,Vals xs its/\IsTup s.heap a its.toArray/\xs.length<=A1:=by
 rcases h with h | ⟨o,its,n,hk,hc,hs,hz,r⟩
 ·obtain⟨z,its,r,p⟩:=h.ok I.hok;exact⟨its,r,p.tup,z⟩
 ·refine⟨its.toList,r,⟨o,I.kIn a o hk,hc,n,by simpa using hs⟩,?_⟩;have e:=r.length;simp only[Cy]at e;omega
theorem Inv.list_inj (I:Inv X pins σ H s) (h:SqL X.K H a xs) (h':SqL X.K H a ys):xs=ys:=by
 obtain⟨its,r,⟨o,n,e,_,_,d⟩,_⟩:=I.list h;obtain⟨its',r',⟨o',n',e',_,_,d'⟩,_⟩:=I.list h';rw[e]at e';cases e';rw[d]at d';injection d' with d1 _;have:its=its':=by simpa using congrArg Array.toList d1
 subst this;exact r.inj r'
theorem Inv.tuple_inj (I:Inv X pins σ H s) (h:SqT X.K H a xs) (h':SqT X.K H a ys):xs=ys:=by
 obtain⟨its,r,⟨o,e,_,n,d⟩,_⟩:=I.tuple h;obtain⟨its',r',⟨o',e',_,n',d'⟩,_⟩:=I.tuple h';rw[e]at e';cases e';rw[d]at d';injection d' with d1 _;have:its=its':=by simpa using congrArg Array.toList d1
 subst this;exact r.inj r'
end
abbrev Cx.wish (X:Cx) (E:Af->Aj->Prop):Cx:={ X with xe:=E}
abbrev Cx.nox (X:Cx):Cx:=X.wish λ_ _=>False
theorem Cx.Ok.wish {X:Cx} (ok:X.Ok) (E:Af->Aj->Prop):(X.wish E).Ok :=
 ⟨ok.mod,ok.kind,ok.glob,ok.blt,ok.above,ok.inj,ok.has,ok.cab,ok.hd,ok.frames,ok.stk,ok.exf,ok.bs,ok.bsz,ok.noex,ok.exfs,ok.funs,ok.frf⟩
theorem Cx.Ok.unwish {X:Cx} {E:Af->Aj->Prop} (ok:(X.wish E).Ok):X.Ok :=
 ⟨ok.mod,ok.kind,ok.glob,ok.blt,ok.above,ok.inj,ok.has,ok.cab,ok.hd,ok.frames,ok.stk,ok.exf,ok.bs,ok.bsz,ok.noex,ok.exfs,ok.funs,ok.frf⟩
section
variable {X:Cx} {pins:List (Addr×Obj)} {σ:St} {H:Hp} {s:Aj} {E:Af->Aj->Prop}
theorem Inv.wish (I:Inv X pins σ H s) (E:Af->Aj->Prop):Inv (X.wish E) pins σ H s:=⟨I.ok.wish E,I.os,I.bare,I.base,I.loc,I.cell,I.free,I.freeC,I.pin,I.hok,I.len⟩
theorem Inv.unwish (I:Inv (X.wish E) pins σ H s):Inv X pins σ H s:=⟨I.ok.unwish,I.os,I.bare,I.base,I.loc,I.cell,I.free,I.freeC,I.pin,I.hok,I.len⟩
theorem SP.unwish {D:Ends} {f:Flow} {s':Aj} (h:SP (X.wish E) pins D f s'):SP X pins D f s':=by
 cases f with
 |next=>obtain⟨σ',H',I,q⟩:=h;exact⟨σ',H',I.unwish,q⟩
 |brk=>obtain⟨σ',H',I,q⟩:=h;exact⟨σ',H',I.unwish,q⟩
 |cont=>obtain⟨σ',H',I,q⟩:=h;exact⟨σ',H',I.unwish,q⟩
 |ret u=>obtain⟨v,σ',H',I,r,q⟩:=h;exact⟨v,σ',H',I.unwish,r,q⟩
theorem PSs.nox {st:List Stmt} {t:TS} (h:PSs X.nox st t):PSs X st t:=λpins s σ H D I hw =>
 C8 (h pins s σ H D (I.wish _) hw) (λ_ _ q=>q.unwish) λ_ _ z=>False.elim z
end
section
variable {X:Cx} {st:Stmt} {rest:List Stmt} {t u:TS} {e:Expr} {te:TE} {pos:Pos}
def j24:TS:=λD σ H=>D.nx σ H
def tSeq (t u:TS):TS:=λD σ H=>t {D with nx:=u D} σ H
theorem jl1:PSs X [] j24:=λ_ _ σ H _ I h=>wpAny_execs_nil ⟨σ,H,I,h⟩
theorem jb1 (h1:PS X st t) (h2:PSs X rest u):PSs X (st::rest) (tSeq t u):=by
 intro pins s σ H D I h;refine wpAny_execs_cons (thn (h1 pins s σ H {D with nx:=u D} I h) λf s1 q=>?_);cases f with
 |next =>
  obtain⟨σ',H',I',q⟩:=q;exact h2 pins s1 σ' H' D I' q
 |ret v=>exact q
 |brk=>exact q
 |cont=>exact q
theorem jgr (h1:PS X st t):PSs X [st] t:=by
 intro pins s σ H D I h;refine wpAny_execs_cons (thn (h1 pins s σ H D I h) λf s1 q=>?_);cases f with
 |next=>exact wpAny_execs_nil q
 |ret v=>exact q
 |brk=>exact q
 |cont=>exact q
theorem Inv.quiet {pins:List (Addr×Obj)} {σ:St} {H:Hp} {s:Aj} (I:Inv X pins σ H s):interactive X.env=false:=by simp[interactive,I.ok.kind]
def jv8 (te:TE):TS:=λD σ H=>te σ H λ_ H1=>D.nx σ H1
theorem jpg (he:PE X e te) (hs:Dw e none pos.line X.env=pure false:=by rfl):PS X (.Expr e pos) (jv8 te):=by
 intro pins s σ H D I h;exact wpAny_Expr_any (thn (he pins s σ H _ I h) λv s1 ⟨x,H1,I1,r1,q1⟩=>⟨σ,H1,I1,q1⟩) I.quiet hs
def tRet (te:TE):TS:=λD σ H=>te σ H D.rt
theorem jld (he:PE X e te):PS X (.Return (some e) pos) (tRet te):=by
 intro pins s σ H D I h;exact wpAny_Return_some (thn (he pins s σ H _ I h) λv s1 ⟨x,H1,I1,r1,q1⟩=>⟨x,σ,H1,I1,r1,q1⟩)
def tIfS (c:TT) (t u:TS):TS:=λD σ H=>c σ H λb H1=>if b=true then t D σ H1 else u D σ H1
theorem jwv {c:Expr} {a b:List Stmt} {tc:TT} (hc:PT X c tc) (ha:PSs X a t) (hb:PSs X b u):PS X (.If c a b pos) (tIfS tc t u):=by
 intro pins s σ H D I h;refine wpAny_If (thn (hc pins s σ H _ I h) λd s1 ⟨H1,I1,q1⟩=>?_);cases d with
 |true=>exact ha pins s1 σ H1 D I1 q1
 |false=>exact hb pins s1 σ H1 D I1 q1
end
abbrev TG:=V->St->Hp->(St->Hp->Prop)->Prop
abbrev TGs:=List V->St->Hp->(St->Hp->Prop)->Prop
def PG (X:Cx) (target:Expr) (t:TG):Prop :=
 ∀(pins:List (Addr×Obj)) (s:Aj) (σ:St) (H:Hp) (v:V) (u:Af) (Q:St->Hp->Prop),Inv X pins σ H s->RelV v u->t v σ H Q ->
  A3 (A9 X.prog X.w) X.A (assign target X.env u) (λ_ s'=>∃σ' H',Inv X pins σ' H' s'/\Q σ' H') X.xe s
def PGs (X:Cx) (ts:List Expr) (t:TGs):Prop :=
 ∀(pins:List (Addr×Obj)) (s:Aj) (σ:St) (H:Hp) (vs:List V) (us:List Af) (Q:St->Hp->Prop),Inv X pins σ H s->Vals vs us->t vs σ H Q ->
  A3 (A9 X.prog X.w) X.A (assignInOrder ((Dp ts X.env).map (·.2)) us) (λ_ s'=>∃σ' H',Inv X pins σ' H' s'/\Q σ' H') X.xe s
abbrev TSet:=V->V->V->Hp->(Hp->Prop)->Prop
def PSet (X:Cx) (t:TSet):Prop :=
 ∀(pins:List (Addr×Obj)) (s:Aj) (σ:St) (H:Hp) (o i v:V) (ov iv u:Af) (Q:Hp->Prop),Inv X pins σ H s->RelV o ov->RelV i iv->RelV v u->t o i v H Q ->
  A3 (A9 X.prog X.w) X.A (setItem ov iv u) (λ_ s'=>∃H',Inv X pins σ H' s'/\Q H') X.xe s
section
variable {X:Cx} {pos:Pos}
def jg0 (i:Nat):TG:=λv σ H Q=>Q (σ.set i (some v)) H
theorem j1c {i:Nat} {x:Str} (hN:X.N.Nodup) (hi:X.N[i]?=some x) (hx:Loc X.env.scope x) (hf:X.fn x=true\/X.env.scope.names.lookup x=some .local:=by first | exact .inl rfl | exact .inr rfl | assumption):PG X (.Name x pos) (jg0 i):=by
 intro pins s σ H v u Q I r h;exact wpAny_assign_Name (jqb I hN hi hx r (λs' I'=>⟨_,H,I',h⟩) hf)
def gNil:TGs:=λvs σ H Q=>vs=[]/\Q σ H
def j5e (t:TG) (u:TGs):TGs:=λvs σ H Q=>∃v r,vs=v::r/\t v σ H λσ' H'=>u r σ' H' Q
theorem j1b:PGs X [] gNil:=by
 intro pins s σ H vs us Q I r h;obtain⟨e,h⟩:=h;subst e;cases r;exact assignInOrder_nil ⟨σ,H,I,h⟩
theorem jwx {e:Expr} {es:List Expr} {t:TG} {u:TGs} (h1:PG X e t) (h2:PGs X es u)
  (hs:(Dp (e::es) X.env).map (·.2)=assign e X.env::(Dp es X.env).map (·.2):=by rfl):PGs X (e::es) (j5e t u):=by
 intro pins s σ H vs us Q I r h;obtain⟨v,vr,e1,h⟩:=h;subst e1;cases r with
 |cons r rr =>
  rw[hs];refine assignInOrder_cons (thn (h1 pins s σ H _ _ _ I r h) λ_ s1 ⟨σ1,H1,I1,q1⟩=>?_);exact h2 pins s1 σ1 H1 _ _ Q I1 rr q1
def gTup (K:Ah) (n:Nat) (t:TGs):TG:=λv σ H Q=>∃a xs,v=.ref a/\SqT K H a xs/\xs.length=n/\t xs σ H Q
theorem j4a {es:List Expr} {k:Nat} {t:TGs} {n:Nat} (hc:X.calm=true) (h:PGs X es t)
  (hn:(Dp es X.env).length=n:=by rfl) (hst:(Dp es X.env).findIdx? (·.1)=none:=by rfl):PG X (.Tuple es k pos) (gTup X.K n t):=by
 intro pins s σ H v u Q I r hw;obtain⟨a,xs,e1,hq,hl,hw⟩:=hw;subst e1;cases r;obtain⟨its,rv,ht,hz⟩:=I.tuple hq;refine assign_Tuple_tuple (I.ok.hd hc) ht (by simp[hn,<-hl,rv.length]) hst λh' hx=>?_;have I1:Inv X pins σ H {s with heap:=h'}:=I.kept (t':=s.toks) λb o e=>hx b o (Bb (Ap e)) e;exact h pins _ σ H xs _ Q I1 (by simpa using rv) hw
def gSub (to ti:TE) (t:TSet):TG:=λv σ H Q=>to σ H λo H1=>ti σ H1 λi H2=>t o i v H2 λH3=>Q σ H3
theorem jqm {o i:Expr} {to ti:TE} {t:TSet} (ho:PE X o to) (hi:PE X i ti) (hs:PSet X t)
  (ha:∀v,assign (.Subscript o i pos) X.env v=(do
   let ov <-holding [v] (eval o X.env)
   let iv <-holding [v,ov] (eval i X.env)
   standAt pos
   holding [v,ov,iv] (setItem ov iv v)
   release [v,ov,iv] []):=by intro _;rfl):PG X (.Subscript o i pos) (gSub to ti t):=by
 intro pins s σ H v u Q I r h;rw[ha];refine Aa (Cw (thn (ho pins s σ H _ I h) λov s1 ⟨x,H1,I1,r1,q1⟩=>?_));refine Aa (Cw (thn (hi pins s1 σ H1 _ I1 q1) λiv s2 ⟨y,H2,I2,r2,q2⟩=>?_));refine Aa (wpAny_standAt (Aa (Cw (thn (hs pins s2 σ H2 x y v ov iv u _ I2 r1 r2 r q2) λ_ s3 ⟨H3,I3,q3⟩=>?_))));exact wpAny_release ⟨σ,H3,I3,q3⟩
def tAsg (te:TE) (g:TG):TS:=λD σ H=>te σ H λx H1=>g x σ H1 D.nx
theorem jns {tg e:Expr} {te:TE} {g:TG} (he:PE X e te) (hg:PG X tg g) (hs:swapsWithSole [tg] e pos.line X.env=pure false:=by rfl) (hw:swappedStores [tg] e X.env=pure none:=by rfl)
  (h1:(Dp [tg] X.env).map (·.2)=[assign tg X.env]:=by rfl):PS X (.Assign [tg] e pos) (tAsg te g):=by
 intro pins s σ H D I h;refine wpAny_Assign_stores (thn (he pins s σ H _ I h) λv s1 ⟨x,H1,I1,r1,q1⟩=>?_) hs hw;rw[h1];exact thn (hg pins s1 σ H1 x v _ I1 r1 q1) λ_ s2 q=>q
theorem jfp {i:Nat} {x:Str} {e:Expr} {te:TE} {pos':Pos} (hN:X.N.Nodup) (hi:X.N[i]?=some x) (hx:Loc X.env.scope x) (he:PE X e te) (hs:Dw e (some (.Name x pos')) pos.line X.env=pure false:=by rfl) (hf:X.fn x=true\/X.env.scope.names.lookup x=some .local:=by first | exact .inl rfl | exact .inr rfl | assumption) :
  PS X (.Assign [.Name x pos'] e pos) (tAsg te (jg0 i)):=by
 intro pins s σ H D I h;refine wpAny_Assign_Name (thn (he pins s σ H _ I h) λv s1 ⟨y,H1,I1,r1,q1⟩=>?_) hs;exact jqb I1 hN hi hx r1 (λs2 I2=>⟨_,H1,I2,q1⟩) hf
end
structure It where
 go:Nat->Hp->Prop
 yld:Nat->Hp->V->Hp->Prop
 stop:Nat->Hp->Prop
def FpOk (X:Cx) (pins:List (Addr×Obj)) (H:Hp) (b:Addr):Prop :=
 H b=none/\b≠X.env.locals/\b∉X.fs/\(b∈X.ex\/X.s₀.heap.objs.size<=b)/\(∀x c,X.env.cells.lookup x=some c->c≠b)/\∀p∈X.pn++pins,p.1≠b
theorem Inv.fpOk {X:Cx} {pins:List (Addr×Obj)} {σ:St} {H H':Hp} {s:Aj} {b:Addr} (I:Inv X pins σ H s) (hb:s.heap.objs.size<=b) (hn:H' b=none):FpOk X pins H' b:=by
 refine⟨hn,Dq (Bk I.lt hb),I.nofs hb,.inr (Ba I.sz hb),λx c e z=>?_,λp hp z=>?_⟩
 ·obtain⟨v,q⟩:=I.cell x c e;exact absurd (Bk q.lt (by rw[z];exact hb)) (Er _)
 ·exact absurd (Bk (Ap (I.pin p hp).1) (by rw[z];exact hb)) (Er _)
structure Turn (P:Bg) (w:Bt) (K:Ah) (tg:Expr) (J:It) (fp:List Addr) (it:Addr) (tn:Nat->Heap->Prop):Prop where
 mem:it∈fp
 obj:∀i h,tn i h->∀b∈fp,∃o,h.get? b=some o/\∀v,o.data≠.cell v
 keep:∀i h h',tn i h->(∀b∈fp,∀o,h.get? b=some o->h'.get? b=some o)->tn i h'
 item:∀(X:Cx),X.prog=P->X.w=w->X.K=K->X.calm=true->∀(i:Nat) (pins:List (Addr×Obj)) (s:Aj) (σ:St) (H:Hp) (E:Af->Aj->Prop),Inv X pins σ H s->(∀b∈fp,FpOk X pins H b)->tn i s.heap->J.go i H ->
  A3 (A9 P w) X.A (Do (.ref it)) (λr s1=>∃u,r=some u /\
   A3 (A9 P w) X.A (letOwnedTupleGo tg (.ref it) u) (λ_ s2=>∃x H',Inv X pins σ H' s2/\RelV x u/\J.yld i H x H'/\tn (i+1) s2.heap/\∀b∈fp,H' b=none) E s1) E s
 done:∀(X:Cx),X.prog=P->X.w=w->X.K=K->X.calm=true->∀(i:Nat) (pins:List (Addr×Obj)) (s:Aj) (σ:St) (H:Hp) (E:Af->Aj->Prop),Inv X pins σ H s->(∀b∈fp,FpOk X pins H b)->tn i s.heap->J.stop i H ->
  A3 (A9 P w) X.A (Do (.ref it)) (λr s1=>r=none/\Inv X pins σ H s1) E s
 self:∀(A:B6) (i:Nat) (s:Aj) (Q:Af->Aj->Prop) (E:Af->Aj->Prop),tn i s.heap->Q (.ref it) s->A3 (A9 P w) A (pyIter (.ref it)) Q E s
abbrev TI:=St->Hp->(It->Hp->Prop)->Prop
def PIE (X:Cx) (pins:List (Addr×Obj)) (σ:St) (tg:Expr) (R:It->Hp->Prop) (itv:Af) (s2:Aj):Prop :=
 ∃(it:Addr) (fp:List Addr) (tn:Nat->Heap->Prop) (J:It) (H':Hp),itv=.ref it/\Inv X pins σ H' s2/\Turn X.prog X.w X.K tg J fp it tn/\tn 0 s2.heap/\(∀b∈fp,FpOk X pins H' b)/\R J H'
def PI (X:Cx) (tg iter:Expr) (wi:TI):Prop :=
 ∀(pins:List (Addr×Obj)) (s:Aj) (σ:St) (H:Hp) (R:It->Hp->Prop),Inv X pins σ H s->wi σ H R ->
  A3 (A9 X.prog X.w) X.A (eval iter X.env) (λv s1=>A3 (A9 X.prog X.w) X.A (pyIter v) (PIE X pins σ tg R) X.xe s1) X.xe s
theorem j12 {M:Model} {A:B6} {E:Af->Aj->Prop} {s:Aj} {tg:Expr} {it:Addr} {u:Af} {o:Obj} {n:String} {vs:Array Af} {Q:Unit->Aj->Prop} (ho:s.heap.get? it=some o) (hc:o.cls=.type n) (hd:o.data=.fields vs)
  (hn:["enumerate","zip","dict_itemiterator","dict_reverseitemiterator","odict_iterator","itertools.zip_longest","itertools.pairwise"].contains n=false) (hQ:Q () s):A3 M A (letOwnedTupleGo tg (.ref it) u) Q E s:=by
 unfold letOwnedTupleGo;cases tg<;>first
  |exact Ai hQ
  | (cases u<;>first
    |exact Ai hQ
    | (refine Aa (wpAny_load ho ?_)
       rw[hc,hd];show A3 M A (if (["enumerate","zip","dict_itemiterator","dict_reverseitemiterator","odict_iterator","itertools.zip_longest","itertools.pairwise"].contains n&&vs[0]?==some (Ci _))=true then _ else _) Q E s;rw[if_neg (by intro h;rw[hn,Bool.false_and]at h;cases h)];exact Ai hQ))
def Itl (K:Ah) (a:Addr):It :=
 ⟨λi H=>∃xs x,SqL K H a xs/\xs[i]?=some x,λi H x H'=>H'=H/\∀xs,SqL K H a xs->xs[i]?=some x,λi H=>∃xs,SqL K H a xs/\xs.length<=i⟩
def Itt (K:Ah) (a:Addr):It :=
 ⟨λi H=>∃xs x,SqT K H a xs/\xs[i]?=some x,λi H x H'=>H'=H/\∀xs,SqT K H a xs->xs[i]?=some x,λi H=>∃xs,SqT K H a xs/\xs.length<=i⟩
def Itr (lo:Int) (n:Nat):It:=⟨λi _=>i < n,λi H x H'=>H'=H/\x=.int (lo+i),λi _=>n<=i⟩
theorem jsl {P:Bg} {w:Bt} {K:Ah} {tg:Expr} (a it:Addr):Turn P w K tg (Itl K a) [it] it (λi h=>h.IsListIter it a i) where
 mem:=by simp
 obj:=λi h st b hb=>by
  have e:b=it:=by simpa using hb
  subst e;obtain⟨o,e,c,d⟩:=st;exact⟨o,e,λv z=>by rw[d]at z;cases z⟩
 keep:=λi h h' st k=>st.at λo e=>k it (by simp) o e
 item:=by
  intro X hP hw hK hc i pins s σ H E I hf st hg;subst hP hw hK;obtain⟨xs,x,hq,hx⟩:=hg;obtain⟨its,rv,p,hz⟩:=I.list hq;obtain⟨u,hu,ru⟩:=rv.get hx;obtain⟨f0,f1,f2,f3,f4,f5⟩:=hf it (by simp);refine wpAny_pyNext_list_item st p.isList (x:=u) (by simpa using hu) λh' st' sb=>?_;have I1:Inv X pins σ H {s with heap:=h'}:=I.turned (t':=s.toks) (λb o hb e=>(sb.2 b hb).trans e) f0 f1 f3 f4 f5;obtain⟨o,e,c,d⟩:=id st';exact⟨u,rfl,j12 (s:={ s with heap:=h'}) e c d (by decide) ⟨x,H,I1,ru,⟨rfl,λys hy=>by rw[I.list_inj hy hq];exact hx⟩,st',λb hb=>(hf b hb).1⟩⟩
 done:=by
  intro X hP hw hK hc i pins s σ H E I hf st hg;subst hP hw hK;obtain⟨xs,hq,hx⟩:=hg;obtain⟨its,rv,p,hz⟩:=I.list hq;obtain⟨f0,f1,f2,f3,f4,f5⟩:=hf it (by simp);have hl:=rv.length;exact wpAny_pyNext_list_end (I.ok.hd hc) st p.isList (by simp;omega) λh' eb=>⟨rfl,I.turned (t':=s.toks) (λb o hb e=>eb b o hb e) f0 f1 f3 f4 f5⟩
 self:=λ_ _ _ _ _ st h=>wpAny_pyIter_listiter st h
theorem jrg {P:Bg} {w:Bt} {K:Ah} {tg:Expr} (a it:Addr):Turn P w K tg (Itt K a) [it] it (λi h=>h.IsTupleIter it a i) where
 mem:=by simp
 obj:=λi h st b hb=>by
  have e:b=it:=by simpa using hb
  subst e;obtain⟨o,e,c,d⟩:=st;exact⟨o,e,λv z=>by rw[d]at z;cases z⟩
 keep:=λi h h' st k=>st.at λo e=>k it (by simp) o e
 item:=by
  intro X hP hw hK hc i pins s σ H E I hf st hg;subst hP hw hK;obtain⟨xs,x,hq,hx⟩:=hg;obtain⟨its,rv,p,hz⟩:=I.tuple hq;obtain⟨u,hu,ru⟩:=rv.get hx;obtain⟨f0,f1,f2,f3,f4,f5⟩:=hf it (by simp);refine wpAny_pyNext_tuple_item st (show s.heap.IsTuple a its.toArray from p) (x:=u) (by simpa using hu) λh' st' sb=>?_;have I1:Inv X pins σ H {s with heap:=h'}:=I.turned (t':=s.toks) (λb o hb e=>(sb.2 b hb).trans e) f0 f1 f3 f4 f5;obtain⟨o,e,c,d⟩:=id st';exact⟨u,rfl,j12 (s:={ s with heap:=h'}) e c d (by decide) ⟨x,H,I1,ru,⟨rfl,λys hy=>by rw[I.tuple_inj hy hq];exact hx⟩,st',λb hb=>(hf b hb).1⟩⟩
 done:=by
  intro X hP hw hK hc i pins s σ H E I hf st hg;subst hP hw hK;obtain⟨xs,hq,hx⟩:=hg;obtain⟨its,rv,p,hz⟩:=I.tuple hq;obtain⟨f0,f1,f2,f3,f4,f5⟩:=hf it (by simp);have hl:=rv.length;exact wpAny_pyNext_tuple_end (I.ok.hd hc) st (show s.heap.IsTuple a its.toArray from p) (by simp;omega) λh' eb=>⟨rfl,I.turned (t':=s.toks) (λb o hb e=>eb b o hb e) f0 f1 f3 f4 f5⟩
 self:=λ_ _ _ _ _ st h=>wpAny_pyIter_tupleiter st h
theorem jrh {P:Bg} {w:Bt} {K:Ah} {tg:Expr} (it:Addr) (lo:Int) (n:Nat):Turn P w K tg (Itr lo n) [it] it (λi h=>IsRangeIter h it (lo+(i:Nat)*1) ((n:Int) - (i:Nat)) 1) where
 mem:=by simp
 obj:=λi h st b hb=>by
  have e:b=it:=by simpa using hb
  subst e;exact⟨_,st,λv z=>by
   have z':Data.fields _=Data.cell v:=z;cases z'⟩
 keep:=λi h h' st k=>k it (by simp) _ st
 item:=by
  intro X hP hw hK hc i pins s σ H E I hf st hg;subst hP hw hK;obtain⟨f0,f1,f2,f3,f4,f5⟩:=hf it (by simp);have W:=Walks.range (prog:=X.prog) (w:=X.w) (I.ok.hd hc) it lo 1 n;refine W.item i s _ _ hg st λv h' tk hv st' kk=>?_;obtain⟨t,rfl⟩:=hv;have I1:Inv X pins σ H {s with heap:=h',toks:=tk}:=I.turned (λb o hb e=>kk b o (by simpa using hb) e) f0 f1 f3 f4 f5;refine⟨_,rfl,j12 (s:={ s with heap:=h',toks:=tk}) (n:="range_iterator") st' rfl rfl (by decide) ⟨.int (lo+i),H,I1,⟨t,?_⟩,⟨rfl,rfl⟩,st',λb hb=>(hf b hb).1⟩⟩;rw[Int.mul_one]
 done:=by
  intro X hP hw hK hc i pins s σ H E I hf st hg;subst hP hw hK;obtain⟨f0,f1,f2,f3,f4,f5⟩:=hf it (by simp);exact wpAny_pyNext_range_end (I.ok.hd hc) st (by have:n<=i:=hg;omega) λh' eb=>⟨rfl,I.turned (t':=s.toks) (λb o hb e=>eb b o hb e) f0 f1 f3 f4 f5⟩
 self:=λ_ _ _ _ _ st h=>wpAny_pyIter_rangeiter st h
section
variable {X:Cx} {tg:Expr}
def j10 (K:Ah) (tl:TE):TI:=λσ H R=>tl σ H λx H1=>∃a,x=.ref a/\(∃xs,SqL K H1 a xs)/\R (Itl K a) H1
def iTup (K:Ah) (tl:TE):TI:=λσ H R=>tl σ H λx H1=>∃a,x=.ref a/\(∃xs,SqT K H1 a xs)/\R (Itt K a) H1
theorem j09 {l:Expr} {tl:TE} (hl:PE X l tl):PI X tg l (j10 X.K tl):=by
 intro pins s σ H R I h;refine thn (hl pins s σ H _ I h) λv s1 ⟨x,H1,I1,r1,q1⟩=>?_;obtain⟨a,e,⟨xs,hq⟩,q⟩:=q1;subst e;cases r1;obtain⟨its,rv,p,hz⟩:=I1.list hq;refine wpAny_pyIter_list p.isList ?_;refine⟨s1.heap.objs.size,[s1.heap.objs.size],_,_,H1,rfl,I1.kept (t':=s1.toks) λb o e=>Ad _ e,jsl a _,⟨_,Au _ rfl,rfl,rfl⟩,λb hb=>?_,q⟩;have e:b=s1.heap.objs.size:=by simpa using hb
 subst e;exact I1.fpOk (Al _) (I1.hok.fresh (Al _))
theorem j39 {l:Expr} {tl:TE} (hl:PE X l tl):PI X tg l (iTup X.K tl):=by
 intro pins s σ H R I h;refine thn (hl pins s σ H _ I h) λv s1 ⟨x,H1,I1,r1,q1⟩=>?_;obtain⟨a,e,⟨xs,hq⟩,q⟩:=q1;subst e;cases r1;obtain⟨its,rv,p,hz⟩:=I1.tuple hq;refine C7 (show s1.heap.IsTuple a its.toArray from p) ?_;refine⟨s1.heap.objs.size,[s1.heap.objs.size],_,_,H1,rfl,I1.kept (t':=s1.toks) λb o e=>Ad _ e,jrg a _,⟨_,Au _ rfl,rfl,rfl⟩,λb hb=>?_,q⟩;have e:b=s1.heap.objs.size:=by simpa using hb
 subst e;exact I1.fpOk (Al _) (I1.hok.fresh (Al _))
theorem jwp {pins:List (Addr×Obj)} {σ:St} {H:Hp} {s:Aj} {R:It->Hp->Prop} {E:Af->Aj->Prop} {lo hi:Int} {t u v:Tok} {tk:Nat} (I:Inv X pins σ H s) (h1:-(2 ^ 62)<=lo) (h2:lo < 2 ^ 62) (h3:-(2 ^ 62)<=hi) (h4:hi < 2 ^ 62)
  (q:R (Itr lo (hi - lo).toNat) H):A3 (A9 X.prog X.w) X.A (pyIter (.ref s.heap.objs.size)) (PIE X pins σ tg R) E {s with heap:=s.heap.push {cls:=.type "range",data:=.fields #[.int lo t,.int hi u,.int 1 v]},toks:=tk}:=by
 refine wpAny_pyIter_range (IsRange.new ..) (small_one h1 h2 h3 h4) ?_;have I1:Inv X pins σ H {s with heap:=s.heap.push {cls:=.type "range",data:=.fields #[.int lo t,.int hi u,.int 1 v]},toks:=tk}:=I.kept λb o e=>Ad _ e;refine⟨(s.heap.push {cls:=.type "range",data:=.fields #[.int lo t,.int hi u,.int 1 v]}).objs.size,[(s.heap.push {cls:=.type "range",data:=.fields #[.int lo t,.int hi u,.int 1 v]}).objs.size],_,_,H,rfl,
  I1.kept (t':=tk) λb o e=>Ad _ e,jrh _ lo (hi - lo).toNat,?_,λb hb=>?_,q⟩
 ·have e1:lo+((0:Nat):Int)*1=lo:=by simp
  have e2:(((hi - lo).toNat:Nat):Int) - ((0:Nat):Int)=Builtin.Range.rangeSize lo hi 1:=by rw[rangeSize_one];split<;>omega
  show IsRangeIter _ _ (lo+((0:Nat):Int)*1) ((((hi - lo).toNat:Nat):Int) - ((0:Nat):Int)) 1;rw[e1,e2];exact Au _ rfl
 ·have e:b=(s.heap.push {cls:=.type "range",data:=.fields #[.int lo t,.int hi u,.int 1 v]}).objs.size:=by simpa using hb
  subst e;exact I1.fpOk (Al _) (I1.hok.fresh (Al _))
def j5b (ta:TA):TI:=λσ H R=>ta σ H λvs H1=>∃j:Int,vs=[.int j]/\-(2 ^ 62)<=j/\j < 2 ^ 62/\R (Itr 0 j.toNat) H1
theorem jty {a:Expr} {ta:TA} {p pos:Pos} (hg:Gl X "range") (hm:X.mg "range"=none) (ha:PA X [a] ta) (hs:Az [a] X.env=[(false,eval a X.env)]:=by rfl):PI X tg (.Call (.Name "range" p) [a] [] pos) (j5b ta):=by
 intro pins s σ H R I h;refine Call_ (ji8 I hg hm boot_range (Di (thn (ha pos pins s σ H _ I h) λus s1 ⟨vs,H1,I1,r1,q1⟩=>?_) hs rfl));obtain⟨j,e,q1,q2,q⟩:=q1;subst e;cases r1 with
 |cons r rr =>
  cases rr;obtain⟨t,rfl⟩:=r;exact call_range_1 (jwp I1 (by omega) (by omega) q1 q2 (by simpa using q))
def tFor (wi:TI) (g:TG) (tb:TS):TS:=λD σ H=>wi σ H λJ H1=>∃W:Nat->Nat->St->Hp->Prop,(∃m,W 0 m σ H1)/\∀i m σ H,W i m σ H ->
 (J.stop i H/\D.nx σ H)\/(J.go i H/\∃N:St->Hp->Prop,(∀σ' H',N σ' H'->∃m',m' < m/\W (i+1) m' σ' H')/\∀x H',J.yld i H x H'->g x σ H' λσ2 H2=>tb {D with nx:=N,ct:=N,bk:=D.nx} σ2 H2)
def jle (fp:List Addr) (h:Heap):List (Addr×Obj):=fp.filterMap λb=>(h.get? b).map λo=>(b,o)
theorem jcx {fp:List Addr} {h:Heap} {b:Addr} {o:Obj} (hb:b∈fp) (e:h.get? b=some o):(b,o)∈jle fp h:=Gt.mpr ⟨b,hb,by rw[e];rfl⟩
theorem jt9 {fp:List Addr} {h:Heap} {p:Addr×Obj} (hp:p∈jle fp h):p.1∈fp/\h.get? p.1=some p.2:=by
 obtain⟨b,hb,e⟩:=Gt.mp hp;cases q:h.get? b with
 |none=>rw[q]at e;cases e
 |some o =>
  rw[q]at e;have e':(b,o)=p:=Aq e;subst e';exact⟨hb,q⟩
theorem Inv.pinned {pins:List (Addr×Obj)} {σ:St} {H:Hp} {s:Aj} {fp:List Addr} (I:Inv X pins σ H s) (hf:∀b∈fp,FpOk X pins H b) (ho:∀b∈fp,∃o,s.heap.get? b=some o/\∀v,o.data≠.cell v):Inv X (pins++jle fp s.heap) σ H s :=
 I.pins_of λp hp=>(A7.mp hp).elim (λz=>I.pin p (Bf _ z)) λz=>by
  obtain⟨hb,e⟩:=jt9 z;obtain⟨f0,f1,f2,_⟩:=hf p.1 hb;obtain⟨o,e',d⟩:=ho p.1 hb;rw[e]at e';cases e';exact⟨e,f0,f1,f2,d⟩
theorem Inv.unpinned {pins pl:List (Addr×Obj)} {σ:St} {H:Hp} {s:Aj} (I:Inv X (pins++pl) σ H s):Inv X pins σ H s:=I.pins_of λp hp=>I.pin p (Bf _ (D1 _ hp))
theorem j37 {iter:Expr} {body:List Stmt} {wi:TI} {g:TG} {tb:TS} {pos:Pos} (hp:PassesOwn (A9 X.prog X.w) X.A X.env X.xe) (hc:X.calm=true) (hi:PI X tg iter wi) (hg:PG X tg g) (hb:PSs X body tb)
  (hs:∀x,Ec iter X.env x=pure x:=by intro _;rfl):PS X (.For tg iter body [] pos) (tFor wi g tb):=by
 intro pins s σ H D I h;refine wpAny_For (thn (hi pins s σ H _ I h) λv s1 h1=>thn h1 λitv s2 h2=>?_) hs;obtain⟨it,fp,tn,J,H2,e,I2,T,st2,f2,W,⟨m0,w0⟩,turn⟩:=h2;subst e
 -- what stays true of the iterator's objects through the loop
 have stat:∀{H':Hp},(∀b∈fp,H' b=none)->∀b∈fp,FpOk X pins H' b:=λhn b hb=>⟨hn b hb,(f2 b hb).2⟩;refine codeAny_forLoop_any (λn s'=>∃i σ' H',Inv X pins σ' H' s'/\tn i s'.heap/\(∀b∈fp,H' b=none)/\W i n σ' H') ?_ m0 ⟨0,σ,H2,I2,st2,λb hb=>(f2 b hb).1,w0⟩
 rintro n s3 ⟨i,σ3,H3,I3,st3,fr3,w3⟩
 rcases turn i n σ3 H3 w3 with⟨stop,qn⟩ | ⟨go,N,hN,step⟩
 ·refine Gu hp (thn (T.done X rfl rfl rfl hc i pins s3 σ3 H3 X.xe I3 (stat fr3) st3 stop) λr s4 ⟨hr,I4⟩=>?_);subst hr;exact wpAny_execs_nil ⟨σ3,H3,I4,qn⟩
 ·refine Gu hp (thn (T.item X rfl rfl rfl hc i pins s3 σ3 H3 X.xe I3 (stat fr3) st3 go) λr s4 ⟨u,hr,h4⟩=>?_);subst hr;refine Gu hp (thn h4 λ_ s5 ⟨x,H5,I5,r5,y5,st5,fr5⟩=>?_);have I5':=I5.pinned (stat fr5) (T.obj _ _ st5);refine Gu hp (thn (hg _ s5 σ3 H5 x u _ I5' r5 (step x H5 y5)) λ_ s6 ⟨σ6,H6,I6,q6⟩=>?_);refine Gu hp (thn (hb _ s6 σ6 H6 _ I6 q6) λf s7 q7=>?_);have again:∀{σ7:St} {H7:Hp},Inv X (pins++jle fp s5.heap) σ7 H7 s7->N σ7 H7->∃m,m < n/\∃i σ' H',Inv X pins σ' H' s7/\tn i s7.heap/\(∀b∈fp,H' b=none)/\W i m σ' H':=λ{σ7 H7} I7 n7=>by
   obtain⟨m',hm,w7⟩:=hN σ7 H7 n7;refine⟨m',hm,i+1,σ7,H7,I7.unpinned,T.keep _ _ _ st5 λb hb o e=>(I7.pin (b,o) (Bf _ (Bf _ (jcx hb e)))).1,λb hb=>?_,w7⟩;obtain⟨o,e,d⟩:=T.obj _ _ st5 b hb;exact(I7.pin (b,o) (Bf _ (Bf _ (jcx hb e)))).2.1
  cases f with
  |next=>obtain⟨σ7,H7,I7,n7⟩:=q7;exact again I7 n7
  |cont=>obtain⟨σ7,H7,I7,n7⟩:=q7;exact again I7 n7
  |brk=>obtain⟨σ7,H7,I7,q7⟩:=q7;exact⟨σ7,H7,I7.unpinned,q7⟩
  |ret v=>obtain⟨x7,σ7,H7,I7,r7,q7⟩:=q7;exact⟨x7,σ7,H7,I7.unpinned,r7,q7⟩
end
abbrev R2:=V->V->Hp->VK->Prop
def OpR (X:Cx) (f:Af->Af->Sem Af) (r:R2):Prop :=
 ∀(pins:List (Addr×Obj)) (s:Aj) (σ:St) (H:Hp) (x y:V) (v u:Af) (Q:VK),Inv X pins σ H s->RelV x v->RelV y u->r x y H Q ->
  A3 (A9 X.prog X.w) X.A (f v u) (EP X pins σ Q) X.xe s
def UnR (X:Cx) (f:Af->Sem Af) (r:V->Hp->VK->Prop):Prop :=
 ∀(pins:List (Addr×Obj)) (s:Aj) (σ:St) (H:Hp) (x:V) (v:Af) (Q:VK),Inv X pins σ H s->RelV x v->r x H Q ->
  A3 (A9 X.prog X.w) X.A (f v) (EP X pins σ Q) X.xe s
def CallR (X:Cx) (f:Af) (r:List V->Hp->VK->Prop):Prop :=
 ∀(pins:List (Addr×Obj)) (s:Aj) (σ:St) (H:Hp) (xs:List V) (us:List Af) (Q:VK),Inv X pins σ H s->Vals xs us->r xs H Q ->
  A3 (A9 X.prog X.w) X.A (call f us) (EP X pins σ Q) X.xe s
def tOp (r:R2) (ta tb:TE):TE:=λσ H Q=>ta σ H λx H1=>tb σ H1 λy H2=>r x y H2 Q
def tUn (r:V->Hp->VK->Prop) (ta:TE):TE:=λσ H Q=>ta σ H λx H1=>r x H1 Q
def rI (C:Int->Int->Prop) (g:Int->Int->V):R2:=λx y H Q=>∃i j,x=.int i/\y=.int j/\C i j/\Q (g i j) H
def rI0 (g:Int->Int->V):R2:=λx y H Q=>∃i j,x=.int i/\y=.int j/\Q (g i j) H
def rU (g:Int->V):V->Hp->VK->Prop:=λx H Q=>∃i,x=.int i/\Q (g i) H
section
variable {X:Cx} {a b c:Expr} {ta tb tc:TE} {pos:Pos}
theorem binT (ha:PE X a ta) (hb:PE X b tb) {pins:List (Addr×Obj)} {s:Aj} {σ:St} {H:Hp} {R:V->V->Hp->Prop} (I:Inv X pins σ H s)
  (h:ta σ H λx H1=>tb σ H1 λy H2=>R x y H2) {Q:Af->Aj->Prop} {f:Af->Af->Sem Af}
  (hf:∀v u s2 x y H2,Inv X pins σ H2 s2->RelV x v->RelV y u->R x y H2->A3 (A9 X.prog X.w) X.A (f v u) Q X.xe s2) :
  A3 (A9 X.prog X.w) X.A (eval a X.env) (λv s₁=>A3 (A9 X.prog X.w) X.A (eval b X.env) (λu s₂=>A3 (A9 X.prog X.w) X.A (f v u) Q X.xe s₂) X.xe s₁) X.xe s:=by
 refine thn (ha pins s σ H _ I h) λv s1 ⟨x,H1,I1,r1,q1⟩=>?_;refine thn (hb pins s1 σ H1 _ I1 q1) λu s2 ⟨y,H2,I2,r2,q2⟩=>?_;exact hf v u s2 x y H2 I2 r1 r2 q2
theorem jc8 {op:Operator} {r:R2} (ho:OpR X (En op) r) (ha:PE X a ta) (hb:PE X b tb):PE X (.BinOp a op b pos) (tOp r ta tb):=by
 intro pins s σ H Q I h;exact wpAny_BinOp (binT ha hb I h λv u s2 x y H2 I2 rx ry q=>ho pins s2 σ H2 x y v u Q I2 rx ry q)
theorem j6f {op:UnaryOp} {r:V->Hp->VK->Prop} (ho:UnR X (unaryOp op) r) (ha:PE X a ta):PE X (.UnaryOp op a pos) (tUn r ta):=by
 intro pins s σ H Q I h;exact UnaryOp_ (thn (ha pins s σ H _ I h) λv s1 ⟨x,H1,I1,r1,q1⟩=>ho pins s1 σ H1 x v Q I1 r1 q1)
theorem opI {f:Af->Af->Sem Af} {C:Int->Int->Prop} {g:Int->Int->Int}
  (rule:∀(i j:Int) (t u:Tok) (s:Aj) (Q:Af->Aj->Prop) (E:Af->Aj->Prop),C i j->Q (.int (g i j) s.toks) {s with toks:=s.toks+1}->A3 (A9 X.prog X.w) X.A (f (.int i t) (.int j u)) Q E s) :
  OpR X f (rI C λi j=>.int (g i j)):=by
 intro pins s σ H x y v u Q I rx ry h;obtain⟨i,j,rfl,rfl,hc,q⟩:=h;obtain⟨t,rfl⟩:=rx;obtain⟨t',rfl⟩:=ry;exact rule i j t t' s _ _ hc ⟨.int (g i j),H,I.tok _,⟨_,rfl⟩,q⟩
theorem opI0 {f:Af->Af->Sem Af} {g:Int->Int->Int}
  (rule:∀(i j:Int) (t u:Tok) (s:Aj) (Q:Af->Aj->Prop) (E:Af->Aj->Prop),Q (.int (g i j) s.toks) {s with toks:=s.toks+1}->A3 (A9 X.prog X.w) X.A (f (.int i t) (.int j u)) Q E s) :
  OpR X f (rI0 λi j=>.int (g i j)):=by
 intro pins s σ H x y v u Q I rx ry h;obtain⟨i,j,rfl,rfl,q⟩:=h;obtain⟨t,rfl⟩:=rx;obtain⟨t',rfl⟩:=ry;exact rule i j t t' s _ _ ⟨.int (g i j),H,I.tok _,⟨_,rfl⟩,q⟩
theorem opB0 {f:Af->Af->Sem Af} {g:Int->Int->Bool}
  (rule:∀(i j:Int) (t u:Tok) (s:Aj) (Q:Af->Aj->Prop) (E:Af->Aj->Prop),Q (.bool (g i j)) s->A3 (A9 X.prog X.w) X.A (f (.int i t) (.int j u)) Q E s) :
  OpR X f (rI0 λi j=>.bl (g i j)):=by
 intro pins s σ H x y v u Q I rx ry h;obtain⟨i,j,rfl,rfl,q⟩:=h;obtain⟨t,rfl⟩:=rx;obtain⟨t',rfl⟩:=ry;exact rule i j t t' s _ _ ⟨.bl (g i j),H,I,rfl,q⟩
def CDiv (i j:Int):Prop:=0 < j/\j < 1073741824
def CPow (i j:Int):Prop:=0<=j/\j<=1000000/\i.natAbs < 2 ^ 64
def CMul (i j:Int):Prop:=(-(2 ^ 64) < i/\i < 2 ^ 64)\/(-(2 ^ 64) < j/\j < 2 ^ 64)
theorem CMul.ok {i j:Int} (h:CMul i j):IntMulOk i j:=by
 rcases h with⟨h1,h2⟩ | ⟨h1,h2⟩
 ·exact .of_left (intBits_le_64 h1 h2)
 ·exact .of_right (intBits_le_64 h1 h2)
theorem op_add:OpR X (En .Add) (rI0 λi j=>.int (i+j)):=opI0 λ_ _ _ _ _ _ _ q=>add_int q
theorem j4j:OpR X (En .Sub) (rI0 λi j=>.int (i - j)):=opI0 λ_ _ _ _ _ _ _ q=>sub_int q
theorem jlf:OpR X (En .Mult) (rI CMul λi j=>.int (i*j)):=opI λ_ _ _ _ _ _ _ hc q=>mul_int q hc.ok
theorem jt8:OpR X (En .FloorDiv) (rI CDiv λi j=>.int (i / j)):=opI λi j _ _ _ _ _ hc q=>by
 have h1:(0:Int) < j:=hc.1;have h2:j < 1073741824:=hc.2;exact floordiv_int (by omega) (by rw[Int.fdiv_eq_ediv_of_nonneg i (by omega)];exact q) (.inl (PyProof.noPylong_small (by omega)))
theorem jhq:OpR X (En .Mod) (rI (λ_ j=>0 < j) λi j=>.int (i % j)):=opI λi j _ _ _ _ _ hc q=>by
 have h1:(0:Int) < j:=hc;exact mod_int' (by omega) (by rw[Int.fmod_eq_emod_of_nonneg i (by omega)];exact q)
theorem j4k:OpR X (En .Pow) (rI CPow λi j=>.int (i ^ j.toNat)):=opI λ_ _ _ _ _ _ _ hc q=>pow_int_small hc.1 hc.2.1 hc.2.2 q
theorem unI {f:Af->Sem Af} {g:Int->Int}
  (rule:∀(i:Int) (t:Tok) (s:Aj) (Q:Af->Aj->Prop) (E:Af->Aj->Prop),Q (.int (g i) s.toks) {s with toks:=s.toks+1}->A3 (A9 X.prog X.w) X.A (f (.int i t)) Q E s) :
  UnR X f (rU λi=>.int (g i)):=by
 intro pins s σ H x v Q I rx h;obtain⟨i,rfl,q⟩:=h;obtain⟨t,rfl⟩:=rx;exact rule i t s _ _ ⟨.int (g i),H,I.tok _,⟨_,rfl⟩,q⟩
theorem j2w:UnR X (unaryOp .USub) (rU λi=>.int (-i)):=unI λ_ _ _ _ _ q=>neg_int q
end
def scal:V->V->Bool
 |.non,.non=>true | .non,.int _=>true | .int _,.non=>true | .non,.bl _=>true | .bl _,.non=>true | .non,.str _=>true | .str _,.non=>true
 |.int _,.int _=>true | .bl _,.bl _=>true | .str _,.str _=>true | .byt _,.byt _=>true
 |.int _,.str _=>true | .str _,.int _=>true | .bl _,.str _=>true | .str _,.bl _=>true
 |_,_=>false
def rEq:R2:=λx y H Q=>scal x y=true/\Q (.bl (decide (x=y))) H
def rNe:R2:=λx y H Q=>scal x y=true/\Q (.bl (!decide (x=y))) H
theorem ju5 {i j:Int}:decide (V.int i=V.int j)=(i==j):=by
 rw[Gm];simp
theorem jzz {i j:Bool}:decide (V.bl i=V.bl j)=(i==j):=by
 rw[Gm];simp
theorem ju4 {i j:Str}:decide (V.str i=V.str j)=(i==j):=by
 rw[Gm];simp
theorem ju6 {i j:Array UInt8}:decide (V.byt i=V.byt j)=(i.toList==j.toList):=by
 rw[Gm];cases i;cases j;simp
section
variable {X:Cx} {a b c:Expr} {ta tb tc:TE} {pos:Pos}
theorem jbd {pins:List (Addr×Obj)} {σ:St} {H:Hp} {s:Aj} {Q:VK} {k k':Bool} (I:Inv X pins σ H s) (q:Q (.bl k) H) (e:k=k'):EP X pins σ Q (.bool k') s:=by
 subst e;exact⟨.bl k,H,I,rfl,q⟩
theorem op_eq:OpR X (B1 .Eq) rEq:=by
 intro pins s σ H x y v u Q I rx ry h;obtain⟨hs,q⟩:=h;cases x with
 |non =>
  cases rx;cases y with
  |non=>cases ry;exact PySem.EqNone.eq_none_none (jbd I q (by simp))
  |bl j=>cases ry;exact PySem.EqNone.eq_none_bool (jbd I q (by simp))
  |int j=>obtain⟨t',rfl⟩:=ry;exact PySem.EqNone.eq_none_int (jbd I q (by simp))
  |str j=>obtain⟨t',rfl⟩:=ry;exact PySem.EqNone.eq_none_str (jbd I q (by simp))
  |_=>exact absurd (show false=true from hs) Ak
 |bl i =>
  cases rx;cases y with
  |non=>cases ry;exact PySem.EqNone.eq_bool_none (jbd I q (by simp))
  |bl j=>cases ry;exact eq_bool (jbd I q jzz)
  |str j=>obtain⟨t',rfl⟩:=ry;exact PySem.EqMixed.eq_bool_str (jbd I q (by simp))
  |_=>exact absurd (show false=true from hs) Ak
 |int i =>
  obtain⟨t,rfl⟩:=rx;cases y with
  |non=>cases ry;exact PySem.EqNone.eq_int_none (jbd I q (by simp))
  |int j=>obtain⟨t',rfl⟩:=ry;exact eq_int (jbd I q ju5)
  |str j=>obtain⟨t',rfl⟩:=ry;exact PySem.EqMixed.eq_int_str (jbd I q (by simp))
  |_=>exact absurd (show false=true from hs) Ak
 |str i =>
  obtain⟨t,rfl⟩:=rx;cases y with
  |non=>cases ry;exact PySem.EqNone.eq_str_none (jbd I q (by simp))
  |bl j=>cases ry;exact PySem.EqMixed.eq_str_bool (jbd I q (by simp))
  |int j=>obtain⟨t',rfl⟩:=ry;exact PySem.EqMixed.eq_str_int (jbd I q (by simp))
  |str j=>obtain⟨t',rfl⟩:=ry;exact eq_str (jbd I q ju4)
  |_=>exact absurd (show false=true from hs) Ak
 |byt i =>
  obtain⟨t,rfl⟩:=rx;cases y with
  |byt j=>obtain⟨t',rfl⟩:=ry;exact PySem.W.eq_bytes (jbd I q ju6)
  |_=>exact absurd (show false=true from hs) Ak
 |_=>cases y<;>exact absurd (show false=true from hs) Ak
theorem jrr:OpR X (B1 .NotEq) rNe:=by
 intro pins s σ H x y v u Q I rx ry h;obtain⟨hs,q⟩:=h;cases x with
 |non =>
  cases rx;cases y with
  |non=>cases ry;exact PySem.EqNone.ne_none_none (jbd I q (by simp))
  |bl j=>cases ry;exact PySem.EqNone.ne_none_bool (jbd I q (by simp))
  |int j=>obtain⟨t',rfl⟩:=ry;exact PySem.EqNone.ne_none_int (jbd I q (by simp))
  |str j=>obtain⟨t',rfl⟩:=ry;exact PySem.EqNone.ne_none_str (jbd I q (by simp))
  |_=>exact absurd (show false=true from hs) Ak
 |bl i =>
  cases rx;cases y with
  |non=>cases ry;exact PySem.EqNone.ne_bool_none (jbd I q (by simp))
  |bl j=>cases ry;exact ne_bool (jbd I q (congrArg not jzz))
  |str j=>obtain⟨t',rfl⟩:=ry;exact PySem.EqMixed.ne_bool_str (jbd I q (by simp))
  |_=>exact absurd (show false=true from hs) Ak
 |int i =>
  obtain⟨t,rfl⟩:=rx;cases y with
  |non=>cases ry;exact PySem.EqNone.ne_int_none (jbd I q (by simp))
  |int j=>obtain⟨t',rfl⟩:=ry;exact ne_int (jbd I q (congrArg not ju5))
  |str j=>obtain⟨t',rfl⟩:=ry;exact PySem.EqMixed.ne_int_str (jbd I q (by simp))
  |_=>exact absurd (show false=true from hs) Ak
 |str i =>
  obtain⟨t,rfl⟩:=rx;cases y with
  |non=>cases ry;exact PySem.EqNone.ne_str_none (jbd I q (by simp))
  |bl j=>cases ry;exact PySem.EqMixed.ne_str_bool (jbd I q (by simp))
  |int j=>obtain⟨t',rfl⟩:=ry;exact PySem.EqMixed.ne_str_int (jbd I q (by simp))
  |str j=>obtain⟨t',rfl⟩:=ry;exact ne_str (jbd I q (congrArg not ju4))
  |_=>exact absurd (show false=true from hs) Ak
 |byt i =>
  obtain⟨t,rfl⟩:=rx;cases y with
  |byt j=>obtain⟨t',rfl⟩:=ry;exact PySem.W.ne_bytes (jbd I q (congrArg not ju6))
  |_=>exact absurd (show false=true from hs) Ak
 |_=>cases y<;>exact absurd (show false=true from hs) Ak
theorem op_lt:OpR X (B1 .Lt) (rI0 λi j=>.bl (decide (i < j))):=opB0 λ_ _ _ _ _ _ _ q=>lt_int q
theorem op_le:OpR X (B1 .LtE) (rI0 λi j=>.bl (decide (i<=j))):=opB0 λ_ _ _ _ _ _ _ q=>le_int q
theorem op_gt:OpR X (B1 .Gt) (rI0 λi j=>.bl (decide (j < i))):=opB0 λ_ _ _ _ _ _ _ q=>gt_int q
theorem j6i:OpR X (B1 .GtE) (rI0 λi j=>.bl (decide (j<=i))):=opB0 λ_ _ _ _ _ _ _ q=>ge_int q
theorem jt3:OpR X (B1 .Lt) (λx y H Q=>∃i j,x=.str i/\y=.str j/\Q (.bl (decide (i.cps.toList < j.cps.toList))) H):=by
 intro pins s σ H x y v u Q I rx ry h;obtain⟨i,j,rfl,rfl,q⟩:=h;obtain⟨t,rfl⟩:=rx;obtain⟨t',rfl⟩:=ry;exact lt_str (jbd I q rfl)
theorem jhs:OpR X (B1 .Is) (λx y H Q=>y=.non/\Q (.bl (decide (x=.non))) H):=by
 intro pins s σ H x y v u Q I rx ry h;obtain⟨rfl,q⟩:=h;cases ry;refine is_none_gen (jbd I q ?_);cases x<;>first
  | (cases rx;rfl)
  | (obtain⟨t,rfl⟩:=rx;rfl)
theorem jgs:OpR X (B1 .IsNot) (λx y H Q=>y=.non/\Q (.bl (!decide (x=.non))) H):=by
 intro pins s σ H x y v u Q I rx ry h;obtain⟨rfl,q⟩:=h;cases ry;refine isnot_none_gen (jbd I q ?_);cases x<;>first
  | (cases rx;rfl)
  | (obtain⟨t,rfl⟩:=rx;rfl)
theorem OpR.or {f:Af->Af->Sem Af} {r r':R2} (h:OpR X f r) (h':OpR X f r'):OpR X f (λx y H Q=>r x y H Q\/r' x y H Q):=by
 intro pins s σ H x y v u Q I rx ry q;rcases q with q | q
 ·exact h pins s σ H x y v u Q I rx ry q
 ·exact h' pins s σ H x y v u Q I rx ry q
theorem jaq (b:Expr) {op:CmpOp} (h:op≠.In:=by decide) (h2:op≠.NotIn:=by decide):Co op b=false:=by
 have e1:(op==CmpOp.In)=false:=by cases op<;>first | rfl | exact absurd rfl h
 have e2:(op==CmpOp.NotIn)=false:=by cases op<;>first | rfl | exact absurd rfl h2
 cases b<;>simp[Co,e1,e2]
theorem j1g {op:CmpOp} {r:R2} (ho:OpR X (B1 op) r) (ha:PE X a ta) (hb:PE X b tb) (hm:Co op b=false):PE X (.Compare a [op] [b] pos) (tOp r ta tb):=by
 intro pins s σ H Q I h;exact wpAny_Compare1 (binT ha hb I h λv u s2 x y H2 I2 rx ry q=>ho pins s2 σ H2 x y v u Q I2 rx ry q) hm
def jo7 (t:TE):TT:=λσ H Q=>t σ H λx H'=>∃k,x=.bl k/\Q k H'
theorem jfy {op:CmpOp} {r:R2} (ho:OpR X (B1 op) r) (ha:PE X a ta) (hb:PE X b tb) (hm:Co op b=false):PT X (.Compare a [op] [b] pos) (jo7 (tOp r ta tb)):=by
 intro pins s σ H Q I h;refine wpAny_isTrue_Compare1 (thn (ha pins s σ H _ I h) λv s1 ⟨x,H1,I1,r1,q1⟩=>thn (hb pins s1 σ H1 _ I1 q1) λu s2 ⟨y,H2,I2,r2,q2⟩ =>
  thn (ho pins s2 σ H2 x y v u _ I2 r1 r2 q2) λc s3 ⟨z,H3,I3,r3,k,e,q3⟩=>?_) hm
 subst e;cases r3;exact D9 ⟨H3,I3,q3⟩
def jsr (r r':R2) (ta tb tc:TE):TE:=λσ H Q=>ta σ H λx H1=>tb σ H1 λy H2=>r x y H2 λz H3=>∃k,z=.bl k /\
 (if k=true then tc σ H3 λw' H4=>r' y w' H4 Q else Q (.bl false) H3)
theorem jw2 {op op':CmpOp} {r r':R2} (ho:OpR X (B1 op) r) (ho':OpR X (B1 op') r') (ha:PE X a ta) (hb:PE X b tb) (hc:PE X c tc)
  (hm:lastMarks [op,op'] [b,c]=false:=by with_unfolding_all rfl):PE X (.Compare a [op,op'] [b,c] pos) (jsr r r' ta tb tc):=by
 intro pins s σ H Q I h;refine Compare_chain (thn (ha pins s σ H _ I h) λv s1 ⟨x,H1,I1,r1,q1⟩=>chain_link (thn (hb pins s1 σ H1 _ I1 q1) λu s2 ⟨y,H2,I2,r2,q2⟩ =>
  thn (ho pins s2 σ H2 x y v u _ I2 r1 r2 q2) λd s3 ⟨z,H3,I3,r3,k,e,q3⟩=>?_)) hm
 subst e;cases r3;refine D9 ?_;cases k with
 |false=>exact ite_ff ⟨.bl false,H3,I3,rfl,q3⟩
 |true=>exact ite_tt (chain_last (thn (hc pins s3 σ H3 _ I3 q3) λw' s4 ⟨z',H4,I4,r4,q4⟩=>ho' pins s4 σ H4 y z' u w' Q I4 r2 r4 q4))
theorem jlh:(A1:Nat) < 2 ^ 63:=by rw[Ea];decide
theorem op_add_str:OpR X (En .Add) (λx y H Q=>∃i j,x=.str i/\y=.str j/\i.length+j.length<=A1/\Q (.str (i++j)) H):=by
 intro pins s σ H x y v u Q I rx ry h;obtain⟨i,j,rfl,rfl,hz,q⟩:=h;obtain⟨t,rfl⟩:=rx;obtain⟨t',rfl⟩:=ry;exact add_str (λt' tk=>⟨.str (i++j),H,I.tok _,⟨_,rfl⟩,q⟩) hz
theorem jnb {x:V} {us:List Af} (r:Vals [x] us):∃u,us=[u]/\RelV x u:=by
 cases r with
 |cons r1 r2=>cases r2;exact⟨_,rfl,r1⟩
theorem j0d {x y:V} {us:List Af} (r:Vals [x,y] us):∃u w',us=[u,w']/\RelV x u/\RelV y w':=by
 cases r with
 |cons r1 r2 =>
  cases r2 with
  |cons r3 r4=>cases r4;exact⟨_,_,rfl,r1,r3⟩
end
structure ObjM (h:Heap) (x dx C:Addr) (mA:Str->Option Af):Prop where
 obj:h.get? x=some (PySem.W.instObj C dx)
 ns:h.Ns1 dx mA
 ne:dx≠x
theorem jud {h:Heap} {dx:Addr} {mA:Str->Option Af} (n:h.Ns1 dx mA):∃od,h.get? dx=some od/\∀name,PySem.W.lookIn name od=some (mA name):=by
 obtain⟨o,es,ep,ho,hd,hk,_,hm⟩:=n;refine⟨o,ho,λname=>?_⟩;have e:=hm name;unfold nsFind findBy at e;rw[<-Array.find?_toList]at e;unfold PySem.W.lookIn;rw[hd];dsimp only
 split
 ·rename_i y q;rw[q]at e;exact congrArg some e
 ·rename_i q;rw[q]at e;have a:es.toList.any (·.refKey)=false:=by
   rw[List.any_eq_false];intro y hy;obtain⟨z,t,hkey⟩:=hk y (Array.mem_toList_iff.mp hy);simp[DictEntry.refKey,hkey]
  have a':¬es.toList.any (·.refKey)=true:=by rw[a];exact Ak
  rw[if_neg a'];exact congrArg some e
theorem ObjM.look {h:Heap} {x dx C:Addr} {mA:Str->Option Af} (I:ObjM h x dx C mA):∃od,PySem.W.InstAt h x (PySem.W.instObj C dx) C (some od)/\∀name,PySem.W.lookIn name od=some (mA name) :=
 let⟨od,ho,hl⟩:=jud I.ns
 ⟨od,⟨I.obj,rfl,rfl,ho⟩,hl⟩
theorem RelO.some_of {v:V} {o:Option Af} (r:RelO (some v) o):∃u,o=some u/\RelV v u:=by
 cases o with
 |none=>exact(show False from r).elim
 |some u=>exact⟨u,rfl,r⟩
section
variable {P:Bg} {w:Bt} {H H':Hp} {h h':Heap} {a C dx:Addr} {fs fs':List (Str×V)}
theorem j1w (hok:HOk P w H h) (e:H a=some (.ins C dx fs)):∃mA,ObjM h a dx C mA/\(∀f,RelO (fs.lookup f) (mA f))/\PySem.Within mA (fs.map (·.1))/\fs.length<=1000/\H dx=some (.own a):=by
 obtain⟨d,z,ne,ob,mA,n,r,q⟩:=(show ObjOk P w H h a (.ins C dx fs)from hok a _ e);exact⟨mA,⟨ob,n,ne⟩,r,q,z,d⟩
end
structure Cls (K:Ah) (C:Addr):Prop where
 pg:PySem.W.plainGet K C Str.empty=true
 hd:PySem.W.hasDictIn K C=true
 po:PySem.W.plainOver K C=true
 sa:PySem.W.findIn K (.ref C) "__setattr__"=some (some (.builtin "object.__setattr__"))
theorem Cls.get {K:Ah} {C:Addr} (c:Cls K C) (f:Str):PySem.W.plainGet K C f=true:=c.pg
section
variable {X:Cx} {pins:List (Addr×Obj)} {σ:St} {H:Hp} {s:Aj} {A:B6} {E:Af->Aj->Prop} {Q:Af->Aj->Prop} {c:Af} {b:Bool}
inductive TyOf (K:Ah) (H:Hp):V->Af->Prop where
 |non:TyOf K H .non (.type "NoneType")
 |bl (x:Bool):TyOf K H (.bl x) (.type "bool")
 |int (i:Int):TyOf K H (.int i) (.type "int")
 |str (x:Str):TyOf K H (.str x) (.type "str")
 |flt (x:UInt64):TyOf K H (.flt x) (.type "float")
 |lst {a:Addr} {xs:List V} (e:H a=some (.lst xs)):TyOf K H (.ref a) (.type "list")
 |frz {a:Addr} {o:Obj} {xs:List V} (e:H a=some (.frz o (.lst xs))):TyOf K H (.ref a) (.type "list")
 |tup {a:Addr} {xs:List V} (e:H a=some (.tup xs)):TyOf K H (.ref a) (.type "tuple")
 |dK {a:Addr} {kvs:List (Key×V)} (e:H a=some (.dK kvs)):TyOf K H (.ref a) (.type "dict")
 |dT {a:Addr} {kvs:List (List Key×V)} (e:H a=some (.dT kvs)):TyOf K H (.ref a) (.type "dict")
 |ins {a C dx:Addr} {fs:List (Str×V)} (e:H a=some (.ins C dx fs)) (cl:Cls K C) (ha:PySem.W.findIn K (.ref C) "__class__"=some (some (.builtin "object.__class__")))
   (hn:PySem.W.specialIn K (.builtin "object.__class__") "__get__"=some (some (.builtin "getset_descriptor.__get__"))) (htk:PySem.W.takesIn K (.builtin "object.__class__")=some true)
   (hm:PySem.W.mroIn K C (.type "object")=some true):TyOf K H (.ref a) (.ref C)
theorem juo {x:V} {u t:Af} (I:Inv X pins σ H s) (rx:RelV x u) (ty:TyOf X.K H x t) (e:PySem.W.kitOne X.K t c=some b) (h:∀tk,Q (.bool b) {s with toks:=tk}) :
  A3 (A9 X.prog X.w) A (call (.builtin "isinstance") [u,c]) Q E s:=by
 cases ty with
 |non=>cases(show u=Bh from rx);exact C0 PySem.W.kitx_none I.kIn D3 e (λz=>nomatch z) h
 |bl y=>cases(show u=Value.bool y from rx);exact C0 PySem.W.kitx_bool I.kIn D3 e (λz=>nomatch z) h
 |int i=>obtain⟨t,q⟩:=(show ∃t,u=Value.int i t from rx);cases q;exact C0 PySem.W.kitx_int I.kIn D3 e (λz=>nomatch z) h
 |str y=>obtain⟨t,q⟩:=(show ∃t,u=Value.str y t from rx);cases q;exact C0 PySem.W.kitx_str I.kIn D3 e (λz=>nomatch z) h
 |flt y=>obtain⟨t,q⟩:=(show ∃t,u=Value.float y t from rx);cases q;exact C0 PySem.W.kitx_float I.kIn D3 e (λz=>nomatch z) h
 |@lst a xs ea =>
  cases(show u=A8 a from rx);obtain⟨_,_,n,_,h1⟩:=(show ObjOk X.prog X.w H s.heap a (.lst xs)from I.hok a _ ea);exact C0 PySem.W.kitx_list I.kIn ⟨_,h1,rfl⟩ e (λz=>nomatch z) h
 |@frz a ob xs ea =>
  cases(show u=A8 a from rx);obtain⟨_,_,_,n,_,h1⟩:=(show ObjOk X.prog X.w H s.heap a (.frz ob (.lst xs))from I.hok a _ ea);exact C0 PySem.W.kitx_list I.kIn ⟨_,h1,rfl⟩ e (λz=>nomatch z) h
 |@tup a xs ea =>
  cases(show u=A8 a from rx);obtain⟨_,_,_,p⟩:=(show ObjOk X.prog X.w H s.heap a (.tup xs)from I.hok a _ ea);obtain⟨o,h1,h2,_⟩:=p;exact C0 PySem.W.kitx_tuple I.kIn ⟨o,h1,h2⟩ e (λz=>nomatch z) h
 |@dK a kvs ea =>
  cases(show u=A8 a from rx);obtain⟨_,_,vs,_,p⟩:=(show ObjOk X.prog X.w H s.heap a (.dK kvs)from I.hok a _ ea);obtain⟨o,es,ep,h1,h2,_⟩:=p;exact C0 PySem.W.kitx_dict I.kIn ⟨o,h1,h2.1⟩ e (λz=>nomatch z) h
 |@dT a kvs ea =>
  cases(show u=A8 a from rx);obtain⟨_,_,xs,_,o,es,ep,h1,h2,_⟩:=(show ObjOk X.prog X.w H s.heap a (.dT kvs)from I.hok a _ ea);exact C0 PySem.W.kitx_dict I.kIn ⟨o,h1,h2.1⟩ e (λz=>nomatch z) h
 |@ins a C dx fs ea cl ha hn htk hm =>
  cases(show u=A8 a from rx);obtain⟨mA,O,_⟩:=j1w I.hok ea;obtain⟨od,J,_⟩:=O.look;exact C0 (PySem.W.kitx_own (cl.get _) cl.hd ha hn htk hm) I.kIn J e (λz=>nomatch z) h
end
structure Room (k:Nat) (A:B6):Prop where
 hd:A.handled=none
 dp:A.depth+3*k+5 < recursionLimit
 un:A.units+16*k+200 < E2
 gd:A.guards=some []
theorem Room.mono {j k:Nat} {A:B6} (r:Room k A) (h:j<=k):Room j A:=⟨r.hd,by have:=r.dp;omega,by have:=r.un;omega,r.gd⟩
theorem Room.deeper {k:Nat} {A:B6} (r:Room (k+1) A) (env:Env):Room k (A.deeper env) :=
 ⟨r.hd,by have:=r.dp;show A.depth+1+3*k+5 < _;omega,by have:=r.un;show A.units+3+16*k+200 < _;omega,r.gd⟩
theorem Room.depth {k:Nat} {A:B6} (r:Room k A):A.depth < recursionLimit:=by have:=r.dp;omega
theorem Room.units {k:Nat} {A:B6} (r:Room k A):A.units+64 < E2:=by have:=r.un;omega
theorem Room.units0 {k:Nat} {A:B6} (r:Room k A):A.units < E2:=by have:=r.un;omega
def tNil:TA:=λ_ H Q=>Q [] H
def jcv (ta:TE) (tr:TA):TA:=λσ H Q=>ta σ H λx H1=>tr σ H1 λxs H2=>Q (x::xs) H2
section
variable {X:Cx} {e:Expr} {es:List Expr} {te:TE} {t:TA} {pos:Pos}
theorem jb0:PA X [] tNil:=λ_ _ _ _ H Q I h=>Calls.spliced_nil ⟨[],H,I,.nil,h⟩
theorem ja0 (ha:PE X e te) (hr:PA X es t) (hs:Az (e::es) X.env=(false,eval e X.env)::Az es X.env:=by rfl):PA X (e::es) (jcv te t):=by
 intro pos pins s σ H Q I h;rw[hs];show A3 _ _ (spliced ((false,eval e X.env)::Dd pos (Az es X.env))) _ _ s;refine Calls.spliced_cons (thn (ha pins s σ H _ I h) λu s1 ⟨x,H1,I1,r1,q1⟩=>?_);exact thn (hr pos pins s1 σ H1 _ I1 q1) λus s2 ⟨xs,H2,I2,r2,q2⟩=>⟨x::xs,H2,I2,.cons r1 r2,q2⟩
def tTup (t:TA):TE:=λσ H Q=>t σ H λxs H1=>xs.length<=A1/\∀p,H1 p=none->Q (.ref p) (upd H1 p (.tup xs))
def tLst (t:TA):TE:=λσ H Q=>t σ H λxs H1=>xs.length<=A1/\∀p,H1 p=none->Q (.ref p) (upd H1 p (.lst xs))
theorem j4b {x1} (h:PA X es t):PE X (.Tuple es x1 pos) (tTup t):=by
 intro pins s σ H Q I hq;refine wpAny_Tuple_spliced (thn (h pos pins s σ H _ I hq) λus s1 ⟨xs,H1,I1,r,z,q⟩=>⟨by rw[<-r.length];exact z,?_⟩);have hf:H1 s1.heap.objs.size=none:=I1.hok.fresh (Al _);refine⟨.ref s1.heap.objs.size,upd H1 s1.heap.objs.size (.tup xs),I1.laid (t':=s1.toks) (λb u e=>Ad _ e) (Al _) ?_,rfl,q _ hf⟩;exact⟨z,us,r,IsTupP.new _ _⟩
theorem jt0 (h:PA X es t):PE X (.List es pos) (tLst t):=by
 intro pins s σ H Q I hq;refine wpAny_List_spliced (thn (h pos pins s σ H _ I hq) λus s1 ⟨xs,H1,I1,r,z,q⟩=>⟨by rw[<-r.length];exact z,?_⟩);have hf:H1 s1.heap.objs.size=none:=I1.hok.fresh (Al _);refine⟨.ref s1.heap.objs.size,upd H1 s1.heap.objs.size (.lst xs),I1.laid (t':=s1.toks) (λb u e=>Ad _ e) (Al _) ?_,rfl,q _ hf⟩;exact⟨z,us,0,r,Au _ rfl⟩
end
abbrev Sp:=List V->Hp->VK->XK->Prop
abbrev CXT:=List Env->Hp->Aj->XK->Af->Aj->Prop
structure Env0 (P:Bg) (w:Bt) (K:Ah) (mg:Str->Option Af) (base:Heap) (A:B6) (outer:List Env) (s:Aj) (H:Hp):Prop where
 frames:A.frames=some outer
 mod:Mod K mg base
 bs:∀b o,base.get? b=some o->s.heap.get? b=some o/\H b=none
 bsz:base.objs.size<=s.heap.objs.size
 funs:s.heap.FunFrames base outer
 frf:∀b∈frs outer,H b=none
 hok:HOk P w H s.heap
 bare:AllBare s.gens
def CE (outer:List Env) (P:Bg) (w:Bt) (H:Hp) (s:Aj) (Q:VK) (u:Af) (s':Aj):Prop :=
 ∃v H',s'.os=s.os/\AllBare s'.gens/\Un (frs outer) [] H H' s.heap s'.heap/\HOk P w H' s'.heap/\RelV v u/\Q v H'
def CR (CX:CXT) (outer:List Env) (P:Bg) (w:Bt) (H:Hp) (s:Aj) (Q:VK) (E:XK) (r:Result) (s':Aj):Prop :=
 match r with
 |.ok (.ret u)=>CE outer P w H s Q u s'
 |.ok _=>False
 |.error e=>CX outer H s E e s'
structure FnOk (P:Bg) (w:Bt) (K:Ah) (mg:Str->Option Af) (base:Heap) (CX:CXT) (k:Nat) (f:Addr) (fd:Cp) (ps:List Str) (sp:Sp):Prop where
 len:∀vs H Q E,sp vs H Q E->vs.length=ps.length
 run:∀(A:B6) (outer:List Env) (s:Aj) (H:Hp) (args:Args) (us:List Af) (vs:List V) (Q:VK) (E:XK),Room k A->Env0 P w K mg base A outer s H->BindsTo s fd args (ps.zip us)->Vals vs us->sp vs H Q E ->
  Ft (A9 P w) A (.call (.ref f) args) (CR CX outer P w H s Q E) s
theorem FnOk.imp {P:Bg} {w:Bt} {K:Ah} {mg:Str->Option Af} {base:Heap} {CX:CXT} {k:Nat} {f:Addr} {fd:Cp} {ps:List Str} {sp sp':Sp} (F:FnOk P w K mg base CX k f fd ps sp)
  (h:∀vs H Q E,sp' vs H Q E->sp vs H Q E):FnOk P w K mg base CX k f fd ps sp' :=
 ⟨λvs H Q E q=>F.len vs H Q E (h _ _ _ _ q),λA outer s H args us vs Q E hr he hb hv hs=>F.run A outer s H args us vs Q E hr he hb hv (h _ _ _ _ hs)⟩
section
variable {X:Cx} {pins:List (Addr×Obj)} {σ:St} {H:Hp} {s s':Aj}
theorem Inv.env0 (I:Inv X pins σ H s):Env0 X.prog X.w X.K X.mg X.base X.A X.stack s H :=
 ⟨I.ok.frames,I.ok.mod,I.bs,Ba I.ok.bsz I.sz,I.stack,I.stkFree,I.hok,I.bare⟩
theorem Inv.after {Q:VK} {u:Af} (I:Inv X pins σ H s) (h:CE X.stack X.prog X.w H s Q u s'):EP X pins σ Q u s':=by
 obtain⟨v,H',os,bare,un,hok,r,q⟩:=h;obtain⟨hh,g,d,t,os'⟩:=s';obtain rfl:os'=s.os:=os;exact⟨v,H',I.call (h':=hh) (g':=g) (d':=d) (t':=t) (ch:=[]) un hok bare (λb z=>absurd z (by simp)),r,q⟩
end
def jlt (sp:Sp) (dvs:List V) (E:XK) (t:TA):TE:=λσ H Q=>t σ H λvs H1=>sp (vs++dvs) H1 Q E
def Binds (K:Ah) (fd:Cp) (ps:List Str) (ds:List Af):Prop :=
 ∀(s:Aj) (us:List Af),K.In s.heap->(us++ds).length=ps.length->BindsTo s fd ⟨us,[]⟩ (ps.zip (us++ds))
theorem Binds.all {K:Ah} {fd:Cp} {ps:List Str} (h:∀us:List Af,us.length=ps.length->bindArgs fd ⟨us,[]⟩=pure (ps.zip us)):Binds K fd ps []:=λs us _ hl=>by
 rw[B9]at hl ⊢;exact .of_eq (h us hl)
def jvu (CX:CXT) (X:Cx) (E:XK):Prop:=∀(pins:List (Addr×Obj)) (σ:St) (H:Hp) (s:Aj) (e:Af) (s':Aj),Inv X pins σ H s->CX X.stack H s E e s'->X.xe e s'
section
variable {X:Cx} {CX:CXT} {k:Nat} {f C:Addr} {fd:Cp} {ps:List Str} {sp:Sp} {dvs:List V} {ds:List Af} {E:XK} {x m:Str} {p pos apos:Pos} {e o:Expr} {es:List Expr} {ta:TE} {t:TA}
theorem j3t {pins:List (Addr×Obj)} {σ:St} {H:Hp} {s:Aj} {Q:VK} {us:List Af} {vs:List V} (F:FnOk X.prog X.w X.K X.mg X.base CX k f fd ps sp) (hr:Room k X.A) (hb:Binds X.K fd ps ds) (hd:Vals dvs ds) (hx:jvu CX X E)
  (I:Inv X pins σ H s) (r:Vals vs us) (h:sp (vs++dvs) H Q E):A3 (A9 X.prog X.w) X.A (call (.ref f) us) (EP X pins σ Q) X.xe s:=by
 have r2:Vals (vs++dvs) (us++ds):=r.append hd;have hl:(us++ds).length=ps.length:=by rw[<-r2.length];exact F.len _ _ _ _ h
 refine wpAny_call (codeAny_mono (F.run X.A X.stack s H ⟨us,[]⟩ (us++ds) (vs++dvs) Q E hr I.env0 (hb s us I.kIn hl) r2 h) λr s' hq=>?_);cases r with
 |error e=>exact hx pins σ H s e s' I hq
 |ok fl =>
  cases fl with
  |ret u=>exact I.after hq
  |next=>exact False.elim hq
  |brk=>exact False.elim hq
  |cont=>exact False.elim hq
theorem jpi (F:FnOk X.prog X.w X.K X.mg X.base CX k f fd ps sp) (hr:Room k X.A) (hg:Gl X x) (hm:X.mg x=some (.ref f)) (hk:C9 X.K (.ref f)=true) (hb:Binds X.K fd ps ds) (hd:Vals dvs ds) (hx:jvu CX X E)
  (ha:PA X (e::es) t) (hdb:(x==("__debug__":Str))=false:=by decide) (he:Az (e::es) X.env=(false,eval e X.env)::Az es X.env:=by rfl) (hpl:(Dd pos (Az es X.env)).any (·.1)=false:=by rfl) :
  PE X (.Call (.Name x p) (e::es) [] pos) (jlt sp dvs E t):=by
 intro pins s σ H Q I h;refine wpAny_Call_Name_kw (juh I hg hm ?_ hdb);refine PySem.W.callWith_K (h₀:=X.base) I.ok.mod.kin hk (thn (ha pos pins s σ H _ I h) λus s1 ⟨vs,H1,I1,r,q⟩=>⟨I1.kIn,?_⟩) he hpl;exact j3t F hr hb hd hx I1 r q
end
structure FnScope (N P:List Str) (sc:Scope):Prop where
 kind:sc.kind=.function
 co:sc.isCoroutine=false
 gen:sc.isGenerator=false
 nd:N.Nodup
 pre:N.take P.length=P
 par:∀x∈P,sc.names.lookup x=some .local\/sc.names.lookup x=some .cell
 nofree:∀y∈sc.names,y.2≠.free
theorem joq {kindOf:Str->Option NameKind} {x:Str}:∀{binds:List (Str×Af)} {m:Str->Option Af},(∀v,(x,v)∉binds)->bindL kindOf binds m x=m x
 |[],_,_=>rfl
 | (n,v)::r,m,h=>by
  unfold bindL;rw[joq λw hw=>h w (As _ hw)]
  split
  ·have:x≠n:=by rintro rfl;exact h v A2
   simp[this]
  ·rfl
theorem jos {kindOf:Str->Option NameKind} {x:Str}:∀{binds:List (Str×Af)} {m:Str->Option Af},(∀v,(x,v)∉binds)->bindC kindOf binds m x=m x
 |[],_,_=>rfl
 | (n,v)::r,m,h=>by
  unfold bindC;rw[jos λw hw=>h w (As _ hw)]
  split
  ·rfl
  ·have:x≠n:=by rintro rfl;exact h v A2
   simp[this]
theorem jor {kindOf:Str->Option NameKind} {x:Str} {v:Af}:∀{P:List Str} {vs:List Af} {i:Nat} {m:Str->Option Af},P.Nodup->P[i]?=some x->vs[i]?=some v->kindOf x=some .local ->
  bindL kindOf (P.zip vs) m x=some v
 |[],_,_,_,_,h,_,_=>by simp at h
 |_::_,[],_,_,_,_,h,_=>by simp at h
 |p::P,w::vs,0,m,nd,h1,h2,hk=>by
  simp at h1 h2;subst h1;subst h2;show bindL kindOf ((p,w)::P.zip vs) m p=_;unfold bindL;rw[joq λv hv=>(Dz.mp nd).1 (Fk hv).1,if_pos hk];simp
 |p::P,w::vs,i+1,m,nd,h1,h2,hk=>by
  show bindL kindOf ((p,w)::P.zip vs) m x=_;unfold bindL;exact jor (i:=i) (Dz.mp nd).2 (by simpa using h1) (by simpa using h2) hk
theorem jot {kindOf:Str->Option NameKind} {x:Str} {v:Af}:∀{P:List Str} {vs:List Af} {i:Nat} {m:Str->Option Af},P.Nodup->P[i]?=some x->vs[i]?=some v->kindOf x≠some .local ->
  bindC kindOf (P.zip vs) m x=some v
 |[],_,_,_,_,h,_,_=>by simp at h
 |_::_,[],_,_,_,_,h,_=>by simp at h
 |p::P,w::vs,0,m,nd,h1,h2,hk=>by
  simp at h1 h2;subst h1;subst h2;show bindC kindOf ((p,w)::P.zip vs) m p=_;unfold bindC;rw[jos λv hv=>(Dz.mp nd).1 (Fk hv).1,if_neg hk];simp
 |p::P,w::vs,i+1,m,nd,h1,h2,hk=>by
  show bindC kindOf ((p,w)::P.zip vs) m x=_;unfold bindC;exact jot (i:=i) (Dz.mp nd).2 (by simpa using h1) (by simpa using h2) hk
def start (N:List Str) (vs:List V):St:=vs.map some++Dt (N.length - vs.length) none
def cxOf (CX:CXT) (P:Bg) (w:Bt) (K:Ah) (mg:Str->Option Af) (base:Heap) (N:List Str) (qual:Str) (scope:Scope) (f:Addr) (cd:Af) (A:B6) (outer:List Env) (s:Aj) (H:Hp) (E:XK):Cx where
 prog:=P
 w:=w
 K:=K
 mg:=mg
 base:=base
 A:=A.deeper (envOfC qual scope s.heap.objs.size f cd)
 N:=N
 s₀:=s
 H₀:=H
 env:=envOfC qual scope s.heap.objs.size f cd
 outer:=outer
 stack:=envOfC qual scope s.heap.objs.size f cd::outer
 ex:=[]
 calm:=true
 fn:=λ_=>true
 pn:=[]
 xe:=λe s'=>A3 (A9 P w) (A.deeper (envOfC qual scope s.heap.objs.size f cd)) (leaving (envOfC qual scope s.heap.objs.size f cd) e) (λ_ s''=>CX outer H s E e s'') (λe' s''=>CX outer H s E e' s'') s'
theorem jra {sc:Scope} {n:Nat} {x:Str} (h:sc.names.lookup x=some .cell):∃c,(cellsFrom n sc.names []).lookup x=some c:=by
 have q:=PySem.W.cellsFrom_some sc.names n [] (.inl h);exact D0.mp q
theorem jup {CX:CXT} {P:Bg} {w:Bt} {K:Ah} {mg:Str->Option Af} {base:Heap} {N ps:List Str} {qual:Str} {scope:Scope} {f:Addr} {cd:Af} {A:B6} {outer:List Env} {s s1:Aj} {H:Hp} {E:XK} {us:List Af} {vs:List V}
  (S:FnScope N ps scope) (hd:A.handled=none) (e0:Env0 P w K mg base A outer s H) (hl:vs.length=ps.length) (r:Vals vs us)
  (x:InCallC s s.heap.objs.size (bindL (envOfC qual scope s.heap.objs.size f cd).kindOf (ps.zip us) λ_=>none) (cellsFrom (s.heap.objs.size+1) scope.names []) (bindC (envOfC qual scope s.heap.objs.size f cd).kindOf (ps.zip us) λ_=>none) s1) :
  Inv (cxOf CX P w K mg base N qual scope f cd A outer s H E) [] (start N vs) H s1:=by
 have hpl:ps.length<=N.length:=by have:=congrArg List.length S.pre;rw[Ct]at this;omega
 obtain⟨h1,tk,rfl,hk⟩:=x.done;have noA:∀b:Addr,b∉(cxOf CX P w K mg base N qual scope f cd A outer s H E).ex:=λb z=>absurd (show b∈([]:List Addr)from z) (by simp);refine⟨⟨e0.mod,S.kind,rfl,rfl,Al _,λy z c h1 h2=>?_,λy hy=>?_,λy c _ h=>?_,λ_=>hd,Around.frames_deeper e0.frames,.inr ⟨rfl,rfl⟩,λb z=>absurd z (noA b),e0.bs,e0.bsz,λb _ _=>noA b,λb z=>absurd z (noA b),e0.funs,e0.frf⟩,
  rfl,e0.bare,Un.kept hk,⟨_,x.toInCall.ns,λi y v h1 h2 h3=>?_⟩,λy c h=>⟨_,x.cell y c h⟩,e0.hok.fresh (Al _),λy c h=>?_,λp hp=>absurd (show p∈([]:List (Addr×Obj))from hp) (by simp),e0.hok.kept hk,?_⟩
 ·exact name_of_addr x.apart (E6 h1) (E6 h2)
 ·have hy:scope.names.lookup y=some .cell\/scope.names.lookup y=some .free:=hy;rcases hy with hy | hy
  ·exact jra hy
  ·exact absurd rfl (S.nofree _ (E6 hy))
 ·exact E8 (x.above y c (E6 h))
 ·have hi:i < vs.length:=by
   unfold start at h2;by_cases hi:i < vs.length
   ·exact hi
   ·rw[List.getElem?_append_right (by simpa using hi)]at h2;rw[Ee]at h2
    split at h2<;>cases h2
  have ha:vs[i]?=some v:=by
   unfold start at h2;rw[E9 (by simpa using hi),A0]at h2;cases e:vs[i]? with
   |none=>rw[e]at h2;cases h2
   |some a=>rw[e]at h2;cases h2;rfl
  obtain⟨u,hu,rv⟩:=r.get ha;have hp:ps[i]?=some y:=by
   rw[<-S.pre,List.getElem?_take_of_lt (by omega)];exact h1
  have ndP:ps.Nodup:=by rw[<-S.pre];exact S.nd.sublist (List.take_sublist _ _)
  refine⟨u,rv,?_⟩;rcases S.par y (A6 hp)with k | k
  ·exact .inl ⟨k,jor ndP hp hu k⟩
  ·obtain⟨c,e⟩:=jra (n:=s.heap.objs.size+1) k;refine .inr ⟨.inl k,c,e,?_⟩;have q:=x.cell y c e;rw[jot ndP hp hu (by show scope.names.lookup y≠_;rw[k];decide)]at q;exact q
 ·exact e0.hok.fresh (E8 (x.above y c (E6 h)))
 ·unfold start;show _=N.length;rw[An,Ab,List.length_replicate];omega
theorem j6u {CX:CXT} {P:Bg} {w:Bt} {K:Ah} {mg:Str->Option Af} {base:Heap} {k:Nat} {f:Addr} {name qual:Str} {params:Arguments} {body:List Stmt} {scope:Scope} {dV kV doc pm cdv ct oc:Af} {an od:Option Addr}
  {osl:Array (Option Af)} {N ps:List Str} {sp:Sp} (lk:K.lookup f=some ⟨oc,od,.func (Fl name qual params body scope dV kV doc pm an cdv ct),osl⟩) (hcd:PySem.W.codeIn K cdv qual=true) (S:FnScope N ps scope)
  (len:∀vs H Q E,sp vs H Q E->vs.length=ps.length)
  (hbody:∀(A:B6) (outer:List Env) (s:Aj) (H:Hp) (vs:List V) (Q:VK) (E:XK),Room k (A.deeper (envOfC qual scope s.heap.objs.size f cdv))->sp vs H Q E ->
   ∃t,PSs (cxOf CX P w K mg base N qual scope f cdv A outer s H E) body t/\t {nx:=λ_ H'=>Q .non H',rt:=Q} (start N vs) H) :
  FnOk P w K mg base CX (k+1) f (Fl name qual params body scope dV kV doc pm an cdv ct) ps sp:=by
 refine⟨len,λA outer s H args us vs Q E hr e0 hb r hsp=>?_⟩;have hl:=len _ _ _ _ hsp;have KX:K.In s.heap:=e0.mod.kin.keeps λb o e=>(e0.bs b o e).1;have lim:s.heap.NoLimit:=e0.mod.nolimit.keeps λb o e=>(e0.bs b o e).1;have hkind:∀y∈ps.zip us,scope.names.lookup y.1=some .local\/(scope.names.lookup y.1=some .cell/\((cellsFrom (s.heap.objs.size+1) scope.names []).lookup y.1).isSome=true):=λ⟨n,v⟩ hy=>by
  rcases S.par n (Fk hy).1 with q | q
  ·exact .inl q
  ·exact .inr ⟨q,PySem.W.cellsFrom_some _ _ _ (.inl q)⟩
 refine codeAny_call_function hr.depth (KX _ _ lk) rfl S.co S.gen rfl (PySem.W.codeRec_of KX hcd) (hb _ _ _ _ ?_);refine wpAny_newFunctionEnv_cells S.kind hkind λenv he s1 x=>?_;subst he;refine⟨lim.keeps x.toInCall.keep,codeAny_func ?_⟩;obtain⟨t,ht,hq⟩:=hbody A outer s H vs Q E (hr.deeper _) hsp;have I:Inv (cxOf CX P w K mg base N qual scope f cdv A outer s H E) [] (start N vs) H s1:=jup S hr.hd e0 hl r x;refine C8 (ht [] s1 (start N vs) H _ I hq) (λfl s' hs=>?_) λe s' hs=>hs;have fin:∀{σ':St} {H':Hp} {v:V} {u:Af},Inv (cxOf CX P w K mg base N qual scope f cdv A outer s H E) [] σ' H' s'->RelV v u->Q v H'->CE outer P w H s Q u s' :=
  λ{σ' H' v u} J rv q=>⟨v,H',J.os,J.bare,J.base,J.hok,rv,q⟩
 cases fl with
 |ret u =>
  obtain⟨v,σ',H',J,rv,q⟩:=hs;exact fin J rv q
 |next =>
  obtain⟨σ',H',J,q⟩:=hs;exact fin (v:=V.non) (u:=Bh) J rfl q
 |brk =>
  obtain⟨_,_,_,q⟩:=hs;exact False.elim q
 |cont =>
  obtain⟨_,_,_,q⟩:=hs;exact False.elim q
section
variable {X:Cx} {x:Str} {p pos:Pos} {e:Expr} {es:List Expr} {t:TA} {id T:String} {r:List V->Hp->VK->Prop}
def tCB (r:List V->Hp->VK->Prop) (t:TA):TE:=λσ H Q=>t σ H λvs H1=>r vs H1 Q
theorem jdd (hc:CallR X (.builtin id) r) (hg:Gl X x) (hm:X.mg x=none) (hv:B7 x=some (.builtin id)) (ha:PA X (e::es) t) (hn:x≠"__name__":=by decide) (hdb:(x==("__debug__":Str))=false:=by decide)
  (he:Az (e::es) X.env=(false,eval e X.env)::Az es X.env:=by rfl) (hpl:(Dd pos (Az es X.env)).any (·.1)=false:=by rfl):PE X (.Call (.Name x p) (e::es) [] pos) (tCB r t):=by
 intro pins s σ H Q I h;refine wpAny_Call_Name_kw (ji8 I hg hm hv ?_ hn hdb);exact PyProof.Rows.callWith_builtin1 (thn (ha pos pins s σ H _ I h) λus s1 ⟨vs,H1,I1,r1,q1⟩=>hc pins s1 σ H1 vs us Q I1 r1 q1) he hpl
theorem jgd (hc:CallR X (.type T) r) (hg:Gl X x) (hm:X.mg x=none) (hv:B7 x=some (.type T)) (ha:PA X (e::es) t) (hn:x≠"__name__":=by decide) (hdb:(x==("__debug__":Str))=false:=by decide)
  (he:Az (e::es) X.env=(false,eval e X.env)::Az es X.env:=by rfl) (hpl:(Dd pos (Az es X.env)).any (·.1)=false:=by rfl):PE X (.Call (.Name x p) (e::es) [] pos) (tCB r t):=by
 intro pins s σ H Q I h;refine wpAny_Call_Name_kw (ji8 I hg hm hv ?_ hn hdb);exact Di (thn (ha pos pins s σ H _ I h) λus s1 ⟨vs,H1,I1,r1,q1⟩=>hc pins s1 σ H1 vs us Q I1 r1 q1) he hpl
end
end L2
namespace HT
open PySem PyProof.Rows
section
variable {prog:Bg} {w:Bt} {A:B6} {E:Af->Aj->Prop} {s:Aj}
theorem cat_tup {t b:Addr} {vs ws:List Af} {Q:Af->Aj->Prop} (ht:IsTup s.heap t vs.toArray) (hb:IsTup s.heap b ws.toArray) (hv:vs≠[])
  (h1:ws=[]->Q (.ref t) s) (h2:ws≠[]->Q (.ref s.heap.objs.size) {s with heap:=s.heap.push {cls:=.type "tuple",data:=.seq (vs++ws).toArray}})
  (hsz:vs.length+ws.length<=A1):A3 (A9 prog w) A (En .Add (.ref t) (.ref b)) Q E s:=by
 obtain⟨⟨cls,dd,data,sl⟩,ho,hc,n,hd⟩:=id ht;obtain⟨⟨cls2,dd2,data2,sl2⟩,ho2,hc2,n2,hd2⟩:=id hb;simp only at hc hd hc2 hd2;subst hc hd hc2 hd2;have e:vs.toArray++ws.toArray=(vs++ws).toArray:=by simp
 by_cases hw:ws=[]
 ·exact concat_meets ⟨_,ho,rfl⟩ ⟨_,ho2,rfl⟩ noFill_tuple_add seq_tuple_add Fm Fi (E7 _ _)
   (tuple_addW1 t b vs.toArray ws.toArray n n2 dd dd2 sl sl2 (by simpa using hv) (by simp[hw])) ⟨ho,ho2,h1 hw⟩
 ·refine concat_meets ⟨_,ho,rfl⟩ ⟨_,ho2,rfl⟩ noFill_tuple_add seq_tuple_add Fm Fi (E7 _ _)
   (tuple_addW2 t b vs.toArray ws.toArray n n2 dd dd2 sl sl2 (by simpa using hv) (by simpa using hw) (by rw[A4,A4];exact hsz)) ⟨ho,ho2,?_⟩
  rw[e];exact h2 hw
def sIx (n d:Nat):Option Int->Nat
 |none=>d
 |some v=>if v < 0 then(v+(n:Int)).toNat else min v.toNat n
theorem sIx_none (n d:Nat):sIx n d none=d:=rfl
theorem sIx_nat (n d k:Nat):sIx n d (some (k:Int))=min k n:=by
 show(if (k:Int) < 0 then((k:Int)+(n:Int)).toNat else min (k:Int).toNat n)=min k n;rw[if_neg (by omega),Bp]
theorem j3r (n d:Nat) (hd:d<=n) (o:Option Int):sIx n d o<=n:=by
 cases o with
 |none=>exact hd
 |some v =>
  show(if v < 0 then(v+(n:Int)).toNat else min v.toNat n)<=n;by_cases hv:v < 0
  ·rw[if_pos hv];omega
  ·rw[if_neg hv];exact Nat.min_le_right _ _
theorem jvf (v:Int) (n d:Nat):(if v < 0 then max (v+(n:Int)) 0 else min v (n:Int))=((sIx n d (some v):Nat):Int):=by
 show(if v < 0 then max (v+(n:Int)) 0 else min v (n:Int))=(((if v < 0 then(v+(n:Int)).toNat else min v.toNat n):Nat):Int);by_cases hv:v < 0
 ·simp only[if_pos hv];omega
 ·simp only[if_neg hv];omega
theorem jsd (lo hi:Option Int) (n:Nat):Gi lo hi 1 (n:Int)=(((sIx n 0 lo:Nat):Int),((sIx n n hi:Nat):Int)):=by
 have h1:¬((1:Int) < 0):=by omega
 unfold Gi;simp only[h1,if_false];refine Prod.ext ?_ ?_
 ·cases lo with
  |none=>rfl
  |some v=>exact jvf v n 0
 ·cases hi with
  |none=>rfl
  |some v=>exact jvf v n n
theorem jrp (i j:Nat):Ep (i:Int) (j:Int) 1=j - i:=by
 unfold Ep;have h1:(1:Int) > 0:=by omega
 simp only[h1,if_true,Int.ediv_one]
 split<;>omega
theorem jk5 {v:Af} {o:Option Int} {Q:Option Int->Aj->Prop} (p:IsPart v o) (h:Q o s):A3 (A9 prog w) A (Builtin.Slice.slicePartIndex v) Q E s:=by
 cases p with
 |none=>exact slicePart_none h
 |int i t=>exact slicePart_int h
theorem jd6 {sl:Addr} {vl vu:Af} {lo hi:Option Int} {n:Nat} {Q:Int×Int×Nat->Aj->Prop} (hs:s.heap.IsSliceOf sl vl vu .none) (pl:IsPart vl lo) (pu:IsPart vu hi)
  (h:Q (((sIx n 0 lo:Nat):Int),1,sIx n n hi - sIx n 0 lo) s):A3 (A9 prog w) A (Builtin.Slice.sliceApplied (.ref sl) (pure (n:Int))) Q E s:=by
 obtain⟨os,hos,hcs,hds⟩:=id hs;unfold Builtin.Slice.sliceApplied Builtin.Slice.sliceFields;refine Aa (Aa (Ca hos hds (x:=vl) rfl (Aa (Ca hos hds (x:=vu) rfl (Aa (Ca hos hds (x:=.none) rfl (Ai ?_)))))));refine Aa (slicePart_none ?_);show A3 _ _ (if ((1:Int)==0)=true then _ else _) _ _ s;rw[if_neg (by decide)];refine Aa (jk5 pl (Aa (jk5 pu (Aa (Ai ?_)))));show A3 _ _ (match Gi lo hi 1 (n:Int)with | (lo,hi)=>pure (lo,(1:Int),Ep lo hi 1)) _ _ s;rw[jsd lo hi n];show A3 _ _ (pure (((sIx n 0 lo:Nat):Int),(1:Int),Ep ((sIx n 0 lo:Nat):Int) ((sIx n n hi:Nat):Int) 1)) _ _ s;rw[jrp];exact Ai h
theorem jww (xs:Array Af) (i k:Nat):((Bs k).filterMap λ(m:Nat)=>xs[((i:Int)+(m:Int)*1).toNat]?).toArray=((xs.toList.drop i).take k).toArray:=by
 have e:(λ(m:Nat)=>xs[((i:Int)+(m:Int)*1).toNat]?)=λm=>xs[i+m]?:=by
  funext m
  have:((i:Int)+(m:Int)*1).toNat=i+m:=by omega
  rw[this]
 rw[e];have:=pick_run xs i k;rw[List.filterMap_map]at this;have e2:((λx=>xs[x]?) ∘ λx=>i+x)=λm=>xs[i+m]?:=rfl;rw[e2]at this;rw[this]
theorem getItem_tuple_cut {t sl:Addr} {items:Array Af} {vl vu:Af} {lo hi:Option Int} {Q:Af->Aj->Prop} (ht:IsTup s.heap t items) (hs:s.heap.IsSliceOf sl vl vu .none) (pl:IsPart vl lo) (pu:IsPart vu hi)
  (hw:¬(sIx items.size 0 lo=0/\sIx items.size items.size hi=items.size))
  (h:Q (.ref s.heap.objs.size) {s with heap:=s.heap.push {cls:=.type "tuple",data:=.seq ((items.toList.drop (sIx items.size 0 lo)).take (sIx items.size items.size hi - sIx items.size 0 lo)).toArray}})
  (hsz:items.size<=A1):A3 (A9 prog w) A (getItem (.ref t) (.ref sl)) Q E s:=by
 have htake:sizeOk (.seq ((items.toList.drop (sIx items.size 0 lo)).take (sIx items.size items.size hi - sIx items.size 0 lo)).toArray):=by
  show((items.toList.drop (sIx items.size 0 lo)).take (sIx items.size items.size hi - sIx items.size 0 lo)).toArray.size<=A1;rw[A4,Ct,Cc,Cy];omega
 have hj:sIx items.size items.size hi<=items.size:=j3r _ _ (Al _) hi;obtain⟨os,hos,hcs,hds⟩:=id hs;have hTs:s.TypeIs (.ref sl) "slice":=⟨os,hos,hcs⟩;unfold getItem
 try with_reducible refine Cw ?_
 first | refine Aa (Ai ?_) | skip
 refine Aa (wpAny_sequenceKey ht.typeIs (by decide) ?_);refine Aa (Br (name:=Cv "__getitem__") ht.typeIs Du
  (B4 Du ht.typeIs entry_tuple_getitem ?_ (args_tuple_getitem _ _)))
 show A3 _ _ (Builtin.Tuple.tupleItemsOf (.ref t)>>=_) _ _ s;refine Aa (tupleItemsOf_ ht ?_);refine Aa (Gf hTs ?_);rw[if_pos (by decide)];refine Aa (jd6 hs pl pu ?_);have hno:¬((((sIx items.size 0 lo:Nat):Int)==0&&(1:Int)==1&&(sIx items.size items.size hi - sIx items.size 0 lo)==items.size)=true):=by
  intro q;rw[Cn,Cn]at q;have q1:((sIx items.size 0 lo:Nat):Int)=0:=eq_of_beq q.1.1;have q2:sIx items.size items.size hi - sIx items.size 0 lo=items.size:=eq_of_beq q.2;exact hw ⟨by omega,by omega⟩
 show A3 _ _ (if (((sIx items.size 0 lo:Nat):Int)==0&&(1:Int)==1&&(sIx items.size items.size hi - sIx items.size 0 lo)==items.size)=true then _ else _) _ _ s;rw[if_neg hno,jww]
 first
  |exact Aa (m:=Eu _) (By (Ai ⟨_,rfl,Ai h⟩) htake)
  |exact Aa (m:=Eu _) (By (Aa (Ai (Ai ⟨_,rfl,Ai h⟩))) htake)
  |exact Aa (Aa (m:=Eu _) (By (Ai (Ai ⟨_,rfl,Ai h⟩)) htake))
  |exact Aa (Aa (m:=Eu _) (By (Ai ⟨_,rfl,Ai h⟩) htake))
end
end HT
namespace L2
open PySem PySem.Spec PyProof.Rows
abbrev TO:=St->Hp->(Option Int->Hp->Prop)->Prop
def PO (X:Cx) (e:Option Expr) (t:TO):Prop :=
 ∀(pins:List (Addr×Obj)) (s:Aj) (σ:St) (H:Hp) (Q:Option Int->Hp->Prop),Inv X pins σ H s->t σ H Q ->
  A3 (A9 X.prog X.w) X.A (evalPart e X.env) (λu s'=>∃o H',Inv X pins σ H' s'/\IsPart u o/\Q o H') X.xe s
def jsp:TO:=λ_ H Q=>Q none H
def j21 (t:TE):TO:=λσ H Q=>t σ H λx H1=>∃i,x=.int i/\Q (some i) H1
section
variable {X:Cx} {e:Expr} {te:TE} {lo hi:Option Expr} {tl th:TO} {pos p2:Pos}
theorem jtx:PO X none jsp:=by
 intro pins s σ H Q I h;rw[evalPart_none];exact Ai ⟨none,H,I,.none,h⟩
theorem jtw (h:PE X e te):PO X (some e) (j21 te):=by
 intro pins s σ H Q I hw;rw[evalPart_some];refine thn (h pins s σ H _ I hw) λu s1 ⟨x,H1,I1,r1,q1⟩=>?_;obtain⟨i,rfl,q⟩:=q1;obtain⟨t,rfl⟩:=r1;exact⟨some i,H1,I1,.int i t,q⟩
def SlR (X:Cx) (r:V->Option Int->Option Int->Hp->VK->Prop):Prop :=
 ∀(pins:List (Addr×Obj)) (s:Aj) (σ:St) (H:Hp) (x:V) (v vl vu:Af) (lo hi:Option Int) (sl:Addr) (Q:VK),Inv X pins σ H s->RelV x v->s.heap.IsSliceOf sl vl vu .none->IsPart vl lo->IsPart vu hi->r x lo hi H Q ->
  ∃T id,typeLookup (.type T) "__getitem__"=pure (some (.builtin id))/\s.TypeIs v T/\A3 (A9 X.prog X.w) X.A (getItem v (.ref sl)) (EP X pins σ Q) X.xe s
theorem SlR.or {r r':V->Option Int->Option Int->Hp->VK->Prop} (h:SlR X r) (h':SlR X r'):SlR X (λx lo hi H Q=>r x lo hi H Q\/r' x lo hi H Q):=by
 intro pins s σ H x v vl vu lo hi sl Q I rx hs pl pu q;rcases q with q | q
 ·exact h pins s σ H x v vl vu lo hi sl Q I rx hs pl pu q
 ·exact h' pins s σ H x v vl vu lo hi sl Q I rx hs pl pu q
def tSl (r:V->Option Int->Option Int->Hp->VK->Prop) (te:TE) (tl th:TO):TE:=λσ H Q=>te σ H λx H1=>tl σ H1 λl H2=>th σ H2 λu H3=>r x l u H3 Q
theorem jqo {r:V->Option Int->Option Int->Hp->VK->Prop} (hr:SlR X r) (he:PE X e te) (hl:PO X lo tl) (hu:PO X hi th):PE X (.Subscript e (.Slice lo hi none p2) pos) (tSl r te tl th):=by
 intro pins s σ H Q I h;refine Subscript_ (thn (he pins s σ H _ I h) λv s1 ⟨x,H1,I1,r1,q1⟩=>?_);refine wpAny_Slice (thn (hl pins s1 σ H1 _ I1 q1) λvl s2 ⟨l,H2,I2,pl,q2⟩=>thn (hu pins s2 σ H2 _ I2 q2) λvu s3 ⟨u,H3,I3,pu,q3⟩=>?_);rw[evalPart_none];refine Ai ?_;have I4:Inv X pins σ H3 {s3 with heap:=s3.heap.push {cls:=.type "slice",data:=.fields #[vl,vu,.none]}}:=I3.kept (t':=s3.toks) λb ob q=>Ad _ q;obtain⟨T,id,hT,ht,hg⟩:=hr pins {s3 with heap:=s3.heap.push {cls:=.type "slice",data:=.fields #[vl,vu,.none]}} σ H3 x v vl vu l u s3.heap.objs.size Q I4 r1 (Heap.IsSliceOf.new ..) pl pu q3;show A3 (A9 X.prog X.w) X.A (subscriptTail e (.Slice lo hi none p2) v (.ref s3.heap.objs.size)) (EP X pins σ Q) X.xe {s3 with heap:=s3.heap.push {cls:=.type "slice",data:=.fields #[vl,vu,.none]}};exact tail_any (ops:=[.ref s3.heap.objs.size,v]) ht hT hg (by with_unfolding_all rfl)
def cutV (xs:List V) (lo hi:Option Int):List V:=(xs.drop (HT.sIx xs.length 0 lo)).take (HT.sIx xs.length xs.length hi - HT.sIx xs.length 0 lo)
theorem jf2 (xs:List V) (lo hi:Option Int):(cutV xs lo hi).length<=xs.length:=by
 unfold cutV;rw[Ct,Cc];omega
def rSlT (K:Ah):V->Option Int->Option Int->Hp->VK->Prop:=λx lo hi H Q=>∃a xs,x=.ref a/\SqT K H a xs /\
 ¬(HT.sIx xs.length 0 lo=0/\HT.sIx xs.length xs.length hi=xs.length)/\∀p,H p=none->Q (.ref p) (upd H p (.tup (cutV xs lo hi)))
theorem sl_tup:SlR X (rSlT X.K):=by
 intro pins s σ H x v vl vu lo hi sl Q I rx hs pl pu h;obtain⟨a,xs,rfl,hx,hw,q⟩:=h;cases rx;obtain⟨its,r,ht,hz⟩:=I.tuple hx;have hlen:its.toArray.size=xs.length:=by rw[A4];exact r.length.symm
 refine⟨"tuple",_,PyProof.Rows.slot_tuple_getitem.lookup,ht.typeIs,?_⟩;refine HT.getItem_tuple_cut ht hs pl pu (by rw[hlen];exact hw) ?_ (by rw[hlen];exact hz);rw[hlen];refine⟨.ref s.heap.objs.size,_,I.laid (t':=s.toks) (o:=.tup (cutV xs lo hi)) (λb ob q=>Ad _ q) (Al _) ?_,rfl,q _ (I.hok.fresh (Al _))⟩;exact⟨Ba (jf2 xs lo hi) hz,_,(r.drop (HT.sIx xs.length 0 lo)).take (HT.sIx xs.length xs.length hi - HT.sIx xs.length 0 lo),IsTupP.new _ _⟩
def j30 (K:Ah):R2:=λx y H Q=>∃a b xs ys,x=.ref a/\y=.ref b/\SqT K H a xs/\SqT K H b ys/\xs≠[]/\xs.length+ys.length<=A1 /\
 (ys=[]->Q (.ref a) H)/\(ys≠[]->∀p,H p=none->Q (.ref p) (upd H p (.tup (xs++ys))))
theorem Vals.nil_iff {xs:List V} {us:List Af} (r:Vals xs us):us=[]↔xs=[]:=by
 cases r with
 |nil=>simp
 |cons _ _=>simp
theorem op_catT:OpR X (En .Add) (j30 X.K):=by
 intro pins s σ H x y v u Q I rx ry h;obtain⟨a,b,xs,ys,rfl,rfl,ha,hb,hx,hz,q1,q2⟩:=h;cases rx;cases ry;obtain⟨its,r1,p1,_⟩:=I.tuple ha;obtain⟨its2,r2,p2,_⟩:=I.tuple hb;refine HT.cat_tup p1 p2 (λz=>hx (r1.nil_iff.mp z)) (λz=>⟨.ref a,H,I,rfl,q1 (r2.nil_iff.mp z)⟩) (λz=>?_) (by rw[<-r1.length,<-r2.length];exact hz);refine⟨.ref s.heap.objs.size,_,I.laid (t':=s.toks) (o:=.tup (xs++ys)) (λb ob q=>Ad _ q) (Al _) ?_,rfl,q2 (λw=>z (r2.nil_iff.mpr w)) _ (I.hok.fresh (Al _))⟩;exact⟨by rw[An];exact hz,_,r1.append r2,IsTupP.new _ _⟩
end
def ixN (n:Nat) (i:Int):Option Nat:=if 0<=i then(if i < n then some i.toNat else none)else if -(n:Int)<=i then some (i+n).toNat else none
def atI {α:Type} (xs:List α) (i:Int):Option α:=(ixN xs.length i).bind λj=>xs[j]?
theorem jun {n:Nat} {i:Int} {j:Nat} (h:ixN n i=some j):seqIndex? i n=some j/\j < n/\-(n:Int)<=i/\i < n:=by
 unfold ixN at h;by_cases h0:0<=i
 ·rw[if_pos h0]at h;by_cases h1:i < n
  ·rw[if_pos h1]at h;have e:i.toNat=j:=Aq h;exact⟨by rw[seqIndex_of h0 h1,e],by omega,by omega,h1⟩
  ·rw[if_neg h1]at h;cases h
 ·rw[if_neg h0]at h;by_cases h1:-(n:Int)<=i
  ·rw[if_pos h1]at h;have e:(i+n).toNat=j:=Aq h;exact⟨by rw[seqIndex_neg (by omega) h1,e],by omega,h1,by omega⟩
  ·rw[if_neg h1]at h;cases h
theorem jp1 {α:Type} {xs:List α} {i:Int} {v:α} (h:atI xs i=some v):∃j,seqIndex? i xs.length=some j/\xs[j]?=some v/\j < xs.length/\-(xs.length:Int)<=i/\i < xs.length:=by
 unfold atI at h;cases e:ixN xs.length i with
 |none=>rw[e]at h;cases h
 |some j =>
  rw[e]at h;obtain⟨h1,h2,h3,h4⟩:=jun e;exact⟨j,h1,h,h2,h3,h4⟩
theorem jbw {α:Type} {xs:List α} {j:Nat} {v:α} (h:xs[j]?=some v):atI xs (j:Int)=some v:=by
 have hj:j < xs.length:=(Ay.mp h).1;have e:ixN xs.length (j:Int)=some j:=by
  unfold ixN;rw[if_pos (by omega),if_pos (by omega)];simp
 unfold atI;rw[e];exact h
def jm5 (b:Expr):Prop:=∀o i,subscripted b false o i=operate [o,i] (getItem o i)
def IxR (X:Cx) (r:R2):Prop :=
 ∀(value slice:Expr) (pins:List (Addr×Obj)) (s:Aj) (σ:St) (H:Hp) (x y:V) (v u:Af) (Q:VK),Inv X pins σ H s->RelV x v->RelV y u->r x y H Q ->
  subscripted slice false v u=operate [v,u] (getItem v u)->A3 (A9 X.prog X.w) X.A (subscriptTail value slice v u) (EP X pins σ Q) X.xe s
def MtR (X:Cx) (id:String) (r:V->List V->Hp->VK->Prop):Prop :=
 ∀(pins:List (Addr×Obj)) (s:Aj) (σ:St) (H:Hp) (x:V) (xs:List V) (v:Af) (us:List Af) (Q:VK),Inv X pins σ H s->RelV x v->Vals xs us->r x xs H Q ->
  A3 (A9 X.prog X.w) X.A (call (.builtin id) (v::us)) (EP X pins σ Q) X.xe s
section
variable {X:Cx} {a b:Expr} {ta tb:TE} {pos:Pos}
theorem IxR.or {r r':R2} (h:IxR X r) (h':IxR X r'):IxR X (λx y H Q=>r x y H Q\/r' x y H Q):=by
 intro value slice pins s σ H x y v u Q I rx ry q hs;rcases q with q | q
 ·exact h value slice pins s σ H x y v u Q I rx ry q hs
 ·exact h' value slice pins s σ H x y v u Q I rx ry q hs
theorem jh3 {r:R2} (hr:IxR X r) (ha:PE X a ta) (hb:PE X b tb) (hs:jm5 b):PE X (.Subscript a b pos) (tOp r ta tb):=by
 intro pins s σ H Q I h;exact Subscript_ (binT ha hb I h λv u s2 x y H2 I2 rx ry q=>hr a b pins s2 σ H2 x y v u Q I2 rx ry q (hs _ _))
def rIxL (K:Ah):R2:=λx y H Q=>∃p xs i v,x=.ref p/\y=.int i/\SqL K H p xs/\atI xs i=some v/\Q v H
def rIxT (K:Ah):R2:=λx y H Q=>∃p xs i v,x=.ref p/\y=.int i/\SqT K H p xs/\atI xs i=some v/\Q v H
def rIxS:R2:=λx y H Q=>∃z i c,x=.str z/\y=.int i/\z.length<=A1/\atI z.cps.toList i=some c/\Q (.str ⟨#[c]⟩) H
theorem ix_list:IxR X (rIxL X.K):=by
 intro value slice pins s σ H x y v u Q I rx ry h hs;obtain⟨p,xs,i,z,rfl,rfl,hq,he,q⟩:=h;cases rx;obtain⟨t,rfl⟩:=ry;obtain⟨its,r,pl,hz⟩:=I.list hq;obtain⟨j,h1,h2,h3,h4,h5⟩:=jp1 he;obtain⟨w,ew,rw'⟩:=r.get h2;have hl:=r.length;have hn:=jlh;have fin:EP X pins σ Q w s:=⟨z,H,I,rw',q⟩;by_cases h0:0<=i
 ·have hj:i.toNat=j:=by
   rw[seqIndex_of h0 h5]at h1;exact Aq h1
  exact item_listR pl.isList h0 (by omega) (by rw[hj];simpa using ew) fin hs
 ·have hj:(i+(its.toArray.size:Int)).toNat=j:=by
   rw[seqIndex_neg (by omega) h4]at h1;rw[A4,<-hl];exact Aq h1
  exact subscriptTail_builtinR (x:=w) pl.isList.typeIs slot_list_getitem.lookup
   (wpAny_getItem_list_neg (Q:=λr s'=>r=w/\EP X pins σ Q r s') pl.isList (by omega) (by rw[A4]<;>omega) (by omega) (by rw[hj];simpa using ew) ⟨rfl,fin⟩) hs
theorem ix_tup:IxR X (rIxT X.K):=by
 intro value slice pins s σ H x y v u Q I rx ry h hs;obtain⟨p,xs,i,z,rfl,rfl,hq,he,q⟩:=h;cases rx;obtain⟨t,rfl⟩:=ry;obtain⟨its,r,pl,hz⟩:=I.tuple hq;obtain⟨j,h1,h2,h3,h4,h5⟩:=jp1 he;obtain⟨w,ew,rw'⟩:=r.get h2;have hl:=r.length;have hn:=jlh;have fin:EP X pins σ Q w s:=⟨z,H,I,rw',q⟩;exact subscriptTail_builtinR (x:=w) pl.typeIs slot_tuple_getitem.lookup
  (getItem_tuple (j:=j) (Q:=λr s'=>r=w/\EP X pins σ Q r s') pl (by omega) (by omega) (by rw[A4,<-hl];exact h1) (by simpa using ew) ⟨rfl,fin⟩) hs
theorem j41:IxR X rIxS:=by
 intro value slice pins s σ H x y v u Q I rx ry h hs;obtain⟨z,i,c,rfl,rfl,hz,he,q⟩:=h;obtain⟨t,rfl⟩:=rx;obtain⟨t',rfl⟩:=ry;obtain⟨j,h1,h2,h3,h4,h5⟩:=jp1 he;have hl:z.cps.toList.length=z.length:=by simp[Str.length]
 rw[hl]at h1 h4 h5;have hn:=jlh;exact tail_any (typeIs_str s z t) slot_str_getitem.lookup (getItem_str (c:=c) (by
  have e1:decide (i < -(2 ^ 63:Int))=false:=decide_eq_false (by omega);have e2:decide (i ≥ 2 ^ 63)=false:=decide_eq_false (by omega);rw[e1,e2,Bool.or_false]) (by rw[h1];simpa using h2) ⟨.str ⟨#[c]⟩,H,I.tok _,⟨_,rfl⟩,q⟩) hs
def rIx (K:Ah):R2:=λx y H Q=>rIxL K x y H Q\/rIxT K x y H Q\/rIxS x y H Q
theorem jum:IxR X (rIx X.K):=ix_list.or (ix_tup.or j41)
theorem jrt (its:List Af) (n j:Nat) (u:Af):Cr (·.setIfInBounds j u) {cls:=.type "list",data:=.seq its.toArray n}={ cls:=.type "list",data:=.seq (its.set j u).toArray n}:=by
 simp[Cr]
theorem Inv.lst {pins:List (Addr×Obj)} {σ:St} {H:Hp} {s:Aj} {p:Addr} {xs:List V} (I:Inv X pins σ H s) (h:H p=some (.lst xs)) :
  ∃(its:List Af) (n:Nat),Vals xs its/\s.heap.get? p=some {cls:=.type "list",data:=.seq its.toArray n}/\xs.length<=A1:=by
 obtain⟨z,its,n,r,e⟩:=I.hok p _ h;exact⟨its,n,r,e,z⟩
theorem Inv.lstUpd {pins:List (Addr×Obj)} {σ:St} {H:Hp} {s:Aj} {p:Addr} {xs ys:List V} {its its':List Af} {n n':Nat} {f:Obj->Obj} (I:Inv X pins σ H s) (h:H p=some (.lst xs))
  (ho:s.heap.get? p=some {cls:=.type "list",data:=.seq its.toArray n}) (hf:f {cls:=.type "list",data:=.seq its.toArray n}={ cls:=.type "list",data:=.seq its'.toArray n'}) (r:Vals ys its') (hz:ys.length<=A1) (t:Nat) :
  Inv X pins σ (upd H p (.lst ys)) {s with heap:=s.heap.update p f,toks:=t}:=by
 have e:(s.heap.update p f).get? p=some {cls:=.type "list",data:=.seq its'.toArray n'}:=by
  rw[Bu f ho (by rw[hf]<;>rfl),hf]
 refine I.write (x:=p) (e:=p) (by rw[h];trivial) (.inl rfl) (λb u hb q=>(Dm _ _ (Ne.symm hb)).trans q) ⟨_,e⟩ ?_;exact⟨hz,its',n',r,e⟩
def j3x:V->V->V->Hp->(Hp->Prop)->Prop:=λo i v H Q=>∃p xs k j,o=.ref p/\i=.int k/\H p=some (.lst xs)/\ixN xs.length k=some j/\Q (upd H p (.lst (xs.set j v)))
theorem jie:PSet X j3x:=by
 intro pins s σ H o i v ov iv u Q I ro ri rv h;obtain⟨p,xs,k,j,rfl,rfl,hp,hj,q⟩:=h;cases ro;obtain⟨t,rfl⟩:=ri;obtain⟨its,n,r,ho,hz⟩:=I.lst hp;obtain⟨h1,h2,h3,h4⟩:=jun hj;have hl:=r.length;have hn:=jlh;have I':Inv X pins σ (upd H p (.lst (xs.set j v))) {s with heap:=s.heap.update p (Cr (·.setIfInBounds j u))} :=
  I.lstUpd hp ho (jrt its n j u) (r.set rv j) (by rw[C4];exact hz) s.toks
 by_cases h0:0<=k
 ·have hk:k.toNat=j:=by
   rw[seqIndex_of h0 h4]at h1;exact Aq h1
  exact PySem.W.ki_setAt ho h0 (by omega) (by rw[A4,<-hl];exact h4) (by rw[hk];exact⟨_,I',q⟩)
 ·have hk:(k+(its.toArray.size:Int)).toNat=j:=by
   rw[seqIndex_neg (by omega) h3]at h1;rw[A4,<-hl];exact Aq h1
  exact PySem.W.ki_setBack ho (by omega) (by rw[A4,<-hl];exact h3) (by omega) (by rw[hk];exact⟨_,I',q⟩)
theorem jnk (lo hi:Option Int) (n:Nat):(Gs lo hi none n).1=((HT.sIx n 0 lo:Nat):Int)/\(Gs lo hi none n).2.1=((HT.sIx n n hi:Nat):Int)/\(Gs lo hi none n).2.2=1:=by
 refine⟨?_,?_,rfl⟩
 ·cases lo with
  |none=>simp[Gs,HT.sIx]
  |some i =>
   simp only[Gs,HT.sIx,Option.getD_none,show(1:Int) > 0 by decide,if_true];by_cases h:i < 0
   ·simp only[h,if_true]<;>omega
   ·simp only[h,if_false]<;>omega
 ·cases hi with
  |none=>simp[Gs,HT.sIx]
  |some i =>
   simp only[Gs,HT.sIx,Option.getD_none,show(1:Int) > 0 by decide,if_true];by_cases h:i < 0
   ·simp only[h,if_true]<;>omega
   ·simp only[h,if_false]<;>omega
theorem jlv (its:List Af) (lo hi:Option Int):slicePick its.toArray lo hi none=((its.drop (HT.sIx its.length 0 lo)).take (HT.sIx its.length its.length hi - HT.sIx its.length 0 lo)).toArray:=by
 obtain⟨h1,h2,h3⟩:=jnk lo hi its.toArray.size;unfold slicePick;rw[h1,h2,h3];simp only[sliceRange_one,pick_run,A4]<;>rfl
def rSlL (K:Ah):V->Option Int->Option Int->Hp->VK->Prop:=λx lo hi H Q=>∃a xs,x=.ref a/\SqL K H a xs/\∀p,H p=none->Q (.ref p) (upd H p (.lst (cutV xs lo hi)))
theorem j0w:SlR X (rSlL X.K):=by
 intro pins s σ H x v vl vu lo hi sl Q I rx hs pl pu h;obtain⟨a,xs,rfl,hx,q⟩:=h;cases rx;obtain⟨its,r,ht,hz⟩:=I.list hx;have hlen:=r.length;refine⟨"list",_,slot_list_getitem.lookup,ht.isList.typeIs,?_⟩;refine wpAny_getItem_list_slice ht.isList hs pl pu .none (by simp) ?_ (by rw[A4]<;>omega);rw[jlv,<-hlen];refine⟨.ref s.heap.objs.size,_,I.laid (t':=s.toks) (o:=.lst (cutV xs lo hi)) (λb ob q=>Ad _ q) (Al _) ?_,rfl,q _ (I.hok.fresh (Al _))⟩;exact⟨Ba (jf2 xs lo hi) hz,_,0,(r.drop (HT.sIx xs.length 0 lo)).take (HT.sIx xs.length xs.length hi - HT.sIx xs.length 0 lo),Au _ rfl⟩
def jia:V->Bool
 |.non=>true
 |.bl _=>true
 |.int _=>true
 |.str _=>true
 |_=>false
def eqV:V->V->Bool
 |.non,.non=>true
 |.bl a,.bl b=>a==b
 |.bl a,.int b=>(if a then 1 else 0)==b
 |.int a,.bl b=>a==(if b then 1 else 0)
 |.int a,.int b=>a==b
 |.str a,.str b=>a==b
 |_,_=>false
theorem jzx {A:B6} {s:Aj} {y x:V} {u v:Af} (ry:RelV y u) (rx:RelV x v) (fy:jia y=true) (fx:jia x=true):SeqAt.EqAt A s u v (eqV y x):=by
 cases y with
 |non =>
  cases ry;cases x with
  |non=>cases rx;exact SeqAt.EqAt.same _
  |bl b=>cases rx;exact SeqAt.EqAt.none_bool b
  |int b=>obtain⟨t,rfl⟩:=rx;exact SeqAt.EqAt.none_int b t
  |str b=>obtain⟨t,rfl⟩:=rx;exact SeqAt.EqAt.none_str b t
  |_=>exact absurd (show false=true from fx) Ak
 |bl a =>
  cases ry;cases x with
  |non=>cases rx;exact SeqAt.EqAt.bool_none a
  |bl b=>cases rx;exact SeqAt.EqAt.bool_bool a b
  |int b=>obtain⟨t,rfl⟩:=rx;exact SeqAt.EqAt.bool_int a b t
  |str b=>obtain⟨t,rfl⟩:=rx;exact SeqAt.EqAt.bool_str a b t
  |_=>exact absurd (show false=true from fx) Ak
 |int a =>
  obtain⟨t',rfl⟩:=ry;cases x with
  |non=>cases rx;exact SeqAt.EqAt.int_none a t'
  |bl b=>cases rx;exact SeqAt.EqAt.int_bool a t' b
  |int b=>obtain⟨t,rfl⟩:=rx;exact SeqAt.EqAt.int_int a t' b t
  |str b=>obtain⟨t,rfl⟩:=rx;exact SeqAt.EqAt.int_str a t' b t
  |_=>exact absurd (show false=true from fx) Ak
 |str a =>
  obtain⟨t',rfl⟩:=ry;cases x with
  |non=>cases rx;exact SeqAt.EqAt.str_none a t'
  |bl b=>cases rx;exact SeqAt.EqAt.str_bool a t' b
  |int b=>obtain⟨t,rfl⟩:=rx;exact SeqAt.EqAt.str_int a t' b t
  |str b=>obtain⟨t,rfl⟩:=rx;exact SeqAt.EqAt.str_str a t' b t
  |_=>exact absurd (show false=true from fx) Ak
 |_=>exact absurd (show false=true from fy) Ak
def eqU (x:V) (u:Af):Bool:=match u with
 |.none=>eqV .non x
 |.bool b=>eqV (.bl b) x
 |.int i _=>eqV (.int i) x
 |.str z _=>eqV (.str z) x
 |_=>false
theorem jzw {x y:V} {u:Af} (r:RelV y u) (f:jia y=true):eqU x u=eqV y x:=by
 cases y with
 |non=>cases r;rfl
 |bl b=>cases r;rfl
 |int i=>obtain⟨t,rfl⟩:=r;rfl
 |str z=>obtain⟨t,rfl⟩:=r;rfl
 |_=>exact absurd (show false=true from f) Ak
theorem jjv {x:V}:∀{xs:List V} {us:List Af},Vals xs us->xs.all jia=true->us.any (eqU x)=xs.any λy=>eqV y x
 |_,_,.nil,_=>rfl
 |y::xs,u::us,.cons r t,f=>by
  rw[List.all_cons,Cn]at f;rw[C1,C1,jzw r f.1,jjv t f.2]
theorem jge {A:B6} {s:Aj} {x:V} {v:Af} (rx:RelV x v) (fx:jia x=true):∀{xs:List V} {us:List Af},Vals xs us->xs.all jia=true->∀u∈us,SeqAt.EqAt A s u v (eqU x u)
 |_,_,.nil,_=>λu hu=>by cases hu
 |y::xs,u::us,.cons r t,f=>λu' hu=>by
  rw[List.all_cons,Cn]at f;rcases Ao.mp hu with rfl | hu
  ·rw[jzw r f.1];exact jzx r rx f.1 fx
  ·exact jge rx fx t f.2 u' hu
def inV (x:V) (xs:List V):Bool:=xs.any λy=>eqV y x
def rIn (K:Ah) (neg:Bool):R2:=λx y H Q=>∃p xs,y=.ref p/\(SqL K H p xs\/SqT K H p xs)/\jia x=true/\xs.all jia=true/\Q (.bl (if neg then !inV x xs else inV x xs)) H
theorem jt5:OpR X (B1 .In) (rIn X.K false):=by
 intro pins s σ H x y v u Q I rx ry h;obtain⟨p,xs,rfl,hq,fx,fs,q⟩:=h;cases ry;rcases hq with hq | hq
 ·obtain⟨its,r,pl,hz⟩:=I.list hq;refine SeqAt.in_listAt (eqU x) pl.isList (λw hw=>jge rx fx r fs w (by simpa using hw)) ⟨.bl _,H,I,rfl,?_⟩;rw[show its.toArray.any (eqU x)=its.any (eqU x) by simp,jjv r fs];exact q
 ·obtain⟨its,r,pl,hz⟩:=I.tuple hq;refine SeqAt.in_tupleAt (eqU x) pl (λw hw=>jge rx fx r fs w (by simpa using hw)) ⟨.bl _,H,I,rfl,?_⟩;rw[show its.toArray.any (eqU x)=its.any (eqU x) by simp,jjv r fs];exact q
theorem jnw:OpR X (B1 .NotIn) (rIn X.K true):=by
 intro pins s σ H x y v u Q I rx ry h;obtain⟨p,xs,rfl,hq,fx,fs,q⟩:=h;cases ry;rcases hq with hq | hq
 ·obtain⟨its,r,pl,hz⟩:=I.list hq;refine SeqAt.notIn_listAt (eqU x) pl.isList (λw hw=>jge rx fx r fs w (by simpa using hw)) ⟨.bl _,H,I,rfl,?_⟩;rw[show its.toArray.any (eqU x)=its.any (eqU x) by simp,jjv r fs];exact q
 ·obtain⟨its,r,pl,hz⟩:=I.tuple hq;refine SeqAt.notIn_tupleAt (eqU x) pl (λw hw=>jge rx fx r fs w (by simpa using hw)) ⟨.bl _,H,I,rfl,?_⟩;rw[show its.toArray.any (eqU x)=its.any (eqU x) by simp,jjv r fs];exact q
theorem jdh:CallR X (.builtin "len") (λxs H Q=>∃p ys,xs=[.ref p]/\(SqL X.K H p ys\/SqT X.K H p ys)/\Q (.int ys.length) H):=by
 intro pins s σ H xs us Q I r h;obtain⟨p,ys,rfl,hq,q⟩:=h;obtain⟨u,rfl,rx⟩:=jnb r;cases rx;have hn:=jlh;rcases hq with hq | hq
 ·obtain⟨its,r',pl,hz⟩:=I.list hq;have hlen:=r'.length;exact Calls.call_len_list pl.isList (by simp only[A4]<;>omega) ⟨.int ys.length,H,I.tok _,⟨s.toks+1,by rw[A4,hlen]⟩,q⟩
 ·obtain⟨its,r',pl,hz⟩:=I.tuple hq;have hlen:=r'.length;exact len_tuple pl (by simp only[A4]<;>omega) ⟨.int ys.length,H,I.tok _,⟨s.toks+1,by rw[A4,hlen]⟩,q⟩
theorem call_len_str:CallR X (.builtin "len") (λxs H Q=>∃z,xs=[.str z]/\z.length<=A1/\Q (.int z.length) H):=by
 intro pins s σ H xs us Q I r h;obtain⟨z,rfl,hz,q⟩:=h;obtain⟨u,rfl,t,rfl⟩:=jnb r;have hn:=jlh;exact len_str (by omega) ⟨.int z.length,H,I.tok _,⟨_,rfl⟩,q⟩
theorem CallR.or {f:Af} {r r':List V->Hp->VK->Prop} (h:CallR X f r) (h':CallR X f r'):CallR X f (λxs H Q=>r xs H Q\/r' xs H Q):=by
 intro pins s σ H xs us Q I rs q;rcases q with q | q
 ·exact h pins s σ H xs us Q I rs q
 ·exact h' pins s σ H xs us Q I rs q
theorem jon:CallR X (.type "list") (λxs H Q=>∃p ys,xs=[.ref p]/\(SqL X.K H p ys\/SqT X.K H p ys)/\∀l,H l=none->Q (.ref l) (upd H l (.lst ys))):=by
 intro pins s σ H xs us Q I r h;obtain⟨p,ys,rfl,hq,q⟩:=h;obtain⟨u,rfl,rx⟩:=jnb r;cases rx;have fin:∀(its:List Af),Vals ys its->ys.length<=A1->∀(h':Heap) (c':Nat),(∀b o',s.heap.get? b=some o'->h'.get? b=some o') ->
   h'.get? s.heap.objs.size=some {cls:=.type "list",dict:=none,data:=.seq its.toArray c',slots:=#[]}->EP X pins σ Q (.ref s.heap.objs.size) {s with heap:=h'}:=λits r' hz h' c' kp e =>
  ⟨.ref s.heap.objs.size,_,I.laid (t':=s.toks) kp (Al _) (show ObjOk X.prog X.w _ h' _ (.lst ys)from⟨hz,its,c',r',e⟩),rfl,q _ (I.hok.fresh (Al _))⟩
 rcases hq with hq | hq
 ·obtain⟨its,r',pl,hz⟩:=I.list hq;have hlen:=r'.length;obtain⟨o,ho,hc,n,hd⟩:=pl.isList;exact call_list_seq p (.inl rfl) ho hc hd (λh' c' kp e=>fin its r' hz h' c' kp e) (by simp only[A4]<;>omega)
 ·obtain⟨its,r',pl,hz⟩:=I.tuple hq;have hlen:=r'.length;obtain⟨o,ho,hc,n,hd⟩:=pl;exact call_list_seq p (.inr rfl) ho hc hd (λh' c' kp e=>fin its r' hz h' c' kp e) (by simp only[A4]<;>omega)
theorem jmu:CallR X (.type "tuple") (λxs H Q=>∃p ys,xs=[.ref p]/\((SqL X.K H p ys/\∀l,H l=none->Q (.ref l) (upd H l (.tup ys)))\/(SqT X.K H p ys/\Q (.ref p) H))):=by
 intro pins s σ H xs us Q I r h;obtain⟨p,ys,rfl,h⟩:=h;obtain⟨u,rfl,rx⟩:=jnb r;cases rx;rcases h with⟨hq,q⟩ | ⟨hq,q⟩
 ·obtain⟨its,r',pl,hz⟩:=I.list hq;have hlen:=r'.length;refine call_tuple_list pl.isList (λh' kp=>?_) (by simp only[A4]<;>omega);have I1:Inv X pins σ H {s with heap:=h'}:=I.kept (t':=s.toks) kp;have I2:Inv X pins σ (upd H h'.objs.size (.tup ys)) {s with heap:=h'.push {cls:=.type "tuple",data:=.seq its.toArray}} :=
   I1.laid (t':=s.toks) (λb o e=>Ad _ e) (Al _) (show ObjOk X.prog X.w _ _ _ (.tup ys)from⟨hz,its,r',IsTupP.new _ _⟩)
  exact⟨.ref h'.objs.size,_,I2,rfl,q _ (I1.hok.fresh (Al _))⟩
 ·obtain⟨its,r',pl,hz⟩:=I.tuple hq;exact call_tuple_same pl ⟨.ref p,H,I,rfl,q⟩
def tyV (K:Ah) (T:String) (x:V) (H:Hp):Prop:=match x with
 |.str _=>T="str"
 |.int _=>T="int"
 |.ref p=>(T="list"/\∃xs,SqL K H p xs)\/(T="tuple"/\∃o,K.lookup p=some o/\o.cls=.type "tuple"/\o.dict=none) \/
   (T="dict"/\((∃kvs,H p=some (.dK kvs))\/∃kvs,H p=some (.dT kvs)))\/(T="set"/\∃S n,H p=some (.set S n))
 |_=>False
theorem jyw {pins:List (Addr×Obj)} {σ:St} {H:Hp} {s:Aj} {T:String} {x:V} {v:Af} (I:Inv X pins σ H s) (r:RelV x v) (ty:tyV X.K T x H) :
  s.TypeIs v T/\∀a,v=.ref a->∃ob,s.heap.get? a=some ob/\ob.dict=none:=by
 cases x with
 |str z =>
  obtain⟨t,rfl⟩:=r;cases(show T="str" from ty);exact⟨typeIs_str s z t,λ_ e=>nomatch e⟩
 |int i =>
  obtain⟨t,rfl⟩:=r;cases(show T="int" from ty);exact⟨typeIs_int s i t,λ_ e=>nomatch e⟩
 |ref p =>
  cases r;rcases ty with⟨rfl,xs,hq⟩ | ⟨rfl,o,hk,hc,hd⟩ | ⟨rfl,hk⟩ | ⟨rfl,S,n,hk⟩
  ·obtain⟨its,_,pl,_⟩:=I.list hq;refine⟨pl.isList.typeIs,λa e=>?_⟩;cases e;obtain⟨o,n,e,c,hd,_⟩:=pl;exact⟨o,e,hd⟩
  ·refine⟨⟨o,I.kIn p o hk,hc⟩,λa e=>?_⟩;cases e;exact⟨o,I.kIn _ o hk,hd⟩
  ·have z:∃o,s.heap.get? p=some o/\o.ExactDict:=by
    rcases hk with⟨kvs,hk⟩ | ⟨kvs,hk⟩
    ·obtain⟨_,_,_,_,o,_,_,e,ex,_⟩:=I.hok p _ hk;exact⟨o,e,ex⟩
    ·obtain⟨_,_,_,_,o,_,_,e,ex,_⟩:=I.hok p _ hk;exact⟨o,e,ex⟩
   obtain⟨o,e,ex⟩:=z;refine⟨⟨o,e,ex.1⟩,λa e2=>?_⟩;cases e2;exact⟨o,e,ex.2.1⟩
  ·obtain⟨o,_,_,_,e,ex,_⟩:=I.hok p _ hk;refine⟨⟨o,e,ex.1⟩,λa e2=>?_⟩;cases e2;exact⟨o,e,ex.2.1⟩
 |_=>exact False.elim ty
def tBM0 (K:Ah) (T:String) (r:V->List V->Hp->VK->Prop) (to:TE):TE:=λσ H Q=>to σ H λx H1=>tyV K T x H1/\r x [] H1 Q
def tBM (K:Ah) (T:String) (r:V->List V->Hp->VK->Prop) (to:TE) (t:TA):TE:=λσ H Q=>to σ H λx H1=>tyV K T x H1/\t σ H1 λxs H2=>r x xs H2 Q
variable {o e:Expr} {es:List Expr} {to:TE} {t:TA} {name:Str} {apos cpos:Pos} {T id:String} {r:V->List V->Hp->VK->Prop}
theorem j4e (pa:PlainAttrs T) (slot:Slot T name id) (hty:typeOf (.builtin id)=pure (.type "method_descriptor")) (hm:MtR X id r) (ho:PE X o to)
  (hbase:Fs o name X.env (eval o X.env)=eval o X.env:=by rfl) (hline:(apos.endLine==cpos.line)=true:=by rfl):PE X (.Call (.Attribute o name apos) [] [] cpos) (tBM0 X.K T r to):=by
 intro pins s σ H Q I h;refine wpAny_Call_method0_late hbase hline (thn (ho pins s σ H _ I h) λv s1 ⟨x,H1,I1,r1,ty,q1⟩=>?_);obtain⟨h1,h2⟩:=jyw I1 r1 ty;exact⟨T,id,pa,slot,hty,h1,h2,Calls.callWith_builtin rfl (PySem.evalArgs_none (hm pins s1 σ H1 x [] v [] Q I1 r1 .nil q1))⟩
theorem j1h (pa:PlainAttrs T) (slot:Slot T name id) (hty:typeOf (.builtin id)=pure (.type "method_descriptor")) (hm:MtR X id r) (ho:PE X o to) (ha:PA X (e::es) t)
  (hbase:Fs o name X.env (eval o X.env)=eval o X.env:=by rfl)
  (hfew:((Dd cpos (Az (e::es) X.env)).all (λx=>!x.1)&&(backToKw cpos (keywordEach [] X.env)).all (λx=>x.1.isSome)
   && decide ((e::es).length+([]:List Keyword).length+(if ([]:List Keyword).isEmpty then 0 else 1) < 30))=true:=by rfl)
  (hline:(apos.endLine==cpos.line)=true:=by rfl) (hs:Az (e::es) X.env=(false,eval e X.env)::Az es X.env:=by rfl) (hplain:(Dd cpos (Az es X.env)).any (·.1)=false:=by rfl) :
  PE X (.Call (.Attribute o name apos) (e::es) [] cpos) (tBM X.K T r to t):=by
 intro pins s σ H Q I h;refine wpAny_Call_method_late hbase hfew hline rfl (thn (ho pins s σ H _ I h) λv s1 ⟨x,H1,I1,r1,ty,q1⟩=>?_);obtain⟨h1,h2⟩:=jyw I1 r1 ty;refine⟨T,id,pa,slot,hty,h1,h2,?_⟩;have hA:=ha cpos pins s1 σ H1 _ I1 q1;rw[hs]at hA ⊢;refine Calls.callWith_builtin (by show(false || (Dd cpos (Az es X.env)).any (·.1))=false;rw[hplain]<;>rfl) (Calls.evalArgs_plain ?_);exact thn hA λus s2 ⟨vs,H2,I2,r2,q2⟩=>hm pins s2 σ H2 x vs v us Q I2 r1 r2 q2
end
def MtM (X:Cx) (id:String) (r:V->List V->Hp->VK->Prop):Prop :=
 ∀(pins:List (Addr×Obj)) (s:Aj) (σ:St) (H:Hp) (x:V) (xs:List V) (v:Af) (us:List Af) (Q:VK),Inv X pins σ H s->RelV x v->Vals xs us->r x xs H Q ->
  A3 (A9 X.prog X.w) X.A (call (.builtin id) (v::us)) (EP X pins σ Q) X.xe s
theorem Vals.one:∀{x:V} {us:List Af},Vals [x] us->∃u,us=[u]/\RelV x u
 |_,_,.cons r .nil=>⟨_,rfl,r⟩
theorem Vals.zero:∀{us:List Af},Vals [] us->us=[]
 |_,.nil=>rfl
section
variable {X:Cx} {pins:List (Addr×Obj)} {σ:St} {H:Hp} {s:Aj} {l b:Addr} {xs ys zs:List V}
theorem Inv.lset {its its':List Af} {n:Nat} {f:Array Af->Array Af} {t':Nat} (I:Inv X pins σ H s) (hH:H l=some (.lst xs))
  (e:s.heap.get? l=some {cls:=.type "list",data:=.seq its.toArray n}) (hf:f its.toArray=its'.toArray) (hv:Vals ys its') (hz:ys.length<=A1) :
  Inv X pins σ (upd H l (.lst ys)) {s with heap:=s.heap.update l (Cr f),toks:=t'}:=by
 have q:=PySem.IsL.update e f;rw[hf]at q;refine I.write (x:=l) (e:=l) (by rw[hH];exact trivial) (.inl rfl) (λb' u hb hu=>(Dm s.heap (Cr f) (Ne.symm hb)).trans hu) ⟨_,q⟩ ?_;exact⟨hz,its',_,hv,q⟩
theorem Inv.lnew {its:List Af} {t':Nat} (I:Inv X pins σ H s) (hv:Vals ys its) (hz:ys.length<=A1) :
  Inv X pins σ (upd H s.heap.objs.size (.lst ys)) {s with heap:=s.heap.push {cls:=.type "list",data:=.seq its.toArray},toks:=t'} :=
 I.laid (λ_ _ q=>Ad _ q) (Al _) ⟨hz,its,0,hv,Au _ rfl⟩
theorem Inv.fresh (I:Inv X pins σ H s):H s.heap.objs.size=none:=I.hok.fresh (Al _)
theorem Inv.lstM (I:Inv X pins σ H s) (hH:H l=some (.lst xs)):xs.length<=A1/\∃(its:List Af) (n:Nat),Vals xs its/\xs.length=its.length/\s.heap.get? l=some {cls:=.type "list",data:=.seq its.toArray n}:=by
 obtain⟨z,its,n,r,e⟩:=I.hok l _ hH;exact⟨z,its,n,r,r.length,e⟩
theorem jw7 {n:Nat} (h:n<=A1):Gk n=false:=by
 unfold Gk;exact decide_eq_false (by omega)
end
section
variable {X:Cx}
def jtr:V->List V->Hp->VK->Prop:=λx vs H Q=>∃l xs y,x=.ref l/\vs=[y]/\H l=some (.lst xs)/\xs.length < A1/\Q .non (upd H l (.lst (xs++[y])))
theorem ji1:MtM X "list.append" jtr:=by
 intro pins s σ H x vs v us Q I rx rv h;obtain⟨l,xs,y,rfl,rfl,hH,hz,q⟩:=h;cases rx;obtain⟨u,rfl,ru⟩:=rv.one;obtain⟨z,its,n,r,hl,e⟩:=I.lstM hH;refine call_meets F.slot_list_append ⟨_,e,rfl⟩ F.entry_list_append (F.args_list_append_2 _ _) (PySem.list_append l its.toArray n u (by rw[A4];omega)) ⟨e,?_⟩;refine⟨.non,_,I.lset (its':=its++[u]) hH e (by simp) (r.append (.cons ru .nil)) ?_,rfl,q⟩;rw[An,A5];omega
def jtq:V->List V->Hp->VK->Prop:=λx vs H Q=>∃l b xs zs,x=.ref l/\vs=[.ref b]/\H l=some (.lst xs)/\H b=some (.lst zs)/\xs.length+zs.length<=A1/\Q .non (upd H l (.lst (xs++zs)))
theorem jub:MtM X "list.extend" jtq:=by
 intro pins s σ H x vs v us Q I rx rv h;obtain⟨l,b,xs,zs,rfl,rfl,hH,hB,hz,q⟩:=h;cases rx;obtain⟨u,rfl,ru⟩:=rv.one;cases ru;obtain⟨z,its,n,r,hl,e⟩:=I.lstM hH;obtain⟨z2,its2,n2,r2,hl2,e2⟩:=I.lstM hB;have hsz:its.toArray.size+its2.toArray.size<=A1:=by rw[A4,A4];omega
 have hlong:¬(!its.toArray.isEmpty&&Gk (its.toArray.size+its2.toArray.size))=true:=by
  rw[jw7 hsz,Bool.and_false];exact Ak
 refine call_meets F.slot_list_extend ⟨_,e,rfl⟩ F.entry_list_extend (F.args_list_extend_2 _ _)
  (AutoSeq1.list_extend_list_list_0 l its.toArray n b its2.toArray n2 hlong (by rw[A4];omega) (by omega)) ⟨e,e2,?_⟩
 refine⟨.non,_,I.lset (its':=its++its2) hH e (by simp) (r.append r2) ?_,rfl,q⟩;rw[An];omega
def rCat:R2:=λx y H Q=>∃l b xs zs,x=.ref l/\y=.ref b/\H l=some (.lst xs)/\H b=some (.lst zs)/\xs.length+zs.length<=A1/\∀p,H p=none->Q (.ref p) (upd H p (.lst (xs++zs)))
theorem jzl:OpR X (En .Add) rCat:=by
 intro pins s σ H x y v u Q I rx ry h;obtain⟨l,b,xs,zs,rfl,rfl,hH,hB,hz,q⟩:=h;cases rx;cases ry;obtain⟨z,its,n,r,hl,e⟩:=I.lstM hH;obtain⟨z2,its2,n2,r2,hl2,e2⟩:=I.lstM hB;refine PySem.P.add_list e e2 ?_ (by rw[A4,A4];omega);have ea:its.toArray++its2.toArray=(its++its2).toArray:=by simp
 rw[ea];exact⟨.ref _,_,I.lnew (t':=s.toks) (r.append r2) (by rw[An];omega),rfl,q _ I.fresh⟩
end
section
variable {κ:Type} [DecidableEq κ]
def valV (kvs:List (κ×V)) (k:κ):Option V:=(kvs.find? λkv=>decide (kv.1=k)).map (·.2)
def putK (kvs:List (κ×V)) (k:κ) (v:V):List (κ×V) :=
 if (kvs.any λkv=>decide (kv.1=k))=true then kvs.map (λkv=>if kv.1=k then(kv.1,v)else kv)else kvs++[(k,v)]
theorem jlr {p:κ×V} {r:List (κ×V)} {k:κ} (e:p.1=k):valV (p::r) k=some p.2:=by simp[valV,Bn,e]
theorem jls {p:κ×V} {r:List (κ×V)} {k:κ} (e:¬p.1=k):valV (p::r) k=valV r k:=by simp[valV,Bn,e]
theorem jp8 (k:κ):∀kvs:List (κ×V),(kvs.any λkv=>decide (kv.1=k))=(valV kvs k).isSome
 |[]=>rfl
 |p::r=>by
  rw[C1];by_cases e:p.1=k
  ·simp only[jlr e,decide_eq_true e,Bool.true_or,Option.isSome_some]
  ·rw[jls e,decide_eq_false e,Bool.false_or];exact jp8 k r
theorem jc1 (kvs:List (κ×V)) (k:κ) (v:V):(putK kvs k v).length<=kvs.length+1:=by
 unfold putK
 split
 ·rw[Ab];omega
 ·rw[An,Ax,List.length_nil];omega
theorem RelO.isSome_eq {o:Option V} {u:Option Af} (r:RelO o u):o.isSome=u.isSome:=by
 cases o with
 |none=>cases u with
  |none=>rfl
  |some _=>exact(show False from r).elim
 |some _=>cases u with
  |none=>exact(show False from r).elim
  |some _=>rfl
theorem RelO.getD {o:Option V} {u:Option Af} {d:V} {d':Af} (r:RelO o u) (rd:RelV d d'):RelV (o.getD d) (u.getD d'):=by
 cases o with
 |none=>cases u with
  |none=>exact rd
  |some _=>exact(show False from r).elim
 |some _=>cases u with
  |none=>exact(show False from r).elim
  |some _=>exact r
theorem KV.val {kvs:List (κ×V)} {vs:List (κ×Af)} (r:KV kvs vs) (k:κ):RelO (valV kvs k) (valueAt vs k):=by
 unfold KV at r
 induction r with
 |nil=>exact D3
 |@cons p q ps qs h t ih =>
  obtain⟨h1,h2⟩:=h;by_cases e:p.1=k
  ·have e':q.1=k:=h1.symm.trans e;have b:valueAt (q::qs) k=some q.2:=by simp[valueAt,Bn,e']
   rw[jlr e,b];exact h2
  ·have e':¬q.1=k:=λz=>e (h1.trans z);have b:valueAt (q::qs) k=valueAt qs k:=by simp[valueAt,Bn,e']
   rw[jls e,b];exact ih
theorem KV.any {kvs:List (κ×V)} {vs:List (κ×Af)} (r:KV kvs vs) (k:κ):(kvs.any λkv=>decide (kv.1=k))=vs.any λkv=>decide (kv.1=k):=by
 unfold KV at r
 induction r with
 |nil=>rfl
 |cons h t ih=>rw[C1,C1,ih,h.1]
theorem KV.repl {kvs:List (κ×V)} {vs:List (κ×Af)} (r:KV kvs vs) (k:κ) {y:V} {u:Af} (ry:RelV y u) :
  KV (kvs.map λkv=>if kv.1=k then(kv.1,y)else kv) (vs.map λkv=>if kv.1=k then(kv.1,u)else kv):=by
 unfold KV at r ⊢
 induction r with
 |nil=>exact .nil
 |@cons p q ps qs h t ih =>
  rw[Bo,Bo];refine .cons ?_ ih;obtain⟨h1,h2⟩:=h;by_cases e:p.1=k
  ·rw[if_pos e,if_pos (h1.symm.trans e)];exact⟨h1,ry⟩
  ·rw[if_neg e,if_neg (λz=>e (h1.trans z))];exact⟨h1,h2⟩
theorem KV.put {kvs:List (κ×V)} {vs:List (κ×Af)} (r:KV kvs vs) (k:κ) {y:V} {u:Af} (ry:RelV y u):KV (putK kvs k y) (stored vs k u):=by
 unfold putK stored;rw[r.any k];by_cases e:(vs.any λkv=>decide (kv.1=k))=true
 ·rw[if_pos e,if_pos e];exact r.repl k ry
 ·rw[if_neg e,if_neg e];exact Paired.snoc r ⟨rfl,ry⟩
theorem KV.length {kvs:List (κ×V)} {vs:List (κ×Af)} (r:KV kvs vs):kvs.length=vs.length:=Paired.length r
end
theorem jn3 {P:Bg} {w:Bt} {k:Key} {u:Af} (r:RelV (kV k) u):(jbo P w).is k u=true:=by
 cases k with
 |inl i=>obtain⟨t,e⟩:=(show ∃t,u=Value.int i t from r);subst e;exact jpk P w i t
 |inr x=>obtain⟨t,e⟩:=(show ∃t,u=Value.str x t from r);subst e;exact jpj P w x t
theorem jn5 {P:Bg} {w:Bt}:∀{ks:List Key} {us:List Af},Vals (ks.map kV) us->ItemsAre (jbo P w) ks us
 |[],_,r=>by rw[Fu]at r;cases r;exact .nil
 |k::ks,_,r=>by
  rw[Bo]at r;cases r with
  |cons h t=>exact .cons (jn3 h) (jn5 t)
abbrev KT (H:Hp):List (List Key×V)->List (List Key×Addr×Af)->Prop:=Paired λp q=>p.1=q.1/\H q.2.1=some (.tup (p.1.map kV))/\RelV p.2 q.2.2
theorem KT.val {H:Hp} {kvs:List (List Key×V)} {xs:List (List Key×Addr×Af)} (r:KT H kvs xs) (k:List Key):RelO (valV kvs k) ((atKey xs k).map (·.2)):=by
 induction r with
 |nil=>exact D3
 |@cons p q ps qs h t ih =>
  obtain⟨h1,_,h2⟩:=h;by_cases e:p.1=k
  ·have e':q.1=k:=h1.symm.trans e;have b:atKey (q::qs) k=some q.2:=by simp[atKey,Bn,e']
   rw[jlr e,b];exact h2
  ·have e':¬q.1=k:=λz=>e (h1.trans z);have b:atKey (q::qs) k=atKey qs k:=by simp[atKey,Bn,e']
   rw[jls e,b];exact ih
theorem KT.repl {H:Hp} {kvs:List (List Key×V)} {xs:List (List Key×Addr×Af)} (r:KT H kvs xs) (k:List Key) {y:V} {u:Af} (ry:RelV y u) :
  KT H (kvs.map λkv=>if kv.1=k then(kv.1,y)else kv) (xs.map (putAt k u)):=by
 induction r with
 |nil=>exact .nil
 |@cons p q ps qs h t ih =>
  rw[Bo,Bo];refine .cons ?_ ih;obtain⟨h1,h2,h3⟩:=h;unfold putAt;by_cases e:p.1=k
  ·rw[if_pos e,if_pos (h1.symm.trans e)];exact⟨h1,h2,ry⟩
  ·rw[if_neg e,if_neg (λz=>e (h1.trans z))];exact⟨h1,h2,h3⟩
theorem KT.put {H:Hp} {kvs:List (List Key×V)} {xs:List (List Key×Addr×Af)} (r:KT H kvs xs) (k:List Key) {b:Addr} {y:V} {u:Af} (hb:H b=some (.tup (k.map kV))) (ry:RelV y u) :
  KT H (putK kvs k y) (storedH xs k b u):=by
 have e:(kvs.any λkv=>decide (kv.1=k))=(atKey xs k).isSome:=by
  rw[jp8,(r.val k).isSome_eq,Option.isSome_map]
 unfold putK storedH;rw[e];by_cases q:(atKey xs k).isSome=true
 ·rw[if_pos q,if_pos q];exact r.repl k ry
 ·rw[if_neg q,if_neg q];exact Paired.snoc r ⟨rfl,hb,ry⟩
theorem KT.keeps {H H':Hp} {kvs:List (List Key×V)} {xs:List (List Key×Addr×Af)} (r:KT H kvs xs) (ht:∀b ys,H b=some (.tup ys)->H' b=some (.tup ys)):KT H' kvs xs :=
 Paired.mapP r λ_ _ z=>⟨z.1,ht _ _ z.2.1,z.2.2⟩
section
variable {P:Bg} {w:Bt} {H:Hp} {h:Heap} {a:Addr}
theorem j3w {u:HO} (ok:HOk P w H h) (e:Rd H a u):ObjOk P w H h a u:=e.ok ok
theorem jpw {kvs:List (Key×V)} (ok:HOk P w H h) (e:Rd H a (.dK kvs)):kvs.length<=A1/\(a==Es)=false/\∃vs,KV kvs vs/\h.DictOf (jbo P w) a vs :=
 show ObjOk P w H h a (.dK kvs)from j3w ok e
theorem j18 {kvs:List (Key×V)} (ok:HOk P w H h) (e:H a=some (.dK kvs)):kvs.length<=A1/\(a==Es)=false/\∃vs,KV kvs vs/\h.DictOf (jbo P w) a vs:=jpw ok (.inl e)
theorem jli {ks:List Key} (ok:HOk P w H h) (e:H a=some (.tup (ks.map kV))):(tupleKind (jbo P w)).is h ks a:=by
 obtain⟨_,its,r,o,h1,h2,⟨n,h3⟩,_⟩:=(show ObjOk P w H h a (.tup (ks.map kV))from ok a _ e);exact⟨o,its.toArray,n,h1,h2,h3,by simpa using jn5 r⟩
theorem jpv {kvs:List (List Key×V)} (ok:HOk P w H h) (e:Rd H a (.dT kvs)):kvs.length<=A1/\(a==Es)=false /\
  ∃xs,KT H kvs xs/\h.DictOfH (tupleKind (jbo P w)) a xs:=by
 obtain⟨z,y,xs,r,o,es,ep,h1,h2,h3,h4,h5⟩:=(show ObjOk P w H h a (.dT kvs)from j3w ok e);refine⟨z,y,xs,r,o,es,ep,h1,h2,h3,h4,λx hx=>?_,h5⟩;have all:∀{l:List (List Key×V)} {m:List (List Key×Addr×Af)},KT H l m->∀x∈m,(tupleKind (jbo P w)).is h x.1 x.2.1:=by
  intro l m q
  induction q with
  |nil=>intro x hx;exact nomatch hx
  |@cons p q ps qs hq t ih =>
   intro x hx;rcases Ao.mp hx with e | hx
   ·subst e;exact jli ok (by rw[<-hq.1];exact hq.2.1)
   ·exact ih x hx
 exact all r x hx
theorem j6y {kvs:List (List Key×V)} (ok:HOk P w H h) (e:H a=some (.dT kvs)):kvs.length<=A1/\(a==Es)=false /\
  ∃xs,KT H kvs xs/\h.DictOfH (tupleKind (jbo P w)) a xs:=jpv ok (.inl e)
end
def DGet (H:Hp) (a:Addr) (y:V) (r:Option V):Prop :=
 (∃kvs k,Rd H a (.dK kvs)/\y=kV k/\r=valV kvs k)\/∃kvs k b,Rd H a (.dT kvs)/\y=.ref b/\H b=some (.tup (k.map kV))/\r=valV kvs k
def DPut (H:Hp) (a:Addr) (y v:V) (H':Hp):Prop :=
 (∃kvs k,H a=some (.dK kvs)/\y=kV k/\kvs.length < A1/\H'=upd H a (.dK (putK kvs k v))) \/
 ∃kvs k b,H a=some (.dT kvs)/\y=.ref b/\H b=some (.tup (k.map kV))/\kvs.length < A1/\H'=upd H a (.dT (putK kvs k v))
theorem DGet.t {H:Hp} {a b:Addr} {kvs:List (List Key×V)} {k:List Key} (e:H a=some (.dT kvs)) (eb:H b=some (.tup (k.map kV))):DGet H a (.ref b) (valV kvs k):=.inr ⟨kvs,k,b,.inl e,rfl,eb,rfl⟩
theorem DPut.k {H:Hp} {a:Addr} {kvs:List (Key×V)} {k:Key} {v:V} (e:H a=some (.dK kvs)) (hl:kvs.length < A1):DPut H a (kV k) v (upd H a (.dK (putK kvs k v))):=.inl ⟨kvs,k,e,rfl,hl,rfl⟩
theorem DPut.t {H:Hp} {a b:Addr} {kvs:List (List Key×V)} {k:List Key} {v:V} (e:H a=some (.dT kvs)) (eb:H b=some (.tup (k.map kV))) (hl:kvs.length < A1) :
  DPut H a (.ref b) v (upd H a (.dT (putK kvs k v))):=.inr ⟨kvs,k,b,e,rfl,eb,hl,rfl⟩
section
variable {X:Cx} {pins:List (Addr×Obj)} {σ:St} {H:Hp} {s:Aj} {a:Addr} {y v:V} {u r:Af} {o:Option V} {A:B6} {E:Af->Aj->Prop}
theorem Inv.big (I:Inv X pins σ H s):Es < s.heap.objs.size:=by
 have h:C2 < s.heap.objs.size:=(I.mod.glob.keeps I.bk).lt;exact Nat.lt_trans (by decide) h
theorem jva {Q:Af->Aj->Prop} (hu:A.units+1 < E2) (I:Inv X pins σ H s) (g:DGet H a y (some v)) (ry:RelV y u) (h:∀w' s',Inv X pins σ H s'->RelV v w'->Q w' s') :
  A3 (A9 X.prog X.w) A (getItem (.ref a) u) Q E s:=by
 rcases g with⟨kvs,k,e,ey,l⟩ | ⟨kvs,k,b,e,ey,eb,l⟩
 ·subst ey;obtain⟨z,hd,vs,rel,dd⟩:=jpw I.hok e;obtain⟨w',hw,rw'⟩:=RelO.some_of (v:=v) (o:=valueAt vs k) (by rw[l];exact rel.val k);exact wpAny_getItem_of (jn3 ry) dd.mapOf hw (h w' _ (I.tok _) rw')
 ·subst ey;cases(show u=A8 b from ry);obtain⟨z,hd,xs,rel,dd⟩:=jpv I.hok e;obtain⟨w',hw,rw'⟩:=RelO.some_of (v:=v) (o:=(atKey xs k).map (·.2)) (by rw[l];exact rel.val k);obtain⟨p,hp,hp2⟩:=Fo.mp hw;refine wpAny_getItem_heap (Fw hu) (jli I.hok eb) dd hp ?_;rw[hp2];exact h w' _ (I.tok _) rw'
theorem d_in {Q:Af->Aj->Prop} (hu:A.units+1 < E2) (I:Inv X pins σ H s) (g:DGet H a y o) (ry:RelV y u) (h:∀s',Inv X pins σ H s'->Q (.bool o.isSome) s') :
  A3 (A9 X.prog X.w) A (B1 .In u (.ref a)) Q E s:=by
 rcases g with⟨kvs,k,e,ey,l⟩ | ⟨kvs,k,b,e,ey,eb,l⟩
 ·subst ey;obtain⟨z,hd,vs,rel,dd⟩:=jpw I.hok e;refine wpAny_in_of (jn3 ry) hd dd.mapOf ?_;rw[<-(rel.val k).isSome_eq,<-l];exact h _ (I.tok _)
 ·subst ey;cases(show u=A8 b from ry);obtain⟨z,hd,xs,rel,dd⟩:=jpv I.hok e;refine wpAny_in_heap (Fw hu) (jli I.hok eb) hd dd ?_;have q:=(rel.val k).isSome_eq;rw[Option.isSome_map]at q;rw[<-q,<-l];exact h _ (I.tok _)
theorem j2a {Q:Af->Aj->Prop} (hu:A.units+1 < E2) (I:Inv X pins σ H s) (g:DGet H a y o) (ry:RelV y u) (h:∀s',Inv X pins σ H s'->Q (.bool (!o.isSome)) s') :
  A3 (A9 X.prog X.w) A (B1 .NotIn u (.ref a)) Q E s:=by
 rcases g with⟨kvs,k,e,ey,l⟩ | ⟨kvs,k,b,e,ey,eb,l⟩
 ·subst ey;obtain⟨z,hd,vs,rel,dd⟩:=jpw I.hok e;refine wpAny_notIn_of (jn3 ry) hd dd.mapOf ?_;rw[<-(rel.val k).isSome_eq,<-l];exact h _ (I.tok _)
 ·subst ey;cases(show u=A8 b from ry);obtain⟨z,hd,xs,rel,dd⟩:=jpv I.hok e;refine wpAny_notIn_heap (Fw hu) (jli I.hok eb) hd dd ?_;have q:=(rel.val k).isSome_eq;rw[Option.isSome_map]at q;rw[<-q,<-l];exact h _ (I.tok _)
theorem jms {h':Heap} {t':Nat} {ob:HO} (I:Inv X pins σ H s) (mu:Mut (H a)) (hs:C5 a s.heap h') (he:∃q,h'.get? a=some q) (new:ObjOk X.prog X.w (upd H a ob) h' a ob) :
  Inv X pins σ (upd H a ob) {s with heap:=h',toks:=t'} :=
 I.write (x:=a) (e:=a) mu (.inl rfl) (λb q hb z=>(hs.2 b hb).trans z) he new
theorem ju3 {P:Bg} {w:Bt} {H':Hp} {h':Heap} {kvs:List (Key×V)} {vs:List (Key×Af)} (z:kvs.length<=A1) (hd:(a==Es)=false) (rel:KV kvs vs) (dd:h'.DictOf (jbo P w) a vs) :
  ObjOk P w H' h' a (.dK kvs):=⟨z,hd,vs,rel,dd⟩
theorem ju9 {H':Hp} {Q:Unit->Aj->Prop} (hu:A.units+1 < E2) (I:Inv X pins σ H s) (g:DPut H a y v H') (ry:RelV y u) (rv:RelV v r) (h:∀s',Inv X pins σ H' s'->Q () s') :
  A3 (A9 X.prog X.w) A (setItem (.ref a) u r) Q E s:=by
 rcases g with⟨kvs,k,e,ey,l,eH⟩ | ⟨kvs,k,b,e,ey,eb,l,eH⟩
 ·subst ey eH;obtain⟨z,hd,vs,rel,dd⟩:=j18 I.hok e;have hz:vs.length<=A1:=by rw[<-rel.length];exact z
  have hl:(putK kvs k v).length<=A1:=by have:=jc1 kvs k v;omega
  refine wpAny_setItem_pairs (hsz:=hz) (jn3 ry) dd λh' dd' hs=>h _ ?_;have he:∃q,h'.get? a=some q:=let⟨q,_,_,hq,_⟩:=dd';⟨q,hq⟩;exact jms I (by rw[e];exact D3) hs he (ju3 hl hd (rel.put k rv) dd')
 ·subst ey eH;cases(show u=A8 b from ry);obtain⟨z,hd,xs,rel,dd⟩:=j6y I.hok e;have hz:xs.length<=A1:=by rw[<-Paired.length rel];exact z
  have hl:(putK kvs k v).length<=A1:=by have:=jc1 kvs k v;omega
  refine wpAny_setItem_heap (hsz:=hz) (Fw hu) (jli I.hok eb) dd λh' dd' hs=>h _ ?_;obtain⟨q,es,ep,hq,h2,h3,h4,_,h5⟩:=dd';refine jms I (by rw[e];exact D3) hs ⟨q,hq⟩ ⟨hl,hd,_,(rel.put k eb rv).keeps λc ys ec=>?_,q,es,ep,hq,h2,h3,h4,h5⟩;rw[jao (j4p ec e (λz=>nomatch z))];exact ec
end
def NoSl (i:Expr):Prop:=∀ov iv,subscripted i false ov iv=operate [ov,iv] (getItem ov iv)
theorem j0k {prog:Bg} {w:Bt} {A:B6} {E:Af->Aj->Prop} {s:Aj} {env:Env} {value slice:Expr} {pos:Pos} {T id:String} {Q:Af->Aj->Prop}
  (hl:typeLookup (.type T) "__getitem__"=pure (some (.builtin id))) (hs:NoSl slice)
  (h:A3 (A9 prog w) A (eval value env) (λo s₁=>A3 (A9 prog w) A (eval slice env) (λi s₂=>s₂.TypeIs o T/\A3 (A9 prog w) A (getItem o i) Q E s₂) E s₁) E s) :
  A3 (A9 prog w) A (eval (.Subscript value slice pos) env) Q E s:=by
 refine Subscript_ (C8 h (λo s₁ h₁=>C8 h₁ (λi s₂ h₂=>?_) λ_ _ x=>x) λ_ _ x=>x);obtain⟨hT,h₂⟩:=h₂;unfold subscriptTail;refine Aa ?_;rw[getitemInPython_of_ne hT.not_modules];refine Aa (wpAny_specialOf hT hl ?_);have fin:A3 (A9 prog w) A (subscripted slice false o i) (λr s₃=>A3 (A9 prog w) A (letTemporaryGo value o r>>=λ_=>pure r) Q E s₃) E s₂:=by
  rw[hs o i];exact wpAny_operating (C8 h₂ (λr s₃ h₃=>Aa (wpAny_letTemporaryGo (Ai h₃))) λ_ _ x=>x)
 first
  |exact Ai (Aa fin)
  |exact Aa (Ai (Aa fin))
  |exact Aa fin
theorem jpx {X:Cx} {pins:List (Addr×Obj)} {σ:St} {H:Hp} {s:Aj} {a:Addr} {y:V} {o:Option V} (I:Inv X pins σ H s) (g:DGet H a y o):s.TypeIs (.ref a) "dict":=by
 rcases g with⟨kvs,k,e,_,_⟩ | ⟨kvs,k,b,e,_,_,_⟩
 ·obtain⟨_,_,vs,_,dd⟩:=jpw I.hok e;exact dd.typeIs
 ·obtain⟨_,_,xs,_,dd⟩:=jpv I.hok e;exact dd.typeIs
def j26 (td ty:TE):TE:=λσ H Q=>td σ H λx H1=>ty σ H1 λy H2=>∃a v,x=.ref a/\DGet H2 a y (some v)/\Q v H2
def tDIn (ty td:TE):TE:=λσ H Q=>ty σ H λy H1=>td σ H1 λx H2=>∃a o,x=.ref a/\DGet H2 a y o/\Q (.bl o.isSome) H2
def jim (ty td:TE):TE:=λσ H Q=>ty σ H λy H1=>td σ H1 λx H2=>∃a o,x=.ref a/\DGet H2 a y o/\Q (.bl (!o.isSome)) H2
def j0z (td ty tv:TE):TS:=λD σ H=>tv σ H λv H1=>td σ H1 λx H2=>ty σ H2 λy H3=>∃a H4,x=.ref a/\DPut H3 a y v H4/\D.nx σ H4
section
variable {X:Cx} {o i e value:Expr} {pos pos' tpos:Pos} {td ty tv:TE}
theorem j1e (hu:X.A.units+1 < E2) (ho:PE X o td) (hi:PE X i ty) (hs:NoSl i):PE X (.Subscript o i pos) (j26 td ty):=by
 intro pins s σ H Q I h;refine j0k PySem.F.slot_dict_getitem.lookup hs (thn (ho pins s σ H _ I h) λu s1 ⟨x,H1,I1,rx,q1⟩=>thn (hi pins s1 σ H1 _ I1 q1) λiv s2 ⟨y,H2,I2,ry,a,v,ex,g,q2⟩=>?_);subst ex;obtain rfl:u=A8 a:=rx;exact⟨jpx I2 g,jva hu I2 g ry λw' s3 I3 rw'=>⟨v,H2,I3,rw',q2⟩⟩
theorem j4g (hu:X.A.units+1 < E2) (hi:PE X i ty) (ho:PE X o td):PC X .In i o (tDIn ty td):=by
 intro pins s σ H Q I h;refine thn (hi pins s σ H _ I h) λiv s1 ⟨y,H1,I1,ry,q1⟩=>thn (ho pins s1 σ H1 _ I1 q1) λu s2 ⟨x,H2,I2,rx,a,ov,ex,g,q2⟩=>?_;subst ex;obtain rfl:u=A8 a:=rx;exact d_in hu I2 g ry λs3 I3=>⟨.bl ov.isSome,H2,I3,rfl,q2⟩
theorem jnu (hu:X.A.units+1 < E2) (hi:PE X i ty) (ho:PE X o td):PC X .NotIn i o (jim ty td):=by
 intro pins s σ H Q I h;refine thn (hi pins s σ H _ I h) λiv s1 ⟨y,H1,I1,ry,q1⟩=>thn (ho pins s1 σ H1 _ I1 q1) λu s2 ⟨x,H2,I2,rx,a,ov,ex,g,q2⟩=>?_;subst ex;obtain rfl:u=A8 a:=rx;exact j2a hu I2 g ry λs3 I3=>⟨.bl (!ov.isSome),H2,I3,rfl,q2⟩
theorem jtu (hu:X.A.units+1 < E2) (ho:PE X o td) (hi:PE X i ty) (hv:PE X value tv) (hs:Dw value (some (.Subscript o i pos')) pos.line X.env=pure false) :
  PS X (.Assign [.Subscript o i pos'] value pos) (j0z td ty tv):=by
 intro pins s σ H D I h;refine wpAny_Assign_Subscript (thn (hv pins s σ H _ I h) λr s1 ⟨v,H1,I1,rv,q1⟩=>thn (ho pins s1 σ H1 _ I1 q1) λu s2 ⟨x,H2,I2,rx,q2⟩=>thn (hi pins s2 σ H2 _ I2 q2) λiv s3 ⟨y,H3,I3,ry,a,H4,ex,g,q3⟩=>?_) hs;subst ex;obtain rfl:u=A8 a:=rx;exact ju9 hu I3 g ry rv λs4 I4=>⟨σ,H4,I4,q3⟩
end
theorem jmp {P:Bg} {w:Bt} {H:Hp} (h:Heap) (hb:Es < h.objs.size):ObjOk P w H (h.push {cls:=.type "dict",data:=.dict #[]}) h.objs.size (.dK []) :=
 ⟨Bj _,beq_eq_false_iff_ne.mpr (Ne.symm (Bb hb)),[],.nil,Heap.DictOf.new h⟩
theorem jx4 {P:Bg} {w:Bt} {H:Hp} (h:Heap) (hb:Es < h.objs.size):ObjOk P w H (h.push {cls:=.type "dict",data:=.dict #[]}) h.objs.size (.dT []) :=
 ⟨Bj _,beq_eq_false_iff_ne.mpr (Ne.symm (Bb hb)),[],.nil,_,#[],0,Au _ rfl,⟨rfl,rfl,rfl⟩,rfl,rfl,List.nodup_nil⟩
def jyz:TE:=λ_ H Q=>∀p,H p=none->Q (.ref p) (upd H p (.dK []))
def jyy:TE:=λ_ H Q=>∀p,H p=none->Q (.ref p) (upd H p (.dT []))
section
variable {X:Cx} {pos:Pos}
theorem jw0:PE X (.Dict [] [] pos) jyz:=λpins s σ H Q I h =>
 wpAny_Dict_empty ⟨.ref s.heap.objs.size,_,I.laid (a:=s.heap.objs.size) (o:=.dK []) (t':=s.toks) (λ_ _ q=>Ad _ q) (Al _) (jmp s.heap I.big),rfl,h _ (I.hok.fresh (Al _))⟩
theorem jwz:PE X (.Dict [] [] pos) jyy:=λpins s σ H Q I h =>
 wpAny_Dict_empty ⟨.ref s.heap.objs.size,_,I.laid (a:=s.heap.objs.size) (o:=.dT []) (t':=s.toks) (λ_ _ q=>Ad _ q) (Al _) (jx4 s.heap I.big),rfl,h _ (I.hok.fresh (Al _))⟩
end
def jqa:List (TE×TE)->St->Hp->(List (V×V)->Hp->Prop)->Prop
 |[],_,H,Q=>Q [] H
 | (tk,tv)::r,σ,H,Q=>tk σ H λx H1=>tv σ H1 λy H2=>jqa r σ H2 λps H3=>Q ((x,y)::ps) H3
abbrev VV:List (V×V)->List (Af×Af)->Prop:=Paired λp q=>RelV p.1 q.1/\RelV p.2 q.2
def PPs (X:Cx) (pos:Pos) (keys:List (Option Expr)) (values:List Expr) (trs:List (TE×TE)):Prop :=
 ∀(pins:List (Addr×Obj)) (s:Aj) (σ:St) (H:Hp) (Q:List (V×V)->Hp->Prop),Inv X pins σ H s->jqa trs σ H Q ->
  A3 (A9 X.prog X.w) X.A (evalPairs (pairTrees keys values X.env pos)) (λvs s'=>∃ps H',Inv X pins σ H' s'/\VV ps vs/\Q ps H') X.xe s
theorem j05 {X:Cx} {pos:Pos}:PPs X pos [] [] []:=λpins s σ H Q I h=>pairTrees_nil_walk ⟨[],H,I,.nil,h⟩
theorem jql {X:Cx} {pos:Pos} {k v:Expr} {ks:List (Option Expr)} {vs:List Expr} {tk tv:TE} {trs:List (TE×TE)} (hk:PE X k tk) (hv:PE X v tv) (hr:PPs X pos ks vs trs) :
  PPs X pos (some k::ks) (v::vs) ((tk,tv)::trs):=λpins s σ H Q I h =>
 pairTrees_cons_walk (thn (hk pins s σ H _ I h) λu s1 ⟨x,H1,I1,rx,q1⟩=>thn (hv pins s1 σ H1 _ I1 q1) λw2 s2 ⟨y,H2,I2,ry,q2⟩ =>
  thn (hr pins s2 σ H2 _ I2 q2) λws s3 ⟨ps,H3,I3,rel,q3⟩=>⟨(x,y)::ps,H3,I3,.cons ⟨rx,ry⟩ rel,q3⟩)
def jd8 (kvs more:List (Key×V)):List (Key×V):=more.foldl (λacc kv=>putK acc kv.1 kv.2) kvs
theorem KV.merge:∀{more:List (Key×V)} {rs:List (Key×Af)} {kvs:List (Key×V)} {vs:List (Key×Af)},KV more rs->KV kvs vs->KV (jd8 kvs more) (merged vs rs):=by
 intro more rs kvs vs r;unfold KV at r
 induction r generalizing kvs vs with
 |nil=>intro q;exact q
 |@cons p q ps qs h t ih =>
  intro r0;have e:KV (putK kvs p.1 p.2) (stored vs q.1 q.2):=by
   have:=r0.put p.1 h.2;rw[<-h.1];exact this
  exact ih e
theorem jgg:∀(more kvs:List (Key×V)),(jd8 kvs more).length<=kvs.length+more.length
 |[],kvs=>by show kvs.length<=kvs.length+0;omega
 |p::r,kvs=>by
  have h1:=jgg r (putK kvs p.1 p.2);have h2:=jc1 kvs p.1 p.2;show(jd8 (putK kvs p.1 p.2) r).length<=_;rw[Ax];omega
theorem jln {P:Bg} {w:Bt}:∀{kvs:List (Key×V)} {ws:List (Af×Af)},VV (kvs.map λkv=>(kV kv.1,kv.2)) ws->∃rs,Carries (jbo P w) ws rs/\KV kvs rs
 |[],_,r=>by rw[Fu]at r;cases r;exact⟨[],D3,.nil⟩
 |p::kvs,_,r=>by
  rw[Bo]at r;cases r with
  |@cons a b as bs h t =>
   obtain⟨rs,c,q⟩:=jln (P:=P) (w:=w) t;obtain⟨b1,b2⟩:=b;exact⟨(p.1,b2)::rs,⟨jn3 h.1,rfl,c⟩,.cons ⟨rfl,h.2⟩ q⟩
def j25 (trs:List (TE×TE)):TE:=λσ H Q=>∀p,H p=none->jqa trs σ (upd H p (.dK [])) λps H2=>H2 p=some (.dK [])/\∃kvs:List (Key×V),ps=kvs.map (λkv=>(kV kv.1,kv.2))/\kvs.length<=15/\Q (.ref p) (upd H2 p (.dK (jd8 [] kvs)))
theorem j1d {X:Cx} {pos:Pos} {keys:List (Option Expr)} {values:List Expr} {trs:List (TE×TE)} (h:PPs X pos keys values trs) (hall:keys.all (·.isSome)=true) (hl:keys.length=values.length) (h0:keys≠[])
  (h15:keys.length<=15):PE X (.Dict keys values pos) (j25 trs):=by
 intro pins s σ H Q I q;have hn:=I.hok.fresh (Al s.heap.objs.size);have I1:=I.laid (a:=s.heap.objs.size) (o:=.dK []) (h':=s.heap.push {cls:=.type "dict",data:=.dict #[]}) (t':=s.toks) (λ_ _ q=>Ad _ q) (Al _) (jmp s.heap I.big);refine wpAny_Dict_walk (knd:=jbo X.prog X.w) hall hl h0 h15 (thn (h pins _ σ _ _ I1 (q _ hn)) λws s2 ⟨ps,H2,I2,rel,e,kvs,ep,lk,q2⟩=>?_);subst ep;obtain⟨rs,c,rk⟩:=jln (P:=X.prog) (w:=X.w) rel;obtain⟨z,hd,vs0,r0,dd⟩:=j18 I2.hok e;cases r0;refine⟨rs,c,dd,λh' dd' hs=>⟨.ref s.heap.objs.size,_,?_,rfl,q2⟩⟩;have hz:(jd8 [] kvs).length<=A1:=by
  have h1:=jgg kvs [];rw[List.length_nil]at h1;rw[Ea];omega
 have he:∃q,h'.get? s.heap.objs.size=some q:=let⟨q,_,_,hq,_⟩:=dd';⟨q,hq⟩;exact jms I2 (by rw[e];exact D3) hs he (ju3 hz hd (rk.merge .nil) dd')
structure M2 (X:Cx) (o:Expr) (m:Str) (apos:Pos) (e f:Expr) (cpos:Pos):Prop where
 base:Fs o m X.env (eval o X.env)=eval o X.env
 few:((Dd cpos (Az [e,f] X.env)).all (λx=>!x.1)&&(backToKw cpos (keywordEach [] X.env)).all (λx=>x.1.isSome)
  && decide (([e,f]:List Expr).length+([]:List Keyword).length+(if ([]:List Keyword).isEmpty then 0 else 1) < 30))=true
 line:(apos.endLine==cpos.line)=true
 trees:Dd cpos (Az [e,f] X.env)=[(false,eval e X.env),(false,eval f X.env)]
def IsD (H:Hp) (a:Addr):Prop:=(∃kvs,Rd H a (.dK kvs))\/∃kvs,Rd H a (.dT kvs)
theorem j43 {X:Cx} {pins:List (Addr×Obj)} {σ:St} {H:Hp} {s:Aj} {a:Addr} (I:Inv X pins σ H s) (d:IsD H a) :
  s.TypeIs (.ref a) "dict"/\(∀b,A8 a=.ref b->∃ob,s.heap.get? b=some ob/\ob.dict=none)/\(a==Es)=false:=by
 rcases d with⟨kvs,e⟩ | ⟨kvs,e⟩
 ·obtain⟨_,hd,vs,_,dd⟩:=jpw I.hok e;refine⟨dd.typeIs,λb q=>?_,hd⟩;cases q;obtain⟨ob,_,_,h1,h2,_⟩:=dd;exact⟨ob,h1,h2.2.1⟩
 ·obtain⟨_,hd,xs,_,dd⟩:=jpv I.hok e;refine⟨dd.typeIs,λb q=>?_,hd⟩;cases q;obtain⟨ob,_,_,h1,h2,_⟩:=dd;exact⟨ob,h1,h2.2.1⟩
section
variable {X:Cx} {pins:List (Addr×Obj)} {σ:St} {H:Hp} {s:Aj} {a:Addr} {y d:V} {u r:Af} {o:Option V} {A:B6} {E:Af->Aj->Prop}
theorem j5r {Q:Af->Aj->Prop} (hu:A.units+1 < E2) (I:Inv X pins σ H s) (g:DGet H a y o) (ry:RelV y u) (rd:RelV d r) (h:∀w' s',Inv X pins σ H s'->RelV (o.getD d) w'->Q w' s') :
  A3 (A9 X.prog X.w) A (call (.builtin "dict.get") [.ref a,u,r]) Q E s:=by
 rcases g with⟨kvs,k,e,ey,l⟩ | ⟨kvs,k,b,e,ey,eb,l⟩
 ·subst ey;obtain⟨z,hd,vs,rel,dd⟩:=jpw I.hok e;refine call_meetsIn PySem.F.slot_dict_get dd.typeIs PySem.F.entry_dict_get (PySem.F.args_dict_get_3 _ _ _) (meets_dict_get_default (jbo X.prog X.w) a (jn3 ry) hd r) ⟨_,dd.mapOf,h _ _ (I.tok _) ?_⟩;rw[l];exact(rel.val k).getD rd
 ·subst ey;cases(show u=A8 b from ry);obtain⟨z,hd,xs,rel,dd⟩:=jpv I.hok e;refine call_meetsIn PySem.F.slot_dict_get dd.typeIs PySem.F.entry_dict_get (PySem.F.args_dict_get_3 _ _ _) (meetsH_dict_get_default (tupleKind (jbo X.prog X.w)) a b hd r) ⟨Fw hu,k,xs,jli I.hok eb,dd,h _ _ (I.tok _) ?_⟩;rw[l];exact(rel.val k).getD rd
end
def jy0 (td ty tx:TE):TE:=λσ H Q=>td σ H λx H1=>∃a,x=.ref a/\IsD H1 a/\ty σ H1 λy H2=>tx σ H2 λz H3=>∃o,DGet H3 a y o/\Q (o.getD z) H3
section
variable {X:Cx} {o e f:Expr} {apos cpos:Pos} {td ty tx:TE}
theorem jw1 (hu:X.A.units+1 < E2) (ho:PE X o td) (he:PE X e ty) (hf:PE X f tx) (m:M2 X o "get" apos e f cpos):PE X (.Call (.Attribute o "get" apos) [e,f] [] cpos) (jy0 td ty tx):=by
 intro pins s σ H Q I h;refine wpAny_Call_method m.base m.few m.line PySem.F.plainAttrs_dict PySem.F.slot_dict_get PySem.F.type_dict_get (thn (ho pins s σ H _ I h) λu s1 ⟨x,H1,I1,rx,a,ex,d,q1⟩=>?_);subst ex;obtain rfl:u=A8 a:=rx;obtain⟨t1,t2,_⟩:=j43 I1 d;refine⟨t1,t2,?_⟩;rw[m.trees];refine Calls.callWith_builtin rfl (Calls.evalArgs_plain (Calls.spliced_cons (thn (he pins s1 σ H1 _ I1 q1) λiv s2 ⟨y,H2,I2,ry,q2⟩ =>
  Calls.spliced_cons (thn (hf pins s2 σ H2 _ I2 q2) λfv s3 ⟨z,H3,I3,rz,ov,g,q3⟩=>Calls.spliced_nil ?_))))
 exact j5r hu I3 g ry rz λw' s4 I4 rw'=>⟨_,H3,I4,rw',q3⟩
end
end L2
namespace Att
open PySem PySem.W PySem.Calls PyProof.Rows
theorem ji9 {P:Params} {h:Heap}:∀(ns:List Int) (vs:List Af),WellAll P h vs (ns.map WData.int)->IntsAre vs ns:=by
 intro ns
 induction ns with
 |nil =>
  intro vs w;rw[Fu]at w;cases w;exact .nil
 |cons n ns ih =>
  intro vs w;rw[Bo]at w;cases w with
  |cons a b =>
   cases a;exact .cons _ _ (ih _ b)
theorem jtf {l:OpenLaw} {n:Nat} (hn:l.most=some n) {P:Params} {h:Heap} {args:List WData} {vals:List Af}
  (hpre:l.row.toRowW.claim.pre args=true) (hwl:WellAll P h vals args) :
  ∃a vs ns,vals=[A8 a]/\args=[WData.list (ns.map WData.int)]/\h.get? a=some {cls:=.type "list",data:=.seq vs.toArray}/\IntsAre vs ns/\ns.length<=n:=by
 have hsh:WShape.hasAll [] args [.list .int]=true:=(pre_splitW hpre).1;have hc:l.pre.holds [] {args:=args}=true:=(pre_splitW hpre).2;obtain⟨d,r,rfl,h1,h2⟩:=hasAllW_cons hsh;obtain rfl:=hasAllW_nil h2;obtain⟨xs,rfl,h3⟩:=hasW_list h1;obtain⟨ns,rfl⟩:=items_int h3;have hlen:ns.length<=n:=by
  unfold OpenLaw.pre at hc;have h4:(WTm.not (.lt (.lit (.int (n:Int))) (.len (.arg 0)))).holds [] {args:=[.list (ns.map .int)]}=true:=by
   have h4:=(holds_andW hc).1;rw[hn]at h4;exact h4
  have h5:=condW_of h4 (w_not (w_lt w_lit (w_len_list (w_arg rfl))));rw[Ab]at h5;refine Nat.le_of_not_lt λq=>?_;have q':(n:Int) < ((ns.length:Nat):Int):=by omega
  first
   | (rw[decide_eq_true q']at h5;exact absurd h5 (by decide))
   | (simp at h5;omega)
 cases hwl with
 |cons w1 w2 =>
  cases w2;cases w1 with
  |list ho hall=>exact⟨_,_,ns,rfl,rfl,ho,ji9 ns _ hall,hlen⟩
theorem jtv (l:OpenLaw) (args:List WData):l.row.toRowW.claim.post args (.bool true) args=true :=
 postW_of (r:=l.row.toRowW) (X:=(true==true))
  (show WShape.has [] (.bool true) .bool=true by first | rfl | decide | simp[WShape.has,WShape.arms,WShape.armsAll])
  (show(WTm.eq .res (.lit (.bool true))).value [] {args:=args,res:=some (.bool true),after:=args}=some (.bool (true==true))from w_eq_bool (w_res rfl) w_lit) rfl
theorem attach_call {l:OpenLaw} {n:Nat} {q:Bg} {loose:List Str} {XP:(Str->Option Af)->Heap->Prop} {YP:Bt->Heap->Prop} {d:DefRec}
  (hn:l.most=some n) (hdf:d.params.defaults=[])
  (call:∀(w:Bt) (s₀ s₁:Aj) (mg mb:Str->Option Af) (fa:Addr) (o:Obj) (pm cd doc:Af) (a:Addr) (vs:List Af) (ns:List Int),
   Ground q loose [] XP w s₀ mg mb s₁.heap->YP w s₁.heap ->
   s₁.heap.get? fa=some o->o.data=.func (docDef d.name d.params d.body d.scope pm cd doc)->s₁.heap.CodeRec cd d.name->mg d.name=some (.ref fa) ->
   s₁.heap.get? a=some {cls:=.type "list",data:=.seq vs.toArray}->IntsAre vs ns->ns.length<=n->s₁.gens=#[] ->
   Ft (A9 l.prog w) callerA (.call (.ref fa) ⟨[.ref a],[]⟩) (λr s'=>r=.ok (.ret (.bool true))/\OldK s₁.heap s'.heap/\s'.os=s₁.os/\AllBare s'.gens) s₁) :
  WalkO q loose XP YP l.row.toRowW d [] (λf vs=>PySem.call f vs):=by
 intro w s₀ s₁ mg mb G Y fa o pm cd doc dV kV ho hd hcd hD hmg hg args vals as hpre hlay hrd hwl hlo;obtain rfl:dV=.none:=Dflts.none hD hdf;obtain rfl:kV=.none:=Dflts.noKw hD;obtain⟨a,vs,ns,rfl,rfl,hobj,hints,hlen⟩:=jtf hn hpre hwl;refine enter_call (codeAny_mono (call w s₀ s₁ mg mb fa o pm cd doc a vs ns G Y ho (fd_plain hd) hcd hmg hobj hints hlen hg) λr s' hq=>?_);obtain⟨rfl,h2,h3,h4⟩:=hq;exact⟨.inl ⟨.bool true,.bool true,[],rfl,λ_=>rfl,.bool true,jtv l _,λ_=>⟨List.Pairwise.nil,λ_ hm=>(nomatch hm)⟩⟩,h2,h3,h4⟩
end Att
namespace L2
open PySem PySem.Spec PyProof.Rows
theorem jna:∀{vs:List Af} {ns:List Int},IntsAre vs ns->Vals (ns.map V.int) vs
 |_,_,.nil=>.nil
 |_,_,.cons n t h=>.cons ⟨t,rfl⟩ (jna h)
def Only (H:Hp):Prop:=∀b,H b=none\/∃o xs,H b=some (.frz o (.lst xs))
theorem jxn {P:Bg} {w:Bt} {K:Ah} {mg mb:Str->Option Af} {CX:CXT} {k:Nat} {fa a:Addr} {fd:Cp} {x:Str} {sp:Sp} {s₁:Aj} {vs:List Af} {ns:List Int}
  (KX:K.In s₁.heap) (hns:s₁.heap.Ns C2 mg) (hb:s₁.heap.Ns builtinsNs mb) (hbb:∀x:Str,x≠"__name__"->mb x=B7 x) (hlim:s₁.heap.NoLimit) (hg:s₁.gens=#[])
  (ha:s₁.heap.get? a=some {cls:=.type "list",data:=.seq vs.toArray}) (hi:IntsAre vs ns) (hl:ns.length<=A1) (hr:Room k callerA)
  (F:∀base:Heap,K.In base->base.Ns C2 mg->FnOk P w K mg base CX k fa fd [x] sp) (hbind:∀(s:Aj) (u:Af),BindsTo s fd ⟨[u],[]⟩ [(x,u)])
  (hsp:∀H:Hp,Only H->SqL K H a (ns.map V.int)->sp [.ref a] H (λv _=>v=.bl true) λ_ _ _=>False)
  (hCX:∀H e s',CX [] H s₁ (λ_ _ _=>False) e s'->False) :
  Ft (A9 P w) callerA (.call (.ref fa) ⟨[.ref a],[]⟩) (λr s'=>r=.ok (.ret (.bool true))/\OldK s₁.heap s'.heap/\s'.os=s₁.os/\AllBare s'.gens) s₁:=by
 have rv:=jna hi;have lenV:=hi.length
 -- from an abstract heap in which nothing but the script may be tracked
 have core:∀H:Hp,Only H->SqL K H a (ns.map V.int)->HOk P w H s₁.heap->(∀b,H b≠none->b=a)->(H a≠none->K.lookup a=none) ->
   Ft (A9 P w) callerA (.call (.ref fa) ⟨[.ref a],[]⟩) (λr s'=>r=.ok (.ret (.bool true))/\OldK s₁.heap s'.heap/\s'.os=s₁.os/\AllBare s'.gens) s₁:=by
  intro H hO hS hok hA hK;have base_of:∀{b:Addr} {o:Obj},s₁.heap.get? b=some o->H b=none->(hidT s₁.heap H).get? b=some o:=λe n=>jxt e n;have noA:∀{b:Addr} {o:Obj} {es:Array DictEntry} {ep:Nat},s₁.heap.get? b=some o->o.data=.dict es ep->H b=none:=λ{b o es ep} e d=>by
   cases q:H b with
   |none=>rfl
   |some u =>
    have e':b=a:=hA b (by rw[q];simp);subst e';rw[ha]at e;cases e;have d':Data.seq vs.toArray _=Data.dict es ep:=d;cases d'
  have nsK:∀{b:Addr} {m:Str->Option Af},s₁.heap.Ns b m->(hidT s₁.heap H).Ns b m:=λ{b m} ⟨o,es,ep,e,d,r⟩=>⟨o,es,ep,base_of e (noA e d),d,r⟩;have hKb:K.In (hidT s₁.heap H):=λb o e=>base_of (KX b o e) (by
   cases q:H b with
   |none=>rfl
   |some u =>
    have e':b=a:=hA b (by rw[q];simp);subst e';rw[hK (by rw[q];simp)]at e;cases e)
  have hM:Mod K mg (hidT s₁.heap H):=⟨hKb,nsK hns,⟨mb,nsK hb,hbb⟩,let⟨mc,h1,h2⟩:=hlim;⟨mc,nsK h1,h2⟩⟩;have e0:Env0 P w K mg (hidT s₁.heap H) callerA [] s₁ H:=⟨rfl,hM,λb o e=>j1q e,Nat.le_of_eq (juv _ _),trivial,λb hb=>absurd (show b∈([]:List Addr)from hb) (by simp),hok,.of_eq hg⟩;refine codeAny_mono ((F _ hKb (nsK hns)).run callerA [] s₁ H ⟨[.ref a],[]⟩ [.ref a] [.ref a] _ _ hr e0 (hbind s₁ (.ref a)) (.cons rfl .nil) (hsp H hO hS)) λr s' h=>?_;cases r with
  |error e=>exact(hCX H e s' h).elim
  |ok fl =>
   cases fl with
   |next=>exact False.elim h
   |brk=>exact False.elim h
   |cont=>exact False.elim h
   |ret u =>
    obtain⟨v,H',os,bare,un,hok',r',q⟩:=h;have q':v=.bl true:=q;subst q';obtain rfl:u=Value.bool true:=r';refine⟨rfl,OldK.of_keep λb o e=>?_,os,bare⟩;cases q:H b with
    |none=>exact un.keep b o e q (by intro z;exact absurd (show b∈([]:List Addr)from z) (by simp)) (by simp)
    |some u =>
     rcases hO b with z | ⟨ob,xs,z⟩
     ·rw[q]at z;cases z
     ·have z2:=un.frzs b ob _ z;obtain⟨e1,_⟩:=hok b _ z;obtain⟨e2,_⟩:=hok' b _ z2;rw[e]at e1;cases e1;exact e2
 cases hk:K.lookup a with
 |some o =>
  -- the script is one of the module's own objects
  have e:=KX a o hk;rw[ha]at e;cases e;refine core (λ_=>none) (λ_=>.inl rfl) (.inr ⟨_,vs.toArray,_,hk,rfl,rfl,rfl,by rw[A4,lenV];exact hl,by simpa using rv⟩) (λb u z=>by have z':(none:Option HO)=some u:=z;cases z') (λb z=>absurd rfl z) λz=>absurd rfl z
 |none =>
  refine core (λb=>if b=a then some (.frz {cls:=.type "list",data:=.seq vs.toArray} (.lst (ns.map V.int)))else none) (λb=>?_) (.inl (.inr ⟨{cls:=.type "list",data:=.seq vs.toArray},if_pos rfl⟩)) (λb u z=>?_) (λb z=>?_) λ_=>hk
  ·by_cases hb:b=a
   ·exact .inr ⟨_,_,if_pos hb⟩
   ·exact .inl (if_neg hb)
  ·by_cases hb:b=a
   ·have z':=(if_pos hb).symm.trans z;cases z';subst hb;exact⟨ha,by rw[Ab];exact hl,vs,_,rv,ha⟩
   ·have z':=(if_neg hb).symm.trans z;cases z'
  ·by_cases hb:b=a
   ·exact hb
   ·exact absurd (if_neg hb) z
theorem walk_of {l:PySem.W.OpenLaw} {n k:Nat} {q:Bg} {loose:List Str} {XP:(Str->Option Af)->Heap->Prop} {YP:Bt->Heap->Prop} {d:DefRec} {K:Params->Ah} {CX:Bt->CXT} {sp:Bt->Sp} {x:Str}
  (hn:l.most=some n) (hn2:n<=A1) (hdf:d.params.defaults=[]) (hr:Room k callerA)
  (hY:∀(w:Bt) (h:Heap),YP w h->(K w.params).In h)
  (F:∀(w:Bt) (mg:Str->Option Af) (fa:Addr) (h:Heap),(K w.params).In h->h.Ns C2 mg->mg d.name=some (.ref fa) ->
   ∃fd:Cp,(∀(s:Aj) (u:Af),BindsTo s fd ⟨[u],[]⟩ [(x,u)]) /\
    ∀base:Heap,(K w.params).In base->base.Ns C2 mg->FnOk l.prog w (K w.params) mg base (CX w) k fa fd [x] (sp w))
  (hsp:∀(w:Bt) (H:Hp) (a:Addr) (ns:List Int),ns.length<=n->Only H->SqL (K w.params) H a (ns.map V.int)->sp w [.ref a] H (λv _=>v=.bl true) λ_ _ _=>False)
  (hCX:∀(w:Bt) (H:Hp) (s:Aj) (e:Af) (s':Aj),CX w [] H s (λ_ _ _=>False) e s'->False) :
  PySem.W.WalkO q loose XP YP l.row.toRowW d [] (λf vs=>PySem.call f vs):=by
 refine Att.attach_call hn hdf λw s₀ s₁ mg mb fa o pm cd doc a vs ns G Y ho hd hcd hmg hobj hints hlen hg=>?_;have KX:=hY w _ Y;obtain⟨fd,hb,hF⟩:=F w mg fa _ KX G.T.g hmg;exact jxn KX G.T.g G.T.b G.T.builtins G.T.nolimit hg hobj hints (Ba hlen hn2) hr hF hb (λH hO hS=>hsp w H a ns hlen hO hS) λH e s'=>hCX w H s₁ e s'
def jg3 (s:Stmt):Arguments:=match s with
 |.FunctionDef _ a _ _ _ _ _ _ _ _=>a
 |_=>{ posonlyargs:=[],args:=[],vararg:=none,kwonlyargs:=[],kw_defaults:=[],kwarg:=none,defaults:=[]}
def jdm (s:Stmt):List Stmt:=match s with
 |.FunctionDef _ _ b _ _ _ _ _ _ _=>b
 |_=>[]
def jai (s:Stmt):Scope:=match s with
 |.FunctionDef _ _ _ _ _ _ sc _ _ _=>sc
 |_=>{ kind:=.function,names:=[],isGenerator:=false,isCoroutine:=false}
abbrev CX0:CXT:=λ_ _ _ _ _ _=>False
abbrev E0:XK:=λ_ _ _=>False
theorem j1j {X:Cx}:jvu CX0 X E0:=λ_ _ _ _ _ _ _ h=>h.elim
structure Fun (K:Ah) (x qual:Str) (st:Stmt) (f:Addr) (fd:Cp):Prop where
 ex:∃(oc:Af) (od:Option Addr) (kV doc pm:Af) (an:Option Addr) (cdv ct:Af) (osl:Array (Option Af)),
  fd=Fl x qual (jg3 st) (jdm st) (jai st) .none kV doc pm an cdv ct/\K.lookup f=some ⟨oc,od,.func fd,osl⟩/\PySem.W.codeIn K cdv qual=true
 kp:C9 K (.ref f)=true
section
variable {P:Bg} {w:Bt} {K:Ah} {mg:Str->Option Af} {base:Heap}
theorem Fun.ok {x qual:Str} {st:Stmt} {f:Addr} {fd:Cp} {N ps:List Str} {k:Nat} {sp:Sp} (F:Fun K x qual st f fd) (S:FnScope N ps (jai st)) (len:∀vs H Q E,sp vs H Q E->vs.length=ps.length)
  (hbody:∀(cdv:Af) (A:B6) (outer:List Env) (s:Aj) (H:Hp) (vs:List V) (Q:VK) (E:XK),Room k (A.deeper (envOfC qual (jai st) s.heap.objs.size f cdv))->sp vs H Q E ->
   ∃t,PSs (cxOf CX0 P w K mg base N qual (jai st) f cdv A outer s H E).nox (jdm st) t/\t {nx:=λ_ H'=>Q .non H',rt:=Q} (start N vs) H):FnOk P w K mg base CX0 (k+1) f fd ps sp:=by
 obtain⟨oc,od,kV,doc,pm,an,cdv,ct,osl,rfl,lk,hcd⟩:=F.ex;refine j6u lk hcd S len λA outer s H vs Q E hr hsp=>?_;obtain⟨t,h,q⟩:=hbody cdv A outer s H vs Q E hr hsp;exact⟨t,h.nox,q⟩
theorem Fun.binds {x qual:Str} {st:Stmt} {f:Addr} {fd:Cp} {ps:List Str} (F:Fun K x qual st f fd)
  (h:∀(kV doc pm:Af) (an:Option Addr) (cdv ct:Af) (us:List Af),us.length=ps.length->bindArgs (Fl x qual (jg3 st) (jdm st) (jai st) .none kV doc pm an cdv ct) ⟨us,[]⟩=pure (ps.zip us)):Binds K fd ps []:=by
 obtain⟨oc,od,kV,doc,pm,an,cdv,ct,osl,rfl,lk,hcd⟩:=F.ex;exact .all (h kV doc pm an cdv ct)
theorem j5f {x qual:Str} {st:Stmt} {f:Addr} {oc:Af} {od an:Option Addr} {osl:Array (Option Af)} {kV doc pm cdv ct:Af} (l:K.lookup f=some ⟨oc,od,.func (Fl x qual (jg3 st) (jdm st) (jai st) .none kV doc pm an cdv ct),osl⟩)
  (c:PySem.W.codeIn K cdv qual=true) (k:C9 K (.ref f)=true):Fun K x qual st f (Fl x qual (jg3 st) (jdm st) (jai st) .none kV doc pm an cdv ct):=⟨⟨oc,od,kV,doc,pm,an,cdv,ct,osl,rfl,l,c⟩,k⟩
end
theorem jnj {n:Nat} (h:n<=1000):n < A1:=Nat.lt_of_le_of_lt h (by decide)
section
variable {X:Cx}
theorem pv (i:Nat) {x:Str} {pos:Pos} (hN:X.N[i]?=some x:=by rfl) (hv:Vis X.env.scope x:=by first | exact Ar rfl | exact Bz (Ar rfl) | exact Bz (Bz rfl)) (hd:(x==("__debug__":Str))=false:=by decide)
  (hcd:(x==("__classdict__":Str))=false:=by decide):PE X (.Name x pos) (tVar i):=jdq hN hv hd hcd
end
theorem iteF {A B:Prop} (h:B):if false=true then A else B:=by
 rw[if_neg Ak];exact h
theorem ite2 {c A B:Prop} [Decidable c] (h1:c->A) (h2:¬c->B):if c then A else B:=by
 by_cases h:c
 ·rw[if_pos h];exact h1 h
 ·rw[if_neg h];exact h2 h
def Same (H H':Hp):Prop:=∀b o,H b=some o->H' b=some o
end L2
set_option maxHeartbeats 4000000
set_option maxHeartbeats 4000000
namespace Nb
open PySem L2
def jso:Bool:=true
def jyn:List V:=[.non,.non,.non,.int 1,.int 2,.int 3,.int 20]
def jm2:List Ae:=[.none,.none,.none,.int 1,.int 2,.int 3,.int 20]
end Nb
namespace L2
open PySem PySem.Spec PyProof.Rows
section
variable {prog:Bg} {w:Bt} {A:B6} {R:Result->Aj->Prop} {s:Aj}
theorem jhx {elt target iter:Expr} {ifs:List Expr} {scope:Scope} {pos:Pos} {it acc:Af} {env:Env} (I:Nat->Aj->Prop)
  (turn:∀n s,I n s->A3 (A9 prog w) A (Do it) (λr s₁=>match r with
   |none=>R (.ok .next) s₁
   |some v=>A3 (A9 prog w) A (letOwnedTupleGo target it v) (λ_ s₁'=>A3 (A9 prog w) A (assign target env v) (λ_ s₂ =>
     A3 (A9 prog w) A (forIn ifs true λc r=>if r=true then do let ok <-isTrue c env (eval c env);pure (ForInStep.yield ok)else pure (ForInStep.yield r)) (λok s₃ =>
      if ok=true then A3 (A9 prog w) A (eval elt env) (λx s₄ =>
       A3 (A9 prog w) A (call (.builtin "list.append") [acc,x]) (λ_ s₅=>∃m,m < n/\I m s₅) (λ_ _=>False) s₄) (λ_ _=>False) s₃
      else ∃m,m < n/\I m s₃) (λ_ _=>False) s₂) (λ_ _=>False) s₁') (λ_ _=>False) s₁) (λ_ _=>False) s)
  (n:Nat) (h:I n s):Ft (A9 prog w) A (.compLoop (.ListComp elt [⟨target,iter,ifs,0⟩] scope pos) 0 it acc env) R s:=by
 refine codeAny_loop rfl I (λn s hI=>?_) n h;show A3 _ A ((compTurn (.ListComp elt [⟨target,iter,ifs,0⟩] scope pos) 0 it acc env).onRaise (λx=>do noteFrame x env;theTreesLotGoes x)) _ _ s;refine wpAny_noted ?_;rw[compTurn_list];refine Aa (wpAny_standAt (Aa (C8 (turn n s hI) (λr s₁ h₁=>?_) λ_ _ f=>f.elim)));cases r with
 |none=>exact Ai h₁
 |some v =>
  refine Aa (C8 h₁ (λ_ s₁' h₁'=>?_) λ_ _ f=>f.elim);refine Aa (C8 h₁' (λ_ s₂ h₂=>Aa (C8 h₂ (λok s₃ h₃=>?_) λ_ _ f=>f.elim)) λ_ _ f=>f.elim);cases ok with
  |false=>exact Ai ⟨rfl,h₃⟩
  |true =>
   exact Aa (Aa (C8 h₃ (λx s₄ h₄=>Aa (C8 h₄ (λ_ s₅ h₅=>Ai (Ai ⟨rfl,h₅⟩)) λ_ _ f=>f.elim)) λ_ _ f=>f.elim))
end
def jbl (X:Cx) (N:List Str) (scope:Scope) (cl:List (Str×Addr)) (s:Aj) (H:Hp) (fp:List Addr):Cx :=
 { X with N:=N,s₀:=s,H₀:=H,env:=compEnvC scope cl s.heap.objs.size X.env,outer:=X.stack,ex:=fp,fn:=λ_=>false,pn:=[],xe:=λ_ _=>False}
structure CompSc (X:Cx) (N:List Str) (scope:Scope) (cl:List (Str×Addr)) (fr:List (Option Nat)):Prop where
 clos:closureFor scope X.env=pure cl
 kind:scope.kind=.function
 nocell:∀y∈scope.names,y.2≠.cell
 names:∀y∈scope.names,y.2=.local->scope.names.lookup y.1=some .local
 sub:∀x c,cl.lookup x=some c->X.env.cells.lookup x=some c
 has:∀x,((relabel scope X.env).names.lookup x=some .cell\/(relabel scope X.env).names.lookup x=some .free)->∃c,cl.lookup x=some c
 len:fr.length=N.length
 fre:∀(j i:Nat),fr[j]?=some (some i)->∃x,N[j]?=some x/\X.N[i]?=some x/\Vis X.env.scope x/\(X.env.kindOf x=some .cell\/X.env.kindOf x=some .free) /\
  ((relabel scope X.env).names.lookup x=some .cell\/(relabel scope X.env).names.lookup x=some .free)/\cl.lookup x=X.env.cells.lookup x
theorem jfc {κ:Type}:∀{l:List (Str×κ)} {x:Str} {k:κ},l.lookup x=some k->(x,k)∈l
 |[],_,_,h=>nomatch h
 | (y,k')::r,x,k,h=>by
  rw[List.lookup_cons]at h;cases e:x==y with
  |true =>
   rw[e]at h;have e':x=y:=by simpa using e
   have h':k'=k:=Aq h;rw[e',h'];exact A2
  |false =>
   rw[e]at h;exact As _ (jfc h)
theorem jlg {κ:Type}:∀{l:List (Str×κ)} {x:Str},x∈l.map (·.1)->∃k,l.lookup x=some k
 |[],_,h=>absurd h (by simp)
 | (y,k')::r,x,h=>by
  rw[List.lookup_cons];cases e:x==y with
  |true=>exact⟨k',rfl⟩
  |false =>
   have ne:¬x=y:=λz=>by rw[z]at e;simp at e
   have h':x∈y::r.map (·.1):=h;rcases Ao.mp h' with z | z
   ·exact absurd z ne
   ·exact jlg z
theorem jb2 {X:Cx} {scope:Scope} {cl:List (Str×Addr)} (nm:List (Str×NameKind)) (ks:List Str) (hrel:(relabel scope X.env).names=nm) (hks:cl.map (·.1)=ks) (h3:∀y∈nm,(y.2=.cell\/y.2=.free)->y.1∈ks) :
  ∀x,((relabel scope X.env).names.lookup x=some .cell\/(relabel scope X.env).names.lookup x=some .free)->∃c,cl.lookup x=some c:=by
 intro x h;rw[hrel]at h;refine jlg ?_;rw[hks];rcases h with h | h
 ·exact h3 _ (jfc h) (.inl rfl)
 ·exact h3 _ (jfc h) (.inr rfl)
def capt (fr:List (Option Nat)) (σ:St):St:=fr.map λo=>o.bind λi=>(σ[i]?).bind id
theorem jye {fr:List (Option Nat)} {σ:St} {j:Nat} {v:V} (h:(capt fr σ)[j]?=some (some v)):∃i,fr[j]?=some (some i)/\σ[i]?=some (some v):=by
 unfold capt at h;rw[A0]at h;cases e:fr[j]? with
 |none=>rw[e]at h;cases h
 |some o =>
  rw[e]at h;cases o with
  |none=>cases h
  |some i =>
   refine⟨i,rfl,?_⟩;have h':(σ[i]?).bind id=some v:=Aq h;cases e2:σ[i]? with
   |none=>rw[e2]at h';cases h'
   |some o2 =>
    rw[e2]at h';have h2:o2=some v:=h';rw[h2]
def PIf (X:Cx) (ifs:List Expr) (tt:TT):Prop :=
 ∀(pins:List (Addr×Obj)) (s:Aj) (σ:St) (H:Hp) (Q:Bool->Hp->Prop),Inv X pins σ H s->tt σ H Q ->
  A3 (A9 X.prog X.w) X.A (forIn ifs true λc r=>if r=true then do let ok <-isTrue c X.env (eval c X.env);pure (ForInStep.yield ok)else pure (ForInStep.yield r)) (TP X pins σ Q) X.xe s
def j23:TT:=λ_ H Q=>Q true H
theorem j07 {X:Cx}:PIf X [] j23:=λ_ _ _ H _ I h=>wpAny_tests_nil ⟨H,I,h⟩
theorem j06 {X:Cx} {c:Expr} {tt:TT} (h:PT X c tt):PIf X [c] tt:=λpins s σ H Q I q=>wpAny_tests_one (h pins s σ H Q I q)
def jsq (fr:List (Option Nat)) (wi:TI) (g:TG) (tt:TT) (te:TE):TE:=λσ H Q=>wi σ H λJ H1=>∀D,H1 D=none ->
 ∃W:Nat->Nat->List V->St->Hp->Prop,(∃m,W 0 m [] (capt fr σ) (upd H1 D (.lst [])))/\∀i m ys τ H,W i m ys τ H ->
  ((J.stop i H/\Q (.ref D) H)\/(J.go i H/\ys.length < A1/\∀x H',J.yld i H x H'->g x τ H' λτ2 H2=>tt τ2 H2 λb H3 =>
   if b=true then te τ2 H3 (λy H4=>H4 D=some (.lst ys)/\∃m',m' < m/\W (i+1) m' (ys++[y]) τ2 (upd H4 D (.lst (ys++[y]))))else ∃m',m' < m/\W (i+1) m' ys τ2 H3))
section
variable {X:Cx} {N:List Str} {scope:Scope} {cl:List (Str×Addr)} {fr:List (Option Nat)} {pins:List (Addr×Obj)} {σ:St} {H:Hp} {s:Aj} {fp:List Addr}
theorem j2f (S:CompSc X N scope cl fr) (I:Inv X pins σ H s) (hf:∀b∈fp,FpOk X pins H b) (hlt:∀b∈fp,b < s.heap.objs.size):(jbl X N scope cl s H fp).Ok where
 mod:=I.ok.mod
 kind:=S.kind
 glob:=I.ok.glob
 blt:=I.ok.blt
 above:=Al _
 inj:=λx y c a b=>I.ok.inj x y c (S.sub x c a) (S.sub y c b)
 has:=λx h=>S.has x h
 cab:=λx c h=>nomatch h
 hd:=I.ok.hd
 frames:=I.ok.frames
 stk:=.inl rfl
 exf:=λb hb=>⟨Bb (hlt b hb),λx c e=>(hf b hb).2.2.2.2.1 x c (S.sub x c e)⟩
 bs:=I.bs
 bsz:=Ba I.ok.bsz I.sz
 noex:=λb o e hb=>by
  rcases(hf b hb).2.2.2.1 with z | z
  ·exact I.ok.noex b o e z
  ·exact absurd (Bk (Ap (I.ok.bs b o e).1) z) (Er _)
 exfs:=λb hb z=>by
  rcases Ao.mp (I.stkSub b z)with e | e
  ·exact(hf b hb).2.1 e
  ·exact(hf b hb).2.2.1 e
 funs:=I.stack
 frf:=I.stkFree
theorem jlm {h₁:Heap} {t':Nat} (S:CompSc X N scope cl fr) (I:Inv X pins σ H s) (hf:∀b∈fp,FpOk X pins H b) (hlt:∀b∈fp,b < s.heap.objs.size)
  {ob:Obj} (hsb:C5 s.heap.objs.size (s.heap.push ob) h₁) {m:Str->Option Af} (hn:h₁.Ns s.heap.objs.size m) :
  Inv (jbl X N scope cl s H fp) [] (capt fr σ) H {s with heap:=h₁,toks:=t'}:=by
 have old:∀b o,s.heap.get? b=some o->h₁.get? b=some o:=λb o e=>(hsb.2 b (Bb (Ap e))).trans (Ad _ e);refine⟨j2f S I hf hlt,rfl,I.bare,Un.kept old,⟨m,hn,λj x v e1 e2 e3=>?_⟩,λx c e=>?_,I.fresh,λx c e=>I.freeC x c (S.sub x c e),λp hp=>?_,I.hok.kept old,?_⟩
 ·obtain⟨i,f1,f2⟩:=jye e2;obtain⟨y,g1,g2,g3,g4,g5,g6⟩:=S.fre j i f1;have e1':N[j]?=some x:=e1;rw[g1]at e1';have exy:y=x:=Aq e1';subst exy;obtain⟨m0,hn0,hl⟩:=I.loc;obtain⟨u,r,l⟩:=hl i y v g2 f2 g3;refine⟨u,r,.inr ⟨g5,?_⟩⟩;rcases l with⟨k,_⟩ | ⟨k,c,e,z⟩
  ·rcases g4 with q | q
   ·rw[q]at k;cases k
   ·rw[q]at k;cases k
  ·exact⟨c,g6.trans e,z.keeps old⟩
 ·obtain⟨v,z⟩:=I.cell x c (S.sub x c e);exact⟨v,z.keeps old⟩
 ·exact absurd hp (by simp[jbl])
 ·show(capt fr σ).length=N.length;unfold capt;rw[Ab,S.len]
theorem jq9 {H':Hp} {τ:St} {s0 s':Aj} {h':Heap} (I:Inv X pins σ H s0) (hf:∀b∈fp,FpOk X pins H b) (I':Inv (jbl X N scope cl s0 H fp) [] τ H' s') (hs:C5 s0.heap.objs.size s'.heap h') :
  Inv X pins σ H' {s' with heap:=h'}:=by
 have hC:H' s0.heap.objs.size=none:=I'.free;have u:Un (frs X.stack) fp H H' s0.heap s'.heap:=I'.base;have ne:∀b o,s0.heap.get? b=some o->b≠s0.heap.objs.size:=λb o e=>Bb (Ap e);have hok':HOk X.prog X.w H' h':=λb o e=>by
  have q:ObjOk X.prog X.w H' s'.heap b o:=I'.hok b o e;refine q.stay (λc v hc z=>(hs.2 c ?_).trans z) (λ_ z=>z) λ_ _ z=>z
  rintro rfl
  rcases hc with z | z
  ·rw[<-z,hC]at e;cases e
  ·rw[hC]at z;cases z
 refine I.call' (s':={ s' with heap:=h'}) (ch:=fp) I'.os ?_ hok' I'.bare λb hb=>?_
 ·refine⟨λb o e n h1 h2=>(hs.2 b (ne b o e)).trans (u.keep b o e n h1 h2),λb o e n h1 h2=>?_,u.free,λb o e h2=>?_,u.tups,u.frzs,u.tbls⟩
  ·obtain⟨sl,z⟩:=u.slot b o e n h1 h2;exact⟨sl,(hs.2 b (ne b o e)).trans z⟩
  ·obtain⟨o',z⟩:=u.there b o e h2;exact⟨o',(hs.2 b (ne b o e)).trans z⟩
 ·obtain⟨_,f1,_,f3,f4,f5⟩:=hf b hb;exact⟨f3,f1,f4,f5⟩
end
theorem j1f {X:Cx} {elt tg iter:Expr} {ifs:List Expr} {scope:Scope} {cl:List (Str×Addr)} {pos:Pos} {N:List Str} {fr:List (Option Nat)} {wi:TI} {g:TG} {tt:TT} {te:TE}
  (hc:X.calm=true) (S:CompSc X N scope cl fr) (hi:PI X tg iter wi) (hg:∀s H fp,PG (jbl X N scope cl s H fp) tg g) (ht:∀s H fp,PIf (jbl X N scope cl s H fp) ifs tt)
  (he:∀s H fp,PE (jbl X N scope cl s H fp) elt te) (hs:∀x,Ec iter X.env x=pure x:=by intro _;rfl) :
  PE X (.ListComp elt [⟨tg,iter,ifs,0⟩] scope pos) (jsq fr wi g tt te):=by
 intro pins s σ H Q I h;rw[eval_ListComp];refine wpAny_comprehension_free (use:=none) (cl:=cl) rfl hs S.clos S.kind S.names (thn (hi pins s σ H _ I h) λv s1 h1=>thn h1 λitv s2 h2=>?_);obtain⟨it,fp,tn,J,H2,e,I2,T,st2,f2,q⟩:=h2;subst e;refine By (wpAny_newFunctionEnv S.nocell (by intro y hy;simp at hy) (λh₁ hn hsb=>?_) S.kind);dsimp only at hn hsb ⊢;obtain⟨W,⟨m0,w0⟩,turn⟩:=q s2.heap.objs.size I2.fresh
 -- the state with the new list
 have I3:Inv X pins σ (upd H2 s2.heap.objs.size (.lst [])) {s2 with heap:=s2.heap.push {cls:=.type "list",dict:=none,data:=.seq ([]:List Af).toArray}}:=I2.lnew (its:=[]) (t':=s2.toks) .nil (Bj _);have key:∀s3:Aj,s3={ s2 with heap:=s2.heap.push {cls:=.type "list",dict:=none,data:=.seq ([]:List Af).toArray}}->Inv X pins σ (upd H2 s2.heap.objs.size (.lst [])) s3 ->
   ∀(ob:Obj) (mm:Str->Option Af),C5 s3.heap.objs.size (s3.heap.push ob) h₁->h₁.Ns s3.heap.objs.size mm ->
   Ft (A9 X.prog X.w) X.A (.compStart (.ListComp elt [⟨tg,iter,ifs,0⟩] scope pos) 0 (.ref it) (.ref s2.heap.objs.size) (compEnvC scope cl s3.heap.objs.size X.env))
    (compPost (A9 X.prog X.w) X.A X.xe none (EP X pins σ Q) (.ref s2.heap.objs.size) s3.heap.objs.size) {s3 with heap:=h₁,toks:=s3.toks+([]:List (Str×Af)).length}:=?key
 ·exact key _ rfl I3 _ _ hsb hn
 clear I3 hn hsb;intro s3 hs3 I3 ob mm hsb hn;have hfp:∀b∈fp,∃o,s2.heap.get? b=some o:=λb hb=>let⟨o,e,_⟩:=T.obj _ _ st2 b hb;⟨o,e⟩;have up:∀b o,s2.heap.get? b=some o->s3.heap.get? b=some o:=λb o e=>by rw[hs3];exact Ad _ e
 have f3:∀b∈fp,FpOk X pins (upd H2 s2.heap.objs.size (.lst [])) b:=λb hb=>by
  obtain⟨o,e⟩:=hfp b hb;obtain⟨g0,gr⟩:=f2 b hb;exact⟨by rw[jao (Bb (Ap e))];exact g0,gr⟩
 have hlt:∀b∈fp,b < s3.heap.objs.size:=λb hb=>let⟨o,e⟩:=hfp b hb;Ap (up b o e);generalize hH3:upd H2 s2.heap.objs.size (.lst [])=H3 at I3 f3 w0;have I4:=jlm (t':=s3.toks+([]:List (Str×Af)).length) S I3 f3 hlt hsb hn;have st4:tn 0 h₁:=T.keep _ _ _ st2 λb hb o e=>(hsb.2 b (Bb (Ap (up b o e)))).trans (Ad _ (up b o e));have stat:∀{H':Hp},(∀b∈fp,H' b=none)->∀b∈fp,FpOk (jbl X N scope cl s3 H3 fp) [] H' b:=λhn b hb=>by
  obtain⟨_,k1,k2,k3,k4,k5⟩:=f3 b hb;refine⟨hn b hb,Bb (hlt b hb),λz=>?_,.inl hb,λx c e=>k4 x c (S.sub x c e),λp hp=>absurd hp (by simp[jbl])⟩;rcases Ao.mp (I3.stkSub b z)with e | e
  ·exact k1 e
  ·exact k2 e
 have loop:Ft (A9 X.prog X.w) X.A (.compLoop (.ListComp elt [⟨tg,iter,ifs,0⟩] scope pos) 0 (.ref it) (.ref s2.heap.objs.size) (compEnvC scope cl s3.heap.objs.size X.env))
   (compPost (A9 X.prog X.w) X.A X.xe none (EP X pins σ Q) (.ref s2.heap.objs.size) s3.heap.objs.size) {s3 with heap:=h₁,toks:=s3.toks+([]:List (Str×Af)).length}:=by
  refine jhx (λn s'=>∃i ys τ Hc,Inv (jbl X N scope cl s3 H3 fp) [] τ Hc s'/\tn i s'.heap/\(∀b∈fp,Hc b=none)/\W i n ys τ Hc) ?_ m0 ⟨0,[],capt fr σ,H3,I4,st4,λb hb=>(f3 b hb).1,w0⟩
  rintro n s5 ⟨i,ys,τ,Hc,I5,st5,fr5,w5⟩
  rcases turn i n ys τ Hc w5 with⟨stop,qn⟩ | ⟨go,hz,step⟩
  ·refine thn (T.done (jbl X N scope cl s3 H3 fp) rfl rfl rfl hc i [] s5 τ Hc (λ_ _=>False) I5 (stat fr5) st5 stop) λr s6 ⟨hr,I6⟩=>?_;subst hr;obtain⟨mm,hm,_⟩:=I6.loc;exact⟨mm,hm,λh' hs'=>⟨.ref s2.heap.objs.size,Hc,jq9 I3 f3 I6 hs',rfl,qn⟩⟩
  ·refine thn (T.item (jbl X N scope cl s3 H3 fp) rfl rfl rfl hc i [] s5 τ Hc (λ_ _=>False) I5 (stat fr5) st5 go) λr s6 ⟨u,hr,h6⟩=>?_;subst hr;refine thn h6 λ_ s7 ⟨x,H7,I7,r7,y7,st7,fr7⟩=>?_;have I7':=I7.pinned (stat fr7) (T.obj _ _ st7);refine thn (hg s3 H3 fp _ s7 τ H7 x u _ I7' r7 (step x H7 y7)) λ_ s8 ⟨τ8,H8,I8,q8⟩=>?_;refine thn (ht s3 H3 fp _ s8 τ8 H8 _ I8 q8) λok s9 ⟨H9,I9,q9⟩=>?_;have keep:∀{st:Aj} {τ':St} {H':Hp},Inv (jbl X N scope cl s3 H3 fp) ([]++jle fp s7.heap) τ' H' st->tn (i+1) st.heap/\∀b∈fp,H' b=none:=λ{st τ' H'} Ix=>by
    refine⟨T.keep _ _ _ st7 λb hb o e=>(Ix.pin (b,o) (Bf _ (Bf _ (jcx hb e)))).1,λb hb=>?_⟩;obtain⟨o,e,d⟩:=T.obj _ _ st7 b hb;exact(Ix.pin (b,o) (Bf _ (Bf _ (jcx hb e)))).2.1
   cases ok with
   |false =>
    rw[if_neg Ak]at q9 ⊢;obtain⟨m',hm,w9⟩:=q9;obtain⟨k1,k2⟩:=keep I9;exact⟨m',hm,i+1,ys,τ8,H9,I9.unpinned,k1,k2,w9⟩
   |true =>
    rw[if_pos rfl]at q9 ⊢;refine thn (he s3 H3 fp _ s9 τ8 H9 _ I9 q9) λxv s10 ⟨y,H10,I10,r10,hD,m',hm,w10⟩=>?_;refine thn (ji1 _ s10 τ8 H10 (.ref s2.heap.objs.size) [y] (.ref s2.heap.objs.size) [xv] (λz H'=>∃m',m' < n/\W (i+1) m' (ys++[y]) τ8 H') I10 rfl (.cons r10 .nil) ⟨_,ys,y,rfl,rfl,hD,hz,m',hm,w10⟩) λz s11 ⟨z',H11,I11,_,m'',hm',w11⟩=>?_;obtain⟨k1,k2⟩:=keep I11;exact⟨m'',hm',i+1,ys++[y],τ8,H11,I11.unpinned,k1,k2,w11⟩
 exact codeAny_compStart_list loop (T.self _ 0 _ _ _ st4 loop)
mutual
inductive RdD (K:Ah) (H:Hp):V->Ae->Prop
 |non:RdD K H .non .none
 |bl (b:Bool):RdD K H (.bl b) (.bool b)
 |int (i:Int):RdD K H (.int i) (.int i)
 |str (x:Str):RdD K H (.str x) (.str x)
 |lst {a:Addr} {xs:List V} {ds:List Ae}:SqL K H a xs->RdAll K H xs ds->RdD K H (.ref a) (.list ds)
 |tup {a:Addr} {xs:List V} {ds:List Ae}:SqT K H a xs->RdAll K H xs ds->RdD K H (.ref a) (.tuple ds)
inductive RdAll (K:Ah) (H:Hp):List V->List Ae->Prop
 |nil:RdAll K H [] []
 |cons {x:V} {xs:List V} {d:Ae} {ds:List Ae}:RdD K H x d->RdAll K H xs ds->RdAll K H (x::xs) (d::ds)
end
section
variable {X:Cx} {pins:List (Addr×Obj)} {σ:St} {H:Hp} {s:Aj}
mutual
theorem RdD.reads (I:Inv X pins σ H s):∀{v:V} {d:Ae} {u:Af},RdD X.K H v d->RelV v u->∃as,Reads s.heap u d as
 |_,_,u,.non,r=>by
  cases(show u=Bh from r);exact⟨_,.none⟩
 |_,_,u,.bl b,r=>by
  cases(show u=Value.bool b from r);exact⟨_,.bool b⟩
 |_,_,u,.int i,r=>by
  obtain⟨t,rfl⟩:=(show ∃t,u=Value.int i t from r);exact⟨_,.int i t⟩
 |_,_,u,.str x,r=>by
  obtain⟨t,rfl⟩:=(show ∃t,u=Value.str x t from r);exact⟨_,.str x t⟩
 |_,_,u,.lst (a:=a) h1 h2,r=>by
  cases(show u=A8 a from r);obtain⟨its,rv,⟨o,n,e,c,_,d⟩,_⟩:=I.list h1;obtain⟨as,ha⟩:=RdAll.reads I h2 rv;exact⟨_,.list e c d (by simpa using ha)⟩
 |_,_,u,.tup (a:=a) h1 h2,r=>by
  cases(show u=A8 a from r);obtain⟨its,rv,⟨o,e,c,n,d⟩,_⟩:=I.tuple h1;obtain⟨as,ha⟩:=RdAll.reads I h2 rv;exact⟨_,.tuple e c d (by simpa using ha)⟩
theorem RdAll.reads (I:Inv X pins σ H s):∀{vs:List V} {ds:List Ae} {us:List Af},RdAll X.K H vs ds->Vals vs us->∃as,ReadsAll s.heap us ds as
 |_,_,_,.nil,.nil=>⟨_,.nil⟩
 |_,_,_,.cons h1 h2,.cons r1 r2=>by
  obtain⟨as,ha⟩:=RdD.reads I h1 r1;obtain⟨bs,hb⟩:=RdAll.reads I h2 r2;exact⟨_,.cons ha hb⟩
end
end
def j54 (d:Ae):Prop:=Cj d=true/\Dy d<=20/\Fy d<=2 ^ 20/\Ex 13 d=true/\Fh d=true
def jqh (K:Ah):R2:=λx y H Q=>∃a b xs,x=.ref a/\y=.ref b/\SqL K H a xs/\SqL K H b []/\Q (.bl xs.isEmpty) H
theorem jw5 {X:Cx} (hu:X.A.units < E2):OpR X (B1 .Eq) (jqh X.K):=by
 intro pins s σ H x y v u Q I rx ry h;obtain⟨a,b,xs,rfl,rfl,ha,hb,q⟩:=h;cases(show v=A8 a from rx);cases(show u=A8 b from ry);obtain⟨its,r1,p1,_⟩:=I.list ha;obtain⟨its2,r2,p2,_⟩:=I.list hb;have e2:its2=[]:=Vals.zero r2;subst e2;cases r1 with
 |nil=>exact PySem.SeqAt.eq_listAt (e:=λ_=>true) p1.isList p2.isList rfl hu (λj h1=>absurd h1 (by simp)) ⟨.bl true,H,I,(by rfl),q⟩
 |cons r1 r3=>exact PySem.SeqAt.eq_list_lengthsAt p1.isList p2.isList (by simp) hu ⟨.bl false,H,I,rfl,q⟩
def j31 (K:Ah):R2:=λx y H Q=>∃a b xs ys,x=.ref a/\y=.ref b/\SqT K H a xs/\SqT K H b ys/\ys≠[]/\xs.length+ys.length<=A1 /\
 (xs=[]->Q (.ref b) H)/\(xs≠[]->∀p,H p=none->Q (.ref p) (upd H p (.tup (xs++ys))))
theorem op_catA {X:Cx}:OpR X (En .Add) (j31 X.K):=by
 intro pins s σ H x y v u Q I rx ry h;obtain⟨a,b,xs,ys,rfl,rfl,ha,hb,hy,hz,q0,q2⟩:=h;by_cases hx:xs=[]
 ·cases(show v=A8 a from rx);cases(show u=A8 b from ry);obtain⟨its,r1,p1,_⟩:=I.tuple ha;obtain⟨its2,r2,p2,_⟩:=I.tuple hb;obtain⟨⟨cls,dd,data,sl⟩,ho,hc,n,hd⟩:=id p1;obtain⟨⟨cls2,dd2,data2,sl2⟩,ho2,hc2,n2,hd2⟩:=id p2;simp only at hc hd hc2 hd2;subst hc hd hc2 hd2;have hi:its=[]:=r1.nil_iff.mpr hx;exact concat_meets ⟨_,ho,rfl⟩ ⟨_,ho2,rfl⟩ noFill_tuple_add seq_tuple_add Fm Fi (E7 _ _)
   (tuple_addW0 a b its.toArray its2.toArray n n2 dd dd2 sl sl2 (by simp[hi])) ⟨ho,ho2,⟨.ref b,H,I,rfl,q0 hx⟩⟩
 ·exact op_catT pins s σ H (.ref a) (.ref b) v u Q I rx ry ⟨a,b,xs,ys,rfl,rfl,ha,hb,hx,hz,λe=>absurd e hy,λ_=>q2 hx⟩
theorem jyg {X:Cx} {T:String}:CallR X (.builtin "isinstance") (λxs H Q=>∃x t b,xs=[x,.ty T]/\TyOf X.K H x t/\PySem.W.kitOne X.K t (.type T)=some b/\Q (.bl b) H):=by
 intro pins s σ H xs us Q I r h;obtain⟨x,t,b,rfl,ty,e,q⟩:=h;obtain⟨u,u',rfl,ru,ru'⟩:=j0d r;cases(show u'=Eh T from ru');exact juo I ru ty e λtk=>⟨.bl b,H,I.tok tk,rfl,q⟩
section
variable {prog:Bg} {w:Bt} {A:B6} {E:Af->Aj->Prop} {s:Aj}
theorem jfs:entryFor table "dict.update.loop"=some Dn.«dict.update.loop»:=Gn (by kernel_rfl)
theorem jcp:plainId "dict.update.loop"=true:=by decide +kernel
theorem juj:typeLookup (.type "tuple") "keys"=pure none:=by rw[typeLookup_type,builtinLookup_eq_fast];kernel_rfl
theorem jrq {a:Addr} {its:List Af} {Q:List Af->Aj->Prop} (p:IsTup s.heap a its.toArray) (h:Q its s):A3 (A9 prog w) A (Builtin.Dict.pairItems (.ref a)) Q E s:=by
 obtain⟨o,ho,hc,n,hd⟩:=id p;unfold Builtin.Dict.pairItems;refine Aa (Gf (show s.TypeIs (.ref a) "tuple" from⟨o,ho,hc⟩) ?_);rw[if_pos (by decide)];refine Aa (Ce ho hd (Ai ?_));simpa using h
set_option maxRecDepth 8000 in
theorem jmk {a:Addr} {o:Obj} {xs:Array Af} {k:Nat} {name:Str} {Q:Option Af->Aj->Prop}
  (hx:s.heap.get? a=some o) (hc:o.cls=.type "tuple") (hdat:o.data=.seq xs k) (hd:o.dict=none) (hmiss:typeLookup (.type "tuple") name=pure none) (hname:(["__module__","__name__","__qualname__","__doc__","__annotations__"]:List Str).contains name=false) (hA:A.handled=none)
  (h:∀h' tk e,Heap.NewExcOf s.heap h' e "AttributeError"->Q none {s with heap:=h',toks:=tk}) (hsz:name.length+100<=A1:=by size_fits) :
  A3 (A9 prog w) A (getAttr? (.ref a) name) Q E s:=by
 obtain⟨c,dct,dat,sl⟩:=o;simp only at hc hdat hd;subst hc hdat hd;obtain⟨hp,g,d,tk,os⟩:=s;have hT:∀tk',(⟨hp,g,d,tk',os⟩:Aj).TypeIs (.ref a) "tuple":=λ_=>⟨_,hx,rfl⟩;have f1:=sub_AttributeError;have f3:=F.slot_tuple_getattribute.lookup;have f4:=F.slot_tuple_getattribute.bind (.ref a);have f5:=am_tuple_getattr_none;unfold getAttr? getAttrBy? getAttrBy
 repeat (any_goals (first | assumption | exact hT _ | ((with_reducible show A3 _ _ (call (Value.builtin "tuple.__getattribute__") _ _) _ _ _);refine call_meets F.slot_tuple_getattribute (hT _) am_entry_tuple_getattribute (F.args_tuple_getattribute_2 _ _) (meets_getattribute_miss_tuple a xs k sl name _ hmiss hname hsz) ⟨hx,hA,λh' tk' e hx'=>?_⟩) | wp_step))
 obtain⟨t',u',he⟩:=hx'.there;show A3 _ _ (getattributeRaised _ _ _ _ _ _ _) _ _ _;unfold getattributeRaised
 repeat (any_goals (first | assumption | wp_step))
 exact h _ _ _ hx'.of
end
section
variable {X:Cx} {pins:List (Addr×Obj)} {σ:St} {A:B6} {R:Result->Aj->Prop}
theorem SqT.upd {K:Ah} {H:Hp} {a d:Addr} {xs:List V} {o:HO} (h:H a=some (.tup xs)) (hd:a≠d):(L2.upd H d o) a=some (.tup xs):=by rw[jao hd];exact h
theorem jv4 (hA:A.handled=none) {src d it:Addr} (ps:List (Addr×Key×V)):∀(n i:Nat) (H:Hp) (s:Aj) (kvs:List (Key×V)),n+i=ps.length->Inv X pins σ H s->H d=some (.dK kvs)->kvs.length+n<=A1 ->
  H src=some (.tup (ps.map λp=>.ref p.1))->(∀p∈ps,H p.1=some (.tup [kV p.2.1,p.2.2]))->s.heap.IsTupleIter it src i->FpOk X pins H it ->
  (∀H' s',Inv X pins σ H' s'->H'=L2.upd H d (.dK (jd8 kvs ((ps.drop i).map (·.2))))->R (.ok (.ret .none)) s') ->
  Ft (A9 X.prog X.w) A (.builtin "dict.update.loop" ⟨[.ref d,.ref it,Ci i,.none],[]⟩) R s:=by
 intro n
 induction n with
 |zero =>
  intro i H s kvs hn I hd hz hs hp st f hR;obtain⟨its,rv,p,_⟩:=I.tuple (SqT.of (K:=X.K) hs);obtain⟨f0,f1,f2,f3,f4,f5⟩:=f;refine D8 jfs ?_;rw[Dh jcp _];show A3 _ _ (Do (.ref it)>>=_) _ _ s;have hl:=rv.length;rw[Ab]at hl;refine Aa (wpAny_pyNext_tuple_end (A:=A.in1) hA st (show s.heap.IsTuple src its.toArray from p) (by simp;omega) λh' eb=>?_);show A3 _ _ (Builtin.Dict.addKeywords d []>>=_) _ _ _;refine Aa (Ai (Ai ?_));refine hR H _ (I.turned (t':=s.toks) (λb o hb e=>eb b o hb e) f0 f1 f3 f4 f5) ?_;have e1:ps.drop i=[]:=List.drop_eq_nil_of_le (by omega);rw[e1]
  funext b
  unfold L2.upd
  split
  ·rename_i hb;rw[hb,hd];rfl
  ·rfl
 |succ n ih =>
  intro i H s kvs hn I hd hz hs hp st f hR;obtain⟨its,rv,p,_⟩:=I.tuple (SqT.of (K:=X.K) hs);obtain⟨f0,f1,f2,f3,f4,f5⟩:=id f;have hi:i < ps.length:=by omega
  have hpi:(ps.map λp=>V.ref p.1)[i]?=some (V.ref (ps[i]).1):=by simp[hi]
  obtain⟨u,hu,ru⟩:=rv.get hpi;cases(show u=A8 (ps[i]).1 from ru);have hmem:ps[i]∈ps:=Df hi;have hq:=hp _ hmem;refine D8 jfs ?_;rw[Dh jcp _];show A3 _ _ (Do (.ref it)>>=_) _ _ s;refine Aa (wpAny_pyNext_tuple_item st (show s.heap.IsTuple src its.toArray from p) (x:=A8 (ps[i]).1) (by simpa using hu) λh1 st1 sb=>?_);have I1:Inv X pins σ H {s with heap:=h1}:=I.turned (t':=s.toks) (λb o hb e=>(sb.2 b hb).trans e) f0 f1 f3 f4 f5;obtain⟨its1,rv1,p1,_⟩:=I1.tuple (SqT.of (K:=X.K) hq);obtain⟨u1,u2,rfl,r1,r2⟩:=j0d rv1;refine Aa (Cw ?_);refine Aa (wpAny_tryCatch (jrq p1 ?_));obtain⟨z,hdS,vs,rel,dd⟩:=j18 I1.hok hd;have hz1:vs.length<=A1:=by rw[<-rel.length];exact z
  have hl1:=jc1 kvs (ps[i]).2.1 (ps[i]).2.2;refine Cw (wpAny_dictSet_pairs (hsz:=hz1) (jn3 r1) dd λh2 dd2 hs2=>?_);have he2:∃q,h2.get? d=some q:=let⟨q,_,_,hq,_⟩:=dd2;⟨q,hq⟩;have I2:=jms (t':=s.toks+1) I1 (by rw[hd];exact D3) hs2 he2 (ju3 (by omega) hdS (rel.put (ps[i]).2.1 r2) dd2);have nd:∀b xs,H b=some (.tup xs)->b≠d:=λb xs e z=>by rw[z,hd]at e;cases e
  have nit:it≠d:=λz=>by rw[z,hd]at f0;cases f0
  have hc:((i:Int)+1)=((i+1:Nat):Int):=by push_cast;rfl
  show A3 _ _ (pure (Fin.again (.builtin "dict.update.loop" ⟨[.ref d,.ref it,Ci ((i:Int)+1),.none],[]⟩))) _ _ _;refine Ai ⟨Fq jcp _,?_⟩;rw[hc];refine ih (i+1) _ _ (putK kvs (ps[i]).2.1 (ps[i]).2.2) (by omega) I2 jap (by omega) (SqT.upd (K:=X.K) hs (nd _ _ hs)) (λq hq'=>SqT.upd (K:=X.K) (hp q hq') (nd _ _ (hp q hq'))) (by
   obtain⟨o,e,r⟩:=st1;exact⟨o,(hs2.2 it nit).trans e,r⟩) ⟨by rw[jao nit];exact f0,f1,f2,f3,f4,f5⟩ λH' s' I' e=>?_
  refine hR H' s' I' ?_;rw[e,jsj,Fb hi];rfl
theorem jbf {n:Nat} (h:n<=1000):n<=A1:=E8 (jnj h)
theorem jr8 (hh:X.A.handled=none):CallR X (.type "dict") (λxs H Q=>∃(src:Addr) (ps:List (Addr×Key×V)),xs=[.ref src]/\H src=some (.tup (ps.map λp=>V.ref p.1))/\(∀p∈ps,H p.1=some (.tup [kV p.2.1,p.2.2]))/\ps.length<=1000 /\
  ∀l,H l=none->Q (.ref l) (L2.upd H l (.dK (jd8 [] (ps.map (·.2)))))):=by
 intro pins s σ H xs us Q I r h;obtain⟨src,ps,rfl,hs,hp,hlen,q⟩:=h;obtain⟨u,rfl,ru⟩:=jnb r;cases(show u=A8 src from ru);have big:=I.big;refine callType_codes (Q₁:=λobj s₁=>obj=.ref s.heap.objs.size/\s₁={ s with heap:=s.heap.push {cls:=.type "dict",data:=.dict #[]}}) F.kt_called_dict (F.kt_typeCall_dict_1 _) F.entry_dict_init (kt_code_dict_new _ ⟨rfl,rfl⟩) ?_
 rintro obj s₁ ⟨rfl,rfl⟩
 have hfr:H s.heap.objs.size=none:=I.fresh;have I1:Inv X pins σ (L2.upd H s.heap.objs.size (.dK [])) {s with heap:=s.heap.push {cls:=.type "dict",data:=.dict #[]}}:=I.laid (t':=s.toks) (λb o e=>Ad _ e) (Al _) (jmp s.heap big);have nd:∀b xs,H b=some (.tup xs)->b≠s.heap.objs.size:=λb xs e z=>by rw[z,hfr]at e;cases e
 have hs1:=SqT.upd (K:=X.K) (o:=.dK []) hs (nd _ _ hs);obtain⟨zz,its,rv,o,ho,hc,⟨n,hdat⟩,hd⟩:=(show ObjOk X.prog X.w _ _ src (.tup _)from I1.hok src _ hs1);have hnew:(s.heap.push {cls:=.type "dict",data:=.dict #[]}).DictOf (jbo X.prog X.w) s.heap.objs.size []:=Heap.DictOf.new s.heap;refine⟨hnew.typeIs,F.args_dict_init_2 _ _,?_⟩;unfold Dn.«dict.__init__»;refine Aa ?_;unfold Builtin.Dict.selfAndRest;refine Aa (wpAny_notOrdered_dict hnew.typeIs ?_);show A3 _ _ (pure (s.heap.objs.size,[A8 src])) _ _ _;refine Ai ?_;show A3 _ _ (Builtin.Dict.updateFrom "dict.__init__" s.heap.objs.size (.ref src) [] .none) _ _ _;unfold Builtin.Dict.updateFrom;refine Aa (Gf (T:="tuple") ⟨o,ho,hc⟩ ?_);rw[if_pos (by decide)];refine Aa (jmk ho hc hdat hd juj (by decide +kernel) hh (λh' tk e ne=>?_));have I2:=I1.kept (t':=tk) ne.keeps;have p2:IsTup h' src its.toArray:=IsTup.keeps ⟨o,ho,hc,n,hdat⟩ ne.keeps;show A3 _ _ (rule _>>=_) _ _ _;refine Aa (Ff ?_);refine Aa (C7 (show Heap.IsTuple h' src its.toArray from p2) ?_);refine Ai ⟨Fq jcp _,?_⟩;have I3:=I2.kept (t':=tk) (λb o e=>Ad {cls:=.type "tuple_iterator",data:=.fields #[.ref src,.int 0 0]} e);refine jv4 (A:=X.A.in1) hh ps ps.length 0 _ _ [] (by omega) I3 jap (by simp only[List.length_nil];exact jbf (by omega)) hs1 (λq hq=>SqT.upd (K:=X.K) (hp q hq) (nd _ _ (hp q hq))) ⟨_,Au _ rfl,rfl,rfl⟩ (I2.fpOk (Al _) I2.fresh) λH' s' I' e=>?_;refine⟨rfl,.ref s.heap.objs.size,H',I',rfl,?_⟩;rw[e,jsj];exact q _ hfr
end
theorem jt4 {X:Cx}:OpR X (B1 .LtE) (λx y H Q=>∃i j,x=.str i/\y=.str j/\Q (.bl (!decide (j.cps.toList < i.cps.toList))) H):=by
 intro pins s σ H x y v u Q I rx ry h;obtain⟨i,j,rfl,rfl,q⟩:=h;obtain⟨t,rfl⟩:=rx;obtain⟨t',rfl⟩:=ry;exact P.le_str (jbd I q rfl)
theorem jt6 {X:Cx}:OpR X (B1 .Gt) (λx y H Q=>∃i j,x=.str i/\y=.str j/\Q (.bl (decide (j.cps.toList < i.cps.toList))) H):=by
 intro pins s σ H x y v u Q I rx ry h;obtain⟨i,j,rfl,rfl,q⟩:=h;obtain⟨t,rfl⟩:=rx;obtain⟨t',rfl⟩:=ry;exact P.gt_str (jbd I q rfl)
def tyD:Ae->String
 |.none=>"NoneType"
 |.bool _=>"bool"
 |.int _=>"int"
 |.str _=>"str"
 |.list _=>"list"
 |.tuple _=>"tuple"
 |.dict _=>"dict"
def isiB (T:String) (d:Ae):Bool:=tyD d==T || (T=="int"&&tyD d=="bool")
def jbc (h:Str):Ae->Bool
 |.str x=>decide (x=h)
 |_=>false
theorem jlc {X:Cx} {elt tg iter:Expr} {ifs:List Expr} {scope:Scope} {cl:List (Str×Addr)} {cpos pos pos':Pos} {N:List Str} {fr:List (Option Nat)} {wi:TI} {g:TG} {tt:TT} {te:TE} {i:Nat} {x:Str}
  (hN:X.N.Nodup) (hix:X.N[i]?=some x) (hx:X.env.scope.names.lookup x=some .local)
  (hc:X.calm=true) (S:CompSc X N scope cl fr) (hi:PI X tg iter wi) (hg:∀s H fp,PG (jbl X N scope cl s H fp) tg g) (ht:∀s H fp,PIf (jbl X N scope cl s H fp) ifs tt)
  (he:∀s H fp,PE (jbl X N scope cl s H fp) elt te) (hs:∀x,Ec iter X.env x=pure x:=by intro _;rfl)
  (hsw:Dw (.ListComp elt [⟨tg,iter,ifs,0⟩] scope cpos) (some (.Name x pos')) pos.line X.env=pure true:=by rfl) :
  PS X (.Assign [.Name x pos'] (.ListComp elt [⟨tg,iter,ifs,0⟩] scope cpos) pos) (tAsg (jsq fr wi g tt te) (jg0 i)):=by
 intro pins s σ H D I h;rw[exec_Assign_Name_used _ _ _ _ hsw];refine Aa (wpAny_standAt (Aa ?_));show A3 _ _ (do let _ <-comprehension (.ListComp elt [⟨tg,iter,ifs,0⟩] scope cpos) scope X.env (firstIterPos [⟨tg,iter,ifs,0⟩] cpos) (newList []) (firstAsync [⟨tg,iter,ifs,0⟩]) (firstIter [⟨tg,iter,ifs,0⟩] X.env) (some (assign (.Name x pos') X.env))) _ _ s;refine Aa ?_;have fin:∀(u:Unit) (s':Aj),SP X pins D .next s'->A3 (A9 X.prog X.w) X.A (pure Flow.next) (SP X pins D) X.xe s':=λ_ s' z=>Ai z
 refine thn (Q:=λ_ s'=>SP X pins D .next s') ?_ λ_ s' z=>Ai (Ai z);refine wpAny_comprehension_free (use:=some (assign (.Name x pos') X.env)) (cl:=cl) rfl hs S.clos S.kind S.names (thn (hi pins s σ H _ I h) λv s1 h1=>thn h1 λitv s2 h2=>?_);obtain⟨it,fp,tn,J,H2,e,I2,T,st2,f2,q⟩:=h2;subst e;refine By (wpAny_newFunctionEnv S.nocell (by intro y hy;simp at hy) (λh₁ hn hsb=>?_) S.kind);dsimp only at hn hsb ⊢;obtain⟨W,⟨m0,w0⟩,turn⟩:=q s2.heap.objs.size I2.fresh
 -- the state with the new list
 have I3:Inv X pins σ (upd H2 s2.heap.objs.size (.lst [])) {s2 with heap:=s2.heap.push {cls:=.type "list",dict:=none,data:=.seq ([]:List Af).toArray}}:=I2.lnew (its:=[]) (t':=s2.toks) .nil (Bj _);have key:∀s3:Aj,s3={ s2 with heap:=s2.heap.push {cls:=.type "list",dict:=none,data:=.seq ([]:List Af).toArray}}->Inv X pins σ (upd H2 s2.heap.objs.size (.lst [])) s3 ->
   ∀(ob:Obj) (mm:Str->Option Af),C5 s3.heap.objs.size (s3.heap.push ob) h₁->h₁.Ns s3.heap.objs.size mm ->
   Ft (A9 X.prog X.w) X.A (.compStart (.ListComp elt [⟨tg,iter,ifs,0⟩] scope cpos) 0 (.ref it) (.ref s2.heap.objs.size) (compEnvC scope cl s3.heap.objs.size X.env))
    (compPost (A9 X.prog X.w) X.A X.xe (some (assign (.Name x pos') X.env)) (λ_ s'=>SP X pins D .next s') (.ref s2.heap.objs.size) s3.heap.objs.size) {s3 with heap:=h₁,toks:=s3.toks+([]:List (Str×Af)).length}:=?key
 ·exact key _ rfl I3 _ _ hsb hn
 clear I3 hn hsb;intro s3 hs3 I3 ob mm hsb hn;have hfp:∀b∈fp,∃o,s2.heap.get? b=some o:=λb hb=>let⟨o,e,_⟩:=T.obj _ _ st2 b hb;⟨o,e⟩;have up:∀b o,s2.heap.get? b=some o->s3.heap.get? b=some o:=λb o e=>by rw[hs3];exact Ad _ e
 have f3:∀b∈fp,FpOk X pins (upd H2 s2.heap.objs.size (.lst [])) b:=λb hb=>by
  obtain⟨o,e⟩:=hfp b hb;obtain⟨g0,gr⟩:=f2 b hb;exact⟨by rw[jao (Bb (Ap e))];exact g0,gr⟩
 have hlt:∀b∈fp,b < s3.heap.objs.size:=λb hb=>let⟨o,e⟩:=hfp b hb;Ap (up b o e);generalize hH3:upd H2 s2.heap.objs.size (.lst [])=H3 at I3 f3 w0;have I4:=jlm (t':=s3.toks+([]:List (Str×Af)).length) S I3 f3 hlt hsb hn;have st4:tn 0 h₁:=T.keep _ _ _ st2 λb hb o e=>(hsb.2 b (Bb (Ap (up b o e)))).trans (Ad _ (up b o e));have stat:∀{H':Hp},(∀b∈fp,H' b=none)->∀b∈fp,FpOk (jbl X N scope cl s3 H3 fp) [] H' b:=λhn b hb=>by
  obtain⟨_,k1,k2,k3,k4,k5⟩:=f3 b hb;refine⟨hn b hb,Bb (hlt b hb),λz=>?_,.inl hb,λx c e=>k4 x c (S.sub x c e),λp hp=>absurd hp (by simp[jbl])⟩;rcases Ao.mp (I3.stkSub b z)with e | e
  ·exact k1 e
  ·exact k2 e
 have loop:Ft (A9 X.prog X.w) X.A (.compLoop (.ListComp elt [⟨tg,iter,ifs,0⟩] scope cpos) 0 (.ref it) (.ref s2.heap.objs.size) (compEnvC scope cl s3.heap.objs.size X.env))
   (compPost (A9 X.prog X.w) X.A X.xe (some (assign (.Name x pos') X.env)) (λ_ s'=>SP X pins D .next s') (.ref s2.heap.objs.size) s3.heap.objs.size) {s3 with heap:=h₁,toks:=s3.toks+([]:List (Str×Af)).length}:=by
  refine jhx (λn s'=>∃i ys τ Hc,Inv (jbl X N scope cl s3 H3 fp) [] τ Hc s'/\tn i s'.heap/\(∀b∈fp,Hc b=none)/\W i n ys τ Hc) ?_ m0 ⟨0,[],capt fr σ,H3,I4,st4,λb hb=>(f3 b hb).1,w0⟩
  rintro n s5 ⟨i,ys,τ,Hc,I5,st5,fr5,w5⟩
  rcases turn i n ys τ Hc w5 with⟨stop,qn⟩ | ⟨go,hz,step⟩
  ·refine thn (T.done (jbl X N scope cl s3 H3 fp) rfl rfl rfl hc i [] s5 τ Hc (λ_ _=>False) I5 (stat fr5) st5 stop) λr s6 ⟨hr,I6⟩=>?_;subst hr;obtain⟨mm,hm,_⟩:=I6.loc;have I6x:Inv X pins σ Hc s6:=jq9 I3 f3 I6 (Heap.SameBut.refl _ _);have hC:Hc s3.heap.objs.size=none:=I6.free;obtain⟨_,c1,_,c3,c4,c5⟩:=I3.fpOk (H':=Hc) (Al _) hC;show A3 (A9 X.prog X.w) X.A (assign (.Name x pos') X.env (.ref s2.heap.objs.size)) _ X.xe s6;refine wpAny_assign_Name (jng I6x hN hix (.inl hx) (show RelV (.ref s2.heap.objs.size) (A8 s2.heap.objs.size)from rfl) (λs7 I7 hsb=>?_) (.inr hx));obtain⟨ad,hsb,had⟩:=hsb;have hne:s3.heap.objs.size≠ad:=by
    rcases had with z | z
    ·rw[z];exact c1
    ·exact λq=>c4 x ad z q.symm
   obtain⟨oo,es,ep,ho,rr⟩:=hm;refine⟨mm,⟨oo,es,ep,(hsb.2 _ hne).trans ho,rr⟩,λh' hs'=>⟨_,Hc,?_,qn⟩⟩;have ne:∀b,b∉[s3.heap.objs.size]->b≠s3.heap.objs.size:=λb z q=>z (by rw[q];exact Be.mpr rfl);have hok':HOk X.prog X.w Hc h':=λb o e=>by
    refine(I7.hok b o e).stay (λc v hc z=>(hs'.2 c ?_).trans z) (λ_ z=>z) λ_ _ z=>z
    rintro rfl
    rcases hc with z | z
    ·rw[<-z,hC]at e;cases e
    ·rw[hC]at z;cases z
   refine I7.call' (s':={ s7 with heap:=h'}) (ch:=[s3.heap.objs.size]) rfl ?_ hok' I7.bare λb hb=>?_
   ·exact⟨λb o e n h1 h2=>(hs'.2 b (ne b h2)).trans e,λb o e n h1 h2=>⟨o.slots,(hs'.2 b (ne b h2)).trans e⟩,λb o e n h2=>n,λb o e h2=>⟨o,(hs'.2 b (ne b h2)).trans e⟩,λ_ _ z=>z,λ_ _ _ z=>z,λb ps z=>⟨#[],by rw[Array.append_empty];exact z⟩⟩
   ·cases Be.mp hb;exact⟨c3,c1,c4,c5⟩
  ·refine thn (T.item (jbl X N scope cl s3 H3 fp) rfl rfl rfl hc i [] s5 τ Hc (λ_ _=>False) I5 (stat fr5) st5 go) λr s6 ⟨u,hr,h6⟩=>?_;subst hr;refine thn h6 λ_ s7 ⟨x,H7,I7,r7,y7,st7,fr7⟩=>?_;have I7':=I7.pinned (stat fr7) (T.obj _ _ st7);refine thn (hg s3 H3 fp _ s7 τ H7 x u _ I7' r7 (step x H7 y7)) λ_ s8 ⟨τ8,H8,I8,q8⟩=>?_;refine thn (ht s3 H3 fp _ s8 τ8 H8 _ I8 q8) λok s9 ⟨H9,I9,q9⟩=>?_;have keep:∀{st:Aj} {τ':St} {H':Hp},Inv (jbl X N scope cl s3 H3 fp) ([]++jle fp s7.heap) τ' H' st->tn (i+1) st.heap/\∀b∈fp,H' b=none:=λ{st τ' H'} Ix=>by
    refine⟨T.keep _ _ _ st7 λb hb o e=>(Ix.pin (b,o) (Bf _ (Bf _ (jcx hb e)))).1,λb hb=>?_⟩;obtain⟨o,e,d⟩:=T.obj _ _ st7 b hb;exact(Ix.pin (b,o) (Bf _ (Bf _ (jcx hb e)))).2.1
   cases ok with
   |false =>
    rw[if_neg Ak]at q9 ⊢;obtain⟨m',hm,w9⟩:=q9;obtain⟨k1,k2⟩:=keep I9;exact⟨m',hm,i+1,ys,τ8,H9,I9.unpinned,k1,k2,w9⟩
   |true =>
    rw[if_pos rfl]at q9 ⊢;refine thn (he s3 H3 fp _ s9 τ8 H9 _ I9 q9) λxv s10 ⟨y,H10,I10,r10,hD,m',hm,w10⟩=>?_;refine thn (ji1 _ s10 τ8 H10 (.ref s2.heap.objs.size) [y] (.ref s2.heap.objs.size) [xv] (λz H'=>∃m',m' < n/\W (i+1) m' (ys++[y]) τ8 H') I10 rfl (.cons r10 .nil) ⟨_,ys,y,rfl,rfl,hD,hz,m',hm,w10⟩) λz s11 ⟨z',H11,I11,_,m'',hm',w11⟩=>?_;obtain⟨k1,k2⟩:=keep I11;exact⟨m'',hm',i+1,ys++[y],τ8,H11,I11.unpinned,k1,k2,w11⟩
 exact codeAny_compStart_list loop (T.self _ 0 _ _ _ st4 loop)
end L2
set_option Elab.async false
set_option maxRecDepth 100000
namespace Nb
open PySem L2
def Kp (t:Addr) (H H':Hp):Prop:=∀b o,H b=some o->b≠t->H' b=some o
theorem Kp.refl (t:Addr) (H:Hp):Kp t H H:=λ_ _ h _=>h
theorem Kp.trans {t:Addr} {H H1 H2:Hp} (a:Kp t H H1) (b:Kp t H1 H2):Kp t H H2:=λc o h n=>b c o (a c o h n) n
theorem Kp.new {t p:Addr} {H:Hp} {o:HO} (h:H p=none):Kp t H (upd H p o):=λc o' e _=>by
 rw[jao (jaj e h)];exact e
theorem Kp.tape {t:Addr} {H:Hp} {o:HO}:Kp t H (upd H t o):=λc o' e n=>by
 rw[jao n];exact e
structure TL where
 s:Addr
 g:Addr
def exOf (l:TL):List V:=if jso=true then[.ref l.g]else[]
structure Tp (H:Hp) (t:Addr) (l:TL) (ns:List Int) (n:Int):Prop where
 ob:∃a b:Int,H t=some (.lst (.ref l.s::.int a::.int b::exOf l))/\0<=a/\a<=n
 ls:H l.s=some (.lst (ns.map V.int))
 len:ns.length<=63
 ag:jso=true->H l.g=some (.lst jyn)
 gne:l.g≠t
theorem Tp.ne {H:Hp} {t:Addr} {l:TL} {ns:List Int} {n:Int} (T:Tp H t l ns n):t≠l.s:=by
 obtain⟨a,b,h,_⟩:=T.ob;refine j4p h T.ls λz=>?_;have z':(.ref l.s::.int a::.int b::exOf l:List V)=ns.map V.int:=HO.lst.inj z;cases ns with
 |nil=>cases z'
 |cons m r =>
  rw[Bo]at z';have:=(Fv z').1;cases this
theorem Tp.other {H:Hp} {t p:Addr} {l:TL} {ns:List Int} {n:Int} {o:HO} (T:Tp H t l ns n) (h1:t≠p) (h2:l.s≠p) (h3:jso=true->l.g≠p):Tp (upd H p o) t l ns n:=by
 obtain⟨a,b,e,h⟩:=T.ob;exact⟨⟨a,b,by rw[jao h1];exact e,h⟩,by rw[jao h2];exact T.ls,T.len,λz=>by rw[jao (h3 z)];exact T.ag z,T.gne⟩
theorem Tp.new {H:Hp} {t p:Addr} {l:TL} {ns:List Int} {n:Int} {o:HO} (T:Tp H t l ns n) (h:H p=none):Tp (upd H p o) t l ns n:=by
 obtain⟨a,b,e,_⟩:=T.ob;exact T.other (jaj e h) (jaj T.ls h) λz=>jaj (T.ag z) h
theorem j2o {xs:List V} {r:Int} (h0:0<=r) (h1:r < xs.length):∃v,atI xs r=some v/\v∈xs:=by
 obtain⟨j,rfl⟩:=Int.eq_ofNat_of_zero_le h0;have hj:j < xs.length:=by omega
 exact⟨xs[j],jbw (Ag hj),Df hj⟩
theorem jwh {n:Nat} (h:n<=1000):n<=A1:=E8 (jnj h)
theorem jbv:B7 "tuple"=some (.type "tuple"):=by decide +kernel
theorem jz5:B7 "int"=some (.type "int"):=by decide +kernel
theorem jz4:B7 "str"=some (.type "str"):=by decide +kernel
theorem j5z:B7 "isinstance"=some (.builtin "isinstance"):=by decide +kernel
theorem j2k:B7 "list"=some (.type "list"):=by decide +kernel
theorem j2l:B7 "bool"=some (.type "bool"):=by decide +kernel
theorem j62 {xs:List V} (h:xs.length<=63):cutV xs none (some 63)=xs:=by
 unfold cutV;have e1:HT.sIx xs.length 0 none=0:=rfl;have e2:HT.sIx xs.length xs.length (some 63)=xs.length:=by
  have e:=HT.sIx_nat xs.length xs.length 63;rw[show((63:Nat):Int)=63 from rfl]at e;rw[e];omega
 rw[e1,e2,List.drop_zero,Nat.sub_zero,List.take_length]
def jqd (K:Ah):Sp:=λvs H Q _=>∃(a:Addr) (ns:List Int),vs=[.ref a]/\SqL K H a (ns.map V.int)/\ns.length<=63 /\
 ∀(t:Addr) (l:TL) (H':Hp),Tp H' t l ns 0->(∀b o,H b=some o->H' b=some o)->Q (.ref t) H'
def jy2:Sp:=λvs H Q _=>∃(t:Addr) (l:TL) (ns:List Int) (n many:Int),vs=[.ref t,.int many]/\Tp H t l ns n/\n < 2 ^ 40/\0 < many/\many < 1073741824 /\
 ∀(r:Int) (H':Hp),0<=r->r < many->Tp H' t l ns (n+1)->Kp t H H'->Q (.int r) H'
end Nb
namespace DL
open PySem L2 Nb
abbrev D:=Ae
mutual
inductive RdX (H:Hp) (B:Addr->Prop):V->Ae->Prop
 |non:RdX H B .non .none
 |bl (b:Bool):RdX H B (.bl b) (.bool b)
 |int (i:Int):RdX H B (.int i) (.int i)
 |str (x:Str) (h:x.length<=A1):RdX H B (.str x) (.str x)
 |lst {a:Addr} {xs:List V} {ds:List Ae}:H a=some (.lst xs)->¬B a->xs.length<=A1->RdXs H B xs ds->RdX H B (.ref a) (.list ds)
 |tup {a:Addr} {xs:List V} {ds:List Ae}:H a=some (.tup xs)->¬B a->xs.length<=A1->RdXs H B xs ds->RdX H B (.ref a) (.tuple ds)
inductive RdXs (H:Hp) (B:Addr->Prop):List V->List Ae->Prop
 |nil:RdXs H B [] []
 |cons {x:V} {xs:List V} {d:Ae} {ds:List Ae}:RdX H B x d->RdXs H B xs ds->RdXs H B (x::xs) (d::ds)
end
mutual
theorem RdX.move {H H':Hp} {B B':Addr->Prop} (k:∀b o,H b=some o->¬B b->H' b=some o/\¬B' b):∀{v:V} {d:Ae},RdX H B v d->RdX H' B' v d
 |_,_,.non=>.non
 |_,_,.bl b=>.bl b
 |_,_,.int i=>.int i
 |_,_,.str x h=>.str x h
 |_,_,.lst h1 h2 h3 h4=>.lst (k _ _ h1 h2).1 (k _ _ h1 h2).2 h3 (RdXs.move k h4)
 |_,_,.tup h1 h2 h3 h4=>.tup (k _ _ h1 h2).1 (k _ _ h1 h2).2 h3 (RdXs.move k h4)
theorem RdXs.move {H H':Hp} {B B':Addr->Prop} (k:∀b o,H b=some o->¬B b->H' b=some o/\¬B' b):∀{vs:List V} {ds:List Ae},RdXs H B vs ds->RdXs H' B' vs ds
 |_,_,.nil=>.nil
 |_,_,.cons h1 h2=>.cons (RdX.move k h1) (RdXs.move k h2)
end
section
variable {H H':Hp} {B B':Addr->Prop} {v:V} {d:Ae} {vs ws:List V} {ds es:List Ae} {t:Addr}
theorem RdX.kp (k:Kp t H H') (ht:B t) (h:RdX H B v d):RdX H' B v d:=h.move λb o e n=>⟨k b o e λz=>n (z▸ht),n⟩
theorem RdXs.kp (k:Kp t H H') (ht:B t) (h:RdXs H B vs ds):RdXs H' B vs ds:=h.move λb o e n=>⟨k b o e λz=>n (z▸ht),n⟩
theorem RdX.less (k:∀b,B' b->B b) (h:RdX H B v d):RdX H B' v d:=h.move λb o e n=>⟨e,λz=>n (k b z)⟩
theorem RdXs.less (k:∀b,B' b->B b) (h:RdXs H B vs ds):RdXs H B' vs ds:=h.move λb o e n=>⟨e,λz=>n (k b z)⟩
theorem RdXs.keep (k:∀b o,H b=some o->¬B b->H' b=some o) (h:RdXs H B vs ds):RdXs H' B vs ds:=h.move λb o e n=>⟨k b o e n,n⟩
theorem RdXs.len:∀{vs:List V} {ds:List Ae},RdXs H B vs ds->vs.length=ds.length
 |_,_,.nil=>rfl
 |_,_,.cons _ t=>by rw[Ax,Ax,RdXs.len t]
theorem RdXs.get:∀{vs:List V} {ds:List Ae} {i:Nat} {v:V},RdXs H B vs ds->vs[i]?=some v->∃d,ds[i]?=some d/\RdX H B v d
 |_,_,_,_,.nil,e=>by simp at e
 |_,_,0,_,.cons h _,e=>by
  simp at e;subst e;exact⟨_,rfl,h⟩
 |_,_,i+1,v,.cons _ t,e=>by
  obtain⟨d,h1,h2⟩:=RdXs.get (i:=i) (v:=v) t (by simpa using e);exact⟨d,by simpa using h1,h2⟩
theorem RdXs.getD:∀{vs:List V} {ds:List Ae} {i:Nat} {d:Ae},RdXs H B vs ds->ds[i]?=some d->∃v,vs[i]?=some v/\RdX H B v d
 |_,_,_,_,.nil,e=>by simp at e
 |_,_,0,_,.cons h _,e=>by
  simp at e;subst e;exact⟨_,rfl,h⟩
 |_,_,i+1,d,.cons _ t,e=>by
  obtain⟨v,h1,h2⟩:=RdXs.getD (i:=i) (d:=d) t (by simpa using e);exact⟨v,by simpa using h1,h2⟩
theorem RdXs.append:∀{vs ws:List V} {ds es:List Ae},RdXs H B vs ds->RdXs H B ws es->RdXs H B (vs++ws) (ds++es)
 |_,_,_,_,.nil,h=>h
 |_,_,_,_,.cons h1 h2,h=>.cons h1 (RdXs.append h2 h)
theorem RdXs.set:∀{vs:List V} {ds:List Ae} (i:Nat) {v:V} {d:Ae},RdXs H B vs ds->RdX H B v d->RdXs H B (vs.set i v) (ds.set i d)
 |_,_,_,_,_,.nil,_=>.nil
 |_,_,0,_,_,.cons _ t,h=>.cons h t
 |_,_,i+1,_,_,.cons q t,h=>.cons q (RdXs.set i t h)
theorem RdXs.take:∀{vs:List V} {ds:List Ae} (n:Nat),RdXs H B vs ds->RdXs H B (vs.take n) (ds.take n)
 |_,_,0,_=>.nil
 |_,_,_+1,.nil=>.nil
 |_,_,n+1,.cons r t=>.cons r (RdXs.take n t)
theorem RdXs.drop:∀{vs:List V} {ds:List Ae} (n:Nat),RdXs H B vs ds->RdXs H B (vs.drop n) (ds.drop n)
 |_,_,0,r=>r
 |_,_,_+1,.nil=>.nil
 |_,_,n+1,.cons _ t=>RdXs.drop n t
end
mutual
theorem RdX.rd {K:Ah} {H:Hp} {B:Addr->Prop}:∀{v:V} {d:Ae},RdX H B v d->RdD K H v d
 |_,_,.non=>.non
 |_,_,.bl b=>.bl b
 |_,_,.int i=>.int i
 |_,_,.str x h=>.str x
 |_,_,.lst h1 h2 h3 h4=>.lst (SqL.of h1) (RdXs.rd h4)
 |_,_,.tup h1 h2 h3 h4=>.tup (SqT.of h1) (RdXs.rd h4)
theorem RdXs.rd {K:Ah} {H:Hp} {B:Addr->Prop}:∀{vs:List V} {ds:List Ae},RdXs H B vs ds->RdAll K H vs ds
 |_,_,.nil=>.nil
 |_,_,.cons h1 h2=>.cons (RdX.rd h1) (RdXs.rd h2)
end
inductive Ob where
 |o | p (d:Ae) | k (m:List (Key×Ae)) | q (d:Ae) (m:List (Key×Ae))
inductive Wv where
 |d (x:Ae) | tp | dk (kvs:List (Key×Ae)) | ln (ds:List Ae) | ob (o:Ob)
def Wv.lent:Wv->Bool
 |.dk _=>true
 |.ln _=>true
 |_=>false
inductive SV where
 |w (x:Wv) | own (ds:List Ae) | odk (kvs:List (Key×Ae)) | odt (kvs:List (List Key×Ae))
abbrev Sl:=List (Option SV)
def RdK (H:Hp) (B:Addr->Prop):List (Key×V)->List (Key×Ae)->Prop:=Paired λp q=>p.1=q.1/\RdX H B p.2 q.2
theorem RdK.move {H H':Hp} {B B':Addr->Prop} (k:∀b o,H b=some o->¬B b->H' b=some o/\¬B' b) {l:List (Key×V)} {m:List (Key×Ae)} (h:RdK H B l m):RdK H' B' l m :=
 Paired.mapP h λ_ _ z=>⟨z.1,z.2.move k⟩
def RdT (H:Hp) (B:Addr->Prop):List (List Key×V)->List (List Key×Ae)->Prop:=Paired λp q=>p.1=q.1/\RdX H B p.2 q.2
theorem RdT.move {H H':Hp} {B B':Addr->Prop} (k:∀b o,H b=some o->¬B b->H' b=some o/\¬B' b) {l:List (List Key×V)} {m:List (List Key×Ae)} (h:RdT H B l m):RdT H' B' l m :=
 Paired.mapP h λ_ _ z=>⟨z.1,z.2.move k⟩
def ORel (H:Hp) (B:Addr->Prop) (v:V):Ob->Prop
 |.o=>∃a,v=.ref a
 |.p d=>∃a x y,v=.ref a/\H a=some (.tup [x,y])/\¬B a/\RdX H B x d
 |.k m=>∃a l,v=.ref a/\H a=some (.dK l)/\¬B a/\RdK H B l m
 |.q d m=>∃a x b l,v=.ref a/\H a=some (.tup [x,.ref b])/\¬B a/\RdX H B x d/\H b=some (.dK l)/\¬B b/\RdK H B l m
theorem ORel.move {H H':Hp} {B B':Addr->Prop} (k:∀b o,H b=some o->¬B b->H' b=some o/\¬B' b) {v:V} {o:Ob} (h:ORel H B v o):ORel H' B' v o:=by
 cases o with
 |o=>exact h
 |p d =>
  obtain⟨a,x,y,e,h1,h2,h3⟩:=h;exact⟨a,x,y,e,(k _ _ h1 h2).1,(k _ _ h1 h2).2,h3.move k⟩
 |k m =>
  obtain⟨a,l,e,h1,h2,h3⟩:=h;exact⟨a,l,e,(k _ _ h1 h2).1,(k _ _ h1 h2).2,h3.move k⟩
 |q d m =>
  obtain⟨a,x,b,l,e,h1,h2,h3,h4,h5,h6⟩:=h;exact⟨a,x,b,l,e,(k _ _ h1 h2).1,(k _ _ h1 h2).2,h3.move k,(k _ _ h4 h5).1,(k _ _ h4 h5).2,h6.move k⟩
def WRel (H:Hp) (B:Addr->Prop) (t:Addr) (v:V):Wv->Prop
 |.d x=>RdX H B v x
 |.tp=>v=.ref t
 |.dk kvs=>∃a l,v=.ref a/\H a=some (.dK l)/\a≠t/\RdK H B l kvs
 |.ln ds=>∃a xs,v=.ref a/\H a=some (.lst xs)/\a≠t/\xs.length<=A1/\RdXs H B xs ds
 |.ob o=>ORel H B v o
def SRel (H0:Hp) (H:Hp) (B:Addr->Prop) (t:Addr) (v:V):SV->Prop
 |.w x=>WRel H B t v x/\(x.lent=true->∃a,v=.ref a/\H0 a≠none)
 |.own ds=>∃a xs,v=.ref a/\H a=some (.lst xs)/\B a/\H0 a=none/\xs.length<=A1/\RdXs H B xs ds
 |.odk kvs=>∃a l,v=.ref a/\H a=some (.dK l)/\B a/\H0 a=none/\l.length<=1000/\RdK H B l kvs
 |.odt kvs=>∃a l,v=.ref a/\H a=some (.dT l)/\B a/\H0 a=none/\l.length<=1000/\RdT H B l kvs
def SV.isOwn:SV->Bool
 |.w _=>false
 |_=>true
structure Ctx where
 t:Addr
 l:TL
 ns:List Int
 H0:Hp
 B0:Addr->Prop
 fz:Hp
structure Rel (C:Ctx) (H:Hp) (B:Addr->Prop) (σ:St) (δ:Sl) (n:Int):Prop where
 tp:Tp H C.t C.l C.ns n
 kp:Kp C.t C.H0 H
 t0:C.H0 C.t≠none
 l0:C.H0 C.l.s≠none
 g0:jso=true->C.H0 C.l.g≠none
 fz:∀b o,C.fz b=some o->H b=some o/\¬B b
 bt:B C.t
 b0:∀b,C.B0 b->B b
 ba:∀b,B b->H b≠none
 a0:∀b,C.B0 b->C.H0 b≠none
 sl:∀(i:Nat) (x:SV),δ[i]?=some (some x)->∃v,σ[i]?=some (some v)/\SRel C.H0 H B C.t v x
 ow:∀(i j:Nat) (x y:SV) (v:V),δ[i]?=some (some x)->δ[j]?=some (some y)->x.isOwn=true->y.isOwn=true->σ[i]?=some (some v)->σ[j]?=some (some v)->i=j
 len:σ.length=δ.length
theorem WRel.kp {H H':Hp} {B:Addr->Prop} {t:Addr} {v:V} {x:Wv} (k:Kp t H H') (ht:B t) (h:WRel H B t v x):WRel H' B t v x:=by
 cases x with
 |d x=>exact RdX.kp k ht h
 |tp=>exact h
 |dk kvs =>
  obtain⟨a,l,e,h1,h2,h3⟩:=h;exact⟨a,l,e,k _ _ h1 h2,h2,h3.move λb o e n=>⟨k b o e λz=>n (z▸ht),n⟩⟩
 |ln ds =>
  obtain⟨a,l,e,h1,h2,h3,h4⟩:=h;exact⟨a,l,e,k _ _ h1 h2,h2,h3,h4.kp k ht⟩
 |ob o=>exact ORel.move (λb o e n=>⟨k b o e λz=>n (z▸ht),n⟩) h
theorem WRel.less {H:Hp} {B B':Addr->Prop} {t:Addr} {v:V} {x:Wv} (k:∀b,B' b->B b) (h:WRel H B t v x):WRel H B' t v x:=by
 cases x with
 |d x=>exact RdX.less k h
 |tp=>exact h
 |dk kvs =>
  obtain⟨a,l,e,h1,h2,h3⟩:=h;exact⟨a,l,e,h1,h2,h3.move λb o e n=>⟨e,λz=>n (k b z)⟩⟩
 |ln ds =>
  obtain⟨a,l,e,h1,h2,h3,h4⟩:=h;exact⟨a,l,e,h1,h2,h3,h4.less k⟩
 |ob o=>exact ORel.move (λb o e n=>⟨e,λz=>n (k b z)⟩) h
theorem SRel.kp {H0 H H':Hp} {B:Addr->Prop} {t:Addr} {v:V} {x:SV} (k:Kp t H H') (ht:B t) (t0:H0 t≠none) (h:SRel H0 H B t v x):SRel H0 H' B t v x:=by
 cases x with
 |w x=>exact⟨h.1.kp k ht,h.2⟩
 |own ds =>
  obtain⟨a,xs,e,h1,h2,h3,h4,h5⟩:=h;exact⟨a,xs,e,k _ _ h1 (λz=>t0 (z▸h3)),h2,h3,h4,h5.kp k ht⟩
 |odk kvs =>
  obtain⟨a,l,e,h1,h2,h3,h4,h5⟩:=h;exact⟨a,l,e,k _ _ h1 (λz=>t0 (z▸h3)),h2,h3,h4,h5.move λb o e n=>⟨k b o e λz=>n (z▸ht),n⟩⟩
 |odt kvs =>
  obtain⟨a,l,e,h1,h2,h3,h4,h5⟩:=h;exact⟨a,l,e,k _ _ h1 (λz=>t0 (z▸h3)),h2,h3,h4,h5.move λb o e n=>⟨k b o e λz=>n (z▸ht),n⟩⟩
theorem Rel.step {C:Ctx} {H H':Hp} {B:Addr->Prop} {σ:St} {δ:Sl} {n n':Int} (R:Rel C H B σ δ n) (T:Tp H' C.t C.l C.ns n') (k:Kp C.t H H'):Rel C H' B σ δ n' where
 tp:=T
 kp:=R.kp.trans k
 t0:=R.t0
 l0:=R.l0
 g0:=R.g0
 fz:=λb o e=>⟨k b o (R.fz b o e).1 λz=>(R.fz b o e).2 (z▸R.bt),(R.fz b o e).2⟩
 bt:=R.bt
 b0:=R.b0
 ba:=λb hb e=>by
  by_cases z:b=C.t
  ·subst z;obtain⟨x,y,h,_⟩:=T.ob;rw[h]at e;cases e
  ·cases q:H b with
   |none=>exact R.ba b hb q
   |some o=>rw[k b o q z]at e;cases e
 a0:=R.a0
 sl:=λi x e=>by
  obtain⟨v,h1,h2⟩:=R.sl i x e;exact⟨v,h1,h2.kp k R.bt R.t0⟩
 ow:=R.ow
 len:=R.len
theorem Rel.new {C:Ctx} {H:Hp} {B:Addr->Prop} {σ:St} {δ:Sl} {n:Int} {p:Addr} {o:HO} (R:Rel C H B σ δ n) (h:H p=none):Rel C (upd H p o) B σ δ n:=R.step (R.tp.new h) (Kp.new h)
theorem Rel.nb {C:Ctx} {H:Hp} {B:Addr->Prop} {σ:St} {δ:Sl} {n:Int} {p:Addr} (R:Rel C H B σ δ n) (h:H p=none):¬B p:=λz=>R.ba p z h
theorem jay {α:Type} {l:List (Option α)} {i j:Nat} {x y:α} (h:(l.set i (some x))[j]?=some (some y)):(j=i/\y=x)\/(j≠i/\l[j]?=some (some y)):=by
 by_cases e:i=j
 ·subst e;rw[Fn]at h;cases q:l[i]? with
  |none=>rw[q]at h;cases h
  |some z =>
   rw[q]at h;exact .inl ⟨rfl,(Aq (Aq h)).symm⟩
 ·rw[Cf e]at h;exact .inr ⟨λz=>e z.symm,h⟩
theorem jqe {α:Type} {l:List (Option α)} {i:Nat} {x y:Option α} (h:(l.set i x)[i]?=some y):i < l.length:=by
 have:=(Ay.mp h).1;rwa [C4]at this
theorem jc9 {α:Type} {l:List (Option α)} {i:Nat} {x:α} (h:i < l.length):(l.set i (some x))[i]?=some (some x):=by simp[h]
theorem jb8 {α:Type} {l:List (Option α)} {i j:Nat} {x:α} (h:j≠i):(l.set i (some x))[j]?=l[j]?:=Cf (λz=>h z.symm)
theorem Rel.set {C:Ctx} {H:Hp} {B:Addr->Prop} {σ:St} {δ:Sl} {n:Int} {i:Nat} {v:V} {x:Wv} (R:Rel C H B σ δ n) (h:WRel H B C.t v x) (hx:x.lent=false):Rel C H B (σ.set i (some v)) (δ.set i (some (.w x))) n where
 tp:=R.tp
 kp:=R.kp
 t0:=R.t0
 l0:=R.l0
 g0:=R.g0
 fz:=R.fz
 bt:=R.bt
 b0:=R.b0
 ba:=R.ba
 a0:=R.a0
 sl:=λj y e=>by
  rcases jay e with⟨rfl,rfl⟩ | ⟨ne,e'⟩
  ·exact⟨v,jc9 (by rw[R.len];exact jqe e),h,λz=>by rw[hx]at z;cases z⟩
  ·obtain⟨u,h1,h2⟩:=R.sl j y e';exact⟨u,by rw[jb8 ne];exact h1,h2⟩
 ow:=λj k y z u e1 e2 o1 o2 f1 f2=>by
  rcases jay e1 with⟨rfl,rfl⟩ | ⟨ne1,e1'⟩
  ·cases o1
  ·rcases jay e2 with⟨rfl,rfl⟩ | ⟨ne2,e2'⟩
   ·cases o2
   ·rw[jb8 ne1]at f1;rw[jb8 ne2]at f2;exact R.ow j k y z u e1' e2' o1 o2 f1 f2
 len:=by rw[C4,C4];exact R.len
theorem Rel.mut {C:Ctx} {H:Hp} {B:Addr->Prop} {σ:St} {δ:Sl} {n:Int} {a:Addr} {o:HO} (R:Rel C H B σ δ n) (hb:B a) (h0:C.H0 a=none)
  (ho:∀(i:Nat) (x:SV),δ[i]?=some (some x)->x.isOwn=true->σ[i]?≠some (some (.ref a))):Rel C (upd H a o) B σ δ n where
 tp:=R.tp.other (λz=>R.t0 (z▸h0)) (λz=>R.l0 (z▸h0)) (λe z=>R.g0 e (z▸h0))
 kp:=λb o' e ne=>by
  rw[jao (jaj e h0)];exact R.kp b o' e ne
 t0:=R.t0
 l0:=R.l0
 g0:=R.g0
 fz:=λb o' e=>⟨by rw[jao λ(z:b=a)=>(R.fz b o' e).2 (z▸hb)];exact(R.fz b o' e).1,(R.fz b o' e).2⟩
 bt:=R.bt
 b0:=R.b0
 ba:=λb hb' e=>by
  by_cases z:b=a
  ·rw[z,jap]at e;cases e
  ·rw[jao z]at e;exact R.ba b hb' e
 a0:=R.a0
 sl:=λi x e=>by
  obtain⟨v,h1,h2⟩:=R.sl i x e;have mv:∀b o',H b=some o'->¬B b->upd H a o b=some o'/\¬B b:=λb o' e n=>⟨by rw[jao λ(z:b=a)=>n (z▸hb)];exact e,n⟩;refine⟨v,h1,?_⟩;cases x with
  |w x =>
   refine⟨?_,h2.2⟩;cases x with
   |d x=>exact h2.1.move mv
   |tp=>exact h2.1
   |dk kvs =>
    obtain⟨a',l,e1,e2,e3,e4⟩:=h2.1;obtain⟨a'',f1,f2⟩:=h2.2 rfl;rw[e1]at f1;cases f1;exact⟨a',l,e1,by rw[jao λ(z:a'=a)=>f2 (z▸h0)];exact e2,e3,e4.move mv⟩
   |ln ds =>
    obtain⟨a',l,e1,e2,e3,e4,e5⟩:=h2.1;obtain⟨a'',f1,f2⟩:=h2.2 rfl;rw[e1]at f1;cases f1;exact⟨a',l,e1,by rw[jao λ(z:a'=a)=>f2 (z▸h0)];exact e2,e3,e4,e5.move mv⟩
   |ob o=>exact ORel.move mv h2.1
  |own ds =>
   obtain⟨a',xs,e1,e2,e3,e4,e5,e6⟩:=h2;have ne:a'≠a:=λz=>ho i _ e rfl (by rw[h1,e1,z]);exact⟨a',xs,e1,by rw[jao ne];exact e2,e3,e4,e5,e6.move mv⟩
  |odk kvs =>
   obtain⟨a',xs,e1,e2,e3,e4,e5,e6⟩:=h2;have ne:a'≠a:=λz=>ho i _ e rfl (by rw[h1,e1,z]);exact⟨a',xs,e1,by rw[jao ne];exact e2,e3,e4,e5,e6.move mv⟩
  |odt kvs =>
   obtain⟨a',xs,e1,e2,e3,e4,e5,e6⟩:=h2;have ne:a'≠a:=λz=>ho i _ e rfl (by rw[h1,e1,z]);exact⟨a',xs,e1,by rw[jao ne];exact e2,e3,e4,e5,e6.move mv⟩
 ow:=R.ow
 len:=R.len
theorem Rel.mutOwn {C:Ctx} {H:Hp} {B:Addr->Prop} {σ:St} {δ:Sl} {n:Int} {i:Nat} {x x':SV} {a:Addr} {o:HO} (R:Rel C H B σ δ n) (hi:δ[i]?=some (some x)) (hx:x.isOwn=true) (hσ:σ[i]?=some (some (.ref a))) (hb:B a) (h0:C.H0 a=none)
  (h:SRel C.H0 (upd H a o) B C.t (.ref a) x') (hx':x'.isOwn=true):Rel C (upd H a o) B σ (δ.set i (some x')) n:=by
 -- first the other slots: slot i is taken out
 have R1:Rel C H B σ (δ.set i none) n:={
  tp:=R.tp,kp:=R.kp,t0:=R.t0,l0:=R.l0,g0:=R.g0,fz:=R.fz,bt:=R.bt,b0:=R.b0,ba:=R.ba,a0:=R.a0
  sl:=λj y e=>by
   by_cases z:i=j
   ·subst z;rw[Fn]at e;rw[hi]at e;cases e
   ·rw[Cf z]at e;exact R.sl j y e
  ow:=λj k y z u e1 e2 o1 o2 f1 f2=>by
   have g:∀{m:Nat} {w:SV},(δ.set i none)[m]?=some (some w)->δ[m]?=some (some w):=λ{m w} e=>by
    by_cases q:i=m
    ·subst q;rw[Fn,hi]at e;cases e
    ·rwa [Cf q]at e
   exact R.ow j k y z u (g e1) (g e2) o1 o2 f1 f2
  len:=by rw[C4];exact R.len}
 have R2:Rel C (upd H a o) B σ (δ.set i none) n:=R1.mut hb h0 λj y e oy f=>by
  by_cases z:i=j
  ·subst z;rw[Fn,hi]at e;cases e
  ·rw[Cf z]at e;exact z (R.ow i j x y _ hi e hx oy hσ f)
 have hlt:i < δ.length:=(Ay.mp hi).1;exact{
  tp:=R2.tp,kp:=R2.kp,t0:=R2.t0,l0:=R2.l0,g0:=R2.g0,fz:=R2.fz,bt:=R2.bt,b0:=R2.b0,ba:=R2.ba,a0:=R2.a0
  sl:=λj y e=>by
   rcases jay e with⟨rfl,rfl⟩ | ⟨ne,e'⟩
   ·exact⟨_,hσ,h⟩
   ·exact R2.sl j y (by rw[Cf λz=>ne z.symm];exact e')
  ow:=λj k y z u e1 e2 o1 o2 f1 f2=>by
   rcases jay e1 with⟨rfl,rfl⟩ | ⟨ne1,e1'⟩
   ·rcases jay e2 with⟨rfl,rfl⟩ | ⟨ne2,e2'⟩
    ·rfl
    ·exact R.ow _ _ x z u hi e2' hx o2 f1 f2
   ·rcases jay e2 with⟨rfl,rfl⟩ | ⟨ne2,e2'⟩
    ·exact R.ow _ _ y x u e1' hi o1 hx f1 f2
    ·exact R.ow j k y z u e1' e2' o1 o2 f1 f2
  len:=by rw[C4];exact R.len}
theorem Rel.own {C:Ctx} {H H':Hp} {B:Addr->Prop} {σ:St} {δ:Sl} {n n':Int} {i:Nat} {a:Addr} {x:SV} (R:Rel C H B σ δ n) (R':Rel C H' B σ δ n') (k:Kp C.t H H') (h0:H a=none) (h1:H' a≠none) (hx:x.isOwn=true)
  (h:SRel C.H0 H' (λb=>B b\/b=a) C.t (.ref a) x):Rel C H' (λb=>B b\/b=a) (σ.set i (some (.ref a))) (δ.set i (some x)) n' where
 tp:=R'.tp
 kp:=R'.kp
 t0:=R'.t0
 l0:=R'.l0
 g0:=R'.g0
 fz:=λb o e=>⟨(R'.fz b o e).1,λz=>z.elim (R'.fz b o e).2 λq=>jaj (R.fz b o e).1 h0 q⟩
 bt:=.inl R.bt
 b0:=λb z=>.inl (R.b0 b z)
 ba:=λb z=>z.elim (R'.ba b) λq=>q▸h1
 a0:=R.a0
 sl:=λj y e=>by
  have hta:C.t≠a:=λz=>by
   obtain⟨_,_,q,_⟩:=R.tp.ob;rw[z,h0]at q;cases q
  have mv:∀b o',H b=some o'->¬B b->H' b=some o'/\¬(B b\/b=a):=λb o' e n=>⟨k b o' e λz=>n (z▸R.bt),λz=>z.elim n λq=>jaj e h0 q⟩;rcases jay e with⟨rfl,rfl⟩ | ⟨ne,e'⟩
  ·exact⟨_,jc9 (by rw[R.len];exact jqe e),h⟩
  ·obtain⟨v,f1,f2⟩:=R.sl j y e';refine⟨v,by rw[jb8 ne];exact f1,?_⟩;cases y with
   |w y =>
    refine⟨?_,f2.2⟩;cases y with
    |d y=>exact f2.1.move mv
    |tp=>exact f2.1
    |dk kvs =>
     obtain⟨a',l,e1,e2,e3,e4⟩:=f2.1;exact⟨a',l,e1,k _ _ e2 e3,e3,e4.move mv⟩
    |ln ds =>
     obtain⟨a',l,e1,e2,e3,e4,e5⟩:=f2.1;exact⟨a',l,e1,k _ _ e2 e3,e3,e4,e5.move mv⟩
    |ob o=>exact ORel.move mv f2.1
   |own ds =>
    obtain⟨a',xs,e1,e2,e3,e4,e5,e6⟩:=f2;exact⟨a',xs,e1,k _ _ e2 (λz=>R.t0 (z▸e4)),.inl e3,e4,e5,e6.move mv⟩
   |odk kvs =>
    obtain⟨a',xs,e1,e2,e3,e4,e5,e6⟩:=f2;exact⟨a',xs,e1,k _ _ e2 (λz=>R.t0 (z▸e4)),.inl e3,e4,e5,e6.move mv⟩
   |odt kvs =>
    obtain⟨a',xs,e1,e2,e3,e4,e5,e6⟩:=f2;exact⟨a',xs,e1,k _ _ e2 (λz=>R.t0 (z▸e4)),.inl e3,e4,e5,e6.move mv⟩
 ow:=λj m y z u e1 e2 o1 o2 f1 f2=>by
  have out:∀{p:Nat} {w:SV},δ[p]?=some (some w)->w.isOwn=true->σ[p]?=some (some (.ref a))->False:=λ{p w} e ow f=>by
   obtain⟨v,g1,g2⟩:=R.sl p w e;rw[f]at g1;cases g1;cases w with
   |w _=>cases ow
   |own ds =>
    obtain⟨a',xs,e1,e2,_⟩:=g2;cases e1;rw[h0]at e2;cases e2
   |odk ds =>
    obtain⟨a',xs,e1,e2,_⟩:=g2;cases e1;rw[h0]at e2;cases e2
   |odt ds =>
    obtain⟨a',xs,e1,e2,_⟩:=g2;cases e1;rw[h0]at e2;cases e2
  rcases jay e1 with⟨rfl,rfl⟩ | ⟨ne1,e1'⟩
  ·rcases jay e2 with⟨rfl,rfl⟩ | ⟨ne2,e2'⟩
   ·rfl
   ·rw[jc9 (by rw[R.len];exact jqe e1)]at f1;rw[jb8 ne2]at f2;cases f1;exact(out e2' o2 f2).elim
  ·rcases jay e2 with⟨rfl,rfl⟩ | ⟨ne2,e2'⟩
   ·rw[jc9 (by rw[R.len];exact jqe e2)]at f2;rw[jb8 ne1]at f1;cases f2;exact(out e1' o1 f1).elim
   ·rw[jb8 ne1]at f1;rw[jb8 ne2]at f2;exact R.ow j m y z u e1' e2' o1 o2 f1 f2
 len:=by rw[C4,C4];exact R.len
theorem Rel.give {C:Ctx} {H:Hp} {B:Addr->Prop} {σ:St} {δ:Sl} {n:Int} {i:Nat} {x:SV} {y:Wv} {a:Addr} (R:Rel C H B σ δ n) (hi:δ[i]?=some (some x)) (ox:x.isOwn=true) (hv:σ[i]?=some (some (.ref a))) (e4:C.H0 a=none) (hy:WRel H (λb=>B b/\b≠a) C.t (.ref a) y) (hl:y.lent=false):Rel C H (λb=>B b/\b≠a) σ (δ.set i (some (.w y))) n:=by
 have less:∀b,(B b/\b≠a)->B b:=λb z=>z.1;exact{
  tp:=R.tp,kp:=R.kp,t0:=R.t0,l0:=R.l0,g0:=R.g0
  fz:=λb o e=>⟨(R.fz b o e).1,λz=>(R.fz b o e).2 z.1⟩
  bt:=⟨R.bt,λz=>R.t0 (z▸e4)⟩
  b0:=λb z=>⟨R.b0 b z,λq=>R.a0 b z (q▸e4)⟩
  ba:=λb z=>R.ba b z.1
  a0:=R.a0
  sl:=λj y' e=>by
   rcases jay e with⟨rfl,rfl⟩ | ⟨ne,e'⟩
   ·exact⟨_,hv,hy,λz=>by rw[hl]at z;cases z⟩
   ·obtain⟨u,f1,f2⟩:=R.sl j y' e';refine⟨u,f1,?_⟩;cases y' with
    |w y=>exact⟨f2.1.less less,f2.2⟩
    |own ds' =>
     obtain⟨a',xs',g1,g2,g3,g4,g5,g6⟩:=f2;refine⟨a',xs',g1,g2,⟨g3,λz=>?_⟩,g4,g5,g6.less less⟩;exact ne (R.ow j i _ _ _ e' hi rfl ox f1 (by rw[hv,g1,z]))
    |odk ds' =>
     obtain⟨a',xs',g1,g2,g3,g4,g5,g6⟩:=f2;refine⟨a',xs',g1,g2,⟨g3,λz=>?_⟩,g4,g5,g6.move λb o e n=>⟨e,λz=>n z.1⟩⟩;exact ne (R.ow j i _ _ _ e' hi rfl ox f1 (by rw[hv,g1,z]))
    |odt ds' =>
     obtain⟨a',xs',g1,g2,g3,g4,g5,g6⟩:=f2;refine⟨a',xs',g1,g2,⟨g3,λz=>?_⟩,g4,g5,g6.move λb o e n=>⟨e,λz=>n z.1⟩⟩;exact ne (R.ow j i _ _ _ e' hi rfl ox f1 (by rw[hv,g1,z]))
  ow:=λj k y z u e1 e2 o1 o2 f1 f2=>by
   rcases jay e1 with⟨rfl,rfl⟩ | ⟨ne1,e1'⟩
   ·cases o1
   ·rcases jay e2 with⟨rfl,rfl⟩ | ⟨ne2,e2'⟩
    ·cases o2
    ·exact R.ow j k y z u e1' e2' o1 o2 f1 f2
  len:=by rw[C4];exact R.len}
theorem Rel.frz {C:Ctx} {H:Hp} {B:Addr->Prop} {σ:St} {δ:Sl} {n:Int} {i:Nat} {ds:List Ae} (R:Rel C H B σ δ n) (hi:δ[i]?=some (some (.own ds))):∃B',Rel C H B' σ (δ.set i (some (.w (.d (.list ds))))) n:=by
 obtain⟨v,hv,a,xs,rfl,e2,e3,e4,e5,e6⟩:=R.sl i _ hi;exact⟨_,R.give hi rfl hv e4 (show RdX H _ (.ref a) (.list ds)from .lst e2 (λz=>z.2 rfl) e5 (e6.less λb z=>z.1)) rfl⟩
theorem Rel.frzK {C:Ctx} {H:Hp} {B:Addr->Prop} {σ:St} {δ:Sl} {n:Int} {i:Nat} {m:List (Key×Ae)} (R:Rel C H B σ δ n) (hi:δ[i]?=some (some (.odk m))):∃B',Rel C H B' σ (δ.set i (some (.w (.ob (.k m))))) n:=by
 obtain⟨v,hv,a,xs,rfl,e2,e3,e4,e5,e6⟩:=R.sl i _ hi;exact⟨_,R.give hi rfl hv e4 ⟨a,xs,rfl,e2,λz=>z.2 rfl,e6.move λb o e n=>⟨e,λz=>n z.1⟩⟩ rfl⟩
abbrev DQ:=Wv->Int->Prop
abbrev DT:=Sl->Int->DQ->Prop
abbrev DTT:=Sl->Int->(Bool->Int->Prop)->Prop
abbrev DTA:=Sl->Int->(List Wv->Int->Prop)->Prop
inductive ARel (H:Hp) (B:Addr->Prop) (t:Addr):List V->List Wv->Prop
 |nil:ARel H B t [] []
 |cons {v:V} {vs:List V} {x:Wv} {xs:List Wv}:WRel H B t v x->ARel H B t vs xs->ARel H B t (v::vs) (x::xs)
theorem ARel.kp {H H':Hp} {B:Addr->Prop} {t:Addr} (k:Kp t H H') (ht:B t):∀{vs:List V} {xs:List Wv},ARel H B t vs xs->ARel H' B t vs xs
 |_,_,.nil=>.nil
 |_,_,.cons a b=>.cons (a.kp k ht) (ARel.kp k ht b)
theorem ARel.len {H:Hp} {B:Addr->Prop} {t:Addr}:∀{vs:List V} {xs:List Wv},ARel H B t vs xs->vs.length=xs.length
 |_,_,.nil=>rfl
 |_,_,.cons _ b=>by rw[Ax,Ax,ARel.len b]
def Snd (t:TE) (w:DT):Prop:=∀(C:Ctx) (H:Hp) (B:Addr->Prop) (σ:St) (δ:Sl) (n:Int) (Q:DQ) (Q':VK),Rel C H B σ δ n->w δ n Q ->
 (∀v x H' n',Rel C H' B σ δ n'->Kp C.t H H'->WRel H' B C.t v x->Q x n'->Q' v H')->t σ H Q'
def SndT (t:TT) (w:DTT):Prop:=∀(C:Ctx) (H:Hp) (B:Addr->Prop) (σ:St) (δ:Sl) (n:Int) (Q:Bool->Int->Prop) (Q':Bool->Hp->Prop),Rel C H B σ δ n->w δ n Q ->
 (∀b H' n',Rel C H' B σ δ n'->Kp C.t H H'->Q b n'->Q' b H')->t σ H Q'
def SndA (t:TA) (w:DTA):Prop:=∀(C:Ctx) (H:Hp) (B:Addr->Prop) (σ:St) (δ:Sl) (n:Int) (Q:List Wv->Int->Prop) (Q':List V->Hp->Prop),Rel C H B σ δ n->w δ n Q ->
 (∀vs xs H' n',Rel C H' B σ δ n'->Kp C.t H H'->ARel H' B C.t vs xs->Q xs n'->Q' vs H')->t σ H Q'
abbrev DTF:=Sl->Int->(List Ae->Int->Prop)->Prop
def SndF (t:TE) (w:DTF):Prop:=∀(C:Ctx) (H:Hp) (B:Addr->Prop) (σ:St) (δ:Sl) (n:Int) (Q:List Ae->Int->Prop) (Q':VK),Rel C H B σ δ n->w δ n Q ->
 (∀a xs ds H' n',Rel C H' B σ δ n'->Kp C.t H H'->H a=none->H' a=some (.lst xs)->xs.length<=A1->RdXs H' (λb=>B b\/b=a) xs ds->Q ds n'->Q' (.ref a) H')->t σ H Q'
structure DE (X:Cx) (e:Expr) (t:TE) (w:DT):Prop where
 pe:PE X e t
 sd:Snd t w
structure DC (X:Cx) (e:Expr) (t:TT) (w:DTT):Prop where
 pt:PT X e t
 sd:SndT t w
structure DCW (X:Cx) (e:Expr) (t:TT) (w:DTT):Prop where
 pw:PW X e t
 sd:SndT t w
structure DA (X:Cx) (es:List Expr) (t:TA) (w:DTA):Prop where
 pa:PA X es t
 sd:SndA t w
structure DF (X:Cx) (e:Expr) (t:TE) (w:DTF):Prop where
 pe:PE X e t
 sd:SndF t w
variable {X:Cx} {a b c e:Expr} {ta tb tc te:TE} {wa wb wc we:DT} {pos:Pos}
def wVar (i:Nat):DT:=λδ n Q=>match δ[i]? with
 |some (some (.w x))=>Q x n
 |_=>False
theorem jac (i:Nat) {x:Str} {p:Pos} (hN:X.N[i]?=some x:=by rfl) (hv:Vis X.env.scope x:=by first | exact Ar rfl | exact Bz (Ar rfl) | exact Bz (Bz rfl)) (hd:(x==("__debug__":Str))=false:=by decide)
  (hcd:(x==("__classdict__":Str))=false:=by decide):DE X (.Name x p) (tVar i) (wVar i):=⟨jdq hN hv hd hcd,λC H B σ δ n Q Q' R h k=>by
 unfold wVar at h
 split at h
 ·rename_i x e;obtain⟨v,h1,h2⟩:=R.sl i _ e;exact⟨v,h1,k v x H n R (Kp.refl _ _) h2.1 h⟩
 ·exact h.elim⟩
def wC (d:Ae):DT:=λ_ n Q=>Q (.d d) n
theorem jta {v:V} {d:Ae} (h:∀H B,RdX H B v d):Snd (tC v) (wC d):=λC H B σ δ n Q Q' R q k=>k v (.d d) H n R (Kp.refl _ _) (h H B) q
theorem jag {i j p}:DE X (.Constant (.int i) j p) (tC (.int i)) (wC (.int i)):=⟨ja7,jta λ_ _=>.int i⟩
theorem d_bl {i j p}:DE X (.Constant (.bool i) j p) (tC (.bl i)) (wC (.bool i)):=⟨j6h,jta λ_ _=>.bl i⟩
theorem jc3 {j p}:DE X (.Constant .none j p) (tC .non) (wC .none):=⟨jqp,jta λ_ _=>.non⟩
theorem ja5 {x j p} (h:Str.length x<=A1:=by decide +kernel):DE X (.Constant (.str x) j p) (tC (.str x)) (wC (.str x)):=⟨jqn,jta λ_ _=>.str x h⟩
theorem j5q {x:Str} {i:Int} {tk:Tok} {p:Pos} (hg:Gl X x) (hm:X.mg x=some (.int i tk)) (hd:(x==("__debug__":Str))=false:=by decide):DE X (.Name x p) (tC (.int i)) (wC (.int i)):=⟨jph hg hm ⟨tk,rfl⟩ hd,jta λ_ _=>.int i⟩
def w2 (wa wb:DT) (g:Wv->Wv->Int->DQ->Prop):DT:=λδ n Q=>wa δ n λx n1=>wb δ n1 λy n2=>g x y n2 Q
def SndO (r:R2) (g:Wv->Wv->Int->DQ->Prop):Prop:=∀(C:Ctx) (H:Hp) (B:Addr->Prop) (σ:St) (δ:Sl) (n:Int) (x y:V) (p q:Wv) (Q:DQ) (Q':VK),Rel C H B σ δ n->WRel H B C.t x p->WRel H B C.t y q->g p q n Q ->
 (∀v x H' n',Rel C H' B σ δ n'->Kp C.t H H'->WRel H' B C.t v x->Q x n'->Q' v H')->r x y H Q'
theorem jnh {r:R2} {g:Wv->Wv->Int->DQ->Prop} (hr:SndO r g) (ha:Snd ta wa) (hb:Snd tb wb):Snd (tOp r ta tb) (w2 wa wb g):=λC H B σ δ n Q Q' R h k =>
 ha C H B σ δ n _ _ R h λv x H1 n1 R1 k1 r1 q1=>hb C H1 B σ δ n1 _ _ R1 q1 λu y H2 n2 R2 k2 r2 q2 =>
  hr C H2 B σ δ n2 v u x y Q Q' R2 (r1.kp k2 R1.bt) r2 q2 λz p H3 n3 R3 k3 r3 q3=>k z p H3 n3 R3 ((k1.trans k2).trans k3) r3 q3
theorem d_op {op:Operator} {r:R2} {g:Wv->Wv->Int->DQ->Prop} (ho:OpR X (En op) r) (hr:SndO r g) (ha:DE X a ta wa) (hb:DE X b tb wb):DE X (.BinOp a op b pos) (tOp r ta tb) (w2 wa wb g) :=
 ⟨jc8 ho ha.pe hb.pe,jnh hr ha.sd hb.sd⟩
theorem jku {op:CmpOp} {r:R2} {g:Wv->Wv->Int->DQ->Prop} (ho:OpR X (B1 op) r) (hr:SndO r g) (ha:DE X a ta wa) (hb:DE X b tb wb) (hm:Co op b=false):DE X (.Compare a [op] [b] pos) (tOp r ta tb) (w2 wa wb g) :=
 ⟨j1g ho ha.pe hb.pe hm,jnh hr ha.sd hb.sd⟩
def cT (w:DT):DTT:=λδ n Q=>w δ n λx n'=>match x with
 |.d (.bool k)=>Q k n'
 |_=>False
theorem wd {H:Hp} {B:Addr->Prop} {t:Addr} {v:V} {d:Ae} (h:RdX H B v d):WRel H B t v (.d d):=h
theorem jf9 {t:TE} {w:DT} (h:Snd t w):SndT (jo7 t) (cT w):=λC H B σ δ n Q Q' R q k =>
 h C H B σ δ n _ _ R q λv x H' n' R' k' r' q'=>by
  split at q'
  ·rename_i b;cases(show RdX H' B v (.bool b)from r');exact⟨b,rfl,k b H' n' R' k' q'⟩
  ·exact q'.elim
theorem jaw {op:CmpOp} {r:R2} {g:Wv->Wv->Int->DQ->Prop} (ho:OpR X (B1 op) r) (hr:SndO r g) (ha:DE X a ta wa) (hb:DE X b tb wb) (hm:Co op b=false):DC X (.Compare a [op] [b] pos) (jo7 (tOp r ta tb)) (cT (w2 wa wb g)) :=
 ⟨jfy ho ha.pe hb.pe hm,jf9 (jnh hr ha.sd hb.sd)⟩
theorem jmv {t:TE} {w:DT} (h:DE X e t w) (he:∀whole,isTrue e X.env whole=(do let v <-whole;standAt e.pos;holding [v] (truthy v)):=by intro _;rfl):DC X e (jo7 t) (cT w):=⟨j34 h.pe he,jf9 h.sd⟩
def jjt (x:Wv) (A B:Prop):Prop:=match x with
 |.d (.bool true)=>A
 |.d (.bool false)=>B
 |_=>False
theorem j2n (b:Bool) (A B:Prop):jjt (.d (.bool b)) A B=if b=true then A else B:=by cases b<;>simp[jjt]
def jp7 (g g':Wv->Wv->Int->DQ->Prop) (wa wb wc:DT):DT:=λδ n Q=>wa δ n λx n1=>wb δ n1 λy n2=>g x y n2 λz n3=>jjt z (wc δ n3 λu n4=>g' y u n4 Q) (Q (.d (.bool false)) n3)
theorem js8 {r r':R2} {g g':Wv->Wv->Int->DQ->Prop} (hr:SndO r g) (hr':SndO r' g') (ha:Snd ta wa) (hb:Snd tb wb) (hc:Snd tc wc):Snd (jsr r r' ta tb tc) (jp7 g g' wa wb wc):=λC H B σ δ n Q Q' R h k =>
 ha C H B σ δ n _ _ R h λv x H1 n1 R1 k1 r1 q1=>hb C H1 B σ δ n1 _ _ R1 q1 λu y H2 n2 R2 k2 r2 q2 =>
  hr C H2 B σ δ n2 v u x y _ _ R2 (r1.kp k2 R1.bt) r2 q2 λz p H3 n3 R3 k3 r3 q3=>by
   have k13:=(k1.trans k2).trans k3;unfold jjt at q3
   split at q3
   ·cases(show RdX H3 B z (.bool true)from r3);refine⟨true,rfl,?_⟩;rw[if_pos rfl];exact hc C H3 B σ δ n3 _ _ R3 q3 λw0 x0 H4 n4 R4 k4 r4 q4=>hr' C H4 B σ δ n4 u w0 y x0 Q Q' R4 ((r2.kp k3 R2.bt).kp k4 R3.bt) r4 q4 λz p H5 n5 R5 k5 r5 q5=>k z p H5 n5 R5 ((k13.trans k4).trans k5) r5 q5
   ·cases(show RdX H3 B z (.bool false)from r3);refine⟨false,rfl,?_⟩;rw[if_neg Ak];exact k _ _ H3 n3 R3 k13 (wd (.bl false)) q3
   ·exact q3.elim
theorem j2c {op op':CmpOp} {r r':R2} {g g':Wv->Wv->Int->DQ->Prop} (ho:OpR X (B1 op) r) (hr:SndO r g) (ho':OpR X (B1 op') r') (hr':SndO r' g') (ha:DE X a ta wa) (hb:DE X b tb wb) (hc:DE X c tc wc)
  (hm:lastMarks [op,op'] [b,c]=false:=by with_unfolding_all rfl):DE X (.Compare a [op,op'] [b,c] pos) (jsr r r' ta tb tc) (jp7 g g' wa wb wc):=⟨jw2 ho ho' ha.pe hb.pe hc.pe hm,js8 hr hr' ha.sd hb.sd hc.sd⟩
variable {tA tB':TT} {cA cB:DTT} {rest:List Expr}
def cAnd (u v:DTT):DTT:=λδ n Q=>u δ n λb n1=>if b=true then v δ n1 Q else Q false n1
def cOr (u v:DTT):DTT:=λδ n Q=>u δ n λb n1=>if b=true then Q true n1 else v δ n1 Q
def cNot (u:DTT):DTT:=λδ n Q=>u δ n λb n1=>Q (!b) n1
theorem cw_and1 (h:DC X a tA cA):DCW X (.BoolOp .And [a] pos) tA cA:=⟨jtt h.pt,h.sd⟩
theorem cw_or1 (h:DC X a tA cA):DCW X (.BoolOp .Or [a] pos) tA cA:=⟨j32 h.pt,h.sd⟩
theorem cw_and (h:DC X a tA cA) (h2:DCW X (.BoolOp .And (b::rest) pos) tB' cB):DCW X (.BoolOp .And (a::b::rest) pos) (tAnd tA tB') (cAnd cA cB):=⟨jzh h.pt h2.pw,λC H B σ δ n Q Q' R q k =>
 h.sd C H B σ δ n _ _ R q λb H1 n1 R1 k1 q1=>by
  cases b with
  |true =>
   rw[if_pos rfl]at q1 ⊢;exact h2.sd C H1 B σ δ n1 _ _ R1 q1 λb H2 n2 R2 k2 q2=>k b H2 n2 R2 (k1.trans k2) q2
  |false =>
   rw[if_neg Ak]at q1 ⊢;exact k false H1 n1 R1 k1 q1⟩
theorem cw_or (h:DC X a tA cA) (h2:DCW X (.BoolOp .Or (b::rest) pos) tB' cB):DCW X (.BoolOp .Or (a::b::rest) pos) (tOr tA tB') (cOr cA cB):=⟨j6d h.pt h2.pw,λC H B σ δ n Q Q' R q k =>
 h.sd C H B σ δ n _ _ R q λb H1 n1 R1 k1 q1=>by
  cases b with
  |true =>
   rw[if_pos rfl]at q1 ⊢;exact k true H1 n1 R1 k1 q1
  |false =>
   rw[if_neg Ak]at q1 ⊢;exact h2.sd C H1 B σ δ n1 _ _ R1 q1 λb H2 n2 R2 k2 q2=>k b H2 n2 R2 (k1.trans k2) q2⟩
theorem DCW.cc (h:DCW X a tA cA):DC X a tA cA:=⟨h.pw.pt,h.sd⟩
theorem jr9 (h:DC X a tA cA):DC X (.UnaryOp .Not a pos) (tNot tA) (cNot cA):=⟨j35 h.pt,λC H B σ δ n Q Q' R q k=>h.sd C H B σ δ n _ _ R q λb H1 n1 R1 k1 q1=>k (!b) H1 n1 R1 k1 q1⟩
def wAnd (u v:DT):DT:=λδ n Q=>u δ n λx n1=>jjt x (v δ n1 Q) (Q (.d (.bool false)) n1)
def wOr (u v:DT):DT:=λδ n Q=>u δ n λx n1=>jjt x (Q (.d (.bool true)) n1) (v δ n1 Q)
def wNot (u:DT):DT:=λδ n Q=>u δ n λx n1=>match x with
 |.d (.bool b)=>Q (.d (.bool !b)) n1
 |_=>False
theorem jr2 {op} (h:DE X a ta wa):DE X (.BoolOp op [a] pos) ta wa:=⟨j4c h.pe,h.sd⟩
theorem jx7 (h:DE X a ta wa) (h2:DE X (.BoolOp .And (b::rest) pos) tb wb):DE X (.BoolOp .And (a::b::rest) pos) (j27 ta tb) (wAnd wa wb):=⟨j4f h.pe h2.pe,λC H B σ δ n Q Q' R q k =>
 h.sd C H B σ δ n _ _ R q λv x H1 n1 R1 k1 r1 q1=>by
  unfold jjt at q1
  split at q1
  ·cases(show RdX H1 B v (.bool true)from r1);refine⟨true,rfl,?_⟩;rw[if_pos rfl];exact h2.sd C H1 B σ δ n1 _ _ R1 q1 λv x H2 n2 R2 k2 r2 q2=>k v x H2 n2 R2 (k1.trans k2) r2 q2
  ·cases(show RdX H1 B v (.bool false)from r1);refine⟨false,rfl,?_⟩;rw[if_neg Ak];exact k _ _ H1 n1 R1 k1 (wd (.bl false)) q1
  ·exact q1.elim⟩
theorem d_or (h:DE X a ta wa) (h2:DE X (.BoolOp .Or (b::rest) pos) tb wb):DE X (.BoolOp .Or (a::b::rest) pos) (tOrV ta tb) (wOr wa wb):=⟨j6g h.pe h2.pe,λC H B σ δ n Q Q' R q k =>
 h.sd C H B σ δ n _ _ R q λv x H1 n1 R1 k1 r1 q1=>by
  unfold jjt at q1
  split at q1
  ·cases(show RdX H1 B v (.bool true)from r1);refine⟨true,rfl,?_⟩;rw[if_pos rfl];exact k _ _ H1 n1 R1 k1 (wd (.bl true)) q1
  ·cases(show RdX H1 B v (.bool false)from r1);refine⟨false,rfl,?_⟩;rw[if_neg Ak];exact h2.sd C H1 B σ δ n1 _ _ R1 q1 λv x H2 n2 R2 k2 r2 q2=>k v x H2 n2 R2 (k1.trans k2) r2 q2
  ·exact q1.elim⟩
theorem j6z (h:DE X a ta wa):DE X (.UnaryOp .Not a pos) (j22 ta) (wNot wa):=⟨j4d h.pe,λC H B σ δ n Q Q' R q k =>
 h.sd C H B σ δ n _ _ R q λv x H1 n1 R1 k1 r1 q1=>by
  split at q1
  ·rename_i b;cases(show RdX H1 B v (.bool b)from r1);exact⟨b,rfl,k _ _ H1 n1 R1 k1 (wd (.bl _)) q1⟩
  ·exact q1.elim⟩
def wIf (u:DTT) (v w:DT):DT:=λδ n Q=>u δ n λb n1=>if b=true then v δ n1 Q else w δ n1 Q
theorem jg4 (h:DC X c tA cA) (h1:DE X a ta wa) (h2:DE X b tb wb):DE X (.IfExp c a b pos) (tIf tA ta tb) (wIf cA wa wb):=⟨jwy h.pt h1.pe h2.pe,λC H B σ δ n Q Q' R q k =>
 h.sd C H B σ δ n _ _ R q λb H1 n1 R1 k1 q1=>by
  cases b with
  |true =>
   rw[if_pos rfl]at q1 ⊢;exact h1.sd C H1 B σ δ n1 _ _ R1 q1 λv x H2 n2 R2 k2 r2 q2=>k v x H2 n2 R2 (k1.trans k2) r2 q2
  |false =>
   rw[if_neg Ak]at q1 ⊢;exact h2.sd C H1 B σ δ n1 _ _ R1 q1 λv x H2 n2 R2 k2 r2 q2=>k v x H2 n2 R2 (k1.trans k2) r2 q2⟩
variable {es:List Expr} {tR:TA} {wR:DTA}
def aNil:DTA:=λ_ n Q=>Q [] n
def jab (w:DT) (r:DTA):DTA:=λδ n Q=>w δ n λx n1=>r δ n1 λxs n2=>Q (x::xs) n2
theorem jae:DA X [] tNil aNil:=⟨jb0,λC H B σ δ n Q Q' R q k=>k [] [] H n R (Kp.refl _ _) .nil q⟩
theorem jaa (h:DE X e te we) (hr:DA X es tR wR) (hs:Az (e::es) X.env=(false,eval e X.env)::Az es X.env:=by rfl):DA X (e::es) (jcv te tR) (jab we wR):=⟨ja0 h.pe hr.pa hs,λC H B σ δ n Q Q' R q k =>
 h.sd C H B σ δ n _ _ R q λv x H1 n1 R1 k1 r1 q1=>hr.sd C H1 B σ δ n1 _ _ R1 q1 λvs xs H2 n2 R2 k2 r2 q2=>k (v::vs) (x::xs) H2 n2 R2 (k1.trans k2) (.cons (r1.kp k2 R1.bt) r2) q2⟩
def jel:List Wv->Option (List Ae)
 |[]=>some []
 |.d x::r=>(jel r).map (x::·)
 |_::_=>none
theorem ARel.plain {H:Hp} {B:Addr->Prop} {t:Addr}:∀{vs:List V} {xs:List Wv} {ds:List Ae},ARel H B t vs xs->jel xs=some ds->RdXs H B vs ds
 |_,_,_,.nil,h=>by
  cases h;exact .nil
 |_,_,ds,.cons (x:=x) (xs:=xs) a b,h=>by
  cases x with
  |d x =>
   have h':(jel xs).map (x::·)=some ds:=h;cases e:jel xs with
   |none=>rw[e]at h';cases h'
   |some es =>
    rw[e]at h';cases h';exact .cons a (ARel.plain b e)
  |tp=>cases h
  |dk _=>cases h
  |ln _=>cases h
  |ob _=>cases h
theorem RdXs.fresh {H:Hp} {B:Addr->Prop} {vs:List V} {ds:List Ae} {p:Addr} {o:HO} (h:RdXs H B vs ds) (hp:H p=none):RdXs (upd H p o) (λb=>B b\/b=p) vs ds :=
 h.move λb o' e n=>⟨by rw[jao (jaj e hp)];exact e,λz=>z.elim n λq=>jaj e hp q⟩
def wTup (w:DTA):DT:=λδ n Q=>w δ n λxs n1=>match jel xs with
 |some ds=>ds.length<=1000/\Q (.d (.tuple ds)) n1
 |none=>False
theorem jbe {x1} (h:DA X es tR wR):DE X (.Tuple es x1 pos) (tTup tR) (wTup wR):=⟨j4b h.pa,λC H B σ δ n Q Q' R q k =>
 h.sd C H B σ δ n _ _ R q λvs xs H1 n1 R1 k1 r1 q1=>by
  split at q1
  ·rename_i ds e;have r:=r1.plain e;have hl:vs.length<=A1:=by rw[r.len];exact jwh q1.1
   refine⟨hl,λp hp=>k _ _ _ n1 (R1.new hp) (k1.trans (Kp.new hp)) (wd (show RdX _ B (.ref p) (.tuple ds)from ?_)) q1.2⟩;exact .tup jap (R1.nb hp) hl ((r.fresh hp).less λb z=>.inl z)
  ·exact q1.elim⟩
def fLst (w:DTA):DTF:=λδ n Q=>w δ n λxs n1=>match jel xs with
 |some ds=>ds.length<=1000/\Q ds n1
 |none=>False
theorem jb5 (h:DA X es tR wR):DF X (.List es pos) (tLst tR) (fLst wR):=⟨jt0 h.pa,λC H B σ δ n Q Q' R q k =>
 h.sd C H B σ δ n _ _ R q λvs xs H1 n1 R1 k1 r1 q1=>by
  split at q1
  ·rename_i ds e;have r:=r1.plain e;have hl:vs.length<=A1:=by rw[r.len];exact jwh q1.1
   have hn:∀p,H1 p=none->H p=none:=λp hp=>by
    cases q:H p with
    |none=>rfl
    |some o =>
     by_cases z:p=C.t
     ·subst z;obtain⟨_,_,h,_⟩:=R1.tp.ob;rw[h]at hp;cases hp
     ·rw[k1 p o q z]at hp;cases hp
   exact⟨hl,λp hp=>k p vs ds _ n1 (R1.new hp) (k1.trans (Kp.new hp)) (hn p hp) jap hl (r.fresh hp) q1.2⟩
  ·exact q1.elim⟩
def wOf (w:DTF):DT:=λδ n Q=>w δ n λds n1=>Q (.d (.list ds)) n1
theorem j3c {t:TE} {w:DTF} (h:SndF t w):Snd t (wOf w):=λC H B σ δ n Q Q' R q k =>
 h C H B σ δ n _ _ R q λa xs ds H' n' R' k' h0 h1 h2 h3 q'=>k _ _ H' n' R' k' (wd (show RdX H' B (.ref a) (.list ds)from .lst h1 (R.nb h0) h2 (h3.less λb z=>.inl z))) q'
theorem DF.d {w:DTF} {t:TE} (h:DF X e t w):DE X e t (wOf w):=⟨h.pe,j3c h.sd⟩
theorem Rel.was {C:Ctx} {H H1:Hp} {B:Addr->Prop} {σ:St} {δ:Sl} {n1:Int} (R1:Rel C H1 B σ δ n1) (k1:Kp C.t H H1) {p:Addr} (hp:H1 p=none):H p=none:=by
 cases q:H p with
 |none=>rfl
 |some o =>
  by_cases z:p=C.t
  ·subst z;obtain⟨_,_,h,_⟩:=R1.tp.ob;rw[h]at hp;cases hp
  ·rw[k1 p o q z]at hp;cases hp
abbrev DSp:=List Wv->Int->DQ->Prop
def spOf (S:DSp):Sp:=λvs H Q _=>∃(t:Addr) (l:TL) (ns:List Int) (B:Addr->Prop) (ws:List Wv) (n:Int) (Q0:DQ),Tp H t l ns n/\B t/\(∀b,B b->H b≠none)/\ARel H B t vs ws/\S ws n Q0 /\
 ∀w n',Q0 w n'->∀v H',Tp H' t l ns n'->Kp t H H'->WRel H' B t v w->Q v H'
section
variable {X:Cx} {e:Expr} {es:List Expr} {pos p:Pos} {tR:TA} {wR:DTA}
def jam (S:DSp) (w:DTA):DT:=λδ n Q=>w δ n λxs n1=>S xs n1 Q
theorem jwe {S:DSp} {t:TA} {w:DTA} (h:SndA t w):Snd (jlt (spOf S) [] E0 t) (jam S w):=λC H B σ δ n Q Q' R q k =>
 h C H B σ δ n _ _ R q λvs xs H1 n1 R1 k1 r1 q1=>by
  refine⟨C.t,C.l,C.ns,B,xs,n1,Q,R1.tp,R1.bt,R1.ba,by rw[B9];exact r1,q1,λw n' q2 v H' T' k' r'=>?_⟩;exact k v w H' n' (R1.step T' k') (k1.trans k') r' q2
theorem j5u {k:Nat} {f:Addr} {fd:Cp} {ps:List Str} {S:DSp} {x:Str} (F:FnOk X.prog X.w X.K X.mg X.base CX0 k f fd ps (spOf S)) (hr:Room k X.A) (hg:Gl X x) (hm:X.mg x=some (.ref f)) (hk:C9 X.K (.ref f)=true) (hb:Binds X.K fd ps [])
  (ha:DA X (e::es) tR wR) (hdb:(x==("__debug__":Str))=false:=by decide) (he:Az (e::es) X.env=(false,eval e X.env)::Az es X.env:=by rfl) (hpl:(Dd pos (Az es X.env)).any (·.1)=false:=by rfl) :
  DE X (.Call (.Name x p) (e::es) [] pos) (jlt (spOf S) [] E0 tR) (jam S wR):=⟨jpi F hr hg hm hk hb .nil j1j ha.pa hdb he hpl,jwe ha.sd⟩
def SndB (r:List V->Hp->VK->Prop) (g:List Wv->Int->DQ->Prop):Prop:=∀(C:Ctx) (H:Hp) (B:Addr->Prop) (σ:St) (δ:Sl) (n:Int) (vs:List V) (xs:List Wv) (Q:DQ) (Q':VK),Rel C H B σ δ n->ARel H B C.t vs xs->g xs n Q ->
 (∀v x H' n',Rel C H' B σ δ n'->Kp C.t H H'->WRel H' B C.t v x->Q x n'->Q' v H')->r vs H Q'
def wB (g:List Wv->Int->DQ->Prop) (w:DTA):DT:=λδ n Q=>w δ n λxs n1=>g xs n1 Q
theorem j3e {r:List V->Hp->VK->Prop} {g:List Wv->Int->DQ->Prop} {t:TA} {w:DTA} (hr:SndB r g) (h:SndA t w):Snd (tCB r t) (wB g w):=λC H B σ δ n Q Q' R q k =>
 h C H B σ δ n _ _ R q λvs xs H1 n1 R1 k1 r1 q1=>hr C H1 B σ δ n1 vs xs Q Q' R1 r1 q1 λv x H2 n2 R2 k2 r2 q2=>k v x H2 n2 R2 (k1.trans k2) r2 q2
theorem ja9 {id:String} {x:Str} {r:List V->Hp->VK->Prop} {g:List Wv->Int->DQ->Prop} (hc:CallR X (.builtin id) r) (hr:SndB r g) (hg:Gl X x) (hm:X.mg x=none) (hv:B7 x=some (.builtin id)) (ha:DA X (e::es) tR wR) (hn:x≠"__name__":=by decide) (hdb:(x==("__debug__":Str))=false:=by decide)
  (he:Az (e::es) X.env=(false,eval e X.env)::Az es X.env:=by rfl) (hpl:(Dd pos (Az es X.env)).any (·.1)=false:=by rfl):DE X (.Call (.Name x p) (e::es) [] pos) (tCB r tR) (wB g wR):=⟨jdd hc hg hm hv ha.pa hn hdb he hpl,j3e hr ha.sd⟩
theorem jbu {T:String} {x:Str} {r:List V->Hp->VK->Prop} {g:List Wv->Int->DQ->Prop} (hc:CallR X (.type T) r) (hr:SndB r g) (hg:Gl X x) (hm:X.mg x=none) (hv:B7 x=some (.type T)) (ha:DA X (e::es) tR wR) (hn:x≠"__name__":=by decide) (hdb:(x==("__debug__":Str))=false:=by decide)
  (he:Az (e::es) X.env=(false,eval e X.env)::Az es X.env:=by rfl) (hpl:(Dd pos (Az es X.env)).any (·.1)=false:=by rfl):DE X (.Call (.Name x p) (e::es) [] pos) (tCB r tR) (wB g wR):=⟨jgd hc hg hm hv ha.pa hn hdb he hpl,j3e hr ha.sd⟩
end
structure DEnds where
 nx:Sl->Int->Prop
 rt:DQ
 bk:Sl->Int->Prop:=λ_ _=>False
 ct:Sl->Int->Prop:=λ_ _=>False
 rn:List Ae->Int->Prop:=λ_ _=>False
abbrev DST:=Sl->Int->DEnds->Prop
structure EndsOk (C:Ctx) (K:DEnds) (D:Ends):Prop where
 nx:∀H B σ δ n,Rel C H B σ δ n->K.nx δ n->D.nx σ H
 rt:∀H B σ δ n v w,Rel C H B σ δ n->WRel H B C.t v w->K.rt w n->D.rt v H
 bk:∀H B σ δ n,Rel C H B σ δ n->K.bk δ n->D.bk σ H
 ct:∀H B σ δ n,Rel C H B σ δ n->K.ct δ n->D.ct σ H
 rn:∀H B σ δ n a xs ds,Rel C H B σ δ n->C.H0 a=none->H a=some (.lst xs)->xs.length<=A1->RdXs H (λb=>B b\/b=a) xs ds->K.rn ds n->D.rt (.ref a) H
def SndS (T:TS) (W:DST):Prop:=∀(C:Ctx) (H:Hp) (B:Addr->Prop) (σ:St) (δ:Sl) (n:Int) (K:DEnds) (D:Ends),Rel C H B σ δ n->W δ n K->EndsOk C K D->T D σ H
structure DS (X:Cx) (st:Stmt) (T:TS) (W:DST):Prop where
 ps:PS X st T
 sd:SndS T W
structure DSs (X:Cx) (st:List Stmt) (T:TS) (W:DST):Prop where
 ps:PSs X st T
 sd:SndS T W
section
variable {X:Cx} {st:Stmt} {rest:List Stmt} {T U:TS} {W V':DST} {e:Expr} {te:TE} {we:DT} {pos:Pos}
def jas:DST:=λδ n K=>K.nx δ n
def sSeq (W V:DST):DST:=λδ n K=>W δ n {K with nx:=λδ n=>V δ n K}
theorem jbn:DSs X [] j24 jas:=⟨jl1,λC H B σ δ n K D R h E=>E.nx H B σ δ n R h⟩
theorem jah (h:DS X st T W) (h2:DSs X rest U V'):DSs X (st::rest) (tSeq T U) (sSeq W V'):=⟨jb1 h.ps h2.ps,λC H B σ δ n K D R q E =>
 h.sd C H B σ δ n _ _ R q ⟨λH B σ δ n R q=>h2.sd C H B σ δ n K D R q E,E.rt,E.bk,E.ct,E.rn⟩⟩
theorem jar (h:DS X st T W):DSs X [st] T W:=⟨jgr h.ps,h.sd⟩
def sRet (w:DT):DST:=λδ n K=>w δ n K.rt
theorem jax (h:DE X e te we):DS X (.Return (some e) pos) (tRet te) (sRet we):=⟨jld h.pe,λC H B σ δ n K D R q E =>
 h.sd C H B σ δ n _ _ R q λv x H' n' R' _ r' q'=>E.rt H' B σ δ n' v x R' r' q'⟩
def sIf (c:DTT) (W V:DST):DST:=λδ n K=>c δ n λb n1=>if b=true then W δ n1 K else V δ n1 K
theorem s_if {c:Expr} {a b:List Stmt} {tc:TT} {cc:DTT} (hc:DC X c tc cc) (ha:DSs X a T W) (hb:DSs X b U V'):DS X (.If c a b pos) (tIfS tc T U) (sIf cc W V'):=⟨jwv hc.pt ha.ps hb.ps,λC H B σ δ n K D R q E =>
 hc.sd C H B σ δ n _ _ R q λb H1 n1 R1 _ q1=>by
  cases b with
  |true =>
   rw[if_pos rfl]at q1 ⊢;exact ha.sd C H1 B σ δ n1 K D R1 q1 E
  |false =>
   rw[if_neg Ak]at q1 ⊢;exact hb.sd C H1 B σ δ n1 K D R1 q1 E⟩
def sSet (i:Nat) (w:DT):DST:=λδ n K=>w δ n λx n1=>match x with
 |.d d=>K.nx (δ.set i (some (.w (.d d)))) n1
 |.tp=>K.nx (δ.set i (some (.w .tp))) n1
 |.dk _=>False
 |.ln _=>False
 |.ob o=>K.nx (δ.set i (some (.w (.ob o)))) n1
theorem ja8 {i:Nat} {x:Str} {pos':Pos} (hN:X.N.Nodup) (hi:X.N[i]?=some x) (hx:Loc X.env.scope x) (he:DE X e te we) (hs:Dw e (some (.Name x pos')) pos.line X.env=pure false:=by rfl) (hf:X.fn x=true\/X.env.scope.names.lookup x=some .local:=by first | exact .inl rfl | exact .inr rfl | assumption) :
  DS X (.Assign [.Name x pos'] e pos) (tAsg te (jg0 i)) (sSet i we):=⟨jfp hN hi hx he.pe hs hf,λC H B σ δ n K D R q E =>
 he.sd C H B σ δ n _ _ R q λv x H1 n1 R1 _ r1 q1=>by
  cases x with
  |d d=>exact E.nx _ _ _ _ _ (R1.set r1 rfl) q1
  |tp=>exact E.nx _ _ _ _ _ (R1.set r1 rfl) q1
  |dk _=>exact q1.elim
  |ln _=>exact q1.elim
  |ob o=>exact E.nx _ _ _ _ _ (R1.set r1 rfl) q1⟩
def sOwn (i:Nat) (w:DTF):DST:=λδ n K=>w δ n λds n1=>K.nx (δ.set i (some (.own ds))) n1
theorem Rel.h0 {C:Ctx} {H:Hp} {B:Addr->Prop} {σ:St} {δ:Sl} {n:Int} {a:Addr} (R:Rel C H B σ δ n) (h:H a=none):C.H0 a=none:=R.was R.kp h
theorem jh1 {i:Nat} {x:Str} {pos':Pos} {w:DTF} (hN:X.N.Nodup) (hi:X.N[i]?=some x) (hx:Loc X.env.scope x) (he:DF X e te w) (hs:Dw e (some (.Name x pos')) pos.line X.env=pure false:=by rfl) (hf:X.fn x=true\/X.env.scope.names.lookup x=some .local:=by first | exact .inl rfl | exact .inr rfl | assumption) :
  DS X (.Assign [.Name x pos'] e pos) (tAsg te (jg0 i)) (sOwn i w):=⟨jfp hN hi hx he.pe hs hf,λC H B σ δ n K D R q E =>
 he.sd C H B σ δ n _ _ R q λa xs ds H1 n1 R1 k1 h0 h1 h2 h3 q1=>by
  refine E.nx _ _ _ _ _ (R.own R1 k1 h0 (by rw[h1];exact λz=>nomatch z) rfl ?_) q1;exact⟨a,xs,rfl,h1,.inr rfl,R.h0 h0,h2,h3⟩⟩
def sFrz (i:Nat) (W:DST):DST:=λδ n K=>match δ[i]? with
 |some (some (.own ds))=>W (δ.set i (some (.w (.d (.list ds))))) n K
 |some (some (.odk m))=>W (δ.set i (some (.w (.ob (.k m))))) n K
 |_=>W δ n K
theorem jh2 (i:Nat) {sts:List Stmt} (h:DSs X sts T W):DSs X sts T (sFrz i W):=⟨h.ps,λC H B σ δ n K D R q E=>by
 unfold sFrz at q
 split at q
 ·rename_i ds e;obtain⟨B',R'⟩:=R.frz e;exact h.sd C H B' σ _ n K D R' q E
 ·rename_i m e;obtain⟨B',R'⟩:=R.frzK e;exact h.sd C H B' σ _ n K D R' q E
 ·exact h.sd C H B σ δ n K D R q E⟩
def sApp (i:Nat) (w:DT):DST:=λδ n K=>match δ[i]? with
 |some (some (.own ds))=>w δ n λx n1=>match x with
  |.d d=>ds.length < 1000000/\K.nx (δ.set i (some (.own (ds++[d])))) n1
  |_=>False
 |_=>False
theorem juc {n:Nat} (h:n < 1000000):n < A1:=Nat.lt_trans h (by decide)
theorem jgc {i:Nat} {x:Str} {xp ap cp:Pos} (hN:X.N[i]?=some x) (he:DE X e te we) (hv:Vis X.env.scope x:=by first | exact Ar rfl | exact Bz (Ar rfl) | exact Bz (Bz rfl)) (hd:(x==("__debug__":Str))=false:=by decide)
  (hcd:(x==("__classdict__":Str))=false:=by decide)
  (hbase:Fs (.Name x xp) "append" X.env (eval (.Name x xp) X.env)=eval (.Name x xp) X.env:=by rfl)
  (hfew:((Dd cp (Az [e] X.env)).all (λx=>!x.1)&&(backToKw cp (keywordEach [] X.env)).all (λx=>x.1.isSome)
   && decide ([e].length+([]:List Keyword).length+(if ([]:List Keyword).isEmpty then 0 else 1) < 30))=true:=by rfl)
  (hline:(ap.endLine==cp.line)=true:=by rfl) (hs:Az [e] X.env=[(false,eval e X.env)]:=by rfl) (hplain:(Dd cp (Az [] X.env)).any (·.1)=false:=by rfl)
  (hsw:Dw (.Call (.Attribute (.Name x xp) "append" ap) [e] [] cp) none pos.line X.env=pure false:=by rfl) :
  DS X (.Expr (.Call (.Attribute (.Name x xp) "append" ap) [e] [] cp) pos) (jv8 (tBM X.K "list" jtr (tVar i) (jcv te tNil))) (sApp i we) :=
 ⟨jpg (j1h Gx PySem.F.slot_list_append PySem.F.type_list_append ji1 (jdq hN hv hd hcd) (ja0 he.pe jb0 hs) hbase hfew hline hs hplain) hsw,λC H B σ δ n K D R q E=>by
  unfold sApp at q
  split at q
  ·rename_i ds ei;obtain⟨v,hv,a,xs,rfl,e2,e3,e4,e5,e6⟩:=R.sl i _ ei;refine⟨_,hv,.inl ⟨rfl,_,SqL.of e2⟩,he.sd C H B σ δ n _ _ R q λu y H1 n1 R1 k1 r1 q1=>?_⟩;cases y with
   |d d =>
    have hat:a≠C.t:=λz=>R.t0 (z▸e4);have e2':=k1 _ _ e2 hat;refine⟨a,xs,u,rfl,rfl,e2',juc (by rw[e6.len];exact q1.1),?_⟩;refine E.nx _ _ _ _ _ (R1.mutOwn ei rfl hv e3 e4 ?_ rfl) q1.2;refine⟨a,xs++[u],rfl,jap,e3,e4,?_,?_⟩
    ·rw[An,e6.len];exact juc q1.1
    ·refine RdXs.keep (λb o e n=>?_) ((e6.kp k1 R.bt).append (.cons r1 .nil));rw[jao λ(z:b=a)=>n (z▸e3)];exact e
   |tp=>exact q1.elim
   |dk _=>exact q1.elim
   |ln _=>exact q1.elim
   |ob _=>exact q1.elim
  ·exact q.elim⟩
end
def jaz (N:List Str) (ws:List Wv):Sl:=ws.map (λx=>some (.w x))++Dt (N.length - ws.length) none
theorem ARel.get {H:Hp} {B:Addr->Prop} {t:Addr}:∀{vs:List V} {xs:List Wv} {i:Nat} {x:Wv},ARel H B t vs xs->xs[i]?=some x->∃v,vs[i]?=some v/\WRel H B t v x
 |_,_,_,_,.nil,e=>by simp at e
 |_,_,0,_,.cons h _,e=>by
  simp at e;subst e;exact⟨_,rfl,h⟩
 |_,_,i+1,x,.cons _ r,e=>by
  obtain⟨v,h1,h2⟩:=ARel.get (i:=i) (x:=x) r (by simpa using e);exact⟨v,by simpa using h1,h2⟩
theorem jnq {H:Hp} {t:Addr} {l:TL} {ns:List Int} {B:Addr->Prop} {vs:List V} {ws:List Wv} {n:Int} {N:List Str} (T:Tp H t l ns n) (bt:B t) (ba:∀b,B b->H b≠none) (r:ARel H B t vs ws):Rel ⟨t,l,ns,H,B,λ_=>none⟩ H B (L2.start N vs) (jaz N ws) n where
 tp:=T
 kp:=Kp.refl _ _
 t0:=by
  obtain⟨_,_,h,_⟩:=T.ob;show H t≠none;rw[h];exact λz=>nomatch z
 l0:=by
  show H l.s≠none;rw[T.ls];exact λz=>nomatch z
 g0:=λe=>by
  show H l.g≠none;rw[T.ag e];exact λz=>nomatch z
 fz:=λb o e=>nomatch e
 bt:=bt
 b0:=λ_ z=>z
 ba:=ba
 a0:=ba
 sl:=λi x e=>by
  have hl:=r.len;unfold jaz at e;rw[List.getElem?_append]at e
  split at e
  ·rename_i hi;rw[Ab]at hi;rw[A0]at e;cases q:ws[i]? with
   |none=>rw[q]at e;cases e
   |some y =>
    rw[q]at e;cases e;obtain⟨v,h1,h2⟩:=r.get q;refine⟨v,?_,h2,λz=>?_⟩
    ·unfold L2.start;rw[E9 (by rw[Ab,hl];exact hi),A0,h1];rfl
    ·cases y with
     |d _=>cases z
     |tp=>cases z
     |dk _ =>
      obtain⟨a,l',f1,f2,_⟩:=h2;exact⟨a,f1,by show H a≠none;rw[f2];exact λz=>nomatch z⟩
     |ln _ =>
      obtain⟨a,l',f1,f2,_⟩:=h2;exact⟨a,f1,by show H a≠none;rw[f2];exact λz=>nomatch z⟩
     |ob _=>cases z
  ·rw[Ee]at e
   split at e
   ·cases e
   ·cases e
 ow:=λi j x y v e1 e2 o1 o2 _ _=>by
  unfold jaz at e1;rw[List.getElem?_append]at e1
  split at e1
  ·rw[A0]at e1;cases q:ws[i]? with
   |none=>rw[q]at e1;cases e1
   |some y =>
    rw[q]at e1;cases e1;cases o1
  ·rw[Ee]at e1
   split at e1
   ·cases e1
   ·cases e1
 len:=by
  unfold L2.start jaz;rw[An,An,Ab,Ab,List.length_replicate,List.length_replicate,r.len]
section
variable {P:Bg} {w:Bt} {K:Ah} {mg:Str->Option Af} {base:Heap}
theorem Fun.okD {x qual:Str} {st:Stmt} {f:Addr} {fd:Cp} {N ps:List Str} {k:Nat} {S:DSp} (F:Fun K x qual st f fd) (Sc:FnScope N ps (jai st)) (len:∀ws n Q,S ws n Q->ws.length=ps.length)
  (hbody:∀(cdv:Af) (A:B6) (outer:List Env) (s:Aj) (H:Hp) (E:XK),Room k (A.deeper (PyProof.Rows.envOfC qual (jai st) s.heap.objs.size f cdv)) ->
   ∃T W,DSs (cxOf CX0 P w K mg base N qual (jai st) f cdv A outer s H E).nox (jdm st) T W/\∀ws n Q,S ws n Q->W (jaz N ws) n {nx:=λ_ n=>Q (.d .none) n,rt:=Q}):FnOk P w K mg base CX0 (k+1) f fd ps (spOf S):=by
 refine F.ok Sc (λvs H Q E h=>?_) (λcdv A outer s H vs Q E hr h=>?_)
 ·obtain⟨t,l,ns,B,ws,n,Q0,_,_,_,r,q,_⟩:=h;rw[r.len];exact len ws n Q0 q
 ·obtain⟨t,l,ns,B,ws,n,Q0,T,bt,ba,r,q,kk⟩:=h;obtain⟨T',W,d,hw⟩:=hbody cdv A outer s H E hr;refine⟨T',d.ps,d.sd ⟨t,l,ns,H,B,λ_=>none⟩ H B _ _ n _ _ (jnq T bt ba r) (hw ws n Q0 q) ⟨?_,?_,?_,?_,λ_ _ _ _ _ _ _ _ _ _ _ _ _ z=>z.elim⟩⟩
  ·exact λH' B' σ δ n' R' q'=>kk _ _ q' .non H' R'.tp R'.kp (show RdX H' B .non .none from .non)
  ·exact λH' B' σ δ n' v x R' r' q'=>kk _ _ q' v H' R'.tp R'.kp (r'.less R'.b0)
  ·exact λ_ _ _ _ _ _ z=>z.elim
  ·exact λ_ _ _ _ _ _ z=>z.elim
end
section
variable {X:Cx} {a b c e:Expr} {ta tb tc te:TE} {wa wb wc we:DT} {pos p:Pos}
def gI (Cd:Int->Int->Prop) (f:Int->Int->Ae):Wv->Wv->Int->DQ->Prop:=λx y n Q=>match x,y with
 |.d (.int i),.d (.int j)=>Cd i j/\Q (.d (f i j)) n
 |_,_=>False
def gI0 (f:Int->Int->Ae):Wv->Wv->Int->DQ->Prop:=λx y n Q=>match x,y with
 |.d (.int i),.d (.int j)=>Q (.d (f i j)) n
 |_,_=>False
theorem js5 {g:Int->Int->V} {f:Int->Int->Ae} (h:∀i j H B,RdX H B (g i j) (f i j)):SndO (rI0 g) (gI0 f):=λC H B σ δ n x y p q Q Q' R rx ry h1 k=>by
 unfold gI0 at h1
 split at h1
 ·rename_i i j;cases(show RdX H B x (.int i)from rx);cases(show RdX H B y (.int j)from ry);exact⟨i,j,rfl,rfl,k _ _ H n R (Kp.refl _ _) (wd (h i j H B)) h1⟩
 ·exact h1.elim
theorem ju8 (ha:DE X a ta wa) (hb:DE X b tb wb):DE X (.BinOp a .Sub b pos) (tOp (rI0 λi j=>.int (i - j)) ta tb) (w2 wa wb (gI0 λi j=>.int (i - j))):=d_op j4j (js5 λ_ _ _ _=>.int _) ha hb
def wNeg (w:DT):DT:=λδ n Q=>w δ n λx n1=>match x with
 |.d (.int i)=>Q (.d (.int (-i))) n1
 |_=>False
theorem j5p (ha:DE X a ta wa):DE X (.UnaryOp .USub a pos) (tUn (rU λi=>.int (-i)) ta) (wNeg wa):=⟨j6f j2w ha.pe,λC H B σ δ n Q Q' R q k=>ha.sd C H B σ δ n _ _ R q λv x H1 n1 R1 k1 r1 q1=>by
 split at q1
 ·rename_i i;cases(show RdX H1 B v (.int i)from r1);exact⟨i,rfl,k _ _ H1 n1 R1 k1 (wd (.int _)) q1⟩
 ·exact q1.elim⟩
def gAdd:Wv->Wv->Int->DQ->Prop:=λx y n Q=>match x,y with
 |.d (.int i),.d (.int j)=>Q (.d (.int (i+j))) n
 |.d (.str i),.d (.str j)=>i.length+j.length<=A1/\Q (.d (.str (i++j))) n
 |.d (.tuple i),.d (.tuple j)=>(i≠[]\/j≠[])/\i.length+j.length<=A1/\Q (.d (.tuple (i++j))) n
 |.d (.list i),.d (.list j)=>i.length+j.length<=A1/\Q (.d (.list (i++j))) n
 |_,_=>False
def jws (K:Ah):R2:=λx y H Q=>(rI0 λi j=>.int (i+j)) x y H Q\/(∃i j,x=.str i/\y=.str j/\i.length+j.length<=A1/\Q (.str (i++j)) H)\/j31 K x y H Q\/j30 K x y H Q\/rCat x y H Q
theorem op_addA:OpR X (En .Add) (jws X.K) :=
 op_add.or (op_add_str.or (op_catA.or (op_catT.or jzl)))
theorem jo8 (i j:Str):(i++j).length=i.length+j.length:=Array.size_append
theorem jwg {K:Ah}:SndO (jws K) gAdd:=λC H B σ δ n x y p q Q Q' R rx ry h1 k=>by
 unfold gAdd at h1
 split at h1
 ·rename_i i j;cases(show RdX H B x (.int i)from rx);cases(show RdX H B y (.int j)from ry);exact .inl ⟨i,j,rfl,rfl,k _ _ H n R (Kp.refl _ _) (wd (.int _)) h1⟩
 ·rename_i i j;cases(show RdX H B x (.str i)from rx);cases(show RdX H B y (.str j)from ry);exact .inr (.inl ⟨i,j,rfl,rfl,h1.1,k _ _ H n R (Kp.refl _ _) (wd (show RdX H B _ (.str (i++j))from .str _ (by rw[jo8];exact h1.1))) h1.2⟩)
 ·rename_i i j;cases(show RdX H B x (.tuple i)from rx)with
  |@tup ax xs _ e1 e2 e3 e4 =>
   cases(show RdX H B y (.tuple j)from ry)with
   |@tup ay ys _ f1 f2 f3 f4 =>
    obtain⟨ne,hl,q⟩:=h1;have hl':xs.length+ys.length<=A1:=by rw[e4.len,f4.len];exact hl
    have new:∀pn,H pn=none->Q' (.ref pn) (upd H pn (.tup (xs++ys))):=λpn hp=>by
     refine k _ _ _ n (R.new hp) (Kp.new hp) (wd (show RdX _ B _ (.tuple (i++j))from .tup jap (R.nb hp) (by rw[An];exact hl') ?_)) q;exact((e4.append f4).fresh hp).less λb z=>.inl z
    by_cases hy:ys=[]
    ·have hx:xs≠[]:=λz=>by
      subst hy z;cases e4;cases f4;exact ne.elim (λq=>q rfl) λq=>q rfl
     refine .inr (.inr (.inr (.inl ⟨ax,ay,xs,ys,rfl,rfl,SqT.of e1,SqT.of f1,hx,hl',λ_=>?_,λ_=>new⟩)));subst hy;cases f4;rw[B9]at q;exact k _ _ H n R (Kp.refl _ _) (wd (show RdX H B _ (.tuple i)from .tup e1 e2 e3 e4)) q
    ·refine .inr (.inr (.inl ⟨ax,ay,xs,ys,rfl,rfl,SqT.of e1,SqT.of f1,hy,hl',λz=>?_,λ_=>new⟩));subst z;cases e4;exact k _ _ H n R (Kp.refl _ _) (wd (show RdX H B _ (.tuple j)from .tup f1 f2 f3 f4)) q
 ·rename_i i j;cases(show RdX H B x (.list i)from rx)with
  |@lst ax xs _ e1 e2 e3 e4 =>
   cases(show RdX H B y (.list j)from ry)with
   |@lst ay ys _ f1 f2 f3 f4 =>
    obtain⟨hl,q⟩:=h1;have hl':xs.length+ys.length<=A1:=by rw[e4.len,f4.len];exact hl
    refine .inr (.inr (.inr (.inr ⟨ax,ay,xs,ys,rfl,rfl,e1,f1,hl',λpn hp=>?_⟩)));refine k _ _ _ n (R.new hp) (Kp.new hp) (wd (show RdX _ B _ (.list (i++j))from .lst jap (R.nb hp) (by rw[An];exact hl') ?_)) q;exact((e4.append f4).fresh hp).less λb z=>.inl z
 ·exact h1.elim
def gCmp (f:Int->Int->Bool) (h:List Nat->List Nat->Bool):Wv->Wv->Int->DQ->Prop:=λx y n Q=>match x,y with
 |.d (.int i),.d (.int j)=>Q (.d (.bool (f i j))) n
 |.d (.str i),.d (.str j)=>Q (.d (.bool (h i.cps.toList j.cps.toList))) n
 |_,_=>False
theorem jo9 {f:Int->Int->Bool} {h:List Nat->List Nat->Bool}:SndO (λx y H Q=>(rI0 λi j=>.bl (f i j)) x y H Q\/∃i j,x=.str i/\y=.str j/\Q (.bl (h i.cps.toList j.cps.toList)) H) (gCmp f h):=λC H B σ δ n x y p q Q Q' R rx ry h1 k=>by
 unfold gCmp at h1
 split at h1
 ·rename_i i j;cases(show RdX H B x (.int i)from rx);cases(show RdX H B y (.int j)from ry);exact .inl ⟨i,j,rfl,rfl,k _ _ H n R (Kp.refl _ _) (wd (.bl _)) h1⟩
 ·rename_i i j;cases(show RdX H B x (.str i)from rx);cases(show RdX H B y (.str j)from ry);exact .inr ⟨i,j,rfl,rfl,k _ _ H n R (Kp.refl _ _) (wd (.bl _)) h1⟩
 ·exact h1.elim
abbrev gLt:=gCmp (λi j=>decide (i < j)) (λi j=>decide (i < j))
abbrev gLe:=gCmp (λi j=>decide (i<=j)) (λi j=>!decide (j < i))
abbrev gGt:=gCmp (λi j=>decide (j < i)) (λi j=>decide (j < i))
def rLtA:R2:=λx y H Q=>(rI0 λi j=>.bl (decide (i < j))) x y H Q\/∃i j,x=.str i/\y=.str j/\Q (.bl (decide (i.cps.toList < j.cps.toList))) H
theorem jhr:OpR X (B1 .Lt) rLtA:=op_lt.or jt3
def rLeA:R2:=λx y H Q=>(rI0 λi j=>.bl (decide (i<=j))) x y H Q\/∃i j,x=.str i/\y=.str j/\Q (.bl (!decide (j.cps.toList < i.cps.toList))) H
theorem jzk:OpR X (B1 .LtE) rLeA:=op_le.or jt4
def rGtA:R2:=λx y H Q=>(rI0 λi j=>.bl (decide (j < i))) x y H Q\/∃i j,x=.str i/\y=.str j/\Q (.bl (decide (j.cps.toList < i.cps.toList))) H
theorem jt7:OpR X (B1 .Gt) rGtA:=op_gt.or jt6
theorem jhg:SndO rLtA gLt:=jo9 (f:=λi j=>decide (i < j)) (h:=λi j=>decide (i < j))
theorem jy3:SndO rLeA gLe:=jo9 (f:=λi j=>decide (i<=j)) (h:=λi j=>!decide (j < i))
theorem js7:SndO rGtA gGt:=jo9 (f:=λi j=>decide (j < i)) (h:=λi j=>decide (j < i))
def eqD:Ae->Ae->Option Bool
 |.none,.none=>some true
 |.none,.int _=>some false
 |.int _,.none=>some false
 |.none,.bool _=>some false
 |.bool _,.none=>some false
 |.none,.str _=>some false
 |.str _,.none=>some false
 |.int i,.int j=>some (decide (i=j))
 |.bool i,.bool j=>some (decide (i=j))
 |.str i,.str j=>some (decide (i=j))
 |.int _,.str _=>some false
 |.str _,.int _=>some false
 |.bool _,.str _=>some false
 |.str _,.bool _=>some false
 |.list _,.str _=>some false
 |.tuple _,.str _=>some false
 |.dict _,.str _=>some false
 |.list xs,.list []=>some xs.isEmpty
 |_,_=>none
def jwr:R2:=λx y H Q=>∃d h B,RdX H B x d/\y=.str h/\Q (.bl (jbc h d)) H
theorem jmr (x y:Str):decide (V.str x=V.str y)=decide (x=y):=by
 by_cases z:x=y
 ·rw[z,decide_eq_true rfl,decide_eq_true rfl]
 ·rw[decide_eq_false z,decide_eq_false λw=>z (V.str.inj w)]
theorem jq6 (x y:Int):decide (V.int x=V.int y)=decide (x=y):=by
 by_cases z:x=y
 ·rw[z,decide_eq_true rfl,decide_eq_true rfl]
 ·rw[decide_eq_false z,decide_eq_false λw=>z (V.int.inj w)]
theorem ju7 (x y:Bool):decide (V.bl x=V.bl y)=decide (x=y):=by
 by_cases z:x=y
 ·rw[z,decide_eq_true rfl,decide_eq_true rfl]
 ·rw[decide_eq_false z,decide_eq_false λw=>z (V.bl.inj w)]
theorem j1m (hu:X.A.units < E2):OpR X (B1 .Eq) jwr:=by
 intro pins s σ H x y v u Q I rx ry h;obtain⟨d,hh,B,hd,rfl,q⟩:=h;cases hd with
 |non=>exact op_eq pins s σ H _ _ v u Q I rx ry ⟨rfl,q⟩
 |bl b=>exact op_eq pins s σ H _ _ v u Q I rx ry ⟨rfl,q⟩
 |int i=>exact op_eq pins s σ H _ _ v u Q I rx ry ⟨rfl,q⟩
 |str x hx =>
  refine op_eq pins s σ H _ _ v u Q I rx ry ⟨rfl,?_⟩;rw[jmr];exact q
 |@lst a xs ds h1 h2 h3 h4 =>
  cases(show v=A8 a from rx);obtain⟨t,rfl⟩:=(show ∃t,u=Value.str hh t from ry);obtain⟨its,_,p,_⟩:=I.list (SqL.of (K:=X.K) h1);exact PySem.SeqAt.RcAt.list_str hh t p.isList hu _ _ _ _ ⟨.bl false,H,I,rfl,q⟩
 |@tup a xs ds h1 h2 h3 h4 =>
  cases(show v=A8 a from rx);obtain⟨t,rfl⟩:=(show ∃t,u=Value.str hh t from ry);obtain⟨its,_,p,_⟩:=I.tuple (SqT.of (K:=X.K) h1);exact PySem.SeqAt.RcAt.tuple_str hh t (show s.heap.IsTuple a its.toArray from p) hu _ _ _ _ ⟨.bl false,H,I,rfl,q⟩
def gEq:Wv->Wv->Int->DQ->Prop:=λx y n Q=>match x,y with
 |.d a,.d b=>match eqD a b with
  |some r=>Q (.d (.bool r)) n
  |none=>False
 |_,_=>False
theorem j4l (hu:X.A.units < E2):OpR X (B1 .Eq) (λx y H Q=>rEq x y H Q\/jwr x y H Q\/jqh X.K x y H Q):=op_eq.or ((j1m hu).or (jw5 hu))
theorem j3d {K:Ah}:SndO (λx y H Q=>rEq x y H Q\/jwr x y H Q\/jqh K x y H Q) gEq:=λC H B σ δ n x y p q Q Q' R rx ry h1 k=>by
 unfold gEq at h1
 split at h1
 ·rename_i da db;have rx:RdX H B x da:=rx;have ry:RdX H B y db:=ry;have fin:∀r:Bool,Q (.d (.bool r)) n->Q' (.bl r) H:=λr q=>k _ _ H n R (Kp.refl _ _) (wd (.bl r)) q
  split at h1
  ·rename_i r er;have h1:=fin r h1;cases rx with
   |non=>cases ry<;>first | (cases er;done) | (cases er;exact .inl ⟨rfl,h1⟩)
   |bl i=>cases ry<;>first | (cases er;done) | (cases er;exact .inl ⟨rfl,by first | exact h1 | (rw[ju7];exact h1)⟩)
   |int i=>cases ry<;>first | (cases er;done) | (cases er;exact .inl ⟨rfl,by first | exact h1 | (rw[jq6];exact h1)⟩)
   |str i hi=>cases ry<;>first | (cases er;done) | (cases er;exact .inl ⟨rfl,by first | exact h1 | (rw[jmr];exact h1)⟩)
   |@lst ax xs ds e1 e2 e3 e4 =>
    cases ry with
    |str j hj=>cases er;exact .inr (.inl ⟨_,j,B,.lst e1 e2 e3 e4,rfl,h1⟩)
    |@lst ay ys es f1 f2 f3 f4 =>
     cases f4 with
     |nil =>
      have er:some ds.isEmpty=some r:=er;cases er;refine .inr (.inr ⟨ax,ay,xs,rfl,rfl,SqL.of e1,SqL.of f1,?_⟩);have:xs.isEmpty=ds.isEmpty:=by cases e4<;>rfl
      rw[this];exact h1
     |cons _ _=>cases er
    |_=>cases er
   |@tup ax xs ds e1 e2 e3 e4 =>
    cases ry with
    |str j hj=>cases er;exact .inr (.inl ⟨_,j,B,.tup e1 e2 e3 e4,rfl,h1⟩)
    |_=>cases er
  ·exact h1.elim
 ·exact h1.elim
def neD (a b:Ae):Option Bool:=match a,b with
 |.list _,_=>none
 |.tuple _,_=>none
 |a,b=>(eqD a b).map not
def gNe:Wv->Wv->Int->DQ->Prop:=λx y n Q=>match x,y with
 |.d a,.d b=>match neD a b with
  |some r=>Q (.d (.bool r)) n
  |none=>False
 |_,_=>False
theorem jk4:SndO rNe gNe:=λC H B σ δ n x y p q Q Q' R rx ry h1 k=>by
 unfold gNe at h1
 split at h1
 ·rename_i da db;have rx:RdX H B x da:=rx;have ry:RdX H B y db:=ry;have fin:∀r:Bool,Q (.d (.bool r)) n->Q' (.bl r) H:=λr q=>k _ _ H n R (Kp.refl _ _) (wd (.bl r)) q
  split at h1
  ·rename_i r er;have h1:=fin r h1;cases rx with
   |non=>cases ry<;>first | (cases er;done) | (cases er;exact⟨rfl,h1⟩)
   |bl i=>cases ry<;>first | (cases er;done) | (cases er;exact⟨rfl,by first | exact h1 | (rw[ju7];exact h1)⟩)
   |int i=>cases ry<;>first | (cases er;done) | (cases er;exact⟨rfl,by first | exact h1 | (rw[jq6];exact h1)⟩)
   |str i hi=>cases ry<;>first | (cases er;done) | (cases er;exact⟨rfl,by first | exact h1 | (rw[jmr];exact h1)⟩)
   |lst _ _ _ _=>cases er
   |tup _ _ _ _=>cases er
  ·exact h1.elim
 ·exact h1.elim
def jcs:Ae->Bool
 |.none=>true
 |_=>false
def gIsN (neg:Bool):Wv->Wv->Int->DQ->Prop:=λx y n Q=>match x,y with
 |.d a,.d .none=>Q (.d (.bool (if neg then !jcs a else jcs a))) n
 |_,_=>False
theorem jqs {H:Hp} {B:Addr->Prop} {v:V} {d:Ae} (h:RdX H B v d):decide (v=.non)=jcs d:=by cases h<;>rfl
theorem jeg:SndO (λx y H Q=>y=.non/\Q (.bl (decide (x=.non))) H) (gIsN false):=λC H B σ δ n x y p q Q Q' R rx ry h1 k=>by
 unfold gIsN at h1
 split at h1
 ·rename_i da;cases(show RdX H B y .none from ry);exact⟨rfl,k _ _ H n R (Kp.refl _ _) (wd (show RdX H B _ (.bool (jcs da))from by rw[jqs rx];exact .bl _)) h1⟩
 ·exact h1.elim
theorem jfa:SndO (λx y H Q=>y=.non/\Q (.bl (!decide (x=.non))) H) (gIsN true):=λC H B σ δ n x y p q Q Q' R rx ry h1 k=>by
 unfold gIsN at h1
 split at h1
 ·rename_i da;cases(show RdX H B y .none from ry);exact⟨rfl,k _ _ H n R (Kp.refl _ _) (wd (show RdX H B _ (.bool (!jcs da))from by rw[jqs rx];exact .bl _)) h1⟩
 ·exact h1.elim
def jeu:Ae->Bool
 |.none=>true
 |.bool _=>true
 |.int _=>true
 |.str _=>true
 |_=>false
def eqF:Ae->Ae->Bool
 |.none,.none=>true
 |.bool a,.bool b=>a==b
 |.bool a,.int b=>(if a then 1 else 0)==b
 |.int a,.bool b=>a==(if b then 1 else 0)
 |.int a,.int b=>a==b
 |.str a,.str b=>a==b
 |_,_=>false
def inD (x:Ae) (ds:List Ae):Bool:=ds.any λy=>eqF y x
theorem jg2 {H:Hp} {B:Addr->Prop} {v:V} {d:Ae} (h:RdX H B v d) (f:jeu d=true):jia v=true:=by cases h<;>first | rfl | cases f
theorem jd1 {H:Hp} {B:Addr->Prop}:∀{vs:List V} {ds:List Ae},RdXs H B vs ds->ds.all jeu=true->vs.all jia=true
 |_,_,.nil,_=>rfl
 |_,_,.cons h r,f=>by
  rw[List.all_cons,Cn]at f ⊢;exact⟨jg2 h f.1,jd1 r f.2⟩
theorem j5k {H:Hp} {B:Addr->Prop} {v u:V} {d e:Ae} (h:RdX H B v d) (h2:RdX H B u e):eqV v u=eqF d e:=by cases h<;>cases h2<;>rfl
theorem jlj {H:Hp} {B:Addr->Prop} {v:V} {d:Ae} (h:RdX H B v d):∀{vs:List V} {ds:List Ae},RdXs H B vs ds->inV v vs=inD d ds
 |_,_,.nil=>rfl
 |_,_,.cons h1 r=>by
  have:=jlj h r;unfold inV inD at this ⊢;rw[C1,C1,this,j5k h1 h]
def gIn (neg:Bool):Wv->Wv->Int->DQ->Prop:=λx y n Q=>match x,y with
 |.d a,.d (.tuple ds)=>jeu a=true/\ds.all jeu=true/\Q (.d (.bool (if neg then !inD a ds else inD a ds))) n
 |.d a,.d (.list ds)=>jeu a=true/\ds.all jeu=true/\Q (.d (.bool (if neg then !inD a ds else inD a ds))) n
 |_,_=>False
theorem jdp {K:Ah} {neg:Bool}:SndO (rIn K neg) (gIn neg):=λC H B σ δ n x y p q Q Q' R rx ry h1 k=>by
 unfold gIn at h1
 split at h1
 ·rename_i da ds;obtain⟨f1,f2,q⟩:=h1;have rx:RdX H B x da:=rx;cases(show RdX H B y (.tuple ds)from ry)with
  |@tup ay ys _ e1 e2 e3 e4 =>
   refine⟨ay,ys,rfl,.inr (SqT.of e1),jg2 rx f1,jd1 e4 f2,?_⟩;rw[jlj rx e4];exact k _ _ H n R (Kp.refl _ _) (wd (.bl _)) q
 ·rename_i da ds;obtain⟨f1,f2,q⟩:=h1;have rx:RdX H B x da:=rx;cases(show RdX H B y (.list ds)from ry)with
  |@lst ay ys _ e1 e2 e3 e4 =>
   refine⟨ay,ys,rfl,.inl (SqL.of e1),jg2 rx f1,jd1 e4 f2,?_⟩;rw[jlj rx e4];exact k _ _ H n R (Kp.refl _ _) (wd (.bl _)) q
 ·exact h1.elim
def gIx:Wv->Wv->Int->DQ->Prop:=λx y n Q=>match x,y with
 |.d (.list ds),.d (.int i)=>match atI ds i with
  |some d=>Q (.d d) n
  |none=>False
 |.d (.tuple ds),.d (.int i)=>match atI ds i with
  |some d=>Q (.d d) n
  |none=>False
 |.d (.str z),.d (.int i)=>match atI z.cps.toList i with
  |some c=>Q (.d (.str ⟨#[c]⟩)) n
  |none=>False
 |_,_=>False
theorem jvm {H:Hp} {B:Addr->Prop} {vs:List V} {ds:List Ae} {i:Int} {d:Ae} (r:RdXs H B vs ds) (h:atI ds i=some d):∃v,atI vs i=some v/\RdX H B v d:=by
 unfold atI at h ⊢;rw[r.len];cases e:ixN ds.length i with
 |none=>rw[e]at h;cases h
 |some j =>
  rw[e]at h;exact r.getD h
theorem jni {K:Ah}:SndO (rIx K) gIx:=λC H B σ δ n x y p q Q Q' R rx ry h1 k=>by
 unfold gIx at h1
 split at h1
 ·rename_i ds i
  split at h1
  ·rename_i d e;cases(show RdX H B y (.int i)from ry);cases(show RdX H B x (.list ds)from rx)with
   |@lst ay ys _ e1 e2 e3 e4 =>
    obtain⟨v,f1,f2⟩:=jvm e4 e;exact .inl ⟨ay,ys,i,v,rfl,rfl,SqL.of e1,f1,k _ _ H n R (Kp.refl _ _) (wd f2) h1⟩
  ·exact h1.elim
 ·rename_i ds i
  split at h1
  ·rename_i d e;cases(show RdX H B y (.int i)from ry);cases(show RdX H B x (.tuple ds)from rx)with
   |@tup ay ys _ e1 e2 e3 e4 =>
    obtain⟨v,f1,f2⟩:=jvm e4 e;exact .inr (.inl ⟨ay,ys,i,v,rfl,rfl,SqT.of e1,f1,k _ _ H n R (Kp.refl _ _) (wd f2) h1⟩)
  ·exact h1.elim
 ·rename_i z i
  split at h1
  ·rename_i c e;cases(show RdX H B y (.int i)from ry);cases(show RdX H B x (.str z)from rx)with
   |str _ hz=>exact .inr (.inr ⟨z,i,c,rfl,rfl,hz,e,k _ _ H n R (Kp.refl _ _) (wd (show RdX H B _ (.str ⟨#[c]⟩)from .str _ (by show 1<=A1;decide))) h1⟩)
  ·exact h1.elim
 ·exact h1.elim
theorem d_ix (ha:DE X a ta wa) (hb:DE X b tb wb) (hs:jm5 b:=by exact λ_ _=>rfl):DE X (.Subscript a b pos) (tOp (rIx X.K) ta tb) (w2 wa wb gIx):=⟨jh3 jum ha.pe hb.pe hs,jnh jni ha.sd hb.sd⟩
def gLen:List Wv->Int->DQ->Prop:=λxs n Q=>match xs with
 |[.d (.str x)]=>Q (.d (.int x.length)) n
 |[.d (.list ds)]=>Q (.d (.int ds.length)) n
 |[.d (.tuple ds)]=>Q (.d (.int ds.length)) n
 |_=>False
theorem jvi:CallR X (.builtin "len") (λxs H Q=>(∃z,xs=[.str z]/\z.length<=A1/\Q (.int z.length) H)\/∃p ys,xs=[.ref p]/\(SqL X.K H p ys\/SqT X.K H p ys)/\Q (.int ys.length) H):=call_len_str.or jdh
theorem j0o {K:Ah}:SndB (λxs H Q=>(∃z,xs=[.str z]/\z.length<=A1/\Q (.int z.length) H)\/∃p ys,xs=[.ref p]/\(SqL K H p ys\/SqT K H p ys)/\Q (.int ys.length) H) gLen:=λC H B σ δ n vs xs Q Q' R r h k=>by
 unfold gLen at h
 split at h
 ·rename_i x;cases r with
  |cons r1 r2 =>
   cases r2;cases(show RdX H B _ (.str x)from r1)with
   |str _ hz=>exact .inl ⟨x,rfl,hz,k _ _ H n R (Kp.refl _ _) (wd (.int _)) h⟩
 ·rename_i ds;cases r with
  |cons r1 r2 =>
   cases r2;cases(show RdX H B _ (.list ds)from r1)with
   |@lst ay ys _ e1 e2 e3 e4 =>
    refine .inr ⟨ay,ys,rfl,.inl (SqL.of e1),?_⟩;rw[e4.len];exact k _ _ H n R (Kp.refl _ _) (wd (.int _)) h
 ·rename_i ds;cases r with
  |cons r1 r2 =>
   cases r2;cases(show RdX H B _ (.tuple ds)from r1)with
   |@tup ay ys _ e1 e2 e3 e4 =>
    refine .inr ⟨ay,ys,rfl,.inr (SqT.of e1),?_⟩;rw[e4.len];exact k _ _ H n R (Kp.refl _ _) (wd (.int _)) h
 ·exact h.elim
theorem j2x {K:Ah} {H:Hp} {B:Addr->Prop} {v:V} {d:Ae} (h:RdX H B v d):TyOf K H v (.type (tyD d)):=by
 cases h with
 |non=>exact .non
 |bl b=>exact .bl b
 |int i=>exact .int i
 |str x h=>exact .str x
 |lst h1 h2 h3 h4=>exact .lst h1
 |tup h1 h2 h3 h4=>exact .tup h1
theorem j6l {K:Ah} {H:Hp} {B:Addr->Prop} {v:V} {d:Ae} (h:RdX H B v d) {T:String} (hT:T="int"\/T="bool"\/T="str"\/T="tuple"\/T="list"):PySem.W.kitOne K (.type (tyD d)) (.type T)=some (isiB T d):=by
 cases h<;>rcases hT with rfl | rfl | rfl | rfl | rfl<;>rfl
def wIsi (T:String) (w:DT):DT:=λδ n Q=>w δ n λx n1=>match x with
 |.d d=>Q (.d (.bool (isiB T d))) n1
 |_=>False
theorem j60 {T:String} {x:Str} {p p2:Pos} (hT:T="int"\/T="bool"\/T="str"\/T="tuple"\/T="list") (hg:Gl X "isinstance") (hm:X.mg "isinstance"=none) (hg2:Gl X x) (hm2:X.mg x=none) (hv:B7 x=some (.type T)) (ha:DE X a ta wa) (hn:x≠"__name__":=by decide) (hdb:(x==("__debug__":Str))=false:=by decide)
  (he:Az [a,.Name x p2] X.env=(false,eval a X.env)::Az [.Name x p2] X.env:=by rfl) (he2:Az [.Name x p2] X.env=(false,eval (.Name x p2) X.env)::Az [] X.env:=by rfl) (hpl:(Dd pos (Az [.Name x p2] X.env)).any (·.1)=false:=by rfl) :
  DE X (.Call (.Name "isinstance" p) [a,.Name x p2] [] pos) (tCB (λxs H Q=>∃x t b,xs=[x,.ty T]/\TyOf X.K H x t/\PySem.W.kitOne X.K t (.type T)=some b/\Q (.bl b) H) (jcv ta (jcv (tC (.ty T)) tNil))) (wIsi T wa) :=
 ⟨jdd (jyg (T:=T)) hg hm j5z (ja0 ha.pe (ja0 (j1i (v:=.ty T) hg2 hm2 hv rfl hn hdb) jb0 he2) he) (by decide) (by decide) he hpl,λC H B σ δ n Q Q' R q k=>ha.sd C H B σ δ n _ _ R q λv x H1 n1 R1 k1 r1 q1=>by
  cases x with
  |d d=>exact⟨v,_,_,rfl,j2x r1,j6l (show RdX H1 B v d from r1) hT,k _ _ H1 n1 R1 k1 (wd (.bl _)) q1⟩
  |tp=>exact q1.elim
  |dk _=>exact q1.elim
  |ln _=>exact q1.elim
  |ob _=>exact q1.elim⟩
def j7f:List Wv->Int->DQ->Prop:=λxs n Q=>match xs with
 |[.d (.list ds)]=>j54 (.list ds)/\Q (.d (.str (PyData.shown (.list ds)))) n
 |[.d (.tuple ds)]=>j54 (.tuple ds)/\Q (.d (.str (PyData.shown (.tuple ds)))) n
 |_=>False
def jdf:List Wv->Int->DQ->Prop:=λxs n Q=>match xs with
 |[.d (.list ds)]=>Q (.d (.tuple ds)) n
 |[.d (.tuple ds)]=>Q (.d (.tuple ds)) n
 |_=>False
theorem js4 {K:Ah}:SndB (λxs H Q=>∃p ys,xs=[.ref p]/\((SqL K H p ys/\∀l,H l=none->Q (.ref l) (upd H l (.tup ys)))\/(SqT K H p ys/\Q (.ref p) H))) jdf:=λC H B σ δ n vs xs Q Q' R r h k=>by
 unfold jdf at h
 split at h
 ·rename_i ds;cases r with
  |cons r1 r2 =>
   cases r2;cases(show RdX H B _ (.list ds)from r1)with
   |@lst ay ys _ e1 e2 e3 e4 =>
    refine⟨ay,ys,rfl,.inl ⟨SqL.of e1,λl hl=>?_⟩⟩;exact k _ _ _ n (R.new hl) (Kp.new hl) (wd (show RdX _ B _ (.tuple ds)from .tup jap (R.nb hl) e3 ((e4.fresh hl).less λb z=>.inl z))) h
 ·rename_i ds;cases r with
  |cons r1 r2 =>
   cases r2;cases(show RdX H B _ (.tuple ds)from r1)with
   |@tup ay ys _ e1 e2 e3 e4=>exact⟨ay,ys,rfl,.inr ⟨SqT.of e1,k _ _ H n R (Kp.refl _ _) (wd (show RdX H B _ (.tuple ds)from .tup e1 e2 e3 e4)) h⟩⟩
 ·exact h.elim
end
structure ItOk (fz:Hp) (J:It) (ds:List Ae):Prop where
 le:ds.length<=A1
 go:∀i H,(∀b o,fz b=some o->H b=some o)->i < ds.length->J.go i H
 stop:∀H,(∀b o,fz b=some o->H b=some o)->J.stop ds.length H
 yld:∀i H x H' d,(∀b o,fz b=some o->H b=some o)->ds[i]?=some d->J.yld i H x H'->Same H H'/\∀B,(∀b o,fz b=some o->¬B b)->(∀b,B b->H b≠none)->RdX H' B x d
def thaw (H:Hp) (B:Addr->Prop) (fz:Hp):Prop:=(∀b o,fz b=some o->H b=some o/\¬B b)/\∀b o,H b=some o->¬B b->fz b=some o
abbrev DTI:=Sl->Int->(List Ae->Int->Prop)->Prop
def SndI (wi:TI) (v:DTI):Prop:=∀(C:Ctx) (H:Hp) (B:Addr->Prop) (σ:St) (δ:Sl) (n:Int) (Q:List Ae->Int->Prop) (Q':It->Hp->Prop),Rel C H B σ δ n->v δ n Q ->
 (∀J ds H' n',Rel C H' B σ δ n'->Kp C.t H H'->(∀fz,thaw H' B fz->ItOk fz J ds)->Q ds n'->Q' J H')->wi σ H Q'
structure DI (X:Cx) (tg iter:Expr) (wi:TI) (v:DTI):Prop where
 pi:PI X tg iter wi
 sd:SndI wi v
section
variable {X:Cx} {tg a b c e:Expr} {ta tb te:TE} {wa wb we:DT} {pos p:Pos}
def jkj (w:DT):DTI:=λδ n Q=>w δ n λx n1=>match x with
 |.d (.list ds)=>Q ds n1
 |_=>False
def jdi (w:DT):DTI:=λδ n Q=>w δ n λx n1=>match x with
 |.d (.tuple ds)=>Q ds n1
 |_=>False
theorem j48 (ha:DE X a ta wa):DI X tg a (j10 X.K ta) (jkj wa):=⟨j09 ha.pe,λC H B σ δ n Q Q' R q k=>ha.sd C H B σ δ n _ _ R q λv x H1 n1 R1 k1 r1 q1=>by
 split at q1
 ·rename_i ds;cases(show RdX H1 B v (.list ds)from r1)with
  |@lst ay ys _ e1 e2 e3 e4 =>
   refine⟨ay,rfl,⟨ys,SqL.of e1⟩,k _ ds H1 n1 R1 k1 (λfz th=>?_) q1⟩;have hfz:fz ay=some (.lst ys):=th.2 _ _ e1 e2;refine⟨by rw[<-e4.len];exact e3,λi H hH hi=>?_,λH hH=>?_,λi H x H' d hH hd hy=>?_⟩
   ·rw[<-e4.len]at hi;exact⟨ys,ys[i],SqL.of (hH _ _ hfz),Ag hi⟩
   ·exact⟨ys,SqL.of (hH _ _ hfz),by rw[e4.len];exact Al _⟩
   ·obtain⟨rfl,hy⟩:=hy;refine⟨λ_ _ z=>z,λB' hB hBa=>?_⟩;obtain⟨u,hu,ru⟩:=e4.getD hd;have:=hy _ (SqL.of (hH _ _ hfz));rw[hu]at this;cases this;exact ru.move λb o e ne=>⟨hH _ _ (th.2 _ _ e ne),hB _ _ (th.2 _ _ e ne)⟩
 ·exact q1.elim⟩
theorem j6q (ha:DE X a ta wa):DI X tg a (iTup X.K ta) (jdi wa):=⟨j39 ha.pe,λC H B σ δ n Q Q' R q k=>ha.sd C H B σ δ n _ _ R q λv x H1 n1 R1 k1 r1 q1=>by
 split at q1
 ·rename_i ds;cases(show RdX H1 B v (.tuple ds)from r1)with
  |@tup ay ys _ e1 e2 e3 e4 =>
   refine⟨ay,rfl,⟨ys,SqT.of e1⟩,k _ ds H1 n1 R1 k1 (λfz th=>?_) q1⟩;have hfz:fz ay=some (.tup ys):=th.2 _ _ e1 e2;refine⟨by rw[<-e4.len];exact e3,λi H hH hi=>?_,λH hH=>?_,λi H x H' d hH hd hy=>?_⟩
   ·rw[<-e4.len]at hi;exact⟨ys,ys[i],SqT.of (hH _ _ hfz),Ag hi⟩
   ·exact⟨ys,SqT.of (hH _ _ hfz),by rw[e4.len];exact Al _⟩
   ·obtain⟨rfl,hy⟩:=hy;refine⟨λ_ _ z=>z,λB' hB hBa=>?_⟩;obtain⟨u,hu,ru⟩:=e4.getD hd;have:=hy _ (SqT.of (hH _ _ hfz));rw[hu]at this;cases this;exact ru.move λb o e ne=>⟨hH _ _ (th.2 _ _ e ne),hB _ _ (th.2 _ _ e ne)⟩
 ·exact q1.elim⟩
def rngD (lo:Int) (n:Nat):List Ae:=(Bs n).map λi=>.int (lo+(i:Nat))
def ja1 (w:DT):DTI:=λδ n Q=>w δ n λx n1=>match x with
 |.d (.int j)=>(-(2 ^ 62)<=j/\j<=1000000)/\Q (rngD 0 j.toNat) n1
 |_=>False
theorem jxo (fz:Hp) (lo:Int) (n:Nat) (hn:n<=1000000):ItOk fz (Itr lo n) (rngD lo n):=by
 have hl:(rngD lo n).length=n:=by unfold rngD;simp
 refine⟨?_,λi H hH hi=>?_,λH hH=>?_,λi H y H' d hH hd hy=>?_⟩
 ·rw[hl];exact Ba hn (by decide)
 ·rw[hl]at hi;exact hi
 ·show n<=(rngD lo n).length;rw[hl];exact Al _
 ·obtain⟨rfl,rfl⟩:=hy;refine⟨λ_ _ z=>z,λB' hB hBa=>?_⟩;unfold rngD at hd;rw[A0]at hd;cases e:(Bs n)[i]? with
  |none=>rw[e]at hd;cases hd
  |some j =>
   rw[e]at hd;have:j=i:=by
    obtain⟨h1,h2⟩:=Ay.mp e;rw[List.getElem_range]at h2;exact h2.symm
   subst this;cases hd;exact .int _
theorem jbs {p:Pos} (hg:Gl X "range") (hm:X.mg "range"=none) (ha:DE X a ta wa) (hs:Az [a] X.env=[(false,eval a X.env)]:=by rfl):DI X tg (.Call (.Name "range" p) [a] [] pos) (j5b (jcv ta tNil)) (ja1 wa):=⟨jty hg hm (ja0 ha.pe jb0 hs) hs,λC H B σ δ n Q Q' R q k=>ha.sd C H B σ δ n _ _ R q λv x H1 n1 R1 k1 r1 q1=>by
 split at q1
 ·rename_i j;cases(show RdX H1 B v (.int j)from r1);refine⟨j,rfl,q1.1.1,by have:=q1.1.2;have:(2:Int)^62=4611686018427387904:=(by decide);omega,k _ (rngD 0 j.toNat) H1 n1 R1 k1 (λfz _=>jxo fz 0 j.toNat (by have:=q1.1.2;omega)) q1.2⟩
 ·exact q1.elim⟩
end
abbrev DTG:=Ae->Sl->(Sl->Prop)->Prop
def SndG (g:TG) (v:DTG):Prop:=∀(C:Ctx) (H:Hp) (B:Addr->Prop) (σ:St) (δ:Sl) (n:Int) (x:V) (d:Ae) (Q:Sl->Prop) (Q':St->Hp->Prop),Rel C H B σ δ n->RdX H B x d->v d δ Q ->
 (∀σ' δ',Rel C H B σ' δ' n->Q δ'->Q' σ' H)->g x σ H Q'
structure DG (X:Cx) (tg:Expr) (g:TG) (v:DTG):Prop where
 pg:PG X tg g
 sd:SndG g v
section
variable {X:Cx} {pos:Pos}
def jak (i:Nat):DTG:=λd δ Q=>Q (δ.set i (some (.w (.d d))))
theorem ja4 {i:Nat} {x:Str} (hN:X.N.Nodup) (hi:X.N[i]?=some x) (hx:Loc X.env.scope x) (hf:X.fn x=true\/X.env.scope.names.lookup x=some .local:=by first | exact .inl rfl | exact .inr rfl | assumption):DG X (.Name x pos) (jg0 i) (jak i) :=
 ⟨j1c hN hi hx hf,λC H B σ δ n x d Q Q' R r q k=>k _ _ (R.set (x:=.d d) r rfl) q⟩
end
def forD (g:DTG) (W:DST) (K:DEnds):List Ae->Sl->Int->Prop
 |[],δ,n=>K.nx δ n
 |d::r,δ,n=>g d δ λδ'=>W δ' n {K with nx:=forD g W K r,ct:=forD g W K r,bk:=K.nx}
def sFor (v:DTI) (g:DTG) (W:DST):DST:=λδ n K=>v δ n λds n1=>forD g W K ds δ n1
def fzOf (H:Hp) (B:Addr->Prop):Hp:=λb=>open Classical in if B b then none else H b
theorem jil (H:Hp) (B:Addr->Prop):thaw H B (fzOf H B):=by
 refine⟨λb o e=>?_,λb o e n=>?_⟩
 ·unfold fzOf at e
  split at e
  ·cases e
  ·rename_i h;exact⟨e,h⟩
 ·unfold fzOf;rw[if_neg n];exact e
theorem Rel.refz {C:Ctx} {H:Hp} {B:Addr->Prop} {σ:St} {δ:Sl} {n:Int} (R:Rel C H B σ δ n):Rel {C with fz:=fzOf H B} H B σ δ n :=
 ⟨R.tp,R.kp,R.t0,R.l0,R.g0,(jil H B).1,R.bt,R.b0,R.ba,R.a0,R.sl,R.ow,R.len⟩
theorem Rel.unfz {C:Ctx} {fz:Hp} {H:Hp} {B:Addr->Prop} {σ:St} {δ:Sl} {n:Int} (R:Rel {C with fz:=fz} H B σ δ n) (h:∀b o,C.fz b=some o->fz b=some o):Rel C H B σ δ n :=
 ⟨R.tp,R.kp,R.t0,R.l0,R.g0,λb o e=>R.fz b o (h b o e),R.bt,R.b0,R.ba,R.a0,R.sl,R.ow,R.len⟩
theorem Rel.same {C:Ctx} {H H':Hp} {B:Addr->Prop} {σ:St} {δ:Sl} {n:Int} (R:Rel C H B σ δ n) (k:Same H H'):Rel C H' B σ δ n:=by
 obtain⟨a,b,e,h⟩:=R.tp.ob;exact R.step ⟨⟨a,b,k _ _ e,h⟩,k _ _ R.tp.ls,R.tp.len,λz=>k _ _ (R.tp.ag z),R.tp.gne⟩ λb o e _=>k b o e
section
variable {X:Cx} {tg iter:Expr} {body:List Stmt} {wi:TI} {v:DTI} {g:TG} {gd:DTG} {T:TS} {W:DST} {pos:Pos}
theorem jed (hi:DI X tg iter wi v) (hg:DG X tg g gd) (hb:DSs X body T W) (hp:PassesOwn (A9 X.prog X.w) X.A X.env X.xe:=by exact PassesOwn.never) (hc:X.calm=true:=by rfl)
  (hs:∀x,Ec iter X.env x=pure x:=by intro _;rfl):DS X (.For tg iter body [] pos) (tFor wi g T) (sFor v gd W):=⟨j37 hp hc hi.pi hg.pg hb.ps hs,λC H B σ δ n K D R q E =>
 hi.sd C H B σ δ n _ _ R q λJ ds H1 n1 R1 k1 hJ q1=>by
  have ok:=hJ (fzOf H1 B) (jil H1 B);have R1':=R1.refz;have back:∀{H B' σ δ n},Rel {C with fz:=fzOf H1 B} H B' σ δ n->Rel C H B' σ δ n:=λR=>R.unfz λb o e=>(jil H1 B).2 b o (R1.fz b o e).1 (R1.fz b o e).2;refine⟨λi m σ H=>m=ds.length - i/\i<=ds.length/\∃B' δ n,Rel {C with fz:=fzOf H1 B} H B' σ δ n/\forD gd W K (ds.drop i) δ n,⟨ds.length,by simp,Bj _,B,δ,n1,R1',by simpa using q1⟩,?_⟩
  rintro i m σ2 H2 ⟨rfl,hi,B2,δ2,n2,R2,q2⟩
  have hfz:∀b o,fzOf H1 B b=some o->H2 b=some o:=λb o e=>(R2.fz b o e).1;by_cases hlt:i < ds.length
  ·rw[Fb hlt]at q2;refine .inr ⟨ok.go i H2 hfz hlt,λσ3 H3=>∃B' δ n,Rel {C with fz:=fzOf H1 B} H3 B' σ3 δ n/\forD gd W K (ds.drop (i+1)) δ n,λσ' H' z=>⟨ds.length - (i+1),by omega,rfl,hlt,z⟩,λx H' hy=>?_⟩;obtain⟨sm,rd⟩:=ok.yld i H2 x H' ds[i] hfz (Ag hlt) hy;have R3:=R2.same sm;refine hg.sd _ H' B2 σ2 δ2 n2 x ds[i] _ _ R3 (rd B2 (λb o e=>(R2.fz b o e).2) R2.ba) q2 λσ' δ' R4 q4=>?_;refine hb.sd _ H' B2 σ' δ' n2 _ _ R4 q4 ⟨?_,?_,?_,?_,λH B σ δ n a xs ds R h0 h1 h2 h3 q=>E.rn H B σ δ n a xs ds (back R) h0 h1 h2 h3 q⟩
   ·exact λH B σ δ n R q=>⟨B,δ,n,R,q⟩
   ·exact λH B σ δ n v w R r q=>E.rt H B σ δ n v w (back R) r q
   ·exact λH B σ δ n R q=>E.nx H B σ δ n (back R) q
   ·exact λH B σ δ n R q=>⟨B,δ,n,R,q⟩
  ·have e:i=ds.length:=by omega
   subst e;rw[List.drop_length]at q2;exact .inl ⟨ok.stop H2 hfz,E.nx H2 B2 σ2 δ2 n2 (back R2) q2⟩⟩
end
def jmt (fr:List (Option Nat)) (δ:Sl):Sl:=fr.map λo=>o.bind λi=>match δ[i]? with
 |some (some (.w x))=>some (.w x)
 |some (some (.odk kvs))=>some (.w (.dk kvs))
 |some (some (.own ds))=>some (.w (.ln ds))
 |_=>none
def jco (g:DTG) (c:DTT) (w:DT) (Q:List Ae->Int->Prop):List Ae->List Ae->Sl->Int->Prop
 |[],acc,_,n=>Q acc n
 |d::r,acc,δ,n=>g d δ λδ'=>c δ' n λb n1=>if b=true then w δ' n1 λx n2=>match x with
   |.d y=>jco g c w Q r (acc++[y]) δ' n2
   |_=>False
  else jco g c w Q r acc δ' n1
def jb6 (fr:List (Option Nat)) (v:DTI) (g:DTG) (c:DTT) (w:DT):DTF:=λδ n Q=>v δ n λds n1=>jco g c w Q ds [] (jmt fr δ) n1
structure DIf (X:Cx) (ifs:List Expr) (t:TT) (c:DTT):Prop where
 pf:PIf X ifs t
 sd:SndT t c
def cYes:DTT:=λ_ n Q=>Q true n
theorem jq1 {X:Cx}:DIf X [] j23 cYes:=⟨j07,λC H B σ δ n Q Q' R q k=>k true H n R (Kp.refl _ _) q⟩
theorem jhw {X:Cx} {c:Expr} {t:TT} {cc:DTT} (h:DC X c t cc):DIf X [c] t cc:=⟨j06 h.pt,h.sd⟩
theorem jyd (fr:List (Option Nat)) (σ:St):(capt fr σ).length=fr.length:=by unfold capt;rw[Ab]
theorem jvg (fr:List (Option Nat)) (δ:Sl):(jmt fr δ).length=fr.length:=by unfold jmt;rw[Ab]
theorem jjk {fr:List (Option Nat)} {δ:Sl} {j:Nat} {x:SV} (h:(jmt fr δ)[j]?=some (some x)):∃i y,fr[j]?=some (some i)/\δ[i]?=some (some y)/\((∃z,x=.w z/\y=.w z)\/(∃kvs,x=.w (.dk kvs)/\y=.odk kvs)\/∃ds,x=.w (.ln ds)/\y=.own ds):=by
 unfold jmt at h;rw[A0]at h;cases e:fr[j]? with
 |none=>rw[e]at h;cases h
 |some o =>
  rw[e]at h;cases o with
  |none=>cases h
  |some i =>
   have h':=Aq h;dsimp only[Option.bind]at h'
   split at h'
   ·rename_i z ez;cases h';exact⟨i,_,rfl,ez,.inl ⟨z,rfl,rfl⟩⟩
   ·rename_i kvs ez;cases h';exact⟨i,_,rfl,ez,.inr (.inl ⟨kvs,rfl,rfl⟩)⟩
   ·rename_i ds ez;cases h';exact⟨i,_,rfl,ez,.inr (.inr ⟨ds,rfl,rfl⟩)⟩
   ·cases h'
theorem j2h {fr:List (Option Nat)} {σ:St} {j i:Nat} {v:V} (h:fr[j]?=some (some i)) (h2:σ[i]?=some (some v)):(capt fr σ)[j]?=some (some v):=by
 unfold capt;rw[A0,h];show some ((σ[i]?).bind id)=_;rw[h2];rfl
theorem jwn {C:Ctx} {H:Hp} {B:Addr->Prop} {σ:St} {δ:Sl} {n:Int} {L:Addr} {fr:List (Option Nat)} (R:Rel C H B σ δ n) (hL:H L=none) :
  Rel ⟨C.t,C.l,C.ns,H,B,fzOf H B⟩ (upd H L (.lst [])) (λb=>B b\/b=L) (capt fr σ) (jmt fr δ) n where
 tp:=R.tp.new hL
 kp:=Kp.new hL
 t0:=R.ba _ R.bt
 l0:=by
  show H C.l.s≠none;rw[R.tp.ls];exact λz=>nomatch z
 g0:=λe=>by
  show H C.l.g≠none;rw[R.tp.ag e];exact λz=>nomatch z
 fz:=λb o e=>by
  obtain⟨e1,e2⟩:=(jil H B).1 b o e;exact⟨by rw[jao (jaj e1 hL)];exact e1,λz=>z.elim e2 λq=>jaj e1 hL q⟩
 bt:=.inl R.bt
 b0:=λb z=>.inl z
 ba:=λb z e=>by
  by_cases q:b=L
  ·rw[q,jap]at e;cases e
  ·rw[jao q]at e;exact R.ba b (z.resolve_right q) e
 a0:=R.ba
 sl:=λj x e=>by
  have mv:∀b o',H b=some o'->¬B b->upd H L (.lst []) b=some o'/\¬(B b\/b=L):=λb o' e n=>⟨by rw[jao (jaj e hL)];exact e,λz=>z.elim n λq=>jaj e hL q⟩;obtain⟨i,y,e1,e2,hy⟩:=jjk e;obtain⟨v,f1,f2⟩:=R.sl i y e2;refine⟨v,j2h e1 f1,?_⟩;rcases hy with⟨z,rfl,rfl⟩ | ⟨kvs,rfl,rfl⟩ | ⟨ds,rfl,rfl⟩
  ·cases z with
   |d d=>exact⟨f2.1.move mv,λz=>by cases z⟩
   |tp=>exact⟨f2.1,λz=>by cases z⟩
   |ln ds =>
    obtain⟨a,l,g1,g2,g3,g4,g5⟩:=f2.1;exact⟨⟨a,l,g1,by rw[jao (jaj g2 hL)];exact g2,g3,g4,g5.move mv⟩,λ_=>⟨a,g1,by show H a≠none;rw[g2];exact λz=>nomatch z⟩⟩
   |dk kvs =>
    obtain⟨a,l,g1,g2,g3,g4⟩:=f2.1;exact⟨⟨a,l,g1,by rw[jao (jaj g2 hL)];exact g2,g3,g4.move mv⟩,λ_=>⟨a,g1,by show H a≠none;rw[g2];exact λz=>nomatch z⟩⟩
   |ob o =>
    refine⟨?_,λz=>by cases z⟩;exact ORel.move mv f2.1
  ·obtain⟨a,l,g1,g2,g3,g4,g5,g6⟩:=f2;exact⟨⟨a,l,g1,by rw[jao (jaj g2 hL)];exact g2,λz=>R.t0 (z▸g4),g6.move mv⟩,λ_=>⟨a,g1,by show H a≠none;rw[g2];exact λz=>nomatch z⟩⟩
  ·obtain⟨a,l,g1,g2,g3,g4,g5,g6⟩:=f2;exact⟨⟨a,l,g1,by rw[jao (jaj g2 hL)];exact g2,λz=>R.t0 (z▸g4),g5,g6.move mv⟩,λ_=>⟨a,g1,by show H a≠none;rw[g2];exact λz=>nomatch z⟩⟩
 ow:=λi j x y v e1 e2 o1 o2 _ _=>by
  obtain⟨_,_,_,_,hy⟩:=jjk e1;rcases hy with⟨z,rfl,_⟩ | ⟨kvs,rfl,_⟩ | ⟨ds,rfl,_⟩
  ·cases o1
  ·cases o1
  ·cases o1
 len:=by rw[jyd,jvg]
section
variable {X:Cx} {elt tg iter:Expr} {ifs:List Expr} {scope:Scope} {cl:List (Str×Addr)} {pos:Pos} {N:List Str} {fr:List (Option Nat)} {wi:TI} {v:DTI} {g:TG} {gd:DTG} {tt:TT} {cc:DTT} {te:TE} {we:DT}
def jh4 (δ:Sl):Prop:=∀(i:Nat) (x:SV),δ[i]?=some (some x)->x.isOwn=false
theorem jyf (fr:List (Option Nat)) (δ:Sl):jh4 (jmt fr δ):=λi x e=>by
 obtain⟨_,_,_,_,hy⟩:=jjk e;rcases hy with⟨z,rfl,_⟩ | ⟨kvs,rfl,_⟩ | ⟨ds,rfl,_⟩<;>rfl
def jj7 (v:DTG):Prop:=∀d δ Q,jh4 δ->v d δ Q->v d δ λδ'=>jh4 δ'/\Q δ'
theorem jcm (i:Nat):jj7 (jak i):=λd δ Q h q=>⟨λj x e=>by
 rcases jay e with⟨_,rfl⟩ | ⟨_,e'⟩
 ·rfl
 ·exact h j x e',q⟩
theorem jfr (hc:X.calm=true) (S:CompSc X N scope cl fr) (hi:DI X tg iter wi v) (hg:∀s H fp,DG (jbl X N scope cl s H fp) tg g gd) (ht:∀s H fp,DIf (jbl X N scope cl s H fp) ifs tt cc)
  (he:∀s H fp,DE (jbl X N scope cl s H fp) elt te we) (hno:jj7 gd) (hs:∀x,Ec iter X.env x=pure x:=by intro _;rfl) :
  DF X (.ListComp elt [⟨tg,iter,ifs,0⟩] scope pos) (jsq fr wi g tt te) (jb6 fr v gd cc we):=by
 refine⟨j1f hc S hi.pi (λs H fp=>(hg s H fp).pg) (λs H fp=>(ht s H fp).pf) (λs H fp=>(he s H fp).pe) hs,λC H B σ δ n Q Q' R q k=>hi.sd C H B σ δ n _ _ R q λJ ds H1 n1 R1 k1 hJ q1=>λL hL=>?_⟩;have sg:=(hg X.s₀ X.H₀ []).sd;have st:=(ht X.s₀ X.H₀ []).sd;have se:=(he X.s₀ X.H₀ []).sd;have ok:=hJ (fzOf H1 B) (jil H1 B);have hLt:L≠C.t:=λz=>R1.ba _ R1.bt (z▸hL);refine⟨λi m ys τ H=>m=ds.length - i/\i<=ds.length/\ys.length<=i/\∃δ' n' acc,Rel ⟨C.t,C.l,C.ns,H1,B,fzOf H1 B⟩ H (λb=>B b\/b=L) τ δ' n'/\jh4 δ'/\H L=some (.lst ys)/\RdXs H (λb=>B b\/b=L) ys acc/\jco gd cc we Q (ds.drop i) acc δ' n',
  ⟨ds.length,by simp,Bj _,Bj _,jmt fr δ,n1,[],jwn R1 hL,jyf fr δ,jap,.nil,by simpa using q1⟩,?_⟩
 rintro i m ys τ H2 ⟨rfl,hi,hys,δ2,n2,acc,R2,no2,hL2,rd2,q2⟩
 have hfz:∀b o,fzOf H1 B b=some o->H2 b=some o:=λb o e=>(R2.fz b o e).1;by_cases hlt:i < ds.length
 ·rw[Fb hlt]at q2;refine .inr ⟨ok.go i H2 hfz hlt,Bk (Nat.lt_of_le_of_lt hys hlt) ok.le,λx H' hy=>?_⟩;obtain⟨sm,rd⟩:=ok.yld i H2 x H' ds[i] hfz (Ag hlt) hy;have R3:=R2.same sm;refine sg _ H' _ τ δ2 n2 x ds[i] _ _ R3 (rd _ (λb o e=>(R2.fz b o e).2) R2.ba) (hno _ _ _ no2 q2) λτ3 δ3 R4 ⟨no3,q4⟩=>?_;refine st _ H' _ τ3 δ3 n2 _ _ R4 q4 λb H4 n4 R5 k5 q5=>?_;have hL4:H4 L=some (.lst ys):=k5 _ _ (sm _ _ hL2) hLt;have rd4:RdXs H4 (λb=>B b\/b=L) ys acc:=(rd2.keep λb o e _=>sm b o e).kp k5 R4.bt;cases b with
  |false =>
   rw[if_neg Ak]at q5 ⊢;exact⟨ds.length - (i+1),by omega,rfl,hlt,by omega,δ3,n4,acc,R5,no3,hL4,rd4,q5⟩
  |true =>
   rw[if_pos rfl]at q5 ⊢;refine se _ H4 _ τ3 δ3 n4 _ _ R5 q5 λu y H5 n5 R6 k6 r6 q6=>?_;cases y with
   |d y =>
    have hL5:H5 L=some (.lst ys):=k6 _ _ hL4 hLt;refine⟨hL5,ds.length - (i+1),by omega,rfl,hlt,by rw[An,A5];omega,δ3,n5,acc++[y],R6.mut (.inr rfl) hL λj z e o=>absurd (no3 j z e) (by rw[o];exact λq=>nomatch q),no3,jap,?_,q6⟩;refine RdXs.keep (λb o e n=>?_) ((rd4.kp k6 R5.bt).append (.cons r6 .nil));rw[jao λ(z:b=L)=>n (.inr z)];exact e
   |tp=>exact q6.elim
   |dk _=>exact q6.elim
   |ln _=>exact q6.elim
   |ob _=>exact q6.elim
 ·have e:i=ds.length:=by omega
  subst e;rw[List.drop_length]at q2;refine .inl ⟨ok.stop H2 hfz,k L ys acc H2 n2 (R1.step R2.tp R2.kp) (k1.trans R2.kp) (R1.was k1 hL) hL2 (Ba hys ok.le) rd2 q2⟩
end
abbrev DTGs:=List Ae->Sl->(Sl->Prop)->Prop
def j7c (g:TGs) (v:DTGs):Prop:=∀(C:Ctx) (H:Hp) (B:Addr->Prop) (σ:St) (δ:Sl) (n:Int) (xs:List V) (ds:List Ae) (Q:Sl->Prop) (Q':St->Hp->Prop),Rel C H B σ δ n->RdXs H B xs ds->v ds δ Q ->
 (∀σ' δ',Rel C H B σ' δ' n->Q δ'->Q' σ' H)->g xs σ H Q'
structure DGs (X:Cx) (ts:List Expr) (g:TGs) (v:DTGs):Prop where
 pg:PGs X ts g
 sd:j7c g v
def jdl:DTGs:=λds δ Q=>match ds with
 |[]=>Q δ
 |_=>False
def jbg (v:DTG) (r:DTGs):DTGs:=λds δ Q=>match ds with
 |d::ds=>v d δ λδ'=>r ds δ' Q
 |[]=>False
def jet (n:Nat) (r:DTGs):DTG:=λd δ Q=>match d with
 |.tuple ds=>ds.length=n/\r ds δ Q
 |_=>False
theorem jp5:∀ds δ Q,jh4 δ->jdl ds δ Q->jdl ds δ λδ'=>jh4 δ'/\Q δ':=λds δ Q h q=>by
 cases ds with
 |nil=>exact⟨h,q⟩
 |cons _ _=>exact q
theorem jhz {v:DTG} {r:DTGs} (mono:∀d δ (Q Q':Sl->Prop),(∀δ',Q δ'->Q' δ')->v d δ Q->v d δ Q') (hv:jj7 v) (hr:∀ds δ Q,jh4 δ->r ds δ Q->r ds δ λδ'=>jh4 δ'/\Q δ'):∀ds δ Q,jh4 δ->jbg v r ds δ Q->jbg v r ds δ λδ'=>jh4 δ'/\Q δ':=λds δ Q h q=>by
 cases ds with
 |nil=>exact q
 |cons d ds=>exact mono d δ _ _ (λδ' z=>hr ds δ' Q z.1 z.2) (hv d δ _ h q)
theorem j4n {n:Nat} {r:DTGs} (hr:∀ds δ Q,jh4 δ->r ds δ Q->r ds δ λδ'=>jh4 δ'/\Q δ'):jj7 (jet n r):=λd δ Q h q=>by
 unfold jet at q ⊢
 split at q
 ·exact⟨q.1,hr _ _ _ h q.2⟩
 ·exact q.elim
theorem j1r (i j n:Nat):jj7 (jet n (jbg (jak i) (jbg (jak j) jdl))) :=
 j4n (jhz (λ_ _ _ _ h q=>h _ q) (jcm i) (jhz (λ_ _ _ _ h q=>h _ q) (jcm j) jp5))
section
variable {X:Cx} {pos:Pos}
theorem jjd:DGs X [] gNil jdl:=⟨j1b,λC H B σ δ n xs ds Q Q' R r q k=>by
 cases r with
 |nil=>exact⟨rfl,k σ δ R q⟩
 |cons _ _=>exact q.elim⟩
end
section
variable {X:Cx} {pos:Pos}
theorem jb4 {e:Expr} {es:List Expr} {t:TG} {u:TGs} {v:DTG} {r:DTGs} (h1:DG X e t v) (h2:DGs X es u r)
  (hs:(Dp (e::es) X.env).map (·.2)=assign e X.env::(Dp es X.env).map (·.2):=by rfl):DGs X (e::es) (j5e t u) (jbg v r):=⟨jwx h1.pg h2.pg hs,λC H B σ δ n xs ds Q Q' R rr q k=>by
 cases rr with
 |nil=>exact q.elim
 |cons r1 r2=>exact⟨_,_,rfl,h1.sd C H B σ δ n _ _ _ _ R r1 q λσ' δ' R' q'=>h2.sd C H B σ' δ' n _ _ _ _ R' r2 q' k⟩⟩
theorem j6t {es:List Expr} {k:Nat} {t:TGs} {n:Nat} {r:DTGs} (h:DGs X es t r) (hc:X.calm=true:=by rfl)
  (hn:(Dp es X.env).length=n:=by rfl) (hst:(Dp es X.env).findIdx? (·.1)=none:=by rfl):DG X (.Tuple es k pos) (gTup X.K n t) (jet n r):=⟨j4a hc h.pg hn hst,λC H B σ δ n' x d Q Q' R rr q k=>by
 unfold jet at q
 split at q
 ·rename_i ds;cases rr with
  |@tup ay ys _ e1 e2 e3 e4=>exact⟨ay,ys,rfl,SqT.of e1,by rw[e4.len];exact q.1,h.sd C H B σ δ n' _ _ _ _ R e4 q.2 k⟩
 ·exact q.elim⟩
def j0l:List Ae->Option (List Str)
 |[]=>some []
 |.str b::r=>(j0l r).map (b::·)
 |_::_=>none
def j7d (w w':DT):DT:=λδ n Q=>w δ n λx n1=>match x with
 |.d (.str z)=>w' δ n1 λy n2=>match y with
  |.d (.list ds)=>match j0l ds with
   |some ys=>(ys.map (·.length)).sum+ys.length*z.length<=16777216/\Q (.d (.str (Txt.join z ys))) n2
   |none=>False
  |.d (.tuple ds)=>match j0l ds with
   |some ys=>(ys.map (·.length)).sum+ys.length*z.length<=16777216/\Q (.d (.str (Txt.join z ys))) n2
   |none=>False
  |_=>False
 |_=>False
def sPut (i:Nat) (wj w:DT):DST:=λδ n K=>match δ[i]? with
 |some (some (.own ds))=>w δ n λx n1=>wj δ n1 λj n2=>match x,j with
  |.d d,.d (.int k)=>match ixN ds.length k with
   |some m=>K.nx (δ.set i (some (.own (ds.set m d)))) n2
   |none=>False
  |_,_=>False
 |_=>False
theorem j6a {i:Nat} {x:Str} {xp sp:Pos} {j e:Expr} {tj te:TE} {wj we:DT} (hN:X.N[i]?=some x) (hj:DE X j tj wj) (he:DE X e te we) (hv:Vis X.env.scope x:=by first | exact Ar rfl | exact Bz (Ar rfl) | exact Bz (Bz rfl)) (hd:(x==("__debug__":Str))=false:=by decide)
  (hcd:(x==("__classdict__":Str))=false:=by decide)
  (ha:∀v,assign (.Subscript (.Name x xp) j sp) X.env v=(do
   let ov <-holding [v] (eval (.Name x xp) X.env)
   let iv <-holding [v,ov] (eval j X.env)
   standAt sp
   holding [v,ov,iv] (setItem ov iv v)
   release [v,ov,iv] []):=by intro _;rfl)
  (hs:swapsWithSole [.Subscript (.Name x xp) j sp] e pos.line X.env=pure false:=by rfl) (hw:swappedStores [.Subscript (.Name x xp) j sp] e X.env=pure none:=by rfl)
  (h1:(Dp [.Subscript (.Name x xp) j sp] X.env).map (·.2)=[assign (.Subscript (.Name x xp) j sp) X.env]:=by rfl) :
  DS X (.Assign [.Subscript (.Name x xp) j sp] e pos) (tAsg te (gSub (tVar i) tj j3x)) (sPut i wj we) :=
 ⟨jns he.pe (jqm (jdq hN hv hd hcd) hj.pe jie ha) hs hw h1,λC H B σ δ n K D R q E=>by
  unfold sPut at q
  split at q
  ·rename_i ds ei;refine he.sd C H B σ δ n _ _ R q λu y H1 n1 R1 k1 r1 q1=>?_;obtain⟨v,hv,a,xs,rfl,e2,e3,e4,e5,e6⟩:=R1.sl i _ ei;refine⟨_,hv,hj.sd C H1 B σ δ n1 _ _ R1 q1 λw z H2 n2 R2 k2 r2 q2=>?_⟩
   split at q2
   ·rename_i d k
    split at q2
    ·rename_i m em;cases(show RdX H2 B w (.int k)from r2);have hat:a≠C.t:=λz=>R.t0 (z▸e4);have e2':=k2 _ _ e2 hat;have r1':RdX H2 B u d:=r1.kp k2 R1.bt;refine⟨a,xs,k,m,rfl,rfl,e2',by rw[e6.len];exact em,?_⟩;refine E.nx _ _ _ _ _ (R2.mutOwn ei rfl hv e3 e4 ?_ rfl) q2;refine⟨a,xs.set m u,rfl,jap,e3,e4,by rw[C4];exact e5,?_⟩;refine RdXs.keep (λb o e n=>?_) (RdXs.set m (e6.kp k2 R1.bt) r1');rw[jao λ(z:b=a)=>n (z▸e3)];exact e
    ·exact q2.elim
   ·exact q2.elim
  ·exact q.elim⟩
end
structure Has (P:Bg) (w:Bt) (K:Ah) (mg:Str->Option Af) (base:Heap) (k:Nat) (x:Str) (ps:List Str) (S:DSp):Prop where
 ex:∃(f:Addr) (fd:Cp),FnOk P w K mg base CX0 k f fd ps (spOf S)/\Binds K fd ps []/\mg x=some (.ref f)/\C9 K (.ref f)=true
section
variable {P:Bg} {w:Bt} {K:Ah} {mg:Str->Option Af} {base:Heap}
theorem Has.mk' {k:Nat} {x qual:Str} {st:Stmt} {ps:List Str} {S:DSp} {f:Addr} {fd:Cp} (F:Fun K x qual st f fd) (m:mg x=some (.ref f)) (b:Binds K fd ps []) (h:FnOk P w K mg base CX0 k f fd ps (spOf S)):Has P w K mg base k x ps S:=⟨f,fd,h,b,m,F.kp⟩
end
theorem j2d {X:Cx} {e:Expr} {es:List Expr} {pos p:Pos} {tR:TA} {wR:DTA} {k:Nat} {ps:List Str} {S:DSp} {x:Str} (h:Has X.prog X.w X.K X.mg X.base k x ps S) (hr:Room k X.A) (hg:Gl X x)
  (ha:DA X (e::es) tR wR) (hdb:(x==("__debug__":Str))=false:=by decide) (he:Az (e::es) X.env=(false,eval e X.env)::Az es X.env:=by rfl) (hpl:(Dd pos (Az es X.env)).any (·.1)=false:=by rfl) :
  DE X (.Call (.Name x p) (e::es) [] pos) (jlt (spOf S) [] E0 tR) (jam S wR):=by
 obtain⟨f,fd,h1,h2,h3,h4⟩:=h.ex;exact j5u h1 hr hg h3 h4 h2 ha hdb he hpl
theorem jfd {cl cells:List (Str×Addr)} (h:∀y∈cl,cells.lookup y.1=some y.2):∀x c,cl.lookup x=some c->cells.lookup x=some c:=λx c e=>h _ (jfc e)
def jav:DSp:=λws n Q=>match ws with
 |[.tp,.d (.int many)]=>(n < 2 ^ 40/\0 < many/\many < 1073741824)/\∀r:Int,0<=r->r < many->Q (.d (.int r)) (n+1)
 |_=>False
section
variable {P:Bg} {w:Bt} {K:Ah} {mg:Str->Option Af} {base:Heap}
theorem jx5 {k:Nat} {f:Addr} {fd:Cp} {ps:List Str} (h:FnOk P w K mg base CX0 k f fd ps jy2):FnOk P w K mg base CX0 k f fd ps (spOf jav):=h.imp λvs H Q E hs=>by
 obtain⟨t,l,ns,B,ws,n,Q0,T,bt,ba,r,q,kk⟩:=hs;unfold jav at q
 split at q
 ·rename_i many;cases r with
  |cons r1 r2 =>
   cases r2 with
   |cons r3 r4 =>
    cases r4;cases(show _=V.ref t from r1);cases(show RdX H B _ (.int many)from r3);exact⟨t,l,ns,n,many,rfl,T,q.1.1,q.1.2.1,q.1.2.2,λr H' h0 h1 T' k'=>kk _ _ (q.2 r h0 h1) _ H' T' k' (.int r)⟩
 ·exact q.elim
def spLaw (K:Ah):Sp:=λvs H Q _=>∃(a:Addr) (ns:List Int),vs=[.ref a]/\SqL K H a (ns.map V.int)/\ns.length<=63/\∀H',Q (.bl true) H'
def jmc:DEnds:={ nx:=λ_ _=>False,rt:=λw _=>w=.d (.bool true)}
theorem j00 {H:Hp} {t:Addr} {l:TL} {ns:List Int} {a:V} {k:Nat} (T:Tp H t l ns 0):Rel ⟨t,l,ns,H,λb=>b=t,λ_=>none⟩ H (λb=>b=t) (some a::some (.ref t)::Dt k none) (none::some (.w .tp)::Dt k none) 0 where
 tp:=T
 kp:=Kp.refl _ _
 t0:=by
  obtain⟨_,_,h,_⟩:=T.ob;show H t≠none;rw[h];exact λz=>nomatch z
 l0:=by
  show H l.s≠none;rw[T.ls];exact λz=>nomatch z
 g0:=λe=>by
  show H l.g≠none;rw[T.ag e];exact λz=>nomatch z
 fz:=λb o e=>nomatch e
 bt:=rfl
 b0:=λ_ z=>z
 ba:=λb z=>by
  obtain⟨_,_,h,_⟩:=T.ob;rw[z,h];exact λz=>nomatch z
 a0:=λb z=>by
  obtain⟨_,_,h,_⟩:=T.ob;show H b≠none;rw[show b=t from z,h];exact λz=>nomatch z
 sl:=λi x e=>by
  rcases i with _ | _ | i
  ·cases e
  ·cases e;exact⟨_,rfl,rfl,λz=>by cases z⟩
  ·have e':(Dt k (none:Option SV))[i]?=some (some x):=e;rw[Ee]at e'
   split at e'
   ·cases e'
   ·cases e'
 ow:=λi j x y v e1 e2 o1 o2 f1 f2=>by
  rcases i with _ | _ | i
  ·cases e1
  ·cases e1;cases o1
  ·have e':(Dt k (none:Option SV))[i]?=some (some x):=e1;rw[Ee]at e'
   split at e'
   ·cases e'
   ·cases e'
 len:=by simp
theorem j4u {f fT:Addr} {fd fdT:Cp} {st:Stmt} {N:List Str} {k:Nat} {W:DST} (F:Fun K "law" "law" st f fd) (Sc:FnScope N ["_law_script"] (jai st))
  (GT:FnOk P w K mg base CX0 1 fT fdT ["_law_script"] (jqd K)) (bT:Binds K fdT ["_law_script"] []) (mT:mg "_law_tape"=some (.ref fT)) (kT:C9 K (.ref fT)=true)
  (hN:∀v,start N [v]=some v::none::Dt (N.length - 2) none)
  (hW:W (none::some (.w .tp)::Dt (N.length - 2) none) 0 jmc)
  (hbody:∀(cdv:Af) (A:B6) (outer:List Env) (s:Aj) (H:Hp) (E:XK),Room k (A.deeper (PyProof.Rows.envOfC "law" (jai st) s.heap.objs.size f cdv)) ->
   ∃s0 rest T,jdm st=s0::rest/\PS (cxOf CX0 P w K mg base N "law" (jai st) f cdv A outer s H E).nox s0 (tAsg (jlt (jqd K) [] E0 (jcv (tVar 0) tNil)) (jg0 1))/\DSs (cxOf CX0 P w K mg base N "law" (jai st) f cdv A outer s H E).nox rest T W) :
  FnOk P w K mg base CX0 (k+1) f fd ["_law_script"] (spLaw K):=by
 refine F.ok Sc (λvs H Q E h=>?_) (λcdv A outer s H vs Q E hr h=>?_)
 ·obtain⟨a,ns,rfl,_⟩:=h;rfl
 ·obtain⟨a,ns,rfl,hS,hl,kk⟩:=h;obtain⟨s0,rest,T,e,p0,d⟩:=hbody cdv A outer s H E hr;rw[e];refine⟨_,jb1 p0 d.ps,?_⟩;rw[hN];refine⟨_,rfl,a,ns,rfl,hS,hl,λt l H1 T1 _=>?_⟩;refine d.sd ⟨t,l,ns,H1,λb=>b=t,λ_=>none⟩ H1 (λb=>b=t) _ _ 0 jmc _ (j00 (a:=.ref a) (k:=N.length - 2) T1) hW ⟨?_,?_,?_,?_,λ_ _ _ _ _ _ _ _ _ _ _ _ _ z=>z.elim⟩
  ·exact λ_ _ _ _ _ _ z=>z.elim
  ·intro H B σ δ n v w R r z;have z:w=.d (.bool true):=z;subst z;cases(show RdX H B v (.bool true)from r);exact kk H
  ·exact λ_ _ _ _ _ _ z=>z.elim
  ·exact λ_ _ _ _ _ _ z=>z.elim
end
section
variable {X:Cx} {elt tg iter:Expr} {ifs:List Expr} {scope:Scope} {cl:List (Str×Addr)} {cpos pos pos':Pos} {N:List Str} {fr:List (Option Nat)} {wi:TI} {v:DTI} {g:TG} {gd:DTG} {tt:TT} {cc:DTT} {te:TE} {we:DT} {i:Nat} {x:Str}
theorem j0n {t:TE} {w:DTF} (h:SndF t w):SndS (tAsg t (jg0 i)) (sOwn i w):=λC H B σ δ n K D R q E =>
 h C H B σ δ n _ _ R q λa xs ds H1 n1 R1 k1 h0 h1 h2 h3 q1=>by
  refine E.nx _ _ _ _ _ (R.own R1 k1 h0 (by rw[h1];exact λz=>nomatch z) rfl ?_) q1;exact⟨a,xs,rfl,h1,.inr rfl,R.h0 h0,h2,h3⟩
theorem j0m {t:TE} {w:DT} (h:Snd t w):SndS (tAsg t (jg0 i)) (sSet i w):=λC H B σ δ n K D R q E =>
 h C H B σ δ n _ _ R q λv x H1 n1 R1 _ r1 q1=>by
  cases x with
  |d d=>exact E.nx _ _ _ _ _ (R1.set r1 rfl) q1
  |tp=>exact E.nx _ _ _ _ _ (R1.set r1 rfl) q1
  |dk _=>exact q1.elim
  |ln _=>exact q1.elim
  |ob _=>exact E.nx _ _ _ _ _ (R1.set r1 rfl) q1
theorem j3m (hN:X.N.Nodup) (hix:X.N[i]?=some x) (hx:X.env.scope.names.lookup x=some .local) (hc:X.calm=true) (S:CompSc X N scope cl fr) (hi:DI X tg iter wi v) (hg:∀s H fp,DG (jbl X N scope cl s H fp) tg g gd) (ht:∀s H fp,DIf (jbl X N scope cl s H fp) ifs tt cc)
  (he:∀s H fp,DE (jbl X N scope cl s H fp) elt te we) (hno:jj7 gd) (hs:∀x,Ec iter X.env x=pure x:=by intro _;rfl)
  (hsw:Dw (.ListComp elt [⟨tg,iter,ifs,0⟩] scope cpos) (some (.Name x pos')) pos.line X.env=pure true:=by rfl) :
  DS X (.Assign [.Name x pos'] (.ListComp elt [⟨tg,iter,ifs,0⟩] scope cpos) pos) (tAsg (jsq fr wi g tt te) (jg0 i)) (sOwn i (jb6 fr v gd cc we)) :=
 ⟨jlc hN hix hx hc S hi.pi (λs H fp=>(hg s H fp).pg) (λs H fp=>(ht s H fp).pf) (λs H fp=>(he s H fp).pe) hs hsw,j0n (jfr (pos:=cpos) hc S hi hg ht he hno hs).sd⟩
theorem jtg (hN:X.N.Nodup) (hix:X.N[i]?=some x) (hx:X.env.scope.names.lookup x=some .local) (hc:X.calm=true) (S:CompSc X N scope cl fr) (hi:DI X tg iter wi v) (hg:∀s H fp,DG (jbl X N scope cl s H fp) tg g gd) (ht:∀s H fp,DIf (jbl X N scope cl s H fp) ifs tt cc)
  (he:∀s H fp,DE (jbl X N scope cl s H fp) elt te we) (hno:jj7 gd) (hs:∀x,Ec iter X.env x=pure x:=by intro _;rfl)
  (hsw:Dw (.ListComp elt [⟨tg,iter,ifs,0⟩] scope cpos) (some (.Name x pos')) pos.line X.env=pure true:=by rfl) :
  DS X (.Assign [.Name x pos'] (.ListComp elt [⟨tg,iter,ifs,0⟩] scope cpos) pos) (tAsg (jsq fr wi g tt te) (jg0 i)) (sSet i (wOf (jb6 fr v gd cc we))) :=
 ⟨jlc hN hix hx hc S hi.pi (λs H fp=>(hg s H fp).pg) (λs H fp=>(ht s H fp).pf) (λs H fp=>(he s H fp).pe) hs hsw,j0m (jfr (pos:=cpos) hc S hi hg ht he hno hs).d.sd⟩
end
section
variable {X:Cx} {tg a b c e:Expr} {ta tb tc te:TE} {wa wb wc we:DT} {pos p:Pos} {K:Ah}
theorem jan (ha:DE X a ta wa) (hb:DE X b tb wb) (hK:X.K=K:=by rfl) (hs:jm5 b:=by exact λ_ _=>rfl):DE X (.Subscript a b pos) (tOp (rIx K) ta tb) (w2 wa wb gIx):=by subst hK;exact d_ix ha hb hs
def rIsi (K:Ah) (T:String):List V->Hp->VK->Prop:=λxs H Q=>∃x t b,xs=[x,.ty T]/\TyOf K H x t/\PySem.W.kitOne K t (.type T)=some b/\Q (.bl b) H
theorem joi {T:String} {x:Str} {p p2:Pos} (hT:T="int"\/T="bool"\/T="str"\/T="tuple"\/T="list") (hg:Gl X "isinstance") (hm:X.mg "isinstance"=none) (hg2:Gl X x) (hm2:X.mg x=none) (hv:B7 x=some (.type T)) (ha:DE X a ta wa) (hK:X.K=K:=by rfl) (hn:x≠"__name__":=by decide) (hdb:(x==("__debug__":Str))=false:=by decide)
  (he:Az [a,.Name x p2] X.env=(false,eval a X.env)::Az [.Name x p2] X.env:=by rfl) (he2:Az [.Name x p2] X.env=(false,eval (.Name x p2) X.env)::Az [] X.env:=by rfl) (hpl:(Dd pos (Az [.Name x p2] X.env)).any (·.1)=false:=by rfl) :
  DE X (.Call (.Name "isinstance" p) [a,.Name x p2] [] pos) (tCB (rIsi K T) (jcv ta (jcv (tC (.ty T)) tNil))) (wIsi T wa):=by subst hK;exact j60 hT hg hm hg2 hm2 hv ha hn hdb he he2 hpl
def rEqK (K:Ah):R2:=λx y H Q=>rEq x y H Q\/jwr x y H Q\/jqh K x y H Q
theorem jbk (hu:X.A.units < E2) (hK:X.K=K:=by rfl):OpR X (B1 .Eq) (rEqK K):=by subst hK;exact j4l hu
theorem jbj:SndO (rEqK K) gEq:=j3d
theorem jix (hK:X.K=K:=by rfl):OpR X (B1 .In) (rIn K false):=by subst hK;exact jt5
theorem jdr (hK:X.K=K:=by rfl):OpR X (B1 .NotIn) (rIn K true):=by subst hK;exact jnw
def jwq (K:Ah):List V->Hp->VK->Prop:=λxs H Q=>(∃z,xs=[.str z]/\z.length<=A1/\Q (.int z.length) H)\/∃p ys,xs=[.ref p]/\(SqL K H p ys\/SqT K H p ys)/\Q (.int ys.length) H
theorem jat (hK:X.K=K:=by rfl):CallR X (.builtin "len") (jwq K):=by subst hK;exact jvi
theorem jbb:SndB (jwq K) gLen:=j0o
def jpe (K:Ah):List V->Hp->VK->Prop:=λxs H Q=>∃p ys,xs=[.ref p]/\((SqL K H p ys/\∀l,H l=none->Q (.ref l) (upd H l (.tup ys)))\/(SqT K H p ys/\Q (.ref p) H))
theorem ja3 (hK:X.K=K:=by rfl):CallR X (.type "tuple") (jpe K):=by subst hK;exact jmu
theorem jbx:SndB (jpe K) jdf:=js4
def jzg (K:Ah):List V->Hp->VK->Prop:=λxs H Q=>∃p ys,xs=[.ref p]/\(SqL K H p ys\/SqT K H p ys)/\∀l,H l=none->Q (.ref l) (upd H l (.lst ys))
theorem jr6 (hK:X.K=K:=by rfl):CallR X (.type "list") (jzg K):=by subst hK;exact jon
theorem jpq (ha:DE X a ta wa) (hK:X.K=K:=by rfl):DI X tg a (j10 K ta) (jkj wa):=by subst hK;exact j48 ha
theorem jgh (ha:DE X a ta wa) (hK:X.K=K:=by rfl):DI X tg a (iTup K ta) (jdi wa):=by subst hK;exact j6q ha
theorem jjf {es:List Expr} {k:Nat} {t:TGs} {n:Nat} {r:DTGs} (h:DGs X es t r) (hc:X.calm=true:=by rfl) (hK:X.K=K:=by rfl)
  (hn:(Dp es X.env).length=n:=by rfl) (hst:(Dp es X.env).findIdx? (·.1)=none:=by rfl):DG X (.Tuple es k pos) (gTup K n t) (jet n r):=by subst hK;exact j6t h hc hn hst
end
end DL
namespace KS
open PySem PySem.W PyProof.Rows
def run {α:Type} (c:Nat->Nat->Bool):KasT α->α
 |.ret a=>a
 |.ask i j k=>run c (k (c i j))
theorem jfb {α β:Type} (c:Nat->Nat->Bool) (f:α->KasT β):∀t:KasT α,run c (t.bind f)=run c (f (run c t))
 |.ret _=>rfl
 |.ask i j k=>jfb c f (k (c i j))
def Wi {α:Type} (n:Nat) (P:α->Prop):KasT α->Prop
 |.ret a=>P a
 |.ask i j k=>i < n/\j < n/\∀b,Wi n P (k b)
theorem Wi.bind {α β:Type} {n:Nat} {P:α->Prop} {R:β->Prop} {f:α->KasT β} (hf:∀a,P a->Wi n R (f a)):∀{t:KasT α},Wi n P t->Wi n R (t.bind f)
 |.ret a,h=>hf a h
 |.ask i j k,h=>⟨h.1,h.2.1,λb=>Wi.bind hf (h.2.2 b)⟩
theorem Wi.out {α:Type} {n:Nat} {P:α->Prop} (c:Nat->Nat->Bool):∀{t:KasT α},Wi n P t->P (run c t)
 |.ret a,h=>h
 |.ask i j k,h=>Wi.out c (t:=k (c i j)) (h.2.2 (c i j))
theorem wp_run {α:Type} {n:Nat} {P:α->Prop} {cmp:Nat->Nat->(Bool->Aj->Prop)->Aj->Prop} {c:Nat->Nat->Bool} {St:Aj->Prop} {Q:α->Aj->Prop}
  (hc:∀i j C s,i < n->j < n->St s->(∀s',St s'->C (c i j) s')->cmp i j C s):∀(t:KasT α) (s:Aj),Wi n P t->St s->(∀s',St s'->Q (run c t) s')->t.kasWp cmp Q s
 |.ret a,s,_,hs,h=>h s hs
 |.ask i j k,s,w,hs,h=>hc i j _ s w.1 w.2.1 hs λs' hs'=>wp_run hc (k (c i j)) s' (w.2.2 _) hs' h
def Lo (n:Nat) (p:Array Nat):Prop:=∀i,p.getD i 0 < n
theorem jes (p:Array Nat) (i:Nat):p.getD i 0=(p[i]?).getD 0:=by simp
theorem j4r {n:Nat} {p:Array Nat} (hn:0 < n) (h:∀x∈p,x < n):Lo n p:=λi=>by
 rw[jes];cases e:p[i]? with
 |none=>exact hn
 |some x=>exact h x (Array.mem_of_getElem? e)
def Pm (n:Nat) (p:Array Nat):Prop:=p.Perm (C3 (Bs n))
theorem Pm.size {n:Nat} {p:Array Nat} (h:Pm n p):p.size=n:=by rw[Array.Perm.size_eq h];simp
theorem Pm.lo {n:Nat} {p:Array Nat} (hn:0 < n) (h:Pm n p):Lo n p:=j4r hn λx hx=>by
 have:x∈C3 (Bs n):=(Array.Perm.mem_iff h).mp hx;simpa using this
theorem Pm.rev {n:Nat} {p:Array Nat} (h:Pm n p) (i j:Nat):Pm n (Eb p i j):=(mirror_perm p i j _).trans h
theorem Pm.bub {n:Nat} {p:Array Nat} (h:Pm n p) (i j:Nat):Pm n (bubble p i j):=(bubble_perm p i j).trans h
section
variable {n:Nat} (hn:0 < n)
include hn
theorem jsh {p:Array Nat} (h:Lo n p):∀f m,Wi n (λ_=>True) (kas_asc p f m)
 |0,m=>trivial
 |f+1,m=>⟨h _,h _,λb=>by
  cases b with
  |true=>exact trivial
  |false=>exact jsh h f (m+1)⟩
theorem jlq:∀f (p:Array Nat) m q,Pm n p->Wi n (λr=>Pm n r.1) (kas_desc f p m q)
 |0,p,m,q,h=>h
 |f+1,p,m,q,h=>⟨h.lo hn _,h.lo hn _,λb=>by
  cases b with
  |true =>
   show Wi n _ (if q > 0 then _ else _)
   split
   ·exact jlq f _ _ _ (h.rev _ _)
   ·exact jlq f _ _ _ h
  |false=>exact⟨h.lo hn _,h.lo hn _,λd=>by
    cases d with
    |true=>exact h
    |false=>exact jlq f _ _ _ h⟩⟩
theorem jp6 (m nrem:Nat) {p:Array Nat} (h:Pm n p):Wi n (λr=>Pm n r.2) (kas_tail3 m nrem p):=by
 unfold kas_tail3;refine Wi.bind (P:=λ_=>True) (λa _=>?_) (jsh hn ((h.rev 0 m).lo hn) _ _);show Pm n (Eb p 0 m);exact h.rev _ _
theorem jih (m nrem:Nat) {p:Array Nat} (h:Pm n p):Wi n (λr=>Pm n r.2) (kas_descPart m nrem p) :=
 Wi.bind (λr hr=>by
  show Wi n _ (if r.2.2 > 0 then _ else _)
  split
  ·exact jp6 hn _ _ (Pm.rev hr _ _)
  ·exact jp6 hn _ _ hr) (jlq hn _ p _ _ h)
theorem jv0 (nrem:Nat) {p:Array Nat} (h:Pm n p):Wi n (λr=>Pm n r.2) (kas_count nrem p) :=
 Wi.bind (λm _=>by
  show Wi n _ (if (m==nrem)=true then _ else if m > 1 then _ else _)
  split
  ·exact h
  ·split
   ·exact⟨h.lo hn _,h.lo hn _,λb=>by
     cases b with
     |true=>exact h
     |false=>exact jih hn _ _ (h.rev _ _)⟩
   ·exact jih hn _ _ h) (jsh hn (h.lo hn) _ _)
theorem jlp {p:Array Nat} (h:Lo n p) (k:Nat):∀f l r,Wi n (λ_=>True) (kas_place p k f l r)
 |0,l,r=>trivial
 |f+1,l,r=>by
  show Wi n _ (if l ≥ r then _ else _)
  split
  ·exact trivial
  ·exact⟨h _,h _,λb=>by
    cases b with
    |true=>exact jlp h k f _ _
    |false=>exact jlp h k f _ _⟩
theorem jyv:∀f (p:Array Nat) k,Pm n p->Wi n (Pm n) (kas_bin f p k)
 |0,p,k,h=>h
 |f+1,p,k,h=>Wi.bind (λl _=>jyv f _ _ (h.bub _ _)) (jlp hn (h.lo hn) k _ _ _)
theorem wi_sort:Wi n (Pm n) (kas_sort n) :=
 Wi.bind (λr hr=>by
  show Wi n _ (if r.1 < n then _ else _)
  split
  ·exact jyv hn _ _ _ hr
  ·exact hr) (jv0 hn n (Array.Perm.refl _))
end
structure Ord (lt:Nat->Nat->Bool):Prop where
 asym:∀i j,lt i j=true->lt j i=false
 ltr:∀i j k,lt j i=false->lt k j=false->lt k i=false
section
variable {lt:Nat->Nat->Bool} (O:Ord lt)
def g (p:Array Nat) (i:Nat):Nat:=p.getD i 0
def SP (lt:Nat->Nat->Bool) (p:Array Nat) (n:Nat):Prop:=∀i j,i < j->j < n->lt (g p j) (g p i)=false
def DP (lt:Nat->Nat->Bool) (p:Array Nat) (n:Nat):Prop:=∀i j,i < j->j < n->lt (g p i) (g p j)=false
def Sim (lt:Nat->Nat->Bool) (x y:Nat):Prop:=lt x y=false/\lt y x=false
include O
theorem irr (i:Nat):lt i i=false:=by
 cases e:lt i i with
 |false=>rfl
 |true=>exact(O.asym i i e).symm.trans e |>.symm▸rfl
theorem Sim.eq {a b x y:Nat} (h1:Sim lt a x) (h2:Sim lt b y):lt a b=lt x y:=by
 cases e:lt x y with
 |false=>exact O.ltr _ _ _ h2.2 (O.ltr _ _ _ e h1.1)
 |true =>
  cases e2:lt a b with
  |true=>rfl
  |false =>
   have:lt x y=false:=O.ltr _ _ _ h2.1 (O.ltr _ _ _ e2 h1.2);rw[this]at e;cases e
theorem SP.snoc {p:Array Nat} {n:Nat} (h:SP lt p n) (h1:1<=n) (e:lt (g p n) (g p (n - 1))=false):SP lt p (n+1):=λi j hij hj=>by
 by_cases q:j < n
 ·exact h i j hij q
 ·have:j=n:=by omega
  subst this;by_cases r:i=j - 1
  ·subst r;exact e
  ·exact O.ltr _ _ _ (h i (j - 1) (by omega) (by omega)) e
theorem jvn {p:Array Nat}:∀f n,1<=n->SP lt p n->n<=run lt (kas_asc p f n)/\run lt (kas_asc p f n)<=n+f/\SP lt p (run lt (kas_asc p f n))/\(run lt (kas_asc p f n)=n+f\/lt (g p (run lt (kas_asc p f n))) (g p (run lt (kas_asc p f n) - 1))=true)
 |0,n,h1,h=>⟨Al _,Al _,h,.inl rfl⟩
 |f+1,n,h1,h=>by
  have e:run lt (kas_asc p (f+1) n)=run lt (if lt (g p n) (g p (n - 1))=true then .ret n else kas_asc p f (n+1)):=rfl;rw[e];cases q:lt (g p n) (g p (n - 1))with
  |true=>exact⟨Al _,Nat.le_add_right _ _,h,.inr q⟩
  |false =>
   rw[if_neg Ak];obtain⟨a1,a2,a3,a4⟩:=jvn f (n+1) (by omega) (SP.snoc O h h1 q);exact⟨by omega,by omega,a3,a4.imp (λz=>by omega) id⟩
omit O
theorem jtm {p:Array Nat} {i j:Nat} (hj:j<=p.size) (k:Nat):g (Eb p i j) k=if i<=k/\k < j then g p (i+j - 1 - k)else g p k:=by
 unfold g Eb;rw[jes,jes,jes,getElem?_mirror hj _ (by omega)];by_cases h:i<=k/\k < j
 ·rw[if_pos h];by_cases q:(i<=k/\k < i+(j - i) / 2)\/(j - (j - i) / 2<=k/\k < j)
  ·rw[if_pos q]
  ·rw[if_neg q];have:i+j - 1 - k=k:=by omega
   rw[this]
 ·rw[if_neg h,if_neg (by omega)]
include O
theorem jpc {p:Array Nat} {i j:Nat} (hj:j<=p.size) (h:∀a b,i<=a->a < j->i<=b->b < j->Sim lt (g p a) (g p b)) (k:Nat):Sim lt (g (Eb p i j) k) (g p k):=by
 rw[jtm hj]
 split
 ·rename_i q;exact h _ _ (by omega) (by omega) q.1 q.2
 ·exact⟨irr O _,irr O _⟩
theorem DP.sim {p p':Array Nat} {n:Nat} (h:DP lt p n) (s:∀k,Sim lt (g p' k) (g p k)):DP lt p' n:=λi j hij hj=>(Sim.eq O (s i) (s j)).trans (h i j hij hj)
theorem DP.snoc {p:Array Nat} {n:Nat} (h:DP lt p n) (h1:1<=n) (e:lt (g p (n - 1)) (g p n)=false):DP lt p (n+1):=λi j hij hj=>by
 by_cases q:j < n
 ·exact h i j hij q
 ·have:j=n:=by omega
  subst this;by_cases r:i=j - 1
  ·subst r;exact e
  ·exact O.ltr _ _ _ e (h i (j - 1) (by omega) (by omega))
omit O
def j2s (lt:Nat->Nat->Bool) (sz n f:Nat) (r:Array Nat×Nat×Nat):Prop :=
 r.1.size=sz/\n<=r.2.1/\r.2.1<=n+f/\r.2.2+1<=r.2.1/\DP lt r.1 r.2.1/\(∀a b,r.2.1 - (r.2.2+1)<=a->a < r.2.1->r.2.1 - (r.2.2+1)<=b->b < r.2.1->Sim lt (g r.1 a) (g r.1 b))
def CntP (lt:Nat->Nat->Bool) (sz nrem:Nat) (r:Nat×Array Nat):Prop:=r.2.size=sz/\1<=r.1/\r.1<=nrem/\SP lt r.2 r.1
def PlP (lt:Nat->Nat->Bool) (p:Array Nat) (k m:Nat):Prop:=m<=k/\(∀i,i < m->lt (g p k) (g p i)=false)/\(∀i,m<=i->i < k->lt (g p k) (g p i)=true)
include O
theorem jmq:∀f (p:Array Nat) n q,q+1<=n->n+f<=p.size->DP lt p n->(∀a b,n - (q+1)<=a->a < n->n - (q+1)<=b->b < n->Sim lt (g p a) (g p b)) ->
  j2s lt p.size n f (run lt (kas_desc f p n q))
 |0,p,n,q,h1,h2,h3,h4=>⟨rfl,Al _,Al _,h1,h3,h4⟩
 |f+1,p,n,q,h1,h2,h3,h4=>by
  have one:∀(p':Array Nat) (m:Nat) (a b:Nat),m+1 - (0+1)<=a->a < m+1->m+1 - (0+1)<=b->b < m+1->Sim lt (g p' a) (g p' b):=λp' m a b ha ha' hb hb'=>by
   have e1:a=m:=by omega
   have e2:b=m:=by omega
   rw[e1,e2];exact⟨irr O _,irr O _⟩
  show j2s lt p.size n (f+1) (run lt (if lt (g p n) (g p (n - 1))=true then(if q > 0 then kas_desc f (Eb p (n - (q+1)) n) (n+1) 0 else kas_desc f p (n+1) 0)else .ask (p.getD (n - 1) 0) (p.getD n 0) λd=>if d=true then .ret (p,n,q)else kas_desc f p (n+1) (q+1)));cases c1:lt (g p n) (g p (n - 1))with
  |true =>
   rw[if_pos rfl];by_cases hq:q > 0
   ·rw[if_pos hq];have sim:=jpc O (p:=p) (i:=n - (q+1)) (j:=n) (by omega) h4;have hd:DP lt (Eb p (n - (q+1)) n) (n+1):=DP.sim O (DP.snoc O h3 (by omega) (O.asym _ _ c1)) sim;have hs:(Eb p (n - (q+1)) n).size=p.size:=mirror_size _ _ _ _;obtain⟨a1,a2,a3,a4,a5,a6⟩:=jmq f (Eb p (n - (q+1)) n) (n+1) 0 (by omega) (by rw[hs];omega) hd (one _ n);exact⟨a1.trans hs,by omega,by omega,a4,a5,a6⟩
   ·rw[if_neg hq];obtain⟨a1,a2,a3,a4,a5,a6⟩:=jmq f p (n+1) 0 (by omega) (by omega) (DP.snoc O h3 (by omega) (O.asym _ _ c1)) (one _ n);exact⟨a1,by omega,by omega,a4,a5,a6⟩
  |false =>
   rw[if_neg Ak];show j2s lt p.size n (f+1) (run lt (if lt (g p (n - 1)) (g p n)=true then .ret (p,n,q)else kas_desc f p (n+1) (q+1)));cases c2:lt (g p (n - 1)) (g p n)with
   |true=>exact⟨rfl,Al _,by show n<=n+(f+1);omega,h1,h3,h4⟩
   |false =>
    rw[if_neg Ak];have s1:Sim lt (g p n) (g p (n - 1)):=⟨c1,c2⟩;have tr:∀{x y z:Nat},Sim lt x y->Sim lt y z->Sim lt x z:=λh h'=>⟨O.ltr _ _ _ h'.1 h.1,O.ltr _ _ _ h.2 h'.2⟩;obtain⟨a1,a2,a3,a4,a5,a6⟩:=jmq f p (n+1) (q+1) (by omega) (by omega) (DP.snoc O h3 (by omega) c2) (λa b ha ha' hb hb'=>by
     have key:∀x,n+1 - (q+1+1)<=x->x < n+1->Sim lt (g p x) (g p (n - 1)):=λx hx hx'=>by
      by_cases e:x=n
      ·rw[e];exact s1
      ·exact h4 x (n - 1) (by omega) (by omega) (by omega) (by omega)
     have kb:=key b hb hb';exact tr (key a ha ha') ⟨kb.2,kb.1⟩)
    exact⟨a1,by omega,by omega,a4,a5,a6⟩
theorem jp9 {p:Array Nat} {n nrem:Nat} (h1:1<=n) (hn:n<=nrem) (hz:nrem<=p.size) (h:DP lt p n):CntP lt p.size nrem (run lt (kas_tail3 n nrem p)):=by
 unfold kas_tail3;rw[jfb];have hs:(Eb p 0 n).size=p.size:=mirror_size _ _ _ _;have sp:SP lt (Eb p 0 n) n:=λi j hij hj=>by
  rw[jtm (by omega),jtm (by omega),if_pos ⟨Bj _,hj⟩,if_pos ⟨Bj _,by omega⟩];exact h _ _ (by omega) (by omega)
 obtain⟨a1,a2,a3,_⟩:=jvn O (p:=Eb p 0 n) (nrem - n) n h1 sp;exact⟨hs,by show 1<=run lt (kas_asc (Eb p 0 n) (nrem - n) n);omega,by show run lt (kas_asc (Eb p 0 n) (nrem - n) n)<=nrem;omega,a3⟩
theorem jjj {p:Array Nat} {n nrem:Nat} (h1:1<=n) (hn:n+1<=nrem) (hz:nrem<=p.size) (h:DP lt p (n+1)):CntP lt p.size nrem (run lt (kas_descPart n nrem p)):=by
 unfold kas_descPart;rw[jfb];obtain⟨a1,a2,a3,a4,a5,a6⟩:=jmq O (nrem - (n+1)) p (n+1) 0 (by omega) (by omega) h (λa b ha ha' hb hb'=>by
  have e1:a=n:=by omega
  have e2:b=n:=by omega
  rw[e1,e2];exact⟨irr O _,irr O _⟩)
 generalize run lt (kas_desc (nrem - (n+1)) p (n+1) 0)=r at a1 a2 a3 a4 a5 a6;by_cases hq:r.2.2 > 0
 ·rw[if_pos hq];have hs:(Eb r.1 (r.2.1 - (r.2.2+1)) r.2.1).size=r.1.size:=mirror_size _ _ _ _;obtain⟨b1,b2⟩:=jp9 O (p:=Eb r.1 (r.2.1 - (r.2.2+1)) r.2.1) (n:=r.2.1) (nrem:=nrem) (by omega) (by omega) (by rw[hs];omega) (DP.sim O a5 (jpc O (by omega) a6));exact⟨b1.trans (hs.trans a1),b2⟩
 ·rw[if_neg hq];obtain⟨b1,b2⟩:=jp9 O (p:=r.1) (n:=r.2.1) (nrem:=nrem) (by omega) (by omega) (by omega) a5;exact⟨b1.trans a1,b2⟩
theorem jya {p:Array Nat} {nrem:Nat} (h1:1<=nrem) (hz:nrem<=p.size):CntP lt p.size nrem (run lt (kas_count nrem p)):=by
 unfold kas_count;rw[jfb];obtain⟨a1,a2,a3,a4⟩:=jvn O (p:=p) (nrem - 1) 1 (Al _) (λi j hij hj=>by omega);generalize run lt (kas_asc p (nrem - 1) 1)=m at a1 a2 a3 a4;by_cases q:(m==nrem)=true
 ·rw[if_pos q];exact⟨rfl,a1,by show m<=nrem;omega,a3⟩
 ·rw[if_neg q];have hm:m≠nrem:=λz=>q (by rw[z];exact beq_self_eq_true _);have a4:lt (g p m) (g p (m - 1))=true:=a4.resolve_left (by omega);by_cases hm1:m > 1
  ·rw[if_pos hm1];show CntP lt p.size nrem (run lt (if lt (g p 0) (g p (m - 1))=true then .ret (m,p)else kas_descPart m nrem (Eb p 0 m)));cases c:lt (g p 0) (g p (m - 1))with
   |true=>exact⟨rfl,a1,by show m<=nrem;omega,a3⟩
   |false =>
    rw[if_neg Ak];have hs:(Eb p 0 m).size=p.size:=mirror_size _ _ _ _;have up:∀a b,a < m->b < m->lt (g p b) (g p a)=false:=λa b ha hb=>by
     have le0:lt (g p a) (g p 0)=false:=by
      by_cases z:a=0
      ·rw[z];exact irr O _
      ·exact a3 0 a (by omega) ha
     have leb:lt (g p (m - 1)) (g p b)=false:=by
      by_cases z:b=m - 1
      ·rw[z];exact irr O _
      ·exact a3 b (m - 1) (by omega) (by omega)
     have l1:lt (g p b) (g p 0)=false:=by
      by_cases z:b=0
      ·rw[z];exact irr O _
      ·exact a3 0 b (by omega) hb
     have l2:lt (g p 0) (g p a)=false:=O.ltr _ _ _ (by
      by_cases z:a=m - 1
      ·rw[z];exact irr O _
      ·exact a3 a (m - 1) (by omega) (by omega)) c
     -- b <= m-1 <= 0 <= a
     exact O.ltr _ _ _ l2 l1
    have all:∀a b,0<=a->a < m->0<=b->b < m->Sim lt (g p a) (g p b):=λa b _ ha _ hb=>⟨up b a hb ha,up a b ha hb⟩;have sim:=jpc O (p:=p) (i:=0) (j:=m) (by omega) all;have dp:DP lt p (m+1):=DP.snoc O (λi j hij hj=>up j i hj (by omega)) a1 (O.asym _ _ a4);obtain⟨b1,b2⟩:=jjj O (p:=Eb p 0 m) (n:=m) (nrem:=nrem) a1 (by omega) (by rw[hs];omega) (DP.sim O dp sim);exact⟨b1.trans hs,b2⟩
  ·rw[if_neg hm1];have e:m=1:=by omega
   subst e;exact jjj O (p:=p) (Al _) (by omega) hz (DP.snoc O (λi j hij hj=>by omega) (Al _) (O.asym _ _ a4))
theorem jl2 {p:Array Nat} {k:Nat} (h:SP lt p k):∀f l r,l<=r->r<=k->r - l<=f->(∀i,i < l->lt (g p k) (g p i)=false)->(∀i,r<=i->i < k->lt (g p k) (g p i)=true) ->
  PlP lt p k (run lt (kas_place p k f l r))
 |0,l,r,hlr,hr,hf,h1,h2=>by
  have e:l=r:=by omega
  subst e;exact⟨hr,h1,h2⟩
 |f+1,l,r,hlr,hr,hf,h1,h2=>by
  show PlP lt p k (run lt (if l ≥ r then .ret l else .ask (p.getD k 0) (p.getD ((l+r) / 2) 0) λc=>if c=true then kas_place p k f l ((l+r) / 2)else kas_place p k f ((l+r) / 2+1) r));by_cases q:l ≥ r
  ·rw[if_pos q];have e:l=r:=by omega
   subst e;exact⟨hr,h1,h2⟩
  ·rw[if_neg q];show PlP lt p k (run lt (if lt (g p k) (g p ((l+r) / 2))=true then kas_place p k f l ((l+r) / 2)else kas_place p k f ((l+r) / 2+1) r));cases c:lt (g p k) (g p ((l+r) / 2))with
   |true =>
    rw[if_pos rfl];refine jl2 h f l ((l+r) / 2) (by omega) (by omega) (by omega) h1 λi hi hik=>?_;by_cases e:i=(l+r) / 2
    ·rw[e];exact c
    ·cases z:lt (g p k) (g p i)with
     |true=>rfl
     |false =>
      have:=O.ltr _ _ _ (h ((l+r) / 2) i (by omega) hik) z;rw[this]at c;cases c
   |false =>
    rw[if_neg Ak];refine jl2 h f ((l+r) / 2+1) r (by omega) hr (by omega) (λi hi=>?_) h2;by_cases e:i=(l+r) / 2
    ·rw[e];exact c
    ·exact O.ltr _ _ _ (h i ((l+r) / 2) (by omega) (by omega)) c
omit O
theorem jz2 {p:Array Nat} {k l:Nat} (hk:k < p.size) (hl:l<=k) (i:Nat):g (bubble p k (k - l)) i=if i=l then g p k else if l < i/\i<=k then g p (i - 1)else g p i:=by
 unfold g;rw[jes,getElem?_bubble hk _ (by omega),jes,jes,jes];have e:k - (k - l)=l:=by omega
 rw[e];by_cases h1:i=l
 ·rw[if_pos h1,if_pos h1]
 ·rw[if_neg h1,if_neg h1];by_cases h2:l < i/\i<=k
  ·rw[if_pos h2,if_pos h2]
  ·rw[if_neg h2,if_neg h2]
include O
theorem jz7:∀f (p:Array Nat) k,1<=k->k+f<=p.size->SP lt p k->SP lt (run lt (kas_bin f p k)) (k+f)
 |0,p,k,h1,hz,h=>h
 |f+1,p,k,h1,hz,h=>by
  show SP lt (run lt ((kas_place p k k 0 k).bind λl=>kas_bin f (bubble p k (k - l)) (k+1))) (k+(f+1));rw[jfb];obtain⟨b1,b2,b3⟩:=jl2 O h k 0 k (Bj _) (Al _) (by omega) (λi hi=>by omega) (λi hi hi'=>by omega);generalize run lt (kas_place p k k 0 k)=l at b1 b2 b3;have sp:SP lt (bubble p k (k - l)) (k+1):=λi j hij hj=>by
   rw[jz2 (by omega) b1,jz2 (by omega) b1];by_cases e1:j=l
   ·rw[if_pos e1,if_neg (by omega),if_neg (by omega)];exact b2 i (by omega)
   ·rw[if_neg e1];by_cases e2:l < j/\j<=k
    ·rw[if_pos e2];by_cases e3:i=l
     ·rw[if_pos e3];exact O.asym _ _ (b3 (j - 1) (by omega) (by omega))
     ·rw[if_neg e3];by_cases e4:l < i/\i<=k
      ·rw[if_pos e4];exact h (i - 1) (j - 1) (by omega) (by omega)
      ·rw[if_neg e4];exact h i (j - 1) (by omega) (by omega)
    ·rw[if_neg e2,if_neg (by omega),if_neg (by omega)];exact h i j hij (by omega)
  have:=jz7 f (bubble p k (k - l)) (k+1) (by omega) (by rw[bubble_size];omega) sp;have e:k+1+f=k+(f+1):=by omega
  rwa [e]at this
theorem sort_ok {n:Nat} (h1:1<=n):SP lt (run lt (kas_sort n)) n:=by
 unfold kas_sort;rw[jfb];obtain⟨a1,a2,a3,a4⟩:=jya O (p:=C3 (Bs n)) (nrem:=n) h1 (by simp);generalize run lt (kas_count n (C3 (Bs n)))=r at a1 a2 a3 a4;have hs:r.2.size=n:=by rw[a1];simp
 by_cases q:r.1 < n
 ·rw[if_pos q];have e:max r.1 1=r.1:=by omega
  rw[e];have:=jz7 O (n - r.1) r.2 r.1 a2 (by omega) a4;have e2:r.1+(n - r.1)=n:=by omega
  rwa [e2]at this
 ·rw[if_neg q];have e:r.1=n:=by omega
  rw[e]at a4;exact a4
end
end KS
namespace KS
open PySem PySem.W PySem.Calls PyProof.Rows
section
variable {prog:Bg} {w:Bt} {A:B6} {E:Af->Aj->Prop} {s:Aj} {a:Addr} {vs:List Af}
theorem ls_sort {n:Nat} {P:PySem.Fin->Aj->Prop} (ho:s.heap.get? a=some (Cg "list" vs.toArray n)) (h2:2<=vs.length) (h64:vs.length < 64)
  (h:∀e1 h',h'.get? a=some (Cg "list" #[] e1)->(∀b o,b≠a->s.heap.get? b=some o->h'.get? b=some o) ->
   A3 (A9 prog w) A (keyKind' vs.toArray) (λκ s'=>(kas_sort vs.length).kasWp (kas_ask prog w A κ vs)
    (λp s''=>s''.heap.get? a=some (Cg "list" #[] e1)/\∀h3 c,C5 a s''.heap h3->h3.get? a=some (Cg "list" (C3 (p.toList.map λi=>vs.getD i Bh)) c)->P (.done (.ret .none)) {s'' with heap:=h3}) s') (λ_ _=>False) {s with heap:=h'}) :
  A3 (A9 prog w) A (Dn.«list.sort» ⟨[.ref a],[]⟩) P E s:=by
 have ha:a < s.heap.objs.size:=Ap ho;have s1:=Bi s.heap a (Cr λ_=>(#[]:Array Af));obtain⟨e1,ho1⟩:∃e1,(s.heap.update a (Cr λ_=>(#[]:Array Af))).get? a=some (Cg "list" #[] e1):=⟨_,get?_update_seq ho λ_=>#[]⟩;have ask:=h e1 (((s.heap.update a (Cr λ_=>(#[]:Array Af))).push (Cg "tuple" vs.toArray 0)).push (Cg "list" #[] 0)) (Ad _ (Ad _ ho1))
  λb o hb e=>Ad _ (Ad _ ((s1.2 b hb).trans e))
 rw[list_sort_plain];refine Aa (listItems_at ho rfl ?_);refine Aa (listUpdate_at ho rfl ?_ (by rw[A4,Ea];omega) (Bj _));refine Aa (seqEpoch_at ho1 rfl ?_);refine Aa (wpAny_newTuple ?_ (by show vs.length<=_;rw[Ea];omega));refine Aa (wpAny_newList ?_ (Bj _));refine Cw ?_;show A3 (A9 prog w) A _ P E {s with heap:=((s.heap.update a (Cr λ_=>(#[]:Array Af))).push (Cg "tuple" vs.toArray 0)).push (Cg "list" #[] 0)};dsimp only;have hn2:¬vs.toArray.size < 2:=by rw[A4];omega
 rw[if_neg hn2,if_neg hn2];refine Aa (C8 ask (λκ s0 hk=>?_) λ_ _ x=>x.elim);refine Aa (C8 (kat_run (Q:=λst' s'=>∃p:Array Nat,p.size=vs.length/\arrOf st'=p.map (kas_item (vs.toArray.zip vs.toArray))/\failedOf st'=none/\s'.heap.get? a=some (Cg "list" #[] e1)/\∀h3 c,C5 a s'.heap h3->h3.get? a=some (Cg "list" (C3 (p.toList.map λi=>vs.getD i Bh)) c)->P (.done (.ret .none)) {s' with heap:=h3})
  rfl h2 h64 (λp' st' s' a1 a2 a3 a4=>⟨p',a1,a2,a3,a4⟩) hk) ?_ λ_ _ e=>e)
 rintro⟨⟨⟩,st'⟩ s' ⟨p,hp,har,hf,na,k⟩
 dsimp only;have hout:=kat_snds rfl har;have hsz:(C3 (p.toList.map λi=>vs.getD i Bh)).size=vs.length:=by rw[A4,Ab,Cy,hp]
 rw[hout];have s2:=Bi s'.heap a (Cr λ_=>C3 (p.toList.map λi=>vs.getD i Bh));obtain⟨c2,hc2⟩:∃c2,(s'.heap.update a (Cr λ_=>C3 (p.toList.map λi=>vs.getD i Bh))).get? a=some (Cg "list" (C3 (p.toList.map λi=>vs.getD i Bh)) c2):=⟨_,get?_update_seq na λ_=>C3 (p.toList.map λi=>vs.getD i Bh)⟩;refine Aa (seqEpoch_at na rfl ?_);refine Aa (listUpdate_at na rfl ?_ (Bj _) (Ba (Nat.le_of_eq hsz) (by rw[Ea];omega)));rw[hf];simp only[bne_self_eq_false,Cq,if_false];exact Ai (k _ c2 s2 hc2)
theorem ls_short {n:Nat} {P:PySem.Fin->Aj->Prop} (ho:s.heap.get? a=some (Cg "list" vs.toArray n)) (h2:vs.length < 2)
  (h:∀h' c,h'.get? a=some (Cg "list" vs.toArray c)->(∀b o,b≠a->s.heap.get? b=some o->h'.get? b=some o)->P (.done (.ret .none)) {s with heap:=h'}) :
  A3 (A9 prog w) A (Dn.«list.sort» ⟨[.ref a],[]⟩) P E s:=by
 have ha:a < s.heap.objs.size:=Ap ho;have s1:=Bi s.heap a (Cr λ_=>(#[]:Array Af));obtain⟨e1,ho1⟩:∃e1,(s.heap.update a (Cr λ_=>(#[]:Array Af))).get? a=some (Cg "list" #[] e1):=⟨_,get?_update_seq ho λ_=>#[]⟩;have ho6:(((s.heap.update a (Cr λ_=>(#[]:Array Af))).push (Cg "tuple" vs.toArray 0)).push (Cg "list" #[] 0)).get? a=some (Cg "list" #[] e1):=Ad _ (Ad _ ho1);rw[list_sort_plain];refine Aa (listItems_at ho rfl ?_);refine Aa (listUpdate_at ho rfl ?_ (by rw[A4,Ea];omega) (Bj _));refine Aa (seqEpoch_at ho1 rfl ?_);refine Aa (wpAny_newTuple ?_ (by show vs.length<=_;rw[Ea];omega));refine Aa (wpAny_newList ?_ (Bj _));refine Cw ?_;show A3 (A9 prog w) A _ P E {s with heap:=((s.heap.update a (Cr λ_=>(#[]:Array Af))).push (Cg "tuple" vs.toArray 0)).push (Cg "list" #[] 0)};dsimp only;have hn2:vs.toArray.size < 2:=by rw[A4];omega
 rw[if_pos hn2,if_pos hn2];refine Aa (Ai ?_);rw[StateT.run_pure];refine Aa (Ai ?_);dsimp only;refine Aa (seqEpoch_at ho6 rfl ?_);refine Aa (listUpdate_at ho6 rfl ?_ (hsz2:=by rw[Array.size_map];show(pairsOf vs).size<=_;rw[pairsOf_size,Ea];omega));simp only[bne_self_eq_false,Cq,if_false];have e:(arrOf (SortSt.mk' general' (vs.toArray.zip vs.toArray) #[] 7 none)).map (·.2)=vs.toArray:=by
  show(vs.toArray.zip vs.toArray).map (·.2)=vs.toArray;apply Gc.mp;simp only[Array.toList_map,Array.toList_zip];exact List.map_snd_zip (Al _)
 have s2:=Bi (((s.heap.update a (Cr λ_=>(#[]:Array Af))).push (Cg "tuple" vs.toArray 0)).push (Cg "list" #[] 0)) a (Cr λ_=>(arrOf (SortSt.mk' general' (vs.toArray.zip vs.toArray) #[] 7 none)).map (·.2));refine Ai (h _ _ (by rw[e];exact get?_update_seq ho6 λ_=>vs.toArray) λb o hb q=>(s2.2 b hb).trans (Ad _ (Ad _ ((s1.2 b hb).trans q))))
theorem sorted_of {r:Af} {Q:Af->Aj->Prop} {R:List Af->Aj->Prop} (hcol:A3 (A9 prog w) A.in1 (collect r) R E s)
  (h:∀vs s1,R vs s1->vs.length<=A1/\A3 (A9 prog w) A.in1.in1 (Dn.«list.sort» ⟨[.ref s1.heap.objs.size],[]⟩) (λf s2=>f=.done (.ret .none)/\Q (.ref s1.heap.objs.size) s2) E {s1 with heap:=s1.heap.push (Cg "list" vs.toArray 0)}) :
  A3 (A9 prog w) A (call (.builtin "sorted") [r]) Q E s:=by
 refine Calls.call_function_entry kind_sorted plain_sorted entry_sorted (args_sorted1 _) ?_;unfold Dn.«sorted»;refine Aa (m:=checkCount "sorted" 1 1 _) (Ai ?_);refine Aa (C8 hcol (λvs s1 hr=>?_) λ_ _ e=>e);obtain⟨hl,hs⟩:=h vs s1 hr;refine Aa (wpAny_newList ?_ hl);have hoL:(s1.heap.push (Cg "list" vs.toArray 0)).get? s1.heap.objs.size=some (Cg "list" vs.toArray 0):=Au _ rfl;refine Aa (Cw (B4 (s:={ s1 with heap:=s1.heap.push (Cg "list" vs.toArray 0)}) slot_list_sort ⟨_,hoL,rfl⟩ entry_list_sort ?body (args_list_sort _)))
 case body =>
  refine C8 hs (λf s2 hf=>?_) λ_ _ e=>e;obtain⟨rfl,hq⟩:=hf;exact⟨_,rfl,Ai ⟨_,rfl,hq⟩⟩
def ItsOk (h:Heap) (as:List Addr) (ks:List Str) (xs:List Af):Prop :=
 as.length=ks.length/\as.length=xs.length/\∀(j:Nat) (a:Addr),as[j]?=some a->∃k t x,ks[j]?=some k/\xs[j]?=some x/\h.get? a=some {cls:=.type "tuple",data:=.seq #[.str k t,x]}
def ltK (ks:List Str) (i j:Nat):Bool:=decide ((ks.getD i ⟨#[]⟩).cps.toList < (ks.getD j ⟨#[]⟩).cps.toList)
theorem jxc (x y:List Nat) (h:x < y):¬y < x:=λz=>List.lt_irrefl x (List.lt_trans h z)
theorem ordK (ks:List Str):Ord (ltK ks) where
 asym:=λi j h=>by
  unfold ltK at h ⊢;exact decide_eq_false (jxc _ _ (of_decide_eq_true h))
 ltr:=λi j k h1 h2=>by
  unfold ltK at h1 h2 ⊢;have h1:=of_decide_eq_false h1;have h2:=of_decide_eq_false h2;refine decide_eq_false λz=>?_;have l1:=Ei.mp h1;have l2:=Ei.mp h2;exact absurd z (Ei.mpr (List.le_trans l1 l2))
theorem katTups {h:Heap}:∀{as:List Addr} {ks:List Str} {xs:List Af},ItsOk h as ks xs->∃fs:List Af,KatTups h (as.map A8) fs/\fs.length=as.length/\∀f∈fs,∃k t,f=.str k t
 |[],ks,xs,_=>⟨[],trivial,rfl,λf hf=>nomatch hf⟩
 |a::as,ks,xs,I=>by
  obtain⟨l1,l2,hp⟩:=I;obtain⟨k,t,x,e1,e2,e3⟩:=hp 0 a rfl;cases ks with
  |nil=>cases e1
  |cons k0 ks =>
   cases xs with
   |nil=>cases e2
   |cons x0 xs =>
    obtain⟨fs,f1,f2,f3⟩:=katTups (h:=h) (as:=as) (ks:=ks) (xs:=xs) ⟨by simpa using l1,by simpa using l2,λj b hb=>by
     obtain⟨k',t',x',g1,g2,g3⟩:=hp (j+1) b (by simpa using hb);exact⟨k',t',x',by simpa using g1,by simpa using g2,g3⟩⟩
    refine⟨.str k t::fs,.cons e3 rfl rfl rfl f1,by simp[f2],λf hf=>?_⟩;rcases Ao.mp hf with rfl | z
    ·exact⟨k,t,rfl⟩
    ·exact f3 f z
end
section
variable {prog:Bg} {w:Bt} {A:B6} {E:Af->Aj->Prop} {s:Aj} {a:Addr} {as:List Addr} {ks:List Str} {xs:List Af}
theorem ask_items (hI:ItsOk s.heap as ks xs) (nd:ks.Nodup) (hx:∀x∈xs,∀(s:Aj),SeqAt.EqAt A s x x true) {i j:Nat} (hi:i < as.length) (hj:j < as.length) {C:Bool->Aj->Prop} (h:C (ltK ks i j) s) :
  kas_ask prog w A (tuples' true) (as.map A8) i j C s:=by
 obtain⟨l1,l2,hp⟩:=hI;obtain⟨k1,t1,x1,e1,e2,e3⟩:=hp i as[i] (Ag hi);obtain⟨k2,t2,x2,f1,f2,f3⟩:=hp j as[j] (Ag hj);unfold kas_ask;have g1:(as.map A8).getD i Bh=.ref as[i]:=by simp[hi]
 have g2:(as.map A8).getD j Bh=.ref as[j]:=by simp[hj]
 rw[g1,g2];have c1:ks.getD i ⟨#[]⟩=k1:=by simp[e1]
 have c2:ks.getD j ⟨#[]⟩=k2:=by simp[f1]
 have hc:ltK ks i j=decide (k1.cps.toList < k2.cps.toList):=by unfold ltK;rw[c1,c2]
 rw[hc]at h;refine kat_lt e3 rfl f3 rfl ?_;refine kat_cons (wpAny_eqBool_str ?_);by_cases e:k1=k2
 ·rw[decide_eq_true e];have hij:i=j:=by
   have hi':i < ks.length:=by omega
   have hj':j < ks.length:=by omega
   have q1:ks[i]=k1:=by have:=Ag hi';rw[e1]at this;exact(Aq this).symm
   have q2:ks[j]=k2:=by have:=Ag hj';rw[f1]at this;exact(Aq this).symm
   exact(E3 nd).mp (q1.trans (e.trans q2.symm))
  subst hij;rw[e2]at f2;cases f2;refine kat_yes (kat_cons ?_);refine hx x1 (A6 e2) s _ _ _ _ ?_;refine kat_yes (kat_nil ?_);rw[e]at h;have:decide (k2.cps.toList < k2.cps.toList)=false:=decide_eq_false (List.lt_irrefl _);rw[this]at h;exact h
 ·rw[decide_eq_false e];exact kat_no (oneLt_str h)
end
end KS
namespace L2
open PySem PySem.Spec PyProof.Rows PySem.W
def jm8 (d v:Addr):HO:=.ext λh=>h.get? v=some {cls:=.type "dict_items",data:=.fields #[.ref d]}
theorem jxa {X:Cx}:MtR X "dict.items" (λx vs H Q=>∃d kvs,x=.ref d/\vs=[]/\H d=some (.dK kvs)/\∀v,H v=none->Q (.ref v) (upd H v (jm8 d v))):=by
 intro pins s σ H x xs v us Q I rx rv h;obtain⟨d,kvs,rfl,rfl,hd,q⟩:=h;cases rx;cases rv.zero;obtain⟨z,hsys,vs',rel,hD⟩:=I.hok d _ hd;refine call_meetsIn PySem.F.slot_dict_items hD.typeIs PySem.F.entry_dict_items (PySem.F.args_dict_items_1 _) (meets_dict_items (jbo X.prog X.w) d hsys) ⟨⟨vs',hD⟩,?_⟩;have e:(s.heap.push ({cls:=.type "dict_items",data:=.fields #[.ref d]}:Obj)).get? s.heap.objs.size=some {cls:=.type "dict_items",data:=.fields #[.ref d]}:=Au _ rfl;exact⟨.ref s.heap.objs.size,_,I.laid (t':=s.toks) (o:=jm8 d s.heap.objs.size) (λb ob q=>Ad _ q) (Al _) ⟨e,⟨_,e⟩,λh1 h2 q k=>k _ q⟩,rfl,q _ (I.hok.fresh (Al _))⟩
def IxV (as:List Addr) (ks:List Str) (xv:List V) (i:Nat):Addr×Str×V:=(as.getD i 0,ks.getD i ⟨#[]⟩,xv.getD i .non)
def newH (H:Hp) (D:Addr) (l:List V) (as:List Addr) (ks:List Str) (xv:List V):Hp:=λb=>if b=D then some (.lst l)else match as.idxOf? b with
 |some j=>some (.tup [.str (ks.getD j ⟨#[]⟩),xv.getD j .non])
 |none=>H b
theorem jfe {as:List Addr} {b:Addr} {j:Nat} (h:as.idxOf? b=some j):as[j]?=some b:=by
 unfold List.idxOf? at h;obtain⟨h1,h2,_⟩:=Fp.mp h;rw[Ag h1];rw[beq_iff_eq]at h2;rw[h2]
theorem jrv {as:List Addr} {b:Addr} (h:as.idxOf? b=none):b∉as:=λhb=>by
 unfold List.idxOf? at h;rw[List.findIdx?_eq_none_iff]at h;have:=h b hb;simp at this
theorem jur {as:List Addr} (nd:as.Nodup) {j:Nat} {a:Addr} (h:as[j]?=some a):as.idxOf? a=some j:=by
 obtain⟨h1,h2⟩:=Ay.mp h;cases e:as.idxOf? a with
 |none=>exact absurd (A6 h) (jrv e)
 |some i =>
  have e':=jfe e;obtain⟨h3,h4⟩:=Ay.mp e';rw[(E3 nd).mp (h4.trans h2.symm)]
section
variable {X:Cx} {pins:List (Addr×Obj)} {σ:St} {H:Hp} {s:Aj}
theorem jn4 {as:List Addr} {ks:List Str} {xv:List V} {xs:List Af} {D:Addr} {idx:List Nat} {h3:Heap} {tk c:Nat} {Q:VK} (I:Inv X pins σ H s) (hk:∀b o,s.heap.get? b=some o->h3.get? b=some o)
  (hI:KS.ItsOk h3 as ks xs) (hx:Vals xv xs) (hup:∀a∈as,s.heap.objs.size<=a) (nd:as.Nodup) (hD:∀b o,s.heap.get? b=some o->b≠D) (hDH:H D=none) (hDa:D∉as) (hl:as.length < 64) (hidx:idx.Perm (Bs as.length))
  (hL:h3.get? D=some (Cg "list" (C3 (idx.map λi=>(as.map A8).getD i Bh)) c))
  (q:∀H',Same H H'->H D=none->(∀a∈as,H a=none)->H' D=some (.lst (idx.map λi=>V.ref (IxV as ks xv i).1))->(∀i∈idx,H' (IxV as ks xv i).1=some (.tup [.str (IxV as ks xv i).2.1,(IxV as ks xv i).2.2]))->Q (.ref D) H') :
  EP X pins σ Q (.ref D) {s with heap:=h3,toks:=tk}:=by
 obtain⟨l1,l2,hp⟩:=hI;have lx:=hx.length;have old:∀{b o},H b=some o->b < s.heap.objs.size:=λe=>I.hok.lt e;have hidlt:∀i∈idx,i < as.length:=λi hi=>Ck.mp (hidx.mem_iff.mp hi);have hlen:idx.length=as.length:=by rw[hidx.length_eq,Et]
 have hsame:Same H (newH H D (idx.map λi=>V.ref (IxV as ks xv i).1) as ks xv):=λb o e=>by
  unfold newH;rw[if_neg (λz=>by rw[z,hDH]at e;cases e)];cases q:as.idxOf? b with
  |none=>exact e
  |some j =>
   have:=hup b (A6 (jfe q));exact absurd (old e) (Nat.not_lt.mpr this)
 have hvals:Vals (idx.map λi=>V.ref (IxV as ks xv i).1) (idx.map λi=>(as.map A8).getD i Bh):=by
  have:∀l:List Nat,(∀i∈l,i < as.length)->Vals (l.map λi=>V.ref (IxV as ks xv i).1) (l.map λi=>(as.map A8).getD i Bh):=by
   intro l
   induction l with
   |nil=>intro _;exact .nil
   |cons i r ih =>
    intro hl;have hi:=hl i A2;refine .cons ?_ (ih λj hj=>hl j (As _ hj));show(as.map A8).getD i Bh=A8 (as.getD i 0);simp[hi]
  exact this idx hidlt
 have hnew:HOk X.prog X.w (newH H D (idx.map λi=>V.ref (IxV as ks xv i).1) as ks xv) h3:=λb o e=>by
  by_cases hb:b=D
  ·subst hb;unfold newH at e;rw[if_pos rfl]at e;cases e;refine⟨?_,_,c,hvals,hL⟩;rw[Ab,hlen];exact jbf (by omega)
  ·have e2:=e;unfold newH at e2;rw[if_neg hb]at e2;cases qi:as.idxOf? b with
   |none =>
    rw[qi]at e2;refine(I.hok b o e2).stay (λcc u _ z=>hk cc u z) (λcc z=>hsame _ _ z) λcc ys z=>hsame _ _ z
   |some j =>
    rw[qi]at e2;cases e2;obtain⟨k,t,x,g1,g2,g3⟩:=hp j b (jfe qi);have hjl:j < xv.length:=by
     have:=(Ay.mp g2).1;omega
    have ev:RelV (xv.getD j .non) x:=by
     obtain⟨u,hu,ru⟩:=hx.get (Ag hjl);rw[g2]at hu;cases hu;have:xv.getD j .non=xv[j]:=by simp[hjl]
     rw[this];exact ru
    have ek:ks.getD j ⟨#[]⟩=k:=by simp[g1]
    refine⟨by show 2<=A1;decide,[.str k t,x],.cons (by rw[ek];exact⟨t,rfl⟩) (.cons ev .nil),?_⟩;exact⟨_,g3,rfl,⟨_,rfl⟩,rfl⟩
 refine⟨.ref D,_,I.call' (s':={ s with heap:=h3,toks:=tk}) (ch:=[]) rfl ?_ hnew I.bare (λb hb=>nomatch hb),rfl,q _ hsame hDH (λa ha=>I.hok.fresh (hup a ha)) (by unfold newH;rw[if_pos rfl]) λi hi=>?_⟩
 ·refine⟨λb o e n _ _=>hk b o e,λb o e n _ _=>⟨o.slots,hk b o e⟩,λb o e n _=>?_,λb o e _=>⟨o,hk b o e⟩,λb ys z=>hsame _ _ z,λb o' u z=>hsame _ _ z,λb ps z=>⟨#[],by rw[Array.append_empty];exact hsame _ _ z⟩⟩;have hlt:=Ap e;unfold newH;rw[if_neg (hD b o e)];cases qi:as.idxOf? b with
  |none=>exact n
  |some j=>exact absurd hlt (Nat.not_lt.mpr (hup b (A6 (jfe qi))))
 ·have hi':=hidlt i hi;have ea:(IxV as ks xv i).1=as[i]:=by show as.getD i 0=_;simp[hi']
  have eg:as[i]?=some as[i]:=Ag hi';have ne:as[i]≠D:=λz=>hDa (z▸Df hi');rw[ea];unfold newH;rw[if_neg ne,jur nd eg];rfl
end
def jlb:List V->Hp->VK->Prop:=λxs H Q=>∃(v d:Addr) (ks:List Str) (xv:List V),xs=[.ref v]/\H v=some (jm8 d v)/\ks.length=xv.length/\H d=some (.dK ((ks.zip xv).map λp=>((C6 p.1:Key),p.2)))/\ks.length < 64/\ks.Nodup/\xv.all jia=true /\
 ∀(D:Addr) (as:List Addr) (idx:List Nat) (H':Hp),as.length=ks.length->idx.Perm (Bs ks.length)->(idx.map λi=>ks.getD i ⟨#[]⟩).Pairwise (λa b=>¬b.cps.toList < a.cps.toList)->Same H H'->H D=none->(∀a∈as,H a=none) ->
  H' D=some (.lst (idx.map λi=>V.ref (IxV as ks xv i).1))->(∀i∈idx,H' (IxV as ks xv i).1=some (.tup [.str (IxV as ks xv i).2.1,(IxV as ks xv i).2.2]))->Q (.ref D) H'
theorem jqw {xs:List Af}:∀{ks:List Str} {xv:List V} {vs:List (Key×Af)},ks.length=xv.length->KV ((ks.zip xv).map λp=>((C6 p.1:Key),p.2)) vs->vs.length=ks.length/\Vals xv (vs.map (·.2))/\vs.map (·.1)=ks.map (C6:Str->Key)
 |[],[],_,_,.nil=>⟨rfl,.nil,rfl⟩
 |k::ks,x::xv,_,hl,.cons r rr=>by
  obtain⟨h1,h2,h3⟩:=jqw (xs:=xs) (ks:=ks) (xv:=xv) (by simpa using hl) rr;refine⟨by simp[h1],.cons r.2 h2,?_⟩;rw[Bo,Bo,h3,<-r.1]
theorem j33 {ks:List Str} {p:Array Nat} {n:Nat} (hz:p.size=n) (h:KS.SP (KS.ltK ks) p n):(p.toList.map λi=>ks.getD i ⟨#[]⟩).Pairwise (λa b=>¬b.cps.toList < a.cps.toList):=by
 rw[List.pairwise_iff_getElem];intro i j hi hj hij;rw[Ab,Cy,hz]at hi hj;have:=h i j hij hj;unfold KS.ltK KS.g at this;have e1:p.getD i 0=p[i]:=by simp[hz,hi]
 have e2:p.getD j 0=p[j]:=by simp[hz,hj]
 rw[e1,e2]at this;simp only[List.getElem_map,Array.getElem_toList];exact of_decide_eq_false this
theorem jkv {X:Cx} (hh:X.A.handled=none):CallR X (.builtin "sorted") jlb:=by
 intro pins s σ H xs us Q I r h;obtain⟨v,d,ks,xv,rfl,hv,hl,hd,h64,nd,fl,q⟩:=h;obtain⟨u,rfl,ru⟩:=jnb r;cases(show u=A8 v from ru);have ov:s.heap.get? v=some {cls:=.type "dict_items",data:=.fields #[.ref d]}:=(I.hok v _ hv).1;obtain⟨z,hsys,vs',rel,hDict⟩:=I.hok d _ hd;obtain⟨ep,hat⟩:=hDict.dictAt;obtain⟨lv,hvals,hkeys⟩:=jqw (xs:=[]) hl rel;refine KS.sorted_of (R:=λvs s1=>∃(h':Heap) (tk:Nat) (as:List Addr),vs=as.map A8/\s1={ s with heap:=h',toks:=tk}/\(∀b o,s.heap.get? b=some o->h'.get? b=some o)/\as.length=vs'.length/\KdxG (jbo X.prog X.w) vs' s.heap.objs.size h' as)
  (kdx_collect (knd:=jbo X.prog X.w) (kvs:=vs') (ep:=ep) hh ⟨_,ov,rfl,rfl⟩ hat (by rw[lv];exact jbf (by omega)) λh' tk as hk hl hG=>⟨h',tk,as,rfl,rfl,hk,hl,hG⟩) ?_
 rintro vs s1 ⟨h',tk,as,rfl,rfl,hk,hla,hG⟩
 have hlen:as.length=ks.length:=hla.trans lv;have its:KS.ItsOk h' as ks (vs'.map (·.2)):=⟨hlen,by rw[Ab,hla],λj a ha=>by
  obtain⟨key,k,x,e1,e2,e3⟩:=hG.pairs j a ha;have hk1:(vs'.map (·.1))[j]?=some k:=by rw[A0,e1];rfl
  rw[hkeys,A0]at hk1;cases eq:ks[j]? with
  |none=>rw[eq]at hk1;cases hk1
  |some k0 =>
   rw[eq]at hk1;have hk2:(C6 k0:Key)=k:=Aq hk1;subst hk2;rcases jbp (k:=C6 k0) (v:=key) (show jpn (C6 k0) key=true from e2)with⟨i,t,z,_⟩ | ⟨y,t,z,rfl⟩
   ·cases z
   ·cases z;exact⟨k0,t,x,rfl,by rw[A0,e1];rfl,e3⟩⟩
 have hup:∀a∈as,s.heap.objs.size<=a:=λa ha=>E8 (hG.above a ha);have ndA:as.Nodup:=hG.rise.imp λh=>Bb h;have hDa:h'.objs.size∉as:=λhm=>Er _ (hG.there hm);have hs':∀b o,s.heap.get? b=some o->b≠h'.objs.size:=λb o e=>Bb (Ap (hk b o e));have hsH:H h'.objs.size=none:=(I.hok.kept hk).fresh (Al _);refine⟨by rw[Ab,hlen];exact jbf (by omega),?_⟩;have hoL:(h'.push (Cg "list" (as.map A8).toArray 0)).get? h'.objs.size=some (Cg "list" (as.map A8).toArray 0):=Au _ rfl;have its2:∀h4:Heap,(∀b o,b≠h'.objs.size->(h'.push (Cg "list" (as.map A8).toArray 0)).get? b=some o->h4.get? b=some o)->KS.ItsOk h4 as ks (vs'.map (·.2)):=λh4 k4=>⟨its.1,its.2.1,λj a ha=>by
  obtain⟨k,t,x,e1,e2,e3⟩:=its.2.2 j a ha;exact⟨k,t,x,e1,e2,k4 a _ (λz=>hDa (z▸A6 ha)) (Ad _ e3)⟩⟩
 have keep4:∀h4:Heap,(∀b o,b≠h'.objs.size->(h'.push (Cg "list" (as.map A8).toArray 0)).get? b=some o->h4.get? b=some o)->∀b o,s.heap.get? b=some o->h4.get? b=some o:=λh4 k4 b o e =>
  k4 b o (hs' b o e) (Ad _ (hk b o e))
 by_cases h2:2<=(as.map A8).length
 ·refine KS.ls_sort (s:={ s with heap:=h'.push (Cg "list" (as.map A8).toArray 0),toks:=tk}) hoL h2 (by rw[Ab];omega) λe1 h4 ha4 k4=>?_;have its4:=its2 h4 k4;obtain⟨fs,f1,f2,f3⟩:=KS.katTups its4;rw[Ab]at h2;refine kat_kind (s:={ s with heap:=h4,toks:=tk}) (T:=Eh "str") f1 (by omega) (λf hf=>?_) rfl ?_
  ·obtain⟨k,t,rfl⟩:=f3 f hf;exact .now
  ·rw[Ab];have hn:0 < as.length:=by omega
   have hwi:=KS.wi_sort hn;refine KS.wp_run (n:=as.length) (P:=KS.Pm as.length) (c:=KS.ltK ks) (St:=λs'=>s'={ s with heap:=h4,toks:=tk}) (λi j C s' hi hj hs hC=>?_) _ _ hwi rfl λs' hs'=>?_
   ·subst hs;refine KS.ask_items its4 nd (λx hx s''=>?_) hi hj (hC _ rfl);obtain⟨j,hj⟩:=Cb.mp hx;have hjl:j < xv.length:=by
     have:=(Ay.mp hj).1;rw[Ab]at this;omega
    obtain⟨u,hu,ru⟩:=hvals.get (Ag hjl);rw[hj]at hu;cases hu;have fx:jia xv[j]=true:=E4.mp fl _ (Df hjl);have:=jzx (A:=X.A.in1.in1) (s:=s'') ru ru fx fx;have e1:eqV xv[j] xv[j]=true:=by
     cases ex:xv[j]<;>simp[eqV]<;>(rw[ex]at fx;cases fx)
    rw[e1]at this;exact this
   ·subst hs';refine⟨ha4,λh3 c sb hL3=>⟨rfl,?_⟩⟩;have hpm:KS.Pm as.length (KS.run (KS.ltK ks) (kas_sort as.length)):=KS.Wi.out _ hwi;have hsp:=KS.sort_ok (KS.ordK ks) (n:=as.length) hn;have hsz:=hpm.size;have hidx:(KS.run (KS.ltK ks) (kas_sort as.length)).toList.Perm (Bs as.length):=by
     have:=Array.perm_iff_toList_perm.mp hpm;simpa using this
    have k3:∀b o,b≠h'.objs.size->(h'.push (Cg "list" (as.map A8).toArray 0)).get? b=some o->h3.get? b=some o:=λb o hb e=>(sb.2 b hb).trans (k4 b o hb e);exact jn4 (s:=s) (tk:=tk) (xv:=xv) I (keep4 h3 k3) (its2 h3 k3) hvals hup ndA hs' hsH hDa (by omega) hidx hL3 λH' a1 a2 a3 a4 a5=>q _ as _ H' hlen (by rw[<-hlen];exact hidx) (j33 hsz hsp) a1 a2 a3 a4 a5
 ·refine KS.ls_short (s:={ s with heap:=h'.push (Cg "list" (as.map A8).toArray 0),toks:=tk}) hoL (by omega) λh4 c ha4 k4=>⟨rfl,?_⟩;rw[Ab]at h2;have el:as.map A8=(Bs as.length).map λi=>(as.map A8).getD i Bh:=by
   apply Ge (by simp);intro i h1 h2;simp at h1;simp[h1]
  rw[el]at ha4;refine jn4 (s:=s) (tk:=tk) (xv:=xv) (idx:=Bs as.length) I (keep4 h4 k4) (its2 h4 k4) hvals hup ndA hs' hsH hDa (by omega) (List.Perm.refl _) ha4 λH' a1 a2 a3 a4 a5=>q _ as _ H' hlen (by rw[<-hlen]) ?_ a1 a2 a3 a4 a5;have:(Bs as.length).length<=1:=by simp;omega
  match hr:Bs as.length,this with
  |[],_=>exact .nil
  |[i],_=>exact Gy _ _
def TxOk (vs:List Af) (ks:List Str):Prop:=vs.length=ks.length/\∀(j:Nat) v,vs[j]?=some v->∃k t,ks[j]?=some k/\v=.str k t
theorem jnt {vs:List Af} {ks:List Str} (h:TxOk vs ks):∀(idx:List Nat),(∀i∈idx,i < ks.length)->Vals ((idx.map λi=>ks.getD i ⟨#[]⟩).map V.str) (idx.map λi=>vs.getD i Bh)
 |[],_=>.nil
 |i::r,hi=>by
  have h1:=hi i A2;have h2:i < vs.length:=by rw[h.1];exact h1
  obtain⟨k,t,e1,e2⟩:=h.2 i vs[i] (Ag h2);refine .cons ⟨t,?_⟩ (jnt h r λj hj=>hi j (As _ hj));simp[h2,e1,e2]
theorem jtz {ks:List Str} {idx:List Nat} (h:idx.Perm (Bs ks.length)):(idx.map λi=>ks.getD i ⟨#[]⟩).Perm ks:=by
 have h1:=h.map λi=>ks.getD i (⟨#[]⟩:Str);have h2:(Bs ks.length).map (λi=>ks.getD i (⟨#[]⟩:Str))=ks:=by
  apply Ge (by simp);intro i h1 h2;simp[h2]
 rw[h2]at h1;exact h1
end L2
namespace L2
open PySem PySem.Spec PyProof.Rows
section
variable {prog:Bg} {w:Bt} {A:B6} {E:Af->Aj->Prop} {s:Aj}
theorem jby {it t:Addr} {i:Nat} {items:Array Af} {x:Af} {Q:Af->Aj->Prop} (hit:s.heap.IsTupleIter it t i) (ht:s.heap.IsTuple t items) (hx:items[i]?=some x)
  (hQ:∀h',h'.IsTupleIter it t (i+1)->C5 it s.heap h'->Q x {s with heap:=h'}):A3 (A9 prog w) A (B3 (.ref it)) Q E s:=by
 obtain⟨o,ho,hc,hd⟩:=id hit;obtain⟨ol,hol,_,nl,hdl⟩:=ht;unfold B3;refine Aa (Br (name:=Cv "__next__") hit.typeIs Fc
  (B4 Fc hit.typeIs F.entry_tuple_iterator_next ?_ (F.args_tuple_iterator_next_1 _)))
 show A3 _ _ (field (.ref it) 0>>=_) _ _ s;refine Aa (Ca ho hd (x:=.ref t) rfl ?_);show A3 _ _ (if (A8 t==Bh)=true then _ else _) _ _ s;rw[if_neg (show ¬((A8 t==Bh)=true)from Ak)];show A3 _ _ (field (.ref it) 1>>=_) _ _ s;refine Aa (Ca ho hd (x:=.int i 0) rfl ?_);show A3 _ _ (seqItems? (.ref t)>>=_) _ _ s;refine Aa (Ce hol hdl ?_);simp only[Bp,hx];refine Aa (Dc ho hd (by simp) (Ai ⟨x,rfl,Ai (hQ _ ?_ (Bi ..))⟩));exact⟨_,Bu _ ho (De (B5 hd _)),(Ew ..).trans hc,by
  rw[B5 hd];simp[Ci]⟩
theorem jd7 {it t:Addr} {i:Nat} {items:Array Af} {Q:Af->Aj->Prop} (hh:A.handled=none) (hit:s.heap.IsTupleIter it t i) (ht:s.heap.IsTuple t items) (hx:items[i]?=none)
  (hE:∀h' e,Heap.ExtBut it s.heap h'->(∃o,h'.get? e=some o/\o.cls=.type "StopIteration")->E (.ref e) {s with heap:=h'}) :
  A3 (A9 prog w) A (B3 (.ref it)) Q E s:=by
 obtain⟨o,ho,hc,hd⟩:=id hit;obtain⟨ol,hol,_,nl,hdl⟩:=ht;unfold B3;refine Aa (Br (name:=Cv "__next__") hit.typeIs Fc
  (B4 Fc hit.typeIs F.entry_tuple_iterator_next ?_ (F.args_tuple_iterator_next_1 _)))
 show A3 _ _ (field (.ref it) 0>>=_) _ _ s;refine Aa (Ca ho hd (x:=.ref t) rfl ?_);show A3 _ _ (if (A8 t==Bh)=true then _ else _) _ _ s;rw[if_neg (show ¬((A8 t==Bh)=true)from Ak)];show A3 _ _ (field (.ref it) 1>>=_) _ _ s;refine Aa (Ca ho hd (x:=.int i 0) rfl ?_);show A3 _ _ (seqItems? (.ref t)>>=_) _ _ s;refine Aa (Ce hol hdl ?_);simp only[Bp,hx];refine Aa (Ff (Aa (Dc ho hd (by simp) ?_)));show A3 _ _ (newExc (.type "StopIteration") []>>=_) _ _ _;refine Aa ?_;simp only[newExc,newTuple];refine Aa (By ?_ (by size_fits));refine Aa (m:=Em _ _) (wpAny_of_eq (a:=Bh) (by first | rfl | (simp only[Em];rfl)) ?_);refine By ?_ (by size_fits);simp only[raiseNew];refine Aa (wpAny_handled ?_)
 first | rw[show A.in1.handled=none from hh] | rw[hh]
 refine Aa (Ai (wpAny_throw ?_));exact hE _ _ (((Bi ..).extBut.push _).push _) ⟨_,Au _ rfl,rfl⟩
theorem jse {z TI TO i1 i2 l1 l2:Addr} {k:Nat} {xs ys:Array Af} {x y a b:Af} {Q:Af->Aj->Prop} (D:ZipApart z TI TO i1 i2 l1 l2)
  (hz:Eg s.heap z TI TO .none) (hTI:Cs s.heap TI (.ref i1) (.ref i2)) (hTO:Cs s.heap TO a b)
  (h1:s.heap.IsTupleIter i1 l1 k) (h2:s.heap.IsTupleIter i2 l2 k) (hl1:s.heap.IsTuple l1 xs) (hl2:s.heap.IsTuple l2 ys) (hx:xs[k]?=some x) (hy:ys[k]?=some y)
  (hQ:∀h',Eg h' z TI TO (Ci s.heap.objs.size)->Cs h' TO x y->h'.IsTupleIter i1 l1 (k+1)->h'.IsTupleIter i2 l2 (k+1)->Cs h' s.heap.objs.size x y->h'.objs.size=s.heap.objs.size+1 ->
   (∀c o,c≠z->c≠TO->c≠i1->c≠i2->s.heap.get? c=some o->h'.get? c=some o)->Q (.ref s.heap.objs.size) {s with heap:=h'}) :
  A3 (A9 prog w) A (Dn.«zip.__next__» ⟨[.ref z],[]⟩) (λfin s'=>∃v,fin=.done (.ret v)/\Q v s') E s:=by
 show A3 _ _ (field (.ref z) 2>>=_) _ _ _;refine Aa (Ca hz rfl (x:=.bool false) rfl ?_);show A3 _ _ (field (.ref z) 3>>=_) _ _ _;refine Aa (Ca hz rfl (x:=.ref TI) rfl ?_);refine Aa (Ce hTI rfl ?_);show A3 _ _ (Bv (.ref z)>>=_) _ _ _;refine Aa ?_;unfold Bv;refine Aa (Ca hz rfl (x:=.none) rfl (Ai ?_));simp only[if_true];refine Aa (Ff ?_);refine Aa (Ca hz rfl (x:=.ref TO) rfl ?_);refine Aa (Cu hz (by simp) λg1 hz1 s1=>?_)
 replace hz1:Eg g1 z TI TO .ellipsis:=hz1
 refine Aa ?_;simp only[Gd,List.zipIdx_nil,List.forIn_cons,List.forIn_nil];refine Aa (Aa (Gq ?_));show A3 _ _ (B3 (.ref i1)>>=_) _ _ _;refine Aa (jby (h1.extBut s1.extBut D.i1z) (hl1.extBut s1.extBut D.l1z) hx λg2 t2 s2=>Ai ?_);have p2:Cs g2 TO a b:=s2.extBut _ _ D.TOi1 (s1.extBut _ _ D.TOz hTO);refine Aa (Ce p2 rfl ?_);refine Aa (Gr p2 λg3 p3 s3=>?_)
 replace p3:Cs g3 TO x b:=p3
 refine Aa (wpAny_letGo (Ai ?_));refine Aa (Aa (Gq ?_));show A3 _ _ (B3 (.ref i2)>>=_) _ _ _;refine Aa (jby (((h2.extBut s1.extBut D.i2z).extBut s2.extBut D.i12.symm).extBut s3.extBut D.TOi2.symm)
  (((hl2.extBut s1.extBut D.l2z).extBut s2.extBut D.l2i1).extBut s3.extBut D.l2TO) hy λg4 t4 s4=>Ai ?_)
 have p4:Cs g4 TO x b:=s4.extBut _ _ D.TOi2 p3;refine Aa (Ce p4 rfl ?_);refine Aa (Gr p4 λg5 p5 s5=>?_)
 replace p5:Cs g5 TO x y:=p5
 refine Aa (wpAny_letGo (Ai (Ai ?_)));refine Aa (Ce p5 rfl ?_);refine Aa (wpAny_newTuple ?_);have sz:g5.objs.size=s.heap.objs.size:=by rw[s5.1,s4.1,s3.1,s2.1,s1.1]
 have z5:Eg g5 z TI TO .ellipsis:=s5.extBut _ _ D.TOz.symm (s4.extBut _ _ D.i2z.symm (s3.extBut _ _ D.TOz.symm (s2.extBut _ _ D.i1z.symm hz1)));have k5:∀c o,c≠z->c≠TO->c≠i1->c≠i2->s.heap.get? c=some o->g5.get? c=some o:=λc o c1 c2 c3 c4 e =>
  s5.extBut _ _ c2 (s4.extBut _ _ c4 (s3.extBut _ _ c2 (s2.extBut _ _ c3 (s1.extBut _ _ c1 e))))
 have u1:g5.IsTupleIter i1 l1 (k+1):=((t2.extBut s3.extBut D.TOi1.symm).extBut s4.extBut D.i12).extBut s5.extBut D.TOi1.symm;have u2:g5.IsTupleIter i2 l2 (k+1):=t4.extBut s5.extBut D.TOi2.symm;have zlt:z < g5.objs.size:=Ap z5;show A3 _ _ (Da (.ref z) (.ref g5.objs.size)>>=_) _ _ _;refine Aa ?_;unfold Da;have z6:Eg (g5.push {cls:=.type "tuple",data:=.seq #[x,y]}) z TI TO .ellipsis:=Ad _ z5;refine Aa (Cu z6 (by simp) λg7 z7 s7=>?_)
 replace z7:Eg g7 z TI TO (Ci g5.objs.size):=z7
 refine Cu z7 (by simp) λg8 z8 s8=>?_
 replace z8:Eg g8 z TI TO (Ci g5.objs.size):=z8
 have up:∀c o,c≠z->g5.get? c=some o->g8.get? c=some o:=λc o c1 e=>s8.extBut _ _ c1 (s7.extBut _ _ c1 (Ad _ e));have T8:Cs g8 g5.objs.size x y:=s8.extBut _ _ (Dq zlt) (s7.extBut _ _ (Dq zlt) (Au _ rfl));have e8:g8.objs.size=g5.objs.size+1:=by rw[s8.1,s7.1,Bx]
 rw[sz]at z8 T8 e8;refine Ai ⟨_,rfl,?_⟩;show Q (.ref g5.objs.size) _;rw[sz];exact hQ g8 z8 (up _ _ D.TOz p5) (u1.at λo e=>up _ o D.i1z e) (u2.at λo e=>up _ o D.i2z e) T8 e8 λc o c1 c2 c3 c4 e=>up c o c1 (k5 c o c1 c2 c3 c4 e)
theorem jvv {z TI TO i1 i2 l1 l2:Addr} {k:Nat} {xs:Array Af} {Q:Fin->Aj->Prop} (hh:A.handled=none) (D:ZipApart z TI TO i1 i2 l1 l2)
  (hz:Eg s.heap z TI TO .none) (hTI:Cs s.heap TI (.ref i1) (.ref i2)) (h1:s.heap.IsTupleIter i1 l1 k) (hl1:s.heap.IsTuple l1 xs) (hx:xs[k]?=none)
  (hE:∀h' e,(∀c o,c≠z->c≠i1->s.heap.get? c=some o->h'.get? c=some o)->(∃o,h'.get? e=some o/\o.cls=.type "StopIteration")->E (.ref e) {s with heap:=h'}) :
  A3 (A9 prog w) A (Dn.«zip.__next__» ⟨[.ref z],[]⟩) Q E s:=by
 show A3 _ _ (field (.ref z) 2>>=_) _ _ _;refine Aa (Ca hz rfl (x:=.bool false) rfl ?_);show A3 _ _ (field (.ref z) 3>>=_) _ _ _;refine Aa (Ca hz rfl (x:=.ref TI) rfl ?_);refine Aa (Ce hTI rfl ?_);show A3 _ _ (Bv (.ref z)>>=_) _ _ _;refine Aa ?_;unfold Bv;refine Aa (Ca hz rfl (x:=.none) rfl (Ai ?_));simp only[if_true];refine Aa (Ff ?_);refine Aa (Ca hz rfl (x:=.ref TO) rfl ?_);refine Aa (Cu hz (by simp) λg1 hz1 s1=>?_)
 replace hz1:Eg g1 z TI TO .ellipsis:=hz1
 refine Aa ?_;simp only[Gd,List.zipIdx_nil,List.forIn_cons,List.forIn_nil];refine Aa (Aa (Gq ?_));show A3 _ _ (B3 (.ref i1)>>=_) _ _ _;refine Aa (jd7 hh (h1.extBut s1.extBut D.i1z) (hl1.extBut s1.extBut D.l1z) hx λg2 e s2 he=>?_);obtain⟨oe,hoe,hce⟩:=he;have z2:Eg g2 z TI TO .ellipsis:=s2 _ _ D.i1z.symm hz1;have hez:e≠z:=λx=>by subst x;rw[z2]at hoe;cases hoe;simp at hce
 refine Cu z2 (by simp) λg3 _ s3=>hE g3 e (λc o c1 c3 x=>s3.extBut _ _ c1 (s2 _ _ c3 (s1.extBut _ _ c1 x))) ⟨oe,s3.extBut _ _ hez hoe,hce⟩
theorem jj8 {z TI TO i1 i2 l1 l2:Addr} {k:Nat} {xs ys:Array Af} {x y a b:Af} {Q:Option Af->Aj->Prop} (D:ZipApart z TI TO i1 i2 l1 l2)
  (hz:Eg s.heap z TI TO .none) (hTI:Cs s.heap TI (.ref i1) (.ref i2)) (hTO:Cs s.heap TO a b)
  (h1:s.heap.IsTupleIter i1 l1 k) (h2:s.heap.IsTupleIter i2 l2 k) (hl1:s.heap.IsTuple l1 xs) (hl2:s.heap.IsTuple l2 ys) (hx:xs[k]?=some x) (hy:ys[k]?=some y)
  (hQ:∀h',Eg h' z TI TO (Ci s.heap.objs.size)->Cs h' TO x y->h'.IsTupleIter i1 l1 (k+1)->h'.IsTupleIter i2 l2 (k+1)->Cs h' s.heap.objs.size x y->h'.objs.size=s.heap.objs.size+1 ->
   (∀c o,c≠z->c≠TO->c≠i1->c≠i2->s.heap.get? c=some o->h'.get? c=some o)->Q (some (.ref s.heap.objs.size)) {s with heap:=h'}) :
  A3 (A9 prog w) A (Do (.ref z)) Q E s:=by
 have hT:s.TypeIs (.ref z) "zip":=⟨_,hz,rfl⟩;unfold Do;exact Aa (Dv (Br (name:=Cv "__next__") hT D6
  (B4 D6 hT F.entry_zip_next
   (jse D hz hTI hTO h1 h2 hl1 hl2 hx hy λh' a1 a2 a3 a4 a5 a6 a7=>Ai (hQ h' a1 a2 a3 a4 a5 a6 a7)) (F.args_zip_next_1 _))))
theorem jl3 {z TI TO i1 i2 l1 l2:Addr} {k:Nat} {xs:Array Af} {Q:Option Af->Aj->Prop} (hh:A.handled=none) (D:ZipApart z TI TO i1 i2 l1 l2)
  (hz:Eg s.heap z TI TO .none) (hTI:Cs s.heap TI (.ref i1) (.ref i2)) (h1:s.heap.IsTupleIter i1 l1 k) (hl1:s.heap.IsTuple l1 xs) (hx:xs[k]?=none)
  (hQ:∀h',(∀c o,c≠z->c≠i1->s.heap.get? c=some o->h'.get? c=some o)->Q none {s with heap:=h'}):A3 (A9 prog w) A (Do (.ref z)) Q E s:=by
 have hT:s.TypeIs (.ref z) "zip":=⟨_,hz,rfl⟩;unfold Do;refine Aa (Dv (Br (name:=Cv "__next__") hT D6
  (B4 D6 hT F.entry_zip_next (jvv hh D hz hTI h1 hl1 hx λh' e hk he=>?_) (F.args_zip_next_1 _))))
 obtain⟨o,ho,hc⟩:=he;refine Aa (Fj (T:="StopIteration") (b:=true) ⟨o,ho,hc⟩ isSubtype_stop ?_);exact Ai (hQ _ hk)
end
abbrev zt1 (h:Heap) (l1:Addr):Heap:=h.push {cls:=.type "tuple_iterator",data:=.fields #[.ref l1,.int 0 0]}
abbrev zt2 (h:Heap) (l1 l2:Addr):Heap:=(zt1 h l1).push {cls:=.type "tuple_iterator",data:=.fields #[.ref l2,.int 0 0]}
abbrev zt3 (h:Heap) (l1 l2:Addr):Heap:=(zt2 h l1 l2).push {cls:=.type "tuple",data:=.seq #[.ref h.objs.size,.ref (zt1 h l1).objs.size]}
abbrev zt4 (h:Heap) (l1 l2:Addr):Heap:=(zt3 h l1 l2).push {cls:=.type "tuple",data:=.seq #[.none,.none]}
abbrev zt5 (h:Heap) (l1 l2:Addr):Heap:=(zt4 h l1 l2).push {cls:=.type "zip",data:=.fields #[.none,.bool false,.bool false,.ref (zt2 h l1 l2).objs.size,.ref (zt3 h l1 l2).objs.size]}
theorem jka (l1 l2:Addr) (xs ys:Array Af) :
  Meets (Dn.«zip.__new__» ⟨[.type "zip",.ref l1,.ref l2],[]⟩) (λ_ R s=>s.heap.IsTuple l1 xs/\s.heap.IsTuple l2 ys /\
   R (.ok (.ret (.ref (zt4 s.heap l1 l2).objs.size))) {s with heap:=zt5 s.heap l1 l2}) :=
 .of_wp λprog w A R s h=>by
  obtain⟨hp,g,d,tk,os⟩:=s;obtain⟨hl1,hl2,h⟩:=h;have hsub:=sub_zip;have hL1:Heap.IsTuple (Shared.heap ⟨hp,g,d,tk,os⟩) l1 xs:=hl1;have hL2:Heap.IsTuple (Shared.heap ⟨hp.push {cls:=.type "tuple_iterator",data:=.fields #[.ref l1,.int 0 0]},g,d,tk,os⟩) l2 ys:=Heap.IsTuple.push hl2 _
  wp_walk using C7 hL1,C7 hL2
  exact⟨_,rfl,h⟩
section
variable {prog:Bg} {w:Bt} {A:B6} {E:Af->Aj->Prop} {s:Aj}
theorem jvh {l1 l2:Addr} {xs ys:Array Af} {Q:Af->Aj->Prop} (hl1:s.heap.IsTuple l1 xs) (hl2:s.heap.IsTuple l2 ys)
  (h:∀h',Eg h' (s.heap.objs.size+4) (s.heap.objs.size+2) (s.heap.objs.size+3) .none->Cs h' (s.heap.objs.size+2) (.ref s.heap.objs.size) (.ref (s.heap.objs.size+1)) ->
   Cs h' (s.heap.objs.size+3) .none .none->h'.IsTupleIter s.heap.objs.size l1 0->h'.IsTupleIter (s.heap.objs.size+1) l2 0 ->
   (∀c o,s.heap.get? c=some o->h'.get? c=some o)->Q (.ref (s.heap.objs.size+4)) {s with heap:=h'}) :
  A3 (A9 prog w) A (call (.type "zip") [.ref l1,.ref l2]) Q E s:=by
 refine callType_new F.called_zip (by decide) (F.typeCall_zip_2 _ _) (F.newCall_zip_2 _ _) (λobj=>F.args_object_init_3 obj _ _) F.entry_zip_new
  (jka l1 l2 xs ys) ⟨hl1,hl2,?_⟩
 have z1:(zt1 s.heap l1).objs.size=s.heap.objs.size+1:=Bx ..;have z2:(zt2 s.heap l1 l2).objs.size=s.heap.objs.size+2:=by rw[Bx,z1]
 have z3:(zt3 s.heap l1 l2).objs.size=s.heap.objs.size+3:=by rw[Bx,z2]
 have z4:(zt4 s.heap l1 l2).objs.size=s.heap.objs.size+4:=by rw[Bx,z3]
 have g5:(zt5 s.heap l1 l2).get? (zt4 s.heap l1 l2).objs.size=some _:=Au _ rfl;have g4:(zt5 s.heap l1 l2).get? (zt3 s.heap l1 l2).objs.size=some _:=Ad _ (Au _ rfl);have g3:(zt5 s.heap l1 l2).get? (zt2 s.heap l1 l2).objs.size=some _:=Ad _ (Ad _ (Au _ rfl));have g2:(zt5 s.heap l1 l2).get? (zt1 s.heap l1).objs.size=some _:=Ad _ (Ad _ (Ad _ (Au _ rfl)));have g1:(zt5 s.heap l1 l2).get? s.heap.objs.size=some _:=Ad _ (Ad _ (Ad _ (Ad _ (Au _ rfl))));show _/\_;rw[z2,z3,z4]at g5;rw[z1,z2]at g3;rw[z3]at g4;rw[z1]at g2;rw[z4];exact⟨⟨_,g5,rfl⟩,h _ g5 g3 g4 ⟨_,g1,rfl,rfl⟩ ⟨_,g2,rfl,rfl⟩ λc o x =>
  Ad _ (Ad _ (Ad _ (Ad _ (Ad _ x))))⟩
end
def Itz (K:Ah) (a b:Addr):It :=
 ⟨λi H=>∃xs ys x y,SqT K H a xs/\SqT K H b ys/\xs[i]?=some x/\ys[i]?=some y,
  λi H v H'=>∃T x y,v=.ref T/\H T=none/\H'=upd H T (.tup [x,y])/\(∀xs,SqT K H a xs->xs[i]?=some x)/\∀ys,SqT K H b ys->ys[i]?=some y,
  λi H=>∃xs,SqT K H a xs/\xs.length<=i⟩
theorem Inv.many {X:Cx} {pins:List (Addr×Obj)} {σ:St} {H:Hp} {s:Aj} {h':Heap} {t':Nat} {fp:List Addr} {a:Addr} {o:HO} (I:Inv X pins σ H s) (hf:∀b∈fp,FpOk X pins H b) (k:∀b u,b∉fp->s.heap.get? b=some u->h'.get? b=some u)
  (ha:s.heap.objs.size<=a) (new:ObjOk X.prog X.w (upd H a o) h' a o):Inv X pins σ (upd H a o) {s with heap:=h',toks:=t'}:=by
 have hn:H a=none:=I.hok.fresh ha;have nf:∀b u,H b=some u->b∉fp:=λb u e z=>by rw[(hf b z).1]at e;cases e
 refine I.call' (s':={ s with heap:=h',toks:=t'}) (ch:=fp) rfl ⟨λb u q _ _ z=>k b u z q,λb u q _ _ z=>⟨u.slots,k b u z q⟩,λb u q n _=>?_,λb u q z=>⟨u,k b u z q⟩,λb xs q=>?_,λb u xs q=>?_,λb ps q=>⟨#[],?_⟩⟩ (λb u e=>?_) I.bare (λb hb=>?_)
 ·rw[jao (Bb (Bk (Ap q) ha))];exact n
 ·rw[jao (jaj q hn)];exact q
 ·rw[jao (jaj q hn)];exact q
 ·rw[jao (jaj q hn),q];simp
 ·by_cases z:b=a
  ·subst z;rw[jap]at e;cases e;exact new
  ·rw[jao z]at e;refine(I.hok b u e).stay (λc v hc q=>k c v ?_ q) (λc q=>?_) λc ys q=>?_
   ·rcases hc with z | z
    ·rw[z];exact nf b u e
    ·exact nf c _ z
   ·rw[jao (jaj q hn)];exact q
   ·rw[jao (jaj q hn)];exact q
 ·obtain⟨f0,f1,f2,f3,f4,f5⟩:=hf b hb;exact⟨f3,f1,f4,f5⟩
theorem Inv.many0 {X:Cx} {pins:List (Addr×Obj)} {σ:St} {H:Hp} {s:Aj} {h':Heap} {t':Nat} {fp:List Addr} (I:Inv X pins σ H s) (hf:∀b∈fp,FpOk X pins H b) (k:∀b u,b∉fp->s.heap.get? b=some u->h'.get? b=some u):Inv X pins σ H {s with heap:=h',toks:=t'}:=by
 have nf:∀b u,H b=some u->b∉fp:=λb u e z=>by rw[(hf b z).1]at e;cases e
 refine I.call' (s':={ s with heap:=h',toks:=t'}) (ch:=fp) rfl ⟨λb u q _ _ z=>k b u z q,λb u q _ _ z=>⟨u.slots,k b u z q⟩,λb u q n _=>n,λb u q z=>⟨u,k b u z q⟩,λb xs q=>q,λb u xs q=>q,λb ps q=>⟨#[],by rw[q];simp⟩⟩ (λb u e=>?_) I.bare (λb hb=>?_)
 ·refine(I.hok b u e).stay (λc v hc q=>k c v ?_ q) (λc q=>q) λc ys q=>q;rcases hc with z | z
  ·rw[z];exact nf b u e
  ·exact nf c _ z
 ·obtain⟨f0,f1,f2,f3,f4,f5⟩:=hf b hb;exact⟨f3,f1,f4,f5⟩
theorem jv5 {P:Bg} {w:Bt} {K:Ah} {elts:List Expr} {kk:Nat} {pos:Pos} {a b z TI TO i1 i2:Addr} (D:ZipApart z TI TO i1 i2 a b):Turn P w K (.Tuple elts kk pos) (Itz K a b) [z,TI,TO,i1,i2] z
  (λi h=>Eg h z TI TO .none/\Cs h TI (.ref i1) (.ref i2)/\(∃x y,Cs h TO x y)/\h.IsTupleIter i1 a i/\h.IsTupleIter i2 b i) where
 mem:=by simp
 obj:=λi h st c hc=>by
  obtain⟨hz,hI,⟨x,y,hO⟩,⟨o1,e1,c1,d1⟩,⟨o2,e2,c2,d2⟩⟩:=st;simp only[Ao,Aw,or_false]at hc;rcases hc with rfl | rfl | rfl | rfl | rfl
  ·exact⟨_,hz,λv q=>by have q':Data.fields _=Data.cell v:=q;cases q'⟩
  ·exact⟨_,hI,λv q=>by have q':Data.seq _ _=Data.cell v:=q;cases q'⟩
  ·exact⟨_,hO,λv q=>by have q':Data.seq _ _=Data.cell v:=q;cases q'⟩
  ·exact⟨o1,e1,λv q=>by rw[d1]at q;cases q⟩
  ·exact⟨o2,e2,λv q=>by rw[d2]at q;cases q⟩
 keep:=λi h h' st k=>by
  obtain⟨hz,hI,⟨x,y,hO⟩,h1,h2⟩:=st;exact⟨k z (by simp) _ hz,k TI (by simp) _ hI,⟨x,y,k TO (by simp) _ hO⟩,h1.at λo e=>k i1 (by simp) o e,h2.at λo e=>k i2 (by simp) o e⟩
 item:=by
  intro X hP hw hK hc i pins s σ H E I hf st hg;subst hP hw hK;obtain⟨hz,hI,⟨x0,y0,hO⟩,h1,h2⟩:=st;obtain⟨xs,ys,x,y,qa,qb,ex,ey⟩:=hg;obtain⟨its,rv,p,_⟩:=I.tuple qa;obtain⟨jts,rw',p',_⟩:=I.tuple qb;obtain⟨u,hu,ru⟩:=rv.get ex;obtain⟨u',hu',ru'⟩:=rw'.get ey;refine jj8 D hz hI hO h1 h2 (show s.heap.IsTuple a its.toArray from p) (show s.heap.IsTuple b jts.toArray from p') (x:=u) (y:=u') (by simpa using hu) (by simpa using hu') λh' a1 a2 a3 a4 a5 a6 a7=>⟨_,rfl,?_⟩;refine wpAny_letOwnedTupleGo_zip (s:={ s with heap:=h'}) a1 λh'' b1 b2=>?_;have T:h''.get? s.heap.objs.size=some {cls:=.type "tuple",data:=.seq #[u,u']}:=b2.extBut _ _ (Dq (Ap hz)) a5;have Tn:H s.heap.objs.size=none:=I.hok.fresh (Al _);have kp:∀c o,c∉[z,TI,TO,i1,i2]->s.heap.get? c=some o->h''.get? c=some o:=λc o hc e=>by
   simp only[Ao,Aw,or_false,not_or]at hc;exact b2.extBut _ _ hc.1 (a7 c o hc.1 hc.2.2.1 hc.2.2.2.1 hc.2.2.2.2 e)
  refine⟨.ref s.heap.objs.size,upd H s.heap.objs.size (.tup [x,y]),I.many (t':=s.toks) hf kp (Al _) ⟨by show 2<=A1;decide,[u,u'],.cons ru (.cons ru' .nil),_,T,rfl,⟨_,rfl⟩,rfl⟩,rfl,⟨_,x,y,rfl,Tn,rfl,λzs q=>by rw[I.tuple_inj q qa];exact ex,λzs q=>by rw[I.tuple_inj q qb];exact ey⟩,
   ⟨b1,b2.extBut _ _ D.TIz (a7 _ _ D.TIz D.TITO D.TIi1 D.TIi2 hI),⟨_,_,b2.extBut _ _ D.TOz a2⟩,a3.extBut b2.extBut D.i1z,a4.extBut b2.extBut D.i2z⟩,λc hc=>?_⟩
  have hlt:c < s.heap.objs.size:=by
   simp only[Ao,Aw,or_false]at hc;rcases hc with rfl | rfl | rfl | rfl | rfl
   ·exact Ap hz
   ·exact Ap hI
   ·exact Ap hO
   ·obtain⟨_,e,_⟩:=h1;exact Ap e
   ·obtain⟨_,e,_⟩:=h2;exact Ap e
  rw[jao (Bb hlt)];exact(hf c hc).1
 done:=by
  intro X hP hw hK hc i pins s σ H E I hf st hg;subst hP hw hK;obtain⟨hz,hI,_,h1,h2⟩:=st;obtain⟨xs,hq,hx⟩:=hg;obtain⟨its,rv,p,_⟩:=I.tuple hq;have hl:=rv.length;refine jl3 (I.ok.hd hc) D hz hI h1 (show s.heap.IsTuple a its.toArray from p) (by simp;omega) λh' k=>⟨rfl,I.many0 (t':=s.toks) hf λc o hc e=>?_⟩;simp only[Ao,Aw,or_false,not_or]at hc;exact k c o hc.1 hc.2.2.2.1 e
 self:=λ_ _ _ _ _ st h=>wpAny_pyIter_zip st.1 h
def iZip (K:Ah) (ta:TA):TI:=λσ H R=>ta σ H λvs H1=>∃a b,vs=[.ref a,.ref b]/\(∃xs,SqT K H1 a xs)/\(∃ys,SqT K H1 b ys)/\R (Itz K a b) H1
theorem jz3:B7 "zip"=some (.type "zip"):=by decide +kernel
theorem j38 {X:Cx} {elts:List Expr} {kk:Nat} {tpos:Pos} {e1 e2:Expr} {ta:TA} {p pos:Pos} (hg:Gl X "zip") (hm:X.mg "zip"=none) (ha:PA X [e1,e2] ta) (hs:Az [e1,e2] X.env=[(false,eval e1 X.env),(false,eval e2 X.env)]:=by rfl) (hs2:Az [e2] X.env=[(false,eval e2 X.env)]:=by rfl) :
  PI X (.Tuple elts kk tpos) (.Call (.Name "zip" p) [e1,e2] [] pos) (iZip X.K ta):=by
 intro pins s σ H R I h;refine Call_ (ji8 I hg hm jz3 (Di (thn (ha pos pins s σ H _ I h) λus s1 ⟨vs,H1,I1,r1,q1⟩=>?_) (by rw[hs,hs2]) (by rw[hs2];rfl)));obtain⟨a,b,e,⟨xs,qa⟩,⟨ys,qb⟩,q⟩:=q1;subst e;cases r1 with
 |cons r rr =>
  cases rr with
  |cons r' rr =>
   cases rr;cases r;cases r';obtain⟨its,rv,pp,_⟩:=I1.tuple qa;obtain⟨jts,rw',pp',_⟩:=I1.tuple qb;have la:a < s1.heap.objs.size:=by obtain⟨_,e,_⟩:=id pp;exact Ap e
   have lb:b < s1.heap.objs.size:=by obtain⟨_,e,_⟩:=id pp';exact Ap e
   refine jvh (show s1.heap.IsTuple a its.toArray from pp) (show s1.heap.IsTuple b jts.toArray from pp') λh' a1 a2 a3 a4 a5 a6=>wpAny_pyIter_zip (s:={ s1 with heap:=h'}) a1 ?_;refine⟨_,_,_,_,H1,rfl,I1.kept (t':=s1.toks) a6,jv5 (zipApart_new la lb),⟨a1,a2,⟨_,_,a3⟩,a4,a5⟩,λc hc=>?_,q⟩;have hlt:s1.heap.objs.size<=c:=by
    simp only[Ao,Aw,or_false]at hc;rcases hc with rfl | rfl | rfl | rfl | rfl<;>omega
   exact I1.fpOk hlt (I1.hok.fresh hlt)
theorem jog {P:Bg} {w:Bt} {A:B6} (hh:A.handled=none) (it t:Addr) (hne:t≠it) (xs:Array Af):Draws P w A it [it,t] xs.size (λi v=>xs[i]?=some v) (λi h=>h.IsTupleIter it t i/\h.IsTuple t xs) where
 live:=λ_ _ z=>by obtain⟨⟨o,q,_⟩,_⟩:=z;exact⟨o,q⟩
 frame:=λ_ _ _ z k=>⟨z.1.at λo e=>k it (.head _) o e,z.2.at λo e=>k t (.tail _ (.head _)) o e⟩
 item:=λi s Q E hi z k=>jby z.1 z.2 (x:=xs[i]) (Dx hi) λh' a b=>k _ h' s.toks (Dx hi) ⟨a,z.2.extBut b.extBut hne⟩ b
 done:=λs Q E z k=>jd7 hh z.1 z.2 (by simp) k
abbrev et1 (h:Heap) (l:Addr):Heap:=h.push {cls:=.type "tuple_iterator",data:=.fields #[.ref l,.int 0 0]}
abbrev et2 (h:Heap) (l:Addr):Heap:=(et1 h l).push {cls:=.type "enumerate",data:=.fields #[.none,.bool false,.ref h.objs.size,Ci 0,.none,.none]}
theorem ji4 (l:Addr) (xs:Array Af) (n:Nat) (dc:Option Addr) (sl:Array (Option Af)) :
  Meets (Dn.«enumerate.__new__» ⟨[.type "enumerate",.ref l],[]⟩) (λ_ R s=>s.heap.get? l=some {cls:=.type "tuple",dict:=dc,data:=.seq xs n,slots:=sl} /\
   R (.ok (.ret (.ref (et1 s.heap l).objs.size))) {s with heap:=et2 s.heap l}) :=
 .of_wp λP w A R s h=>by
  obtain⟨hp,g,d,tk,os⟩:=s;obtain⟨hl,h⟩:=h;have hsub:=sub_enumerate;have hT:Heap.IsTuple (Shared.heap ⟨hp,g,d,tk,os⟩) l xs:=⟨_,hl,rfl,n,rfl⟩
  wp_walk using E5 hl
  refine wpAny_stack_any λst=>Ai ?_
  split
  ·rename_i c _ _ _ _ _;cases(c==Eh "enumerate")
   ·wp_walk using E5 hl,C7 hT
    exact⟨_,rfl,h⟩
   ·wp_walk using E5 hl,C7 hT
    exact⟨_,rfl,h⟩
  ·wp_walk using E5 hl,C7 hT
   exact⟨_,rfl,h⟩
section
variable {prog:Bg} {w:Bt} {A:B6} {E:Af->Aj->Prop} {s:Aj}
theorem jr7 {l:Addr} {xs:Array Af} {Q:Af->Aj->Prop} (hl:s.heap.IsTuple l xs)
  (h:∀h',IsEnum h' (s.heap.objs.size+1) s.heap.objs.size 0 .none->h'.IsTupleIter s.heap.objs.size l 0->(∀c o,s.heap.get? c=some o->h'.get? c=some o)->Q (.ref (s.heap.objs.size+1)) {s with heap:=h'}) :
  A3 (A9 prog w) A (call (.type "enumerate") [.ref l]) Q E s:=by
 obtain⟨⟨c,dc,dt,sl⟩,hl,hc,n,hd⟩:=hl;obtain rfl:c=.type "tuple":=hc;obtain rfl:dt=.seq xs n:=hd;refine callType_new F.called_enumerate (by decide) (F.typeCall_enumerate_1 _) (F.newCall_enumerate_1 _) (λo=>F.args_object_init_2 o _) F.entry_enumerate_new (ji4 l xs n dc sl) ⟨hl,?_⟩;have z1:(et1 s.heap l).objs.size=s.heap.objs.size+1:=Bx ..;have g2:(et2 s.heap l).get? (et1 s.heap l).objs.size=some _:=Au _ rfl;have g1:(et2 s.heap l).get? s.heap.objs.size=some _:=Ad _ (Au _ rfl);show _/\_;rw[z1]at g2 ⊢;exact⟨⟨_,g2,rfl⟩,h _ g2 ⟨_,g1,rfl,rfl⟩ λc o x=>Ad _ (Ad _ x)⟩
end
def Ite (K:Ah) (a:Addr):It :=
 ⟨λi H=>∃xs x,SqT K H a xs/\xs[i]?=some x,
  λi H v H'=>∃T x,v=.ref T/\H T=none/\H'=upd H T (.tup [.int i,x])/\∀xs,SqT K H a xs->xs[i]?=some x,
  λi H=>∃xs,SqT K H a xs/\xs.length=i⟩
theorem jsm {P:Bg} {w:Bt} {K:Ah} {elts:List Expr} {kk:Nat} {pos:Pos} {a e it:Addr} (h1:e≠it) (h2:a≠it) (h3:e≠a):Turn P w K (.Tuple elts kk pos) (Ite K a) [e,it] e
  (λi h=>(∃old,IsEnum h e it i old)/\h.IsTupleIter it a i) where
 mem:=by simp
 obj:=λi h st c hc=>by
  obtain⟨⟨x,he⟩,⟨o1,e1,c1,d1⟩⟩:=st;simp only[Ao,Aw,or_false]at hc;rcases hc with rfl | rfl
  ·exact⟨_,he,λv q=>by have q':Data.fields _=Data.cell v:=q;cases q'⟩
  ·exact⟨o1,e1,λv q=>by rw[d1]at q;cases q⟩
 keep:=λi h h' st k=>⟨st.1.imp λ_ q=>k e (by simp) _ q,st.2.at λo q=>k it (by simp) o q⟩
 item:=by
  intro X hP hw hK hc i pins s σ H E I hf st hg;subst hP hw hK;obtain⟨⟨old,he⟩,hi⟩:=st;obtain⟨xs,x,qa,ex⟩:=hg;obtain⟨its,rv,p,_⟩:=I.tuple qa;obtain⟨u,hu,ru⟩:=rv.get ex;have hlt:i < its.toArray.size:=by simpa using(Ay.mp hu).1
  have hef:e∉[it,a]:=λz=>by
   simp only[Ao,Aw,or_false]at z;exact z.elim h1 h3
  refine wpAny_pyNext_enum_itemD (jog (A:=X.A.in1) (I.ok.hd hc) it a h2 its.toArray) he ⟨hi,show s.heap.IsTuple a its.toArray from p⟩ hlt h1 hef λy h' tk a1 a2 a3 a4 a5 a6=>⟨_,rfl,?_⟩;obtain rfl:u=y:=by
   rw[List.getElem?_toArray,hu]at a1;cases a1;rfl
  refine wpAny_letOwnedTupleGo_enum (s:={ s with heap:=h',toks:=tk+1}) a2 λh'' b1 b2=>?_;have T:h''.get? s.heap.objs.size=some {cls:=.type "tuple",data:=.seq #[.int i tk,u]}:=b2.extBut _ _ (Dq (Ap he)) a4;have Tn:H s.heap.objs.size=none:=I.hok.fresh (Al _);have kp:∀c o,c∉[e,it]->s.heap.get? c=some o->h''.get? c=some o:=λc o hc e=>by
   simp only[Ao,Aw,or_false,not_or]at hc;exact b2.extBut _ _ hc.1 (a6 c o hc.1 hc.2 e)
  refine⟨.ref s.heap.objs.size,upd H s.heap.objs.size (.tup [.int i,x]),I.many (t':=tk+1) hf kp (Al _) ⟨by show 2<=A1;decide,[.int i tk,u],.cons ⟨tk,rfl⟩ (.cons ru .nil),_,T,rfl,⟨_,rfl⟩,rfl⟩,rfl,⟨_,x,rfl,Tn,rfl,λzs q=>by rw[I.tuple_inj q qa];exact ex⟩,
   ⟨⟨u,by rw[show((i+1:Nat):Int)=(i:Int)+1 from rfl];exact b1⟩,a3.1.extBut b2.extBut h1.symm⟩,λc hc=>?_⟩
  have hlt:c < s.heap.objs.size:=by
   simp only[Ao,Aw,or_false]at hc;rcases hc with rfl | rfl
   ·exact Ap he
   ·obtain⟨_,e,_⟩:=hi;exact Ap e
  rw[jao (Bb hlt)];exact(hf c hc).1
 done:=by
  intro X hP hw hK hc i pins s σ H E I hf st hg;subst hP hw hK;obtain⟨⟨old,he⟩,hi⟩:=st;obtain⟨xs,hq,hx⟩:=hg;obtain⟨its,rv,p,_⟩:=I.tuple hq;have hl:=rv.length;have hs:its.toArray.size=i:=by simp;omega
  refine wpAny_pyNext_enum_endD (jog (A:=X.A.in1) (I.ok.hd hc) it a h2 its.toArray) he (by rw[hs];exact⟨hi,p⟩) λh' k=>⟨rfl,I.many0 (t':=s.toks) hf λc o hc e=>?_⟩;simp only[Ao,Aw,or_false,not_or]at hc;exact k c o hc.2 e
 self:=λ_ _ _ _ _ st h=>wpAny_pyIter_enum st.1.choose_spec h
def j5c (K:Ah) (ta:TA):TI:=λσ H R=>ta σ H λvs H1=>∃a,vs=[.ref a]/\(∃xs,SqT K H1 a xs)/\R (Ite K a) H1
theorem j1a {X:Cx} {elts:List Expr} {kk:Nat} {tpos:Pos} {e1:Expr} {ta:TA} {p pos:Pos} (hg:Gl X "enumerate") (hm:X.mg "enumerate"=none) (ha:PA X [e1] ta) (hs:Az [e1] X.env=[(false,eval e1 X.env)]:=by rfl) :
  PI X (.Tuple elts kk tpos) (.Call (.Name "enumerate" p) [e1] [] pos) (j5c X.K ta):=by
 intro pins s σ H R I h;refine Call_ (ji8 I hg hm boot_enumerate (Di (thn (ha pos pins s σ H _ I h) λus s1 ⟨vs,H1,I1,r1,q1⟩=>?_) (by rw[hs];rfl) rfl));obtain⟨a,e,⟨xs,qa⟩,q⟩:=q1;subst e;cases r1 with
 |cons r rr =>
  cases rr;cases r;obtain⟨its,rv,pp,_⟩:=I1.tuple qa;have la:a < s1.heap.objs.size:=by obtain⟨_,e,_⟩:=id pp;exact Ap e
  refine jr7 (show s1.heap.IsTuple a its.toArray from pp) λh' a1 a2 a3=>wpAny_pyIter_enum (s:={ s1 with heap:=h'}) a1 ?_;refine⟨_,_,_,_,H1,rfl,I1.kept (t':=s1.toks) a3,jsm (Nat.succ_ne_self _) (Bb la) (Dq (D2 la)),⟨⟨_,a1⟩,a2⟩,λc hc=>?_,q⟩;have hlt:s1.heap.objs.size<=c:=by
   simp only[Ao,Aw,or_false]at hc;rcases hc with rfl | rfl<;>omega
  exact I1.fpOk hlt (I1.hok.fresh hlt)
end L2
namespace DL
open PySem L2 Nb
def valD (kvs:List (Key×Ae)) (k:Key):Option Ae:=(kvs.find? λkv=>decide (kv.1=k)).map (·.2)
def putD (kvs:List (Key×Ae)) (k:Key) (v:Ae):List (Key×Ae) :=
 if (kvs.any λkv=>decide (kv.1=k))=true then kvs.map (λkv=>if kv.1=k then(kv.1,v)else kv)else kvs++[(k,v)]
def jd9 (kvs more:List (Key×Ae)):List (Key×Ae):=more.foldl (λacc kv=>putD acc kv.1 kv.2) kvs
section
variable {H H':Hp} {B B':Addr->Prop} {l:List (Key×V)} {m:List (Key×Ae)} {v:V} {d:Ae} {t:Addr}
theorem RdK.len (h:RdK H B l m):l.length=m.length:=by
 unfold RdK at h
 induction h with
 |nil=>rfl
 |cons _ _ ih=>rw[Ax,Ax,ih]
theorem RdK.val (h:RdK H B l m) (k:Key):(valV l k=none/\valD m k=none)\/∃v d,valV l k=some v/\valD m k=some d/\RdX H B v d:=by
 unfold RdK at h
 induction h with
 |nil=>exact .inl ⟨rfl,rfl⟩
 |@cons p q ps qs r _ ih =>
  by_cases e:p.1=k
  ·have e':q.1=k:=r.1▸e;exact .inr ⟨p.2,q.2,by simp[valV,Bn,e],by simp[valD,Bn,e'],r.2⟩
  ·have e':¬q.1=k:=r.1▸e;have a1:valV (p::ps) k=valV ps k:=by simp[valV,Bn,e]
   have a2:valD (q::qs) k=valD qs k:=by simp[valD,Bn,e']
   rw[a1,a2];exact ih
theorem RdK.any (h:RdK H B l m) (k:Key):(l.any λkv=>decide (kv.1=k))=(m.any λkv=>decide (kv.1=k)):=by
 unfold RdK at h
 induction h with
 |nil=>rfl
 |cons r _ ih=>rw[C1,C1,ih,r.1]
theorem RdK.map (h:RdK H B l m) (r:RdX H B v d) (k:Key):RdK H B (l.map λkv=>if kv.1=k then(kv.1,v)else kv) (m.map λkv=>if kv.1=k then(kv.1,d)else kv):=by
 unfold RdK at h ⊢
 induction h with
 |nil=>exact .nil
 |@cons p q ps qs r' _ ih =>
  rw[Bo,Bo];refine .cons ?_ ih;by_cases e:p.1=k
  ·rw[if_pos e,if_pos (r'.1▸e:q.1=k)];exact⟨r'.1,r⟩
  ·rw[if_neg e,if_neg (r'.1▸e:¬q.1=k)];exact r'
theorem RdK.append {l2:List (Key×V)} {m2:List (Key×Ae)} (h:RdK H B l m) (h2:RdK H B l2 m2):RdK H B (l++l2) (m++m2):=by
 unfold RdK at h ⊢
 induction h with
 |nil=>exact h2
 |cons r' _ ih=>exact .cons r' ih
theorem RdK.put (h:RdK H B l m) (r:RdX H B v d) (k:Key):RdK H B (putK l k v) (putD m k d):=by
 unfold putK putD;rw[h.any k]
 split
 ·exact h.map r k
 ·exact h.append (.cons ⟨rfl,r⟩ .nil)
theorem RdK.merge {l2:List (Key×V)} {m2:List (Key×Ae)} (h2:RdK H B l2 m2):∀{l:List (Key×V)} {m:List (Key×Ae)},RdK H B l m->RdK H B (jd8 l l2) (jd9 m m2):=by
 unfold RdK at h2
 induction h2 with
 |nil=>intro l m h;exact h
 |@cons p q ps qs r _ ih =>
  intro l m h;show RdK H B (jd8 (putK l p.1 p.2) ps) (jd9 (putD m q.1 q.2) qs);rw[r.1];exact ih (h.put r.2 _)
theorem jqk (l:List (Key×V)) (k:Key) (v:V):(putK l k v).length<=l.length+1:=by
 unfold putK
 split
 ·rw[Ab];omega
 ·rw[An];exact Al _
theorem jrs (l2:List (Key×V)):∀l:List (Key×V),(jd8 l l2).length<=l.length+l2.length:=by
 induction l2 with
 |nil=>intro l;exact Al _
 |cons p r ih =>
  intro l;show(jd8 (putK l p.1 p.2) r).length<=_;have:=ih (putK l p.1 p.2);have:=jqk l p.1 p.2;rw[Ax];omega
end
section
variable {X:Cx} {a b c e o i f:Expr} {ta tb te td ty tx:TE} {wa wb we wd' wy wx:DT} {pos p:Pos} {K:Ah}
def jcy (i:Nat):DT:=λδ n Q=>match δ[i]? with
 |some (some (.odk kvs))=>Q (.dk kvs) n
 |some (some (.w x))=>Q x n
 |_=>False
theorem jea (i:Nat) {x:Str} {p:Pos} (hN:X.N[i]?=some x:=by rfl) (hv:Vis X.env.scope x:=by first | exact Ar rfl | exact Bz (Ar rfl) | exact Bz (Bz rfl)) (hd:(x==("__debug__":Str))=false:=by decide)
  (hcd:(x==("__classdict__":Str))=false:=by decide):DE X (.Name x p) (tVar i) (jcy i):=⟨jdq hN hv hd hcd,λC H B σ δ n Q Q' R h k=>by
 unfold jcy at h
 split at h
 ·rename_i kvs e;obtain⟨v,h1,a,l,rfl,g2,g3,g4,g5,g6⟩:=R.sl i _ e;exact⟨_,h1,k _ (.dk kvs) H n R (Kp.refl _ _) ⟨a,l,rfl,g2,λz=>R.t0 (z▸g4),g6⟩ h⟩
 ·rename_i x e;obtain⟨v,h1,h2⟩:=R.sl i _ e;exact⟨v,h1,k v x H n R (Kp.refl _ _) h2.1 h⟩
 ·exact h.elim⟩
def joe:Wv->Wv->Int->DQ->Prop:=λx y n Q=>match x,y with
 |.dk kvs,.d (.str k)=>match valD kvs (.inr k)with
  |some d=>Q (.d d) n
  |none=>False
 |_,_=>False
theorem jq7 (hu:X.A.units+64 < E2) (ho:DE X o td wd') (hi:DE X i ty wy) (hs:NoSl i:=by exact λ_ _=>rfl):DE X (.Subscript o i pos) (j26 td ty) (w2 wd' wy joe):=⟨j1e (by omega) ho.pe hi.pe hs,λC H B σ δ n Q Q' R h k =>
 ho.sd C H B σ δ n _ _ R h λv x H1 n1 R1 k1 r1 q1=>hi.sd C H1 B σ δ n1 _ _ R1 q1 λu y H2 n2 R2 k2 r2 q2=>by
  have r1':=r1.kp k2 R1.bt;unfold joe at q2
  split at q2
  ·rename_i kvs key;obtain⟨a,l,rfl,g1,g2,g3⟩:=r1';cases(show RdX H2 B u (.str key)from r2);rcases g3.val (.inr key)with⟨e1,e2⟩ | ⟨v,d,e1,e2,e3⟩
   ·rw[e2]at q2;exact q2.elim
   ·rw[e2]at q2;exact⟨a,v,rfl,.inl ⟨l,.inr key,.inl g1,rfl,e1.symm⟩,k v (.d d) H2 n2 R2 (k1.trans k2) e3 q2⟩
  ·exact q2.elim⟩
def gDIn (neg:Bool):Wv->Wv->Int->DQ->Prop:=λx y n Q=>match x,y with
 |.d (.str k),.dk kvs=>Q (.d (.bool (if neg then !(valD kvs (.inr k)).isSome else(valD kvs (.inr k)).isSome))) n
 |_,_=>False
theorem j0r (hi:DE X i ty wy) (ho:DE X o td wd'):Snd (tDIn ty td) (w2 wy wd' (gDIn false)):=λC H B σ δ n Q Q' R h k =>
 hi.sd C H B σ δ n _ _ R h λv x H1 n1 R1 k1 r1 q1=>ho.sd C H1 B σ δ n1 _ _ R1 q1 λu y H2 n2 R2 k2 r2 q2=>by
  have r1':=r1.kp k2 R1.bt;unfold gDIn at q2
  split at q2
  ·rename_i key kvs;obtain⟨a,l,rfl,g1,g2,g3⟩:=r2;cases(show RdX H2 B v (.str key)from r1');refine⟨a,valV l (.inr key),rfl,.inl ⟨l,.inr key,.inl g1,rfl,rfl⟩,k _ _ H2 n2 R2 (k1.trans k2) (wd (.bl _)) ?_⟩;rcases g3.val (.inr key)with⟨e1,e2⟩ | ⟨v,d,e1,e2,e3⟩
   ·rw[e1];rw[e2]at q2;exact q2
   ·rw[e1];rw[e2]at q2;exact q2
  ·exact q2.elim
theorem jwd (hi:DE X i ty wy) (ho:DE X o td wd'):Snd (jim ty td) (w2 wy wd' (gDIn true)):=λC H B σ δ n Q Q' R h k =>
 hi.sd C H B σ δ n _ _ R h λv x H1 n1 R1 k1 r1 q1=>ho.sd C H1 B σ δ n1 _ _ R1 q1 λu y H2 n2 R2 k2 r2 q2=>by
  have r1':=r1.kp k2 R1.bt;unfold gDIn at q2
  split at q2
  ·rename_i key kvs;obtain⟨a,l,rfl,g1,g2,g3⟩:=r2;cases(show RdX H2 B v (.str key)from r1');refine⟨a,valV l (.inr key),rfl,.inl ⟨l,.inr key,.inl g1,rfl,rfl⟩,k _ _ H2 n2 R2 (k1.trans k2) (wd (.bl _)) ?_⟩;rcases g3.val (.inr key)with⟨e1,e2⟩ | ⟨v,d,e1,e2,e3⟩
   ·rw[e1];rw[e2]at q2;exact q2
   ·rw[e1];rw[e2]at q2;exact q2
  ·exact q2.elim
theorem j61 (hu:X.A.units+64 < E2) (hi:DE X i ty wy) (ho:DE X o td wd') (hm:Co .In o=false:=by with_unfolding_all rfl):DE X (.Compare i [.In] [o] pos) (tDIn ty td) (w2 wy wd' (gDIn false)):=⟨jzj (j4g (by omega) hi.pe ho.pe) hm,j0r hi ho⟩
theorem j5s (hu:X.A.units+64 < E2) (hi:DE X i ty wy) (ho:DE X o td wd') (hm:Co .NotIn o=false:=by with_unfolding_all rfl):DE X (.Compare i [.NotIn] [o] pos) (jim ty td) (w2 wy wd' (gDIn true)):=⟨jzj (jnu (by omega) hi.pe ho.pe) hm,jwd hi ho⟩
def jm7 (wd wy wx:DT):DT:=λδ n Q=>wd δ n λx n1=>match x with
 |.dk kvs=>wy δ n1 λy n2=>wx δ n2 λz n3=>match y,z with
  |.d (.str k),.d z=>Q (.d ((valD kvs (.inr k)).getD z)) n3
  |_,_=>False
 |_=>False
theorem j2b {ap cp:Pos} (hu:X.A.units+64 < E2) (ho:DE X o td wd') (he:DE X e ty wy) (hf:DE X f tx wx) (m:M2 X o "get" ap e f cp:=by exact⟨rfl,rfl,rfl,rfl⟩):DE X (.Call (.Attribute o "get" ap) [e,f] [] cp) (jy0 td ty tx) (jm7 wd' wy wx):=⟨jw1 (by omega) ho.pe he.pe hf.pe m,λC H B σ δ n Q Q' R h k =>
 ho.sd C H B σ δ n _ _ R h λv x H1 n1 R1 k1 r1 q1=>by
  cases x with
  |d _=>exact q1.elim
  |tp=>exact q1.elim
  |ln _=>exact q1.elim
  |ob _=>exact q1.elim
  |dk kvs =>
   obtain⟨a,l,rfl,g1,g2,g3⟩:=r1;refine⟨a,rfl,.inl ⟨l,.inl g1⟩,he.sd C H1 B σ δ n1 _ _ R1 q1 λu y H2 n2 R2 k2 r2 q2=>hf.sd C H2 B σ δ n2 _ _ R2 q2 λw z H3 n3 R3 k3 r3 q3=>?_⟩;have r2':=r2.kp k3 R2.bt;have g1':=(k2.trans k3) _ _ g1 g2;have g3':RdK H3 B l kvs:=g3.move λb o e n=>⟨(k2.trans k3) b o e λz=>n (z▸R1.bt),n⟩
   split at q3
   ·rename_i key dz;cases(show RdX H3 B u (.str key)from r2');refine⟨valV l (.inr key),.inl ⟨l,.inr key,.inl g1',rfl,rfl⟩,?_⟩;rcases g3'.val (.inr key)with⟨e1,e2⟩ | ⟨v,d,e1,e2,e3⟩
    ·rw[e1];rw[e2]at q3;exact k w (.d dz) H3 n3 R3 ((k1.trans k2).trans k3) r3 q3
    ·rw[e1];rw[e2]at q3;exact k v (.d d) H3 n3 R3 ((k1.trans k2).trans k3) e3 q3
   ·exact q3.elim⟩
abbrev DTK:=Sl->Int->(List (Key×Ae)->Int->Prop)->Prop
def SndK (t:TE) (w:DTK):Prop:=∀(C:Ctx) (H:Hp) (B:Addr->Prop) (σ:St) (δ:Sl) (n:Int) (Q:List (Key×Ae)->Int->Prop) (Q':VK),Rel C H B σ δ n->w δ n Q ->
 (∀a l kvs H' n',Rel C H' B σ δ n'->Kp C.t H H'->H a=none->H' a=some (.dK l)->l.length<=1000->RdK H' (λb=>B b\/b=a) l kvs->Q kvs n'->Q' (.ref a) H')->t σ H Q'
structure DN (X:Cx) (e:Expr) (t:TE) (w:DTK):Prop where
 pe:PE X e t
 sd:SndK t w
def kNil:DTK:=λ_ n Q=>Q [] n
theorem j6m:DN X (.Dict [] [] pos) jyz kNil:=⟨jw0,λC H B σ δ n Q Q' R q k=>λa ha=>k a [] [] _ n (R.new ha) (Kp.new ha) ha jap (Bj _) .nil q⟩
def jiu:List Ae->Option (List (Key×Ae))
 |[]=>some []
 |.tuple [.str k,d]::r=>(jiu r).map ((.inr k,d)::·)
 |_=>none
theorem jqr {H:Hp} {B:Addr->Prop}:∀{xs:List V} {ds:List Ae} {ps:List (Key×Ae)},RdXs H B xs ds->jiu ds=some ps->∃qs:List (Addr×Key×V),xs=qs.map (λp=>V.ref p.1)/\(∀p∈qs,H p.1=some (.tup [kV p.2.1,p.2.2]))/\RdK H B (qs.map (·.2)) ps
 |_,_,ps,.nil,h=>by
  cases h;exact⟨[],rfl,λp (hp:p∈[])=>absurd hp Aw,Paired.nil⟩
 |_,_,ps,.cons (d:=d) (ds:=ds) h1 h2,h=>by
  unfold jiu at h
  split at h
  ·rename_i e;cases e
  ·rename_i k d' r e;cases e;cases e2:jiu ds with
   |none=>rw[e2]at h;cases h
   |some ps' =>
    rw[e2]at h;cases h;obtain⟨qs,f1,f2,f3⟩:=jqr h2 e2;cases h1 with
    |@tup a ys _ g1 g2 g3 g4 =>
     cases g4 with
     |cons c1 c2 =>
      cases c2 with
      |cons c3 c4 =>
       cases c4;cases c1;refine⟨(a,.inr k,_)::qs,by rw[f1];rfl,λp hp=>?_,.cons ⟨rfl,c3⟩ f3⟩;rcases Ao.mp hp with rfl | z
       ·exact g1
       ·exact f2 p z
  ·cases h
def j3z:List V->Hp->VK->Prop:=λxs H Q=>∃(src:Addr) (ps:List (Addr×Key×V)),xs=[.ref src]/\H src=some (.tup (ps.map λp=>V.ref p.1))/\(∀p∈ps,H p.1=some (.tup [kV p.2.1,p.2.2]))/\ps.length<=1000 /\
  ∀l,H l=none->Q (.ref l) (L2.upd H l (.dK (jd8 [] (ps.map (·.2)))))
def jpo (w:DT):DTK:=λδ n Q=>w δ n λx n1=>match x with
 |.d (.tuple ds)=>match jiu ds with
  |some ps=>ds.length<=1000/\Q (jd9 [] ps) n1
  |none=>False
 |_=>False
theorem jqy (hh:X.A.handled=none) (hg:Gl X "dict") (hm:X.mg "dict"=none) (he:DE X e te we) (hv:B7 "dict"=some (.type "dict"):=by decide +kernel)
  (he':Az [e] X.env=(false,eval e X.env)::Az [] X.env:=by rfl) (hpl:(Dd pos (Az [] X.env)).any (·.1)=false:=by rfl):DN X (.Call (.Name "dict" p) [e] [] pos) (tCB j3z (jcv te tNil)) (jpo we) :=
 ⟨jgd (jr8 hh) hg hm hv (ja0 he.pe jb0 he') (by decide) (by decide) he' hpl,λC H B σ δ n Q Q' R q k =>
  he.sd C H B σ δ n _ _ R q λv x H1 n1 R1 k1 r1 q1=>by
   split at q1
   ·rename_i ds
    split at q1
    ·rename_i ps ep;cases(show RdX H1 B v (.tuple ds)from r1)with
     |@tup a ys _ g1 g2 g3 g4 =>
      obtain⟨qs,f1,f2,f3⟩:=jqr g4 ep;subst f1;have hl:qs.length<=1000:=by have:=g4.len;rw[Ab]at this;rw[this];exact q1.1
      refine⟨a,qs,rfl,g1,f2,hl,λl hl0=>?_⟩;refine k l _ (jd9 [] ps) _ n1 (R1.new hl0) (k1.trans (Kp.new hl0)) (R1.was k1 hl0) jap ?_ ?_ q1.2
      ·have:=jrs (qs.map (·.2)) [];rw[Ab]at this;have z:([]:List (Key×V)).length=0:=rfl;omega
      ·refine RdK.merge ?_ .nil;exact f3.move λb o e n=>⟨by rw[jao (jaj e hl0)];exact e,λz=>z.elim n λq=>jaj e hl0 q⟩
    ·exact q1.elim
   ·exact q1.elim⟩
def jlw (i:Nat) (w:DTK):DST:=λδ n K=>w δ n λkvs n1=>K.nx (δ.set i (some (.odk kvs))) n1
theorem jnl {i:Nat} {x:Str} {pos':Pos} {w:DTK} (hN:X.N.Nodup) (hi:X.N[i]?=some x) (hx:Loc X.env.scope x) (he:DN X e te w) (hs:Dw e (some (.Name x pos')) pos.line X.env=pure false:=by rfl) (hf:X.fn x=true\/X.env.scope.names.lookup x=some .local:=by first | exact .inl rfl | exact .inr rfl | assumption) :
  DS X (.Assign [.Name x pos'] e pos) (tAsg te (jg0 i)) (jlw i w):=⟨jfp hN hi hx he.pe hs hf,λC H B σ δ n K D R q E =>
 he.sd C H B σ δ n _ _ R q λa l kvs H1 n1 R1 k1 h0 h1 h2 h3 q1=>by
  refine E.nx _ _ _ _ _ (R.own R1 k1 h0 (by rw[h1];exact λz=>nomatch z) rfl ?_) q1;exact⟨a,l,rfl,h1,.inr rfl,R.h0 h0,h2,h3⟩⟩
def jno (i:Nat) (wy wv:DT):DST:=λδ n K=>match δ[i]? with
 |some (some (.odk kvs))=>wv δ n λv n1=>wy δ n1 λy n2=>match v,y with
  |.d d,.d (.str k)=>kvs.length < 1000/\K.nx (δ.set i (some (.odk (putD kvs (.inr k) d)))) n2
  |_,_=>False
 |_=>False
theorem jti {i:Nat} {x:Str} {xp sp:Pos} {j e:Expr} {tj te:TE} {wj we:DT} (hu:X.A.units+64 < E2) (hN:X.N[i]?=some x) (hj:DE X j tj wj) (he:DE X e te we) (hv:Vis X.env.scope x:=by first | exact Ar rfl | exact Bz (Ar rfl) | exact Bz (Bz rfl)) (hd:(x==("__debug__":Str))=false:=by decide)
  (hcd:(x==("__classdict__":Str))=false:=by decide) (hs:Dw e (some (.Subscript (.Name x xp) j sp)) pos.line X.env=pure false:=by rfl) :
  DS X (.Assign [.Subscript (.Name x xp) j sp] e pos) (j0z (tVar i) tj te) (jno i wj we) :=
 ⟨jtu (by omega) (jdq hN hv hd hcd) hj.pe he.pe hs,λC H B σ δ n K D R q E=>by
  unfold jno at q
  split at q
  ·rename_i kvs ei;refine he.sd C H B σ δ n _ _ R q λu y H1 n1 R1 k1 r1 q1=>?_;obtain⟨v,hv,a,l,rfl,e2,e3,e4,e5,e6⟩:=R1.sl i _ ei;refine⟨_,hv,hj.sd C H1 B σ δ n1 _ _ R1 q1 λw z H2 n2 R2 k2 r2 q2=>?_⟩
   split at q2
   ·rename_i d key;cases(show RdX H2 B w (.str key)from r2);have hat:a≠C.t:=λz=>R.t0 (z▸e4);have e2':=k2 _ _ e2 hat;have r1':RdX H2 B u d:=r1.kp k2 R1.bt;have e6':RdK H2 B l kvs:=e6.move λb o e n=>⟨k2 b o e λz=>n (z▸R1.bt),n⟩;have hl:l.length < 1000:=by rw[e6'.len];exact q2.1
    refine⟨a,_,rfl,DPut.k (k:=.inr key) e2' (Bk hl (jbf (Al _))),?_⟩;refine E.nx _ _ _ _ _ (R2.mutOwn ei rfl hv e3 e4 ?_ rfl) q2.2;refine⟨a,_,rfl,jap,e3,e4,?_,?_⟩
    ·have:=jqk l (.inr key) u;omega
    ·exact(e6'.put r1' _).move λb o e n=>⟨by rw[jao λ(z:b=a)=>n (z▸e3)];exact e,n⟩
   ·exact q2.elim
  ·exact q.elim⟩
def jii (i:Nat):DT:=λδ n Q=>match δ[i]? with
 |some (some (.own ds))=>Q (.d (.int ds.length)) n
 |_=>False
theorem jx6 (i:Nat) {x:Str} {xp:Pos} (hg:Gl X "len") (hm:X.mg "len"=none) (hK:X.K=K:=by rfl) (hN:X.N[i]?=some x:=by rfl) (hv:Vis X.env.scope x:=by first | exact Ar rfl | exact Bz (Ar rfl) | exact Bz (Bz rfl)) (hd:(x==("__debug__":Str))=false:=by decide)
  (hcd:(x==("__classdict__":Str))=false:=by decide) (he':Az [Expr.Name x xp] X.env=(false,eval (.Name x xp) X.env)::Az [] X.env:=by rfl) (hpl:(Dd pos (Az [] X.env)).any (·.1)=false:=by rfl) :
  DE X (.Call (.Name "len" p) [.Name x xp] [] pos) (tCB (jwq K) (jcv (tVar i) tNil)) (jii i) :=
 ⟨jdd (jat hK) hg hm Bc (ja0 (jdq hN hv hd hcd) jb0 he') (by decide) (by decide) he' hpl,λC H B σ δ n Q Q' R q k=>by
  unfold jii at q
  split at q
  ·rename_i ds e;obtain⟨v,h1,a,xs,rfl,g2,g3,g4,g5,g6⟩:=R.sl i _ e;refine⟨_,h1,.inr ⟨a,xs,rfl,.inl (SqL.of g2),k _ _ H n R (Kp.refl _ _) (wd (.int _)) ?_⟩⟩;rw[g6.len];exact q
  ·exact q.elim⟩
end
section
variable {X:Cx} {a b c e o i f:Expr} {ta tb te td ty tx:TE} {wa wb we wd' wy wx:DT} {pos p:Pos} {K:Ah}
def txK (ps:List (Str×Ae)):List (Key×Ae):=ps.map λp=>(C6 p.1,p.2)
def jhp (ps:List (Str×Ae)):Prop:=ps.Pairwise λa b=>¬b.1.cps.toList < a.1.cps.toList
def jlk (w:DT):DTF:=λδ n Q=>w δ n λx n1=>match x with
 |.dk kvs=>∃ps:List (Str×Ae),kvs=txK ps/\ps.length < 64/\(ps.map (·.1)).Nodup/\(∀p∈ps,p.1.length<=1000/\jeu p.2=true)/\∀ps':List (Str×Ae),ps'.Perm ps->jhp ps'->Q (ps'.map λp=>.tuple [.str p.1,p.2]) n1
 |_=>False
theorem jzf {H:Hp} {B:Addr->Prop}:∀{l:List (Key×V)} {ps:List (Str×Ae)},RdK H B l (txK ps)->∃xv:List V,xv.length=ps.length/\l=(((ps.map (·.1)).zip xv).map λp=>((C6 p.1:Key),p.2))/\RdXs H B xv (ps.map (·.2))
 |[],[],_=>⟨[],rfl,rfl,.nil⟩
 |[],_::_,h=>nomatch h
 |_::_,[],h=>nomatch h
 |q::l,p::ps,.cons r h=>by
  obtain⟨xv,e1,e2,e3⟩:=jzf (l:=l) (ps:=ps) h;refine⟨q.2::xv,by simp[e1],?_,.cons r.2 e3⟩;rw[e2];have r1:q.1=(C6 p.1:Key):=r.1;have:q=((C6 p.1:Key),q.2):=by rw[<-r1]
  rw[this];rfl
def j3y:V->List V->Hp->VK->Prop:=λx vs H Q=>∃d kvs,x=.ref d/\vs=[]/\H d=some (.dK kvs)/\∀v,H v=none->Q (.ref v) (upd H v (jm8 d v))
theorem jq2 {α β:Type} {f:α->β} {l:List α} {i:Nat} {x:α} {y:β} (h:i < l.length):(l.map f).getD i y=f (l.getD i x):=by simp[h]
theorem jpu {ap ip:Pos} (hh:X.A.handled=none) (hg:Gl X "sorted") (hm:X.mg "sorted"=none) (ho:DE X o td wd') (hv:B7 "sorted"=some (.builtin "sorted"):=by decide +kernel) (hK:X.K=K:=by rfl)
  (hbase:Fs o "items" X.env (eval o X.env)=eval o X.env:=by rfl) (hline:(ap.endLine==ip.line)=true:=by rfl)
  (he':Az [Expr.Call (.Attribute o "items" ap) [] [] ip] X.env=(false,eval (Expr.Call (.Attribute o "items" ap) [] [] ip) X.env)::Az [] X.env:=by rfl) (hpl:(Dd pos (Az [] X.env)).any (·.1)=false:=by rfl) :
  DF X (.Call (.Name "sorted" p) [.Call (.Attribute o "items" ap) [] [] ip] [] pos) (tCB jlb (jcv (tBM0 K "dict" j3y td) tNil)) (jlk wd'):=by
 subst hK;refine⟨jdd (jkv hh) hg hm hv (ja0 (j4e PySem.F.plainAttrs_dict PySem.F.slot_dict_items PySem.F.type_dict_items jxa ho.pe hbase hline) jb0 he') (by decide) (by decide) he' hpl,λC H B σ δ n Q Q' R q k =>
  ho.sd C H B σ δ n _ _ R q λv x H1 n1 R1 k1 r1 q1=>?_⟩
 cases x with
 |d _=>exact q1.elim
 |tp=>exact q1.elim
 |ln _=>exact q1.elim
 |ob _=>exact q1.elim
 |dk kvs =>
  obtain⟨a,l,rfl,g1,g2,g3⟩:=r1;obtain⟨ps,rfl,h64,nd,hps,kq⟩:=q1;obtain⟨xv,ex1,ex2,ex3⟩:=jzf g3;refine⟨.inr (.inr (.inl ⟨rfl,.inl ⟨l,g1⟩⟩)),a,l,rfl,rfl,g1,λv hv=>?_⟩;have R2:=R1.new (o:=jm8 a v) hv;have kp2:Kp C.t H1 (upd H1 v (jm8 a v)):=Kp.new hv;have hne:a≠v:=jaj g1 hv;refine⟨v,a,ps.map (·.1),xv,rfl,jap,by rw[Ab,ex1],by rw[jao hne,g1,ex2],by rw[Ab];exact h64,nd,jd1 ex3 ?_,λD as idx H' hla hidx hpw sm hD has hD' hit=>?_⟩
  ·rw[E4];intro d hd;obtain⟨p,hp,rfl⟩:=Bq.mp hd;exact(hps p hp).2
  ·rw[Ab]at hla hidx;have R3:=R2.same sm;have k3:Kp C.t H H':=(k1.trans kp2).trans λb o e _=>sm b o e;have hDn:H D=none:=R1.was k1 (by
    cases q:H1 D with
    |none=>rfl
    |some o =>
     have:upd H1 v (jm8 a v) D=some o:=by rw[jao (jaj q hv)];exact q
     rw[hD]at this;cases this)
   have hlt:∀i∈idx,i < ps.length:=λi hi=>Ck.mp (hidx.mem_iff.mp hi);have lidx:idx.length=ps.length:=by rw[hidx.length_eq,Et]
   refine k D _ _ H' n1 R3 k3 hDn hD' (by rw[Ab,lidx];exact jbf (by omega)) ?_ (kq (idx.map λi=>ps.getD i (⟨#[]⟩,.none)) ?_ ?_)
   ·rw[El];have key:∀m:List Nat,(∀i∈m,i∈idx)->RdXs H' (λb=>B b\/b=D) (m.map λi=>V.ref (IxV as (ps.map (·.1)) xv i).1) (m.map ((λp=>PyData.tuple [.str p.1,p.2]) ∘ λi=>ps.getD i (⟨#[]⟩,.none))):=by
     intro m
     induction m with
     |nil=>intro _;exact .nil
     |cons i r ih =>
      intro hm;have hi:=hm i A2;have hil:=hlt i hi;refine .cons ?_ (ih λj hj=>hm j (As _ hj));have ht:=hit i hi;have hia:i < as.length:=by rw[hla];exact hil
      have eA:(IxV as (ps.map (·.1)) xv i).1=as[i]:=by show as.getD i 0=_;simp[hia]
      have eK:(IxV as (ps.map (·.1)) xv i).2.1=ps[i].1:=by show(ps.map (·.1)).getD i ⟨#[]⟩=_;simp[hil]
      have hix:i < xv.length:=by rw[ex1];exact hil
      have eX:(IxV as (ps.map (·.1)) xv i).2.2=xv[i]:=by show xv.getD i .non=_;simp[hix]
      rw[eA,eK,eX]at ht;show RdX H' _ (.ref (IxV as (ps.map (·.1)) xv i).1) _;rw[eA];have eP:ps.getD i (⟨#[]⟩,.none)=ps[i]:=by simp[hil]
      show RdX H' _ (.ref as[i]) (.tuple [.str (ps.getD i (⟨#[]⟩,.none)).1,(ps.getD i (⟨#[]⟩,.none)).2]);rw[eP];have hAn:=has as[i] (Df hia);have nB:¬B as[i]:=R2.nb hAn;have nD:as[i]≠D:=λz=>by rw[z,hD']at ht;cases ht
      refine .tup ht (λz=>z.elim nB nD) (by show 2<=A1;decide) (.cons (.str _ (jbf (hps ps[i] (Df hil)).1)) (.cons ?_ .nil));obtain⟨d,f1,f2⟩:=ex3.get (Ag hix);rw[A0,Ag hil]at f1;cases f1;exact f2.move λb o e n=>⟨sm b o (by rw[jao (jaj e hv)];exact e),λz=>z.elim n λq=>by
       have e2:upd H1 v (jm8 a v) b=some o:=by rw[jao (jaj e hv)];exact e
       rw[q,hD]at e2;cases e2⟩
    exact key idx λ_ h=>h
   ·have h1:=hidx.map λi=>ps.getD i ((⟨#[]⟩:Str),PyData.none);have h2:(Bs ps.length).map (λi=>ps.getD i ((⟨#[]⟩:Str),PyData.none))=ps:=by
     apply Ge (by simp);intro i h1 h2;simp[h2]
    rw[h2]at h1;exact h1
   ·unfold jhp;rw[List.pairwise_map];rw[List.pairwise_map]at hpw;refine List.Pairwise.imp_of_mem (λ{x y} hx hy h=>?_) hpw;rw[jq2 (x:=((⟨#[]⟩:Str),PyData.none)) (hlt x hx),jq2 (x:=((⟨#[]⟩:Str),PyData.none)) (hlt y hy)]at h;exact h
theorem jly {H:Hp} {B:Addr->Prop}:∀{ys:List Str},(∀y∈ys,y.length<=1000)->RdXs H B (ys.map V.str) (ys.map .str)
 |[],_=>.nil
 |y::r,h=>.cons (.str _ (jbf (h y A2))) (jly λz hz=>h z (As _ hz))
def gInt:List Wv->Int->DQ->Prop:=λxs n Q=>match xs with
 |[.d (.int i)]=>Q (.d (.int i)) n
 |[.d (.bool b)]=>Q (.d (.int (if b then 1 else 0))) n
 |_=>False
def zipD (xs ys:List Ae):List Ae:=List.zipWith (λx y=>.tuple [x,y]) xs ys
def jxq (w w':DT):DTI:=λδ n Q=>w δ n λx n1=>w' δ n1 λy n2=>match x,y with
 |.d (.tuple xs),.d (.tuple ys)=>xs.length=ys.length/\Q (zipD xs ys) n2
 |_,_=>False
theorem j6p {elts:List Expr} {kk:Nat} {tpos:Pos} (hg:Gl X "zip") (hm:X.mg "zip"=none) (ha:DE X a ta wa) (hb:DE X b tb wb) (hK:X.K=K:=by rfl) (hs:Az [a,b] X.env=[(false,eval a X.env),(false,eval b X.env)]:=by rfl) (hs2:Az [b] X.env=[(false,eval b X.env)]:=by rfl)
  (he1:Az [a,b] X.env=(false,eval a X.env)::Az [b] X.env:=by rfl) (he2:Az [b] X.env=(false,eval b X.env)::Az [] X.env:=by rfl) :
  DI X (.Tuple elts kk tpos) (.Call (.Name "zip" p) [a,b] [] pos) (iZip K (jcv ta (jcv tb tNil))) (jxq wa wb):=by
 subst hK;refine⟨j38 hg hm (ja0 ha.pe (ja0 hb.pe jb0 he2) he1) hs hs2,λC H B σ δ n Q Q' R q k=>ha.sd C H B σ δ n _ _ R q λv x H1 n1 R1 k1 r1 q1=>hb.sd C H1 B σ δ n1 _ _ R1 q1 λu y H2 n2 R2 k2 r2 q2=>?_⟩;have r1':=r1.kp k2 R1.bt
 split at q2
 ·rename_i xs ys;cases(show RdX H2 B v (.tuple xs)from r1')with
  |@tup aa vs _ e1 e2 e3 e4 =>
   cases(show RdX H2 B u (.tuple ys)from r2)with
   |@tup ab ws _ f1 f2 f3 f4 =>
    refine⟨aa,ab,rfl,⟨vs,SqT.of e1⟩,⟨ws,SqT.of f1⟩,k _ (zipD xs ys) H2 n2 R2 (k1.trans k2) (λfz th=>?_) q2.2⟩;have za:fz aa=some (.tup vs):=th.2 _ _ e1 e2;have zb:fz ab=some (.tup ws):=th.2 _ _ f1 f2;have lz:(zipD xs ys).length=xs.length:=by unfold zipD;rw[List.length_zipWith,q2.1,Nat.min_self]
    refine⟨by rw[lz,<-e4.len];exact e3,λi H hH hi=>?_,λH hH=>?_,λi H x H' d hH hd hy=>?_⟩
    ·rw[lz]at hi;have h1:i < vs.length:=by rw[e4.len];exact hi
     have h2:i < ws.length:=by rw[f4.len,<-q2.1];exact hi
     exact⟨vs,ws,vs[i],ws[i],SqT.of (hH _ _ za),SqT.of (hH _ _ zb),Ag h1,Ag h2⟩
    ·exact⟨vs,SqT.of (hH _ _ za),by rw[lz,e4.len];exact Al _⟩
    ·obtain⟨T,x1,y1,rfl,hT,rfl,hx,hy⟩:=hy;refine⟨λb o e=>by rw[jao (jaj e hT)];exact e,λB' hB hBa=>?_⟩;have hi:i < xs.length:=by rw[<-lz];exact(Ay.mp hd).1
     have hi2:i < ys.length:=by rw[<-q2.1];exact hi
     have ed:d=.tuple [xs[i],ys[i]]:=by
      unfold zipD at hd;rw[List.getElem?_zipWith,Ag hi,Ag hi2]at hd;exact(Aq hd).symm
     subst ed;obtain⟨u1,hu1,ru1⟩:=e4.getD (Ag hi);obtain⟨u2,hu2,ru2⟩:=f4.getD (Ag hi2);have t1:=hx _ (SqT.of (hH _ _ za));have t2:=hy _ (SqT.of (hH _ _ zb));rw[hu1]at t1;rw[hu2]at t2;cases t1;cases t2;have mv:∀b o,H2 b=some o->¬B b->upd H T (.tup [x1,y1]) b=some o/\¬B' b:=λb o e ne=>by
      have:=hH _ _ (th.2 _ _ e ne);exact⟨by rw[jao (jaj this hT)];exact this,hB _ _ (th.2 _ _ e ne)⟩
     exact .tup jap (λz=>hBa T z hT) (by show 2<=A1;decide) (.cons (ru1.move mv) (.cons (ru2.move mv) .nil))
 ·exact q2.elim
end
end DL
namespace L2
open PySem PySem.Spec PyProof.Rows PySem.SeqAt
end L2
namespace DL
open PySem L2 Nb
section
variable {X:Cx} {K:Ah}
def rXX (K:Ah) (f:Ae->Ae->Option Bool):R2:=λx y H Q=>∃d e b,RdD K H x d/\RdD K H y e/\d.canLay0=true/\e.canLay0=true/\d.depth<=20/\e.depth<=20/\f d e=some b/\Q (.bl b) H
theorem jnx (hu:X.A.units+64 < E2) (hK:X.K=K:=by rfl):OpR X (B1 .Eq) (rXX K λd e=>some (Bd d e)):=by
 subst hK;intro pins s σ H x y v u Q I rx ry h;obtain⟨d,e,b,h1,h2,h3,h4,h5,h6,h7,q⟩:=h;cases h7;obtain⟨as,r1⟩:=RdD.reads I h1 rx;obtain⟨bs,r2⟩:=RdD.reads I h2 ry;exact SeqAt.compareEq_reads r1 r2 h3 h4 (by omega) ⟨.bl _,H,I,rfl,q⟩
theorem jiw (hu:X.A.units+64 < E2) (hK:X.K=K:=by rfl):OpR X (B1 .NotEq) (rXX K λd e=>some (!Bd d e)):=by
 subst hK;intro pins s σ H x y v u Q I rx ry h;obtain⟨d,e,b,h1,h2,h3,h4,h5,h6,h7,q⟩:=h;cases h7;obtain⟨as,r1⟩:=RdD.reads I h1 rx;obtain⟨bs,r2⟩:=RdD.reads I h2 ry;exact SeqAt.compareNe_reads r1 r2 h3 h4 (by omega) ⟨.bl _,H,I,rfl,q⟩
def gXX (f:Ae->Ae->Option Bool):Wv->Wv->Int->DQ->Prop:=λx y n Q=>match x,y with
 |.d d,.d e=>d.canLay0=true/\e.canLay0=true/\d.depth<=20/\e.depth<=20/\∃b,f d e=some b/\Q (.d (.bool b)) n
 |_,_=>False
theorem jd5 {f:Ae->Ae->Option Bool}:SndO (rXX K f) (gXX f):=λC H B σ δ n x y p q Q Q' R rx ry h1 k=>by
 unfold gXX at h1
 split at h1
 ·rename_i d e;obtain⟨a1,a2,a3,a4,b,a5,a6⟩:=h1;exact⟨d,e,b,RdX.rd rx,RdX.rd ry,a1,a2,a3,a4,a5,k _ _ H n R (Kp.refl _ _) (wd (.bl b)) a6⟩
 ·exact h1.elim
end
end DL
namespace L2
open PySem PySem.Spec PyProof.Rows PySem.W
section
variable {prog:Bg} {w:Bt} {A:B6} {E:Af->Aj->Prop} {s:Aj}
theorem js1 {src:Source} {n:Nat} {Q:Nat->Aj->Prop} (hn:n≠0) (h:∀i dr,i < n->Q i {s with drawn:=dr}):A3 (A9 prog w) A (choose src n) Q E s :=
 λ_ _ _=>⟨hn,h _ _ (Nat.mod_lt _ (Nat.pos_of_ne_zero hn))⟩
theorem jje {α:Type}:∀(l:List α) (i:Nat) (h:i < l.length),(l[i]::l.eraseIdx i).Perm l
 |x::r,0,_=>List.Perm.refl _
 |x::r,i+1,h=>(List.Perm.swap x (r[i]'(Nat.lt_of_succ_lt_succ h)) (r.eraseIdx i)).trans ((jje r i (Nat.lt_of_succ_lt_succ h)).cons x)
theorem jsy {α:Type}:∀(n:Nat) (xs:List α) (s:Aj) {Q:List α->Aj->Prop},xs.length=n->(∀ys dr,ys.Perm xs->Q ys {s with drawn:=dr})->A3 (A9 prog w) A (drawOrder n xs) Q E s
 |0,xs,s,Q,hl,h=>by
  cases Gj hl;exact Ai (h [] s.drawn (List.Perm.refl _))
 |n+1,[],s,Q,hl,h=>by cases hl
 |n+1,x::r,s,Q,hl,h=>by
  unfold drawOrder;refine Aa (js1 (by simp) λi dr hi=>?_);rw[Ag hi];dsimp only;refine Aa (jsy n _ _ (by rw[List.length_eraseIdx_of_lt hi];simp at hl ⊢;omega) λys dr' hp=>Ai (h _ dr' ?_));exact(hp.cons _).trans (jje _ _ hi)
theorem jst {α:Type} (next:Nat->Nat):∀(fuel k:Nat) (left:List α) (out:Array α),left.length=fuel->(pickOrder.go next fuel k left out).toList.Perm (out.toList++left)
 |0,k,left,out,hl=>by
  cases Gj hl;simp[pickOrder.go]
 |fuel+1,k,left,out,hl=>by
  have hi:next k % left.length < left.length:=Nat.mod_lt _ (by omega)
  unfold pickOrder.go;rw[Ag hi];dsimp only;refine(jst next fuel (k+1) _ _ (by rw[List.length_eraseIdx_of_lt hi];omega)).trans ?_;rw[Array.toList_push,Bw];exact List.Perm.append_left _ (jje _ _ hi)
theorem jrj {α:Type} (next:Nat->Nat) (xs:Array α):(pickOrder next xs).toList.Perm xs.toList:=by
 have:=jst next xs.size 0 xs.toList #[] (by simp)
 simpa[pickOrder]using this
def byTx (w:Bt):Bool:=w.params.followText "set-order"
theorem jlu {Q:Bool->Aj->Prop} (h:Q (byTx w) s):A3 (A9 prog w) A setsByText Q E s:=by
 unfold setsByText;exact Aa (wpAny_askSetting (Ai h))
structure SetTb (w:Bt) (h:Heap) (a:Addr) (es:Array (Int×Af)) (ep:Nat) (t:Eo):Prop where
 obj:∃o,h.get? a=some o/\o.ExactSet/\o.data=.set es ep t
 fits:t.fits es.size=true
 led:t.led=!byTx w
 plain:t.plain=true->es.size=0
theorem SetTb.move {h h':Heap} {a:Addr} {es:Array (Int×Af)} {ep:Nat} {t:Eo} (x:SetTb w h a es ep t) (k:∀o,h.get? a=some o->h'.get? a=some o):SetTb w h' a es ep t :=
 ⟨let⟨o,e,r⟩:=x.obj;⟨o,k o e,r⟩,x.fits,x.led,x.plain⟩
theorem SetTb.typeIs {a:Addr} {es:Array (Int×Af)} {ep:Nat} {t:Eo} (x:SetTb w s.heap a es ep t):s.TypeIs (.ref a) "set":=let⟨o,e,r,_⟩:=x.obj;⟨o,e,r.1⟩
theorem SetTb.lt {h:Heap} {a:Addr} {es:Array (Int×Af)} {ep:Nat} {t:Eo} (x:SetTb w h a es ep t):a < h.objs.size:=let⟨_,e,_⟩:=x.obj;Ap e
theorem j1k (t:Eo) (n:Nat):(t.orStandIn n).led=t.led:=by
 unfold SetTable.orStandIn
 split<;>rfl
theorem j1v (t:Eo) (es:Array (Int×Af)) (h:Int) (x:Af):(layNew t es h x).2.1.led=t.led:=by
 unfold layNew
 split
 ·exact j1k _ _
 ·rfl
theorem jro {t t':Eo} {hs:Array Int} {n:Nat} {ord:Array Nat} (h:t.relaid hs n=some (t',ord)):t'.led=t.led/\t'.plain=t.plain:=by
 unfold SetTable.relaid SetTable.laid at h;cases hc:SetTable.layClean (SetTable.sizeAbove n - 1) hs with
 |none=>rw[hc]at h;cases h
 |some ow =>
  rw[hc]at h;cases h;exact⟨rfl,rfl⟩
theorem jnp (t:Eo) (es:Array (Int×Af)) (n:Nat):(relayAll t es n).2.1.led=t.led/\((relayAll t es n).2.1.plain=true->t.plain=true):=by
 unfold relayAll
 split
 ·rename_i t' ord he;obtain⟨h1,h2⟩:=jro he;dsimp only
  split
  ·exact⟨h1,λz=>h2▸z⟩
  ·exact⟨rfl,λz=>by simp[SetTable.standIn]at z⟩
 ·exact⟨rfl,λz=>by simp[SetTable.standIn]at z⟩
def txOf (v:Af):Str:=match v with
 |.str k _=>k
 |_=>⟨#[]⟩
def ksOf (es:Array (Int×Af)):List Str:=es.toList.map λe=>txOf e.2
def TxEs (w:Bt) (es:Array (Int×Af)):Prop:=∀e∈es.toList,∃k t,e.2=.str k t/\e.1=hashStr w k
theorem TxEs.elems {es:Array (Int×Af)} (h:TxEs w es):ElemsOf (Dl prog w) es.toList:=λe he=>by
 obtain⟨k,t,e1,e2⟩:=h e he;refine⟨⟨k,?_,e2⟩,by rw[e1];rfl⟩;rw[e1];simp[Dl,Value.isStrOf]
def jjy (w:Bt) (h:Heap) (a:Addr) (seen:List Str):Prop:=∃es ep t,SetTb w h a es ep t/\TxEs w es/\(ksOf es).Nodup/\(∀k,k∈ksOf es↔k∈seen)/\es.size<=seen.length
end
theorem jgj:entryFor table "set.update.loop"=some Dn.«set.update.loop»:=Gn (by kernel_rfl)
theorem jdx:plainId "set.update.loop"=true:=by decide +kernel
section
variable {prog:Bg} {w:Bt} {A:B6} {E:Af->Aj->Prop} {s:Aj}
theorem j0g {es es':Array (Int×Af)} {seen:List Str} {k:Str} {tk:Tok} (hx:TxEs w es) (nd:(ksOf es).Nodup) (hm:∀k,k∈ksOf es↔k∈seen) (hl:es.size<=seen.length) (hk:k∉ksOf es)
  (p:es'.toList.Perm (es.toList++[(hashStr w k,.str k tk)])):TxEs w es'/\(ksOf es').Nodup/\(∀k',k'∈ksOf es'↔k'∈seen++[k])/\es'.size<=(seen++[k]).length/\es'.size=es.size+1:=by
 have pk:(ksOf es').Perm (ksOf es++[k]):=by
  have:=p.map λe=>txOf e.2;rw[Bm]at this;exact this
 have hz:es'.size=es.size+1:=by
  have:=p.length_eq;simpa using this
 refine⟨λe he=>?_,pk.nodup_iff.mpr ?_,λk'=>?_,by rw[hz,An];exact Nat.succ_le_succ hl,hz⟩
 ·rcases A7.mp (p.mem_iff.mp he)with h | h
  ·exact hx e h
  ·rw[Be]at h;subst h;exact⟨k,tk,rfl,rfl⟩
 ·rw[List.nodup_append];exact⟨nd,Gy _ _,λa ha b hb e=>hk (by rw[Be]at hb;rw[<-hb,<-e];exact ha)⟩
 ·rw[pk.mem_iff,A7,A7,hm k']
theorem jss {es es':Array (Int×Af)} (hx:TxEs w es) (nd:(ksOf es).Nodup) (p:es'.toList.Perm es.toList):TxEs w es'/\(ksOf es').Nodup/\(∀k',k'∈ksOf es'↔k'∈ksOf es)/\es'.size=es.size:=by
 have pk:(ksOf es').Perm (ksOf es):=List.Perm.map (λe:Int×Af=>txOf e.2) p;exact⟨λe he=>hx e (p.mem_iff.mp he),pk.nodup_iff.mpr nd,λk'=>pk.mem_iff,by have:=p.length_eq;simpa using this⟩
theorem j29 {a:Addr} {k:Str} {tk:Tok} {seen:List Str} {Q:Bool->Aj->Prop} (hS:jjy w s.heap a seen) (hb:seen.length < 1000)
  (h:∀b h',C5 a s.heap h'->jjy w h' a (seen++[k])->Q b {s with heap:=h'}):A3 (A9 prog w) A (setAddHashed a (.str k tk) (hashStr w k)) Q E s:=by
 obtain⟨es,ep,t,T,hx,nd,hm,hl⟩:=hS;obtain⟨o,ho,hex,hd⟩:=T.obj;have hel:ElemsOf (Dl prog w) es.toList:=hx.elems;have hsz:es.size < scanBound:=by unfold scanBound;omega
 have hkey:(Dl prog w).is k (.str k tk)=true:=by simp[Dl,Value.isStrOf]
 unfold setAddHashed setAddHashedIn;refine Cw (Aa (E1 ho hd T.fits ?_));dsimp only;rw[byScan_of (knd:=Dl prog w) (x:=.str k tk) rfl hsz hel];simp only[↓reduceIte];unfold setAddByScan;refine Aa (Aa (Ff (Aa (wpAny_setScan_of (knd:=Dl prog w) (k:=k) hkey ho hd T.fits hel ?_))));cases hr:es.toList.findIdx? (λe=>(Dl prog w).is k e.2)with
 |some j =>
  dsimp only;obtain⟨hj,hpj,_⟩:=Fp.mp hr;have hk:k∈ksOf es:=by
   obtain⟨u,hu⟩:=Value.isStrOf_shape hpj;exact Bq.mpr ⟨es.toList[j],Df hj,by rw[hu];rfl⟩
  refine Ai (Ai (h _ s.heap (Heap.SameBut.refl a s.heap) ⟨es,ep,t,T,hx,nd,λk'=>?_,by rw[An];omega⟩));rw[hm k',A7,Be];exact⟨.inl,λz=>z.elim id λe=>e▸(hm k).mp hk⟩
 |none =>
  dsimp only;have hk:k∉ksOf es:=λz=>by
   obtain⟨e,he,e2⟩:=Bq.mp z;obtain⟨k',t',e3,_⟩:=hx e he;have q:=List.findIdx?_eq_none_iff.mp hr e he;rw[e3]at e2 q;have e2:k'=k:=e2;subst e2;simp[Dl,Value.isStrOf]at q
  have hgw:∀(b:Bool) {s₁:Aj} {Q':Unit->Aj->Prop},Q' () s₁->A3 (A9 prog w) A (match b with | true=>rule "set.scan.the-table-gave-way" | false=>pure ()) Q' E s₁ :=
   λb s₁ Q' hq=>by cases b with
    |true=>exact Ff hq
    |false=>exact Ai hq
  have hp:=layNew_perm t es (hashStr w k) (.str k tk);have hf:=layNew_fits t es (hashStr w k) (.str k tk);have hle:=j1v t es (hashStr w k) (.str k tk);have eh:(Dl prog w).hash k=hashStr w k:=rfl
  try rw[eh]
  generalize layNew t es (hashStr w k) (.str k tk)=L at hp hf hle ⊢;obtain⟨es1,t1,wd,gave⟩:=L;dsimp only at hp hf hle ⊢;rw[Array.toList_push]at hp;obtain⟨x1,n1,m1,l1,z1⟩:=j0g hx nd hm hl hk hp;refine Aa (hgw _ ?_)
  split
  ·refine Aa ?_;rw[hashByValue_scannable 8 rfl];refine Ai ?_;have hpl:({t1 with plain:=false}:Eo).plain=false:=rfl;have hft:({t1 with plain:=false}:Eo).fits es1.size=true:=SetTable.fits_plain_off hf;have hld:({t1 with plain:=false}:Eo).led=t.led:=hle;simp only[plainKind,Cq,↓reduceIte];generalize({t1 with plain:=false}:Eo)=t2 at hpl hft hld ⊢;have hb1:es1.size < scanBound:=by unfold scanBound;omega
   refine Aa (wpAny_storeSet_of ho hd ?_ (fits_of_scanBound hb1));have g1:(s.heap.update a (D7 es1 t2)).get? a=some {o with data:=.set es1 (ep+1) t2}:=by
    have:=Bu (D7 es1 t2) ho (by rw[putSet_of es1 t2 hd];rfl);rw[putSet_of es1 t2 hd]at this;exact this
   have sb1:=Bi s.heap a (D7 es1 t2)
   split
   ·have hp2:=relayAll_perm t2 es1 (D4 es1.size);have hf2:=relayAll_fits t2 es1 (D4 es1.size);obtain⟨hl2,hq2⟩:=jnp t2 es1 (D4 es1.size);generalize relayAll t2 es1 (D4 es1.size)=R at hp2 hf2 hl2 hq2 ⊢;obtain⟨es2,t3,gave2⟩:=R;dsimp only at hp2 hf2 hl2 hq2 ⊢;obtain⟨x2,n2,m2,z2⟩:=jss x1 n1 hp2;refine Aa (hgw _ ?_);refine Aa (wpAny_storeSet_of g1 rfl ?_ (fits_of_scanBound (by rw[z2];exact hb1)));have g2:((s.heap.update a (D7 es1 t2)).update a (D7 es2 t3)).get? a=some {o with data:=.set es2 (ep+1+1) t3}:=by
     have:=Bu (D7 es2 t3) g1 (by rw[putSet_of es2 t3 rfl];rfl);rw[putSet_of es2 t3 rfl]at this;exact this
    refine Ai (Ai (h _ _ (sb1.trans (Bi _ a _)) ⟨es2,ep+1+1,t3,⟨⟨_,g2,hex,rfl⟩,hf2,by rw[hl2,hld];exact T.led,λz=>?_⟩,x2,n2,λk'=>(m2 k').trans (m1 k'),by rw[z2];exact l1⟩));have:=hq2 z;rw[hpl]at this;cases this
   ·refine Ai (Ai (h _ _ sb1 ⟨es1,ep+1,t2,⟨⟨_,g1,hex,rfl⟩,hft,by rw[hld];exact T.led,λz=>?_⟩,x1,n1,m1,l1⟩));rw[hpl]at z;cases z
  ·rename_i hpl0;have hpl:t1.plain=false:=by simpa using hpl0
   have hft:=hf;have hld:=hle;refine Aa (Ai ?_);simp only[↓reduceIte];clear hf hle hpl0;generalize t1=t2 at hpl hft hld ⊢;have hb1:es1.size < scanBound:=by unfold scanBound;omega
   refine Aa (wpAny_storeSet_of ho hd ?_ (fits_of_scanBound hb1));have g1:(s.heap.update a (D7 es1 t2)).get? a=some {o with data:=.set es1 (ep+1) t2}:=by
    have:=Bu (D7 es1 t2) ho (by rw[putSet_of es1 t2 hd];rfl);rw[putSet_of es1 t2 hd]at this;exact this
   have sb1:=Bi s.heap a (D7 es1 t2)
   split
   ·have hp2:=relayAll_perm t2 es1 (D4 es1.size);have hf2:=relayAll_fits t2 es1 (D4 es1.size);obtain⟨hl2,hq2⟩:=jnp t2 es1 (D4 es1.size);generalize relayAll t2 es1 (D4 es1.size)=R at hp2 hf2 hl2 hq2 ⊢;obtain⟨es2,t3,gave2⟩:=R;dsimp only at hp2 hf2 hl2 hq2 ⊢;obtain⟨x2,n2,m2,z2⟩:=jss x1 n1 hp2;refine Aa (hgw _ ?_);refine Aa (wpAny_storeSet_of g1 rfl ?_ (fits_of_scanBound (by rw[z2];exact hb1)));have g2:((s.heap.update a (D7 es1 t2)).update a (D7 es2 t3)).get? a=some {o with data:=.set es2 (ep+1+1) t3}:=by
     have:=Bu (D7 es2 t3) g1 (by rw[putSet_of es2 t3 rfl];rfl);rw[putSet_of es2 t3 rfl]at this;exact this
    refine Ai (Ai (h _ _ (sb1.trans (Bi _ a _)) ⟨es2,ep+1+1,t3,⟨⟨_,g2,hex,rfl⟩,hf2,by rw[hl2,hld];exact T.led,λz=>?_⟩,x2,n2,λk'=>(m2 k').trans (m1 k'),by rw[z2];exact l1⟩));have:=hq2 z;rw[hpl]at this;cases this
   ·refine Ai (Ai (h _ _ sb1 ⟨es1,ep+1,t2,⟨⟨_,g1,hex,rfl⟩,hft,by rw[hld];exact T.led,λz=>?_⟩,x1,n1,m1,l1⟩));rw[hpl]at z;cases z
def SeqV (ks:List Str) (i:Nat) (v:Af):Prop:=∃k t,ks[i]?=some k/\v=.str k t
theorem j0h {R:Result->Aj->Prop} {I:Addr} {fp wr:List Addr} {G:Array GenState->Array GenState->Prop} {n:Nat} {St:Nat->Aj->Prop} {ks:List Str} (W:WalksS prog w A.in1 I fp wr G n (SeqV ks) St) (S:Addr) (hSf:S∉fp) (hn:ks.length=n) (hb:n < 64) :
  ∀(m i:Nat) (s:Aj),n - i=m->i<=n->St i s->jjy w s.heap S (ks.take i) ->
   (∀s',Moved (S::wr) G s s'->jjy w s'.heap S ks->R (.ok (.ret .none)) s')->Ft (A9 prog w) A (.builtin "set.update.loop" ⟨[.ref S,.ref I],[]⟩) R s:=by
 have hSw:S∉wr:=λh=>hSf (W.sub _ h);have hsub:∀b∈wr,b∈S::wr:=λb hb=>As _ hb;have mv:∀{h h':Heap} {seen:List Str},(∀o,h.get? S=some o->h'.get? S=some o)->jjy w h S seen->jjy w h' S seen:=λk x=>by
  obtain⟨es,ep,t,T,r⟩:=x;exact⟨es,ep,t,T.move k,r⟩
 intro m
 induction m with
 |zero =>
  intro i s hk hi hst hS hR;have hin:i=n:=by omega
  subst hin;refine D8 jgj ?_;rw[Dh jdx _];show A3 _ A.in1 (Do (.ref I)>>=_) _ _ s;refine Aa (W.done s _ _ hst λs' hm=>?_);show A3 _ A.in1 (ret Bh) _ _ s';rw[<-hn,List.take_length]at hS;exact Ai (hR s' (hm.mono hsub) (mv (λo e=>hm.heap S _ hSw e) hS))
 |succ m ih =>
  intro i s hk hi hst hS hR;have hlt:i < n:=by omega
  refine D8 jgj ?_;rw[Dh jdx _];show A3 _ A.in1 (Do (.ref I)>>=_) _ _ s;refine Aa (W.item i s _ _ hlt hst λv s' hP hst' hm=>?_);obtain⟨k,t,hk1,rfl⟩:=hP;have hS':=mv (λo e=>hm.heap S _ hSw e) hS;show A3 _ A.in1 (holding [Value.str k t] (setAdd S (.str k t))>>=_) _ _ s';refine Aa (Cw ?_);unfold setAdd;refine Cw ?_;refine Aa (wpAny_pyHash_str ?_);refine j29 (s:={ s' with toks:=s'.toks+1}) hS' (by rw[Ct];omega) λb h' hsb hS2=>?_;have et:ks.take i++[k]=ks.take (i+1):=by
   rw[List.take_add_one,hk1];rfl
  rw[et]at hS2;refine Ai ⟨Fq jdx _,ih (i+1) _ (by omega) hlt (W.frame _ s' _ _ hst' (Nat.le_succ _) λb hb o e=>?_) hS2 λs'' hm'' hS''=>?_⟩
  ·rw[hsb.2 b (λh:b=S=>hSf (by rw[<-h];exact hb))];exact e
  ·refine hR s'' (Moved.trans W.gtrans ((hm.mono hsub).then_heap (Nat.le_succ _) λb o hb e=>?_) hm'') hS'';rw[hsb.2 b (λh:b=S=>hb (by rw[h];exact A2))];exact e
end
theorem slot_setit_next:Slot "set_iterator" "__next__" "set_iterator.__next__":=Slot.of (owner:="set_iterator") (n:="__next__") (by rw[typeLookup_type,builtinLookup_eq_fast];kernel_rfl)
 (by decide +kernel) (by decide +kernel) (by decide +kernel) (by first | exact .inl (by decide +kernel) | exact .inr (by decide +kernel)) (by rw[Fg];kernel_rfl)
theorem jbm:entryFor table "set_iterator.__next__"=some Dn.«set_iterator.__next__»:=Gn (by kernel_rfl)
theorem jbr (a:Af):argsOk "set_iterator.__next__" ⟨[a],[]⟩:=by unfold argsOk;kernel_rfl
theorem jeh:Slot "set_iterator" "__iter__" "set_iterator.__iter__":=Slot.of (owner:="set_iterator") (n:="__iter__") (by rw[typeLookup_type,builtinLookup_eq_fast];kernel_rfl)
 (by decide +kernel) (by decide +kernel) (by decide +kernel) (by first | exact .inl (by decide +kernel) | exact .inr (by decide +kernel)) (by rw[Fg];kernel_rfl)
theorem jib:entryFor table "set_iterator.__iter__"=some Dn.«dict_keyiterator.__iter__»:=by exact entryFor_alias (id':="dict_keyiterator.__iter__") (by kernel_rfl) rfl (by decide +kernel) (by kernel_rfl)
theorem jju (a:Af):argsOk "set_iterator.__iter__" ⟨[a],[]⟩:=by unfold argsOk;kernel_rfl
theorem jji:entryFor table "set.__iter__"=some Dn.«frozenset.__iter__»:=by exact entryFor_alias (id':="frozenset.__iter__") (by kernel_rfl) rfl (by decide +kernel) (by kernel_rfl)
def SetIt (h:Heap) (I:Addr) (first:Af) (i:Nat) (a:Addr) (n ep:Nat):Prop:=∃o,h.get? I=some o/\o.cls=.type "set_iterator"/\o.data=.fields #[first,.int i 0,.ref a,.int n 0,.int ep 0]
section
variable {prog:Bg} {w:Bt} {A:B6} {E:Af->Aj->Prop} {s:Aj} {I a T:Addr} {n ep i j:Nat} {es:Array (Int×Af)} {t:Eo} {first:Af}
theorem SetIt.typeIs (x:SetIt s.heap I first i a n ep):s.TypeIs (.ref I) "set_iterator":=let⟨o,e,c,_⟩:=x;⟨o,e,c⟩
theorem SetIt.move {h h':Heap} (x:SetIt h I first i a n ep) (k:∀o,h.get? I=some o->h'.get? I=some o):SetIt h' I first i a n ep:=let⟨o,e,r⟩:=x;⟨o,k o e,r⟩
theorem jcr {Q:Af->Aj->Prop} (hit:SetIt s.heap I first i a n ep) (h:Q (.ref I) s):A3 (A9 prog w) A (pyIter (.ref I)) Q E s:=by
 refine wpAny_pyIter_slot hit.typeIs jeh (B4 jeh hit.typeIs jib ?_ (jju _));show A3 _ _ (ret (.ref I)) _ _ s;exact Ai ⟨_,rfl,"set_iterator",_,hit.typeIs,slot_setit_next.lookup,h⟩
theorem jsv {pl:Array Af} {x:Int×Af} {Q:Option Af->Aj->Prop} (hit:SetIt s.heap I (.ref T) i a n ep) (hs:SetTb w s.heap a es ep t) (hn:es.size=n) (hT:s.heap.IsTuple T pl) (hp:pl[i]?=some (.int j 0)) (hx:es[j]?=some x)
  (hQ:∀h',SetIt h' I (.ref T) (i+1) a n ep->C5 I s.heap h'->Q (some x.2) {s with heap:=h'}):A3 (A9 prog w) A (Do (.ref I)) Q E s:=by
 obtain⟨o,ho,hc,hd⟩:=id hit;obtain⟨oa,hoa,_,hda⟩:=hs.obj;obtain⟨ol,hol,_,nl,hdl⟩:=hT;unfold Do;refine Aa (Dv (Br (name:=Cv "__next__") hit.typeIs slot_setit_next (B4 slot_setit_next hit.typeIs jbm ?_ (jbr _))));refine Aa (Ai ?_);refine Aa (Gg ho hd ?_);dsimp only;refine Aa (Dr hoa hda hs.fits ?_);rw[if_neg (by rw[hn];simp)];refine Aa (Ce hol hdl ?_);simp only[Bp,hp];refine Aa ?_;unfold setNextDrawn;refine Aa (E1 hoa hda hs.fits ?_);simp only[Bp,bne_self_eq_false,Cq,if_false,hx];refine Ai ?_;refine Aa (Dc ho hd (by simp) (Ai ⟨x.2,rfl,Ai (hQ _ ?_ (Bi ..))⟩));exact⟨_,Bu _ ho (De (B5 hd _)),(Ew ..).trans hc,by
  rw[B5 hd];simp[Ci]⟩
theorem jsz {pl:Array Af} {Q:Option Af->Aj->Prop} (hh:A.handled=none) (hit:SetIt s.heap I (.ref T) i a n ep) (hs:SetTb w s.heap a es ep t) (hn:es.size=n) (hT:s.heap.IsTuple T pl) (hp:pl[i]?=none)
  (hQ:∀h',Heap.ExtBut I s.heap h'->Q none {s with heap:=h'}):A3 (A9 prog w) A (Do (.ref I)) Q E s:=by
 obtain⟨ol,hol,_,nl,hdl⟩:=hT;obtain⟨o,ho,hc,hd⟩:=id hit;obtain⟨oa,hoa,_,hda⟩:=hs.obj;unfold Do;refine Aa (Dv (Br (name:=Cv "__next__") hit.typeIs slot_setit_next (B4 slot_setit_next hit.typeIs jbm ?_ (jbr _))));refine Aa (Ai ?_);refine Aa (Gg ho hd ?_);dsimp only;refine Aa (Dr hoa hda hs.fits ?_);rw[if_neg (by rw[hn];simp)];refine Aa (Ce hol hdl ?_);simp only[Bp,hp];refine Aa (Dc ho hd (by simp) ?_);have ho2:=Bu (Obj.mapFields (·.setIfInBounds 0 (Ci 0))) ho (De (B5 hd _));have hd2:=B5 hd (·.setIfInBounds 0 (Ci 0));refine Aa (Dc ho2 hd2 (by simp) ?_);refine Aa ?_;simp only[newExc,newTuple];refine Aa (By ?_ (by size_fits));refine Aa (m:=Em _ _) (wpAny_of_eq (a:=Bh) (by first | rfl | (simp only[Em];rfl)) ?_);refine By ?_ (by size_fits);simp only[raiseNew];refine Aa (wpAny_handled ?_)
 first | rw[show A.in1.handled=none from hh] | rw[hh]
 refine Aa (Ai (wpAny_throw ?_));refine Aa (Fj (T:="StopIteration") (b:=true) ⟨_,Au _ rfl,rfl⟩ isSubtype_stop ?_);exact Ai (hQ _ (((((Bi ..).trans (Bi ..)).extBut).push _).push _))
def jhf (w:Bt) (a:Addr) (ep:Nat) (es:Array (Int×Af)):Array (Int×Af):=pickOrder (w.params.setOrder a ep) es
theorem jnd {Q:Option (Af×Nat)->Aj->Prop} {k:Nat} (hb:byTx w=true) (hs:SetTb w s.heap a es ep t) (h:Q (((jhf w a ep es)[i]?).map λe=>(e.2,k)) s):A3 (A9 prog w) A (setNext a k i ep) Q E s:=by
 obtain⟨oa,hoa,_,hda⟩:=hs.obj;unfold setNext;refine Aa (E1 hoa hda hs.fits ?_);dsimp only;refine Aa (jlu ?_);rw[hb];simp only[↓reduceIte,bne_self_eq_false,Cq,if_false];refine Aa ?_;unfold setWalk;refine Aa (E1 hoa hda hs.fits ?_);dsimp only;refine Aa (jlu ?_);rw[hb];simp only[↓reduceIte];refine Aa (wpAny_askSetting (Ai (Ai h)))
theorem jsw {x:Int×Af} {Q:Option Af->Aj->Prop} (hb:byTx w=true) (hit:SetIt s.heap I (.int 0 0) i a n ep) (hs:SetTb w s.heap a es ep t) (hn:es.size=n) (hx:(jhf w a ep es)[i]?=some x)
  (hQ:∀h',SetIt h' I (.int 0 0) (i+1) a n ep->C5 I s.heap h'->Q (some x.2) {s with heap:=h'}):A3 (A9 prog w) A (Do (.ref I)) Q E s:=by
 obtain⟨o,ho,hc,hd⟩:=id hit;obtain⟨oa,hoa,_,hda⟩:=hs.obj;unfold Do;refine Aa (Dv (Br (name:=Cv "__next__") hit.typeIs slot_setit_next (B4 slot_setit_next hit.typeIs jbm ?_ (jbr _))));refine Aa (Ai ?_);refine Aa (Gg ho hd ?_);dsimp only;refine Aa (Dr hoa hda hs.fits ?_);rw[if_neg (by rw[hn];simp)];refine Aa (jnd hb hs ?_);simp only[Bp,hx,Option.map_some];refine Aa (Dc ho hd (by simp) ?_);have ho2:=Bu (Obj.mapFields (·.setIfInBounds 0 (Ci ((0:Int).toNat:Nat)))) ho (De (B5 hd _));have hd2:=B5 hd (·.setIfInBounds 0 (Ci ((0:Int).toNat:Nat)));refine Aa (Dc ho2 hd2 (by simp) (Ai ⟨x.2,rfl,Ai (hQ _ ?_ ((Bi ..).trans (Bi ..)))⟩));exact⟨_,Bu _ ho2 (De (B5 hd2 _)),(Ew ..).trans ((Ew ..).trans hc),by
  rw[B5 hd2];simp[Ci]⟩
theorem js0 {Q:Option Af->Aj->Prop} (hh:A.handled=none) (hb:byTx w=true) (hit:SetIt s.heap I (.int 0 0) i a n ep) (hs:SetTb w s.heap a es ep t) (hn:es.size=n) (hx:(jhf w a ep es)[i]?=none)
  (hQ:∀h',Heap.ExtBut I s.heap h'->Q none {s with heap:=h'}):A3 (A9 prog w) A (Do (.ref I)) Q E s:=by
 obtain⟨o,ho,hc,hd⟩:=id hit;obtain⟨oa,hoa,_,hda⟩:=hs.obj;unfold Do;refine Aa (Dv (Br (name:=Cv "__next__") hit.typeIs slot_setit_next (B4 slot_setit_next hit.typeIs jbm ?_ (jbr _))));refine Aa (Ai ?_);refine Aa (Gg ho hd ?_);dsimp only;refine Aa (Dr hoa hda hs.fits ?_);rw[if_neg (by rw[hn];simp)];refine Aa (jnd hb hs ?_);simp only[Bp,hx,Option.map_none];refine Aa (Dc ho hd (by simp) ?_);refine Aa ?_;simp only[newExc,newTuple];refine Aa (By ?_ (by size_fits));refine Aa (m:=Em _ _) (wpAny_of_eq (a:=Bh) (by first | rfl | (simp only[Em];rfl)) ?_);refine By ?_ (by size_fits);simp only[raiseNew];refine Aa (wpAny_handled ?_)
 first | rw[show A.in1.handled=none from hh] | rw[hh]
 refine Aa (Ai (wpAny_throw ?_));refine Aa (Fj (T:="StopIteration") (b:=true) ⟨_,Au _ rfl,rfl⟩ isSubtype_stop ?_);exact Ai (hQ _ (((Bi ..).extBut.push _).push _))
theorem jnc {Q:Option (Af×Nat)->Aj->Prop} {k:Nat} (hb:byTx w=false) (h1:es.size<=1) (hs:SetTb w s.heap a es ep t)
  (h:Q (match es[D5 t.place k]?,t.place[D5 t.place k]? with
   |some (_,x),some j=>some (x,j+1)
   |_,_=>none) s):A3 (A9 prog w) A (setNext a k i ep) Q E s:=by
 obtain⟨oa,hoa,_,hda⟩:=hs.obj;have hl:t.led=true:=by rw[hs.led,hb];rfl
 unfold setNext;refine Aa (E1 hoa hda hs.fits ?_);dsimp only;refine Aa (jlu ?_);rw[hb];simp only[Cq,↓reduceIte];have hd:(!t.plain&&decide (es.size > 1))=false:=by
  have:decide (es.size > 1)=false:=decide_eq_false (by omega);rw[this,Bool.and_false]
 split
 ·rename_i z;have z':(!t.plain&&decide (es.size > 1))=true:=z;rw[hd]at z';cases z'
 ·refine Aa (wpAny_of_eq (a:=()) ?_ (Ai h));show(if (!t.led&&!es.isEmpty)=true then unsupported "set:maker-not-led" else pure ())=pure ();rw[hl];rfl
theorem jou {j:Nat}:D5 #[j] 0=0/\D5 #[j] (j+1)=1:=by
 constructor
 ·simp[D5,SetTable.below.go]
 ·simp[D5,SetTable.below.go]
theorem jsu {x:Int×Af} {Q:Option Af->Aj->Prop} (hb:byTx w=false) (hp:t.place=#[j]) (he:es=#[x]) (hit:SetIt s.heap I (.int 0 0) 0 a 1 ep) (hs:SetTb w s.heap a es ep t)
  (hQ:∀h',SetIt h' I (.int ((j+1:Nat):Int) 0) 1 a 1 ep->C5 I s.heap h'->Q (some x.2) {s with heap:=h'}):A3 (A9 prog w) A (Do (.ref I)) Q E s:=by
 have hn:es.size=1:=by rw[he];rfl
 obtain⟨o,ho,hc,hd⟩:=id hit;obtain⟨oa,hoa,_,hda⟩:=hs.obj;unfold Do;refine Aa (Dv (Br (name:=Cv "__next__") hit.typeIs slot_setit_next (B4 slot_setit_next hit.typeIs jbm ?_ (jbr _))));refine Aa (Ai ?_);refine Aa (Gg ho hd ?_);dsimp only;refine Aa (Dr hoa hda hs.fits ?_);rw[if_neg (by rw[hn];simp)];refine Aa (jnc hb (by omega) hs ?_);have b1:D5 t.place (0:Int).toNat=0:=by rw[hp];exact jou.1
 rw[b1,hp,he];show A3 _ _ (setField (.ref I) 0 (Ci ((j+1:Nat):Int))>>=_) _ _ _;refine Aa (Dc ho hd (by simp) ?_);have ho2:=Bu (Obj.mapFields (·.setIfInBounds 0 (Ci ((j+1:Nat):Int)))) ho (De (B5 hd _));have hd2:=B5 hd (·.setIfInBounds 0 (Ci ((j+1:Nat):Int)));refine Aa (Dc ho2 hd2 (by simp) (Ai ⟨x.2,rfl,Ai (hQ _ ?_ ((Bi ..).trans (Bi ..)))⟩));exact⟨_,Bu _ ho2 (De (B5 hd2 _)),(Ew ..).trans ((Ew ..).trans hc),by
  rw[B5 hd2];simp[Ci]⟩
theorem jne {k:Nat} {Q:Option Af->Aj->Prop} (hh:A.handled=none) (hb:byTx w=false) (h1:es.size<=1) (hk:es[D5 t.place k]?=none) (hit:SetIt s.heap I (.int (k:Int) 0) i a n ep) (hs:SetTb w s.heap a es ep t) (hn:es.size=n)
  (hQ:∀h',Heap.ExtBut I s.heap h'->Q none {s with heap:=h'}):A3 (A9 prog w) A (Do (.ref I)) Q E s:=by
 obtain⟨o,ho,hc,hd⟩:=id hit;obtain⟨oa,hoa,_,hda⟩:=hs.obj;unfold Do;refine Aa (Dv (Br (name:=Cv "__next__") hit.typeIs slot_setit_next (B4 slot_setit_next hit.typeIs jbm ?_ (jbr _))));refine Aa (Ai ?_);refine Aa (Gg ho hd ?_);dsimp only;refine Aa (Dr hoa hda hs.fits ?_);rw[if_neg (by rw[hn];simp)];refine Aa (jnc hb h1 hs ?_);rw[Bp,hk];dsimp only;refine Aa (Dc ho hd (by simp) ?_);refine Aa ?_;simp only[newExc,newTuple];refine Aa (By ?_ (by size_fits));refine Aa (m:=Em _ _) (wpAny_of_eq (a:=Bh) (by first | rfl | (simp only[Em];rfl)) ?_);refine By ?_ (by size_fits);simp only[raiseNew];refine Aa (wpAny_handled ?_)
 first | rw[show A.in1.handled=none from hh] | rw[hh]
 refine Aa (Ai (wpAny_throw ?_));refine Aa (Fj (T:="StopIteration") (b:=true) ⟨_,Au _ rfl,rfl⟩ isSubtype_stop ?_);exact Ai (hQ _ (((Bi ..).extBut.push _).push _))
end
section
variable {prog:Bg} {w:Bt} {A:B6} {E:Af->Aj->Prop} {s:Aj} {a:Addr} {ep:Nat} {es:Array (Int×Af)} {t:Eo}
def jow (vs:List (Int×Af)) (i:Nat) (v:Af):Prop:=∃e,vs[i]?=some e/\v=e.2
structure SetWk (prog:Bg) (w:Bt) (sz:Nat) (h':Heap) (a I:Addr) (vs:List (Int×Af)):Prop where
 above:sz<=I
 walk:∃(fp:List Addr) (St:Nat->Heap->Prop),(∀b∈fp,b=a\/sz<=b)/\(∀b∈fp,b < h'.objs.size)/\(∀A:B6,A.handled=none->Walks prog w A I fp [I] vs.length (jow vs) St)/\St 0 h'
theorem j13 {α:Type} {xs:Array α} {j:Nat} {d:α} (h:j < xs.size):xs[j]?=some (xs.getD j d):=by
 simp[h]
theorem jr1 {ys:List Nat} {n:Nat} (hp:ys.Perm (Bs n)) (hn:es.size=n):(ys.map λj=>es.getD j (0,Bh)).Perm es.toList:=by
 have h1:=hp.map λj=>es.getD j ((0:Int),Bh);have h2:(Bs n).map (λj=>es.getD j ((0:Int),Bh))=es.toList:=by
  apply Ge (by simp[hn]);intro i h1 h2;simp at h2;simp[h2]
 rw[h2]at h1;exact h1
theorem jz9 {I T:Addr} {ys:List Nat} {n:Nat} (hne:a≠I) (hTI:T≠I) (hp:ys.Perm (Bs n)) (hn:es.size=n) (A:B6) (hh:A.handled=none) :
  Walks prog w A I [I,a,T] [I] (ys.map λj=>es.getD j (0,Bh)).length (jow (ys.map λj=>es.getD j (0,Bh)))
   (λi h=>SetIt h I (.ref T) i a n ep/\SetTb w h a es ep t/\h.IsTuple T (ys.map λ(j:Nat)=>Value.int (j:Int) 0).toArray) where
 sub:=λb hb=>by simp at hb;simp[hb]
 frame:=λ_ _ _ st hk=>⟨st.1.move λo e=>hk I (by simp) o e,st.2.1.move λo e=>hk a (by simp) o e,let⟨o,e,r⟩:=st.2.2;⟨o,hk T (by simp) o e,r⟩⟩
 item:=λi s Q E hi st hQ=>by
  rw[Ab]at hi;have hj:ys[i] < es.size:=by rw[hn];exact Ck.mp (hp.mem_iff.mp (Df hi))
  refine jsv (j:=ys[i]) st.1 st.2.1 hn st.2.2 (by simp[hi]) (j13 (d:=(0,Bh)) hj) λh' hit' hs'=>?_;refine hQ _ h' s.toks ⟨_,by rw[A0,Ag hi];rfl,rfl⟩ ⟨hit',st.2.1.move λo e=>(hs'.2 a hne).trans e,let⟨o,e,r⟩:=st.2.2;⟨o,(hs'.2 T hTI).trans e,r⟩⟩ λb o hb e=>hs'.extBut b o (λh=>hb (by simp[h])) e
 done:=λs Q E st hQ=>jsz hh st.1 st.2.1 hn st.2.2 (by simp) λh' he'=>hQ h' s.toks λb o hb e=>he' b o (λh=>hb (by simp[h])) e
 self:=λ_ _ _ _ st hQ=>jcr st.1 hQ
theorem j0a {I:Addr} {n:Nat} (hb:byTx w=true) (hne:a≠I) (hn:es.size=n) (A:B6) (hh:A.handled=none) :
  Walks prog w A I [I,a] [I] (jhf w a ep es).toList.length (jow (jhf w a ep es).toList) (λi h=>SetIt h I (.int 0 0) i a n ep/\SetTb w h a es ep t) where
 sub:=λb hb=>by simp at hb;simp[hb]
 frame:=λ_ _ _ st hk=>⟨st.1.move λo e=>hk I (by simp) o e,st.2.move λo e=>hk a (by simp) o e⟩
 item:=λi s Q E hi st hQ=>by
  rw[Cy]at hi;have hx:(jhf w a ep es)[i]?=some (jhf w a ep es)[i]:=Dx hi;refine jsw hb st.1 st.2 hn hx λh' hit' hs'=>?_;exact hQ _ h' s.toks ⟨_,by rw[Array.getElem?_toList];exact hx,rfl⟩ ⟨hit',st.2.move λo e=>(hs'.2 a hne).trans e⟩ λb o hb e=>hs'.extBut b o (λh=>hb (by simp[h])) e
 done:=λs Q E st hQ=>js0 hh hb st.1 st.2 hn (by simp) λh' he'=>hQ h' s.toks λb o hb e=>he' b o (λh=>hb (by simp[h])) e
 self:=λ_ _ _ _ st hQ=>jcr st.1 hQ
theorem j0c {I:Addr} (hb:byTx w=false) (hn:es.size=0) (A:B6) (hh:A.handled=none) :
  Walks prog w A I [I,a] [I] ([]:List (Int×Af)).length (jow []) (λ_ h=>SetIt h I (.int ((0:Nat):Int) 0) 0 a 0 ep/\SetTb w h a es ep t) where
 sub:=λb hb=>by simp at hb;simp[hb]
 frame:=λ_ _ _ st hk=>⟨st.1.move λo e=>hk I (by simp) o e,st.2.move λo e=>hk a (by simp) o e⟩
 item:=λi s Q E hi st hQ=>by simp at hi
 done:=λs Q E st hQ=>jne (k:=0) hh hb (by omega) (by rw[Array.getElem?_eq_none];omega) st.1 st.2 hn λh' he'=>hQ h' s.toks λb o hb e=>he' b o (λh=>hb (by simp[h])) e
 self:=λ_ _ _ _ st hQ=>jcr st.1 hQ
theorem j0b {I:Addr} {x:Int×Af} {j:Nat} (hb:byTx w=false) (hne:a≠I) (he:es=#[x]) (hp:t.place=#[j]) (A:B6) (hh:A.handled=none) :
  Walks prog w A I [I,a] [I] [x].length (jow [x]) (λi h=>((i=0/\SetIt h I (.int 0 0) 0 a 1 ep)\/(i=1/\SetIt h I (.int ((j+1:Nat):Int) 0) 1 a 1 ep))/\SetTb w h a es ep t) where
 sub:=λb hb=>by simp at hb;simp[hb]
 frame:=λ_ _ _ st hk=>⟨st.1.imp (λz=>⟨z.1,z.2.move λo e=>hk I (by simp) o e⟩) (λz=>⟨z.1,z.2.move λo e=>hk I (by simp) o e⟩),st.2.move λo e=>hk a (by simp) o e⟩
 item:=λi s Q E hi st hQ=>by
  have hi0:i=0:=by simpa using hi
  subst hi0;rcases st.1 with⟨_,z⟩ | ⟨z,_⟩
  ·refine jsu hb hp he z st.2 λh' hit' hs'=>?_;exact hQ _ h' s.toks ⟨x,rfl,rfl⟩ ⟨.inr ⟨rfl,hit'⟩,st.2.move λo e=>(hs'.2 a hne).trans e⟩ λb o hb e=>hs'.extBut b o (λh=>hb (by simp[h])) e
  ·cases z
 done:=λs Q E st hQ=>by
  rcases st.1 with⟨z,_⟩ | ⟨_,z⟩
  ·cases z
  ·refine jne (k:=j+1) hh hb (by rw[he];exact Al 1) ?_ z st.2 (by rw[he];rfl) λh' he'=>hQ h' s.toks λb o hb e=>he' b o (λh=>hb (by simp[h])) e;rw[hp,jou.2,he];rfl
 self:=λi s Q E st hQ=>by
  rcases st.1 with⟨_,z⟩ | ⟨_,z⟩
  ·exact jcr z hQ
  ·exact jcr z hQ
theorem j0i {Q:Af->Aj->Prop} (hs:SetTb w s.heap a es ep t) (h64:es.size < 64)
  (h:∀(h':Heap) (dr:Drawn) (I:Addr) (vs:List (Int×Af)),vs.Perm es.toList->(∀b o,s.heap.get? b=some o->h'.get? b=some o)->SetWk prog w s.heap.objs.size h' a I vs->Q (.ref I) {s with heap:=h',drawn:=dr}) :
  A3 (A9 prog w) A (pyIter (.ref a)) Q E s:=by
 obtain⟨oa,hoa,hex,hda⟩:=hs.obj;have hlt:=hs.lt;refine wpAny_pyIter_slot hs.typeIs F.slot_set_iter (B4 F.slot_set_iter hs.typeIs jji ?_ (F.args_set_iter_1 _));refine Aa (Ai ?_);refine Aa (Aa (Dr hoa hda hs.fits (Ai ?_)));refine Aa ?_;unfold setDrawn;refine Aa (E1 hoa hda hs.fits ?_);dsimp only;refine Aa (jlu ?_);refine Ai ?_
 split
 ·rename_i hd;refine Aa (jsy es.size (Bs es.size) s (by simp) λys dr hp=>?_);have hly:ys.length=es.size:=by rw[hp.length_eq,Et]
  refine Aa (wpAny_newTuple ?_ (by rw[Ab,hly,Ea];omega));have hoa1:=Ad ({cls:=.type "tuple",data:=.seq (ys.map λ(i:Nat)=>Ci i).toArray}:Obj) hoa;refine Aa (wpAny_setEpoch_of hoa1 hda hs.fits ?_);refine Aa (By (Ai ⟨_,rfl,"set_iterator",_,⟨_,Au _ rfl,rfl⟩,slot_setit_next.lookup,?_⟩));have hT:(s.heap.push ({cls:=.type "tuple",data:=.seq (ys.map λ(i:Nat)=>Ci i).toArray}:Obj)).get? s.heap.objs.size=some {cls:=.type "tuple",data:=.seq (ys.map λ(i:Nat)=>Ci i).toArray}:=Au _ rfl;refine h _ dr _ (ys.map λj=>es.getD j (0,Bh)) (jr1 hp rfl) (λb o e=>Ad _ (Ad _ e)) ⟨by rw[Bx];exact Nat.le_succ _,[_,a,s.heap.objs.size],_,λb hb=>?_,λb hb=>?_,λA hh=>jz9 (t:=t) (ep:=ep) (T:=s.heap.objs.size) (by rw[Bx];exact Bb (D2 hlt)) (by rw[Bx];exact Bb (Gh _)) hp rfl A hh,⟨⟨_,Au _ rfl,rfl,rfl⟩,hs.move λo e=>Ad _ (Ad _ e),⟨_,Ad _ hT,rfl,_,rfl⟩⟩⟩
  ·simp only[Ao,Aw,or_false]at hb;rcases hb with rfl | rfl | rfl
   ·rw[Bx];exact .inr (Nat.le_succ _)
   ·exact .inl rfl
   ·exact .inr (Al _)
  ·simp only[Ao,Aw,or_false]at hb;rw[Bx,Bx];rcases hb with rfl | rfl | rfl
   ·rw[Bx];exact Gh _
   ·exact D2 (D2 hlt)
   ·exact D2 (Gh _)
 ·rename_i hd;refine Aa (Ai ?_);refine Aa (wpAny_setEpoch_of hoa hda hs.fits ?_);refine Aa (By (Ai ⟨_,rfl,"set_iterator",_,⟨_,Au _ rfl,rfl⟩,slot_setit_next.lookup,?_⟩));have hit:SetIt (s.heap.push {cls:=.type "set_iterator",data:=.fields #[Ci 0,Ci 0,.ref a,Ci es.size,Ci ep]}) s.heap.objs.size (.int 0 0) 0 a es.size ep:=⟨_,Au _ rfl,rfl,rfl⟩;have hst:SetTb w (s.heap.push {cls:=.type "set_iterator",data:=.fields #[Ci 0,Ci 0,.ref a,Ci es.size,Ci ep]}) a es ep t:=hs.move λo e=>Ad _ e;have kp:∀b o,s.heap.get? b=some o->(s.heap.push {cls:=.type "set_iterator",data:=.fields #[Ci 0,Ci 0,.ref a,Ci es.size,Ci ep]}).get? b=some o:=λb o e=>Ad _ e;have f1:∀b∈[s.heap.objs.size,a],b=a\/s.heap.objs.size<=b:=λb hb=>by
   simp only[Ao,Aw,or_false]at hb;rcases hb with rfl | rfl
   ·exact .inr (Al _)
   ·exact .inl rfl
  have f2:∀b∈[s.heap.objs.size,a],b < (s.heap.push {cls:=.type "set_iterator",data:=.fields #[Ci 0,Ci 0,.ref a,Ci es.size,Ci ep]}).objs.size:=λb hb=>by
   simp only[Ao,Aw,or_false]at hb;rw[Bx];rcases hb with rfl | rfl
   ·exact Gh _
   ·exact D2 hlt
  have hne:a≠s.heap.objs.size:=Bb hlt;cases hb:byTx w with
  |true=>exact h _ s.drawn _ (jhf w a ep es).toList (jrj _ _) kp ⟨Al _,[s.heap.objs.size,a],_,f1,f2,λA hh=>j0a (t:=t) hb hne rfl A hh,⟨hit,hst⟩⟩
  |false =>
   have hd0:¬((!byTx w&&(!t.plain&&decide (es.size > 1)))=true):=hd;have hd':(!byTx w&&(!t.plain&&decide (es.size > 1)))=false:=by simpa using hd0
   have h1:es.size<=1:=by
    rw[hb]at hd';by_cases hz:es.size<=1
    ·exact hz
    ·have hg:decide (es.size > 1)=true:=decide_eq_true (by omega);rw[hg]at hd';have hpl:t.plain=true:=by simpa using hd'
     have:=hs.plain hpl;omega
   by_cases h0:es.size=0
   ·have e0:es.toList=[]:=Gj (by simpa using h0);refine h _ s.drawn _ [] (by rw[e0]) kp ⟨Al _,[s.heap.objs.size,a],_,f1,f2,λA hh=>j0c (t:=t) (ep:=ep) hb h0 A hh,⟨?_,hst⟩⟩;rw[h0]at hit ⊢;exact hit
   ·have h1':es.size=1:=by omega
    obtain⟨x,hx⟩:∃x,es=#[x]:=by
     have:es.toList.length=1:=by simpa using h1'
     obtain⟨x,hx⟩:=List.length_eq_one_iff.mp this;exact⟨x,Gc.mp hx⟩
    have hps:t.place.size=1:=by
     have:=hs.fits;simp only[SetTable.fits,Cn,beq_iff_eq]at this;rw[this.1,h1']
    obtain⟨j,hj⟩:∃j,t.place=#[j]:=by
     have:t.place.toList.length=1:=by simpa using hps
     obtain⟨x,hx⟩:=List.length_eq_one_iff.mp this;exact⟨x,Gc.mp hx⟩
    refine h _ s.drawn _ [x] (by rw[hx]) kp ⟨Al _,[s.heap.objs.size,a],_,f1,f2,λA hh=>j0b (t:=t) (ep:=ep) hb hne hx hj A hh,⟨.inl ⟨rfl,?_⟩,hst⟩⟩;rw[h1']at hit ⊢;exact hit
end
theorem jmo:entryFor table "proto.collect"=some Dn.«proto.collect»:=Gn (by kernel_rfl)
theorem jr0:entryFor table "list.__iadd__"=some Dn.«list.__iadd__»:=Gn (by kernel_rfl)
section
variable {prog:Bg} {w:Bt} {A:B6} {E:Af->Aj->Prop} {s:Aj} {a:Addr} {ep:Nat} {es:Array (Int×Af)} {t:Eo}
theorem j0j {Q:Bool->Aj->Prop} (hT:s.TypeIs (.ref a) "set") (h:Q false s):A3 (A9 prog w) A (Builtin.List.listLengthHint (.ref a)) Q E s:=by
 unfold Builtin.List.listLengthHint;refine Aa (wpAny_specialOf hT F.slot_set_len.lookup ?_);generalize hid:("set.__len__":String)=id0
 wp_delta
 rw[show splitId id0=some ("set","__len__")from by subst hid;decide +kernel];subst hid;refine Aa (Fj (T:="set") (b:=true) hT (by rw[Fg];kernel_rfl) ?_);refine wpAny_ite_split (λhab=>absurd hab (by decide)) (λ_=>?_);refine wpAny_ite_split (λ_=>?_) (λhab=>absurd (by decide +kernel) hab);refine Aa (Gf hT ?_);exact Ai h
theorem jsx {R:Result->Aj->Prop} (hh:A.handled=none) (hs:SetTb w s.heap a es ep t) (h64:es.size < 64) (S:Addr) (hSa:S≠a) (res:Af) (hS:s.heap.get? S=some {cls:=.type "list",data:=.seq #[]})
  (hR:∀h' tk dr (vs:List (Int×Af)) acc c,vs.Perm es.toList->(∀b o,b≠S->s.heap.get? b=some o->h'.get? b=some o)->h'.get? S=some {cls:=.type "list",dict:=none,data:=.seq acc c,slots:=#[]}->ItemsOf (jow vs) acc vs.length->R (.ok (.ret res)) {s with heap:=h',toks:=tk,drawn:=dr}) :
  A3 (A9 prog w) A.in1 (Fx (.ref S) (.ref a) res)
   (λfin s'=>match fin with | .done f=>R (.ok f) s' | .again c'=>c'.quiet=true/\Ft (A9 prog w) A c' R s') (λe s'=>R (.error e) s') s:=by
 unfold Fx;refine Aa (Gf (T:="set") hs.typeIs ?_);have h1:Builtin.List.listSameRef (.ref S) (.ref a)=false:=by simp[Builtin.List.listSameRef,hSa]
 have h2:(Eh "set"==Eh "list")=false:=by decide
 have h3:(Eh "set"==Eh "tuple")=false:=by decide
 simp only[h1,h2,h3,Bool.or_false,Cq,if_false];refine Aa (j0i (A:=A.in1) hs h64 λh' dr I vs hp hk hw=>?_);obtain⟨hI,fp,St,hf1,hf2,W,st⟩:=hw;have hSlt:S < s.heap.objs.size:=Ap hS;have hSf:S∉fp:=λhm=>(hf1 S hm).elim hSa λz=>Er _ (Bk hSlt z);have hS1:=hk S _ hS;have hlen:vs.length=es.size:=by rw[hp.length_eq,Cy]
 have key:∀(h:Heap) (c₁ tk:Nat),St 0 h->(∀b o,b≠S->s.heap.get? b=some o->h.get? b=some o) ->
   h.get? S=some {cls:=.type "list",data:=.seq #[] c₁}->Ft (A9 prog w) A (.builtin "list.extend.loop" ⟨[.ref S,.ref I,res],[]⟩) R {s with heap:=h,toks:=tk,drawn:=dr}:=by
  intro h c₁ tk hst hk2 hS₁;refine codeAny_extend_loopS (W A.in1 hh).toS (by rw[hlen,Ea];omega) S hSf res vs.length 0 _ #[] c₁ rfl (Bj _) hst hS₁ (ItemsOf.nil _) λs' acc' c' hm hS' hacc=>?_;rw[Moved.eq_with hm];refine hR s'.heap s'.toks dr vs acc' c' hp (λb o hb e=>hm.heap b o (λhmem=>?_) (hk2 b o hb e)) hS' hacc;rcases Ao.mp hmem with e' | hmem
  ·exact hb e'
  ·have hbI:=Be.mp hmem;exact absurd (Ap e) (by rw[hbI];exact Nat.not_lt.mpr hI)
 refine Aa (Cw (j0j (s:={ s with heap:=h',drawn:=dr}) (hs.move λo e=>hk a o e).typeIs ?_));refine wpAny_ite_split (λ_=>?_) (λ_=>Ai ⟨Fq PySem.F.plain_extend_loop _,key _ 0 _ st (λb o _ e=>hk b o e) hS1⟩);refine Aa (Ff ?_);refine Aa ?_;show A3 _ _ (updateSeq S (·.push .none)>>=λ_=>updateSeq S (·.pop)) _ _ _;refine Aa (wpAny_updateSeq hS1 rfl ?_);have hS₂:=Bu (Cr (·.push Bh)) hS1 rfl;refine wpAny_updateSeq (hz:=by seq_fits) hS₂ rfl ?_;have hS₃:=Bu (Cr (·.pop)) hS₂ rfl;refine Ai ⟨Fq PySem.F.plain_extend_loop _,key _ _ _ ?_ (λb o hb e=>?_) hS₃⟩
 ·refine(W A hh).frame 0 _ _ st λb hb o e=>?_;have hbS:b≠S:=λh=>hSf (h▸hb);exact(Dm _ _ (Ne.symm hbS)).trans ((Dm _ _ (Ne.symm hbS)).trans e)
 ·exact(Dm _ _ (Ne.symm hb)).trans ((Dm _ _ (Ne.symm hb)).trans (hk b o e))
theorem jq0 {vs:List (Int×Af)} {acc:Array Af} (h:ItemsOf (jow vs) acc vs.length):acc.toList=vs.map (·.2):=by
 apply List.ext_getElem?;intro i;by_cases hi:i < vs.length
 ·have hi2:i < acc.size:=by rw[h.1];exact hi
  obtain⟨e,e1,e2⟩:=h.2 i acc[i] (Dx hi2);rw[A0,e1,Array.getElem?_toList,Dx hi2,e2];rfl
 ·rw[Gb (by rw[Cy,h.1];omega),Gb (by rw[Ab];omega)]
theorem jrk {R:List Af->Aj->Prop} (hh:A.handled=none) (hs:SetTb w s.heap a es ep t) (h64:es.size < 64)
  (h:∀(h':Heap) (tk:Nat) (dr:Drawn) (vs:List (Int×Af)),vs.Perm es.toList->(∀b o,s.heap.get? b=some o->h'.get? b=some o)->R (vs.map (·.2)) {s with heap:=h',toks:=tk,drawn:=dr}) :
  A3 (A9 prog w) A (collect (.ref a)) R E s:=by
 unfold collect;refine Aa (wpAny_runValue (D8 jmo ?_));rw[Dh PySem.F.plain_proto_collect _];show A3 _ A.in1 (newList []>>=λl=>again (.builtin "list.__iadd__" ⟨[l,.ref a],[]⟩)) _ _ s;refine Aa (By ?_);refine Ai ⟨Fq PySem.F.plain_list_iadd _,D8 jr0 ?_⟩;rw[Dh PySem.F.plain_list_iadd _];have hS₁:(s.heap.push {cls:=.type "list",data:=.seq ([]:List Af).toArray}).get? s.heap.objs.size=some {cls:=.type "list",data:=.seq #[]}:=Au _ rfl;show A3 _ A.in1 (Fx (.ref s.heap.objs.size) (.ref a) (.ref s.heap.objs.size)) _ _ _;have key:=jsx (prog:=prog) (A:=A) (s:={ s with heap:=s.heap.push {cls:=.type "list",data:=.seq ([]:List Af).toArray}})
  (R:=λ(q:Result) (s':Aj)=>∃(h':Heap) (tk:Nat) (dr:Drawn) (vs:List (Int×Af)) (acc':Array Af) (c':Nat),q=.ok (.ret (.ref s.heap.objs.size))/\s'={ s with heap:=h',toks:=tk,drawn:=dr}/\vs.Perm es.toList /\
   (∀b o,s.heap.get? b=some o->h'.get? b=some o)/\h'.get? s.heap.objs.size=some {cls:=.type "list",dict:=none,data:=.seq acc' c',slots:=#[]}/\ItemsOf (jow vs) acc' vs.length)
  hh (hs.move λo e=>Ad _ e) h64 s.heap.objs.size (Dq hs.lt) (.ref s.heap.objs.size) hS₁
  (λh' tk dr vs acc' c' hp hk hS' hacc=>⟨h',tk,dr,vs,acc',c',rfl,rfl,hp,λb o e=>hk b o (Bb (Ap e)) (Ad _ e),hS',hacc⟩)
 refine C8 key (λfin s' x=>?_) λe s' x=>?_
 ·cases fin with
  |done f =>
   obtain⟨h',tk,dr,vs,acc',c',e,rfl,hp,hk,hS',hacc⟩:=x;cases e;show A3 _ A (load s.heap.objs.size>>=_) _ _ _;refine Aa (wpAny_load hS' ?_);refine Ai ?_;rw[jq0 hacc];exact h h' tk dr vs hp hk
  |again c₁ =>
   refine⟨x.1,codeAny_mono x.2 λq s₂ y=>?_⟩;obtain⟨h',tk,dr,vs,acc',c',rfl,rfl,hp,hk,hS',hacc⟩:=y;show A3 _ A (load s.heap.objs.size>>=_) _ _ _;refine Aa (wpAny_load hS' ?_);refine Ai ?_;rw[jq0 hacc];exact h h' tk dr vs hp hk
 ·obtain⟨_,_,_,_,_,_,z,_⟩:=x;cases z
end
def set0 (w:Bt):Obj:={ cls:=.type "set",dict:=none,data:=.set #[] 0 (.fresh 0 0 (!byTx w))}
section
variable {prog:Bg} {w:Bt} {A:B6} {E:Af->Aj->Prop} {s:Aj}
theorem j0x {h:Heap} {a:Addr} (e:h.get? a=some (set0 w)):jjy w h a [] :=
 ⟨#[],0,.fresh 0 0 (!byTx w),⟨⟨_,e,⟨rfl,rfl,rfl⟩,rfl⟩,rfl,rfl,λ_=>rfl⟩,λe he=>by simp at he,List.Pairwise.nil,λk=>by simp[ksOf],Al _⟩
theorem j28 (a:Af) {Q₁:Af->Aj->Prop} (h:Q₁ (.ref s.heap.objs.size) {s with heap:=s.heap.push (set0 w)}) :
  Ft (A9 prog w) A (.call (.builtin "set.__new__") ⟨[.type "set",a],[]⟩) (wants Q₁ E) s:=by
 refine codeAny_of_tree ?_;show A3 _ A.in1 (do checkBuiltinCall "set.__new__" ⟨[.type "set",a],[]⟩;again (.builtin "set.__new__" ⟨[.type "set",a],[]⟩)) _ _ s;refine Aa (wpAny_of_eq (F.newCall_set_1 a) (Ai ⟨Fq F.plain_set_new _,D8 F.entry_set_new ?_⟩));rw[Dh F.plain_set_new _];unfold Dn.«set.__new__» Builtin.Frozenset.newClass;have hsub:=sub_set_self;obtain⟨hp,g,d,tk,os⟩:=s;dsimp only
 wp_walk
 refine wpAny_askSetting (Ai ?_);dsimp only;simp only[newObj];exact Aa (wpAny_alloc (Ai (Ai h)))
structure TxSrc (prog:Bg) (w:Bt) (T:String) (x:Addr) (ks:List Str) (OK:Heap->Prop):Prop where
 type:∀s:Aj,OK s.heap->s.TypeIs (.ref x) T
 there:∀h:Heap,OK h->x < h.objs.size
 keep:∀h h':Heap,OK h->(∀o,h.get? x=some o->h'.get? x=some o)->OK h'
 notSet:isSubtype (.type T) (.type "set")=pure false
 notFrozen:isSubtype (.type T) (.type "frozenset")=pure false
 notDict:(Eh T==Eh "dict")=false
 iter:∀s:Aj,OK s.heap->∃(oI:Obj) (St:Nat->Heap->Prop),
  (∀(A:B6) (E:Af->Aj->Prop) (Q:Af->Aj->Prop),Q (.ref s.heap.objs.size) {s with heap:=s.heap.push oI}->A3 (A9 prog w) A (pyIter (.ref x)) Q E s) /\
  (∀A:B6,A.handled=none->Walks prog w A s.heap.objs.size [s.heap.objs.size,x] [s.heap.objs.size] ks.length (SeqV ks) St)/\St 0 (s.heap.push oI)
set_option maxHeartbeats 3200000 in
theorem jom {T:String} {x:Addr} {ks:List Str} {OK:Heap->Prop} {Q:Af->Aj->Prop} (K:TxSrc prog w T x ks OK) (hh:A.handled=none) (hok:OK s.heap) (h64:ks.length < 64)
  (h:∀(h':Heap) (tk:Nat),jjy w h' s.heap.objs.size ks->(∀b o,b < s.heap.objs.size->s.heap.get? b=some o->h'.get? b=some o)->Q (.ref s.heap.objs.size) {s with heap:=h',toks:=tk}) :
  A3 (A9 prog w) A (call (.type "set") [.ref x]) Q E s:=by
 obtain⟨c,tl,hmro⟩:=F.called_set.mro;have hmade:=F.called_set.made;have hsub:=F.called_set.sub;refine wpAny_call (codeAny_of_tree ?_);show A3 _ _ (callAny (.type "set") _) _ _ _;refine Ai ⟨Code.quiet_builtin _ (by decide +kernel),D8 F.entry_type_call ?_⟩;rw[Around.under_plain (weight_type_call_type "set" [.ref x] []) rfl];have h1:=F.called_set.notType;have h2:=F.called_set.canCreate;have hct:=F.typeCall_set_1 (.ref x)
 repeat (any_goals (first | assumption | wp_step))
 refine codeAny_mono (j28 (.ref x) (E:=E) (Q₁:=λobj s₁=>obj=.ref s.heap.objs.size/\s₁={ s with heap:=s.heap.push (set0 w)}) ⟨rfl,rfl⟩) λr s₁ hr=>?_;cases r with
 |error e=>exact hr
 |ok fl =>
  cases fl with
  |ret obj =>
   obtain⟨rfl,rfl⟩:=hr;have hS:(s.heap.push (set0 w)).get? s.heap.objs.size=some (set0 w):=Au _ rfl;have hT:Shared.TypeIs {s with heap:=s.heap.push (set0 w)} (.ref s.heap.objs.size) "set":=⟨_,hS,rfl⟩;have hli:=F.called_set.init.lookup;have hbi:=F.called_set.init.bind (.ref s.heap.objs.size)
   repeat (any_goals (first | assumption | wp_step))
   refine codeAny_mono (codeAny_call_builtin (R:=wants (λr s₂=>r=.none/\∃h' tk,s₂={ s with heap:=h',toks:=tk}/\jjy w h' s.heap.objs.size ks /\
     (∀b o,b < s.heap.objs.size->s.heap.get? b=some o->h'.get? b=some o)) E) F.called_set.init.plain F.entry_set_init (check_set_init_1 hT ?_)) λr₂ s₂ hr₂=>?_
   ·have hok1:OK (s.heap.push (set0 w)):=K.keep _ _ hok λo e=>Ad _ e;have hTx:Shared.TypeIs {s with heap:=s.heap.push (set0 w)} (.ref x) T:=K.type {s with heap:=s.heap.push (set0 w)} hok1;have hsls:=K.notSet;have hslf:=K.notFrozen;have hne:=K.notDict;unfold Dn.«set.__init__» noKeywords Builtin.Frozenset.updateFrom;generalize hPI:pyIter=PI
    wp_walk
    subst hPI;have hh3:A.in1.in1.in1.handled=none:=by simp[hh]
    obtain⟨oI,St,hit,W,st⟩:=K.iter {s with heap:=s.heap.push (set0 w)} hok1;refine hit _ _ _ ?_;refine Aa (wpAny_runValue ?_);have hxS:x < s.heap.objs.size:=K.there _ hok;have hSf:s.heap.objs.size∉[(s.heap.push (set0 w)).objs.size,x]:=by
     rw[Bx];simp only[Ao,Be,Aw,or_false,not_or];exact⟨Bb (Gh _),Dq hxS⟩
    refine j0h (W _ hh3).toS s.heap.objs.size hSf rfl h64 (ks.length - 0) 0 _ (by omega) (Bj _) st (j0x (Ad _ hS)) ?_;intro s' hm hS';obtain⟨h',g',d',tk',os'⟩:=s';have eg:g'=s.gens:=hm.gens;have ed:d'=s.drawn:=hm.drawn;have eo:os'=s.os:=hm.os;subst eg;subst ed;subst eo;show A3 _ _ _ _ _ _;refine Ai ?_;show A3 _ _ (ret Bh) _ _ _;refine Ai ⟨rfl,h',tk',rfl,hS',λb o hb e=>?_⟩;have hb1:b≠s.heap.objs.size:=Bb hb;have hb2:b≠(s.heap.push (set0 w)).objs.size:=by
     rw[Bx];exact Bb (D2 hb)
    exact hm.heap b o (by simp only[Ao,Be,Aw,or_false,not_or];exact⟨hb1,hb2⟩) (Ad _ (Ad _ e))
   ·cases r₂ with
    |error e=>exact hr₂
    |ok fl₂ =>
     cases fl₂ with
     |ret r =>
      obtain⟨rfl,h',tk,rfl,hS',hk'⟩:=hr₂
      repeat (any_goals (first | assumption | wp_step))
      exact h _ _ hS' hk'
     |_=>exact hr₂.elim
  |_=>exact hr.elim
theorem jwa {x:Addr} {ks:List Str} {items:Array Af} (hk:∀i v,items[i]?=some v->SeqV ks i v) (hl:items.size=ks.length):TxSrc prog w "list" x ks (λh=>h.IsList x items) where
 type:=λs h=>h.typeIs
 there:=λh hl=>let⟨_,e,_⟩:=hl;Ap e
 keep:=λh h' hl k=>let⟨o,e,r⟩:=hl;⟨o,k o e,r⟩
 notSet:=by rw[Fg];kernel_rfl
 notFrozen:=by rw[Fg];kernel_rfl
 notDict:=by decide
 iter:=λs hok=>⟨_,(λi h=>h.IsListIter s.heap.objs.size x i/\h.IsList x items),(λA E Q hq=>wpAny_pyIter_list hok hq),(λA hh=>by
  have W:=Walks.list (prog:=prog) (w:=w) hh s.heap.objs.size x (Bb (let⟨_,e,_⟩:=hok;Ap e)) items;refine⟨W.sub,W.frame,λi s Q E hi st hQ=>W.item i s Q E (by rw[hl];exact hi) st λv h' tk hv a b=>hQ v h' tk (hk i v hv) a b,?_,W.self⟩;rw[<-hl];exact W.done),⟨⟨_,Au _ rfl,rfl,rfl⟩,hok.push _⟩⟩
theorem js3 {x:Addr} {ks:List Str} {items:Array Af} (hk:∀i v,items[i]?=some v->SeqV ks i v) (hl:items.size=ks.length):TxSrc prog w "tuple" x ks (λh=>h.IsTuple x items) where
 type:=λs h=>h.typeIs
 there:=λh hl=>let⟨_,e,_⟩:=hl;Ap e
 keep:=λh h' hl k=>let⟨o,e,r⟩:=hl;⟨o,k o e,r⟩
 notSet:=by rw[Fg];kernel_rfl
 notFrozen:=by rw[Fg];kernel_rfl
 notDict:=by decide
 iter:=λs hok=>⟨_,(λi h=>h.IsTupleIter s.heap.objs.size x i/\h.IsTuple x items),(λA E Q hq=>C7 hok hq),(λA hh=>by
  have W:=Walks.tuple (prog:=prog) (w:=w) hh s.heap.objs.size x (Bb (let⟨_,e,_⟩:=hok;Ap e)) items;refine⟨W.sub,W.frame,λi s Q E hi st hQ=>W.item i s Q E (by rw[hl];exact hi) st λv h' tk hv a b=>hQ v h' tk (hk i v hv) a b,?_,W.self⟩;rw[<-hl];exact W.done),⟨⟨_,Au _ rfl,rfl,rfl⟩,hok.push _⟩⟩
end
def setO (w:Bt) (v:Addr) (ks:List Str):HO:=.ext λh=>jjy w h v ks
def jtn (w:Bt):List V->Hp->VK->Prop:=λxs H Q=>∃(a:Addr) (ks:List Str),xs=[.ref a]/\(H a=some (.lst (ks.map V.str))\/H a=some (.tup (ks.map V.str)))/\ks.length < 64/\∀v,H v=none->Q (.ref v) (upd H v (setO w v ks))
theorem jte {ks:List Str} {vs:List Af} (h:Vals (ks.map V.str) vs) (i:Nat) (v:Af) (e:vs.toArray[i]?=some v):SeqV ks i v:=by
 have e':vs[i]?=some v:=by simpa using e
 have hl:=h.length;rw[Ab]at hl;have hi:i < ks.length:=by rw[hl];exact(Ay.mp e').1
 obtain⟨u,hu,ru⟩:=h.get (show(ks.map V.str)[i]?=some (V.str ks[i]) by rw[A0,Ag hi];rfl);rw[e']at hu;cases hu;obtain⟨t,ht⟩:=ru;exact⟨ks[i],t,Ag hi,ht⟩
theorem jtc {ks:List Str} {vs:List Af} (h:Vals (ks.map V.str) vs):vs.toArray.size=ks.length:=by
 have hl:=h.length;rw[Ab]at hl;rw[A4,<-hl]
theorem jr5 {X:Cx} (hh:X.A.handled=none):CallR X (.type "set") (jtn X.w):=by
 intro pins s σ H xs us Q I r h;obtain⟨a,ks,rfl,ha,h64,q⟩:=h;obtain⟨u,rfl,ru⟩:=jnb r;cases(show u=A8 a from ru);have fin:∀(h':Heap) (tk:Nat),jjy X.w h' s.heap.objs.size ks->(∀b o,b < s.heap.objs.size->s.heap.get? b=some o->h'.get? b=some o)->EP X pins σ Q (.ref s.heap.objs.size) {s with heap:=h',toks:=tk}:=λh' tk hS hk=>by
  have hob:∃o,h'.get? s.heap.objs.size=some o:=by
   obtain⟨es,ep,t,T,_⟩:=hS;obtain⟨o,e,_⟩:=T.obj;exact⟨o,e⟩
  refine⟨.ref s.heap.objs.size,_,I.laid (t':=tk) (o:=setO X.w s.heap.objs.size ks) (λb o e=>hk b o (Ap e) e) (Al _) ⟨hS,hob,λh1 h2 q k=>?_⟩,rfl,q _ (I.hok.fresh (Al _))⟩;obtain⟨es,ep,t,T,r⟩:=q;exact⟨es,ep,t,T.move λo e=>k _ e,r⟩
 rcases ha with ha | ha
 ·obtain⟨hl,vs,c,hv,hL⟩:=I.hok a _ ha;exact jom (jwa (jte hv) (jtc hv)) hh ⟨_,hL,rfl,_,rfl⟩ h64 fin
 ·obtain⟨hl,vs,hv,o,ho,hc,⟨n,hd⟩,_⟩:=I.hok a _ ha;exact jom (js3 (jte hv) (jtc hv)) hh ⟨o,ho,hc,n,hd⟩ h64 fin
theorem Inv.drew {X:Cx} {pins:List (Addr×Obj)} {σ:St} {H:Hp} {s:Aj} (I:Inv X pins σ H s) (dr:Drawn):Inv X pins σ H {s with drawn:=dr}:=⟨I.ok,I.os,I.bare,I.base,I.loc,I.cell,I.free,I.freeC,I.pin,I.hok,I.len⟩
theorem jrm {X:Cx} {pins:List (Addr×Obj)} {σ:St} {H:Hp} {s:Aj} {h':Heap} {tk:Nat} {vs:List Af} {ks:List Str} {Q:VK} (I:Inv X pins σ H s) (hkp:∀b o,s.heap.get? b=some o->h'.get? b=some o) (hT:TxOk vs ks) (h64:ks.length < 64)
  (q:∀(D:Addr) (ys:List Str),ys.Perm ks->ys.Pairwise (λa b=>¬b.cps.toList < a.cps.toList)->H D=none->Q (.ref D) (upd H D (.lst (ys.map V.str)))) :
  vs.length<=A1/\A3 (A9 X.prog X.w) X.A.in1.in1 (Dn.«list.sort» ⟨[.ref h'.objs.size],[]⟩) (λf s2=>f=.done (.ret .none)/\EP X pins σ Q (.ref h'.objs.size) s2) X.xe {s with heap:=h'.push (Cg "list" vs.toArray 0),toks:=tk}:=by
 have hl:=hT.1;refine⟨by rw[hl];exact jbf (by omega),?_⟩;have hoL:(h'.push (Cg "list" vs.toArray 0)).get? h'.objs.size=some (Cg "list" vs.toArray 0):=Au _ rfl;have hs':∀b o,s.heap.get? b=some o->b≠h'.objs.size:=λb o e=>Bb (Ap (hkp b o e));have fin:∀(idx:List Nat) (h3:Heap) (c:Nat),idx.Perm (Bs ks.length)->(idx.map λi=>ks.getD i ⟨#[]⟩).Pairwise (λa b=>¬b.cps.toList < a.cps.toList) ->
   (∀b o,b≠h'.objs.size->(h'.push (Cg "list" vs.toArray 0)).get? b=some o->h3.get? b=some o)->h3.get? h'.objs.size=some (Cg "list" (C3 (idx.map λi=>vs.getD i Bh)) c)->EP X pins σ Q (.ref h'.objs.size) {s with heap:=h3,toks:=tk}:=λidx h3 c hp hw k3 hL=>by
  have I1:Inv X pins σ H {s with heap:=h',toks:=tk}:=I.kept hkp;have hn:H h'.objs.size=none:=I1.hok.fresh (Al _);refine⟨.ref h'.objs.size,_,I1.laid (t':=tk) (h':=h3) (o:=.lst ((idx.map λi=>ks.getD i ⟨#[]⟩).map V.str)) (λb o e=>k3 b o (Bb (Ap e)) (Ad _ e)) (Al _) ⟨?_,_,c,jnt hT idx (λi hi=>Ck.mp (hp.mem_iff.mp hi)),hL⟩,rfl,q _ _ (jtz hp) hw hn⟩;rw[Ab,Ab,hp.length_eq,Et];exact jbf (by omega)
 by_cases h2:2<=vs.length
 ·refine KS.ls_sort (s:={ s with heap:=h'.push (Cg "list" vs.toArray 0),toks:=tk}) hoL h2 (by omega) λe1 h4 ha4 k4=>?_;refine kas_kind (s:={ s with heap:=h4,toks:=tk}) (T:=Eh "str") h2 (λf hf=>?_) rfl rfl ?_
  ·obtain⟨j,hj⟩:=Cb.mp hf;obtain⟨k,t,_,rfl⟩:=hT.2 j f hj;exact .now
  ·have hn:0 < vs.length:=by omega
   have hwi:=KS.wi_sort hn;refine KS.wp_run (n:=vs.length) (P:=KS.Pm vs.length) (c:=KS.ltK ks) (St:=λs'=>s'={ s with heap:=h4,toks:=tk}) (λi j C s' hi hj hs hC=>?_) _ _ hwi rfl λs' hs'=>?_
   ·subst hs;obtain⟨k1,t1,a1,a2⟩:=hT.2 i vs[i] (Ag hi);obtain⟨k2,t2,b1,b2⟩:=hT.2 j vs[j] (Ag hj);unfold kas_ask;have g1:vs.getD i Bh=.str k1 t1:=by simp[hi,a2]
    have g2:vs.getD j Bh=.str k2 t2:=by simp[hj,b2]
    rw[g1,g2];have c1:ks.getD i ⟨#[]⟩=k1:=by simp[a1]
    have c2:ks.getD j ⟨#[]⟩=k2:=by simp[b1]
    have:=hC _ rfl;unfold KS.ltK at this;rw[c1,c2]at this;exact kas_lt_str this
   ·subst hs';refine⟨ha4,λh3 c sb hL3=>⟨rfl,?_⟩⟩;have hpm:KS.Pm vs.length (KS.run (KS.ltK ks) (kas_sort vs.length)):=KS.Wi.out _ hwi;have hsp:=KS.sort_ok (KS.ordK ks) (n:=vs.length) hn;have hsz:=hpm.size;have hidx:(KS.run (KS.ltK ks) (kas_sort vs.length)).toList.Perm (Bs vs.length):=by
     have:=Array.perm_iff_toList_perm.mp hpm;simpa using this
    refine fin _ h3 c (by rw[<-hl];exact hidx) (j33 hsz hsp) (λb o hb e=>(sb.2 b hb).trans (k4 b o hb e)) hL3
 ·refine KS.ls_short (s:={ s with heap:=h'.push (Cg "list" vs.toArray 0),toks:=tk}) hoL (by omega) λh4 c ha4 k4=>⟨rfl,?_⟩;have el:vs=(Bs ks.length).map λi=>vs.getD i Bh:=by
   apply Ge (by simp[hl]);intro i h1 h2;simp[h1]
  have ha5:h4.get? h'.objs.size=some (Cg "list" (C3 ((Bs ks.length).map λi=>vs.getD i Bh)) c):=by rw[<-el];exact ha4
  refine fin (Bs ks.length) h4 c (List.Perm.refl _) ?_ k4 ha5;have:(Bs ks.length).length<=1:=by simp;omega
  match hr:Bs ks.length,this with
  |[],_=>exact .nil
  |[i],_=>exact Gy _ _
def jlz (w:Bt):List V->Hp->VK->Prop:=λxs H Q=>∃(v:Addr) (ks:List Str),xs=[.ref v]/\H v=some (setO w v ks)/\ks.length < 64 /\
 ∀(D:Addr) (ys:List Str),ys.Nodup->(∀k,k∈ys↔k∈ks)->ys.Pairwise (λa b=>¬b.cps.toList < a.cps.toList)->H D=none->Q (.ref D) (upd H D (.lst (ys.map V.str)))
theorem j0f {w:Bt} {es vs:List (Int×Af)} (h:∀e∈es,∃k t,e.2=.str k t/\e.1=hashStr w k) (p:vs.Perm es):TxOk (vs.map (·.2)) (vs.map λe=>txOf e.2):=by
 refine⟨by rw[Ab,Ab],λj v hj=>?_⟩;rw[A0]at hj;cases e:vs[j]? with
 |none=>rw[e]at hj;cases hj
 |some x =>
  rw[e]at hj;obtain⟨k,t,e1,_⟩:=h x (p.mem_iff.mp (A6 e));have hv:x.2=v:=Aq hj;refine⟨k,t,?_,hv▸e1⟩;rw[A0,e];show some (txOf x.2)=some k;rw[e1];rfl
theorem jol {X:Cx} (hh:X.A.handled=none):CallR X (.builtin "sorted") (jlz X.w):=by
 intro pins s σ H xs us Q I r h;obtain⟨v,ks,rfl,hv,h64,q⟩:=h;obtain⟨u,rfl,ru⟩:=jnb r;cases(show u=A8 v from ru);obtain⟨es,ep,t,T,hx,nd,hm,hl⟩:=(I.hok v _ hv).1;have h64':es.size < 64:=Nat.lt_of_le_of_lt hl h64;refine KS.sorted_of (R:=λvs s1=>∃(h':Heap) (tk:Nat) (dr:Drawn) (ys:List Str),s1={ s with heap:=h',toks:=tk,drawn:=dr}/\(∀b o,s.heap.get? b=some o->h'.get? b=some o)/\TxOk vs ys/\ys.Nodup/\(∀k,k∈ys↔k∈ks)/\ys.length < 64)
  (jrk hh T h64' λh' tk dr vs hp hk=>?_) ?_
 ·have pk:(vs.map λe=>txOf e.2).Perm (ksOf es):=List.Perm.map (λe:Int×Af=>txOf e.2) hp;exact⟨h',tk,dr,vs.map λe=>txOf e.2,rfl,hk,j0f hx hp,pk.nodup_iff.mpr nd,λk=>pk.mem_iff.trans (hm k),by rw[Ab,hp.length_eq,Cy];exact h64'⟩
 rintro vs s1 ⟨h',tk,dr,ys,rfl,hkp,hT,nd',hm',h64'⟩
 exact jrm (s:={ s with drawn:=dr}) (I.drew dr) hkp hT h64' λD zs hp hw hD=>q D zs (hp.nodup_iff.mpr nd') (λk=>hp.mem_iff.trans (hm' k)) hw hD
end L2
namespace DL
open PySem L2 Nb
section
variable {X:Cx} {o:Expr} {td:TE} {wd':DT} {pos p p2 ip:Pos} {W:Bt}
def upT (ys:List Str):Prop:=ys.Pairwise λa b=>¬b.cps.toList < a.cps.toList
def jmm (w:DT):DTF:=λδ n Q=>w δ n λx n1=>∃ks:List Str,(x=.d (.list (ks.map .str))\/x=.d (.tuple (ks.map .str)))/\ks.length < 64/\(∀k∈ks,k.length<=1000) /\
 ∀ys:List Str,ys.Nodup->(∀k,k∈ys↔k∈ks)->upT ys->Q (ys.map .str) n1
theorem jzn {α:Type}:∀{xs ys:List α},xs.Nodup->(∀x∈xs,x∈ys)->xs.length<=ys.length
 |[],_,_,_=>Bj _
 |x::xs,ys,nd,h=>by
  obtain⟨h1,h2⟩:=Dz.mp nd;obtain⟨l,r,e⟩:=List.append_of_mem (h x A2);have:=jzn (ys:=l++r) h2 λz hz=>by
   have hm:=h z (As _ hz);rw[e]at hm;rcases A7.mp hm with q | q
   ·exact D1 _ q
   ·rcases Ao.mp q with q | q
    ·exact absurd (q▸hz) h1
    ·exact Bf _ q
  rw[e];simp only[Ax,An]at this ⊢;omega
theorem jfx {H:Hp} {B:Addr->Prop}:∀{xs:List V} {ks:List Str},RdXs H B xs (ks.map .str)->xs=ks.map V.str
 |[],[],_=>rfl
 |_::_,[],h=>nomatch h
 |[],_::_,h=>nomatch h
 |x::xs,k::ks,.cons h t=>by
  cases h;rw[jfx t];rfl
theorem ju1 (hh:X.A.handled=none) (hg:Gl X "sorted") (hm:X.mg "sorted"=none) (hg2:Gl X "set") (hm2:X.mg "set"=none) (ho:DE X o td wd') (hW:X.w=W:=by rfl) (hv:B7 "sorted"=some (.builtin "sorted"):=by decide +kernel) (hv2:B7 "set"=some (.type "set"):=by decide +kernel)
  (he2:Az [o] X.env=(false,eval o X.env)::Az [] X.env:=by rfl) (hpl2:(Dd ip (Az [] X.env)).any (·.1)=false:=by rfl)
  (he':Az [Expr.Call (.Name "set" p2) [o] [] ip] X.env=(false,eval (Expr.Call (.Name "set" p2) [o] [] ip) X.env)::Az [] X.env:=by rfl) (hpl:(Dd pos (Az [] X.env)).any (·.1)=false:=by rfl) :
  DF X (.Call (.Name "sorted" p) [.Call (.Name "set" p2) [o] [] ip] [] pos) (tCB (jlz W) (jcv (tCB (jtn W) (jcv td tNil)) tNil)) (jmm wd'):=by
 subst hW;refine⟨jdd (jol hh) hg hm hv (ja0 (jgd (jr5 hh) hg2 hm2 hv2 (ja0 ho.pe jb0 he2) (by decide) (by decide) he2 hpl2) jb0 he') (by decide) (by decide) he' hpl,λC H B σ δ n Q Q' R q k =>
  ho.sd C H B σ δ n _ _ R q λv x H1 n1 R1 k1 r1 q1=>?_⟩
 obtain⟨ks,hx,h64,hk,kq⟩:=q1;have key:∀a:Addr,v=.ref a->(H1 a=some (.lst (ks.map V.str))\/H1 a=some (.tup (ks.map V.str)))->tCB (jlz X.w) (jcv (λσ H Q=>jtn X.w [v] H Q) tNil) σ H1 Q':=λa ea ha=>by
  subst ea;refine⟨a,ks,rfl,ha,h64,λu hu=>⟨u,ks,rfl,jap,h64,λD ys nd hm hw hD=>?_⟩⟩;have R2:=R1.new (o:=setO X.w u ks) hu;have hD1:H1 D=none:=by
   cases e:H1 D with
   |none=>rfl
   |some ob =>
    have:upd H1 u (setO X.w u ks) D=some ob:=by rw[jao (jaj e hu)];exact e
    rw[hD]at this;cases this
  have hy:∀y∈ys,y.length<=1000:=λy hy=>hk y ((hm y).mp hy);refine k D _ _ _ n1 (R2.new hD) ((k1.trans (Kp.new hu)).trans (Kp.new hD)) (R1.was k1 hD1) jap ?_ (jly hy) (kq ys nd hm hw);rw[Ab];have:ys.length<=ks.length:=jzn nd λy hy=>(hm y).mp hy;exact jbf (by omega)
 rcases hx with rfl | rfl
 ·cases(show RdX H1 B v (.list (ks.map .str))from r1)with
  |@lst a xs _ e1 e2 e3 e4=>exact key a rfl (.inl (by rw[e1,jfx e4]))
 ·cases(show RdX H1 B v (.tuple (ks.map .str))from r1)with
  |@tup a xs _ e1 e2 e3 e4=>exact key a rfl (.inr (by rw[e1,jfx e4]))
variable {a:Expr} {ta:TE} {wa:DT} {K:Ah}
end
section
variable {X:Cx} {a b c e o i f:Expr} {ta tb te td ty tx:TE} {wa wb we wd' wy wx:DT} {pos p:Pos} {K:Ah}
def jgq (i:Nat):DT:=λδ n Q=>match δ[i]? with
 |some (some (.own ds))=>Q (.ln ds) n
 |some (some (.w x))=>Q x n
 |_=>False
theorem joh (i:Nat) {x:Str} {p:Pos} (hN:X.N[i]?=some x:=by rfl) (hv:Vis X.env.scope x:=by first | exact Ar rfl | exact Bz (Ar rfl) | exact Bz (Bz rfl)) (hd:(x==("__debug__":Str))=false:=by decide)
  (hcd:(x==("__classdict__":Str))=false:=by decide):DE X (.Name x p) (tVar i) (jgq i):=⟨jdq hN hv hd hcd,λC H B σ δ n Q Q' R h k=>by
 unfold jgq at h
 split at h
 ·rename_i ds e;obtain⟨v,h1,a,xs,rfl,g2,g3,g4,g5,g6⟩:=R.sl i _ e;exact⟨_,h1,k _ (.ln ds) H n R (Kp.refl _ _) ⟨a,xs,rfl,g2,λz=>R.t0 (z▸g4),g5,g6⟩ h⟩
 ·rename_i x e;obtain⟨v,h1,h2⟩:=R.sl i _ e;exact⟨v,h1,k v x H n R (Kp.refl _ _) h2.1 h⟩
 ·exact h.elim⟩
def gIxL:Wv->Wv->Int->DQ->Prop:=λx y n Q=>match x with
 |.ln ds=>match y with
  |.d (.int i)=>match atI ds i with
   |some d=>Q (.d d) n
   |none=>False
  |_=>False
 |x=>gIx x y n Q
theorem j0p:SndO (rIx K) gIxL:=λC H B σ δ n x y p q Q Q' R rx ry h1 k=>by
 cases p with
 |ln ds =>
  unfold gIxL at h1;dsimp only at h1
  split at h1
  ·rename_i i
   split at h1
   ·rename_i d e;cases(show RdX H B y (.int i)from ry);obtain⟨ay,ys,rfl,e1,e2,e3,e4⟩:=rx;obtain⟨v,f1,f2⟩:=jvm e4 e;exact .inl ⟨ay,ys,i,v,rfl,rfl,SqL.of e1,f1,k _ _ H n R (Kp.refl _ _) (wd f2) h1⟩
   ·exact h1.elim
  ·exact h1.elim
 |d _=>exact jni C H B σ δ n x y _ q Q Q' R rx ry h1 k
 |tp=>exact jni C H B σ δ n x y _ q Q Q' R rx ry h1 k
 |dk _=>exact jni C H B σ δ n x y _ q Q Q' R rx ry h1 k
 |ob _=>exact jni C H B σ δ n x y _ q Q Q' R rx ry h1 k
theorem jfl (ha:DE X a ta wa) (hb:DE X b tb wb) (hK:X.K=K:=by rfl) (hs:jm5 b:=by exact λ_ _=>rfl):DE X (.Subscript a b pos) (tOp (rIx K) ta tb) (w2 wa wb gIxL):=by
 subst hK;exact⟨jh3 jum ha.pe hb.pe hs,jnh j0p ha.sd hb.sd⟩
def gInL (neg:Bool):Wv->Wv->Int->DQ->Prop:=λx y n Q=>match y with
 |.ln ds=>match x with
  |.d a=>jeu a=true/\ds.all jeu=true/\Q (.d (.bool (if neg then !inD a ds else inD a ds))) n
  |_=>False
 |y=>gIn neg x y n Q
theorem js6 {neg:Bool}:SndO (rIn K neg) (gInL neg):=λC H B σ δ n x y p q Q Q' R rx ry h1 k=>by
 cases q with
 |ln ds =>
  unfold gInL at h1;dsimp only at h1
  split at h1
  ·rename_i da;obtain⟨f1,f2,q⟩:=h1;have rx:RdX H B x da:=rx;obtain⟨ay,ys,rfl,e1,e2,e3,e4⟩:=ry;refine⟨ay,ys,rfl,.inl (SqL.of e1),jg2 rx f1,jd1 e4 f2,?_⟩;rw[jlj rx e4];exact k _ _ H n R (Kp.refl _ _) (wd (.bl _)) q
  ·exact h1.elim
 |d _=>exact jdp C H B σ δ n x y p _ Q Q' R rx ry h1 k
 |tp=>exact jdp C H B σ δ n x y p _ Q Q' R rx ry h1 k
 |dk _=>exact jdp C H B σ δ n x y p _ Q Q' R rx ry h1 k
 |ob _=>exact jdp C H B σ δ n x y p _ Q Q' R rx ry h1 k
def jg1:List Wv->Int->DQ->Prop:=λxs n Q=>match xs with
 |[.ln ds]=>Q (.d (.int ds.length)) n
 |xs=>gLen xs n Q
theorem jdv:SndB (jwq K) jg1:=λC H B σ δ n vs xs Q Q' R r h k=>by
 unfold jg1 at h
 split at h
 ·rename_i ds;cases r with
  |cons r1 r2 =>
   cases r2;obtain⟨ay,ys,rfl,e1,e2,e3,e4⟩:=r1;refine .inr ⟨ay,ys,rfl,.inl (SqL.of e1),?_⟩;rw[e4.len];exact k _ _ H n R (Kp.refl _ _) (wd (.int _)) h
 ·exact jbb C H B σ δ n vs xs Q Q' R r h k
def gEqL:Wv->Wv->Int->DQ->Prop:=λx y n Q=>match x,y with
 |.ln ds,.d (.list [])=>Q (.d (.bool ds.isEmpty)) n
 |x,y=>gEq x y n Q
theorem jdw:SndO (rEqK K) gEqL:=λC H B σ δ n x y p q Q Q' R rx ry h1 k=>by
 unfold gEqL at h1
 split at h1
 ·rename_i ds;obtain⟨ax,xs,rfl,e1,e2,e3,e4⟩:=rx;cases(show RdX H B y (.list [])from ry)with
  |@lst ay ys _ f1 f2 f3 f4 =>
   cases f4;refine .inr (.inr ⟨ax,ay,xs,rfl,rfl,SqL.of e1,SqL.of f1,?_⟩);have:xs.isEmpty=ds.isEmpty:=by cases e4<;>rfl
   rw[this];exact k _ _ H n R (Kp.refl _ _) (wd (.bl _)) h1
 ·exact jbj C H B σ δ n x y p q Q Q' R rx ry h1 k
def lsOf:Wv->Option (List Ae)
 |.ln ds=>some ds
 |.d (.list ds)=>some ds
 |_=>none
def gCat:Wv->Wv->Int->DQ->Prop:=λx y n Q=>match lsOf x,lsOf y with
 |some i,some j=>i.length+j.length<=A1/\Q (.d (.list (i++j))) n
 |_,_=>False
theorem jzq {H:Hp} {B:Addr->Prop} {t:Addr} {v:V} {x:Wv} {ds:List Ae} (h:WRel H B t v x) (e:lsOf x=some ds):∃a xs,v=.ref a/\H a=some (.lst xs)/\xs.length<=A1/\RdXs H B xs ds:=by
 cases x with
 |ln es =>
  cases e;obtain⟨a,xs,h1,h2,h3,h4,h5⟩:=h;exact⟨a,xs,h1,h2,h4,h5⟩
 |d y =>
  cases y with
  |list es =>
   cases e;cases(show RdX H B v (.list ds)from h)with
   |@lst a xs _ e1 e2 e3 e4=>exact⟨a,xs,rfl,e1,e3,e4⟩
  |_=>cases e
 |tp=>cases e
 |dk _=>cases e
 |ob _=>cases e
theorem j0s:SndO rCat gCat:=λC H B σ δ n x y p q Q Q' R rx ry h1 k=>by
 unfold gCat at h1
 split at h1
 ·rename_i i j ei ej;obtain⟨ax,xs,rfl,e1,e3,e4⟩:=jzq rx ei;obtain⟨ay,ys,rfl,f1,f3,f4⟩:=jzq ry ej;obtain⟨hl,q⟩:=h1;have hl':xs.length+ys.length<=A1:=by rw[e4.len,f4.len];exact hl
  refine⟨ax,ay,xs,ys,rfl,rfl,e1,f1,hl',λpn hp=>?_⟩;refine k _ _ _ n (R.new hp) (Kp.new hp) (wd (show RdX _ B _ (.list (i++j))from .lst jap (R.nb hp) (by rw[An];exact hl') ?_)) q;exact((e4.append f4).fresh hp).less λb z=>.inl z
 ·exact h1.elim
theorem j5t (ha:DE X a ta wa) (hb:DE X b tb wb):DE X (.BinOp a .Add b pos) (tOp rCat ta tb) (w2 wa wb gCat):=d_op jzl j0s ha hb
end
section
variable {X:Cx} {a b c e o i f:Expr} {ta tb te td ty tx:TE} {wa wb we wd' wy wx:DT} {pos p:Pos} {K:Ah}
def sUnp (w:DT) (g:DTG):DST:=λδ n K=>w δ n λx n1=>match x with
 |.d d=>g d δ λδ'=>K.nx δ' n1
 |_=>False
theorem j0y {tg:Expr} {g:TG} {gd:DTG} (he:DE X e te we) (hg:DG X tg g gd) (hs:swapsWithSole [tg] e pos.line X.env=pure false:=by rfl) (hw:swappedStores [tg] e X.env=pure none:=by rfl)
  (h1:(Dp [tg] X.env).map (·.2)=[assign tg X.env]:=by rfl):DS X (.Assign [tg] e pos) (tAsg te g) (sUnp we gd):=⟨jns he.pe hg.pg hs hw h1,λC H B σ δ n K D R q E =>
 he.sd C H B σ δ n _ _ R q λv x H1 n1 R1 k1 r1 q1=>by
  cases x with
  |d d=>exact hg.sd C H1 B σ δ n1 v d _ _ R1 r1 q1 λσ' δ' R' q'=>E.nx _ _ _ _ _ R' q'
  |tp=>exact q1.elim
  |dk _=>exact q1.elim
  |ln _=>exact q1.elim
  |ob _=>exact q1.elim⟩
def sqOf:Wv->Option (List Ae)
 |.ln ds=>some ds
 |.d (.list ds)=>some ds
 |.d (.tuple ds)=>some ds
 |_=>none
theorem j3b {H:Hp} {B:Addr->Prop} {t:Addr} {v:V} {x:Wv} {ds:List Ae} (h:WRel H B t v x) (e:sqOf x=some ds):∃a xs,v=.ref a/\(SqL K H a xs\/SqT K H a xs)/\xs.length<=A1/\RdXs H B xs ds:=by
 cases x with
 |ln es =>
  cases e;obtain⟨a,xs,h1,h2,h3,h4,h5⟩:=h;exact⟨a,xs,h1,.inl (SqL.of h2),h4,h5⟩
 |d y =>
  cases y with
  |list es =>
   cases e;cases(show RdX H B v (.list ds)from h)with
   |@lst a xs _ e1 e2 e3 e4=>exact⟨a,xs,rfl,.inl (SqL.of e1),e3,e4⟩
  |tuple es =>
   cases e;cases(show RdX H B v (.tuple ds)from h)with
   |@tup a xs _ e1 e2 e3 e4=>exact⟨a,xs,rfl,.inr (SqT.of e1),e3,e4⟩
  |_=>cases e
 |tp=>cases e
 |dk _=>cases e
 |ob _=>cases e
def jd2 (w:DT):DTF:=λδ n Q=>w δ n λx n1=>match sqOf x with
 |some ds=>Q ds n1
 |none=>False
theorem jml (hg:Gl X "list") (hm:X.mg "list"=none) (ho:DE X o td wd') (hK:X.K=K:=by rfl) (he:Az [o] X.env=(false,eval o X.env)::Az [] X.env:=by rfl) (hpl:(Dd pos (Az [] X.env)).any (·.1)=false:=by rfl) :
  DF X (.Call (.Name "list" p) [o] [] pos) (tCB (jzg K) (jcv td tNil)) (jd2 wd') :=
 ⟨jgd (jr6 hK) hg hm j2k (ja0 ho.pe jb0 he) (by decide) (by decide) he hpl,λC H B σ δ n Q Q' R q k=>ho.sd C H B σ δ n _ _ R q λv x H1 n1 R1 k1 r1 q1=>by
  split at q1
  ·rename_i ds ex;obtain⟨a,xs,rfl,h1,h2,h3⟩:=j3b (K:=K) r1 ex;refine⟨a,xs,rfl,h1,λl hl=>?_⟩;exact k l xs ds _ n1 (R1.new hl) (k1.trans (Kp.new hl)) (R1.was k1 hl) jap h2 (h3.fresh hl) q1
  ·exact q1.elim⟩
def jcu:List Wv->Int->DQ->Prop:=λxs n Q=>match xs with
 |[.ln ds]=>Q (.d (.tuple ds)) n
 |xs=>jdf xs n Q
theorem jcl:SndB (jpe K) jcu:=λC H B σ δ n vs xs Q Q' R r h k=>by
 unfold jcu at h
 split at h
 ·rename_i ds;cases r with
  |cons r1 r2 =>
   cases r2;obtain⟨ay,ys,rfl,e1,e2,e3,e4⟩:=r1;refine⟨ay,ys,rfl,.inl ⟨SqL.of e1,λl hl=>?_⟩⟩;refine k _ _ _ n (R.new hl) (Kp.new hl) (wd (show RdX _ B _ (.tuple ds)from .tup jap (R.nb hl) e3 ?_)) h;exact(e4.fresh hl).less λb z=>.inl z
 ·exact jbx C H B σ δ n vs xs Q Q' R r h k
def sExt (i:Nat) (w:DT):DST:=λδ n K=>match δ[i]? with
 |some (some (.own ds))=>w δ n λx n1=>match x with
  |.d (.list es)=>(ds.length < 1000000/\es.length < 1000000)/\K.nx (δ.set i (some (.own (ds++es)))) n1
  |_=>False
 |_=>False
theorem jq4 {n m:Nat} (h:n < 1000000) (h':m < 1000000):n+m<=A1:=by
 have:2000000<=A1:=by decide
 omega
theorem j6c {i:Nat} {x:Str} {xp ap cp:Pos} (hN:X.N[i]?=some x) (he:DE X e te we) (hv:Vis X.env.scope x:=by first | exact Ar rfl | exact Bz (Ar rfl) | exact Bz (Bz rfl)) (hd:(x==("__debug__":Str))=false:=by decide)
  (hcd:(x==("__classdict__":Str))=false:=by decide)
  (hbase:Fs (.Name x xp) "extend" X.env (eval (.Name x xp) X.env)=eval (.Name x xp) X.env:=by rfl)
  (hfew:((Dd cp (Az [e] X.env)).all (λx=>!x.1)&&(backToKw cp (keywordEach [] X.env)).all (λx=>x.1.isSome)
   && decide ([e].length+([]:List Keyword).length+(if ([]:List Keyword).isEmpty then 0 else 1) < 30))=true:=by rfl)
  (hline:(ap.endLine==cp.line)=true:=by rfl) (hs:Az [e] X.env=[(false,eval e X.env)]:=by rfl) (hplain:(Dd cp (Az [] X.env)).any (·.1)=false:=by rfl)
  (hsw:Dw (.Call (.Attribute (.Name x xp) "extend" ap) [e] [] cp) none pos.line X.env=pure false:=by rfl) :
  DS X (.Expr (.Call (.Attribute (.Name x xp) "extend" ap) [e] [] cp) pos) (jv8 (tBM X.K "list" jtq (tVar i) (jcv te tNil))) (sExt i we) :=
 ⟨jpg (j1h Gx PySem.F.slot_list_extend PySem.F.type_list_extend jub (jdq hN hv hd hcd) (ja0 he.pe jb0 hs) hbase hfew hline hs hplain) hsw,λC H B σ δ n K D R q E=>by
  unfold sExt at q
  split at q
  ·rename_i ds ei;obtain⟨v,hv,a,xs,rfl,e2,e3,e4,e5,e6⟩:=R.sl i _ ei;refine⟨_,hv,.inl ⟨rfl,_,SqL.of e2⟩,he.sd C H B σ δ n _ _ R q λu y H1 n1 R1 k1 r1 q1=>?_⟩
   split at q1
   ·rename_i es;have hat:a≠C.t:=λz=>R.t0 (z▸e4);have e2':=k1 _ _ e2 hat;cases(show RdX H1 B u (.list es)from r1)with
    |@lst b zs _ f1 f2 f3 f4 =>
     have hl:xs.length+zs.length<=A1:=by rw[e6.len,f4.len];exact jq4 q1.1.1 q1.1.2
     refine⟨a,b,xs,zs,rfl,rfl,e2',f1,hl,?_⟩;refine E.nx _ _ _ _ _ (R1.mutOwn ei rfl hv e3 e4 ?_ rfl) q1.2;refine⟨a,xs++zs,rfl,jap,e3,e4,by rw[An];exact hl,?_⟩;refine RdXs.keep (λb o e n=>?_) ((e6.kp k1 R.bt).append f4);rw[jao λ(z:b=a)=>n (z▸e3)];exact e
   ·exact q1.elim
  ·exact q.elim⟩
theorem j2q (H:Hp) (B:Addr->Prop):RdXs H B jyn jm2:=.cons .non (.cons .non (.cons .non (.cons (.int _) (.cons (.int _) (.cons (.int _) (.cons (.int _) .nil))))))
def wTp3 (i:Nat):DT:=λδ n Q=>match δ[i]? with
 |some (some (.w .tp))=>Q (.ln jm2) n
 |_=>False
theorem j5n (i:Nat) {x:Str} {ix:Int} {p p2:Pos} {jj} (hK:X.K=K:=by rfl) (hN:X.N[i]?=some x:=by rfl) (hv:Vis X.env.scope x:=by first | exact Ar rfl | exact Bz (Ar rfl) | exact Bz (Bz rfl)) (hd:(x==("__debug__":Str))=false:=by decide)
  (hcd:(x==("__classdict__":Str))=false:=by decide):DE X (.Subscript (.Name x p) (.Constant (.int 3) jj p2) pos) (tOp (rIx K) (tVar i) (tC (.int 3))) (wTp3 i):=by
 subst hK;refine⟨jh3 jum (jdq hN hv hd hcd) ja7 (λ_ _=>rfl),λC H B σ δ n Q Q' R h k=>?_⟩;unfold wTp3 at h
 split at h
 ·rename_i e;obtain⟨v,h1,h2⟩:=R.sl i _ e;cases(show v=.ref C.t from h2.1);obtain⟨a,b,ho,_⟩:=R.tp.ob;refine⟨_,h1,.inl ⟨C.t,_,3,.ref C.l.g,rfl,rfl,SqL.of ho,jbw (j:=3) rfl,k _ (.ln jm2) H n R (Kp.refl _ _) ⟨C.l.g,jyn,rfl,R.tp.ag rfl,R.tp.gne,by decide,j2q _ _⟩ h⟩⟩
 ·exact h.elim
end
section
variable {X:Cx} {e:Expr} {st:Stmt} {sts:List Stmt}
def sNo:DST:=λ_ _ _=>False
theorem j58:DSs X sts (λ_ _ _=>False) sNo:=⟨λ_ _ _ _ _ _ h=>h.elim,λ_ _ _ _ _ _ _ _ _ h _=>h.elim⟩
end
end DL
namespace L2
open PySem PySem.Spec PyProof.Rows
end L2
namespace DL
open PySem L2 Nb
end DL
namespace HT
open PySem PyProof.Rows
open PySem.SeqAt
open PySem.AutoSeq1 (wpAny_loadPart')
open PySem.MeetsSeq PySem.MeetsSeq2 PySem.MeetsSeq3
section
variable {prog:Bg} {w:Bt} {A:B6} {E:Af->Aj->Prop} {s:Aj}
theorem getItem_tuple_whole {t sl:Addr} {items:Array Af} {vl vu:Af} {lo hi:Option Int} {Q:Af->Aj->Prop} (ht:IsTup s.heap t items) (hs:s.heap.IsSliceOf sl vl vu .none) (pl:IsPart vl lo) (pu:IsPart vu hi)
  (h0:sIx items.size 0 lo=0) (h1:sIx items.size items.size hi=items.size) (h:Q (.ref t) s):A3 (A9 prog w) A (getItem (.ref t) (.ref sl)) Q E s:=by
 obtain⟨os,hos,hcs,hds⟩:=id hs;have hTs:s.TypeIs (.ref sl) "slice":=⟨os,hos,hcs⟩;unfold getItem
 try with_reducible refine Cw ?_
 first | refine Aa (Ai ?_) | skip
 refine Aa (wpAny_sequenceKey ht.typeIs (by decide) ?_);refine Aa (Br (name:=Cv "__getitem__") ht.typeIs Du
  (B4 Du ht.typeIs entry_tuple_getitem ?_ (args_tuple_getitem _ _)))
 show A3 _ _ (Builtin.Tuple.tupleItemsOf (.ref t)>>=_) _ _ s;refine Aa (tupleItemsOf_ ht ?_);refine Aa (Gf hTs ?_);rw[if_pos (by decide)];refine Aa (jd6 hs pl pu ?_);have hyes:(((sIx items.size 0 lo:Nat):Int)==0&&(1:Int)==1&&(sIx items.size items.size hi - sIx items.size 0 lo)==items.size)=true:=by
  rw[h0,h1];simp
 show A3 _ _ (if (((sIx items.size 0 lo:Nat):Int)==0&&(1:Int)==1&&(sIx items.size items.size hi - sIx items.size 0 lo)==items.size)=true then _ else _) _ _ s;rw[if_pos hyes];unfold Builtin.Tuple.tupleIsExact;refine Aa (Aa (Gf ht.typeIs (Ai ?_)));rw[if_pos (by decide)];exact Aa (Ff (Ai ⟨_,rfl,Ai h⟩))
end
end HT
namespace L2
open PySem PySem.Spec PyProof.Rows
def rSlW (K:Ah):V->Option Int->Option Int->Hp->VK->Prop:=λx lo hi H Q=>∃a xs,x=.ref a/\SqT K H a xs/\HT.sIx xs.length 0 lo=0/\HT.sIx xs.length xs.length hi=xs.length/\Q (.ref a) H
theorem jwj {X:Cx}:SlR X (rSlW X.K):=by
 intro pins s σ H x v vl vu lo hi sl Q I rx hs pl pu h;obtain⟨a,xs,rfl,hx,h0,h1,q⟩:=h;cases rx;obtain⟨its,r,ht,hz⟩:=I.tuple hx;have hlen:its.toArray.size=xs.length:=by rw[A4];exact r.length.symm
 refine⟨"tuple",_,PyProof.Rows.slot_tuple_getitem.lookup,ht.typeIs,?_⟩;exact HT.getItem_tuple_whole ht hs pl pu (by rw[hlen];exact h0) (by rw[hlen];exact h1) ⟨.ref a,H,I,rfl,q⟩
end L2
namespace DL
open PySem L2 Nb
section
variable {X:Cx} {e:Expr} {te:TE} {we:DT} {pos p2:Pos} {K:Ah} {lo hi:Option Expr}
abbrev DTO:=Sl->Int->(Option Int->Int->Prop)->Prop
def jdz:DTO:=λ_ n Q=>Q none n
def jdy (w:DT):DTO:=λδ n Q=>w δ n λx n1=>match x with
 |.d (.int i)=>Q (some i) n1
 |_=>False
def j7b (t:TO) (w:DTO):Prop:=∀(C:Ctx) (H:Hp) (B:Addr->Prop) (σ:St) (δ:Sl) (n:Int) (Q:Option Int->Int->Prop) (Q':Option Int->Hp->Prop),Rel C H B σ δ n->w δ n Q ->
 (∀o H' n',Rel C H' B σ δ n'->Kp C.t H H'->Q o n'->Q' o H')->t σ H Q'
structure DOp (X:Cx) (o:Option Expr) (t:TO) (w:DTO):Prop where
 po:PO X o t
 sd:j7b t w
theorem jhu:DOp X none jsp jdz:=⟨jtx,λC H B σ δ n Q Q' R q k=>k none H n R (Kp.refl _ _) q⟩
theorem jht (h:DE X e te we):DOp X (some e) (j21 te) (jdy we):=⟨jtw h.pe,λC H B σ δ n Q Q' R q k=>h.sd C H B σ δ n _ _ R q λv x H1 n1 R1 k1 r1 q1=>by
 split at q1
 ·rename_i i;cases(show RdX H1 B v (.int i)from r1);exact⟨i,rfl,k (some i) H1 n1 R1 k1 q1⟩
 ·exact q1.elim⟩
def cutD (xs:List Ae) (lo hi:Option Int):List Ae:=(xs.drop (HT.sIx xs.length 0 lo)).take (HT.sIx xs.length xs.length hi - HT.sIx xs.length 0 lo)
def jca (w:DT) (l u:DTO):DT:=λδ n Q=>w δ n λx n1=>l δ n1 λa n2=>u δ n2 λb n3=>match x with
 |.d (.tuple ds)=>Q (.d (.tuple (cutD ds a b))) n3
 |_=>False
def rSlA (K:Ah):V->Option Int->Option Int->Hp->VK->Prop:=λx lo hi H Q=>rSlT K x lo hi H Q\/rSlW K x lo hi H Q
theorem jew {tl th:TO} {wl wh:DTO} (he:DE X e te we) (hl:DOp X lo tl wl) (hh:DOp X hi th wh) (hK:X.K=K:=by rfl):DE X (.Subscript e (.Slice lo hi none p2) pos) (tSl (rSlA K) te tl th) (jca we wl wh):=by
 subst hK;refine⟨jqo (sl_tup.or jwj) he.pe hl.po hh.po,λC H B σ δ n Q Q' R q k=>he.sd C H B σ δ n _ _ R q λv x H1 n1 R1 k1 r1 q1 =>
  hl.sd C H1 B σ δ n1 _ _ R1 q1 λa H2 n2 R2 k2 q2=>hh.sd C H2 B σ δ n2 _ _ R2 q2 λb H3 n3 R3 k3 q3=>?_⟩
 split at q3
 ·rename_i ds;have r3:RdX H3 B v (.tuple ds):=(r1.kp k2 R1.bt).kp k3 R2.bt;cases r3 with
  |@tup aa xs _ e1 e2 e3 e4 =>
   have kk:=(k1.trans k2).trans k3;by_cases hw:HT.sIx xs.length 0 a=0/\HT.sIx xs.length xs.length b=xs.length
   ·refine .inr ⟨aa,xs,rfl,SqT.of e1,hw.1,hw.2,k _ _ H3 n3 R3 kk (wd (show RdX H3 B _ (.tuple ds)from .tup e1 e2 e3 e4)) ?_⟩;have:cutD ds a b=ds:=by
     unfold cutD;rw[<-e4.len,hw.1,hw.2,List.drop_zero,Nat.sub_zero,e4.len,List.take_length]
    rw[this]at q3;exact q3
   ·refine .inl ⟨aa,xs,rfl,SqT.of e1,hw,λp hp=>?_⟩;refine k _ _ _ n3 (R3.new hp) (kk.trans (Kp.new hp)) (wd (show RdX _ B _ (.tuple (cutD ds a b))from .tup jap (R3.nb hp) (Ba (jf2 xs a b) e3) ?_)) q3;unfold cutD cutV;rw[<-e4.len];exact(((e4.drop _).take _).fresh hp).less λb z=>.inl z
 ·exact q3.elim
end
end DL
namespace Nb
open PySem L2
end Nb
namespace DL
open PySem L2 Nb
section
variable {X:Cx} {tg a b c e o i f:Expr} {ta tb te td ty tx:TE} {wa wb we wd' wy wx:DT} {pos p:Pos} {K:Ah}
def j7e (i:Nat) (w:DT):DST:=λδ n K=>match δ[i]? with
 |some (some (.own ds))=>w δ n λx n1=>match x with
  |.d (.tuple es)=>(ds.length < 1000000/\es.length < 1000000)/\K.nx (δ.set i (some (.own (ds++es)))) n1
  |_=>False
 |_=>False
def wInG (hs:List Str) (w:DT):DT:=λδ n Q=>w δ n λx n1=>match x with
 |.d a=>jeu a=true/\Q (.d (.bool (inD a (hs.map .str)))) n1
 |_=>False
theorem j0q {q:Addr} {hs:List Str} (hl:∀h∈hs,h.length<=1000) (hq:∀H,SqT K H q (hs.map V.str)) (h:Snd ta wa):Snd (tOp (rIn K false) ta (tC (.ref q))) (wInG hs wa):=λC H B σ δ n Q Q' R z k =>
 h C H B σ δ n _ _ R z λv x H1 n1 R1 k1 r1 q1=>by
  split at q1
  ·rename_i da;have r1:RdX H1 B v da:=r1;have rs:RdXs H1 B (hs.map V.str) (hs.map .str):=jly hl;refine⟨q,_,rfl,.inr (hq H1),jg2 r1 q1.1,jd1 rs ?_,k _ _ H1 n1 R1 k1 (wd (.bl _)) ?_⟩
   ·rw[List.all_map];exact E4.mpr λ_ _=>rfl
   ·rw[jlj r1 rs];exact q1.2
  ·exact q1.elim
theorem j65 {q:Addr} {hs:List Str} {x:Str} {xp:Pos} (ha:DE X a ta wa) (hg:Gl X x) (hm:X.mg x=some (.ref q)) (hq:∀H,SqT K H q (hs.map V.str)) (hl:∀h∈hs,h.length<=1000:=by decide +kernel) (hK:X.K=K:=by rfl) (hd:(x==("__debug__":Str))=false:=by decide)
  (hmk:Co .In (Expr.Name x xp)=false:=by with_unfolding_all rfl):DC X (.Compare a [.In] [.Name x xp] pos) (jo7 (tOp (rIn K false) ta (tC (.ref q)))) (cT (wInG hs wa)) :=
 ⟨jfy (jix hK) ha.pe (jph hg hm rfl hd) hmk,jf9 (j0q hl hq ha.sd)⟩
end
abbrev DSpN:=List Wv->Int->(List Ae->Int->Prop)->Prop
def jrl (S:DSpN):Sp:=λvs H Q _=>∃(t:Addr) (l:TL) (ns:List Int) (B:Addr->Prop) (ws:List Wv) (n:Int) (Q0:List Ae->Int->Prop),Tp H t l ns n/\B t/\(∀b,B b->H b≠none)/\ARel H B t vs ws/\S ws n Q0 /\
 ∀ds n',Q0 ds n'->∀a xs H',Tp H' t l ns n'->Kp t H H'->H a=none->H' a=some (.lst xs)->xs.length<=A1->RdXs H' (λb=>B b\/b=a) xs ds->Q (.ref a) H'
section
variable {X:Cx} {e:Expr} {es:List Expr} {pos p:Pos} {tR:TA} {wR:DTA} {te:TE} {we:DT}
def jgi (S:DSpN) (w:DTA):DTF:=λδ n Q=>w δ n λxs n1=>S xs n1 Q
theorem js9 {S:DSpN} {t:TA} {w:DTA} (h:SndA t w):SndF (jlt (jrl S) [] E0 t) (jgi S w):=λC H B σ δ n Q Q' R q k =>
 h C H B σ δ n _ _ R q λvs xs H1 n1 R1 k1 r1 q1=>by
  refine⟨C.t,C.l,C.ns,B,xs,n1,Q,R1.tp,R1.bt,R1.ba,by rw[B9];exact r1,q1,λds n' q2 a ys H' T' k' h0 h1 h2 h3=>?_⟩;exact k a ys ds H' n' (R1.step T' k') (k1.trans k') (R1.was k1 h0) h1 h2 h3 q2
structure HasN (P:Bg) (w:Bt) (K:Ah) (mg:Str->Option Af) (base:Heap) (k:Nat) (x:Str) (ps:List Str) (S:DSpN):Prop where
 ex:∃(f:Addr) (fd:Cp),FnOk P w K mg base CX0 k f fd ps (jrl S)/\Binds K fd ps []/\mg x=some (.ref f)/\C9 K (.ref f)=true
theorem HasN.mk' {P:Bg} {w:Bt} {K:Ah} {mg:Str->Option Af} {base:Heap} {k:Nat} {x qual:Str} {st:Stmt} {ps:List Str} {S:DSpN} {f:Addr} {fd:Cp} (F:Fun K x qual st f fd) (m:mg x=some (.ref f)) (b:Binds K fd ps []) (h:FnOk P w K mg base CX0 k f fd ps (jrl S)):HasN P w K mg base k x ps S:=⟨f,fd,h,b,m,F.kp⟩
theorem j17 {k:Nat} {ps:List Str} {S:DSpN} {x:Str} (h:HasN X.prog X.w X.K X.mg X.base k x ps S) (hr:Room k X.A) (hg:Gl X x)
  (ha:DA X (e::es) tR wR) (hdb:(x==("__debug__":Str))=false:=by decide) (he:Az (e::es) X.env=(false,eval e X.env)::Az es X.env:=by rfl) (hpl:(Dd pos (Az es X.env)).any (·.1)=false:=by rfl) :
  DF X (.Call (.Name x p) (e::es) [] pos) (jlt (jrl S) [] E0 tR) (jgi S wR):=by
 obtain⟨f,fd,h1,h2,h3,h4⟩:=h.ex;exact⟨jpi h1 hr hg h3 h4 h2 .nil j1j ha.pa hdb he hpl,js9 ha.sd⟩
def jwk (w:DTF):DST:=λδ n K=>w δ n K.rn
theorem j3k {w:DTF} (h:DF X e te w):DS X (.Return (some e) pos) (tRet te) (jwk w):=⟨jld h.pe,λC H B σ δ n K D R q E =>
 h.sd C H B σ δ n _ _ R q λa xs ds H' n' R' k' h0 h1 h2 h3 q'=>E.rn H' B σ δ n' a xs ds R' (R.h0 h0) h1 h2 h3 q'⟩
end
section
variable {P:Bg} {w:Bt} {K:Ah} {mg:Str->Option Af} {base:Heap}
theorem Fun.okN {x qual:Str} {st:Stmt} {f:Addr} {fd:Cp} {N ps:List Str} {k:Nat} {S:DSpN} (F:Fun K x qual st f fd) (Sc:FnScope N ps (jai st)) (len:∀ws n Q,S ws n Q->ws.length=ps.length)
  (hbody:∀(cdv:Af) (A:B6) (outer:List Env) (s:Aj) (H:Hp) (E:XK),Room k (A.deeper (PyProof.Rows.envOfC qual (jai st) s.heap.objs.size f cdv)) ->
   ∃T W,DSs (cxOf CX0 P w K mg base N qual (jai st) f cdv A outer s H E).nox (jdm st) T W/\∀ws n Q,S ws n Q->W (jaz N ws) n {nx:=λ_ _=>False,rt:=λ_ _=>False,rn:=Q}):FnOk P w K mg base CX0 (k+1) f fd ps (jrl S):=by
 refine F.ok Sc (λvs H Q E h=>?_) (λcdv A outer s H vs Q E hr h=>?_)
 ·obtain⟨t,l,ns,B,ws,n,Q0,_,_,_,r,q,_⟩:=h;rw[r.len];exact len ws n Q0 q
 ·obtain⟨t,l,ns,B,ws,n,Q0,T,bt,ba,r,q,kk⟩:=h;obtain⟨T',W,d,hw⟩:=hbody cdv A outer s H E hr;refine⟨T',d.ps,d.sd ⟨t,l,ns,H,B,λ_=>none⟩ H B _ _ n _ _ (jnq T bt ba r) (hw ws n Q0 q) ⟨?_,?_,?_,?_,?_⟩⟩
  ·exact λ_ _ _ _ _ _ z=>z.elim
  ·exact λ_ _ _ _ _ _ _ _ _ z=>z.elim
  ·exact λ_ _ _ _ _ _ z=>z.elim
  ·exact λ_ _ _ _ _ _ z=>z.elim
  ·exact λH' B' σ δ n' a xs ds R' h0 h1 h2 h3 q'=>kk _ _ q' a xs H' R'.tp R'.kp h0 h1 h2 (h3.less λb z=>z.elim (λz=>.inl (R'.b0 b z)) .inr)
end
end DL
namespace Nb
open PySem L2
end Nb
namespace DL
open PySem L2 Nb
section
variable {X:Cx} {a b c e o i f:Expr} {ta tb te ty:TE} {wa wb we wy:DT} {pos p xp:Pos} {K:Ah} {D:List (Str×Str)} {q:Addr} {x:Str}
theorem jxg {n:Nat} (h:n<=1000):n<=A1:=Ba h (by decide)
theorem j0e {H:Hp} {p:Addr} {x y:HO}:upd (upd H p x) p y=upd H p y:=by
 funext b
 by_cases e:b=p
 ·subst e;rw[jap,jap]
 ·rw[jao e,jao e,jao e]
end
end DL
namespace L2
open PySem PySem.Spec PyProof.Rows PySem.SeqAt PySem.W
end L2
namespace L2
open PySem PySem.Spec PyProof.Rows
end L2
namespace L2
open PySem PySem.Spec PyProof.Rows PySem.W
end L2
namespace L2
open PySem PySem.Spec PyProof.Rows
end L2
namespace L2
open PySem PySem.Spec PyProof.Rows PySem.SeqAt PySem.W
section
variable {X:Cx}
theorem jrz {i:Int} (h0:0<=i) (h1:i<=1000):Builtin.List.listFitsIndex i=true:=fitsIndex_both (by omega) (by omega)
def jto:V->List V->Hp->VK->Prop:=λx vs H Q=>∃l xs i y,x=.ref l/\vs=[.int i,y]/\H l=some (.lst xs)/\0<=i/\i<=xs.length/\xs.length < 1000/\Q .non (upd H l (.lst (xs.take i.toNat++y::xs.drop i.toNat)))
theorem jm9 {xs:List V} {vs:List Af} (h:Vals xs vs):∀k:Nat,Vals (xs.take k) (vs.take k)/\Vals (xs.drop k) (vs.drop k):=by
 induction h with
 |nil=>intro k;rw[List.take_nil,List.take_nil,List.drop_nil,List.drop_nil];exact⟨.nil,.nil⟩
 |cons r hr ih =>
  intro k;cases k with
  |zero=>exact⟨.nil,.cons r hr⟩
  |succ k=>exact⟨.cons r (ih k).1,(ih k).2⟩
theorem jua:MtM X "list.insert" jto:=by
 intro pins s σ H x vs v us Q I rx rv h;obtain⟨l,xs,i,y,rfl,rfl,hH,h0,h1,h2,q⟩:=h;cases rx;obtain⟨u1,u,rfl,⟨t,rfl⟩,ru⟩:=j0d rv;obtain⟨z,its,n,r,hl,e⟩:=I.lstM hH;refine call_meets F.slot_list_insert ⟨_,e,rfl⟩ F.entry_list_insert (F.args_list_insert_3 _ _ _) (AutoSeq1.list_insert_list_int_val_1 l its.toArray n i t u (by rw[jrz h0 (by omega)];simp) (by rw[A4];omega)) ⟨e,?_⟩;refine⟨.non,_,I.lset (its':=its.take i.toNat++u::its.drop i.toNat) hH e ?_ ((jm9 r _).1.append (.cons ru (jm9 r _).2)) ?_,rfl,q⟩
 ·have e1:(if i < 0 then(i+((its.toArray.size:Nat):Int)).toNat else min i.toNat its.toArray.size)=i.toNat:=by
   rw[if_neg (by omega),A4];omega
  show(its.toArray.extract 0 (if i < 0 then(i+((its.toArray.size:Nat):Int)).toNat else min i.toNat its.toArray.size)).push u++its.toArray.extract (if i < 0 then(i+((its.toArray.size:Nat):Int)).toNat else min i.toNat its.toArray.size) its.toArray.size=_;rw[e1];apply Gc.mp;simp;exact Ej (by rw[Cc];exact Al _)
 ·rw[An,Ax,Ct,Cc,Ea];omega
end
end L2
namespace DL
open PySem L2 Nb
section
variable {X:Cx} {a b c e o i f:Expr} {ta tb te td ty tx:TE} {wa wb we wd' wy wx:DT} {pos p:Pos} {K:Ah}
def sIns (i:Nat) (wa wb:DT):DST:=λδ n K=>match δ[i]? with
 |some (some (.own ds))=>wa δ n λx n1=>wb δ n1 λy n2=>match x,y with
  |.d (.int k),.d d=>(0<=k/\k<=ds.length/\ds.length < 1000)/\K.nx (δ.set i (some (.own (ds.take k.toNat++d::ds.drop k.toNat)))) n2
  |_,_=>False
 |_=>False
theorem RdXs.takes {H:Hp} {B:Addr->Prop}:∀{vs:List V} {ds:List Ae},RdXs H B vs ds->∀k:Nat,RdXs H B (vs.take k) (ds.take k)/\RdXs H B (vs.drop k) (ds.drop k)
 |_,_,.nil,k=>by rw[List.take_nil,List.take_nil,List.drop_nil,List.drop_nil];exact⟨.nil,.nil⟩
 |_,_,.cons h r,0=>⟨.nil,.cons h r⟩
 |_,_,.cons h r,k+1=>⟨.cons h (RdXs.takes r k).1,(RdXs.takes r k).2⟩
theorem j6b {i:Nat} {x:Str} {xp ap cp:Pos} (hN:X.N[i]?=some x) (ha:DE X a ta wa) (hb:DE X b tb wb) (hv:Vis X.env.scope x:=by first | exact Ar rfl | exact Bz (Ar rfl) | exact Bz (Bz rfl)) (hd:(x==("__debug__":Str))=false:=by decide)
  (hcd:(x==("__classdict__":Str))=false:=by decide)
  (hbase:Fs (.Name x xp) "insert" X.env (eval (.Name x xp) X.env)=eval (.Name x xp) X.env:=by rfl)
  (hfew:((Dd cp (Az [a,b] X.env)).all (λx=>!x.1)&&(backToKw cp (keywordEach [] X.env)).all (λx=>x.1.isSome)
   && decide ([a,b].length+([]:List Keyword).length+(if ([]:List Keyword).isEmpty then 0 else 1) < 30))=true:=by rfl)
  (hline:(ap.endLine==cp.line)=true:=by rfl) (hs:Az [a,b] X.env=(false,eval a X.env)::Az [b] X.env:=by rfl) (hs2:Az [b] X.env=(false,eval b X.env)::Az [] X.env:=by rfl) (hplain:(Dd cp (Az [b] X.env)).any (·.1)=false:=by rfl)
  (hsw:Dw (.Call (.Attribute (.Name x xp) "insert" ap) [a,b] [] cp) none pos.line X.env=pure false:=by rfl) :
  DS X (.Expr (.Call (.Attribute (.Name x xp) "insert" ap) [a,b] [] cp) pos) (jv8 (tBM X.K "list" jto (tVar i) (jcv ta (jcv tb tNil)))) (sIns i wa wb) :=
 ⟨jpg (j1h Gx PySem.F.slot_list_insert PySem.F.type_list_insert jua (jdq hN hv hd hcd) (ja0 ha.pe (ja0 hb.pe jb0 hs2) hs) hbase hfew hline hs hplain) hsw,λC H B σ δ n K D R q E=>by
  unfold sIns at q
  split at q
  ·rename_i ds ei;obtain⟨v,hv,aa,xs,rfl,e2,e3,e4,e5,e6⟩:=R.sl i _ ei;refine⟨_,hv,.inl ⟨rfl,_,SqL.of e2⟩,ha.sd C H B σ δ n _ _ R q λu x H1 n1 R1 k1 r1 q1=>hb.sd C H1 B σ δ n1 _ _ R1 q1 λu2 y H2 n2 R2 k2 r2 q2=>?_⟩
   split at q2
   ·rename_i kk d;obtain⟨⟨q3,q4,q5⟩,q6⟩:=q2;cases(show RdX H1 B u (.int kk)from r1);have hat:aa≠C.t:=λz=>R.t0 (z▸e4);have e2':=k2 _ _ (k1 _ _ e2 hat) hat;have hle:=e6.len;have r3:RdXs H2 B xs ds:=(e6.kp k1 R.bt).kp k2 R.bt;refine⟨aa,xs,kk,u2,rfl,rfl,e2',q3,by omega,by omega,?_⟩;refine E.nx _ _ _ _ _ (R2.mutOwn ei rfl hv e3 e4 ?_ rfl) q6;refine⟨aa,xs.take kk.toNat++u2::xs.drop kk.toNat,rfl,jap,e3,e4,?_,?_⟩
    ·rw[An,Ax,Ct,Cc];exact jbf (by omega)
    ·refine RdXs.keep (λb o e n=>?_) ((r3.takes _).1.append (.cons r2 (r3.takes _).2));rw[jao λ(z:b=aa)=>n (z▸e3)];exact e
   ·exact q2.elim
  ·exact q.elim⟩
end
end DL
namespace L2
open PySem PySem.Spec PyProof.Rows PySem.SeqAt PySem.W
end L2
namespace DL
open PySem L2 Nb
section
variable {X:Cx} {o:Expr} {td:TE} {wd':DT} {pos p p2:Pos} {K:Ah}
def vD:Key->Ae
 |.inl i=>.int i
 |.inr x=>.str x
def rowD (k:List Key):Ae:=.tuple (k.map vD)
theorem jzc {H:Hp} {B:Addr->Prop} {k:List Key}:∀{vs:List V},RdXs H B vs (k.map vD)->vs=k.map kV:=by
 induction k with
 |nil=>intro vs h;cases h;rfl
 |cons x k ih =>
  intro vs h;cases h with
  |cons h t =>
   rw[ih t];cases x with
   |inl i=>cases(show RdX H B _ (.int i)from h);rfl
   |inr x=>cases(show RdX H B _ (.str x)from h);rfl
end
end DL
namespace HT
open PySem PyProof.Rows
end HT
namespace L2
open PySem PySem.Spec PyProof.Rows
end L2
namespace DL
open PySem L2 Nb
end DL
namespace L2
open PySem PySem.Spec PyProof.Rows PySem.SeqAt
end L2
namespace DL
open PySem L2 Nb
end DL
namespace L2
open PySem PySem.Spec PyProof.Rows
end L2
namespace DL
open PySem L2 Nb
end DL
namespace L2
open PySem PySem.Spec PyProof.Rows
def j03 (K:Ah):R2:=λx y H Q=>∃a b ys,x=.ref a/\y=.ref b/\SqT K H a []/\SqT K H b ys/\Q (.ref b) H
theorem j1n {X:Cx}:OpR X (En .Add) (j03 X.K):=by
 intro pins s σ H x y v u Q I rx ry h;obtain⟨a,b,ys,rfl,rfl,ha,hb,q0⟩:=h;cases(show v=A8 a from rx);cases(show u=A8 b from ry);obtain⟨its,r1,p1,_⟩:=I.tuple ha;obtain⟨its2,r2,p2,_⟩:=I.tuple hb;obtain⟨⟨cls,dd,data,sl⟩,ho,hc,n,hd⟩:=id p1;obtain⟨⟨cls2,dd2,data2,sl2⟩,ho2,hc2,n2,hd2⟩:=id p2;simp only at hc hd hc2 hd2;subst hc hd hc2 hd2;have hi:its=[]:=r1.nil_iff.mpr rfl;exact concat_meets ⟨_,ho,rfl⟩ ⟨_,ho2,rfl⟩ noFill_tuple_add seq_tuple_add Fm Fi (E7 _ _)
  (tuple_addW0 a b its.toArray its2.toArray n n2 dd dd2 sl sl2 (by simp[hi])) ⟨ho,ho2,⟨.ref b,H,I,rfl,q0⟩⟩
end L2
namespace DL
open PySem L2 Nb
section
variable {X:Cx} {a b:Expr} {ta tb:TE} {wa wb:DT} {pos p:Pos} {K:Ah}
def jks:Wv->Wv->Int->DQ->Prop:=λx y n Q=>match x,y with
 |.d (.tuple []),.d (.tuple j)=>Q (.d (.tuple j)) n
 |x,y=>gAdd x y n Q
theorem jwf:SndO (λx y H Q=>jws K x y H Q\/j03 K x y H Q) jks:=λC H B σ δ n x y p q Q Q' R rx ry h1 k=>by
 unfold jks at h1
 split at h1
 ·rename_i j;cases(show RdX H B x (.tuple [])from rx)with
  |@tup ax xs _ e1 e2 e3 e4 =>
   cases(show RdX H B y (.tuple j)from ry)with
   |@tup ay ys _ f1 f2 f3 f4 =>
    cases e4;exact .inr ⟨ax,ay,ys,rfl,rfl,SqT.of e1,SqT.of f1,k _ _ H n R (Kp.refl _ _) (wd (show RdX H B _ (.tuple j)from .tup f1 f2 f3 f4)) h1⟩
 ·exact .inl (jwg C H B σ δ n x y _ _ Q Q' R rx ry h1 k)
theorem joj (ha:DE X a ta wa) (hb:DE X b tb wb) (hK:X.K=K:=by rfl):DE X (.BinOp a .Add b pos) (tOp (λx y H Q=>jws K x y H Q\/j03 K x y H Q) ta tb) (w2 wa wb jks):=by
 subst hK;exact d_op (op_addA.or j1n) jwf ha hb
end
end DL
namespace L2
open PySem PySem.Spec PyProof.Rows
end L2
namespace DL
open PySem L2 Nb
end DL
namespace L2
open PySem PySem.Spec PyProof.Rows
end L2
namespace DL
open PySem L2 Nb
end DL
namespace L2
open PySem PySem.Spec PyProof.Rows
end L2
namespace DL
open PySem L2 Nb
end DL
namespace L2
open PySem PySem.Spec PyProof.Rows
end L2
namespace DL
open PySem L2 Nb
theorem jfu {X:Cx} {a b:Expr} {ta tb:TE} {wa wb:DT} {pos:Pos} (ha:DE X a ta wa) (hb:DE X b tb wb):DE X (.BinOp a .Add b pos) (tOp (rI0 λi j=>.int (i+j)) ta tb) (w2 wa wb (gI0 λi j=>.int (i+j))):=d_op op_add (js5 λ_ _ _ _=>.int _) ha hb
section
variable {X:Cx} {a b e o:Expr} {ta tb te td ty:TE} {wa wb we wd' wy:DT} {pos p p2:Pos} {K:Ah} {H:Hp} {B:Addr->Prop} {l:List (List Key×V)} {m:List (List Key×Ae)}
def inT (m:List (List Key×Ae)) (k:List Key):Bool:=m.any λkv=>decide (kv.1=k)
def putT (m:List (List Key×Ae)) (k:List Key) (d:Ae):List (List Key×Ae):=if inT m k=true then m.map (λkv=>if kv.1=k then(kv.1,d)else kv)else m++[(k,d)]
theorem RdT.any (h:RdT H B l m) (k:List Key):(l.any λkv=>decide (kv.1=k))=inT m k:=by
 unfold RdT at h;unfold inT
 induction h with
 |nil=>rfl
 |cons r _ ih=>rw[C1,C1,ih,r.1]
theorem RdT.isSome (h:RdT H B l m) (k:List Key):(valV l k).isSome=inT m k:=by
 rw[<-h.any k];unfold valV;rw[Option.isSome_map,List.isSome_find?]
theorem RdT.len (h:RdT H B l m):l.length=m.length:=by
 unfold RdT at h
 induction h with
 |nil=>rfl
 |cons _ _ ih=>rw[Ax,Ax,ih]
theorem RdT.map {v:V} {d:Ae} (h:RdT H B l m) (r:RdX H B v d) (k:List Key):RdT H B (l.map λkv=>if kv.1=k then(kv.1,v)else kv) (m.map λkv=>if kv.1=k then(kv.1,d)else kv):=by
 unfold RdT at h ⊢
 induction h with
 |nil=>exact .nil
 |@cons p q ps qs z _ ih =>
  rw[Bo,Bo];refine .cons ?_ ih;by_cases e:p.1=k
  ·have e':q.1=k:=z.1▸e;rw[if_pos e,if_pos e'];exact⟨z.1,r⟩
  ·have e':¬q.1=k:=z.1▸e;rw[if_neg e,if_neg e'];exact z
theorem RdT.snoc {v:V} {d:Ae} (h:RdT H B l m) (r:RdX H B v d) (k:List Key):RdT H B (l++[(k,v)]) (m++[(k,d)]):=by
 unfold RdT at h ⊢
 induction h with
 |nil=>exact .cons ⟨rfl,r⟩ .nil
 |cons z _ ih=>exact .cons z ih
theorem RdT.put {v:V} {d:Ae} (h:RdT H B l m) (r:RdX H B v d) (k:List Key):RdT H B (putK l k v) (putT m k d):=by
 unfold putK putT;rw[h.any k]
 split
 ·exact h.map r k
 ·exact h.snoc r k
def jwl (i:Nat):DST:=λδ n K=>K.nx (δ.set i (some (.odt []))) n
theorem j3n {i:Nat} {x:Str} {pos':Pos} (hN:X.N.Nodup) (hi:X.N[i]?=some x) (hx:Loc X.env.scope x) (hs:Dw (.Dict [] [] p) (some (.Name x pos')) pos.line X.env=pure false:=by rfl) (hf:X.fn x=true\/X.env.scope.names.lookup x=some .local:=by first | exact .inl rfl | exact .inr rfl | assumption) :
  DS X (.Assign [.Name x pos'] (.Dict [] [] p) pos) (tAsg jyy (jg0 i)) (jwl i):=⟨jfp hN hi hx jwz hs hf,λC H B σ δ n K D R q E=>λa ha=>by
  refine E.nx _ _ _ _ _ (R.own (R.new ha) (Kp.new ha) ha (by rw[jap];exact λz=>nomatch z) rfl ?_) q;exact⟨a,[],rfl,jap,.inr rfl,R.h0 ha,Bj _,.nil⟩⟩
def jv2 (i:Nat) (w:DT):DT:=λδ n Q=>w δ n λx n1=>∃k kvs,x=.d (rowD k)/\δ[i]?=some (some (.odt kvs))/\Q (.d (.bool !inT kvs k)) n1
theorem jwb {i:Nat} (hi:DE X a ta wa):Snd (jim ta (tVar i)) (jv2 i wa):=λC H B σ δ n Q Q' R h k =>
 hi.sd C H B σ δ n _ _ R h λv x H1 n1 R1 k1 r1 q1=>by
  obtain⟨key,kvs,rfl,e,q⟩:=q1;obtain⟨w,h1,b,l,rfl,g2,g3,g4,g5,g6⟩:=R1.sl i _ e;refine⟨_,h1,?_⟩;cases(show RdX H1 B v (.tuple (key.map vD))from r1)with
  |@tup c zs _ i1 i2 i3 i4 =>
   have ez:=jzc i4;subst ez;refine⟨b,valV l key,rfl,DGet.t g2 i1,k _ _ H1 n1 R1 k1 (wd (.bl _)) ?_⟩;rw[g6.isSome key];exact q
theorem j5x {i:Nat} {x:Str} {xp:Pos} (hu:X.A.units+64 < E2) (hN:X.N[i]?=some x) (hi:DE X a ta wa) (hv:Vis X.env.scope x:=by first | exact Ar rfl | exact Bz (Ar rfl) | exact Bz (Bz rfl)) (hd:(x==("__debug__":Str))=false:=by decide)
  (hcd:(x==("__classdict__":Str))=false:=by decide) (hm:Co .NotIn (.Name x xp)=false:=by with_unfolding_all rfl):DC X (.Compare a [.NotIn] [.Name x xp] pos) (jo7 (jim ta (tVar i))) (cT (jv2 i wa)):=⟨j36 (jnu (by omega) hi.pe (jdq hN hv hd hcd)) hm,jf9 (jwb hi)⟩
def j3q (i:Nat) (wy wv:DT):DST:=λδ n K=>wv δ n λv n1=>∃kvs,δ[i]?=some (some (.odt kvs))/\wy δ n1 λy n2=>∃k d,v=.d d/\y=.d (rowD k)/\kvs.length < 1000/\K.nx (δ.set i (some (.odt (putT kvs k d)))) n2
theorem j3l {i:Nat} {x:Str} {xp sp:Pos} {j e:Expr} {tj te:TE} {wj we:DT} (hu:X.A.units+64 < E2) (hN:X.N[i]?=some x) (hj:DE X j tj wj) (he:DE X e te we) (hv:Vis X.env.scope x:=by first | exact Ar rfl | exact Bz (Ar rfl) | exact Bz (Bz rfl)) (hd:(x==("__debug__":Str))=false:=by decide)
  (hcd:(x==("__classdict__":Str))=false:=by decide) (hs:Dw e (some (.Subscript (.Name x xp) j sp)) pos.line X.env=pure false:=by rfl) :
  DS X (.Assign [.Subscript (.Name x xp) j sp] e pos) (j0z (tVar i) tj te) (j3q i wj we) :=
 ⟨jtu (by omega) (jdq hN hv hd hcd) hj.pe he.pe hs,λC H B σ δ n K D R q E =>
  he.sd C H B σ δ n _ _ R q λu y H1 n1 R1 k1 r1 q1=>by
   obtain⟨kvs,ei,q1⟩:=q1;obtain⟨v,hv,a,l,rfl,e2,e3,e4,e5,e6⟩:=R1.sl i _ ei;refine⟨_,hv,hj.sd C H1 B σ δ n1 _ _ R1 q1 λw z H2 n2 R2 k2 r2 q2=>?_⟩;obtain⟨key,d,rfl,rfl,hl0,q2⟩:=q2;have hat:a≠C.t:=λz=>R.t0 (z▸e4);have e2':=k2 _ _ e2 hat;have r1':RdX H2 B u d:=RdX.kp k2 R1.bt r1;have e6':RdT H2 B l kvs:=e6.move λb o e n=>⟨k2 b o e λz=>n (z▸R1.bt),n⟩;have hl:l.length < 1000:=by rw[e6'.len];exact hl0
   cases(show RdX H2 B w (.tuple (key.map vD))from r2)with
   |@tup c zs _ i1 i2 i3 i4 =>
    have ez:=jzc i4;subst ez;refine⟨a,_,rfl,DPut.t e2' i1 (Bk hl (jbf (Al _))),?_⟩;refine E.nx _ _ _ _ _ (R2.mutOwn ei rfl hv e3 e4 ?_ rfl) q2;refine⟨a,_,rfl,jap,e3,e4,?_,?_⟩
    ·have:=jc1 l key u;omega
    ·exact(e6'.put r1' _).move λb o e n=>⟨by rw[jao λ(z:b=a)=>n (z▸e3)];exact e,n⟩⟩
end
section
variable {X:Cx} {a b e o i f:Expr} {ta tb te td ty:TE} {wa wb we wd' wy:DT} {pos p p2:Pos} {K:Ah}
def jkt (k:Int) (xs:List Ae):List Ae:=xs.zipIdx.map λq=>.tuple [.int (k+q.2),q.1]
theorem jjh {k:Int} {xs:List Ae}:(jkt k xs).length=xs.length:=by unfold jkt;rw[Ab,List.length_zipIdx]
theorem ju2 {k:Int} {xs:List Ae} {i:Nat} {d:Ae} (h:(jkt k xs)[i]?=some d):∃x,xs[i]?=some x/\d=.tuple [.int (k+i),x]:=by
 unfold jkt at h;rw[A0,List.getElem?_zipIdx]at h;cases e:xs[i]? with
 |none=>rw[e]at h;cases h
 |some x =>
  rw[e]at h;refine⟨x,rfl,?_⟩;have:=Aq h;rw[<-this,Nat.zero_add]
theorem jll {k:Int} {x:Ae} {xs:List Ae}:jkt k (x::xs)=.tuple [.int k,x]::jkt (k+1) xs:=by
 refine List.ext_getElem? λi=>?_;unfold jkt;cases i with
 |zero=>rw[Gd,Bo,List.getElem?_cons_zero,List.getElem?_cons_zero,Int.natCast_zero,Int.add_zero]
 |succ i =>
  rw[List.getElem?_cons_succ,A0,A0,List.getElem?_zipIdx,List.getElem?_zipIdx,List.getElem?_cons_succ];cases xs[i]? with
  |none=>rfl
  |some y =>
   show some (PyData.tuple [.int (k+(0+(i+1):Nat)),y])=some (.tuple [.int (k+1+(0+i:Nat)),y]);have:k+(0+(i+1):Nat)=k+1+(0+i:Nat):=by omega
   rw[this]
def jut (w:DT):DTI:=λδ n Q=>w δ n λx n1=>∃xs,x=.d (.tuple xs)/\Q (jkt 0 xs) n1
theorem j49 {elts:List Expr} {kk:Nat} {tpos:Pos} (hg:Gl X "enumerate") (hm:X.mg "enumerate"=none) (ha:DE X a ta wa) (hK:X.K=K:=by rfl) (hs:Az [a] X.env=[(false,eval a X.env)]:=by rfl) (he1:Az [a] X.env=(false,eval a X.env)::Az [] X.env:=by rfl) :
  DI X (.Tuple elts kk tpos) (.Call (.Name "enumerate" p) [a] [] pos) (j5c K (jcv ta tNil)) (jut wa):=by
 subst hK;refine⟨j1a hg hm (ja0 ha.pe jb0 he1) hs,λC H B σ δ n Q Q' R q k=>ha.sd C H B σ δ n _ _ R q λv x H1 n1 R1 k1 r1 q1=>?_⟩;obtain⟨xs,rfl,q2⟩:=q1;cases(show RdX H1 B v (.tuple xs)from r1)with
 |@tup aa vs _ e1 e2 e3 e4 =>
  refine⟨aa,rfl,⟨vs,SqT.of e1⟩,k _ (jkt 0 xs) H1 n1 R1 k1 (λfz th=>?_) q2⟩;have za:fz aa=some (.tup vs):=th.2 _ _ e1 e2;refine⟨by rw[jjh,<-e4.len];exact e3,λi H hH hi=>?_,λH hH=>?_,λi H x H' d hH hd hy=>?_⟩
  ·rw[jjh]at hi;have h1:i < vs.length:=by rw[e4.len];exact hi
   exact⟨vs,vs[i],SqT.of (hH _ _ za),Ag h1⟩
  ·exact⟨vs,SqT.of (hH _ _ za),by rw[jjh,e4.len]⟩
  ·obtain⟨T,x1,rfl,hT,rfl,hx⟩:=hy;refine⟨λb o e=>by rw[jao (jaj e hT)];exact e,λB' hB hBa=>?_⟩;obtain⟨y,hy,rfl⟩:=ju2 hd;obtain⟨u1,hu1,ru1⟩:=e4.getD hy;have t1:=hx _ (SqT.of (hH _ _ za));rw[hu1]at t1;cases t1;have mv:∀b o,H1 b=some o->¬B b->upd H T (.tup [.int i,x1]) b=some o/\¬B' b:=λb o e ne=>by
    have:=hH _ _ (th.2 _ _ e ne);exact⟨by rw[jao (jaj this hT)];exact this,hB _ _ (th.2 _ _ e ne)⟩
   rw[Int.zero_add];exact .tup jap (λz=>hBa T z hT) (by show 2<=A1;decide) (.cons (.int _) (.cons (ru1.move mv) .nil))
def jv1 (k1 s1 k2:Str) (i2:Int):DT:=λ_ n Q=>Q (.dk (jd9 [] [(.inr k1,.str s1),(.inr k2,.int i2)])) n
theorem j5o {k1 s1 k2:Str} {i2:Int} {e1 e2 v1 v2:Expr} (h:PPs X pos [some e1,some e2] [v1,v2] [(tC (.str k1),tC (.str s1)),(tC (.str k2),tC (.int i2))]) (hl:s1.length<=1000:=by decide +kernel) :
  DE X (.Dict [some e1,some e2] [v1,v2] pos) (j25 [(tC (.str k1),tC (.str s1)),(tC (.str k2),tC (.int i2))]) (jv1 k1 s1 k2 i2):=⟨j1d h rfl rfl (λz=>nomatch z) (show 2<=15 by decide),λC H B σ δ n Q Q' R q k=>λa ha=>by
 refine(show jqa [(tC (.str k1),tC (.str s1)),(tC (.str k2),tC (.int i2))] σ _ _ from⟨jap,[(C6 k1,V.str s1),(C6 k2,V.int i2)],rfl,by show 2<=15;decide,?_⟩);rw[j0e];exact k (.ref a) (.dk (jd9 [] [(.inr k1,.str s1),(.inr k2,.int i2)])) _ n (R.new ha) (Kp.new ha) ⟨a,_,rfl,jap,λz=>R.ba C.t R.bt (z▸ha),RdK.merge (.cons ⟨rfl,.str _ (jxg hl)⟩ (.cons ⟨rfl,.int _⟩ .nil)) .nil⟩ q⟩
def jsi (hs:List Str) (w:DT):DT:=λδ n Q=>w δ n λx n1=>∃a,x=.d a/\jeu a=true/\Q (.d (.bool !inD a (hs.map .str))) n1
theorem jwc {q:Addr} {hs:List Str} (hl:∀h∈hs,h.length<=1000) (hq:∀H,SqT K H q (hs.map V.str)) (h:Snd ta wa):Snd (tOp (rIn K true) ta (tC (.ref q))) (jsi hs wa):=λC H B σ δ n Q Q' R z k =>
 h C H B σ δ n _ _ R z λv x H1 n1 R1 k1 r1 q1=>by
  obtain⟨da,rfl,q1⟩:=q1;have r1:RdX H1 B v da:=r1;have rs:RdXs H1 B (hs.map V.str) (hs.map .str):=jly hl;refine⟨q,_,rfl,.inr (hq H1),jg2 r1 q1.1,jd1 rs ?_,k _ _ H1 n1 R1 k1 (wd (.bl _)) ?_⟩
  ·rw[List.all_map];exact E4.mpr λ_ _=>rfl
  ·rw[jlj r1 rs];exact q1.2
theorem j5y {q:Addr} {hs:List Str} {x:Str} {xp:Pos} (ha:DE X a ta wa) (hg:Gl X x) (hm:X.mg x=some (.ref q)) (hq:∀H,SqT K H q (hs.map V.str)) (hl:∀h∈hs,h.length<=1000:=by decide +kernel) (hK:X.K=K:=by rfl) (hd:(x==("__debug__":Str))=false:=by decide)
  (hmk:Co .NotIn (Expr.Name x xp)=false:=by with_unfolding_all rfl):DC X (.Compare a [.NotIn] [.Name x xp] pos) (jo7 (tOp (rIn K true) ta (tC (.ref q)))) (cT (jsi hs wa)) :=
 ⟨jfy (jdr hK) ha.pe (jph hg hm rfl hd) hmk,jf9 (jwc hl hq ha.sd)⟩
end
end DL
namespace L2
open PySem PySem.Spec PyProof.Rows
section
variable {prog:Bg} {w:Bt} {A:B6} {E:Af->Aj->Prop} {s:Aj}
theorem jrf {z TI TO i1 i2 l1 l2:Addr} {k:Nat} {xs ys:Array Af} {x y a b:Af} {Q:Af->Aj->Prop} (D:ZipApart z TI TO i1 i2 l1 l2)
  (hz:Eg s.heap z TI TO .none) (hTI:Cs s.heap TI (.ref i1) (.ref i2)) (hTO:Cs s.heap TO a b)
  (h1:s.heap.IsListIter i1 l1 k) (h2:s.heap.IsTupleIter i2 l2 k) (hl1:s.heap.IsList l1 xs) (hl2:s.heap.IsTuple l2 ys) (hx:xs[k]?=some x) (hy:ys[k]?=some y)
  (hQ:∀h',Eg h' z TI TO (Ci s.heap.objs.size)->Cs h' TO x y->h'.IsListIter i1 l1 (k+1)->h'.IsTupleIter i2 l2 (k+1)->Cs h' s.heap.objs.size x y->h'.objs.size=s.heap.objs.size+1 ->
   (∀c o,c≠z->c≠TO->c≠i1->c≠i2->s.heap.get? c=some o->h'.get? c=some o)->Q (.ref s.heap.objs.size) {s with heap:=h'}) :
  A3 (A9 prog w) A (Dn.«zip.__next__» ⟨[.ref z],[]⟩) (λfin s'=>∃v,fin=.done (.ret v)/\Q v s') E s:=by
 show A3 _ _ (field (.ref z) 2>>=_) _ _ _;refine Aa (Ca hz rfl (x:=.bool false) rfl ?_);show A3 _ _ (field (.ref z) 3>>=_) _ _ _;refine Aa (Ca hz rfl (x:=.ref TI) rfl ?_);refine Aa (Ce hTI rfl ?_);show A3 _ _ (Bv (.ref z)>>=_) _ _ _;refine Aa ?_;unfold Bv;refine Aa (Ca hz rfl (x:=.none) rfl (Ai ?_));simp only[if_true];refine Aa (Ff ?_);refine Aa (Ca hz rfl (x:=.ref TO) rfl ?_);refine Aa (Cu hz (by simp) λg1 hz1 s1=>?_)
 replace hz1:Eg g1 z TI TO .ellipsis:=hz1
 refine Aa ?_;simp only[Gd,List.zipIdx_nil,List.forIn_cons,List.forIn_nil];refine Aa (Aa (Gq ?_));show A3 _ _ (B3 (.ref i1)>>=_) _ _ _;refine Aa (wpAny_nextOf_list_item (h1.extBut s1.extBut D.i1z) (hl1.extBut s1.extBut D.l1z) hx λg2 t2 s2=>Ai ?_);have p2:Cs g2 TO a b:=s2.extBut _ _ D.TOi1 (s1.extBut _ _ D.TOz hTO);refine Aa (Ce p2 rfl ?_);refine Aa (Gr p2 λg3 p3 s3=>?_)
 replace p3:Cs g3 TO x b:=p3
 refine Aa (wpAny_letGo (Ai ?_));refine Aa (Aa (Gq ?_));show A3 _ _ (B3 (.ref i2)>>=_) _ _ _;refine Aa (jby (((h2.extBut s1.extBut D.i2z).extBut s2.extBut D.i12.symm).extBut s3.extBut D.TOi2.symm)
  (((hl2.extBut s1.extBut D.l2z).extBut s2.extBut D.l2i1).extBut s3.extBut D.l2TO) hy λg4 t4 s4=>Ai ?_)
 have p4:Cs g4 TO x b:=s4.extBut _ _ D.TOi2 p3;refine Aa (Ce p4 rfl ?_);refine Aa (Gr p4 λg5 p5 s5=>?_)
 replace p5:Cs g5 TO x y:=p5
 refine Aa (wpAny_letGo (Ai (Ai ?_)));refine Aa (Ce p5 rfl ?_);refine Aa (wpAny_newTuple ?_);have sz:g5.objs.size=s.heap.objs.size:=by rw[s5.1,s4.1,s3.1,s2.1,s1.1]
 have z5:Eg g5 z TI TO .ellipsis:=s5.extBut _ _ D.TOz.symm (s4.extBut _ _ D.i2z.symm (s3.extBut _ _ D.TOz.symm (s2.extBut _ _ D.i1z.symm hz1)));have k5:∀c o,c≠z->c≠TO->c≠i1->c≠i2->s.heap.get? c=some o->g5.get? c=some o:=λc o c1 c2 c3 c4 e =>
  s5.extBut _ _ c2 (s4.extBut _ _ c4 (s3.extBut _ _ c2 (s2.extBut _ _ c3 (s1.extBut _ _ c1 e))))
 have u1:g5.IsListIter i1 l1 (k+1):=((t2.extBut s3.extBut D.TOi1.symm).extBut s4.extBut D.i12).extBut s5.extBut D.TOi1.symm;have u2:g5.IsTupleIter i2 l2 (k+1):=t4.extBut s5.extBut D.TOi2.symm;have zlt:z < g5.objs.size:=Ap z5;show A3 _ _ (Da (.ref z) (.ref g5.objs.size)>>=_) _ _ _;refine Aa ?_;unfold Da;have z6:Eg (g5.push {cls:=.type "tuple",data:=.seq #[x,y]}) z TI TO .ellipsis:=Ad _ z5;refine Aa (Cu z6 (by simp) λg7 z7 s7=>?_)
 replace z7:Eg g7 z TI TO (Ci g5.objs.size):=z7
 refine Cu z7 (by simp) λg8 z8 s8=>?_
 replace z8:Eg g8 z TI TO (Ci g5.objs.size):=z8
 have up:∀c o,c≠z->g5.get? c=some o->g8.get? c=some o:=λc o c1 e=>s8.extBut _ _ c1 (s7.extBut _ _ c1 (Ad _ e));have T8:Cs g8 g5.objs.size x y:=s8.extBut _ _ (Dq zlt) (s7.extBut _ _ (Dq zlt) (Au _ rfl));have e8:g8.objs.size=g5.objs.size+1:=by rw[s8.1,s7.1,Bx]
 rw[sz]at z8 T8 e8;refine Ai ⟨_,rfl,?_⟩;show Q (.ref g5.objs.size) _;rw[sz];exact hQ g8 z8 (up _ _ D.TOz p5) (u1.at λo e=>up _ o D.i1z e) (u2.at λo e=>up _ o D.i2z e) T8 e8 λc o c1 c2 c3 c4 e=>up c o c1 (k5 c o c1 c2 c3 c4 e)
theorem jsf {z TI TO i1 i2 l1 l2:Addr} {k:Nat} {xs:Array Af} {Q:Fin->Aj->Prop} (hh:A.handled=none) (D:ZipApart z TI TO i1 i2 l1 l2)
  (hz:Eg s.heap z TI TO .none) (hTI:Cs s.heap TI (.ref i1) (.ref i2)) (h1:s.heap.IsListIter i1 l1 k) (hl1:s.heap.IsList l1 xs) (hx:xs[k]?=none)
  (hE:∀h' e,(∀c o,c≠z->c≠i1->s.heap.get? c=some o->h'.get? c=some o)->(∃o,h'.get? e=some o/\o.cls=.type "StopIteration")->E (.ref e) {s with heap:=h'}) :
  A3 (A9 prog w) A (Dn.«zip.__next__» ⟨[.ref z],[]⟩) Q E s:=by
 show A3 _ _ (field (.ref z) 2>>=_) _ _ _;refine Aa (Ca hz rfl (x:=.bool false) rfl ?_);show A3 _ _ (field (.ref z) 3>>=_) _ _ _;refine Aa (Ca hz rfl (x:=.ref TI) rfl ?_);refine Aa (Ce hTI rfl ?_);show A3 _ _ (Bv (.ref z)>>=_) _ _ _;refine Aa ?_;unfold Bv;refine Aa (Ca hz rfl (x:=.none) rfl (Ai ?_));simp only[if_true];refine Aa (Ff ?_);refine Aa (Ca hz rfl (x:=.ref TO) rfl ?_);refine Aa (Cu hz (by simp) λg1 hz1 s1=>?_)
 replace hz1:Eg g1 z TI TO .ellipsis:=hz1
 refine Aa ?_;simp only[Gd,List.zipIdx_nil,List.forIn_cons,List.forIn_nil];refine Aa (Aa (Gq ?_));show A3 _ _ (B3 (.ref i1)>>=_) _ _ _;refine Aa (wpAny_nextOf_list_end hh (h1.extBut s1.extBut D.i1z) (hl1.extBut s1.extBut D.l1z) hx λg2 e s2 he=>?_);obtain⟨oe,hoe,hce⟩:=he;have z2:Eg g2 z TI TO .ellipsis:=s2 _ _ D.i1z.symm hz1;have hez:e≠z:=λx=>by subst x;rw[z2]at hoe;cases hoe;simp at hce
 refine Cu z2 (by simp) λg3 _ s3=>hE g3 e (λc o c1 c3 x=>s3.extBut _ _ c1 (s2 _ _ c3 (s1.extBut _ _ c1 x))) ⟨oe,s3.extBut _ _ hez hoe,hce⟩
theorem ji0 {z TI TO i1 i2 l1 l2:Addr} {k:Nat} {xs ys:Array Af} {x y a b:Af} {Q:Option Af->Aj->Prop} (D:ZipApart z TI TO i1 i2 l1 l2)
  (hz:Eg s.heap z TI TO .none) (hTI:Cs s.heap TI (.ref i1) (.ref i2)) (hTO:Cs s.heap TO a b)
  (h1:s.heap.IsListIter i1 l1 k) (h2:s.heap.IsTupleIter i2 l2 k) (hl1:s.heap.IsList l1 xs) (hl2:s.heap.IsTuple l2 ys) (hx:xs[k]?=some x) (hy:ys[k]?=some y)
  (hQ:∀h',Eg h' z TI TO (Ci s.heap.objs.size)->Cs h' TO x y->h'.IsListIter i1 l1 (k+1)->h'.IsTupleIter i2 l2 (k+1)->Cs h' s.heap.objs.size x y->h'.objs.size=s.heap.objs.size+1 ->
   (∀c o,c≠z->c≠TO->c≠i1->c≠i2->s.heap.get? c=some o->h'.get? c=some o)->Q (some (.ref s.heap.objs.size)) {s with heap:=h'}) :
  A3 (A9 prog w) A (Do (.ref z)) Q E s:=by
 have hT:s.TypeIs (.ref z) "zip":=⟨_,hz,rfl⟩;unfold Do;exact Aa (Dv (Br (name:=Cv "__next__") hT D6
  (B4 D6 hT F.entry_zip_next
   (jrf D hz hTI hTO h1 h2 hl1 hl2 hx hy λh' a1 a2 a3 a4 a5 a6 a7=>Ai (hQ h' a1 a2 a3 a4 a5 a6 a7)) (F.args_zip_next_1 _))))
theorem jj9 {z TI TO i1 i2 l1 l2:Addr} {k:Nat} {xs:Array Af} {Q:Option Af->Aj->Prop} (hh:A.handled=none) (D:ZipApart z TI TO i1 i2 l1 l2)
  (hz:Eg s.heap z TI TO .none) (hTI:Cs s.heap TI (.ref i1) (.ref i2)) (h1:s.heap.IsListIter i1 l1 k) (hl1:s.heap.IsList l1 xs) (hx:xs[k]?=none)
  (hQ:∀h',(∀c o,c≠z->c≠i1->s.heap.get? c=some o->h'.get? c=some o)->Q none {s with heap:=h'}):A3 (A9 prog w) A (Do (.ref z)) Q E s:=by
 have hT:s.TypeIs (.ref z) "zip":=⟨_,hz,rfl⟩;unfold Do;refine Aa (Dv (Br (name:=Cv "__next__") hT D6
  (B4 D6 hT F.entry_zip_next (jsf hh D hz hTI h1 hl1 hx λh' e hk he=>?_) (F.args_zip_next_1 _))))
 obtain⟨o,ho,hc⟩:=he;refine Aa (Fj (T:="StopIteration") (b:=true) ⟨o,ho,hc⟩ isSubtype_stop ?_);exact Ai (hQ _ hk)
end
abbrev zj1 (h:Heap) (l1:Addr):Heap:=h.push {cls:=.type "list_iterator",data:=.fields #[.ref l1,.int 0 0]}
abbrev zj2 (h:Heap) (l1 l2:Addr):Heap:=(zj1 h l1).push {cls:=.type "tuple_iterator",data:=.fields #[.ref l2,.int 0 0]}
abbrev zj3 (h:Heap) (l1 l2:Addr):Heap:=(zj2 h l1 l2).push {cls:=.type "tuple",data:=.seq #[.ref h.objs.size,.ref (zj1 h l1).objs.size]}
abbrev zj4 (h:Heap) (l1 l2:Addr):Heap:=(zj3 h l1 l2).push {cls:=.type "tuple",data:=.seq #[.none,.none]}
abbrev zj5 (h:Heap) (l1 l2:Addr):Heap:=(zj4 h l1 l2).push {cls:=.type "zip",data:=.fields #[.none,.bool false,.bool false,.ref (zj2 h l1 l2).objs.size,.ref (zj3 h l1 l2).objs.size]}
theorem ji3 (l1 l2:Addr) (xs ys:Array Af) :
  Meets (Dn.«zip.__new__» ⟨[.type "zip",.ref l1,.ref l2],[]⟩) (λ_ R s=>s.heap.IsList l1 xs/\s.heap.IsTuple l2 ys /\
   R (.ok (.ret (.ref (zj4 s.heap l1 l2).objs.size))) {s with heap:=zj5 s.heap l1 l2}) :=
 .of_wp λprog w A R s h=>by
  obtain⟨hp,g,d,tk,os⟩:=s;obtain⟨hl1,hl2,h⟩:=h;have hsub:=sub_zip;have hL1:Heap.IsList (Shared.heap ⟨hp,g,d,tk,os⟩) l1 xs:=hl1;have hL2:Heap.IsTuple (Shared.heap ⟨hp.push {cls:=.type "list_iterator",data:=.fields #[.ref l1,.int 0 0]},g,d,tk,os⟩) l2 ys:=Heap.IsTuple.push hl2 _
  wp_walk using wpAny_pyIter_list hL1,C7 hL2
  exact⟨_,rfl,h⟩
section
variable {prog:Bg} {w:Bt} {A:B6} {E:Af->Aj->Prop} {s:Aj}
theorem jr4 {l1 l2:Addr} {xs ys:Array Af} {Q:Af->Aj->Prop} (hl1:s.heap.IsList l1 xs) (hl2:s.heap.IsTuple l2 ys)
  (h:∀h',Eg h' (s.heap.objs.size+4) (s.heap.objs.size+2) (s.heap.objs.size+3) .none->Cs h' (s.heap.objs.size+2) (.ref s.heap.objs.size) (.ref (s.heap.objs.size+1)) ->
   Cs h' (s.heap.objs.size+3) .none .none->h'.IsListIter s.heap.objs.size l1 0->h'.IsTupleIter (s.heap.objs.size+1) l2 0 ->
   (∀c o,s.heap.get? c=some o->h'.get? c=some o)->Q (.ref (s.heap.objs.size+4)) {s with heap:=h'}) :
  A3 (A9 prog w) A (call (.type "zip") [.ref l1,.ref l2]) Q E s:=by
 refine callType_new F.called_zip (by decide) (F.typeCall_zip_2 _ _) (F.newCall_zip_2 _ _) (λobj=>F.args_object_init_3 obj _ _) F.entry_zip_new
  (ji3 l1 l2 xs ys) ⟨hl1,hl2,?_⟩
 have z1:(zj1 s.heap l1).objs.size=s.heap.objs.size+1:=Bx ..;have z2:(zj2 s.heap l1 l2).objs.size=s.heap.objs.size+2:=by rw[Bx,z1]
 have z3:(zj3 s.heap l1 l2).objs.size=s.heap.objs.size+3:=by rw[Bx,z2]
 have z4:(zj4 s.heap l1 l2).objs.size=s.heap.objs.size+4:=by rw[Bx,z3]
 have g5:(zj5 s.heap l1 l2).get? (zj4 s.heap l1 l2).objs.size=some _:=Au _ rfl;have g4:(zj5 s.heap l1 l2).get? (zj3 s.heap l1 l2).objs.size=some _:=Ad _ (Au _ rfl);have g3:(zj5 s.heap l1 l2).get? (zj2 s.heap l1 l2).objs.size=some _:=Ad _ (Ad _ (Au _ rfl));have g2:(zj5 s.heap l1 l2).get? (zj1 s.heap l1).objs.size=some _:=Ad _ (Ad _ (Ad _ (Au _ rfl)));have g1:(zj5 s.heap l1 l2).get? s.heap.objs.size=some _:=Ad _ (Ad _ (Ad _ (Ad _ (Au _ rfl))));show _/\_;rw[z2,z3,z4]at g5;rw[z1,z2]at g3;rw[z3]at g4;rw[z1]at g2;rw[z4];exact⟨⟨_,g5,rfl⟩,h _ g5 g3 g4 ⟨_,g1,rfl,rfl⟩ ⟨_,g2,rfl,rfl⟩ λc o x =>
  Ad _ (Ad _ (Ad _ (Ad _ (Ad _ x))))⟩
end
def ItzJ (K:Ah) (a b:Addr):It :=
 ⟨λi H=>∃xs ys x y,SqL K H a xs/\SqT K H b ys/\xs[i]?=some x/\ys[i]?=some y,
  λi H v H'=>∃T x y,v=.ref T/\H T=none/\H'=upd H T (.tup [x,y])/\(∀xs,SqL K H a xs->xs[i]?=some x)/\∀ys,SqT K H b ys->ys[i]?=some y,
  λi H=>∃xs,SqL K H a xs/\xs.length<=i⟩
theorem jsk {P:Bg} {w:Bt} {K:Ah} {elts:List Expr} {kk:Nat} {pos:Pos} {a b z TI TO i1 i2:Addr} (D:ZipApart z TI TO i1 i2 a b):Turn P w K (.Tuple elts kk pos) (ItzJ K a b) [z,TI,TO,i1,i2] z
  (λi h=>Eg h z TI TO .none/\Cs h TI (.ref i1) (.ref i2)/\(∃x y,Cs h TO x y)/\h.IsListIter i1 a i/\h.IsTupleIter i2 b i) where
 mem:=by simp
 obj:=λi h st c hc=>by
  obtain⟨hz,hI,⟨x,y,hO⟩,⟨o1,e1,c1,d1⟩,⟨o2,e2,c2,d2⟩⟩:=st;simp only[Ao,Aw,or_false]at hc;rcases hc with rfl | rfl | rfl | rfl | rfl
  ·exact⟨_,hz,λv q=>by have q':Data.fields _=Data.cell v:=q;cases q'⟩
  ·exact⟨_,hI,λv q=>by have q':Data.seq _ _=Data.cell v:=q;cases q'⟩
  ·exact⟨_,hO,λv q=>by have q':Data.seq _ _=Data.cell v:=q;cases q'⟩
  ·exact⟨o1,e1,λv q=>by rw[d1]at q;cases q⟩
  ·exact⟨o2,e2,λv q=>by rw[d2]at q;cases q⟩
 keep:=λi h h' st k=>by
  obtain⟨hz,hI,⟨x,y,hO⟩,h1,h2⟩:=st;exact⟨k z (by simp) _ hz,k TI (by simp) _ hI,⟨x,y,k TO (by simp) _ hO⟩,h1.at λo e=>k i1 (by simp) o e,h2.at λo e=>k i2 (by simp) o e⟩
 item:=by
  intro X hP hw hK hc i pins s σ H E I hf st hg;subst hP hw hK;obtain⟨hz,hI,⟨x0,y0,hO⟩,h1,h2⟩:=st;obtain⟨xs,ys,x,y,qa,qb,ex,ey⟩:=hg;obtain⟨its,rv,p,_⟩:=I.list qa;obtain⟨jts,rw',p',_⟩:=I.tuple qb;obtain⟨u,hu,ru⟩:=rv.get ex;obtain⟨u',hu',ru'⟩:=rw'.get ey;refine ji0 D hz hI hO h1 h2 (p.isList) (show s.heap.IsTuple b jts.toArray from p') (x:=u) (y:=u') (by simpa using hu) (by simpa using hu') λh' a1 a2 a3 a4 a5 a6 a7=>⟨_,rfl,?_⟩;refine wpAny_letOwnedTupleGo_zip (s:={ s with heap:=h'}) a1 λh'' b1 b2=>?_;have T:h''.get? s.heap.objs.size=some {cls:=.type "tuple",data:=.seq #[u,u']}:=b2.extBut _ _ (Dq (Ap hz)) a5;have Tn:H s.heap.objs.size=none:=I.hok.fresh (Al _);have kp:∀c o,c∉[z,TI,TO,i1,i2]->s.heap.get? c=some o->h''.get? c=some o:=λc o hc e=>by
   simp only[Ao,Aw,or_false,not_or]at hc;exact b2.extBut _ _ hc.1 (a7 c o hc.1 hc.2.2.1 hc.2.2.2.1 hc.2.2.2.2 e)
  refine⟨.ref s.heap.objs.size,upd H s.heap.objs.size (.tup [x,y]),I.many (t':=s.toks) hf kp (Al _) ⟨by show 2<=A1;decide,[u,u'],.cons ru (.cons ru' .nil),_,T,rfl,⟨_,rfl⟩,rfl⟩,rfl,⟨_,x,y,rfl,Tn,rfl,λzs q=>by rw[I.list_inj q qa];exact ex,λzs q=>by rw[I.tuple_inj q qb];exact ey⟩,
   ⟨b1,b2.extBut _ _ D.TIz (a7 _ _ D.TIz D.TITO D.TIi1 D.TIi2 hI),⟨_,_,b2.extBut _ _ D.TOz a2⟩,a3.extBut b2.extBut D.i1z,a4.extBut b2.extBut D.i2z⟩,λc hc=>?_⟩
  have hlt:c < s.heap.objs.size:=by
   simp only[Ao,Aw,or_false]at hc;rcases hc with rfl | rfl | rfl | rfl | rfl
   ·exact Ap hz
   ·exact Ap hI
   ·exact Ap hO
   ·obtain⟨_,e,_⟩:=h1;exact Ap e
   ·obtain⟨_,e,_⟩:=h2;exact Ap e
  rw[jao (Bb hlt)];exact(hf c hc).1
 done:=by
  intro X hP hw hK hc i pins s σ H E I hf st hg;subst hP hw hK;obtain⟨hz,hI,_,h1,h2⟩:=st;obtain⟨xs,hq,hx⟩:=hg;obtain⟨its,rv,p,_⟩:=I.list hq;have hl:=rv.length;refine jj9 (I.ok.hd hc) D hz hI h1 (p.isList) (by simp;omega) λh' k=>⟨rfl,I.many0 (t':=s.toks) hf λc o hc e=>?_⟩;simp only[Ao,Aw,or_false,not_or]at hc;exact k c o hc.1 hc.2.2.2.1 e
 self:=λ_ _ _ _ _ st h=>wpAny_pyIter_zip st.1 h
def j5a (K:Ah) (ta:TA):TI:=λσ H R=>ta σ H λvs H1=>∃a b,vs=[.ref a,.ref b]/\(∃xs,SqL K H1 a xs)/\(∃ys,SqT K H1 b ys)/\R (ItzJ K a b) H1
theorem j08 {X:Cx} {elts:List Expr} {kk:Nat} {tpos:Pos} {e1 e2:Expr} {ta:TA} {p pos:Pos} (hg:Gl X "zip") (hm:X.mg "zip"=none) (ha:PA X [e1,e2] ta) (hs:Az [e1,e2] X.env=[(false,eval e1 X.env),(false,eval e2 X.env)]:=by rfl) (hs2:Az [e2] X.env=[(false,eval e2 X.env)]:=by rfl) :
  PI X (.Tuple elts kk tpos) (.Call (.Name "zip" p) [e1,e2] [] pos) (j5a X.K ta):=by
 intro pins s σ H R I h;refine Call_ (ji8 I hg hm jz3 (Di (thn (ha pos pins s σ H _ I h) λus s1 ⟨vs,H1,I1,r1,q1⟩=>?_) (by rw[hs,hs2]) (by rw[hs2];rfl)));obtain⟨a,b,e,⟨xs,qa⟩,⟨ys,qb⟩,q⟩:=q1;subst e;cases r1 with
 |cons r rr =>
  cases rr with
  |cons r' rr =>
   cases rr;cases r;cases r';obtain⟨its,rv,pp,_⟩:=I1.list qa;obtain⟨jts,rw',pp',_⟩:=I1.tuple qb;have la:a < s1.heap.objs.size:=by obtain⟨_,e,_⟩:=pp.isList;exact Ap e
   have lb:b < s1.heap.objs.size:=by obtain⟨_,e,_⟩:=id pp';exact Ap e
   refine jr4 pp.isList (show s1.heap.IsTuple b jts.toArray from pp') λh' a1 a2 a3 a4 a5 a6=>wpAny_pyIter_zip (s:={ s1 with heap:=h'}) a1 ?_;refine⟨_,_,_,_,H1,rfl,I1.kept (t':=s1.toks) a6,jsk (zipApart_new la lb),⟨a1,a2,⟨_,_,a3⟩,a4,a5⟩,λc hc=>?_,q⟩;have hlt:s1.heap.objs.size<=c:=by
    simp only[Ao,Aw,or_false]at hc;rcases hc with rfl | rfl | rfl | rfl | rfl<;>omega
   exact I1.fpOk hlt (I1.hok.fresh hlt)
end L2
namespace DL
open PySem L2 Nb
section
variable {X:Cx} {a b:Expr} {ta tb:TE} {wa wb:DT} {pos p:Pos} {K:Ah}
def jus (w w':DT):DTI:=λδ n Q=>w δ n λx n1=>w' δ n1 λy n2=>match x,y with
 |.d (.list xs),.d (.tuple ys)=>xs.length=ys.length/\Q (zipD xs ys) n2
 |_,_=>False
theorem j47 {elts:List Expr} {kk:Nat} {tpos:Pos} (hg:Gl X "zip") (hm:X.mg "zip"=none) (ha:DE X a ta wa) (hb:DE X b tb wb) (hK:X.K=K:=by rfl) (hs:Az [a,b] X.env=[(false,eval a X.env),(false,eval b X.env)]:=by rfl) (hs2:Az [b] X.env=[(false,eval b X.env)]:=by rfl)
  (he1:Az [a,b] X.env=(false,eval a X.env)::Az [b] X.env:=by rfl) (he2:Az [b] X.env=(false,eval b X.env)::Az [] X.env:=by rfl) :
  DI X (.Tuple elts kk tpos) (.Call (.Name "zip" p) [a,b] [] pos) (j5a K (jcv ta (jcv tb tNil))) (jus wa wb):=by
 subst hK;refine⟨j08 hg hm (ja0 ha.pe (ja0 hb.pe jb0 he2) he1) hs hs2,λC H B σ δ n Q Q' R q k=>ha.sd C H B σ δ n _ _ R q λv x H1 n1 R1 k1 r1 q1=>hb.sd C H1 B σ δ n1 _ _ R1 q1 λu y H2 n2 R2 k2 r2 q2=>?_⟩;have r1':=r1.kp k2 R1.bt
 split at q2
 ·rename_i xs ys;cases(show RdX H2 B v (.list xs)from r1')with
  |@lst aa vs _ e1 e2 e3 e4 =>
   cases(show RdX H2 B u (.tuple ys)from r2)with
   |@tup ab ws _ f1 f2 f3 f4 =>
    refine⟨aa,ab,rfl,⟨vs,SqL.of e1⟩,⟨ws,SqT.of f1⟩,k _ (zipD xs ys) H2 n2 R2 (k1.trans k2) (λfz th=>?_) q2.2⟩;have za:fz aa=some (.lst vs):=th.2 _ _ e1 e2;have zb:fz ab=some (.tup ws):=th.2 _ _ f1 f2;have lz:(zipD xs ys).length=xs.length:=by unfold zipD;rw[List.length_zipWith,q2.1,Nat.min_self]
    refine⟨by rw[lz,<-e4.len];exact e3,λi H hH hi=>?_,λH hH=>?_,λi H x H' d hH hd hy=>?_⟩
    ·rw[lz]at hi;have h1:i < vs.length:=by rw[e4.len];exact hi
     have h2:i < ws.length:=by rw[f4.len,<-q2.1];exact hi
     exact⟨vs,ws,vs[i],ws[i],SqL.of (hH _ _ za),SqT.of (hH _ _ zb),Ag h1,Ag h2⟩
    ·exact⟨vs,SqL.of (hH _ _ za),by rw[lz,e4.len];exact Al _⟩
    ·obtain⟨T,x1,y1,rfl,hT,rfl,hx,hy⟩:=hy;refine⟨λb o e=>by rw[jao (jaj e hT)];exact e,λB' hB hBa=>?_⟩;have hi:i < xs.length:=by rw[<-lz];exact(Ay.mp hd).1
     have hi2:i < ys.length:=by rw[<-q2.1];exact hi
     have ed:d=.tuple [xs[i],ys[i]]:=by
      unfold zipD at hd;rw[List.getElem?_zipWith,Ag hi,Ag hi2]at hd;exact(Aq hd).symm
     subst ed;obtain⟨u1,hu1,ru1⟩:=e4.getD (Ag hi);obtain⟨u2,hu2,ru2⟩:=f4.getD (Ag hi2);have t1:=hx _ (SqL.of (hH _ _ za));have t2:=hy _ (SqT.of (hH _ _ zb));rw[hu1]at t1;rw[hu2]at t2;cases t1;cases t2;have mv:∀b o,H2 b=some o->¬B b->upd H T (.tup [x1,y1]) b=some o/\¬B' b:=λb o e ne=>by
      have:=hH _ _ (th.2 _ _ e ne);exact⟨by rw[jao (jaj this hT)];exact this,hB _ _ (th.2 _ _ e ne)⟩
     exact .tup jap (λz=>hBa T z hT) (by show 2<=A1;decide) (.cons (ru1.move mv) (.cons (ru2.move mv) .nil))
 ·exact q2.elim
end
end DL
namespace Nb
open PySem L2 DL
theorem jdg {c:DTT} {w:DT} {Q:List Ae->Int->Prop} {rest:Sl} (P:Ae->Prop) (p:Ae->Bool) (f:Ae->Ae) (hp:∀d n Q',P d->Q' (p d) n->c (some (.w (.d d))::rest) n Q') (h:∀d n Q',P d->Q' (.d (f d)) n->w (some (.w (.d d))::rest) n Q') :
  ∀(items acc:List Ae) (x:Option SV) (n:Int),(∀d∈items,P d)->Q (acc++(items.filter p).map f) n->jco (jak 0) c w Q items acc (x::rest) n
 |[],acc,x,n,hP,q=>by
  rw[List.filter_nil,Fu,B9]at q;exact q
 |d::r,acc,x,n,hP,q=>by
  simp only[jco,jak,Ek];refine hp d n _ (hP d A2) ?_;cases e:p d with
  |true =>
   rw[if_pos rfl];refine h d n _ (hP d A2) ?_;refine jdg P p f hp h r (acc++[f d]) _ n (λe he=>hP e (As _ he)) ?_;rw[List.filter_cons_of_pos e]at q;rw[Bw];exact q
  |false =>
   rw[if_neg Ak];refine jdg P p f hp h r acc _ n (λe he=>hP e (As _ he)) ?_;rw[List.filter_cons_of_neg (by rw[e];exact Ak)]at q;exact q
def okD:Ae->Bool
 |.str y=>!decide (y.cps.toList < ("a":Str).cps.toList)&&!decide (("z":Str).cps.toList < y.cps.toList)
 |_=>false
theorem jrc {α:Type} {xs:List α} {r:Int} (h0:0<=r) (h1:r < xs.length):∃v,atI xs r=some v/\v∈xs:=by
 obtain⟨j,rfl⟩:=Int.eq_ofNat_of_zero_le h0;have hj:j < xs.length:=by omega
 exact⟨xs[j],jbw (Ag hj),Df hj⟩
theorem ifb {b:Bool} {A B:Prop} (h1:b=true->A) (h2:b=false->B):if b=true then A else B:=by
 cases b with
 |true=>rw[if_pos rfl];exact h1 rfl
 |false=>rw[if_neg Ak];exact h2 rfl
theorem jq5 {n many:Int} {Q:DQ} (h:n < 2 ^ 40) (h0:0 < many) (h1:many < 1073741824) (k:∀r:Int,0<=r->r < many->Q (.d (.int r)) (n+1)):jav [.tp,.d (.int many)] n Q:=⟨⟨h,h0,h1⟩,k⟩
theorem jqz {ds:List Ae} {r:Int} {n:Int} {Q:DQ} (h0:0<=r) (h1:r < (ds.length:Int)) (k:∀d∈ds,Q (.d d) n):gIx (.d (.list ds)) (.d (.int r)) n Q:=by
 obtain⟨v,hv,hm⟩:=jrc h0 h1;show match atI ds r with | some d=>Q (.d d) n | none=>False
 simp only[hv];exact k v hm
theorem jve {w:DT} {Q:List Ae->Int->Prop} {rest:Sl} (c:Nat) (h:∀d n Q',n+(c:Int) < 2 ^ 39->(∀y n',n'<=n+(c:Int)->Q' (.d y) n')->w (some (.w (.d d))::rest) n Q') :
  ∀(items acc:List Ae) (x:Option SV) (n:Int),n+(c:Int)*(items.length:Int) < 2 ^ 39->(∀ds n',n'<=n+(c:Int)*(items.length:Int)->Q ds n')->jco (jak 0) cYes w Q items acc (x::rest) n
 |[],acc,x,n,hn,q=>q acc n (by simp)
 |d::r,acc,x,n,hn,q=>by
  simp only[jco,jak,cYes,if_true,Ek];rw[Ax]at hn q;have e:(c:Int)*((r.length+1:Nat):Int)=(c:Int)*(r.length:Int)+c:=by rw[Int.natCast_add,Int.mul_add];simp
  rw[e]at hn q;have hc:0<=(c:Int)*(r.length:Int):=Int.mul_nonneg (Gv _) (Gv _);refine h d n _ (by omega) λy n' hn'=>?_;exact jve c h r (acc++[y]) _ n' (by omega) λds n'' h''=>q ds n'' (by omega)
theorem jbq (n:Nat):(rngD 0 n).length=n:=by unfold rngD;simp
theorem jg7 {w:DT} {Q:List Ae->Int->Prop} {rest:Sl} (P:Ae->Prop) (c:Nat) (h:∀d n Q',n+(c:Int) < 2 ^ 39->(∀y n',P y->n'<=n+(c:Int)->Q' (.d y) n')->w (some (.w (.d d))::rest) n Q') :
  ∀(items acc:List Ae) (x:Option SV) (n:Int),n+(c:Int)*(items.length:Int) < 2 ^ 39->(∀ds n',ds.length=items.length->(∀d∈ds,P d)->n'<=n+(c:Int)*(items.length:Int)->Q (acc++ds) n')->jco (jak 0) cYes w Q items acc (x::rest) n
 |[],acc,x,n,hn,q=>by
  have:=q [] n rfl (by simp) (by simp);rwa [B9]at this
 |d::r,acc,x,n,hn,q=>by
  simp only[jco,jak,cYes,if_true,Ek];rw[Ax]at hn q;have e:(c:Int)*((r.length+1:Nat):Int)=(c:Int)*(r.length:Int)+c:=by rw[Int.natCast_add,Int.mul_add];simp
  rw[e]at hn q;have hc:0<=(c:Int)*(r.length:Int):=Int.mul_nonneg (Gv _) (Gv _);refine h d n _ (by omega) λy n' hy hn'=>?_;refine jg7 P c h r (acc++[y]) _ n' (by omega) λds n'' hl hds h''=>?_;rw[Bw];refine q (y::ds) n'' (by rw[Ax,hl]) (λd hd=>?_) (by omega);rcases Ao.mp hd with rfl | z
  ·exact hy
  ·exact hds d z
theorem eq_str (a:Ae) (h:Str):eqD a (.str h)=some (jbc h a):=by cases a<;>rfl
theorem eq_int (i j:Int):eqD (.int i) (.int j)=some (decide (i=j)):=rfl
theorem at0 {α:Type} (a:α) (r:List α):atI (a::r) 0=some a:=jbw (j:=0) rfl
theorem at1 {α:Type} (a b:α) (r:List α):atI (a::b::r) 1=some b:=jbw (j:=1) rfl
section
variable {δ:Sl} {n:Int} {Q:DQ} {K:DEnds} {W V:DST} {i j:Nat} {a b d:Ae} {r ds:List Ae} {h:Str}
theorem jal (h:W δ n {K with nx:=λδ n=>V δ n K}):sSeq W V δ n K:=h
theorem jad {x:Wv} (e:δ[i]?=some (some (.w x))) (k:Q x n):wVar i δ n Q:=by unfold wVar;rw[e];exact k
theorem ix_i {m:Nat} (e:δ[i]?=some (some (.w (.d (.tuple ds))))) (e2:ds[m]?=some a) (k:Q (.d a) n):w2 (wVar i) (wC (.int (m:Int))) gIx δ n Q:=by
 unfold w2;refine jad e ?_;unfold wC gIx;simp only[jbw e2];exact k
theorem jds (e:δ[i]?=some (some (.w (.d (.tuple (a::r)))))) (k:Q (.d a) n):w2 (wVar i) (wC (.int 0)) gIx δ n Q:=ix_i (m:=0) e rfl k
theorem jee (e:δ[i]?=some (some (.w (.d (.tuple (a::b::r)))))) (k:Q (.d b) n):w2 (wVar i) (wC (.int 1)) gIx δ n Q:=ix_i (m:=1) e rfl k
theorem jx1 (e:δ[i]?=some (some (.w (.d (.tuple (a::r)))))) (k:Q (.d (.bool (jbc h a))) n):w2 (w2 (wVar i) (wC (.int 0)) gIx) (wC (.str h)) gEq δ n Q:=by
 show w2 (wVar i) (wC (.int 0)) gIx δ n λx n1=>wC (.str h) δ n1 λy n2=>gEq x y n2 Q;refine jds e ?_;unfold wC gEq;simp only[eq_str];exact k
theorem if_i {c:DTT} (k:c δ n λb n1=>if b=true then W δ n1 K else V δ n1 K):sIf c W V δ n K:=k
theorem j1z (e:δ[i]?=some (some (.w (.d (.tuple (a::r)))))) (hT:jbc h a=true->W δ n K) (hF:jbc h a=false->V δ n K):sIf (cT (w2 (w2 (wVar i) (wC (.int 0)) gIx) (wC (.str h)) gEq)) W V δ n K:=by
 unfold sIf cT;exact jx1 e (ifb hT hF)
theorem jmd (e:δ[i]?=some (some (.w (.d (.tuple (a::r)))))) (z:jbc h a=false) (hF:V δ n K):sIf (cT (w2 (w2 (wVar i) (wC (.int 0)) gIx) (wC (.str h)) gEq)) W V δ n K:=j1z e (λq=>by rw[z]at q;cases q) λ_=>hF
theorem j1y (e:δ[i]?=some (some (.w (.d (.tuple (a::r)))))) (z:jbc h a=true) (hT:W δ n K):sIf (cT (w2 (w2 (wVar i) (wC (.int 0)) gIx) (wC (.str h)) gEq)) W V δ n K:=j1z e (λ_=>hT) λq=>by rw[z]at q;cases q
end
theorem jxr:jbc "is" (.str "is")=true:=by decide +kernel
theorem juu:jbc "is" (.str "any")=false:=by decide +kernel
theorem jrw:jbc "is" (.str "word")=false:=by decide +kernel
theorem jn7:jbc "is" (.str "number")=false:=by decide +kernel
theorem jrx:jbc "is" (.str "bind")=false:=by decide +kernel
theorem jxs:jbc "is" (.str "as")=false:=by decide +kernel
theorem jn8:jbc "bind" (.str "bind")=true:=by decide +kernel
section
variable {δ:Sl} {n:Int} {Q:DQ} {K:DEnds} {W V:DST} {i j:Nat} {a b d:Ae} {r ds:List Ae}
theorem w2_i {wa wb:DT} {g:Wv->Wv->Int->DQ->Prop} (k:wa δ n λx n1=>wb δ n1 λy n2=>g x y n2 Q):w2 wa wb g δ n Q:=k
theorem ja2 {w:DT} {x:Ae} (h:∀Q:DQ,Q (.d x) n->w δ n Q) (k:K.nx (δ.set i (some (.w (.d x)))) n):sSet i w δ n K:=h _ k
theorem jem (k:K.nx (δ.set i (some (.own []))) n):sOwn i (fLst aNil) δ n K:=⟨Bj _,k⟩
theorem g0_i (k:Q (.d a) n):gIx (.d (.tuple (a::r))) (.d (.int 0)) n Q:=by
 show(match atI (a::r) 0 with | some d=>Q (.d d) n | none=>False);rw[at0];exact k
theorem g1_i (k:Q (.d b) n):gIx (.d (.tuple (a::b::r))) (.d (.int 1)) n Q:=by
 show(match atI (a::b::r) 1 with | some d=>Q (.d d) n | none=>False);rw[at1];exact k
theorem g2_i {c:Ae} (k:Q (.d c) n):gIx (.d (.tuple (a::b::c::r))) (.d (.int 2)) n Q:=by
 show(match atI (a::b::c::r) 2 with | some d=>Q (.d d) n | none=>False);rw[show atI (a::b::c::r) 2=some c from jbw (j:=2) rfl];exact k
theorem c_i {c:Ae} (k:Q (.d c) n):wC c δ n Q:=k
theorem b1_i {w:DT} {g:List Wv->Int->DQ->Prop} (k:w δ n λx n1=>g [x] n1 Q):wB g (jab w aNil) δ n Q:=k
theorem c1_i {w:DT} {S:DSp} (k:w δ n λx n1=>S [x] n1 Q):jam S (jab w aNil) δ n Q:=k
theorem c2_i {w w':DT} {S:DSp} (k:w δ n λx n1=>w' δ n1 λy n2=>S [x,y] n2 Q):jam S (jab w (jab w' aNil)) δ n Q:=k
theorem c3_i {w w' w'':DT} {S:DSp} (k:w δ n λx n1=>w' δ n1 λy n2=>w'' δ n2 λz n3=>S [x,y,z] n3 Q):jam S (jab w (jab w' (jab w'' aNil))) δ n Q:=k
theorem of_i {w:DTF} (k:w δ n λds n1=>Q (.d (.list ds)) n1):wOf w δ n Q:=k
theorem jg6 {fr:List (Option Nat)} {w e:DT} {g:DTG} {c:DTT} {Q:List Ae->Int->Prop} (hw:∀Q:DQ,Q (.d (.tuple ds)) n->w δ n Q) (k:jco g c e Q ds [] (jmt fr δ) n):jb6 fr (jdi w) g c e δ n Q:=by
 unfold jb6 jdi;exact hw _ k
theorem jxh (e:δ[i]?=some (some (.w (.d (.tuple ds))))) (k:Q (.d (.int ds.length)) n):wB gLen (jab (wVar i) aNil) δ n Q:=b1_i (jad e k)
theorem j4h (e:δ[j]?=some (some (.w (.d (.tuple ds))))) (k:K.nx (δ.set i (some (.own ds))) n):sOwn i (jd2 (wVar j)) δ n K:=by
 unfold sOwn jd2;exact jad e k
theorem jbi {w:DT} (k:w δ n K.rt):sRet w δ n K:=k
theorem j2g {wa wb wc:DT} {x y z:Int} (ha:∀Q:DQ,Q (.d (.int x)) n->wa δ n Q) (hb:∀Q:DQ,Q (.d (.int y)) n->wb δ n Q) (hc:∀Q:DQ,Q (.d (.int z)) n->wc δ n Q) (h:x<=y) (k:Q (.d (.bool (decide (y<=z)))) n):jp7 gLe gLe wa wb wc δ n Q:=by
 refine ha _ (hb _ ?_);show jjt (.d (.bool (decide (x<=y)))) (wc δ n λu n4=>gLe (.d (.int y)) u n4 Q) (Q (.d (.bool false)) n);rw[decide_eq_true h];exact hc _ k
theorem jh9 (e:δ[i]?=some (some (.own ds))) (k:W (δ.set i (some (.w (.d (.list ds))))) n K):sFrz i W δ n K:=by
 unfold sFrz;rw[e];exact k
theorem j52 {u v:DT} (hu:∀Q:DQ,Q (.d (.bool true)) n->u δ n Q) (hv:v δ n Q):wAnd u v δ n Q:=hu _ hv
theorem ct_b {w:DT} {k:Bool} {Q:Bool->Int->Prop} (hw:∀Q':DQ,Q' (.d (.bool k)) n->w δ n Q') (q:Q k n):cT w δ n Q:=hw _ q
theorem if_n {C:DTT} (hc:∀Q:Bool->Int->Prop,Q false n->C δ n Q) (hF:V δ n K):sIf C W V δ n K:=hc _ (by show if false=true then _ else _;rw[if_neg Ak];exact hF)
theorem if_y {C:DTT} (hc:∀Q:Bool->Int->Prop,Q true n->C δ n Q) (hT:W δ n K):sIf C W V δ n K:=hc _ (by show if true=true then _ else _;rw[if_pos rfl];exact hT)
theorem jg5 {A B:DTT} {Q:Bool->Int->Prop} (ha:∀Q:Bool->Int->Prop,Q false n->A δ n Q) (hb:B δ n Q):cOr A B δ n Q:=ha _ (by show if false=true then _ else _;rw[if_neg Ak];exact hb)
theorem jyb {A B:DTT} {Q:Bool->Int->Prop} (ha:∀Q:Bool->Int->Prop,Q true n->A δ n Q) (k:Q true n):cOr A B δ n Q:=ha _ (by show if true=true then _ else _;rw[if_pos rfl];exact k)
theorem jdt {A B:DTT} {Q:Bool->Int->Prop} (ha:∀Q:Bool->Int->Prop,Q true n->A δ n Q) (hb:B δ n Q):cAnd A B δ n Q:=ha _ (by show if true=true then _ else _;rw[if_pos rfl];exact hb)
theorem jok {A:DTT} {k:Bool} {Q:Bool->Int->Prop} (ha:∀Q:Bool->Int->Prop,Q k n->A δ n Q) (q:Q (!k) n):cNot A δ n Q:=ha _ q
end
theorem jbh {g:DTG} {W:DST} {K:DEnds} (I:List Ae->Sl->Int->Prop) (h0:∀δ n,I [] δ n->K.nx δ n)
  (h1:∀d r δ n (N:Sl->Int->Prop),I (d::r) δ n->(∀δ n,I r δ n->N δ n)->g d δ λδ'=>W δ' n {K with nx:=N,ct:=N,bk:=K.nx}):∀ds δ n,I ds δ n->forD g W K ds δ n
 |[],δ,n,h=>h0 δ n h
 |d::r,δ,n,h=>h1 d r δ n (forD g W K r) h (jbh I h0 h1 r)
theorem jys {n:Int} {Q:DQ} (k:Q (.d (.bool false)) n):gXX (λd e=>some (!Bd d e)) (.d (.list [])) (.d (.list [])) n Q :=
 Am rfl ⟨rfl,by decide,by decide,false,rfl,k⟩
section
variable {δ:Sl} {n m:Int} {Q:DQ} {K:DEnds} {W V:DST} {i j:Nat} {ds:List Ae}
theorem jft {w:DT} (e0:δ[0]?=some (some (.w .tp))) (hw:∀Q:DQ,Q (.d (.int m)) n->w δ n Q) (h:n < 2 ^ 40) (h0:0 < m) (h1:m < 1073741824) (k:∀r:Int,0<=r->r < m->Q (.d (.int r)) (n+1)):jam jav (jab (wVar 0) (jab w aNil)) δ n Q :=
 c2_i (jad e0 (hw _ (jq5 h h0 h1 k)))
theorem jev (e0:δ[0]?=some (some (.w .tp))) (h:n < 2 ^ 40) (h0:0 < m) (h1:m < 1073741824) (k:∀r:Int,0<=r->r < m->Q (.d (.int r)) (n+1)):jam jav (jab (wVar 0) (jab (wC (.int m)) aNil)) δ n Q:=jft e0 (λQ q=>c_i q) h h0 h1 k
theorem jtd (e0:δ[0]?=some (some (.w .tp))) (h:n < 2 ^ 40) (h0:0 < m) (h1:m < 1073741824) (k:∀r:Int,0<=r->r < m->K.nx (δ.set i (some (.w (.d (.int r))))) (n+1)):sSet i (jam jav (jab (wVar 0) (jab (wC (.int m)) aNil))) δ n K:=jev e0 h h0 h1 k
theorem jpp {r:Int} (h0:0<=r) (h1:r < (ds.length:Int)) (k:∀d∈ds,Q (.d d) n):gIxL (.ln ds) (.d (.int r)) n Q:=by
 obtain⟨v,hv,hm⟩:=jrc h0 h1;show(match atI ds r with | some d=>Q (.d d) n | none=>False);rw[hv];exact k v hm
theorem jcq {r:Int} (h0:0<=r) (h1:r < (ds.length:Int)) (k:∀d∈ds,Q (.d d) n):gIxL (.d (.list ds)) (.d (.int r)) n Q:=jqz h0 h1 k
theorem jny (e:δ[i]?=some (some (.own ds))) (k:Q (.ln ds) n):jgq i δ n Q:=by
 unfold jgq;rw[e];exact k
theorem jvo {w:DT} {x:Ae} {es:List Ae} (e:δ[i]?=some (some (.own es))) (hw:∀Q:DQ,Q (.d x) m->w δ n Q) (hl:es.length < 1000000) (k:K.nx (δ.set i (some (.own (es++[x])))) m):sApp i w δ n K:=by
 unfold sApp;rw[e];exact hw _ (Am hl k)
theorem jm1 {w:DT} {es:List Ae} (e:δ[i]?=some (some (.own es))) (k:w δ n λx n1=>match x with
  |.d d=>es.length < 1000000/\K.nx (δ.set i (some (.own (es++[d])))) n1
  |_=>False):sApp i w δ n K:=by
 unfold sApp;rw[e];exact k
theorem jci {w w':DT} (k:w δ n λx n1=>w' δ n1 λy n2=>match jel [x,y]with
  |some ds=>ds.length<=1000/\Q (.d (.tuple ds)) n2
  |none=>False):wTup (jab w (jab w' aNil)) δ n Q:=k
theorem jsn {w w' w'':DT} (k:w δ n λx n1=>w' δ n1 λy n2=>w'' δ n2 λz n3=>match jel [x,y,z]with
  |some ds=>ds.length<=1000/\Q (.d (.tuple ds)) n3
  |none=>False):wTup (jab w (jab w' (jab w'' aNil))) δ n Q:=k
theorem jik (k:Q (.d (.tuple ds)) n):jcu [.d (.list ds)] n Q:=k
theorem lt_i {a b:Int} (k:Q (.d (.bool (decide (a < b)))) n):gLt (.d (.int a)) (.d (.int b)) n Q:=k
theorem iflt {a b:Int} (e:δ[i]?=some (some (.w (.d (.int a))))) (hT:a < b->W δ n K) (hF:¬a < b->V δ n K):sIf (cT (w2 (wVar i) (wC (.int b)) gLt)) W V δ n K:=by
 refine if_i (w2_i (jad e (c_i ?_)));show if decide (a < b)=true then _ else _
 by_cases h:a < b
 ·rw[if_pos (decide_eq_true h)];exact hT h
 ·rw[if_neg (by simpa using h)];exact hF h
end
section
variable {δ:Sl} {n m:Int} {Q:DQ} {K:DEnds} {W V:DST} {i j:Nat} {ds:List Ae}
theorem j55 {w w' w'' v:DT} (k:w δ n λx n1=>w' δ n1 λy n2=>w'' δ n2 λz n3=>v δ n3 λu n4=>match jel [x,y,z,u]with
  |some ds=>ds.length<=1000/\Q (.d (.tuple ds)) n4
  |none=>False):wTup (jab w (jab w' (jab w'' (jab v aNil)))) δ n Q:=k
theorem jfq (k:Q (.d (.list [])) n):wOf (fLst aNil) δ n Q:=Am (Bj _) k
theorem eqLn (k:Q (.d (.bool ds.isEmpty)) n):gEqL (.ln ds) (.d (.list [])) n Q:=k
theorem eqLi {a b:Int} (k:Q (.d (.bool (decide (a=b)))) n):gEqL (.d (.int a)) (.d (.int b)) n Q:=k
theorem ifeq {a b:Int} (e:δ[i]?=some (some (.w (.d (.int a))))) (hT:a=b->W δ n K) (hF:¬a=b->V δ n K):sIf (cT (w2 (wVar i) (wC (.int b)) gEqL)) W V δ n K:=by
 refine if_i (w2_i (jad e (c_i ?_)));show if decide (a=b)=true then _ else _
 by_cases h:a=b
 ·rw[if_pos (decide_eq_true h)];exact hT h
 ·rw[if_neg (by simpa using h)];exact hF h
theorem ifgt {a b:Int} (e:δ[i]?=some (some (.w (.d (.int a))))) (hT:b < a->W δ n K) (hF:¬b < a->V δ n K):sIf (cT (w2 (wVar i) (wC (.int b)) gGt)) W V δ n K:=by
 refine if_i (w2_i (jad e (c_i ?_)));show if decide (b < a)=true then _ else _
 by_cases h:b < a
 ·rw[if_pos (decide_eq_true h)];exact hT h
 ·rw[if_neg (by simpa using h)];exact hF h
end
theorem jjg (hs:List Str):(hs.map Dj).all jeu=true:=by
 rw[E4];intro d hd;obtain⟨x,_,rfl⟩:=Bq.mp hd;rfl
theorem jzd {δ:Sl} {n m:Int} {K:DEnds} {W:DST} {g:DTG} {L:List Ae} {wl:DT} {M:Nat} (e:δ[0]?=some (some (.w .tp))) (hl:∀Q:DQ,Q (.d (.list L)) n->wl δ n Q) (hn:n < 2 ^ 40) (hm:m=L.length) (h0:0 < m) (h1:m < 1000) (hL:∀d∈L,∃j:Nat,j<=M/\d=.int j) (hM:M<=1000) (k:∀j:Nat,j<=M->forD g W K (rngD 0 j) δ (n+1)) :
  sFor (ja1 (w2 wl (jam jav (jab (wVar 0) (jab (wC (.int m)) aNil))) gIxL)) g W δ n K:=by
 unfold sFor ja1;refine w2_i (hl _ (jev e hn h0 (by omega) λr r0 r1=>jcq r0 (by omega) λd hd=>?_));obtain⟨j,hj,rfl⟩:=hL d hd;refine Am ⟨by omega,by omega⟩ ?_;rw[Bp];exact k j hj
theorem j4t {ds:List Ae} {n:Int} {Q:DQ} (k:Q (.d (.int ds.length)) n):jg1 [.ln ds] n Q:=k
theorem gN_i {n:Int} {Q:DQ} {i:Nat} {x:Ae} {xs:List Ae} (h:xs[i]?=some x) (k:Q (.d x) n):gIx (.d (.tuple xs)) (.d (.int (i:Nat))) n Q:=by
 show(match atI xs ((i:Nat):Int)with | some d=>Q (.d d) n | none=>False);rw[jbw h];exact k
theorem jz0 (xs:List Ae) {p:Nat} (hp:p<=xs.length):cutD xs none (some (p:Int))=xs.take p:=by
 unfold cutD;rw[HT.sIx_nat];show(xs.drop 0).take (min p xs.length - 0)=_;rw[List.drop_zero,Nat.sub_zero,Nat.min_eq_left hp]
abbrev Nm:=List (Str×Ae)
inductive Fd where
 |is (v:Ae) | any | word | number | bind (x:Str) | as (x:Str)
def Fd.d:Fd->Ae
 |.is v=>.tuple [.str "is",v]
 |.any=>.tuple [.str "any"]
 |.word=>.tuple [.str "word"]
 |.number=>.tuple [.str "number"]
 |.bind x=>.tuple [.str "bind",.str x]
 |.as x=>.tuple [.str "as",.str x]
abbrev okX (x:Str):Prop:=x.length<=4/\PyData.strOk x=true
def isV:Ae->Bool
 |.str x=>decide (x.length<=8)&&PyData.strOk x
 |.int i=>decide (0<=i)&&(decide (i<=99)&&(decide (Fy (.int i)<=20)&&(Ex 13 (.int i)&&Fh (.int i))))
 |_=>false
def Fd.ok:Fd->Prop
 |.is v=>isV v=true
 |.bind x=>okX x
 |.as x=>okX x
 |_=>True
def eqB (a b:Ae):Bool:=(eqD a b).getD false
theorem jx3 {a b:Ae} (ha:isV a=true) (hb:isV b=true):eqD a b=some (eqB a b):=by
 cases a<;>first | cases ha | (cases b<;>first | cases hb | rfl)
theorem j5l {a b:Ae} (ha:isV a=true) (hb:isV b=true) (h:eqB a b=true):a=b:=by
 cases a<;>first | cases ha | (cases b<;>first | cases hb | cases h | (rw[show _=_ from of_decide_eq_true h]))
theorem j5h {a:Ae} (ha:isV a=true):jeu a=true:=by cases a<;>first | cases ha | rfl
def isSt:Ae->Bool
 |.str _=>true
 |_=>false
def isIn:Ae->Bool
 |.int _=>true
 |_=>false
def look (ps:Nm) (x:Str):Option Ae:=(ps.find? λp=>decide (p.1=x)).map (·.2)
def put (ps:Nm) (x:Str) (v:Ae):Nm:=if (ps.any λp=>decide (p.1=x))=true then ps.map (λp=>if p.1=x then(p.1,v)else p)else ps++[(x,v)]
theorem j44 (a b:Str):decide ((C6 a:Key)=C6 b)=decide (a=b):=by
 by_cases z:a=b
 ·rw[z,decide_eq_true rfl,decide_eq_true rfl]
 ·rw[decide_eq_false z,decide_eq_false λw=>z (Sum.inr.inj w)]
theorem jij (ps:Nm) (x:Str):valD (txK ps) (.inr x)=look ps x:=by
 induction ps with
 |nil=>rfl
 |cons p r ih =>
  by_cases e:p.1=x
  ·have a1:valD (txK (p::r)) (.inr x)=some p.2:=by simp[valD,txK,Bn,e]
   have a2:look (p::r) x=some p.2:=by simp[look,Bn,e]
   rw[a1,a2]
  ·have a1:valD (txK (p::r)) (.inr x)=valD (txK r) (.inr x):=by simp[valD,txK,Bn,e]
   have a2:look (p::r) x=look r x:=by simp[look,Bn,e]
   rw[a1,a2,ih]
theorem j51 (ps:Nm) (x:Str):((txK ps).any λkv=>decide (kv.1=(C6 x:Key)))=(ps.any λp=>decide (p.1=x)):=by
 unfold txK;rw[List.any_map]
 congr 1
 funext p
 exact j44 _ _
theorem jqi (ps:Nm) (x:Str) (v:Ae):putD (txK ps) (.inr x) v=txK (put ps x v):=by
 unfold putD put;rw[j51]
 split
 ·unfold txK;rw[El,El];apply Cz;intro p _;show(if (C6 p.1:Key)=C6 x then _ else _)=_;by_cases e:p.1=x
  ·rw[if_pos (congrArg C6 e)];show _=(C6 (if p.1=x then(p.1,v)else p).1,(if p.1=x then(p.1,v)else p).2);rw[if_pos e]
  ·rw[if_neg λz=>e (Sum.inr.inj z)];show _=(C6 (if p.1=x then(p.1,v)else p).1,(if p.1=x then(p.1,v)else p).2);rw[if_neg e]
 ·unfold txK;rw[Bm];rfl
theorem jc0 {ps:Nm} {x:Str} {v:Ae} (h:look ps x=some v):(x,v)∈ps:=by
 unfold look at h;cases e:ps.find? λp=>decide (p.1=x)with
 |none=>rw[e]at h;cases h
 |some p =>
  rw[e]at h;have h1:=List.find?_some e;have h2:p.1=x:=of_decide_eq_true h1;have h3:p.2=v:=Aq h;have:=List.mem_of_find?_eq_some e;rw[<-h2,<-h3];exact this
theorem jig (ps:Nm) (x:Str):(ps.any λp=>decide (p.1=x))=(look ps x).isSome:=by
 induction ps with
 |nil=>rfl
 |cons p r ih =>
  by_cases e:p.1=x
  ·have a2:look (p::r) x=some p.2:=by simp[look,Bn,e]
   rw[a2,C1,decide_eq_true e];rfl
  ·have a2:look (p::r) x=look r x:=by simp[look,Bn,e]
   rw[a2,C1,decide_eq_false e,Bool.false_or,ih]
theorem jqj (ps:Nm) (x:Str) (v:Ae):(put ps x v).map (·.1)=if (ps.any λp=>decide (p.1=x))=true then ps.map (·.1)else ps.map (·.1)++[x]:=by
 unfold put
 split
 ·rw[El];apply Cz;intro p _;show(if p.1=x then(p.1,v)else p).1=p.1
  split<;>rfl
 ·rw[Bm];rfl
theorem jzi {ps:Nm} {x:Str} {v:Ae} (h:(ps.map (·.1)).Nodup):((put ps x v).map (·.1)).Nodup:=by
 rw[jqj]
 split
 ·exact h
 ·rename_i e;rw[List.nodup_append];refine⟨h,by simp,λa ha b hb z=>?_⟩;have hb:b=x:=by simpa using hb
  obtain⟨p,hp,rfl⟩:=Bq.mp ha;exact e (Dg.mpr ⟨p,hp,decide_eq_true (z.trans hb)⟩)
theorem jl0 (ps:Nm) (x:Str) (v:Ae):(put ps x v).length<=ps.length+1:=by
 unfold put
 split
 ·rw[Ab];omega
 ·rw[An];exact Al _
def okV (p:Str×Ae):Prop:=okX p.1/\isV p.2=true
theorem jnr {ps:Nm} {x:Str} {v:Ae} (h:∀p∈ps,okV p) (hx:okX x) (hv:isV v=true):∀p∈put ps x v,okV p:=by
 intro p hp;unfold put at hp
 split at hp
 ·obtain⟨q,hq,rfl⟩:=Bq.mp hp
  split
  ·exact⟨(h q hq).1,hv⟩
  ·exact h q hq
 ·rcases A7.mp hp with hp | hp
  ·exact h p hp
  ·have:p=(x,v):=by simpa using hp
   subst this;exact⟨hx,hv⟩
theorem jwt {ps:Nm} {x:Str} {v:Ae} (nd:(ps.map (·.1)).Nodup) (h:look ps x=some v):put ps x v=ps:=by
 unfold put;rw[jig,h,if_pos (show(some v).isSome=true from rfl)];have hm:=jc0 h;have:ps.map (λp=>if p.1=x then(p.1,v)else p)=ps.map id:=by
  apply Cz;intro p hp
  split
  ·rename_i e;have:p=(x,v):=by
    obtain⟨i,hi⟩:=Cb.mp hp;obtain⟨j,hj⟩:=Cb.mp hm;have a1:(ps.map (·.1))[i]?=some x:=by rw[A0,hi];exact congrArg some e
    have a2:(ps.map (·.1))[j]?=some x:=by rw[A0,hj];rfl
    obtain⟨b1,b2⟩:=Ay.mp a1;obtain⟨c1,c2⟩:=Ay.mp a2;have:=(E3 nd).mp (b2.trans c2.symm);rw[this,hj]at hi;exact(Aq hi).symm
   rw[this];rfl
  ·rfl
 rw[this,List.map_id]
theorem jgf (ps:Nm) (x:Str) (v:Ae):look (put ps x v) x=some v:=by
 unfold put;rw[jig]
 split
 ·rename_i e
  induction ps with
  |nil=>cases e
  |cons p r ih =>
   by_cases z:p.1=x
   ·simp[look,Bn,z]
   ·have a2:look (p::r) x=look r x:=by simp[look,Bn,z]
    rw[a2]at e;rw[Bo,if_neg z];have a3:look (p::r.map λp=>if p.1=x then(p.1,v)else p) x=look (r.map λp=>if p.1=x then(p.1,v)else p) x:=by simp[look,Bn,z]
    rw[a3];exact ih e
 ·rename_i e;have:look ps x=none:=by cases q:look ps x with | none=>rfl | some _=>rw[q]at e;exact absurd rfl e
  unfold look at this ⊢;rw[List.find?_append];cases q:ps.find? λp=>decide (p.1=x)with
  |some p=>rw[q]at this;cases this
  |none=>simp
theorem ji5 {ps:Nm} {x y:Str} {v:Ae} (h:y≠x):look (put ps x v) y=look ps y:=by
 unfold put
 split
 ·induction ps with
  |nil=>rfl
  |cons p r ih =>
   rw[Bo];have key:look (r.map λp=>if p.1=x then(p.1,v)else p) y=look r y:=by
    rename_i e;by_cases q:(r.any λp=>decide (p.1=x))=true
    ·exact ih q
    ·have:r.map (λp=>if p.1=x then(p.1,v)else p)=r.map id:=by
      apply Cz;intro p hp;rw[if_neg λz=>q (Dg.mpr ⟨p,hp,decide_eq_true z⟩)];rfl
     rw[this,List.map_id]
   by_cases z:p.1=x
   ·rw[if_pos z];have n1:¬p.1=y:=λw=>h (w.symm.trans z);have a1:look ((p.1,v)::r.map λp=>if p.1=x then(p.1,v)else p) y=look (r.map λp=>if p.1=x then(p.1,v)else p) y:=by simp[look,Bn,n1]
    have a2:look (p::r) y=look r y:=by simp[look,Bn,n1]
    rw[a1,a2,key]
   ·rw[if_neg z];by_cases w:p.1=y
    ·simp[look,Bn,w]
    ·have a1:look (p::r.map λp=>if p.1=x then(p.1,v)else p) y=look (r.map λp=>if p.1=x then(p.1,v)else p) y:=by simp[look,Bn,w]
     have a2:look (p::r) y=look r y:=by simp[look,Bn,w]
     rw[a1,a2,key]
 ·unfold look;rw[List.find?_append];have:[(x,v)].find? (λp=>decide (p.1=y))=none:=by simp[λz=>h (Eq.symm z),Ne.symm h]
  rw[this,Option.or_none]
def ffB (f:Fd) (v:Ae) (h bs:Nm):Bool:=match f with
 |.is w=>eqB w v
 |.any=>true
 |.word=>isSt v
 |.number=>isIn v
 |.as x=>match look h x with
  |some w=>eqB w v
  |none=>false
 |.bind x=>match look bs x with
  |some w=>eqB w v
  |none=>true
def wk:List (Fd×Ae)->Nm->List Str->Option Nm
 |[],h,_=>some h
 | (.is w,v)::r,h,hs=>if eqB w v=true then wk r h hs else none
 | (.any,_)::r,h,hs=>wk r h hs
 | (.word,v)::r,h,hs=>if isSt v=true then wk r h hs else none
 | (.number,v)::r,h,hs=>if isIn v=true then wk r h hs else none
 | (.as x,v)::r,h,hs=>match look h x with
  |some w=>if eqB w v=true then wk r h hs else none
  |none=>none
 | (.bind x,v)::r,h,hs=>if x∈hs then(match look h x with
   |some w=>if eqB w v=true then wk r h hs else none
   |none=>none)else wk r (put h x v) (hs++[x])
def jiv (p:Str×Ae):Ae:=.tuple [.str p.1,p.2]
def jba (ps:Nm):Ae:=.tuple (ps.map jiv)
def patD (fs:List Fd):Ae:=.tuple (fs.map Fd.d)
def okN (ps:Nm):Prop:=ps.length<=40/\(ps.map (·.1)).Nodup/\∀p∈ps,okV p
def okP (fs:List Fd):Prop:=1<=fs.length/\fs.length<=4/\∀f∈fs,f.ok
def okR (row:List Ae):Prop:=row.length<=4/\∀d∈row,isV d=true
theorem tri (x y:Str) (h1:¬x.cps.toList < y.cps.toList) (h2:¬y.cps.toList < x.cps.toList):x=y:=by
 have:x.cps.toList=y.cps.toList:=List.le_antisymm (Ei.mp h2) (Ei.mp h1);have e:=Gc.mp this;cases x;cases y;simp only at e;rw[e]
theorem jtl {h a b:Nm} (nd:(h.map (·.1)).Nodup) (ha:a.Perm h) (hb:b.Perm h) (ra:jhp a) (rb:jhp b):a=b:=by
 refine List.Perm.eq_of_pairwise (λx y hx hy l1 l2=>?_) ra rb (ha.trans hb.symm);have e:x.1=y.1:=tri _ _ l2 l1;have hx':=ha.mem_iff.mp hx;have hy':=hb.mem_iff.mp hy;obtain⟨i,hi⟩:=Cb.mp hx';obtain⟨j,hj⟩:=Cb.mp hy';have a1:(h.map (·.1))[i]?=some x.1:=by rw[A0,hi];rfl
 have a2:(h.map (·.1))[j]?=some x.1:=by rw[A0,hj,e];rfl
 obtain⟨b1,b2⟩:=Ay.mp a1;obtain⟨c1,c2⟩:=Ay.mp a2;have:=(E3 nd).mp (b2.trans c2.symm);rw[this,hj]at hi;exact(Aq hi).symm
theorem jm6:∀(l:List (Fd×Ae)) (h:Nm) (hs:List Str) (k:Nm),(h.map (·.1)).Nodup->wk l h hs=some k->(k.map (·.1)).Nodup
 |[],h,hs,k,nd,e=>by cases e;exact nd
 | (.is w,v)::r,h,hs,k,nd,e=>by unfold wk at e;split at e;exact jm6 r h hs k nd e;cases e
 | (.any,v)::r,h,hs,k,nd,e=>by unfold wk at e;exact jm6 r h hs k nd e
 | (.word,v)::r,h,hs,k,nd,e=>by unfold wk at e;split at e;exact jm6 r h hs k nd e;cases e
 | (.number,v)::r,h,hs,k,nd,e=>by unfold wk at e;split at e;exact jm6 r h hs k nd e;cases e
 | (.as x,v)::r,h,hs,k,nd,e=>by
  unfold wk at e
  split at e
  ·split at e
   ·exact jm6 r h hs k nd e
   ·cases e
  ·cases e
 | (.bind x,v)::r,h,hs,k,nd,e=>by
  unfold wk at e
  split at e
  ·split at e
   ·split at e
    ·exact jm6 r h hs k nd e
    ·cases e
   ·cases e
  ·exact jm6 r _ _ k (jzi nd) e
def leK (a b:Str×Ae):Bool:=decide (¬b.1.cps.toList < a.1.cps.toList)
def srtN (h:Nm):Nm:=h.mergeSort leK
theorem jqc (h:Nm):(srtN h).Perm h:=List.mergeSort_perm h leK
theorem jy1 (h:Nm):jhp (srtN h):=by
 have:=List.pairwise_mergeSort (le:=leK) (λa b c x y=>decide_eq_true (Ei.mpr (List.le_trans (Ei.mp (of_decide_eq_true x)) (Ei.mp (of_decide_eq_true y))))) (λa b=>?_) h
 ·exact List.Pairwise.imp (λx=>of_decide_eq_true x) this
 ·rw[Bool.or_eq_true];rcases List.le_total a.1.cps.toList b.1.cps.toList with z | z
  ·exact .inl (decide_eq_true (Ei.mpr z))
  ·exact .inr (decide_eq_true (Ei.mpr z))
theorem j3a {h h':Nm} (nd:(h.map (·.1)).Nodup) (p:h'.Perm h) (r:jhp h'):h'=srtN h:=jtl nd p (jqc h) r (jy1 h)
def wkN (fs:List Fd) (row:List Ae) (nm:Nm):Nm:=(wk (fs.zip row) nm []).getD []
def fitB (fs:List Fd) (row:List Ae) (nm:Nm):Bool:=decide (fs.length=row.length)&&(wk (fs.zip row) nm []).isSome
def fitD (fs:List Fd) (row:List Ae) (nm:Nm):Ae:=if fitB fs row nm=true then jba (srtN (wkN fs row nm))else .none
def Fit (fs:List Fd) (row:List Ae) (ps:Nm) (r:Ae):Prop :=
 if fs.length=row.length then match wk (fs.zip row) ps []with
  |none=>r=.none
  |some h=>r=jba (srtN h)
 else r=.none
theorem j5i {fs:List Fd} {row:List Ae} {ps:Nm} {r:Ae} (h:Fit fs row ps r):r=fitD fs row ps:=by
 unfold Fit at h;unfold fitD fitB wkN;by_cases e:fs.length=row.length
 ·rw[if_pos e]at h;rw[decide_eq_true e,Bool.true_and];cases q:wk (fs.zip row) ps []with
  |none=>rw[q]at h;rw[if_neg (by rw[Option.isSome_none];exact Ak)];exact h
  |some x=>rw[q]at h;rw[if_pos (show(some x).isSome=true from rfl)];exact h
 ·rw[if_neg e]at h;rw[decide_eq_false e,if_neg (by rw[Bool.false_and];exact Ak)];exact h
def S_ff:DSp:=λws n Q=>∃(f:Fd) (v:Ae) (hp bp:Nm),ws=[.d f.d,.d v,.dk (txK hp),.dk (txK bp)]/\f.ok/\isV v=true/\(∀p∈hp,okV p)/\(∀p∈bp,okV p)/\Q (.d (.bool (ffB f v hp bp))) n
def jj4:DSp:=λws n Q=>∃(fs:List Fd) (row:List Ae) (nm:Nm),ws=[.d (patD fs),.d (.tuple row),.d (jba nm)]/\okP fs/\okR row/\okN nm/\Q (.d (fitD fs row nm)) n
def jcj (ys:List Str):Ae:=.tuple (ys.map .str)
def jv3:List Ae:=[.str "a",.int 0,.int 1,.str "ab",.str "go",.int 99]
inductive Fe where
 |any | word | num | isv (d:Ae) | bind (k:Str) | as (k:Str) | nx (k:Str)
def Fe.hd:Fe->Str
 |.any=>"any"
 |.word=>"word"
 |.num=>"number"
 |.isv _=>"is"
 |.bind _=>"bind"
 |.as _=>"as"
 |.nx _=>"next"
def Fe.tl:Fe->List Ae
 |.any=>[]
 |.word=>[]
 |.num=>[]
 |.isv d=>[d]
 |.bind k=>[.str k]
 |.as k=>[.str k]
 |.nx k=>[.str k]
def Fe.d (f:Fe):Ae:=.tuple (.str f.hd::f.tl)
abbrev okK (k:Str):Prop:=okX k
def Fe.ok:Fe->Prop
 |.isv d=>isV d=true
 |.bind k=>okK k
 |.as k=>okK k
 |.nx k=>okK k
 |_=>True
def Fe.bd:Fe->Option Str
 |.bind k=>some k
 |_=>none
def Fe.us:Fe->Option Str
 |.as k=>some k
 |.nx k=>some k
 |_=>none
def bndE (fs:List Fe):List Str:=fs.filterMap Fe.bd
def Fe.pt:Fe->Bool
 |.nx _=>false
 |_=>true
def Fe.tm:Fe->Bool
 |.isv _=>true
 |.as _=>true
 |.nx _=>true
 |_=>false
def Fe.te:Fe->Bool
 |.isv _=>true
 |.as _=>true
 |_=>false
def okFs (fs:List Fe):Prop:=fs.length<=4/\∀f∈fs,f.ok
def rF:List Str->List Fe->Prop
 |_,[]=>True
 |ks,f::r=>(∀k,f.us=some k->k∈ks)/\rF (ks++f.bd.toList) r
inductive Ac where
 |lay (fs:List Fe) (age:Ae) | take (fs:List Fe) | read (fs:List Fe) | look (fs:List Fe) (b:Nat) | same (f g:Fe) (b:Nat) | go (b:Nat)
def fsD (fs:List Fe):Ae:=.tuple (fs.map Fe.d)
def Ac.d:Ac->Ae
 |.lay fs age=>.tuple [.str "lay",fsD fs,age]
 |.take fs=>.tuple [.str "take",fsD fs]
 |.read fs=>.tuple [.str "read",fsD fs]
 |.look fs b=>.tuple [.str "look",fsD fs,.int b]
 |.same f g b=>.tuple [.str "same",f.d,g.d,.int b]
 |.go b=>.tuple [.str "go",.int b]
def Ac.bs:Ac->List Str
 |.take fs=>bndE fs
 |.read fs=>bndE fs
 |.look fs _=>bndE fs
 |_=>[]
def Ac.fs:Ac->List Fe
 |.lay fs _=>fs
 |.take fs=>fs
 |.read fs=>fs
 |.look fs _=>fs
 |.same f g _=>[f,g]
 |.go _=>[]
def Ac.to:Ac->Option Nat
 |.look _ b=>some b
 |.same _ _ b=>some b
 |.go b=>some b
 |_=>none
def Ac.right (wants:List (List Str)) (ks:List Str) (a:Ac):Prop:=rF ks a.fs/\∀b,a.to=some b->∃w,wants[b]?=some w/\∀k∈w,k∈ks
def jiy (d:Ae):Prop:=d=.none\/∃i:Int,d=.int i/\1<=i/\i<=20
def patO (fs:List Fe):Prop:=1<=fs.length/\∀f∈fs,f.pt=true
def Ac.pat:Ac->Prop
 |.take fs=>patO fs
 |.read fs=>patO fs
 |.look fs _=>patO fs
 |.lay fs age=>(∀f∈fs,f.tm=true)/\jiy age
 |.same f g _=>f.te=true/\g.te=true
 |.go _=>True
def okA (a:Ac):Prop:=okFs a.fs/\a.pat
abbrev Bl:=List Str×List Ac
def blD (b:Bl):Ae:=.tuple [jcj b.1,.tuple (b.2.map Ac.d)]
def prD (bs:List Bl):Ae:=.tuple (bs.map blD)
def kn (w:List Str) (as:List Ac) (p:Nat):List Str:=w++(as.take p).flatMap Ac.bs
def okB (b:Bl):Prop:=b.1.length<=4/\(∀k∈b.1,okK k)/\b.2.length<=8/\(∀a∈b.2,okA a)/\b.1.Nodup/\upT b.1
def riB (wants:List (List Str)) (b:Bl):Prop:=∀(p:Nat) (a:Ac),b.2[p]?=some a->a.right wants (kn b.1 b.2 p)
def jck:DSp:=λws n Q=>ws=[.tp]/\n < 2 ^ 39/\∀v∈jv3,Q (.d v) (n+1)
def jfv:DSp:=λws n Q=>ws=[.tp]/\n < 2 ^ 39/\∀m:Nat,1<=m->m<=4->Q (.d (.int m)) (n+1)
def jo1:DSp:=λws n Q=>∃ks:List Str,ws=[.tp,.ln (ks.map .str)]/\ks.length<=1000/\(∀k∈ks,okK k)/\n+9 < 2 ^ 39/\∀(fs:List Fe) (n':Int),okFs fs->(∀f∈fs,f.tm=true)->rF ks fs->n'<=n+9->Q (.d (fsD fs)) n'
def jhe:DSp:=λws n Q=>∃ks:List Str,ws=[.tp,.ln (ks.map .str)]/\ks.length<=1000/\(∀k∈ks,okK k)/\n+2 < 2 ^ 39/\∀(f:Fe) (n':Int),f.ok->f.te=true->(∀k,f.us=some k->k∈ks)->n'<=n+2->Q (.d f.d) n'
def jj3:DSp:=λws n Q=>∃(ks:List Str) (os:List Nat) (wants:List (List Str)),ws=[.tp,.ln (ks.map .str),.d (.list (os.map λb=>.int (b:Nat)))]/\ks.length<=1000/\(∀k∈ks,okK k)/\0 < os.length/\os.length<=1000 /\
 (∀b∈os,∃w,wants[b]?=some w/\∀k∈w,k∈ks)/\n+11 < 2 ^ 39/\∀(a:Ac) (n':Int),okA a->a.right wants ks->n'<=n+11->Q (.d (.tuple [a.d,.list (a.bs.map .str)])) n'
def okG (bs:List Bl):Prop:=1<=bs.length/\bs.length<=6/\∀b∈bs,okB b/\riB (bs.map (·.1)) b
def jo2:DSp:=λws n Q=>∃(ks:List Str) (v:Wv),ws=[.tp,v]/\lsOf v=some (ks.map .str)/\ks.length<=1000/\(∀k∈ks,okK k)/\n+9 < 2 ^ 39/\∀(fs:List Fe) (n':Int),1<=fs.length->okFs fs->(∀f∈fs,f.pt=true)->rF ks fs->n'<=n+9->Q (.d (.tuple [fsD fs,.list ((bndE fs).map .str)])) n'
def joy:DSp:=λws n Q=>ws=[.tp]/\n+600 < 2 ^ 39/\∀(bs:List Bl) (n':Int),okG bs->n'<=n+600->Q (.d (prD bs)) n'
abbrev Hn:=Nat×Nat×Nm
def hnD (h:Hn):Ae:=.tuple [.int h.1,.int h.2.1,jba h.2.2]
abbrev Nt:=List Ae×Ae
def ntD (q:Nt):Ae:=.tuple [.tuple q.1,q.2]
def nsD (ns:List Nt):Ae:=.tuple (ns.map ntD)
def stD (hs:List Hn) (ns:List Nt):Ae:=.tuple [.tuple (hs.map hnD),nsD ns]
abbrev Pg:=List (List Bl)
def pgD (ps:Pg):Ae:=.tuple (ps.map prD)
def okPg (ps:Pg):Prop:=ps.length<=5/\∀P∈ps,okG P
def okQ (q:Nt):Prop:=okR q.1/\jiy q.2
def okNs (m:Nat) (ns:List Nt):Prop:=ns.length<=m/\∀q∈ns,okQ q
structure okHn (b:Bl) (h:Hn):Prop where
 pl:h.2.1<=b.2.length
 nd:(h.2.2.map (·.1)).Nodup
 ok:∀p∈h.2.2,okV p
 up:jhp h.2.2
 mem:∀k,k∈h.2.2.map (·.1)↔k∈kn b.1 b.2 h.2.1
 ln:h.2.2.length<=40
theorem okHn.n {b:Bl} {h:Hn} (H:okHn b h):okN h.2.2:=⟨H.ln,H.nd,H.ok⟩
def okHs (ps:Pg) (hs:List Hn):Prop:=hs.length=ps.length/\∀(i:Nat) (P:List Bl),ps[i]?=some P->∃(h:Hn) (b:Bl),hs[i]?=some h/\P[h.1]?=some b/\okHn b h
def actO (ps:Pg) (hs:List Hn) (h:Nat):Option Ac:=ps[h]?.bind λP=>hs[h]?.bind λx=>P[x.1]?.bind λb=>b.2[x.2.1]?
def acD:Option Ac->Ae
 |none=>.none
 |some a=>a.d
def Fe.fd:Fe->Fd
 |.any=>.any
 |.word=>.word
 |.num=>.number
 |.isv d=>.is d
 |.bind k=>.bind k
 |.as k=>.as k
 |.nx _=>.any
def Ac.pf:Ac->Option (List Fd)
 |.take fs=>some (fs.map Fe.fd)
 |.read fs=>some (fs.map Fe.fd)
 |.look fs _=>some (fs.map Fe.fd)
 |_=>none
def Ac.wt:Ac->Bool
 |.take _=>true
 |.read _=>true
 |_=>false
def fstO (fs:List Fd) (nm:Nm) (ns:List Nt):Option Nat:=ns.findIdx? λq=>fitB fs q.1 nm
def nmO (hs:List Hn) (h:Nat):Nm:=(hs[h]?.map (·.2.2)).getD []
def gotO (ps:Pg) (hs:List Hn) (ns:List Nt) (h:Nat):Option Nat:=(actO ps hs h).bind λa=>a.pf.bind λfs=>fstO fs (nmO hs h) ns
def canB (ps:Pg) (hs:List Hn) (ns:List Nt) (h:Nat):Bool:=((actO ps hs h).map λa=>!a.wt || (gotO ps hs ns h).isSome).getD false
def natD:Option Nat->Ae
 |none=>.none
 |some i=>.int i
def rowO (ns:List Nt) (i:Nat):List Ae:=(ns[i]?.map (·.1)).getD []
def okSt (ps:Pg) (hs:List Hn) (ns:List Nt):Prop:=okPg ps/\okHs ps hs/\okNs 100 ns
def nxO:Ae->Ae
 |.int i=>if i=99 then .int 0 else .int (i+1)
 |d=>d
def lkO (nm:Nm) (k:Str):Ae:=(look nm k).getD .none
def fvO (nm:Nm):Fe->Ae
 |.isv d=>d
 |.as k=>lkO nm k
 |.nx k=>nxO (lkO nm k)
 |_=>.none
def filO (fs:List Fe) (nm:Nm):List Ae:=fs.map (fvO nm)
def wtO (P:List Bl) (b:Nat):List Str:=(P[b]?.map (·.1)).getD []
def goTo (P:List Bl) (b:Nat) (nm:Nm):Hn:=(b,0,nm.filter λp=>decide (p.1∈wtO P b))
def goOn (x:Hn) (nm:Nm):Hn:=(x.1,x.2.1+1,nm)
def setH (hs:List Hn) (h:Nat) (x:Hn):List Hn:=hs.take h++x::hs.drop (h+1)
def ageO:Ae->Ae
 |.int i=>.int (i - 1)
 |d=>d
def isI1:Ae->Bool
 |.int i=>decide (i=1)
 |_=>false
def clkO (ns:List Nt):List Nt:=(ns.filter λq=>!isI1 q.2).map λq=>(q.1,ageO q.2)
def outO (ns:List Nt) (i:Nat):List Nt:=ns.take i++ns.drop (i+1)
def getO (fs:List Fe) (x:Hn) (ns:List Nt):Option (Nat×Hn):=(fstO (fs.map Fe.fd) x.2.2 ns).map λi=>(i,goOn x (srtN (wkN (fs.map Fe.fd) (rowO ns i) x.2.2)))
def actM (P:List Bl) (x:Hn) (ns:List Nt):Ac->Option (Hn×List Nt)
 |.lay fs age=>some (goOn x x.2.2,ns++[(filO fs x.2.2,age)])
 |.go b=>some (goTo P b x.2.2,ns)
 |.same f g b=>some (if eqB (fvO x.2.2 f) (fvO x.2.2 g)=true then goOn x x.2.2 else goTo P b x.2.2,ns)
 |.take fs=>(getO fs x ns).map λq=>(q.2,outO ns q.1)
 |.read fs=>(getO fs x ns).map λq=>(q.2,ns)
 |.look fs b=>match getO fs x ns with
  |some q=>some (q.2,ns)
  |none=>some (goTo P b x.2.2,ns)
def movO (ps:Pg) (hs:List Hn) (ns:List Nt) (h:Nat):Option (List Hn×List Nt):=ps[h]?.bind λP=>hs[h]?.bind λx=>(actO ps hs h).bind λa=>(actM P x ns a).map λr=>(setH hs h r.1,r.2)
def aftO (ps:Pg) (hs:List Hn) (ns:List Nt) (m:Nat):Option (List Hn×List Nt):=if m=ps.length then some (hs,clkO ns)else movO ps hs ns m
def moD:Option (List Hn×List Nt)->Ae
 |none=>.none
 |some r=>stD r.1 r.2
def fvOk (nm:Nm) (f:Fe):Prop:=f.ok/\f.tm=true/\∀k,f.us=some k->∃v,look nm k=some v/\isV v=true
def jjz:DSp:=λws n Q=>∃i:Int,ws=[.d (.int i)]/\Q (.d (.bool true)) n
def jgn:DSp:=λws n Q=>∃i m:Int,ws=[.d (.int i),.d (.int m)]/\0<=i/\i<=m/\Q (.d (.bool true)) n
def jvt:DSp:=λws n Q=>∃v,ws=[.d v]/\isV v=true/\Q (.d (nxO v)) n
def jhy:DSp:=λws n Q=>∃(f:Fe) (nm:Nm),ws=[.d f.d,.dk (txK nm)]/\fvOk nm f/\Q (.d (fvO nm f)) n
def jgp:DSp:=λws n Q=>∃(fs:List Fe) (nm:Nm),ws=[.d (fsD fs),.d (jba nm)]/\fs.length<=4/\(∀f∈fs,fvOk nm f)/\okN nm/\Q (.d (.tuple (filO fs nm))) n
def jox:DSp:=λws n Q=>∃(f g:Fe) (b:Nat) (nm:Nm),ws=[.d (Ac.same f g b).d,.d (jba nm)]/\fvOk nm f/\fvOk nm g/\f.te=true/\g.te=true/\okN nm/\Q (.d (.bool (eqB (fvO nm f) (fvO nm g)))) n
def jm4:DSp:=λws n Q=>∃(x:Hn) (nm:Nm),ws=[.d (hnD x),.d (jba nm)]/\Q (.d (hnD (goOn x nm))) n
def jo4:DSp:=λws n Q=>∃(P:List Bl) (b:Nat) (nm:Nm) (w:Bl),ws=[.d (prD P),.d (.int b),.d (jba nm)]/\P[b]?=some w/\w.1.length<=4/\Q (.d (hnD (goTo P b nm))) n
def jec:DSp:=λws n Q=>∃(hs:List Hn) (h:Nat) (x:Hn),ws=[.d (.tuple (hs.map hnD)),.d (.int h),.d (hnD x)]/\h < hs.length/\hs.length<=5/\Q (.d (.tuple ((setH hs h x).map hnD))) n
def jj1:DSp:=λws n Q=>∃(ps:Pg) (hs:List Hn) (ns:List Nt) (h:Nat) (a:Ac),ws=[.d (pgD ps),.d (stD hs ns),.d (.int h),.d a.d]/\okSt ps hs ns/\h < ps.length/\actO ps hs h=some a/\a.pf.isSome=true/\Q (.d (moD (movO ps hs ns h))) n
def jo3:DSp:=λws n Q=>∃(ps:Pg) (hs:List Hn) (ns:List Nt) (h:Nat),ws=[.d (pgD ps),.d (stD hs ns),.d (.int h)]/\okSt ps hs ns/\h < ps.length/\Q (.d (moD (movO ps hs ns h))) n
def jo5:DSp:=λws n Q=>∃q:Nt,ws=[.d (ntD q)]/\jiy q.2/\Q (.d (ntD (q.1,ageO q.2))) n
def jj5:DSp:=λws n Q=>∃(hs:List Hn) (ns:List Nt),ws=[.d (stD hs ns)]/\(∀q∈ns,jiy q.2)/\Q (.d (stD hs (clkO ns))) n
def jj6:DSp:=λws n Q=>∃(ps:Pg) (hs:List Hn) (ns:List Nt) (m:Nat),ws=[.d (pgD ps),.d (stD hs ns),.d (.int m)]/\okSt ps hs ns/\m<=ps.length/\Q (.d (moD (aftO ps hs ns m))) n
def je9:DSp:=λws n Q=>∃(ps:Pg) (hs:List Hn) (ns:List Nt) (m:Nat) (r:List Hn×List Nt),ws=[.d (pgD ps),.d (stD hs ns),.d (.int m)]/\okSt ps hs ns/\m<=ps.length/\aftO ps hs ns m=some r/\Q (.d (stD r.1 r.2)) n
def jch:DSp:=λws n Q=>∃(ps:Pg) (hs:List Hn) (ns:List Nt) (h:Nat),ws=[.d (pgD ps),.d (stD hs ns),.d (.int h)]/\okHs ps hs/\h < ps.length/\Q (.d (acD (actO ps hs h))) n
def jfw:DSp:=λws n Q=>∃(ps:Pg) (hs:List Hn) (ns:List Nt) (h:Nat),ws=[.d (pgD ps),.d (stD hs ns),.d (.int h)]/\okSt ps hs ns/\h < ps.length/\Q (.d (natD (gotO ps hs ns h))) n
def jdu:DSp:=λws n Q=>∃(ps:Pg) (hs:List Hn) (ns:List Nt) (h:Nat),ws=[.d (pgD ps),.d (stD hs ns),.d (.int h)]/\okSt ps hs ns/\h < ps.length/\Q (.d (.bool (canB ps hs ns h))) n
def jo0:DSp:=λws n Q=>∃(fs:List Fd) (nm:Nm),ws=[.tp,.d (patD fs),.d (jba nm)]/\okP fs/\okN nm/\n+4 < 2 ^ 39/\∀(row:List Ae) (n':Int),okR row->n'<=n+4->Q (.d (.tuple row)) n'
def jj2:DSp:=λws n Q=>∃(ps:Pg) (hs:List Hn) (ns:List Nt),ws=[.tp,.d (pgD ps),.d (stD hs ns)]/\okPg ps/\okHs ps hs/\okNs 6 ns/\n+50 < 2 ^ 39/\∀(ns':List Nt) (n':Int),okNs 11 ns'->n'<=n+50->Q (.d (stD hs ns')) n'
def jk2:DSp:=λws n Q=>ws=[.tp]/\n < 2 ^ 39/\∀v∈jm2,Q (.d v) (n+1)
def je8:DSp:=λws n Q=>∃m:Nat,ws=[.tp,.d (.int m)]/\m<=12/\n+100 < 2 ^ 39/\∀(ns:List Nt) (n':Int),okNs m ns->n'<=n+100->Q (.d (nsD ns)) n'
def joz:DSp:=λws n Q=>ws=[.tp]/\n+4200 < 2 ^ 39/\∀(ps:Pg) (d:Ae) (n':Int),okPg ps->n'<=n+4200->Q (.d (.tuple [pgD ps,d])) n'
def jgo:DSp:=λws n Q=>∃(P:List Bl) (i p:Nat) (b:Bl),ws=[.d (prD P),.d (.int i),.d (.int p)]/\P[i]?=some b/\okB b/\p<=b.2.length/\∀ys:List Str,ys.Nodup->(∀k∈ys,okK k)->upT ys->(∀k,k∈ys↔k∈kn b.1 b.2 p)->Q (.d (.list (ys.map .str))) n
def jj0:DSp:=λws n Q=>∃ps:Pg,ws=[.tp,.d (pgD ps)]/\okPg ps/\n+400 < 2 ^ 39/\∀(hs:List Hn) (ns:List Nt) (n':Int),okHs ps hs->okNs 6 ns->n'<=n+400->Q (.d (stD hs ns)) n'
def rdyL (ps:Pg) (hs:List Hn) (ns:List Nt):List Ae:=((Bs ps.length).filter (canB ps hs ns)).map λh=>.int (h:Nat)
def jc7:DSpN:=λws n Q=>∃(ps:Pg) (hs:List Hn) (ns:List Nt),ws=[.d (pgD ps),.d (stD hs ns)]/\okSt ps hs ns/\Q (rdyL ps hs ns) n
def S_nr:DSp:=λws n Q=>∃(ps:Pg) (hs:List Hn) (ns:List Nt) (m:Nat) (r:List Hn×List Nt),ws=[.d (pgD ps),.d (stD hs ns),.d (stD r.1 r.2),.d (.int m)]/\okSt ps hs ns/\m < ps.length/\movO ps hs ns m=some r/\Q (.d (.bool true)) n
def S_tr:DSp:=λws n Q=>∃(ps:Pg) (hs:List Hn) (ns:List Nt),ws=[.d (stD hs ns),.d (stD hs (clkO ns))]/\okSt ps hs ns/\Q (.d (.bool true)) n
def S_rr:DSp:=λws n Q=>∃(ps:Pg) (hs:List Hn) (ns:List Nt),ws=[.d (pgD ps),.d (stD hs ns)]/\okSt ps hs ns/\Q (.d (.bool true)) n
def S_sr:DSp:=λws n Q=>∃(ps:Pg) (hs:List Hn) (ns:List Nt),ws=[.d (pgD ps),.d (stD hs ns)]/\okSt ps hs ns/\rdyL ps hs ns=[]/\Q (.d (.bool true)) n
def jlo:DST:=(sRet (wAnd (wIsi "int" (wVar 0)) (wNot (wIsi "bool" (wVar 0)))))
def je2:DST:=(sSeq (sSet 4 (w2 (wVar 0) (wC (.int (0))) gIx)) (sSeq (sIf (cT (w2 (wVar 4) (wC (.str "is")) gEq)) (sRet (w2 (w2 (wVar 0) (wC (.int (1))) gIx) (wVar 1) gEq)) jas) (sSeq (sIf (cT (w2 (wVar 4) (wC (.str "word")) gEq)) (sRet (wIsi "str" (wVar 1))) jas) (sSeq (sIf (cT (w2 (wVar 4) (wC (.str "number")) gEq)) (sRet (wIsi "int" (wVar 1))) jas) (sSeq (sIf (cT (w2 (wVar 4) (wC (.str "as")) gEq)) (sRet (wAnd (w2 (w2 (wVar 0) (wC (.int (1))) gIx) (jcy 2) (gDIn false)) (w2 (w2 (jcy 2) (w2 (wVar 0) (wC (.int (1))) gIx) joe) (wVar 1) gEq))) jas) (sSeq (sIf (cT (w2 (wVar 4) (wC (.str "bind")) gEq)) (sRet (wOr (w2 (w2 (wVar 0) (wC (.int (1))) gIx) (jcy 3) (gDIn true)) (w2 (w2 (jcy 3) (w2 (wVar 0) (wC (.int (1))) gIx) joe) (wVar 1) gEq))) jas) (sRet (wC (.bool true)))))))))
def jre:DST:=(sSeq (sIf (cT (w2 (wB gLen (jab (wVar 0) aNil)) (wB gLen (jab (wVar 1) aNil)) gNe)) (sRet (wC .none)) jas) (sSeq (jlw 3 (jpo (wVar 2))) (sSeq (jlw 4 kNil) (sSeq (sFor (jxq (wVar 0) (wVar 1)) (jet 2 (jbg (jak 5) (jbg (jak 6) jdl))) (sSeq (sIf (cNot (cT (jam S_ff (jab (wVar 5) (jab (wVar 6) (jab (jcy 3) (jab (jcy 4) aNil))))))) (sRet (wC .none)) jas) (sIf (cT (w2 (w2 (wVar 5) (wC (.int (0))) gIx) (wC (.str "bind")) gEq)) (sSeq (jno 4 (w2 (wVar 5) (wC (.int (1))) gIx) (wVar 6)) (jno 3 (w2 (wVar 5) (wC (.int (1))) gIx) (wVar 6))) jas))) (sRet (wB jdf (jab (wOf (jlk (jcy 3))) aNil)))))))
def je0:DST:=(sSeq (sIf (cT (wIsi "str" (wVar 0))) (sRet (wVar 0)) jas) (sRet (wIf (cT (w2 (wVar 0) (wC (.int (99))) gEq)) (wC (.int (0))) (w2 (wVar 0) (wC (.int (1))) (gI0 λi j=>.int (i+j))))))
def jd3:DST:=(sSeq (sIf (cT (w2 (w2 (wVar 0) (wC (.int (0))) gIx) (wC (.str "is")) gEq)) (sRet (w2 (wVar 0) (wC (.int (1))) gIx)) jas) (sSeq (sSet 2 (w2 (jcy 1) (w2 (wVar 0) (wC (.int (1))) gIx) joe)) (sRet (wIf (cT (w2 (w2 (wVar 0) (wC (.int (0))) gIx) (wC (.str "next")) gEq)) (jam jvt (jab (wVar 2) aNil)) (wVar 2)))))
def jm3:DST:=(sSeq (jlw 2 (jpo (wVar 1))) (sRet (wB jdf (jab (wOf (jb6 [none,some 2] (jdi (wVar 0)) (jak 0) cYes (jam jhy (jab (wVar 0) (jab (jcy 1) aNil))))) aNil))))
def jf4:DST:=(sRet (wAnd (jam jjz (jab (wVar 0) aNil)) (jp7 gLe gLe (wC (.int (0))) (wVar 0) (wVar 1))))
def jha:DST:=(sSeq (sSet 3 (w2 (w2 (w2 (wVar 1) (wC (.int (0))) gIx) (wVar 2) gIx) (wC (.int (0))) gIx)) (sSeq (sSet 4 (w2 (w2 (w2 (wVar 1) (wC (.int (0))) gIx) (wVar 2) gIx) (wC (.int (1))) gIx)) (sSeq (sSet 5 (w2 (w2 (w2 (wVar 0) (wVar 2) gIx) (wVar 3) gIx) (wC (.int (1))) gIx)) (sRet (wIf (cT (w2 (wVar 4) (wB gLen (jab (wVar 5) aNil)) gLt)) (w2 (wVar 5) (wVar 4) gIx) (wC .none))))))
abbrev zqp:List Str:=["take","read","look"]
def jvr:DST:=(sSeq (sSet 3 (jam jch (jab (wVar 0) (jab (wVar 1) (jab (wVar 2) aNil))))) (sSeq (sIf (cOr (cT (w2 (wVar 3) (wC .none) (gIsN false))) (cT (jsi zqp (w2 (wVar 3) (wC (.int (0))) gIx)))) (sRet (wC .none)) jas) (sSeq (sSet 4 (w2 (w2 (w2 (wVar 1) (wC (.int (0))) gIx) (wVar 2) gIx) (wC (.int (2))) gIx)) (sSeq (jwl 5) (sSeq (sFor (jut (w2 (wVar 1) (wC (.int (1))) gIx)) (jet 2 (jbg (jak 6) (jbg (jak 7) jdl))) (sIf (cT (jv2 5 (w2 (wVar 7) (wC (.int (0))) gIx))) (sSeq (sIf (cT (w2 (jam jj4 (jab (w2 (wVar 3) (wC (.int (1))) gIx) (jab (w2 (wVar 7) (wC (.int (0))) gIx) (jab (wVar 4) aNil)))) (wC .none) (gIsN true))) (sRet (wVar 6)) jas) (j3q 5 (w2 (wVar 7) (wC (.int (0))) gIx) (wC (.bool true)))) jas)) (sRet (wC .none)))))))
def jhb:DST:=(sSeq (sSet 3 (jam jch (jab (wVar 0) (jab (wVar 1) (jab (wVar 2) aNil))))) (sSeq (sIf (cT (w2 (wVar 3) (wC .none) (gIsN false))) (sRet (wC (.bool false))) jas) (sRet (wOr (w2 (w2 (wVar 3) (wC (.int (0))) gIx) (wTup (jab (wC (.str "take")) (jab (wC (.str "read")) aNil))) (gIn true)) (w2 (jam jfw (jab (wVar 0) (jab (wVar 1) (jab (wVar 2) aNil)))) (wC .none) (gIsN true))))))
def jp2:DST:=(jwk (jb6 [none,some 0,some 1] (ja1 (wB gLen (jab (wVar 0) aNil))) (jak 0) (cT (jam jdu (jab (wVar 1) (jab (wVar 2) (jab (wVar 0) aNil))))) (wVar 0)))
def jjx:DST:=(sRet (wTup (jab (w2 (wVar 0) (wC (.int (0))) gIx) (jab (w2 (w2 (wVar 0) (wC (.int (1))) gIx) (wC (.int (1))) (gI0 λi j=>.int (i+j))) (jab (wVar 1) aNil)))))
def jjw:DST:=(sSeq (sSet 3 (w2 (w2 (wVar 0) (wVar 1) gIx) (wC (.int (0))) gIx)) (sRet (wTup (jab (wVar 1) (jab (wC (.int (0))) (jab (wB jdf (jab (wOf (jb6 [none,some 3] (jdi (wVar 2)) (jak 0) (cT (w2 (w2 (wVar 0) (wC (.int (0))) gIx) (wVar 1) (gIn false))) (wVar 0))) aNil)) aNil))))))
def jf3:DST:=(sRet (w2 (w2 (jca (wVar 0) jdz (jdy (wVar 1))) (wTup (jab (wVar 2) aNil)) jks) (jca (wVar 0) (jdy (w2 (wVar 1) (wC (.int (1))) (gI0 λi j=>.int (i+j)))) jdz) jks))
def jyq:DST:=(sSeq (sSet 4 (w2 (w2 (wVar 1) (wC (.int (0))) gIx) (wVar 2) gIx)) (sSeq (sSet 5 (w2 (wVar 1) (wC (.int (1))) gIx)) (sSeq (sSet 6 (jam jfw (jab (wVar 0) (jab (wVar 1) (jab (wVar 2) aNil))))) (sSeq (sIf (cT (w2 (wVar 6) (wC .none) (gIsN false))) (sSeq (sIf (cT (w2 (w2 (wVar 3) (wC (.int (0))) gIx) (wC (.str "look")) gNe)) (sRet (wC .none)) jas) (sRet (wTup (jab (jam jec (jab (w2 (wVar 1) (wC (.int (0))) gIx) (jab (wVar 2) (jab (jam jo4 (jab (w2 (wVar 0) (wVar 2) gIx) (jab (w2 (wVar 3) (wC (.int (2))) gIx) (jab (w2 (wVar 4) (wC (.int (2))) gIx) aNil)))) aNil)))) (jab (wVar 5) aNil))))) jas) (sSeq (sSet 7 (jam jj4 (jab (w2 (wVar 3) (wC (.int (1))) gIx) (jab (w2 (w2 (wVar 5) (wVar 6) gIx) (wC (.int (0))) gIx) (jab (w2 (wVar 4) (wC (.int (2))) gIx) aNil))))) (sSeq (sIf (cT (w2 (w2 (wVar 3) (wC (.int (0))) gIx) (wC (.str "take")) gEq)) (sSet 5 (w2 (jca (wVar 5) jdz (jdy (wVar 6))) (jca (wVar 5) (jdy (w2 (wVar 6) (wC (.int (1))) (gI0 λi j=>.int (i+j)))) jdz) jks)) jas) (sRet (wTup (jab (jam jec (jab (w2 (wVar 1) (wC (.int (0))) gIx) (jab (wVar 2) (jab (jam jm4 (jab (wVar 4) (jab (wVar 7) aNil))) aNil)))) (jab (wVar 5) aNil))))))))))
def jc4:DST:=(sSeq (jlw 2 (jpo (wVar 1))) (sRet (w2 (jam jhy (jab (w2 (wVar 0) (wC (.int (1))) gIx) (jab (jcy 2) aNil))) (jam jhy (jab (w2 (wVar 0) (wC (.int (2))) gIx) (jab (jcy 2) aNil))) gEq)))
def je1:DST:=(sSeq (sSet 3 (jam jch (jab (wVar 0) (jab (wVar 1) (jab (wVar 2) aNil))))) (sSeq (sIf (cT (w2 (wVar 3) (wC .none) (gIsN false))) (sRet (wC .none)) jas) (sSeq (sIf (cT (wInG zqp (w2 (wVar 3) (wC (.int (0))) gIx))) (sRet (jam jj1 (jab (wVar 0) (jab (wVar 1) (jab (wVar 2) (jab (wVar 3) aNil)))))) jas) (sSeq (sSet 4 (w2 (w2 (wVar 1) (wC (.int (0))) gIx) (wVar 2) gIx)) (sSeq (sSet 5 (w2 (wVar 1) (wC (.int (1))) gIx)) (sSeq (sSet 6 (w2 (wVar 4) (wC (.int (2))) gIx)) (sSeq (sIf (cT (w2 (w2 (wVar 3) (wC (.int (0))) gIx) (wC (.str "lay")) gEq)) (sSeq (sSet 5 (w2 (wVar 5) (wTup (jab (wTup (jab (jam jgp (jab (w2 (wVar 3) (wC (.int (1))) gIx) (jab (wVar 6) aNil))) (jab (w2 (wVar 3) (wC (.int (2))) gIx) aNil))) aNil)) jks)) (sSet 4 (jam jm4 (jab (wVar 4) (jab (wVar 6) aNil))))) (sIf (cAnd (cT (w2 (w2 (wVar 3) (wC (.int (0))) gIx) (wC (.str "same")) gEq)) (cT (jam jox (jab (wVar 3) (jab (wVar 6) aNil))))) (sSet 4 (jam jm4 (jab (wVar 4) (jab (wVar 6) aNil)))) (sSet 4 (jam jo4 (jab (w2 (wVar 0) (wVar 2) gIx) (jab (w2 (wVar 3) (wNeg (wC (.int (1)))) gIx) (jab (wVar 6) aNil))))))) (sRet (wTup (jab (jam jec (jab (w2 (wVar 1) (wC (.int (0))) gIx) (jab (wVar 2) (jab (wVar 4) aNil)))) (jab (wVar 5) aNil)))))))))))
def jvs:DST:=(sRet (wIf (cT (w2 (w2 (wVar 0) (wC (.int (1))) gIx) (wC .none) (gIsN false))) (wVar 0) (wTup (jab (w2 (wVar 0) (wC (.int (0))) gIx) (jab (w2 (w2 (wVar 0) (wC (.int (1))) gIx) (wC (.int (1))) (gI0 λi j=>.int (i - j))) aNil)))))
def jd4:DST:=(sRet (wTup (jab (w2 (wVar 0) (wC (.int (0))) gIx) (jab (wB jdf (jab (wOf (jb6 [none] (jdi (w2 (wVar 0) (wC (.int (1))) gIx)) (jak 0) (cT (w2 (w2 (wVar 0) (wC (.int (1))) gIx) (wC (.int (1))) gNe)) (jam jo5 (jab (wVar 0) aNil)))) aNil)) aNil))))
def jp4:DST:=(sSeq (sSet 3 (wB gLen (jab (wVar 0) aNil))) (sSeq (sIf (cNot (cT (jam jgn (jab (wVar 2) (jab (wVar 3) aNil))))) (sRet (wC .none)) jas) (sRet (wIf (cT (w2 (wVar 2) (wVar 3) gEq)) (jam jj5 (jab (wVar 1) aNil)) (jam jo3 (jab (wVar 0) (jab (wVar 1) (jab (wVar 2) aNil))))))))
def jp3:DST:=(sSeq (sSet 3 (jam jj6 (jab (wVar 0) (jab (wVar 1) (jab (wVar 2) aNil))))) (sSeq (sIf (cT (w2 (wVar 3) (wC .none) (gIsN false))) sNo jas) (sRet (wVar 3))))
def je3:DST:=(sRet (w2 (wOf (fLst (jab (wC (.str "a")) (jab (wC (.int (0))) (jab (wC (.str "a")) (jab (wC (.int (1))) (jab (wC (.str "ab")) (jab (wC (.str "go")) (jab (wC (.int (99))) (jab (wC (.int (0))) aNil)))))))))) (jam jav (jab (wVar 0) (jab (wC (.int (8))) aNil))) gIx))
def jf6:DST:=(sRet (w2 (wOf (fLst (jab (wC (.int (1))) (jab (wC (.int (2))) (jab (wC (.int (2))) (jab (wC (.int (2))) (jab (wC (.int (1))) (jab (wC (.int (3))) (jab (wC (.int (4))) aNil))))))))) (jam jav (jab (wVar 0) (jab (wC (.int (7))) aNil))) gIx))
def jhc:DST:=(sRet (w2 (wTp3 0) (jam jav (jab (wVar 0) (jab (wB jg1 (jab (wTp3 0) aNil)) aNil))) gIxL))
def jdo:DST:=(sSeq (sOwn 2 (fLst aNil)) (sSeq (sOwn 3 (fLst aNil)) (sSeq (sFor (ja1 (jam jfv (jab (wVar 0) aNil))) (jak 4) (sSeq (sSet 5 (jam jav (jab (wVar 0) (jab (wC (.int (9))) aNil)))) (sSeq (sSet 6 (w2 (wVar 1) (jgq 3) gCat)) (sIf (cT (w2 (wVar 5) (wC (.int (3))) gLt)) (sApp 2 (wTup (jab (wC (.str "is")) (jab (jam jck (jab (wVar 0) aNil)) aNil)))) (sIf (cT (w2 (wVar 5) (wC (.int (6))) gLt)) (sApp 2 (w2 (wOf (fLst (jab (wTup (jab (wC (.str "any")) aNil)) (jab (wTup (jab (wC (.str "word")) aNil)) (jab (wTup (jab (wC (.str "number")) aNil)) aNil))))) (w2 (wVar 5) (wC (.int (3))) (gI0 λi j=>.int (i - j))) gIxL)) (sIf (cOr (cT (w2 (wVar 5) (wC (.int (8))) gLt)) (cT (w2 (wVar 6) (wOf (fLst aNil)) gEqL))) (sSeq (sSet 7 (w2 (wOf (fLst (jab (wC (.str "n")) (jab (wC (.str "nm")) (jab (wC (.str "go")) (jab (wC (.str "m")) aNil)))))) (jam jav (jab (wVar 0) (jab (wC (.int (4))) aNil))) gIxL)) (sSeq (sApp 3 (wVar 7)) (sApp 2 (wTup (jab (wC (.str "bind")) (jab (wVar 7) aNil)))))) (sApp 2 (wTup (jab (wC (.str "as")) (jab (w2 (wVar 6) (jam jav (jab (wVar 0) (jab (wB jg1 (jab (wVar 6) aNil)) aNil))) gIxL) aNil)))))))))) (sFrz 2 (sFrz 3 (sRet (wTup (jab (wB jcu (jab (wVar 2) aNil)) (jab (wVar 3) aNil)))))))))
def jc5:DST:=(sSeq (sOwn 2 (fLst aNil)) (sSeq (sFor (ja1 (jam jfv (jab (wVar 0) aNil))) (jak 3) (sSeq (sSet 4 (jam jav (jab (wVar 0) (jab (wC (.int (6))) aNil)))) (sIf (cOr (cT (w2 (wVar 4) (wC (.int (3))) gLt)) (cT (w2 (wVar 1) (wOf (fLst aNil)) gEqL))) (sApp 2 (wTup (jab (wC (.str "is")) (jab (jam jck (jab (wVar 0) aNil)) aNil)))) (sApp 2 (wTup (jab (w2 (wOf (fLst (jab (wC (.str "as")) (jab (wC (.str "as")) (jab (wC (.str "next")) aNil))))) (w2 (wVar 4) (wC (.int (3))) (gI0 λi j=>.int (i - j))) gIxL) (jab (w2 (wVar 1) (jam jav (jab (wVar 0) (jab (wB jg1 (jab (wVar 1) aNil)) aNil))) gIxL) aNil))))))) (sFrz 2 (sRet (wB jcu (jab (wVar 2) aNil))))))
def jf5:DST:=(sSeq (sIf (cOr (cT (w2 (wVar 1) (wOf (fLst aNil)) gEqL)) (cT (w2 (jam jav (jab (wVar 0) (jab (wC (.int (2))) aNil))) (wC (.int (0))) gEqL))) (sRet (wTup (jab (wC (.str "is")) (jab (jam jck (jab (wVar 0) aNil)) aNil)))) jas) (sRet (wTup (jab (wC (.str "as")) (jab (w2 (wVar 1) (jam jav (jab (wVar 0) (jab (wB jg1 (jab (wVar 1) aNil)) aNil))) gIxL) aNil)))))
def jhd:DST:=(sSeq (sSet 3 (jam jav (jab (wVar 0) (jab (wC (.int (12))) aNil)))) (sSeq (sIf (cT (w2 (wVar 3) (wC (.int (4))) gLt)) (sRet (wTup (jab (wTup (jab (wC (.str "lay")) (jab (jam jo1 (jab (wVar 0) (jab (wVar 1) aNil))) (jab (jam jk2 (jab (wVar 0) aNil)) aNil)))) (jab (wOf (fLst aNil)) aNil)))) jas) (sSeq (sSet 4 (w2 (wVar 2) (jam jav (jab (wVar 0) (jab (wB jg1 (jab (wVar 2) aNil)) aNil))) gIxL)) (sSeq (sIf (cT (w2 (wVar 3) (wC (.int (10))) gEqL)) (sRet (wTup (jab (wTup (jab (wC (.str "same")) (jab (jam jhe (jab (wVar 0) (jab (wVar 1) aNil))) (jab (jam jhe (jab (wVar 0) (jab (wVar 1) aNil))) (jab (wVar 4) aNil))))) (jab (wOf (fLst aNil)) aNil)))) jas) (sSeq (sIf (cT (w2 (wVar 3) (wC (.int (11))) gEqL)) (sRet (wTup (jab (wTup (jab (wC (.str "go")) (jab (wVar 4) aNil))) (jab (wOf (fLst aNil)) aNil)))) jas) (sSeq (sUnp (jam jo2 (jab (wVar 0) (jab (wVar 1) aNil))) (jet 2 (jbg (jak 5) (jbg (jak 6) jdl)))) (sSeq (sIf (cT (w2 (wVar 3) (wC (.int (7))) gGt)) (sRet (wTup (jab (wTup (jab (wC (.str "look")) (jab (wVar 5) (jab (wVar 4) aNil)))) (jab (wVar 6) aNil)))) jas) (sRet (wTup (jab (wTup (jab (w2 (wOf (fLst (jab (wC (.str "take")) (jab (wC (.str "take")) (jab (wC (.str "take")) (jab (wC (.str "read")) aNil)))))) (w2 (wVar 3) (wC (.int (4))) (gI0 λi j=>.int (i - j))) gIxL) (jab (wVar 5) aNil))) (jab (wVar 6) aNil)))))))))))
def jdn:DST:=(sSeq (sOwn 1 (fLst (jab (wTup aNil) aNil))) (sSeq (sFor (ja1 (w2 (wOf (fLst (jab (wC (.int (0))) (jab (wC (.int (1))) (jab (wC (.int (2))) (jab (wC (.int (1))) (jab (wC (.int (0))) (jab (wC (.int (2))) (jab (wC (.int (5))) aNil))))))))) (jam jav (jab (wVar 0) (jab (wC (.int (7))) aNil))) gIxL)) (jak 2) (sApp 1 (w2 (wOf (fLst (jab (wTup aNil) (jab (wTup (jab (wC (.str "n")) aNil)) (jab (wTup (jab (wC (.str "go")) (jab (wC (.str "n")) aNil))) (jab (wTup (jab (wC (.str "nm")) aNil)) (jab (wTup aNil) aNil))))))) (jam jav (jab (wVar 0) (jab (wC (.int (5))) aNil))) gIxL))) (sSeq (sOwn 3 (fLst aNil)) (sFrz 1 (sSeq (sFor (jkj (wVar 1)) (jak 4) (sSeq (sOwn 5 (jd2 (wVar 4))) (sSeq (sOwn 6 (fLst aNil)) (sSeq (sFor (ja1 (w2 (wOf (fLst (jab (wC (.int (2))) (jab (wC (.int (3))) (jab (wC (.int (1))) (jab (wC (.int (4))) (jab (wC (.int (2))) (jab (wC (.int (0))) (jab (wC (.int (3))) (jab (wC (.int (8))) aNil)))))))))) (jam jav (jab (wVar 0) (jab (wC (.int (8))) aNil))) gIxL)) (jak 2) (sSeq (sSet 8 (wOf (jb6 [none,some 5,some 1] (ja1 (wB jg1 (jab (wVar 1) aNil))) (jak 0) (cT (w2 (wOf (jb6 [none,some 1] (jdi (w2 (wVar 2) (wVar 0) gIxL)) (jak 0) (cT (w2 (wVar 0) (wVar 1) (gInL true))) (wVar 0))) (wOf (fLst aNil)) gEqL)) (wVar 0)))) (sSeq (sUnp (jam jj3 (jab (wVar 0) (jab (jgq 5) (jab (wVar 8) aNil)))) (jet 2 (jbg (jak 9) (jbg (jak 10) jdl)))) (sSeq (sApp 6 (wVar 9)) (sFor (jkj (wVar 10)) (jak 7) (sIf (cT (w2 (wVar 7) (jgq 5) (gInL true))) (sApp 5 (wVar 7)) jas)))))) (sFrz 6 (sApp 3 (wTup (jab (wVar 4) (jab (wB jcu (jab (wVar 6) aNil)) aNil))))))))) (sFrz 3 (sRet (wB jcu (jab (wVar 3) aNil)))))))))
def je5:DST:=(sSeq (sOwn 2 (fLst aNil)) (sSeq (sFor (ja1 (jam jav (jab (wVar 0) (jab (w2 (wVar 1) (wC (.int (1))) (gI0 λi j=>.int (i+j))) aNil)))) (jak 3) (sSeq (sSet 4 (wB jcu (jab (wOf (jb6 [none,some 0] (ja1 (jam jfv (jab (wVar 0) aNil))) (jak 0) cYes (jam jck (jab (wVar 1) aNil)))) aNil))) (sApp 2 (wTup (jab (wVar 4) (jab (jam jk2 (jab (wVar 0) aNil)) aNil)))))) (sFrz 2 (sRet (wB jcu (jab (wVar 2) aNil))))))
def jf7:DST:=(sSeq (sOwn 1 (jb6 [none,some 0] (ja1 (w2 (wOf (fLst (jab (wC (.int (2))) (jab (wC (.int (1))) (jab (wC (.int (2))) (jab (wC (.int (3))) (jab (wC (.int (2))) (jab (wC (.int (1))) (jab (wC (.int (0))) (jab (wC (.int (5))) aNil)))))))))) (jam jav (jab (wVar 0) (jab (wC (.int (8))) aNil))) gIxL)) (jak 0) cYes (jam joy (jab (wVar 1) aNil)))) (sSeq (sIf (cAnd (cT (w2 (wB jg1 (jab (jgq 1) aNil)) (wC (.int (2))) gEqL)) (cT (w2 (jam jav (jab (wVar 0) (jab (wC (.int (4))) aNil))) (wC (.int (0))) gEqL))) (sPut 1 (wC (.int (1))) (w2 (jgq 1) (wC (.int (0))) gIxL)) jas) (sFrz 1 (sRet (wTup (jab (wB jcu (jab (wVar 1) aNil)) (jab (jam je8 (jab (wVar 0) (jab (w2 (wOf (fLst (jab (wC (.int (4))) (jab (wC (.int (3))) (jab (wC (.int (6))) (jab (wC (.int (12))) aNil)))))) (jam jav (jab (wVar 0) (jab (wC (.int (4))) aNil))) gIxL) aNil))) aNil)))))))
def je7:DST:=(sSeq (sOwn 3 (jd2 (w2 (w2 (wVar 0) (wVar 1) gIx) (wC (.int (0))) gIx))) (sSeq (sFor (jdi (jca (w2 (w2 (wVar 0) (wVar 1) gIx) (wC (.int (1))) gIx) jdz (jdy (wVar 2)))) (jak 4) (sIf (cT (w2 (w2 (wVar 4) (wC (.int (0))) gIx) (wTup (jab (wC (.str "take")) (jab (wC (.str "read")) (jab (wC (.str "look")) aNil)))) (gIn false))) (sExt 3 (wOf (jb6 [none] (jdi (w2 (wVar 4) (wC (.int (1))) gIx)) (jak 0) (cT (w2 (w2 (wVar 0) (wC (.int (0))) gIx) (wC (.str "bind")) gEq)) (w2 (wVar 0) (wC (.int (1))) gIx)))) jas)) (sFrz 3 (sRet (wOf (jmm (wVar 3)))))))
def je4:DST:=(sSeq (sOwn 2 (fLst aNil)) (sSeq (sFor (jdi (wVar 1)) (jak 3) (sSeq (sSet 4 (jam jav (jab (wVar 0) (jab (wB gLen (jab (wVar 3) aNil)) aNil)))) (sSeq (sSet 5 (jam jav (jab (wVar 0) (jab (w2 (wB gLen (jab (w2 (w2 (wVar 3) (wVar 4) gIx) (wC (.int (1))) gIx) aNil)) (wC (.int (1))) (gI0 λi j=>.int (i+j))) aNil)))) (sSeq (sSet 6 (wB jdf (jab (wOf (jb6 [none,some 0] (jkj (jam jgo (jab (wVar 3) (jab (wVar 4) (jab (wVar 5) aNil))))) (jak 0) cYes (wTup (jab (wVar 0) (jab (jam jck (jab (wVar 1) aNil)) aNil))))) aNil))) (sApp 2 (wTup (jab (wVar 4) (jab (wVar 5) (jab (wVar 6) aNil))))))))) (sFrz 2 (sRet (wTup (jab (wB jdf (jab (wVar 2) aNil)) (jab (jam je8 (jab (wVar 0) (jab (wC (.int (6))) aNil))) aNil)))))))
def jc6:DST:=(sSeq (sUnp (w2 (w2 (wVar 1) (wC (.int (0))) gIx) (wVar 2) gIx) (jet 3 (jbg (jak 3) (jbg (jak 4) (jbg (jak 5) jdl))))) (sSeq (sSet 6 (w2 (w2 (w2 (wVar 0) (wVar 2) gIx) (wVar 3) gIx) (wC (.int (1))) gIx)) (sRet (wIf (cT (w2 (wVar 4) (wB gLen (jab (wVar 6) aNil)) gLt)) (w2 (wVar 6) (wVar 4) gIx) (wC .none)))))
def jf8:DST:=(sSeq (jlw 3 (jpo (wVar 2))) (sSeq (sOwn 4 (fLst aNil)) (sSeq (sFor (jdi (wVar 1)) (jak 5) (sSeq (sSet 6 (jam jck (jab (wVar 0) aNil))) (sSeq (sIf (cT (w2 (w2 (wVar 5) (wC (.int (0))) gIx) (wC (.str "is")) gEq)) (sSet 6 (w2 (wVar 5) (wC (.int (1))) gIx)) (sIf (cT (w2 (w2 (wVar 5) (wC (.int (0))) gIx) (wTup (jab (wC (.str "word")) (jab (wC (.str "number")) aNil))) (gIn false))) (sSet 6 (w2 (jv1 "word" "ab" "number" 99) (w2 (wVar 5) (wC (.int (0))) gIx) joe)) (sIf (cT (w2 (w2 (wVar 5) (wC (.int (0))) gIx) (wTup (jab (wC (.str "bind")) (jab (wC (.str "as")) aNil))) (gIn false))) (sSeq (sSet 6 (jm7 (jcy 3) (w2 (wVar 5) (wC (.int (1))) gIx) (wVar 6))) (jno 3 (w2 (wVar 5) (wC (.int (1))) gIx) (wVar 6))) jas))) (sApp 4 (wVar 6))))) (sFrz 4 (sRet (wB jdf (jab (wVar 4) aNil)))))))
def je6:DST:=(sSeq (sOwn 3 (jd2 (w2 (wVar 2) (wC (.int (1))) gIx))) (sSeq (sFor (ja1 (wB gLen (jab (wVar 1) aNil))) (jak 4) (sSeq (sSet 5 (jam jch (jab (wVar 1) (jab (wVar 2) (jab (wVar 4) aNil))))) (sIf (cAnd (cT (w2 (wVar 5) (wC .none) (gIsN true))) (cAnd (cT (w2 (w2 (wVar 5) (wC (.int (0))) gIx) (wTup (jab (wC (.str "take")) (jab (wC (.str "read")) (jab (wC (.str "look")) aNil)))) (gIn false))) (cT (w2 (jam jav (jab (wVar 0) (jab (wC (.int (3))) aNil))) (wC (.int (0))) gGt)))) (sSeq (sSet 6 (wTup (jab (jam jo0 (jab (wVar 0) (jab (w2 (wVar 5) (wC (.int (1))) gIx) (jab (w2 (w2 (w2 (wVar 2) (wC (.int (0))) gIx) (wVar 4) gIx) (wC (.int (2))) gIx) aNil)))) (jab (jam jk2 (jab (wVar 0) aNil)) aNil)))) (sIns 3 (jam jav (jab (wVar 0) (jab (w2 (jii 3) (wC (.int (1))) (gI0 λi j=>.int (i+j))) aNil))) (wVar 6))) jas))) (sFrz 3 (sRet (wTup (jab (w2 (wVar 2) (wC (.int (0))) gIx) (jab (wB jdf (jab (wVar 3) aNil)) aNil)))))))
def jcg:DST:=(sSeq (sSet 4 (w2 (wVar 1) (wC (.int (1))) gIx)) (sSeq (sSet 5 (jam jch (jab (wVar 0) (jab (wVar 1) (jab (wVar 3) aNil))))) (sSeq (sIf (cT (w2 (w2 (wVar 5) (wC (.int (0))) gIx) (wC (.str "lay")) gEq)) (sRet (wAnd (w2 (jca (w2 (wVar 2) (wC (.int (1))) gIx) jdz (jdy (wNeg (wC (.int (1)))))) (wVar 4) (gXX λd e=>some (Bd d e))) (w2 (wB gLen (jab (w2 (wVar 2) (wC (.int (1))) gIx) aNil)) (w2 (wB gLen (jab (wVar 4) aNil)) (wC (.int (1))) (gI0 λi j=>.int (i+j))) gEq))) jas) (sSeq (sIf (cT (w2 (w2 (wVar 5) (wC (.int (0))) gIx) (wC (.str "take")) gEq)) (sSeq (sSet 6 (jam jfw (jab (wVar 0) (jab (wVar 1) (jab (wVar 3) aNil))))) (sRet (w2 (w2 (wVar 2) (wC (.int (1))) gIx) (w2 (jca (wVar 4) jdz (jdy (wVar 6))) (jca (wVar 4) (jdy (w2 (wVar 6) (wC (.int (1))) (gI0 λi j=>.int (i+j)))) jdz) jks) (gXX λd e=>some (Bd d e))))) jas) (sRet (w2 (w2 (wVar 2) (wC (.int (1))) gIx) (wVar 4) (gXX λd e=>some (Bd d e))))))))
def jb7:DST:=(sSeq (sSet 2 (wOf (jb6 [none,none] (jdi (w2 (wVar 0) (wC (.int (1))) gIx)) (jet 2 (jbg (jak 0) (jbg (jak 1) jdl))) (cT (w2 (wVar 1) (wC (.int (1))) gNe)) (wTup (jab (wVar 0) (jab (wVar 1) aNil)))))) (sSeq (sIf (cOr (cT (w2 (w2 (wVar 1) (wC (.int (0))) gIx) (w2 (wVar 0) (wC (.int (0))) gIx) (gXX λd e=>some (!Bd d e)))) (cT (w2 (wB gLen (jab (w2 (wVar 1) (wC (.int (1))) gIx) aNil)) (wB gLen (jab (wVar 2) aNil)) gNe))) (sRet (wC (.bool false))) jas) (sSeq (sFor (jus (wVar 2) (w2 (wVar 1) (wC (.int (1))) gIx)) (jet 2 (jbg (jak 3) (jbg (jak 4) jdl))) (sSeq (sIf (cOr (cT (w2 (w2 (wVar 4) (wC (.int (0))) gIx) (w2 (wVar 3) (wC (.int (0))) gIx) (gXX λd e=>some (!Bd d e)))) (cAnd (cT (w2 (w2 (wVar 3) (wC (.int (1))) gIx) (wC .none) (gIsN false))) (cT (w2 (w2 (wVar 4) (wC (.int (1))) gIx) (wC .none) (gIsN true))))) (sRet (wC (.bool false))) jas) (sIf (cAnd (cT (w2 (w2 (wVar 3) (wC (.int (1))) gIx) (wC .none) (gIsN true))) (cT (w2 (w2 (wVar 4) (wC (.int (1))) gIx) (w2 (w2 (wVar 3) (wC (.int (1))) gIx) (wC (.int (1))) (gI0 λi j=>.int (i - j))) (gXX λd e=>some (!Bd d e))))) (sRet (wC (.bool false))) jas))) (sRet (wC (.bool true))))))
def jcf:DST:=(sSeq (sSet 2 (wOf (jgi jc7 (jab (wVar 0) (jab (wVar 1) aNil))))) (sSeq (sFor (ja1 (wB gLen (jab (wVar 0) aNil))) (jak 3) (sSeq (sSet 4 (jam jch (jab (wVar 0) (jab (wVar 1) (jab (wVar 3) aNil))))) (sSeq (sIf (cAnd (cT (w2 (wVar 4) (wC .none) (gIsN false))) (cT (w2 (wVar 3) (wVar 2) (gIn false)))) (sRet (wC (.bool false))) jas) (sIf (cAnd (cT (w2 (wVar 4) (wC .none) (gIsN true))) (cAnd (cT (w2 (w2 (wVar 4) (wC (.int (0))) gIx) (wTup (jab (wC (.str "take")) (jab (wC (.str "read")) aNil))) (gIn true))) (cT (w2 (wVar 3) (wVar 2) (gIn true))))) (sRet (wC (.bool false))) jas)))) (sRet (wC (.bool true)))))
def jce:DST:=(sSeq (sFor (ja1 (wC (.int (4)))) (jak 2) (sSeq (sSet 3 (jam je9 (jab (wVar 0) (jab (wVar 1) (jab (wB gLen (jab (wVar 0) aNil)) aNil))))) (sSeq (sIf (cOr (cT (w2 (wOf (jgi jc7 (jab (wVar 0) (jab (wVar 3) aNil)))) (wOf (fLst aNil)) (gXX λd e=>some (!Bd d e)))) (cT (w2 (wB gLen (jab (w2 (wVar 3) (wC (.int (1))) gIx) aNil)) (wB gLen (jab (w2 (wVar 1) (wC (.int (1))) gIx) aNil)) gGt))) (sRet (wC (.bool false))) jas) (sSet 1 (wVar 3))))) (sRet (wC (.bool true))))
def j53:DST:=(sSeq (sSet 2 (w2 (jam joz (jab (wVar 1) aNil)) (wC (.int (0))) gIx)) (sSeq (sSet 3 (wB gLen (jab (wVar 2) aNil))) (sSeq (sFor (ja1 (wC (.int (3)))) (jak 4) (sSeq (sSet 5 (jam jj2 (jab (wVar 1) (jab (wVar 2) (jab (jam jj0 (jab (wVar 1) (jab (wVar 2) aNil))) aNil))))) (sFor (ja1 (w2 (wC (.int (1))) (jam jav (jab (wVar 1) (jab (wC (.int (8))) aNil))) (gI0 λi j=>.int (i+j)))) (jak 6) (sSeq (sSet 7 (w2 (wOf (jgi jc7 (jab (wVar 2) (jab (wVar 5) aNil)))) (wOf (fLst (jab (wVar 3) aNil))) gCat)) (sSeq (sIf (cOr (cNot (cT (jam S_rr (jab (wVar 2) (jab (wVar 5) aNil))))) (cAnd (cT (w2 (wVar 7) (wOf (fLst (jab (wVar 3) aNil))) (gXX λd e=>some (Bd d e)))) (cNot (cT (jam S_sr (jab (wVar 2) (jab (wVar 5) aNil))))))) (sRet (wC (.bool false))) jas) (sSeq (sSet 8 (w2 (wVar 7) (jam jav (jab (wVar 1) (jab (wB gLen (jab (wVar 7) aNil)) aNil))) gIx)) (sSeq (sSet 9 (jam je9 (jab (wVar 2) (jab (wVar 5) (jab (wVar 8) aNil))))) (sSeq (sSet 10 (wOf (jb6 [none,some 9,some 8,some 5] (ja1 (wVar 3)) (jak 0) (cAnd (cT (w2 (wVar 0) (wVar 2) (gXX λd e=>some (!Bd d e)))) (cT (w2 (w2 (w2 (wVar 1) (wC (.int (0))) gIx) (wVar 0) gIx) (w2 (w2 (wVar 3) (wC (.int (0))) gIx) (wVar 0) gIx) (gXX λd e=>some (!Bd d e))))) (wVar 0)))) (sSeq (sIf (cOr (cT (w2 (wVar 10) (wOf (fLst aNil)) (gXX λd e=>some (!Bd d e)))) (cT (w2 (wB gLen (jab (w2 (wVar 9) (wC (.int (0))) gIx) aNil)) (wVar 3) gNe))) (sRet (wC (.bool false))) jas) (sSeq (sIf (cAnd (cT (w2 (wVar 8) (wVar 3) (gXX λd e=>some (Bd d e)))) (cNot (cT (jam S_tr (jab (wVar 5) (jab (wVar 9) aNil)))))) (sRet (wC (.bool false))) jas) (sSeq (sIf (cAnd (cT (w2 (wVar 8) (wVar 3) gLt)) (cNot (cT (jam S_nr (jab (wVar 2) (jab (wVar 5) (jab (wVar 9) (jab (wVar 8) aNil)))))))) (sRet (wC (.bool false))) jas) (sSet 5 (wVar 9))))))))))))) (sRet (wC (.bool true))))))
theorem jkd:∀ws n Q,S_ff ws n Q->ws.length=4:=λws n Q h=>by
 obtain⟨_,_,_,_,rfl,_⟩:=h;rfl
theorem jjn:∀ws n Q,S_ff ws n Q->je2 (jaz ["field","value","having","bound","head"] ws) n {nx:=λ_ n=>Q (.d .none) n,rt:=Q}:=λws n Q h=>by
 obtain⟨f,v,hp,bp,rfl,fok,hv,hh,hb,k⟩:=h;show je2 [some (.w (.d f.d)),some (.w (.d v)),some (.w (.dk (txK hp))),some (.w (.dk (txK bp))),none] n {nx:=λ_ n=>Q (.d .none) n,rt:=Q};cases f with
 |is w =>
  show(match eqD w v with | some r=>Q (.d (.bool r)) n | none=>False);rw[jx3 (show isV w=true from fok) hv];exact k
 |any=>exact k
 |word =>
  show Q (.d (.bool (isiB "str" v))) n;cases v<;>exact k
 |number =>
  show Q (.d (.bool (isiB "int" v))) n;cases v<;>first | cases hv | exact k
 |as x =>
  show jjt (.d (.bool (valD (txK hp) (.inr x)).isSome)) (match valD (txK hp) (.inr x)with | some d=>(match eqD d v with | some r=>Q (.d (.bool r)) n | none=>False) | none=>False) (Q (.d (.bool false)) n);rw[jij];unfold ffB at k;cases e:look hp x with
  |none =>
   simp only[e]at k;exact k
  |some w =>
   simp only[e]at k;show(match eqD w v with | some r=>Q (.d (.bool r)) n | none=>False);rw[jx3 (hh _ (jc0 e)).2 hv];exact k
 |bind x =>
  show jjt (.d (.bool (!(valD (txK bp) (.inr x)).isSome))) (Q (.d (.bool true)) n) (match valD (txK bp) (.inr x)with | some d=>(match eqD d v with | some r=>Q (.d (.bool r)) n | none=>False) | none=>False);rw[jij];unfold ffB at k;cases e:look bp x with
  |none =>
   simp only[e]at k;exact k
  |some w =>
   simp only[e]at k;show(match eqD w v with | some r=>Q (.d (.bool r)) n | none=>False);rw[jx3 (hb _ (jc0 e)).2 hv];exact k
theorem jzy {p:Prop} [Decidable p] {A B:Prop} (h1:p->A) (h2:¬p->B):if decide p=true then A else B:=by
 by_cases z:p
 ·rw[if_pos (decide_eq_true z)];exact h1 z
 ·rw[if_neg (by rw[decide_eq_false z];exact Ak)];exact h2 z
theorem jqq:∀ps:Nm,jiu (ps.map jiv)=some (txK ps)
 |[]=>rfl
 |p::r=>by
  show(jiu (r.map jiv)).map _=_;rw[jqq r];rfl
theorem j04 {l:Nm} {x:Str} {v:Ae} (h:x∉l.map (·.1)):put l x v=l++[(x,v)]:=by
 unfold put;rw[if_neg λz=>by
  obtain⟨p,hp,e⟩:=Dg.mp z;exact h (Bq.mpr ⟨p,hp,of_decide_eq_true e⟩)]
theorem jl4:∀(r l:Nm),((l++r).map (·.1)).Nodup->jd9 (txK l) (txK r)=txK (l++r)
 |[],l,_=>by rw[B9];rfl
 |p::r,l,nd=>by
  have e:l++p::r=(l++[p])++r:=by simp
  show jd9 (putD (txK l) (.inr p.1) p.2) (txK r)=_;rw[jqi,j04,e]
  ·exact jl4 r (l++[p]) (by rw[<-e];exact nd)
  ·intro z;rw[Bm,Bo,List.nodup_append]at nd;exact nd.2.2 _ z _ A2 rfl
theorem jif {δ:Sl} {n:Int} {K:DEnds} {i j:Nat} {ps:Nm} (e:δ[j]?=some (some (.w (.d (jba ps))))) (ok:okN ps) (k:K.nx (δ.set i (some (.odk (txK ps)))) n):jlw i (jpo (wVar j)) δ n K:=by
 unfold jlw jpo;refine jad e ?_;unfold jba;simp only[jqq];refine⟨by rw[Ab];have:=ok.1;omega,?_⟩;have:=jl4 ps [] (by rw[B8];exact ok.2.1);rw[B8]at this;rw[show([]:List (Key×Ae))=txK []from rfl,this];exact k
section
variable {δ:Sl} {n:Int} {K:DEnds} {W V:DST} {Q:DQ}
theorem j14 {i j n:Int} {Q:DQ} (k:Q (.d (.bool (!decide (i=j)))) n):gNe (.d (.int i)) (.d (.int j)) n Q:=k
theorem j46 {xs ys:List Ae} (e0:δ[0]?=some (some (.w (.d (.tuple xs))))) (e1:δ[1]?=some (some (.w (.d (.tuple ys))))) (hT:xs.length≠ys.length->W δ n K) (hF:xs.length=ys.length->V δ n K) :
  sIf (cT (w2 (wB gLen (jab (wVar 0) aNil)) (wB gLen (jab (wVar 1) aNil)) gNe)) W V δ n K:=by
 unfold sIf cT w2 wB jab aNil;refine jad e0 ?_;show wVar 1 δ n _;refine jad e1 ?_;dsimp only[gLen];refine j14 ?_;refine ifb (λh=>hT λz=>?_) λh=>hF ?_
 ·rw[z,decide_eq_true rfl]at h;cases h
 ·by_cases z:(xs.length:Int)=(ys.length:Int)
  ·exact Int.ofNat.inj z
  ·rw[decide_eq_false z]at h;cases h
theorem j6o {g:Fd} {v:Ae} {hp bp:Nm} (e5:δ[5]?=some (some (.w (.d g.d)))) (e6:δ[6]?=some (some (.w (.d v)))) (e3:δ[3]?=some (some (.odk (txK hp)))) (e4:δ[4]?=some (some (.odk (txK bp)))) (gok:g.ok) (hv:isV v=true) (hh:∀p∈hp,okV p) (hb:∀p∈bp,okV p)
  (hT:ffB g v hp bp=false->W δ n K) (hF:ffB g v hp bp=true->V δ n K):sIf (cNot (cT (jam S_ff (jab (wVar 5) (jab (wVar 6) (jab (jcy 3) (jab (jcy 4) aNil))))))) W V δ n K:=by
 unfold sIf cNot cT jam jab aNil;refine jad e5 ?_;refine jad e6 ?_;unfold jcy;simp only[e3,e4];refine⟨g,v,hp,bp,rfl,gok,hv,hh,hb,?_⟩;refine ifb (λh=>hT ?_) λh=>hF ?_
 ·cases q:ffB g v hp bp with | false=>rfl | true=>rw[q]at h;cases h
 ·cases q:ffB g v hp bp with | true=>rfl | false=>rw[q]at h;cases h
variable {xs:List Ae} {j:Nat} {a b v:Ae} {r:List Ae}
end
def Res (gs:List Fd) (vs:List Ae) (hp:Nm) (hs:List Str) (r:Ae):Prop:=match wk (gs.zip vs) hp hs with
 |none=>r=.none
 |some h=>r=jba (srtN h)
theorem j3v {g:Fd} {v:Ae} {gs:List Fd} {vs:List Ae} {hp bp:Nm} {hs:List Str} (h1:∀x,x∈hs↔(look bp x).isSome=true) (h2:∀x w,look bp x=some w->look hp x=some w) (h:ffB g v hp bp=false):Res (g::gs) (v::vs) hp hs .none:=by
 have key:wk ((g,v)::gs.zip vs) hp hs=none:=by
  cases g with
  |is w=>unfold wk;rw[if_neg (by rw[show eqB w v=false from h];exact Ak)]
  |any=>cases h
  |word=>unfold wk;rw[if_neg (by rw[show isSt v=false from h];exact Ak)]
  |number=>unfold wk;rw[if_neg (by rw[show isIn v=false from h];exact Ak)]
  |as x =>
   unfold wk;unfold ffB at h;cases q:look hp x with
   |none=>rfl
   |some w =>
    simp only[q]at h;simp only[h,Cq,if_false]
  |bind x =>
   unfold wk;unfold ffB at h;cases q:look bp x with
   |none=>simp only[q]at h;cases h
   |some w =>
    simp only[q]at h;rw[if_pos ((h1 x).mpr (by rw[q];rfl)),h2 x w q];simp only[h,Cq,if_false]
 unfold Res;rw[List.zip_cons_cons,key]
theorem j2u {g:Fd} {v:Ae} {l:List (Fd×Ae)} {hp bp:Nm} {hs:List Str} (ng:∀x,g≠.bind x) (h:ffB g v hp bp=true):wk ((g,v)::l) hp hs=wk l hp hs:=by
 cases g with
 |is w=>rw[wk,if_pos (show eqB w v=true from h)]
 |any=>rw[wk]
 |word=>rw[wk,if_pos (show isSt v=true from h)]
 |number=>rw[wk,if_pos (show isIn v=true from h)]
 |as x =>
  rw[wk];unfold ffB at h;cases q:look hp x with
  |none=>simp only[q]at h;cases h
  |some w =>
   simp only[q]at h;simp only[h,if_true]
 |bind x=>exact absurd rfl (ng x)
theorem jja (x:Str):∀hs:List Str,inD (.str x) (hs.map .str)=decide (x∈hs)
 |[]=>by simp[inD]
 |y::r=>by
  show(eqF (.str y) (.str x) || inD (.str x) (r.map .str))=_;rw[jja x r];have e:eqF (.str y) (.str x)=decide (x=y):=by
   show(y==x)=_;by_cases z:x=y
   ·subst z;rw[decide_eq_true rfl];exact beq_self_eq_true _
   ·rw[decide_eq_false z];exact beq_eq_false_iff_ne.mpr λw=>z w.symm
  rw[e];by_cases z:x=y
  ·subst z;simp
  ·rw[decide_eq_false z,Bool.false_or];by_cases q:x∈r
   ·rw[decide_eq_true q,decide_eq_true (As _ q)]
   ·rw[decide_eq_false q,decide_eq_false (by simp[z,q])]
theorem jxd {hp:Nm} (nd:(hp.map (·.1)).Nodup) {p:Str×Ae} (h:p∈hp):look hp p.1=some p.2:=by
 cases q:look hp p.1 with
 |none =>
  have a:=jig hp p.1;rw[q]at a;have b:(hp.any λq=>decide (q.1=p.1))=true:=Dg.mpr ⟨p,h,decide_eq_true rfl⟩;rw[b]at a;cases a
 |some v =>
  have hm:=jc0 q;obtain⟨i,hi⟩:=Cb.mp h;obtain⟨j,hj⟩:=Cb.mp hm;have a1:(hp.map (·.1))[i]?=some p.1:=by rw[A0,hi];rfl
  have a2:(hp.map (·.1))[j]?=some p.1:=by rw[A0,hj];rfl
  obtain⟨b1,b2⟩:=Ay.mp a1;obtain⟨c1,c2⟩:=Ay.mp a2;have:=(E3 nd).mp (b2.trans c2.symm);rw[this,hj]at hi;have:=Aq hi;rw[<-this]
theorem j4i {δ:Sl} {n:Int} {K:DEnds} {i:Nat} (k:K.nx (δ.set i (some (.odk (txK [])))) n):jlw i kNil δ n K:=k
theorem j15 {δ:Sl} {n:Int} {K:DEnds} {g:DTG} {W:DST} {xs ys:List Ae} (e0:δ[0]?=some (some (.w (.d (.tuple xs))))) (e1:δ[1]?=some (some (.w (.d (.tuple ys))))) (hl:xs.length=ys.length) (k:forD g W K (zipD xs ys) δ n):sFor (jxq (wVar 0) (wVar 1)) g W δ n K:=by
 unfold sFor jxq;exact jad e0 (jad e1 ⟨hl,k⟩)
theorem jxj:∀ws n Q,jj4 ws n Q->ws.length=3:=λws n Q h=>by
 obtain⟨_,_,_,rfl,_⟩:=h;rfl
abbrev zqq1:List Str:=["pattern","row","names","having","bound","field","value"]
theorem jvk:∀ws n Q,jj4 ws n Q->jre (jaz zqq1 ws) n {nx:=λ_ n=>Q (.d .none) n,rt:=Q}:=λws n Q h=>by
 obtain⟨fs,row,nm,rfl,okp,okr,okn,k0⟩:=h;have k:∀r,Fit fs row nm r->Q (.d r) n:=λr hr=>by rw[j5i hr];exact k0
 show jre [some (.w (.d (patD fs))),some (.w (.d (.tuple row))),some (.w (.d (jba nm))),none,none,none,none] n {nx:=λ_ n=>Q (.d .none) n,rt:=Q};unfold jre;refine jal (j46 (xs:=fs.map Fd.d) (ys:=row) rfl rfl (λne=>?_) λel=>?_)
 ·show Q (.d .none) n;refine k .none ?_;unfold Fit;rw[Ab]at ne;rw[if_neg ne]
 ·rw[Ab]at el;dsimp only[jas];refine jal (jif rfl okn ?_);dsimp only[Av];refine jal (j4i ?_);dsimp only[Av];refine jal (j15 (xs:=fs.map Fd.d) (ys:=row) rfl rfl (by rw[Ab];exact el) ?_);refine jbh (λds δ m=>m=n/\∃(gs:List Fd) (vs:List Ae) (hp bp:Nm) (hs:List Str) (y z:Option SV),ds=zipD (gs.map Fd.d) vs/\gs.length=vs.length/\δ=[some (.w (.d (patD fs))),some (.w (.d (.tuple row))),some (.w (.d (jba nm))),some (.odk (txK hp)),some (.odk (txK bp)),y,z] /\
   (∀g∈gs,g.ok)/\(∀d∈vs,isV d=true)/\(hp.map (·.1)).Nodup/\(∀p∈hp,okV p)/\(∀p∈bp,okV p)/\hp.length+gs.length<=48/\bp.length+gs.length<=48/\(∀x,x∈hs↔(look bp x).isSome=true)/\(∀x w,look bp x=some w->look hp x=some w)/\∀r,Res gs vs hp hs r->Q (.d r) n) ?_ ?_ _ _ _ ?_
  ·rintro δ m ⟨rfl,gs,vs,hp,bp,hs,y,z,e,hl,rfl,gok,vok,nd,hok,bok,l1,l2,i1,i2,kq⟩
   have:gs=[]:=by
    cases gs with
    |nil=>rfl
    |cons g gs=>cases vs with | nil=>cases hl | cons v vs=>cases e
   subst this;rw[List.length_nil]at l1;show ∃ps':Nm,txK hp=txK ps'/\_;refine⟨hp,rfl,by omega,nd,λp hp'=>⟨Ba (hok p hp').1.1 (by decide),j5h (hok p hp').2⟩,λps' p1 r1=>?_⟩;exact kq (.tuple (ps'.map jiv)) (by show PyData.tuple (ps'.map jiv)=jba (srtN hp);rw[j3a nd p1 r1];rfl)
  ·rintro d r δ m N ⟨rfl,gs,vs,hp,bp,hs,y,z,e,hl,rfl,gok,vok,nd,hok,bok,l1,l2,i1,i2,kq⟩ hN
   cases gs with
   |nil=>cases e
   |cons g gs =>
    cases vs with
    |nil=>cases hl
    |cons v vs =>
     have e1:d=.tuple [g.d,v]:=by have:=congrArg (λl=>l.head?) e;simpa[zipD]using this
     have e2:r=zipD (gs.map Fd.d) vs:=by have:=congrArg List.tail e;simpa[zipD]using this
     subst e1 e2;rw[Ax]at l1 l2;rw[Ax,Ax]at hl;have gk:=gok g A2;have vk:=vok v A2;refine⟨rfl,?_⟩;dsimp only[jbg,jak,jdl,Av];refine jal (j6o rfl rfl rfl rfl gk vk hok bok (λff=>?_) λff=>?_)
     ·exact kq .none (j3v i1 i2 ff)
     ·dsimp only[jas];have go:(∀x,g≠.bind x)->N [some (.w (.d (patD fs))),some (.w (.d (.tuple row))),some (.w (.d (jba nm))),some (.odk (txK hp)),some (.odk (txK bp)),some (.w (.d g.d)),some (.w (.d v))] m:=λng=>by
       refine hN _ _ ⟨rfl,gs,vs,hp,bp,hs,_,_,rfl,by omega,rfl,λg hg=>gok g (As _ hg),λd hd=>vok d (As _ hd),nd,hok,bok,by omega,by omega,i1,i2,λr hr=>kq r ?_⟩;unfold Res at hr ⊢;rw[List.zip_cons_cons,j2u ng ff];exact hr
      cases g with
      |is w=>exact go λx z=>nomatch z
      |any=>exact go λx z=>nomatch z
      |word=>exact go λx z=>nomatch z
      |number=>exact go λx z=>nomatch z
      |as x=>exact go λx z=>nomatch z
      |bind x =>
       refine j1y (a:=.str "bind") (r:=[.str x]) rfl jn8 ?_;show(txK bp).length < 1000/\(txK hp).length < 1000/\N [some (.w (.d (patD fs))),some (.w (.d (.tuple row))),some (.w (.d (jba nm))),some (.odk (putD (txK hp) (.inr x) v)),some (.odk (putD (txK bp) (.inr x) v)),some (.w (.d (Fd.d (.bind x)))),some (.w (.d v))] m;rw[jqi,jqi];refine⟨by unfold txK;rw[Ab];omega,by unfold txK;rw[Ab];omega,?_⟩;have p1:=jl0 hp x v;have p2:=jl0 bp x v;refine hN _ _ ⟨rfl,gs,vs,put hp x v,put bp x v,if x∈hs then hs else hs++[x],_,_,rfl,by omega,rfl,λg hg=>gok g (As _ hg),λd hd=>vok d (As _ hd),jzi nd,jnr hok gk vk,jnr bok gk vk,by omega,by omega,λy=>?_,λy w hw=>?_,λr hr=>kq r ?_⟩
       ·by_cases q:y=x
        ·subst q;rw[jgf];refine⟨λ_=>rfl,λ_=>?_⟩
         split
         ·assumption
         ·exact Bf _ (Be.mpr rfl)
        ·rw[ji5 q,<-i1]
         split
         ·exact Iff.rfl
         ·simp[q]
       ·by_cases q:y=x
        ·subst q;rw[jgf]at hw ⊢;exact hw
        ·rw[ji5 q]at hw ⊢;exact i2 y w hw
       ·unfold Res at hr ⊢;rw[List.zip_cons_cons,wk];by_cases q:x∈hs
        ·rw[if_pos q]at hr ⊢;cases lb:look bp x with
         |none=>rw[i1,lb]at q;cases q
         |some w =>
          have lh:=i2 x w lb;unfold ffB at ff;simp only[lb]at ff;have wv:w=v:=j5l (bok _ (jc0 lb)).2 vk ff;subst wv;rw[jwt nd lh]at hr;simp only[lh,ff,if_true];exact hr
        ·rw[if_neg q]at hr ⊢;exact hr
  ·refine⟨rfl,fs,row,nm,[],[],none,none,rfl,el,rfl,okp.2.2,okr.2,okn.2.1,okn.2.2,λ_ z=>absurd z Aw,by have:=okp.2.1;have:=okn.1;omega,by have:=okp.2.1;simp;omega,λx=>⟨λz=>absurd z Aw,λz=>by cases z⟩,λx w z=>(nomatch z),λr hr=>k r ?_⟩;unfold Fit;rw[if_pos el];exact hr
theorem jke:∀ws n Q,jck ws n Q->ws.length=1:=λws n Q h=>by obtain⟨rfl,_⟩:=h;rfl
abbrev zqa:List Str:=["_law_tape_here"]
theorem jjo:∀ws n Q,jck ws n Q->je3 (jaz zqa ws) n {nx:=λ_ n=>Q (.d .none) n,rt:=Q}:=λws n Q h=>by
 obtain⟨rfl,hn,k⟩:=h;show je3 [some (.w .tp)] n _;refine jbi (w2_i (of_i (Am (by decide) ?_)));dsimp only;refine jev (m:=8) rfl (by omega) (by decide) (by decide) λr h0 h1=>jqz (ds:=[.str "a",.int 0,.str "a",.int 1,.str "ab",.str "go",.int 99,.int 0]) h0 h1 λd hd=>k d ?_;simp only[Ao,Aw,or_false]at hd;rcases hd with rfl | rfl | rfl | rfl | rfl | rfl | rfl | rfl<;>simp[jv3]
theorem jl9:∀ws n Q,jfv ws n Q->ws.length=1:=λws n Q h=>by obtain⟨rfl,_⟩:=h;rfl
theorem jkz:∀ws n Q,jfv ws n Q->jf6 (jaz zqa ws) n {nx:=λ_ n=>Q (.d .none) n,rt:=Q}:=λws n Q h=>by
 obtain⟨rfl,hn,k⟩:=h;show jf6 [some (.w .tp)] n _;refine jbi (w2_i (of_i (Am (by decide) ?_)));dsimp only;refine jev (m:=7) rfl (by omega) (by decide) (by decide) λr h0 h1=>jqz (ds:=[.int 1,.int 2,.int 2,.int 2,.int 1,.int 3,.int 4]) h0 h1 λd hd=>?_;simp only[Ao,Aw,or_false]at hd;rcases hd with rfl | rfl | rfl | rfl | rfl | rfl | rfl
 ·exact k 1 (by decide) (by decide)
 ·exact k 2 (by decide) (by decide)
 ·exact k 2 (by decide) (by decide)
 ·exact k 2 (by decide) (by decide)
 ·exact k 1 (by decide) (by decide)
 ·exact k 3 (by decide) (by decide)
 ·exact k 4 (by decide) (by decide)
theorem j3u {δ:Sl} {n:Int} {K:DEnds} {W:DST} {g:DTG} (e:δ[0]?=some (some (.w .tp))) (hn:n < 2 ^ 39) (k:∀m:Nat,1<=m->m<=4->forD g W K (rngD 0 m) δ (n+1)):sFor (ja1 (jam jfv (jab (wVar 0) aNil))) g W δ n K:=by
 unfold sFor ja1;refine c1_i (jad e (Am rfl ⟨hn,λm h1 h4=>?_⟩));refine Am ⟨by omega,by omega⟩ ?_;rw[Bp];exact k m h1 h4
theorem jpy {c:DTT} {w:DT} {Q:List Ae->Int->Prop} {rest:Sl} (g:Fe->Option Ae) (hno:∀(f:Fe) (n:Int) (Q':Bool->Int->Prop),g f=none->Q' false n->c (some (.w (.d f.d))::rest) n Q')
  (hyes:∀(f:Fe) (n:Int) (Q':Bool->Int->Prop) (y:Ae),g f=some y->Q' true n->c (some (.w (.d f.d))::rest) n Q') (hw:∀(f:Fe) (n:Int) (Q':DQ) (y:Ae),g f=some y->Q' (.d y) n->w (some (.w (.d f.d))::rest) n Q') :
  ∀(fs:List Fe) (acc:List Ae) (x:Option SV) (n:Int),Q (acc++fs.filterMap g) n->jco (jak 0) c w Q (fs.map Fe.d) acc (x::rest) n
 |[],acc,x,n,q=>by
  rw[List.filterMap_nil,B9]at q;exact q
 |f::r,acc,x,n,q=>by
  rw[Bo];simp only[jco,jak,Ek];cases e:g f with
  |none =>
   refine hno f n _ e ?_;rw[if_neg Ak];refine jpy g hno hyes hw r acc _ n ?_;rw[List.filterMap_cons_none e]at q;exact q
  |some y =>
   refine hyes f n _ y e ?_;rw[if_pos rfl];refine hw f n _ y e ?_;refine jpy g hno hyes hw r (acc++[y]) _ n ?_;rw[List.filterMap_cons_some e]at q;rw[Bw];exact q
def strO (o:Option Str):Option Ae:=o.map .str
theorem jv9 (g:Fe->Option Str) (fs:List Fe):fs.filterMap (λf=>strO (g f))=(fs.filterMap g).map .str:=by
 rw[List.map_filterMap];rfl
theorem j67 (f:Fe):jbc "bind" (.str f.hd)=f.bd.isSome:=by
 cases f with
 |any=>exact(show jbc "bind" (.str "any")=false by decide +kernel)
 |word=>exact(show jbc "bind" (.str "word")=false by decide +kernel)
 |num=>exact(show jbc "bind" (.str "number")=false by decide +kernel)
 |isv _=>exact(show jbc "bind" (.str "is")=false by decide +kernel)
 |bind _=>exact(show jbc "bind" (.str "bind")=true by decide +kernel)
 |as _=>exact(show jbc "bind" (.str "as")=false by decide +kernel)
 |nx _=>exact(show jbc "bind" (.str "next")=false by decide +kernel)
theorem j66 {f:Fe} {k:Str} (h:f.bd=some k):f.d=.tuple [.str f.hd,.str k]:=by
 cases f<;>cases h;rfl
theorem jnf {o:Option Str} {y:Ae} (h:strO o=some y):∃k,o=some k/\y=.str k:=by
 cases o with
 |none=>cases h
 |some k=>cases h;exact⟨k,rfl,rfl⟩
theorem js2 {o:Option Str} (h:strO o=none):o=none:=by
 cases o with
 |none=>rfl
 |some k=>cases h
theorem jw6 {fs:List Fe} (h:okFs fs):∀k∈bndE fs,okK k:=λk hk=>by
 obtain⟨f,hf,e⟩:=Gt.mp hk;have:=h.2 f hf;cases f<;>cases e;exact this
theorem jxf {fs:List Fe} (h:okFs fs):(bndE fs).length<=4:=Ba (List.length_filterMap_le _ _) h.1
theorem j42 {δ:Sl} {n:Int} {Q:DQ} {a b:Ae} (e:δ[0]?=some (some (.w (.d (.tuple [a,b]))))) (k:Q (.d b) n):w2 (wVar 0) (wC (.int 1)) gIx δ n Q:=jee (r:=[]) e k
theorem jz6 {f:Fe} {rest:Sl} {n:Int} {Q':Bool->Int->Prop} (k:Q' f.bd.isSome n):cT (w2 (w2 (wVar 0) (wC (.int 0)) gIx) (wC (.str "bind")) gEq) (some (.w (.d f.d))::rest) n Q':=by
 refine jx1 (i:=0) (a:=.str f.hd) (r:=f.tl) rfl ?_;show Q' (jbc "bind" (.str f.hd)) n;rw[j67];exact k
theorem jr3 {Q:List Ae->Int->Prop} (fs:List Fe) (n:Int) (k:Q ((bndE fs).map .str) n) :
  jco (jak 0) (cT (w2 (w2 (wVar 0) (wC (.int 0)) gIx) (wC (.str "bind")) gEq)) (w2 (wVar 0) (wC (.int 1)) gIx) Q (fs.map Fe.d) [] [none] n:=by
 refine jpy (λf=>strO f.bd) (λf n Q' e q=>jz6 ?_) (λf n Q' y e q=>jz6 ?_) (λf n Q' y e q=>?_) fs [] none n ?_
 ·rw[js2 e];exact q
 ·obtain⟨x,e1,_⟩:=jnf e;rw[e1];exact q
 ·obtain⟨x,e1,rfl⟩:=jnf e;exact j42 (by rw[j66 e1];rfl) q
 ·rw[jv9];exact k
theorem j45 {δ:Sl} {n:Int} {hs:List Str} {w:DT} {s:Str} {b:Bool} {Q:Bool->Int->Prop} (hw:∀Q:DQ,Q (.d (.str s)) n->w δ n Q) (e:inD (.str s) (hs.map .str)=b) (q:Q b n):cT (wInG hs w) δ n Q:=hw _ (Am rfl (by show Q (inD (.str s) (hs.map .str)) n;rw[e];exact q))
theorem j2m {a:Ac} (h:okFs a.fs):(∀k∈a.bs,okK k)/\a.bs.length<=4:=by
 cases a with
 |take fs=>exact⟨jw6 h,jxf h⟩
 |read fs=>exact⟨jw6 h,jxf h⟩
 |look fs b=>exact⟨jw6 h,jxf h⟩
 |lay fs b=>exact⟨λk hk=>by simp[Ac.bs]at hk,by simp[Ac.bs]⟩
 |same f g b=>exact⟨λk hk=>by simp[Ac.bs]at hk,by simp[Ac.bs]⟩
 |go b=>exact⟨λk hk=>by simp[Ac.bs]at hk,by simp[Ac.bs]⟩
theorem jiz:∀{ys ks:List Str},ys.Nodup->(∀k∈ys,k∈ks)->ys.length<=ks.length
 |[],_,_,_=>Bj _
 |y::ys,ks,h,hs=>by
  obtain⟨h1,h2⟩:=Dz.mp h;have hm:=hs y A2;have:=jiz (ks:=ks.erase y) h2 λk hk=>(List.mem_erase_of_ne (λ(e:k=y)=>h1 (e▸hk))).mpr (hs k (As _ hk));rw[List.length_erase_of_mem hm]at this;have:=List.length_pos_of_mem hm;rw[Ax];omega
structure KnI (w:List Str) (dn:List Ac) (L:List Str):Prop where
 mem:∀k,k∈L↔k∈w++dn.flatMap Ac.bs
 len:L.length<=4+4*dn.length
 ok:∀k∈L,okK k
theorem KnI.first {w:List Str} (h:w.length<=4) (ok:∀k∈w,okK k):KnI w [] w:=⟨λk=>by simp,by simpa using h,ok⟩
theorem KnI.skip {w L:List Str} {dn:List Ac} {a:Ac} (I:KnI w dn L) (e:a.bs=[]):KnI w (dn++[a]) L :=
 ⟨λk=>by rw[I.mem k,Gp];simp[e],by rw[An,A5];have:=I.len;omega,I.ok⟩
theorem KnI.more {w L ys:List Str} {dn:List Ac} {a:Ac} (I:KnI w dn L) (h:∀k,k∈ys↔k∈a.bs) (hl:ys.length<=4) (ok:okFs a.fs):KnI w (dn++[a]) (L++ys) :=
 ⟨λk=>by rw[A7,I.mem k,h k,Gp,<-Bw];simp[or_assoc],by rw[An,An,A5];have:=I.len;omega,λk hk=>by
  rcases A7.mp hk with z | z
  ·exact I.ok k z
  ·exact(j2m ok).1 k ((h k).mp z)⟩
theorem jk3 {v:Ae} (h:v∈jv3):isV v=true:=by
 simp only[jv3,Ao,Aw,or_false]at h;rcases h with rfl | rfl | rfl | rfl | rfl | rfl<;>decide +kernel
theorem j64 {v:Wv} {a b:List Ae} {n:Int} {Q:DQ} (hv:lsOf v=some a) (hl:a.length+b.length<=A1) (q:Q (.d (.list (a++b))) n):gCat v (.ln b) n Q:=by
 unfold gCat;rw[hv];exact⟨hl,q⟩
theorem j68 {δ:Sl} {n:Int} {Q:DQ} (e0:δ[0]?=some (some (.w .tp))) (h:n < 2 ^ 39) (k:∀v∈jm2,Q (.d v) (n+1)):w2 (wTp3 0) (jam jav (jab (wVar 0) (jab (wB jg1 (jab (wTp3 0) aNil)) aNil))) gIxL δ n Q:=by
 have ht:∀(n:Int) (Q:DQ),Q (.ln jm2) n->wTp3 0 δ n Q:=λn Q q=>by unfold wTp3;rw[e0];exact q
 exact w2_i (ht _ _ (jft (m:=7) e0 (λQ q=>b1_i (ht _ _ q)) (by omega) (by decide) (by decide) λr h0 h1=>jpp h0 h1 k))
theorem jym (f:Fe) (r:List Fe):bndE (f::r)=f.bd.toList++bndE r:=by cases f<;>rfl
theorem jyl (fs:List Fe) (f:Fe):bndE (fs++[f])=bndE fs++f.bd.toList:=by
 unfold bndE;rw[List.filterMap_append];cases f<;>rfl
theorem jpf:∀{fs:List Fe} {ks:List Str} {f:Fe},rF ks fs->(∀k,f.us=some k->k∈ks++bndE fs)->rF ks (fs++[f])
 |[],ks,f,_,h=>⟨λk hk=>by simpa[bndE]using h k hk,trivial⟩
 |g::r,ks,f,h1,h2=>⟨h1.1,jpf h1.2 λk hk=>by
  have:=h2 k hk;rw[jym,<-Bw]at this;exact this⟩
theorem jl5 {f:Ae} {ks:List Str} (h:f∈ks.map .str):∃s∈ks,f=.str s:=by
 obtain⟨s,hs,rfl⟩:=Bq.mp h;exact⟨s,hs,rfl⟩
def PatI (kv:Wv) (ks:List Str) (n0:Int) (ds:List Ae) (δ:Sl) (n:Int):Prop:=∃(fs:List Fe) (x y z u:Option SV),δ=[some (.w .tp),some (.w kv),some (.own (fs.map Fe.d)),some (.own ((bndE fs).map .str)),x,y,z,u]/\1<=fs.length+ds.length/\fs.length+ds.length<=4/\(∀f∈fs,f.ok/\f.pt=true)/\rF ks fs/\n+2*(ds.length:Int)<=n0+9
theorem jh6:∀ws n Q,jo2 ws n Q->ws.length=2:=λws n Q h=>by obtain⟨_,_,rfl,_⟩:=h;rfl
abbrev zqv:List Str:=["_law_tape_here","_law_known_here","_law_fields","_law_bound","_law_k","_law_way","_law_some","_law_name"]
theorem jg9:∀ws n Q,jo2 ws n Q->jdo (jaz zqv ws) n {nx:=λ_ n=>Q (.d .none) n,rt:=Q}:=λws n0 Q h=>by
 obtain⟨ks,kv,rfl,hkv,hks,hok,hn0,k⟩:=h;show jdo [some (.w .tp),some (.w kv),none,none,none,none,none,none] n0 _;refine jal (jem ?_);dsimp only[Av];refine jal (jem ?_);dsimp only[Av];refine jal (j3u rfl (by omega) λm h1 h4=>?_);refine jbh (PatI kv ks n0) (λδ n I=>?_) (λd r δ n N I kN=>?_) _ _ _ ⟨[],none,none,none,none,rfl,by rw[jbq];simpa using h1,by rw[jbq];simpa using h4,λf hf=>(by simp at hf),trivial,by rw[jbq];omega⟩
 ·obtain⟨fs,x,y,z,u,rfl,hf1,hf,hfo,hr,hn⟩:=I;dsimp only;refine jh9 rfl ?_;dsimp only[Av];refine jh9 rfl ?_;dsimp only[Av];exact jbi (jci (b1_i (jad rfl (jik (jad rfl (Am (show 2<=1000 by decide) (k fs n (by simpa using hf1) ⟨by simpa using hf,λf z=>(hfo f z).1⟩ (λf z=>(hfo f z).2) hr (by simpa using hn))))))))
 ·obtain⟨fs,x,y,z,u,rfl,hf1,hf,hfo,hr,hn⟩:=I;rw[Ax]at hf1 hf hn;dsimp only[jak,Av];have hfl:(fs.map Fe.d).length < 1000000:=by rw[Ab];omega
  have hbl:(bndE fs).length<=4:=Ba (List.length_filterMap_le _ _) (by omega);have hbo:∀s∈ks++bndE fs,okK s:=λs hs=>(A7.mp hs).elim (hok s) λz=>jw6 (fs:=fs) ⟨by omega,λf z=>(hfo f z).1⟩ s z;have nxt:∀(f:Fe) (n':Int) (y z u:Option SV) (B:List Ae),f.ok/\f.pt=true->(∀k,f.us=some k->k∈ks++bndE fs)->n'<=n+2->B=(bndE fs).map .str++f.bd.toList.map .str->N [some (.w .tp),some (.w kv),some (.own (fs.map Fe.d++[f.d])),some (.own B),some (.w (.d d)),y,z,u] n':=λf n' y z u B fo fu hn' hB =>
   kN _ _ ⟨fs++[f],some (.w (.d d)),y,z,u,by rw[hB,Bm,jyl,Bm];rfl,by rw[An,A5];omega,by rw[An,A5];omega,λg hg=>(A7.mp hg).elim (hfo g) λz=>by rw[Be]at z;subst z;exact fo,jpf hr fu,by omega⟩
  have nxtN:∀(f:Fe) (n':Int) (y z u:Option SV),f.bd=none->f.ok/\f.pt=true->(∀k,f.us=some k->k∈ks++bndE fs)->n'<=n+2->N [some (.w .tp),some (.w kv),some (.own (fs.map Fe.d++[f.d])),some (.own ((bndE fs).map .str)),some (.w (.d d)),y,z,u] n':=λf n' y z u fb fo fu hn' =>
   nxt f n' y z u _ fo fu hn' (by rw[fb];exact(B9 _).symm)
  refine jal (jtd (m:=9) rfl (by omega) (by decide) (by decide) λw w0 w1=>?_);dsimp only[Av];refine jal (ja2 (x:=.list (ks.map .str++(bndE fs).map .str)) (λQ q=>w2_i (jad rfl (jny rfl (j64 hkv (jq4 (by rw[Ab];omega) (by rw[Ab];omega)) q)))) ?_);dsimp only[Av];refine iflt rfl (λhw=>?_) (λhw=>?_)
  ·refine jm1 rfl (jci (c_i (c1_i (jad rfl (Am rfl ⟨by omega,λv hv=>?_⟩)))));exact Am (show 2<=1000 by decide) (Am hfl (nxtN (.isv v) _ _ _ _ rfl ⟨jk3 hv,rfl⟩ (λk hk=>by cases hk) (by omega)))
  ·refine iflt rfl (λhw6=>?_) (λhw6=>?_)
   ·refine jm1 rfl (w2_i (of_i (Am (by decide) (Am (by decide) (Am (by decide) (Am (by decide) ?_))))));dsimp only;refine w2_i (jad rfl (c_i ?_));dsimp only[gI0];refine jcq (ds:=[.tuple [.str "any"],.tuple [.str "word"],.tuple [.str "number"]]) (r:=w - 3) (by omega) (show w - 3 < 3 by omega) λf hf'=>?_;simp only[Ao,Aw,or_false]at hf';rcases hf' with rfl | rfl | rfl
    ·exact Am hfl (nxtN .any _ _ _ _ rfl ⟨trivial,rfl⟩ (λk hk=>by cases hk) (by omega))
    ·exact Am hfl (nxtN .word _ _ _ _ rfl ⟨trivial,rfl⟩ (λk hk=>by cases hk) (by omega))
    ·exact Am hfl (nxtN .num _ _ _ _ rfl ⟨trivial,rfl⟩ (λk hk=>by cases hk) (by omega))
   ·have bind:∀(K:DEnds) (L:List Ae),(∀δ n,N δ n->K.nx δ n)->sSeq (sSet 7 (w2 (wOf (fLst (jab (wC (.str "n")) (jab (wC (.str "nm")) (jab (wC (.str "go")) (jab (wC (.str "m")) aNil)))))) (jam jav (jab (wVar 0) (jab (wC (.int (4))) aNil))) gIxL)) (sSeq (sApp 3 (wVar 7)) (sApp 2 (wTup (jab (wC (.str "bind")) (jab (wVar 7) aNil)))))
      [some (.w .tp),some (.w kv),some (.own (fs.map Fe.d)),some (.own ((bndE fs).map .str)),some (.w (.d d)),some (.w (.d (.int w))),some (.w (.d (.list L))),u] (n+1) K:=λK L hK=>by
     refine jal (show w2 _ _ _ _ _ _ from w2_i (of_i (Am (by decide) ?_)));dsimp only;refine jev (m:=4) rfl (by omega) (by decide) (by decide) λr r0 r1=>jcq (ds:=[.str "n",.str "nm",.str "go",.str "m"]) r0 r1 λf hf'=>?_;have:∃s:Str,f=.str s/\okK s:=by
      simp only[Ao,Aw,or_false]at hf';rcases hf' with rfl | rfl | rfl | rfl<;>exact⟨_,rfl,by decide +kernel,by decide +kernel⟩
     obtain⟨s,rfl,so⟩:=this;dsimp only[Av];refine jal (jvo rfl (λQ q=>jad rfl q) (by rw[Ab];omega) ?_);dsimp only[Av];refine jvo (x:=.tuple [.str "bind",.str s]) rfl (λQ q=>jci (c_i (jad rfl (Am (show 2<=1000 by decide) q)))) hfl (hK _ _ ?_);exact nxt (.bind s) (n+1+1) _ _ _ _ ⟨so,rfl⟩ (λk hk=>by cases hk) (by omega) rfl
    by_cases hw8:w < 8
    ·refine if_y (λQ q=>jyb (λQ q=>ct_b (k:=true) (λQ q=>w2_i (jad rfl (c_i ?_))) q) q) (bind _ _ λ_ _ z=>z);show Q (.d (.bool (decide (w < 8)))) _;rw[decide_eq_true hw8];exact q
    ·have hmem:∀f∈ks.map Dj++(bndE fs).map Dj,∃s∈ks++bndE fs,f=.str s:=λf hf=>jl5 (by rw[Bm];exact hf);have hlen:(ks.map Dj++(bndE fs).map Dj).length<=2000:=by rw[An,Ab,Ab];omega
     generalize(ks.map Dj++(bndE fs).map Dj)=L at hmem hlen;cases L with
     |nil =>
      refine if_y (λQ q=>jg5 (λQ q=>ct_b (k:=false) (λQ q=>w2_i (jad rfl (c_i ?_))) q) (ct_b (k:=true) (λQ q=>w2_i (jad rfl (of_i (Am (Bj _) q)))) q)) (bind _ _ λ_ _ z=>z);show Q (.d (.bool (decide (w < 8)))) _;rw[decide_eq_false hw8];exact q
     |cons a l =>
      refine if_n (λQ q=>jg5 (λQ q=>ct_b (k:=false) (λQ q=>w2_i (jad rfl (c_i ?_))) q) (ct_b (k:=false) (λQ q=>w2_i (jad rfl (of_i (Am (Bj _) q)))) q)) ?_
      ·show Q (.d (.bool (decide (w < 8)))) _;rw[decide_eq_false hw8];exact q
      ·refine jm1 rfl (jci (c_i (w2_i (jad rfl ?_))));refine jft (m:=(a::l).length) rfl (λQ q=>b1_i (jad rfl q)) (by omega) (by rw[Ax];omega) (by omega) λr r0 r1=>jcq r0 r1 λf hf'=>?_;obtain⟨s,hs,rfl⟩:=hmem f hf';exact Am (show 2<=1000 by decide) (Am hfl (nxtN (.as s) _ _ _ _ rfl ⟨hbo s hs,rfl⟩ (λk hk=>by cases hk;exact hs) (by omega)))
theorem jvp {v:Ae} (h:v∈jm2):jiy v:=by
 simp only[jm2,Ao,Aw,or_false]at h;rcases h with rfl | rfl | rfl | rfl | rfl | rfl | rfl<;>first | exact .inl rfl | exact .inr ⟨_,rfl,by decide,by decide⟩
theorem jn1:∀ws n Q,jk2 ws n Q->ws.length=1:=λws n Q h=>by obtain⟨rfl,_⟩:=h;rfl
theorem jmz:∀ws n Q,jk2 ws n Q->jhc (jaz zqa ws) n {nx:=λ_ n=>Q (.d .none) n,rt:=Q}:=λws n Q h=>by
 obtain⟨rfl,hn,k⟩:=h;show jhc [some (.w .tp)] n _;exact jbi (j68 rfl hn k)
theorem j2j {δ:Sl} {n:Int} {Q:DQ} (e0:δ[0]?=some (some (.w .tp))) (h:n < 2 ^ 39) (k:∀v∈jm2,Q (.d v) (n+1)):jam jk2 (jab (wVar 0) aNil) δ n Q:=c1_i (jad e0 ⟨rfl,h,k⟩)
def TemI (ks:List Str) (n0:Int) (ds:List Ae) (δ:Sl) (n:Int):Prop:=∃(fs:List Fe) (x y:Option SV),δ=[some (.w .tp),some (.w (.ln (ks.map .str))),some (.own (fs.map Fe.d)),x,y]/\fs.length+ds.length<=4/\(∀f∈fs,f.ok/\f.tm=true)/\rF ks fs/\n+2*(ds.length:Int)<=n0+9
theorem jgu:∀ws n Q,jo1 ws n Q->ws.length=2:=λws n Q h=>by obtain⟨_,rfl,_⟩:=h;rfl
abbrev zqk1:List Str:=["_law_tape_here","_law_known_here","_law_fields","_law_k","_law_way"]
theorem jgl:∀ws n Q,jo1 ws n Q->jc5 (jaz zqk1 ws) n {nx:=λ_ n=>Q (.d .none) n,rt:=Q}:=λws n0 Q h=>by
 obtain⟨ks,rfl,hks,hok,hn0,k⟩:=h;show jc5 [some (.w .tp),some (.w (.ln (ks.map .str))),none,none,none] n0 _;refine jal (jem ?_);dsimp only[Av];refine jal (j3u rfl (by omega) λm h1 h4=>?_);refine jbh (TemI ks n0) (λδ n I=>?_) (λd r δ n N I kN=>?_) _ _ _ ⟨[],none,none,rfl,by rw[jbq];simpa using h4,λf hf=>(by simp at hf),trivial,by rw[jbq];omega⟩
 ·obtain⟨fs,x,y,rfl,hf,hfo,hr,hn⟩:=I;dsimp only;refine jh9 rfl ?_;dsimp only[Av];exact jbi (b1_i (jad rfl (jik (k fs n ⟨by simpa using hf,λf z=>(hfo f z).1⟩ (λf z=>(hfo f z).2) hr (by simpa using hn)))))
 ·obtain⟨fs,x,y,rfl,hf,hfo,hr,hn⟩:=I;rw[Ax]at hf hn;dsimp only[jak,Av];have hfl:(fs.map Fe.d).length < 1000000:=by rw[Ab];omega
  have nxt:∀(f:Fe) (n':Int) (y:Option SV),f.ok/\f.tm=true->(∀k,f.us=some k->k∈ks)->n'<=n+2->N [some (.w .tp),some (.w (.ln (ks.map .str))),some (.own (fs.map Fe.d++[f.d])),some (.w (.d d)),y] n':=λf n' y fo fu hn' =>
   kN _ _ ⟨fs++[f],some (.w (.d d)),y,by rw[Bm];rfl,by rw[An,A5];omega,λg hg=>(A7.mp hg).elim (hfo g) λz=>by rw[Be]at z;subst z;exact fo,jpf hr λk hk=>D1 _ (fu k hk),by omega⟩
  refine jal (jtd (m:=6) rfl (by omega) (by decide) (by decide) λw w0 w1=>?_);dsimp only[Av];have isv:∀K:DEnds,(∀δ n,N δ n->K.nx δ n)->sApp 2 (wTup (jab (wC (.str "is")) (jab (jam jck (jab (wVar 0) aNil)) aNil))) [some (.w .tp),some (.w (.ln (ks.map .str))),some (.own (fs.map Fe.d)),some (.w (.d d)),some (.w (.d (.int w)))] (n+1) K:=λK hK =>
   jm1 rfl (jci (c_i (c1_i (jad rfl (Am rfl ⟨by omega,λv hv=>Am (show 2<=1000 by decide) (Am hfl (hK _ _ (nxt (.isv v) _ _ ⟨jk3 hv,rfl⟩ (λk hk=>by cases hk) (by omega))))⟩)))))
  by_cases hw3:w < 3
  ·refine if_y (λQ q=>jyb (λQ q=>ct_b (k:=true) (λQ q=>w2_i (jad rfl (c_i ?_))) q) q) (isv _ λ_ _ z=>z);show Q (.d (.bool (decide (w < 3)))) _;rw[decide_eq_true hw3];exact q
  ·have ct3:∀Q:DQ,Q (.d (.bool false)) (n+1)->w2 (wVar 4) (wC (.int 3)) gLt [some (.w .tp),some (.w (.ln (ks.map .str))),some (.own (fs.map Fe.d)),some (.w (.d d)),some (.w (.d (.int w)))] (n+1) Q:=λQ q=>w2_i (jad rfl (c_i (by
    show Q (.d (.bool (decide (w < 3)))) _;rw[decide_eq_false hw3];exact q)))
   cases ks with
   |nil=>exact if_y (λQ q=>jg5 (λQ q=>ct_b (k:=false) ct3 q) (ct_b (k:=true) (λQ q=>w2_i (jad rfl (jfq (eqLn q)))) q)) (isv _ λ_ _ z=>z)
   |cons a l =>
    refine if_n (λQ q=>jg5 (λQ q=>ct_b (k:=false) ct3 q) (ct_b (k:=false) (λQ q=>w2_i (jad rfl (jfq (eqLn q)))) q)) ?_;refine jm1 rfl (jci (w2_i (of_i (Am (by decide) ?_))));dsimp only;refine w2_i (jad rfl (c_i ?_));dsimp only[gI0];refine jcq (ds:=[.str "as",.str "as",.str "next"]) (r:=w - 3) (by omega) (show w - 3 < 3 by omega) λf hf'=>?_;refine w2_i (jad rfl ?_);have hl:((a::l).map Dj).length<=1000:=by rw[Ab];exact hks
    refine jft (m:=((a::l).map Dj).length) rfl (λQ q=>b1_i (jad rfl q)) (by omega) (by rw[Ab,Ax];omega) (by omega) λr r0 r1=>jpp r0 r1 λf' hf''=>?_;obtain⟨s,hs,rfl⟩:=jl5 hf'';simp only[Ao,Aw,or_false]at hf';rcases hf' with rfl | rfl | rfl
    ·exact Am (show 2<=1000 by decide) (Am hfl (nxt (.as s) _ _ ⟨hok s hs,rfl⟩ (λk hk=>by cases hk;exact hs) (by omega)))
    ·exact Am (show 2<=1000 by decide) (Am hfl (nxt (.as s) _ _ ⟨hok s hs,rfl⟩ (λk hk=>by cases hk;exact hs) (by omega)))
    ·exact Am (show 2<=1000 by decide) (Am hfl (nxt (.nx s) _ _ ⟨hok s hs,rfl⟩ (λk hk=>by cases hk;exact hs) (by omega)))
theorem jl8:∀ws n Q,jhe ws n Q->ws.length=2:=λws n Q h=>by obtain⟨_,rfl,_⟩:=h;rfl
abbrev zqc:List Str:=["_law_tape_here","_law_known_here"]
theorem jky:∀ws n Q,jhe ws n Q->jf5 (jaz zqc ws) n {nx:=λ_ n=>Q (.d .none) n,rt:=Q}:=λws n Q h=>by
 obtain⟨ks,rfl,hks,hok,hn0,k⟩:=h;show jf5 [some (.w .tp),some (.w (.ln (ks.map .str)))] n _;have isv:∀n',n'<=n+1->sRet (wTup (jab (wC (.str "is")) (jab (jam jck (jab (wVar 0) aNil)) aNil))) [some (.w .tp),some (.w (.ln (ks.map .str)))] n' {nx:=λ_ n=>Q (.d .none) n,rt:=Q}:=λn' hn' =>
  jbi (jci (c_i (c1_i (jad rfl (Am rfl ⟨by omega,λv hv=>Am (show 2<=1000 by decide) (k (.isv v) _ (jk3 hv) rfl (λk hk=>by cases hk) (by omega))⟩)))))
 cases ks with
 |nil=>exact jal (if_y (λQ q=>jyb (λQ q=>ct_b (k:=true) (λQ q=>w2_i (jad rfl (jfq (eqLn q)))) q) q) (isv n (by omega)))
 |cons a l =>
  refine jal (if_i (jg5 (λQ q=>ct_b (k:=false) (λQ q=>w2_i (jad rfl (jfq (eqLn q)))) q) ?_));refine w2_i (jev (m:=2) rfl (by omega) (by decide) (by decide) λr r0 r1=>c_i (eqLi ?_));show if decide (r=0)=true then _ else _
  by_cases h:r=0
  ·rw[if_pos (decide_eq_true h)];exact isv (n+1) (by omega)
  ·rw[if_neg (by simpa using h)];dsimp only[jas];refine jbi (jci (c_i (w2_i (jad rfl ?_))));have hl:((a::l).map Dj).length<=1000:=by rw[Ab];exact hks
   refine jft (m:=((a::l).map Dj).length) rfl (λQ q=>b1_i (jad rfl q)) (by omega) (by rw[Ab,Ax];omega) (by omega) λr r0 r1=>jpp r0 r1 λf' hf''=>?_;obtain⟨s,hs,rfl⟩:=jl5 hf'';exact Am (show 2<=1000 by decide) (k (.as s) _ (hok s hs) rfl (λk hk=>by cases hk;exact hs) (by omega))
theorem jn2:∀ws n Q,jj3 ws n Q->ws.length=3:=λws n Q h=>by obtain⟨_,_,_,rfl,_⟩:=h;rfl
abbrev zqu:List Str:=["_law_tape_here","_law_known_here","_law_open_ones","_law_way","_law_block","_law_pattern_here","_law_bound"]
theorem jm0:∀ws n Q,jj3 ws n Q->jhd (jaz zqu ws) n {nx:=λ_ n=>Q (.d .none) n,rt:=Q}:=λws n Q h=>by
 obtain⟨ks,os,wants,rfl,hks,hok,ho,ho',hop,hn0,k⟩:=h;show jhd [some (.w .tp),some (.w (.ln (ks.map .str))),some (.w (.d (.list (os.map λb=>.int (b:Nat))))),none,none,none,none] n _;refine jal (jtd (m:=12) rfl (by omega) (by decide) (by decide) λw w0 w1=>?_);dsimp only[Av];refine jal (iflt rfl (λhw=>?_) (λhw=>?_))
 ·refine jbi (jci (jsn (c_i (c2_i (jad rfl (jad rfl (Dk ks ⟨rfl,hks,hok,by omega,λfs n' hfs htm hrf hn'=>?_⟩)))))));refine j2j rfl (by omega) λv hv=>?_;exact Am (show 3<=1000 by decide) (jfq (Am (show 2<=1000 by decide) (k (.lay fs v) _ ⟨hfs,htm,jvp hv⟩ ⟨hrf,λb hb=>by cases hb⟩ (by omega))))
 dsimp only[jas];refine jal (show sSet 4 _ _ _ _ from w2_i (jad rfl ?_));refine jft (m:=(os.map λb:Nat=>Ef (b:Nat)).length) rfl (λQ q=>b1_i (jad rfl q)) (by omega) (by rw[Ab];omega) (by rw[Ab];omega) λr r0 r1=>jcq r0 r1 λb hb=>?_;obtain⟨b,hbo,rfl⟩:=Bq.mp hb;have hto:=hop b hbo;dsimp only[Av];refine jal (ifeq rfl (λh10=>?_) (λh10=>?_))
 ·refine jbi (jci (j55 (c_i (c2_i (jad rfl (jad rfl (Dk ks ⟨rfl,hks,hok,by omega,λf n' fo fb fu hn'=>?_⟩)))))));refine c2_i (jad rfl (jad rfl (Dk ks ⟨rfl,hks,hok,by omega,λg n'' go gb gu hn''=>?_⟩)));refine jad rfl (Am (show 4<=1000 by decide) (jfq (Am (show 2<=1000 by decide) (k (.same f g b) _ ⟨⟨show 2<=4 by decide,λe he=>?_⟩,fb,gb⟩ ⟨⟨fu,λk hk=>D1 _ (gu k hk),trivial⟩,λb' hb'=>by cases hb';exact hto⟩ (by omega)))));simp only[Ac.fs,Ao,Aw,or_false]at he;rcases he with rfl | rfl
  ·exact fo
  ·exact go
 dsimp only[jas];refine jal (ifeq rfl (λh11=>?_) (λh11=>?_))
 ·exact jbi (jci (jci (c_i (jad rfl (Am (show 2<=1000 by decide) (jfq (Am (show 2<=1000 by decide) (k (.go b) _ ⟨⟨show 0<=4 by decide,λe he=>by simp[Ac.fs]at he⟩,trivial⟩ ⟨trivial,λb' hb'=>by cases hb';exact hto⟩ (by omega)))))))))
 dsimp only[jas];refine jal ?_;unfold sUnp;refine c2_i (jad rfl (jad rfl (Dk ks ⟨.ln (ks.map .str),rfl,rfl,hks,hok,by omega,λfs n' hf1 hfs hpt hrf hn'=>?_⟩)));refine Am rfl ?_;dsimp only[jbg,jdl,jak,Av];refine jal (ifgt rfl (λh7=>?_) (λh7=>?_))
 ·exact jbi (jci (jsn (c_i (jad rfl (jad rfl (Am (show 3<=1000 by decide) (jad rfl (Am (show 2<=1000 by decide) (k (.look fs b) _ ⟨hfs,hf1,hpt⟩ ⟨hrf,λb' hb'=>by cases hb';exact hto⟩ (by omega))))))))))
 dsimp only[jas];refine jbi (jci (jci (w2_i (of_i (Am (by decide) ?_)))));dsimp only;refine w2_i (jad rfl (c_i ?_));dsimp only[gI0];refine jcq (ds:=[.str "take",.str "take",.str "take",.str "read"]) (r:=w - 4) (by omega) (show w - 4 < 4 by omega) λf hf'=>?_;simp only[Ao,Aw,or_false]at hf';rcases hf' with rfl | rfl | rfl | rfl
 ·exact jad rfl (Am (show 2<=1000 by decide) (jad rfl (Am (show 2<=1000 by decide) (k (.take fs) _ ⟨hfs,hf1,hpt⟩ ⟨hrf,λb' hb'=>by cases hb'⟩ (by omega)))))
 ·exact jad rfl (Am (show 2<=1000 by decide) (jad rfl (Am (show 2<=1000 by decide) (k (.take fs) _ ⟨hfs,hf1,hpt⟩ ⟨hrf,λb' hb'=>by cases hb'⟩ (by omega)))))
 ·exact jad rfl (Am (show 2<=1000 by decide) (jad rfl (Am (show 2<=1000 by decide) (k (.take fs) _ ⟨hfs,hf1,hpt⟩ ⟨hrf,λb' hb'=>by cases hb'⟩ (by omega)))))
 ·exact jad rfl (Am (show 2<=1000 by decide) (jad rfl (Am (show 2<=1000 by decide) (k (.read fs) _ ⟨hfs,hf1,hpt⟩ ⟨hrf,λb' hb'=>by cases hb'⟩ (by omega)))))
def jh0:List (List Str):=[[],["n"],["go","n"],["nm"]]
theorem jz8 {w:List Str} (h:w∈jh0):w.length<=4/\(∀k∈w,okK k)/\w.Nodup/\upT w:=by
 have key:∀w∈jh0,w.length<=4/\(∀k∈w,k.length<=4/\PyData.strOk k=true)/\w.Nodup/\w.Pairwise λa b=>¬b.cps.toList < a.cps.toList:=by decide +kernel
 exact key w h
theorem jvd {Q:List Ae->Int->Prop} {n:Int} (ss ks:List Str) (k:Q ((ss.map Dj).filter λx=>!inD x (ks.map .str)) n) :
  jco (jak 0) (cT (w2 (wVar 0) (wVar 1) (gInL true))) (wVar 0) Q (ss.map .str) [] [none,some (.w (.ln (ks.map .str)))] n:=by
 refine jdg (λd=>∃s:Str,d=.str s) (λx=>!inD x (ks.map .str)) id (λd n Q' hd q=>?_) (λd n Q' hd q=>jad rfl q) _ [] none n (λd hd=>?_) ?_
 ·obtain⟨s,rfl⟩:=hd;exact ct_b (k:=!inD (.str s) (ks.map .str)) (λQ q=>w2_i (jad rfl (jad rfl (Am rfl ⟨jjg ks,q⟩)))) q
 ·obtain⟨s,_,rfl⟩:=Bq.mp hd;exact⟨s,rfl⟩
 ·rw[B8,List.map_id];exact k
theorem jxb (ss ks:List Str):((ss.map Dj).filter λx=>!inD x (ks.map .str)).isEmpty=decide (∀k∈ss,k∈ks):=by
 rw[Gm,List.isEmpty_iff,List.filter_eq_nil_iff,decide_eq_true_iff]
 constructor
 ·intro h k hk;have:=h (.str k) (Bq.mpr ⟨k,hk,rfl⟩);rw[jja]at this;simpa using this
 ·intro h d hd;obtain⟨k,hk,rfl⟩:=Bq.mp hd;rw[jja,decide_eq_true (h k hk)];simp
def jw4 (ws:List (List Str)) (ks:List Str):Ae->Bool
 |.int j=>decide (∀k∈ws.getD j.toNat [],k∈ks)
 |_=>false
def jnv (ws:List (List Str)) (ks:List Str):List Nat:=(Bs ws.length).filter λb=>decide (∀k∈ws.getD b [],k∈ks)
theorem jw3 (ws:List (List Str)) (ks:List Str):(rngD 0 ws.length).filter (jw4 ws ks)=(jnv ws ks).map λb=>.int (b:Nat):=by
 unfold rngD jnv;rw[List.filter_map];have e:(λi:Nat=>Ef (0+(i:Int)))=λb=>.int (b:Nat):=funext λi=>by rw[Int.zero_add]
 rw[e];rfl
theorem jvb {Q:List Ae->Int->Prop} {n:Int} (ws:List (List Str)) (ks:List Str) (k:Q ((jnv ws ks).map λb=>.int (b:Nat)) n) :
  jco (jak 0) (cT (w2 (wOf (jb6 [none,some 1] (jdi (w2 (wVar 2) (wVar 0) gIxL)) (jak 0) (cT (w2 (wVar 0) (wVar 1) (gInL true))) (wVar 0))) (wOf (fLst aNil)) gEqL)) (wVar 0) Q (rngD 0 ws.length) [] [none,some (.w (.ln (ks.map .str))),some (.w (.d (.list (ws.map jcj))))] n:=by
 refine jdg (λd=>∃j:Nat,j < ws.length/\d=.int j) (jw4 ws ks) id (λd n Q' hd q=>?_) (λd n Q' hd q=>jad rfl q) _ [] none n (λd hd=>?_) ?_
 ·obtain⟨j,hj,rfl⟩:=hd;have hg:(ws.map jcj)[j]?=some (.tuple (ws[j].map .str)):=by rw[A0,Ag hj];rfl
  refine ct_b (k:=jw4 ws ks (.int j)) (λQ q=>w2_i (of_i (jg6 (ds:=ws[j].map .str) (λQ q=>w2_i (jad rfl (jad rfl ?_))) (jvd ws[j] ks (jfq ?_))))) q
  ·show(match atI (ws.map jcj) (j:Int)with | some d=>Q (.d d) n | none=>False);rw[jbw hg];exact q
  ·have eo:jw4 ws ks (.int j)=((ws[j].map Dj).filter λx=>!inD x (ks.map .str)).isEmpty:=by
    rw[jxb];show decide (∀k∈ws.getD (j:Int).toNat [],k∈ks)=_;rw[Bp,List.getD_eq_getElem?_getD,Ag hj,Option.getD_some]
   rw[eo]at q;exact q
 ·unfold rngD at hd;obtain⟨j,hj,rfl⟩:=Bq.mp hd;exact⟨j,Ck.mp hj,by rw[Int.zero_add]⟩
 ·rw[B8,List.map_id,jw3];exact k
theorem jt2 {ws w0:List (List Str)} {ks:List Str} (h:ws=[]::w0):0 < (jnv ws ks).length :=
 List.length_pos_of_mem (a:=0) (Cm.mpr ⟨Ck.mpr (by rw[h];simp),by subst h;simp⟩)
theorem j1l {ws:List (List Str)} {ks:List Str} {b:Nat} (h:b∈jnv ws ks):∃w,ws[b]?=some w/\∀k∈w,k∈ks:=by
 obtain⟨h1,h2⟩:=Cm.mp h;have hj:=Ck.mp h1;refine⟨ws[b],Ag hj,?_⟩;have:=of_decide_eq_true h2;rw[List.getD_eq_getElem?_getD,Ag hj,Option.getD_some]at this;exact this
theorem jtp:∀{fs:List Fe} {ks ks':List Str},(∀k∈ks,k∈ks')->rF ks fs->rF ks' fs
 |[],_,_,_,_=>trivial
 |f::r,ks,ks',h,z=>⟨λk hk=>h k (z.1 k hk),jtp (λk hk=>(A7.mp hk).elim (λq=>D1 _ (h k q)) λq=>Bf _ q) z.2⟩
theorem Ac.right_mono {ws:List (List Str)} {ks ks':List Str} {a:Ac} (h:∀k∈ks,k∈ks') (z:a.right ws ks):a.right ws ks' :=
 ⟨jtp h z.1,λb hb=>by obtain⟨w,h1,h2⟩:=z.2 b hb;exact⟨w,h1,λk hk=>h k (h2 k hk)⟩⟩
theorem jwm {ws:List (List Str)} {w ks:List Str} {as:List Ac} {a:Ac} (h:riB ws (w,as)) (hk:∀k∈ks,k∈w++as.flatMap Ac.bs) (ha:a.right ws ks):riB ws (w,as++[a]):=λp b hb=>by
 dsimp only at hb ⊢;by_cases hp:p < as.length
 ·rw[E9 hp]at hb;have:=h p b hb;unfold kn at this ⊢;rw[List.take_append_of_le_length (E8 hp)];exact this
 ·rw[List.getElem?_append_right (by omega)]at hb;have e0:p - as.length=0:=by
   by_cases e:p - as.length=0
   ·exact e
   ·rw[Gb (by rw[A5];omega)]at hb;cases hb
  rw[e0]at hb;cases hb;have ep:p=as.length:=by omega
  subst ep;refine Ac.right_mono (λk z=>?_) ha;unfold kn;rw[List.take_append_of_le_length (Al _),List.take_length];exact hk k z
structure ActO (ws:List (List Str)) (want ks:List Str) (acts:List Ac):Prop where
 mem:∀k,k∈ks↔k∈want++acts.flatMap Ac.bs
 ok:∀k∈ks,okK k
 fs:∀a∈acts,okA a
 ri:riB ws (want,acts)
def ActI (ws:List (List Str)) (bl:List Ae) (want:List Str) (nb:Int) (ds:List Ae) (δ:Sl) (n:Int):Prop:=∃(ks:List Str) (acts:List Ac) (x2 x7 x8 x9 x10:Option SV),
 δ=[some (.w .tp),some (.w (.d (.list (ws.map jcj)))),x2,some (.own bl),some (.w (.d (jcj want))),some (.own (ks.map .str)),some (.own (acts.map Ac.d)),x7,x8,x9,x10]/\ActO ws want ks acts/\ks.length+4*ds.length<=40/\acts.length+ds.length<=8/\n+11*(ds.length:Int)<=nb+89
theorem jyp {ws w0:List (List Str)} {bl r:List Ae} {want:List Str} {d:Ae} {ks:List Str} {acts:List Ac} {nb n:Int} {x7 x8 x9 x10:Option SV} {K:DEnds} (hw0:ws=[]::w0) (hwl:ws.length<=6) (hnb:nb+89 < 2 ^ 39) (O:ActO ws want ks acts) (hk:ks.length+4*(r.length+1)<=40) (ha:acts.length+(r.length+1)<=8) (hn:n+11*((r.length:Int)+1)<=nb+89)
  (kN:∀δ n,ActI ws bl want nb r δ n->K.nx δ n) :
  sSeq (sSet 8 (wOf (jb6 [none,some 5,some 1] (ja1 (wB jg1 (jab (wVar 1) aNil))) (jak 0) (cT (w2 (wOf (jb6 [none,some 1] (jdi (w2 (wVar 2) (wVar 0) gIxL)) (jak 0) (cT (w2 (wVar 0) (wVar 1) (gInL true))) (wVar 0))) (wOf (fLst aNil)) gEqL)) (wVar 0)))) (sSeq (sUnp (jam jj3 (jab (wVar 0) (jab (jgq 5) (jab (wVar 8) aNil)))) (jet 2 (jbg (jak 9) (jbg (jak 10) jdl)))) (sSeq (sApp 6 (wVar 9)) (sFor (jkj (wVar 10)) (jak 7) (sIf (cT (w2 (wVar 7) (jgq 5) (gInL true))) (sApp 5 (wVar 7)) jas))))
   [some (.w .tp),some (.w (.d (.list (ws.map jcj)))),some (.w (.d d)),some (.own bl),some (.w (.d (jcj want))),some (.own (ks.map .str)),some (.own (acts.map Ac.d)),x7,x8,x9,x10] n K:=by
 refine jal (show sSet 8 _ _ _ _ from of_i ?_);unfold jb6 ja1;refine b1_i (jad rfl ?_);refine Am ⟨by omega,by rw[Ab];omega⟩ ?_;rw[Bp,Ab];refine jvb ws ks ?_;dsimp only[Av];refine jal ?_;unfold sUnp;have ol:(jnv ws ks).length<=6:=Ba (Ga _ _) (by rw[Et];exact hwl);refine c3_i (jad rfl (jny rfl (jad rfl ?_)));refine Dk ks (Dk (jnv ws ks) (Dk ws ⟨rfl,by omega,O.ok,jt2 hw0,by omega,λb hb=>j1l hb,by omega,λact n' hfs hri hn'=>?_⟩));refine Am rfl ?_;dsimp only[jbg,jdl,jak,Av];refine jal (jvo rfl (λQ q=>jad rfl q) (by rw[Ab];omega) ?_);dsimp only[Av];unfold sFor jkj;refine jad rfl ?_;dsimp only;have hbs:=j2m hfs.1;refine jbh (λds δ n''=>∃(ks' dn bs':List Str) (x7:Option SV),ds=bs'.map .str/\dn++bs'=act.bs/\(∀k,k∈ks'↔k∈ks++dn)/\n''=n'/\δ=[some (.w .tp),some (.w (.d (.list (ws.map jcj)))),some (.w (.d d)),some (.own bl),some (.w (.d (jcj want))),some (.own (ks'.map .str)),some (.own (acts.map Ac.d++[act.d])),x7,some (.w (.d (.list ((jnv ws ks).map λb=>.int (b:Nat))))),some (.w (.d act.d)),some (.w (.d (.list (act.bs.map .str))))]/\ks'.length+bs'.length<=ks.length+4)
  (λδ n'' I=>?_) (λe r' δ n'' N I kN'=>?_) _ _ _ ⟨ks,[],act.bs,x7,rfl,rfl,λk=>by simp,rfl,rfl,by have:=hbs.2;omega⟩
 ·obtain⟨ks',dn,bs',x7,e,hdn,hm,rfl,rfl,hk'⟩:=I;cases Ed.mp e.symm;rw[B9]at hdn;subst hdn;have hm':∀k,k∈ks'↔k∈want++(acts++[act]).flatMap Ac.bs:=λk=>by
   rw[hm k,A7,O.mem k,Gp,<-Bw,A7 (s:=want++acts.flatMap Ac.bs)];simp
  refine kN _ _ ⟨ks',acts++[act],_,_,_,_,_,by rw[Bm];rfl,⟨hm',λk z=>?_,λa z=>?_,jwm O.ri (λk z=>(O.mem k).mp z) hri⟩,by omega,by rw[An,A5];omega,by omega⟩
  ·exact(A7.mp ((hm k).mp z)).elim (O.ok k) (hbs.1 k)
  ·rcases A7.mp z with z | z
   ·exact O.fs a z
   ·rw[Be]at z;subst z;exact hfs
 ·obtain⟨ks',dn,bs',x7,e',hdn,hm,rfl,rfl,hk'⟩:=I;obtain⟨s,bs'',rfl,rfl,rfl⟩:=Ez.mp e'.symm;rw[Ax]at hk';dsimp only[jak,Av];have hdn':(dn++[s])++bs''=act.bs:=by rw[Bw];exact hdn
  refine if_i (w2_i (jad rfl (jny rfl (Am rfl ⟨jjg ks',?_⟩))));refine ifb (λz=>?_) (λz=>?_)
  ·refine jvo rfl (λQ q=>jad rfl q) (by rw[Ab];omega) (kN' _ _ ⟨ks'++[s],dn++[s],bs'',some (.w (.d (.str s))),rfl,hdn',λk=>?_,rfl,?_,by rw[An,A5];omega⟩)
   ·rw[A7,hm k,<-Bw,A7 (s:=ks++dn)]
   ·rw[Bm];rfl
  ·have hs:s∈ks':=by
    have z':(!inD (.str s) (ks'.map .str))=false:=z;rw[jja]at z';simpa using z'
   refine kN' _ _ ⟨ks',dn++[s],bs'',some (.w (.d (.str s))),rfl,hdn',λk=>?_,rfl,rfl,by omega⟩;rw[<-Bw,A7 (s:=ks++dn),Be,<-hm k];exact⟨.inl,λq=>q.elim id λe=>e▸hs⟩
def WanI (n0:Int) (ds:List Ae) (δ:Sl) (n:Int):Prop:=∃(more:List (List Str)) (x2:Option SV),δ=[some (.w .tp),some (.own (([]::more).map jcj)),x2,none,none,none,none,none,none,none,none]/\more.length+ds.length<=5/\(∀w∈more,w∈jh0)/\n+(ds.length:Int)<=n0+6
def BlkI (ws:List (List Str)) (n0:Int) (ds:List Ae) (δ:Sl) (n:Int):Prop:=∃(bl:List Bl) (re:List (List Str)) (x2 x4 x5 x6 x7 x8 x9 x10:Option SV),
 δ=[some (.w .tp),some (.w (.d (.list (ws.map jcj)))),x2,some (.own (bl.map blD)),x4,x5,x6,x7,x8,x9,x10]/\ds=re.map jcj/\bl.map (·.1)++re=ws/\(∀b∈bl,okB b/\riB ws b)/\n+90*(ds.length:Int)<=n0+600
theorem jh5:∀ws n Q,joy ws n Q->ws.length=1:=λws n Q h=>by obtain⟨rfl,_⟩:=h;rfl
theorem jyj {ws w0 re:List (List Str)} {bl:List Bl} {want:List Str} {n0 n:Int} {x2 x5 x6 x7 x8 x9 x10:Option SV} {K:DEnds} (hw:∀w∈ws,w∈jh0) (hw0:ws=[]::w0) (hwl:ws.length<=6) (hn0:n0+600 < 2 ^ 39) (hb:bl.map (·.1)++want::re=ws) (hbo:∀b∈bl,okB b/\riB ws b) (hn:n+90*((re.length:Int)+1)<=n0+600)
  (kN:∀δ n,BlkI ws n0 (re.map jcj) δ n->K.nx δ n) :
  sSeq (sOwn 5 (jd2 (wVar 4))) (sSeq (sOwn 6 (fLst aNil)) (sSeq (sFor (ja1 (w2 (wOf (fLst (jab (wC (.int (2))) (jab (wC (.int (3))) (jab (wC (.int (1))) (jab (wC (.int (4))) (jab (wC (.int (2))) (jab (wC (.int (0))) (jab (wC (.int (3))) (jab (wC (.int (8))) aNil)))))))))) (jam jav (jab (wVar 0) (jab (wC (.int (8))) aNil))) gIxL)) (jak 2) (sSeq (sSet 8 (wOf (jb6 [none,some 5,some 1] (ja1 (wB jg1 (jab (wVar 1) aNil))) (jak 0) (cT (w2 (wOf (jb6 [none,some 1] (jdi (w2 (wVar 2) (wVar 0) gIxL)) (jak 0) (cT (w2 (wVar 0) (wVar 1) (gInL true))) (wVar 0))) (wOf (fLst aNil)) gEqL)) (wVar 0)))) (sSeq (sUnp (jam jj3 (jab (wVar 0) (jab (jgq 5) (jab (wVar 8) aNil)))) (jet 2 (jbg (jak 9) (jbg (jak 10) jdl)))) (sSeq (sApp 6 (wVar 9)) (sFor (jkj (wVar 10)) (jak 7) (sIf (cT (w2 (wVar 7) (jgq 5) (gInL true))) (sApp 5 (wVar 7)) jas)))))) (sFrz 6 (sApp 3 (wTup (jab (wVar 4) (jab (wB jcu (jab (wVar 6) aNil)) aNil)))))))
   [some (.w .tp),some (.w (.d (.list (ws.map jcj)))),x2,some (.own (bl.map blD)),some (.w (.d (jcj want))),x5,x6,x7,x8,x9,x10] n K:=by
 obtain⟨hss,hso,hnd,hup⟩:=jz8 (hw want (by rw[<-hb];exact Bf _ A2));have hbl:bl.length+(re.length+1)<=6:=by rw[<-hb,An,Ab,Ax]at hwl;exact hwl
 refine jal (j4h (ds:=want.map .str) rfl ?_);dsimp only[Av];refine jal (jem ?_);dsimp only[Av];refine jal (jzd (L:=[.int 2,.int 3,.int 1,.int 4,.int 2,.int 0,.int 3,.int 8]) (M:=8) rfl (λQ q=>of_i (Am (by decide) q)) (by omega) rfl (by decide) (by decide) (λd hd=>?_) (by decide) λj hj=>?_)
 ·simp only[Ao,Aw,or_false]at hd;rcases hd with rfl | rfl | rfl | rfl | rfl | rfl | rfl | rfl
  ·exact⟨2,by decide,rfl⟩
  ·exact⟨3,by decide,rfl⟩
  ·exact⟨1,by decide,rfl⟩
  ·exact⟨4,by decide,rfl⟩
  ·exact⟨2,by decide,rfl⟩
  ·exact⟨0,by decide,rfl⟩
  ·exact⟨3,by decide,rfl⟩
  ·exact⟨8,by decide,rfl⟩
 refine jbh (ActI ws (bl.map blD) want n) (λδ n' I=>?_) (λd r' δ n' N I kN'=>?_) _ _ _ ⟨want,[],_,_,_,_,_,rfl,⟨λk=>by simp,hso,λa ha=>by simp at ha,λp a ha=>by simp at ha⟩,by rw[jbq];omega,by rw[jbq];simpa using hj,by rw[jbq];omega⟩
 ·obtain⟨ks,acts,y2,y7,y8,y9,y10,rfl,O,_,ha,hn'⟩:=I;dsimp only;refine jh9 rfl ?_;dsimp only[Av];refine jm1 rfl (jci (jad rfl (b1_i (jad rfl (jik ?_)))));have ha':acts.length<=8:=by simpa using ha
  refine Am (show 2<=1000 by decide) (Am (by rw[Ab];omega) (kN _ _ ⟨bl++[(want,acts)],re,_,_,_,_,_,_,_,_,by rw[Bm];rfl,rfl,by rw[Bm,Bw];exact hb,λb z=>?_,?_⟩))
  ·rcases A7.mp z with z | z
   ·exact hbo b z
   ·rw[Be]at z;subst z;exact⟨⟨hss,hso,ha',O.fs,hnd,hup⟩,O.ri⟩
  ·have h0:n'<=n+89:=by simpa using hn'
   rw[Ab];omega
 ·obtain⟨ks,acts,y2,y7,y8,y9,y10,rfl,O,hk,ha,hn'⟩:=I;rw[Ax]at hk ha hn';dsimp only[jak,Av];exact jyp hw0 hwl (by omega) O hk ha (by omega) kN'
abbrev zqj:List Str:=["_law_tape_here","_law_wants","_law_k","_law_blocks","_law_want","_law_known_here","_law_acts","_law_name","_law_open_ones","_law_act_here","_law_bound"]
theorem jg8:∀ws n Q,joy ws n Q->jdn (jaz zqj ws) n {nx:=λ_ n=>Q (.d .none) n,rt:=Q}:=λws n0 Q h=>by
 obtain⟨rfl,hn0,k⟩:=h;show jdn [some (.w .tp),none,none,none,none,none,none,none,none,none,none] n0 _;refine jal (show sOwn 1 _ _ _ _ from Am (Bj _) (Am (by decide) ?_));dsimp only[Av];refine jal (jzd (L:=[.int 0,.int 1,.int 2,.int 1,.int 0,.int 2,.int 5]) (M:=5) rfl (λQ q=>of_i (Am (by decide) q)) (by omega) rfl (by decide) (by decide) (λd hd=>?_) (by decide) λj hj=>?_)
 ·simp only[Ao,Aw,or_false]at hd;rcases hd with rfl | rfl | rfl | rfl | rfl | rfl | rfl
  ·exact⟨0,by decide,rfl⟩
  ·exact⟨1,by decide,rfl⟩
  ·exact⟨2,by decide,rfl⟩
  ·exact⟨1,by decide,rfl⟩
  ·exact⟨0,by decide,rfl⟩
  ·exact⟨2,by decide,rfl⟩
  ·exact⟨5,by decide,rfl⟩
 refine jbh (WanI n0) (λδ n I=>?_) (λd r δ n N I kN=>?_) _ _ _ ⟨[],none,rfl,by rw[jbq];simpa using hj,λd hd=>by simp at hd,by rw[jbq];omega⟩
 ·obtain⟨more,x2,rfl,hl,hm,hn⟩:=I;dsimp only;refine jal (jem ?_);dsimp only[Av];refine jh9 rfl ?_;dsimp only[Av];refine jal ?_;unfold sFor jkj;refine jad rfl ?_;dsimp only;have hw:∀w∈([]:List Str)::more,w∈jh0:=λd hd=>by
   rcases Ao.mp hd with rfl | z
   ·simp[jh0]
   ·exact hm d z
  have hwl:(([]:List Str)::more).length<=6:=by rw[Ax];simp at hl;omega
  refine jbh (BlkI ([]::more) n0) (λδ n' I=>?_) (λd r δ n' N I kN=>?_) _ _ _ ⟨[],[]::more,_,_,_,_,_,_,_,_,rfl,rfl,rfl,λb hb=>by simp at hb,?_⟩
  ·obtain⟨bl,re,y2,y4,y5,y6,y7,y8,y9,y10,rfl,er,hb,hbo,hn'⟩:=I;cases Ed.mp er.symm;rw[B9]at hb;dsimp only;refine jh9 rfl ?_;dsimp only[Av];refine jbi (b1_i (jad rfl (jik (k bl n' ⟨by have:=congrArg List.length hb;simp at this;omega,?_,λb z=>⟨(hbo b z).1,by rw[hb];exact(hbo b z).2⟩⟩ (by simpa using hn')))));rw[<-hb,Ab]at hwl;exact hwl
  ·obtain⟨bl,re,y2,y4,y5,y6,y7,y8,y9,y10,rfl,er,hb,hbo,hn'⟩:=I;obtain⟨want,re,rfl,rfl,rfl⟩:=Ez.mp er.symm;rw[Ax,Ab]at hn';dsimp only[jak,Av];exact jyj hw rfl hwl hn0 hb hbo (by omega) kN
  ·have h1:n<=n0+6:=by simpa using hn
   have h2:(((([]:List Str)::more).map jcj).length:Int)<=6:=by rw[Ab];omega
   omega
 ·obtain⟨more,x2,rfl,hl,hm,hn⟩:=I;rw[Ax]at hl hn;dsimp only[jak,Av];refine jm1 rfl (w2_i (of_i (Am (by decide) (Am (by decide) (Am (by decide) (Am (by decide) (Am (by decide) (Am (by decide) ?_))))))));dsimp only;refine jev (m:=5) rfl (by omega) (by decide) (by decide) λq q0 q1=>jcq (ds:=[jcj [],jcj ["n"],jcj ["go","n"],jcj ["nm"],jcj []]) q0 q1 λw hw=>?_;have:∃v∈jh0,w=jcj v:=by
   simp only[Ao,Aw,or_false]at hw;rcases hw with rfl | rfl | rfl | rfl | rfl
   ·exact⟨[],by simp[jh0],rfl⟩
   ·exact⟨["n"],by simp[jh0],rfl⟩
   ·exact⟨["go","n"],by simp[jh0],rfl⟩
   ·exact⟨["nm"],by simp[jh0],rfl⟩
   ·exact⟨[],by simp[jh0],rfl⟩
  obtain⟨v,hv,rfl⟩:=this;refine Am (by rw[Ab,Ax];omega) (kN _ _ ⟨more++[v],some (.w (.d d)),?_,by rw[An,A5];omega,λe he=>?_,by omega⟩)
  ·rw[show([]::(more++[v]):List (List Str))=([]::more)++[v]from rfl,Bm];rfl
  rcases A7.mp he with z | z
  ·exact hm e z
  ·rw[Be]at z;subst z;exact hv
section
variable {δ:Sl} {n:Int} {K:DEnds} {i:Nat} {s a b c:Str} {r:List Ae} {k:Bool} {Q:Bool->Int->Prop}
theorem jxp (e:δ[i]?=some (some (.w (.d (.tuple (.str s::r)))))) (h:inD (.str s) [.str a,.str b,.str c]=k) (q:Q k n):cT (w2 (w2 (wVar i) (wC (.int 0)) gIx) (wTup (jab (wC (.str a)) (jab (wC (.str b)) (jab (wC (.str c)) aNil)))) (gIn false)) δ n Q:=by
 refine w2_i (jds e ?_);show 3<=1000/\jeu (.str s)=true/\_/\Q (inD (.str s) [.str a,.str b,.str c]) n;exact⟨by decide,rfl,rfl,by rw[h];exact q⟩
theorem jn6 (e:δ[i]?=some (some (.w (.d (.tuple (.str s::r)))))) (h:inD (.str s) [.str a,.str b]=k) (q:Q k n):cT (w2 (w2 (wVar i) (wC (.int 0)) gIx) (wTup (jab (wC (.str a)) (jab (wC (.str b)) aNil))) (gIn false)) δ n Q:=by
 refine w2_i (jds e ?_);show 2<=1000/\jeu (.str s)=true/\_/\Q (inD (.str s) [.str a,.str b]) n;exact⟨by decide,rfl,rfl,by rw[h];exact q⟩
theorem jeb {A B:DTT} (ha:∀Q:Bool->Int->Prop,Q false n->A δ n Q) (q:Q false n):cAnd A B δ n Q:=ha _ (by show if false=true then _ else _;rw[if_neg Ak];exact q)
end
theorem j6v {δ:Sl} {n:Int} {K:DEnds} {i:Nat} {w:DT} {es:List Ae} (e:δ[i]?=some (some (.own es))) (k:w δ n λx n1=>match x with
  |.d (.list fs)=>(es.length < 1000000/\fs.length < 1000000)/\K.nx (δ.set i (some (.own (es++fs)))) n1
  |_=>False):sExt i w δ n K:=by
 unfold sExt;rw[e];exact k
theorem jki:∀ws n Q,jgo ws n Q->ws.length=3:=λws n Q h=>by obtain⟨_,_,_,_,rfl,_⟩:=h;rfl
abbrev zqj1:List Str:=["_law_program_here","_law_block","_law_place","_law_found","_law_act_here"]
theorem jjs:∀ws n Q,jgo ws n Q->je7 (jaz zqj1 ws) n {nx:=λ_ n=>Q (.d .none) n,rt:=Q}:=λws n Q h=>by
 obtain⟨bs,i,p,⟨w,as⟩,rfl,hi,⟨hb1,hb2,hb3,hb4,_,_⟩,hp,k⟩:=h;dsimp only at hb1 hb2 hb3 hb4 hp k;have hi':(bs.map blD)[i]?=some (blD (w,as)):=by rw[A0,hi];rfl
 show je7 [some (.w (.d (.tuple (bs.map blD)))),some (.w (.d (.int i))),some (.w (.d (.int p))),none,none] n _;refine jal (show sOwn 3 (jd2 _) _ _ _ from w2_i (w2_i (jad rfl (jad rfl (gN_i hi' (c_i (g0_i ?_)))))));dsimp only[jcj,Av];refine jal ?_;unfold sFor jdi jca;refine w2_i (w2_i (jad rfl (jad rfl (gN_i hi' (c_i (g1_i ?_))))));dsimp only[jdz,jdy];refine jad rfl ?_;dsimp only;rw[jz0 _ (by rw[Ab];exact hp),<-List.map_take];refine jbh (λds δ n'=>∃(dn re:List Ac) (L:List Str) (x:Option SV),ds=re.map Ac.d/\dn++re=as.take p/\n'=n/\δ=[some (.w (.d (.tuple (bs.map blD)))),some (.w (.d (.int i))),some (.w (.d (.int p))),some (.own (L.map .str)),x]/\KnI w dn L) (λδ n' I=>?_) (λd r δ n' N I kN=>?_) _ _ _
  ⟨[],as.take p,w,none,rfl,rfl,rfl,rfl,KnI.first hb1 hb2⟩
 ·obtain⟨dn,re,L,x,e,hdn,rfl,rfl,I⟩:=I;cases Ed.mp e.symm;rw[B9]at hdn;subst hdn;dsimp only;refine jh9 rfl ?_;dsimp only[Av];have hl:(as.take p).length<=8:=Ba (List.length_take_le _ _) (by omega);have hI:=I.len;refine jbi (of_i (show jmm _ _ _ _ from jad rfl ?_));exact Dk L ⟨.inl rfl,by omega,λx hx=>Ba (I.ok x hx).1 (by decide),λys a b c=>k ys a (λz hz=>I.ok z ((b z).mp hz)) c λz=>(b z).trans (I.mem z)⟩
 ·obtain⟨dn,re,L,x,e,hdn,rfl,rfl,I⟩:=I;obtain⟨a,re,rfl,rfl,rfl⟩:=Ez.mp e.symm;dsimp only[jak,Av];have ha:okFs a.fs:=(hb4 a (Ey (i:=p) (by rw[<-hdn];exact Bf _ A2))).1;have hlen:L.length<=36:=by
   have h1:dn.length+(re.length+1)=(as.take p).length:=by rw[<-hdn,An,Ax]
   have h3:=I.len;have h4:(as.take p).length<=as.length:=List.length_take_le' _ _;omega
  have hdn':(dn++[a])++re=as.take p:=by rw[Bw];exact hdn
  have nxt:∀L',KnI w (dn++[a]) L'->N [some (.w (.d (.tuple (bs.map blD)))),some (.w (.d (.int i))),some (.w (.d (.int p))),some (.own (L'.map .str)),some (.w (.d a.d))] n':=λL' I'=>kN _ _ ⟨dn++[a],re,L',_,rfl,hdn',rfl,rfl,I'⟩;have get:∀(K:DEnds) (hK:∀δ n,N δ n->K.nx δ n) (s:Str) (fs:List Fe) (r:List Ae),a.d=.tuple (.str s::fsD fs::r)->inD (.str s) [.str "take",.str "read",.str "look"]=true->a.bs=bndE fs->a.fs=fs->sIf (cT (w2 (w2 (wVar 4) (wC (.int (0))) gIx) (wTup (jab (wC (.str "take")) (jab (wC (.str "read")) (jab (wC (.str "look")) aNil)))) (gIn false))) (sExt 3 (wOf (jb6 [none] (jdi (w2 (wVar 4) (wC (.int (1))) gIx)) (jak 0) (cT (w2 (w2 (wVar 0) (wC (.int (0))) gIx) (wC (.str "bind")) gEq)) (w2 (wVar 0) (wC (.int (1))) gIx)))) jas
    [some (.w (.d (.tuple (bs.map blD)))),some (.w (.d (.int i))),some (.w (.d (.int p))),some (.own (L.map .str)),some (.w (.d a.d))] n' K:=λK hK s fs r e1 e2 e3 e4=>by
   rw[e1]at nxt ⊢;refine if_y (λQ q=>jxp rfl e2 q) ?_;have hb:(bndE fs).length<=4:=jxf (e4▸ha);refine j6v rfl (of_i (jg6 (ds:=fs.map Fe.d) (λQ q=>jee rfl q) (jr3 fs n' ?_)));refine Am ⟨by rw[Ab];omega,by rw[Ab];omega⟩ ?_;have:=nxt (L++bndE fs) (I.more (λk=>by rw[e3]) hb ha);rw[Bm]at this;exact hK _ _ this
  have skip:∀(K:DEnds) (hK:∀δ n,N δ n->K.nx δ n) (s:Str) (r:List Ae),a.d=.tuple (.str s::r)->inD (.str s) [.str "take",.str "read",.str "look"]=false->a.bs=[]->sIf (cT (w2 (w2 (wVar 4) (wC (.int (0))) gIx) (wTup (jab (wC (.str "take")) (jab (wC (.str "read")) (jab (wC (.str "look")) aNil)))) (gIn false))) (sExt 3 (wOf (jb6 [none] (jdi (w2 (wVar 4) (wC (.int (1))) gIx)) (jak 0) (cT (w2 (w2 (wVar 0) (wC (.int (0))) gIx) (wC (.str "bind")) gEq)) (w2 (wVar 0) (wC (.int (1))) gIx)))) jas
    [some (.w (.d (.tuple (bs.map blD)))),some (.w (.d (.int i))),some (.w (.d (.int p))),some (.own (L.map .str)),some (.w (.d a.d))] n' K:=λK hK s r e1 e2 e3=>by
   rw[e1]at nxt ⊢;refine if_n (λQ q=>jxp rfl e2 q) (hK _ _ (nxt L (I.skip e3)))
  cases a with
  |lay fs age=>exact skip _ (λ_ _ z=>z) "lay" [fsD fs,age] rfl (by decide +kernel) rfl
  |take fs=>exact get _ (λ_ _ z=>z) "take" fs [] rfl (by decide +kernel) rfl rfl
  |read fs=>exact get _ (λ_ _ z=>z) "read" fs [] rfl (by decide +kernel) rfl rfl
  |look fs b=>exact get _ (λ_ _ z=>z) "look" fs [.int b] rfl (by decide +kernel) rfl rfl
  |same f g b=>exact skip _ (λ_ _ z=>z) "same" [f.d,g.d,.int b] rfl (by decide +kernel) rfl
  |go b=>exact skip _ (λ_ _ z=>z) "go" [.int b] rfl (by decide +kernel) rfl
theorem jzo {α:Type} {f:α->Ae} {P:α->Prop}:∀{ds:List Ae},(∀d∈ds,∃x,P x/\d=f x)->∃xs:List α,ds=xs.map f/\∀x∈xs,P x
 |[],_=>⟨[],rfl,λx hx=>by simp at hx⟩
 |d::r,h=>by
  obtain⟨x,hx,rfl⟩:=h d A2;obtain⟨xs,rfl,hxs⟩:=jzo λe he=>h e (As _ he);exact⟨x::xs,rfl,λy hy=>(Ao.mp hy).elim (λe=>e▸hx) (hxs y)⟩
theorem jkg:∀ws n Q,je8 ws n Q->ws.length=2:=λws n Q h=>by obtain⟨_,rfl,_⟩:=h;rfl
def NotI (m:Nat) (n0:Int) (ds:List Ae) (δ:Sl) (n:Int):Prop:=∃(ns:List Nt) (x y:Option SV),δ=[some (.w .tp),some (.w (.d (.int m))),some (.own (ns.map ntD)),x,y]/\ns.length+ds.length<=m/\(∀q∈ns,okQ q)/\n+6*(ds.length:Int)<=n0+100
abbrev zqp1:List Str:=["_law_tape_here","_law_most","_law_found","_law_k","_law_row"]
theorem jjq:∀ws n Q,je8 ws n Q->je5 (jaz zqp1 ws) n {nx:=λ_ n=>Q (.d .none) n,rt:=Q}:=λws n0 Q h=>by
 obtain⟨m,rfl,hm,hn0,k⟩:=h;show je5 [some (.w .tp),some (.w (.d (.int m))),none,none,none] n0 _;refine jal (jem ?_);dsimp only[Av];refine jal ?_;unfold sFor ja1;refine jft (m:=(m:Int)+1) rfl (λQ q=>w2_i (jad rfl (c_i q))) (by omega) (by omega) (by omega) λr r0 r1=>?_;refine Am ⟨by omega,by omega⟩ ?_;have hr:r.toNat<=m:=by omega
 refine jbh (NotI m n0) (λδ n I=>?_) (λd r' δ n N I kN=>?_) _ _ _ ⟨[],none,none,rfl,by rw[jbq];simpa using hr,λd hd=>by simp at hd,by rw[jbq];omega⟩
 ·obtain⟨ns,x,y,rfl,hl,hns,hn⟩:=I;dsimp only;refine jh9 rfl ?_;dsimp only[Av];exact jbi (b1_i (jad rfl (jik (k ns n ⟨by simpa using hl,hns⟩ (by simpa using hn)))))
 ·obtain⟨ns,x,y,rfl,hl,hns,hn⟩:=I;rw[Ax]at hl hn;dsimp only[jak,Av];refine jal (show sSet 4 _ _ _ _ from b1_i (of_i ?_));unfold jb6;dsimp only;refine c1_i (jad rfl (Am rfl ⟨by omega,λs s1 s4=>?_⟩));refine Am ⟨by omega,by omega⟩ ?_;rw[Bp];refine jg7 (λv=>isV v=true) 1 (λd n Q' hn q=>c1_i (jad rfl (Am rfl ⟨by omega,λv hv=>q v _ (jk3 hv) (by omega)⟩))) _ [] none _ (by rw[jbq];omega) λrow n' hrl hrow hn'=>?_;rw[jbq]at hrl hn';rw[B8];refine jik ?_;dsimp only[Av];refine jm1 rfl (jci (jad rfl (j2j rfl (by omega) λv hv=>?_)));refine Am (show 2<=1000 by decide) (Am (by rw[Ab];omega) (kN _ _ ⟨ns++[(row,v)],_,_,by rw[Bm];rfl,by rw[An,A5];omega,λe he=>?_,by omega⟩));rcases A7.mp he with z | z
  ·exact hns e z
  ·rw[Be]at z;subst z;exact⟨⟨by show row.length<=4;omega,hrow⟩,jvp hv⟩
theorem jma:∀ws n Q,joz ws n Q->ws.length=1:=λws n Q h=>by obtain⟨rfl,_⟩:=h;rfl
abbrev zql:List Str:=["_law_tape_here","_law_programs"]
theorem jk0:∀ws n Q,joz ws n Q->jf7 (jaz zql ws) n {nx:=λ_ n=>Q (.d .none) n,rt:=Q}:=λws n0 Q h=>by
 obtain⟨rfl,hn0,k⟩:=h;show jf7 [some (.w .tp),none] n0 _;refine jal (show sOwn 1 _ _ _ _ from ?_);unfold sOwn jb6 ja1;refine w2_i (of_i (Am (by decide) ?_));dsimp only;refine jev (m:=8) rfl (by omega) (by decide) (by decide) λq q0 q1=>jcq (ds:=[.int 2,.int 1,.int 2,.int 3,.int 2,.int 1,.int 0,.int 5]) q0 q1 λd hd=>?_;have hj:∃j:Nat,j<=5/\d=.int j:=by
  simp only[Ao,Aw,or_false]at hd;rcases hd with rfl | rfl | rfl | rfl | rfl | rfl | rfl | rfl
  ·exact⟨2,by decide,rfl⟩
  ·exact⟨1,by decide,rfl⟩
  ·exact⟨2,by decide,rfl⟩
  ·exact⟨3,by decide,rfl⟩
  ·exact⟨2,by decide,rfl⟩
  ·exact⟨1,by decide,rfl⟩
  ·exact⟨0,by decide,rfl⟩
  ·exact⟨5,by decide,rfl⟩
 obtain⟨j,hj,rfl⟩:=hj;refine Am ⟨by omega,by omega⟩ ?_;rw[Bp];refine jg7 (λd=>∃P,okG P/\d=prD P) 600 (λd n Q' hn q=>c1_i (jad rfl (Am rfl ⟨by omega,λP n' hP hn'=>q (prD P) n' ⟨P,hP,rfl⟩ (by omega)⟩))) _ [] none _ (by rw[jbq];omega) λds n1 hpl hps0 hn1=>?_;rw[jbq]at hpl hn1;rw[B8];obtain⟨ps,rfl,hps⟩:=jzo hps0;clear hps0;rw[Ab]at hpl;dsimp only[Av];have rest:∀(ps':Pg) (n2:Int),ps'.length<=5->(∀P∈ps',okG P)->n2<=n1+1->sFrz 1 (sRet (wTup (jab (wB jcu (jab (wVar 1) aNil)) (jab (jam je8 (jab (wVar 0) (jab (w2 (wOf (fLst (jab (wC (.int (4))) (jab (wC (.int (3))) (jab (wC (.int (6))) (jab (wC (.int (12))) aNil)))))) (jam jav (jab (wVar 0) (jab (wC (.int (4))) aNil))) gIxL) aNil))) aNil)))) [some (.w .tp),some (.own (ps'.map prD))] n2 {nx:=λ_ n=>Q (.d .none) n,rt:=Q}:=λps' n2 hl' hp' hn2=>by
  refine jh9 rfl ?_;dsimp only[Av];refine jbi (jci (b1_i (jad rfl (jik (c2_i (jad rfl (w2_i (of_i (Am (by decide) ?_)))))))));dsimp only;refine jev (m:=4) rfl (by omega) (by decide) (by decide) λr r0 r1=>jcq (ds:=[.int 4,.int 3,.int 6,.int 12]) r0 r1 λd hd=>?_;have hm:∃m:Nat,m<=12/\d=.int m:=by
   simp only[Ao,Aw,or_false]at hd;rcases hd with rfl | rfl | rfl | rfl
   ·exact⟨4,by decide,rfl⟩
   ·exact⟨3,by decide,rfl⟩
   ·exact⟨6,by decide,rfl⟩
   ·exact⟨12,by decide,rfl⟩
  obtain⟨m,hm,rfl⟩:=hm;exact Dk m ⟨rfl,hm,by omega,λns n' hns hn'=>Am (show 2<=1000 by decide) (k ps' _ n' ⟨hl',hp'⟩ (by omega))⟩
 refine jal (if_i ?_);refine(show cT _ _ _ _ from w2_i (b1_i (jny rfl (j4t (c_i (eqLi ?_))))));rw[Ab];show if decide ((ps.length:Int)=2)=true then _ else _
 by_cases h2:(ps.length:Int)=2
 ·rw[if_pos (decide_eq_true h2)];refine w2_i (jev (m:=4) rfl (by omega) (by decide) (by decide) λq q0 q1=>c_i (eqLi ?_));show if decide (q=0)=true then _ else _
  by_cases hq:q=0
  ·rw[if_pos (decide_eq_true hq)];have hl2:ps.length=2:=by omega
   obtain⟨P,P',rfl⟩:∃P P',ps=[P,P']:=by
    match ps,hl2 with
    |[P,P'],_=>exact⟨P,P',rfl⟩
   refine(show sPut 1 _ _ _ _ _ from w2_i (jny rfl (c_i ?_)));refine(show gIxL (.ln [prD P,prD P']) (.d (.int 0)) _ _ from ?_);refine rest [P,P] _ (show 2<=5 by decide) (λR hR=>?_) (by omega);simp only[Ao,Aw,or_false,or_self]at hR;subst hR;exact hps _ A2
  ·rw[if_neg (by simpa using hq)];exact rest ps _ (by omega) hps (by omega)
 ·rw[if_neg (by simpa using h2)];exact rest ps _ (by omega) hps (by omega)
theorem addI {i j n:Int} {Q:DQ} (k:Q (.d (.int (i+j))) n):gI0 (λi j=>.int (i+j)) (.d (.int i)) (.d (.int j)) n Q:=k
theorem jvc {Q:List Ae->Int->Prop}:∀(ys:List Str) (acc:Nm) (x:Option SV) (n:Int),n+(ys.length:Int) < 2 ^ 39->(∀p∈acc,isV p.2=true)->(∀(nm:Nm) (n':Int),nm.map (·.1)=acc.map (·.1)++ys->(∀p∈nm,isV p.2=true)->n'<=n+(ys.length:Int)->Q (nm.map jiv) n') ->
  jco (jak 0) cYes (wTup (jab (wVar 0) (jab (jam jck (jab (wVar 1) aNil)) aNil))) Q (ys.map .str) (acc.map jiv) [x,some (.w .tp)] n
 |[],acc,x,n,_,ha,q=>q acc n (by rw[B9]) ha (by omega)
 |y::ys,acc,x,n,hn,ha,q=>by
  rw[Ax]at hn q;simp only[Bo,jco,jak,cYes,if_true,Ek];refine jci (jad rfl (c1_i (jad rfl (Am rfl ⟨by omega,λv hv=>Am (show 2<=1000 by decide) ?_⟩))));have:=jvc (Q:=Q) ys (acc++[(y,v)]) (some (.w (.d (.str y)))) (n+1) (by omega) (λp hp=>(A7.mp hp).elim (ha p) λz=>by rw[Be.mp z];exact jk3 hv) λnm n' e hm hn'=>q nm n' (by rw[e,Bm,Bw];rfl) hm (by omega);rw[Bm]at this;exact this
theorem j50 (as:List Ac) (h:∀a∈as,okA a):(as.flatMap Ac.bs).length<=4*as.length:=by
 induction as with
 |nil=>exact Bj _
 |cons a r ih =>
  rw[List.flatMap_cons,An,Ax];have:=(j2m (h a A2).1).2;have:=ih λb hb=>h b (As _ hb);omega
theorem jzs {b:Bl} (ob:okB b) (p:Nat):(kn b.1 b.2 p).length<=36:=by
 unfold kn;rw[An];have:=j50 (b.2.take p) λa ha=>ob.2.2.2.1 a (Ey ha);have:=List.length_take_le p b.2;have:=ob.1;have:=ob.2.2.1;have:=List.length_take_le' p b.2;omega
theorem jkf:∀ws n Q,jj0 ws n Q->ws.length=2:=λws n Q h=>by obtain⟨_,rfl,_⟩:=h;rfl
def StI (ps:Pg) (n0:Int) (ds:List Ae) (δ:Sl) (n:Int):Prop:=∃(hs:List Hn) (re:Pg) (x4 x5 x6 x7:Option SV),δ=[some (.w .tp),some (.w (.d (pgD ps))),some (.own (hs.map hnD)),x4,x5,x6,x7]/\ds=re.map prD/\re=ps.drop hs.length/\hs.length<=ps.length /\
 (∀(i:Nat) (P:List Bl),i < hs.length->ps[i]?=some P->∃(h:Hn) (b:Bl),hs[i]?=some h/\P[h.1]?=some b/\okHn b h)/\n+42*(ds.length:Int)<=n0+210
abbrev zqw:List Str:=["_law_tape_here","_law_programs","_law_hands","_law_program_here","_law_block","_law_place","_law_names"]
theorem jjp:∀ws n Q,jj0 ws n Q->je4 (jaz zqw ws) n {nx:=λ_ n=>Q (.d .none) n,rt:=Q}:=λws n0 Q h=>by
 obtain⟨ps,rfl,⟨hpl,hps⟩,hn0,k⟩:=h;show je4 [some (.w .tp),some (.w (.d (pgD ps))),none,none,none,none,none] n0 _;refine jal (jem ?_);dsimp only[Av];refine jal ?_;unfold sFor jdi;refine jad rfl ?_;dsimp only[pgD];refine jbh (StI ps n0) (λδ n I=>?_) (λd r δ n N I kN=>?_) _ _ _ ⟨[],ps,none,none,none,none,rfl,rfl,rfl,Bj _,λi P hi=>absurd hi (Nat.not_lt_zero _),by rw[Ab];omega⟩
 ·obtain⟨hs,re,x4,x5,x6,x7,rfl,er,hre,hle,hok,hn⟩:=I;have e0:=Ed.mp er.symm;rw[e0]at hre;have hlen:ps.length<=hs.length:=List.drop_eq_nil_iff.mp hre.symm;dsimp only;refine jh9 rfl ?_;dsimp only[Av];refine jbi (jci (b1_i (jad rfl (c2_i (jad rfl (c_i (Dk 6 ⟨rfl,by decide,by simp at hn;omega,λns n' hns hn'=>?_⟩)))))));exact Am (show 2<=1000 by decide) (k hs ns n' ⟨by omega,λi P hi=>hok i P (by have:=(Ay.mp hi).1;omega) hi⟩ hns (by simp at hn;omega))
 ·obtain⟨hs,re,x4,x5,x6,x7,rfl,er,hre,hle,hok,hn⟩:=I;obtain⟨P,re',rfl,rfl,rfl⟩:=Ez.mp er.symm;rw[Ax,Ab]at hn;have hlt:hs.length < ps.length:=by
   have:=congrArg List.length hre;rw[Ax,Cc]at this;omega
  have hcons:=Fb hlt;rw[<-hre]at hcons;obtain⟨hP,hre'⟩:=Fv hcons;have hPg:ps[hs.length]?=some P:=by rw[Ag hlt,hP]
  obtain⟨g1,g2,g3⟩:=hps P (A6 hPg);dsimp only[jak,Av];refine jal (show sSet 4 _ _ _ _ from jft (m:=(P.map blD).length) rfl (λQ q=>b1_i (jad rfl q)) (by omega) (by rw[Ab];omega) (by rw[Ab];omega) λr r0 r1=>?_);rw[Ab]at r1;obtain⟨b,hb⟩:∃b:Nat,r=(b:Int):=⟨r.toNat,by omega⟩;subst hb;have hbl:b < P.length:=by omega
  obtain⟨bl,hbl'⟩:∃bl:Bl,P[b]?=some bl:=⟨P[b],Ag hbl⟩;obtain⟨w,as⟩:=bl;have hi':(P.map blD)[b]?=some (blD (w,as)):=by rw[A0,hbl'];rfl
  obtain⟨ob,_⟩:=g3 (w,as) (A6 hbl');have has:as.length<=8:=ob.2.2.1;dsimp only[Av];refine jal (show sSet 5 _ _ _ _ from jft (m:=((as.map Ac.d).length:Int)+1) rfl (λQ q=>w2_i (b1_i (w2_i (w2_i (jad rfl (jad rfl (gN_i hi' (c_i (g1_i ?_)))))))) ) (by omega) (by omega) (by rw[Ab];omega) λr r0' r1'=>?_)
  ·exact addI q
  rw[Ab]at r1';obtain⟨p,hp⟩:∃p:Nat,r=(p:Int):=⟨r.toNat,by omega⟩;subst hp;dsimp only[Av];refine jal (show sSet 6 _ _ _ _ from b1_i (of_i ?_));unfold jb6 jkj;dsimp only;refine c3_i (jad rfl (jad rfl (jad rfl (Dk P ⟨b,p,(w,as),rfl,hbl',ob,by show p<=as.length;omega,λys hnd hyo hup hmem=>?_⟩))));have hys:ys.length<=36:=Ba (jiz hnd λz hz=>(hmem z).mp hz) (jzs ob p);dsimp only;refine jvc ys [] none _ (by omega) (λp hp=>by simp at hp) λnm n' hnm hnv hn'=>?_;rw[Fu,B8]at hnm;have hnl:nm.length=ys.length:=by rw[<-hnm,Ab]
  have onm:okHn (w,as) (b,p,nm):=⟨by show p<=as.length;omega,by show(nm.map (·.1)).Nodup;rw[hnm];exact hnd,λq hq=>⟨hyo _ (by rw[<-hnm];exact Bq.mpr ⟨q,hq,rfl⟩),hnv q hq⟩,(by have q:upT (nm.map (·.1)):=(by rw[hnm];exact hup);unfold upT at q;rw[List.pairwise_map]at q;exact q),λk=>by show k∈nm.map (·.1)↔_;rw[hnm];exact hmem k,by show nm.length<=40;omega⟩;dsimp only[jdf,Av];refine jm1 rfl (jsn (jad rfl (jad rfl (jad rfl ?_))));refine Am (show 3<=1000 by decide) (Am (by rw[Ab];omega) (kN _ _ ⟨hs++[(b,p,nm)],re',_,_,_,_,by rw[Bm];rfl,rfl,by rw[An,A5];exact hre',by rw[An,A5];omega,λi P' hi hP'=>?_,by rw[Ab];omega⟩));rw[An,A5]at hi;by_cases z:i < hs.length
  ·obtain⟨h,b',q1,q2,q3⟩:=hok i P' z hP';exact⟨h,b',by rw[E9 z];exact q1,q2,q3⟩
  ·have z':i=hs.length:=by omega
   subst z';rw[hPg]at hP';cases hP';exact⟨(b,p,nm),(w,as),by simp,hbl',onm⟩
theorem jvz {δ:Sl} {n:Int} {Q:DQ} {u:DTT} {v w:DT} {b:Bool} (hu:∀Q:Bool->Int->Prop,Q b n->u δ n Q) (k:if b=true then v δ n Q else w δ n Q):wIf u v w δ n Q:=hu _ k
theorem jpz {α:Type} {c:DTT} {w:DT} {Q:List Ae->Int->Prop} {rest:Sl} (f g:α->Ae) (p:α->Bool):∀(xs:List α) (acc:List Ae) (x:Option SV) (n:Int),(∀a∈xs,∀(n:Int) (Q':Bool->Int->Prop),Q' (p a) n->c (some (.w (.d (f a)))::rest) n Q')->(∀a∈xs,∀(n:Int) (Q':DQ),Q' (.d (g a)) n->w (some (.w (.d (f a)))::rest) n Q')->Q (acc++(xs.filter p).map g) n->jco (jak 0) c w Q (xs.map f) acc (x::rest) n
 |[],acc,x,n,_,_,q=>by rw[List.filter_nil,Fu,B9]at q;exact q
 |a::r,acc,x,n,hp,h,q=>by
  simp only[Bo,jco,jak,Ek];refine hp a A2 n _ ?_;cases e:p a with
  |true =>
   simp only[if_true];refine h a A2 n _ (jpz f g p r (acc++[g a]) _ n (λb hb=>hp b (As _ hb)) (λb hb=>h b (As _ hb)) ?_);rw[List.filter_cons,if_pos e,Bo]at q;rw[Bw];exact q
  |false =>
   simp only[Cq,if_false];refine jpz f g p r acc _ n (λb hb=>hp b (As _ hb)) (λb hb=>h b (As _ hb)) ?_;rw[List.filter_cons,if_neg (by rw[e];exact Ak)]at q;exact q
structure HandAt (ps:Pg) (hs:List Hn) (h:Nat) (P:List Bl) (xb xp:Nat) (nm:Nm) (w:List Str) (as:List Ac):Prop where
 prog:ps[h]?=some P
 hand:hs[h]?=some (xb,xp,nm)
 blk:P[xb]?=some (w,as)
 hn:okHn (w,as) (xb,xp,nm)
theorem jct {ps:Pg} {hs:List Hn} (ok:okHs ps hs) {h:Nat} (hh:h < ps.length):∃P xb xp nm w as,HandAt ps hs h P xb xp nm w as:=by
 have hP:ps[h]?=some ps[h]:=Ag hh;obtain⟨⟨xb,xp,xn⟩,⟨w,as⟩,e1,e2,e3⟩:=ok.2 h _ hP;exact⟨_,xb,xp,xn,w,as,hP,e1,e2,e3⟩
section
variable {ps:Pg} {hs:List Hn} {h:Nat} {P:List Bl} {xb xp:Nat} {nm:Nm} {w:List Str} {as:List Ac}
theorem HandAt.act (H:HandAt ps hs h P xb xp nm w as):actO ps hs h=as[xp]?:=by
 unfold actO;rw[H.prog,H.hand];show(P[xb]?.bind λb=>b.2[xp]?)=_;rw[H.blk];rfl
theorem HandAt.nms (H:HandAt ps hs h P xb xp nm w as):okN nm:=H.hn.n
theorem HandAt.nmq (H:HandAt ps hs h P xb xp nm w as):nmO hs h=nm:=by unfold nmO;rw[H.hand];rfl
theorem HandAt.ok (H:HandAt ps hs h P xb xp nm w as) (ok:okPg ps) {a:Ac} (e:actO ps hs h=some a):okA a:=by
 rw[H.act]at e;have hP:=(ok.2 P (A6 H.prog)).2.2 (w,as) (A6 H.blk);exact hP.1.2.2.2.1 a (A6 e)
theorem HandAt.hD (H:HandAt ps hs h P xb xp nm w as):(hs.map hnD)[h]?=some (.tuple [.int xb,.int xp,jba nm]):=by rw[A0,H.hand];rfl
theorem HandAt.pD (H:HandAt ps hs h P xb xp nm w as):(ps.map prD)[h]?=some (.tuple (P.map blD)):=by rw[A0,H.prog];rfl
theorem HandAt.bD (H:HandAt ps hs h P xb xp nm w as):(P.map blD)[xb]?=some (.tuple [jcj w,.tuple (as.map Ac.d)]):=by rw[A0,H.blk];rfl
end
theorem jvq {δ:Sl} {n:Int} {Q:DQ} {i j xp:Nat} {as:List Ac} (e4:δ[j]?=some (some (.w (.d (.int xp))))) (e5:δ[i]?=some (some (.w (.d (.tuple (as.map Ac.d)))))) (k:Q (.d (acD as[xp]?)) n):wIf (cT (w2 (wVar j) (wB gLen (jab (wVar i) aNil)) gLt)) (w2 (wVar i) (wVar j) gIx) (wC .none) δ n Q:=by
 refine jvz (b:=decide ((xp:Int) < ((as.map Ac.d).length:Nat))) (λQ q=>ct_b (λQ q=>w2_i (jad e4 (b1_i (jad e5 (lt_i q))))) q) ?_;rw[Ab];by_cases z:(xp:Int) < (as.length:Nat)
 ·rw[if_pos (decide_eq_true z)];have zl:xp < as.length:=by omega
  have ha:(as.map Ac.d)[xp]?=some (Ac.d as[xp]):=by rw[A0,Ag zl];rfl
  rw[Ag zl]at k;exact w2_i (jad e5 (jad e4 (gN_i ha k)))
 ·rw[if_neg (by simpa using z)];rw[Gb (by omega)]at k;exact c_i k
theorem jhv:∀ws n Q,jch ws n Q->ws.length=3:=λws n Q h=>by obtain⟨_,_,_,_,rfl,_⟩:=h;rfl
theorem jgv:∀ws n Q,jch ws n Q->ws.length=3:=jhv
theorem jmw:∀ws n Q,jch ws n Q->jha (jaz ["programs","stand","hand","block","place","acts"] ws) n {nx:=λ_ n=>Q (.d .none) n,rt:=Q}:=λws n Q h=>by
 obtain⟨ps,hs,ns,h,rfl,hok,hh,k⟩:=h;obtain⟨P,xb,xp,nm,w,as,H⟩:=jct hok hh;rw[H.act]at k;show jha [some (.w (.d (pgD ps))),some (.w (.d (stD hs ns))),some (.w (.d (.int h))),none,none,none] n _;refine jal (ja2 (x:=.int xb) (λQ q=>w2_i (w2_i (w2_i (jad rfl (c_i (g0_i (jad rfl (gN_i H.hD (c_i (g0_i q)))))))))) ?_);dsimp only[Av];refine jal (ja2 (x:=.int xp) (λQ q=>w2_i (w2_i (w2_i (jad rfl (c_i (g0_i (jad rfl (gN_i H.hD (c_i (g1_i q)))))))))) ?_);dsimp only[Av];refine jal (ja2 (x:=.tuple (as.map Ac.d)) (λQ q=>w2_i (w2_i (w2_i (jad rfl (jad rfl (gN_i H.pD (jad rfl (gN_i H.bD (c_i (g1_i q)))))))))) ?_);dsimp only[Av];exact jbi (jvq rfl rfl k)
abbrev zqb1:List Str:=["_law_programs","_law_stand_here","_law_hand","_law_block","_law_place","_law_names","_law_acts"]
theorem jgm:∀ws n Q,jch ws n Q->jc6 (jaz zqb1 ws) n {nx:=λ_ n=>Q (.d .none) n,rt:=Q}:=λws n Q h=>by
 obtain⟨ps,hs,ns,h,rfl,hok,hh,k⟩:=h;obtain⟨P,xb,xp,nm,w,as,H⟩:=jct hok hh;rw[H.act]at k;show jc6 [some (.w (.d (pgD ps))),some (.w (.d (stD hs ns))),some (.w (.d (.int h))),none,none,none,none] n _;refine jal ?_;unfold sUnp;refine w2_i (w2_i (jad rfl (c_i (g0_i (jad rfl (gN_i H.hD ?_))))));refine Am rfl ?_;dsimp only[jbg,jdl,jak,Av];refine jal (ja2 (x:=.tuple (as.map Ac.d)) (λQ q=>w2_i (w2_i (w2_i (jad rfl (jad rfl (gN_i H.pD (jad rfl (gN_i H.bD (c_i (g1_i q)))))))))) ?_);dsimp only[Av];exact jbi (jvq rfl rfl k)
theorem jqx:∀{row:List Ae},(∀d∈row,isV d=true)->∃k:List Key,row=k.map DL.vD
 |[],_=>⟨[],rfl⟩
 |d::r,h=>by
  obtain⟨k,rfl⟩:=jqx λe he=>h e (As _ he);have hd:=h d A2;cases d with
  |int i=>exact⟨.inl i::k,rfl⟩
  |str x=>exact⟨.inr x::k,rfl⟩
  |_=>cases hd
theorem jlx (k:Int) (m:Nat):rngD k (m+1)=.int k::rngD (k+1) m:=by
 unfold rngD;rw[List.range_succ_eq_map,Bo,El]
 congr 1
 ·rw[show((0:Nat):Int)=0 from rfl,Int.add_zero]
 ·refine Cz λi _=>?_;show Ef (k+((i+1:Nat):Int))=.int (k+1+(i:Int));have:k+((i+1:Nat):Int)=k+1+(i:Int):=by omega
  rw[this]
theorem fd_d {f:Fe} (h:f.pt=true):(Fe.fd f).d=f.d:=by cases f<;>first | rfl | cases h
theorem jof {fs:List Fe} (ok:okFs fs) (h:patO fs):fsD fs=patD (fs.map Fe.fd)/\okP (fs.map Fe.fd):=by
 refine⟨?_,by rw[Ab];exact h.1,by rw[Ab];exact ok.1,λg hg=>?_⟩
 ·unfold fsD patD;rw[El]
  congr 1
  exact Cz λf hf=>(fd_d (h.2 f hf)).symm
 ·obtain⟨f,hf,rfl⟩:=Bq.mp hg;have:=ok.2 f hf;cases f<;>first | exact this | trivial
theorem j2r {a:Ac} (h:a.pf=none):a.wt=false/\∃s r,a.d=.tuple (.str s::r)/\inD (.str s) [.str "take",.str "read",.str "look"]=false/\inD (.str s) [.str "take",.str "read"]=false:=by
 cases a with
 |lay fs age=>exact⟨rfl,"lay",_,rfl,by decide +kernel,by decide +kernel⟩
 |same f g b=>exact⟨rfl,"same",_,rfl,by decide +kernel,by decide +kernel⟩
 |go b=>exact⟨rfl,"go",_,rfl,by decide +kernel,by decide +kernel⟩
 |take fs=>cases h
 |read fs=>cases h
 |look fs b=>cases h
theorem jrd {a:Ac} {fs:List Fd} (h:a.pf=some fs) (ok:okA a):okP fs/\∃s r,a.d=.tuple (.str s::patD fs::r)/\inD (.str s) [.str "take",.str "read",.str "look"]=true/\inD (.str s) [.str "take",.str "read"]=a.wt:=by
 cases a with
 |lay fs age=>cases h
 |same f g b=>cases h
 |go b=>cases h
 |take gs =>
  cases h;obtain⟨e,o⟩:=jof (fs:=gs) ok.1 ok.2;exact⟨o,"take",[],by rw[<-e];rfl,by decide +kernel,show inD (.str "take") [.str "take",.str "read"]=true by decide +kernel⟩
 |read gs =>
  cases h;obtain⟨e,o⟩:=jof (fs:=gs) ok.1 ok.2;exact⟨o,"read",[],by rw[<-e];rfl,by decide +kernel,show inD (.str "read") [.str "take",.str "read"]=true by decide +kernel⟩
 |look gs b =>
  cases h;obtain⟨e,o⟩:=jof (fs:=gs) ok.1 ok.2;exact⟨o,"look",[.int b],by rw[<-e];rfl,by decide +kernel,show inD (.str "look") [.str "take",.str "read"]=false by decide +kernel⟩
theorem jxz (fs:List Fd) (row:List Ae) (nm:Nm):jcs (fitD fs row nm)=!fitB fs row nm:=by
 unfold fitD;cases fitB fs row nm<;>rfl
theorem jq3 {fs:List Fd} {nm:Nm} {q:Nt} {r:List Nt}:fstO fs nm (q::r)=if fitB fs q.1 nm=true then some 0 else(fstO fs nm r).map (·+1):=by
 unfold fstO;rw[List.findIdx?_cons]
theorem j5g {fs:List Fd} {nm:Nm} {ns:List Nt} {i:Nat} (h:fstO fs nm ns=some i):i < ns.length:=(List.findIdx?_eq_some_iff_findIdx_eq.mp h).1
theorem j1x {m:List (List Key×Ae)} {k k':List Key} {d:Ae} (h:inT (putT m k d) k'=true):k'=k\/inT m k'=true:=by
 unfold putT at h
 split at h
 ·unfold inT at h ⊢;rw[List.any_map,Dg]at h;obtain⟨p,hp,e⟩:=h;refine .inr (Dg.mpr ⟨p,hp,?_⟩);have e':=of_decide_eq_true e;dsimp only at e';by_cases z:p.1=k
  ·rw[if_pos z]at e';exact decide_eq_true e'
  ·rw[if_neg z]at e';exact decide_eq_true e'
 ·unfold inT at h ⊢;rw[List.any_append,Bool.or_eq_true]at h;rcases h with h | h
  ·exact .inr h
  ·simp at h;exact .inl h.symm
theorem jwu {m:List (List Key×Ae)} {k:List Key} {d:Ae}:(putT m k d).length<=m.length+1:=by
 unfold putT
 split
 ·rw[Ab];omega
 ·rw[An];exact Al _
section
variable {δ:Sl} {n:Int} {Q:DQ} {K:DEnds} {W V:DST} {i:Nat}
theorem jcn {neg:Bool} {a:Ae} (k:Q (.d (.bool (if neg then !jcs a else jcs a))) n):gIsN neg (.d a) (.d .none) n Q:=k
theorem j4o {s a b:Str} {r:List Ae} {k:Bool} (e:δ[i]?=some (some (.w (.d (.tuple (.str s::r)))))) (h:inD (.str s) [.str a,.str b]=k) (q:Q (.d (.bool !k)) n):w2 (w2 (wVar i) (wC (.int 0)) gIx) (wTup (jab (wC (.str a)) (jab (wC (.str b)) aNil))) (gIn true) δ n Q:=by
 refine w2_i (jds e ?_);show 2<=1000/\jeu (.str s)=true/\_/\Q (.d (.bool !inD (.str s) [.str a,.str b])) n;exact⟨by decide,rfl,rfl,by rw[h];exact q⟩
theorem jzm {s:Str} {hs:List Str} {r:List Ae} {k:Bool} {Q:Bool->Int->Prop} (e:δ[i]?=some (some (.w (.d (.tuple (.str s::r)))))) (h:inD (.str s) (hs.map .str)=k) (q:Q (!k) n):cT (jsi hs (w2 (wVar i) (wC (.int 0)) gIx)) δ n Q:=by
 unfold cT jsi;exact jds e ⟨_,rfl,rfl,by rw[h];exact q⟩
theorem jw8 {ps:Pg} {hs:List Hn} {ns:List Nt} {h i j l:Nat} (e0:δ[i]?=some (some (.w (.d (pgD ps))))) (e1:δ[j]?=some (some (.w (.d (stD hs ns))))) (e2:δ[l]?=some (some (.w (.d (.int h))))) (ok:okHs ps hs) (hh:h < ps.length) (k:Q (.d (acD (actO ps hs h))) n):jam jch (jab (wVar i) (jab (wVar j) (jab (wVar l) aNil))) δ n Q :=
 c3_i (jad e0 (jad e1 (jad e2 ⟨ps,hs,ns,h,rfl,ok,hh,k⟩)))
end
theorem jxi:∀ws n Q,jfw ws n Q->ws.length=3:=λws n Q h=>by obtain⟨_,_,_,_,rfl,_⟩:=h;rfl
abbrev zqn1:List Str:=["programs","stand","hand","act","names","tried","place","note"]
theorem jvj:∀ws n Q,jfw ws n Q->jvr (jaz zqn1 ws) n {nx:=λ_ n=>Q (.d .none) n,rt:=Q}:=λws n Q h=>by
 obtain⟨ps,hs,ns,h,rfl,⟨okp,okh,okn⟩,hh,k⟩:=h;obtain⟨P,xb,xp,nm,w,as,H⟩:=jct okh hh;unfold gotO at k;rw[H.nmq]at k;show jvr [some (.w (.d (pgD ps))),some (.w (.d (stD hs ns))),some (.w (.d (.int h))),none,none,none,none,none] n _;refine jal (ja2 (λQ q=>jw8 rfl rfl rfl okh hh q) ?_);dsimp only[Av];cases ea:actO ps hs h with
 |none =>
  rw[ea]at k;exact jal (if_y (λQ q=>jyb (λQ q=>ct_b (k:=true) (λQ q=>w2_i (jad rfl (c_i (jcn q)))) q) q) (jbi (c_i k)))
 |some a =>
  rw[ea]at k;have k:Q (.d (natD (a.pf.bind λfs=>fstO fs nm ns))) n:=k;have oa:=H.ok okp ea;show sSeq _ _ [some (.w (.d (pgD ps))),some (.w (.d (stD hs ns))),some (.w (.d (.int h))),some (.w (.d a.d)),none,none,none,none] n _;have g1:∀(s:Str) (r:List Ae),jcs (PyData.tuple (.str s::r))=false:=λ_ _=>rfl;cases ef:a.pf with
  |none =>
   rw[ef]at k;obtain⟨_,s,r,e,h1,_⟩:=j2r ef;rw[e];exact jal (if_y (λQ q=>jg5 (λQ q=>ct_b (k:=false) (λQ q=>w2_i (jad rfl (c_i (jcn q)))) q) (jzm rfl h1 q)) (jbi (c_i k)))
  |some fs =>
   rw[ef]at k;have k:Q (.d (natD (fstO fs nm ns))) n:=k;obtain⟨of,s,r,e,h1,_⟩:=jrd ef oa;rw[e];refine jal (if_n (λQ q=>jg5 (λQ q=>ct_b (k:=false) (λQ q=>w2_i (jad rfl (c_i (jcn q)))) q) (jzm rfl h1 q)) ?_);dsimp only[jas];refine jal (ja2 (x:=jba nm) (λQ q=>w2_i (w2_i (w2_i (jad rfl (c_i (g0_i (jad rfl (gN_i H.hD (c_i (g2_i q)))))))))) ?_);dsimp only[Av];refine jal (show jwl 5 _ _ _ from ?_);unfold jwl;dsimp only[Av];refine jal ?_;unfold sFor jut;refine w2_i (jad rfl (c_i (g1_i ⟨ns.map ntD,rfl,?_⟩)));refine jbh (λds δ m=>m=n/\∃(re:List Nt) (j:Nat) (kvs:List (List Key×Ae)) (x6 x7:Option SV),ds=jkt j (re.map ntD)/\δ=[some (.w (.d (pgD ps))),some (.w (.d (stD hs ns))),some (.w (.d (.int h))),some (.w (.d (.tuple (.str s::patD fs::r)))),some (.w (.d (jba nm))),some (.odt kvs),x6,x7] /\
    (∀q∈re,okQ q)/\kvs.length+re.length<=100/\(∀key,inT kvs key=true->fitB fs (key.map DL.vD) nm=false)/\Q (.d (natD ((fstO fs nm re).map (·+j)))) n) (λδ m I=>?_) (λd r' δ m N I kN=>?_) _ _ _ ⟨rfl,ns,0,[],none,none,rfl,rfl,okn.2,by have:=okn.1;simpa using this,λkey z=>(by cases z),?_⟩
   ·obtain⟨rfl,re,j,kvs,x6,x7,ed,rfl,_,_,_,kq⟩:=I;have:re=[]:=by
     cases re with
     |nil=>rfl
     |cons q re=>rw[Bo,jll]at ed;cases ed
    subst this;exact(show Q (.d .none) m from kq)
   ·obtain⟨rfl,re,j,kvs,x6,x7,ed,rfl,hre,hl,ht,kq⟩:=I;cases re with
    |nil=>cases ed
    |cons q re =>
     rw[Bo,jll]at ed;obtain⟨rfl,rfl⟩:=Fv ed;rw[Ax]at hl;have oq:=hre q A2;obtain⟨key,ek⟩:=jqx oq.1.2;have nxt:∀kvs',kvs'.length<=kvs.length+1->(∀key,inT kvs' key=true->fitB fs (key.map DL.vD) nm=false)->fitB fs q.1 nm=false->N [some (.w (.d (pgD ps))),some (.w (.d (stD hs ns))),some (.w (.d (.int h))),some (.w (.d (.tuple (.str s::patD fs::r)))),some (.w (.d (jba nm))),some (.odt kvs'),some (.w (.d (.int j))),some (.w (.d (ntD q)))] m:=λkvs' a1 a2 a3=>by
      refine kN _ _ ⟨rfl,re,j+1,kvs',_,_,by rw[show((j+1:Nat):Int)=(j:Int)+1 from rfl],rfl,λx hx=>hre x (As _ hx),by omega,a2,?_⟩;rw[jq3,if_neg (by rw[a3];exact Ak),Option.map_map]at kq;have:((λx=>x+j) ∘ λx=>x+1)=λx=>x+(j+1):=funext λx=>by show x+1+j=x+(j+1);omega
      rw[this]at kq;exact kq
     refine⟨rfl,?_⟩;dsimp only[jbg,jdl,jak,Av];refine if_i (show jv2 5 _ _ _ _ from jds rfl ⟨key,kvs,by rw[ek];rfl,rfl,?_⟩);show if (!inT kvs key)=true then _ else _
     cases et:inT kvs key with
     |true =>
      rw[if_neg (by rw[Bool.not_true];exact Ak)];exact nxt kvs (by omega) ht (by rw[ek];exact ht key et)
     |false =>
      rw[if_pos (show(!false)=true from rfl)];refine jal (if_i (w2_i (c3_i (jee rfl (jds rfl (jad rfl ⟨fs,q.1,nm,rfl,of,oq.1,H.nms,?_⟩))))));refine c_i (jcn ?_);show if (!jcs (fitD fs q.1 nm))=true then _ else _
      rw[jxz,Bool.not_not];cases eb:fitB fs q.1 nm with
      |true =>
       rw[if_pos rfl];rw[jq3,if_pos eb,Option.map_some,Nat.zero_add]at kq;exact jbi (jad rfl kq)
      |false =>
       rw[if_neg Ak];dsimp only[jas];refine c_i ⟨kvs,rfl,jds rfl ⟨key,.bool true,rfl,by rw[ek];rfl,by omega,?_⟩⟩;dsimp only[Av];refine nxt _ jwu (λkey' z=>?_) eb;rcases j1x z with rfl | z
       ·rw[<-ek];exact eb
       ·exact ht key' z
   ·have:(λx:Nat=>x+0)=id:=rfl;rw[this,Option.map_id];exact k
theorem jrb {ps:Pg} {hs:List Hn} {ns:List Nt} {h:Nat} {a:Ac} (e:actO ps hs h=some a):canB ps hs ns h=(!a.wt || (gotO ps hs ns h).isSome):=by unfold canB;rw[e];rfl
theorem jn0:∀ws n Q,jdu ws n Q->ws.length=3:=λws n Q h=>by obtain⟨_,_,_,_,rfl,_⟩:=h;rfl
theorem j5d {a:Ac} (oa:okA a):∃s r,a.d=.tuple (.str s::r)/\inD (.str s) [.str "take",.str "read"]=a.wt:=by
 cases ef:a.pf with
 |none =>
  obtain⟨hw,s,r,e,_,h2⟩:=j2r ef;exact⟨s,r,e,by rw[h2,hw]⟩
 |some fs =>
  obtain⟨_,s,r,e,_,h2⟩:=jrd ef oa;exact⟨s,_,e,h2⟩
theorem jw9 (o:Option Nat):(!jcs (natD o))=o.isSome:=by cases o<;>rfl
abbrev zqi:List Str:=["programs","stand","hand","act"]
theorem jmy:∀ws n Q,jdu ws n Q->jhb (jaz zqi ws) n {nx:=λ_ n=>Q (.d .none) n,rt:=Q}:=λws n Q h=>by
 obtain⟨ps,hs,ns,h,rfl,ok,hh,k⟩:=h;obtain⟨P,xb,xp,nm,w,as,H⟩:=jct ok.2.1 hh;show jhb [some (.w (.d (pgD ps))),some (.w (.d (stD hs ns))),some (.w (.d (.int h))),none] n _;refine jal (ja2 (λQ q=>jw8 rfl rfl rfl ok.2.1 hh q) ?_);dsimp only[Av];cases ea:actO ps hs h with
 |none =>
  unfold canB at k;rw[ea]at k;exact jal (if_y (λQ q=>ct_b (k:=true) (λQ q=>w2_i (jad rfl (c_i (jcn q)))) q) (jbi (c_i k)))
 |some a =>
  rw[jrb ea]at k;obtain⟨s,r,e,h2⟩:=j5d (H.ok ok.1 ea);show sSeq _ _ [some (.w (.d (pgD ps))),some (.w (.d (stD hs ns))),some (.w (.d (.int h))),some (.w (.d a.d))] n _;rw[e];refine jal (if_n (λQ q=>ct_b (k:=false) (λQ q=>w2_i (jad rfl (c_i (jcn q)))) q) ?_);dsimp only[jas];refine jbi (show wOr _ _ _ _ _ from j4o rfl h2 ?_);rw[j2n];cases hw:a.wt with
  |false=>rw[hw]at k;exact k
  |true =>
   rw[hw]at k;rw[if_neg (by decide)];refine w2_i (c3_i (jad rfl (jad rfl (jad rfl ⟨ps,hs,ns,h,rfl,ok,hh,c_i (jcn ?_)⟩))));show Q (.d (.bool (!jcs (natD (gotO ps hs ns h))))) n;rw[jw9];exact k
theorem jyc {Q:List Ae->Int->Prop} {ps:Pg} {hs:List Hn} {ns:List Nt} {n:Int} (ok:okSt ps hs ns) (k:Q (rdyL ps hs ns) n):jco (jak 0) (cT (jam jdu (jab (wVar 1) (jab (wVar 2) (jab (wVar 0) aNil))))) (wVar 0) Q (rngD 0 ps.length) [] [none,some (.w (.d (pgD ps))),some (.w (.d (stD hs ns)))] n:=by
 have e:rngD 0 ps.length=(Bs ps.length).map λh=>.int (h:Nat):=by
  unfold rngD;exact Cz λi _=>by rw[Int.zero_add]
 rw[e];refine jpz (λh:Nat=>Ef (h:Nat)) (λh:Nat=>Ef (h:Nat)) (canB ps hs ns) _ [] none n (λh hh n Q' q=>?_) (λh hh n Q' q=>jad rfl q) (by rw[B8];exact k);exact c3_i (jad rfl (jad rfl (jad rfl ⟨ps,hs,ns,h,rfl,ok,Ck.mp hh,q⟩)))
theorem jue:∀ws n Q,jc7 ws n Q->ws.length=2:=λws n Q h=>by obtain⟨_,_,_,rfl,_⟩:=h;rfl
abbrev zqs:List Str:=["programs","stand"]
theorem jsa:∀ws n Q,jc7 ws n Q->jp2 (jaz zqs ws) n {nx:=λ_ _=>False,rt:=λ_ _=>False,rn:=Q}:=λws n Q h=>by
 obtain⟨ps,hs,ns,rfl,ok,k⟩:=h;show jp2 [some (.w (.d (pgD ps))),some (.w (.d (stD hs ns)))] n _;refine(show jwk _ _ _ _ from ?_);unfold jwk jb6 ja1;refine b1_i (jad rfl ?_);refine Am ⟨by omega,by rw[Ab];have:=ok.1.1;omega⟩ ?_;rw[Bp,Ab];exact jyc ok k
section
variable {δ:Sl} {n:Int} {Q:DQ} {w u:DT} {ds i j:List Ae}
theorem jx8 (xs:List Ae) {p:Nat} (hp:p<=xs.length):cutD xs (some (p:Int)) none=xs.drop p:=by
 unfold cutD;rw[HT.sIx_nat,HT.sIx_none,Nat.min_eq_left hp];exact Ej (by rw[Cc];exact Al _)
theorem j2z (k:w δ n λx n1=>match jel [x]with
  |some ds=>ds.length<=1000/\Q (.d (.tuple ds)) n1
  |none=>False):wTup (jab w aNil) δ n Q:=k
theorem jy6 {p:Nat} (hw:∀Q:DQ,Q (.d (.tuple ds)) n->w δ n Q) (hu:∀Q:DQ,Q (.d (.int p)) n->u δ n Q) (hp:p<=ds.length) (k:Q (.d (.tuple (ds.take p))) n):jca w jdz (jdy u) δ n Q:=by
 unfold jca;refine hw _ ?_;dsimp only[jdz,jdy];refine hu _ ?_;dsimp only;rw[jz0 _ hp];exact k
theorem jy7 {p:Nat} (hw:∀Q:DQ,Q (.d (.tuple ds)) n->w δ n Q) (hu:∀Q:DQ,Q (.d (.int p)) n->u δ n Q) (hp:p<=ds.length) (k:Q (.d (.tuple (ds.drop p))) n):jca w (jdy u) jdz δ n Q:=by
 unfold jca;refine hw _ ?_;dsimp only[jdz,jdy];refine hu _ ?_;dsimp only;rw[jx8 _ hp];exact k
theorem jov (h:i.length+j.length<=1000000) (k:Q (.d (.tuple (i++j))) n):jks (.d (.tuple i)) (.d (.tuple j)) n Q:=by
 cases i with
 |nil=>exact k
 |cons a r=>exact⟨.inl (λz=>nomatch z),Ba h (by decide),k⟩
end
theorem jnz:∀ws n Q,jjz ws n Q->ws.length=1:=λws n Q h=>by obtain⟨_,rfl,_⟩:=h;rfl
theorem jmx:∀ws n Q,jjz ws n Q->jlo (jaz ["thing"] ws) n {nx:=λ_ n=>Q (.d .none) n,rt:=Q}:=λws n Q h=>by
 obtain⟨i,rfl,k⟩:=h;exact k
theorem jl7:∀ws n Q,jgn ws n Q->ws.length=2:=λws n Q h=>by obtain⟨_,_,rfl,_⟩:=h;rfl
abbrev zqo1:List Str:=["thing","most"]
theorem jkx:∀ws n Q,jgn ws n Q->jf4 (jaz zqo1 ws) n {nx:=λ_ n=>Q (.d .none) n,rt:=Q}:=λws n Q h=>by
 obtain⟨i,m,rfl,h0,h1,k⟩:=h;show jf4 [some (.w (.d (.int i))),some (.w (.d (.int m)))] n _;exact jbi (j52 (λQ q=>c1_i (jad rfl ⟨i,rfl,q⟩)) (j2g (λQ q=>c_i q) (λQ q=>jad rfl q) (λQ q=>jad rfl q) h0 (by rw[decide_eq_true h1];exact k)))
theorem jkb:∀ws n Q,jvt ws n Q->ws.length=1:=λws n Q h=>by obtain⟨_,rfl,_⟩:=h;rfl
theorem jjl:∀ws n Q,jvt ws n Q->je0 (jaz ["value"] ws) n {nx:=λ_ n=>Q (.d .none) n,rt:=Q}:=λws n Q h=>by
 obtain⟨v,rfl,hv,k⟩:=h;show je0 [some (.w (.d v))] n {nx:=λ_ n=>Q (.d .none) n,rt:=Q};cases v with
 |str x=>exact k
 |int i =>
  have k:Q (.d (if i=99 then Ef 0 else Ef (i+1))) n:=k;show if decide (i=99)=true then Q (.d (.int 0)) n else Q (.d (.int (i+1))) n
  refine jzy (λe=>?_) λe=>?_
  ·rw[if_pos e]at k;exact k
  ·rw[if_neg e]at k;exact k
 |_=>cases hv
theorem ji6:∀ws n Q,jhy ws n Q->ws.length=2:=λws n Q h=>by obtain⟨_,_,rfl,_⟩:=h;rfl
theorem jic:∀ws n Q,jhy ws n Q->jd3 (jaz ["field","having","value"] ws) n {nx:=λ_ n=>Q (.d .none) n,rt:=Q}:=λws n Q h=>by
 obtain⟨f,nm,rfl,⟨_,tm,us⟩,k⟩:=h;show jd3 [some (.w (.d f.d)),some (.w (.dk (txK nm))),none] n {nx:=λ_ n=>Q (.d .none) n,rt:=Q};cases f with
 |isv d=>exact k
 |as x =>
  obtain⟨v,e,hv⟩:=us x rfl;have k:Q (.d ((look nm x).getD .none)) n:=k;rw[e]at k;refine jal (jmd (h:="is") (a:=.str "as") rfl (by decide +kernel) ?_);dsimp only[jas];refine jal ?_;show(match valD (txK nm) (.inr x)with | some d=>_ | none=>False);rw[jij,e];exact k
 |nx x =>
  obtain⟨v,e,hv⟩:=us x rfl;have k:Q (.d (nxO ((look nm x).getD .none))) n:=k;rw[e]at k;refine jal (jmd (h:="is") (a:=.str "next") rfl (by decide +kernel) ?_);dsimp only[jas];refine jal ?_;show(match valD (txK nm) (.inr x)with | some d=>_ | none=>False);rw[jij,e];exact⟨v,rfl,hv,k⟩
 |_=>cases tm
theorem j5v {δ:Sl} {n:Int} {Q:Bool->Int->Prop} (q:Q true n):cYes δ n Q:=q
theorem j63 {α:Type} {w:DT} {Q:List Ae->Int->Prop} {rest:Sl} (f g:α->Ae) (xs:List α) (x:Option SV) (n:Int) (h:∀a∈xs,∀(n:Int) (Q':DQ),Q' (.d (g a)) n->w (some (.w (.d (f a)))::rest) n Q') (q:Q (xs.map g) n):jco (jak 0) cYes w Q (xs.map f) [] (x::rest) n:=by
 refine jpz f g (λ_=>true) xs [] x n (λa _ n Q' q=>j5v q) h ?_;rw[B8,List.filter_eq_self.mpr λ_ _=>rfl];exact q
theorem j6r {ds:List Ae} {n:Int} {Q:DQ} (k:Q (.d (.tuple ds)) n):jdf [.d (.list ds)] n Q:=k
theorem jru:∀ws n Q,jgp ws n Q->ws.length=2:=λws n Q h=>by obtain⟨_,_,rfl,_⟩:=h;rfl
theorem jp0:∀ws n Q,jgp ws n Q->jm3 (jaz ["template","names","having"] ws) n {nx:=λ_ n=>Q (.d .none) n,rt:=Q}:=λws n Q h=>by
 obtain⟨fs,nm,rfl,hl,ok,okn,k⟩:=h;show jm3 [some (.w (.d (fsD fs))),some (.w (.d (jba nm))),none] n {nx:=λ_ n=>Q (.d .none) n,rt:=Q};refine jal (jif rfl okn ?_);dsimp only[Av];refine jbi (b1_i (of_i (jg6 (ds:=fs.map Fe.d) (λQ q=>jad rfl q) ?_)));show jco _ _ _ _ _ _ [none,some (.w (.dk (txK nm)))] n;exact j63 Fe.d (fvO nm) fs none n (λf hf n Q' q=>c2_i (jad rfl (show jcy 1 _ _ _ from⟨f,nm,rfl,ok f hf,q⟩))) (j6r k)
theorem jpm:∀ws n Q,jm4 ws n Q->ws.length=2:=λws n Q h=>by obtain⟨_,_,rfl,_⟩:=h;rfl
abbrev zqh1:List Str:=["place","names"]
theorem jop:∀ws n Q,jm4 ws n Q->jjx (jaz zqh1 ws) n {nx:=λ_ n=>Q (.d .none) n,rt:=Q}:=λws n Q h=>by
 obtain⟨x,nm,rfl,k⟩:=h;show jjx [some (.w (.d (hnD x))),some (.w (.d (jba nm)))] n _;exact jbi (jsn (jds rfl (w2_i (jee rfl (c_i (addI (jad rfl (Am (show 3<=1000 by decide) k))))))))
theorem jpl:∀ws n Q,jo4 ws n Q->ws.length=3:=λws n Q h=>by obtain⟨_,_,_,_,rfl,_⟩:=h;rfl
theorem joo:∀ws n Q,jo4 ws n Q->jjw (jaz ["program","block","names","wanted"] ws) n {nx:=λ_ n=>Q (.d .none) n,rt:=Q}:=λws n Q h=>by
 obtain⟨P,b,nm,⟨w,as⟩,rfl,hb,hw,k⟩:=h;have hbD:(P.map blD)[b]?=some (.tuple [jcj w,.tuple (as.map Ac.d)]):=by rw[A0,hb];rfl
 have ew:wtO P b=w:=by unfold wtO;rw[hb];rfl
 unfold goTo at k;rw[ew]at k;show jjw [some (.w (.d (prD P))),some (.w (.d (.int b))),some (.w (.d (jba nm))),none] n _;refine jal (ja2 (x:=jcj w) (λQ q=>w2_i (w2_i (jad rfl (jad rfl (gN_i hbD (c_i (g0_i q))))))) ?_);dsimp only[Av];refine jbi (jsn (jad rfl (c_i (b1_i (of_i (jg6 (ds:=nm.map jiv) (λQ q=>jad rfl q) ?_))))));show jco _ _ _ _ _ _ [none,some (.w (.d (jcj w)))] n;refine jpz jiv jiv (λp=>decide (p.1∈w)) nm [] none n (λp _ n Q' q=>ct_b (k:=decide (p.1∈w)) (λQ q=>w2_i (jds rfl (jad rfl ⟨rfl,jjg w,?_⟩))) q) (λp _ n Q' q=>jad rfl q) ?_
 ·show Q (.d (.bool (inD (.str p.1) (w.map .str)))) n;rw[jja];exact q
 ·exact Am (show 3<=1000 by decide) k
theorem jl6:∀ws n Q,jec ws n Q->ws.length=3:=λws n Q h=>by obtain⟨_,_,_,rfl,_⟩:=h;rfl
abbrev zqr:List Str:=["hands","hand","place"]
theorem jkw:∀ws n Q,jec ws n Q->jf3 (jaz zqr ws) n {nx:=λ_ n=>Q (.d .none) n,rt:=Q}:=λws n Q h=>by
 obtain⟨hs,h,x,rfl,hh,hl,k⟩:=h;show jf3 [some (.w (.d (.tuple (hs.map hnD)))),some (.w (.d (.int h))),some (.w (.d (hnD x)))] n _;have hd:(setH hs h x).map hnD=((hs.map hnD).take h++[hnD x])++(hs.map hnD).drop (h+1):=by
  unfold setH;rw[Bm,Bo,List.map_take,List.map_drop,Bw];rfl
 rw[hd]at k;have l1:((hs.map hnD).take h).length<=5:=Ba (List.length_take_le' _ _) (by rw[Ab];exact hl);have l2:((hs.map hnD).drop (h+1)).length<=5:=by rw[Cc,Ab];omega
 refine jbi (w2_i (w2_i (jy6 (p:=h) (λQ q=>jad rfl q) (λQ q=>jad rfl q) (by rw[Ab];omega) (j2z (jad rfl (Am (show 1<=1000 by decide) (jov (by rw[A5];omega) ?_)))))));exact jy7 (p:=h+1) (λQ q=>jad rfl q) (λQ q=>w2_i (jad rfl (c_i (addI q)))) (by rw[Ab];omega) (jov (by rw[An,A5];omega) k)
theorem jxk:∀ws n Q,jo5 ws n Q->ws.length=1:=λws n Q h=>by obtain⟨_,rfl,_⟩:=h;rfl
theorem jvl:∀ws n Q,jo5 ws n Q->jvs (jaz ["note"] ws) n {nx:=λ_ n=>Q (.d .none) n,rt:=Q}:=λws n Q h=>by
 obtain⟨⟨row,a⟩,rfl,ha,k⟩:=h;show jvs [some (.w (.d (ntD (row,a))))] n _;rcases ha with rfl | ⟨i,rfl,_⟩
 ·exact jbi (jvz (b:=true) (λQ q=>ct_b (k:=true) (λQ q=>w2_i (jee rfl (c_i (jcn q)))) q) (by rw[if_pos rfl];exact jad rfl k))
 ·exact jbi (jvz (b:=false) (λQ q=>ct_b (k:=false) (λQ q=>w2_i (jee rfl (c_i (jcn q)))) q) (by rw[if_neg Ak];exact jci (jds rfl (w2_i (jee rfl (c_i (Am (show 2<=1000 by decide) k)))))))
theorem j4q {a:Ae} {n:Int} {Q:DQ} (ha:jiy a) (k:Q (.d (.bool (!isI1 a))) n):gNe (.d a) (.d (.int 1)) n Q:=by
 rcases ha with rfl | ⟨i,rfl,_⟩<;>exact k
theorem ji7:∀ws n Q,jj5 ws n Q->ws.length=1:=λws n Q h=>by obtain⟨_,_,rfl,_⟩:=h;rfl
theorem jid:∀ws n Q,jj5 ws n Q->jd4 (jaz ["stand"] ws) n {nx:=λ_ n=>Q (.d .none) n,rt:=Q}:=λws n Q h=>by
 obtain⟨hs,ns,rfl,ha,k⟩:=h;show jd4 [some (.w (.d (stD hs ns)))] n _;refine jbi (jci (jds rfl (b1_i (of_i (jg6 (ds:=ns.map ntD) (λQ q=>jee rfl q) ?_)))));show jco _ _ _ _ _ _ [none] n;refine jpz ntD (λq=>ntD (q.1,ageO q.2)) (λq=>!isI1 q.2) ns [] none n (λq hq n Q' k'=>ct_b (λQ q'=>w2_i (jee rfl (c_i (j4q (ha q hq) q')))) k') (λq hq n Q' k'=>c1_i (jad rfl ⟨q,rfl,ha q hq,k'⟩)) ?_;refine Am (show 2<=1000 by decide) ?_;unfold stD nsD clkO at k;rw[El]at k;exact k
theorem j7a:∀j:Fin 100,isV (.int ((j.val:Nat):Int))=true:=by decide +kernel
theorem V_of {i:Int} (h0:0<=i) (h1:i<=99):isV (.int i)=true:=by
 have:=j7a ⟨i.toNat,by omega⟩;rw[show((i.toNat:Nat):Int)=i by omega]at this;exact this
theorem j69 {i:Int} (h:isV (.int i)=true):0<=i/\i<=99:=by
 simp only[isV,Cn,decide_eq_true_eq]at h;exact⟨h.1,h.2.1⟩
theorem nx_V {v:Ae} (h:isV v=true):isV (nxO v)=true:=by
 cases v with
 |str x=>exact h
 |int i =>
  obtain⟨h0,h1⟩:=j69 h;show isV (if i=99 then .int 0 else .int (i+1))=true
  split
  ·exact V_of (by decide) (by decide)
  ·exact V_of (by omega) (by omega)
 |_=>cases h
theorem fv_V {nm:Nm} {f:Fe} (h:fvOk nm f):isV (fvO nm f)=true:=by
 obtain⟨ok,tm,us⟩:=h;cases f with
 |isv d=>exact ok
 |as k=>obtain⟨v,e,hv⟩:=us k rfl;show isV ((look nm k).getD .none)=true;rw[e];exact hv
 |nx k=>obtain⟨v,e,hv⟩:=us k rfl;show isV (nxO ((look nm k).getD .none))=true;rw[e];exact nx_V hv
 |_=>cases tm
theorem j6x {a b:Ae} {n:Int} {Q:DQ} (ha:isV a=true) (hb:isV b=true) (k:Q (.d (.bool (eqB a b))) n):gEq (.d a) (.d b) n Q:=by
 unfold gEq;simp only[jx3 ha hb];exact k
theorem jgt:∀ws n Q,jox ws n Q->ws.length=2:=λws n Q h=>by obtain⟨_,_,_,_,rfl,_⟩:=h;rfl
theorem jgk:∀ws n Q,jox ws n Q->jc4 (jaz ["act","names","having"] ws) n {nx:=λ_ n=>Q (.d .none) n,rt:=Q}:=λws n Q h=>by
 obtain⟨f,g,b,nm,rfl,hf,hg,_,_,okn,k⟩:=h;show jc4 [some (.w (.d (.tuple [.str "same",f.d,g.d,.int b]))),some (.w (.d (jba nm))),none] n _;refine jal (jif rfl okn ?_);dsimp only[Av];exact jbi (w2_i (c2_i (jee rfl (show jcy 2 _ _ _ from⟨f,nm,rfl,hf,c2_i (w2_i (jad rfl (c_i (g2_i (show jcy 2 _ _ _ from⟨g,nm,rfl,hg,j6x (fv_V hf) (fv_V hg) k⟩)))))⟩))))
theorem jpt {fs:List Fd} {nm:Nm} {ns:List Nt} {i:Nat} (h:fstO fs nm ns=some i):∃q,ns[i]?=some q/\fitB fs q.1 nm=true:=by
 unfold fstO at h;rw[Fp]at h;obtain⟨hl,h1,_⟩:=h;exact⟨ns[i],Ag hl,h1⟩
theorem jx0 {fs:List Fd} {row:List Ae} {nm:Nm} (h:fitB fs row nm=true):fitD fs row nm=jba (srtN (wkN fs row nm)):=by unfold fitD;rw[if_pos h]
theorem ji2 {ps:Pg} {hs:List Hn} {ns:List Nt} {h:Nat} {P:List Bl} {xb xp:Nat} {nm:Nm} {w:List Str} {as:List Ac} (H:HandAt ps hs h P xb xp nm w as) {a:Ac} (e:actO ps hs h=some a):movO ps hs ns h=(actM P (xb,xp,nm) ns a).map λr=>(setH hs h r.1,r.2):=by
 unfold movO;rw[H.prog,H.hand,e];rfl
theorem jde {fs:List Fe} {x:Hn} {ns:List Nt} (e:fstO (fs.map Fe.fd) x.2.2 ns=none):getO fs x ns=none:=by unfold getO;rw[e];rfl
theorem jcw {fs:List Fe} {x:Hn} {ns:List Nt} {i:Nat} (e:fstO (fs.map Fe.fd) x.2.2 ns=some i):getO fs x ns=some (i,goOn x (srtN (wkN (fs.map Fe.fd) (rowO ns i) x.2.2))):=by unfold getO;rw[e];rfl
theorem j1s {s h:Str} {n:Int} {Q:DQ} (k:Q (.d (.bool (!jbc h (.str s)))) n):gNe (.d (.str s)) (.d (.str h)) n Q:=k
theorem jt1 (ns:List Nt) (i:Nat):(outO ns i).map ntD=(ns.map ntD).take i++(ns.map ntD).drop (i+1):=by unfold outO;rw[Bm,List.map_take,List.map_drop]
section
variable {ps:Pg} {hs:List Hn} {ns:List Nt} {h:Nat} {P:List Bl} {xb xp:Nat} {nm:Nm} {w:List Str} {as:List Ac} {n:Int} {Q:DQ}
theorem jsg {δ:Sl} {w2':DT} {x:Hn} {i1 i2 i5:Nat} {ns':List Nt} (e1:δ[i1]?=some (some (.w (.d (stD hs ns))))) (e2:δ[i2]?=some (some (.w (.d (.int h))))) (e5:δ[i5]?=some (some (.w (.d (nsD ns'))))) (hx:∀Q:DQ,Q (.d (hnD x)) n->w2' δ n Q) (hh:h < hs.length) (hl:hs.length<=5) (k:Q (.d (stD (setH hs h x) ns')) n) :
  wTup (jab (jam jec (jab (w2 (wVar i1) (wC (.int (0))) gIx) (jab (wVar i2) (jab w2' aNil)))) (jab (wVar i5) aNil)) δ n Q :=
 jci (c3_i (jds e1 (jad e2 (hx _ ⟨hs,h,x,rfl,hh,hl,jad e5 (Am (show 2<=1000 by decide) k)⟩))))
theorem ju0 {a:Ac} {s:Str} {gs:List Fe} {r:List Ae} (H:HandAt ps hs h P xb xp nm w as) (okp:okPg ps) (okh:okHs ps hs) (okn:okNs 100 ns) (hh:h < ps.length) (ea:actO ps hs h=some a) (ed:a.d=.tuple (.str s::fsD gs::r)) (hpf:a.pf=some (gs.map Fe.fd)) (hof:okFs gs) (hpat:patO gs)
  (kN:fstO (gs.map Fe.fd) nm ns=none->sSeq (sIf (cT (w2 (w2 (wVar 3) (wC (.int (0))) gIx) (wC (.str "look")) gNe)) (sRet (wC .none)) jas) (sRet (wTup (jab (jam jec (jab (w2 (wVar 1) (wC (.int (0))) gIx) (jab (wVar 2) (jab (jam jo4 (jab (w2 (wVar 0) (wVar 2) gIx) (jab (w2 (wVar 3) (wC (.int (2))) gIx) (jab (w2 (wVar 4) (wC (.int (2))) gIx) aNil)))) aNil)))) (jab (wVar 5) aNil))))
   [some (.w (.d (pgD ps))),some (.w (.d (stD hs ns))),some (.w (.d (.int h))),some (.w (.d (.tuple (.str s::fsD gs::r)))),some (.w (.d (hnD (xb,xp,nm)))),some (.w (.d (nsD ns))),some (.w (.d .none)),none] n {nx:=λ_ _=>True,rt:=Q})
  (kS:∀i ns',fstO (gs.map Fe.fd) nm ns=some i->ns'=(if jbc "take" (.str s)=true then outO ns i else ns)->Q (.d (stD (setH hs h (goOn (xb,xp,nm) (srtN (wkN (gs.map Fe.fd) (rowO ns i) nm)))) ns')) n) :
  jyq [some (.w (.d (pgD ps))),some (.w (.d (stD hs ns))),some (.w (.d (.int h))),some (.w (.d a.d)),none,none,none,none] n {nx:=λ_ n=>Q (.d .none) n,rt:=Q}:=by
 rw[ed];obtain⟨ep,op⟩:=jof hof hpat;have hlt:h < hs.length:=by rw[okh.1];exact hh
 have hl5:hs.length<=5:=by rw[okh.1];exact okp.1
 refine jal (ja2 (x:=hnD (xb,xp,nm)) (λQ q=>w2_i (w2_i (jad rfl (c_i (g0_i (jad rfl (gN_i H.hD q))))))) ?_);dsimp only[Av];refine jal (ja2 (x:=nsD ns) (λQ q=>jee rfl q) ?_);dsimp only[Av];have eg:gotO ps hs ns h=fstO (gs.map Fe.fd) nm ns:=by
  unfold gotO;rw[ea,H.nmq];show(a.pf.bind _)=_;rw[hpf];rfl
 refine jal (ja2 (x:=natD (fstO (gs.map Fe.fd) nm ns)) (λQ q=>c3_i (jad rfl (jad rfl (jad rfl ⟨ps,hs,ns,h,rfl,⟨okp,okh,okn⟩,hh,by rw[eg];exact q⟩)))) ?_);dsimp only[Av];cases eq:fstO (gs.map Fe.fd) nm ns with
 |none=>exact jal (if_y (λQ q=>ct_b (k:=true) (λQ q=>w2_i (jad rfl (c_i (jcn q)))) q) (kN eq))
 |some i =>
  obtain⟨⟨row,age⟩,hq,hf⟩:=jpt eq;have hi:i < ns.length:=(Ay.mp hq).1;have hq':(ns.map ntD)[i]?=some (.tuple [.tuple row,age]):=by rw[A0,hq];rfl
  have er:rowO ns i=row:=by unfold rowO;rw[hq];rfl
  have oq:=okn.2 _ (A6 hq);refine jal (if_n (λQ q=>ct_b (k:=false) (λQ q=>w2_i (jad rfl (c_i (jcn q)))) q) ?_);dsimp only[jas];refine jal (ja2 (x:=jba (srtN (wkN (gs.map Fe.fd) (rowO ns i) nm))) (λQ q=>?_) ?_)
  ·refine c3_i (jee rfl (w2_i (w2_i (jad rfl (jad rfl (gN_i hq' (c_i (g0_i ?_))))))));refine w2_i (jad rfl (c_i (g2_i ⟨gs.map Fe.fd,row,nm,by rw[ep],op,oq.1,H.nms,?_⟩)));rw[jx0 hf];rw[er]at q;exact q
  dsimp only[Av];have fin:∀ns',ns'=(if jbc "take" (.str s)=true then outO ns i else ns)->sRet (wTup (jab (jam jec (jab (w2 (wVar 1) (wC (.int (0))) gIx) (jab (wVar 2) (jab (jam jm4 (jab (wVar 4) (jab (wVar 7) aNil))) aNil)))) (jab (wVar 5) aNil)))
    [some (.w (.d (pgD ps))),some (.w (.d (stD hs ns))),some (.w (.d (.int h))),some (.w (.d (.tuple (.str s::fsD gs::r)))),some (.w (.d (hnD (xb,xp,nm)))),some (.w (.d (nsD ns'))),some (.w (.d (.int i))),some (.w (.d (jba (srtN (wkN (gs.map Fe.fd) (rowO ns i) nm)))))] n {nx:=λ_ n=>Q (.d .none) n,rt:=Q}:=λns' e' =>
   jbi (jsg (x:=goOn (xb,xp,nm) (srtN (wkN (gs.map Fe.fd) (rowO ns i) nm))) rfl rfl rfl (λQ q=>c2_i (jad rfl (jad rfl ⟨(xb,xp,nm),_,rfl,q⟩))) hlt hl5 (kS i ns' eq e'))
  refine jal (j1z rfl (λz=>?_) λz=>?_)
  ·refine ja2 (x:=nsD (outO ns i)) (λQ q=>w2_i (jy6 (p:=i) (λQ q=>jad rfl q) (λQ q=>jad rfl q) (by rw[Ab];omega) (jy7 (p:=i+1) (λQ q=>jad rfl q) (λQ q=>w2_i (jad rfl (c_i (addI q)))) (by rw[Ab];omega) (jov ?_ ?_)))) ?_
   ·have:=okn.1;rw[Ct,Cc,Ab];omega
   ·unfold nsD at q;rw[jt1]at q;exact q
   ·dsimp only[Av];exact fin (outO ns i) (by rw[if_pos z])
  ·dsimp only[jas];exact fin ns (by rw[if_neg (by rw[z];exact Ak)])
end
theorem j1u:∀ws n Q,jj1 ws n Q->ws.length=4:=λws n Q h=>by obtain⟨_,_,_,_,_,rfl,_⟩:=h;rfl
abbrev zql1:List Str:=["programs","stand","hand","act","place","notes","number","names"]
theorem jyi:∀ws n Q,jj1 ws n Q->jyq (jaz zql1 ws) n {nx:=λ_ n=>Q (.d .none) n,rt:=Q}:=λws n Q h=>by
 obtain⟨ps,hs,ns,h,a,rfl,⟨okp,okh,okn⟩,hh,ea,hp,k⟩:=h;obtain⟨P,xb,xp,nm,w,as,H⟩:=jct okh hh;have oa:=H.ok okp ea;rw[ji2 H ea]at k;have hlt:h < hs.length:=by rw[okh.1];exact hh
 have hl5:hs.length<=5:=by rw[okh.1];exact okp.1
 show jyq [some (.w (.d (pgD ps))),some (.w (.d (stD hs ns))),some (.w (.d (.int h))),some (.w (.d a.d)),none,none,none,none] n _;cases a with
 |lay fs age=>cases hp
 |same f g b=>cases hp
 |go b=>cases hp
 |take gs =>
  refine ju0 (s:="take") (gs:=gs) (r:=[]) H okp okh okn hh ea rfl rfl oa.1 oa.2 (λe=>?_) λi ns' e e'=>?_
  ·have k:Q (.d (moD (((getO gs (xb,xp,nm) ns).map λq=>(q.2,outO ns q.1)).map λr=>(setH hs h r.1,r.2)))) n:=k;rw[jde e]at k;exact jal (if_y (λQ q=>ct_b (k:=true) (λQ q=>w2_i (jds rfl (c_i (j1s (by rw[show jbc "look" (.str "take")=false by decide +kernel];exact q))))) q) (jbi (c_i k)))
  ·rw[if_pos (by decide +kernel)]at e';rw[e'];have k:Q (.d (moD (((getO gs (xb,xp,nm) ns).map λq=>(q.2,outO ns q.1)).map λr=>(setH hs h r.1,r.2)))) n:=k;rw[jcw e]at k;exact k
 |read gs =>
  refine ju0 (s:="read") (gs:=gs) (r:=[]) H okp okh okn hh ea rfl rfl oa.1 oa.2 (λe=>?_) λi ns' e e'=>?_
  ·have k:Q (.d (moD (((getO gs (xb,xp,nm) ns).map λq=>(q.2,ns)).map λr=>(setH hs h r.1,r.2)))) n:=k;rw[jde e]at k;exact jal (if_y (λQ q=>ct_b (k:=true) (λQ q=>w2_i (jds rfl (c_i (j1s (by rw[show jbc "look" (.str "read")=false by decide +kernel];exact q))))) q) (jbi (c_i k)))
  ·rw[if_neg (by decide +kernel)]at e';rw[e'];have k:Q (.d (moD (((getO gs (xb,xp,nm) ns).map λq=>(q.2,ns)).map λr=>(setH hs h r.1,r.2)))) n:=k;rw[jcw e]at k;exact k
 |look gs b =>
  refine ju0 (s:="look") (gs:=gs) (r:=[.int b]) H okp okh okn hh ea rfl rfl oa.1 oa.2 (λe=>?_) λi ns' e e'=>?_
  ·have k:Q (.d (moD ((match getO gs (xb,xp,nm) ns with | some q=>some (q.2,ns) | none=>some (goTo P b nm,ns):Option (Hn×List Nt)).map λr=>(setH hs h r.1,r.2)))) n:=k;rw[jde e]at k;have hr:=(okp.2 P (A6 H.prog)).2.2 (w,as) (A6 H.blk);rw[H.act]at ea;obtain⟨wb,hwb,_⟩:=(hr.2 xp _ ea).2 b rfl;rw[A0]at hwb;obtain⟨bl,hbl,_⟩:=Fo.mp hwb;have obl:=((okp.2 P (A6 H.prog)).2.2 bl (A6 hbl)).1;refine jal (if_n (λQ q=>ct_b (k:=false) (λQ q=>w2_i (jds rfl (c_i (j1s (by rw[show jbc "look" (.str "look")=true by decide +kernel];exact q))))) q) ?_);dsimp only[jas];refine jbi (jsg (x:=goTo P b nm) rfl rfl rfl (λQ q=>?_) hlt hl5 k);refine c3_i (w2_i (jad rfl (jad rfl (gN_i H.pD ?_))));refine w2_i (jad rfl (c_i (g2_i ?_)));exact w2_i (jad rfl (c_i (g2_i ⟨P,b,nm,bl,rfl,hbl,obl.1,q⟩)))
  ·rw[if_neg (by decide +kernel)]at e';rw[e'];have k:Q (.d (moD ((match getO gs (xb,xp,nm) ns with | some q=>some (q.2,ns) | none=>some (goTo P b nm,ns):Option (Hn×List Nt)).map λr=>(setH hs h r.1,r.2)))) n:=k;rw[jcw e]at k;exact k
theorem c4_i {δ:Sl} {n:Int} {Q:DQ} {w w' w'' v:DT} {S:DSp} (k:w δ n λx n1=>w' δ n1 λy n2=>w'' δ n2 λz n3=>v δ n3 λu n4=>S [x,y,z,u] n4 Q):jam S (jab w (jab w' (jab w'' (jab v aNil)))) δ n Q:=k
theorem jxe {nm:Nm} {k:Str} (h:k∈nm.map (·.1)):∃v,look nm k=some v:=by
 obtain⟨p,hp,e⟩:=Bq.mp h;have:(nm.any λp=>decide (p.1=k))=true:=Dg.mpr ⟨p,hp,decide_eq_true e⟩;rw[jig]at this;exact D0.mp this
theorem j57 {f:Fe} (h:f.tm=true):f.bd=none:=by cases f<;>first | rfl | cases h
theorem jv6 {f:Fe} (h:f.te=true):f.tm=true:=by cases f<;>first | rfl | cases h
theorem j02:∀{fs:List Fe} {ks:List Str},rF ks fs->(∀f∈fs,f.tm=true)->∀f∈fs,∀k,f.us=some k->k∈ks
 |[],_,_,_,f,hf,_,_=>by simp at hf
 |g::r,ks,h,ht,f,hf,k,hk=>by
  rcases Ao.mp hf with rfl | hf
  ·exact h.1 k hk
  ·have h2:=h.2;rw[j57 (ht g A2)]at h2;have:=j02 h2 (λx hx=>ht x (As _ hx)) f hf k hk;simpa using this
section
variable {ps:Pg} {hs:List Hn} {ns:List Nt} {h:Nat} {P:List Bl} {xb xp:Nat} {nm:Nm} {w:List Str} {as:List Ac} {n:Int} {Q:DQ}
theorem HandAt.okb (H:HandAt ps hs h P xb xp nm w as) (okp:okPg ps):okB (w,as)/\riB (P.map (·.1)) (w,as):=(okp.2 P (A6 H.prog)).2.2 (w,as) (A6 H.blk)
theorem HandAt.right (H:HandAt ps hs h P xb xp nm w as) (okp:okPg ps) {a:Ac} (e:actO ps hs h=some a):a.right (P.map (·.1)) (kn w as xp):=by
 rw[H.act]at e;exact(H.okb okp).2 xp a e
theorem HandAt.fv (H:HandAt ps hs h P xb xp nm w as) {f:Fe} (ok:f.ok) (tm:f.tm=true) (us:∀k,f.us=some k->k∈kn w as xp):fvOk nm f:=⟨ok,tm,λk hk=>by
 obtain⟨v,e⟩:=jxe ((H.hn.mem k).mpr (us k hk));exact⟨v,e,(H.hn.ok _ (jc0 e)).2⟩⟩
theorem HandAt.lay (H:HandAt ps hs h P xb xp nm w as) (okp:okPg ps) {fs:List Fe} {age:Ae} (e:actO ps hs h=some (.lay fs age)):fs.length<=4/\∀f∈fs,fvOk nm f:=by
 have oa:=H.ok okp e;have r:=(H.right okp e).1;exact⟨oa.1.1,λf hf=>H.fv (oa.1.2 f hf) (oa.2.1 f hf) (j02 r oa.2.1 f hf)⟩
theorem HandAt.same (H:HandAt ps hs h P xb xp nm w as) (okp:okPg ps) {f g:Fe} {b:Nat} (e:actO ps hs h=some (.same f g b)):fvOk nm f/\fvOk nm g/\f.te=true/\g.te=true:=by
 have oa:=H.ok okp e;have r:=j02 (H.right okp e).1 (λx hx=>by
  simp only[Ac.fs,Ao,Aw,or_false]at hx;rcases hx with rfl | rfl
  ·exact jv6 oa.2.1
  ·exact jv6 oa.2.2)
 exact⟨H.fv (oa.1.2 f (by simp[Ac.fs])) (jv6 oa.2.1) (r f (by simp[Ac.fs])),H.fv (oa.1.2 g (by simp[Ac.fs])) (jv6 oa.2.2) (r g (by simp[Ac.fs])),oa.2.1,oa.2.2⟩
theorem HandAt.to (H:HandAt ps hs h P xb xp nm w as) (okp:okPg ps) {a:Ac} {b:Nat} (e:actO ps hs h=some a) (hb:a.to=some b):∃bl:Bl,P[b]?=some bl/\okB bl/\∀k∈bl.1,k∈nm.map (·.1):=by
 obtain⟨wb,hwb,hk⟩:=(H.right okp e).2 b hb;rw[A0]at hwb;obtain⟨bl,hbl,rfl⟩:=Fo.mp hwb;exact⟨bl,hbl,((okp.2 P (A6 H.prog)).2.2 bl (A6 hbl)).1,λk z=>(H.hn.mem k).mpr (hk k z)⟩
end
theorem j40 {a b:Ae} {n:Int} {Q:DQ} {δ:Sl} {i:Nat} (e:δ[i]?=some (some (.w (.d (.tuple [a,b]))))) (k:Q (.d b) n):w2 (wVar i) (wNeg (wC (.int 1))) gIx δ n Q:=w2_i (jad e k)
theorem j4z {a b c d:Ae} {n:Int} {Q:DQ} {δ:Sl} {i:Nat} (e:δ[i]?=some (some (.w (.d (.tuple [a,b,c,d]))))) (k:Q (.d d) n):w2 (wVar i) (wNeg (wC (.int 1))) gIx δ n Q:=w2_i (jad e k)
theorem jkc:∀ws n Q,jo3 ws n Q->ws.length=3:=λws n Q h=>by obtain⟨_,_,_,_,rfl,_⟩:=h;rfl
abbrev zqr1:List Str:=["programs","stand","hand","act","place","notes","names"]
theorem jjm:∀ws n Q,jo3 ws n Q->je1 (jaz zqr1 ws) n {nx:=λ_ n=>Q (.d .none) n,rt:=Q}:=λws n Q h=>by
 obtain⟨ps,hs,ns,h,rfl,⟨okp,okh,okn⟩,hh,k⟩:=h;obtain⟨P,xb,xp,nm,w,as,H⟩:=jct okh hh;have hlt:h < hs.length:=by rw[okh.1];exact hh
 have hl5:hs.length<=5:=by rw[okh.1];exact okp.1
 show je1 [some (.w (.d (pgD ps))),some (.w (.d (stD hs ns))),some (.w (.d (.int h))),none,none,none,none] n _;refine jal (ja2 (λQ q=>jw8 rfl rfl rfl okh hh q) ?_);dsimp only[Av];cases ea:actO ps hs h with
 |none =>
  unfold movO at k;rw[H.prog,H.hand,ea]at k;exact jal (if_y (λQ q=>ct_b (k:=true) (λQ q=>w2_i (jad rfl (c_i (jcn q)))) q) (jbi (c_i k)))
 |some a =>
  have oa:=H.ok okp ea;show sSeq _ _ [some (.w (.d (pgD ps))),some (.w (.d (stD hs ns))),some (.w (.d (.int h))),some (.w (.d a.d)),none,none,none] n _;cases ef:a.pf with
  |some fs =>
   obtain⟨of,s,r,e,h1,_⟩:=jrd ef oa;have ha:Q (.d (moD (movO ps hs ns h))) n->jam jj1 (jab (wVar 0) (jab (wVar 1) (jab (wVar 2) (jab (wVar 3) aNil)))) [some (.w (.d (pgD ps))),some (.w (.d (stD hs ns))),some (.w (.d (.int h))),some (.w (.d a.d)),none,none,none] n Q:=λk =>
    c4_i (jad rfl (jad rfl (jad rfl (jad rfl ⟨ps,hs,ns,h,a,rfl,⟨okp,okh,okn⟩,hh,ea,by rw[ef];rfl,k⟩))))
   rw[e]at ha ⊢;refine jal (if_n (λQ q=>ct_b (k:=false) (λQ q=>w2_i (jad rfl (c_i (jcn q)))) q) ?_);dsimp only[jas];exact jal (if_y (λQ q=>j45 (λQ q=>jds rfl q) h1 q) (jbi (ha k)))
  |none =>
   rw[ji2 H ea]at k;have pre:∀(V:DST) (s:Str) (r:List Ae),a.d=.tuple (.str s::r)->inD (.str s) [.str "take",.str "read",.str "look"]=false ->
     V [some (.w (.d (pgD ps))),some (.w (.d (stD hs ns))),some (.w (.d (.int h))),some (.w (.d a.d)),some (.w (.d (hnD (xb,xp,nm)))),some (.w (.d (nsD ns))),some (.w (.d (jba nm)))] n {nx:=λ_ n=>Q (.d .none) n,rt:=Q} ->
     sSeq (sIf (cT (w2 (wVar 3) (wC .none) (gIsN false))) (sRet (wC .none)) jas) (sSeq (sIf (cT (wInG zqp (w2 (wVar 3) (wC (.int (0))) gIx))) (sRet (jam jj1 (jab (wVar 0) (jab (wVar 1) (jab (wVar 2) (jab (wVar 3) aNil)))))) jas) (sSeq (sSet 4 (w2 (w2 (wVar 1) (wC (.int (0))) gIx) (wVar 2) gIx)) (sSeq (sSet 5 (w2 (wVar 1) (wC (.int (1))) gIx)) (sSeq (sSet 6 (w2 (wVar 4) (wC (.int (2))) gIx)) V))))
      [some (.w (.d (pgD ps))),some (.w (.d (stD hs ns))),some (.w (.d (.int h))),some (.w (.d a.d)),none,none,none] n {nx:=λ_ n=>Q (.d .none) n,rt:=Q}:=λV s r e h1 kk=>by
    rw[e]at kk ⊢;refine jal (if_n (λQ q=>ct_b (k:=false) (λQ q=>w2_i (jad rfl (c_i (jcn q)))) q) ?_);dsimp only[jas];refine jal (if_n (λQ q=>j45 (λQ q=>jds rfl q) h1 q) ?_);dsimp only[jas];refine jal (ja2 (x:=hnD (xb,xp,nm)) (λQ q=>w2_i (w2_i (jad rfl (c_i (g0_i (jad rfl (gN_i H.hD q))))))) ?_);dsimp only[Av];refine jal (ja2 (x:=nsD ns) (λQ q=>jee rfl q) ?_);dsimp only[Av];refine jal (ja2 (x:=jba nm) (λQ q=>w2_i (jad rfl (c_i (g2_i q)))) ?_);dsimp only[Av];exact kk
   have fin:∀(x:Hn) (ns':List Nt) (d:Ae),Q (.d (stD (setH hs h x) ns')) n->sRet (wTup (jab (jam jec (jab (w2 (wVar 1) (wC (.int (0))) gIx) (jab (wVar 2) (jab (wVar 4) aNil)))) (jab (wVar 5) aNil))) [some (.w (.d (pgD ps))),some (.w (.d (stD hs ns))),some (.w (.d (.int h))),some (.w (.d d)),some (.w (.d (hnD x))),some (.w (.d (nsD ns'))),some (.w (.d (jba nm)))] n {nx:=λ_ n=>Q (.d .none) n,rt:=Q}:=λx ns' d q =>
    jbi (jsg (x:=x) rfl rfl rfl (λQ q=>jad rfl q) hlt hl5 q)
   cases a with
   |take fs=>cases ef
   |read fs=>cases ef
   |look fs b=>cases ef
   |lay fs age =>
    obtain⟨hl4,hfv⟩:=H.lay okp ea;refine pre _ "lay" [fsD fs,age] rfl (by decide +kernel) ?_;refine jal (j1y (a:=.str "lay") rfl (by decide +kernel) (jal ?_));refine ja2 (x:=nsD (ns++[(filO fs nm,age)])) (λQ q=>?_) ?_
    ·refine w2_i (jad rfl (j2z (jci (c2_i (jee rfl (jad rfl ⟨fs,nm,rfl,hl4,hfv,H.nms,?_⟩))))));refine w2_i (jad rfl (c_i (g2_i (Am (show 2<=1000 by decide) (Am (show 1<=1000 by decide) (jov (by rw[Ab,A5];have:=okn.1;omega) ?_))))));unfold nsD at q;rw[Bm]at q;exact q
    ·dsimp only[Av];refine ja2 (x:=hnD (goOn (xb,xp,nm) nm)) (λQ q=>c2_i (jad rfl (jad rfl ⟨(xb,xp,nm),nm,rfl,q⟩))) ?_;dsimp only[Av];exact fin _ _ _ k
   |same f g b =>
    obtain⟨hf,hg,tf,tg⟩:=H.same okp ea;obtain⟨bl,hbl,obl,_⟩:=H.to okp ea (b:=b) rfl;refine pre _ "same" [f.d,g.d,.int b] rfl (by decide +kernel) ?_;refine jal (jmd (a:=.str "same") rfl (by decide +kernel) (if_i (jdt (λQ q=>jx1 (a:=.str "same") rfl ?_) ?_)))
    ·rw[show jbc "same" (.str "same")=true by decide +kernel];exact q
    refine(show cT _ _ _ _ from c2_i (jad rfl (jad rfl ⟨f,g,b,nm,rfl,hf,hg,tf,tg,H.nms,?_⟩)));have k:Q (.d (stD (setH hs h (if eqB (fvO nm f) (fvO nm g)=true then goOn (xb,xp,nm) nm else goTo P b nm)) ns)) n:=k;refine ifb (λz=>?_) λz=>?_
    ·rw[if_pos z]at k;refine ja2 (x:=hnD (goOn (xb,xp,nm) nm)) (λQ q=>c2_i (jad rfl (jad rfl ⟨(xb,xp,nm),nm,rfl,q⟩))) ?_;dsimp only[Av];exact fin _ _ _ k
    ·rw[if_neg (by rw[z];exact Ak)]at k;refine ja2 (x:=hnD (goTo P b nm)) (λQ q=>c3_i (w2_i (jad rfl (jad rfl (gN_i H.pD (j4z rfl (jad rfl ⟨P,b,nm,bl,rfl,hbl,obl.1,q⟩))))))) ?_;dsimp only[Av];exact fin _ _ _ k
   |go b =>
    obtain⟨bl,hbl,obl,_⟩:=H.to okp ea (b:=b) rfl;refine pre _ "go" [.int b] rfl (by decide +kernel) ?_;refine jal (jmd (a:=.str "go") rfl (by decide +kernel) (if_n (λQ q=>jeb (λQ q=>jx1 (a:=.str "go") rfl ?_) q) ?_))
    ·rw[show jbc "same" (.str "go")=false by decide +kernel];exact q
    refine ja2 (x:=hnD (goTo P b nm)) (λQ q=>c3_i (w2_i (jad rfl (jad rfl (gN_i H.pD (j40 rfl (jad rfl ⟨P,b,nm,bl,rfl,hbl,obl.1,q⟩))))))) ?_;dsimp only[Av];exact fin _ _ _ k
theorem jug:∀ws n Q,jj6 ws n Q->ws.length=3:=λws n Q h=>by obtain⟨_,_,_,_,rfl,_⟩:=h;rfl
theorem j5j {a b n:Int} {Q:DQ} (k:Q (.d (.bool (decide (a=b)))) n):gEq (.d (.int a)) (.d (.int b)) n Q:=k
theorem jsc:∀ws n Q,jj6 ws n Q->jp4 (jaz ["programs","stand","mover","clock"] ws) n {nx:=λ_ n=>Q (.d .none) n,rt:=Q}:=λws n Q h=>by
 obtain⟨ps,hs,ns,m,rfl,ok,hm,k⟩:=h;show jp4 [some (.w (.d (pgD ps))),some (.w (.d (stD hs ns))),some (.w (.d (.int m))),none] n _;refine jal (ja2 (x:=.int ps.length) (λQ q=>b1_i (jad rfl (show Q (.d (.int ((ps.map prD).length:Nat))) n by rw[Ab];exact q))) ?_);dsimp only[Av];refine jal (if_n (λQ q=>jok (k:=true) (λQ q=>ct_b (k:=true) (λQ q=>c2_i (jad rfl (jad rfl ⟨_,_,rfl,by omega,by omega,q⟩))) q) q) ?_);dsimp only[jas];unfold aftO at k;refine jbi (jvz (b:=decide ((m:Int)=ps.length)) (λQ q=>ct_b (λQ q=>w2_i (jad rfl (jad rfl (j5j q)))) q) ?_);by_cases e:m=ps.length
 ·rw[if_pos e]at k;rw[if_pos (decide_eq_true (by omega))];exact c1_i (jad rfl ⟨hs,ns,rfl,λq hq=>(ok.2.2.2 q hq).2,k⟩)
 ·rw[if_neg e]at k;rw[if_neg (by rw[decide_eq_false (by omega)];exact Ak)];exact c3_i (jad rfl (jad rfl (jad rfl ⟨ps,hs,ns,m,rfl,ok,by omega,k⟩)))
theorem juf:∀ws n Q,je9 ws n Q->ws.length=3:=λws n Q h=>by obtain⟨_,_,_,_,_,rfl,_⟩:=h;rfl
theorem jsb:∀ws n Q,je9 ws n Q->jp3 (jaz ["programs","stand","mover","behind"] ws) n {nx:=λ_ n=>Q (.d .none) n,rt:=Q}:=λws n Q h=>by
 obtain⟨ps,hs,ns,m,r,rfl,ok,hm,e,k⟩:=h;show jp3 [some (.w (.d (pgD ps))),some (.w (.d (stD hs ns))),some (.w (.d (.int m))),none] n _;refine jal (ja2 (x:=stD r.1 r.2) (λQ q=>c3_i (jad rfl (jad rfl (jad rfl ⟨ps,hs,ns,m,rfl,ok,hm,by rw[e];exact q⟩)))) ?_);dsimp only[Av];refine jal (if_n (λQ q=>ct_b (k:=false) (λQ q=>w2_i (jad rfl (c_i (jcn q)))) q) ?_);dsimp only[jas];exact jbi (jad rfl k)
theorem jqg:∀{xs ys:List Str},xs.Nodup->ys.Nodup->(∀k,k∈xs↔k∈ys)->upT xs->upT ys->xs=ys
 |[],[],_,_,_,_,_=>rfl
 |[],y::ys,_,_,h,_,_=>by have:=(h y).mpr A2;simp at this
 |x::xs,[],_,_,h,_,_=>by have:=(h x).mp A2;simp at this
 |x::xs,y::ys,n1,n2,h,u1,u2=>by
  obtain⟨a1,b1⟩:=Dz.mp n1;obtain⟨a2,b2⟩:=Dz.mp n2;obtain⟨c1,d1⟩:=List.pairwise_cons.mp u1;obtain⟨c2,d2⟩:=List.pairwise_cons.mp u2;have e:x=y:=by
   rcases Ao.mp ((h x).mp A2)with e | hx
   ·exact e
   ·rcases Ao.mp ((h y).mpr A2)with e | hy
    ·exact e.symm
    ·exact tri _ _ (c2 x hx) (c1 y hy)
  subst e;rw[jqg b1 b2 (λk=>⟨λhk=>?_,λhk=>?_⟩) d1 d2]
  ·rcases Ao.mp ((h k).mp (As _ hk))with e | q
   ·exact absurd (e▸hk) a1
   ·exact q
  ·rcases Ao.mp ((h k).mpr (As _ hk))with e | q
   ·exact absurd (e▸hk) a2
   ·exact q
theorem j56 {nm:Nm} {w:List Str} (nd:(nm.map (·.1)).Nodup) (up:jhp nm) (wn:w.Nodup) (wu:upT w) (sub:∀k∈w,k∈nm.map (·.1)):nm.filter (λp=>decide (p.1∈w))=w.map λk=>(k,lkO nm k):=by
 have ek:(nm.filter λp=>decide (p.1∈w)).map (·.1)=w:=by
  refine jqg ?_ wn (λk=>⟨λhk=>?_,λhk=>?_⟩) ?_ wu
  ·exact List.Nodup.sublist (List.Sublist.map _ List.filter_sublist) nd
  ·obtain⟨p,hp,rfl⟩:=Bq.mp hk;exact of_decide_eq_true (Cm.mp hp).2
  ·obtain⟨p,hp,rfl⟩:=Bq.mp (sub k hk);exact Bq.mpr ⟨p,Cm.mpr ⟨hp,decide_eq_true hk⟩,rfl⟩
  ·unfold upT;rw[List.pairwise_map];exact List.Pairwise.sublist List.filter_sublist up
 have e2:(nm.filter λp=>decide (p.1∈w))=(nm.filter λp=>decide (p.1∈w)).map λp=>(p.1,lkO nm p.1):=by
  have:(nm.filter λp=>decide (p.1∈w)).map id=(nm.filter λp=>decide (p.1∈w)).map λp=>(p.1,lkO nm p.1):=by
   refine Cz λp hp=>?_;have:=jxd nd (Cm.mp hp).1;show p=(p.1,lkO nm p.1);unfold lkO;rw[this];rfl
  rw[List.map_id]at this;exact this
 rw[e2]
 conv=>rhs;rw[<-ek]
 rw[El];rfl
section
variable {n:Int} {Q:DQ} {s h:Str}
theorem j6w (k:Q (.d (.bool (jbc h (.str s)))) n):gEq (.d (.str s)) (.d (.str h)) n Q:=k
end
theorem j2v {fs:List Fd} {row:List Ae} {nm:Nm} (nd:(nm.map (·.1)).Nodup) (h:fitB fs row nm=true):((wkN fs row nm).map (·.1)).Nodup/\(wk (fs.zip row) nm []=some (wkN fs row nm)):=by
 unfold fitB at h;rw[Cn]at h;unfold wkN;obtain⟨x,hx⟩:=D0.mp h.2;rw[hx];exact⟨jm6 _ _ _ _ nd hx,rfl⟩
theorem jvy:∀(l:List (Fd×Ae)) (h:Nm) (hs:List Str) (k:Nm),(∀p∈l,p.1.ok/\isV p.2=true)->(∀p∈h,okV p)->wk l h hs=some k->(∀p∈k,okV p)/\k.length<=h.length+l.length
 |[],h,hs,k,_,ho,e=>by cases e;exact⟨ho,Al _⟩
 | (f,v)::r,h,hs,k,hl,ho,e=>by
  have hr:∀p∈r,p.1.ok/\isV p.2=true:=λp hp=>hl p (As _ hp);have same:wk r h hs=some k->(∀p∈k,okV p)/\k.length<=h.length+((f,v)::r).length:=λe=>by
   have:=jvy r h hs k hr ho e;exact⟨this.1,by rw[Ax];omega⟩
  cases f with
  |is w=>unfold wk at e;split at e;exact same e;cases e
  |any=>unfold wk at e;exact same e
  |word=>unfold wk at e;split at e;exact same e;cases e
  |number=>unfold wk at e;split at e;exact same e;cases e
  |as x =>
   unfold wk at e
   split at e
   ·split at e
    ·exact same e
    ·cases e
   ·cases e
  |bind x =>
   unfold wk at e
   split at e
   ·split at e
    ·split at e
     ·exact same e
     ·cases e
    ·cases e
   ·have hb:=hl _ A2;have:=jvy r (put h x v) (hs++[x]) k hr (jnr ho hb.1 hb.2) e;have:=jl0 h x v;exact⟨by have:=jvy r (put h x v) (hs++[x]) k hr (jnr ho hb.1 hb.2) e;exact this.1,by rw[Ax];omega⟩
theorem j2t {fs:List Fd} {row:List Ae} (of:okP fs) (or:okR row):∀p∈fs.zip row,p.1.ok/\isV p.2=true:=λp hp=>by
 obtain⟨p1,p2⟩:=p;exact⟨of.2.2 _ (Fk hp).1,or.2 _ (Fk hp).2⟩
theorem jyx:jd9 [] [(.inr "word",.str "ab"),(.inr "number",.int 99)]=txK [("word",.str "ab"),("number",.int 99)]:=jl4 [("word",.str "ab"),("number",.int 99)] [] (by decide +kernel)
theorem jv7:valD (jd9 [] [(.inr "word",.str "ab"),(.inr "number",.int 99)]) (.inr "word")=some (.str "ab"):=by
 rw[jyx,jij];unfold look;rw[List.find?_cons_of_pos (by exact decide_eq_true rfl)];rfl
theorem jri:valD (jd9 [] [(.inr "word",.str "ab"),(.inr "number",.int 99)]) (.inr "number")=some (.int 99):=by
 rw[jyx,jij];unfold look;rw[List.find?_cons_of_neg (by rw[decide_eq_false (show ¬("word":Str)="number" by decide +kernel)];exact Ak),List.find?_cons_of_pos (by exact decide_eq_true rfl)];rfl
section
variable {δ:Sl} {n:Int} {Q:DQ} {K:DEnds} {a v:Ae} {r:List Ae} {x:Str} {hp:Nm}
theorem j20 {s:Str} {d:Ae} (e5:δ[5]?=some (some (.w (.d (.tuple (.str s::r)))))) (h:valD (jd9 [] [(.inr "word",.str "ab"),(.inr "number",.int 99)]) (.inr s)=some d) (k:Q (.d d) n):w2 (jv1 "word" "ab" "number" 99) (w2 (wVar 5) (wC (.int 0)) gIx) joe δ n Q:=by
 unfold w2 jv1;refine(show w2 (wVar 5) (wC (.int 0)) gIx δ n _ from jds e5 ?_);unfold joe;simp only[h];exact k
theorem j19 (e5:δ[5]?=some (some (.w (.d (.tuple (a::.str x::r)))))) (e3:δ[3]?=some (some (.odk (txK hp)))) (e6:δ[6]?=some (some (.w (.d v)))) (k:Q (.d ((look hp x).getD v)) n):jm7 (jcy 3) (w2 (wVar 5) (wC (.int 1)) gIx) (wVar 6) δ n Q:=by
 unfold jm7 jcy;rw[e3];refine jee e5 (jad e6 ?_);dsimp only;rw[jij];exact k
theorem j6e (e5:δ[5]?=some (some (.w (.d (.tuple (a::.str x::r)))))) (e3:δ[3]?=some (some (.odk (txK hp)))) (e6:δ[6]?=some (some (.w (.d v)))) (hl:hp.length < 1000) (k:K.nx (δ.set 3 (some (.odk (txK (put hp x v))))) n):jno 3 (w2 (wVar 5) (wC (.int 1)) gIx) (wVar 6) δ n K:=by
 unfold jno;rw[e3];refine jad e6 (jee e5 ⟨by unfold txK;rw[Ab];exact hl,?_⟩);rw[jqi];exact k
end
theorem jxl {δ:Sl} {n:Int} {Q:DQ} {i:Nat} {ds:List Ae} (e:δ[i]?=some (some (.own ds))) (k:Q (.d (.int ds.length)) n):jii i δ n Q:=by unfold jii;rw[e];exact k
theorem jzr {hp:Nm} {x:Str} {v:Ae} (hok:∀p∈hp,okV p) (hv:isV v=true):isV ((look hp x).getD v)=true:=by
 cases e:look hp x with
 |none=>exact hv
 |some w=>exact(hok _ (jc0 e)).2
theorem jmb:∀ws n Q,jo0 ws n Q->ws.length=3:=λws n Q h=>by obtain⟨_,_,rfl,_⟩:=h;rfl
abbrev zqy:List Str:=["_law_tape_here","_law_pattern_here","_law_names","_law_has","_law_row","_law_field","_law_value_here"]
theorem jk1:∀ws n Q,jo0 ws n Q->jf8 (jaz zqy ws) n {nx:=λ_ n=>Q (.d .none) n,rt:=Q}:=λws n0 Q h=>by
 obtain⟨fs,nm,rfl,okp,okn,hn0,k⟩:=h;show jf8 [some (.w .tp),some (.w (.d (patD fs))),some (.w (.d (jba nm))),none,none,none,none] n0 _;refine jal (jif rfl okn ?_);dsimp only[Av];refine jal (jem ?_);dsimp only[Av];refine jal ?_;unfold sFor jdi;refine jad rfl ?_;dsimp only[patD];refine jbh (λds δ m=>∃(gs:List Fd) (hp:Nm) (row:List Ae) (x y:Option SV),ds=gs.map Fd.d/\δ=[some (.w .tp),some (.w (.d (.tuple (fs.map Fd.d)))),some (.w (.d (jba nm))),some (.odk (txK hp)),some (.own row),x,y]/\(∀g∈gs,g.ok)/\(∀p∈hp,okV p)/\hp.length+gs.length<=48/\row.length+gs.length<=4/\(∀d∈row,isV d=true)/\m+(gs.length:Int)<=n0+4)
  (λδ m I=>?_) (λd r δ m N I kN=>?_) _ _ _ ⟨fs,nm,[],none,none,rfl,rfl,okp.2.2,okn.2.2,by have:=okp.2.1;have:=okn.1;omega,by have:=okp.2.1;simpa using this,λd hd=>by simp at hd,by have:=okp.2.1;omega⟩
 ·obtain⟨gs,hp,row,x,y,ed,rfl,gok,hok,l1,l2,hrow,hm⟩:=I;cases Ed.mp ed.symm;dsimp only;refine jh9 rfl ?_;dsimp only[Av];exact jbi (b1_i (jad rfl (k row m ⟨by simpa using l2,hrow⟩ (by simpa using hm))))
 ·obtain⟨gs,hp,row,x,y,ed,rfl,gok,hok,l1,l2,hrow,hm⟩:=I;obtain⟨g,gs,rfl,rfl,rfl⟩:=Ez.mp ed.symm;rw[Ax]at l1 l2 hm;have gk:=gok g A2;dsimp only[jak,Av];refine jal (show sSet 6 _ _ _ _ from c1_i (jad rfl (Am rfl ⟨by omega,λv hv=>?_⟩)));dsimp only[Av];have vk:=jk3 hv;have fin:∀(hp':Nm) (w:Ae) (K:DEnds),(∀δ n,N δ n->K.nx δ n)->(∀p∈hp',okV p)->hp'.length<=hp.length+1->isV w=true->sApp 4 (wVar 6) [some (.w .tp),some (.w (.d (.tuple (fs.map Fd.d)))),some (.w (.d (jba nm))),some (.odk (txK hp')),some (.own row),some (.w (.d g.d)),some (.w (.d w))] (m+1) K:=λhp' w K hK a1 a2 a3=>by
   refine jvo rfl (λQ q=>jad rfl q) (by omega) (hK _ _ (kN _ _ ⟨gs,hp',row++[w],_,_,rfl,rfl,λf hf=>gok f (As _ hf),a1,by omega,by rw[An,A5];omega,λd hd=>?_,by omega⟩));rcases A7.mp hd with z | z
   ·exact hrow d z
   ·rw[Be.mp z];exact a3
  have named:∀(s x:Str) (K:DEnds),(∀δ n,N δ n->K.nx δ n)->g.d=.tuple [.str s,.str x]->okX x->sSeq (sSet 6 (jm7 (jcy 3) (w2 (wVar 5) (wC (.int 1)) gIx) (wVar 6))) (jno 3 (w2 (wVar 5) (wC (.int 1)) gIx) (wVar 6)) [some (.w .tp),some (.w (.d (.tuple (fs.map Fd.d)))),some (.w (.d (jba nm))),some (.odk (txK hp)),some (.own row),some (.w (.d g.d)),some (.w (.d v))] (m+1) {K with nx:=λδ n=>sApp 4 (wVar 6) δ n K}:=λs x K hK eg hx=>by
   have fin':=fin (put hp x ((look hp x).getD v)) ((look hp x).getD v) K hK (jnr hok hx (jzr hok vk)) (jl0 _ _ _) (jzr hok vk);rw[eg]at fin' ⊢;refine jal (ja2 (x:=(look hp x).getD v) (λQ q=>j19 (a:=.str s) (x:=x) (r:=[]) rfl rfl rfl q) ?_);dsimp only[Av];exact j6e (a:=.str s) (x:=x) (r:=[]) rfl rfl rfl (by omega) fin'
  cases g with
  |any =>
   refine jal (jmd (a:=.str "any") (r:=[]) rfl juu (if_n (λQ q=>jn6 (s:="any") (r:=[]) rfl (by decide +kernel) q) (if_n (λQ q=>jn6 (s:="any") (r:=[]) rfl (by decide +kernel) q) ?_)));exact fin hp v _ (λ_ _ z=>z) hok (by omega) vk
  |is w =>
   refine jal (j1y (a:=.str "is") (r:=[w]) rfl jxr (ja2 (x:=w) (λQ q=>jee (a:=.str "is") (b:=w) (r:=[]) rfl q) ?_));exact fin hp w _ (λ_ _ z=>z) hok (by omega) gk
  |word =>
   refine jal (jmd (a:=.str "word") (r:=[]) rfl jrw (if_y (λQ q=>jn6 (s:="word") (r:=[]) rfl (by decide +kernel) q) (ja2 (x:=.str "ab") (λQ q=>j20 (s:="word") (r:=[]) rfl jv7 q) ?_)));exact fin hp (.str "ab") _ (λ_ _ z=>z) hok (by omega) (by decide +kernel)
  |number =>
   refine jal (jmd (a:=.str "number") (r:=[]) rfl jn7 (if_y (λQ q=>jn6 (s:="number") (r:=[]) rfl (by decide +kernel) q) (ja2 (x:=.int 99) (λQ q=>j20 (s:="number") (r:=[]) rfl jri q) ?_)));exact fin hp (.int 99) _ (λ_ _ z=>z) hok (by omega) (by decide +kernel)
  |as x =>
   refine jal (jmd (a:=.str "as") (r:=[.str x]) rfl jxs (if_n (λQ q=>jn6 (s:="as") (r:=[.str x]) rfl (by decide +kernel) q) (if_y (λQ q=>jn6 (s:="as") (r:=[.str x]) rfl (by decide +kernel) q) ?_)));exact named "as" x _ (λ_ _ z=>z) rfl gk
  |bind x =>
   refine jal (jmd (a:=.str "bind") (r:=[.str x]) rfl jrx (if_n (λQ q=>jn6 (s:="bind") (r:=[.str x]) rfl (by decide +kernel) q) (if_y (λQ q=>jn6 (s:="bind") (r:=[.str x]) rfl (by decide +kernel) q) ?_)));exact named "bind" x _ (λ_ _ z=>z) rfl gk
theorem jkh:∀ws n Q,jj2 ws n Q->ws.length=3:=λws n Q h=>by obtain⟨_,_,_,rfl,_⟩:=h;rfl
abbrev zqt:List Str:=["_law_tape_here","_law_programs","_law_stand_here","_law_notes_here","_law_hand","_law_act_here","_law_note"]
theorem jjr:∀ws n Q,jj2 ws n Q->je6 (jaz zqt ws) n {nx:=λ_ n=>Q (.d .none) n,rt:=Q}:=λws n0 Q h=>by
 obtain⟨ps,hs,ns,rfl,okp,okh,okn,hn0,k⟩:=h;show je6 [some (.w .tp),some (.w (.d (pgD ps))),some (.w (.d (stD hs ns))),none,none,none,none] n0 _;refine jal (show sOwn 3 (jd2 _) _ _ _ from w2_i (jad rfl (c_i (g1_i ?_))));dsimp only[nsD,Av];refine jal ?_;unfold sFor ja1;refine b1_i (jad rfl ?_);refine Am ⟨by omega,by rw[Ab];have:=okp.1;omega⟩ ?_;rw[Bp,Ab];refine jbh (λds δ m=>∃(j l:Nat) (ns':List Nt) (x y z:Option SV),ds=rngD (j:Nat) l/\j+l=ps.length/\δ=[some (.w .tp),some (.w (.d (pgD ps))),some (.w (.d (stD hs ns))),some (.own (ns'.map ntD)),x,y,z]/\ns'.length+l<=11/\(∀q∈ns',okQ q)/\m+8*(l:Int)<=n0+50)
  (λδ m I=>?_) (λd r δ m N I kN=>?_) _ _ _ ⟨0,ps.length,ns,none,none,none,rfl,by omega,rfl,by have:=okn.1;have:=okp.1;omega,okn.2,by have:=okp.1;omega⟩
 ·obtain⟨j,l,ns',x,y,z,ed,hj,rfl,hl,hr,hm⟩:=I;have:l=0:=by
   cases l with
   |zero=>rfl
   |succ l=>rw[jlx]at ed;cases ed
  subst this;dsimp only;refine jh9 rfl ?_;dsimp only[Av];exact jbi (jci (jds rfl (b1_i (jad rfl (Am (show 2<=1000 by decide) (k ns' m ⟨by omega,hr⟩ (by omega)))))))
 ·obtain⟨j,l,ns',x,y,z,ed,hj,rfl,hl,hr,hm⟩:=I;cases l with
  |zero=>cases ed
  |succ l =>
   rw[jlx]at ed;obtain⟨rfl,rfl⟩:=Fv ed;have hjl:j < ps.length:=by omega
   obtain⟨P,xb,xp,nm,w,as,H⟩:=jct okh hjl;dsimp only[jak,Av];refine jal (ja2 (λQ q=>jw8 (i:=1) (j:=2) (l:=4) rfl rfl rfl okh hjl q) ?_);dsimp only[Av];have nxt:∀(ns'':List Nt) (y z:Option SV) (n':Int),ns''.length<=ns'.length+1->(∀q∈ns'',okQ q)->n'<=m+8->N [some (.w .tp),some (.w (.d (pgD ps))),some (.w (.d (stD hs ns))),some (.own (ns''.map ntD)),some (.w (.d (.int j))),y,z] n':=λns'' y z n' a1 a2 a3 =>
    kN _ _ ⟨j+1,l,ns'',_,_,_,by rw[show((j+1:Nat):Int)=(j:Int)+1 from rfl],by omega,rfl,by omega,a2,by omega⟩
   cases ea:actO ps hs j with
   |none=>exact if_n (λQ q=>jeb (λQ q=>ct_b (k:=false) (λQ q=>w2_i (jad rfl (c_i (jcn q)))) q) q) (nxt ns' _ _ m (by omega) hr (by omega))
   |some a =>
    have oa:=H.ok okp ea;show sIf _ _ _ [some (.w .tp),some (.w (.d (pgD ps))),some (.w (.d (stD hs ns))),some (.own (ns'.map ntD)),some (.w (.d (.int j))),some (.w (.d a.d)),z] m _;cases ef:a.pf with
    |none =>
     obtain⟨_,s,r,e,h1,_⟩:=j2r ef;rw[e];exact if_n (λQ q=>jdt (λQ q=>ct_b (k:=true) (λQ q=>w2_i (jad rfl (c_i (jcn q)))) q) (jeb (λQ q=>jxp rfl h1 q) q)) (nxt ns' _ _ m (by omega) hr (by omega))
    |some fs =>
     obtain⟨of,s,r,e,h1,_⟩:=jrd ef oa;rw[e];refine if_i (jdt (λQ q=>ct_b (k:=true) (λQ q=>w2_i (jad rfl (c_i (jcn q)))) q) (jdt (λQ q=>jxp rfl h1 q) ?_));refine w2_i (jev (m:=3) rfl (by omega) (by decide) (by decide) λt t0 t1=>c_i ?_);show if decide (0 < t)=true then _ else _
     refine jzy (λ_=>?_) (λ_=>nxt ns' _ _ _ (by omega) hr (by omega));refine jal (show sSet 6 _ _ _ _ from jci (c3_i (jad rfl (jee rfl ?_))));refine w2_i (w2_i (w2_i (jad rfl (c_i (g0_i (jad rfl (gN_i H.hD (c_i (g2_i ?_)))))))));refine⟨fs,nm,rfl,of,H.nms,by omega,λrow n' hrow hn'=>j2j rfl (by omega) λv hv=>Am (show 2<=1000 by decide) ?_⟩;dsimp only[Av];unfold sIns;refine(show(match some (some (SV.own (ns'.map ntD)))with | some (some (.own ds))=>_ | _=>False)from ?_);refine jft (m:=((ns'.map ntD).length:Int)+1) rfl (λQ q=>w2_i (jxl rfl (c_i (addI q)))) (by omega) (by omega) (by rw[Ab];omega) λt t0 t1=>?_;refine jad rfl ⟨⟨t0,by omega,by rw[Ab];omega⟩,?_⟩;dsimp only[Av];have en:(ns'.map ntD).take t.toNat++PyData.tuple [.tuple row,v]::(ns'.map ntD).drop t.toNat=(ns'.take t.toNat++(row,v)::ns'.drop t.toNat).map ntD:=by
      rw[Bm,Bo,List.map_take,List.map_drop];rfl
     rw[en];refine nxt _ _ _ _ ?_ (λq hq=>?_) (by omega)
     ·rw[An,Ax,Ct,Cc];omega
     ·rcases A7.mp hq with hq | hq
      ·exact hr q (Ey hq)
      ·rcases Ao.mp hq with rfl | hq
       ·exact⟨hrow,jvp hv⟩
       ·exact hr q (List.mem_of_mem_drop hq)
def Sm (k w:Nat) (d:Ae):Prop:=Cj d=true/\Dy d<=k/\Fy d<=w/\Ex 13 d=true/\Fh d=true
theorem jtb {k w:Nat}:∀ds:List Ae,(∀d∈ds,Sm k w d)->PyData.canLayAll0 ds=true/\PyData.depthAll ds<=k/\PyData.weightAll ds<=(w+1)*ds.length/\PyData.intsShortAll 13 ds=true/\PyData.showableAll ds=true
 |[],_=>⟨rfl,Bj _,Bj _,rfl,rfl⟩
 |d::r,h=>by
  obtain⟨a1,a2,a3,a4,a5⟩:=jtb r λx hx=>h x (As _ hx);obtain⟨b1,b2,b3,b4,b5⟩:=h d A2;refine⟨?_,?_,?_,?_,?_⟩
  ·rw[PyData.canLayAll0,a1,b1];rfl
  ·rw[PyData.depthAll];omega
  ·rw[PyData.weightAll,Ax,Nat.mul_succ];omega
  ·rw[PyData.intsShortAll,a4,b4];rfl
  ·rw[PyData.showableAll,a5,b5];rfl
theorem jin {k w m:Nat} {ds:List Ae} (h:∀d∈ds,Sm k w d) (hl:ds.length<=m):Sm (k+1) ((w+1)*m) (.tuple ds):=by
 obtain⟨a1,a2,a3,a4,a5⟩:=jtb ds h;have:=Nat.mul_le_mul_left (w+1) hl;refine⟨by rw[Cj];exact a1,by rw[Dy];omega,by rw[Fy];omega,by rw[Ex];exact a4,by rw[Fh];exact a5⟩
theorem jy5 {k w m:Nat} {ds:List Ae} (h:∀d∈ds,Sm k w d) (hl:ds.length<=m):Sm (k+1) ((w+1)*m) (.list ds):=by
 obtain⟨a1,a2,a3,a4,a5⟩:=jtb ds h;have:=Nat.mul_le_mul_left (w+1) hl;refine⟨by rw[Cj];exact a1,by rw[Dy];omega,by rw[Fy];omega,by rw[Ex];exact a4,by rw[Fh];exact a5⟩
theorem Sm.up {k w k' w':Nat} {d:Ae} (h:Sm k w d) (hk:k<=k') (hw:w<=w'):Sm k' w' d:=⟨h.1,Ba h.2.1 hk,Ba h.2.2.1 hw,h.2.2.2⟩
theorem jfm {d:Ae} (h:isV d=true):Sm 0 20 d:=by
 cases d with
 |str x =>
  have h:(decide (x.length<=8)&&PyData.strOk x)=true:=h;rw[Cn]at h;have h1:x.cps.size<=8:=of_decide_eq_true h.1;refine⟨?_,by rw[Dy];exact Al _,?_,by rw[Ex],by rw[Fh]⟩
  ·rw[Cj];exact h.2
  ·rw[Fy];omega
 |int i =>
  simp only[isV,Cn,decide_eq_true_eq]at h;exact⟨by rw[Cj],by rw[Dy];exact Al _,h.2.2.1,h.2.2.2.1,h.2.2.2.2⟩
 |_=>cases h
theorem j3f {x:Str} (h:okX x):Sm 0 20 (.str x):=jfm (by show(decide (x.length<=8)&&PyData.strOk x)=true;rw[decide_eq_true (Ba h.1 (by decide)),h.2];rfl)
theorem jy4 {a b:Ae} {k w:Nat} (ha:Sm k w a) (hb:Sm k w b):Sm (k+1) ((w+1)*2) (.tuple [a,b]):=jin (λd hd=>by
 simp only[Ao,Aw,or_false]at hd;rcases hd with rfl | rfl
 ·exact ha
 ·exact hb) (Al _)
theorem jwi {nm:Nm} (h:∀p∈nm,okV p) (hl:nm.length<=40):Sm 2 1720 (jba nm):=(jin (k:=1) (w:=42) (m:=40) (ds:=nm.map jiv) (λd hd=>by
 obtain⟨p,hp,rfl⟩:=Bq.mp hd;exact jy4 (j3f (h p hp).1) (jfm (h p hp).2)) (by rw[Ab];exact hl)).up (Al _) (by decide)
theorem j3i {d:Ae} (h:jiy d):Sm 0 20 d:=by
 rcases h with rfl | ⟨i,rfl,h0,h1⟩
 ·exact⟨rfl,Al _,by decide,rfl,rfl⟩
 ·exact jfm (V_of (by omega) (by omega))
theorem j0v {h:Hn} (h1:h.1<=99) (h2:h.2.1<=99) (ho:∀p∈h.2.2,okV p) (hl:h.2.2.length<=40):Sm 3 5163 (hnD h):=jin (k:=2) (w:=1720) (m:=3) (λd hd=>by
 simp only[Ao,Aw,or_false]at hd;rcases hd with rfl | rfl | rfl
 ·exact(jfm (V_of (by omega) (by omega))).up (by decide) (by decide)
 ·exact(jfm (V_of (by omega) (by omega))).up (by decide) (by decide)
 ·exact jwi ho hl) (Al _)
theorem j0u {q:Nt} (h:okQ q):Sm 2 170 (ntD q):=jy4 ((jin (k:=0) (w:=20) (m:=4) (λd hd=>jfm (h.1.2 d hd)) h.1.1)) ((j3i h.2).up (by decide) (by decide))
theorem jy8 {hs:List Hn} {h:Nat} {x:Hn} (hh:h < hs.length):setH hs h x=hs.set h x:=by
 rw[List.set_eq_take_append_cons_drop,if_pos hh];rfl
theorem okHs.put {ps:Pg} {hs:List Hn} {h:Nat} {x:Hn} {P:List Bl} {b:Bl} (ok:okHs ps hs) (hP:ps[h]?=some P) (hb:P[x.1]?=some b) (hx:okHn b x):okHs ps (setH hs h x):=by
 have hh:h < hs.length:=by rw[ok.1];exact(Ay.mp hP).1
 rw[jy8 hh];refine⟨by rw[C4];exact ok.1,λi P' hi=>?_⟩;by_cases e:h=i
 ·subst e;rw[hP]at hi;cases hi;exact⟨x,b,List.getElem?_set_self hh,hb,hx⟩
 ·obtain⟨h',b',e1,e2,e3⟩:=ok.2 i P' hi;exact⟨h',b',by rw[Cf e];exact e1,e2,e3⟩
theorem jui {w:List Str} {as:List Ac} {p:Nat} {a:Ac} (h:as[p]?=some a):kn w as (p+1)=kn w as p++a.bs:=by
 unfold kn;rw[List.take_add_one,h,Gp,Bw];simp
theorem jo6:∀(l:List (Fd×Ae)) (h:Nm) (hs:List Str) (k:Nm),(∀x∈hs,x∈h.map (·.1))->wk l h hs=some k->∀x,x∈k.map (·.1)↔x∈h.map (·.1)\/∃p∈l,p.1=.bind x
 |[],h,hs,k,_,e,x=>by cases e;simp
 | (f,v)::r,h,hs,k,hh,e,x=>by
  have same:wk r h hs=some k->(∀y,f=.bind y->y∈h.map (·.1))->(x∈k.map (·.1)↔x∈h.map (·.1)\/∃p∈(f,v)::r,p.1=.bind x):=λe nb=>by
   rw[jo6 r h hs k hh e x]
   constructor
   ·rintro(q | ⟨p,hp,q⟩)
    ·exact .inl q
    ·exact .inr ⟨p,As _ hp,q⟩
   ·rintro(q | ⟨p,hp,q⟩)
    ·exact .inl q
    ·rcases Ao.mp hp with rfl | hp
     ·exact .inl (nb x q)
     ·exact .inr ⟨p,hp,q⟩
  cases f with
  |is w=>unfold wk at e;split at e;exact same e (λy z=>by cases z);cases e
  |any=>unfold wk at e;exact same e (λy z=>by cases z)
  |word=>unfold wk at e;split at e;exact same e (λy z=>by cases z);cases e
  |number=>unfold wk at e;split at e;exact same e (λy z=>by cases z);cases e
  |as y =>
   unfold wk at e
   split at e
   ·split at e
    ·exact same e (λy z=>by cases z)
    ·cases e
   ·cases e
  |bind y =>
   unfold wk at e
   split at e
   ·rename_i hy
    split at e
    ·split at e
     ·exact same e (λz q=>by cases q;exact hh y hy)
     ·cases e
    ·cases e
   ·have pk:∀z,z∈(put h y v).map (·.1)↔z∈h.map (·.1)\/z=y:=λz=>by
     rw[jqj]
     split
     ·rename_i q;obtain⟨p,hp,q⟩:=Dg.mp q;have hy:y∈h.map (·.1):=Bq.mpr ⟨p,hp,of_decide_eq_true q⟩;exact⟨.inl,λq=>q.elim id λq=>q▸hy⟩
     ·rw[A7,Be]
    rw[jo6 r (put h y v) (hs++[y]) k (λz hz=>(pk z).mpr ((A7.mp hz).elim (λq=>.inl (hh z q)) λq=>.inr (Be.mp q))) e x,pk x]
    constructor
    ·rintro((q | rfl) | ⟨p,hp,q⟩)
     ·exact .inl q
     ·exact .inr ⟨_,A2,rfl⟩
     ·exact .inr ⟨p,As _ hp,q⟩
    ·rintro(q | ⟨p,hp,q⟩)
     ·exact .inl (.inl q)
     ·rcases Ao.mp hp with rfl | hp
      ·cases q;exact .inl (.inr rfl)
      ·exact .inr ⟨p,hp,q⟩
theorem jyk {gs:List Fe} {row:List Ae} (hp:∀f∈gs,f.pt=true) (hl:(gs.map Fe.fd).length=row.length) (x:Str):(∃p∈(gs.map Fe.fd).zip row,p.1=.bind x)↔x∈bndE gs:=by
 unfold bndE;rw[Gt]
 constructor
 ·rintro⟨⟨a,b⟩,hp',e⟩
  obtain⟨f,hf,e'⟩:=Bq.mp (Fk hp').1;refine⟨f,hf,?_⟩;have e:a=.bind x:=e;rw[e]at e';cases f<;>first | (cases e';rfl) | cases e'
 ·rintro⟨f,hf,e⟩
  have ef:f=.bind x:=by cases f<;>first | (cases e;rfl) | cases e
  subst ef;obtain⟨i,hi⟩:=Cb.mp hf;have hil:=(Ay.mp hi).1;rw[Ab]at hl;refine⟨(.bind x,row[i]'(by omega)),Cb.mpr ⟨i,?_⟩,rfl⟩;rw[List.getElem?_zip_eq_some];exact⟨by rw[A0,hi];rfl,Ag (by omega)⟩
theorem jyo {d:Ae} (h:jiy d) (h1:isI1 d=false):jiy (ageO d):=by
 rcases h with rfl | ⟨i,rfl,h0,h2⟩
 ·exact .inl rfl
 ·have:¬i=1:=by simpa[isI1]using h1
  exact .inr ⟨i - 1,rfl,by omega,by omega⟩
theorem jz1 {m:Nat} {ns:List Nt} (h:okNs m ns):okNs m (clkO ns):=by
 unfold clkO;refine⟨by rw[Ab];exact Ba (Ga _ _) h.1,λq hq=>?_⟩;obtain⟨p,hp,rfl⟩:=Bq.mp hq;obtain⟨h1,h2⟩:=Cm.mp hp;exact⟨(h.2 p h1).1,jyo (h.2 p h1).2 (by simpa using h2)⟩
theorem jqv {ps:Pg} {hs:List Hn} {ns:List Nt} {m M:Nat} {r:List Hn×List Nt} (okp:okPg ps) (okh:okHs ps hs) (okn:okNs M ns) (hm:m<=ps.length) (e:aftO ps hs ns m=some r):okHs ps r.1/\okNs (M+1) r.2:=by
 unfold aftO at e;by_cases em:m=ps.length
 ·rw[if_pos em]at e;cases e;have:=jz1 okn;exact⟨okh,Nat.le_succ_of_le this.1,this.2⟩
 rw[if_neg em]at e;have hh:m < ps.length:=by omega
 obtain⟨P,xb,xp,nm,w,as,H⟩:=jct okh hh;cases ea:actO ps hs m with
 |none =>
  unfold movO at e;rw[H.prog,H.hand,ea]at e;cases e
 |some a =>
 rw[ji2 H ea]at e;have oa:=H.ok okp ea;have ea':=ea;rw[H.act]at ea';have hxp:xp < as.length:=(Ay.mp ea').1;have okn':okNs (M+1) ns:=⟨Nat.le_succ_of_le okn.1,okn.2⟩;have on:a.bs=[]->okHs ps (setH hs m (goOn (xb,xp,nm) nm)):=λhb=>okh.put H.prog (x:=goOn (xb,xp,nm) nm) H.blk ⟨hxp,H.hn.nd,H.hn.ok,H.hn.up,λk=>by
  show k∈nm.map (·.1)↔k∈kn w as (xp+1);rw[jui ea',hb,B9];exact H.hn.mem k,H.hn.ln⟩
 have to:∀b,a.to=some b->okHs ps (setH hs m (goTo P b nm)):=λb hb=>by
  obtain⟨bl,hbl,obl,sub⟩:=H.to okp ea hb;have ew:wtO P b=bl.1:=by unfold wtO;rw[hbl];rfl
  refine okh.put H.prog (x:=goTo P b nm) hbl ?_;have en:(goTo P b nm).2.2=bl.1.map λk=>(k,lkO nm k):=by
   unfold goTo;rw[ew];exact j56 H.hn.nd H.hn.up obl.2.2.2.2.1 obl.2.2.2.2.2 sub
  have ek:(goTo P b nm).2.2.map (·.1)=bl.1:=by rw[en,El];exact List.map_id' _
  have sl:(goTo P b nm).2.2.Sublist nm:=List.filter_sublist;refine⟨Bj _,by rw[ek];exact obl.2.2.2.2.1,λp hp=>H.hn.ok p (sl.subset hp),List.Pairwise.sublist sl H.hn.up,λk=>by rw[ek];unfold kn;show _↔k∈bl.1++(bl.2.take 0).flatMap Ac.bs;simp,Ba sl.length_le H.hn.ln⟩
 have get:∀(gs:List Fe) (i:Nat),a.pf=some (gs.map Fe.fd)->a.bs=bndE gs->okFs gs->patO gs->fstO (gs.map Fe.fd) nm ns=some i->okHs ps (setH hs m (goOn (xb,xp,nm) (srtN (wkN (gs.map Fe.fd) (rowO ns i) nm)))):=λgs i hpf hbs hof hpat ei=>by
  obtain⟨⟨row,age⟩,hq,hf⟩:=jpt ei;have er:rowO ns i=row:=by unfold rowO;rw[hq];rfl
  rw[er];have oq:=okn.2 _ (A6 hq);obtain⟨ep,op⟩:=jof hof hpat;obtain⟨nd,ew⟩:=j2v H.hn.nd hf;obtain⟨wo,_⟩:=jvy _ _ _ _ (j2t op oq.1) H.hn.ok ew;have hlen:(gs.map Fe.fd).length=row.length:=by
   unfold fitB at hf;rw[Cn]at hf;exact of_decide_eq_true hf.1
  have pm:=jqc (wkN (gs.map Fe.fd) row nm);have pk:((srtN (wkN (gs.map Fe.fd) row nm)).map (·.1)).Perm ((wkN (gs.map Fe.fd) row nm).map (·.1)):=pm.map _;have hmem:∀k,k∈(srtN (wkN (gs.map Fe.fd) row nm)).map (·.1)↔k∈kn w as (xp+1):=λk=>by
   rw[pk.mem_iff,jo6 _ _ _ _ (λx hx=>by simp at hx) ew k,jyk hpat.2 hlen,jui ea',A7,hbs];exact or_congr (H.hn.mem k) Iff.rfl
  have nd':=pk.nodup_iff.mpr nd;refine okh.put H.prog (x:=goOn (xb,xp,nm) _) H.blk ⟨hxp,nd',λp hp=>wo p (pm.mem_iff.mp hp),jy1 _,hmem,?_⟩;have:=jiz nd' (ks:=kn w as (xp+1)) λk hk=>(hmem k).mp hk;rw[Ab]at this;have h36:=jzs (H.okb okp).1 (xp+1);exact Ba this (Ba h36 (by decide))
 cases a with
 |lay fs age =>
  cases e;obtain⟨hl4,hfv⟩:=H.lay okp ea;refine⟨on rfl,by rw[An,A5];have:=okn.1;omega,λq hq=>?_⟩;rcases A7.mp hq with hq | hq
  ·exact okn.2 q hq
  ·rw[Be.mp hq];exact⟨⟨by show(filO fs nm).length<=4;unfold filO;rw[Ab];exact hl4,λd hd=>by
    obtain⟨f,hf,rfl⟩:=Bq.mp hd;exact fv_V (hfv f hf)⟩,oa.2.2⟩
 |go b=>cases e;exact⟨to b rfl,okn'⟩
 |same f g b =>
  cases e;refine⟨?_,okn'⟩;show okHs ps (setH hs m (if eqB (fvO nm f) (fvO nm g)=true then goOn (xb,xp,nm) nm else goTo P b nm))
  split
  ·exact on rfl
  ·exact to b rfl
 |take gs =>
  have e:(((getO gs (xb,xp,nm) ns).map λq=>(q.2,outO ns q.1)).map λr=>(setH hs m r.1,r.2))=some r:=e;cases ei:fstO (gs.map Fe.fd) nm ns with
  |none=>rw[jde ei]at e;cases e
  |some i =>
   rw[jcw ei]at e;cases e;refine⟨get gs i rfl rfl oa.1 oa.2 ei,?_,λq hq=>?_⟩
   ·show(outO ns i).length<=_;unfold outO;rw[An,Ct,Cc];have:=okn.1;omega
   ·rcases A7.mp hq with hq | hq
    ·exact okn.2 q (Ey hq)
    ·exact okn.2 q (List.mem_of_mem_drop hq)
 |read gs =>
  have e:(((getO gs (xb,xp,nm) ns).map λq=>(q.2,ns)).map λr=>(setH hs m r.1,r.2))=some r:=e;cases ei:fstO (gs.map Fe.fd) nm ns with
  |none=>rw[jde ei]at e;cases e
  |some i =>
   rw[jcw ei]at e;cases e;exact⟨get gs i rfl rfl oa.1 oa.2 ei,okn'⟩
 |look gs b =>
  have e:((match getO gs (xb,xp,nm) ns with | some q=>some (q.2,ns) | none=>some (goTo P b nm,ns):Option (Hn×List Nt)).map λr=>(setH hs m r.1,r.2))=some r:=e;cases ei:fstO (gs.map Fe.fd) nm ns with
  |none =>
   rw[jde ei]at e;cases e;exact⟨to b rfl,okn'⟩
  |some i =>
   rw[jcw ei]at e;cases e;exact⟨get gs i rfl rfl oa.1 oa.2 ei,okn'⟩
theorem j2i {ps:Pg} {hs:List Hn} {ns:List Nt} {m:Nat} (okh:okHs ps hs) (hh:m < ps.length) (h:canB ps hs ns m=true):∃r,aftO ps hs ns m=some r:=by
 obtain⟨P,xb,xp,nm,w,as,H⟩:=jct okh hh;unfold aftO;rw[if_neg (by omega)];cases ea:actO ps hs m with
 |none=>unfold canB at h;rw[ea]at h;cases h
 |some a =>
 rw[jrb ea]at h;rw[ji2 H ea];have eg:∀gs:List Fe,a.pf=some (gs.map Fe.fd)->gotO ps hs ns m=fstO (gs.map Fe.fd) nm ns:=λgs hpf=>by
  unfold gotO;rw[ea,H.nmq];show(a.pf.bind _)=_;rw[hpf];rfl
 have gt:∀gs:List Fe,(gotO ps hs ns m).isSome=true->a.pf=some (gs.map Fe.fd)->∃q,getO gs (xb,xp,nm) ns=some q:=λgs h1 h2=>by
  rw[eg gs h2]at h1;obtain⟨i,hi⟩:=D0.mp h1;exact⟨_,jcw hi⟩
 cases a with
 |lay fs age=>exact⟨_,rfl⟩
 |go b=>exact⟨_,rfl⟩
 |same f g b=>exact⟨_,rfl⟩
 |take gs =>
  obtain⟨q,hq⟩:=gt gs h rfl;show ∃r,(((getO gs (xb,xp,nm) ns).map λq=>(q.2,outO ns q.1)).map λr=>(setH hs m r.1,r.2))=some r;rw[hq];exact⟨_,rfl⟩
 |read gs =>
  obtain⟨q,hq⟩:=gt gs h rfl;show ∃r,(((getO gs (xb,xp,nm) ns).map λq=>(q.2,ns)).map λr=>(setH hs m r.1,r.2))=some r;rw[hq];exact⟨_,rfl⟩
 |look gs b =>
  show ∃r,((match getO gs (xb,xp,nm) ns with | some q=>some (q.2,ns) | none=>some (goTo P b nm,ns):Option (Hn×List Nt)).map λr=>(setH hs m r.1,r.2))=some r;cases getO gs (xb,xp,nm) ns with
  |none=>exact⟨_,rfl⟩
  |some q=>exact⟨_,rfl⟩
theorem cN2 {δ:Sl} {n:Int} {S:DSpN} {w w':DT} {Q:List Ae->Int->Prop} (k:w δ n λx n1=>w' δ n1 λy n2=>S [x,y] n2 Q):jgi S (jab w (jab w' aNil)) δ n Q:=k
theorem juq (h:Nat):∀l:List Nat,inD (.int h) (l.map λj=>Ef (j:Nat))=decide (h∈l)
 |[]=>rfl
 |a::l=>by
  show(eqF (.int (a:Nat)) (.int h) || inD (.int h) (l.map λj=>Ef (j:Nat)))=_;rw[juq h l];have e:eqF (.int ((a:Nat):Int)) (.int ((h:Nat):Int))=decide (h=a):=by
   show decide (((a:Nat):Int)=((h:Nat):Int))=_;by_cases z:h=a
   ·rw[decide_eq_true z,decide_eq_true (by omega)]
   ·rw[decide_eq_false z,decide_eq_false (by omega)]
  rw[e];by_cases z:h=a
  ·subst z;simp
  ·rw[decide_eq_false z,Bool.false_or];by_cases y:h∈l
   ·rw[decide_eq_true y,decide_eq_true (As _ y)]
   ·rw[decide_eq_false y,decide_eq_false λq=>(Ao.mp q).elim z y]
theorem jzt {ps:Pg} {hs:List Hn} {ns:List Nt} {h:Nat} (hh:h < ps.length):inD (.int h) (rdyL ps hs ns)=canB ps hs ns h:=by
 unfold rdyL;rw[juq];cases e:canB ps hs ns h with
 |true=>exact decide_eq_true (Cm.mpr ⟨Ck.mpr hh,e⟩)
 |false=>exact decide_eq_false λq=>by have:=(Cm.mp q).2;rw[e]at this;cases this
theorem j2e (xs:List Ae) (p:Nat):cutD xs none (some (p:Int))=xs.take p:=by
 unfold cutD;rw[HT.sIx_nat,HT.sIx_none,List.drop_zero,Nat.sub_zero];by_cases h:p<=xs.length
 ·rw[Nat.min_eq_left h]
 ·rw[Nat.min_eq_right (by omega),Ej (Al _),Ej (by omega)]
theorem jzv {δ:Sl} {n:Int} {K:DEnds} {W:DST} {g:DTG} {j:Int} (m:Nat) (ej:j=m) (hm:m<=1000) (k:forD g W K (rngD 0 m) δ n):sFor (ja1 (wC (.int j))) g W δ n K:=by
 subst ej;exact⟨⟨by omega,by omega⟩,by rw[Bp];exact k⟩
theorem jzu {ps:Pg} {hs:List Hn} {ns:List Nt}:(rdyL ps hs ns).all jeu=true:=by
 unfold rdyL;rw[List.all_map];exact E4.mpr λ_ _=>rfl
section
variable {δ:Sl} {n:Int} {Q:DQ}
theorem j6n {ps:Pg} {hs:List Hn} {ns:List Nt} {m:Nat} (hm:m < ps.length) (k:Q (.d (.bool (canB ps hs ns m))) n):gIn false (.d (.int m)) (.d (.list (rdyL ps hs ns))) n Q:=by
 refine⟨rfl,jzu,?_⟩;show Q (.d (.bool (inD (.int m) (rdyL ps hs ns)))) n;rw[jzt hm];exact k
theorem jpd {ps:Pg} {hs:List Hn} {ns:List Nt} (ok:okSt ps hs ns) (i j:Nat) (e0:δ[i]?=some (some (.w (.d (pgD ps))))) (e1:δ[j]?=some (some (.w (.d (stD hs ns))))) (q:Q (.d (.list (rdyL ps hs ns))) n):wOf (jgi jc7 (jab (wVar i) (jab (wVar j) aNil))) δ n Q :=
 of_i (cN2 (jad e0 (jad e1 ⟨ps,hs,ns,rfl,ok,q⟩)))
theorem drw {w:DT} {m:Int} (e1:δ[1]?=some (some (.w .tp))) (hw:∀Q:DQ,Q (.d (.int m)) n->w δ n Q) (h:n < 2 ^ 40) (h0:0 < m) (h1:m < 1073741824) (k:∀r:Int,0<=r->r < m->Q (.d (.int r)) (n+1)):jam jav (jab (wVar 1) (jab w aNil)) δ n Q :=
 c2_i (jad e1 (hw _ (jq5 h h0 h1 k)))
end
theorem j5w (xs:List Ae):cutD xs none (some (-1))=xs.take (xs.length - 1):=by
 have e:HT.sIx xs.length xs.length (some (-1))=xs.length - 1:=by
  show(if (-1:Int) < 0 then((-1:Int)+(xs.length:Int)).toNat else min (-1:Int).toNat xs.length)=_;rw[if_pos (by decide)];omega
 unfold cutD;rw[HT.sIx_none,List.drop_zero,Nat.sub_zero,e]
theorem jx9 (xs:List Ae) (p:Nat):cutD xs (some (p:Int)) none=xs.drop p:=by
 unfold cutD;rw[HT.sIx_nat,HT.sIx_none];by_cases h:p<=xs.length
 ·rw[Nat.min_eq_left h,Ej (by rw[Cc];exact Al _)]
 ·rw[Nat.min_eq_right (by omega),Nat.sub_self,List.take_zero,List.drop_of_length_le (by omega)]
mutual
theorem jmn:∀d:Ae,Cj d=true->Bd d d=true
 |.none,_=>by simp[Bd]
 |.bool b,_=>by simp[Bd]
 |.int i,_=>by simp[Bd]
 |.str x,_=>by simp[Bd]
 |.list xs,h=>by rw[Bd];exact jf1 xs (by rwa [Cj]at h)
 |.tuple xs,h=>by rw[Bd];exact jf1 xs (by rwa [Cj]at h)
 |.dict m,h=>by simp[Cj]at h
theorem jf1:∀ds:List Ae,PyData.canLayAll0 ds=true->Fz ds ds=true
 |[],_=>by simp[Fz]
 |d::r,h=>by
  rw[PyData.canLayAll0,Cn]at h;rw[Fz,jmn d h.1,jf1 r h.2];rfl
end
section
variable {δ:Sl} {n:Int} {Q:DQ}
theorem jvx {d:Ae} {k w:Nat} (h:Sm k w d) (hk:k<=20) (q:Q (.d (.bool true)) n):gXX (λd e=>some (Bd d e)) (.d d) (.d d) n Q :=
 ⟨h.1,h.1,Ba h.2.1 hk,Ba h.2.1 hk,true,by show some (Bd d d)=_;rw[jmn d h.1],q⟩
theorem jvw {d:Ae} {k w:Nat} (h:Sm k w d) (hk:k<=20) (q:Q (.d (.bool false)) n):gXX (λd e=>some (!Bd d e)) (.d d) (.d d) n Q :=
 ⟨h.1,h.1,Ba h.2.1 hk,Ba h.2.1 hk,false,by show some (!Bd d d)=_;rw[jmn d h.1];rfl,q⟩
theorem juw {s h:Str} {r:List Ae} {b:Bool} {Q:Bool->Int->Prop} (e:δ[5]?=some (some (.w (.d (.tuple (.str s::r)))))) (hb:jbc h (.str s)=b) (q:Q b n):cT (w2 (w2 (wVar 5) (wC (.int (0))) gIx) (wC (.str h)) gEq) δ n Q:=by
 subst hb;exact ct_b (λQ q=>w2_i (w2_i (jad e (c_i (g0_i (c_i (j6w q))))))) q
end
theorem j0t {ns:List Nt} (okn:okNs 101 ns):Sm 3 17271 (nsD ns):=jin (k:=2) (w:=170) (m:=101) (λd hd=>by
 obtain⟨q,hq,rfl⟩:=Bq.mp hd;exact j0u (okn.2 q hq)) (by rw[Ab];exact okn.1)
theorem j3h {ps:Pg} {hs:List Hn} {i:Nat} {h:Hn} (okp:okPg ps) (okh:okHs ps hs) (hi:hs[i]?=some h):Sm 3 5163 (hnD h):=by
 have hil:=(Ay.mp hi).1;have hil':i < ps.length:=by rw[<-okh.1];exact hil
 have hP:ps[i]?=some ps[i]:=Ag hil';obtain⟨h',b,e1,e2,e3⟩:=okh.2 i _ hP;rw[hi]at e1;cases e1;have og:=okp.2 _ (A6 hP);have hb:=(Ay.mp e2).1;have ob:=(og.2.2 b (A6 e2)).1;have:=e3.pl;have:=ob.2.2.1;have:=og.2.1;exact j0v (by omega) (by omega) e3.ok e3.ln
theorem j59 {ps:Pg} {hs:List Hn} (okp:okPg ps) (okh:okHs ps hs):Sm 4 25820 (.tuple (hs.map hnD)):=jin (k:=3) (w:=5163) (m:=5) (λd hd=>by
 obtain⟨h,hh,rfl⟩:=Bq.mp hd;obtain⟨i,hi⟩:=Cb.mp hh;exact j3h okp okh hi) (by rw[Ab,okh.1];exact okp.1)
theorem jfh:∀ws n Q,S_nr ws n Q->ws.length=4:=λws n Q h=>by obtain⟨_,_,_,_,_,rfl,_⟩:=h;rfl
abbrev zqz:List Str:=["_law_programs","_law_stand_here","_law_later","_law_mover","_law_before","_law_act_here","_law_place"]
theorem jez:∀ws n Q,S_nr ws n Q->jcg (jaz zqz ws) n {nx:=λ_ n=>Q (.d .none) n,rt:=Q}:=λws n Q h=>by
 obtain⟨ps,hs,ns,m,⟨rh,rn⟩,rfl,ok,hm,e,k⟩:=h;show jcg [some (.w (.d (pgD ps))),some (.w (.d (stD hs ns))),some (.w (.d (stD rh rn))),some (.w (.d (.int m))),none,none,none] n _;refine jal (ja2 (x:=nsD ns) (λQ q=>w2_i (jad rfl (c_i (g1_i q)))) ?_);dsimp only[Av];refine jal (ja2 (x:=acD (actO ps hs m)) (λQ q=>c3_i (jad rfl (jad rfl (jad rfl ⟨ps,hs,ns,m,rfl,ok.2.1,hm,q⟩)))) ?_);dsimp only[Av];obtain⟨P,xb,xp,nm,w,as,H⟩:=jct ok.2.1 hm;have okn:=ok.2.2;have oknn:okNs 101 ns:=⟨Nat.le_succ_of_le okn.1,okn.2⟩;cases ea:actO ps hs m with
 |none=>unfold movO at e;rw[H.prog,H.hand,ea]at e;cases e
 |some a =>
 rw[ji2 H ea]at e;have same:∀(s:Str) (r:List Ae),jbc "lay" (.str s)=false->jbc "take" (.str s)=false->rn=ns->acD (some a)=.tuple (.str s::r)->sSeq (sIf (cT (w2 (w2 (wVar 5) (wC (.int (0))) gIx) (wC (.str "lay")) gEq)) (sRet (wAnd (w2 (jca (w2 (wVar 2) (wC (.int (1))) gIx) jdz (jdy (wNeg (wC (.int (1)))))) (wVar 4) (gXX λd e=>some (Bd d e))) (w2 (wB gLen (jab (w2 (wVar 2) (wC (.int (1))) gIx) aNil)) (w2 (wB gLen (jab (wVar 4) aNil)) (wC (.int (1))) (gI0 λi j=>.int (i+j))) gEq))) jas) (sSeq (sIf (cT (w2 (w2 (wVar 5) (wC (.int (0))) gIx) (wC (.str "take")) gEq)) (sSeq (sSet 6 (jam jfw (jab (wVar 0) (jab (wVar 1) (jab (wVar 3) aNil))))) (sRet (w2 (w2 (wVar 2) (wC (.int (1))) gIx) (w2 (jca (wVar 4) jdz (jdy (wVar 6))) (jca (wVar 4) (jdy (w2 (wVar 6) (wC (.int (1))) (gI0 λi j=>.int (i+j)))) jdz) jks) (gXX λd e=>some (Bd d e))))) jas) (sRet (w2 (w2 (wVar 2) (wC (.int (1))) gIx) (wVar 4) (gXX λd e=>some (Bd d e)))))
   [some (.w (.d (pgD ps))),some (.w (.d (stD hs ns))),some (.w (.d (stD rh rn))),some (.w (.d (.int m))),some (.w (.d (nsD ns))),some (.w (.d (acD (some a)))),none] n {nx:=λ_ n=>Q (.d .none) n,rt:=Q}:=λs r h1 h2 h3 h4=>by
  rw[h4,h3];refine jal (if_n (λQ q=>juw rfl h1 q) ?_);dsimp only[jas];refine jal (if_n (λQ q=>juw rfl h2 q) ?_);dsimp only[jas];exact jbi (w2_i (w2_i (jad rfl (c_i (g1_i (jad rfl (jvx (j0t oknn) (by decide) k)))))))
 cases a with
 |lay fs age =>
  cases e;refine jal (if_y (λQ q=>juw rfl (by decide +kernel) q) ?_);have oq:okNs 101 (ns++[(filO fs nm,age)]):=(jqv ok.1 ok.2.1 okn (E8 hm) (r:=(setH hs m (goOn (xb,xp,nm) nm),ns++[(filO fs nm,age)])) (by unfold aftO;rw[if_neg (by omega),ji2 H ea];rfl)).2;refine jbi (j52 (λQ q=>w2_i ?_) (w2_i (b1_i (w2_i (jad rfl (c_i (g1_i ?_)))))))
  ·unfold jca jdz jdy;refine w2_i (jad rfl (c_i (g1_i ?_)));dsimp only[wNeg,wC,nsD];rw[j5w,Ab,An,A5,Nat.add_sub_cancel,Bm,List.take_left' (Ab _)];exact jad rfl (jvx (j0t oknn) (by decide) q)
  ·refine(show gLen [.d (.tuple _)] _ _ from w2_i (jxh (ds:=ns.map ntD) rfl (c_i (addI (j5j ?_)))));rw[Ab,Ab,An,A5,decide_eq_true (by omega)];exact k
 |take gs =>
  refine jal (if_n (λQ q=>juw rfl (by decide +kernel) q) ?_);dsimp only[jas];refine jal (if_y (λQ q=>juw rfl (by decide +kernel) q) ?_);cases eg:fstO (gs.map Fe.fd) nm ns with
  |none =>
   have:actM P (xb,xp,nm) ns (.take gs)=none:=by show(getO gs (xb,xp,nm) ns).map _=none;rw[jde eg];rfl
   rw[this]at e;cases e
  |some i =>
   have:actM P (xb,xp,nm) ns (.take gs)=some (goOn (xb,xp,nm) (srtN (wkN (gs.map Fe.fd) (rowO ns i) nm)),outO ns i):=by show(getO gs (xb,xp,nm) ns).map _=_;rw[jcw eg];rfl
   rw[this]at e;cases e;have go:gotO ps hs ns m=some i:=by
    unfold gotO;rw[ea,H.nmq];exact eg
   have hi:i < ns.length:=j5g eg;refine jal (ja2 (x:=.int i) (λQ q=>c3_i (jad rfl (jad rfl (jad rfl ⟨ps,hs,ns,m,rfl,ok,hm,by rw[go];exact q⟩)))) ?_);dsimp only[Av];have oo:okNs 101 (outO ns i):=⟨by unfold outO;rw[An,Ct,Cc];have:=okn.1;omega,λq hq=>okn.2 q ((A7.mp hq).elim Ey List.mem_of_mem_drop)⟩;refine jbi (w2_i (w2_i (jad rfl (c_i (g1_i (w2_i ?_))))));unfold jca jdz jdy;refine jad rfl (jad rfl ?_);dsimp only[nsD];rw[j2e];refine jad rfl (w2_i (jad rfl (c_i (addI ?_))));rw[show(i:Int)+1=((i+1:Nat):Int)from rfl];dsimp only;rw[jx9];have hl:=okn.1;refine jov (by rw[Ct,Cc,Ab];omega) ?_;rw[<-jt1];exact jvx (j0t oo) (by decide) k
 |read gs =>
  refine same "read" _ (by decide +kernel) (by decide +kernel) ?_ rfl;cases eg:fstO (gs.map Fe.fd) nm ns with
  |none =>
   have:actM P (xb,xp,nm) ns (.read gs)=none:=by show(getO gs (xb,xp,nm) ns).map _=none;rw[jde eg];rfl
   rw[this]at e;cases e
  |some i =>
   have:actM P (xb,xp,nm) ns (.read gs)=some (goOn (xb,xp,nm) (srtN (wkN (gs.map Fe.fd) (rowO ns i) nm)),ns):=by show(getO gs (xb,xp,nm) ns).map _=_;rw[jcw eg];rfl
   rw[this]at e;cases e;rfl
 |look gs b =>
  refine same "look" _ (by decide +kernel) (by decide +kernel) ?_ rfl;cases eg:getO gs (xb,xp,nm) ns with
  |none =>
   have:actM P (xb,xp,nm) ns (.look gs b)=some (goTo P b nm,ns):=by show(match getO gs (xb,xp,nm) ns with | some q=>some (q.2,ns) | none=>some (goTo P b nm,ns))=_;rw[eg]
   rw[this]at e;cases e;rfl
  |some q =>
   have:actM P (xb,xp,nm) ns (.look gs b)=some (q.2,ns):=by show(match getO gs (xb,xp,nm) ns with | some q=>some (q.2,ns) | none=>some (goTo P b nm,ns))=_;rw[eg]
   rw[this]at e;cases e;rfl
 |same f g b =>
  refine same "same" _ (by decide +kernel) (by decide +kernel) ?_ rfl;cases e;rfl
 |go b =>
  refine same "go" _ (by decide +kernel) (by decide +kernel) ?_ rfl;cases e;rfl
theorem jfg:∀ws n Q,S_rr ws n Q->ws.length=2:=λws n Q h=>by obtain⟨_,_,_,rfl,_⟩:=h;rfl
abbrev zqi1:List Str:=["_law_programs","_law_stand_here","_law_found","_law_hand","_law_act_here"]
theorem jey:∀ws n Q,S_rr ws n Q->jcf (jaz zqi1 ws) n {nx:=λ_ n=>Q (.d .none) n,rt:=Q}:=λws n Q h=>by
 obtain⟨ps,hs,ns,rfl,ok,k⟩:=h;show jcf [some (.w (.d (pgD ps))),some (.w (.d (stD hs ns))),none,none,none] n _;refine jal (ja2 (x:=.list (rdyL ps hs ns)) (λQ q=>jpd ok 0 1 rfl rfl q) ?_);dsimp only[Av];refine jal ?_;unfold sFor ja1;refine jxh (ds:=ps.map prD) rfl (Am ⟨by omega,by rw[Ab];have:=ok.1.1;omega⟩ ?_);rw[Bp,Ab];refine jbh (λds δ m=>m=n/\∃(j l:Nat) (x y:Option SV),ds=rngD (j:Nat) l/\j+l=ps.length/\δ=[some (.w (.d (pgD ps))),some (.w (.d (stD hs ns))),some (.w (.d (.list (rdyL ps hs ns)))),x,y]) (λδ m I=>?_) (λd r δ m N I kN=>?_) _ _ _ ⟨rfl,0,ps.length,none,none,rfl,by omega,rfl⟩
 ·obtain⟨rfl,j,l,x,y,ed,hj,rfl⟩:=I;exact(show Q (.d (.bool true)) m from k)
 ·obtain⟨rfl,j,l,x,y,ed,hj,rfl⟩:=I;cases l with
  |zero=>cases ed
  |succ l =>
   rw[jlx]at ed;obtain⟨rfl,rfl⟩:=Fv ed;have hjl:j < ps.length:=by omega
   dsimp only[jak,Av];refine jal (ja2 (x:=acD (actO ps hs j)) (λQ q=>c3_i (jad rfl (jad rfl (jad rfl ⟨ps,hs,ns,j,rfl,ok.2.1,hjl,q⟩)))) ?_);dsimp only[Av];have nxt:∀y:Option SV,N [some (.w (.d (pgD ps))),some (.w (.d (stD hs ns))),some (.w (.d (.list (rdyL ps hs ns)))),some (.w (.d (.int j))),y] m:=λy =>
    kN _ _ ⟨rfl,j+1,l,_,_,by rw[show((j+1:Nat):Int)=(j:Int)+1 from rfl],by omega,rfl⟩
   cases ea:actO ps hs j with
   |none =>
    have hc:canB ps hs ns j=false:=by unfold canB;rw[ea];rfl
    refine jal (if_n (λQ q=>jdt (λQ q=>ct_b (k:=true) (λQ q=>w2_i (jad rfl (c_i (jcn q)))) q) (ct_b (k:=false) (λQ q=>w2_i (jad rfl (jad rfl (j6n hjl (by rw[hc];exact q))))) q)) ?_);dsimp only[jas];exact if_n (λQ q=>jeb (λQ q=>ct_b (k:=false) (λQ q=>w2_i (jad rfl (c_i (jcn q)))) q) q) (nxt _)
   |some a =>
    obtain⟨P,xb,xp,nm,w,as,H⟩:=jct ok.2.1 hjl;obtain⟨s,r,e,h2⟩:=j5d (H.ok ok.1 ea);show sSeq _ _ [some (.w (.d (pgD ps))),some (.w (.d (stD hs ns))),some (.w (.d (.list (rdyL ps hs ns)))),some (.w (.d (.int j))),some (.w (.d a.d))] m _;rw[e];refine jal (if_n (λQ q=>jeb (λQ q=>ct_b (k:=false) (λQ q=>w2_i (jad rfl (c_i (jcn q)))) q) q) ?_);dsimp only[jas];refine if_n (λQ q=>jdt (λQ q=>ct_b (k:=true) (λQ q=>w2_i (jad rfl (c_i (jcn q)))) q) ?_) (nxt _);have nin:∀(b:Bool) (Q:Bool->Int->Prop),(!a.wt)=b->Q b m->cT (w2 (w2 (wVar 4) (wC (.int (0))) gIx) (wTup (jab (wC (.str "take")) (jab (wC (.str "read")) aNil))) (gIn true)) [some (.w (.d (pgD ps))),some (.w (.d (stD hs ns))),some (.w (.d (.list (rdyL ps hs ns)))),some (.w (.d (.int j))),some (.w (.d (.tuple (.str s::r))))] m Q:=λb Q hb q=>by
     refine ct_b (k:=b) (λQ q=>w2_i (w2_i (jad rfl (c_i (g0_i (jci (c_i (c_i (Am (show 2<=1000 by decide) ⟨rfl,rfl,?_⟩))))))))) q;show Q (.d (.bool (!inD (.str s) [.str "take",.str "read"]))) m;rw[h2,hb];exact q
    cases hw:a.wt with
    |true=>exact jeb (λQ q=>nin false Q (by rw[hw];rfl) q) q
    |false =>
     have hc:canB ps hs ns j=true:=by rw[jrb ea,hw];rfl
     refine jdt (λQ q=>nin true Q (by rw[hw];rfl) q) (ct_b (k:=false) (λQ q=>w2_i (jad rfl (jad rfl ⟨rfl,jzu,?_⟩))) q);show Q (.d (.bool (!inD (.int j) (rdyL ps hs ns)))) m;rw[jzt hjl,hc];exact q
theorem jwo {ps:Pg} {hs:List Hn} {ns:List Nt}:rdyL ps hs ns=[]↔∀j < ps.length,canB ps hs ns j=false:=by
 unfold rdyL;rw[Ed,List.filter_eq_nil_iff]
 constructor
 ·intro h j hj;have:=h j (Ck.mpr hj);cases e:canB ps hs ns j with
  |false=>rfl
  |true=>exact(this e).elim
 ·intro h j hj e;rw[h j (Ck.mp hj)]at e;cases e
theorem jxy {fs:List Fd} {nm:Nm} {ns:List Nt} {q:Nt} (hq:q∈ns) (h:fitB fs q.1 nm=true):(fstO fs nm ns).isSome=true:=by
 unfold fstO;rw[List.findIdx?_isSome];exact Dg.mpr ⟨q,hq,h⟩
theorem j01 {ps:Pg} {hs:List Hn} {ns:List Nt} (h:rdyL ps hs ns=[]):rdyL ps hs (clkO ns)=[]:=by
 rw[jwo]at h ⊢;intro j hj;have h0:=h j hj;cases ea:actO ps hs j with
 |none=>unfold canB;rw[ea];rfl
 |some a =>
  rw[jrb ea]at h0 ⊢;rw[Bool.or_eq_false_iff]at h0 ⊢;refine⟨h0.1,?_⟩;cases e:(gotO ps hs (clkO ns) j).isSome with
  |false=>rfl
  |true =>
   have h2:=h0.2;unfold gotO at e h2;rw[ea]at e h2
   change (a.pf.bind λfs=>fstO fs (nmO hs j) (clkO ns)).isSome=true at e
   change (a.pf.bind λfs=>fstO fs (nmO hs j) ns).isSome=false at h2
   cases ep:a.pf with
   |none=>rw[ep]at e;cases e
   |some fs =>
    rw[ep]at e h2;obtain⟨i,hi⟩:=D0.mp e;obtain⟨q,hq,hf⟩:=jpt hi;have hm:=A6 hq;unfold clkO at hm;obtain⟨q',hq',rfl⟩:=Bq.mp hm;have:=jxy (fs:=fs) (nm:=nmO hs j) (Cm.mp hq').1 hf
    change (fstO fs (nmO hs j) ns).isSome=false at h2
    rw[this]at h2;cases h2
theorem jff:∀ws n Q,S_sr ws n Q->ws.length=2:=λws n Q h=>by obtain⟨_,_,_,rfl,_⟩:=h;rfl
abbrev zqs1:List Str:=["_law_programs","_law_stand_here","_law_turn","_law_later"]
theorem jex:∀ws n Q,S_sr ws n Q->jce (jaz zqs1 ws) n {nx:=λ_ n=>Q (.d .none) n,rt:=Q}:=λws n Q h=>by
 obtain⟨ps,hs,ns,rfl,ok,hr,k⟩:=h;show jce [some (.w (.d (pgD ps))),some (.w (.d (stD hs ns))),none,none] n _;refine jal (jzv 4 rfl (by decide) ?_);refine jbh (λds δ m=>m=n/\∃(ns:List Nt) (x y:Option SV),δ=[some (.w (.d (pgD ps))),some (.w (.d (stD hs ns))),x,y]/\okSt ps hs ns/\rdyL ps hs ns=[]) (λδ m I=>?_) (λd r δ m N I kN=>?_) _ _ _ ⟨rfl,ns,none,none,rfl,ok,hr⟩
 ·obtain⟨rfl,ns,x,y,rfl,ok,hr⟩:=I;exact(show Q (.d (.bool true)) m from k)
 ·obtain⟨rfl,ns,x,y,rfl,ok,hr⟩:=I;dsimp only[jak,Av];have ok':okSt ps hs (clkO ns):=⟨ok.1,ok.2.1,jz1 ok.2.2⟩;have hr':=j01 hr;refine jal (ja2 (x:=stD hs (clkO ns)) (λQ q=>c3_i (jad rfl (jad rfl (jxh (ds:=ps.map prD) rfl ⟨ps,hs,ns,ps.length,(hs,clkO ns),by rw[Ab],ok,Al _,by unfold aftO;rw[if_pos rfl],q⟩)))) ?_);dsimp only[Av];refine jal (if_n (λQ q=>jg5 (λQ q=>ct_b (k:=false) (λQ q=>w2_i (jpd ok' 0 3 rfl rfl (jfq (by rw[hr'];exact jys q)))) q) (ct_b (k:=false) (λQ q=>w2_i (b1_i (w2_i (jad rfl (c_i (g1_i ?_)))))) q)) ?_)
  ·refine(show gLen [.d (.tuple _)] _ _ from b1_i (w2_i (jad rfl (c_i (g1_i (show gLen [.d (.tuple _)] _ _ from ?_))))));show Q (.d (.bool (decide (((ns.map ntD).length:Int) < (((clkO ns).map ntD).length:Int))))) m;rw[Ab,Ab,decide_eq_false (by
    have:(clkO ns).length<=ns.length:=by unfold clkO;rw[Ab];exact Ga _ _
    omega)]
   exact q
  ·dsimp only[jas];exact ja2 (x:=stD hs (clkO ns)) (λQ q=>jad rfl q) (kN _ _ ⟨rfl,clkO ns,_,_,rfl,ok',hr'⟩)
def lftO (ns:List Nt):List Nt:=ns.filter λq=>!isI1 q.2
theorem jq8 {Q:List Ae->Int->Prop}:∀(ns:List Nt) (acc:List Ae) (x y:Option SV) (n:Int),(∀q∈ns,jiy q.2)->Q (acc++(lftO ns).map ntD) n ->
  jco (jet 2 (jbg (jak 0) (jbg (jak 1) jdl))) (cT (w2 (wVar 1) (wC (.int (1))) gNe)) (wTup (jab (wVar 0) (jab (wVar 1) aNil))) Q (ns.map ntD) acc [x,y] n
 |[],acc,x,y,n,_,q=>by
  rw[show lftO []=[]from rfl,Fu,B9]at q;exact q
 | (row,a)::r,acc,x,y,n,h,q=>by
  have ha:jiy a:=h (row,a) A2;have ih:=λacc x y n q=>jq8 (Q:=Q) r acc x y n (λq hq=>h q (As _ hq)) q;rw[Bo];refine(show jet 2 _ (ntD (row,a)) [x,y] _ from⟨rfl,?_⟩);dsimp only[jbg,jdl,jak,Av];refine ct_b (k:=!isI1 a) (λQ q=>w2_i (jad rfl (c_i (j4q ha q)))) ?_;show if (!isI1 a)=true then _ else _
  have e0:lftO ((row,a)::r)=(if (!isI1 a)=true then[(row,a)]else[])++lftO r:=by
   unfold lftO;rw[List.filter_cons];dsimp only
   split<;>rfl
  rw[e0]at q;cases hi:isI1 a with
  |true =>
   rw[hi,if_neg (by decide),B8]at q;rw[if_neg (by decide)];exact ih _ _ _ _ q
  |false =>
   rw[hi,if_pos (by decide),Bm,<-Bw]at q;rw[if_pos (by decide)];exact jci (jad rfl (jad rfl (Am (show 2<=1000 by decide) (ih _ _ _ _ q))))
def tkD (q:Nt):Ae:=.tuple [ntD q,ntD (q.1,ageO q.2)]
theorem jyr:∀l:List Nt,zipD (l.map ntD) ((l.map λq=>((q.1,ageO q.2):Nt)).map ntD)=l.map tkD
 |[]=>rfl
 |q::r=>by
  show PyData.tuple [ntD q,ntD (q.1,ageO q.2)]::zipD (r.map ntD) ((r.map λq=>((q.1,ageO q.2):Nt)).map ntD)=_;rw[jyr r];rfl
theorem j3g {q:Nt} (h:okQ q):Sm 1 84 (.tuple q.1):=jin (k:=0) (w:=20) (m:=4) (λd hd=>jfm (h.1.2 d hd)) h.1.1
theorem jen:∀ws n Q,S_tr ws n Q->ws.length=2:=λws n Q h=>by obtain⟨_,_,_,rfl,_⟩:=h;rfl
abbrev zqm1:List Str:=["_law_stand_here","_law_later","_law_left","_law_one","_law_other"]
theorem jef:∀ws n Q,S_tr ws n Q->jb7 (jaz zqm1 ws) n {nx:=λ_ n=>Q (.d .none) n,rt:=Q}:=λws n Q h=>by
 obtain⟨ps,hs,ns,rfl,ok,k⟩:=h;show jb7 [some (.w (.d (stD hs ns))),some (.w (.d (stD hs (clkO ns)))),none,none,none] n _;refine jal (ja2 (x:=.list ((lftO ns).map ntD)) (λQ q=>of_i (jg6 (ds:=ns.map ntD) (λQ q=>w2_i (jad rfl (c_i (g1_i q)))) (jq8 ns [] none none n (λq hq=>(ok.2.2.2 q hq).2) (by rw[B8];exact q)))) ?_);dsimp only[Av];have ec:clkO ns=(lftO ns).map λq=>(q.1,ageO q.2):=rfl;have el:((clkO ns).map ntD).length=((lftO ns).map ntD).length:=by rw[ec,Ab,Ab,Ab]
 refine jal (if_n (λQ q=>jg5 (λQ q=>ct_b (k:=false) (λQ q=>w2_i (w2_i (jad rfl (c_i (g0_i (w2_i (jad rfl (c_i (g0_i (jvw (j59 ok.1 ok.2.1) (by decide) q)))))))))) q) (ct_b (k:=false) (λQ q=>w2_i (b1_i (w2_i (jad rfl (c_i (g1_i ?_)))))) q)) ?_)
 ·refine(show gLen [.d (.tuple _)] _ _ from b1_i (jad rfl (show gLen [.d (.list _)] _ _ from ?_)));show Q (.d (.bool (!decide ((((clkO ns).map ntD).length:Int)=(((lftO ns).map ntD).length:Int))))) n;rw[el,decide_eq_true rfl];exact q
 dsimp only[jas];refine jal ?_;unfold sFor jus;refine jad rfl (w2_i (jad rfl (c_i (g1_i (Am el.symm ?_)))));rw[ec,jyr];refine jbh (λds δ m=>m=n/\∃(re:List Nt) (x y z:Option SV),ds=re.map tkD/\(∀q∈re,okQ q)/\δ=[some (.w (.d (stD hs ns))),x,y,z]++[δ[4]?.join]) (λδ m I=>?_) (λd r δ m N I kN=>?_) _ _ _ ⟨rfl,lftO ns,_,_,_,rfl,λq hq=>ok.2.2.2 q (Cm.mp hq).1,rfl⟩
 ·obtain⟨rfl,_⟩:=I;exact(show Q (.d (.bool true)) m from k)
 ·obtain⟨rfl,re,x,y,z,ed,hre,eδ⟩:=I;generalize δ[4]?.join=u at eδ;subst eδ;cases re with
  |nil=>cases ed
  |cons q re =>
   obtain⟨rfl,rfl⟩:=Fv ed;have oq:=hre q A2;refine⟨rfl,?_⟩;dsimp only[jbg,jdl,jak,Av,List.cons_append,B8];have nxt:N [some (.w (.d (stD hs ns))),x,y,some (.w (.d (ntD q))),some (.w (.d (ntD (q.1,ageO q.2))))] m:=kN _ _ ⟨rfl,re,_,_,_,rfl,λq hq=>hre q (As _ hq),rfl⟩;have smr:=j3g oq;have rows:∀(Q:Bool->Int->Prop),Q false m->cT (w2 (w2 (wVar 4) (wC (.int (0))) gIx) (w2 (wVar 3) (wC (.int (0))) gIx) (gXX λd e=>some (!Bd d e))) [some (.w (.d (stD hs ns))),x,y,some (.w (.d (ntD q))),some (.w (.d (ntD (q.1,ageO q.2))))] m Q:=λQ q' =>
    ct_b (k:=false) (λQ q=>w2_i (w2_i (jad rfl (c_i (g0_i (w2_i (jad rfl (c_i (g0_i (jvw (d:=.tuple _) smr (by decide) q)))))))))) q'
   obtain⟨row,age⟩:=q;rcases oq.2 with e | ⟨i,e,i0,i1⟩
   ·replace e:age=.none:=e
    subst e;refine jal (if_n (λQ q=>jg5 rows (jdt (λQ q=>ct_b (k:=true) (λQ q=>w2_i (w2_i (jad rfl (c_i (g1_i (c_i (jcn q))))))) q) (ct_b (k:=false) (λQ q=>w2_i (w2_i (jad rfl (c_i (g1_i (c_i (jcn q))))))) q))) ?_);dsimp only[jas];exact if_n (λQ q=>jeb (λQ q=>ct_b (k:=false) (λQ q=>w2_i (w2_i (jad rfl (c_i (g1_i (c_i (jcn q))))))) q) q) nxt
   ·replace e:age=.int i:=e
    subst e;refine jal (if_n (λQ q=>jg5 rows (jeb (λQ q=>ct_b (k:=false) (λQ q=>w2_i (w2_i (jad rfl (c_i (g1_i (c_i (jcn q))))))) q) q)) ?_);dsimp only[jas];exact if_n (λQ q=>jdt (λQ q=>ct_b (k:=true) (λQ q=>w2_i (w2_i (jad rfl (c_i (g1_i (c_i (jcn q))))))) q) (ct_b (k:=false) (λQ q=>w2_i (w2_i (jad rfl (c_i (g1_i (w2_i (w2_i (jad rfl (c_i (g1_i (c_i (show gI0 _ _ _ _ _ from jvw (d:=.int (i - 1)) (jfm (V_of (by omega) (by omega))) (by decide) q))))))))))))  q)) nxt
theorem j1t {ps:Pg} {hs:List Hn} {ns:List Nt} {m j:Nat} {r:List Hn×List Nt} (okh:okHs ps hs) (hm:m<=ps.length) (e:aftO ps hs ns m=some r) (hj:j≠m):r.1[j]?=hs[j]?:=by
 unfold aftO at e;by_cases em:m=ps.length
 ·rw[if_pos em]at e;cases e;rfl
 ·rw[if_neg em]at e;obtain⟨P,xb,xp,nm,w,as,H⟩:=jct okh (show m < ps.length by omega);cases ea:actO ps hs m with
  |none=>unfold movO at e;rw[H.prog,H.hand,ea]at e;cases e
  |some a =>
   rw[ji2 H ea]at e;obtain⟨q,_,e2⟩:=Fo.mp e;cases e2;show(setH hs m q.1)[j]?=_;rw[jy8 (by rw[okh.1];omega),Cf λz=>hj z.symm]
theorem j2y {ps:Pg} {hs:List Hn} {ns:List Nt} {m:Nat} (okh:okHs ps hs) (hm:m<=ps.length) (c:m=ps.length\/canB ps hs ns m=true):∃q,aftO ps hs ns m=some q:=by
 by_cases e:m=ps.length
 ·exact⟨_,by unfold aftO;rw[if_pos e]⟩
 ·exact j2i okh (by omega) (c.resolve_left e)
theorem jze {ps:Pg} {hs:List Hn} {ns:List Nt}:(rdyL ps hs ns).length<=ps.length:=by
 unfold rdyL;rw[Ab];exact Ba (Ga _ _) (by rw[Et];exact Al _)
def MvOk (ps:Pg) (z:List Hn×List Nt) (ds:List Ae):Prop:=0 < ds.length/\ds.length<=6/\∀d∈ds,∃m:Nat,d=.int m/\m<=ps.length/\(m=ps.length\/canB ps z.1 z.2 m=true)
theorem j6k {ps:Pg} {z:List Hn×List Nt} (hp:ps.length<=5):MvOk ps z (rdyL ps z.1 z.2++[.int ps.length]):=by
 have h1:=jze (ps:=ps) (hs:=z.1) (ns:=z.2);refine⟨by rw[An,A5];omega,by rw[An,A5];omega,λd hd=>?_⟩;rcases A7.mp hd with q | q
 ·unfold rdyL at q;obtain⟨m,hm,rfl⟩:=Bq.mp q;obtain⟨h2,h3⟩:=Cm.mp hm;have:=Ck.mp h2;exact⟨m,rfl,by omega,.inr h3⟩
 ·rw[Be]at q;exact⟨ps.length,q,Al _,.inl rfl⟩
theorem MvOk.sm {ps:Pg} {z:List Hn×List Nt} {ds:List Ae} (h:MvOk ps z ds) (hp:ps.length<=5):Sm 1 126 (.list ds):=jy5 (k:=0) (w:=20) (m:=6) (λd hd=>by
 obtain⟨m,rfl,hm,_⟩:=h.2.2 d hd;exact jfm (V_of (by omega) (by omega))) h.2.1
section
variable {δ:Sl} {n:Int} {Q:DQ}
theorem jyt {a b:Int} (q:Q (.d (.bool (decide (a=b)))) n):gXX (λd e=>some (Bd d e)) (.d (.int a)) (.d (.int b)) n Q :=
 ⟨by rw[Cj],by rw[Cj],by rw[Dy];exact Bj _,by rw[Dy];exact Bj _,decide (a=b),by
  show some (Bd (.int a) (.int b))=_;rw[Bd];rfl,q⟩
theorem jyu {a b:Int} (q:Q (.d (.bool (!decide (a=b)))) n):gXX (λd e=>some (!Bd d e)) (.d (.int a)) (.d (.int b)) n Q :=
 ⟨by rw[Cj],by rw[Cj],by rw[Dy];exact Bj _,by rw[Dy];exact Bj _,!decide (a=b),by
  show some (!Bd (.int a) (.int b))=_;rw[Bd];rfl,q⟩
theorem j16 {w:DT} {Q:List Ae->Int->Prop} (k:w δ n λx n1=>match jel [x]with
  |some ds=>ds.length<=1000/\Q ds n1
  |none=>False):fLst (jab w aNil) δ n Q:=k
theorem lenG {ds:List Ae} (k:Q (.d (.int ds.length)) n):gLen [.d (.list ds)] n Q:=k
theorem lenT {ds:List Ae} (k:Q (.d (.int ds.length)) n):gLen [.d (.tuple ds)] n Q:=k
theorem j4s {a b:Int} (k:Q (.d (.bool (decide (a < b)))) n):gLt (.d (.int a)) (.d (.int b)) n Q:=k
theorem j6j {a b:Int} (k:Q (.d (.bool (!decide (a=b)))) n):gNe (.d (.int a)) (.d (.int b)) n Q:=k
end
theorem jx2 {ds:List Ae} {x:Ae} (h:ds≠[]):Bd (.list (ds++[x])) (.list [x])=false:=by
 match ds,h with
 |a::r,_ =>
  show Bd (.list (a::(r++[x]))) (.list [x])=false;rw[Bd,Fz];cases r with
  |nil=>rw[B8,Fz,Bool.and_false]
  |cons b r=>rw[List.cons_append,Fz,Bool.and_false]
theorem jxm {ps:Pg} {hs:List Hn} {ns:List Nt} {n:Int} {M:Nat} {x4 x6 x7 x8 x9 x10:Option SV} {K:DEnds} (okp:okPg ps) (okh:okHs ps hs) (okn:okNs M ns) (hM:M<=90) (hn:n < 2 ^ 30)
  (kN:∀(δ:Sl) (n':Int) (hs':List Hn) (ns':List Nt),okHs ps hs'->okNs (M+1) ns'->(∃x7 x8 x9 x10:Option SV,δ=[none,some (.w .tp),some (.w (.d (pgD ps))),some (.w (.d (.int ps.length))),x4,some (.w (.d (stD hs' ns'))),x6,x7,x8,x9,x10])->n'<=n+1->K.nx δ n') :
  (sSeq (sSet 7 (w2 (wOf (jgi jc7 (jab (wVar 2) (jab (wVar 5) aNil)))) (wOf (fLst (jab (wVar 3) aNil))) gCat)) (sSeq (sIf (cOr (cNot (cT (jam S_rr (jab (wVar 2) (jab (wVar 5) aNil))))) (cAnd (cT (w2 (wVar 7) (wOf (fLst (jab (wVar 3) aNil))) (gXX λd e=>some (Bd d e)))) (cNot (cT (jam S_sr (jab (wVar 2) (jab (wVar 5) aNil))))))) (sRet (wC (.bool false))) jas) (sSeq (sSet 8 (w2 (wVar 7) (jam jav (jab (wVar 1) (jab (wB gLen (jab (wVar 7) aNil)) aNil))) gIx)) (sSeq (sSet 9 (jam je9 (jab (wVar 2) (jab (wVar 5) (jab (wVar 8) aNil))))) (sSeq (sSet 10 (wOf (jb6 [none,some 9,some 8,some 5] (ja1 (wVar 3)) (jak 0) (cAnd (cT (w2 (wVar 0) (wVar 2) (gXX λd e=>some (!Bd d e)))) (cT (w2 (w2 (w2 (wVar 1) (wC (.int (0))) gIx) (wVar 0) gIx) (w2 (w2 (wVar 3) (wC (.int (0))) gIx) (wVar 0) gIx) (gXX λd e=>some (!Bd d e))))) (wVar 0)))) (sSeq (sIf (cOr (cT (w2 (wVar 10) (wOf (fLst aNil)) (gXX λd e=>some (!Bd d e)))) (cT (w2 (wB gLen (jab (w2 (wVar 9) (wC (.int (0))) gIx) aNil)) (wVar 3) gNe))) (sRet (wC (.bool false))) jas) (sSeq (sIf (cAnd (cT (w2 (wVar 8) (wVar 3) (gXX λd e=>some (Bd d e)))) (cNot (cT (jam S_tr (jab (wVar 5) (jab (wVar 9) aNil)))))) (sRet (wC (.bool false))) jas) (sSeq (sIf (cAnd (cT (w2 (wVar 8) (wVar 3) gLt)) (cNot (cT (jam S_nr (jab (wVar 2) (jab (wVar 5) (jab (wVar 9) (jab (wVar 8) aNil)))))))) (sRet (wC (.bool false))) jas) (sSet 5 (wVar 9))))))))))
  [none,some (.w .tp),some (.w (.d (pgD ps))),some (.w (.d (.int ps.length))),x4,some (.w (.d (stD hs ns))),x6,x7,x8,x9,x10] n K:=by
 have ok:okSt ps hs ns:=⟨okp,okh,Ba okn.1 (by omega),okn.2⟩;have hp5:=okp.1;have Mv:=j6k (ps:=ps) (z:=(hs,ns)) hp5;have sm:=Mv.sm hp5;refine jal (ja2 (x:=.list (rdyL ps hs ns++[.int ps.length])) (λQ q=>w2_i (jpd ok 2 5 rfl rfl (of_i (j16 (jad rfl (Am (show 1<=1000 by decide) (show gCat _ _ _ _ from Am ?_ q))))))) ?_)
 ·have:=jze (ps:=ps) (hs:=hs) (ns:=ns);show(rdyL ps hs ns).length+1<=_;exact jbf (by omega)
 dsimp only[Av];refine jal (if_n (λQ q=>jg5 (λQ q=>jok (k:=true) (λQ q=>ct_b (k:=true) (λQ q=>c2_i (jad rfl (jad rfl ⟨ps,hs,ns,rfl,ok,q⟩))) q) q) ?_) ?_)
 ·by_cases hr:rdyL ps hs ns=[]
  ·refine jdt (λQ q=>ct_b (k:=true) (λQ q=>w2_i (jad rfl (of_i (j16 (jad rfl (Am (show 1<=1000 by decide) ?_)))))) q) (jok (k:=true) (λQ q=>ct_b (k:=true) (λQ q=>c2_i (jad rfl (jad rfl ⟨ps,hs,ns,rfl,ok,hr,q⟩))) q) q);rw[hr,B8];rw[hr,B8]at sm;exact jvx sm (by decide) q
  ·refine jeb (λQ q=>ct_b (k:=false) (λQ q=>w2_i (jad rfl (of_i (j16 (jad rfl (Am (show 1<=1000 by decide) ?_)))))) q) q;have s1:Sm 1 126 (.list [.int ps.length]):=jy5 (k:=0) (w:=20) (m:=6) (λd hd=>by rw[Be.mp hd];exact jfm (V_of (by omega) (by omega))) (by show 1<=6;decide);exact⟨sm.1,s1.1,Ba sm.2.1 (by decide),Ba s1.2.1 (by decide),false,by show some (Bd _ _)=_;rw[jx2 hr],q⟩
 dsimp only[jas];generalize rdyL ps hs ns++[.int ps.length]=ds at Mv;refine jal (show sSet 8 _ _ _ _ from w2_i (jad rfl (drw (m:=(ds.length:Nat)) rfl (λQ q=>b1_i (jad rfl (lenG q))) (by omega) (by have:=Mv.1;omega) (by have:=Mv.2.1;omega) λr r0 r1=>jqz r0 r1 λd hd=>?_)));obtain⟨m,rfl,hm,hc⟩:=Mv.2.2 d hd;obtain⟨⟨rh,rn⟩,er⟩:=j2y okh hm hc;obtain⟨k1,k2⟩:=jqv okp okh okn hm er;dsimp only[Av];refine jal (ja2 (x:=stD rh rn) (λQ q=>c3_i (jad rfl (jad rfl (jad rfl ⟨ps,hs,ns,m,(rh,rn),rfl,ok,hm,er,q⟩)))) ?_);dsimp only[Av];refine jal (ja2 (x:=.list []) (λQ q=>of_i ?_) ?_)
 ·unfold jb6 ja1;refine jad rfl (Am ⟨by omega,by omega⟩ ?_);rw[Bp];have e:rngD 0 ps.length=(Bs ps.length).map λh=>.int (h:Nat):=by
   unfold rngD;exact Cz λi _=>by rw[Int.zero_add]
  rw[e];show jco _ _ _ _ _ _ [none,some (.w (.d (stD rh rn))),some (.w (.d (.int m))),some (.w (.d (stD hs ns)))] _;refine jpz (λh:Nat=>Ef (h:Nat)) (λh:Nat=>Ef (h:Nat)) (λ_=>false) _ [] none _ (λj hj n Q' q=>?_) (λh hh n Q' q=>jad rfl q) (by rw[B8,List.filter_eq_nil_iff.mpr (λ_ _ z=>by cases z)];exact q);by_cases ej:j=m
  ·refine jeb (λQ q=>ct_b (k:=false) (λQ q=>w2_i (jad rfl (jad rfl (jyu ?_)))) q) q;rw[decide_eq_true (by omega)];exact q
  ·refine jdt (λQ q=>ct_b (k:=true) (λQ q=>w2_i (jad rfl (jad rfl (jyu ?_)))) q) ?_
   ·rw[decide_eq_false (by omega)];exact q
   ·have hjl:j < hs.length:=by rw[okh.1];exact Ck.mp hj
    have hj1:hs[j]?=some hs[j]:=Ag hjl;have hj2:rh[j]?=some hs[j]:=by rw[<-hj1];exact j1t okh hm er ej
    have d1:(hs.map hnD)[j]?=some (hnD hs[j]):=by rw[A0,hj1];rfl
    have d2:(rh.map hnD)[j]?=some (hnD hs[j]):=by rw[A0,hj2];rfl
    exact ct_b (k:=false) (λQ q=>w2_i (w2_i (w2_i (jad rfl (c_i (g0_i (jad rfl (gN_i d2 (w2_i (w2_i (jad rfl (c_i (g0_i (jad rfl (gN_i d1 (jvw (j3h okp okh hj1) (by decide) q)))))))))))))))) q
 dsimp only[Av];refine jal (if_n (λQ q=>jg5 (λQ q=>ct_b (k:=false) (λQ q=>w2_i (jad rfl (jfq (jys q)))) q) (ct_b (k:=false) (λQ q=>w2_i (b1_i (w2_i (jad rfl (c_i (g0_i (lenT (jad rfl (j6j ?_))))))))) q)) ?_)
 ·rw[Ab,k1.1,decide_eq_true rfl];exact q
 dsimp only[jas];have nr:m < ps.length->movO ps hs ns m=some (rh,rn):=λh=>by
  unfold aftO at er;rwa [if_neg (by omega)]at er
 refine jal (if_n (λQ q=>?_) ?_)
 ·by_cases em:m=ps.length
  ·have:(rh,rn)=(hs,clkO ns):=by
    unfold aftO at er;rw[if_pos em]at er;exact(Aq er).symm
   cases this;exact jdt (λQ q=>ct_b (k:=true) (λQ q=>w2_i (jad rfl (jad rfl (jyt (by rw[decide_eq_true (by omega)];exact q))))) q) (jok (k:=true) (λQ q=>ct_b (k:=true) (λQ q=>c2_i (jad rfl (jad rfl ⟨ps,hs,ns,rfl,ok,q⟩))) q) q)
  ·exact jeb (λQ q=>ct_b (k:=false) (λQ q=>w2_i (jad rfl (jad rfl (jyt (by rw[decide_eq_false (by omega)];exact q))))) q) q
 dsimp only[jas];refine jal (if_n (λQ q=>?_) ?_)
 ·by_cases em:m < ps.length
  ·exact jdt (λQ q=>ct_b (k:=true) (λQ q=>w2_i (jad rfl (jad rfl (j4s (by rw[decide_eq_true (by omega)];exact q))))) q) (jok (k:=true) (λQ q=>ct_b (k:=true) (λQ q=>c4_i (jad rfl (jad rfl (jad rfl (jad rfl ⟨ps,hs,ns,m,(rh,rn),rfl,ok,em,nr em,q⟩))))) q) q)
  ·exact jeb (λQ q=>ct_b (k:=false) (λQ q=>w2_i (jad rfl (jad rfl (j4s (by rw[decide_eq_false (by omega)];exact q))))) q) q
 dsimp only[jas];exact ja2 (x:=stD rh rn) (λQ q=>jad rfl q) (kN _ _ rh rn k1 k2 ⟨_,_,_,_,rfl⟩ (Int.le_refl _))
abbrev zqk:List Str:=["_law_script","_law_tape_here","_law_programs","_law_many","_law_k","_law_stand_here","_law_turn","_law_some","_law_mover","_law_later","_law_others"]
theorem jyh:j53 (none::some (.w .tp)::Dt (List.length zqk - 2) none) 0 jmc:=by
 show j53 [none,some (.w .tp),none,none,none,none,none,none,none,none,none] 0 jmc;refine jal (show sSet 2 _ _ _ _ from w2_i (c1_i (jad rfl (Am rfl ⟨by decide,λps d n0 hp hn0=>c_i (g0_i ?_)⟩))));dsimp only[Av];refine jal (ja2 (x:=.int ps.length) (λQ q=>jxh (ds:=ps.map prD) rfl (by rw[Ab];exact q)) ?_);dsimp only[Av];refine jal (jzv 3 rfl (by decide) ?_);refine jbh (λds δ n=>(∃x4 x5 x6 x7 x8 x9 x10:Option SV,δ=[none,some (.w .tp),some (.w (.d (pgD ps))),some (.w (.d (.int ps.length))),x4,x5,x6,x7,x8,x9,x10])/\n+470*(ds.length:Int)<=9000) (λδ n I=>?_) (λd' t δ n N I kN=>?_) _ _ _ ⟨⟨_,_,_,_,_,_,_,rfl⟩,by rw[jbq];omega⟩
 ·obtain⟨⟨x4,x5,x6,x7,x8,x9,x10,rfl⟩,hn⟩:=I;dsimp only;exact jbi (c_i rfl)
 ·obtain⟨⟨x4,x5,x6,x7,x8,x9,x10,rfl⟩,hn⟩:=I;rw[Ax]at hn;dsimp only[jak,Av];refine jal (show sSet 5 _ _ _ _ from c3_i (jad rfl (jad rfl (c2_i (jad rfl (jad rfl ⟨ps,rfl,hp,by omega,λhs ns n1 okh okn hn1=>⟨ps,hs,ns,rfl,hp,okh,okn,by omega,λns' n2 okn' hn2=>?_⟩⟩))))));dsimp only[Av];unfold sFor ja1;refine w2_i (c_i (drw rfl (λQ q=>c_i q) (by omega) (by decide) (by decide) λr r0 r1=>addI (Am ⟨by omega,by omega⟩ ?_)));have hl:(1+r).toNat<=8:=by omega
  refine jbh (λds δ n=>∃(hs:List Hn) (ns:List Nt) (x6 x7 x8 x9 x10:Option SV),ds.length<=8/\δ=[none,some (.w .tp),some (.w (.d (pgD ps))),some (.w (.d (.int ps.length))),some (.w (.d d')),some (.w (.d (stD hs ns))),x6,x7,x8,x9,x10]/\okHs ps hs/\okNs (30 - ds.length) ns/\n+(ds.length:Int)<=n2+10) (λδ n3 I=>?_) (λd3 t3 δ n3 N3 I kN3=>?_) _ _ _ ⟨hs,ns',_,_,_,_,_,by rw[jbq];exact hl,rfl,okh,⟨by rw[jbq];have:=okn'.1;omega,okn'.2⟩,by rw[jbq];omega⟩
  ·obtain⟨hs,ns,x6,x7,x8,x9,x10,_,rfl,okh,okn,hn3⟩:=I;exact kN _ _ ⟨⟨_,_,_,_,_,_,_,rfl⟩,by simp at hn3;omega⟩
  ·obtain⟨hs,ns,x6,x7,x8,x9,x10,hl8,rfl,okh,okn,hn3⟩:=I;rw[Ax]at hl8 hn3 okn;dsimp only[jak,Av];refine jxm hp okh okn (by omega) (by omega) λδ n' hs' ns2 h1 h2 h3 h4=>?_;obtain⟨x7,x8,x9,x10,rfl⟩:=h3;exact kN3 _ _ ⟨hs',ns2,_,_,_,_,_,by omega,rfl,h1,⟨Ba h2.1 (by omega),h2.2⟩,by omega⟩
def top (i:Nat):Stmt:=PySem.Challenge.pw_noteboard_k25_whole_others_stay.main.body.getD i (.Pass ⟨0,0,0,0⟩)
abbrev jk7:Stmt:=top 5
abbrev jhj:Stmt:=top 7
abbrev jza:Stmt:=top 8
abbrev jhh:Stmt:=top 9
abbrev jga:Stmt:=top 10
abbrev jqf:Stmt:=top 11
abbrev jip:Stmt:=top 14
abbrev jk6:Stmt:=top 16
abbrev jy9:Stmt:=top 17
abbrev jk8:Stmt:=top 18
abbrev jth:Stmt:=top 19
abbrev jnn:Stmt:=top 20
abbrev jnm:Stmt:=top 21
abbrev jio:Stmt:=top 22
abbrev j3o:Stmt:=top 23
abbrev jei:Stmt:=top 24
abbrev jhi:Stmt:=top 25
abbrev jzb:Stmt:=top 26
abbrev jgb:Stmt:=top 27
abbrev jtk:Stmt:=top 28
abbrev jtj:Stmt:=top 29
abbrev jpa:Stmt:=top 31
abbrev jpb:Stmt:=top 32
abbrev jhk:Stmt:=top 33
abbrev jir:Stmt:=top 34
abbrev jk9:Stmt:=top 35
abbrev jfo:Stmt:=top 36
abbrev jej:Stmt:=top 37
abbrev jiq:Stmt:=top 38
abbrev jla:Stmt:=top 39
abbrev jfn:Stmt:=top 40
abbrev jhm:Stmt:=top 41
abbrev jis:Stmt:=top 42
abbrev jho:Stmt:=top 43
abbrev jhl:Stmt:=top 44
abbrev jek:Stmt:=top 45
abbrev jit:Stmt:=top 46
abbrev jhn:Stmt:=top 47
abbrev jdc:Stmt:=top 48
abbrev jcz:Stmt:=top 49
abbrev jdb:Stmt:=top 50
abbrev jda:Stmt:=top 51
abbrev jrn:Stmt:=top 52
abbrev j3p:Stmt:=jpa
abbrev j3s:Stmt:=jpb
end Nb
namespace Nb
open PySem L2
section
variable {P:Bg} {w:Bt} {K:Ah} {mg:Str->Option Af} {base:Heap}
abbrev zqf1:List Str:=["_law_script"]
theorem j3j:FnScope zqf1 zqf1 (jai j3p):=⟨rfl,rfl,rfl,by decide +kernel,rfl,by decide +kernel,by decide +kernel⟩
theorem j1o {f:Addr} {fd:Cp} (F:Fun K "_law_tape" "_law_tape" j3p f fd):FnOk P w K mg base CX0 1 f fd zqf1 (jqd K):=by
 refine F.ok j3j (λvs H Q E h=>?_) (λcdv A outer s H vs Q E hr h=>?_)
 ·obtain⟨a,ns,rfl,_⟩:=h;rfl
 ·obtain⟨a,ns,rfl,hS,hl,k⟩:=h;refine⟨_,jgr (jld (jt0 (ja0 (jqo j0w (pv 0) jtx (jtw ja7)) (ja0 ja7 (ja0 ja7 (ja0 (jt0 (ja0 jqp (ja0 jqp (ja0 jqp (ja0 ja7 (ja0 ja7 (ja0 ja7 (ja0 ja7 jb0)))))))) jb0)))))),?_⟩;refine⟨_,rfl,_,rfl,a,_,rfl,hS,λp hp=>⟨jwh (by simp),λg hg=>⟨jwh (by simp),λq hq=>?_⟩⟩⟩;rw[j62 (by rw[Ab];exact hl)]at hg hq ⊢;have hgp:g≠p:=λz=>by rw[z,jap]at hg;cases hg
  have hg0:H g=none:=by rw[jao hgp]at hg;exact hg
  have hqg:q≠g:=λz=>by rw[z,jap]at hq;cases hq
  rw[jao hqg]at hq;have hqp:q≠p:=λz=>by rw[z,jap]at hq;cases hq
  have hq0:H q=none:=by rw[jao hqp]at hq;exact hq
  refine k q ⟨p,g⟩ _ ⟨⟨0,0,jap,Int.le_refl _,Int.le_refl _⟩,by rw[jao hqp.symm,jao hgp.symm,jap],hl,(λz=>by rw[jao hqg.symm,jap];rfl),hqg.symm⟩ λb o e=>?_;rw[jao (jaj e hq0),jao (jaj e hg0),jao (jaj e hp)];exact e
abbrev zqd:List Str:=["_law_tape_here","_law_many"]
theorem scDraw:FnScope ["_law_tape_here","_law_many","_law_found","_law_spot","_law_cell","_law_mixed"] zqd (jai j3s):=⟨rfl,rfl,rfl,by decide +kernel,rfl,by decide +kernel,by decide +kernel⟩
theorem jxx {R:Prop} {G:Int->Prop} (use:(∀c,G c)->R) (fin:∀c,G c):R:=use fin
theorem j6s {R G:Prop} (use:G->R) (fin:G):R:=use fin
theorem j1p {f:Addr} {fd:Cp} (F:Fun K "_law_draw" "_law_draw" j3s f fd) (zl:mg "len"=none):FnOk P w K mg base CX0 1 f fd zqd jy2:=by
 refine F.ok scDraw (λvs H Q E h=>?_) (λcdv A outer s H vs Q E hr h=>?_)
 ·obtain⟨t,l,ns,n,many,rfl,_⟩:=h;rfl
 ·obtain⟨t,l,ns,n,many,rfl,T,hn,hm0,hm1,k⟩:=h;obtain⟨a,b,ht,ha0,ha1⟩:=T.ob;have ntl:=T.ne;have hl:=T.ls;have hlen:=T.len;refine⟨_,jb1 (jwv (jfy op_gt (jh3 ix_list (pv 0) ja7 (λ_ _=>rfl)) ja7 (jaq _))
    (jb1 (jfp (i:=2) scDraw.nd rfl (Ar rfl) (jc8 jhq (jh3 ix_list (pv 0) ja7 (λ_ _=>rfl)) (pv 1)))
     (jb1 (jns (jc8 jt8 (jh3 ix_list (pv 0) ja7 (λ_ _=>rfl)) (pv 1)) (jqm (pv 0) ja7 jie))
     (jgr (jld (pv 2))))) jl1)
   (jb1 (jfp (i:=3) scDraw.nd rfl (Ar rfl) (jh3 ix_list (pv 0) ja7 (λ_ _=>rfl)))
   (jb1 (jns (jc8 op_add (pv 3) ja7) (jqm (pv 0) ja7 jie))
   (jb1 (jfp (i:=4) scDraw.nd rfl (Ar rfl) ja7)
   (jb1 (jwv (jfy op_gt (jdd jdh (by rfl) zl Bc (ja0 (jh3 ix_list (pv 0) ja7 (λ_ _=>rfl)) jb0)) ja7 (jaq _))
    (jgr (jfp (i:=4) scDraw.nd rfl (Ar rfl) (jh3 ix_list (jh3 ix_list (pv 0) ja7 (λ_ _=>rfl))
     (jc8 jhq (pv 3) (jdd jdh (by rfl) zl Bc (ja0 (jh3 ix_list (pv 0) ja7 (λ_ _=>rfl)) jb0))) (λ_ _=>rfl)))) jl1)
   (jb1 (jwv (PW.pt (jzh (jfy j6i (pv 4) (jc8 j4k ja7 ja7) (jaq _))
     (jtt (jfy op_lt (pv 3) (jdd jdh (by rfl) zl Bc (ja0 (jh3 ix_list (pv 0) ja7 (λ_ _=>rfl)) jb0)) (jaq _)))))
    (jb1 (jns (jc8 jt8 (pv 4) (pv 1)) (jqm (pv 0) ja7 jie)) (jgr (jld (jc8 jhq (pv 4) (pv 1))))) jl1)
   (jb1 (jfp (i:=5) scDraw.nd rfl (Ar rfl) (jc8 jhq (jc8 jlf (jc8 op_add (jc8 op_add (jc8 jhq (pv 4) ja7) (jc8 jlf (jc8 jlf ja7 (pv 3)) (pv 3))) ja7) ja7) ja7))
   (jgr (jld (jc8 jhq (jc8 jhq (jc8 jlf (jc8 jhq (jc8 op_add (jc8 jlf (pv 5) ja7) (jc8 jlf (pv 3) ja7)) ja7) ja7) ja7) (pv 1)))))))))),?_⟩
  -- tape[2] > 0
  refine⟨_,rfl,t,_,2,_,rfl,rfl,SqL.of ht,jbw (j:=2) rfl,_,_,rfl,rfl,_,rfl,?_⟩;refine ite2 (λ_=>?_) (λ_=>?_)
  ·-- found=tape[2] % many;tape[2]=tape[2] // many;return found
   refine⟨_,rfl,t,_,2,_,rfl,rfl,SqL.of ht,jbw (j:=2) rfl,_,rfl,_,_,rfl,rfl,hm0,?_⟩;refine⟨_,rfl,t,_,2,_,rfl,rfl,SqL.of ht,jbw (j:=2) rfl,_,rfl,_,_,rfl,rfl,⟨hm0,hm1⟩,?_⟩;refine⟨_,rfl,t,_,2,2,rfl,rfl,ht,rfl,?_⟩;refine⟨_,rfl,?_⟩;refine k _ _ (Int.emod_nonneg _ (by omega)) (Gw _ hm0) ⟨⟨a,b / many,jap,ha0,by omega⟩,by rw[jao ntl.symm];exact hl,hlen,(λz=>by rw[jao T.gne];exact T.ag z),T.gne⟩ Kp.tape
  ·-- spot=tape[1];tape[1]=spot+1;cell=0
   refine⟨_,rfl,t,_,1,_,rfl,rfl,SqL.of ht,jbw (j:=1) rfl,?_⟩;refine⟨_,rfl,_,_,rfl,rfl,_,rfl,t,_,1,1,rfl,rfl,ht,rfl,?_⟩;have ht1:∀o,upd H t o t=some o:=λo=>jap;have hl1:∀o,upd H t o l.s=some (.lst (ns.map V.int)):=λo=>by rw[jao ntl.symm];exact hl
   generalize hH1:upd H t (.lst (((.ref l.s::.int a::.int b::exOf l:List V)).set 1 (.int (a+1))))=H1;have g1:H1 t=some (.lst (.ref l.s::.int (a+1)::.int b::exOf l)):=by rw[<-hH1];exact jap
   have g2:H1 l.s=some (.lst (ns.map V.int)):=by rw[<-hH1];exact hl1 _
   have g3:Kp t H H1:=by rw[<-hH1];exact Kp.tape
   have g4:jso=true->H1 l.g=some (.lst jyn):=λz=>by rw[<-hH1,jao T.gne];exact T.ag z
   refine⟨_,rfl,t,_,0,_,rfl,rfl,SqL.of g1,jbw (j:=0) rfl,l.s,_,rfl,.inl (SqL.of g2),_,_,rfl,rfl,_,rfl,?_⟩;apply jxx
   case use =>
    intro fin;refine ite2 (λhp=>?_) (λ_=>?_)
    ·have hpos:(0:Int) < ((ns.map V.int).length:Int):=of_decide_eq_true hp;obtain⟨v,hv,hm⟩:=j2o (xs:=ns.map V.int) (r:=a % ((ns.map V.int).length:Int)) (Int.emod_nonneg _ (by omega)) (Gw _ hpos);obtain⟨c,_,rfl⟩:=Bq.mp hm;refine⟨_,rfl,t,_,0,_,rfl,rfl,SqL.of g1,jbw (j:=0) rfl,_,rfl,_,rfl,t,_,0,_,rfl,rfl,SqL.of g1,jbw (j:=0) rfl,l.s,_,rfl,.inl (SqL.of g2),_,_,rfl,rfl,hpos,l.s,_,_,.int c,rfl,rfl,SqL.of g2,hv,?_⟩;exact fin c
    ·exact fin 0
   case fin =>
    intro c;refine⟨_,rfl,_,_,rfl,rfl,⟨by decide,by decide,by decide⟩,_,_,rfl,rfl,_,rfl,?_⟩;apply j6s
    case use =>
     intro fin;refine ite2 (λ_=>?_) (λ_=>?_)
     ·refine⟨_,rfl,_,rfl,t,_,0,_,rfl,rfl,SqL.of g1,jbw (j:=0) rfl,l.s,_,rfl,.inl (SqL.of g2),_,_,rfl,rfl,_,rfl,?_⟩;refine ite2 (λ_=>?_) (λ_=>fin);refine⟨_,rfl,_,rfl,_,_,rfl,rfl,⟨hm0,hm1⟩,_,rfl,t,_,2,2,rfl,rfl,g1,rfl,_,rfl,_,rfl,_,_,rfl,rfl,hm0,?_⟩;exact k _ _ (Int.emod_nonneg _ (by omega)) (Gw _ hm0) ⟨⟨a+1,_,jap,by omega,by omega⟩,by rw[jao ntl.symm];exact g2,hlen,(λz=>by rw[jao T.gne];exact g4 z),T.gne⟩ (g3.trans Kp.tape)
     ·exact iteF fin
    case fin =>
     refine⟨_,rfl,_,_,rfl,rfl,(by show(0:Int) < 999331;decide),_,rfl,_,_,rfl,rfl,.inl ⟨by decide,by decide⟩,_,rfl,_,_,rfl,rfl,.inl ⟨by omega,by omega⟩,_,_,rfl,rfl,_,_,rfl,rfl,_,_,rfl,rfl,.inr ⟨by decide,by decide⟩,_,_,rfl,rfl,(by show(0:Int) < 999961;decide),?_⟩;refine⟨_,rfl,_,_,rfl,rfl,.inr ⟨by decide,by decide⟩,_,rfl,_,_,rfl,rfl,.inr ⟨by decide,by decide⟩,_,_,rfl,rfl,_,_,rfl,rfl,(by show(0:Int) < 999953;decide),_,_,rfl,rfl,.inr ⟨by decide,by decide⟩,_,_,rfl,rfl,(by show(0:Int) < 524287;decide),_,rfl,_,_,rfl,rfl,hm0,?_⟩;exact k _ _ (Int.emod_nonneg _ (by omega)) (Gw _ hm0) ⟨⟨a+1,b,g1,by omega,by omega⟩,g2,hlen,g4,T.gne⟩ g3
end
end Nb
namespace Nb
open PySem L2 DL
theorem scM {N ps:List Str} {S:Scope} (h1:S.kind=.function:=by rfl) (h2:S.isCoroutine=false:=by rfl) (h3:S.isGenerator=false:=by rfl) (h4:N.Nodup:=by decide +kernel) (h5:N.take ps.length=ps:=by rfl) (h6:∀x∈ps,S.names.lookup x=some .local\/S.names.lookup x=some .cell:=by decide +kernel) (h7:∀y∈S.names,y.2≠.free:=by decide +kernel):FnScope N ps S:=⟨h1,h2,h3,h4,h5,h6,h7⟩
theorem d_cM {X:Cx} {e:Expr} {es:List Expr} {pos p:Pos} {tR:TA} {wR:DTA} {k k':Nat} {ps:List Str} {S:DSp} {x:Str} (h:Has X.prog X.w X.K X.mg X.base k x ps S) (hr:Room k' X.A) (ha:DA X (e::es) tR wR) (hk:k<=k':=by decide) (hg:Gl X x:=by rfl) (hdb:(x==("__debug__":Str))=false:=by decide) (he:Az (e::es) X.env=(false,eval e X.env)::Az es X.env:=by rfl) (hpl:(Dd pos (Az es X.env)).any (·.1)=false:=by rfl):DE X (.Call (.Name x p) (e::es) [] pos) (jlt (spOf S) [] E0 tR) (jam S wR):=j2d h (hr.mono hk) hg ha hdb he hpl
theorem f_cM {X:Cx} {e:Expr} {es:List Expr} {pos p:Pos} {tR:TA} {wR:DTA} {k k':Nat} {ps:List Str} {S:DSpN} {x:Str} (h:HasN X.prog X.w X.K X.mg X.base k x ps S) (hr:Room k' X.A) (ha:DA X (e::es) tR wR) (hk:k<=k':=by decide) (hg:Gl X x:=by rfl) (hdb:(x==("__debug__":Str))=false:=by decide) (he:Az (e::es) X.env=(false,eval e X.env)::Az es X.env:=by rfl) (hpl:(Dd pos (Az es X.env)).any (·.1)=false:=by rfl):DF X (.Call (.Name x p) (e::es) [] pos) (jlt (jrl S) [] E0 tR) (jgi S wR):=j17 h (hr.mono hk) hg ha hdb he hpl
section
variable {fa:Addr} {fd:Cp} {P:Bg} {w:Bt} {K:Ah} {mg:Str->Option Af} {base:Heap}
theorem sc0:FnScope ["thing"] ["thing"] (jai jk7):=scM
theorem joa (F:Fun K "is_whole" "is_whole" jk7 fa fd) (m:mg "is_whole"=some (.ref fa)) (b:Binds K fd ["thing"] []) (z_bool:mg "bool"=none) (z_int:mg "int"=none) (z_isinstance:mg "isinstance"=none):Has P w K mg base 1 "is_whole" ["thing"] jjz:=Has.mk' F m b (Fun.okD F sc0 jnz λcdv A outer s H E hr=>⟨_,jlo,(jar (jax (jx7 (joi (K:=K) (T:="int") (.inl rfl) (by rfl) z_isinstance (by rfl) z_int jz5 (jac 0)) (jr2 (j6z (joi (K:=K) (T:="bool") (.inr (.inl rfl)) (by rfl) z_isinstance (by rfl) z_bool j2l (jac 0))))))),jmx⟩)
abbrev zqc1:List Str:=["field","value","having","bound"]
theorem sc1:FnScope ["field","value","having","bound","head"] zqc1 (jai jhj):=scM
theorem jkm (F:Fun K "field_fits" "field_fits" jhj fa fd) (m:mg "field_fits"=some (.ref fa)) (b:Binds K fd zqc1 []) (z_int:mg "int"=none) (z_isinstance:mg "isinstance"=none) (z_str:mg "str"=none):Has P w K mg base 1 "field_fits" zqc1 S_ff:=Has.mk' F m b (Fun.okD F sc1 jkd λcdv A outer s H E hr=>⟨_,je2,(jah (ja8 (i:=4) sc1.nd rfl (Ar rfl) (jan (K:=K) (jac 0) (jag))) (jah (s_if (jaw (jbk (K:=K) hr.units0) jbj (jac 4) (ja5) (jaq _)) (jar (jax (jku (jbk (K:=K) hr.units0) jbj (jan (K:=K) (jac 0) (jag)) (jac 1) (jaq _)))) jbn) (jah (s_if (jaw (jbk (K:=K) hr.units0) jbj (jac 4) (ja5) (jaq _)) (jar (jax (joi (K:=K) (T:="str") (.inr (.inr (.inl rfl))) (by rfl) z_isinstance (by rfl) z_str jz4 (jac 1)))) jbn) (jah (s_if (jaw (jbk (K:=K) hr.units0) jbj (jac 4) (ja5) (jaq _)) (jar (jax (joi (K:=K) (T:="int") (.inl rfl) (by rfl) z_isinstance (by rfl) z_int jz5 (jac 1)))) jbn) (jah (s_if (jaw (jbk (K:=K) hr.units0) jbj (jac 4) (ja5) (jaq _)) (jar (jax (jx7 (j61 hr.units (jan (K:=K) (jac 0) (jag)) (jea 2)) (jr2 (jku (jbk (K:=K) hr.units0) jbj (jq7 hr.units (jea 2) (jan (K:=K) (jac 0) (jag))) (jac 1) (jaq _)))))) jbn) (jah (s_if (jaw (jbk (K:=K) hr.units0) jbj (jac 4) (ja5) (jaq _)) (jar (jax (d_or (j5s hr.units (jan (K:=K) (jac 0) (jag)) (jea 3)) (jr2 (jku (jbk (K:=K) hr.units0) jbj (jq7 hr.units (jea 3) (jan (K:=K) (jac 0) (jag))) (jac 1) (jaq _)))))) jbn) (jar (jax (d_bl))))))))),jjn⟩)
abbrev zqd1:List Str:=["pattern","row","names"]
theorem sc2:FnScope zqq1 zqd1 (jai jza):=scM
theorem jxv (F:Fun K "fits" "fits" jza fa fd) (m:mg "fits"=some (.ref fa)) (b:Binds K fd zqd1 []) (h_field_fits:Has P w K mg base 1 "field_fits" zqc1 S_ff) (z_dict:mg "dict"=none) (z_len:mg "len"=none) (z_sorted:mg "sorted"=none) (z_tuple:mg "tuple"=none) (z_zip:mg "zip"=none):Has P w K mg base 2 "fits" zqd1 jj4:=Has.mk' F m b (Fun.okD F sc2 jxj λcdv A outer s H E hr=>⟨_,jre,(jah (s_if (jaw jrr jk4 (ja9 (jat (K:=K)) jbb (by rfl) z_len Bc (jaa (jac 0) jae)) (ja9 (jat (K:=K)) jbb (by rfl) z_len Bc (jaa (jac 1) jae)) (jaq _)) (jar (jax (jc3))) jbn) (jah (jnl (i:=3) sc2.nd rfl (Ar rfl) (jqy hr.hd (by rfl) z_dict (jac 2))) (jah (jnl (i:=4) sc2.nd rfl (Ar rfl) j6m) (jah (jed (j6p (K:=K) (by rfl) z_zip (jac 0) (jac 1)) (jjf (K:=K) (jb4 (ja4 (i:=5) sc2.nd rfl (Ar rfl)) (jb4 (ja4 (i:=6) sc2.nd rfl (Ar rfl)) jjd))) (jah (s_if (jr9 (jmv (d_cM h_field_fits hr (jaa (jac 5) (jaa (jac 6) (jaa (jea 3) (jaa (jea 4) jae))))))) (jar (jax (jc3))) jbn) (jar (s_if (jaw (jbk (K:=K) hr.units0) jbj (jan (K:=K) (jac 5) (jag)) (ja5) (jaq _)) (jah (jti (i:=4) hr.units rfl (jan (K:=K) (jac 5) (jag)) (jac 6)) (jar (jti (i:=3) hr.units rfl (jan (K:=K) (jac 5) (jag)) (jac 6)))) jbn)))) (jar (jax (jbu (ja3 (K:=K)) jbx (by rfl) z_tuple jbv (jaa (DF.d (jpu (K:=K) hr.hd (by rfl) z_sorted (jea 3))) jae)))))))),jvk⟩)
theorem sc3:FnScope ["value"] ["value"] (jai jhh):=scM
theorem jkk (F:Fun K "next_value" "next_value" jhh fa fd) (m:mg "next_value"=some (.ref fa)) (b:Binds K fd ["value"] []) (z_isinstance:mg "isinstance"=none) (z_str:mg "str"=none) {tk_GREATEST_NUMBER:Tok} (g_GREATEST_NUMBER:mg "GREATEST_NUMBER"=some (.int 99 tk_GREATEST_NUMBER)):Has P w K mg base 1 "next_value" ["value"] jvt:=Has.mk' F m b (Fun.okD F sc3 jkb λcdv A outer s H E hr=>⟨_,je0,(jah (s_if (jmv (joi (K:=K) (T:="str") (.inr (.inr (.inl rfl))) (by rfl) z_isinstance (by rfl) z_str jz4 (jac 0))) (jar (jax (jac 0))) jbn) (jar (jax (jg4 (jaw (jbk (K:=K) hr.units0) jbj (jac 0) (j5q (by rfl) g_GREATEST_NUMBER) (jaq _)) (jag) (jfu (jac 0) (jag)))))),jjl⟩)
abbrev zqe1:List Str:=["field","having"]
theorem sc4:FnScope ["field","having","value"] zqe1 (jai jga):=scM
theorem jjb (F:Fun K "field_value" "field_value" jga fa fd) (m:mg "field_value"=some (.ref fa)) (b:Binds K fd zqe1 []) (h_next_value:Has P w K mg base 1 "next_value" ["value"] jvt):Has P w K mg base 2 "field_value" zqe1 jhy:=Has.mk' F m b (Fun.okD F sc4 ji6 λcdv A outer s H E hr=>⟨_,jd3,(jah (s_if (jaw (jbk (K:=K) hr.units0) jbj (jan (K:=K) (jac 0) (jag)) (ja5) (jaq _)) (jar (jax (jan (K:=K) (jac 0) (jag)))) jbn) (jah (ja8 (i:=2) sc4.nd rfl (Ar rfl) (jq7 hr.units (jea 1) (jan (K:=K) (jac 0) (jag)))) (jar (jax (jg4 (jaw (jbk (K:=K) hr.units0) jbj (jan (K:=K) (jac 0) (jag)) (ja5) (jaq _)) (d_cM h_next_value hr (jaa (jac 2) jae)) (jac 2)))))),jic⟩)
theorem sc5:FnScope ["template","names","having"] ["template","names"] (jai jqf):=scM
theorem jry (F:Fun K "filled" "filled" jqf fa fd) (m:mg "filled"=some (.ref fa)) (b:Binds K fd ["template","names"] []) (h_field_value:Has P w K mg base 2 "field_value" zqe1 jhy) (z_dict:mg "dict"=none) (z_tuple:mg "tuple"=none):Has P w K mg base 3 "filled" ["template","names"] jgp:=Has.mk' F m b (Fun.okD F sc5 jru λcdv A outer s H E hr=>⟨_,jm3,(jah (jnl (i:=2) sc5.nd rfl (Bz rfl) (jqy hr.hd (by rfl) z_dict (jac 1))) (jar (jax (jbu (ja3 (K:=K)) jbx (by rfl) z_tuple jbv (jaa (DF.d (jfr (N:=zqe1) (cl:=[("having",s.heap.objs.size+1)]) (fr:=[none,some 2]) rfl ⟨by rfl,rfl,by decide +kernel,by decide +kernel,(λx c h=>h),jb2 [(".0",.local),("field",.local),("field_value",.globalImplicit),("having",.cell)] ["having"] rfl rfl (by decide +kernel),rfl,(λj i h=>match j,h with | 0,h=>(by cases h) | 1,h=>(by cases(Aq (Aq h)).symm;exact⟨"having",rfl,rfl,Bz (Ar rfl),Ar rfl,Ar rfl,rfl⟩) | (j+2),h=>(by have h2:(none:Option (Option Nat))=some (some i):=h;cases h2))⟩ (jgh (K:=K) (jac 0)) (λ_ _ _=>(ja4 (i:=0) (show(zqe1:List Str).Nodup by decide +kernel) rfl (Ar rfl))) (λ_ _ _=>jq1) (λ_ _ _=>(d_cM h_field_value hr (jaa (jac 0) (jaa (jea 1) jae)))) (jcm 0))) jae))))),jp0⟩)
theorem sc6:FnScope zqo1 zqo1 (jai jip):=scM
theorem jmf (F:Fun K "is_within" "is_within" jip fa fd) (m:mg "is_within"=some (.ref fa)) (b:Binds K fd zqo1 []) (h_is_whole:Has P w K mg base 1 "is_whole" ["thing"] jjz):Has P w K mg base 2 "is_within" zqo1 jgn:=Has.mk' F m b (Fun.okD F sc6 jl7 λcdv A outer s H E hr=>⟨_,jf4,(jar (jax (jx7 (d_cM h_is_whole hr (jaa (jac 0) jae)) (jr2 (j2c jzk jy3 jzk jy3 (jag) (jac 0) (jac 1)))))),jkx⟩)
abbrev zqb:List Str:=["programs","stand","hand"]
theorem sc7:FnScope ["programs","stand","hand","block","place","acts"] zqb (jai jk6):=scM
theorem jn9 (F:Fun K "next_act" "next_act" jk6 fa fd) (m:mg "next_act"=some (.ref fa)) (b:Binds K fd zqb []) (z_len:mg "len"=none):Has P w K mg base 1 "next_act" zqb jch:=Has.mk' F m b (Fun.okD F sc7 jhv λcdv A outer s H E hr=>⟨_,jha,(jah (ja8 (i:=3) sc7.nd rfl (Ar rfl) (jan (K:=K) (jan (K:=K) (jan (K:=K) (jac 1) (jag)) (jac 2)) (jag))) (jah (ja8 (i:=4) sc7.nd rfl (Ar rfl) (jan (K:=K) (jan (K:=K) (jan (K:=K) (jac 1) (jag)) (jac 2)) (jag))) (jah (ja8 (i:=5) sc7.nd rfl (Ar rfl) (jan (K:=K) (jan (K:=K) (jan (K:=K) (jac 0) (jac 2)) (jac 3)) (jag))) (jar (jax (jg4 (jaw jhr jhg (jac 4) (ja9 (jat (K:=K)) jbb (by rfl) z_len Bc (jaa (jac 5) jae)) (jaq _)) (jan (K:=K) (jac 5) (jac 4)) (jc3))))))),jmw⟩)
theorem sc8:FnScope zqn1 zqb (jai jy9):=scM
theorem jxu (F:Fun K "gets" "gets" jy9 fa fd) (m:mg "gets"=some (.ref fa)) (b:Binds K fd ["programs","stand","hand"] []) (h_fits:Has P w K mg base 2 "fits" ["pattern","row","names"] jj4) (h_next_act:Has P w K mg base 1 "next_act" ["programs","stand","hand"] jch) (z_enumerate:mg "enumerate"=none) {q_GETTING:Addr} (g_GETTING:mg "GETTING"=some (.ref q_GETTING)) (t_GETTING:∀H,SqT K H q_GETTING ((["take","read","look"]:List Str).map V.str)):Has P w K mg base 3 "gets" ["programs","stand","hand"] jfw:=Has.mk' F m b (Fun.okD F sc8 jxi λcdv A outer s H E hr=>⟨_,jvr,(jah (ja8 (i:=3) sc8.nd rfl (Ar rfl) (d_cM h_next_act hr (jaa (jac 0) (jaa (jac 1) (jaa (jac 2) jae))))) (jah (s_if (DCW.cc (cw_or (jaw jhs jeg (jac 3) (jc3) (jaq _)) (cw_or1 (j5y (K:=K) (hs:=["take","read","look"]) (jan (K:=K) (jac 3) (jag)) (by rfl) g_GETTING t_GETTING)))) (jar (jax (jc3))) jbn) (jah (ja8 (i:=4) sc8.nd rfl (Ar rfl) (jan (K:=K) (jan (K:=K) (jan (K:=K) (jac 1) (jag)) (jac 2)) (jag))) (jah (j3n (i:=5) sc8.nd rfl (Ar rfl)) (jah (jed (j49 (K:=K) (by rfl) z_enumerate (jan (K:=K) (jac 1) (jag))) (jjf (K:=K) (jb4 (ja4 (i:=6) sc8.nd rfl (Ar rfl)) (jb4 (ja4 (i:=7) sc8.nd rfl (Ar rfl)) jjd))) (jar (s_if (j5x (i:=5) hr.units rfl (jan (K:=K) (jac 7) (jag))) (jah (s_if (jaw jgs jfa (d_cM h_fits hr (jaa (jan (K:=K) (jac 3) (jag)) (jaa (jan (K:=K) (jac 7) (jag)) (jaa (jac 4) jae)))) (jc3) (jaq _)) (jar (jax (jac 6))) jbn) (jar (j3l (i:=5) hr.units rfl (jan (K:=K) (jac 7) (jag)) (d_bl)))) jbn))) (jar (jax (jc3)))))))),jvj⟩)
theorem sc9:FnScope zqi zqb (jai jk8):=scM
theorem job (F:Fun K "is_ready" "is_ready" jk8 fa fd) (m:mg "is_ready"=some (.ref fa)) (b:Binds K fd zqb []) (h_gets:Has P w K mg base 3 "gets" zqb jfw) (h_next_act:Has P w K mg base 1 "next_act" zqb jch):Has P w K mg base 4 "is_ready" zqb jdu:=Has.mk' F m b (Fun.okD F sc9 jn0 λcdv A outer s H E hr=>⟨_,jhb,(jah (ja8 (i:=3) sc9.nd rfl (Ar rfl) (d_cM h_next_act hr (jaa (jac 0) (jaa (jac 1) (jaa (jac 2) jae))))) (jah (s_if (jaw jhs jeg (jac 3) (jc3) (jaq _)) (jar (jax (d_bl))) jbn) (jar (jax (d_or (jku (jdr (K:=K)) jdp (jan (K:=K) (jac 3) (jag)) (jbe (jaa (ja5) (jaa (ja5) jae))) (by with_unfolding_all rfl)) (jr2 (jku jgs jfa (d_cM h_gets hr (jaa (jac 0) (jaa (jac 1) (jaa (jac 2) jae)))) (jc3) (jaq _)))))))),jmy⟩)
theorem sc10:FnScope zqs zqs (jai jth):=scM
theorem jux (F:Fun K "ready" "ready" jth fa fd) (m:mg "ready"=some (.ref fa)) (b:Binds K fd zqs []) (h_is_ready:Has P w K mg base 4 "is_ready" zqb jdu) (z_len:mg "len"=none) (z_range:mg "range"=none):HasN P w K mg base 5 "ready" zqs jc7:=HasN.mk' F m b (Fun.okN F sc10 jue λcdv A outer s H E hr=>⟨_,jp2,(jar (j3k (jfr (N:=["hand","programs","stand"]) (cl:=[("stand",s.heap.objs.size+2),("programs",s.heap.objs.size+1)]) (fr:=[none,some 0,some 1]) rfl ⟨by rfl,rfl,by decide +kernel,by decide +kernel,(jfd (by intro y hy;simp only[Ao,Aw,or_false]at hy;rcases hy with rfl | rfl<;>rfl)),jb2 [(".0",.local),("hand",.local),("is_ready",.globalImplicit),("programs",.cell),("stand",.cell)] ["stand","programs"] rfl rfl (by decide +kernel),rfl,(λj i h=>match j,h with | 0,h=>(by cases h) | 1,h=>(by cases(Aq (Aq h)).symm;exact⟨"programs",rfl,rfl,Bz (Ar rfl),Ar rfl,Ar rfl,rfl⟩) | 2,h=>(by cases(Aq (Aq h)).symm;exact⟨"stand",rfl,rfl,Bz (Ar rfl),Ar rfl,Ar rfl,rfl⟩) | (j+3),h=>(by have h2:(none:Option (Option Nat))=some (some i):=h;cases h2))⟩ (jbs (by rfl) z_range (ja9 (jat (K:=K)) jbb (by rfl) z_len Bc (jaa (jac 0) jae))) (λ_ _ _=>(ja4 (i:=0) (show(["hand","programs","stand"]:List Str).Nodup by decide +kernel) rfl (Ar rfl))) (λ_ _ _=>(jhw (jmv (d_cM h_is_ready hr (jaa (jac 1) (jaa (jac 2) (jaa (jac 0) jae))))))) (λ_ _ _=>(jac 0)) (jcm 0)))),jsa⟩)
theorem sc11:FnScope zqh1 zqh1 (jai jnn):=scM
theorem jps (F:Fun K "gone_on" "gone_on" jnn fa fd) (m:mg "gone_on"=some (.ref fa)) (b:Binds K fd zqh1 []):Has P w K mg base 1 "gone_on" zqh1 jm4:=Has.mk' F m b (Fun.okD F sc11 jpm λcdv A outer s H E hr=>⟨_,jjx,(jar (jax (jbe (jaa (jan (K:=K) (jac 0) (jag)) (jaa (jfu (jan (K:=K) (jac 0) (jag)) (jag)) (jaa (jac 1) jae)))))),jop⟩)
abbrev zqa1:List Str:=["program","block","names"]
theorem sc12:FnScope ["program","block","names","wanted"] zqa1 (jai jnm):=scM
theorem jpr (F:Fun K "gone_to" "gone_to" jnm fa fd) (m:mg "gone_to"=some (.ref fa)) (b:Binds K fd zqa1 []) (z_tuple:mg "tuple"=none):Has P w K mg base 1 "gone_to" zqa1 jo4:=Has.mk' F m b (Fun.okD F sc12 jpl λcdv A outer s H E hr=>⟨_,jjw,(jah (ja8 (i:=3) sc12.nd rfl (Bz rfl) (jan (K:=K) (jan (K:=K) (jac 0) (jac 1)) (jag))) (jar (jax (jbe (jaa (jac 1) (jaa (jag) (jaa (jbu (ja3 (K:=K)) jbx (by rfl) z_tuple jbv (jaa (DF.d (jfr (N:=["pair","wanted"]) (cl:=[("wanted",s.heap.objs.size+1)]) (fr:=[none,some 3]) rfl ⟨by rfl,rfl,by decide +kernel,by decide +kernel,(λx c h=>h),jb2 [(".0",.local),("pair",.local),("wanted",.cell)] ["wanted"] rfl rfl (by decide +kernel),rfl,(λj i h=>match j,h with | 0,h=>(by cases h) | 1,h=>(by cases(Aq (Aq h)).symm;exact⟨"wanted",rfl,rfl,Bz (Ar rfl),Ar rfl,Ar rfl,rfl⟩) | (j+2),h=>(by have h2:(none:Option (Option Nat))=some (some i):=h;cases h2))⟩ (jgh (K:=K) (jac 2)) (λ_ _ _=>(ja4 (i:=0) (show(["pair","wanted"]:List Str).Nodup by decide +kernel) rfl (Ar rfl))) (λ_ _ _=>(jhw (jaw (jix (K:=K)) jdp (jan (K:=K) (jac 0) (jag)) (jac 1) (by with_unfolding_all rfl)))) (λ_ _ _=>(jac 0)) (jcm 0))) jae)) jae))))))),joo⟩)
theorem sc13:FnScope zqr zqr (jai jio):=scM
theorem jme (F:Fun K "with_hand" "with_hand" jio fa fd) (m:mg "with_hand"=some (.ref fa)) (b:Binds K fd zqr []):Has P w K mg base 1 "with_hand" zqr jec:=Has.mk' F m b (Fun.okD F sc13 jl6 λcdv A outer s H E hr=>⟨_,jf3,(jar (jax (joj (K:=K) (joj (K:=K) (jew (K:=K) (jac 0) jhu (jht (jac 1))) (jbe (jaa (jac 2) jae))) (jew (K:=K) (jac 0) (jht (jfu (jac 1) (jag))) jhu)))),jkw⟩)
theorem sc14:FnScope zql1 zqi (jai j3o):=scM
theorem j11 (F:Fun K "got" "got" j3o fa fd) (m:mg "got"=some (.ref fa)) (b:Binds K fd zqi []) (h_fits:Has P w K mg base 2 "fits" zqd1 jj4) (h_gets:Has P w K mg base 3 "gets" zqb jfw) (h_gone_on:Has P w K mg base 1 "gone_on" zqh1 jm4) (h_gone_to:Has P w K mg base 1 "gone_to" zqa1 jo4) (h_with_hand:Has P w K mg base 1 "with_hand" zqr jec):Has P w K mg base 4 "got" zqi jj1:=Has.mk' F m b (Fun.okD F sc14 j1u λcdv A outer s H E hr=>⟨_,jyq,(jah (ja8 (i:=4) sc14.nd rfl (Ar rfl) (jan (K:=K) (jan (K:=K) (jac 1) (jag)) (jac 2))) (jah (ja8 (i:=5) sc14.nd rfl (Ar rfl) (jan (K:=K) (jac 1) (jag))) (jah (ja8 (i:=6) sc14.nd rfl (Ar rfl) (d_cM h_gets hr (jaa (jac 0) (jaa (jac 1) (jaa (jac 2) jae))))) (jah (s_if (jaw jhs jeg (jac 6) (jc3) (jaq _)) (jah (s_if (jaw jrr jk4 (jan (K:=K) (jac 3) (jag)) (ja5) (jaq _)) (jar (jax (jc3))) jbn) (jar (jax (jbe (jaa (d_cM h_with_hand hr (jaa (jan (K:=K) (jac 1) (jag)) (jaa (jac 2) (jaa (d_cM h_gone_to hr (jaa (jan (K:=K) (jac 0) (jac 2)) (jaa (jan (K:=K) (jac 3) (jag)) (jaa (jan (K:=K) (jac 4) (jag)) jae)))) jae)))) (jaa (jac 5) jae)))))) jbn) (jah (ja8 (i:=7) sc14.nd rfl (Ar rfl) (d_cM h_fits hr (jaa (jan (K:=K) (jac 3) (jag)) (jaa (jan (K:=K) (jan (K:=K) (jac 5) (jac 6)) (jag)) (jaa (jan (K:=K) (jac 4) (jag)) jae))))) (jah (s_if (jaw (jbk (K:=K) hr.units0) jbj (jan (K:=K) (jac 3) (jag)) (ja5) (jaq _)) (jar (ja8 (i:=5) sc14.nd rfl (Ar rfl) (joj (K:=K) (jew (K:=K) (jac 5) jhu (jht (jac 6))) (jew (K:=K) (jac 5) (jht (jfu (jac 6) (jag))) jhu)))) jbn) (jar (jax (jbe (jaa (d_cM h_with_hand hr (jaa (jan (K:=K) (jac 1) (jag)) (jaa (jac 2) (jaa (d_cM h_gone_on hr (jaa (jac 4) (jaa (jac 7) jae))) jae)))) (jaa (jac 5) jae))))))))))),jyi⟩)
theorem sc15:FnScope ["act","names","having"] ["act","names"] (jai jei):=scM
theorem jgw (F:Fun K "is_same_value" "is_same_value" jei fa fd) (m:mg "is_same_value"=some (.ref fa)) (b:Binds K fd ["act","names"] []) (h_field_value:Has P w K mg base 2 "field_value" zqe1 jhy) (z_dict:mg "dict"=none):Has P w K mg base 3 "is_same_value" ["act","names"] jox:=Has.mk' F m b (Fun.okD F sc15 jgt λcdv A outer s H E hr=>⟨_,jc4,(jah (jnl (i:=2) sc15.nd rfl (Ar rfl) (jqy hr.hd (by rfl) z_dict (jac 1))) (jar (jax (jku (jbk (K:=K) hr.units0) jbj (d_cM h_field_value hr (jaa (jan (K:=K) (jac 0) (jag)) (jaa (jea 2) jae))) (d_cM h_field_value hr (jaa (jan (K:=K) (jac 0) (jag)) (jaa (jea 2) jae))) (jaq _))))),jgk⟩)
theorem sc16:FnScope zqr1 zqb (jai jhi):=scM
theorem jkl (F:Fun K "hand_moved" "hand_moved" jhi fa fd) (m:mg "hand_moved"=some (.ref fa)) (b:Binds K fd ["programs","stand","hand"] []) (h_filled:Has P w K mg base 3 "filled" ["template","names"] jgp) (h_gone_on:Has P w K mg base 1 "gone_on" ["place","names"] jm4) (h_gone_to:Has P w K mg base 1 "gone_to" ["program","block","names"] jo4) (h_got:Has P w K mg base 4 "got" ["programs","stand","hand","act"] jj1) (h_is_same_value:Has P w K mg base 3 "is_same_value" ["act","names"] jox) (h_next_act:Has P w K mg base 1 "next_act" ["programs","stand","hand"] jch) (h_with_hand:Has P w K mg base 1 "with_hand" ["hands","hand","place"] jec) {q_GETTING:Addr} (g_GETTING:mg "GETTING"=some (.ref q_GETTING)) (t_GETTING:∀H,SqT K H q_GETTING ((["take","read","look"]:List Str).map V.str)):Has P w K mg base 5 "hand_moved" ["programs","stand","hand"] jo3:=Has.mk' F m b (Fun.okD F sc16 jkc λcdv A outer s H E hr=>⟨_,je1,(jah (ja8 (i:=3) sc16.nd rfl (Ar rfl) (d_cM h_next_act hr (jaa (jac 0) (jaa (jac 1) (jaa (jac 2) jae))))) (jah (s_if (jaw jhs jeg (jac 3) (jc3) (jaq _)) (jar (jax (jc3))) jbn) (jah (s_if (j65 (K:=K) (hs:=["take","read","look"]) (jan (K:=K) (jac 3) (jag)) (by rfl) g_GETTING t_GETTING) (jar (jax (d_cM h_got hr (jaa (jac 0) (jaa (jac 1) (jaa (jac 2) (jaa (jac 3) jae))))))) jbn) (jah (ja8 (i:=4) sc16.nd rfl (Ar rfl) (jan (K:=K) (jan (K:=K) (jac 1) (jag)) (jac 2))) (jah (ja8 (i:=5) sc16.nd rfl (Ar rfl) (jan (K:=K) (jac 1) (jag))) (jah (ja8 (i:=6) sc16.nd rfl (Ar rfl) (jan (K:=K) (jac 4) (jag))) (jah (s_if (jaw (jbk (K:=K) hr.units0) jbj (jan (K:=K) (jac 3) (jag)) (ja5) (jaq _)) (jah (ja8 (i:=5) sc16.nd rfl (Ar rfl) (joj (K:=K) (jac 5) (jbe (jaa (jbe (jaa (d_cM h_filled hr (jaa (jan (K:=K) (jac 3) (jag)) (jaa (jac 6) jae))) (jaa (jan (K:=K) (jac 3) (jag)) jae))) jae)))) (jar (ja8 (i:=4) sc16.nd rfl (Ar rfl) (d_cM h_gone_on hr (jaa (jac 4) (jaa (jac 6) jae)))))) (jar (s_if (DCW.cc (cw_and (jaw (jbk (K:=K) hr.units0) jbj (jan (K:=K) (jac 3) (jag)) (ja5) (jaq _)) (cw_and1 (jmv (d_cM h_is_same_value hr (jaa (jac 3) (jaa (jac 6) jae))))))) (jar (ja8 (i:=4) sc16.nd rfl (Ar rfl) (d_cM h_gone_on hr (jaa (jac 4) (jaa (jac 6) jae))))) (jar (ja8 (i:=4) sc16.nd rfl (Ar rfl) (d_cM h_gone_to hr (jaa (jan (K:=K) (jac 0) (jac 2)) (jaa (jan (K:=K) (jac 3) (j5p (jag))) (jaa (jac 6) jae))))))))) (jar (jax (jbe (jaa (d_cM h_with_hand hr (jaa (jan (K:=K) (jac 1) (jag)) (jaa (jac 2) (jaa (jac 4) jae)))) (jaa (jac 5) jae)))))))))))),jjm⟩)
theorem sc17:FnScope ["note"] ["note"] (jai jzb):=scM
theorem jxw (F:Fun K "aged" "aged" jzb fa fd) (m:mg "aged"=some (.ref fa)) (b:Binds K fd ["note"] []):Has P w K mg base 1 "aged" ["note"] jo5:=Has.mk' F m b (Fun.okD F sc17 jxk λcdv A outer s H E hr=>⟨_,jvs,(jar (jax (jg4 (jaw jhs jeg (jan (K:=K) (jac 0) (jag)) (jc3) (jaq _)) (jac 0) (jbe (jaa (jan (K:=K) (jac 0) (jag)) (jaa (ju8 (jan (K:=K) (jac 0) (jag)) (jag)) jae)))))),jvl⟩)
theorem sc18:FnScope ["stand"] ["stand"] (jai jgb):=scM
theorem jjc (F:Fun K "clock_moved" "clock_moved" jgb fa fd) (m:mg "clock_moved"=some (.ref fa)) (b:Binds K fd ["stand"] []) (h_aged:Has P w K mg base 1 "aged" ["note"] jo5) (z_tuple:mg "tuple"=none):Has P w K mg base 2 "clock_moved" ["stand"] jj5:=Has.mk' F m b (Fun.okD F sc18 ji7 λcdv A outer s H E hr=>⟨_,jd4,(jar (jax (jbe (jaa (jan (K:=K) (jac 0) (jag)) (jaa (jbu (ja3 (K:=K)) jbx (by rfl) z_tuple jbv (jaa (DF.d (jfr (N:=["note"]) (cl:=[]) (fr:=[none]) rfl ⟨by rfl,rfl,by decide +kernel,by decide +kernel,(λx c h=>nomatch h),jb2 [(".0",.local),("note",.local),("aged",.globalImplicit)] [] rfl rfl (by decide +kernel),rfl,(λj i h=>match j,h with | 0,h=>(by cases h) | (j+1),h=>(by have h2:(none:Option (Option Nat))=some (some i):=h;cases h2))⟩ (jgh (K:=K) (jan (K:=K) (jac 0) (jag))) (λ_ _ _=>(ja4 (i:=0) (show(["note"]:List Str).Nodup by decide +kernel) rfl (Ar rfl))) (λ_ _ _=>(jhw (jaw jrr jk4 (jan (K:=K) (jac 0) (jag)) (jag) (jaq _)))) (λ_ _ _=>(d_cM h_aged hr (jaa (jac 0) jae))) (jcm 0))) jae)) jae))))),jid⟩)
abbrev zqg:List Str:=["programs","stand","mover"]
theorem sc19:FnScope ["programs","stand","mover","clock"] zqg (jai jtk):=scM
theorem juz (F:Fun K "after" "after" jtk fa fd) (m:mg "after"=some (.ref fa)) (b:Binds K fd zqg []) (h_clock_moved:Has P w K mg base 2 "clock_moved" ["stand"] jj5) (h_hand_moved:Has P w K mg base 5 "hand_moved" zqb jo3) (h_is_within:Has P w K mg base 2 "is_within" zqo1 jgn) (z_len:mg "len"=none):Has P w K mg base 6 "after" zqg jj6:=Has.mk' F m b (Fun.okD F sc19 jug λcdv A outer s H E hr=>⟨_,jp4,(jah (ja8 (i:=3) sc19.nd rfl (Ar rfl) (ja9 (jat (K:=K)) jbb (by rfl) z_len Bc (jaa (jac 0) jae))) (jah (s_if (jr9 (jmv (d_cM h_is_within hr (jaa (jac 2) (jaa (jac 3) jae))))) (jar (jax (jc3))) jbn) (jar (jax (jg4 (jaw (jbk (K:=K) hr.units0) jbj (jac 2) (jac 3) (jaq _)) (d_cM h_clock_moved hr (jaa (jac 1) jae)) (d_cM h_hand_moved hr (jaa (jac 0) (jaa (jac 1) (jaa (jac 2) jae))))))))),jsc⟩)
theorem sc20:FnScope ["programs","stand","mover","behind"] zqg (jai jtj):=scM
theorem juy (F:Fun K "moved" "moved" jtj fa fd) (m:mg "moved"=some (.ref fa)) (b:Binds K fd zqg []) (h_after:Has P w K mg base 6 "after" zqg jj6):Has P w K mg base 7 "moved" zqg je9:=Has.mk' F m b (Fun.okD F sc20 juf λcdv A outer s H E hr=>⟨_,jp3,(jah (ja8 (i:=3) sc20.nd rfl (Ar rfl) (d_cM h_after hr (jaa (jac 0) (jaa (jac 1) (jaa (jac 2) jae))))) (jah (s_if (jaw jhs jeg (jac 3) (jc3) (jaq _)) j58 jbn) (jar (jax (jac 3))))),jsb⟩)
theorem sc21:FnScope zqa zqa (jai jhk):=scM
theorem jkn (F:Fun K "_law_value" "_law_value" jhk fa fd) (m:mg "_law_value"=some (.ref fa)) (b:Binds K fd zqa []) (jaf:Has P w K mg base 1 "_law_draw" zqd jav):Has P w K mg base 2 "_law_value" zqa jck:=Has.mk' F m b (Fun.okD F sc21 jke λcdv A outer s H E hr=>⟨_,je3,(jar (jax (jan (K:=K) (DF.d (jb5 (jaa (ja5) (jaa (jag) (jaa (ja5) (jaa (jag) (jaa (ja5) (jaa (ja5) (jaa (jag) (jaa (jag) jae)))))))))) (d_cM jaf hr (jaa (jac 0) (jaa (jag) jae)))))),jjo⟩)
theorem sc22:FnScope zqa zqa (jai jir):=scM
theorem jmh (F:Fun K "_law_size" "_law_size" jir fa fd) (m:mg "_law_size"=some (.ref fa)) (b:Binds K fd zqa []) (jaf:Has P w K mg base 1 "_law_draw" zqd jav):Has P w K mg base 2 "_law_size" zqa jfv:=Has.mk' F m b (Fun.okD F sc22 jl9 λcdv A outer s H E hr=>⟨_,jf6,(jar (jax (jan (K:=K) (DF.d (jb5 (jaa (jag) (jaa (jag) (jaa (jag) (jaa (jag) (jaa (jag) (jaa (jag) (jaa (jag) jae))))))))) (d_cM jaf hr (jaa (jac 0) (jaa (jag) jae)))))),jkz⟩)
theorem sc23:FnScope zqa zqa (jai jk9):=scM
theorem joc (F:Fun K "_law_age" "_law_age" jk9 fa fd) (m:mg "_law_age"=some (.ref fa)) (b:Binds K fd zqa []) (jaf:Has P w K mg base 1 "_law_draw" zqd jav) (z_len:mg "len"=none):Has P w K mg base 2 "_law_age" zqa jk2:=Has.mk' F m b (Fun.okD F sc23 jn1 λcdv A outer s H E hr=>⟨_,jhc,(jar (jax (jfl (K:=K) (j5n (K:=K) (ix:=3) 0) (d_cM jaf hr (jaa (jac 0) (jaa (ja9 (jat (K:=K)) jdv (by rfl) z_len Bc (jaa (j5n (K:=K) (ix:=3) 0) jae)) jae)))))),jmz⟩)
theorem sc24:FnScope zqv zqc (jai jfo):=scM
theorem jh8 (F:Fun K "_law_pattern" "_law_pattern" jfo fa fd) (m:mg "_law_pattern"=some (.ref fa)) (b:Binds K fd ["_law_tape_here","_law_known_here"] []) (jaf:Has P w K mg base 1 "_law_draw" ["_law_tape_here","_law_many"] jav) (jbt:Has P w K mg base 2 "_law_size" ["_law_tape_here"] jfv) (jau:Has P w K mg base 2 "_law_value" ["_law_tape_here"] jck) (z_len:mg "len"=none) (z_range:mg "range"=none) (z_tuple:mg "tuple"=none):Has P w K mg base 3 "_law_pattern" ["_law_tape_here","_law_known_here"] jo2:=Has.mk' F m b (Fun.okD F sc24 jh6 λcdv A outer s H E hr=>⟨_,jdo,(jah (jh1 (i:=2) sc24.nd rfl (Ar rfl) (jb5 jae)) (jah (jh1 (i:=3) sc24.nd rfl (Ar rfl) (jb5 jae)) (jah (jed (jbs (by rfl) z_range (d_cM jbt hr (jaa (jac 0) jae))) (ja4 (i:=4) sc24.nd rfl (Ar rfl)) (jah (ja8 (i:=5) sc24.nd rfl (Ar rfl) (d_cM jaf hr (jaa (jac 0) (jaa (jag) jae)))) (jah (ja8 (i:=6) sc24.nd rfl (Ar rfl) (j5t (jac 1) (joh 3))) (jar (s_if (jaw jhr jhg (jac 5) (jag) (jaq _)) (jar (jgc (i:=2) rfl (jbe (jaa (ja5) (jaa (d_cM jau hr (jaa (jac 0) jae)) jae))))) (jar (s_if (jaw jhr jhg (jac 5) (jag) (jaq _)) (jar (jgc (i:=2) rfl (jfl (K:=K) (DF.d (jb5 (jaa (jbe (jaa (ja5) jae)) (jaa (jbe (jaa (ja5) jae)) (jaa (jbe (jaa (ja5) jae)) jae))))) (ju8 (jac 5) (jag))))) (jar (s_if (DCW.cc (cw_or (jaw jhr jhg (jac 5) (jag) (jaq _)) (cw_or1 (jaw (jbk (K:=K) hr.units0) jdw (jac 6) (DF.d (jb5 jae)) (jaq _))))) (jah (ja8 (i:=7) sc24.nd rfl (Ar rfl) (jfl (K:=K) (DF.d (jb5 (jaa (ja5) (jaa (ja5) (jaa (ja5) (jaa (ja5) jae)))))) (d_cM jaf hr (jaa (jac 0) (jaa (jag) jae))))) (jah (jgc (i:=3) rfl (jac 7)) (jar (jgc (i:=2) rfl (jbe (jaa (ja5) (jaa (jac 7) jae))))))) (jar (jgc (i:=2) rfl (jbe (jaa (ja5) (jaa (jfl (K:=K) (jac 6) (d_cM jaf hr (jaa (jac 0) (jaa (ja9 (jat (K:=K)) jdv (by rfl) z_len Bc (jaa (jac 6) jae)) jae)))) jae)))))))))))))) (jh2 2 (jh2 3 (jar (jax (jbe (jaa (jbu (ja3 (K:=K)) jcl (by rfl) z_tuple jbv (jaa (jac 2) jae)) (jaa (jac 3) jae)))))))))),jg9⟩)
theorem sc25:FnScope zqk1 zqc (jai jej):=scM
theorem jgx (F:Fun K "_law_template" "_law_template" jej fa fd) (m:mg "_law_template"=some (.ref fa)) (b:Binds K fd ["_law_tape_here","_law_known_here"] []) (jaf:Has P w K mg base 1 "_law_draw" ["_law_tape_here","_law_many"] jav) (jbt:Has P w K mg base 2 "_law_size" ["_law_tape_here"] jfv) (jau:Has P w K mg base 2 "_law_value" ["_law_tape_here"] jck) (z_len:mg "len"=none) (z_range:mg "range"=none) (z_tuple:mg "tuple"=none):Has P w K mg base 3 "_law_template" ["_law_tape_here","_law_known_here"] jo1:=Has.mk' F m b (Fun.okD F sc25 jgu λcdv A outer s H E hr=>⟨_,jc5,(jah (jh1 (i:=2) sc25.nd rfl (Ar rfl) (jb5 jae)) (jah (jed (jbs (by rfl) z_range (d_cM jbt hr (jaa (jac 0) jae))) (ja4 (i:=3) sc25.nd rfl (Ar rfl)) (jah (ja8 (i:=4) sc25.nd rfl (Ar rfl) (d_cM jaf hr (jaa (jac 0) (jaa (jag) jae)))) (jar (s_if (DCW.cc (cw_or (jaw jhr jhg (jac 4) (jag) (jaq _)) (cw_or1 (jaw (jbk (K:=K) hr.units0) jdw (jac 1) (DF.d (jb5 jae)) (jaq _))))) (jar (jgc (i:=2) rfl (jbe (jaa (ja5) (jaa (d_cM jau hr (jaa (jac 0) jae)) jae))))) (jar (jgc (i:=2) rfl (jbe (jaa (jfl (K:=K) (DF.d (jb5 (jaa (ja5) (jaa (ja5) (jaa (ja5) jae))))) (ju8 (jac 4) (jag))) (jaa (jfl (K:=K) (jac 1) (d_cM jaf hr (jaa (jac 0) (jaa (ja9 (jat (K:=K)) jdv (by rfl) z_len Bc (jaa (jac 1) jae)) jae)))) jae))))))))) (jh2 2 (jar (jax (jbu (ja3 (K:=K)) jcl (by rfl) z_tuple jbv (jaa (jac 2) jae))))))),jgl⟩)
theorem sc26:FnScope zqc zqc (jai jiq):=scM
theorem jmg (F:Fun K "_law_term" "_law_term" jiq fa fd) (m:mg "_law_term"=some (.ref fa)) (b:Binds K fd ["_law_tape_here","_law_known_here"] []) (jaf:Has P w K mg base 1 "_law_draw" ["_law_tape_here","_law_many"] jav) (jau:Has P w K mg base 2 "_law_value" ["_law_tape_here"] jck) (z_len:mg "len"=none):Has P w K mg base 3 "_law_term" ["_law_tape_here","_law_known_here"] jhe:=Has.mk' F m b (Fun.okD F sc26 jl8 λcdv A outer s H E hr=>⟨_,jf5,(jah (s_if (DCW.cc (cw_or (jaw (jbk (K:=K) hr.units0) jdw (jac 1) (DF.d (jb5 jae)) (jaq _)) (cw_or1 (jaw (jbk (K:=K) hr.units0) jdw (d_cM jaf hr (jaa (jac 0) (jaa (jag) jae))) (jag) (jaq _))))) (jar (jax (jbe (jaa (ja5) (jaa (d_cM jau hr (jaa (jac 0) jae)) jae))))) jbn) (jar (jax (jbe (jaa (ja5) (jaa (jfl (K:=K) (jac 1) (d_cM jaf hr (jaa (jac 0) (jaa (ja9 (jat (K:=K)) jdv (by rfl) z_len Bc (jaa (jac 1) jae)) jae)))) jae)))))),jky⟩)
abbrev zqm:List Str:=["_law_tape_here","_law_known_here","_law_open_ones"]
theorem sc27:FnScope zqu zqm (jai jla):=scM
theorem jod (F:Fun K "_law_act" "_law_act" jla fa fd) (m:mg "_law_act"=some (.ref fa)) (b:Binds K fd zqm []) (jbz:Has P w K mg base 2 "_law_age" zqa jk2) (jaf:Has P w K mg base 1 "_law_draw" zqd jav) (jdk:Has P w K mg base 3 "_law_pattern" zqc jo2) (jc2:Has P w K mg base 3 "_law_template" zqc jo1) (jd0:Has P w K mg base 3 "_law_term" zqc jhe) (z_len:mg "len"=none):Has P w K mg base 4 "_law_act" zqm jj3:=Has.mk' F m b (Fun.okD F sc27 jn2 λcdv A outer s H E hr=>⟨_,jhd,(jah (ja8 (i:=3) sc27.nd rfl (Ar rfl) (d_cM jaf hr (jaa (jac 0) (jaa (jag) jae)))) (jah (s_if (jaw jhr jhg (jac 3) (jag) (jaq _)) (jar (jax (jbe (jaa (jbe (jaa (ja5) (jaa (d_cM jc2 hr (jaa (jac 0) (jaa (jac 1) jae))) (jaa (d_cM jbz hr (jaa (jac 0) jae)) jae)))) (jaa (DF.d (jb5 jae)) jae))))) jbn) (jah (ja8 (i:=4) sc27.nd rfl (Ar rfl) (jfl (K:=K) (jac 2) (d_cM jaf hr (jaa (jac 0) (jaa (ja9 (jat (K:=K)) jdv (by rfl) z_len Bc (jaa (jac 2) jae)) jae))))) (jah (s_if (jaw (jbk (K:=K) hr.units0) jdw (jac 3) (jag) (jaq _)) (jar (jax (jbe (jaa (jbe (jaa (ja5) (jaa (d_cM jd0 hr (jaa (jac 0) (jaa (jac 1) jae))) (jaa (d_cM jd0 hr (jaa (jac 0) (jaa (jac 1) jae))) (jaa (jac 4) jae))))) (jaa (DF.d (jb5 jae)) jae))))) jbn) (jah (s_if (jaw (jbk (K:=K) hr.units0) jdw (jac 3) (jag) (jaq _)) (jar (jax (jbe (jaa (jbe (jaa (ja5) (jaa (jac 4) jae))) (jaa (DF.d (jb5 jae)) jae))))) jbn) (jah (j0y (d_cM jdk hr (jaa (jac 0) (jaa (jac 1) jae))) (jjf (K:=K) (jb4 (ja4 (i:=5) sc27.nd rfl (Ar rfl)) (jb4 (ja4 (i:=6) sc27.nd rfl (Ar rfl)) jjd)))) (jah (s_if (jaw jt7 js7 (jac 3) (jag) (jaq _)) (jar (jax (jbe (jaa (jbe (jaa (ja5) (jaa (jac 5) (jaa (jac 4) jae)))) (jaa (jac 6) jae))))) jbn) (jar (jax (jbe (jaa (jbe (jaa (jfl (K:=K) (DF.d (jb5 (jaa (ja5) (jaa (ja5) (jaa (ja5) (jaa (ja5) jae)))))) (ju8 (jac 3) (jag))) (jaa (jac 5) jae))) (jaa (jac 6) jae)))))))))))),jm0⟩)
theorem sc28:FnScope zqj zqa (jai jfn):=scM
theorem jh7 (F:Fun K "_law_program" "_law_program" jfn fa fd) (m:mg "_law_program"=some (.ref fa)) (b:Binds K fd zqa []) (jgz:Has P w K mg base 4 "_law_act" zqm jj3) (jaf:Has P w K mg base 1 "_law_draw" zqd jav) (z_len:mg "len"=none) (z_list:mg "list"=none) (z_range:mg "range"=none) (z_tuple:mg "tuple"=none):Has P w K mg base 5 "_law_program" zqa joy:=Has.mk' F m b (Fun.okD F sc28 jh5 λcdv A outer s H E hr=>⟨_,jdn,(jah (jh1 (i:=1) sc28.nd rfl (Bz rfl) (jb5 (jaa (jbe jae) jae))) (jah (jed (jbs (by rfl) z_range (jfl (K:=K) (DF.d (jb5 (jaa (jag) (jaa (jag) (jaa (jag) (jaa (jag) (jaa (jag) (jaa (jag) (jaa (jag) jae))))))))) (d_cM jaf hr (jaa (jac 0) (jaa (jag) jae))))) (ja4 (i:=2) sc28.nd rfl (Ar rfl)) (jar (jgc (i:=1) rfl (jfl (K:=K) (DF.d (jb5 (jaa (jbe jae) (jaa (jbe (jaa (ja5) jae)) (jaa (jbe (jaa (ja5) (jaa (ja5) jae))) (jaa (jbe (jaa (ja5) jae)) (jaa (jbe jae) jae))))))) (d_cM jaf hr (jaa (jac 0) (jaa (jag) jae))))))) (jah (jh1 (i:=3) sc28.nd rfl (Ar rfl) (jb5 jae)) (jh2 1 (jah (jed (jpq (K:=K) (jac 1)) (ja4 (i:=4) sc28.nd rfl (Ar rfl)) (jah (jh1 (i:=5) sc28.nd rfl (Bz rfl) (jml (K:=K) (by rfl) z_list (jac 4))) (jah (jh1 (i:=6) sc28.nd rfl (Ar rfl) (jb5 jae)) (jah (jed (jbs (by rfl) z_range (jfl (K:=K) (DF.d (jb5 (jaa (jag) (jaa (jag) (jaa (jag) (jaa (jag) (jaa (jag) (jaa (jag) (jaa (jag) (jaa (jag) jae)))))))))) (d_cM jaf hr (jaa (jac 0) (jaa (jag) jae))))) (ja4 (i:=2) sc28.nd rfl (Ar rfl)) (jah (jtg (i:=8) (N:=["_law_b","_law_known_here","_law_wants"]) (cl:=[("_law_wants",s.heap.objs.size+1),("_law_known_here",s.heap.objs.size+2)]) (fr:=[none,some 5,some 1]) sc28.nd rfl rfl rfl ⟨by rfl,rfl,by decide +kernel,by decide +kernel,(jfd (by intro y hy;simp only[Ao,Aw,or_false]at hy;rcases hy with rfl | rfl<;>rfl)),jb2 [(".0",.local),("_law_b",.local),("_law_known_here",.cell),("_law_wants",.cell)] ["_law_wants","_law_known_here"] rfl rfl (by decide +kernel),rfl,(λj i h=>match j,h with | 0,h=>(by cases h) | 1,h=>(by cases(Aq (Aq h)).symm;exact⟨"_law_known_here",rfl,rfl,Bz (Ar rfl),Ar rfl,Ar rfl,rfl⟩) | 2,h=>(by cases(Aq (Aq h)).symm;exact⟨"_law_wants",rfl,rfl,Bz (Ar rfl),Ar rfl,Ar rfl,rfl⟩) | (j+3),h=>(by have h2:(none:Option (Option Nat))=some (some i):=h;cases h2))⟩ (jbs (by rfl) z_range (ja9 (jat (K:=K)) jdv (by rfl) z_len Bc (jaa (jac 1) jae))) (λ_ _ _=>(ja4 (i:=0) (show(["_law_b","_law_known_here","_law_wants"]:List Str).Nodup by decide +kernel) rfl (Ar rfl))) (λ_ _ _=>(jhw (jaw (jbk (K:=K) hr.units0) jdw (DF.d (jfr (N:=["_law_name","_law_known_here"]) (cl:=[("_law_known_here",s.heap.objs.size+2)]) (fr:=[none,some 1]) rfl ⟨by rfl,rfl,by decide +kernel,by decide +kernel,(jfd (by intro y hy;simp only[Ao,Aw,or_false]at hy;rcases hy with rfl<;>rfl)),jb2 [(".0",.local),("_law_name",.local),("_law_known_here",.cell)] ["_law_known_here"] rfl rfl (by decide +kernel),rfl,(λj i h=>match j,h with | 0,h=>(by cases h) | 1,h=>(by cases(Aq (Aq h)).symm;exact⟨"_law_known_here",rfl,rfl,Bz (Ar rfl),Ar rfl,Ar rfl,rfl⟩) | (j+2),h=>(by have h2:(none:Option (Option Nat))=some (some i):=h;cases h2))⟩ (jgh (K:=K) (jfl (K:=K) (jac 2) (jac 0))) (λ_ _ _=>(ja4 (i:=0) (show(["_law_name","_law_known_here"]:List Str).Nodup by decide +kernel) rfl (Ar rfl))) (λ_ _ _=>(jhw (jaw (jdr (K:=K)) js6 (jac 0) (jac 1) (by with_unfolding_all rfl)))) (λ_ _ _=>(jac 0)) (jcm 0))) (DF.d (jb5 jae)) (jaq _)))) (λ_ _ _=>(jac 0)) (jcm 0)) (jah (j0y (d_cM jgz hr (jaa (jac 0) (jaa (joh 5) (jaa (jac 8) jae)))) (jjf (K:=K) (jb4 (ja4 (i:=9) sc28.nd rfl (Ar rfl)) (jb4 (ja4 (i:=10) sc28.nd rfl (Ar rfl)) jjd)))) (jah (jgc (i:=6) rfl (jac 9)) (jar (jed (jpq (K:=K) (jac 10)) (ja4 (i:=7) sc28.nd rfl (Ar rfl)) (jar (s_if (jaw (jdr (K:=K)) js6 (jac 7) (joh 5) (by with_unfolding_all rfl)) (jar (jgc (i:=5) rfl (jac 7))) jbn)))))))) (jh2 6 (jar (jgc (i:=3) rfl (jbe (jaa (jac 4) (jaa (jbu (ja3 (K:=K)) jcl (by rfl) z_tuple jbv (jaa (jac 6) jae)) jae)))))))))) (jh2 3 (jar (jax (jbu (ja3 (K:=K)) jcl (by rfl) z_tuple jbv (jaa (jac 3) jae)))))))))),jg8⟩)
abbrev zqx:List Str:=["_law_tape_here","_law_most"]
theorem sc29:FnScope zqp1 zqx (jai jhm):=scM
theorem jkp (F:Fun K "_law_notes" "_law_notes" jhm fa fd) (m:mg "_law_notes"=some (.ref fa)) (b:Binds K fd zqx []) (jbz:Has P w K mg base 2 "_law_age" zqa jk2) (jaf:Has P w K mg base 1 "_law_draw" zqd jav) (jbt:Has P w K mg base 2 "_law_size" zqa jfv) (jau:Has P w K mg base 2 "_law_value" zqa jck) (z_range:mg "range"=none) (z_tuple:mg "tuple"=none):Has P w K mg base 3 "_law_notes" zqx je8:=Has.mk' F m b (Fun.okD F sc29 jkg λcdv A outer s H E hr=>⟨_,je5,(jah (jh1 (i:=2) sc29.nd rfl (Ar rfl) (jb5 jae)) (jah (jed (jbs (by rfl) z_range (d_cM jaf hr (jaa (jac 0) (jaa (jfu (jac 1) (jag)) jae)))) (ja4 (i:=3) sc29.nd rfl (Ar rfl)) (jah (ja8 (i:=4) sc29.nd rfl (Ar rfl) (jbu (ja3 (K:=K)) jcl (by rfl) z_tuple jbv (jaa (DF.d (jfr (N:=["_law_j","_law_tape_here"]) (cl:=[("_law_tape_here",s.heap.objs.size+1)]) (fr:=[none,some 0]) rfl ⟨by rfl,rfl,by decide +kernel,by decide +kernel,(λx c h=>h),jb2 [(".0",.local),("_law_j",.local),("_law_value",.globalImplicit),("_law_tape_here",.cell)] zqa rfl rfl (by decide +kernel),rfl,(λj i h=>match j,h with | 0,h=>(by cases h) | 1,h=>(by cases(Aq (Aq h)).symm;exact⟨"_law_tape_here",rfl,rfl,Bz (Ar rfl),Ar rfl,Ar rfl,rfl⟩) | (j+2),h=>(by have h2:(none:Option (Option Nat))=some (some i):=h;cases h2))⟩ (jbs (by rfl) z_range (d_cM jbt hr (jaa (jac 0) jae))) (λ_ _ _=>(ja4 (i:=0) (show(["_law_j","_law_tape_here"]:List Str).Nodup by decide +kernel) rfl (Ar rfl))) (λ_ _ _=>jq1) (λ_ _ _=>(d_cM jau hr (jaa (jac 1) jae))) (jcm 0))) jae))) (jar (jgc (i:=2) rfl (jbe (jaa (jac 4) (jaa (d_cM jbz hr (jaa (jac 0) jae)) jae))))))) (jh2 2 (jar (jax (jbu (ja3 (K:=K)) jcl (by rfl) z_tuple jbv (jaa (jac 2) jae))))))),jjq⟩)
theorem sc30:FnScope zql zqa (jai jis):=scM
theorem jmi (F:Fun K "_law_plan" "_law_plan" jis fa fd) (m:mg "_law_plan"=some (.ref fa)) (b:Binds K fd ["_law_tape_here"] []) (jaf:Has P w K mg base 1 "_law_draw" ["_law_tape_here","_law_many"] jav) (jb9:Has P w K mg base 3 "_law_notes" ["_law_tape_here","_law_most"] je8) (jdj:Has P w K mg base 5 "_law_program" ["_law_tape_here"] joy) (z_len:mg "len"=none) (z_range:mg "range"=none) (z_tuple:mg "tuple"=none):Has P w K mg base 6 "_law_plan" ["_law_tape_here"] joz:=Has.mk' F m b (Fun.okD F sc30 jma λcdv A outer s H E hr=>⟨_,jf7,(jah (j3m (i:=1) (N:=["_law_k","_law_tape_here"]) (cl:=[("_law_tape_here",s.heap.objs.size+1)]) (fr:=[none,some 0]) sc30.nd rfl rfl rfl ⟨by rfl,rfl,by decide +kernel,by decide +kernel,(λx c h=>h),jb2 [(".0",.local),("_law_k",.local),("_law_program",.globalImplicit),("_law_tape_here",.cell)] ["_law_tape_here"] rfl rfl (by decide +kernel),rfl,(λj i h=>match j,h with | 0,h=>(by cases h) | 1,h=>(by cases(Aq (Aq h)).symm;exact⟨"_law_tape_here",rfl,rfl,Bz (Ar rfl),Ar rfl,Ar rfl,rfl⟩) | (j+2),h=>(by have h2:(none:Option (Option Nat))=some (some i):=h;cases h2))⟩ (jbs (by rfl) z_range (jfl (K:=K) (DF.d (jb5 (jaa (jag) (jaa (jag) (jaa (jag) (jaa (jag) (jaa (jag) (jaa (jag) (jaa (jag) (jaa (jag) jae)))))))))) (d_cM jaf hr (jaa (jac 0) (jaa (jag) jae))))) (λ_ _ _=>(ja4 (i:=0) (show(["_law_k","_law_tape_here"]:List Str).Nodup by decide +kernel) rfl (Ar rfl))) (λ_ _ _=>jq1) (λ_ _ _=>(d_cM jdj hr (jaa (jac 1) jae))) (jcm 0)) (jah (s_if (DCW.cc (cw_and (jaw (jbk (K:=K) hr.units0) jdw (ja9 (jat (K:=K)) jdv (by rfl) z_len Bc (jaa (joh 1) jae)) (jag) (jaq _)) (cw_and1 (jaw (jbk (K:=K) hr.units0) jdw (d_cM jaf hr (jaa (jac 0) (jaa (jag) jae))) (jag) (jaq _))))) (jar (j6a (i:=1) rfl (jag) (jfl (K:=K) (joh 1) (jag)))) jbn) (jh2 1 (jar (jax (jbe (jaa (jbu (ja3 (K:=K)) jcl (by rfl) z_tuple jbv (jaa (jac 1) jae)) (jaa (d_cM jb9 hr (jaa (jac 0) (jaa (jfl (K:=K) (DF.d (jb5 (jaa (jag) (jaa (jag) (jaa (jag) (jaa (jag) jae)))))) (d_cM jaf hr (jaa (jac 0) (jaa (jag) jae)))) jae))) jae)))))))),jk0⟩)
abbrev zqq:List Str:=["_law_program_here","_law_block","_law_place"]
theorem sc31:FnScope zqj1 zqq (jai jho):=scM
theorem jkr (F:Fun K "_law_known" "_law_known" jho fa fd) (m:mg "_law_known"=some (.ref fa)) (b:Binds K fd zqq []) (z_list:mg "list"=none) (z_set:mg "set"=none) (z_sorted:mg "sorted"=none):Has P w K mg base 1 "_law_known" zqq jgo:=Has.mk' F m b (Fun.okD F sc31 jki λcdv A outer s H E hr=>⟨_,je7,(jah (jh1 (i:=3) sc31.nd rfl (Ar rfl) (jml (K:=K) (by rfl) z_list (jan (K:=K) (jan (K:=K) (jac 0) (jac 1)) (jag)))) (jah (jed (jgh (K:=K) (jew (K:=K) (jan (K:=K) (jan (K:=K) (jac 0) (jac 1)) (jag)) jhu (jht (jac 2)))) (ja4 (i:=4) sc31.nd rfl (Ar rfl)) (jar (s_if (jaw (jix (K:=K)) jdp (jan (K:=K) (jac 4) (jag)) (jbe (jaa (ja5) (jaa (ja5) (jaa (ja5) jae)))) (by with_unfolding_all rfl)) (jar (j6c (i:=3) rfl (DF.d (jfr (N:=["_law_field"]) (cl:=[]) (fr:=[none]) rfl ⟨by rfl,rfl,by decide +kernel,by decide +kernel,(λx c h=>nomatch h),jb2 [(".0",.local),("_law_field",.local)] [] rfl rfl (by decide +kernel),rfl,(λj i h=>match j,h with | 0,h=>(by cases h) | (j+1),h=>(by have h2:(none:Option (Option Nat))=some (some i):=h;cases h2))⟩ (jgh (K:=K) (jan (K:=K) (jac 4) (jag))) (λ_ _ _=>(ja4 (i:=0) (show(["_law_field"]:List Str).Nodup by decide +kernel) rfl (Ar rfl))) (λ_ _ _=>(jhw (jaw (jbk (K:=K) hr.units0) jbj (jan (K:=K) (jac 0) (jag)) (ja5) (jaq _)))) (λ_ _ _=>(jan (K:=K) (jac 0) (jag))) (jcm 0))))) jbn))) (jh2 3 (jar (jax (DF.d (ju1 (W:=w) hr.hd (by rfl) z_sorted (by rfl) z_set (jac 3)))))))),jjs⟩)
theorem sc32:FnScope zqw zql (jai jhl):=scM
theorem jko (F:Fun K "_law_stand" "_law_stand" jhl fa fd) (m:mg "_law_stand"=some (.ref fa)) (b:Binds K fd zql []) (jaf:Has P w K mg base 1 "_law_draw" zqd jav) (jer:Has P w K mg base 1 "_law_known" zqq jgo) (jb9:Has P w K mg base 3 "_law_notes" zqx je8) (jau:Has P w K mg base 2 "_law_value" zqa jck) (z_len:mg "len"=none) (z_tuple:mg "tuple"=none):Has P w K mg base 4 "_law_stand" zql jj0:=Has.mk' F m b (Fun.okD F sc32 jkf λcdv A outer s H E hr=>⟨_,je4,(jah (jh1 (i:=2) sc32.nd rfl (Ar rfl) (jb5 jae)) (jah (jed (jgh (K:=K) (jac 1)) (ja4 (i:=3) sc32.nd rfl (Ar rfl)) (jah (ja8 (i:=4) sc32.nd rfl (Ar rfl) (d_cM jaf hr (jaa (jac 0) (jaa (ja9 (jat (K:=K)) jbb (by rfl) z_len Bc (jaa (jac 3) jae)) jae)))) (jah (ja8 (i:=5) sc32.nd rfl (Ar rfl) (d_cM jaf hr (jaa (jac 0) (jaa (jfu (ja9 (jat (K:=K)) jbb (by rfl) z_len Bc (jaa (jan (K:=K) (jan (K:=K) (jac 3) (jac 4)) (jag)) jae)) (jag)) jae)))) (jah (ja8 (i:=6) sc32.nd rfl (Ar rfl) (jbu (ja3 (K:=K)) jbx (by rfl) z_tuple jbv (jaa (DF.d (jfr (N:=["_law_name","_law_tape_here"]) (cl:=[("_law_tape_here",s.heap.objs.size+1)]) (fr:=[none,some 0]) rfl ⟨by rfl,rfl,by decide +kernel,by decide +kernel,(λx c h=>h),jb2 [(".0",.local),("_law_name",.local),("_law_value",.globalImplicit),("_law_tape_here",.cell)] zqa rfl rfl (by decide +kernel),rfl,(λj i h=>match j,h with | 0,h=>(by cases h) | 1,h=>(by cases(Aq (Aq h)).symm;exact⟨"_law_tape_here",rfl,rfl,Bz (Ar rfl),Ar rfl,Ar rfl,rfl⟩) | (j+2),h=>(by have h2:(none:Option (Option Nat))=some (some i):=h;cases h2))⟩ (jpq (K:=K) (d_cM jer hr (jaa (jac 3) (jaa (jac 4) (jaa (jac 5) jae))))) (λ_ _ _=>(ja4 (i:=0) (show(["_law_name","_law_tape_here"]:List Str).Nodup by decide +kernel) rfl (Ar rfl))) (λ_ _ _=>jq1) (λ_ _ _=>(jbe (jaa (jac 0) (jaa (d_cM jau hr (jaa (jac 1) jae)) jae)))) (jcm 0))) jae))) (jar (jgc (i:=2) rfl (jbe (jaa (jac 4) (jaa (jac 5) (jaa (jac 6) jae)))))))))) (jh2 2 (jar (jax (jbe (jaa (jbu (ja3 (K:=K)) jbx (by rfl) z_tuple jbv (jaa (jac 2) jae)) (jaa (d_cM jb9 hr (jaa (jac 0) (jaa (jag) jae))) jae)))))))),jjp⟩)
abbrev zqe:List Str:=["_law_programs","_law_stand_here","_law_hand"]
theorem sc33:FnScope zqb1 zqe (jai jek):=scM
theorem jgy (F:Fun K "_law_next_act" "_law_next_act" jek fa fd) (m:mg "_law_next_act"=some (.ref fa)) (b:Binds K fd zqe []) (z_len:mg "len"=none):Has P w K mg base 1 "_law_next_act" zqe jch:=Has.mk' F m b (Fun.okD F sc33 jgv λcdv A outer s H E hr=>⟨_,jc6,(jah (j0y (jan (K:=K) (jan (K:=K) (jac 1) (jag)) (jac 2)) (jjf (K:=K) (jb4 (ja4 (i:=3) sc33.nd rfl (Ar rfl)) (jb4 (ja4 (i:=4) sc33.nd rfl (Ar rfl)) (jb4 (ja4 (i:=5) sc33.nd rfl (Ar rfl)) jjd))))) (jah (ja8 (i:=6) sc33.nd rfl (Ar rfl) (jan (K:=K) (jan (K:=K) (jan (K:=K) (jac 0) (jac 2)) (jac 3)) (jag))) (jar (jax (jg4 (jaw jhr jhg (jac 4) (ja9 (jat (K:=K)) jbb (by rfl) z_len Bc (jaa (jac 6) jae)) (jaq _)) (jan (K:=K) (jac 6) (jac 4)) (jc3)))))),jgm⟩)
abbrev zqo:List Str:=["_law_tape_here","_law_pattern_here","_law_names"]
theorem sc34:FnScope zqy zqo (jai jit):=scM
theorem jmj (F:Fun K "_law_lure" "_law_lure" jit fa fd) (m:mg "_law_lure"=some (.ref fa)) (b:Binds K fd zqo []) (jau:Has P w K mg base 2 "_law_value" zqa jck) (z_dict:mg "dict"=none) (z_tuple:mg "tuple"=none):Has P w K mg base 3 "_law_lure" zqo jo0:=Has.mk' F m b (Fun.okD F sc34 jmb λcdv A outer s H E hr=>⟨_,jf8,(jah (jnl (i:=3) sc34.nd rfl (Ar rfl) (jqy hr.hd (by rfl) z_dict (jac 2))) (jah (jh1 (i:=4) sc34.nd rfl (Ar rfl) (jb5 jae)) (jah (jed (jgh (K:=K) (jac 1)) (ja4 (i:=5) sc34.nd rfl (Ar rfl)) (jah (ja8 (i:=6) sc34.nd rfl (Ar rfl) (d_cM jau hr (jaa (jac 0) jae))) (jah (s_if (jaw (jbk (K:=K) hr.units0) jbj (jan (K:=K) (jac 5) (jag)) (ja5) (jaq _)) (jar (ja8 (i:=6) sc34.nd rfl (Ar rfl) (jan (K:=K) (jac 5) (jag)))) (jar (s_if (jaw (jix (K:=K)) jdp (jan (K:=K) (jac 5) (jag)) (jbe (jaa (ja5) (jaa (ja5) jae))) (by with_unfolding_all rfl)) (jar (ja8 (i:=6) sc34.nd rfl (Ar rfl) (jq7 hr.units (j5o (jql jqn jqn (jql jqn ja7 j05))) (jan (K:=K) (jac 5) (jag))))) (jar (s_if (jaw (jix (K:=K)) jdp (jan (K:=K) (jac 5) (jag)) (jbe (jaa (ja5) (jaa (ja5) jae))) (by with_unfolding_all rfl)) (jah (ja8 (i:=6) sc34.nd rfl (Ar rfl) (j2b hr.units (jea 3) (jan (K:=K) (jac 5) (jag)) (jac 6))) (jar (jti (i:=3) hr.units rfl (jan (K:=K) (jac 5) (jag)) (jac 6)))) jbn))))) (jar (jgc (i:=4) rfl (jac 6)))))) (jh2 4 (jar (jax (jbu (ja3 (K:=K)) jbx (by rfl) z_tuple jbv (jaa (jac 4) jae)))))))),jk1⟩)
abbrev zqn:List Str:=["_law_tape_here","_law_programs","_law_stand_here"]
theorem sc35:FnScope zqt zqn (jai jhn):=scM
theorem jkq (F:Fun K "_law_lured" "_law_lured" jhn fa fd) (m:mg "_law_lured"=some (.ref fa)) (b:Binds K fd ["_law_tape_here","_law_programs","_law_stand_here"] []) (jbz:Has P w K mg base 2 "_law_age" ["_law_tape_here"] jk2) (jaf:Has P w K mg base 1 "_law_draw" ["_law_tape_here","_law_many"] jav) (jf0:Has P w K mg base 3 "_law_lure" ["_law_tape_here","_law_pattern_here","_law_names"] jo0) (ja6:Has P w K mg base 1 "_law_next_act" ["_law_programs","_law_stand_here","_law_hand"] jch) (z_len:mg "len"=none) (z_list:mg "list"=none) (z_range:mg "range"=none) (z_tuple:mg "tuple"=none):Has P w K mg base 4 "_law_lured" ["_law_tape_here","_law_programs","_law_stand_here"] jj2:=Has.mk' F m b (Fun.okD F sc35 jkh λcdv A outer s H E hr=>⟨_,je6,(jah (jh1 (i:=3) sc35.nd rfl (Ar rfl) (jml (K:=K) (by rfl) z_list (jan (K:=K) (jac 2) (jag)))) (jah (jed (jbs (by rfl) z_range (ja9 (jat (K:=K)) jbb (by rfl) z_len Bc (jaa (jac 1) jae))) (ja4 (i:=4) sc35.nd rfl (Ar rfl)) (jah (ja8 (i:=5) sc35.nd rfl (Ar rfl) (d_cM ja6 hr (jaa (jac 1) (jaa (jac 2) (jaa (jac 4) jae))))) (jar (s_if (DCW.cc (cw_and (jaw jgs jfa (jac 5) (jc3) (jaq _)) (cw_and (jaw (jix (K:=K)) jdp (jan (K:=K) (jac 5) (jag)) (jbe (jaa (ja5) (jaa (ja5) (jaa (ja5) jae)))) (by with_unfolding_all rfl)) (cw_and1 (jaw jt7 js7 (d_cM jaf hr (jaa (jac 0) (jaa (jag) jae))) (jag) (jaq _)))))) (jah (ja8 (i:=6) sc35.nd rfl (Ar rfl) (jbe (jaa (d_cM jf0 hr (jaa (jac 0) (jaa (jan (K:=K) (jac 5) (jag)) (jaa (jan (K:=K) (jan (K:=K) (jan (K:=K) (jac 2) (jag)) (jac 4)) (jag)) jae)))) (jaa (d_cM jbz hr (jaa (jac 0) jae)) jae)))) (jar (j6b (i:=3) rfl (d_cM jaf hr (jaa (jac 0) (jaa (jfu (jx6 (K:=K) 3 (by rfl) z_len) (jag)) jae))) (jac 6)))) jbn)))) (jh2 3 (jar (jax (jbe (jaa (jan (K:=K) (jac 2) (jag)) (jaa (jbu (ja3 (K:=K)) jbx (by rfl) z_tuple jbv (jaa (jac 3) jae)) jae)))))))),jjr⟩)
abbrev zqh:List Str:=["_law_programs","_law_stand_here","_law_later","_law_mover"]
theorem sc36:FnScope zqz zqh (jai jdc):=scM
theorem jfk (F:Fun K "_law_notes_right" "_law_notes_right" jdc fa fd) (m:mg "_law_notes_right"=some (.ref fa)) (b:Binds K fd zqh []) (ja6:Has P w K mg base 1 "_law_next_act" zqe jch) (h_gets:Has P w K mg base 3 "gets" zqb jfw) (z_len:mg "len"=none):Has P w K mg base 4 "_law_notes_right" zqh S_nr:=Has.mk' F m b (Fun.okD F sc36 jfh λcdv A outer s H E hr=>⟨_,jcg,(jah (ja8 (i:=4) sc36.nd rfl (Ar rfl) (jan (K:=K) (jac 1) (jag))) (jah (ja8 (i:=5) sc36.nd rfl (Ar rfl) (d_cM ja6 hr (jaa (jac 0) (jaa (jac 1) (jaa (jac 3) jae))))) (jah (s_if (jaw (jbk (K:=K) hr.units0) jbj (jan (K:=K) (jac 5) (jag)) (ja5) (jaq _)) (jar (jax (jx7 (jku (jnx (K:=K) hr.units) jd5 (jew (K:=K) (jan (K:=K) (jac 2) (jag)) jhu (jht (j5p (jag)))) (jac 4) (jaq _)) (jr2 (jku (jbk (K:=K) hr.units0) jbj (ja9 (jat (K:=K)) jbb (by rfl) z_len Bc (jaa (jan (K:=K) (jac 2) (jag)) jae)) (jfu (ja9 (jat (K:=K)) jbb (by rfl) z_len Bc (jaa (jac 4) jae)) (jag)) (jaq _)))))) jbn) (jah (s_if (jaw (jbk (K:=K) hr.units0) jbj (jan (K:=K) (jac 5) (jag)) (ja5) (jaq _)) (jah (ja8 (i:=6) sc36.nd rfl (Ar rfl) (d_cM h_gets hr (jaa (jac 0) (jaa (jac 1) (jaa (jac 3) jae))))) (jar (jax (jku (jnx (K:=K) hr.units) jd5 (jan (K:=K) (jac 2) (jag)) (joj (K:=K) (jew (K:=K) (jac 4) jhu (jht (jac 6))) (jew (K:=K) (jac 4) (jht (jfu (jac 6) (jag))) jhu)) (jaq _))))) jbn) (jar (jax (jku (jnx (K:=K) hr.units) jd5 (jan (K:=K) (jac 2) (jag)) (jac 4) (jaq _)))))))),jez⟩)
abbrev zqg1:List Str:=["_law_stand_here","_law_later"]
theorem sc37:FnScope zqm1 zqg1 (jai jcz):=scM
theorem jeo (F:Fun K "_law_ticked_right" "_law_ticked_right" jcz fa fd) (m:mg "_law_ticked_right"=some (.ref fa)) (b:Binds K fd ["_law_stand_here","_law_later"] []) (z_len:mg "len"=none) (z_zip:mg "zip"=none):Has P w K mg base 1 "_law_ticked_right" ["_law_stand_here","_law_later"] S_tr:=Has.mk' F m b (Fun.okD F sc37 jen λcdv A outer s H E hr=>⟨_,jb7,(jah (jtg (i:=2) (N:=["_law_row","_law_age_here"]) (cl:=[]) (fr:=[none,none]) sc37.nd rfl rfl rfl ⟨by rfl,rfl,by decide +kernel,by decide +kernel,(λx c h=>nomatch h),jb2 [(".0",.local),("_law_row",.local),("_law_age_here",.local)] [] rfl rfl (by decide +kernel),rfl,(λj i h=>match j,h with | 0,h=>(by cases h) | 1,h=>(by cases h) | (j+2),h=>(by have h2:(none:Option (Option Nat))=some (some i):=h;cases h2))⟩ (jgh (K:=K) (jan (K:=K) (jac 0) (jag))) (λ_ _ _=>(jjf (K:=K) (jb4 (ja4 (i:=0) (show(["_law_row","_law_age_here"]:List Str).Nodup by decide +kernel) rfl (Ar rfl)) (jb4 (ja4 (i:=1) (show(["_law_row","_law_age_here"]:List Str).Nodup by decide +kernel) rfl (Ar rfl)) jjd)))) (λ_ _ _=>(jhw (jaw jrr jk4 (jac 1) (jag) (jaq _)))) (λ_ _ _=>(jbe (jaa (jac 0) (jaa (jac 1) jae)))) (j1r 0 1 2)) (jah (s_if (DCW.cc (cw_or (jaw (jiw (K:=K) hr.units) jd5 (jan (K:=K) (jac 1) (jag)) (jan (K:=K) (jac 0) (jag)) (jaq _)) (cw_or1 (jaw jrr jk4 (ja9 (jat (K:=K)) jbb (by rfl) z_len Bc (jaa (jan (K:=K) (jac 1) (jag)) jae)) (ja9 (jat (K:=K)) jbb (by rfl) z_len Bc (jaa (jac 2) jae)) (jaq _))))) (jar (jax (d_bl))) jbn) (jah (jed (j47 (K:=K) (by rfl) z_zip (jac 2) (jan (K:=K) (jac 1) (jag))) (jjf (K:=K) (jb4 (ja4 (i:=3) sc37.nd rfl (Ar rfl)) (jb4 (ja4 (i:=4) sc37.nd rfl (Ar rfl)) jjd))) (jah (s_if (DCW.cc (cw_or (jaw (jiw (K:=K) hr.units) jd5 (jan (K:=K) (jac 4) (jag)) (jan (K:=K) (jac 3) (jag)) (jaq _)) (cw_or1 (DCW.cc (cw_and (jaw jhs jeg (jan (K:=K) (jac 3) (jag)) (jc3) (jaq _)) (cw_and1 (jaw jgs jfa (jan (K:=K) (jac 4) (jag)) (jc3) (jaq _)))))))) (jar (jax (d_bl))) jbn) (jar (s_if (DCW.cc (cw_and (jaw jgs jfa (jan (K:=K) (jac 3) (jag)) (jc3) (jaq _)) (cw_and1 (jaw (jiw (K:=K) hr.units) jd5 (jan (K:=K) (jac 4) (jag)) (ju8 (jan (K:=K) (jac 3) (jag)) (jag)) (jaq _))))) (jar (jax (d_bl))) jbn)))) (jar (jax (d_bl)))))),jef⟩)
abbrev zqf:List Str:=["_law_programs","_law_stand_here"]
theorem sc38:FnScope zqi1 zqf (jai jdb):=scM
theorem jfj (F:Fun K "_law_ready_right" "_law_ready_right" jdb fa fd) (m:mg "_law_ready_right"=some (.ref fa)) (b:Binds K fd ["_law_programs","_law_stand_here"] []) (ja6:Has P w K mg base 1 "_law_next_act" ["_law_programs","_law_stand_here","_law_hand"] jch) (h_ready:HasN P w K mg base 5 "ready" ["programs","stand"] jc7) (z_len:mg "len"=none) (z_range:mg "range"=none):Has P w K mg base 6 "_law_ready_right" ["_law_programs","_law_stand_here"] S_rr:=Has.mk' F m b (Fun.okD F sc38 jfg λcdv A outer s H E hr=>⟨_,jcf,(jah (ja8 (i:=2) sc38.nd rfl (Ar rfl) (DF.d (f_cM h_ready hr (jaa (jac 0) (jaa (jac 1) jae))))) (jah (jed (jbs (by rfl) z_range (ja9 (jat (K:=K)) jbb (by rfl) z_len Bc (jaa (jac 0) jae))) (ja4 (i:=3) sc38.nd rfl (Ar rfl)) (jah (ja8 (i:=4) sc38.nd rfl (Ar rfl) (d_cM ja6 hr (jaa (jac 0) (jaa (jac 1) (jaa (jac 3) jae))))) (jah (s_if (DCW.cc (cw_and (jaw jhs jeg (jac 4) (jc3) (jaq _)) (cw_and1 (jaw (jix (K:=K)) jdp (jac 3) (jac 2) (by with_unfolding_all rfl))))) (jar (jax (d_bl))) jbn) (jar (s_if (DCW.cc (cw_and (jaw jgs jfa (jac 4) (jc3) (jaq _)) (cw_and (jaw (jdr (K:=K)) jdp (jan (K:=K) (jac 4) (jag)) (jbe (jaa (ja5) (jaa (ja5) jae))) (by with_unfolding_all rfl)) (cw_and1 (jaw (jdr (K:=K)) jdp (jac 3) (jac 2) (by with_unfolding_all rfl)))))) (jar (jax (d_bl))) jbn))))) (jar (jax (d_bl))))),jey⟩)
theorem sc39:FnScope zqs1 zqf (jai jda):=scM
theorem jfi (F:Fun K "_law_still_right" "_law_still_right" jda fa fd) (m:mg "_law_still_right"=some (.ref fa)) (b:Binds K fd ["_law_programs","_law_stand_here"] []) (h_moved:Has P w K mg base 7 "moved" ["programs","stand","mover"] je9) (h_ready:HasN P w K mg base 5 "ready" ["programs","stand"] jc7) (z_len:mg "len"=none) (z_range:mg "range"=none):Has P w K mg base 8 "_law_still_right" ["_law_programs","_law_stand_here"] S_sr:=Has.mk' F m b (Fun.okD F sc39 jff λcdv A outer s H E hr=>⟨_,jce,(jah (jed (jbs (by rfl) z_range (jag)) (ja4 (i:=2) sc39.nd rfl (Ar rfl)) (jah (ja8 (i:=3) sc39.nd rfl (Ar rfl) (d_cM h_moved hr (jaa (jac 0) (jaa (jac 1) (jaa (ja9 (jat (K:=K)) jbb (by rfl) z_len Bc (jaa (jac 0) jae)) jae))))) (jah (s_if (DCW.cc (cw_or (jaw (jiw (K:=K) hr.units) jd5 (DF.d (f_cM h_ready hr (jaa (jac 0) (jaa (jac 3) jae)))) (DF.d (jb5 jae)) (jaq _)) (cw_or1 (jaw jt7 js7 (ja9 (jat (K:=K)) jbb (by rfl) z_len Bc (jaa (jan (K:=K) (jac 3) (jag)) jae)) (ja9 (jat (K:=K)) jbb (by rfl) z_len Bc (jaa (jan (K:=K) (jac 1) (jag)) jae)) (jaq _))))) (jar (jax (d_bl))) jbn) (jar (ja8 (i:=1) sc39.nd rfl (Ar rfl) (jac 3)))))) (jar (jax (d_bl)))),jex⟩)
theorem sc40:FnScope zqk zqf1 (jai jrn):=scM
abbrev zqt1:List Str:=["_law_hand","_law_later","_law_mover","_law_stand_here"]
theorem j4m {fa fT:Addr} {fd fdT:Cp} (F:Fun K "law" "law" jrn fa fd) (GT:FnOk P w K mg base CX0 1 fT fdT zqf1 (jqd K)) (bT:Binds K fdT zqf1 []) (mT:mg "_law_tape"=some (.ref fT)) (kT:C9 K (.ref fT)=true) (jaf:Has P w K mg base 1 "_law_draw" zqd jav) (jeq:Has P w K mg base 4 "_law_lured" zqn jj2) (jcd:Has P w K mg base 4 "_law_notes_right" zqh S_nr) (jfz:Has P w K mg base 6 "_law_plan" zqa joz) (jcc:Has P w K mg base 6 "_law_ready_right" zqf S_rr) (jep:Has P w K mg base 4 "_law_stand" zql jj0) (jcb:Has P w K mg base 8 "_law_still_right" zqf S_sr) (jb3:Has P w K mg base 1 "_law_ticked_right" zqg1 S_tr) (h_moved:Has P w K mg base 7 "moved" zqg je9) (h_ready:HasN P w K mg base 5 "ready" zqs jc7) (z_len:mg "len"=none) (z_range:mg "range"=none):FnOk P w K mg base CX0 9 fa fd zqf1 (DL.spLaw K):=by
 refine j4u F sc40 GT bT mT kT (λv=>rfl) jyh ?_;intro cdv A outer s H E hr;exact⟨_,_,_,rfl,jfp (i:=1) sc40.nd rfl (Ar rfl) (jpi GT (hr.mono (by decide)) rfl mT kT bT .nil j1j (ja0 (pv 0) jb0)),(jah (ja8 (i:=2) sc40.nd rfl (Ar rfl) (jan (K:=K) (d_cM jfz hr (jaa (jac 1) jae)) (jag))) (jah (ja8 (i:=3) sc40.nd rfl (Ar rfl) (ja9 (jat (K:=K)) jbb (by rfl) z_len Bc (jaa (jac 2) jae))) (jah (jed (jbs (by rfl) z_range (jag)) (ja4 (i:=4) sc40.nd rfl (Ar rfl)) (jah (ja8 (i:=5) sc40.nd rfl (Bz rfl) (d_cM jeq hr (jaa (jac 1) (jaa (jac 2) (jaa (d_cM jep hr (jaa (jac 1) (jaa (jac 2) jae))) jae))))) (jar (jed (jbs (by rfl) z_range (jfu (jag) (d_cM jaf hr (jaa (jac 1) (jaa (jag) jae))))) (ja4 (i:=6) sc40.nd rfl (Ar rfl)) (jah (ja8 (i:=7) sc40.nd rfl (Ar rfl) (j5t (DF.d (f_cM h_ready hr (jaa (jac 2) (jaa (jac 5) jae)))) (DF.d (jb5 (jaa (jac 3) jae))))) (jah (s_if (DCW.cc (cw_or (jr9 (jmv (d_cM jcc hr (jaa (jac 2) (jaa (jac 5) jae))))) (cw_or1 (DCW.cc (cw_and (jaw (jnx (K:=K) hr.units) jd5 (jac 7) (DF.d (jb5 (jaa (jac 3) jae))) (jaq _)) (cw_and1 (jr9 (jmv (d_cM jcb hr (jaa (jac 2) (jaa (jac 5) jae))))))))))) (jar (jax (d_bl))) jbn) (jah (ja8 (i:=8) sc40.nd rfl (Bz rfl) (jan (K:=K) (jac 7) (d_cM jaf hr (jaa (jac 1) (jaa (ja9 (jat (K:=K)) jbb (by rfl) z_len Bc (jaa (jac 7) jae)) jae))))) (jah (ja8 (i:=9) sc40.nd rfl (Bz rfl) (d_cM h_moved hr (jaa (jac 2) (jaa (jac 5) (jaa (jac 8) jae))))) (jah (jtg (i:=10) (N:=zqt1) (cl:=[("_law_stand_here",s.heap.objs.size+1),("_law_mover",s.heap.objs.size+2),("_law_later",s.heap.objs.size+3)]) (fr:=[none,some 9,some 8,some 5]) sc40.nd rfl rfl rfl ⟨by rfl,rfl,by decide +kernel,by decide +kernel,(jfd (by intro y hy;simp only[Ao,Aw,or_false]at hy;rcases hy with rfl | rfl | rfl<;>rfl)),jb2 [(".0",.local),("_law_hand",.local),("_law_later",.cell),("_law_mover",.cell),("_law_stand_here",.cell)] ["_law_stand_here","_law_mover","_law_later"] rfl rfl (by decide +kernel),rfl,(λj i h=>match j,h with | 0,h=>(by cases h) | 1,h=>(by cases(Aq (Aq h)).symm;exact⟨"_law_later",rfl,rfl,Bz (Ar rfl),Ar rfl,Ar rfl,rfl⟩) | 2,h=>(by cases(Aq (Aq h)).symm;exact⟨"_law_mover",rfl,rfl,Bz (Ar rfl),Ar rfl,Ar rfl,rfl⟩) | 3,h=>(by cases(Aq (Aq h)).symm;exact⟨"_law_stand_here",rfl,rfl,Bz (Ar rfl),Ar rfl,Ar rfl,rfl⟩) | (j+4),h=>(by have h2:(none:Option (Option Nat))=some (some i):=h;cases h2))⟩ (jbs (by rfl) z_range (jac 3)) (λ_ _ _=>(ja4 (i:=0) (show(zqt1:List Str).Nodup by decide +kernel) rfl (Ar rfl))) (λ_ _ _=>(jhw (DCW.cc (cw_and (jaw (jiw (K:=K) hr.units) jd5 (jac 0) (jac 2) (jaq _)) (cw_and1 (jaw (jiw (K:=K) hr.units) jd5 (jan (K:=K) (jan (K:=K) (jac 1) (jag)) (jac 0)) (jan (K:=K) (jan (K:=K) (jac 3) (jag)) (jac 0)) (jaq _))))))) (λ_ _ _=>(jac 0)) (jcm 0)) (jah (s_if (DCW.cc (cw_or (jaw (jiw (K:=K) hr.units) jd5 (jac 10) (DF.d (jb5 jae)) (jaq _)) (cw_or1 (jaw jrr jk4 (ja9 (jat (K:=K)) jbb (by rfl) z_len Bc (jaa (jan (K:=K) (jac 9) (jag)) jae)) (jac 3) (jaq _))))) (jar (jax (d_bl))) jbn) (jah (s_if (DCW.cc (cw_and (jaw (jnx (K:=K) hr.units) jd5 (jac 8) (jac 3) (jaq _)) (cw_and1 (jr9 (jmv (d_cM jb3 hr (jaa (jac 5) (jaa (jac 9) jae)))))))) (jar (jax (d_bl))) jbn) (jah (s_if (DCW.cc (cw_and (jaw jhr jhg (jac 8) (jac 3) (jaq _)) (cw_and1 (jr9 (jmv (d_cM jcd hr (jaa (jac 2) (jaa (jac 5) (jaa (jac 9) (jaa (jac 8) jae)))))))))) (jar (jax (d_bl))) jbn) (jar (ja8 (i:=5) sc40.nd rfl (Bz rfl) (jac 9))))))))))))))) (jar (jax (d_bl))))))⟩
end
theorem ls1 {α:Type} {us:List α} (h:us.length=1):∃a,us=[a]:=match us,h with | [a],_=>⟨a,rfl⟩
theorem ls2 {α:Type} {us:List α} (h:us.length=2):∃a b,us=[a,b]:=match us,h with | [a,b],_=>⟨a,b,rfl⟩
theorem ls3 {α:Type} {us:List α} (h:us.length=3):∃a b c,us=[a,b,c]:=match us,h with | [a,b,c],_=>⟨a,b,c,rfl⟩
theorem ls4 {α:Type} {us:List α} (h:us.length=4):∃a b c d,us=[a,b,c,d]:=match us,h with | [a,b,c,d],_=>⟨a,b,c,d,rfl⟩
abbrev oT (t:String) (d:Data):Obj:=⟨.type t,none,d,#[]⟩
structure Ds where
 i:Nat
 x:Str
 t:Nat
 l:Nat
 n:Nat
 r:Nat
 b:Bool
 v:Nat
 m:Nat
abbrev Ds.c (d:Ds):Nat:=if d.b then d.r+5 else d.r+3
abbrev Ds.f (d:Ds):Nat:=if d.b then d.r+6 else d.r+4
abbrev mOd (m:Nat):Af:=[(.str "noteboard.values" 232),(.str "noteboard.patterns" 243),(.str "noteboard.stands" 295),(.str "noteboard.moving" 305),(.str "law_noteboard_k25_whole_others_stay" 441)].getD m .none
abbrev fdO (d:Ds):Cp:=Fl d.x d.x (jg3 (top d.i)) (jdm (top d.i)) (jai (top d.i)) .none .none .none (mOd d.m) none (.ref d.c) .none
abbrev oF (d:Ds):Obj:=oT "function" (.func (fdO d))
abbrev oC (d:Ds):Obj:=oT "code" (.fields #[.str d.x d.t,.str d.x (d.t+1),.str "/claim/cut.py" (d.t+2),.int d.l 0,.int d.n 0,.int 0 0,.int 0 0,.int 3 0,.ref d.r,.bool true,.int 181 0,.ref (d.r+1),.none,if d.b then .ref (d.r+2)else .none,if d.b then .ref (d.r+3)else .none,.ref (if d.b then d.r+4 else d.r+2),.int d.v 0,.int d.l 0,.str "/claim/cut.py" (d.v+1)])
abbrev eN (P:Params) (x:Str) (t:Nat) (v:Af):DictEntry:=⟨PyData.keyHash P x,.str x t,v⟩
abbrev en (P:Params) (d:Ds):DictEntry:=eN P d.x (d.v+2) (.ref d.f)
def dL:List Ds:=[⟨5,"is_whole",236,11,1,47,true,240,0⟩,⟨7,"field_fits",245,14,4,54,true,253,1⟩,⟨8,"fits",256,27,3,61,true,266,1⟩,⟨9,"next_value",269,39,1,68,true,273,1⟩,⟨10,"field_value",276,43,2,75,true,282,1⟩,⟨11,"filled",285,48,2,82,false,288,1⟩,⟨14,"is_within",297,53,2,88,true,302,2⟩,⟨16,"next_act",307,56,3,95,true,316,3⟩,⟨17,"gets",319,61,3,102,true,330,3⟩,⟨18,"is_ready",333,73,3,109,true,340,3⟩,⟨19,"ready",343,78,2,116,false,346,3⟩,⟨20,"gone_on",349,80,2,121,true,354,3⟩,⟨21,"gone_to",357,82,3,128,false,360,3⟩,⟨22,"with_hand",363,85,3,133,true,369,3⟩,⟨23,"got",372,87,4,140,true,383,3⟩,⟨24,"is_same_value",386,99,2,147,true,392,3⟩,⟨25,"hand_moved",395,102,3,154,true,405,3⟩,⟨26,"aged",408,119,1,161,true,412,3⟩,⟨27,"clock_moved",415,121,1,168,false,418,3⟩,⟨28,"after",421,123,3,173,true,428,3⟩,⟨29,"moved",431,128,3,180,true,438,3⟩,⟨31,"_law_tape",443,134,1,187,true,447,4⟩,⟨32,"_law_draw",450,136,2,194,true,459,4⟩,⟨33,"_law_value",462,151,1,201,true,466,4⟩,⟨34,"_law_size",469,153,1,208,true,473,4⟩,⟨35,"_law_age",476,155,1,215,true,480,4⟩,⟨36,"_law_pattern",483,157,2,222,true,494,4⟩,⟨37,"_law_template",497,174,2,229,true,505,4⟩,⟨38,"_law_term",508,183,2,236,true,513,4⟩,⟨39,"_law_act",516,187,3,243,true,526,4⟩,⟨40,"_law_program",529,200,1,250,false,532,4⟩,⟨41,"_law_notes",535,217,2,255,false,538,4⟩,⟨42,"_law_plan",541,223,1,260,false,544,4⟩,⟨43,"_law_known",547,228,3,265,false,550,4⟩,⟨44,"_law_stand",553,234,2,270,false,556,4⟩,⟨45,"_law_next_act",559,242,3,275,true,569,4⟩,⟨46,"_law_lure",572,246,3,282,true,582,4⟩,⟨47,"_law_lured",585,260,3,289,true,595,4⟩,⟨48,"_law_notes_right",598,268,4,296,true,608,4⟩,⟨49,"_law_ticked_right",611,277,2,303,false,614,4⟩,⟨50,"_law_ready_right",617,287,2,308,true,625,4⟩,⟨51,"_law_still_right",628,296,2,315,true,635,4⟩,⟨52,"law",638,303,1,322,false,641,4⟩]
def KK (P:Params):Ah:=let e:=eN P
 (3,oT "dict" (.dict ([e "__name__" 165 (.str "law_noteboard_k25_whole_others_stay" 441),e "__doc__" 166 .none,e "__package__" 167 .none,e "__loader__" 168 (.builtin "__main__.__loader__#opaque"),e "__spec__" 169 .none,e "__annotations__" 170 (.ref 6),e "__builtins__" 171 (.ref 4),e "__file__" 173 (.str "/claim/cut.py" 172),e "__cached__" 174 .none,e "BoardError" 206 (.ref 24),e "NotReady" 231 (.ref 44),e "GREATEST_NUMBER" 235 (.int 99 234)]++((dL.drop 0).take 6).map (en P)++[e "GETTING" 294 (.ref 87)]++((dL.drop 6).take 37).map (en P)).toArray 56))::(dL.flatMap λd=>[(d.c,oC d),(d.f,oF d)])++[(87,oT "tuple" (.seq #[(.str "take" 291),(.str "read" 292),(.str "look" 293)] 0))]
def aS:List Addr:=3::(dL.flatMap λd=>[d.c,d.f])++[87]
abbrev pp:Bg:=PySem.Challenge.pw_noteboard_k25_whole_others_stay
abbrev qq:Bg:=PySem.W.view pp [52]
def lO:List Str:=(["BoardError","NotReady","GREATEST_NUMBER","is_whole","field_fits","fits","next_value","field_value","filled","GETTING","is_within","next_act","gets","is_ready","ready","gone_on","gone_to","with_hand","got","is_same_value","hand_moved","aged","clock_moved","after","moved","_law_tape","_law_draw","_law_value","_law_size","_law_age","_law_pattern","_law_template","_law_term","_law_act","_law_program","_law_notes","_law_plan","_law_known","_law_stand","_law_next_act","_law_lure","_law_lured","_law_notes_right","_law_ticked_right","_law_ready_right","_law_still_right"]:List String).map Cv
abbrev xT:Aj->Bool:=λs=>PySem.W.xlAt qq [] s&&PySem.W.recOk (PySem.W.RowW.records PySem.Challenge.rw_noteboard_k25_whole_others_stay.row.toRowW) s
theorem aK:∀P,aS=(KK P).map (·.1):=λP=>by kernel_rfl
abbrev hK:PySem.W.Hook:=PySem.W.kHook KK aS aK
theorem left_:PySem.W.LeftO pp qq lO xT hK.obs hK.val 3000:=λw=>by kernel_rfl
def j5m (s:Stmt):Pos:=match s with
 |.FunctionDef _ _ _ _ _ _ _ _ _ p=>p
 |_=>⟨0,0,0,0⟩
def dW:DefRec:=⟨"law",jg3 jrn,jdm jrn,jai jrn,j5m jrn⟩
theorem said_:PySem.Challenge.rw_noteboard_k25_whole_others_stay.wellSaid=true:=by kernel_rfl
theorem fnE (P:Params):(dL.map λd=>(PySem.W.nsIn (KK P) C2 d.x,(KK P).lookup d.f,PySem.W.codeIn (KK P) (.ref d.c) d.x))=dL.map λd=>(some (some (.ref d.f)),some (oF d),true):=by kernel_rfl
theorem jzp {α β:Type} {f g:α->β} {l:List α} (h:l.map f=l.map g) {j:Nat} {a:α} (e:l[j]?=some a):f a=g a:=by
 have:=congrArg (λl=>l[j]?) h;simp only[A0,e,Option.map_some]at this;exact Aq this
def zL:List Str:=["bool","dict","enumerate","int","isinstance","len","list","range","set","sorted","str","tuple","zip"]
theorem zE (P:Params):(zL.map λx=>PySem.W.nsIn (KK P) C2 x)=zL.map λ_=>some none:=by kernel_rfl
section
variable {P:Params} {h:Heap} {mg:Str->Option Af} (X:(KK P).In h) (G:h.Ns C2 mg)
include X G
theorem fnK (j:Nat) {d:Ds} (e:dL[j]?=some d):Fun (KK P) d.x d.x (top d.i) d.f (fdO d)/\mg d.x=some (.ref d.f)/\C9 (KK P) (.ref d.f)=true:=by
 have q:=jzp (fnE P) e;obtain⟨q1,q2⟩:=Prod.mk.inj q;obtain⟨q2,q3⟩:=Prod.mk.inj q2;have k:C9 (KK P) (.ref d.f)=true:=by
  unfold C9;simp only[q2]
 exact⟨j5f q2 q3 k,PySem.W.mg_of X G q1,k⟩
theorem zK (j:Nat) {x:Str} (e:zL[j]?=some x):mg x=none:=PySem.W.mg_none_of X G (jzp (zE P) e)
end
abbrev pR:Bg:=PySem.W.OpenLaw.prog PySem.Challenge.rw_noteboard_k25_whole_others_stay
theorem all_K (w:Bt) (mg:Str->Option Af) (fa:Addr) (h:Heap) (X:(KK w.params).In h) (G:h.Ns C2 mg) (hfa:mg "law"=some (.ref fa)) :
  ∃fd:Cp,(∀(s:Aj) (u:Af),BindsTo s fd ⟨[u],[]⟩ [("_law_script",u)])/\∀base:Heap,(KK w.params).In base->base.Ns C2 mg->FnOk (pR) w (KK w.params) mg base CX0 9 fa fd zqf1 (DL.spLaw (KK w.params)):=by
 obtain⟨F42,e,-⟩:=fnK X G 42 rfl;have e:=hfa.symm.trans e;cases e;obtain⟨F0,m0,-⟩:=fnK X G 0 rfl;obtain⟨F1,m1,-⟩:=fnK X G 1 rfl;obtain⟨F2,m2,-⟩:=fnK X G 2 rfl;obtain⟨F3,m3,-⟩:=fnK X G 3 rfl;obtain⟨F4,m4,-⟩:=fnK X G 4 rfl;obtain⟨F5,m5,-⟩:=fnK X G 5 rfl;obtain⟨F6,m6,-⟩:=fnK X G 6 rfl;obtain⟨F7,m7,-⟩:=fnK X G 7 rfl;obtain⟨F8,m8,-⟩:=fnK X G 8 rfl;obtain⟨F9,m9,-⟩:=fnK X G 9 rfl;obtain⟨F10,m10,-⟩:=fnK X G 10 rfl;obtain⟨F11,m11,-⟩:=fnK X G 11 rfl;obtain⟨F12,m12,-⟩:=fnK X G 12 rfl;obtain⟨F13,m13,-⟩:=fnK X G 13 rfl;obtain⟨F14,m14,-⟩:=fnK X G 14 rfl;obtain⟨F15,m15,-⟩:=fnK X G 15 rfl;obtain⟨F16,m16,-⟩:=fnK X G 16 rfl;obtain⟨F17,m17,-⟩:=fnK X G 17 rfl;obtain⟨F18,m18,-⟩:=fnK X G 18 rfl;obtain⟨F19,m19,-⟩:=fnK X G 19 rfl;obtain⟨F20,m20,-⟩:=fnK X G 20 rfl;obtain⟨F21,m21,k21⟩:=fnK X G 21 rfl;obtain⟨F22,m22,-⟩:=fnK X G 22 rfl;obtain⟨F23,m23,-⟩:=fnK X G 23 rfl;obtain⟨F24,m24,-⟩:=fnK X G 24 rfl;obtain⟨F25,m25,-⟩:=fnK X G 25 rfl;obtain⟨F26,m26,-⟩:=fnK X G 26 rfl;obtain⟨F27,m27,-⟩:=fnK X G 27 rfl;obtain⟨F28,m28,-⟩:=fnK X G 28 rfl;obtain⟨F29,m29,-⟩:=fnK X G 29 rfl;obtain⟨F30,m30,-⟩:=fnK X G 30 rfl;obtain⟨F31,m31,-⟩:=fnK X G 31 rfl;obtain⟨F32,m32,-⟩:=fnK X G 32 rfl;obtain⟨F33,m33,-⟩:=fnK X G 33 rfl;obtain⟨F34,m34,-⟩:=fnK X G 34 rfl;obtain⟨F35,m35,-⟩:=fnK X G 35 rfl;obtain⟨F36,m36,-⟩:=fnK X G 36 rfl;obtain⟨F37,m37,-⟩:=fnK X G 37 rfl;obtain⟨F38,m38,-⟩:=fnK X G 38 rfl;obtain⟨F39,m39,-⟩:=fnK X G 39 rfl;obtain⟨F40,m40,-⟩:=fnK X G 40 rfl;obtain⟨F41,m41,-⟩:=fnK X G 41 rfl;have z_bool:=zK X G (x:="bool") 0 rfl;have z_dict:=zK X G (x:="dict") 1 rfl;have z_enumerate:=zK X G (x:="enumerate") 2 rfl;have z_int:=zK X G (x:="int") 3 rfl;have z_isinstance:=zK X G (x:="isinstance") 4 rfl;have z_len:=zK X G (x:="len") 5 rfl;have z_list:=zK X G (x:="list") 6 rfl;have z_range:=zK X G (x:="range") 7 rfl;have z_set:=zK X G (x:="set") 8 rfl;have z_sorted:=zK X G (x:="sorted") 9 rfl;have z_str:=zK X G (x:="str") 10 rfl;have z_tuple:=zK X G (x:="tuple") 11 rfl;have z_zip:=zK X G (x:="zip") 12 rfl;have g_GREATEST_NUMBER:=PySem.W.mg_of X G (show PySem.W.nsIn (KK w.params) C2 "GREATEST_NUMBER"=some (some (.int 99 234)) by kernel_rfl);have g_GETTING:=PySem.W.mg_of X G (show PySem.W.nsIn (KK w.params) C2 "GETTING"=some (some (.ref 87)) by kernel_rfl);have t_GETTING:∀H,SqT (KK w.params) H 87 ((zqp:List Str).map V.str):=λH=>.inr ⟨_,_,_,(show(KK w.params).lookup 87=some (oT "tuple" (.seq #[(.str "take" 291),(.str "read" 292),(.str "look" 293)] 0)) by kernel_rfl),rfl,rfl,show 3<=A1 by decide,(.cons ⟨_,rfl⟩ (.cons ⟨_,rfl⟩ (.cons ⟨_,rfl⟩ .nil)))⟩;refine⟨fdO ⟨52,"law",638,303,1,322,false,641,4⟩,λs v=>.of_eq rfl,λbase _ _=>?_⟩;have h_is_whole:=joa (P:=pR) (w:=w) (base:=base) F0 m0 (F0.binds λ_ _ _ _ _ _ us hl=>by obtain⟨_,rfl⟩:=ls1 hl;rfl) z_bool z_int z_isinstance;have h_field_fits:=jkm (P:=pR) (w:=w) (base:=base) F1 m1 (F1.binds λ_ _ _ _ _ _ us hl=>by obtain⟨_,_,_,_,rfl⟩:=ls4 hl;rfl) z_int z_isinstance z_str;have h_fits:=jxv (P:=pR) (w:=w) (base:=base) F2 m2 (F2.binds λ_ _ _ _ _ _ us hl=>by obtain⟨_,_,_,rfl⟩:=ls3 hl;rfl) h_field_fits z_dict z_len z_sorted z_tuple z_zip;have h_next_value:=jkk (P:=pR) (w:=w) (base:=base) F3 m3 (F3.binds λ_ _ _ _ _ _ us hl=>by obtain⟨_,rfl⟩:=ls1 hl;rfl) z_isinstance z_str g_GREATEST_NUMBER;have h_field_value:=jjb (P:=pR) (w:=w) (base:=base) F4 m4 (F4.binds λ_ _ _ _ _ _ us hl=>by obtain⟨_,_,rfl⟩:=ls2 hl;rfl) h_next_value;have h_filled:=jry (P:=pR) (w:=w) (base:=base) F5 m5 (F5.binds λ_ _ _ _ _ _ us hl=>by obtain⟨_,_,rfl⟩:=ls2 hl;rfl) h_field_value z_dict z_tuple;have h_is_within:=jmf (P:=pR) (w:=w) (base:=base) F6 m6 (F6.binds λ_ _ _ _ _ _ us hl=>by obtain⟨_,_,rfl⟩:=ls2 hl;rfl) h_is_whole;have h_next_act:=jn9 (P:=pR) (w:=w) (base:=base) F7 m7 (F7.binds λ_ _ _ _ _ _ us hl=>by obtain⟨_,_,_,rfl⟩:=ls3 hl;rfl) z_len;have h_gets:=jxu (P:=pR) (w:=w) (base:=base) F8 m8 (F8.binds λ_ _ _ _ _ _ us hl=>by obtain⟨_,_,_,rfl⟩:=ls3 hl;rfl) h_fits h_next_act z_enumerate g_GETTING t_GETTING;have h_is_ready:=job (P:=pR) (w:=w) (base:=base) F9 m9 (F9.binds λ_ _ _ _ _ _ us hl=>by obtain⟨_,_,_,rfl⟩:=ls3 hl;rfl) h_gets h_next_act;have h_ready:=jux (P:=pR) (w:=w) (base:=base) F10 m10 (F10.binds λ_ _ _ _ _ _ us hl=>by obtain⟨_,_,rfl⟩:=ls2 hl;rfl) h_is_ready z_len z_range;have h_gone_on:=jps (P:=pR) (w:=w) (base:=base) F11 m11 (F11.binds λ_ _ _ _ _ _ us hl=>by obtain⟨_,_,rfl⟩:=ls2 hl;rfl);have h_gone_to:=jpr (P:=pR) (w:=w) (base:=base) F12 m12 (F12.binds λ_ _ _ _ _ _ us hl=>by obtain⟨_,_,_,rfl⟩:=ls3 hl;rfl) z_tuple;have h_with_hand:=jme (P:=pR) (w:=w) (base:=base) F13 m13 (F13.binds λ_ _ _ _ _ _ us hl=>by obtain⟨_,_,_,rfl⟩:=ls3 hl;rfl);have h_got:=j11 (P:=pR) (w:=w) (base:=base) F14 m14 (F14.binds λ_ _ _ _ _ _ us hl=>by obtain⟨_,_,_,_,rfl⟩:=ls4 hl;rfl) h_fits h_gets h_gone_on h_gone_to h_with_hand;have h_is_same_value:=jgw (P:=pR) (w:=w) (base:=base) F15 m15 (F15.binds λ_ _ _ _ _ _ us hl=>by obtain⟨_,_,rfl⟩:=ls2 hl;rfl) h_field_value z_dict;have h_hand_moved:=jkl (P:=pR) (w:=w) (base:=base) F16 m16 (F16.binds λ_ _ _ _ _ _ us hl=>by obtain⟨_,_,_,rfl⟩:=ls3 hl;rfl) h_filled h_gone_on h_gone_to h_got h_is_same_value h_next_act h_with_hand g_GETTING t_GETTING;have h_aged:=jxw (P:=pR) (w:=w) (base:=base) F17 m17 (F17.binds λ_ _ _ _ _ _ us hl=>by obtain⟨_,rfl⟩:=ls1 hl;rfl);have h_clock_moved:=jjc (P:=pR) (w:=w) (base:=base) F18 m18 (F18.binds λ_ _ _ _ _ _ us hl=>by obtain⟨_,rfl⟩:=ls1 hl;rfl) h_aged z_tuple;have h_after:=juz (P:=pR) (w:=w) (base:=base) F19 m19 (F19.binds λ_ _ _ _ _ _ us hl=>by obtain⟨_,_,_,rfl⟩:=ls3 hl;rfl) h_clock_moved h_hand_moved h_is_within z_len;have h_moved:=juy (P:=pR) (w:=w) (base:=base) F20 m20 (F20.binds λ_ _ _ _ _ _ us hl=>by obtain⟨_,_,_,rfl⟩:=ls3 hl;rfl) h_after;have GT:=j1o (P:=pR) (w:=w) (mg:=mg) (base:=base) F21;have jaf:Has (pR) w (KK w.params) mg base 1 "_law_draw" zqd jav:=Has.mk' F22 m22 (F22.binds λ_ _ _ _ _ _ us hl=>by obtain⟨_,_,rfl⟩:=ls2 hl;rfl) (jx5 (j1p (P:=pR) (w:=w) (base:=base) F22 z_len));have jau:=jkn (P:=pR) (w:=w) (base:=base) F23 m23 (F23.binds λ_ _ _ _ _ _ us hl=>by obtain⟨_,rfl⟩:=ls1 hl;rfl) jaf;have jbt:=jmh (P:=pR) (w:=w) (base:=base) F24 m24 (F24.binds λ_ _ _ _ _ _ us hl=>by obtain⟨_,rfl⟩:=ls1 hl;rfl) jaf;have jbz:=joc (P:=pR) (w:=w) (base:=base) F25 m25 (F25.binds λ_ _ _ _ _ _ us hl=>by obtain⟨_,rfl⟩:=ls1 hl;rfl) jaf z_len;have jdk:=jh8 (P:=pR) (w:=w) (base:=base) F26 m26 (F26.binds λ_ _ _ _ _ _ us hl=>by obtain⟨_,_,rfl⟩:=ls2 hl;rfl) jaf jbt jau z_len z_range z_tuple;have jc2:=jgx (P:=pR) (w:=w) (base:=base) F27 m27 (F27.binds λ_ _ _ _ _ _ us hl=>by obtain⟨_,_,rfl⟩:=ls2 hl;rfl) jaf jbt jau z_len z_range z_tuple;have jd0:=jmg (P:=pR) (w:=w) (base:=base) F28 m28 (F28.binds λ_ _ _ _ _ _ us hl=>by obtain⟨_,_,rfl⟩:=ls2 hl;rfl) jaf jau z_len;have jgz:=jod (P:=pR) (w:=w) (base:=base) F29 m29 (F29.binds λ_ _ _ _ _ _ us hl=>by obtain⟨_,_,_,rfl⟩:=ls3 hl;rfl) jbz jaf jdk jc2 jd0 z_len;have jdj:=jh7 (P:=pR) (w:=w) (base:=base) F30 m30 (F30.binds λ_ _ _ _ _ _ us hl=>by obtain⟨_,rfl⟩:=ls1 hl;rfl) jgz jaf z_len z_list z_range z_tuple;have jb9:=jkp (P:=pR) (w:=w) (base:=base) F31 m31 (F31.binds λ_ _ _ _ _ _ us hl=>by obtain⟨_,_,rfl⟩:=ls2 hl;rfl) jbz jaf jbt jau z_range z_tuple;have jfz:=jmi (P:=pR) (w:=w) (base:=base) F32 m32 (F32.binds λ_ _ _ _ _ _ us hl=>by obtain⟨_,rfl⟩:=ls1 hl;rfl) jaf jb9 jdj z_len z_range z_tuple;have jer:=jkr (P:=pR) (w:=w) (base:=base) F33 m33 (F33.binds λ_ _ _ _ _ _ us hl=>by obtain⟨_,_,_,rfl⟩:=ls3 hl;rfl) z_list z_set z_sorted;have jep:=jko (P:=pR) (w:=w) (base:=base) F34 m34 (F34.binds λ_ _ _ _ _ _ us hl=>by obtain⟨_,_,rfl⟩:=ls2 hl;rfl) jaf jer jb9 jau z_len z_tuple;have ja6:=jgy (P:=pR) (w:=w) (base:=base) F35 m35 (F35.binds λ_ _ _ _ _ _ us hl=>by obtain⟨_,_,_,rfl⟩:=ls3 hl;rfl) z_len;have jf0:=jmj (P:=pR) (w:=w) (base:=base) F36 m36 (F36.binds λ_ _ _ _ _ _ us hl=>by obtain⟨_,_,_,rfl⟩:=ls3 hl;rfl) jau z_dict z_tuple;have jeq:=jkq (P:=pR) (w:=w) (base:=base) F37 m37 (F37.binds λ_ _ _ _ _ _ us hl=>by obtain⟨_,_,_,rfl⟩:=ls3 hl;rfl) jbz jaf jf0 ja6 z_len z_list z_range z_tuple;have jcd:=jfk (P:=pR) (w:=w) (base:=base) F38 m38 (F38.binds λ_ _ _ _ _ _ us hl=>by obtain⟨_,_,_,_,rfl⟩:=ls4 hl;rfl) ja6 h_gets z_len;have jb3:=jeo (P:=pR) (w:=w) (base:=base) F39 m39 (F39.binds λ_ _ _ _ _ _ us hl=>by obtain⟨_,_,rfl⟩:=ls2 hl;rfl) z_len z_zip;have jcc:=jfj (P:=pR) (w:=w) (base:=base) F40 m40 (F40.binds λ_ _ _ _ _ _ us hl=>by obtain⟨_,_,rfl⟩:=ls2 hl;rfl) ja6 h_ready z_len z_range;have jcb:=jfi (P:=pR) (w:=w) (base:=base) F41 m41 (F41.binds λ_ _ _ _ _ _ us hl=>by obtain⟨_,_,rfl⟩:=ls2 hl;rfl) h_moved h_ready z_len z_range;exact j4m F42 GT (F21.binds λ_ _ _ _ _ _ us hl=>by obtain⟨_,rfl⟩:=ls1 hl;rfl) m21 k21 jaf jeq jcd jfz jcc jep jcb jb3 h_moved h_ready z_len z_range
theorem walk {l:PySem.W.OpenLaw} {q:Bg} {loose:List Str} {XP:(Str->Option Af)->Heap->Prop} {YP:Bt->Heap->Prop} {d:DefRec} {K:Params->Ah} (hn:l.most=some 63) (hdf:d.params.defaults=[])
  (hY:∀(w:Bt) (h:Heap),YP w h->(K w.params).In h)
  (F:∀(w:Bt) (mg:Str->Option Af) (fa:Addr) (h:Heap),(K w.params).In h->h.Ns C2 mg->mg d.name=some (.ref fa) ->
   ∃fd:Cp,(∀(s:Aj) (u:Af),BindsTo s fd ⟨[u],[]⟩ [("_law_script",u)])/\∀base:Heap,(K w.params).In base->base.Ns C2 mg->FnOk l.prog w (K w.params) mg base CX0 9 fa fd zqf1 (DL.spLaw (K w.params))) :
  PySem.W.WalkO q loose XP YP l.row.toRowW d [] (λf vs=>PySem.call f vs) :=
 L2.walk_of (n:=63) (k:=9) (x:="_law_script") (CX:=λ_=>CX0) (sp:=λw=>DL.spLaw (K w.params)) hn (by decide) hdf ⟨rfl,by decide,by decide,rfl⟩ hY F (λ_ _ a ns hl _ hS=>⟨a,ns,rfl,hS,hl,λ_=>rfl⟩) λ_ _ _ _ _ z=>z
end Nb
open PySem PySem.W PyProof.Rows
set_option maxRecDepth 100000 in
set_option maxHeartbeats 0 in
theorem PySem.Challenge.cw_noteboard_k25_whole_others_stay_holds : PySem.Challenge.rw_noteboard_k25_whole_others_stay.Holds := by
 refine holds_law Nb.said_ λsaid=>?_;refine holds_open (q:=Nb.qq) (loose:=Nb.lO) (Xt:=Nb.xT) (XP:=XL Nb.qq []) (Yf:=Hook.obs Nb.hK) (Ya:=Hook.val Nb.hK) (YP:=Hook.says Nb.hK) (d:=Nb.dW) (kwd:=[]) (N:=3000) Nb.left_ (Hook.of Nb.hK) (Hook.keeps Nb.hK) (λs e=>xl_of s (Bool.and_eq_true_iff.mp e).1) XL.keeps (by kernel_rfl) (by kernel_rfl) (by kernel_rfl) (λs e=>recFacts_of (Bool.and_eq_true_iff.mp e).2) (by kernel_rfl) said (by decide +kernel) ⟨rfl,rfl,rfl,rfl,rfl,by decide +kernel⟩ ?hw ?hc
 (case hw=>w_witness2)
 exact Nb.walk (l:=PySem.Challenge.rw_noteboard_k25_whole_others_stay) (by kernel_rfl) (by kernel_rfl) (λw h Y=>kIn_of Y) Nb.all_K
