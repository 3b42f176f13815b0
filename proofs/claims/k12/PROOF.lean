import PyProof.Rows.All
import Wide.All
import OpenK.AllK
import Wide.FinOn
import Lean
import PyProof.EqAt
import PyProof.EqKinds
import PyProof.TupleCall
import PyProof.AttrMissHeap
import PyProof.Rows.RegFStrParts
import PySem.Challenge.RW_noteboard_k12_programs_and_plans
set_option Elab.async false
set_option linter.all false
set_option maxRecDepth 100000
open PySem renaming wpAny_bind -> Aa, PyData -> Ab, Value -> Af, wpAny_pure -> Ah, Shared -> Aj, sizeLine -> Ax, wpAny -> Az, starEach -> A8, model -> Bb, wpAny_newObj_type -> Bm, Program -> Br, wpAny_callSpecial?_slot -> Bs, compareOp -> Bt, bootBuiltins -> By, wpAny_call_entry -> B1, World -> B4, Around -> B9, wpAny_field -> Ce, wpAny_seqItems -> Cn, rawInt -> Cy, FuncData -> C2, wpAny_truthy_bool -> C4, wpAny_holding -> C6, wpAny_setField -> Dh, Builtin -> Dp, mainGlobals -> Dq, binaryOp -> Dr, strKind -> Du, wpAny_mono -> Dw, assignEach -> Dx, wpAny_setEntries_of -> Dy, behindInMarks -> D0, wpAny_setField_rec -> D3, wpAny_pyIter_tuple -> D4, IsPair -> D5, foldedSetIterable -> Ec, wpAny_attempt -> Ef, pyNext -> Eg, firstArgMember -> Ej, backTo -> Ek, SetTable -> El, Scope -> Eo, wpAny_setState_of -> Ey, mem_of_lookup -> E2, sizeLine_eq -> E6, isSubtype_type -> E7, wpAny_isInstance -> Fb, codeAny_builtin -> Fj, call_meets -> Fn, wpAny_typeOf -> Fp, wpAny_fieldsOf -> Fq, codeAny -> Fs, wpAny_rule -> Fy, swapsWith -> Fz, sliceBounds -> F2, wpAny_passesOwn -> F4, wpAny_binaryOp_repeat_ref -> Ga
open And renaming intro -> Ad
open PySem.Heap renaming get?_push_of_some -> Ae, lt_size -> Ao, get?_push_size -> As, get?_update_self -> Bx, size_push -> Cf, SameBut -> Dc, get?_update_other -> Dv
open PySem.W renaming Frag -> Ag, mg_of -> Ct, keepIn -> Cz, kia_one -> C1, kas_rev -> Eb, fnOf -> Eu
open List renaming length_map -> Ai, length_append -> Ak, getElem?_eq_getElem -> Am, mem_cons -> An, size_toArray -> Aq, getElem?_cons_zero -> Au, replicate -> Av, not_mem_nil -> Aw, getElem?_cons_succ -> Ay, mem_append -> A0, mem_cons_of_mem -> A1, mem_singleton -> A2, length_cons -> A3, set_cons_zero -> A4, mem_cons_self -> A5, set -> A6, map_cons -> A7, length_singleton -> A9, getElem?_map -> Ba, set_cons_succ -> Bc, mem_append_right -> Be, all_eq_true -> Bh, map_nil -> Bk, append_assoc -> Bn, getElem?_eq_some_iff -> Bp, range -> Bu, append_nil -> B7, mem_map -> Cc, eq_nil_of_length_eq_zero -> Cp, nil_append -> Cu, map_append -> Cw, mem_range -> C3, getElem?_set_ne -> C8, toArray -> Da, replicate_succ -> Dd, map_id -> De, length_set -> Df, all_map -> Dj, mem_append_left -> Dk, flatten_cons -> D6, length_take -> Ed, getElem?_replicate -> Ee, getElem_mem -> Ez, nodup_cons -> Fc, not_lt -> Ff, getElem?_set_self' -> Fg, getElem?_eq_none -> Fo, any_cons -> Fu, all_cons -> Fv, mem_of_getElem? -> Fw, length_reverse -> F0, filterMap_cons -> F1, getElem?_append_left -> F8, pairwise_singleton -> F9
open Bool renaming false_ne_true -> Al, and_eq_true -> Ap, false_eq_true -> Bf, true_and -> B6, or_eq_true_iff -> Ck, or_true -> C5, eq_iff_iff -> En, false_or -> E9, true_or -> Fk, false_and -> Fl, and_false -> Fm
open Nat renaming le_refl -> Ar, ne_of_lt -> Bd, zero_le -> Bj, lt_of_lt_of_le -> Bq, le_trans -> Bw, le_of_ble_eq_true -> D2, lt_succ_of_lt -> D7, lt_irrefl -> Er, ne_of_gt -> E4, lt_succ_self -> Ft, lt_of_le_of_lt -> F5
open PySem.Heap.SameBut renaming update -> Bg
open PySem.Value renaming none -> Bi, ref -> Cb, type -> Dm
open Option.some renaming inj -> Bo
open Int renaming toNat_natCast -> Bv, natCast_nonneg -> F6, emod_lt_of_pos -> F7
open PySem.PyData renaming tuple -> Bz, str -> B5, strOk -> Ew
open Option renaming bind -> B3, map -> Ci
open PySem.Obj renaming data_mapFields -> B8, mapSeq -> Cs, isFreed_of_fields -> Di, putSet -> Ea, cls_mapFields -> Es
open PySem.Builtin.SmallTypes renaming nextOf -> Ca, ownedTupleIsFree -> Cg, ownedTupleHandOut -> F3
open PySem.Builtin.Slice renaming slicePlaces -> Cj, sliceAdjust -> C9, sliceApplied -> Ei
open PySem.Str renaming ofString -> Cm
open PySem.Builtin.Tuple renaming tupleExact -> Co, tupleItemsOf -> Dn
open Array renaming length_toList -> Cq, getElem?_eq_getElem -> Dg
open PyProof.Rows renaming slot_tuple_getitem -> Cr, seqObj -> C7, callWith_type1 -> Eh, envOfC -> Ep
open Or renaming inr -> C0, inl -> D1
open PySem.Builtin.List renaming listExtendWith -> Dl, listTooLong -> Dz, listSameRef -> Fx
open Exists renaming intro -> Dt
open PySem.SetTable renaming grown -> D8, below -> D9
open PySem.PyData.tuple renaming inj -> Em
open PySem.Around renaming under_plainId -> Et
open List.cons renaming inj -> Ex
open PySem.AutoSeq1 renaming wpAny_loadPart' -> E1
open PySem.F renaming args_tuple_add_2 -> E3, slot_tuple_iterator_next -> E5, entry_tuple_add -> E8, slot_tuple_add -> Fd, slot_zip_next -> Fh, slot_int_rmul -> Fi
noncomputable section
namespace L2
open PySem PySem.Spec PyProof.Rows
abbrev Key:=Sum Int Str
def j4j:Key->Af->Bool
 |.inl k,v=>Value.isInt k v
 |.inr x,v=>Value.isStrOf x v
def keyH (w:B4):Key->Int
 |.inl k=>hashInt k
 |.inr x=>hashStr w x
theorem jbf:∀{k:Key} {v:Af},j4j k v=true->(∃i t,k=Sum.inl i/\v=Value.int i t)\/(∃x t,k=Sum.inr x/\v=Value.str x t)
 |.inl i,v,h=>by
  obtain⟨t,e⟩:=Value.isInt_shape (k:=i) (v:=v) h;exact .inl ⟨i,t,rfl,e⟩
 |.inr x,v,h=>by
  obtain⟨t,e⟩:=Value.isStrOf_shape (x:=x) (v:=v) h;exact .inr ⟨x,t,rfl,e⟩
theorem j4i (a b:Int):decide ((Sum.inl a:Key)=Sum.inl b)=(a==b):=by
 by_cases e:a=b
 ·subst e;simp
 ·have h:¬(Sum.inl a:Key)=Sum.inl b:=λq=>e (Sum.inl.inj q);rw[decide_eq_false h];exact(beq_eq_false_iff_ne.mpr e).symm
theorem j4f (a b:Str):decide ((Sum.inr a:Key)=Sum.inr b)=decide (a=b):=by
 by_cases e:a=b
 ·subst e;simp
 ·have h:¬(Sum.inr a:Key)=Sum.inr b:=λq=>e (Sum.inr.inj q);rw[decide_eq_false h,decide_eq_false e]
theorem j4h (a:Int) (b:Str):decide ((Sum.inl a:Key)=Sum.inr b)=false:=decide_eq_false (λq=>nomatch q)
theorem j4g (a:Str) (b:Int):decide ((Sum.inr a:Key)=Sum.inl b)=false:=decide_eq_false (λq=>nomatch q)
def jvb (prog:Br) (w:B4):PySem.KeyKind prog w Key where
 is:=j4j
 hash:=keyH w
 inj:=λv a b ha hb=>by
  rcases jbf ha with⟨i,t,rfl,rfl⟩ | ⟨x,t,rfl,rfl⟩
  ·rcases jbf hb with⟨j,u,rfl,e⟩ | ⟨y,u,rfl,e⟩
   ·injection e with e1 _;rw[e1]
   ·exact nomatch e
  ·rcases jbf hb with⟨j,u,rfl,e⟩ | ⟨y,u,rfl,e⟩
   ·exact nomatch e
   ·injection e with e1 _;rw[e1]
 byValue:=λk v h=>by
  rcases jbf h with⟨i,t,rfl,rfl⟩ | ⟨x,t,rfl,rfl⟩<;>rfl
 pyHash:=λhv h=>by
  rcases jbf hv with⟨i,t,rfl,rfl⟩ | ⟨x,t,rfl,rfl⟩
  ·exact wpAny_pyHash_int h
  ·exact wpAny_pyHash_str h
 eqBool:=λhu hv h=>by
  rcases jbf hu with⟨i,t,rfl,rfl⟩ | ⟨x,t,rfl,rfl⟩
  ·rcases jbf hv with⟨j,u,rfl,rfl⟩ | ⟨y,u,rfl,rfl⟩
   ·rw[j4i]at h;exact wpAny_eqBool_int h
   ·rw[j4h]at h;exact SeqAt.EqAt.int_str i t y u _ _ _ _ h
  ·rcases jbf hv with⟨j,u,rfl,rfl⟩ | ⟨y,u,rfl,rfl⟩
   ·rw[j4g]at h;exact SeqAt.EqAt.str_int x t j u _ _ _ _ h
   ·rw[j4f]at h;exact wpAny_eqBool_str h
 «strs»:=λk x t v h=>by
  rcases jbf h with⟨i,u,rfl,e⟩ | ⟨y,u,rfl,e⟩
  ·exact nomatch e
  ·injection e with e1 _;subst e1;cases v<;>rfl
inductive V where
 |non | bl (b:Bool) | int (i:Int) | str (x:Str) | byt (b:Array UInt8) | flt (b:UInt64) | ref (a:Addr) | ty (n:String)
 deriving DecidableEq
def RelV:V->Af->Prop
 |.non,u=>u=Bi
 |.bl b,u=>u=Value.bool b
 |.int i,u=>∃t,u=Value.int i t
 |.str x,u=>∃t,u=Value.str x t
 |.byt b,u=>∃t,u=Value.bytes b t
 |.flt b,u=>∃t,u=Value.float b t
 |.ref a,u=>u=Cb a
 |.ty n,u=>u=Dm n
abbrev Vals:List V->List Af->Prop:=Paired RelV
theorem Vals.length {xs:List V} {us:List Af} (r:Vals xs us):xs.length=us.length:=Paired.length r
theorem Vals.get:∀{xs:List V} {us:List Af} {i:Nat} {x:V},Vals xs us->xs[i]?=some x->∃u,us[i]?=some u/\RelV x u
 |_,_,_,_,.nil,e=>by simp at e
 |_,_,0,_,.cons r _,e=>by simp at e;subst e;exact⟨_,rfl,r⟩
 |_,_,i+1,x,.cons _ t,e=>by
  obtain⟨u,h1,h2⟩:=Vals.get (i:=i) (x:=x) t (by simpa using e);exact⟨u,by simpa using h1,h2⟩
theorem Vals.set {x:V} {u:Af} (r:RelV x u):∀{xs:List V} {us:List Af} (i:Nat),Vals xs us->Vals (xs.set i x) (us.set i u)
 |_,_,_,.nil=>.nil
 |_,_,0,.cons _ t=>.cons r t
 |_,_,i+1,.cons q t=>.cons q (Vals.set r i t)
theorem Vals.append:∀{xs ys:List V} {us ws:List Af},Vals xs us->Vals ys ws->Vals (xs++ys) (us++ws)
 |_,_,_,_,.nil,s=>s
 |_,_,_,_,.cons r t,s=>.cons r (Vals.append t s)
theorem Vals.take:∀{xs:List V} {us:List Af} (n:Nat),Vals xs us->Vals (xs.take n) (us.take n)
 |_,_,0,_=>.nil
 |_,_,_+1,.nil=>.nil
 |_,_,n+1,.cons r t=>.cons r (Vals.take n t)
theorem Vals.drop:∀{xs:List V} {us:List Af} (n:Nat),Vals xs us->Vals (xs.drop n) (us.drop n)
 |_,_,0,r=>r
 |_,_,_+1,.nil=>.nil
 |_,_,n+1,.cons _ t=>Vals.drop n t
def RelO:Option V->Option Af->Prop
 |some v,some u=>RelV v u
 |none,none=>True
 |_,_=>False
def KV {κ:Type}:List (κ×V)->List (κ×Af)->Prop:=Paired λ(p:κ×V) (q:κ×Af)=>p.1=q.1/\RelV p.2 q.2
def kV:Key->V
 |.inl i=>.int i
 |.inr x=>.str x
inductive HO where
 |lst (xs:List V)
 |tup (xs:List V)
 |dK (kvs:List (Key×V)) | dT (kvs:List (List Key×V))
 |set (S:Int->Bool) (n:Nat)
 |ins (C dx:Addr) (fs:List (Str×V))
 |own (x:Addr)
 |xd (fs:List (Str×V))
 |met (f x:Addr)
 |rng (lo hi:Int)
 |frz (o:Obj) (u:HO)
 |tbl (ps:Array Af)
 |ext (φ:Heap->Prop)
abbrev Hp:=Addr->Option HO
def upd (H:Hp) (a:Addr) (o:HO):Hp:=λb=>if b=a then some o else H b
theorem jai {H:Hp} {a:Addr} {o:HO}:upd H a o a=some o:=by unfold upd;rw[if_pos rfl]
theorem jag {H:Hp} {a b:Addr} {o:HO} (h:b≠a):upd H a o b=H b:=by unfold upd;rw[if_neg h]
theorem j6v {H:Hp} {a b:Addr} {o u:HO} (h:H a=some o) (h':H b=some u) (d:o≠u):a≠b:=by
 intro e;subst e;rw[h]at h';exact d (Bo h')
theorem jae {H:Hp} {a b:Addr} {o:HO} (h:H a=some o) (h':H b=none):a≠b:=by
 intro e;subst e;rw[h]at h';cases h'
def IsTupP (h:Heap) (a:Addr) (items:Array Af):Prop:=∃o,h.get? a=some o/\o.cls=.type "tuple"/\(∃n,o.data=.seq items n)/\o.dict=none
theorem IsTupP.tup {h:Heap} {a:Addr} {items:Array Af} (x:IsTupP h a items):IsTup h a items:=let⟨o,e,c,d,_⟩:=x;⟨o,e,c,d⟩
theorem IsTupP.lt {h:Heap} {a:Addr} {items:Array Af} (x:IsTupP h a items):a < h.objs.size:=let⟨_,e,_⟩:=x;Ao e
theorem IsTupP.new (h:Heap) (items:Array Af):IsTupP (h.push {cls:=.type "tuple",data:=.seq items}) h.objs.size items:=⟨_,As _ rfl,rfl,⟨_,rfl⟩,rfl⟩
section
variable (P:Br) (w:B4)
def ObjOk (H:Hp) (h:Heap) (a:Addr):HO->Prop
 |.lst xs=>xs.length<=Ax/\∃(its:List Af) (n:Nat),Vals xs its/\h.get? a=some {cls:=.type "list",data:=.seq its.toArray n}
 |.tup xs=>xs.length<=Ax/\∃its:List Af,Vals xs its/\IsTupP h a its.toArray
 |.dK kvs=>kvs.length<=Ax/\(a==sysModules)=false/\∃vs,KV kvs vs/\h.DictOf (jvb P w) a vs
 |.dT kvs=>kvs.length<=Ax/\(a==sysModules)=false/\∃xs:List (List Key×Addr×Af),
   Paired (λ(p:List Key×V) (q:List Key×Addr×Af)=>p.1=q.1/\H q.2.1=some (.tup (p.1.map kV))/\RelV p.2 q.2.2) kvs xs /\
   ∃o es ep,h.get? a=some o/\o.ExactDict/\o.data=.dict es ep/\es.toList=xs.map (entryOfKey (tupleKind (jvb P w)))/\(xs.map (·.1)).Nodup
 |.set S n=>h.SetOf (intKind P w) a S n
 |.ins C dx fs=>H dx=some (.own a)/\fs.length<=1000/\dx≠a/\h.get? a=some (PySem.W.instObj C dx) /\
   ∃mA,h.Ns1 dx mA/\(∀f,RelO (fs.lookup f) (mA f))/\PySem.Within mA (fs.map (·.1))
 |.own _=>∃o,h.get? a=some o
 |.xd fs=>∃mA,h.Ns1 a mA/\∀f,RelO (fs.lookup f) (mA f)
 |.rng lo hi=>∃t u v,h.get? a=some {cls:=.type "range",data:=.fields #[.int lo t,.int hi u,.int 1 v]}
 |.frz o u=>h.get? a=some o/\ObjOk H h a u
 |.tbl ps=>h.get? a=some {cls:=.none,data:=.fields ps}
 |.met f x=>h.get? a=some (PySem.W.methodObj (.ref f) (.ref x))
 |.ext φ=>φ h/\(∃o,h.get? a=some o)/\∀h1 h2:Heap,φ h1->(∀o,h1.get? a=some o->h2.get? a=some o)->φ h2
def HOk (H:Hp) (h:Heap):Prop:=∀a o,H a=some o->ObjOk P w H h a o
end
section
variable {P:Br} {w:B4} {H H':Hp} {h h':Heap} {a:Addr} {o:HO}
theorem ObjOk.lt (x:ObjOk P w H h a o):a < h.objs.size:=by
 cases o with
 |lst xs=>obtain⟨_,_,_,_,e⟩:=x;exact Ao e
 |tup xs=>obtain⟨_,_,_,p⟩:=x;exact p.lt
 |dK kvs=>obtain⟨_,_,_,_,o,_,_,e,_⟩:=x;exact Ao e
 |dT kvs=>obtain⟨_,_,_,_,o,_,_,e,_⟩:=x;exact Ao e
 |set S n=>obtain⟨o,_,_,_,e,_⟩:=x;exact Ao e
 |ins C dx fs=>obtain⟨_,_,_,e,_⟩:=x;exact Ao e
 |own y=>obtain⟨_,e⟩:=x;exact Ao e
 |xd fs=>obtain⟨_,⟨_,_,_,e,_⟩,_⟩:=x;exact Ao e
 |rng lo hi=>obtain⟨_,_,_,e⟩:=x;exact Ao e
 |frz ob u=>obtain⟨e,_⟩:=x;exact Ao e
 |tbl ps=>exact Ao (show h.get? a=some _ from x)
 |met f y=>exact Ao (show h.get? a=some _ from x)
 |ext φ=>obtain⟨_,⟨_,e⟩,_⟩:=x;exact Ao e
theorem Paired.mapP {α β:Type} {F G:α->β->Prop}:∀{l₁:List α} {l₂:List β},Paired F l₁ l₂->(∀a b,F a b->G a b)->Paired G l₁ l₂
 |_,_,.nil,_=>.nil
 |_,_,.cons r t,f=>.cons (f _ _ r) (Paired.mapP t f)
theorem ObjOk.stay (x:ObjOk P w H h a o) (k:∀b u,(b=a\/H b=some (.own a))->h.get? b=some u->h'.get? b=some u)
  (ho:∀b,H b=some (.own a)->H' b=some (.own a)) (ht:∀b xs,H b=some (.tup xs)->H' b=some (.tup xs)):ObjOk P w H' h' a o:=by
 induction o with
 |lst xs=>obtain⟨z,its,n,r,e⟩:=x;exact⟨z,its,n,r,k _ _ (.inl rfl) e⟩
 |tup xs=>obtain⟨z,its,r,ob,e,c⟩:=x;exact⟨z,its,r,ob,k _ _ (.inl rfl) e,c⟩
 |dK kvs=>obtain⟨z,y,vs,r,ob,es,ep,e,c⟩:=x;exact⟨z,y,vs,r,ob,es,ep,k _ _ (.inl rfl) e,c⟩
 |dT kvs =>
  obtain⟨z,y,xs,r,ob,es,ep,e,c⟩:=x;exact⟨z,y,xs,Paired.mapP r λp q z=>⟨z.1,ht _ _ z.2.1,z.2.2⟩,ob,es,ep,k _ _ (.inl rfl) e,c⟩
 |set S n=>obtain⟨ob,es,ep,t,e,c⟩:=x;exact⟨ob,es,ep,t,k _ _ (.inl rfl) e,c⟩
 |ins C dx fs =>
  obtain⟨d,z,ne,e,mA,⟨od,es,ep,e2,c⟩,r⟩:=x;exact⟨ho _ d,z,ne,k _ _ (.inl rfl) e,mA,⟨od,es,ep,k _ _ (.inr d) e2,c⟩,r⟩
 |own y=>obtain⟨ob,e⟩:=x;exact⟨ob,k _ _ (.inl rfl) e⟩
 |xd fs=>obtain⟨mA,⟨od,es,ep,e,c⟩,r⟩:=x;exact⟨mA,⟨od,es,ep,k _ _ (.inl rfl) e,c⟩,r⟩
 |rng lo hi=>obtain⟨t,u,v,e⟩:=x;exact⟨t,u,v,k _ _ (.inl rfl) e⟩
 |frz ob u ih=>obtain⟨e,q⟩:=x;exact⟨k _ _ (.inl rfl) e,ih q⟩
 |tbl ps =>
  have e:h.get? a=some {cls:=.none,data:=.fields ps}:=x;show h'.get? a=some {cls:=.none,data:=.fields ps};exact k a _ (.inl rfl) e
 |met f y =>
  have e:h.get? a=some (PySem.W.methodObj (.ref f) (.ref y)):=x;show h'.get? a=some (PySem.W.methodObj (.ref f) (.ref y));exact k a _ (.inl rfl) e
 |ext φ=>obtain⟨p,⟨o,e⟩,st⟩:=x;exact⟨st _ _ p λo q=>k _ _ (.inl rfl) q,⟨o,k _ _ (.inl rfl) e⟩,st⟩
theorem HOk.lt (x:HOk P w H h) (e:H a=some o):a < h.objs.size:=(x a o e).lt
theorem HOk.fresh (x:HOk P w H h) (e:h.objs.size<=a):H a=none:=by
 cases q:H a with
 |none=>rfl
 |some u=>exact absurd (Bq (x.lt q) e) (Er _)
theorem HOk.kept (x:HOk P w H h) (k:∀b u,h.get? b=some u->h'.get? b=some u):HOk P w H h':=λa o e =>
 (x a o e).stay (λb u _ q=>k b u q) (λ_ q=>q) λ_ _ q=>q
theorem HOk.laid (x:HOk P w H h) (k:∀b u,h.get? b=some u->h'.get? b=some u) (hp:h.objs.size<=a) (new:ObjOk P w (upd H a o) h' a o):HOk P w (upd H a o) h':=λb u e=>by
 have hn:=x.fresh hp;by_cases hb:b=a
 ·subst hb;rw[jai]at e;cases e;exact new
 ·rw[jag hb]at e;exact(x b u e).stay (λc v _ q=>k c v q) (λc q=>by rw[jag (jae q hn)];exact q) λc xs q=>by rw[jag (jae q hn)];exact q
end
def Rd (H:Hp) (a:Addr) (u:HO):Prop:=H a=some u\/∃o,H a=some (.frz o u)
theorem Rd.ok {P:Br} {w:B4} {H:Hp} {h:Heap} {a:Addr} {u:HO} (r:Rd H a u) (x:HOk P w H h):ObjOk P w H h a u:=by
 rcases r with r | ⟨o,r⟩
 ·exact x a u r
 ·obtain⟨_,q⟩:=x a _ r;exact q
def Mut:Option HO->Prop
 |some (.lst _)=>True
 |some (.dK _)=>True
 |some (.dT _)=>True
 |some (.set _ _)=>True
 |some (.ins _ _ _)=>True
 |some (.ext _)=>True
 |_=>False
section
variable {P:Br} {w:B4} {H:Hp} {h h':Heap} {x e:Addr} {o':HO}
theorem HOk.write (ok:HOk P w H h) (mu:Mut (H x)) (he:e=x\/H e=some (.own x)) (k:∀b u,b≠e->h.get? b=some u->h'.get? b=some u) (heo:∃u,h'.get? e=some u)
  (new:ObjOk P w (upd H x o') h' x o'):HOk P w (upd H x o') h':=λb u q=>by
 have nown:∀c y,H c=some (.own y)->c≠x:=λc y r z=>by subst z;rw[r]at mu;exact mu
 have ntup:∀c xs,H c=some (.tup xs)->c≠x:=λc xs r z=>by subst z;rw[r]at mu;exact mu
 by_cases hb:b=x
 ·subst hb;rw[jai]at q;cases q;exact new
 ·rw[jag hb]at q;by_cases hbe:b=e
  ·have q':H b=some (.own x):=by
    rcases he with z | z
    ·exact absurd (hbe.trans z) hb
    ·rw[hbe];exact z
   rw[q]at q';cases q';obtain⟨v,hv⟩:=heo;exact⟨v,by rw[hbe];exact hv⟩
  ·refine(ok b u q).stay (λc v hc r=>k c v ?_ r) (λc r=>by rw[jag (nown c b r)];exact r) λc xs r=>by rw[jag (ntup c xs r)];exact r
   rcases hc with rfl | hc
   ·exact hbe
   ·rintro rfl
    rcases he with z | z
    ·exact nown c b hc z
    ·rw[hc]at z;cases z;exact hb rfl
end
structure Un (fs ex:List Addr) (H H':Hp) (h h':Heap):Prop where
 keep:∀b o,h.get? b=some o->H b=none->b∉fs->b∉ex->h'.get? b=some o
 slot:∀b o,h.get? b=some o->H b=none->b∈fs->b∉ex->∃sl,h'.get? b=some {o with slots:=sl}
 free:∀b o,h.get? b=some o->H b=none->b∉ex->H' b=none
 there:∀b o,h.get? b=some o->b∉ex->∃o',h'.get? b=some o'
 tups:∀b xs,H b=some (.tup xs)->H' b=some (.tup xs)
 frzs:∀b o u,H b=some (.frz o u)->H' b=some (.frz o u)
 tbls:∀b ps,H b=some (.tbl ps)->∃more,H' b=some (.tbl (ps++more))
section
variable {fs fs' ex ex':List Addr} {H H1 H2:Hp} {h h1 h2 h':Heap} {a x e:Addr} {o:HO}
theorem Un.any (u:Un fs ex H H1 h h1) {b:Addr} {ob:Obj} (q:h.get? b=some ob) (n:H b=none) (hx:b∉ex):∃sl,h1.get? b=some {ob with slots:=sl}:=by
 by_cases hb:b∈fs
 ·exact u.slot b ob q n hb hx
 ·exact⟨ob.slots,u.keep b ob q n hb hx⟩
theorem Un.kept (k:∀b u,h.get? b=some u->h'.get? b=some u):Un fs ex H H h h' :=
 ⟨λb ob q _ _ _=>k b ob q,λb ob q _ _ _=>⟨ob.slots,k b ob q⟩,λ_ _ _ n _=>n,λb ob q _=>⟨ob,k b ob q⟩,λ_ _ q=>q,λ_ _ _ q=>q,λ_ ps q=>⟨#[],by rw[q];simp⟩⟩
theorem Un.refl:Un fs ex H H h h:=Un.kept λ_ _ q=>q
theorem Un.laid (k:∀b u,h.get? b=some u->h'.get? b=some u) (hp:h.objs.size<=a) (hn:H a=none):Un fs ex H (upd H a o) h h' where
 keep:=λb u q _ _ _=>k b u q
 slot:=λb u q _ _ _=>⟨u.slots,k b u q⟩
 free:=λb u q n _=>by rw[jag (Bd (Bq (Ao q) hp))];exact n
 there:=λb u q _=>⟨u,k b u q⟩
 tups:=λb xs q=>by rw[jag (jae q hn)];exact q
 frzs:=λb u xs q=>by rw[jag (jae q hn)];exact q
 tbls:=λb ps q=>⟨#[],by rw[jag (jae q hn),q];simp⟩
theorem Un.write (mu:Mut (H x)) (he:e=x\/H e=some (.own x)) (k:∀b u,b≠e->h.get? b=some u->h'.get? b=some u) (heo:∃u,h'.get? e=some u):Un fs ex H (upd H x o) h h':=by
 have hx:∀b,H b=none->b≠x:=λb n z=>by subst z;rw[n]at mu;exact mu
 have hb:∀b,H b=none->b≠e:=λb n z=>by
  subst z;rcases he with r | r
  ·exact hx b n r
  ·rw[n]at r;cases r
 have hm:∀b u,H b=some u->¬Mut (some u)->b≠x:=λb u q nm z=>by subst z;rw[q]at mu;exact nm mu
 refine⟨λb u q n _ _=>k b u (hb b n) q,λb u q n _ _=>⟨u.slots,k b u (hb b n) q⟩,λb u q n _=>by rw[jag (hx b n)];exact n,λb u q _=>?_,
  λb xs q=>by rw[jag (hm b _ q λz=>z)];exact q,λb u xs q=>by rw[jag (hm b _ q λz=>z)];exact q,λb ps q=>⟨#[],by rw[jag (hm b _ q λz=>z),q];simp⟩⟩
 by_cases hbe:b=e
 ·subst hbe;exact heo
 ·exact⟨u,k b u hbe q⟩
end
def trk (h:Heap) (H:Hp):List Addr:=(Bu h.objs.size).filter λa=>(H a).isSome
def hidT (h:Heap) (H:Hp):Heap:=PySem.W.hideAll h (trk h H)
theorem jvr (h:Heap) (H:Hp):(hidT h H).objs.size=h.objs.size:=PySem.W.hideAll_size _ _
theorem jx3 {h:Heap} {H:Hp} {b:Addr} {o:Obj} (e:h.get? b=some o) (n:H b=none):(hidT h H).get? b=some o :=
 PySem.W.hideAll_get _ e λhm=>by
  have q:(H b).isSome=true:=(List.mem_filter.mp hm).2;rw[n]at q;simp at q
theorem j1k {h:Heap} {H:Hp} {b:Addr} {o:Obj} (e:(hidT h H).get? b=some o):h.get? b=some o/\H b=none:=by
 have e':h.get? b=some o:=PySem.W.of_hideAll (trk h H) e;refine⟨e',?_⟩;cases q:H b with
 |none=>rfl
 |some x =>
  have hm:b∈trk h H:=List.mem_filter.mpr ⟨C3.mpr (Ao e'),by simp[q]⟩;have z:(hidT h H).get? b=none:=PySem.W.hideAll_none (trk h H) hm;rw[z]at e;cases e
def j2d (g h:Heap) (L:Addr):List (Addr×Obj):=(Bu h.objs.size).filterMap λa=>if a=L\/(g.get? a).isSome=true then none else(h.get? a).map λo=>(a,o)
def rest (g h:Heap) (L d:Addr):List (Addr×Obj):=(j2d g h L).filter λp=>decide (p.1≠d)
structure Mod (K:Ag) (mg:Str->Option Af) (base:Heap):Prop where
 kin:K.In base
 glob:base.Ns Dq mg
 blt:∃mb,base.Ns builtinsNs mb/\∀x:Str,x≠"__name__"->mb x=By x
 nolimit:base.NoLimit
structure Cx where
 prog:Br
 w:B4
 K:Ag
 mg:Str->Option Af
 base:Heap
 A:B9
 N:List Str
 s₀:Aj
 H₀:Hp
 env:Env
 outer:List Env
 stack:List Env
 ex:List Addr
 fn:Str->Bool
 calm:Bool
 pn:List (Addr×Obj)
 xe:Af->Aj->Prop
def frs (l:List Env):List Addr:=l.filterMap (·.frame)
abbrev Cx.fs (X:Cx):List Addr:=frs X.outer
def Vis (sc:Eo) (x:Str):Prop:=sc.names.lookup x=some .local\/sc.names.lookup x=some .cell\/sc.names.lookup x=some .free
def Loc (sc:Eo) (x:Str):Prop:=sc.names.lookup x=some .local\/sc.names.lookup x=some .cell
def Look (env:Env) (h:Heap) (m:Str->Option Af) (x:Str) (u:Af):Prop :=
 (env.kindOf x=some .local/\m x=some u)\/((env.kindOf x=some .cell\/env.kindOf x=some .free)/\∃c,env.cells.lookup x=some c/\h.IsCell c (some u))
structure Cx.Ok (X:Cx):Prop where
 mod:Mod X.K X.mg X.base
 kind:X.env.scope.kind=.function
 glob:X.env.globals=Dq
 blt:X.env.builtins=builtinsNs
 above:X.s₀.heap.objs.size<=X.env.locals
 inj:∀x y c,X.env.cells.lookup x=some c->X.env.cells.lookup y=some c->x=y
 has:∀x,(X.env.kindOf x=some .cell\/X.env.kindOf x=some .free)->∃c,X.env.cells.lookup x=some c
 cab:∀x c,X.fn x=true->X.env.cells.lookup x=some c->X.s₀.heap.objs.size<=c
 hd:X.calm=true->X.A.handled=none
 frames:X.A.frames=some X.stack
 stk:X.stack=X.outer\/(X.stack=X.env::X.outer/\X.env.frame=some X.env.locals)
 exf:∀b∈X.ex,b≠X.env.locals/\∀x c,X.env.cells.lookup x=some c->c≠b
 bs:∀b o,X.base.get? b=some o->X.s₀.heap.get? b=some o/\X.H₀ b=none
 bsz:X.base.objs.size<=X.s₀.heap.objs.size
 noex:∀b o,X.base.get? b=some o->b∉X.ex
 exfs:∀b∈X.ex,b∉X.fs
 funs:X.s₀.heap.FunFrames X.base X.outer
 frf:∀b∈X.fs,X.H₀ b=none
structure Inv (X:Cx) (pins:List (Addr×Obj)) (σ:List (Option V)) (H:Hp) (s:Aj):Prop where
 ok:X.Ok
 os:s.os=X.s₀.os
 bare:AllBare s.gens
 base:Un X.fs X.ex X.H₀ H X.s₀.heap s.heap
 loc:∃m,s.heap.Ns X.env.locals m/\∀(i:Nat) (x:Str) (v:V),X.N[i]?=some x->σ[i]?=some (some v)->Vis X.env.scope x->∃u,RelV v u/\Look X.env s.heap m x u
 cell:∀x c,X.env.cells.lookup x=some c->∃v,s.heap.IsCell c v
 free:H X.env.locals=none
 freeC:∀x c,X.env.cells.lookup x=some c->H c=none
 pin:∀p∈X.pn++pins,s.heap.get? p.1=some p.2/\H p.1=none/\p.1≠X.env.locals/\p.1∉X.fs/\∀v,p.2.data≠.cell v
 hok:HOk X.prog X.w H s.heap
 len:σ.length=X.N.length
section
variable {X:Cx} {pins:List (Addr×Obj)} {σ:List (Option V)} {H H':Hp} {s:Aj} {h':Heap}
theorem Cx.Ok.nofr (ok:X.Ok) {b:Addr} {o:Obj} (e:X.base.get? b=some o):b∉X.fs:=λhb=>by
 have:=(ok.funs.mem hb).1;rw[e]at this;cases this
theorem Inv.bs (I:Inv X pins σ H s):∀b o,X.base.get? b=some o->s.heap.get? b=some o/\H b=none:=λb o e =>
 ⟨I.base.keep b o (I.ok.bs b o e).1 (I.ok.bs b o e).2 (I.ok.nofr e) (I.ok.noex b o e),I.base.free b o (I.ok.bs b o e).1 (I.ok.bs b o e).2 (I.ok.noex b o e)⟩
theorem Inv.bk (I:Inv X pins σ H s):∀b o,X.base.get? b=some o->s.heap.get? b=some o:=λb o e=>(I.bs b o e).1
theorem Inv.mod (I:Inv X pins σ H s):Mod X.K X.mg X.base:=I.ok.mod
theorem Inv.kIn (I:Inv X pins σ H s):X.K.In s.heap:=I.ok.mod.kin.keeps I.bk
theorem Inv.lt (I:Inv X pins σ H s):X.env.locals < s.heap.objs.size:=let⟨_,hn,_⟩:=I.loc;hn.lt
theorem Inv.sz (I:Inv X pins σ H s):X.s₀.heap.objs.size<=s.heap.objs.size:=Bw I.ok.above (Nat.le_of_lt I.lt)
theorem Inv.nofs (I:Inv X pins σ H s) {a:Addr} (h:s.heap.objs.size<=a):a∉X.fs:=λhb=>by
 obtain⟨_,o,ho,_⟩:=I.ok.funs.mem hb;exact absurd (Bq (Ao ho) (Bw I.sz h)) (Er _)
theorem Inv.cne (I:Inv X pins σ H s):∀x c,X.env.cells.lookup x=some c->c≠X.env.locals:=λx c e z=>by
 obtain⟨v,o,ho,hd⟩:=I.cell x c e;obtain⟨m,⟨o',es,ep,ho',hd',_⟩,_⟩:=I.loc;rw[z,ho']at ho;cases ho;rw[hd']at hd;cases hd
theorem Inv.funs (I:Inv X pins σ H s):s.heap.FunFrames X.base X.outer:=by
 have all:∀(l:List Env),(∀b∈frs l,b∈X.fs)->X.s₀.heap.FunFrames X.base l->s.heap.FunFrames X.base l:=by
  intro l
  induction l with
  |nil=>intro _ _;trivial
  |cons env r ih =>
   intro hs hl;obtain⟨hk,⟨L,o,hf,hn,ho,hd⟩,hr⟩:=hl;have hL:L∈X.fs:=hs L (by unfold frs;rw[F1,hf];exact A5);obtain⟨sl,e⟩:=I.base.slot L o ho (I.ok.frf L hL) hL λz=>I.ok.exfs L z hL;exact⟨hk,⟨L,_,hf,hn,e,hd⟩,ih (λb hb=>hs b (by unfold frs;rw[F1,hf];exact A1 _ hb)) hr⟩
 exact all X.outer (λ_ hb=>hb) I.ok.funs
theorem Inv.stack (I:Inv X pins σ H s):s.heap.FunFrames X.base X.stack:=by
 rcases I.ok.stk with e | ⟨e,hf⟩
 ·rw[e];exact I.funs
 ·rw[e];obtain⟨m,hn,_⟩:=I.loc;refine .cons (by rw[I.ok.kind];decide) hf hn ?_ I.funs;exact Heap.get?_none_of_le (Bw I.ok.bsz I.ok.above)
theorem Inv.stkSub (I:Inv X pins σ H s):∀b∈frs X.stack,b∈X.env.locals::X.fs:=λb hb=>by
 rcases I.ok.stk with e | ⟨e,hf⟩
 ·rw[e]at hb;exact A1 _ hb
 ·rw[e]at hb;unfold frs at hb;rw[F1,hf]at hb;exact hb
theorem Inv.stkFree (I:Inv X pins σ H s):∀b∈frs X.stack,H b=none:=λb hb=>by
 rcases An.mp (I.stkSub b hb)with e | hb
 ·rw[e];exact I.free
 ·obtain⟨_,o,ho,_⟩:=I.ok.funs.mem hb;exact I.base.free b o ho (I.ok.frf b hb) λz=>I.ok.exfs b z hb
theorem Inv.step {g':Array GenState} {t':Nat} {d':Drawn} {ch:List Addr} (I:Inv X pins σ H s)
  (hch:∀b∈ch,(b∈X.ex\/X.s₀.heap.objs.size<=b)/\b≠X.env.locals/\(∀x c,X.env.cells.lookup x=some c->c≠b)/\∀p∈X.pn++pins,p.1≠b)
  (keep:∀b o,b≠X.env.locals->b∉X.fs->b∉ch->s.heap.get? b=some o->H b=none->h'.get? b=some o)
  (slot:∀b o,b≠X.env.locals->b∈X.fs->b∉ch->s.heap.get? b=some o->H b=none->∃sl,h'.get? b=some {o with slots:=sl}) (free:∀b o,b∉ch->s.heap.get? b=some o->H b=none->H' b=none)
  (there:∀b o,b∉ch->s.heap.get? b=some o->∃o',h'.get? b=some o')
  (tups:∀b xs,H b=some (.tup xs)->H' b=some (.tup xs)) (frzs:∀b o u,H b=some (.frz o u)->H' b=some (.frz o u)) (tbls:∀b ps,H b=some (.tbl ps)->∃more,H' b=some (.tbl (ps++more)))
  (ns:∀m,s.heap.Ns X.env.locals m->h'.Ns X.env.locals m) (hok:HOk X.prog X.w H' h') (hg:AllBare g') :
  Inv X pins σ H' {s with heap:=h',gens:=g',drawn:=d',toks:=t'}:=by
 have neL:∀b o,X.s₀.heap.get? b=some o->b≠X.env.locals:=λb o e=>Bd (Bq (Ao e) I.ok.above);have neC:∀b o,X.s₀.heap.get? b=some o->b∉X.ex->b∉ch:=λb o e hx hb=>by
  rcases(hch b hb).1 with z | z
  ·exact hx z
  ·exact absurd (Bq (Ao e) z) (Er _)
 have cellK:∀x c,X.env.cells.lookup x=some c->∀v,s.heap.IsCell c v->h'.IsCell c v:=λx c e v ⟨o,ho,hd⟩=>by
  have nch:c∉ch:=λz=>(hch c z).2.2.1 x c e rfl;by_cases hc:c∈X.fs
  ·obtain⟨sl,q⟩:=slot c o (I.cne x c e) hc nch ho (I.freeC x c e);exact⟨_,q,hd⟩
  ·exact⟨o,keep c o (I.cne x c e) hc nch ho (I.freeC x c e),hd⟩
 refine⟨I.ok,I.os,hg,⟨λb o e n hb hx=>?_,λb o e n hb hx=>?_,λb o e n hx=>?_,λb o e hx=>?_,λb xs e=>tups b xs (I.base.tups b xs e),λb o xs e=>frzs b o xs (I.base.frzs b o xs e),λb ps e=>?_⟩,?_,λx c e=>?_,?_,λx c e=>?_,λp hp=>?_,hok,I.len⟩
 ·exact keep b o (neL b o e) hb (neC b o e hx) (I.base.keep b o e n hb hx) (I.base.free b o e n hx)
 ·obtain⟨sl,e1⟩:=I.base.slot b o e n hb hx;obtain⟨sl',e2⟩:=slot b _ (neL b o e) hb (neC b o e hx) e1 (I.base.free b o e n hx);exact⟨sl',e2⟩
 ·obtain⟨o',e1⟩:=I.base.there b o e hx;exact free b o' (neC b o e hx) e1 (I.base.free b o e n hx)
 ·obtain⟨o',e1⟩:=I.base.there b o e hx;exact there b o' (neC b o e hx) e1
 ·obtain⟨m1,e1⟩:=I.base.tbls b ps e;obtain⟨m2,e2⟩:=tbls b _ e1;exact⟨m1++m2,by rw[e2,Array.append_assoc]⟩
 ·obtain⟨m,hn,hl⟩:=I.loc;refine⟨m,ns m hn,λi x v e1 e2 e3=>?_⟩;obtain⟨u,r,l⟩:=hl i x v e1 e2 e3;refine⟨u,r,?_⟩;rcases l with l | ⟨k,c,e,z⟩
  ·exact .inl l
  ·exact .inr ⟨k,c,e,cellK x c e _ z⟩
 ·obtain⟨v,z⟩:=I.cell x c e;exact⟨v,cellK x c e v z⟩
 ·obtain⟨m,⟨o,_,_,ho,_⟩,_⟩:=I.loc;exact free _ o (λz=>(hch _ z).2.1 rfl) ho I.free
 ·obtain⟨v,o,ho,hd⟩:=I.cell x c e;exact free c o (λz=>(hch c z).2.2.1 x c e rfl) ho (I.freeC x c e)
 ·obtain⟨e,n,ne,nf,d⟩:=I.pin p hp;have nch:p.1∉ch:=λz=>(hch p.1 z).2.2.2 p hp rfl;exact⟨keep p.1 p.2 ne nf nch e n,free p.1 p.2 nch e n,ne,nf,d⟩
theorem Inv.un {t':Nat} (I:Inv X pins σ H s) (u:Un X.fs [] H H' s.heap h') (hok:HOk X.prog X.w H' h'):Inv X pins σ H' {s with heap:=h',toks:=t'}:=by
 obtain⟨m,⟨o,es,ep,ho,r⟩,_⟩:=id I.loc;obtain⟨sl,hL⟩:=u.any ho I.free (by simp);exact I.step (g':=s.gens) (d':=s.drawn) (ch:=[]) (λ_ z=>nomatch z) (λb o _ hb _ e n=>u.keep b o e n hb (by simp)) (λb o _ hb _ e n=>u.slot b o e n hb (by simp)) (λb o _ e n=>u.free b o e n (by simp)) (λb o _ e=>u.there b o e (by simp)) u.tups u.frzs u.tbls (λm' hm=>by
  obtain⟨o',es',ep',ho',r'⟩:=hm;rw[ho]at ho';cases ho';exact⟨_,es',ep',hL,r'⟩) hok I.bare
theorem Inv.call {g':Array GenState} {t':Nat} {d':Drawn} {ch:List Addr} (I:Inv X pins σ H s) (u:Un (frs X.stack) ch H H' s.heap h') (hok:HOk X.prog X.w H' h') (hg:AllBare g')
  (hch:∀b∈ch,(b∈X.ex\/X.s₀.heap.objs.size<=b)/\b≠X.env.locals/\(∀x c,X.env.cells.lookup x=some c->c≠b)/\∀p∈X.pn++pins,p.1≠b) :
  Inv X pins σ H' {s with heap:=h',gens:=g',drawn:=d',toks:=t'}:=by
 obtain⟨m,⟨o,es,ep,ho,r⟩,_⟩:=id I.loc;obtain⟨sl,hL⟩:=u.any ho I.free λz=>(hch _ z).2.1 rfl;exact I.step (ch:=ch) hch (λb o hL hb hc e n=>u.keep b o e n (λz=>(An.mp (I.stkSub b z)).elim hL hb) hc) (λb o _ _ hc e n=>u.any e n hc) (λb o hc e n=>u.free b o e n hc) (λb o hc e=>u.there b o e hc) u.tups u.frzs u.tbls (λm' hm=>by
  obtain⟨o',es',ep',ho',r'⟩:=hm;rw[ho]at ho';cases ho';exact⟨_,es',ep',hL,r'⟩) hok hg
theorem Inv.turned {t':Nat} {it:Addr} (I:Inv X pins σ H s) (k:∀b o,b≠it->s.heap.get? b=some o->h'.get? b=some o) (hn:H it=none) (hL:it≠X.env.locals)
  (h1:it∈X.ex\/X.s₀.heap.objs.size<=it) (h2:∀x c,X.env.cells.lookup x=some c->c≠it) (h3:∀p∈X.pn++pins,p.1≠it):Inv X pins σ H {s with heap:=h',toks:=t'}:=by
 have nit:∀b u,H b=some u->b≠it:=λb u e z=>by rw[z,hn]at e;cases e
 refine I.step (g':=s.gens) (d':=s.drawn) (ch:=[it]) (λb hb=>?_) (λb o _ _ hc e _=>k b o (λz=>hc (by simp[z])) e) (λb o _ _ hc e _=>⟨o.slots,k b o (λz=>hc (by simp[z])) e⟩) (λ_ _ _ _ n=>n)
  (λb o hc e=>⟨o,k b o (λz=>hc (by simp[z])) e⟩) (λ_ _ e=>e) (λ_ _ _ e=>e) (λb ps e=>⟨#[],by rw[e];simp⟩) (λm hm=>?_) (λb u e=>?_) I.bare
 ·have e:b=it:=by simpa using hb
  subst e;exact⟨h1,hL,h2,h3⟩
 ·obtain⟨o,es,ep,ho,r⟩:=hm;exact⟨o,es,ep,k _ o (Ne.symm hL) ho,r⟩
 ·refine(I.hok b u e).stay (λc v hc q=>k c v ?_ q) (λ_ q=>q) λ_ _ q=>q;rcases hc with z | z
  ·rw[z];exact nit b u e
  ·exact nit c _ z
theorem Inv.tok (I:Inv X pins σ H s) (t:Nat):Inv X pins σ H {s with toks:=t}:=I.un (h':=s.heap) (t':=t) Un.refl I.hok
theorem Inv.kept {t':Nat} (I:Inv X pins σ H s) (k:∀b u,s.heap.get? b=some u->h'.get? b=some u):Inv X pins σ H {s with heap:=h',toks:=t'}:=I.un (Un.kept k) (I.hok.kept k)
theorem Inv.laid {a:Addr} {o:HO} {t':Nat} (I:Inv X pins σ H s) (k:∀b u,s.heap.get? b=some u->h'.get? b=some u) (hp:s.heap.objs.size<=a) (new:ObjOk X.prog X.w (upd H a o) h' a o) :
  Inv X pins σ (upd H a o) {s with heap:=h',toks:=t'}:=I.un (Un.laid k hp (I.hok.fresh hp)) (I.hok.laid k hp new)
theorem Inv.write {x e:Addr} {o:HO} {t':Nat} (I:Inv X pins σ H s) (mu:Mut (H x)) (he:e=x\/H e=some (.own x)) (k:∀b u,b≠e->s.heap.get? b=some u->h'.get? b=some u) (heo:∃u,h'.get? e=some u)
  (new:ObjOk X.prog X.w (upd H x o) h' x o):Inv X pins σ (upd H x o) {s with heap:=h',toks:=t'}:=I.un (Un.write mu he k heo) (I.hok.write mu he k heo new)
theorem Inv.pins_of {pins':List (Addr×Obj)} (I:Inv X pins σ H s) (h:∀p∈pins',s.heap.get? p.1=some p.2/\H p.1=none/\p.1≠X.env.locals/\p.1∉X.fs/\∀v,p.2.data≠.cell v):Inv X pins' σ H s :=
 ⟨I.ok,I.os,I.bare,I.base,I.loc,I.cell,I.free,I.freeC,λp hp=>(A0.mp hp).elim (λz=>I.pin p (Dk _ z)) (h p),I.hok,I.len⟩
theorem jra {N:List Str} (hN:N.Nodup) {i j:Nat} {x:Str} (a:N[i]?=some x) (b:N[j]?=some x):i=j:=by
 obtain⟨h1,e1⟩:=Bp.mp a;obtain⟨h2,e2⟩:=Bp.mp b;exact(List.getElem_inj hN).mp (e1.trans e2.symm)
theorem jm9 {M:Model} {A:B9} {E:Af->Aj->Prop} {i:Nat} {x:Str} {v:V} {u:Af} {Q:Unit->Aj->Prop} (I:Inv X pins σ H s) (hN:X.N.Nodup) (hi:X.N[i]?=some x) (hx:Loc X.env.scope x) (r:RelV v u)
  (h:∀s',Inv X pins (σ.set i (some v)) H s'->(∃a,Dc a s.heap s'.heap/\(a=X.env.locals\/X.env.cells.lookup x=some a))->Q () s') (hf:X.fn x=true\/X.env.scope.names.lookup x=some .local:=by first | exact .inl rfl | exact .inr rfl | assumption):Az M A (storeName X.env x u) Q E s:=by
 obtain⟨m,hn,hl⟩:=id I.loc;have hcls:(X.env.scope.kind==.class || (X.env.scope.kind==.module&&X.env.locals != X.env.globals))=false:=by rw[I.ok.kind];rfl
 have hiσ:i < σ.length:=by rw[I.len];exact(Bp.mp hi).1
 have cne:=I.cne;have tracked:∀{a:Addr} {h':Heap},(∃o,s.heap.get? a=some o/\H a=none)->Dc a s.heap h'->HOk X.prog X.w H h':=λ{a h'} ha hs b ob e=>by
  obtain⟨_,_,hfree⟩:=ha;refine(I.hok b ob e).stay (λc w' hc q=>(hs.2 c ?_).trans q) (λ_ q=>q) λ_ _ q=>q
  rintro rfl
  rcases hc with rfl | hc
  ·rw[hfree]at e;cases e
  ·rw[hfree]at hc;cases hc
 rcases hx with hk | hk
 ·refine wpAny_storeName_local hk hn (λh' hn' hs=>?_) hcls;obtain⟨oL,_,_,hoL,_⟩:=id hn;refine h _ ⟨I.ok,I.os,I.bare,⟨λb o e n hb hx=>?_,λb o e n hb hx=>?_,I.base.free,λb o e hx=>?_,I.base.tups,I.base.frzs,I.base.tbls⟩,⟨_,hn',λj y v' e1 e2 e3=>?_⟩,λy c e=>?_,I.free,I.freeC,λp hp=>?_,tracked ⟨oL,hoL,I.free⟩ hs,by simpa using I.len⟩ ⟨_,hs,.inl rfl⟩
  ·exact(hs.2 b (Bd (Bq (Ao e) I.ok.above))).trans (I.base.keep b o e n hb hx)
  ·obtain⟨sl,e1⟩:=I.base.slot b o e n hb hx;exact⟨sl,(hs.2 b (Bd (Bq (Ao e) I.ok.above))).trans e1⟩
  ·obtain⟨o',e1⟩:=I.base.there b o e hx;exact⟨o',(hs.2 b (Bd (Bq (Ao e) I.ok.above))).trans e1⟩
  ·by_cases hj:j=i
   ·subst hj;rw[hi]at e1;cases e1;rw[List.getElem?_set_self hiσ]at e2;cases e2;exact⟨u,r,.inl ⟨hk,by simp⟩⟩
   ·rw[C8 (Ne.symm hj)]at e2;obtain⟨u',r',q⟩:=hl j y v' e1 e2 e3;refine⟨u',r',?_⟩;rcases q with⟨k,e⟩ | ⟨k,c,e,z⟩
    ·refine .inl ⟨k,?_⟩;have:y≠x:=λe=>hj (jra hN e1 (e▸hi));simp[this,e]
    ·exact .inr ⟨k,c,e,z.sameBut hs (cne y c e)⟩
  ·obtain⟨w',z⟩:=I.cell y c e;exact⟨w',z.sameBut hs (cne y c e)⟩
  ·obtain⟨e,n,ne,nf,d⟩:=I.pin p hp;exact⟨(hs.2 p.1 ne).trans e,n,ne,nf,d⟩
 ·have hfn:X.fn x=true:=by
   rcases hf with z | z
   ·exact z
   ·rw[z]at hk;cases hk
  obtain⟨c,hc⟩:=I.ok.has x (.inl hk);obtain⟨w',z⟩:=I.cell x c hc;refine wpAny_storeName_cell I.ok.kind hk hc z (λh' hc' hs=>?_);obtain⟨oc,hoc,hocd⟩:=id z;refine h {s with heap:=h'} ⟨I.ok,I.os,I.bare,⟨λb o e n hb hx=>?_,λb o e n hb hx=>?_,I.base.free,λb o e hx=>?_,I.base.tups,I.base.frzs,I.base.tbls⟩,⟨m,hn.sameBut hs (Ne.symm (cne x c hc)),λj y v' e1 e2 e3=>?_⟩,λy c' e=>?_,I.free,I.freeC,λp hp=>?_,tracked ⟨oc,hoc,I.freeC x c hc⟩ hs,by simpa using I.len⟩ ⟨c,hs,.inr hc⟩
  ·exact(hs.2 b (Bd (Bq (Ao e) (I.ok.cab x c hfn hc)))).trans (I.base.keep b o e n hb hx)
  ·obtain⟨sl,e1⟩:=I.base.slot b o e n hb hx;exact⟨sl,(hs.2 b (Bd (Bq (Ao e) (I.ok.cab x c hfn hc)))).trans e1⟩
  ·obtain⟨o',e1⟩:=I.base.there b o e hx;exact⟨o',(hs.2 b (Bd (Bq (Ao e) (I.ok.cab x c hfn hc)))).trans e1⟩
  ·by_cases hj:j=i
   ·subst hj;rw[hi]at e1;cases e1;rw[List.getElem?_set_self hiσ]at e2;cases e2;exact⟨u,r,.inr ⟨.inl hk,c,hc,hc'⟩⟩
   ·rw[C8 (Ne.symm hj)]at e2;obtain⟨u',r',q⟩:=hl j y v' e1 e2 e3;refine⟨u',r',?_⟩;rcases q with q | ⟨k,c',e,z'⟩
    ·exact .inl q
    ·refine .inr ⟨k,c',e,z'.sameBut hs ?_⟩
     rintro rfl
     exact hj (jra hN e1 (I.ok.inj _ _ _ e hc▸hi))
  ·by_cases hcc:c'=c
   ·subst hcc;exact⟨_,hc'⟩
   ·obtain⟨w2,z2⟩:=I.cell y c' e;exact⟨w2,z2.sameBut hs hcc⟩
  ·obtain⟨e,n,ne,nf,d⟩:=I.pin p hp;refine⟨(hs.2 p.1 ?_).trans e,n,ne,nf,d⟩;intro q;rw[q,hoc]at e;have q':oc=p.2:=Bo e;exact d w' (by rw[<-q'];exact hocd)
theorem jqx {M:Model} {A:B9} {E:Af->Aj->Prop} {i:Nat} {x:Str} {v:V} {u:Af} {Q:Unit->Aj->Prop} (I:Inv X pins σ H s) (hN:X.N.Nodup) (hi:X.N[i]?=some x) (hx:Loc X.env.scope x) (r:RelV v u)
  (h:∀s',Inv X pins (σ.set i (some v)) H s'->Q () s') (hf:X.fn x=true\/X.env.scope.names.lookup x=some .local:=by first | exact .inl rfl | exact .inr rfl | assumption):Az M A (storeName X.env x u) Q E s :=
 jm9 I hN hi hx r (λs' I' _=>h s' I') hf
theorem Inv.call' {s':Aj} {ch:List Addr} (I:Inv X pins σ H s) (ho:s'.os=s.os) (u:Un (frs X.stack) ch H H' s.heap s'.heap) (hok:HOk X.prog X.w H' s'.heap) (hg:AllBare s'.gens)
  (hch:∀b∈ch,(b∈X.ex\/X.s₀.heap.objs.size<=b)/\b≠X.env.locals/\(∀x c,X.env.cells.lookup x=some c->c≠b)/\∀p∈X.pn++pins,p.1≠b):Inv X pins σ H' s':=by
 obtain⟨h',g',d',t',o'⟩:=s';have e:o'=s.os:=ho;subst e;exact I.call (g':=g') (t':=t') (d':=d') u hok hg hch
end
abbrev XK:=Af->Option Addr->Hp->Prop
abbrev St:=List (Option V)
abbrev VK:=V->Hp->Prop
abbrev TE:=St->Hp->VK->Prop
abbrev TT:=St->Hp->(Bool->Hp->Prop)->Prop
abbrev TA:=St->Hp->(List V->Hp->Prop)->Prop
structure Ends where
 nx:St->Hp->Prop
 rt:VK
 bk:St->Hp->Prop:=λ_ _=>False
 ct:St->Hp->Prop:=λ_ _=>False
abbrev TS:=Ends->St->Hp->Prop
def EP (X:Cx) (pins:List (Addr×Obj)) (σ:St) (Q:VK) (u:Af) (s':Aj):Prop:=∃v H',Inv X pins σ H' s'/\RelV v u/\Q v H'
def TP (X:Cx) (pins:List (Addr×Obj)) (σ:St) (Q:Bool->Hp->Prop) (b:Bool) (s':Aj):Prop:=∃H',Inv X pins σ H' s'/\Q b H'
def AP (X:Cx) (pins:List (Addr×Obj)) (σ:St) (Q:List V->Hp->Prop) (us:List Af) (s':Aj):Prop:=∃vs H',Inv X pins σ H' s'/\Vals vs us/\Q vs H'
def SP (X:Cx) (pins:List (Addr×Obj)) (D:Ends) (f:Flow) (s':Aj):Prop :=
 match f with
 |.next=>∃σ' H',Inv X pins σ' H' s'/\D.nx σ' H'
 |.brk=>∃σ' H',Inv X pins σ' H' s'/\D.bk σ' H'
 |.cont=>∃σ' H',Inv X pins σ' H' s'/\D.ct σ' H'
 |.ret u=>∃v σ' H',Inv X pins σ' H' s'/\RelV v u/\D.rt v H'
def PE (X:Cx) (e:Expr) (t:TE):Prop :=
 ∀(pins:List (Addr×Obj)) (s:Aj) (σ:St) (H:Hp) (Q:VK),Inv X pins σ H s->t σ H Q->Az (Bb X.prog X.w) X.A (eval e X.env) (EP X pins σ Q) X.xe s
def PT (X:Cx) (e:Expr) (t:TT):Prop :=
 ∀(pins:List (Addr×Obj)) (s:Aj) (σ:St) (H:Hp) (Q:Bool->Hp->Prop),Inv X pins σ H s->t σ H Q->Az (Bb X.prog X.w) X.A (isTrue e X.env (eval e X.env)) (TP X pins σ Q) X.xe s
def PW (X:Cx) (e:Expr) (t:TT):Prop :=
 ∀(whole:Sem Af) (pins:List (Addr×Obj)) (s:Aj) (σ:St) (H:Hp) (Q:Bool->Hp->Prop),Inv X pins σ H s->t σ H Q->Az (Bb X.prog X.w) X.A (isTrue e X.env whole) (TP X pins σ Q) X.xe s
theorem PW.pt {X:Cx} {e:Expr} {t:TT} (h:PW X e t):PT X e t:=h _
def PA (X:Cx) (es:List Expr) (t:TA):Prop :=
 ∀(pos:Pos) (pins:List (Addr×Obj)) (s:Aj) (σ:St) (H:Hp) (Q:List V->Hp->Prop),Inv X pins σ H s->t σ H Q->Az (Bb X.prog X.w) X.A (spliced (Ek pos (A8 es X.env))) (AP X pins σ Q) X.xe s
def PS (X:Cx) (st:Stmt) (t:TS):Prop :=
 ∀(pins:List (Addr×Obj)) (s:Aj) (σ:St) (H:Hp) (D:Ends),Inv X pins σ H s->t D σ H->Az (Bb X.prog X.w) X.A (exec st X.env) (SP X pins D) X.xe s
def PSs (X:Cx) (st:List Stmt) (t:TS):Prop :=
 ∀(pins:List (Addr×Obj)) (s:Aj) (σ:St) (H:Hp) (D:Ends),Inv X pins σ H s->t D σ H->Az (Bb X.prog X.w) X.A (execs st X.env) (SP X pins D) X.xe s
theorem thn {α:Type} {t:Sem α} {Q Q':α->Aj->Prop} {M:Model} {A:B9} {E:Af->Aj->Prop} {s:Aj} (h:Az M A t Q E s) (hQ:∀a s,Q a s->Q' a s):Az M A t Q' E s:=Dw h hQ λ_ _ x=>x
section
variable {X:Cx}
theorem bin {a b:Expr} {ta tb:TE} (ha:PE X a ta) (hb:PE X b tb) {pins:List (Addr×Obj)} {s:Aj} {σ:St} {H:Hp} {R:V->V->Hp->Prop} (I:Inv X pins σ H s) (h:ta σ H λx H1=>tb σ H1 λy H2=>R x y H2)
  {α:Type} {Q:α->Aj->Prop} {f:Af->Af->Sem α}
  (hf:∀v u s2 x y H2,Inv X pins σ H2 s2->RelV x v->RelV y u->R x y H2->Az (Bb X.prog X.w) X.A (f v u) Q X.xe s2) :
  Az (Bb X.prog X.w) X.A (eval a X.env) (λv s₁=>Az (Bb X.prog X.w) X.A (eval b X.env) (λu s₂=>Az (Bb X.prog X.w) X.A (f v u) Q X.xe s₂) X.xe s₁) X.xe s:=by
 refine thn (ha pins s σ H _ I h) λv s1 ⟨x,H1,I1,r1,q1⟩=>?_;refine thn (hb pins s1 σ H1 _ I1 q1) λu s2 ⟨y,H2,I2,r2,q2⟩=>?_;exact hf v u s2 x y H2 I2 r1 r2 q2
def tVar (i:Nat):TE:=λσ H Q=>∃v,σ[i]?=some (some v)/\Q v H
def tC (v:V):TE:=λ_ H Q=>Q v H
theorem jh5 {i:Nat} {x:Str} {pos:Pos} (hN:X.N[i]?=some x) (hv:Vis X.env.scope x) (hd:(x==("__debug__":Str))=false:=by decide) (hcd:(x==("__classdict__":Str))=false:=by decide):PE X (.Name x pos) (tVar i):=by
 intro pins s σ H Q I h;obtain⟨v,e,h⟩:=h;obtain⟨m,hn,hl⟩:=I.loc;obtain⟨u,r,l⟩:=hl i x v hN e hv;have fin:EP X pins σ Q u s:=⟨v,H,I,r,h⟩;rcases l with⟨hk,hm⟩ | ⟨hk,c,hc,hcell⟩
 ·exact wpAny_Name (wpAny_loadName_local I.ok.kind hk hn hm fin) hd
 ·rcases hk with hk | hk
  ·exact wpAny_Name (wpAny_loadName_cell I.ok.kind hk hc hcell fin) hd
  ·exact wpAny_Name (wpAny_loadName_free I.ok.kind hk hc hcell fin hcd) hd
theorem jay {i j pos}:PE X (.Constant (.int i) j pos) (tC (.int i)):=λ_ _ _ H _ I h=>wpAny_Constant_int ⟨.int i,H,I.tok _,⟨_,rfl⟩,h⟩
theorem j6t {b j pos}:PE X (.Constant (.bool b) j pos) (tC (.bl b)):=λ_ _ _ H _ I h=>Constant_bool ⟨.bl b,H,I,rfl,h⟩
theorem jq7 {j pos}:PE X (.Constant .none j pos) (tC .non):=λ_ _ _ H _ I h=>Constant_none ⟨.non,H,I,rfl,h⟩
theorem j3x {x j pos}:PE X (.Constant (.str x) j pos) (tC (.str x)):=λ_ _ _ H _ I h=>Calls.Constant_str ⟨.str x,H,I.tok _,⟨_,rfl⟩,h⟩
def Gl (X:Cx) (x:Str):Prop:=X.env.kindOf x=some .globalImplicit
theorem jvj {E:Af->Aj->Prop} {pins:List (Addr×Obj)} {s:Aj} {σ:St} {H:Hp} {x:Str} {u:Af} {pos:Pos} {Q:Af->Aj->Prop} (I:Inv X pins σ H s) (hg:Gl X x) (hm:X.mg x=some u) (h:Q u s)
  (hd:(x==("__debug__":Str))=false:=by decide):Az (Bb X.prog X.w) X.A (eval (.Name x pos) X.env) Q E s :=
 Calls.Name_function_global I.ok.kind hg (Calls.loadGlobal_global (by rw[I.ok.glob];exact I.mod.glob.keeps I.bk) hm h) hd
theorem jku {E:Af->Aj->Prop} {pins:List (Addr×Obj)} {s:Aj} {σ:St} {H:Hp} {x:Str} {u:Af} {pos:Pos} {Q:Af->Aj->Prop} (I:Inv X pins σ H s) (hg:Gl X x) (hm:X.mg x=none) (hv:By x=some u) (h:Q u s)
  (hn:x≠"__name__":=by decide) (hd:(x==("__debug__":Str))=false:=by decide):Az (Bb X.prog X.w) X.A (eval (.Name x pos) X.env) Q E s:=by
 obtain⟨mb,h1,h2⟩:=I.mod.blt;exact Calls.Name_function_global I.ok.kind hg (Calls.loadGlobal_builtin (by rw[I.ok.glob];exact I.mod.glob.keeps I.bk) hm (by rw[I.ok.blt];exact h1.keeps I.bk) ((h2 x hn).trans hv) h) hd
theorem juw {x:Str} {v:V} {u:Af} {pos:Pos} (hg:Gl X x) (hm:X.mg x=some u) (r:RelV v u) (hd:(x==("__debug__":Str))=false:=by decide):PE X (.Name x pos) (tC v) :=
 λ_ _ _ H _ I h=>jvj I hg hm ⟨v,H,I,r,h⟩ hd
theorem j06 {x:Str} {v:V} {u:Af} {pos:Pos} (hg:Gl X x) (hm:X.mg x=none) (hv:By x=some u) (r:RelV v u) (hn:x≠"__name__":=by decide) (hd:(x==("__debug__":Str))=false:=by decide):PE X (.Name x pos) (tC v) :=
 λ_ _ _ H _ I h=>jku I hg hm hv ⟨v,H,I,r,h⟩ hn hd
variable {a b:Expr} {ta tb:TE} {pos:Pos}
def PC (X:Cx) (op:CmpOp) (a b:Expr) (t:TE):Prop :=
 ∀(pins:List (Addr×Obj)) (s:Aj) (σ:St) (H:Hp) (Q:VK),Inv X pins σ H s->t σ H Q ->
  Az (Bb X.prog X.w) X.A (eval a X.env) (λv s₁=>Az (Bb X.prog X.w) X.A (eval b X.env) (λu s₂=>Az (Bb X.prog X.w) X.A (Bt op v u) (EP X pins σ Q) X.xe s₂) X.xe s₁) X.xe s
theorem jxu (b:Expr) {op:CmpOp} (h:op≠.In) (h2:op≠.NotIn):D0 op b=false:=by
 have e1:(op==CmpOp.In)=false:=by cases op<;>first | rfl | exact absurd rfl h
 have e2:(op==CmpOp.NotIn)=false:=by cases op<;>first | rfl | exact absurd rfl h2
 cases b<;>simp[D0,e1,e2]
def tB (t:TE):TT:=λσ H Q=>t σ H λx H1=>∃c,x=.bl c/\Q c H1
theorem j79 {op:CmpOp} {t:TE} (h:PC X op a b t) (h1:D0 op b=false:=by first | exact jxu _ (by decide) (by decide) | rfl):PT X (.Compare a [op] [b] pos) (tB t):=by
 intro pins s σ H Q I hw;refine wpAny_isTrue_Compare1 (thn (h pins s σ H _ I hw) λv s1 h1=>thn h1 λu s2 h2=>thn h2 λc s3 ⟨x,H1,I1,r1,q1⟩=>?_) h1;obtain⟨d,rfl,q⟩:=q1;cases r1;exact C4 ⟨H1,I1,q⟩
theorem j3o {e:Expr} {t:TE} (h:PE X e t) (he:∀whole,isTrue e X.env whole=(do let v <-whole;standAt e.pos;holding [v] (truthy v)):=by intro _;rfl):PT X e (tB t):=by
 intro pins s σ H Q I hw;refine isTrue_plain (thn (h pins s σ H _ I hw) λv s1 ⟨x,H1,I1,r1,q1⟩=>?_) (he _);obtain⟨d,rfl,q⟩:=q1;cases r1;exact C4 ⟨H1,I1,q⟩
variable {tA tB':TT} {rest:List Expr}
def tAnd (t u:TT):TT:=λσ H Q=>t σ H λc H1=>if c=true then u σ H1 Q else Q false H1
def tOr (t u:TT):TT:=λσ H Q=>t σ H λc H1=>if c=true then Q true H1 else u σ H1 Q
def tNot (t:TT):TT:=λσ H Q=>t σ H λc H1=>Q (!c) H1
theorem jul (ha:PT X a tA):PW X (.BoolOp .And [a] pos) tA:=by
 intro wh pins s σ H Q I h;refine isTrue_and (thn (ha pins s σ H Q I h) λc s1 e=>?_);cases c with
 |true=>exact isTrue_and_nil e
 |false=>exact e
theorem j3n (ha:PT X a tA):PW X (.BoolOp .Or [a] pos) tA:=by
 intro wh pins s σ H Q I h;refine isTrue_or (thn (ha pins s σ H Q I h) λc s1 e=>?_);cases c with
 |false=>exact isTrue_or_nil e
 |true=>exact e
theorem jy7 (ha:PT X a tA) (hb:PW X (.BoolOp .And (b::rest) pos) tB'):PW X (.BoolOp .And (a::b::rest) pos) (tAnd tA tB'):=by
 intro wh pins s σ H Q I h;refine isTrue_and (thn (ha pins s σ H _ I h) λc s1 ⟨H1,I1,q1⟩=>?_);cases c with
 |true=>exact hb wh pins s1 σ H1 Q I1 q1
 |false=>exact⟨H1,I1,q1⟩
theorem j6q (ha:PT X a tA) (hb:PW X (.BoolOp .Or (b::rest) pos) tB'):PW X (.BoolOp .Or (a::b::rest) pos) (tOr tA tB'):=by
 intro wh pins s σ H Q I h;refine isTrue_or (thn (ha pins s σ H _ I h) λc s1 ⟨H1,I1,q1⟩=>?_);cases c with
 |true=>exact⟨H1,I1,q1⟩
 |false=>exact hb wh pins s1 σ H1 Q I1 q1
theorem j3p (ha:PT X a tA):PT X (.UnaryOp .Not a pos) (tNot tA):=by
 intro pins s σ H Q I h;exact isTrue_not (ha pins s σ H (λc H1=>Q (!c) H1) I h)
def j2t (ta tb:TE):TE:=λσ H Q=>ta σ H λx H1=>∃c,x=.bl c/\if c=true then tb σ H1 Q else Q (.bl false) H1
def tOrV (ta tb:TE):TE:=λσ H Q=>ta σ H λx H1=>∃c,x=.bl c/\if c=true then Q (.bl true) H1 else tb σ H1 Q
def j2q (ta:TE):TE:=λσ H Q=>ta σ H λx H1=>∃c,x=.bl c/\Q (.bl (!c)) H1
theorem j3z {op} {t:TE} (h:PE X a t):PE X (.BoolOp op [a] pos) t:=λpins s σ H Q I hw=>BoolOp_one (h pins s σ H Q I hw)
theorem j32 (ha:PE X a ta) (hb:PE X (.BoolOp .And (b::rest) pos) tb):PE X (.BoolOp .And (a::b::rest) pos) (j2t ta tb):=by
 intro pins s σ H Q I h;refine BoolOp_and (thn (ha pins s σ H _ I h) λv s1 ⟨x,H1,I1,r1,q1⟩=>?_);obtain⟨c,rfl,q1⟩:=q1;cases r1;refine C4 ?_;cases c with
 |true=>exact hb pins s1 σ H1 Q I1 q1
 |false=>exact⟨.bl false,H1,I1,rfl,q1⟩
theorem j6s (ha:PE X a ta) (hb:PE X (.BoolOp .Or (b::rest) pos) tb):PE X (.BoolOp .Or (a::b::rest) pos) (tOrV ta tb):=by
 intro pins s σ H Q I h;refine BoolOp_or (thn (ha pins s σ H _ I h) λv s1 ⟨x,H1,I1,r1,q1⟩=>?_);obtain⟨c,rfl,q1⟩:=q1;cases r1;refine C4 ?_;cases c with
 |false=>exact hb pins s1 σ H1 Q I1 q1
 |true=>exact⟨.bl true,H1,I1,rfl,q1⟩
theorem j30 (ha:PE X a ta):PE X (.UnaryOp .Not a pos) (j2q ta):=by
 intro pins s σ H Q I h;refine UnaryOp_ (thn (ha pins s σ H _ I h) λv s1 ⟨x,H1,I1,r1,q1⟩=>?_);obtain⟨c,rfl,q1⟩:=q1;cases r1;exact not_of (C4 ⟨.bl (!c),H1,I1,rfl,q1⟩)
def tIf (t:TT) (ta tb:TE):TE:=λσ H Q=>t σ H λc H1=>if c=true then ta σ H1 Q else tb σ H1 Q
theorem jxm {c:Expr} (hc:PT X c tA) (ha:PE X a ta) (hb:PE X b tb):PE X (.IfExp c a b pos) (tIf tA ta tb):=by
 intro pins s σ H Q I h;refine wpAny_IfExp (thn (hc pins s σ H _ I h) λd s1 ⟨H1,I1,q1⟩=>?_);cases d with
 |true=>exact ha pins s1 σ H1 Q I1 q1
 |false=>exact hb pins s1 σ H1 Q I1 q1
end
def SqL (K:Ag) (H:Hp) (a:Addr) (xs:List V):Prop :=
 Rd H a (.lst xs) \/
  ∃(o:Obj) (its:Array Af) (n:Nat),K.lookup a=some o/\o.cls=.type "list"/\o.dict=none/\o.data=.seq its n/\its.size<=Ax/\Vals xs its.toList
def SqT (K:Ag) (H:Hp) (a:Addr) (xs:List V):Prop :=
 Rd H a (.tup xs) \/
  ∃(o:Obj) (its:Array Af) (n:Nat),K.lookup a=some o/\o.cls=.type "tuple"/\o.data=.seq its n/\its.size<=Ax/\Vals xs its.toList
def absV:Af->Option V
 |.none=>some .non
 |.bool b=>some (.bl b)
 |.int i _=>some (.int i)
 |.str x _=>some (.str x)
 |.bytes b _=>some (.byt b)
 |.float b _=>some (.flt b)
 |.ref a=>some (.ref a)
 |.type n=>some (.ty n)
 |_=>none
theorem RelV.abs {x:V} {u:Af} (r:RelV x u):absV u=some x:=by
 cases x with
 |non=>cases r;rfl
 |bl _=>cases r;rfl
 |int _=>obtain⟨t,rfl⟩:=r;rfl
 |str _=>obtain⟨t,rfl⟩:=r;rfl
 |byt _=>obtain⟨t,rfl⟩:=r;rfl
 |flt _=>obtain⟨t,rfl⟩:=r;rfl
 |ref _=>cases r;rfl
 |ty _=>cases r;rfl
theorem RelV.inj {x y:V} {u:Af} (r:RelV x u) (q:RelV y u):x=y:=Bo (r.abs.symm.trans q.abs)
theorem Vals.inj:∀{xs ys:List V} {us:List Af},Vals xs us->Vals ys us->xs=ys
 |_,_,_,.nil,.nil=>rfl
 |_,_,_,.cons r t,.cons r' t'=>by rw[r.inj r',Vals.inj t t']
section
variable {X:Cx} {pins:List (Addr×Obj)} {σ:St} {H:Hp} {s:Aj} {a:Addr} {xs ys:List V}
theorem SqL.of {K:Ag} (h:H a=some (.lst xs)):SqL K H a xs:=.inl (.inl h)
theorem SqT.of {K:Ag} (h:H a=some (.tup xs)):SqT K H a xs:=.inl (.inl h)
theorem Inv.list (I:Inv X pins σ H s) (h:SqL X.K H a xs):∃its:List Af,Vals xs its/\PlainL s.heap a its.toArray/\xs.length<=Ax:=by
 rcases h with h | ⟨o,its,n,hk,hc,hd,hs,hz,r⟩
 ·obtain⟨z,its,n,r,e⟩:=h.ok I.hok;exact⟨its,r,⟨_,n,e,rfl,rfl,rfl⟩,z⟩
 ·refine⟨its.toList,r,⟨o,n,I.kIn a o hk,hc,hd,by simpa using hs⟩,?_⟩;have e:=r.length;simp only[Cq]at e;omega
theorem Inv.tuple (I:Inv X pins σ H s) (h:SqT X.K H a xs):∃its:List Af,Vals xs its/\IsTup s.heap a its.toArray/\xs.length<=Ax:=by
 rcases h with h | ⟨o,its,n,hk,hc,hs,hz,r⟩
 ·obtain⟨z,its,r,p⟩:=h.ok I.hok;exact⟨its,r,p.tup,z⟩
 ·refine⟨its.toList,r,⟨o,I.kIn a o hk,hc,n,by simpa using hs⟩,?_⟩;have e:=r.length;simp only[Cq]at e;omega
theorem Inv.list_inj (I:Inv X pins σ H s) (h:SqL X.K H a xs) (h':SqL X.K H a ys):xs=ys:=by
 obtain⟨its,r,⟨o,n,e,_,_,d⟩,_⟩:=I.list h;obtain⟨its',r',⟨o',n',e',_,_,d'⟩,_⟩:=I.list h';rw[e]at e';cases e';rw[d]at d';injection d' with d1 _;have:its=its':=by simpa using congrArg Array.toList d1
 subst this;exact r.inj r'
theorem Inv.tuple_inj (I:Inv X pins σ H s) (h:SqT X.K H a xs) (h':SqT X.K H a ys):xs=ys:=by
 obtain⟨its,r,⟨o,e,_,n,d⟩,_⟩:=I.tuple h;obtain⟨its',r',⟨o',e',_,n',d'⟩,_⟩:=I.tuple h';rw[e]at e';cases e';rw[d]at d';injection d' with d1 _;have:its=its':=by simpa using congrArg Array.toList d1
 subst this;exact r.inj r'
end
abbrev Cx.wish (X:Cx) (E:Af->Aj->Prop):Cx:={ X with xe:=E}
abbrev Cx.nox (X:Cx):Cx:=X.wish λ_ _=>False
theorem Cx.Ok.wish {X:Cx} (ok:X.Ok) (E:Af->Aj->Prop):(X.wish E).Ok :=
 ⟨ok.mod,ok.kind,ok.glob,ok.blt,ok.above,ok.inj,ok.has,ok.cab,ok.hd,ok.frames,ok.stk,ok.exf,ok.bs,ok.bsz,ok.noex,ok.exfs,ok.funs,ok.frf⟩
theorem Cx.Ok.unwish {X:Cx} {E:Af->Aj->Prop} (ok:(X.wish E).Ok):X.Ok :=
 ⟨ok.mod,ok.kind,ok.glob,ok.blt,ok.above,ok.inj,ok.has,ok.cab,ok.hd,ok.frames,ok.stk,ok.exf,ok.bs,ok.bsz,ok.noex,ok.exfs,ok.funs,ok.frf⟩
section
variable {X:Cx} {pins:List (Addr×Obj)} {σ:St} {H:Hp} {s:Aj} {E:Af->Aj->Prop}
theorem Inv.wish (I:Inv X pins σ H s) (E:Af->Aj->Prop):Inv (X.wish E) pins σ H s:=⟨I.ok.wish E,I.os,I.bare,I.base,I.loc,I.cell,I.free,I.freeC,I.pin,I.hok,I.len⟩
theorem Inv.unwish (I:Inv (X.wish E) pins σ H s):Inv X pins σ H s:=⟨I.ok.unwish,I.os,I.bare,I.base,I.loc,I.cell,I.free,I.freeC,I.pin,I.hok,I.len⟩
theorem SP.unwish {D:Ends} {f:Flow} {s':Aj} (h:SP (X.wish E) pins D f s'):SP X pins D f s':=by
 cases f with
 |next=>obtain⟨σ',H',I,q⟩:=h;exact⟨σ',H',I.unwish,q⟩
 |brk=>obtain⟨σ',H',I,q⟩:=h;exact⟨σ',H',I.unwish,q⟩
 |cont=>obtain⟨σ',H',I,q⟩:=h;exact⟨σ',H',I.unwish,q⟩
 |ret u=>obtain⟨v,σ',H',I,r,q⟩:=h;exact⟨v,σ',H',I.unwish,r,q⟩
theorem PSs.nox {st:List Stmt} {t:TS} (h:PSs X.nox st t):PSs X st t:=λpins s σ H D I hw =>
 Dw (h pins s σ H D (I.wish _) hw) (λ_ _ q=>q.unwish) λ_ _ z=>False.elim z
end
section
variable {X:Cx} {st:Stmt} {rest:List Stmt} {t u:TS} {e:Expr} {te:TE} {pos:Pos}
def j2s:TS:=λD σ H=>D.nx σ H
def tSeq (t u:TS):TS:=λD σ H=>t {D with nx:=u D} σ H
theorem jlp:PSs X [] j2s:=λ_ _ σ H _ I h=>wpAny_execs_nil ⟨σ,H,I,h⟩
theorem jbt (h1:PS X st t) (h2:PSs X rest u):PSs X (st::rest) (tSeq t u):=by
 intro pins s σ H D I h;refine wpAny_execs_cons (thn (h1 pins s σ H {D with nx:=u D} I h) λf s1 q=>?_);cases f with
 |next =>
  obtain⟨σ',H',I',q⟩:=q;exact h2 pins s1 σ' H' D I' q
 |ret v=>exact q
 |brk=>exact q
 |cont=>exact q
theorem jf2 (h1:PS X st t):PSs X [st] t:=by
 intro pins s σ H D I h;refine wpAny_execs_cons (thn (h1 pins s σ H D I h) λf s1 q=>?_);cases f with
 |next=>exact wpAny_execs_nil q
 |ret v=>exact q
 |brk=>exact q
 |cont=>exact q
theorem Inv.quiet {pins:List (Addr×Obj)} {σ:St} {H:Hp} {s:Aj} (I:Inv X pins σ H s):interactive X.env=false:=by simp[interactive,I.ok.kind]
def jz6 (te:TE):TS:=λD σ H=>te σ H λ_ H1=>D.nx σ H1
theorem jum (he:PE X e te) (hs:Fz e none pos.line X.env=pure false:=by rfl):PS X (.Expr e pos) (jz6 te):=by
 intro pins s σ H D I h;exact wpAny_Expr_any (thn (he pins s σ H _ I h) λv s1 ⟨x,H1,I1,r1,q1⟩=>⟨σ,H1,I1,q1⟩) I.quiet hs
def tRet (te:TE):TS:=λD σ H=>te σ H D.rt
theorem jnm (he:PE X e te):PS X (.Return (some e) pos) (tRet te):=by
 intro pins s σ H D I h;exact wpAny_Return_some (thn (he pins s σ H _ I h) λv s1 ⟨x,H1,I1,r1,q1⟩=>⟨x,σ,H1,I1,r1,q1⟩)
def tIfS (c:TT) (t u:TS):TS:=λD σ H=>c σ H λb H1=>if b=true then t D σ H1 else u D σ H1
theorem jxg {c:Expr} {a b:List Stmt} {tc:TT} (hc:PT X c tc) (ha:PSs X a t) (hb:PSs X b u):PS X (.If c a b pos) (tIfS tc t u):=by
 intro pins s σ H D I h;refine wpAny_If (thn (hc pins s σ H _ I h) λd s1 ⟨H1,I1,q1⟩=>?_);cases d with
 |true=>exact ha pins s1 σ H1 D I1 q1
 |false=>exact hb pins s1 σ H1 D I1 q1
end
abbrev TG:=V->St->Hp->(St->Hp->Prop)->Prop
abbrev TGs:=List V->St->Hp->(St->Hp->Prop)->Prop
def PG (X:Cx) (target:Expr) (t:TG):Prop :=
 ∀(pins:List (Addr×Obj)) (s:Aj) (σ:St) (H:Hp) (v:V) (u:Af) (Q:St->Hp->Prop),Inv X pins σ H s->RelV v u->t v σ H Q ->
  Az (Bb X.prog X.w) X.A (assign target X.env u) (λ_ s'=>∃σ' H',Inv X pins σ' H' s'/\Q σ' H') X.xe s
def PGs (X:Cx) (ts:List Expr) (t:TGs):Prop :=
 ∀(pins:List (Addr×Obj)) (s:Aj) (σ:St) (H:Hp) (vs:List V) (us:List Af) (Q:St->Hp->Prop),Inv X pins σ H s->Vals vs us->t vs σ H Q ->
  Az (Bb X.prog X.w) X.A (assignInOrder ((Dx ts X.env).map (·.2)) us) (λ_ s'=>∃σ' H',Inv X pins σ' H' s'/\Q σ' H') X.xe s
abbrev TSet:=V->V->V->Hp->(Hp->Prop)->Prop
def PSet (X:Cx) (t:TSet):Prop :=
 ∀(pins:List (Addr×Obj)) (s:Aj) (σ:St) (H:Hp) (o i v:V) (ov iv u:Af) (Q:Hp->Prop),Inv X pins σ H s->RelV o ov->RelV i iv->RelV v u->t o i v H Q ->
  Az (Bb X.prog X.w) X.A (setItem ov iv u) (λ_ s'=>∃H',Inv X pins σ H' s'/\Q H') X.xe s
section
variable {X:Cx} {pos:Pos}
def jhg (i:Nat):TG:=λv σ H Q=>Q (σ.set i (some v)) H
theorem j03 {i:Nat} {x:Str} (hN:X.N.Nodup) (hi:X.N[i]?=some x) (hx:Loc X.env.scope x) (hf:X.fn x=true\/X.env.scope.names.lookup x=some .local:=by first | exact .inl rfl | exact .inr rfl | assumption):PG X (.Name x pos) (jhg i):=by
 intro pins s σ H v u Q I r h;exact wpAny_assign_Name (jqx I hN hi hx r (λs' I'=>⟨_,H,I',h⟩) hf)
def gNil:TGs:=λvs σ H Q=>vs=[]/\Q σ H
def j41 (t:TG) (u:TGs):TGs:=λvs σ H Q=>∃v r,vs=v::r/\t v σ H λσ' H'=>u r σ' H' Q
theorem j02:PGs X [] gNil:=by
 intro pins s σ H vs us Q I r h;obtain⟨e,h⟩:=h;subst e;cases r;exact assignInOrder_nil ⟨σ,H,I,h⟩
theorem jxk {e:Expr} {es:List Expr} {t:TG} {u:TGs} (h1:PG X e t) (h2:PGs X es u)
  (hs:(Dx (e::es) X.env).map (·.2)=assign e X.env::(Dx es X.env).map (·.2):=by rfl):PGs X (e::es) (j41 t u):=by
 intro pins s σ H vs us Q I r h;obtain⟨v,vr,e1,h⟩:=h;subst e1;cases r with
 |cons r rr =>
  rw[hs];refine assignInOrder_cons (thn (h1 pins s σ H _ _ _ I r h) λ_ s1 ⟨σ1,H1,I1,q1⟩=>?_);exact h2 pins s1 σ1 H1 _ _ Q I1 rr q1
def gTup (K:Ag) (n:Nat) (t:TGs):TG:=λv σ H Q=>∃a xs,v=.ref a/\SqT K H a xs/\xs.length=n/\t xs σ H Q
theorem j3u {es:List Expr} {k:Nat} {t:TGs} {n:Nat} (hc:X.calm=true) (h:PGs X es t)
  (hn:(Dx es X.env).length=n:=by rfl) (hst:(Dx es X.env).findIdx? (·.1)=none:=by rfl):PG X (.Tuple es k pos) (gTup X.K n t):=by
 intro pins s σ H v u Q I r hw;obtain⟨a,xs,e1,hq,hl,hw⟩:=hw;subst e1;cases r;obtain⟨its,rv,ht,hz⟩:=I.tuple hq;refine assign_Tuple_tuple (I.ok.hd hc) ht (by simp[hn,<-hl,rv.length]) hst λh' hx=>?_;have I1:Inv X pins σ H {s with heap:=h'}:=I.kept (t':=s.toks) λb o e=>hx b o (Bd (Ao e)) e;exact h pins _ σ H xs _ Q I1 (by simpa using rv) hw
def gSub (to ti:TE) (t:TSet):TG:=λv σ H Q=>to σ H λo H1=>ti σ H1 λi H2=>t o i v H2 λH3=>Q σ H3
theorem jq5 {o i:Expr} {to ti:TE} {t:TSet} (ho:PE X o to) (hi:PE X i ti) (hs:PSet X t)
  (ha:∀v,assign (.Subscript o i pos) X.env v=(do
   let ov <-holding [v] (eval o X.env)
   let iv <-holding [v,ov] (eval i X.env)
   standAt pos
   holding [v,ov,iv] (setItem ov iv v)
   release [v,ov,iv] []):=by intro _;rfl):PG X (.Subscript o i pos) (gSub to ti t):=by
 intro pins s σ H v u Q I r h;rw[ha];refine Aa (C6 (thn (ho pins s σ H _ I h) λov s1 ⟨x,H1,I1,r1,q1⟩=>?_));refine Aa (C6 (thn (hi pins s1 σ H1 _ I1 q1) λiv s2 ⟨y,H2,I2,r2,q2⟩=>?_));refine Aa (wpAny_standAt (Aa (C6 (thn (hs pins s2 σ H2 x y v ov iv u _ I2 r1 r2 r q2) λ_ s3 ⟨H3,I3,q3⟩=>?_))));exact wpAny_release ⟨σ,H3,I3,q3⟩
def tAsg (te:TE) (g:TG):TS:=λD σ H=>te σ H λx H1=>g x σ H1 D.nx
theorem jnn {tg e:Expr} {te:TE} {g:TG} (he:PE X e te) (hg:PG X tg g) (hs:swapsWithSole [tg] e pos.line X.env=pure false:=by rfl) (hw:swappedStores [tg] e X.env=pure none:=by rfl)
  (h1:(Dx [tg] X.env).map (·.2)=[assign tg X.env]:=by rfl):PS X (.Assign [tg] e pos) (tAsg te g):=by
 intro pins s σ H D I h;refine wpAny_Assign_stores (thn (he pins s σ H _ I h) λv s1 ⟨x,H1,I1,r1,q1⟩=>?_) hs hw;rw[h1];exact thn (hg pins s1 σ H1 x v _ I1 r1 q1) λ_ s2 q=>q
theorem jgo {i:Nat} {x:Str} {e:Expr} {te:TE} {pos':Pos} (hN:X.N.Nodup) (hi:X.N[i]?=some x) (hx:Loc X.env.scope x) (he:PE X e te) (hs:Fz e (some (.Name x pos')) pos.line X.env=pure false:=by rfl) (hf:X.fn x=true\/X.env.scope.names.lookup x=some .local:=by first | exact .inl rfl | exact .inr rfl | assumption) :
  PS X (.Assign [.Name x pos'] e pos) (tAsg te (jhg i)):=by
 intro pins s σ H D I h;refine wpAny_Assign_Name (thn (he pins s σ H _ I h) λv s1 ⟨y,H1,I1,r1,q1⟩=>?_) hs;exact jqx I1 hN hi hx r1 (λs2 I2=>⟨_,H1,I2,q1⟩) hf
end
structure It where
 go:Nat->Hp->Prop
 yld:Nat->Hp->V->Hp->Prop
 stop:Nat->Hp->Prop
def FpOk (X:Cx) (pins:List (Addr×Obj)) (H:Hp) (b:Addr):Prop :=
 H b=none/\b≠X.env.locals/\b∉X.fs/\(b∈X.ex\/X.s₀.heap.objs.size<=b)/\(∀x c,X.env.cells.lookup x=some c->c≠b)/\∀p∈X.pn++pins,p.1≠b
theorem Inv.fpOk {X:Cx} {pins:List (Addr×Obj)} {σ:St} {H H':Hp} {s:Aj} {b:Addr} (I:Inv X pins σ H s) (hb:s.heap.objs.size<=b) (hn:H' b=none):FpOk X pins H' b:=by
 refine⟨hn,E4 (Bq I.lt hb),I.nofs hb,.inr (Bw I.sz hb),λx c e z=>?_,λp hp z=>?_⟩
 ·obtain⟨v,q⟩:=I.cell x c e;exact absurd (Bq q.lt (by rw[z];exact hb)) (Er _)
 ·exact absurd (Bq (Ao (I.pin p hp).1) (by rw[z];exact hb)) (Er _)
structure Turn (P:Br) (w:B4) (K:Ag) (tg:Expr) (J:It) (fp:List Addr) (it:Addr) (tn:Nat->Heap->Prop):Prop where
 mem:it∈fp
 obj:∀i h,tn i h->∀b∈fp,∃o,h.get? b=some o/\∀v,o.data≠.cell v
 keep:∀i h h',tn i h->(∀b∈fp,∀o,h.get? b=some o->h'.get? b=some o)->tn i h'
 item:∀(X:Cx),X.prog=P->X.w=w->X.K=K->X.calm=true->∀(i:Nat) (pins:List (Addr×Obj)) (s:Aj) (σ:St) (H:Hp) (E:Af->Aj->Prop),Inv X pins σ H s->(∀b∈fp,FpOk X pins H b)->tn i s.heap->J.go i H ->
  Az (Bb P w) X.A (Eg (.ref it)) (λr s1=>∃u,r=some u /\
   Az (Bb P w) X.A (letOwnedTupleGo tg (.ref it) u) (λ_ s2=>∃x H',Inv X pins σ H' s2/\RelV x u/\J.yld i H x H'/\tn (i+1) s2.heap/\∀b∈fp,H' b=none) E s1) E s
 done:∀(X:Cx),X.prog=P->X.w=w->X.K=K->X.calm=true->∀(i:Nat) (pins:List (Addr×Obj)) (s:Aj) (σ:St) (H:Hp) (E:Af->Aj->Prop),Inv X pins σ H s->(∀b∈fp,FpOk X pins H b)->tn i s.heap->J.stop i H ->
  Az (Bb P w) X.A (Eg (.ref it)) (λr s1=>r=none/\Inv X pins σ H s1) E s
 self:∀(A:B9) (i:Nat) (s:Aj) (Q:Af->Aj->Prop) (E:Af->Aj->Prop),tn i s.heap->Q (.ref it) s->Az (Bb P w) A (pyIter (.ref it)) Q E s
abbrev TI:=St->Hp->(It->Hp->Prop)->Prop
def PIE (X:Cx) (pins:List (Addr×Obj)) (σ:St) (tg:Expr) (R:It->Hp->Prop) (itv:Af) (s2:Aj):Prop :=
 ∃(it:Addr) (fp:List Addr) (tn:Nat->Heap->Prop) (J:It) (H':Hp),itv=.ref it/\Inv X pins σ H' s2/\Turn X.prog X.w X.K tg J fp it tn/\tn 0 s2.heap/\(∀b∈fp,FpOk X pins H' b)/\R J H'
def PI (X:Cx) (tg iter:Expr) (wi:TI):Prop :=
 ∀(pins:List (Addr×Obj)) (s:Aj) (σ:St) (H:Hp) (R:It->Hp->Prop),Inv X pins σ H s->wi σ H R ->
  Az (Bb X.prog X.w) X.A (eval iter X.env) (λv s1=>Az (Bb X.prog X.w) X.A (pyIter v) (PIE X pins σ tg R) X.xe s1) X.xe s
theorem jx4 {M:Model} {A:B9} {E:Af->Aj->Prop} {s:Aj} {tg:Expr} {it:Addr} {u:Af} {o:Obj} {n:String} {vs:Array Af} {Q:Unit->Aj->Prop} (ho:s.heap.get? it=some o) (hc:o.cls=.type n) (hd:o.data=.fields vs)
  (hn:["enumerate","zip","dict_itemiterator","dict_reverseitemiterator","odict_iterator","itertools.zip_longest","itertools.pairwise"].contains n=false) (hQ:Q () s):Az M A (letOwnedTupleGo tg (.ref it) u) Q E s:=by
 unfold letOwnedTupleGo;cases tg<;>first
  |exact Ah hQ
  | (cases u<;>first
    |exact Ah hQ
    | (refine Aa (wpAny_load ho ?_)
       rw[hc,hd];show Az M A (if (["enumerate","zip","dict_itemiterator","dict_reverseitemiterator","odict_iterator","itertools.zip_longest","itertools.pairwise"].contains n&&vs[0]?==some (Cy _))=true then _ else _) Q E s;rw[if_neg (by intro h;rw[hn,Fl]at h;cases h)];exact Ah hQ))
def Itl (K:Ag) (a:Addr):It :=
 ⟨λi H=>∃xs x,SqL K H a xs/\xs[i]?=some x,λi H x H'=>H'=H/\∀xs,SqL K H a xs->xs[i]?=some x,λi H=>∃xs,SqL K H a xs/\xs.length<=i⟩
def Itt (K:Ag) (a:Addr):It :=
 ⟨λi H=>∃xs x,SqT K H a xs/\xs[i]?=some x,λi H x H'=>H'=H/\∀xs,SqT K H a xs->xs[i]?=some x,λi H=>∃xs,SqT K H a xs/\xs.length<=i⟩
def Itr (lo:Int) (n:Nat):It:=⟨λi _=>i < n,λi H x H'=>H'=H/\x=.int (lo+i),λi _=>n<=i⟩
theorem js8 {P:Br} {w:B4} {K:Ag} {tg:Expr} (a it:Addr):Turn P w K tg (Itl K a) [it] it (λi h=>h.IsListIter it a i) where
 mem:=by simp
 obj:=λi h st b hb=>by
  have e:b=it:=by simpa using hb
  subst e;obtain⟨o,e,c,d⟩:=st;exact⟨o,e,λv z=>by rw[d]at z;cases z⟩
 keep:=λi h h' st k=>st.at λo e=>k it (by simp) o e
 item:=by
  intro X hP hw hK hc i pins s σ H E I hf st hg;subst hP hw hK;obtain⟨xs,x,hq,hx⟩:=hg;obtain⟨its,rv,p,hz⟩:=I.list hq;obtain⟨u,hu,ru⟩:=rv.get hx;obtain⟨f0,f1,f2,f3,f4,f5⟩:=hf it (by simp);refine wpAny_pyNext_list_item st p.isList (x:=u) (by simpa using hu) λh' st' sb=>?_;have I1:Inv X pins σ H {s with heap:=h'}:=I.turned (t':=s.toks) (λb o hb e=>(sb.2 b hb).trans e) f0 f1 f3 f4 f5;obtain⟨o,e,c,d⟩:=id st';exact⟨u,rfl,jx4 (s:={ s with heap:=h'}) e c d (by decide) ⟨x,H,I1,ru,⟨rfl,λys hy=>by rw[I.list_inj hy hq];exact hx⟩,st',λb hb=>(hf b hb).1⟩⟩
 done:=by
  intro X hP hw hK hc i pins s σ H E I hf st hg;subst hP hw hK;obtain⟨xs,hq,hx⟩:=hg;obtain⟨its,rv,p,hz⟩:=I.list hq;obtain⟨f0,f1,f2,f3,f4,f5⟩:=hf it (by simp);have hl:=rv.length;exact wpAny_pyNext_list_end (I.ok.hd hc) st p.isList (by simp;omega) λh' eb=>⟨rfl,I.turned (t':=s.toks) (λb o hb e=>eb b o hb e) f0 f1 f3 f4 f5⟩
 self:=λ_ _ _ _ _ st h=>wpAny_pyIter_listiter st h
theorem jrv {P:Br} {w:B4} {K:Ag} {tg:Expr} (a it:Addr):Turn P w K tg (Itt K a) [it] it (λi h=>h.IsTupleIter it a i) where
 mem:=by simp
 obj:=λi h st b hb=>by
  have e:b=it:=by simpa using hb
  subst e;obtain⟨o,e,c,d⟩:=st;exact⟨o,e,λv z=>by rw[d]at z;cases z⟩
 keep:=λi h h' st k=>st.at λo e=>k it (by simp) o e
 item:=by
  intro X hP hw hK hc i pins s σ H E I hf st hg;subst hP hw hK;obtain⟨xs,x,hq,hx⟩:=hg;obtain⟨its,rv,p,hz⟩:=I.tuple hq;obtain⟨u,hu,ru⟩:=rv.get hx;obtain⟨f0,f1,f2,f3,f4,f5⟩:=hf it (by simp);refine wpAny_pyNext_tuple_item st (show s.heap.IsTuple a its.toArray from p) (x:=u) (by simpa using hu) λh' st' sb=>?_;have I1:Inv X pins σ H {s with heap:=h'}:=I.turned (t':=s.toks) (λb o hb e=>(sb.2 b hb).trans e) f0 f1 f3 f4 f5;obtain⟨o,e,c,d⟩:=id st';exact⟨u,rfl,jx4 (s:={ s with heap:=h'}) e c d (by decide) ⟨x,H,I1,ru,⟨rfl,λys hy=>by rw[I.tuple_inj hy hq];exact hx⟩,st',λb hb=>(hf b hb).1⟩⟩
 done:=by
  intro X hP hw hK hc i pins s σ H E I hf st hg;subst hP hw hK;obtain⟨xs,hq,hx⟩:=hg;obtain⟨its,rv,p,hz⟩:=I.tuple hq;obtain⟨f0,f1,f2,f3,f4,f5⟩:=hf it (by simp);have hl:=rv.length;exact wpAny_pyNext_tuple_end (I.ok.hd hc) st (show s.heap.IsTuple a its.toArray from p) (by simp;omega) λh' eb=>⟨rfl,I.turned (t':=s.toks) (λb o hb e=>eb b o hb e) f0 f1 f3 f4 f5⟩
 self:=λ_ _ _ _ _ st h=>wpAny_pyIter_tupleiter st h
theorem jrw {P:Br} {w:B4} {K:Ag} {tg:Expr} (it:Addr) (lo:Int) (n:Nat):Turn P w K tg (Itr lo n) [it] it (λi h=>IsRangeIter h it (lo+(i:Nat)*1) ((n:Int) - (i:Nat)) 1) where
 mem:=by simp
 obj:=λi h st b hb=>by
  have e:b=it:=by simpa using hb
  subst e;exact⟨_,st,λv z=>by
   have z':Data.fields _=Data.cell v:=z;cases z'⟩
 keep:=λi h h' st k=>k it (by simp) _ st
 item:=by
  intro X hP hw hK hc i pins s σ H E I hf st hg;subst hP hw hK;obtain⟨f0,f1,f2,f3,f4,f5⟩:=hf it (by simp);have W:=Walks.range (prog:=X.prog) (w:=X.w) (I.ok.hd hc) it lo 1 n;refine W.item i s _ _ hg st λv h' tk hv st' kk=>?_;obtain⟨t,rfl⟩:=hv;have I1:Inv X pins σ H {s with heap:=h',toks:=tk}:=I.turned (λb o hb e=>kk b o (by simpa using hb) e) f0 f1 f3 f4 f5;refine⟨_,rfl,jx4 (s:={ s with heap:=h',toks:=tk}) (n:="range_iterator") st' rfl rfl (by decide) ⟨.int (lo+i),H,I1,⟨t,?_⟩,⟨rfl,rfl⟩,st',λb hb=>(hf b hb).1⟩⟩;rw[Int.mul_one]
 done:=by
  intro X hP hw hK hc i pins s σ H E I hf st hg;subst hP hw hK;obtain⟨f0,f1,f2,f3,f4,f5⟩:=hf it (by simp);exact wpAny_pyNext_range_end (I.ok.hd hc) st (by have:n<=i:=hg;omega) λh' eb=>⟨rfl,I.turned (t':=s.toks) (λb o hb e=>eb b o hb e) f0 f1 f3 f4 f5⟩
 self:=λ_ _ _ _ _ st h=>wpAny_pyIter_rangeiter st h
section
variable {X:Cx} {tg:Expr}
def j1s (K:Ag) (tl:TE):TI:=λσ H R=>tl σ H λx H1=>∃a,x=.ref a/\(∃xs,SqL K H1 a xs)/\R (Itl K a) H1
def iTup (K:Ag) (tl:TE):TI:=λσ H R=>tl σ H λx H1=>∃a,x=.ref a/\(∃xs,SqT K H1 a xs)/\R (Itt K a) H1
theorem j00 {l:Expr} {tl:TE} (hl:PE X l tl):PI X tg l (j1s X.K tl):=by
 intro pins s σ H R I h;refine thn (hl pins s σ H _ I h) λv s1 ⟨x,H1,I1,r1,q1⟩=>?_;obtain⟨a,e,⟨xs,hq⟩,q⟩:=q1;subst e;cases r1;obtain⟨its,rv,p,hz⟩:=I1.list hq;refine wpAny_pyIter_list p.isList ?_;refine⟨s1.heap.objs.size,[s1.heap.objs.size],_,_,H1,rfl,I1.kept (t':=s1.toks) λb o e=>Ae _ e,js8 a _,⟨_,As _ rfl,rfl,rfl⟩,λb hb=>?_,q⟩;have e:b=s1.heap.objs.size:=by simpa using hb
 subst e;exact I1.fpOk (Ar _) (I1.hok.fresh (Ar _))
theorem j3s {l:Expr} {tl:TE} (hl:PE X l tl):PI X tg l (iTup X.K tl):=by
 intro pins s σ H R I h;refine thn (hl pins s σ H _ I h) λv s1 ⟨x,H1,I1,r1,q1⟩=>?_;obtain⟨a,e,⟨xs,hq⟩,q⟩:=q1;subst e;cases r1;obtain⟨its,rv,p,hz⟩:=I1.tuple hq;refine D4 (show s1.heap.IsTuple a its.toArray from p) ?_;refine⟨s1.heap.objs.size,[s1.heap.objs.size],_,_,H1,rfl,I1.kept (t':=s1.toks) λb o e=>Ae _ e,jrv a _,⟨_,As _ rfl,rfl,rfl⟩,λb hb=>?_,q⟩;have e:b=s1.heap.objs.size:=by simpa using hb
 subst e;exact I1.fpOk (Ar _) (I1.hok.fresh (Ar _))
theorem jxd {pins:List (Addr×Obj)} {σ:St} {H:Hp} {s:Aj} {R:It->Hp->Prop} {E:Af->Aj->Prop} {lo hi:Int} {t u v:Tok} {tk:Nat} (I:Inv X pins σ H s) (h1:-(2 ^ 62)<=lo) (h2:lo < 2 ^ 62) (h3:-(2 ^ 62)<=hi) (h4:hi < 2 ^ 62)
  (q:R (Itr lo (hi - lo).toNat) H):Az (Bb X.prog X.w) X.A (pyIter (.ref s.heap.objs.size)) (PIE X pins σ tg R) E {s with heap:=s.heap.push {cls:=.type "range",data:=.fields #[.int lo t,.int hi u,.int 1 v]},toks:=tk}:=by
 refine wpAny_pyIter_range (IsRange.new ..) (small_one h1 h2 h3 h4) ?_;have I1:Inv X pins σ H {s with heap:=s.heap.push {cls:=.type "range",data:=.fields #[.int lo t,.int hi u,.int 1 v]},toks:=tk}:=I.kept λb o e=>Ae _ e;refine⟨(s.heap.push {cls:=.type "range",data:=.fields #[.int lo t,.int hi u,.int 1 v]}).objs.size,[(s.heap.push {cls:=.type "range",data:=.fields #[.int lo t,.int hi u,.int 1 v]}).objs.size],_,_,H,rfl,
  I1.kept (t':=tk) λb o e=>Ae _ e,jrw _ lo (hi - lo).toNat,?_,λb hb=>?_,q⟩
 ·have e1:lo+((0:Nat):Int)*1=lo:=by simp
  have e2:(((hi - lo).toNat:Nat):Int) - ((0:Nat):Int)=Builtin.Range.rangeSize lo hi 1:=by rw[rangeSize_one];split<;>omega
  show IsRangeIter _ _ (lo+((0:Nat):Int)*1) ((((hi - lo).toNat:Nat):Int) - ((0:Nat):Int)) 1;rw[e1,e2];exact As _ rfl
 ·have e:b=(s.heap.push {cls:=.type "range",data:=.fields #[.int lo t,.int hi u,.int 1 v]}).objs.size:=by simpa using hb
  subst e;exact I1.fpOk (Ar _) (I1.hok.fresh (Ar _))
def j4v (ta:TA):TI:=λσ H R=>ta σ H λvs H1=>∃j:Int,vs=[.int j]/\-(2 ^ 62)<=j/\j < 2 ^ 62/\R (Itr 0 j.toNat) H1
theorem jus {a:Expr} {ta:TA} {p pos:Pos} (hg:Gl X "range") (hm:X.mg "range"=none) (ha:PA X [a] ta) (hs:A8 [a] X.env=[(false,eval a X.env)]:=by rfl):PI X tg (.Call (.Name "range" p) [a] [] pos) (j4v ta):=by
 intro pins s σ H R I h;refine Call_ (jku I hg hm boot_range (Eh (thn (ha pos pins s σ H _ I h) λus s1 ⟨vs,H1,I1,r1,q1⟩=>?_) hs rfl));obtain⟨j,e,q1,q2,q⟩:=q1;subst e;cases r1 with
 |cons r rr =>
  cases rr;obtain⟨t,rfl⟩:=r;exact call_range_1 (jxd I1 (by omega) (by omega) q1 q2 (by simpa using q))
def tFor (wi:TI) (g:TG) (tb:TS):TS:=λD σ H=>wi σ H λJ H1=>∃W:Nat->Nat->St->Hp->Prop,(∃m,W 0 m σ H1)/\∀i m σ H,W i m σ H ->
 (J.stop i H/\D.nx σ H)\/(J.go i H/\∃N:St->Hp->Prop,(∀σ' H',N σ' H'->∃m',m' < m/\W (i+1) m' σ' H')/\∀x H',J.yld i H x H'->g x σ H' λσ2 H2=>tb {D with nx:=N,ct:=N,bk:=D.nx} σ2 H2)
def jkp (fp:List Addr) (h:Heap):List (Addr×Obj):=fp.filterMap λb=>(h.get? b).map λo=>(b,o)
theorem jck {fp:List Addr} {h:Heap} {b:Addr} {o:Obj} (hb:b∈fp) (e:h.get? b=some o):(b,o)∈jkp fp h:=List.mem_filterMap.mpr ⟨b,hb,by rw[e];rfl⟩
theorem jva {fp:List Addr} {h:Heap} {p:Addr×Obj} (hp:p∈jkp fp h):p.1∈fp/\h.get? p.1=some p.2:=by
 obtain⟨b,hb,e⟩:=List.mem_filterMap.mp hp;cases q:h.get? b with
 |none=>rw[q]at e;cases e
 |some o =>
  rw[q]at e;have e':(b,o)=p:=Bo e;subst e';exact⟨hb,q⟩
theorem Inv.pinned {pins:List (Addr×Obj)} {σ:St} {H:Hp} {s:Aj} {fp:List Addr} (I:Inv X pins σ H s) (hf:∀b∈fp,FpOk X pins H b) (ho:∀b∈fp,∃o,s.heap.get? b=some o/\∀v,o.data≠.cell v):Inv X (pins++jkp fp s.heap) σ H s :=
 I.pins_of λp hp=>(A0.mp hp).elim (λz=>I.pin p (Be _ z)) λz=>by
  obtain⟨hb,e⟩:=jva z;obtain⟨f0,f1,f2,_⟩:=hf p.1 hb;obtain⟨o,e',d⟩:=ho p.1 hb;rw[e]at e';cases e';exact⟨e,f0,f1,f2,d⟩
theorem Inv.unpinned {pins pl:List (Addr×Obj)} {σ:St} {H:Hp} {s:Aj} (I:Inv X (pins++pl) σ H s):Inv X pins σ H s:=I.pins_of λp hp=>I.pin p (Be _ (Dk _ hp))
theorem j3q {iter:Expr} {body:List Stmt} {wi:TI} {g:TG} {tb:TS} {pos:Pos} (hp:PassesOwn (Bb X.prog X.w) X.A X.env X.xe) (hc:X.calm=true) (hi:PI X tg iter wi) (hg:PG X tg g) (hb:PSs X body tb)
  (hs:∀x,Ec iter X.env x=pure x:=by intro _;rfl):PS X (.For tg iter body [] pos) (tFor wi g tb):=by
 intro pins s σ H D I h;refine wpAny_For (thn (hi pins s σ H _ I h) λv s1 h1=>thn h1 λitv s2 h2=>?_) hs;obtain⟨it,fp,tn,J,H2,e,I2,T,st2,f2,W,⟨m0,w0⟩,turn⟩:=h2;subst e
 -- what stays true of the iterator's objects through the loop
 have stat:∀{H':Hp},(∀b∈fp,H' b=none)->∀b∈fp,FpOk X pins H' b:=λhn b hb=>⟨hn b hb,(f2 b hb).2⟩;refine codeAny_forLoop_any (λn s'=>∃i σ' H',Inv X pins σ' H' s'/\tn i s'.heap/\(∀b∈fp,H' b=none)/\W i n σ' H') ?_ m0 ⟨0,σ,H2,I2,st2,λb hb=>(f2 b hb).1,w0⟩
 rintro n s3 ⟨i,σ3,H3,I3,st3,fr3,w3⟩
 rcases turn i n σ3 H3 w3 with⟨stop,qn⟩ | ⟨go,N,hN,step⟩
 ·refine F4 hp (thn (T.done X rfl rfl rfl hc i pins s3 σ3 H3 X.xe I3 (stat fr3) st3 stop) λr s4 ⟨hr,I4⟩=>?_);subst hr;exact wpAny_execs_nil ⟨σ3,H3,I4,qn⟩
 ·refine F4 hp (thn (T.item X rfl rfl rfl hc i pins s3 σ3 H3 X.xe I3 (stat fr3) st3 go) λr s4 ⟨u,hr,h4⟩=>?_);subst hr;refine F4 hp (thn h4 λ_ s5 ⟨x,H5,I5,r5,y5,st5,fr5⟩=>?_);have I5':=I5.pinned (stat fr5) (T.obj _ _ st5);refine F4 hp (thn (hg _ s5 σ3 H5 x u _ I5' r5 (step x H5 y5)) λ_ s6 ⟨σ6,H6,I6,q6⟩=>?_);refine F4 hp (thn (hb _ s6 σ6 H6 _ I6 q6) λf s7 q7=>?_);have again:∀{σ7:St} {H7:Hp},Inv X (pins++jkp fp s5.heap) σ7 H7 s7->N σ7 H7->∃m,m < n/\∃i σ' H',Inv X pins σ' H' s7/\tn i s7.heap/\(∀b∈fp,H' b=none)/\W i m σ' H':=λ{σ7 H7} I7 n7=>by
   obtain⟨m',hm,w7⟩:=hN σ7 H7 n7;refine⟨m',hm,i+1,σ7,H7,I7.unpinned,T.keep _ _ _ st5 λb hb o e=>(I7.pin (b,o) (Be _ (Be _ (jck hb e)))).1,λb hb=>?_,w7⟩;obtain⟨o,e,d⟩:=T.obj _ _ st5 b hb;exact(I7.pin (b,o) (Be _ (Be _ (jck hb e)))).2.1
  cases f with
  |next=>obtain⟨σ7,H7,I7,n7⟩:=q7;exact again I7 n7
  |cont=>obtain⟨σ7,H7,I7,n7⟩:=q7;exact again I7 n7
  |brk=>obtain⟨σ7,H7,I7,q7⟩:=q7;exact⟨σ7,H7,I7.unpinned,q7⟩
  |ret v=>obtain⟨x7,σ7,H7,I7,r7,q7⟩:=q7;exact⟨x7,σ7,H7,I7.unpinned,r7,q7⟩
end
abbrev R2:=V->V->Hp->VK->Prop
def OpR (X:Cx) (f:Af->Af->Sem Af) (r:R2):Prop :=
 ∀(pins:List (Addr×Obj)) (s:Aj) (σ:St) (H:Hp) (x y:V) (v u:Af) (Q:VK),Inv X pins σ H s->RelV x v->RelV y u->r x y H Q ->
  Az (Bb X.prog X.w) X.A (f v u) (EP X pins σ Q) X.xe s
def UnR (X:Cx) (f:Af->Sem Af) (r:V->Hp->VK->Prop):Prop :=
 ∀(pins:List (Addr×Obj)) (s:Aj) (σ:St) (H:Hp) (x:V) (v:Af) (Q:VK),Inv X pins σ H s->RelV x v->r x H Q ->
  Az (Bb X.prog X.w) X.A (f v) (EP X pins σ Q) X.xe s
def CallR (X:Cx) (f:Af) (r:List V->Hp->VK->Prop):Prop :=
 ∀(pins:List (Addr×Obj)) (s:Aj) (σ:St) (H:Hp) (xs:List V) (us:List Af) (Q:VK),Inv X pins σ H s->Vals xs us->r xs H Q ->
  Az (Bb X.prog X.w) X.A (call f us) (EP X pins σ Q) X.xe s
def tOp (r:R2) (ta tb:TE):TE:=λσ H Q=>ta σ H λx H1=>tb σ H1 λy H2=>r x y H2 Q
def tUn (r:V->Hp->VK->Prop) (ta:TE):TE:=λσ H Q=>ta σ H λx H1=>r x H1 Q
def rI (C:Int->Int->Prop) (g:Int->Int->V):R2:=λx y H Q=>∃i j,x=.int i/\y=.int j/\C i j/\Q (g i j) H
def rI0 (g:Int->Int->V):R2:=λx y H Q=>∃i j,x=.int i/\y=.int j/\Q (g i j) H
def rU (g:Int->V):V->Hp->VK->Prop:=λx H Q=>∃i,x=.int i/\Q (g i) H
section
variable {X:Cx} {a b c:Expr} {ta tb tc:TE} {pos:Pos}
theorem binT (ha:PE X a ta) (hb:PE X b tb) {pins:List (Addr×Obj)} {s:Aj} {σ:St} {H:Hp} {R:V->V->Hp->Prop} (I:Inv X pins σ H s)
  (h:ta σ H λx H1=>tb σ H1 λy H2=>R x y H2) {Q:Af->Aj->Prop} {f:Af->Af->Sem Af}
  (hf:∀v u s2 x y H2,Inv X pins σ H2 s2->RelV x v->RelV y u->R x y H2->Az (Bb X.prog X.w) X.A (f v u) Q X.xe s2) :
  Az (Bb X.prog X.w) X.A (eval a X.env) (λv s₁=>Az (Bb X.prog X.w) X.A (eval b X.env) (λu s₂=>Az (Bb X.prog X.w) X.A (f v u) Q X.xe s₂) X.xe s₁) X.xe s:=by
 refine thn (ha pins s σ H _ I h) λv s1 ⟨x,H1,I1,r1,q1⟩=>?_;refine thn (hb pins s1 σ H1 _ I1 q1) λu s2 ⟨y,H2,I2,r2,q2⟩=>?_;exact hf v u s2 x y H2 I2 r1 r2 q2
theorem jci {op:Operator} {r:R2} (ho:OpR X (Dr op) r) (ha:PE X a ta) (hb:PE X b tb):PE X (.BinOp a op b pos) (tOp r ta tb):=by
 intro pins s σ H Q I h;exact wpAny_BinOp (binT ha hb I h λv u s2 x y H2 I2 rx ry q=>ho pins s2 σ H2 x y v u Q I2 rx ry q)
theorem j3v {op:UnaryOp} {r:V->Hp->VK->Prop} (ho:UnR X (unaryOp op) r) (ha:PE X a ta):PE X (.UnaryOp op a pos) (tUn r ta):=by
 intro pins s σ H Q I h;exact UnaryOp_ (thn (ha pins s σ H _ I h) λv s1 ⟨x,H1,I1,r1,q1⟩=>ho pins s1 σ H1 x v Q I1 r1 q1)
theorem opI {f:Af->Af->Sem Af} {C:Int->Int->Prop} {g:Int->Int->Int}
  (rule:∀(i j:Int) (t u:Tok) (s:Aj) (Q:Af->Aj->Prop) (E:Af->Aj->Prop),C i j->Q (.int (g i j) s.toks) {s with toks:=s.toks+1}->Az (Bb X.prog X.w) X.A (f (.int i t) (.int j u)) Q E s) :
  OpR X f (rI C λi j=>.int (g i j)):=by
 intro pins s σ H x y v u Q I rx ry h;obtain⟨i,j,rfl,rfl,hc,q⟩:=h;obtain⟨t,rfl⟩:=rx;obtain⟨t',rfl⟩:=ry;exact rule i j t t' s _ _ hc ⟨.int (g i j),H,I.tok _,⟨_,rfl⟩,q⟩
theorem opI0 {f:Af->Af->Sem Af} {g:Int->Int->Int}
  (rule:∀(i j:Int) (t u:Tok) (s:Aj) (Q:Af->Aj->Prop) (E:Af->Aj->Prop),Q (.int (g i j) s.toks) {s with toks:=s.toks+1}->Az (Bb X.prog X.w) X.A (f (.int i t) (.int j u)) Q E s) :
  OpR X f (rI0 λi j=>.int (g i j)):=by
 intro pins s σ H x y v u Q I rx ry h;obtain⟨i,j,rfl,rfl,q⟩:=h;obtain⟨t,rfl⟩:=rx;obtain⟨t',rfl⟩:=ry;exact rule i j t t' s _ _ ⟨.int (g i j),H,I.tok _,⟨_,rfl⟩,q⟩
theorem opB0 {f:Af->Af->Sem Af} {g:Int->Int->Bool}
  (rule:∀(i j:Int) (t u:Tok) (s:Aj) (Q:Af->Aj->Prop) (E:Af->Aj->Prop),Q (.bool (g i j)) s->Az (Bb X.prog X.w) X.A (f (.int i t) (.int j u)) Q E s) :
  OpR X f (rI0 λi j=>.bl (g i j)):=by
 intro pins s σ H x y v u Q I rx ry h;obtain⟨i,j,rfl,rfl,q⟩:=h;obtain⟨t,rfl⟩:=rx;obtain⟨t',rfl⟩:=ry;exact rule i j t t' s _ _ ⟨.bl (g i j),H,I,rfl,q⟩
def CDiv (i j:Int):Prop:=0 < j/\j < 1073741824
def CPow (i j:Int):Prop:=0<=j/\j<=1000000/\i.natAbs < 2 ^ 64
def CMul (i j:Int):Prop:=(-(2 ^ 64) < i/\i < 2 ^ 64)\/(-(2 ^ 64) < j/\j < 2 ^ 64)
theorem CMul.ok {i j:Int} (h:CMul i j):IntMulOk i j:=by
 rcases h with⟨h1,h2⟩ | ⟨h1,h2⟩
 ·exact .of_left (intBits_le_64 h1 h2)
 ·exact .of_right (intBits_le_64 h1 h2)
theorem op_add:OpR X (Dr .Add) (rI0 λi j=>.int (i+j)):=opI0 λ_ _ _ _ _ _ _ q=>add_int q
theorem op_sub:OpR X (Dr .Sub) (rI0 λi j=>.int (i - j)):=opI0 λ_ _ _ _ _ _ _ q=>sub_int q
theorem jkq:OpR X (Dr .Mult) (rI CMul λi j=>.int (i*j)):=opI λ_ _ _ _ _ _ _ hc q=>mul_int q hc.ok
theorem ju5:OpR X (Dr .FloorDiv) (rI CDiv λi j=>.int (i / j)):=opI λi j _ _ _ _ _ hc q=>by
 have h1:(0:Int) < j:=hc.1;have h2:j < 1073741824:=hc.2;exact floordiv_int (by omega) (by rw[Int.fdiv_eq_ediv_of_nonneg i (by omega)];exact q) (.inl (PyProof.noPylong_small (by omega)))
theorem jgp:OpR X (Dr .Mod) (rI (λ_ j=>0 < j) λi j=>.int (i % j)):=opI λi j _ _ _ _ _ hc q=>by
 have h1:(0:Int) < j:=hc;exact mod_int' (by omega) (by rw[Int.fmod_eq_emod_of_nonneg i (by omega)];exact q)
theorem jza:OpR X (Dr .Pow) (rI CPow λi j=>.int (i ^ j.toNat)):=opI λ_ _ _ _ _ _ _ hc q=>pow_int_small hc.1 hc.2.1 hc.2.2 q
theorem unI {f:Af->Sem Af} {g:Int->Int}
  (rule:∀(i:Int) (t:Tok) (s:Aj) (Q:Af->Aj->Prop) (E:Af->Aj->Prop),Q (.int (g i) s.toks) {s with toks:=s.toks+1}->Az (Bb X.prog X.w) X.A (f (.int i t)) Q E s) :
  UnR X f (rU λi=>.int (g i)):=by
 intro pins s σ H x v Q I rx h;obtain⟨i,rfl,q⟩:=h;obtain⟨t,rfl⟩:=rx;exact rule i t s _ _ ⟨.int (g i),H,I.tok _,⟨_,rfl⟩,q⟩
theorem jyy:UnR X (unaryOp .USub) (rU λi=>.int (-i)):=unI λ_ _ _ _ _ q=>neg_int q
end
def scal:V->V->Bool
 |.non,.non=>true | .non,.int _=>true | .int _,.non=>true | .non,.bl _=>true | .bl _,.non=>true | .non,.str _=>true | .str _,.non=>true
 |.int _,.int _=>true | .bl _,.bl _=>true | .str _,.str _=>true | .byt _,.byt _=>true
 |.int _,.str _=>true | .str _,.int _=>true | .bl _,.str _=>true | .str _,.bl _=>true
 |_,_=>false
def rEq:R2:=λx y H Q=>scal x y=true/\Q (.bl (decide (x=y))) H
def rNe:R2:=λx y H Q=>scal x y=true/\Q (.bl (!decide (x=y))) H
theorem jvy {i j:Int}:decide (V.int i=V.int j)=(i==j):=by
 rw[En];simp
theorem jzo {i j:Bool}:decide (V.bl i=V.bl j)=(i==j):=by
 rw[En];simp
theorem jvx {i j:Str}:decide (V.str i=V.str j)=(i==j):=by
 rw[En];simp
theorem jvz {i j:Array UInt8}:decide (V.byt i=V.byt j)=(i.toList==j.toList):=by
 rw[En];cases i;cases j;simp
section
variable {X:Cx} {a b c:Expr} {ta tb tc:TE} {pos:Pos}
theorem jaz {pins:List (Addr×Obj)} {σ:St} {H:Hp} {s:Aj} {Q:VK} {k k':Bool} (I:Inv X pins σ H s) (q:Q (.bl k) H) (e:k=k'):EP X pins σ Q (.bool k') s:=by
 subst e;exact⟨.bl k,H,I,rfl,q⟩
theorem op_eq:OpR X (Bt .Eq) rEq:=by
 intro pins s σ H x y v u Q I rx ry h;obtain⟨hs,q⟩:=h;cases x with
 |non =>
  cases rx;cases y with
  |non=>cases ry;exact PySem.EqNone.eq_none_none (jaz I q (by simp))
  |bl j=>cases ry;exact PySem.EqNone.eq_none_bool (jaz I q (by simp))
  |int j=>obtain⟨t',rfl⟩:=ry;exact PySem.EqNone.eq_none_int (jaz I q (by simp))
  |str j=>obtain⟨t',rfl⟩:=ry;exact PySem.EqNone.eq_none_str (jaz I q (by simp))
  |_=>exact absurd (show false=true from hs) Al
 |bl i =>
  cases rx;cases y with
  |non=>cases ry;exact PySem.EqNone.eq_bool_none (jaz I q (by simp))
  |bl j=>cases ry;exact eq_bool (jaz I q jzo)
  |str j=>obtain⟨t',rfl⟩:=ry;exact PySem.EqMixed.eq_bool_str (jaz I q (by simp))
  |_=>exact absurd (show false=true from hs) Al
 |int i =>
  obtain⟨t,rfl⟩:=rx;cases y with
  |non=>cases ry;exact PySem.EqNone.eq_int_none (jaz I q (by simp))
  |int j=>obtain⟨t',rfl⟩:=ry;exact eq_int (jaz I q jvy)
  |str j=>obtain⟨t',rfl⟩:=ry;exact PySem.EqMixed.eq_int_str (jaz I q (by simp))
  |_=>exact absurd (show false=true from hs) Al
 |str i =>
  obtain⟨t,rfl⟩:=rx;cases y with
  |non=>cases ry;exact PySem.EqNone.eq_str_none (jaz I q (by simp))
  |bl j=>cases ry;exact PySem.EqMixed.eq_str_bool (jaz I q (by simp))
  |int j=>obtain⟨t',rfl⟩:=ry;exact PySem.EqMixed.eq_str_int (jaz I q (by simp))
  |str j=>obtain⟨t',rfl⟩:=ry;exact eq_str (jaz I q jvx)
  |_=>exact absurd (show false=true from hs) Al
 |byt i =>
  obtain⟨t,rfl⟩:=rx;cases y with
  |byt j=>obtain⟨t',rfl⟩:=ry;exact PySem.W.eq_bytes (jaz I q jvz)
  |_=>exact absurd (show false=true from hs) Al
 |_=>cases y<;>exact absurd (show false=true from hs) Al
theorem j6u:OpR X (Bt .NotEq) rNe:=by
 intro pins s σ H x y v u Q I rx ry h;obtain⟨hs,q⟩:=h;cases x with
 |non =>
  cases rx;cases y with
  |non=>cases ry;exact PySem.EqNone.ne_none_none (jaz I q (by simp))
  |bl j=>cases ry;exact PySem.EqNone.ne_none_bool (jaz I q (by simp))
  |int j=>obtain⟨t',rfl⟩:=ry;exact PySem.EqNone.ne_none_int (jaz I q (by simp))
  |str j=>obtain⟨t',rfl⟩:=ry;exact PySem.EqNone.ne_none_str (jaz I q (by simp))
  |_=>exact absurd (show false=true from hs) Al
 |bl i =>
  cases rx;cases y with
  |non=>cases ry;exact PySem.EqNone.ne_bool_none (jaz I q (by simp))
  |bl j=>cases ry;exact ne_bool (jaz I q (congrArg not jzo))
  |str j=>obtain⟨t',rfl⟩:=ry;exact PySem.EqMixed.ne_bool_str (jaz I q (by simp))
  |_=>exact absurd (show false=true from hs) Al
 |int i =>
  obtain⟨t,rfl⟩:=rx;cases y with
  |non=>cases ry;exact PySem.EqNone.ne_int_none (jaz I q (by simp))
  |int j=>obtain⟨t',rfl⟩:=ry;exact ne_int (jaz I q (congrArg not jvy))
  |str j=>obtain⟨t',rfl⟩:=ry;exact PySem.EqMixed.ne_int_str (jaz I q (by simp))
  |_=>exact absurd (show false=true from hs) Al
 |str i =>
  obtain⟨t,rfl⟩:=rx;cases y with
  |non=>cases ry;exact PySem.EqNone.ne_str_none (jaz I q (by simp))
  |bl j=>cases ry;exact PySem.EqMixed.ne_str_bool (jaz I q (by simp))
  |int j=>obtain⟨t',rfl⟩:=ry;exact PySem.EqMixed.ne_str_int (jaz I q (by simp))
  |str j=>obtain⟨t',rfl⟩:=ry;exact ne_str (jaz I q (congrArg not jvx))
  |_=>exact absurd (show false=true from hs) Al
 |byt i =>
  obtain⟨t,rfl⟩:=rx;cases y with
  |byt j=>obtain⟨t',rfl⟩:=ry;exact PySem.W.ne_bytes (jaz I q (congrArg not jvz))
  |_=>exact absurd (show false=true from hs) Al
 |_=>cases y<;>exact absurd (show false=true from hs) Al
theorem op_lt:OpR X (Bt .Lt) (rI0 λi j=>.bl (decide (i < j))):=opB0 λ_ _ _ _ _ _ _ q=>lt_int q
theorem op_le:OpR X (Bt .LtE) (rI0 λi j=>.bl (decide (i<=j))):=opB0 λ_ _ _ _ _ _ _ q=>le_int q
theorem op_gt:OpR X (Bt .Gt) (rI0 λi j=>.bl (decide (j < i))):=opB0 λ_ _ _ _ _ _ _ q=>gt_int q
theorem op_ge:OpR X (Bt .GtE) (rI0 λi j=>.bl (decide (j<=i))):=opB0 λ_ _ _ _ _ _ _ q=>ge_int q
theorem juz:OpR X (Bt .Lt) (λx y H Q=>∃i j,x=.str i/\y=.str j/\Q (.bl (decide (i.cps.toList < j.cps.toList))) H):=by
 intro pins s σ H x y v u Q I rx ry h;obtain⟨i,j,rfl,rfl,q⟩:=h;obtain⟨t,rfl⟩:=rx;obtain⟨t',rfl⟩:=ry;exact lt_str (jaz I q rfl)
theorem jzc:OpR X (Bt .Is) (λx y H Q=>y=.non/\Q (.bl (decide (x=.non))) H):=by
 intro pins s σ H x y v u Q I rx ry h;obtain⟨rfl,q⟩:=h;cases ry;refine is_none_gen (jaz I q ?_);cases x<;>first
  | (cases rx;rfl)
  | (obtain⟨t,rfl⟩:=rx;rfl)
theorem j1c:OpR X (Bt .IsNot) (λx y H Q=>y=.non/\Q (.bl (!decide (x=.non))) H):=by
 intro pins s σ H x y v u Q I rx ry h;obtain⟨rfl,q⟩:=h;cases ry;refine isnot_none_gen (jaz I q ?_);cases x<;>first
  | (cases rx;rfl)
  | (obtain⟨t,rfl⟩:=rx;rfl)
theorem OpR.or {f:Af->Af->Sem Af} {r r':R2} (h:OpR X f r) (h':OpR X f r'):OpR X f (λx y H Q=>r x y H Q\/r' x y H Q):=by
 intro pins s σ H x y v u Q I rx ry q;rcases q with q | q
 ·exact h pins s σ H x y v u Q I rx ry q
 ·exact h' pins s σ H x y v u Q I rx ry q
theorem jnu (b:Expr) {op:CmpOp} (h:op≠.In:=by decide) (h2:op≠.NotIn:=by decide):D0 op b=false:=by
 have e1:(op==CmpOp.In)=false:=by cases op<;>first | rfl | exact absurd rfl h
 have e2:(op==CmpOp.NotIn)=false:=by cases op<;>first | rfl | exact absurd rfl h2
 cases b<;>simp[D0,e1,e2]
theorem j05 {op:CmpOp} {r:R2} (ho:OpR X (Bt op) r) (ha:PE X a ta) (hb:PE X b tb) (hm:D0 op b=false):PE X (.Compare a [op] [b] pos) (tOp r ta tb):=by
 intro pins s σ H Q I h;exact wpAny_Compare1 (binT ha hb I h λv u s2 x y H2 I2 rx ry q=>ho pins s2 σ H2 x y v u Q I2 rx ry q) hm
def jpm (t:TE):TT:=λσ H Q=>t σ H λx H'=>∃k,x=.bl k/\Q k H'
theorem jf1 {op:CmpOp} {r:R2} (ho:OpR X (Bt op) r) (ha:PE X a ta) (hb:PE X b tb) (hm:D0 op b=false):PT X (.Compare a [op] [b] pos) (jpm (tOp r ta tb)):=by
 intro pins s σ H Q I h;refine wpAny_isTrue_Compare1 (thn (ha pins s σ H _ I h) λv s1 ⟨x,H1,I1,r1,q1⟩=>thn (hb pins s1 σ H1 _ I1 q1) λu s2 ⟨y,H2,I2,r2,q2⟩ =>
  thn (ho pins s2 σ H2 x y v u _ I2 r1 r2 q2) λc s3 ⟨z,H3,I3,r3,k,e,q3⟩=>?_) hm
 subst e;cases r3;exact C4 ⟨H3,I3,q3⟩
def jm4 (r r':R2) (ta tb tc:TE):TE:=λσ H Q=>ta σ H λx H1=>tb σ H1 λy H2=>r x y H2 λz H3=>∃k,z=.bl k /\
 (if k=true then tc σ H3 λw' H4=>r' y w' H4 Q else Q (.bl false) H3)
theorem jxn {op op':CmpOp} {r r':R2} (ho:OpR X (Bt op) r) (ho':OpR X (Bt op') r') (ha:PE X a ta) (hb:PE X b tb) (hc:PE X c tc)
  (hm:lastMarks [op,op'] [b,c]=false:=by with_unfolding_all rfl):PE X (.Compare a [op,op'] [b,c] pos) (jm4 r r' ta tb tc):=by
 intro pins s σ H Q I h;refine Compare_chain (thn (ha pins s σ H _ I h) λv s1 ⟨x,H1,I1,r1,q1⟩=>chain_link (thn (hb pins s1 σ H1 _ I1 q1) λu s2 ⟨y,H2,I2,r2,q2⟩ =>
  thn (ho pins s2 σ H2 x y v u _ I2 r1 r2 q2) λd s3 ⟨z,H3,I3,r3,k,e,q3⟩=>?_)) hm
 subst e;cases r3;refine C4 ?_;cases k with
 |false=>exact ite_ff ⟨.bl false,H3,I3,rfl,q3⟩
 |true=>exact ite_tt (chain_last (thn (hc pins s3 σ H3 _ I3 q3) λw' s4 ⟨z',H4,I4,r4,q4⟩=>ho' pins s4 σ H4 y z' u w' Q I4 r2 r4 q4))
theorem jxf {op op':CmpOp} {r r':R2} (ho:OpR X (Bt op) r) (ho':OpR X (Bt op') r') (ha:PE X a ta) (hb:PE X b tb) (hc:PE X c tc)
  (hm:lastMarks [op,op'] [b,c]=false:=by with_unfolding_all rfl):PT X (.Compare a [op,op'] [b,c] pos) (jpm (jm4 r r' ta tb tc)):=by
 intro pins s σ H Q I h;refine isTrue_chain (thn (ha pins s σ H _ I h) λv s1 ⟨x,H1,I1,r1,q1⟩=>test_link (thn (hb pins s1 σ H1 _ I1 q1) λu s2 ⟨y,H2,I2,r2,q2⟩ =>
  thn (ho pins s2 σ H2 x y v u _ I2 r1 r2 q2) λd s3 ⟨z,H3,I3,r3,k,e,q3⟩=>?_)) hm
 subst e;cases r3;refine C4 ?_;cases k with
 |false =>
  obtain⟨k',e',q'⟩:=q3;cases e';exact ite_ff ⟨H3,I3,q'⟩
 |true =>
  refine ite_tt (test_last (thn (hc pins s3 σ H3 _ I3 q3) λw' s4 ⟨z',H4,I4,r4,q4⟩=>thn (ho' pins s4 σ H4 y z' u w' _ I4 r2 r4 q4) λd' s5 ⟨z2,H5,I5,r5,k2,e2,q5⟩=>?_));subst e2;cases r5;exact C4 ⟨H5,I5,q5⟩
theorem jkt:(Ax:Nat) < 2 ^ 63:=by rw[E6];decide
theorem op_add_str:OpR X (Dr .Add) (λx y H Q=>∃i j,x=.str i/\y=.str j/\i.length+j.length<=Ax/\Q (.str (i++j)) H):=by
 intro pins s σ H x y v u Q I rx ry h;obtain⟨i,j,rfl,rfl,hz,q⟩:=h;obtain⟨t,rfl⟩:=rx;obtain⟨t',rfl⟩:=ry;exact add_str (λt' tk=>⟨.str (i++j),H,I.tok _,⟨_,rfl⟩,q⟩) hz
theorem jht {x:V} {us:List Af} (r:Vals [x] us):∃u,us=[u]/\RelV x u:=by
 cases r with
 |cons r1 r2=>cases r2;exact⟨_,rfl,r1⟩
theorem j53 {x y:V} {us:List Af} (r:Vals [x,y] us):∃u w',us=[u,w']/\RelV x u/\RelV y w':=by
 cases r with
 |cons r1 r2 =>
  cases r2 with
  |cons r3 r4=>cases r4;exact⟨_,_,rfl,r1,r3⟩
theorem joa:CallR X (.type "str") (λxs H Q=>∃i,xs=[.int i]/\i.natAbs.log2 < 1920/\Q (.str (toString i)) H):=by
 intro pins s σ H xs us Q I r h;obtain⟨i,rfl,hz,q⟩:=h;obtain⟨u,rfl,t,rfl⟩:=jht r;exact PySem.P.str_of_int hz ⟨.str _,H,I.tok _,⟨_,rfl⟩,q⟩
end
structure ObjM (h:Heap) (x dx C:Addr) (mA:Str->Option Af):Prop where
 obj:h.get? x=some (PySem.W.instObj C dx)
 ns:h.Ns1 dx mA
 ne:dx≠x
theorem jvd {h:Heap} {dx:Addr} {mA:Str->Option Af} (n:h.Ns1 dx mA):∃od,h.get? dx=some od/\∀name,PySem.W.lookIn name od=some (mA name):=by
 obtain⟨o,es,ep,ho,hd,hk,_,hm⟩:=n;refine⟨o,ho,λname=>?_⟩;have e:=hm name;unfold nsFind findBy at e;rw[<-Array.find?_toList]at e;unfold PySem.W.lookIn;rw[hd];dsimp only
 split
 ·rename_i y q;rw[q]at e;exact congrArg some e
 ·rename_i q;rw[q]at e;have a:es.toList.any (·.refKey)=false:=by
   rw[List.any_eq_false];intro y hy;obtain⟨z,t,hkey⟩:=hk y (Array.mem_toList_iff.mp hy);simp[DictEntry.refKey,hkey]
  have a':¬es.toList.any (·.refKey)=true:=by rw[a];exact Al
  rw[if_neg a'];exact congrArg some e
theorem ObjM.look {h:Heap} {x dx C:Addr} {mA:Str->Option Af} (I:ObjM h x dx C mA):∃od,PySem.W.InstAt h x (PySem.W.instObj C dx) C (some od)/\∀name,PySem.W.lookIn name od=some (mA name) :=
 let⟨od,ho,hl⟩:=jvd I.ns
 ⟨od,⟨I.obj,rfl,rfl,ho⟩,hl⟩
section
variable {P:Br} {w:B4} {H H':Hp} {h h':Heap} {a C dx:Addr} {fs fs':List (Str×V)}
theorem j1p (hok:HOk P w H h) (e:H a=some (.ins C dx fs)):∃mA,ObjM h a dx C mA/\(∀f,RelO (fs.lookup f) (mA f))/\PySem.Within mA (fs.map (·.1))/\fs.length<=1000/\H dx=some (.own a):=by
 obtain⟨d,z,ne,ob,mA,n,r,q⟩:=(show ObjOk P w H h a (.ins C dx fs)from hok a _ e);exact⟨mA,⟨ob,n,ne⟩,r,q,z,d⟩
end
structure Cls (K:Ag) (C:Addr):Prop where
 pg:PySem.W.plainGet K C Str.empty=true
 hd:PySem.W.hasDictIn K C=true
 po:PySem.W.plainOver K C=true
 sa:PySem.W.findIn K (.ref C) "__setattr__"=some (some (.builtin "object.__setattr__"))
theorem Cls.get {K:Ag} {C:Addr} (c:Cls K C) (f:Str):PySem.W.plainGet K C f=true:=c.pg
section
variable {X:Cx} {pins:List (Addr×Obj)} {σ:St} {H:Hp} {s:Aj} {A:B9} {E:Af->Aj->Prop} {Q:Af->Aj->Prop} {c:Af} {b:Bool}
inductive TyOf (K:Ag) (H:Hp):V->Af->Prop where
 |non:TyOf K H .non (.type "NoneType")
 |bl (x:Bool):TyOf K H (.bl x) (.type "bool")
 |int (i:Int):TyOf K H (.int i) (.type "int")
 |str (x:Str):TyOf K H (.str x) (.type "str")
 |flt (x:UInt64):TyOf K H (.flt x) (.type "float")
 |lst {a:Addr} {xs:List V} (e:H a=some (.lst xs)):TyOf K H (.ref a) (.type "list")
 |frz {a:Addr} {o:Obj} {xs:List V} (e:H a=some (.frz o (.lst xs))):TyOf K H (.ref a) (.type "list")
 |tup {a:Addr} {xs:List V} (e:H a=some (.tup xs)):TyOf K H (.ref a) (.type "tuple")
 |dK {a:Addr} {kvs:List (Key×V)} (e:H a=some (.dK kvs)):TyOf K H (.ref a) (.type "dict")
 |dT {a:Addr} {kvs:List (List Key×V)} (e:H a=some (.dT kvs)):TyOf K H (.ref a) (.type "dict")
 |ins {a C dx:Addr} {fs:List (Str×V)} (e:H a=some (.ins C dx fs)) (cl:Cls K C) (ha:PySem.W.findIn K (.ref C) "__class__"=some (some (.builtin "object.__class__")))
   (hn:PySem.W.specialIn K (.builtin "object.__class__") "__get__"=some (some (.builtin "getset_descriptor.__get__"))) (htk:PySem.W.takesIn K (.builtin "object.__class__")=some true)
   (hm:PySem.W.mroIn K C (.type "object")=some true):TyOf K H (.ref a) (.ref C)
theorem jvm {x:V} {u t:Af} (I:Inv X pins σ H s) (rx:RelV x u) (ty:TyOf X.K H x t) (e:PySem.W.kitOne X.K t c=some b) (h:∀tk,Q (.bool b) {s with toks:=tk}) :
  Az (Bb X.prog X.w) A (call (.builtin "isinstance") [u,c]) Q E s:=by
 cases ty with
 |non=>cases(show u=Bi from rx);exact C1 PySem.W.kitx_none I.kIn True.intro e (λz=>nomatch z) h
 |bl y=>cases(show u=Value.bool y from rx);exact C1 PySem.W.kitx_bool I.kIn True.intro e (λz=>nomatch z) h
 |int i=>obtain⟨t,q⟩:=(show ∃t,u=Value.int i t from rx);cases q;exact C1 PySem.W.kitx_int I.kIn True.intro e (λz=>nomatch z) h
 |str y=>obtain⟨t,q⟩:=(show ∃t,u=Value.str y t from rx);cases q;exact C1 PySem.W.kitx_str I.kIn True.intro e (λz=>nomatch z) h
 |flt y=>obtain⟨t,q⟩:=(show ∃t,u=Value.float y t from rx);cases q;exact C1 PySem.W.kitx_float I.kIn True.intro e (λz=>nomatch z) h
 |@lst a xs ea =>
  cases(show u=Cb a from rx);obtain⟨_,_,n,_,h1⟩:=(show ObjOk X.prog X.w H s.heap a (.lst xs)from I.hok a _ ea);exact C1 PySem.W.kitx_list I.kIn ⟨_,h1,rfl⟩ e (λz=>nomatch z) h
 |@frz a ob xs ea =>
  cases(show u=Cb a from rx);obtain⟨_,_,_,n,_,h1⟩:=(show ObjOk X.prog X.w H s.heap a (.frz ob (.lst xs))from I.hok a _ ea);exact C1 PySem.W.kitx_list I.kIn ⟨_,h1,rfl⟩ e (λz=>nomatch z) h
 |@tup a xs ea =>
  cases(show u=Cb a from rx);obtain⟨_,_,_,p⟩:=(show ObjOk X.prog X.w H s.heap a (.tup xs)from I.hok a _ ea);obtain⟨o,h1,h2,_⟩:=p;exact C1 PySem.W.kitx_tuple I.kIn ⟨o,h1,h2⟩ e (λz=>nomatch z) h
 |@dK a kvs ea =>
  cases(show u=Cb a from rx);obtain⟨_,_,vs,_,p⟩:=(show ObjOk X.prog X.w H s.heap a (.dK kvs)from I.hok a _ ea);obtain⟨o,es,ep,h1,h2,_⟩:=p;exact C1 PySem.W.kitx_dict I.kIn ⟨o,h1,h2.1⟩ e (λz=>nomatch z) h
 |@dT a kvs ea =>
  cases(show u=Cb a from rx);obtain⟨_,_,xs,_,o,es,ep,h1,h2,_⟩:=(show ObjOk X.prog X.w H s.heap a (.dT kvs)from I.hok a _ ea);exact C1 PySem.W.kitx_dict I.kIn ⟨o,h1,h2.1⟩ e (λz=>nomatch z) h
 |@ins a C dx fs ea cl ha hn htk hm =>
  cases(show u=Cb a from rx);obtain⟨mA,O,_⟩:=j1p I.hok ea;obtain⟨od,J,_⟩:=O.look;exact C1 (PySem.W.kitx_own (cl.get _) cl.hd ha hn htk hm) I.kIn J e (λz=>nomatch z) h
end
structure Room (k:Nat) (A:B9):Prop where
 hd:A.handled=none
 dp:A.depth+3*k+5 < recursionLimit
 un:A.units+16*k+200 < cLine
 gd:A.guards=some []
theorem Room.mono {j k:Nat} {A:B9} (r:Room k A) (h:j<=k):Room j A:=⟨r.hd,by have:=r.dp;omega,by have:=r.un;omega,r.gd⟩
theorem Room.deeper {k:Nat} {A:B9} (r:Room (k+1) A) (env:Env):Room k (A.deeper env) :=
 ⟨r.hd,by have:=r.dp;show A.depth+1+3*k+5 < _;omega,by have:=r.un;show A.units+3+16*k+200 < _;omega,r.gd⟩
theorem Room.depth {k:Nat} {A:B9} (r:Room k A):A.depth < recursionLimit:=by have:=r.dp;omega
theorem Room.units {k:Nat} {A:B9} (r:Room k A):A.units+64 < cLine:=by have:=r.un;omega
theorem Room.units0 {k:Nat} {A:B9} (r:Room k A):A.units < cLine:=by have:=r.un;omega
def tNil:TA:=λ_ H Q=>Q [] H
def jdi (ta:TE) (tr:TA):TA:=λσ H Q=>ta σ H λx H1=>tr σ H1 λxs H2=>Q (x::xs) H2
section
variable {X:Cx} {e:Expr} {es:List Expr} {te:TE} {t:TA} {pos:Pos}
theorem jcg:PA X [] tNil:=λ_ _ _ _ H Q I h=>Calls.spliced_nil ⟨[],H,I,.nil,h⟩
theorem ja0 (ha:PE X e te) (hr:PA X es t) (hs:A8 (e::es) X.env=(false,eval e X.env)::A8 es X.env:=by rfl):PA X (e::es) (jdi te t):=by
 intro pos pins s σ H Q I h;rw[hs];show Az _ _ (spliced ((false,eval e X.env)::Ek pos (A8 es X.env))) _ _ s;refine Calls.spliced_cons (thn (ha pins s σ H _ I h) λu s1 ⟨x,H1,I1,r1,q1⟩=>?_);exact thn (hr pos pins s1 σ H1 _ I1 q1) λus s2 ⟨xs,H2,I2,r2,q2⟩=>⟨x::xs,H2,I2,.cons r1 r2,q2⟩
def tTup (t:TA):TE:=λσ H Q=>t σ H λxs H1=>xs.length<=Ax/\∀p,H1 p=none->Q (.ref p) (upd H1 p (.tup xs))
def tLst (t:TA):TE:=λσ H Q=>t σ H λxs H1=>xs.length<=Ax/\∀p,H1 p=none->Q (.ref p) (upd H1 p (.lst xs))
theorem j3w {x1} (h:PA X es t):PE X (.Tuple es x1 pos) (tTup t):=by
 intro pins s σ H Q I hq;refine wpAny_Tuple_spliced (thn (h pos pins s σ H _ I hq) λus s1 ⟨xs,H1,I1,r,z,q⟩=>⟨by rw[<-r.length];exact z,?_⟩);have hf:H1 s1.heap.objs.size=none:=I1.hok.fresh (Ar _);refine⟨.ref s1.heap.objs.size,upd H1 s1.heap.objs.size (.tup xs),I1.laid (t':=s1.toks) (λb u e=>Ae _ e) (Ar _) ?_,rfl,q _ hf⟩;exact⟨z,us,r,IsTupP.new _ _⟩
theorem juv (h:PA X es t):PE X (.List es pos) (tLst t):=by
 intro pins s σ H Q I hq;refine wpAny_List_spliced (thn (h pos pins s σ H _ I hq) λus s1 ⟨xs,H1,I1,r,z,q⟩=>⟨by rw[<-r.length];exact z,?_⟩);have hf:H1 s1.heap.objs.size=none:=I1.hok.fresh (Ar _);refine⟨.ref s1.heap.objs.size,upd H1 s1.heap.objs.size (.lst xs),I1.laid (t':=s1.toks) (λb u e=>Ae _ e) (Ar _) ?_,rfl,q _ hf⟩;exact⟨z,us,0,r,As _ rfl⟩
end
abbrev Sp:=List V->Hp->VK->XK->Prop
abbrev CXT:=List Env->Hp->Aj->XK->Af->Aj->Prop
structure Env0 (P:Br) (w:B4) (K:Ag) (mg:Str->Option Af) (base:Heap) (A:B9) (outer:List Env) (s:Aj) (H:Hp):Prop where
 frames:A.frames=some outer
 mod:Mod K mg base
 bs:∀b o,base.get? b=some o->s.heap.get? b=some o/\H b=none
 bsz:base.objs.size<=s.heap.objs.size
 funs:s.heap.FunFrames base outer
 frf:∀b∈frs outer,H b=none
 hok:HOk P w H s.heap
 bare:AllBare s.gens
def CE (outer:List Env) (P:Br) (w:B4) (H:Hp) (s:Aj) (Q:VK) (u:Af) (s':Aj):Prop :=
 ∃v H',s'.os=s.os/\AllBare s'.gens/\Un (frs outer) [] H H' s.heap s'.heap/\HOk P w H' s'.heap/\RelV v u/\Q v H'
def CR (CX:CXT) (outer:List Env) (P:Br) (w:B4) (H:Hp) (s:Aj) (Q:VK) (E:XK) (r:Result) (s':Aj):Prop :=
 match r with
 |.ok (.ret u)=>CE outer P w H s Q u s'
 |.ok _=>False
 |.error e=>CX outer H s E e s'
structure FnOk (P:Br) (w:B4) (K:Ag) (mg:Str->Option Af) (base:Heap) (CX:CXT) (k:Nat) (f:Addr) (fd:C2) (ps:List Str) (sp:Sp):Prop where
 len:∀vs H Q E,sp vs H Q E->vs.length=ps.length
 run:∀(A:B9) (outer:List Env) (s:Aj) (H:Hp) (args:Args) (us:List Af) (vs:List V) (Q:VK) (E:XK),Room k A->Env0 P w K mg base A outer s H->BindsTo s fd args (ps.zip us)->Vals vs us->sp vs H Q E ->
  Fs (Bb P w) A (.call (.ref f) args) (CR CX outer P w H s Q E) s
theorem FnOk.imp {P:Br} {w:B4} {K:Ag} {mg:Str->Option Af} {base:Heap} {CX:CXT} {k:Nat} {f:Addr} {fd:C2} {ps:List Str} {sp sp':Sp} (F:FnOk P w K mg base CX k f fd ps sp)
  (h:∀vs H Q E,sp' vs H Q E->sp vs H Q E):FnOk P w K mg base CX k f fd ps sp' :=
 ⟨λvs H Q E q=>F.len vs H Q E (h _ _ _ _ q),λA outer s H args us vs Q E hr he hb hv hs=>F.run A outer s H args us vs Q E hr he hb hv (h _ _ _ _ hs)⟩
section
variable {X:Cx} {pins:List (Addr×Obj)} {σ:St} {H:Hp} {s s':Aj}
theorem Inv.env0 (I:Inv X pins σ H s):Env0 X.prog X.w X.K X.mg X.base X.A X.stack s H :=
 ⟨I.ok.frames,I.ok.mod,I.bs,Bw I.ok.bsz I.sz,I.stack,I.stkFree,I.hok,I.bare⟩
theorem Inv.after {Q:VK} {u:Af} (I:Inv X pins σ H s) (h:CE X.stack X.prog X.w H s Q u s'):EP X pins σ Q u s':=by
 obtain⟨v,H',os,bare,un,hok,r,q⟩:=h;obtain⟨hh,g,d,t,os'⟩:=s';obtain rfl:os'=s.os:=os;exact⟨v,H',I.call (h':=hh) (g':=g) (d':=d) (t':=t) (ch:=[]) un hok bare (λb z=>absurd z (by simp)),r,q⟩
end
def jpn (sp:Sp) (dvs:List V) (E:XK) (t:TA):TE:=λσ H Q=>t σ H λvs H1=>sp (vs++dvs) H1 Q E
def Binds (K:Ag) (fd:C2) (ps:List Str) (ds:List Af):Prop :=
 ∀(s:Aj) (us:List Af),K.In s.heap->(us++ds).length=ps.length->BindsTo s fd ⟨us,[]⟩ (ps.zip (us++ds))
theorem Binds.all {K:Ag} {fd:C2} {ps:List Str} (h:∀us:List Af,us.length=ps.length->bindArgs fd ⟨us,[]⟩=pure (ps.zip us)):Binds K fd ps []:=λs us _ hl=>by
 rw[B7]at hl ⊢;exact .of_eq (h us hl)
def jwm (CX:CXT) (X:Cx) (E:XK):Prop:=∀(pins:List (Addr×Obj)) (σ:St) (H:Hp) (s:Aj) (e:Af) (s':Aj),Inv X pins σ H s->CX X.stack H s E e s'->X.xe e s'
section
variable {X:Cx} {CX:CXT} {k:Nat} {f C:Addr} {fd:C2} {ps:List Str} {sp:Sp} {dvs:List V} {ds:List Af} {E:XK} {x m:Str} {p pos apos:Pos} {e o:Expr} {es:List Expr} {ta:TE} {t:TA}
theorem j3e {pins:List (Addr×Obj)} {σ:St} {H:Hp} {s:Aj} {Q:VK} {us:List Af} {vs:List V} (F:FnOk X.prog X.w X.K X.mg X.base CX k f fd ps sp) (hr:Room k X.A) (hb:Binds X.K fd ps ds) (hd:Vals dvs ds) (hx:jwm CX X E)
  (I:Inv X pins σ H s) (r:Vals vs us) (h:sp (vs++dvs) H Q E):Az (Bb X.prog X.w) X.A (call (.ref f) us) (EP X pins σ Q) X.xe s:=by
 have r2:Vals (vs++dvs) (us++ds):=r.append hd;have hl:(us++ds).length=ps.length:=by rw[<-r2.length];exact F.len _ _ _ _ h
 refine wpAny_call (codeAny_mono (F.run X.A X.stack s H ⟨us,[]⟩ (us++ds) (vs++dvs) Q E hr I.env0 (hb s us I.kIn hl) r2 h) λr s' hq=>?_);cases r with
 |error e=>exact hx pins σ H s e s' I hq
 |ok fl =>
  cases fl with
  |ret u=>exact I.after hq
  |next=>exact False.elim hq
  |brk=>exact False.elim hq
  |cont=>exact False.elim hq
theorem jux (F:FnOk X.prog X.w X.K X.mg X.base CX k f fd ps sp) (hr:Room k X.A) (hg:Gl X x) (hm:X.mg x=some (.ref f)) (hk:Cz X.K (.ref f)=true) (hb:Binds X.K fd ps ds) (hd:Vals dvs ds) (hx:jwm CX X E)
  (ha:PA X (e::es) t) (hdb:(x==("__debug__":Str))=false:=by decide) (he:A8 (e::es) X.env=(false,eval e X.env)::A8 es X.env:=by rfl) (hpl:(Ek pos (A8 es X.env)).any (·.1)=false:=by rfl) :
  PE X (.Call (.Name x p) (e::es) [] pos) (jpn sp dvs E t):=by
 intro pins s σ H Q I h;refine wpAny_Call_Name_kw (jvj I hg hm ?_ hdb);refine PySem.W.callWith_K (h₀:=X.base) I.ok.mod.kin hk (thn (ha pos pins s σ H _ I h) λus s1 ⟨vs,H1,I1,r,q⟩=>⟨I1.kIn,?_⟩) he hpl;exact j3e F hr hb hd hx I1 r q
end
structure FnScope (N P:List Str) (sc:Eo):Prop where
 kind:sc.kind=.function
 co:sc.isCoroutine=false
 gen:sc.isGenerator=false
 nd:N.Nodup
 pre:N.take P.length=P
 par:∀x∈P,sc.names.lookup x=some .local\/sc.names.lookup x=some .cell
 nofree:∀y∈sc.names,y.2≠.free
theorem joq {kindOf:Str->Option NameKind} {x:Str}:∀{binds:List (Str×Af)} {m:Str->Option Af},(∀v,(x,v)∉binds)->bindL kindOf binds m x=m x
 |[],_,_=>rfl
 | (n,v)::r,m,h=>by
  unfold bindL;rw[joq λw hw=>h w (A1 _ hw)]
  split
  ·have:x≠n:=by rintro rfl;exact h v A5
   simp[this]
  ·rfl
theorem jos {kindOf:Str->Option NameKind} {x:Str}:∀{binds:List (Str×Af)} {m:Str->Option Af},(∀v,(x,v)∉binds)->bindC kindOf binds m x=m x
 |[],_,_=>rfl
 | (n,v)::r,m,h=>by
  unfold bindC;rw[jos λw hw=>h w (A1 _ hw)]
  split
  ·rfl
  ·have:x≠n:=by rintro rfl;exact h v A5
   simp[this]
theorem jor {kindOf:Str->Option NameKind} {x:Str} {v:Af}:∀{P:List Str} {vs:List Af} {i:Nat} {m:Str->Option Af},P.Nodup->P[i]?=some x->vs[i]?=some v->kindOf x=some .local ->
  bindL kindOf (P.zip vs) m x=some v
 |[],_,_,_,_,h,_,_=>by simp at h
 |_::_,[],_,_,_,_,h,_=>by simp at h
 |p::P,w::vs,0,m,nd,h1,h2,hk=>by
  simp at h1 h2;subst h1;subst h2;show bindL kindOf ((p,w)::P.zip vs) m p=_;unfold bindL;rw[joq λv hv=>(Fc.mp nd).1 (List.of_mem_zip hv).1,if_pos hk];simp
 |p::P,w::vs,i+1,m,nd,h1,h2,hk=>by
  show bindL kindOf ((p,w)::P.zip vs) m x=_;unfold bindL;exact jor (i:=i) (Fc.mp nd).2 (by simpa using h1) (by simpa using h2) hk
theorem jot {kindOf:Str->Option NameKind} {x:Str} {v:Af}:∀{P:List Str} {vs:List Af} {i:Nat} {m:Str->Option Af},P.Nodup->P[i]?=some x->vs[i]?=some v->kindOf x≠some .local ->
  bindC kindOf (P.zip vs) m x=some v
 |[],_,_,_,_,h,_,_=>by simp at h
 |_::_,[],_,_,_,_,h,_=>by simp at h
 |p::P,w::vs,0,m,nd,h1,h2,hk=>by
  simp at h1 h2;subst h1;subst h2;show bindC kindOf ((p,w)::P.zip vs) m p=_;unfold bindC;rw[jos λv hv=>(Fc.mp nd).1 (List.of_mem_zip hv).1,if_neg hk];simp
 |p::P,w::vs,i+1,m,nd,h1,h2,hk=>by
  show bindC kindOf ((p,w)::P.zip vs) m x=_;unfold bindC;exact jot (i:=i) (Fc.mp nd).2 (by simpa using h1) (by simpa using h2) hk
def start (N:List Str) (vs:List V):St:=vs.map some++Av (N.length - vs.length) none
def cxOf (CX:CXT) (P:Br) (w:B4) (K:Ag) (mg:Str->Option Af) (base:Heap) (N:List Str) (qual:Str) (scope:Eo) (f:Addr) (cd:Af) (A:B9) (outer:List Env) (s:Aj) (H:Hp) (E:XK):Cx where
 prog:=P
 w:=w
 K:=K
 mg:=mg
 base:=base
 A:=A.deeper (envOfC qual scope s.heap.objs.size f cd)
 N:=N
 s₀:=s
 H₀:=H
 env:=envOfC qual scope s.heap.objs.size f cd
 outer:=outer
 stack:=envOfC qual scope s.heap.objs.size f cd::outer
 ex:=[]
 calm:=true
 fn:=λ_=>true
 pn:=[]
 xe:=λe s'=>Az (Bb P w) (A.deeper (envOfC qual scope s.heap.objs.size f cd)) (leaving (envOfC qual scope s.heap.objs.size f cd) e) (λ_ s''=>CX outer H s E e s'') (λe' s''=>CX outer H s E e' s'') s'
theorem jrk {sc:Eo} {n:Nat} {x:Str} (h:sc.names.lookup x=some .cell):∃c,(cellsFrom n sc.names []).lookup x=some c:=by
 have q:=PySem.W.cellsFrom_some sc.names n [] (.inl h);exact Option.isSome_iff_exists.mp q
theorem jvo {CX:CXT} {P:Br} {w:B4} {K:Ag} {mg:Str->Option Af} {base:Heap} {N ps:List Str} {qual:Str} {scope:Eo} {f:Addr} {cd:Af} {A:B9} {outer:List Env} {s s1:Aj} {H:Hp} {E:XK} {us:List Af} {vs:List V}
  (S:FnScope N ps scope) (hd:A.handled=none) (e0:Env0 P w K mg base A outer s H) (hl:vs.length=ps.length) (r:Vals vs us)
  (x:InCallC s s.heap.objs.size (bindL (envOfC qual scope s.heap.objs.size f cd).kindOf (ps.zip us) λ_=>none) (cellsFrom (s.heap.objs.size+1) scope.names []) (bindC (envOfC qual scope s.heap.objs.size f cd).kindOf (ps.zip us) λ_=>none) s1) :
  Inv (cxOf CX P w K mg base N qual scope f cd A outer s H E) [] (start N vs) H s1:=by
 have hpl:ps.length<=N.length:=by have:=congrArg List.length S.pre;rw[Ed]at this;omega
 obtain⟨h1,tk,rfl,hk⟩:=x.done;have noA:∀b:Addr,b∉(cxOf CX P w K mg base N qual scope f cd A outer s H E).ex:=λb z=>absurd (show b∈([]:List Addr)from z) (by simp);refine⟨⟨e0.mod,S.kind,rfl,rfl,Ar _,λy z c h1 h2=>?_,λy hy=>?_,λy c _ h=>?_,λ_=>hd,Around.frames_deeper e0.frames,.inr ⟨rfl,rfl⟩,λb z=>absurd z (noA b),e0.bs,e0.bsz,λb _ _=>noA b,λb z=>absurd z (noA b),e0.funs,e0.frf⟩,
  rfl,e0.bare,Un.kept hk,⟨_,x.toInCall.ns,λi y v h1 h2 h3=>?_⟩,λy c h=>⟨_,x.cell y c h⟩,e0.hok.fresh (Ar _),λy c h=>?_,λp hp=>absurd (show p∈([]:List (Addr×Obj))from hp) (by simp),e0.hok.kept hk,?_⟩
 ·exact name_of_addr x.apart (E2 h1) (E2 h2)
 ·have hy:scope.names.lookup y=some .cell\/scope.names.lookup y=some .free:=hy;rcases hy with hy | hy
  ·exact jrk hy
  ·exact absurd rfl (S.nofree _ (E2 hy))
 ·exact Nat.le_of_lt (x.above y c (E2 h))
 ·have hi:i < vs.length:=by
   unfold start at h2;by_cases hi:i < vs.length
   ·exact hi
   ·rw[List.getElem?_append_right (by simpa using hi)]at h2;rw[Ee]at h2
    split at h2<;>cases h2
  have ha:vs[i]?=some v:=by
   unfold start at h2;rw[F8 (by simpa using hi),Ba]at h2;cases e:vs[i]? with
   |none=>rw[e]at h2;cases h2
   |some a=>rw[e]at h2;cases h2;rfl
  obtain⟨u,hu,rv⟩:=r.get ha;have hp:ps[i]?=some y:=by
   rw[<-S.pre,List.getElem?_take_of_lt (by omega)];exact h1
  have ndP:ps.Nodup:=by rw[<-S.pre];exact S.nd.sublist (List.take_sublist _ _)
  refine⟨u,rv,?_⟩;rcases S.par y (Fw hp)with k | k
  ·exact .inl ⟨k,jor ndP hp hu k⟩
  ·obtain⟨c,e⟩:=jrk (n:=s.heap.objs.size+1) k;refine .inr ⟨.inl k,c,e,?_⟩;have q:=x.cell y c e;rw[jot ndP hp hu (by show scope.names.lookup y≠_;rw[k];decide)]at q;exact q
 ·exact e0.hok.fresh (Nat.le_of_lt (x.above y c (E2 h)))
 ·unfold start;show _=N.length;rw[Ak,Ai,List.length_replicate];omega
theorem j67 {CX:CXT} {P:Br} {w:B4} {K:Ag} {mg:Str->Option Af} {base:Heap} {k:Nat} {f:Addr} {name qual:Str} {params:Arguments} {body:List Stmt} {scope:Eo} {dV kV doc pm cdv ct oc:Af} {an od:Option Addr}
  {osl:Array (Option Af)} {N ps:List Str} {sp:Sp} (lk:K.lookup f=some ⟨oc,od,.func (Eu name qual params body scope dV kV doc pm an cdv ct),osl⟩) (hcd:PySem.W.codeIn K cdv qual=true) (S:FnScope N ps scope)
  (len:∀vs H Q E,sp vs H Q E->vs.length=ps.length)
  (hbody:∀(A:B9) (outer:List Env) (s:Aj) (H:Hp) (vs:List V) (Q:VK) (E:XK),Room k (A.deeper (envOfC qual scope s.heap.objs.size f cdv))->sp vs H Q E ->
   ∃t,PSs (cxOf CX P w K mg base N qual scope f cdv A outer s H E) body t/\t {nx:=λ_ H'=>Q .non H',rt:=Q} (start N vs) H) :
  FnOk P w K mg base CX (k+1) f (Eu name qual params body scope dV kV doc pm an cdv ct) ps sp:=by
 refine⟨len,λA outer s H args us vs Q E hr e0 hb r hsp=>?_⟩;have hl:=len _ _ _ _ hsp;have KX:K.In s.heap:=e0.mod.kin.keeps λb o e=>(e0.bs b o e).1;have lim:s.heap.NoLimit:=e0.mod.nolimit.keeps λb o e=>(e0.bs b o e).1;have hkind:∀y∈ps.zip us,scope.names.lookup y.1=some .local\/(scope.names.lookup y.1=some .cell/\((cellsFrom (s.heap.objs.size+1) scope.names []).lookup y.1).isSome=true):=λ⟨n,v⟩ hy=>by
  rcases S.par n (List.of_mem_zip hy).1 with q | q
  ·exact .inl q
  ·exact .inr ⟨q,PySem.W.cellsFrom_some _ _ _ (.inl q)⟩
 refine codeAny_call_function hr.depth (KX _ _ lk) rfl S.co S.gen rfl (PySem.W.codeRec_of KX hcd) (hb _ _ _ _ ?_);refine wpAny_newFunctionEnv_cells S.kind hkind λenv he s1 x=>?_;subst he;refine⟨lim.keeps x.toInCall.keep,codeAny_func ?_⟩;obtain⟨t,ht,hq⟩:=hbody A outer s H vs Q E (hr.deeper _) hsp;have I:Inv (cxOf CX P w K mg base N qual scope f cdv A outer s H E) [] (start N vs) H s1:=jvo S hr.hd e0 hl r x;refine Dw (ht [] s1 (start N vs) H _ I hq) (λfl s' hs=>?_) λe s' hs=>hs;have fin:∀{σ':St} {H':Hp} {v:V} {u:Af},Inv (cxOf CX P w K mg base N qual scope f cdv A outer s H E) [] σ' H' s'->RelV v u->Q v H'->CE outer P w H s Q u s' :=
  λ{σ' H' v u} J rv q=>⟨v,H',J.os,J.bare,J.base,J.hok,rv,q⟩
 cases fl with
 |ret u =>
  obtain⟨v,σ',H',J,rv,q⟩:=hs;exact fin J rv q
 |next =>
  obtain⟨σ',H',J,q⟩:=hs;exact fin (v:=V.non) (u:=Bi) J rfl q
 |brk =>
  obtain⟨_,_,_,q⟩:=hs;exact False.elim q
 |cont =>
  obtain⟨_,_,_,q⟩:=hs;exact False.elim q
section
variable {X:Cx} {x:Str} {p pos:Pos} {e:Expr} {es:List Expr} {t:TA} {id T:String} {r:List V->Hp->VK->Prop}
def tCB (r:List V->Hp->VK->Prop) (t:TA):TE:=λσ H Q=>t σ H λvs H1=>r vs H1 Q
theorem jeg (hc:CallR X (.builtin id) r) (hg:Gl X x) (hm:X.mg x=none) (hv:By x=some (.builtin id)) (ha:PA X (e::es) t) (hn:x≠"__name__":=by decide) (hdb:(x==("__debug__":Str))=false:=by decide)
  (he:A8 (e::es) X.env=(false,eval e X.env)::A8 es X.env:=by rfl) (hpl:(Ek pos (A8 es X.env)).any (·.1)=false:=by rfl):PE X (.Call (.Name x p) (e::es) [] pos) (tCB r t):=by
 intro pins s σ H Q I h;refine wpAny_Call_Name_kw (jku I hg hm hv ?_ hn hdb);exact PyProof.Rows.callWith_builtin1 (thn (ha pos pins s σ H _ I h) λus s1 ⟨vs,H1,I1,r1,q1⟩=>hc pins s1 σ H1 vs us Q I1 r1 q1) he hpl
theorem jh6 (hc:CallR X (.type T) r) (hg:Gl X x) (hm:X.mg x=none) (hv:By x=some (.type T)) (ha:PA X (e::es) t) (hn:x≠"__name__":=by decide) (hdb:(x==("__debug__":Str))=false:=by decide)
  (he:A8 (e::es) X.env=(false,eval e X.env)::A8 es X.env:=by rfl) (hpl:(Ek pos (A8 es X.env)).any (·.1)=false:=by rfl):PE X (.Call (.Name x p) (e::es) [] pos) (tCB r t):=by
 intro pins s σ H Q I h;refine wpAny_Call_Name_kw (jku I hg hm hv ?_ hn hdb);exact Eh (thn (ha pos pins s σ H _ I h) λus s1 ⟨vs,H1,I1,r1,q1⟩=>hc pins s1 σ H1 vs us Q I1 r1 q1) he hpl
end
end L2
namespace HT
open PySem PyProof.Rows
section
variable {prog:Br} {w:B4} {A:B9} {E:Af->Aj->Prop} {s:Aj}
theorem cat_tup {t b:Addr} {vs ws:List Af} {Q:Af->Aj->Prop} (ht:IsTup s.heap t vs.toArray) (hb:IsTup s.heap b ws.toArray) (hv:vs≠[])
  (h1:ws=[]->Q (.ref t) s) (h2:ws≠[]->Q (.ref s.heap.objs.size) {s with heap:=s.heap.push {cls:=.type "tuple",data:=.seq (vs++ws).toArray}})
  (hsz:vs.length+ws.length<=Ax):Az (Bb prog w) A (Dr .Add (.ref t) (.ref b)) Q E s:=by
 obtain⟨⟨cls,dd,data,sl⟩,ho,hc,n,hd⟩:=id ht;obtain⟨⟨cls2,dd2,data2,sl2⟩,ho2,hc2,n2,hd2⟩:=id hb;simp only at hc hd hc2 hd2;subst hc hd hc2 hd2;have e:vs.toArray++ws.toArray=(vs++ws).toArray:=by simp
 by_cases hw:ws=[]
 ·exact concat_meets ⟨_,ho,rfl⟩ ⟨_,ho2,rfl⟩ noFill_tuple_add seq_tuple_add Fd E8 (E3 _ _)
   (tuple_addW1 t b vs.toArray ws.toArray n n2 dd dd2 sl sl2 (by simpa using hv) (by simp[hw])) ⟨ho,ho2,h1 hw⟩
 ·refine concat_meets ⟨_,ho,rfl⟩ ⟨_,ho2,rfl⟩ noFill_tuple_add seq_tuple_add Fd E8 (E3 _ _)
   (tuple_addW2 t b vs.toArray ws.toArray n n2 dd dd2 sl sl2 (by simpa using hv) (by simpa using hw) (by rw[Aq,Aq];exact hsz)) ⟨ho,ho2,?_⟩
  rw[e];exact h2 hw
def sIx (n d:Nat):Option Int->Nat
 |none=>d
 |some v=>if v < 0 then(v+(n:Int)).toNat else min v.toNat n
theorem sIx_none (n d:Nat):sIx n d none=d:=rfl
theorem sIx_nat (n d k:Nat):sIx n d (some (k:Int))=min k n:=by
 show(if (k:Int) < 0 then((k:Int)+(n:Int)).toNat else min (k:Int).toNat n)=min k n;rw[if_neg (by omega),Bv]
theorem j3c (n d:Nat) (hd:d<=n) (o:Option Int):sIx n d o<=n:=by
 cases o with
 |none=>exact hd
 |some v =>
  show(if v < 0 then(v+(n:Int)).toNat else min v.toNat n)<=n;by_cases hv:v < 0
  ·rw[if_pos hv];omega
  ·rw[if_neg hv];exact Nat.min_le_right _ _
theorem jv7 (v:Int) (n d:Nat):(if v < 0 then max (v+(n:Int)) 0 else min v (n:Int))=((sIx n d (some v):Nat):Int):=by
 show(if v < 0 then max (v+(n:Int)) 0 else min v (n:Int))=(((if v < 0 then(v+(n:Int)).toNat else min v.toNat n):Nat):Int);by_cases hv:v < 0
 ·simp only[if_pos hv];omega
 ·simp only[if_neg hv];omega
theorem js1 (lo hi:Option Int) (n:Nat):C9 lo hi 1 (n:Int)=(((sIx n 0 lo:Nat):Int),((sIx n n hi:Nat):Int)):=by
 have h1:¬((1:Int) < 0):=by omega
 unfold C9;simp only[h1,if_false];refine Prod.ext ?_ ?_
 ·cases lo with
  |none=>rfl
  |some v=>exact jv7 v n 0
 ·cases hi with
  |none=>rfl
  |some v=>exact jv7 v n n
theorem jsi (i j:Nat):Cj (i:Int) (j:Int) 1=j - i:=by
 unfold Cj;have h1:(1:Int) > 0:=by omega
 simp only[h1,if_true,Int.ediv_one]
 split<;>omega
theorem jkn {v:Af} {o:Option Int} {Q:Option Int->Aj->Prop} (p:IsPart v o) (h:Q o s):Az (Bb prog w) A (Builtin.Slice.slicePartIndex v) Q E s:=by
 cases p with
 |none=>exact slicePart_none h
 |int i t=>exact slicePart_int h
theorem jde {sl:Addr} {vl vu:Af} {lo hi:Option Int} {n:Nat} {Q:Int×Int×Nat->Aj->Prop} (hs:s.heap.IsSliceOf sl vl vu .none) (pl:IsPart vl lo) (pu:IsPart vu hi)
  (h:Q (((sIx n 0 lo:Nat):Int),1,sIx n n hi - sIx n 0 lo) s):Az (Bb prog w) A (Ei (.ref sl) (pure (n:Int))) Q E s:=by
 obtain⟨os,hos,hcs,hds⟩:=id hs;unfold Ei Builtin.Slice.sliceFields;refine Aa (Aa (Ce hos hds (x:=vl) rfl (Aa (Ce hos hds (x:=vu) rfl (Aa (Ce hos hds (x:=.none) rfl (Ah ?_)))))));refine Aa (slicePart_none ?_);show Az _ _ (if ((1:Int)==0)=true then _ else _) _ _ s;rw[if_neg (by decide)];refine Aa (jkn pl (Aa (jkn pu (Aa (Ah ?_)))));show Az _ _ (match C9 lo hi 1 (n:Int)with | (lo,hi)=>pure (lo,(1:Int),Cj lo hi 1)) _ _ s;rw[js1 lo hi n];show Az _ _ (pure (((sIx n 0 lo:Nat):Int),(1:Int),Cj ((sIx n 0 lo:Nat):Int) ((sIx n n hi:Nat):Int) 1)) _ _ s;rw[jsi];exact Ah h
theorem jxj (xs:Array Af) (i k:Nat):((Bu k).filterMap λ(m:Nat)=>xs[((i:Int)+(m:Int)*1).toNat]?).toArray=((xs.toList.drop i).take k).toArray:=by
 have e:(λ(m:Nat)=>xs[((i:Int)+(m:Int)*1).toNat]?)=λm=>xs[i+m]?:=by
  funext m
  have:((i:Int)+(m:Int)*1).toNat=i+m:=by omega
  rw[this]
 rw[e];have:=pick_run xs i k;rw[List.filterMap_map]at this;have e2:((λx=>xs[x]?) ∘ λx=>i+x)=λm=>xs[i+m]?:=rfl;rw[e2]at this;rw[this]
theorem getItem_tuple_cut {t sl:Addr} {items:Array Af} {vl vu:Af} {lo hi:Option Int} {Q:Af->Aj->Prop} (ht:IsTup s.heap t items) (hs:s.heap.IsSliceOf sl vl vu .none) (pl:IsPart vl lo) (pu:IsPart vu hi)
  (hw:¬(sIx items.size 0 lo=0/\sIx items.size items.size hi=items.size))
  (h:Q (.ref s.heap.objs.size) {s with heap:=s.heap.push {cls:=.type "tuple",data:=.seq ((items.toList.drop (sIx items.size 0 lo)).take (sIx items.size items.size hi - sIx items.size 0 lo)).toArray}})
  (hsz:items.size<=Ax):Az (Bb prog w) A (getItem (.ref t) (.ref sl)) Q E s:=by
 have htake:sizeOk (.seq ((items.toList.drop (sIx items.size 0 lo)).take (sIx items.size items.size hi - sIx items.size 0 lo)).toArray):=by
  show((items.toList.drop (sIx items.size 0 lo)).take (sIx items.size items.size hi - sIx items.size 0 lo)).toArray.size<=Ax;rw[Aq,Ed,List.length_drop,Cq];omega
 have hj:sIx items.size items.size hi<=items.size:=j3c _ _ (Ar _) hi;obtain⟨os,hos,hcs,hds⟩:=id hs;have hTs:s.TypeIs (.ref sl) "slice":=⟨os,hos,hcs⟩;unfold getItem
 try with_reducible refine C6 ?_
 first | refine Aa (Ah ?_) | skip
 refine Aa (wpAny_sequenceKey ht.typeIs (by decide) ?_);refine Aa (Bs (name:=Cm "__getitem__") ht.typeIs Cr
  (B1 Cr ht.typeIs entry_tuple_getitem ?_ (args_tuple_getitem _ _)))
 show Az _ _ (Dn (.ref t)>>=_) _ _ s;refine Aa (tupleItemsOf_ ht ?_);refine Aa (Fp hTs ?_);rw[if_pos (by decide)];refine Aa (jde hs pl pu ?_);have hno:¬((((sIx items.size 0 lo:Nat):Int)==0&&(1:Int)==1&&(sIx items.size items.size hi - sIx items.size 0 lo)==items.size)=true):=by
  intro q;rw[Ap,Ap]at q;have q1:((sIx items.size 0 lo:Nat):Int)=0:=eq_of_beq q.1.1;have q2:sIx items.size items.size hi - sIx items.size 0 lo=items.size:=eq_of_beq q.2;exact hw ⟨by omega,by omega⟩
 show Az _ _ (if (((sIx items.size 0 lo:Nat):Int)==0&&(1:Int)==1&&(sIx items.size items.size hi - sIx items.size 0 lo)==items.size)=true then _ else _) _ _ s;rw[if_neg hno,jxj]
 first
  |exact Aa (m:=Co _) (Bm (Ah ⟨_,rfl,Ah h⟩) htake)
  |exact Aa (m:=Co _) (Bm (Aa (Ah (Ah ⟨_,rfl,Ah h⟩))) htake)
  |exact Aa (Aa (m:=Co _) (Bm (Ah (Ah ⟨_,rfl,Ah h⟩)) htake))
  |exact Aa (Aa (m:=Co _) (Bm (Ah ⟨_,rfl,Ah h⟩) htake))
end
end HT
namespace L2
open PySem PySem.Spec PyProof.Rows
abbrev TO:=St->Hp->(Option Int->Hp->Prop)->Prop
def PO (X:Cx) (e:Option Expr) (t:TO):Prop :=
 ∀(pins:List (Addr×Obj)) (s:Aj) (σ:St) (H:Hp) (Q:Option Int->Hp->Prop),Inv X pins σ H s->t σ H Q ->
  Az (Bb X.prog X.w) X.A (evalPart e X.env) (λu s'=>∃o H',Inv X pins σ H' s'/\IsPart u o/\Q o H') X.xe s
def jto:TO:=λ_ H Q=>Q none H
def j2p (t:TE):TO:=λσ H Q=>t σ H λx H1=>∃i,x=.int i/\Q (some i) H1
section
variable {X:Cx} {e:Expr} {te:TE} {lo hi:Option Expr} {tl th:TO} {pos p2:Pos}
theorem juq:PO X none jto:=by
 intro pins s σ H Q I h;rw[evalPart_none];exact Ah ⟨none,H,I,.none,h⟩
theorem jup (h:PE X e te):PO X (some e) (j2p te):=by
 intro pins s σ H Q I hw;rw[evalPart_some];refine thn (h pins s σ H _ I hw) λu s1 ⟨x,H1,I1,r1,q1⟩=>?_;obtain⟨i,rfl,q⟩:=q1;obtain⟨t,rfl⟩:=r1;exact⟨some i,H1,I1,.int i t,q⟩
def SlR (X:Cx) (r:V->Option Int->Option Int->Hp->VK->Prop):Prop :=
 ∀(pins:List (Addr×Obj)) (s:Aj) (σ:St) (H:Hp) (x:V) (v vl vu:Af) (lo hi:Option Int) (sl:Addr) (Q:VK),Inv X pins σ H s->RelV x v->s.heap.IsSliceOf sl vl vu .none->IsPart vl lo->IsPart vu hi->r x lo hi H Q ->
  ∃T id,typeLookup (.type T) "__getitem__"=pure (some (.builtin id))/\s.TypeIs v T/\Az (Bb X.prog X.w) X.A (getItem v (.ref sl)) (EP X pins σ Q) X.xe s
theorem SlR.or {r r':V->Option Int->Option Int->Hp->VK->Prop} (h:SlR X r) (h':SlR X r'):SlR X (λx lo hi H Q=>r x lo hi H Q\/r' x lo hi H Q):=by
 intro pins s σ H x v vl vu lo hi sl Q I rx hs pl pu q;rcases q with q | q
 ·exact h pins s σ H x v vl vu lo hi sl Q I rx hs pl pu q
 ·exact h' pins s σ H x v vl vu lo hi sl Q I rx hs pl pu q
def tSl (r:V->Option Int->Option Int->Hp->VK->Prop) (te:TE) (tl th:TO):TE:=λσ H Q=>te σ H λx H1=>tl σ H1 λl H2=>th σ H2 λu H3=>r x l u H3 Q
theorem jq6 {r:V->Option Int->Option Int->Hp->VK->Prop} (hr:SlR X r) (he:PE X e te) (hl:PO X lo tl) (hu:PO X hi th):PE X (.Subscript e (.Slice lo hi none p2) pos) (tSl r te tl th):=by
 intro pins s σ H Q I h;refine Subscript_ (thn (he pins s σ H _ I h) λv s1 ⟨x,H1,I1,r1,q1⟩=>?_);refine wpAny_Slice (thn (hl pins s1 σ H1 _ I1 q1) λvl s2 ⟨l,H2,I2,pl,q2⟩=>thn (hu pins s2 σ H2 _ I2 q2) λvu s3 ⟨u,H3,I3,pu,q3⟩=>?_);rw[evalPart_none];refine Ah ?_;have I4:Inv X pins σ H3 {s3 with heap:=s3.heap.push {cls:=.type "slice",data:=.fields #[vl,vu,.none]}}:=I3.kept (t':=s3.toks) λb ob q=>Ae _ q;obtain⟨T,id,hT,ht,hg⟩:=hr pins {s3 with heap:=s3.heap.push {cls:=.type "slice",data:=.fields #[vl,vu,.none]}} σ H3 x v vl vu l u s3.heap.objs.size Q I4 r1 (Heap.IsSliceOf.new ..) pl pu q3;show Az (Bb X.prog X.w) X.A (subscriptTail e (.Slice lo hi none p2) v (.ref s3.heap.objs.size)) (EP X pins σ Q) X.xe {s3 with heap:=s3.heap.push {cls:=.type "slice",data:=.fields #[vl,vu,.none]}};exact tail_any (ops:=[.ref s3.heap.objs.size,v]) ht hT hg (by with_unfolding_all rfl)
def cutV (xs:List V) (lo hi:Option Int):List V:=(xs.drop (HT.sIx xs.length 0 lo)).take (HT.sIx xs.length xs.length hi - HT.sIx xs.length 0 lo)
theorem jfa (xs:List V) (lo hi:Option Int):(cutV xs lo hi).length<=xs.length:=by
 unfold cutV;rw[Ed,List.length_drop];omega
def rSlT (K:Ag):V->Option Int->Option Int->Hp->VK->Prop:=λx lo hi H Q=>∃a xs,x=.ref a/\SqT K H a xs /\
 ¬(HT.sIx xs.length 0 lo=0/\HT.sIx xs.length xs.length hi=xs.length)/\∀p,H p=none->Q (.ref p) (upd H p (.tup (cutV xs lo hi)))
theorem sl_tup:SlR X (rSlT X.K):=by
 intro pins s σ H x v vl vu lo hi sl Q I rx hs pl pu h;obtain⟨a,xs,rfl,hx,hw,q⟩:=h;cases rx;obtain⟨its,r,ht,hz⟩:=I.tuple hx;have hlen:its.toArray.size=xs.length:=by rw[Aq];exact r.length.symm
 refine⟨"tuple",_,PyProof.Rows.slot_tuple_getitem.lookup,ht.typeIs,?_⟩;refine HT.getItem_tuple_cut ht hs pl pu (by rw[hlen];exact hw) ?_ (by rw[hlen];exact hz);rw[hlen];refine⟨.ref s.heap.objs.size,_,I.laid (t':=s.toks) (o:=.tup (cutV xs lo hi)) (λb ob q=>Ae _ q) (Ar _) ?_,rfl,q _ (I.hok.fresh (Ar _))⟩;exact⟨Bw (jfa xs lo hi) hz,_,(r.drop (HT.sIx xs.length 0 lo)).take (HT.sIx xs.length xs.length hi - HT.sIx xs.length 0 lo),IsTupP.new _ _⟩
def j3l (K:Ag):R2:=λx y H Q=>∃a b xs ys,x=.ref a/\y=.ref b/\SqT K H a xs/\SqT K H b ys/\xs≠[]/\xs.length+ys.length<=Ax /\
 (ys=[]->Q (.ref a) H)/\(ys≠[]->∀p,H p=none->Q (.ref p) (upd H p (.tup (xs++ys))))
theorem Vals.nil_iff {xs:List V} {us:List Af} (r:Vals xs us):us=[]↔xs=[]:=by
 cases r with
 |nil=>simp
 |cons _ _=>simp
theorem op_catT:OpR X (Dr .Add) (j3l X.K):=by
 intro pins s σ H x y v u Q I rx ry h;obtain⟨a,b,xs,ys,rfl,rfl,ha,hb,hx,hz,q1,q2⟩:=h;cases rx;cases ry;obtain⟨its,r1,p1,_⟩:=I.tuple ha;obtain⟨its2,r2,p2,_⟩:=I.tuple hb;refine HT.cat_tup p1 p2 (λz=>hx (r1.nil_iff.mp z)) (λz=>⟨.ref a,H,I,rfl,q1 (r2.nil_iff.mp z)⟩) (λz=>?_) (by rw[<-r1.length,<-r2.length];exact hz);refine⟨.ref s.heap.objs.size,_,I.laid (t':=s.toks) (o:=.tup (xs++ys)) (λb ob q=>Ae _ q) (Ar _) ?_,rfl,q2 (λw=>z (r2.nil_iff.mpr w)) _ (I.hok.fresh (Ar _))⟩;exact⟨by rw[Ak];exact hz,_,r1.append r2,IsTupP.new _ _⟩
end
def ixN (n:Nat) (i:Int):Option Nat:=if 0<=i then(if i < n then some i.toNat else none)else if -(n:Int)<=i then some (i+n).toNat else none
def atI {α:Type} (xs:List α) (i:Int):Option α:=(ixN xs.length i).bind λj=>xs[j]?
theorem jvl {n:Nat} {i:Int} {j:Nat} (h:ixN n i=some j):seqIndex? i n=some j/\j < n/\-(n:Int)<=i/\i < n:=by
 unfold ixN at h;by_cases h0:0<=i
 ·rw[if_pos h0]at h;by_cases h1:i < n
  ·rw[if_pos h1]at h;have e:i.toNat=j:=Bo h;exact⟨by rw[seqIndex_of h0 h1,e],by omega,by omega,h1⟩
  ·rw[if_neg h1]at h;cases h
 ·rw[if_neg h0]at h;by_cases h1:-(n:Int)<=i
  ·rw[if_pos h1]at h;have e:(i+n).toNat=j:=Bo h;exact⟨by rw[seqIndex_neg (by omega) h1,e],by omega,h1,by omega⟩
  ·rw[if_neg h1]at h;cases h
theorem jqp {α:Type} {xs:List α} {i:Int} {v:α} (h:atI xs i=some v):∃j,seqIndex? i xs.length=some j/\xs[j]?=some v/\j < xs.length/\-(xs.length:Int)<=i/\i < xs.length:=by
 unfold atI at h;cases e:ixN xs.length i with
 |none=>rw[e]at h;cases h
 |some j =>
  rw[e]at h;obtain⟨h1,h2,h3,h4⟩:=jvl e;exact⟨j,h1,h,h2,h3,h4⟩
theorem jbs {α:Type} {xs:List α} {j:Nat} {v:α} (h:xs[j]?=some v):atI xs (j:Int)=some v:=by
 have hj:j < xs.length:=(Bp.mp h).1;have e:ixN xs.length (j:Int)=some j:=by
  unfold ixN;rw[if_pos (by omega),if_pos (by omega)];simp
 unfold atI;rw[e];exact h
def jmt (b:Expr):Prop:=∀o i,subscripted b false o i=operate [o,i] (getItem o i)
def IxR (X:Cx) (r:R2):Prop :=
 ∀(value slice:Expr) (pins:List (Addr×Obj)) (s:Aj) (σ:St) (H:Hp) (x y:V) (v u:Af) (Q:VK),Inv X pins σ H s->RelV x v->RelV y u->r x y H Q ->
  subscripted slice false v u=operate [v,u] (getItem v u)->Az (Bb X.prog X.w) X.A (subscriptTail value slice v u) (EP X pins σ Q) X.xe s
def MtR (X:Cx) (id:String) (r:V->List V->Hp->VK->Prop):Prop :=
 ∀(pins:List (Addr×Obj)) (s:Aj) (σ:St) (H:Hp) (x:V) (xs:List V) (v:Af) (us:List Af) (Q:VK),Inv X pins σ H s->RelV x v->Vals xs us->r x xs H Q ->
  Az (Bb X.prog X.w) X.A (call (.builtin id) (v::us)) (EP X pins σ Q) X.xe s
section
variable {X:Cx} {a b:Expr} {ta tb:TE} {pos:Pos}
theorem IxR.or {r r':R2} (h:IxR X r) (h':IxR X r'):IxR X (λx y H Q=>r x y H Q\/r' x y H Q):=by
 intro value slice pins s σ H x y v u Q I rx ry q hs;rcases q with q | q
 ·exact h value slice pins s σ H x y v u Q I rx ry q hs
 ·exact h' value slice pins s σ H x y v u Q I rx ry q hs
theorem jha {r:R2} (hr:IxR X r) (ha:PE X a ta) (hb:PE X b tb) (hs:jmt b):PE X (.Subscript a b pos) (tOp r ta tb):=by
 intro pins s σ H Q I h;exact Subscript_ (binT ha hb I h λv u s2 x y H2 I2 rx ry q=>hr a b pins s2 σ H2 x y v u Q I2 rx ry q (hs _ _))
def rIxL (K:Ag):R2:=λx y H Q=>∃p xs i v,x=.ref p/\y=.int i/\SqL K H p xs/\atI xs i=some v/\Q v H
def rIxT (K:Ag):R2:=λx y H Q=>∃p xs i v,x=.ref p/\y=.int i/\SqT K H p xs/\atI xs i=some v/\Q v H
def rIxS:R2:=λx y H Q=>∃z i c,x=.str z/\y=.int i/\z.length<=Ax/\atI z.cps.toList i=some c/\Q (.str ⟨#[c]⟩) H
theorem ix_list:IxR X (rIxL X.K):=by
 intro value slice pins s σ H x y v u Q I rx ry h hs;obtain⟨p,xs,i,z,rfl,rfl,hq,he,q⟩:=h;cases rx;obtain⟨t,rfl⟩:=ry;obtain⟨its,r,pl,hz⟩:=I.list hq;obtain⟨j,h1,h2,h3,h4,h5⟩:=jqp he;obtain⟨w,ew,rw'⟩:=r.get h2;have hl:=r.length;have hn:=jkt;have fin:EP X pins σ Q w s:=⟨z,H,I,rw',q⟩;by_cases h0:0<=i
 ·have hj:i.toNat=j:=by
   rw[seqIndex_of h0 h5]at h1;exact Bo h1
  exact item_listR pl.isList h0 (by omega) (by rw[hj];simpa using ew) fin hs
 ·have hj:(i+(its.toArray.size:Int)).toNat=j:=by
   rw[seqIndex_neg (by omega) h4]at h1;rw[Aq,<-hl];exact Bo h1
  exact subscriptTail_builtinR (x:=w) pl.isList.typeIs slot_list_getitem.lookup
   (wpAny_getItem_list_neg (Q:=λr s'=>r=w/\EP X pins σ Q r s') pl.isList (by omega) (by rw[Aq]<;>omega) (by omega) (by rw[hj];simpa using ew) ⟨rfl,fin⟩) hs
theorem ix_tup:IxR X (rIxT X.K):=by
 intro value slice pins s σ H x y v u Q I rx ry h hs;obtain⟨p,xs,i,z,rfl,rfl,hq,he,q⟩:=h;cases rx;obtain⟨t,rfl⟩:=ry;obtain⟨its,r,pl,hz⟩:=I.tuple hq;obtain⟨j,h1,h2,h3,h4,h5⟩:=jqp he;obtain⟨w,ew,rw'⟩:=r.get h2;have hl:=r.length;have hn:=jkt;have fin:EP X pins σ Q w s:=⟨z,H,I,rw',q⟩;exact subscriptTail_builtinR (x:=w) pl.typeIs slot_tuple_getitem.lookup
  (getItem_tuple (j:=j) (Q:=λr s'=>r=w/\EP X pins σ Q r s') pl (by omega) (by omega) (by rw[Aq,<-hl];exact h1) (by simpa using ew) ⟨rfl,fin⟩) hs
theorem j4k:IxR X rIxS:=by
 intro value slice pins s σ H x y v u Q I rx ry h hs;obtain⟨z,i,c,rfl,rfl,hz,he,q⟩:=h;obtain⟨t,rfl⟩:=rx;obtain⟨t',rfl⟩:=ry;obtain⟨j,h1,h2,h3,h4,h5⟩:=jqp he;have hl:z.cps.toList.length=z.length:=by simp[Str.length]
 rw[hl]at h1 h4 h5;have hn:=jkt;exact tail_any (typeIs_str s z t) slot_str_getitem.lookup (getItem_str (c:=c) (by
  have e1:decide (i < -(2 ^ 63:Int))=false:=decide_eq_false (by omega);have e2:decide (i ≥ 2 ^ 63)=false:=decide_eq_false (by omega);rw[e1,e2,Bool.or_false]) (by rw[h1];simpa using h2) ⟨.str ⟨#[c]⟩,H,I.tok _,⟨_,rfl⟩,q⟩) hs
def rIx (K:Ag):R2:=λx y H Q=>rIxL K x y H Q\/rIxT K x y H Q\/rIxS x y H Q
theorem jvk:IxR X (rIx X.K):=ix_list.or (ix_tup.or j4k)
theorem jsl (its:List Af) (n j:Nat) (u:Af):Cs (·.setIfInBounds j u) {cls:=.type "list",data:=.seq its.toArray n}={ cls:=.type "list",data:=.seq (its.set j u).toArray n}:=by
 simp[Cs]
theorem Inv.lst {pins:List (Addr×Obj)} {σ:St} {H:Hp} {s:Aj} {p:Addr} {xs:List V} (I:Inv X pins σ H s) (h:H p=some (.lst xs)) :
  ∃(its:List Af) (n:Nat),Vals xs its/\s.heap.get? p=some {cls:=.type "list",data:=.seq its.toArray n}/\xs.length<=Ax:=by
 obtain⟨z,its,n,r,e⟩:=I.hok p _ h;exact⟨its,n,r,e,z⟩
theorem Inv.lstUpd {pins:List (Addr×Obj)} {σ:St} {H:Hp} {s:Aj} {p:Addr} {xs ys:List V} {its its':List Af} {n n':Nat} {f:Obj->Obj} (I:Inv X pins σ H s) (h:H p=some (.lst xs))
  (ho:s.heap.get? p=some {cls:=.type "list",data:=.seq its.toArray n}) (hf:f {cls:=.type "list",data:=.seq its.toArray n}={ cls:=.type "list",data:=.seq its'.toArray n'}) (r:Vals ys its') (hz:ys.length<=Ax) (t:Nat) :
  Inv X pins σ (upd H p (.lst ys)) {s with heap:=s.heap.update p f,toks:=t}:=by
 have e:(s.heap.update p f).get? p=some {cls:=.type "list",data:=.seq its'.toArray n'}:=by
  rw[Bx f ho (by rw[hf]<;>rfl),hf]
 refine I.write (x:=p) (e:=p) (by rw[h];trivial) (.inl rfl) (λb u hb q=>(Dv _ _ (Ne.symm hb)).trans q) ⟨_,e⟩ ?_;exact⟨hz,its',n',r,e⟩
def j3i:V->V->V->Hp->(Hp->Prop)->Prop:=λo i v H Q=>∃p xs k j,o=.ref p/\i=.int k/\H p=some (.lst xs)/\ixN xs.length k=some j/\Q (upd H p (.lst (xs.set j v)))
theorem jhn:PSet X j3i:=by
 intro pins s σ H o i v ov iv u Q I ro ri rv h;obtain⟨p,xs,k,j,rfl,rfl,hp,hj,q⟩:=h;cases ro;obtain⟨t,rfl⟩:=ri;obtain⟨its,n,r,ho,hz⟩:=I.lst hp;obtain⟨h1,h2,h3,h4⟩:=jvl hj;have hl:=r.length;have hn:=jkt;have I':Inv X pins σ (upd H p (.lst (xs.set j v))) {s with heap:=s.heap.update p (Cs (·.setIfInBounds j u))} :=
  I.lstUpd hp ho (jsl its n j u) (r.set rv j) (by rw[Df];exact hz) s.toks
 by_cases h0:0<=k
 ·have hk:k.toNat=j:=by
   rw[seqIndex_of h0 h4]at h1;exact Bo h1
  exact PySem.W.ki_setAt ho h0 (by omega) (by rw[Aq,<-hl];exact h4) (by rw[hk];exact⟨_,I',q⟩)
 ·have hk:(k+(its.toArray.size:Int)).toNat=j:=by
   rw[seqIndex_neg (by omega) h3]at h1;rw[Aq,<-hl];exact Bo h1
  exact PySem.W.ki_setBack ho (by omega) (by rw[Aq,<-hl];exact h3) (by omega) (by rw[hk];exact⟨_,I',q⟩)
theorem jng (lo hi:Option Int) (n:Nat):(F2 lo hi none n).1=((HT.sIx n 0 lo:Nat):Int)/\(F2 lo hi none n).2.1=((HT.sIx n n hi:Nat):Int)/\(F2 lo hi none n).2.2=1:=by
 refine⟨?_,?_,rfl⟩
 ·cases lo with
  |none=>simp[F2,HT.sIx]
  |some i =>
   simp only[F2,HT.sIx,Option.getD_none,show(1:Int) > 0 by decide,if_true];by_cases h:i < 0
   ·simp only[h,if_true]<;>omega
   ·simp only[h,if_false]<;>omega
 ·cases hi with
  |none=>simp[F2,HT.sIx]
  |some i =>
   simp only[F2,HT.sIx,Option.getD_none,show(1:Int) > 0 by decide,if_true];by_cases h:i < 0
   ·simp only[h,if_true]<;>omega
   ·simp only[h,if_false]<;>omega
theorem jlm (its:List Af) (lo hi:Option Int):slicePick its.toArray lo hi none=((its.drop (HT.sIx its.length 0 lo)).take (HT.sIx its.length its.length hi - HT.sIx its.length 0 lo)).toArray:=by
 obtain⟨h1,h2,h3⟩:=jng lo hi its.toArray.size;unfold slicePick;rw[h1,h2,h3];simp only[sliceRange_one,pick_run,Aq]<;>rfl
def rSlL (K:Ag):V->Option Int->Option Int->Hp->VK->Prop:=λx lo hi H Q=>∃a xs,x=.ref a/\SqL K H a xs/\∀p,H p=none->Q (.ref p) (upd H p (.lst (cutV xs lo hi)))
theorem j0o:SlR X (rSlL X.K):=by
 intro pins s σ H x v vl vu lo hi sl Q I rx hs pl pu h;obtain⟨a,xs,rfl,hx,q⟩:=h;cases rx;obtain⟨its,r,ht,hz⟩:=I.list hx;have hlen:=r.length;refine⟨"list",_,slot_list_getitem.lookup,ht.isList.typeIs,?_⟩;refine wpAny_getItem_list_slice ht.isList hs pl pu .none (by simp) ?_ (by rw[Aq]<;>omega);rw[jlm,<-hlen];refine⟨.ref s.heap.objs.size,_,I.laid (t':=s.toks) (o:=.lst (cutV xs lo hi)) (λb ob q=>Ae _ q) (Ar _) ?_,rfl,q _ (I.hok.fresh (Ar _))⟩;exact⟨Bw (jfa xs lo hi) hz,_,0,(r.drop (HT.sIx xs.length 0 lo)).take (HT.sIx xs.length xs.length hi - HT.sIx xs.length 0 lo),As _ rfl⟩
def jj7:V->Bool
 |.non=>true
 |.bl _=>true
 |.int _=>true
 |.str _=>true
 |_=>false
def eqV:V->V->Bool
 |.non,.non=>true
 |.bl a,.bl b=>a==b
 |.bl a,.int b=>(if a then 1 else 0)==b
 |.int a,.bl b=>a==(if b then 1 else 0)
 |.int a,.int b=>a==b
 |.str a,.str b=>a==b
 |_,_=>false
theorem j48 {A:B9} {s:Aj} {y x:V} {u v:Af} (ry:RelV y u) (rx:RelV x v) (fy:jj7 y=true) (fx:jj7 x=true):SeqAt.EqAt A s u v (eqV y x):=by
 cases y with
 |non =>
  cases ry;cases x with
  |non=>cases rx;exact SeqAt.EqAt.same _
  |bl b=>cases rx;exact SeqAt.EqAt.none_bool b
  |int b=>obtain⟨t,rfl⟩:=rx;exact SeqAt.EqAt.none_int b t
  |str b=>obtain⟨t,rfl⟩:=rx;exact SeqAt.EqAt.none_str b t
  |_=>exact absurd (show false=true from fx) Al
 |bl a =>
  cases ry;cases x with
  |non=>cases rx;exact SeqAt.EqAt.bool_none a
  |bl b=>cases rx;exact SeqAt.EqAt.bool_bool a b
  |int b=>obtain⟨t,rfl⟩:=rx;exact SeqAt.EqAt.bool_int a b t
  |str b=>obtain⟨t,rfl⟩:=rx;exact SeqAt.EqAt.bool_str a b t
  |_=>exact absurd (show false=true from fx) Al
 |int a =>
  obtain⟨t',rfl⟩:=ry;cases x with
  |non=>cases rx;exact SeqAt.EqAt.int_none a t'
  |bl b=>cases rx;exact SeqAt.EqAt.int_bool a t' b
  |int b=>obtain⟨t,rfl⟩:=rx;exact SeqAt.EqAt.int_int a t' b t
  |str b=>obtain⟨t,rfl⟩:=rx;exact SeqAt.EqAt.int_str a t' b t
  |_=>exact absurd (show false=true from fx) Al
 |str a =>
  obtain⟨t',rfl⟩:=ry;cases x with
  |non=>cases rx;exact SeqAt.EqAt.str_none a t'
  |bl b=>cases rx;exact SeqAt.EqAt.str_bool a t' b
  |int b=>obtain⟨t,rfl⟩:=rx;exact SeqAt.EqAt.str_int a t' b t
  |str b=>obtain⟨t,rfl⟩:=rx;exact SeqAt.EqAt.str_str a t' b t
  |_=>exact absurd (show false=true from fx) Al
 |_=>exact absurd (show false=true from fy) Al
def eqU (x:V) (u:Af):Bool:=match u with
 |.none=>eqV .non x
 |.bool b=>eqV (.bl b) x
 |.int i _=>eqV (.int i) x
 |.str z _=>eqV (.str z) x
 |_=>false
theorem jzl {x y:V} {u:Af} (r:RelV y u) (f:jj7 y=true):eqU x u=eqV y x:=by
 cases y with
 |non=>cases r;rfl
 |bl b=>cases r;rfl
 |int i=>obtain⟨t,rfl⟩:=r;rfl
 |str z=>obtain⟨t,rfl⟩:=r;rfl
 |_=>exact absurd (show false=true from f) Al
theorem jiz {x:V}:∀{xs:List V} {us:List Af},Vals xs us->xs.all jj7=true->us.any (eqU x)=xs.any λy=>eqV y x
 |_,_,.nil,_=>rfl
 |y::xs,u::us,.cons r t,f=>by
  rw[Fv,Ap]at f;rw[Fu,Fu,jzl r f.1,jiz t f.2]
theorem jfi {A:B9} {s:Aj} {x:V} {v:Af} (rx:RelV x v) (fx:jj7 x=true):∀{xs:List V} {us:List Af},Vals xs us->xs.all jj7=true->∀u∈us,SeqAt.EqAt A s u v (eqU x u)
 |_,_,.nil,_=>λu hu=>by cases hu
 |y::xs,u::us,.cons r t,f=>λu' hu=>by
  rw[Fv,Ap]at f;rcases An.mp hu with rfl | hu
  ·rw[jzl r f.1];exact j48 r rx f.1 fx
  ·exact jfi rx fx t f.2 u' hu
def inV (x:V) (xs:List V):Bool:=xs.any λy=>eqV y x
def rIn (K:Ag) (neg:Bool):R2:=λx y H Q=>∃p xs,y=.ref p/\(SqL K H p xs\/SqT K H p xs)/\jj7 x=true/\xs.all jj7=true/\Q (.bl (if neg then !inV x xs else inV x xs)) H
theorem ju1:OpR X (Bt .In) (rIn X.K false):=by
 intro pins s σ H x y v u Q I rx ry h;obtain⟨p,xs,rfl,hq,fx,fs,q⟩:=h;cases ry;rcases hq with hq | hq
 ·obtain⟨its,r,pl,hz⟩:=I.list hq;refine SeqAt.in_listAt (eqU x) pl.isList (λw hw=>jfi rx fx r fs w (by simpa using hw)) ⟨.bl _,H,I,rfl,?_⟩;rw[show its.toArray.any (eqU x)=its.any (eqU x) by simp,jiz r fs];exact q
 ·obtain⟨its,r,pl,hz⟩:=I.tuple hq;refine SeqAt.in_tupleAt (eqU x) pl (λw hw=>jfi rx fx r fs w (by simpa using hw)) ⟨.bl _,H,I,rfl,?_⟩;rw[show its.toArray.any (eqU x)=its.any (eqU x) by simp,jiz r fs];exact q
theorem jnq:OpR X (Bt .NotIn) (rIn X.K true):=by
 intro pins s σ H x y v u Q I rx ry h;obtain⟨p,xs,rfl,hq,fx,fs,q⟩:=h;cases ry;rcases hq with hq | hq
 ·obtain⟨its,r,pl,hz⟩:=I.list hq;refine SeqAt.notIn_listAt (eqU x) pl.isList (λw hw=>jfi rx fx r fs w (by simpa using hw)) ⟨.bl _,H,I,rfl,?_⟩;rw[show its.toArray.any (eqU x)=its.any (eqU x) by simp,jiz r fs];exact q
 ·obtain⟨its,r,pl,hz⟩:=I.tuple hq;refine SeqAt.notIn_tupleAt (eqU x) pl (λw hw=>jfi rx fx r fs w (by simpa using hw)) ⟨.bl _,H,I,rfl,?_⟩;rw[show its.toArray.any (eqU x)=its.any (eqU x) by simp,jiz r fs];exact q
theorem jcv:CallR X (.builtin "len") (λxs H Q=>∃p ys,xs=[.ref p]/\(SqL X.K H p ys\/SqT X.K H p ys)/\Q (.int ys.length) H):=by
 intro pins s σ H xs us Q I r h;obtain⟨p,ys,rfl,hq,q⟩:=h;obtain⟨u,rfl,rx⟩:=jht r;cases rx;have hn:=jkt;rcases hq with hq | hq
 ·obtain⟨its,r',pl,hz⟩:=I.list hq;have hlen:=r'.length;exact Calls.call_len_list pl.isList (by simp only[Aq]<;>omega) ⟨.int ys.length,H,I.tok _,⟨s.toks+1,by rw[Aq,hlen]⟩,q⟩
 ·obtain⟨its,r',pl,hz⟩:=I.tuple hq;have hlen:=r'.length;exact len_tuple pl (by simp only[Aq]<;>omega) ⟨.int ys.length,H,I.tok _,⟨s.toks+1,by rw[Aq,hlen]⟩,q⟩
theorem call_len_str:CallR X (.builtin "len") (λxs H Q=>∃z,xs=[.str z]/\z.length<=Ax/\Q (.int z.length) H):=by
 intro pins s σ H xs us Q I r h;obtain⟨z,rfl,hz,q⟩:=h;obtain⟨u,rfl,t,rfl⟩:=jht r;have hn:=jkt;exact len_str (by omega) ⟨.int z.length,H,I.tok _,⟨_,rfl⟩,q⟩
theorem CallR.or {f:Af} {r r':List V->Hp->VK->Prop} (h:CallR X f r) (h':CallR X f r'):CallR X f (λxs H Q=>r xs H Q\/r' xs H Q):=by
 intro pins s σ H xs us Q I rs q;rcases q with q | q
 ·exact h pins s σ H xs us Q I rs q
 ·exact h' pins s σ H xs us Q I rs q
theorem jod:CallR X (.type "list") (λxs H Q=>∃p ys,xs=[.ref p]/\(SqL X.K H p ys\/SqT X.K H p ys)/\∀l,H l=none->Q (.ref l) (upd H l (.lst ys))):=by
 intro pins s σ H xs us Q I r h;obtain⟨p,ys,rfl,hq,q⟩:=h;obtain⟨u,rfl,rx⟩:=jht r;cases rx;have fin:∀(its:List Af),Vals ys its->ys.length<=Ax->∀(h':Heap) (c':Nat),(∀b o',s.heap.get? b=some o'->h'.get? b=some o') ->
   h'.get? s.heap.objs.size=some {cls:=.type "list",dict:=none,data:=.seq its.toArray c',slots:=#[]}->EP X pins σ Q (.ref s.heap.objs.size) {s with heap:=h'}:=λits r' hz h' c' kp e =>
  ⟨.ref s.heap.objs.size,_,I.laid (t':=s.toks) kp (Ar _) (show ObjOk X.prog X.w _ h' _ (.lst ys)from⟨hz,its,c',r',e⟩),rfl,q _ (I.hok.fresh (Ar _))⟩
 rcases hq with hq | hq
 ·obtain⟨its,r',pl,hz⟩:=I.list hq;have hlen:=r'.length;obtain⟨o,ho,hc,n,hd⟩:=pl.isList;exact call_list_seq p (.inl rfl) ho hc hd (λh' c' kp e=>fin its r' hz h' c' kp e) (by simp only[Aq]<;>omega)
 ·obtain⟨its,r',pl,hz⟩:=I.tuple hq;have hlen:=r'.length;obtain⟨o,ho,hc,n,hd⟩:=pl;exact call_list_seq p (.inr rfl) ho hc hd (λh' c' kp e=>fin its r' hz h' c' kp e) (by simp only[Aq]<;>omega)
theorem jme:CallR X (.type "tuple") (λxs H Q=>∃p ys,xs=[.ref p]/\((SqL X.K H p ys/\∀l,H l=none->Q (.ref l) (upd H l (.tup ys)))\/(SqT X.K H p ys/\Q (.ref p) H))):=by
 intro pins s σ H xs us Q I r h;obtain⟨p,ys,rfl,h⟩:=h;obtain⟨u,rfl,rx⟩:=jht r;cases rx;rcases h with⟨hq,q⟩ | ⟨hq,q⟩
 ·obtain⟨its,r',pl,hz⟩:=I.list hq;have hlen:=r'.length;refine call_tuple_list pl.isList (λh' kp=>?_) (by simp only[Aq]<;>omega);have I1:Inv X pins σ H {s with heap:=h'}:=I.kept (t':=s.toks) kp;have I2:Inv X pins σ (upd H h'.objs.size (.tup ys)) {s with heap:=h'.push {cls:=.type "tuple",data:=.seq its.toArray}} :=
   I1.laid (t':=s.toks) (λb o e=>Ae _ e) (Ar _) (show ObjOk X.prog X.w _ _ _ (.tup ys)from⟨hz,its,r',IsTupP.new _ _⟩)
  exact⟨.ref h'.objs.size,_,I2,rfl,q _ (I1.hok.fresh (Ar _))⟩
 ·obtain⟨its,r',pl,hz⟩:=I.tuple hq;exact call_tuple_same pl ⟨.ref p,H,I,rfl,q⟩
def tyV (K:Ag) (T:String) (x:V) (H:Hp):Prop:=match x with
 |.str _=>T="str"
 |.int _=>T="int"
 |.ref p=>(T="list"/\∃xs,SqL K H p xs)\/(T="tuple"/\∃o,K.lookup p=some o/\o.cls=.type "tuple"/\o.dict=none) \/
   (T="dict"/\((∃kvs,H p=some (.dK kvs))\/∃kvs,H p=some (.dT kvs)))\/(T="set"/\∃S n,H p=some (.set S n))
 |_=>False
theorem j2k {pins:List (Addr×Obj)} {σ:St} {H:Hp} {s:Aj} {T:String} {x:V} {v:Af} (I:Inv X pins σ H s) (r:RelV x v) (ty:tyV X.K T x H) :
  s.TypeIs v T/\∀a,v=.ref a->∃ob,s.heap.get? a=some ob/\ob.dict=none:=by
 cases x with
 |str z =>
  obtain⟨t,rfl⟩:=r;cases(show T="str" from ty);exact⟨typeIs_str s z t,λ_ e=>nomatch e⟩
 |int i =>
  obtain⟨t,rfl⟩:=r;cases(show T="int" from ty);exact⟨typeIs_int s i t,λ_ e=>nomatch e⟩
 |ref p =>
  cases r;rcases ty with⟨rfl,xs,hq⟩ | ⟨rfl,o,hk,hc,hd⟩ | ⟨rfl,hk⟩ | ⟨rfl,S,n,hk⟩
  ·obtain⟨its,_,pl,_⟩:=I.list hq;refine⟨pl.isList.typeIs,λa e=>?_⟩;cases e;obtain⟨o,n,e,c,hd,_⟩:=pl;exact⟨o,e,hd⟩
  ·refine⟨⟨o,I.kIn p o hk,hc⟩,λa e=>?_⟩;cases e;exact⟨o,I.kIn _ o hk,hd⟩
  ·have z:∃o,s.heap.get? p=some o/\o.ExactDict:=by
    rcases hk with⟨kvs,hk⟩ | ⟨kvs,hk⟩
    ·obtain⟨_,_,_,_,o,_,_,e,ex,_⟩:=I.hok p _ hk;exact⟨o,e,ex⟩
    ·obtain⟨_,_,_,_,o,_,_,e,ex,_⟩:=I.hok p _ hk;exact⟨o,e,ex⟩
   obtain⟨o,e,ex⟩:=z;refine⟨⟨o,e,ex.1⟩,λa e2=>?_⟩;cases e2;exact⟨o,e,ex.2.1⟩
  ·obtain⟨o,_,_,_,e,ex,_⟩:=I.hok p _ hk;refine⟨⟨o,e,ex.1⟩,λa e2=>?_⟩;cases e2;exact⟨o,e,ex.2.1⟩
 |_=>exact False.elim ty
def tBM (K:Ag) (T:String) (r:V->List V->Hp->VK->Prop) (to:TE) (t:TA):TE:=λσ H Q=>to σ H λx H1=>tyV K T x H1/\t σ H1 λxs H2=>r x xs H2 Q
variable {o e:Expr} {es:List Expr} {to:TE} {t:TA} {name:Str} {apos cpos:Pos} {T id:String} {r:V->List V->Hp->VK->Prop}
theorem j31 (pa:PlainAttrs T) (slot:Slot T name id) (hty:typeOf (.builtin id)=pure (.type "method_descriptor")) (hm:MtR X id r) (ho:PE X o to) (ha:PA X (e::es) t)
  (hbase:attributeBase o name X.env (eval o X.env)=eval o X.env:=by rfl)
  (hfew:((Ek cpos (A8 (e::es) X.env)).all (λx=>!x.1)&&(backToKw cpos (keywordEach [] X.env)).all (λx=>x.1.isSome)
   && decide ((e::es).length+([]:List Keyword).length+(if ([]:List Keyword).isEmpty then 0 else 1) < 30))=true:=by rfl)
  (hline:(apos.endLine==cpos.line)=true:=by rfl) (hs:A8 (e::es) X.env=(false,eval e X.env)::A8 es X.env:=by rfl) (hplain:(Ek cpos (A8 es X.env)).any (·.1)=false:=by rfl) :
  PE X (.Call (.Attribute o name apos) (e::es) [] cpos) (tBM X.K T r to t):=by
 intro pins s σ H Q I h;refine wpAny_Call_method_late hbase hfew hline rfl (thn (ho pins s σ H _ I h) λv s1 ⟨x,H1,I1,r1,ty,q1⟩=>?_);obtain⟨h1,h2⟩:=j2k I1 r1 ty;refine⟨T,id,pa,slot,hty,h1,h2,?_⟩;have hA:=ha cpos pins s1 σ H1 _ I1 q1;rw[hs]at hA ⊢;refine Calls.callWith_builtin (by show(false || (Ek cpos (A8 es X.env)).any (·.1))=false;rw[hplain]<;>rfl) (Calls.evalArgs_plain ?_);exact thn hA λus s2 ⟨vs,H2,I2,r2,q2⟩=>hm pins s2 σ H2 x vs v us Q I2 r1 r2 q2
end
def MtM (X:Cx) (id:String) (r:V->List V->Hp->VK->Prop):Prop :=
 ∀(pins:List (Addr×Obj)) (s:Aj) (σ:St) (H:Hp) (x:V) (xs:List V) (v:Af) (us:List Af) (Q:VK),Inv X pins σ H s->RelV x v->Vals xs us->r x xs H Q ->
  Az (Bb X.prog X.w) X.A (call (.builtin id) (v::us)) (EP X pins σ Q) X.xe s
theorem Vals.one:∀{x:V} {us:List Af},Vals [x] us->∃u,us=[u]/\RelV x u
 |_,_,.cons r .nil=>⟨_,rfl,r⟩
theorem Vals.zero:∀{us:List Af},Vals [] us->us=[]
 |_,.nil=>rfl
theorem Vals.reverse {xs:List V} {us:List Af} (h:Vals xs us):Vals xs.reverse us.reverse:=by
 induction h with
 |nil=>exact .nil
 |cons r t ih=>rw[List.reverse_cons,List.reverse_cons];exact Vals.append ih (.cons r .nil)
theorem Vals.rep {xs:List V} {us:List Af} (h:Vals xs us):∀k:Nat,Vals (Av k xs).flatten (Av k us).flatten
 |0=>.nil
 |k+1=>by
  rw[Dd,Dd,D6,D6];exact Vals.append h (Vals.rep h k)
theorem jn8 (its:List Af):∀(k:Nat) (acc:List Af),
  List.foldl (λx1 x2=>x1++x2) acc.toArray (Av k its.toArray)=(acc++(Av k its).flatten).toArray
 |0,acc=>by simp
 |k+1,acc=>by
  have e:acc.toArray++its.toArray=(acc++its).toArray:=by simp
  have e2:(acc++its)++(Av k its).flatten=acc++(Av (k+1) its).flatten:=by
   rw[Dd,D6,Bn]
  rw[<-e2,<-jn8 its k (acc++its),<-e,Dd,List.foldl_cons]
section
variable {X:Cx} {pins:List (Addr×Obj)} {σ:St} {H:Hp} {s:Aj} {l b:Addr} {xs ys zs:List V}
theorem Inv.lset {its its':List Af} {n:Nat} {f:Array Af->Array Af} {t':Nat} (I:Inv X pins σ H s) (hH:H l=some (.lst xs))
  (e:s.heap.get? l=some {cls:=.type "list",data:=.seq its.toArray n}) (hf:f its.toArray=its'.toArray) (hv:Vals ys its') (hz:ys.length<=Ax) :
  Inv X pins σ (upd H l (.lst ys)) {s with heap:=s.heap.update l (Cs f),toks:=t'}:=by
 have q:=PySem.IsL.update e f;rw[hf]at q;refine I.write (x:=l) (e:=l) (by rw[hH];exact trivial) (.inl rfl) (λb' u hb hu=>(Dv s.heap (Cs f) (Ne.symm hb)).trans hu) ⟨_,q⟩ ?_;exact⟨hz,its',_,hv,q⟩
theorem Inv.lnew {its:List Af} {t':Nat} (I:Inv X pins σ H s) (hv:Vals ys its) (hz:ys.length<=Ax) :
  Inv X pins σ (upd H s.heap.objs.size (.lst ys)) {s with heap:=s.heap.push {cls:=.type "list",data:=.seq its.toArray},toks:=t'} :=
 I.laid (λ_ _ q=>Ae _ q) (Ar _) ⟨hz,its,0,hv,As _ rfl⟩
theorem Inv.fresh (I:Inv X pins σ H s):H s.heap.objs.size=none:=I.hok.fresh (Ar _)
theorem Inv.lstM (I:Inv X pins σ H s) (hH:H l=some (.lst xs)):xs.length<=Ax/\∃(its:List Af) (n:Nat),Vals xs its/\xs.length=its.length/\s.heap.get? l=some {cls:=.type "list",data:=.seq its.toArray n}:=by
 obtain⟨z,its,n,r,e⟩:=I.hok l _ hH;exact⟨z,its,n,r,r.length,e⟩
theorem jq8 {n:Nat} (h:n<=Ax):Dz n=false:=by
 unfold Dz;exact decide_eq_false (by omega)
end
section
variable {X:Cx}
def juj:V->List V->Hp->VK->Prop:=λx vs H Q=>∃l xs y,x=.ref l/\vs=[y]/\H l=some (.lst xs)/\xs.length < Ax/\Q .non (upd H l (.lst (xs++[y])))
theorem jib:MtM X "list.append" juj:=by
 intro pins s σ H x vs v us Q I rx rv h;obtain⟨l,xs,y,rfl,rfl,hH,hz,q⟩:=h;cases rx;obtain⟨u,rfl,ru⟩:=rv.one;obtain⟨z,its,n,r,hl,e⟩:=I.lstM hH;refine Fn F.slot_list_append ⟨_,e,rfl⟩ F.entry_list_append (F.args_list_append_2 _ _) (PySem.list_append l its.toArray n u (by rw[Aq];omega)) ⟨e,?_⟩;refine⟨.non,_,I.lset (its':=its++[u]) hH e (by simp) (r.append (.cons ru .nil)) ?_,rfl,q⟩;rw[Ak,A9];omega
def j0u:V->List V->Hp->VK->Prop:=λx vs H Q=>∃l b xs zs,x=.ref l/\vs=[.ref b]/\H l=some (.lst xs)/\H b=some (.lst zs)/\xs.length+zs.length<=Ax/\Q .non (upd H l (.lst (xs++zs)))
theorem j4b:MtM X "list.extend" j0u:=by
 intro pins s σ H x vs v us Q I rx rv h;obtain⟨l,b,xs,zs,rfl,rfl,hH,hB,hz,q⟩:=h;cases rx;obtain⟨u,rfl,ru⟩:=rv.one;cases ru;obtain⟨z,its,n,r,hl,e⟩:=I.lstM hH;obtain⟨z2,its2,n2,r2,hl2,e2⟩:=I.lstM hB;have hsz:its.toArray.size+its2.toArray.size<=Ax:=by rw[Aq,Aq];omega
 have hlong:¬(!its.toArray.isEmpty&&Dz (its.toArray.size+its2.toArray.size))=true:=by
  rw[jq8 hsz,Fm];exact Al
 refine Fn F.slot_list_extend ⟨_,e,rfl⟩ F.entry_list_extend (F.args_list_extend_2 _ _)
  (AutoSeq1.list_extend_list_list_0 l its.toArray n b its2.toArray n2 hlong (by rw[Aq];omega) (by omega)) ⟨e,e2,?_⟩
 refine⟨.non,_,I.lset (its':=its++its2) hH e (by simp) (r.append r2) ?_,rfl,q⟩;rw[Ak];omega
def rCat:R2:=λx y H Q=>∃l b xs zs,x=.ref l/\y=.ref b/\H l=some (.lst xs)/\H b=some (.lst zs)/\xs.length+zs.length<=Ax/\∀p,H p=none->Q (.ref p) (upd H p (.lst (xs++zs)))
theorem ju7:OpR X (Dr .Add) rCat:=by
 intro pins s σ H x y v u Q I rx ry h;obtain⟨l,b,xs,zs,rfl,rfl,hH,hB,hz,q⟩:=h;cases rx;cases ry;obtain⟨z,its,n,r,hl,e⟩:=I.lstM hH;obtain⟨z2,its2,n2,r2,hl2,e2⟩:=I.lstM hB;refine PySem.P.add_list e e2 ?_ (by rw[Aq,Aq];omega);have ea:its.toArray++its2.toArray=(its++its2).toArray:=by simp
 rw[ea];exact⟨.ref _,_,I.lnew (t':=s.toks) (r.append r2) (by rw[Ak];omega),rfl,q _ I.fresh⟩
theorem jp4 {α:Type} (xs:List α) (k:Nat):(Av k xs).flatten.length=k*xs.length:=by
 induction k with
 |zero=>simp
 |succ k ih=>rw[Dd,D6,Ak,ih,Nat.succ_mul,Nat.add_comm]
end
end L2
namespace Att
open PySem PySem.W PySem.Calls PyProof.Rows
theorem jig {P:Params} {h:Heap}:∀(ns:List Int) (vs:List Af),WellAll P h vs (ns.map WData.int)->IntsAre vs ns:=by
 intro ns
 induction ns with
 |nil =>
  intro vs w;rw[Bk]at w;cases w;exact .nil
 |cons n ns ih =>
  intro vs w;rw[A7]at w;cases w with
  |cons a b =>
   cases a;exact .cons _ _ (ih _ b)
theorem jua {l:OpenLaw} {n:Nat} (hn:l.most=some n) {P:Params} {h:Heap} {args:List WData} {vals:List Af}
  (hpre:l.row.toRowW.claim.pre args=true) (hwl:WellAll P h vals args) :
  ∃a vs ns,vals=[Cb a]/\args=[WData.list (ns.map WData.int)]/\h.get? a=some {cls:=.type "list",data:=.seq vs.toArray}/\IntsAre vs ns/\ns.length<=n:=by
 have hsh:WShape.hasAll [] args [.list .int]=true:=(pre_splitW hpre).1;have hc:l.pre.holds [] {args:=args}=true:=(pre_splitW hpre).2;obtain⟨d,r,rfl,h1,h2⟩:=hasAllW_cons hsh;obtain rfl:=hasAllW_nil h2;obtain⟨xs,rfl,h3⟩:=hasW_list h1;obtain⟨ns,rfl⟩:=items_int h3;have hlen:ns.length<=n:=by
  unfold OpenLaw.pre at hc;have h4:(WTm.not (.lt (.lit (.int (n:Int))) (.len (.arg 0)))).holds [] {args:=[.list (ns.map .int)]}=true:=by
   have h4:=(holds_andW hc).1;rw[hn]at h4;exact h4
  have h5:=condW_of h4 (w_not (w_lt w_lit (w_len_list (w_arg rfl))));rw[Ai]at h5;refine Nat.le_of_not_lt λq=>?_;have q':(n:Int) < ((ns.length:Nat):Int):=by omega
  first
   | (rw[decide_eq_true q']at h5;exact absurd h5 (by decide))
   | (simp at h5;omega)
 cases hwl with
 |cons w1 w2 =>
  cases w2;cases w1 with
  |list ho hall=>exact⟨_,_,ns,rfl,rfl,ho,jig ns _ hall,hlen⟩
theorem juo (l:OpenLaw) (args:List WData):l.row.toRowW.claim.post args (.bool true) args=true :=
 postW_of (r:=l.row.toRowW) (X:=(true==true))
  (show WShape.has [] (.bool true) .bool=true by first | rfl | decide | simp[WShape.has,WShape.arms,WShape.armsAll])
  (show(WTm.eq .res (.lit (.bool true))).value [] {args:=args,res:=some (.bool true),after:=args}=some (.bool (true==true))from w_eq_bool (w_res rfl) w_lit) rfl
theorem attach_call {l:OpenLaw} {n:Nat} {q:Br} {loose:List Str} {XP:(Str->Option Af)->Heap->Prop} {YP:B4->Heap->Prop} {d:DefRec}
  (hn:l.most=some n) (hdf:d.params.defaults=[])
  (call:∀(w:B4) (s₀ s₁:Aj) (mg mb:Str->Option Af) (fa:Addr) (o:Obj) (pm cd doc:Af) (a:Addr) (vs:List Af) (ns:List Int),
   Ground q loose [] XP w s₀ mg mb s₁.heap->YP w s₁.heap ->
   s₁.heap.get? fa=some o->o.data=.func (docDef d.name d.params d.body d.scope pm cd doc)->s₁.heap.CodeRec cd d.name->mg d.name=some (.ref fa) ->
   s₁.heap.get? a=some {cls:=.type "list",data:=.seq vs.toArray}->IntsAre vs ns->ns.length<=n->s₁.gens=#[] ->
   Fs (Bb l.prog w) callerA (.call (.ref fa) ⟨[.ref a],[]⟩) (λr s'=>r=.ok (.ret (.bool true))/\OldK s₁.heap s'.heap/\s'.os=s₁.os/\AllBare s'.gens) s₁) :
  WalkO q loose XP YP l.row.toRowW d [] (λf vs=>PySem.call f vs):=by
 intro w s₀ s₁ mg mb G Y fa o pm cd doc dV kV ho hd hcd hD hmg hg args vals as hpre hlay hrd hwl hlo;obtain rfl:dV=.none:=Dflts.none hD hdf;obtain rfl:kV=.none:=Dflts.noKw hD;obtain⟨a,vs,ns,rfl,rfl,hobj,hints,hlen⟩:=jua hn hpre hwl;refine enter_call (codeAny_mono (call w s₀ s₁ mg mb fa o pm cd doc a vs ns G Y ho (fd_plain hd) hcd hmg hobj hints hlen hg) λr s' hq=>?_);obtain⟨rfl,h2,h3,h4⟩:=hq;exact⟨.inl ⟨.bool true,.bool true,[],rfl,λ_=>rfl,.bool true,juo l _,λ_=>⟨List.Pairwise.nil,λ_ hm=>(nomatch hm)⟩⟩,h2,h3,h4⟩
end Att
namespace L2
open PySem PySem.Spec PyProof.Rows
theorem jmv:∀{vs:List Af} {ns:List Int},IntsAre vs ns->Vals (ns.map V.int) vs
 |_,_,.nil=>.nil
 |_,_,.cons n t h=>.cons ⟨t,rfl⟩ (jmv h)
def Only (H:Hp):Prop:=∀b,H b=none\/∃o xs,H b=some (.frz o (.lst xs))
theorem jx0 {P:Br} {w:B4} {K:Ag} {mg mb:Str->Option Af} {CX:CXT} {k:Nat} {fa a:Addr} {fd:C2} {x:Str} {sp:Sp} {s₁:Aj} {vs:List Af} {ns:List Int}
  (KX:K.In s₁.heap) (hns:s₁.heap.Ns Dq mg) (hb:s₁.heap.Ns builtinsNs mb) (hbb:∀x:Str,x≠"__name__"->mb x=By x) (hlim:s₁.heap.NoLimit) (hg:s₁.gens=#[])
  (ha:s₁.heap.get? a=some {cls:=.type "list",data:=.seq vs.toArray}) (hi:IntsAre vs ns) (hl:ns.length<=Ax) (hr:Room k callerA)
  (F:∀base:Heap,K.In base->base.Ns Dq mg->FnOk P w K mg base CX k fa fd [x] sp) (hbind:∀(s:Aj) (u:Af),BindsTo s fd ⟨[u],[]⟩ [(x,u)])
  (hsp:∀H:Hp,Only H->SqL K H a (ns.map V.int)->sp [.ref a] H (λv _=>v=.bl true) λ_ _ _=>False)
  (hCX:∀H e s',CX [] H s₁ (λ_ _ _=>False) e s'->False) :
  Fs (Bb P w) callerA (.call (.ref fa) ⟨[.ref a],[]⟩) (λr s'=>r=.ok (.ret (.bool true))/\OldK s₁.heap s'.heap/\s'.os=s₁.os/\AllBare s'.gens) s₁:=by
 have rv:=jmv hi;have lenV:=hi.length
 -- from an abstract heap in which nothing but the script may be tracked
 have core:∀H:Hp,Only H->SqL K H a (ns.map V.int)->HOk P w H s₁.heap->(∀b,H b≠none->b=a)->(H a≠none->K.lookup a=none) ->
   Fs (Bb P w) callerA (.call (.ref fa) ⟨[.ref a],[]⟩) (λr s'=>r=.ok (.ret (.bool true))/\OldK s₁.heap s'.heap/\s'.os=s₁.os/\AllBare s'.gens) s₁:=by
  intro H hO hS hok hA hK;have base_of:∀{b:Addr} {o:Obj},s₁.heap.get? b=some o->H b=none->(hidT s₁.heap H).get? b=some o:=λe n=>jx3 e n;have noA:∀{b:Addr} {o:Obj} {es:Array DictEntry} {ep:Nat},s₁.heap.get? b=some o->o.data=.dict es ep->H b=none:=λ{b o es ep} e d=>by
   cases q:H b with
   |none=>rfl
   |some u =>
    have e':b=a:=hA b (by rw[q];simp);subst e';rw[ha]at e;cases e;have d':Data.seq vs.toArray _=Data.dict es ep:=d;cases d'
  have nsK:∀{b:Addr} {m:Str->Option Af},s₁.heap.Ns b m->(hidT s₁.heap H).Ns b m:=λ{b m} ⟨o,es,ep,e,d,r⟩=>⟨o,es,ep,base_of e (noA e d),d,r⟩;have hKb:K.In (hidT s₁.heap H):=λb o e=>base_of (KX b o e) (by
   cases q:H b with
   |none=>rfl
   |some u =>
    have e':b=a:=hA b (by rw[q];simp);subst e';rw[hK (by rw[q];simp)]at e;cases e)
  have hM:Mod K mg (hidT s₁.heap H):=⟨hKb,nsK hns,⟨mb,nsK hb,hbb⟩,let⟨mc,h1,h2⟩:=hlim;⟨mc,nsK h1,h2⟩⟩;have e0:Env0 P w K mg (hidT s₁.heap H) callerA [] s₁ H:=⟨rfl,hM,λb o e=>j1k e,Nat.le_of_eq (jvr _ _),trivial,λb hb=>absurd (show b∈([]:List Addr)from hb) (by simp),hok,.of_eq hg⟩;refine codeAny_mono ((F _ hKb (nsK hns)).run callerA [] s₁ H ⟨[.ref a],[]⟩ [.ref a] [.ref a] _ _ hr e0 (hbind s₁ (.ref a)) (.cons rfl .nil) (hsp H hO hS)) λr s' h=>?_;cases r with
  |error e=>exact(hCX H e s' h).elim
  |ok fl =>
   cases fl with
   |next=>exact False.elim h
   |brk=>exact False.elim h
   |cont=>exact False.elim h
   |ret u =>
    obtain⟨v,H',os,bare,un,hok',r',q⟩:=h;have q':v=.bl true:=q;subst q';obtain rfl:u=Value.bool true:=r';refine⟨rfl,OldK.of_keep λb o e=>?_,os,bare⟩;cases q:H b with
    |none=>exact un.keep b o e q (by intro z;exact absurd (show b∈([]:List Addr)from z) (by simp)) (by simp)
    |some u =>
     rcases hO b with z | ⟨ob,xs,z⟩
     ·rw[q]at z;cases z
     ·have z2:=un.frzs b ob _ z;obtain⟨e1,_⟩:=hok b _ z;obtain⟨e2,_⟩:=hok' b _ z2;rw[e]at e1;cases e1;exact e2
 cases hk:K.lookup a with
 |some o =>
  -- the script is one of the module's own objects
  have e:=KX a o hk;rw[ha]at e;cases e;refine core (λ_=>none) (λ_=>.inl rfl) (.inr ⟨_,vs.toArray,_,hk,rfl,rfl,rfl,by rw[Aq,lenV];exact hl,by simpa using rv⟩) (λb u z=>by have z':(none:Option HO)=some u:=z;cases z') (λb z=>absurd rfl z) λz=>absurd rfl z
 |none =>
  refine core (λb=>if b=a then some (.frz {cls:=.type "list",data:=.seq vs.toArray} (.lst (ns.map V.int)))else none) (λb=>?_) (.inl (.inr ⟨{cls:=.type "list",data:=.seq vs.toArray},if_pos rfl⟩)) (λb u z=>?_) (λb z=>?_) λ_=>hk
  ·by_cases hb:b=a
   ·exact .inr ⟨_,_,if_pos hb⟩
   ·exact .inl (if_neg hb)
  ·by_cases hb:b=a
   ·have z':=(if_pos hb).symm.trans z;cases z';subst hb;exact⟨ha,by rw[Ai];exact hl,vs,_,rv,ha⟩
   ·have z':=(if_neg hb).symm.trans z;cases z'
  ·by_cases hb:b=a
   ·exact hb
   ·exact absurd (if_neg hb) z
theorem walk_of {l:PySem.W.OpenLaw} {n k:Nat} {q:Br} {loose:List Str} {XP:(Str->Option Af)->Heap->Prop} {YP:B4->Heap->Prop} {d:DefRec} {K:Params->Ag} {CX:B4->CXT} {sp:B4->Sp} {x:Str}
  (hn:l.most=some n) (hn2:n<=Ax) (hdf:d.params.defaults=[]) (hr:Room k callerA)
  (hY:∀(w:B4) (h:Heap),YP w h->(K w.params).In h)
  (F:∀(w:B4) (mg:Str->Option Af) (fa:Addr) (h:Heap),(K w.params).In h->h.Ns Dq mg->mg d.name=some (.ref fa) ->
   ∃fd:C2,(∀(s:Aj) (u:Af),BindsTo s fd ⟨[u],[]⟩ [(x,u)]) /\
    ∀base:Heap,(K w.params).In base->base.Ns Dq mg->FnOk l.prog w (K w.params) mg base (CX w) k fa fd [x] (sp w))
  (hsp:∀(w:B4) (H:Hp) (a:Addr) (ns:List Int),ns.length<=n->Only H->SqL (K w.params) H a (ns.map V.int)->sp w [.ref a] H (λv _=>v=.bl true) λ_ _ _=>False)
  (hCX:∀(w:B4) (H:Hp) (s:Aj) (e:Af) (s':Aj),CX w [] H s (λ_ _ _=>False) e s'->False) :
  PySem.W.WalkO q loose XP YP l.row.toRowW d [] (λf vs=>PySem.call f vs):=by
 refine Att.attach_call hn hdf λw s₀ s₁ mg mb fa o pm cd doc a vs ns G Y ho hd hcd hmg hobj hints hlen hg=>?_;have KX:=hY w _ Y;obtain⟨fd,hb,hF⟩:=F w mg fa _ KX G.T.g hmg;exact jx0 KX G.T.g G.T.b G.T.builtins G.T.nolimit hg hobj hints (Bw hlen hn2) hr hF hb (λH hO hS=>hsp w H a ns hlen hO hS) λH e s'=>hCX w H s₁ e s'
def je9 (s:Stmt):Arguments:=match s with
 |.FunctionDef _ a _ _ _ _ _ _ _ _=>a
 |_=>{ posonlyargs:=[],args:=[],vararg:=none,kwonlyargs:=[],kw_defaults:=[],kwarg:=none,defaults:=[]}
def jb2 (s:Stmt):List Stmt:=match s with
 |.FunctionDef _ _ b _ _ _ _ _ _ _=>b
 |_=>[]
def jao (s:Stmt):Eo:=match s with
 |.FunctionDef _ _ _ _ _ _ sc _ _ _=>sc
 |_=>{ kind:=.function,names:=[],isGenerator:=false,isCoroutine:=false}
abbrev CX0:CXT:=λ_ _ _ _ _ _=>False
abbrev E0:XK:=λ_ _ _=>False
theorem j33 {X:Cx}:jwm CX0 X E0:=λ_ _ _ _ _ _ _ h=>h.elim
structure Fun (K:Ag) (x qual:Str) (st:Stmt) (f:Addr) (fd:C2):Prop where
 ex:∃(oc:Af) (od:Option Addr) (kV doc pm:Af) (an:Option Addr) (cdv ct:Af) (osl:Array (Option Af)),
  fd=Eu x qual (je9 st) (jb2 st) (jao st) .none kV doc pm an cdv ct/\K.lookup f=some ⟨oc,od,.func fd,osl⟩/\PySem.W.codeIn K cdv qual=true
 kp:Cz K (.ref f)=true
section
variable {P:Br} {w:B4} {K:Ag} {mg:Str->Option Af} {base:Heap}
theorem Fun.ok {x qual:Str} {st:Stmt} {f:Addr} {fd:C2} {N ps:List Str} {k:Nat} {sp:Sp} (F:Fun K x qual st f fd) (S:FnScope N ps (jao st)) (len:∀vs H Q E,sp vs H Q E->vs.length=ps.length)
  (hbody:∀(cdv:Af) (A:B9) (outer:List Env) (s:Aj) (H:Hp) (vs:List V) (Q:VK) (E:XK),Room k (A.deeper (envOfC qual (jao st) s.heap.objs.size f cdv))->sp vs H Q E ->
   ∃t,PSs (cxOf CX0 P w K mg base N qual (jao st) f cdv A outer s H E).nox (jb2 st) t/\t {nx:=λ_ H'=>Q .non H',rt:=Q} (start N vs) H):FnOk P w K mg base CX0 (k+1) f fd ps sp:=by
 obtain⟨oc,od,kV,doc,pm,an,cdv,ct,osl,rfl,lk,hcd⟩:=F.ex;refine j67 lk hcd S len λA outer s H vs Q E hr hsp=>?_;obtain⟨t,h,q⟩:=hbody cdv A outer s H vs Q E hr hsp;exact⟨t,h.nox,q⟩
theorem Fun.binds {x qual:Str} {st:Stmt} {f:Addr} {fd:C2} {ps:List Str} (F:Fun K x qual st f fd)
  (h:∀(kV doc pm:Af) (an:Option Addr) (cdv ct:Af) (us:List Af),us.length=ps.length->bindArgs (Eu x qual (je9 st) (jb2 st) (jao st) .none kV doc pm an cdv ct) ⟨us,[]⟩=pure (ps.zip us)):Binds K fd ps []:=by
 obtain⟨oc,od,kV,doc,pm,an,cdv,ct,osl,rfl,lk,hcd⟩:=F.ex;exact .all (h kV doc pm an cdv ct)
theorem j42 {x qual:Str} {st:Stmt} {f:Addr} {oc:Af} {od an:Option Addr} {osl:Array (Option Af)} {kV doc pm cdv ct:Af} (l:K.lookup f=some ⟨oc,od,.func (Eu x qual (je9 st) (jb2 st) (jao st) .none kV doc pm an cdv ct),osl⟩)
  (c:PySem.W.codeIn K cdv qual=true) (k:Cz K (.ref f)=true):Fun K x qual st f (Eu x qual (je9 st) (jb2 st) (jao st) .none kV doc pm an cdv ct):=⟨⟨oc,od,kV,doc,pm,an,cdv,ct,osl,rfl,l,c⟩,k⟩
end
theorem jnf {n:Nat} (h:n<=1000):n < Ax:=F5 h (by decide)
section
variable {X:Cx}
theorem pv (i:Nat) {x:Str} {pos:Pos} (hN:X.N[i]?=some x:=by rfl) (hv:Vis X.env.scope x:=by first | exact D1 rfl | exact C0 (D1 rfl) | exact C0 (C0 rfl)) (hd:(x==("__debug__":Str))=false:=by decide)
  (hcd:(x==("__classdict__":Str))=false:=by decide):PE X (.Name x pos) (tVar i):=jh5 hN hv hd hcd
end
theorem iteF {A B:Prop} (h:B):if false=true then A else B:=by
 rw[if_neg Al];exact h
theorem ite2 {c A B:Prop} [Decidable c] (h1:c->A) (h2:¬c->B):if c then A else B:=by
 by_cases h:c
 ·rw[if_pos h];exact h1 h
 ·rw[if_neg h];exact h2 h
def Same (H H':Hp):Prop:=∀b o,H b=some o->H' b=some o
end L2
set_option maxHeartbeats 4000000
set_option maxHeartbeats 4000000
namespace Nb
open PySem L2
def jtd:Bool:=true
def jyq:List V:=[.non,.non,.non,.int 1,.int 2,.int 3,.int 20]
def jmq:List Ab:=[.none,.none,.none,.int 1,.int 2,.int 3,.int 20]
end Nb
namespace L2
open PySem PySem.Spec PyProof.Rows
section
variable {prog:Br} {w:B4} {A:B9} {R:Result->Aj->Prop} {s:Aj}
theorem jgv {elt target iter:Expr} {ifs:List Expr} {scope:Eo} {pos:Pos} {it acc:Af} {env:Env} (I:Nat->Aj->Prop)
  (turn:∀n s,I n s->Az (Bb prog w) A (Eg it) (λr s₁=>match r with
   |none=>R (.ok .next) s₁
   |some v=>Az (Bb prog w) A (letOwnedTupleGo target it v) (λ_ s₁'=>Az (Bb prog w) A (assign target env v) (λ_ s₂ =>
     Az (Bb prog w) A (forIn ifs true λc r=>if r=true then do let ok <-isTrue c env (eval c env);pure (ForInStep.yield ok)else pure (ForInStep.yield r)) (λok s₃ =>
      if ok=true then Az (Bb prog w) A (eval elt env) (λx s₄ =>
       Az (Bb prog w) A (call (.builtin "list.append") [acc,x]) (λ_ s₅=>∃m,m < n/\I m s₅) (λ_ _=>False) s₄) (λ_ _=>False) s₃
      else ∃m,m < n/\I m s₃) (λ_ _=>False) s₂) (λ_ _=>False) s₁') (λ_ _=>False) s₁) (λ_ _=>False) s)
  (n:Nat) (h:I n s):Fs (Bb prog w) A (.compLoop (.ListComp elt [⟨target,iter,ifs,0⟩] scope pos) 0 it acc env) R s:=by
 refine codeAny_loop rfl I (λn s hI=>?_) n h;show Az _ A ((compTurn (.ListComp elt [⟨target,iter,ifs,0⟩] scope pos) 0 it acc env).onRaise (λx=>do noteFrame x env;theTreesLotGoes x)) _ _ s;refine wpAny_noted ?_;rw[compTurn_list];refine Aa (wpAny_standAt (Aa (Dw (turn n s hI) (λr s₁ h₁=>?_) λ_ _ f=>f.elim)));cases r with
 |none=>exact Ah h₁
 |some v =>
  refine Aa (Dw h₁ (λ_ s₁' h₁'=>?_) λ_ _ f=>f.elim);refine Aa (Dw h₁' (λ_ s₂ h₂=>Aa (Dw h₂ (λok s₃ h₃=>?_) λ_ _ f=>f.elim)) λ_ _ f=>f.elim);cases ok with
  |false=>exact Ah ⟨rfl,h₃⟩
  |true =>
   exact Aa (Aa (Dw h₃ (λx s₄ h₄=>Aa (Dw h₄ (λ_ s₅ h₅=>Ah (Ah ⟨rfl,h₅⟩)) λ_ _ f=>f.elim)) λ_ _ f=>f.elim))
end
def ja8 (X:Cx) (N:List Str) (scope:Eo) (cl:List (Str×Addr)) (s:Aj) (H:Hp) (fp:List Addr):Cx :=
 { X with N:=N,s₀:=s,H₀:=H,env:=compEnvC scope cl s.heap.objs.size X.env,outer:=X.stack,ex:=fp,fn:=λ_=>false,pn:=[],xe:=λ_ _=>False}
structure CompSc (X:Cx) (N:List Str) (scope:Eo) (cl:List (Str×Addr)) (fr:List (Option Nat)):Prop where
 clos:closureFor scope X.env=pure cl
 kind:scope.kind=.function
 nocell:∀y∈scope.names,y.2≠.cell
 names:∀y∈scope.names,y.2=.local->scope.names.lookup y.1=some .local
 sub:∀x c,cl.lookup x=some c->X.env.cells.lookup x=some c
 has:∀x,((relabel scope X.env).names.lookup x=some .cell\/(relabel scope X.env).names.lookup x=some .free)->∃c,cl.lookup x=some c
 len:fr.length=N.length
 fre:∀(j i:Nat),fr[j]?=some (some i)->∃x,N[j]?=some x/\X.N[i]?=some x/\Vis X.env.scope x/\(X.env.kindOf x=some .cell\/X.env.kindOf x=some .free) /\
  ((relabel scope X.env).names.lookup x=some .cell\/(relabel scope X.env).names.lookup x=some .free)/\cl.lookup x=X.env.cells.lookup x
theorem jeh {κ:Type}:∀{l:List (Str×κ)} {x:Str} {k:κ},l.lookup x=some k->(x,k)∈l
 |[],_,_,h=>nomatch h
 | (y,k')::r,x,k,h=>by
  rw[List.lookup_cons]at h;cases e:x==y with
  |true =>
   rw[e]at h;have e':x=y:=by simpa using e
   have h':k'=k:=Bo h;rw[e',h'];exact A5
  |false =>
   rw[e]at h;exact A1 _ (jeh h)
theorem jks {κ:Type}:∀{l:List (Str×κ)} {x:Str},x∈l.map (·.1)->∃k,l.lookup x=some k
 |[],_,h=>absurd h (by simp)
 | (y,k')::r,x,h=>by
  rw[List.lookup_cons];cases e:x==y with
  |true=>exact⟨k',rfl⟩
  |false =>
   have ne:¬x=y:=λz=>by rw[z]at e;simp at e
   have h':x∈y::r.map (·.1):=h;rcases An.mp h' with z | z
   ·exact absurd z ne
   ·exact jks z
theorem jyb {X:Cx} {scope:Eo} {cl:List (Str×Addr)} (nm:List (Str×NameKind)) (ks:List Str) (hrel:(relabel scope X.env).names=nm) (hks:cl.map (·.1)=ks) (h3:∀y∈nm,(y.2=.cell\/y.2=.free)->y.1∈ks) :
  ∀x,((relabel scope X.env).names.lookup x=some .cell\/(relabel scope X.env).names.lookup x=some .free)->∃c,cl.lookup x=some c:=by
 intro x h;rw[hrel]at h;refine jks ?_;rw[hks];rcases h with h | h
 ·exact h3 _ (jeh h) (.inl rfl)
 ·exact h3 _ (jeh h) (.inr rfl)
def capt (fr:List (Option Nat)) (σ:St):St:=fr.map λo=>o.bind λi=>(σ[i]?).bind id
theorem jye {fr:List (Option Nat)} {σ:St} {j:Nat} {v:V} (h:(capt fr σ)[j]?=some (some v)):∃i,fr[j]?=some (some i)/\σ[i]?=some (some v):=by
 unfold capt at h;rw[Ba]at h;cases e:fr[j]? with
 |none=>rw[e]at h;cases h
 |some o =>
  rw[e]at h;cases o with
  |none=>cases h
  |some i =>
   refine⟨i,rfl,?_⟩;have h':(σ[i]?).bind id=some v:=Bo h;cases e2:σ[i]? with
   |none=>rw[e2]at h';cases h'
   |some o2 =>
    rw[e2]at h';have h2:o2=some v:=h';rw[h2]
def PIf (X:Cx) (ifs:List Expr) (tt:TT):Prop :=
 ∀(pins:List (Addr×Obj)) (s:Aj) (σ:St) (H:Hp) (Q:Bool->Hp->Prop),Inv X pins σ H s->tt σ H Q ->
  Az (Bb X.prog X.w) X.A (forIn ifs true λc r=>if r=true then do let ok <-isTrue c X.env (eval c X.env);pure (ForInStep.yield ok)else pure (ForInStep.yield r)) (TP X pins σ Q) X.xe s
def j2r:TT:=λ_ H Q=>Q true H
theorem j0y {X:Cx}:PIf X [] j2r:=λ_ _ _ H _ I h=>wpAny_tests_nil ⟨H,I,h⟩
theorem j0x {X:Cx} {c:Expr} {tt:TT} (h:PT X c tt):PIf X [c] tt:=λpins s σ H Q I q=>wpAny_tests_one (h pins s σ H Q I q)
def jtp (fr:List (Option Nat)) (wi:TI) (g:TG) (tt:TT) (te:TE):TE:=λσ H Q=>wi σ H λJ H1=>∀D,H1 D=none ->
 ∃W:Nat->Nat->List V->St->Hp->Prop,(∃m,W 0 m [] (capt fr σ) (upd H1 D (.lst [])))/\∀i m ys τ H,W i m ys τ H ->
  ((J.stop i H/\Q (.ref D) H)\/(J.go i H/\ys.length < Ax/\∀x H',J.yld i H x H'->g x τ H' λτ2 H2=>tt τ2 H2 λb H3 =>
   if b=true then te τ2 H3 (λy H4=>H4 D=some (.lst ys)/\∃m',m' < m/\W (i+1) m' (ys++[y]) τ2 (upd H4 D (.lst (ys++[y]))))else ∃m',m' < m/\W (i+1) m' ys τ2 H3))
section
variable {X:Cx} {N:List Str} {scope:Eo} {cl:List (Str×Addr)} {fr:List (Option Nat)} {pins:List (Addr×Obj)} {σ:St} {H:Hp} {s:Aj} {fp:List Addr}
theorem j11 (S:CompSc X N scope cl fr) (I:Inv X pins σ H s) (hf:∀b∈fp,FpOk X pins H b) (hlt:∀b∈fp,b < s.heap.objs.size):(ja8 X N scope cl s H fp).Ok where
 mod:=I.ok.mod
 kind:=S.kind
 glob:=I.ok.glob
 blt:=I.ok.blt
 above:=Ar _
 inj:=λx y c a b=>I.ok.inj x y c (S.sub x c a) (S.sub y c b)
 has:=λx h=>S.has x h
 cab:=λx c h=>nomatch h
 hd:=I.ok.hd
 frames:=I.ok.frames
 stk:=.inl rfl
 exf:=λb hb=>⟨Bd (hlt b hb),λx c e=>(hf b hb).2.2.2.2.1 x c (S.sub x c e)⟩
 bs:=I.bs
 bsz:=Bw I.ok.bsz I.sz
 noex:=λb o e hb=>by
  rcases(hf b hb).2.2.2.1 with z | z
  ·exact I.ok.noex b o e z
  ·exact absurd (Bq (Ao (I.ok.bs b o e).1) z) (Er _)
 exfs:=λb hb z=>by
  rcases An.mp (I.stkSub b z)with e | e
  ·exact(hf b hb).2.1 e
  ·exact(hf b hb).2.2.1 e
 funs:=I.stack
 frf:=I.stkFree
theorem jkx {h₁:Heap} {t':Nat} (S:CompSc X N scope cl fr) (I:Inv X pins σ H s) (hf:∀b∈fp,FpOk X pins H b) (hlt:∀b∈fp,b < s.heap.objs.size)
  {ob:Obj} (hsb:Dc s.heap.objs.size (s.heap.push ob) h₁) {m:Str->Option Af} (hn:h₁.Ns s.heap.objs.size m) :
  Inv (ja8 X N scope cl s H fp) [] (capt fr σ) H {s with heap:=h₁,toks:=t'}:=by
 have old:∀b o,s.heap.get? b=some o->h₁.get? b=some o:=λb o e=>(hsb.2 b (Bd (Ao e))).trans (Ae _ e);refine⟨j11 S I hf hlt,rfl,I.bare,Un.kept old,⟨m,hn,λj x v e1 e2 e3=>?_⟩,λx c e=>?_,I.fresh,λx c e=>I.freeC x c (S.sub x c e),λp hp=>?_,I.hok.kept old,?_⟩
 ·obtain⟨i,f1,f2⟩:=jye e2;obtain⟨y,g1,g2,g3,g4,g5,g6⟩:=S.fre j i f1;have e1':N[j]?=some x:=e1;rw[g1]at e1';have exy:y=x:=Bo e1';subst exy;obtain⟨m0,hn0,hl⟩:=I.loc;obtain⟨u,r,l⟩:=hl i y v g2 f2 g3;refine⟨u,r,.inr ⟨g5,?_⟩⟩;rcases l with⟨k,_⟩ | ⟨k,c,e,z⟩
  ·rcases g4 with q | q
   ·rw[q]at k;cases k
   ·rw[q]at k;cases k
  ·exact⟨c,g6.trans e,z.keeps old⟩
 ·obtain⟨v,z⟩:=I.cell x c (S.sub x c e);exact⟨v,z.keeps old⟩
 ·exact absurd hp (by simp[ja8])
 ·show(capt fr σ).length=N.length;unfold capt;rw[Ai,S.len]
theorem jri {H':Hp} {τ:St} {s0 s':Aj} {h':Heap} (I:Inv X pins σ H s0) (hf:∀b∈fp,FpOk X pins H b) (I':Inv (ja8 X N scope cl s0 H fp) [] τ H' s') (hs:Dc s0.heap.objs.size s'.heap h') :
  Inv X pins σ H' {s' with heap:=h'}:=by
 have hC:H' s0.heap.objs.size=none:=I'.free;have u:Un (frs X.stack) fp H H' s0.heap s'.heap:=I'.base;have ne:∀b o,s0.heap.get? b=some o->b≠s0.heap.objs.size:=λb o e=>Bd (Ao e);have hok':HOk X.prog X.w H' h':=λb o e=>by
  have q:ObjOk X.prog X.w H' s'.heap b o:=I'.hok b o e;refine q.stay (λc v hc z=>(hs.2 c ?_).trans z) (λ_ z=>z) λ_ _ z=>z
  rintro rfl
  rcases hc with z | z
  ·rw[<-z,hC]at e;cases e
  ·rw[hC]at z;cases z
 refine I.call' (s':={ s' with heap:=h'}) (ch:=fp) I'.os ?_ hok' I'.bare λb hb=>?_
 ·refine⟨λb o e n h1 h2=>(hs.2 b (ne b o e)).trans (u.keep b o e n h1 h2),λb o e n h1 h2=>?_,u.free,λb o e h2=>?_,u.tups,u.frzs,u.tbls⟩
  ·obtain⟨sl,z⟩:=u.slot b o e n h1 h2;exact⟨sl,(hs.2 b (ne b o e)).trans z⟩
  ·obtain⟨o',z⟩:=u.there b o e h2;exact⟨o',(hs.2 b (ne b o e)).trans z⟩
 ·obtain⟨_,f1,_,f3,f4,f5⟩:=hf b hb;exact⟨f3,f1,f4,f5⟩
end
theorem j04 {X:Cx} {elt tg iter:Expr} {ifs:List Expr} {scope:Eo} {cl:List (Str×Addr)} {pos:Pos} {N:List Str} {fr:List (Option Nat)} {wi:TI} {g:TG} {tt:TT} {te:TE}
  (hc:X.calm=true) (S:CompSc X N scope cl fr) (hi:PI X tg iter wi) (hg:∀s H fp,PG (ja8 X N scope cl s H fp) tg g) (ht:∀s H fp,PIf (ja8 X N scope cl s H fp) ifs tt)
  (he:∀s H fp,PE (ja8 X N scope cl s H fp) elt te) (hs:∀x,Ec iter X.env x=pure x:=by intro _;rfl) :
  PE X (.ListComp elt [⟨tg,iter,ifs,0⟩] scope pos) (jtp fr wi g tt te):=by
 intro pins s σ H Q I h;rw[eval_ListComp];refine wpAny_comprehension_free (use:=none) (cl:=cl) rfl hs S.clos S.kind S.names (thn (hi pins s σ H _ I h) λv s1 h1=>thn h1 λitv s2 h2=>?_);obtain⟨it,fp,tn,J,H2,e,I2,T,st2,f2,q⟩:=h2;subst e;refine Bm (wpAny_newFunctionEnv S.nocell (by intro y hy;simp at hy) (λh₁ hn hsb=>?_) S.kind);dsimp only at hn hsb ⊢;obtain⟨W,⟨m0,w0⟩,turn⟩:=q s2.heap.objs.size I2.fresh
 -- the state with the new list
 have I3:Inv X pins σ (upd H2 s2.heap.objs.size (.lst [])) {s2 with heap:=s2.heap.push {cls:=.type "list",dict:=none,data:=.seq ([]:List Af).toArray}}:=I2.lnew (its:=[]) (t':=s2.toks) .nil (Bj _);have key:∀s3:Aj,s3={ s2 with heap:=s2.heap.push {cls:=.type "list",dict:=none,data:=.seq ([]:List Af).toArray}}->Inv X pins σ (upd H2 s2.heap.objs.size (.lst [])) s3 ->
   ∀(ob:Obj) (mm:Str->Option Af),Dc s3.heap.objs.size (s3.heap.push ob) h₁->h₁.Ns s3.heap.objs.size mm ->
   Fs (Bb X.prog X.w) X.A (.compStart (.ListComp elt [⟨tg,iter,ifs,0⟩] scope pos) 0 (.ref it) (.ref s2.heap.objs.size) (compEnvC scope cl s3.heap.objs.size X.env))
    (compPost (Bb X.prog X.w) X.A X.xe none (EP X pins σ Q) (.ref s2.heap.objs.size) s3.heap.objs.size) {s3 with heap:=h₁,toks:=s3.toks+([]:List (Str×Af)).length}:=?key
 ·exact key _ rfl I3 _ _ hsb hn
 clear I3 hn hsb;intro s3 hs3 I3 ob mm hsb hn;have hfp:∀b∈fp,∃o,s2.heap.get? b=some o:=λb hb=>let⟨o,e,_⟩:=T.obj _ _ st2 b hb;⟨o,e⟩;have up:∀b o,s2.heap.get? b=some o->s3.heap.get? b=some o:=λb o e=>by rw[hs3];exact Ae _ e
 have f3:∀b∈fp,FpOk X pins (upd H2 s2.heap.objs.size (.lst [])) b:=λb hb=>by
  obtain⟨o,e⟩:=hfp b hb;obtain⟨g0,gr⟩:=f2 b hb;exact⟨by rw[jag (Bd (Ao e))];exact g0,gr⟩
 have hlt:∀b∈fp,b < s3.heap.objs.size:=λb hb=>let⟨o,e⟩:=hfp b hb;Ao (up b o e);generalize hH3:upd H2 s2.heap.objs.size (.lst [])=H3 at I3 f3 w0;have I4:=jkx (t':=s3.toks+([]:List (Str×Af)).length) S I3 f3 hlt hsb hn;have st4:tn 0 h₁:=T.keep _ _ _ st2 λb hb o e=>(hsb.2 b (Bd (Ao (up b o e)))).trans (Ae _ (up b o e));have stat:∀{H':Hp},(∀b∈fp,H' b=none)->∀b∈fp,FpOk (ja8 X N scope cl s3 H3 fp) [] H' b:=λhn b hb=>by
  obtain⟨_,k1,k2,k3,k4,k5⟩:=f3 b hb;refine⟨hn b hb,Bd (hlt b hb),λz=>?_,.inl hb,λx c e=>k4 x c (S.sub x c e),λp hp=>absurd hp (by simp[ja8])⟩;rcases An.mp (I3.stkSub b z)with e | e
  ·exact k1 e
  ·exact k2 e
 have loop:Fs (Bb X.prog X.w) X.A (.compLoop (.ListComp elt [⟨tg,iter,ifs,0⟩] scope pos) 0 (.ref it) (.ref s2.heap.objs.size) (compEnvC scope cl s3.heap.objs.size X.env))
   (compPost (Bb X.prog X.w) X.A X.xe none (EP X pins σ Q) (.ref s2.heap.objs.size) s3.heap.objs.size) {s3 with heap:=h₁,toks:=s3.toks+([]:List (Str×Af)).length}:=by
  refine jgv (λn s'=>∃i ys τ Hc,Inv (ja8 X N scope cl s3 H3 fp) [] τ Hc s'/\tn i s'.heap/\(∀b∈fp,Hc b=none)/\W i n ys τ Hc) ?_ m0 ⟨0,[],capt fr σ,H3,I4,st4,λb hb=>(f3 b hb).1,w0⟩
  rintro n s5 ⟨i,ys,τ,Hc,I5,st5,fr5,w5⟩
  rcases turn i n ys τ Hc w5 with⟨stop,qn⟩ | ⟨go,hz,step⟩
  ·refine thn (T.done (ja8 X N scope cl s3 H3 fp) rfl rfl rfl hc i [] s5 τ Hc (λ_ _=>False) I5 (stat fr5) st5 stop) λr s6 ⟨hr,I6⟩=>?_;subst hr;obtain⟨mm,hm,_⟩:=I6.loc;exact⟨mm,hm,λh' hs'=>⟨.ref s2.heap.objs.size,Hc,jri I3 f3 I6 hs',rfl,qn⟩⟩
  ·refine thn (T.item (ja8 X N scope cl s3 H3 fp) rfl rfl rfl hc i [] s5 τ Hc (λ_ _=>False) I5 (stat fr5) st5 go) λr s6 ⟨u,hr,h6⟩=>?_;subst hr;refine thn h6 λ_ s7 ⟨x,H7,I7,r7,y7,st7,fr7⟩=>?_;have I7':=I7.pinned (stat fr7) (T.obj _ _ st7);refine thn (hg s3 H3 fp _ s7 τ H7 x u _ I7' r7 (step x H7 y7)) λ_ s8 ⟨τ8,H8,I8,q8⟩=>?_;refine thn (ht s3 H3 fp _ s8 τ8 H8 _ I8 q8) λok s9 ⟨H9,I9,q9⟩=>?_;have keep:∀{st:Aj} {τ':St} {H':Hp},Inv (ja8 X N scope cl s3 H3 fp) ([]++jkp fp s7.heap) τ' H' st->tn (i+1) st.heap/\∀b∈fp,H' b=none:=λ{st τ' H'} Ix=>by
    refine⟨T.keep _ _ _ st7 λb hb o e=>(Ix.pin (b,o) (Be _ (Be _ (jck hb e)))).1,λb hb=>?_⟩;obtain⟨o,e,d⟩:=T.obj _ _ st7 b hb;exact(Ix.pin (b,o) (Be _ (Be _ (jck hb e)))).2.1
   cases ok with
   |false =>
    rw[if_neg Al]at q9 ⊢;obtain⟨m',hm,w9⟩:=q9;obtain⟨k1,k2⟩:=keep I9;exact⟨m',hm,i+1,ys,τ8,H9,I9.unpinned,k1,k2,w9⟩
   |true =>
    rw[if_pos rfl]at q9 ⊢;refine thn (he s3 H3 fp _ s9 τ8 H9 _ I9 q9) λxv s10 ⟨y,H10,I10,r10,hD,m',hm,w10⟩=>?_;refine thn (jib _ s10 τ8 H10 (.ref s2.heap.objs.size) [y] (.ref s2.heap.objs.size) [xv] (λz H'=>∃m',m' < n/\W (i+1) m' (ys++[y]) τ8 H') I10 rfl (.cons r10 .nil) ⟨_,ys,y,rfl,rfl,hD,hz,m',hm,w10⟩) λz s11 ⟨z',H11,I11,_,m'',hm',w11⟩=>?_;obtain⟨k1,k2⟩:=keep I11;exact⟨m'',hm',i+1,ys++[y],τ8,H11,I11.unpinned,k1,k2,w11⟩
 exact codeAny_compStart_list loop (T.self _ 0 _ _ _ st4 loop)
mutual
inductive RdD (K:Ag) (H:Hp):V->Ab->Prop
 |non:RdD K H .non .none
 |bl (b:Bool):RdD K H (.bl b) (.bool b)
 |int (i:Int):RdD K H (.int i) (.int i)
 |str (x:Str):RdD K H (.str x) (.str x)
 |lst {a:Addr} {xs:List V} {ds:List Ab}:SqL K H a xs->RdAll K H xs ds->RdD K H (.ref a) (.list ds)
 |tup {a:Addr} {xs:List V} {ds:List Ab}:SqT K H a xs->RdAll K H xs ds->RdD K H (.ref a) (.tuple ds)
inductive RdAll (K:Ag) (H:Hp):List V->List Ab->Prop
 |nil:RdAll K H [] []
 |cons {x:V} {xs:List V} {d:Ab} {ds:List Ab}:RdD K H x d->RdAll K H xs ds->RdAll K H (x::xs) (d::ds)
end
section
variable {X:Cx} {pins:List (Addr×Obj)} {σ:St} {H:Hp} {s:Aj}
mutual
theorem RdD.reads (I:Inv X pins σ H s):∀{v:V} {d:Ab} {u:Af},RdD X.K H v d->RelV v u->∃as,Reads s.heap u d as
 |_,_,u,.non,r=>by
  cases(show u=Bi from r);exact⟨_,.none⟩
 |_,_,u,.bl b,r=>by
  cases(show u=Value.bool b from r);exact⟨_,.bool b⟩
 |_,_,u,.int i,r=>by
  obtain⟨t,rfl⟩:=(show ∃t,u=Value.int i t from r);exact⟨_,.int i t⟩
 |_,_,u,.str x,r=>by
  obtain⟨t,rfl⟩:=(show ∃t,u=Value.str x t from r);exact⟨_,.str x t⟩
 |_,_,u,.lst (a:=a) h1 h2,r=>by
  cases(show u=Cb a from r);obtain⟨its,rv,⟨o,n,e,c,_,d⟩,_⟩:=I.list h1;obtain⟨as,ha⟩:=RdAll.reads I h2 rv;exact⟨_,.list e c d (by simpa using ha)⟩
 |_,_,u,.tup (a:=a) h1 h2,r=>by
  cases(show u=Cb a from r);obtain⟨its,rv,⟨o,e,c,n,d⟩,_⟩:=I.tuple h1;obtain⟨as,ha⟩:=RdAll.reads I h2 rv;exact⟨_,.tuple e c d (by simpa using ha)⟩
theorem RdAll.reads (I:Inv X pins σ H s):∀{vs:List V} {ds:List Ab} {us:List Af},RdAll X.K H vs ds->Vals vs us->∃as,ReadsAll s.heap us ds as
 |_,_,_,.nil,.nil=>⟨_,.nil⟩
 |_,_,_,.cons h1 h2,.cons r1 r2=>by
  obtain⟨as,ha⟩:=RdD.reads I h1 r1;obtain⟨bs,hb⟩:=RdAll.reads I h2 r2;exact⟨_,.cons ha hb⟩
end
end
def j51 (d:Ab):Prop:=PyData.canLay0 d=true/\PyData.depth d<=20/\PyData.weight d<=2 ^ 20/\PyData.intsShort 13 d=true/\PyData.showable d=true
def jq3 (K:Ag):R2:=λx y H Q=>∃a b xs,x=.ref a/\y=.ref b/\SqL K H a xs/\SqL K H b []/\Q (.bl xs.isEmpty) H
theorem jxs {X:Cx} (hu:X.A.units < cLine):OpR X (Bt .Eq) (jq3 X.K):=by
 intro pins s σ H x y v u Q I rx ry h;obtain⟨a,b,xs,rfl,rfl,ha,hb,q⟩:=h;cases(show v=Cb a from rx);cases(show u=Cb b from ry);obtain⟨its,r1,p1,_⟩:=I.list ha;obtain⟨its2,r2,p2,_⟩:=I.list hb;have e2:its2=[]:=Vals.zero r2;subst e2;cases r1 with
 |nil=>exact PySem.SeqAt.eq_listAt (e:=λ_=>true) p1.isList p2.isList rfl hu (λj h1=>absurd h1 (by simp)) ⟨.bl true,H,I,(by rfl),q⟩
 |cons r1 r3=>exact PySem.SeqAt.eq_list_lengthsAt p1.isList p2.isList (by simp) hu ⟨.bl false,H,I,rfl,q⟩
def j3m (K:Ag):R2:=λx y H Q=>∃a b xs ys,x=.ref a/\y=.ref b/\SqT K H a xs/\SqT K H b ys/\ys≠[]/\xs.length+ys.length<=Ax /\
 (xs=[]->Q (.ref b) H)/\(xs≠[]->∀p,H p=none->Q (.ref p) (upd H p (.tup (xs++ys))))
theorem op_catA {X:Cx}:OpR X (Dr .Add) (j3m X.K):=by
 intro pins s σ H x y v u Q I rx ry h;obtain⟨a,b,xs,ys,rfl,rfl,ha,hb,hy,hz,q0,q2⟩:=h;by_cases hx:xs=[]
 ·cases(show v=Cb a from rx);cases(show u=Cb b from ry);obtain⟨its,r1,p1,_⟩:=I.tuple ha;obtain⟨its2,r2,p2,_⟩:=I.tuple hb;obtain⟨⟨cls,dd,data,sl⟩,ho,hc,n,hd⟩:=id p1;obtain⟨⟨cls2,dd2,data2,sl2⟩,ho2,hc2,n2,hd2⟩:=id p2;simp only at hc hd hc2 hd2;subst hc hd hc2 hd2;have hi:its=[]:=r1.nil_iff.mpr hx;exact concat_meets ⟨_,ho,rfl⟩ ⟨_,ho2,rfl⟩ noFill_tuple_add seq_tuple_add Fd E8 (E3 _ _)
   (tuple_addW0 a b its.toArray its2.toArray n n2 dd dd2 sl sl2 (by simp[hi])) ⟨ho,ho2,⟨.ref b,H,I,rfl,q0 hx⟩⟩
 ·exact op_catT pins s σ H (.ref a) (.ref b) v u Q I rx ry ⟨a,b,xs,ys,rfl,rfl,ha,hb,hx,hz,λe=>absurd e hy,λ_=>q2 hx⟩
theorem jyg {X:Cx} {T:String}:CallR X (.builtin "isinstance") (λxs H Q=>∃x t b,xs=[x,.ty T]/\TyOf X.K H x t/\PySem.W.kitOne X.K t (.type T)=some b/\Q (.bl b) H):=by
 intro pins s σ H xs us Q I r h;obtain⟨x,t,b,rfl,ty,e,q⟩:=h;obtain⟨u,u',rfl,ru,ru'⟩:=j53 r;cases(show u'=Dm T from ru');exact jvm I ru ty e λtk=>⟨.bl b,H,I.tok tk,rfl,q⟩
section
variable {X:Cx} {pins:List (Addr×Obj)} {σ:St} {A:B9} {R:Result->Aj->Prop}
theorem jee {n:Nat} (h:n<=1000):n<=Ax:=Nat.le_of_lt (jnf h)
end
def Its (x:Str):It:=⟨λi _=>i < x.cps.size,λi H y H'=>H'=H/\∃c,x.cps[i]?=some c/\y=.str ⟨#[c]⟩,λi _=>i=x.cps.size⟩
theorem jqu {P:Br} {w:B4} {K:Ag} {tg:Expr} {T:String} {x:Str} {t:Tok} (it:Addr)
  (hn:["enumerate","zip","dict_itemiterator","dict_reverseitemiterator","odict_iterator","itertools.zip_longest","itertools.pairwise"].contains T=false)
  (hW:∀A:B9,A.handled=none->Walks P w A it [it] [it] x.cps.size (SignAt x) (λi h=>h.IsStrIter it T x t i))
  (hS:∀(A:B9) (i:Nat) (s:Aj) (Q:Af->Aj->Prop) (E:Af->Aj->Prop),s.heap.IsStrIter it T x t i->Q (.ref it) s->Az (Bb P w) A (pyIter (.ref it)) Q E s) :
  Turn P w K tg (Its x) [it] it (λi h=>h.IsStrIter it T x t i) where
 mem:=by simp
 obj:=λi h st b hb=>by
  have e:b=it:=by simpa using hb
  subst e;obtain⟨o,e,c,d⟩:=st;exact⟨o,e,λv z=>by rw[d]at z;cases z⟩
 keep:=λi h h' st k=>let⟨o,ho,r⟩:=st;⟨o,k it (by simp) o ho,r⟩
 item:=by
  intro X hP hw hK hc i pins s σ H E I hf st hg;subst hP hw hK;obtain⟨f0,f1,f2,f3,f4,f5⟩:=hf it (by simp);refine(hW X.A (I.ok.hd hc)).item i s _ _ hg st λv h' tk hv st' kk=>?_;obtain⟨c,u,hcu,rfl⟩:=hv;have I1:Inv X pins σ H {s with heap:=h',toks:=tk}:=I.turned (λb o hb e=>kk b o (by simpa using hb) e) f0 f1 f3 f4 f5;obtain⟨o,e,cc,d⟩:=id st';exact⟨_,rfl,jx4 (s:={ s with heap:=h',toks:=tk}) e cc d hn ⟨.str ⟨#[c]⟩,H,I1,⟨u,rfl⟩,⟨rfl,c,hcu,rfl⟩,st',λb hb=>(hf b hb).1⟩⟩
 done:=by
  intro X hP hw hK hc i pins s σ H E I hf st hg;subst hP hw hK;obtain⟨f0,f1,f2,f3,f4,f5⟩:=hf it (by simp);have hi:i=x.cps.size:=hg;subst hi;exact(hW X.A (I.ok.hd hc)).done s _ _ st λh' tk kk=>⟨rfl,I.turned (λb o hb e=>kk b o (by simpa using hb) e) f0 f1 f3 f4 f5⟩
 self:=λA i s Q E st h=>hS A i s Q E st h
def iStr (tl:TE):TI:=λσ H R=>tl σ H λv H1=>∃x,v=.str x/\R (Its x) H1
theorem j3t {X:Cx} {tg l:Expr} {tl:TE} (hl:PE X l tl):PI X tg l (iStr tl):=by
 intro pins s σ H R I h;refine thn (hl pins s σ H _ I h) λv s1 ⟨y,H1,I1,r1,q1⟩=>?_;obtain⟨x,e,q⟩:=q1;subst e;obtain⟨t,rfl⟩:=(show ∃t,v=Value.str x t from r1);have fp:∀(o:Obj) (b:Addr),b∈[s1.heap.objs.size]->FpOk X pins H1 b:=λo b hb=>by
  have e:b=s1.heap.objs.size:=by simpa using hb
  subst e;exact I1.fpOk (Ar _) (I1.hok.fresh (Ar _))
 cases ha:x.cps.all (· < 128)
 ·refine wpAny_pyIter_wide ha ?_;exact⟨s1.heap.objs.size,[s1.heap.objs.size],_,_,H1,rfl,I1.kept (t':=s1.toks) λb o e=>Ae _ e,
   jqu (T:="str_iterator") (t:=t) _ (by decide) (λA hA=>Walks.strWide hA _ x t) (λ_ _ _ _ _ st h=>wpAny_pyIter_striter_wide st h),⟨_,As _ rfl,rfl,rfl⟩,fp default,q⟩
 ·refine wpAny_pyIter_ascii ha ?_;exact⟨s1.heap.objs.size,[s1.heap.objs.size],_,_,H1,rfl,I1.kept (t':=s1.toks) λb o e=>Ae _ e,
   jqu (T:="str_ascii_iterator") (t:=t) _ (by decide) (λA hA=>Walks.strAscii hA _ x t) (λ_ _ _ _ _ st h=>wpAny_pyIter_striter_ascii st h),⟨_,As _ rfl,rfl,rfl⟩,fp default,q⟩
theorem jse (bs:List Bool):((Bu bs.length).all λi=>(bs[i]?).getD true)=bs.all id:=by
 rw[En,Bh,Bh]
 constructor
 ·intro h b hb;obtain⟨i,hi,rfl⟩:=List.mem_iff_getElem.mp hb;have:=h i (C3.mpr hi);rw[Am hi]at this;exact this
 ·intro h i hi;have hi':=C3.mp hi;rw[Am hi'];exact h _ (Ez hi')
theorem jwc {X:Cx} (hh:X.A.handled=none):CallR X (.builtin "all") (λxs H Q=>∃(p:Addr) (bs:List Bool),xs=[.ref p]/\H p=some (.lst (bs.map V.bl))/\Q (.bl (bs.all id)) H):=by
 intro pins s σ H xs us Q I r h;obtain⟨p,bs,rfl,hp,q⟩:=h;obtain⟨u,rfl,ru⟩:=jht r;cases(show u=Cb p from ru);obtain⟨its,rv,pl,_⟩:=I.list (SqL.of (K:=X.K) hp);have hl:s.heap.IsList p its.toArray:=pl.isList;have hlt:p < s.heap.objs.size:=by obtain⟨_,e,_⟩:=hl;exact Ao e
 have hlen:bs.length=its.length:=by have:=rv.length;rwa [Ai]at this
 refine call_all_walk (wpAny_pyIter_list hl ?_);refine⟨s.heap.objs.size,[s.heap.objs.size,p],[s.heap.objs.size],its.toArray.size,_,_,λi=>(bs[i]?).getD true,rfl,Walks.list (A:=X.A.in1) hh _ p (Bd hlt) its.toArray,
  ⟨⟨_,As _ rfl,rfl,rfl⟩,hl.push _⟩,λi v s' Q' E' hP hQ=>?_,λh' tk hk=>?_⟩
 ·have hi:its[i]?=some v:=by simpa using hP
  have hib:i < bs.length:=by rw[hlen];exact(Bp.mp hi).1
  have hx:(bs.map V.bl)[i]?=some (V.bl bs[i]):=by simp[hib]
  obtain⟨u,hu,ru⟩:=rv.get hx;rw[hi]at hu;cases(Bo hu);cases(show v=Value.bool bs[i]from ru);dsimp only at hQ;rw[Am hib,Option.getD_some]at hQ;exact C4 hQ
 ·have e:((Bu its.toArray.size).all λi=>(bs[i]?).getD true)=bs.all id:=by
   rw[Aq,<-hlen];exact jse bs
  rw[e];refine⟨.bl (bs.all id),H,I.kept λb x e=>hk b x (λhm=>?_) (Ae _ e),rfl,q⟩;rw[A2.mp hm]at e;exact Er _ (Ao e)
theorem ju0 {X:Cx}:OpR X (Bt .LtE) (λx y H Q=>∃i j,x=.str i/\y=.str j/\Q (.bl (!decide (j.cps.toList < i.cps.toList))) H):=by
 intro pins s σ H x y v u Q I rx ry h;obtain⟨i,j,rfl,rfl,q⟩:=h;obtain⟨t,rfl⟩:=rx;obtain⟨t',rfl⟩:=ry;exact P.le_str (jaz I q rfl)
theorem ju3 {X:Cx}:OpR X (Bt .Gt) (λx y H Q=>∃i j,x=.str i/\y=.str j/\Q (.bl (decide (j.cps.toList < i.cps.toList))) H):=by
 intro pins s σ H x y v u Q I rx ry h;obtain⟨i,j,rfl,rfl,q⟩:=h;obtain⟨t,rfl⟩:=rx;obtain⟨t',rfl⟩:=ry;exact P.gt_str (jaz I q rfl)
def tyD:Ab->String
 |.none=>"NoneType"
 |.bool _=>"bool"
 |.int _=>"int"
 |.str _=>"str"
 |.list _=>"list"
 |.tuple _=>"tuple"
 |.dict _=>"dict"
def isiB (T:String) (d:Ab):Bool:=tyD d==T || (T=="int"&&tyD d=="bool")
def ja9 (h:Str):Ab->Bool
 |.str x=>decide (x=h)
 |_=>false
theorem jko {X:Cx} {elt tg iter:Expr} {ifs:List Expr} {scope:Eo} {cl:List (Str×Addr)} {cpos pos pos':Pos} {N:List Str} {fr:List (Option Nat)} {wi:TI} {g:TG} {tt:TT} {te:TE} {i:Nat} {x:Str}
  (hN:X.N.Nodup) (hix:X.N[i]?=some x) (hx:X.env.scope.names.lookup x=some .local)
  (hc:X.calm=true) (S:CompSc X N scope cl fr) (hi:PI X tg iter wi) (hg:∀s H fp,PG (ja8 X N scope cl s H fp) tg g) (ht:∀s H fp,PIf (ja8 X N scope cl s H fp) ifs tt)
  (he:∀s H fp,PE (ja8 X N scope cl s H fp) elt te) (hs:∀x,Ec iter X.env x=pure x:=by intro _;rfl)
  (hsw:Fz (.ListComp elt [⟨tg,iter,ifs,0⟩] scope cpos) (some (.Name x pos')) pos.line X.env=pure true:=by rfl) :
  PS X (.Assign [.Name x pos'] (.ListComp elt [⟨tg,iter,ifs,0⟩] scope cpos) pos) (tAsg (jtp fr wi g tt te) (jhg i)):=by
 intro pins s σ H D I h;rw[exec_Assign_Name_used _ _ _ _ hsw];refine Aa (wpAny_standAt (Aa ?_));show Az _ _ (do let _ <-comprehension (.ListComp elt [⟨tg,iter,ifs,0⟩] scope cpos) scope X.env (firstIterPos [⟨tg,iter,ifs,0⟩] cpos) (newList []) (firstAsync [⟨tg,iter,ifs,0⟩]) (firstIter [⟨tg,iter,ifs,0⟩] X.env) (some (assign (.Name x pos') X.env))) _ _ s;refine Aa ?_;have fin:∀(u:Unit) (s':Aj),SP X pins D .next s'->Az (Bb X.prog X.w) X.A (pure Flow.next) (SP X pins D) X.xe s':=λ_ s' z=>Ah z
 refine thn (Q:=λ_ s'=>SP X pins D .next s') ?_ λ_ s' z=>Ah (Ah z);refine wpAny_comprehension_free (use:=some (assign (.Name x pos') X.env)) (cl:=cl) rfl hs S.clos S.kind S.names (thn (hi pins s σ H _ I h) λv s1 h1=>thn h1 λitv s2 h2=>?_);obtain⟨it,fp,tn,J,H2,e,I2,T,st2,f2,q⟩:=h2;subst e;refine Bm (wpAny_newFunctionEnv S.nocell (by intro y hy;simp at hy) (λh₁ hn hsb=>?_) S.kind);dsimp only at hn hsb ⊢;obtain⟨W,⟨m0,w0⟩,turn⟩:=q s2.heap.objs.size I2.fresh
 -- the state with the new list
 have I3:Inv X pins σ (upd H2 s2.heap.objs.size (.lst [])) {s2 with heap:=s2.heap.push {cls:=.type "list",dict:=none,data:=.seq ([]:List Af).toArray}}:=I2.lnew (its:=[]) (t':=s2.toks) .nil (Bj _);have key:∀s3:Aj,s3={ s2 with heap:=s2.heap.push {cls:=.type "list",dict:=none,data:=.seq ([]:List Af).toArray}}->Inv X pins σ (upd H2 s2.heap.objs.size (.lst [])) s3 ->
   ∀(ob:Obj) (mm:Str->Option Af),Dc s3.heap.objs.size (s3.heap.push ob) h₁->h₁.Ns s3.heap.objs.size mm ->
   Fs (Bb X.prog X.w) X.A (.compStart (.ListComp elt [⟨tg,iter,ifs,0⟩] scope cpos) 0 (.ref it) (.ref s2.heap.objs.size) (compEnvC scope cl s3.heap.objs.size X.env))
    (compPost (Bb X.prog X.w) X.A X.xe (some (assign (.Name x pos') X.env)) (λ_ s'=>SP X pins D .next s') (.ref s2.heap.objs.size) s3.heap.objs.size) {s3 with heap:=h₁,toks:=s3.toks+([]:List (Str×Af)).length}:=?key
 ·exact key _ rfl I3 _ _ hsb hn
 clear I3 hn hsb;intro s3 hs3 I3 ob mm hsb hn;have hfp:∀b∈fp,∃o,s2.heap.get? b=some o:=λb hb=>let⟨o,e,_⟩:=T.obj _ _ st2 b hb;⟨o,e⟩;have up:∀b o,s2.heap.get? b=some o->s3.heap.get? b=some o:=λb o e=>by rw[hs3];exact Ae _ e
 have f3:∀b∈fp,FpOk X pins (upd H2 s2.heap.objs.size (.lst [])) b:=λb hb=>by
  obtain⟨o,e⟩:=hfp b hb;obtain⟨g0,gr⟩:=f2 b hb;exact⟨by rw[jag (Bd (Ao e))];exact g0,gr⟩
 have hlt:∀b∈fp,b < s3.heap.objs.size:=λb hb=>let⟨o,e⟩:=hfp b hb;Ao (up b o e);generalize hH3:upd H2 s2.heap.objs.size (.lst [])=H3 at I3 f3 w0;have I4:=jkx (t':=s3.toks+([]:List (Str×Af)).length) S I3 f3 hlt hsb hn;have st4:tn 0 h₁:=T.keep _ _ _ st2 λb hb o e=>(hsb.2 b (Bd (Ao (up b o e)))).trans (Ae _ (up b o e));have stat:∀{H':Hp},(∀b∈fp,H' b=none)->∀b∈fp,FpOk (ja8 X N scope cl s3 H3 fp) [] H' b:=λhn b hb=>by
  obtain⟨_,k1,k2,k3,k4,k5⟩:=f3 b hb;refine⟨hn b hb,Bd (hlt b hb),λz=>?_,.inl hb,λx c e=>k4 x c (S.sub x c e),λp hp=>absurd hp (by simp[ja8])⟩;rcases An.mp (I3.stkSub b z)with e | e
  ·exact k1 e
  ·exact k2 e
 have loop:Fs (Bb X.prog X.w) X.A (.compLoop (.ListComp elt [⟨tg,iter,ifs,0⟩] scope cpos) 0 (.ref it) (.ref s2.heap.objs.size) (compEnvC scope cl s3.heap.objs.size X.env))
   (compPost (Bb X.prog X.w) X.A X.xe (some (assign (.Name x pos') X.env)) (λ_ s'=>SP X pins D .next s') (.ref s2.heap.objs.size) s3.heap.objs.size) {s3 with heap:=h₁,toks:=s3.toks+([]:List (Str×Af)).length}:=by
  refine jgv (λn s'=>∃i ys τ Hc,Inv (ja8 X N scope cl s3 H3 fp) [] τ Hc s'/\tn i s'.heap/\(∀b∈fp,Hc b=none)/\W i n ys τ Hc) ?_ m0 ⟨0,[],capt fr σ,H3,I4,st4,λb hb=>(f3 b hb).1,w0⟩
  rintro n s5 ⟨i,ys,τ,Hc,I5,st5,fr5,w5⟩
  rcases turn i n ys τ Hc w5 with⟨stop,qn⟩ | ⟨go,hz,step⟩
  ·refine thn (T.done (ja8 X N scope cl s3 H3 fp) rfl rfl rfl hc i [] s5 τ Hc (λ_ _=>False) I5 (stat fr5) st5 stop) λr s6 ⟨hr,I6⟩=>?_;subst hr;obtain⟨mm,hm,_⟩:=I6.loc;have I6x:Inv X pins σ Hc s6:=jri I3 f3 I6 (Heap.SameBut.refl _ _);have hC:Hc s3.heap.objs.size=none:=I6.free;obtain⟨_,c1,_,c3,c4,c5⟩:=I3.fpOk (H':=Hc) (Ar _) hC;show Az (Bb X.prog X.w) X.A (assign (.Name x pos') X.env (.ref s2.heap.objs.size)) _ X.xe s6;refine wpAny_assign_Name (jm9 I6x hN hix (.inl hx) (show RelV (.ref s2.heap.objs.size) (Cb s2.heap.objs.size)from rfl) (λs7 I7 hsb=>?_) (.inr hx));obtain⟨ad,hsb,had⟩:=hsb;have hne:s3.heap.objs.size≠ad:=by
    rcases had with z | z
    ·rw[z];exact c1
    ·exact λq=>c4 x ad z q.symm
   obtain⟨oo,es,ep,ho,rr⟩:=hm;refine⟨mm,⟨oo,es,ep,(hsb.2 _ hne).trans ho,rr⟩,λh' hs'=>⟨_,Hc,?_,qn⟩⟩;have ne:∀b,b∉[s3.heap.objs.size]->b≠s3.heap.objs.size:=λb z q=>z (by rw[q];exact A2.mpr rfl);have hok':HOk X.prog X.w Hc h':=λb o e=>by
    refine(I7.hok b o e).stay (λc v hc z=>(hs'.2 c ?_).trans z) (λ_ z=>z) λ_ _ z=>z
    rintro rfl
    rcases hc with z | z
    ·rw[<-z,hC]at e;cases e
    ·rw[hC]at z;cases z
   refine I7.call' (s':={ s7 with heap:=h'}) (ch:=[s3.heap.objs.size]) rfl ?_ hok' I7.bare λb hb=>?_
   ·exact⟨λb o e n h1 h2=>(hs'.2 b (ne b h2)).trans e,λb o e n h1 h2=>⟨o.slots,(hs'.2 b (ne b h2)).trans e⟩,λb o e n h2=>n,λb o e h2=>⟨o,(hs'.2 b (ne b h2)).trans e⟩,λ_ _ z=>z,λ_ _ _ z=>z,λb ps z=>⟨#[],by rw[Array.append_empty];exact z⟩⟩
   ·cases A2.mp hb;exact⟨c3,c1,c4,c5⟩
  ·refine thn (T.item (ja8 X N scope cl s3 H3 fp) rfl rfl rfl hc i [] s5 τ Hc (λ_ _=>False) I5 (stat fr5) st5 go) λr s6 ⟨u,hr,h6⟩=>?_;subst hr;refine thn h6 λ_ s7 ⟨x,H7,I7,r7,y7,st7,fr7⟩=>?_;have I7':=I7.pinned (stat fr7) (T.obj _ _ st7);refine thn (hg s3 H3 fp _ s7 τ H7 x u _ I7' r7 (step x H7 y7)) λ_ s8 ⟨τ8,H8,I8,q8⟩=>?_;refine thn (ht s3 H3 fp _ s8 τ8 H8 _ I8 q8) λok s9 ⟨H9,I9,q9⟩=>?_;have keep:∀{st:Aj} {τ':St} {H':Hp},Inv (ja8 X N scope cl s3 H3 fp) ([]++jkp fp s7.heap) τ' H' st->tn (i+1) st.heap/\∀b∈fp,H' b=none:=λ{st τ' H'} Ix=>by
    refine⟨T.keep _ _ _ st7 λb hb o e=>(Ix.pin (b,o) (Be _ (Be _ (jck hb e)))).1,λb hb=>?_⟩;obtain⟨o,e,d⟩:=T.obj _ _ st7 b hb;exact(Ix.pin (b,o) (Be _ (Be _ (jck hb e)))).2.1
   cases ok with
   |false =>
    rw[if_neg Al]at q9 ⊢;obtain⟨m',hm,w9⟩:=q9;obtain⟨k1,k2⟩:=keep I9;exact⟨m',hm,i+1,ys,τ8,H9,I9.unpinned,k1,k2,w9⟩
   |true =>
    rw[if_pos rfl]at q9 ⊢;refine thn (he s3 H3 fp _ s9 τ8 H9 _ I9 q9) λxv s10 ⟨y,H10,I10,r10,hD,m',hm,w10⟩=>?_;refine thn (jib _ s10 τ8 H10 (.ref s2.heap.objs.size) [y] (.ref s2.heap.objs.size) [xv] (λz H'=>∃m',m' < n/\W (i+1) m' (ys++[y]) τ8 H') I10 rfl (.cons r10 .nil) ⟨_,ys,y,rfl,rfl,hD,hz,m',hm,w10⟩) λz s11 ⟨z',H11,I11,_,m'',hm',w11⟩=>?_;obtain⟨k1,k2⟩:=keep I11;exact⟨m'',hm',i+1,ys++[y],τ8,H11,I11.unpinned,k1,k2,w11⟩
 exact codeAny_compStart_list loop (T.self _ 0 _ _ _ st4 loop)
end L2
set_option Elab.async false
set_option maxRecDepth 100000
namespace Nb
open PySem L2
def Kp (t:Addr) (H H':Hp):Prop:=∀b o,H b=some o->b≠t->H' b=some o
theorem Kp.refl (t:Addr) (H:Hp):Kp t H H:=λ_ _ h _=>h
theorem Kp.trans {t:Addr} {H H1 H2:Hp} (a:Kp t H H1) (b:Kp t H1 H2):Kp t H H2:=λc o h n=>b c o (a c o h n) n
theorem Kp.new {t p:Addr} {H:Hp} {o:HO} (h:H p=none):Kp t H (upd H p o):=λc o' e _=>by
 rw[jag (jae e h)];exact e
theorem Kp.tape {t:Addr} {H:Hp} {o:HO}:Kp t H (upd H t o):=λc o' e n=>by
 rw[jag n];exact e
structure TL where
 s:Addr
 g:Addr
def exOf (l:TL):List V:=if jtd=true then[.ref l.g]else[]
structure Tp (H:Hp) (t:Addr) (l:TL) (ns:List Int) (n:Int):Prop where
 ob:∃a b:Int,H t=some (.lst (.ref l.s::.int a::.int b::exOf l))/\0<=a/\a<=n
 ls:H l.s=some (.lst (ns.map V.int))
 len:ns.length<=63
 ag:jtd=true->H l.g=some (.lst jyq)
 gne:l.g≠t
theorem Tp.ne {H:Hp} {t:Addr} {l:TL} {ns:List Int} {n:Int} (T:Tp H t l ns n):t≠l.s:=by
 obtain⟨a,b,h,_⟩:=T.ob;refine j6v h T.ls λz=>?_;have z':(.ref l.s::.int a::.int b::exOf l:List V)=ns.map V.int:=HO.lst.inj z;cases ns with
 |nil=>cases z'
 |cons m r =>
  rw[A7]at z';have:=(Ex z').1;cases this
theorem Tp.other {H:Hp} {t p:Addr} {l:TL} {ns:List Int} {n:Int} {o:HO} (T:Tp H t l ns n) (h1:t≠p) (h2:l.s≠p) (h3:jtd=true->l.g≠p):Tp (upd H p o) t l ns n:=by
 obtain⟨a,b,e,h⟩:=T.ob;exact⟨⟨a,b,by rw[jag h1];exact e,h⟩,by rw[jag h2];exact T.ls,T.len,λz=>by rw[jag (h3 z)];exact T.ag z,T.gne⟩
theorem Tp.new {H:Hp} {t p:Addr} {l:TL} {ns:List Int} {n:Int} {o:HO} (T:Tp H t l ns n) (h:H p=none):Tp (upd H p o) t l ns n:=by
 obtain⟨a,b,e,_⟩:=T.ob;exact T.other (jae e h) (jae T.ls h) λz=>jae (T.ag z) h
theorem j2b {xs:List V} {r:Int} (h0:0<=r) (h1:r < xs.length):∃v,atI xs r=some v/\v∈xs:=by
 obtain⟨j,rfl⟩:=Int.eq_ofNat_of_zero_le h0;have hj:j < xs.length:=by omega
 exact⟨xs[j],jbs (Am hj),Ez hj⟩
theorem jsb {n:Nat} (h:n<=1000):n<=Ax:=Nat.le_of_lt (jnf h)
theorem jyh:By "tuple"=some (.type "tuple"):=by decide +kernel
theorem j5p:By "int"=some (.type "int"):=by decide +kernel
theorem j5n:By "str"=some (.type "str"):=by decide +kernel
theorem j15:By "repr"=some (.builtin "repr"):=by decide +kernel
theorem jzt:By "isinstance"=some (.builtin "isinstance"):=by decide +kernel
theorem j5q:By "all"=some (.builtin "all"):=by decide +kernel
theorem jqj:By "list"=some (.type "list"):=by decide +kernel
theorem j16:By "bool"=some (.type "bool"):=by decide +kernel
theorem j7v {xs:List V} (h:xs.length<=63):cutV xs none (some 63)=xs:=by
 unfold cutV;have e1:HT.sIx xs.length 0 none=0:=rfl;have e2:HT.sIx xs.length xs.length (some 63)=xs.length:=by
  have e:=HT.sIx_nat xs.length xs.length 63;rw[show((63:Nat):Int)=63 from rfl]at e;rw[e];omega
 rw[e1,e2,List.drop_zero,Nat.sub_zero,List.take_length]
def jna (K:Ag):Sp:=λvs H Q _=>∃(a:Addr) (ns:List Int),vs=[.ref a]/\SqL K H a (ns.map V.int)/\ns.length<=63 /\
 ∀(t:Addr) (l:TL) (H':Hp),Tp H' t l ns 0->(∀b o,H b=some o->H' b=some o)->Q (.ref t) H'
def jy0:Sp:=λvs H Q _=>∃(t:Addr) (l:TL) (ns:List Int) (n many:Int),vs=[.ref t,.int many]/\Tp H t l ns n/\n < 2 ^ 40/\0 < many/\many < 1073741824 /\
 ∀(r:Int) (H':Hp),0<=r->r < many->Tp H' t l ns (n+1)->Kp t H H'->Q (.int r) H'
end Nb
namespace DL
open PySem L2 Nb
abbrev D:=Ab
mutual
inductive RdX (H:Hp) (B:Addr->Prop):V->Ab->Prop
 |non:RdX H B .non .none
 |bl (b:Bool):RdX H B (.bl b) (.bool b)
 |int (i:Int):RdX H B (.int i) (.int i)
 |str (x:Str) (h:x.length<=Ax):RdX H B (.str x) (.str x)
 |lst {a:Addr} {xs:List V} {ds:List Ab}:H a=some (.lst xs)->¬B a->xs.length<=Ax->RdXs H B xs ds->RdX H B (.ref a) (.list ds)
 |tup {a:Addr} {xs:List V} {ds:List Ab}:H a=some (.tup xs)->¬B a->xs.length<=Ax->RdXs H B xs ds->RdX H B (.ref a) (.tuple ds)
inductive RdXs (H:Hp) (B:Addr->Prop):List V->List Ab->Prop
 |nil:RdXs H B [] []
 |cons {x:V} {xs:List V} {d:Ab} {ds:List Ab}:RdX H B x d->RdXs H B xs ds->RdXs H B (x::xs) (d::ds)
end
mutual
theorem RdX.move {H H':Hp} {B B':Addr->Prop} (k:∀b o,H b=some o->¬B b->H' b=some o/\¬B' b):∀{v:V} {d:Ab},RdX H B v d->RdX H' B' v d
 |_,_,.non=>.non
 |_,_,.bl b=>.bl b
 |_,_,.int i=>.int i
 |_,_,.str x h=>.str x h
 |_,_,.lst h1 h2 h3 h4=>.lst (k _ _ h1 h2).1 (k _ _ h1 h2).2 h3 (RdXs.move k h4)
 |_,_,.tup h1 h2 h3 h4=>.tup (k _ _ h1 h2).1 (k _ _ h1 h2).2 h3 (RdXs.move k h4)
theorem RdXs.move {H H':Hp} {B B':Addr->Prop} (k:∀b o,H b=some o->¬B b->H' b=some o/\¬B' b):∀{vs:List V} {ds:List Ab},RdXs H B vs ds->RdXs H' B' vs ds
 |_,_,.nil=>.nil
 |_,_,.cons h1 h2=>.cons (RdX.move k h1) (RdXs.move k h2)
end
section
variable {H H':Hp} {B B':Addr->Prop} {v:V} {d:Ab} {vs ws:List V} {ds es:List Ab} {t:Addr}
theorem RdX.kp (k:Kp t H H') (ht:B t) (h:RdX H B v d):RdX H' B v d:=h.move λb o e n=>⟨k b o e λz=>n (z▸ht),n⟩
theorem RdXs.kp (k:Kp t H H') (ht:B t) (h:RdXs H B vs ds):RdXs H' B vs ds:=h.move λb o e n=>⟨k b o e λz=>n (z▸ht),n⟩
theorem RdX.less (k:∀b,B' b->B b) (h:RdX H B v d):RdX H B' v d:=h.move λb o e n=>⟨e,λz=>n (k b z)⟩
theorem RdXs.less (k:∀b,B' b->B b) (h:RdXs H B vs ds):RdXs H B' vs ds:=h.move λb o e n=>⟨e,λz=>n (k b z)⟩
theorem RdXs.keep (k:∀b o,H b=some o->¬B b->H' b=some o) (h:RdXs H B vs ds):RdXs H' B vs ds:=h.move λb o e n=>⟨k b o e n,n⟩
theorem RdXs.len:∀{vs:List V} {ds:List Ab},RdXs H B vs ds->vs.length=ds.length
 |_,_,.nil=>rfl
 |_,_,.cons _ t=>by rw[A3,A3,RdXs.len t]
theorem RdXs.getD:∀{vs:List V} {ds:List Ab} {i:Nat} {d:Ab},RdXs H B vs ds->ds[i]?=some d->∃v,vs[i]?=some v/\RdX H B v d
 |_,_,_,_,.nil,e=>by simp at e
 |_,_,0,_,.cons h _,e=>by
  simp at e;subst e;exact⟨_,rfl,h⟩
 |_,_,i+1,d,.cons _ t,e=>by
  obtain⟨v,h1,h2⟩:=RdXs.getD (i:=i) (d:=d) t (by simpa using e);exact⟨v,by simpa using h1,h2⟩
theorem RdXs.append:∀{vs ws:List V} {ds es:List Ab},RdXs H B vs ds->RdXs H B ws es->RdXs H B (vs++ws) (ds++es)
 |_,_,_,_,.nil,h=>h
 |_,_,_,_,.cons h1 h2,h=>.cons h1 (RdXs.append h2 h)
theorem RdXs.set:∀{vs:List V} {ds:List Ab} (i:Nat) {v:V} {d:Ab},RdXs H B vs ds->RdX H B v d->RdXs H B (vs.set i v) (ds.set i d)
 |_,_,_,_,_,.nil,_=>.nil
 |_,_,0,_,_,.cons _ t,h=>.cons h t
 |_,_,i+1,_,_,.cons q t,h=>.cons q (RdXs.set i t h)
theorem RdXs.take:∀{vs:List V} {ds:List Ab} (n:Nat),RdXs H B vs ds->RdXs H B (vs.take n) (ds.take n)
 |_,_,0,_=>.nil
 |_,_,_+1,.nil=>.nil
 |_,_,n+1,.cons r t=>.cons r (RdXs.take n t)
theorem RdXs.drop:∀{vs:List V} {ds:List Ab} (n:Nat),RdXs H B vs ds->RdXs H B (vs.drop n) (ds.drop n)
 |_,_,0,r=>r
 |_,_,_+1,.nil=>.nil
 |_,_,n+1,.cons _ t=>RdXs.drop n t
end
mutual
theorem RdX.rd {K:Ag} {H:Hp} {B:Addr->Prop}:∀{v:V} {d:Ab},RdX H B v d->RdD K H v d
 |_,_,.non=>.non
 |_,_,.bl b=>.bl b
 |_,_,.int i=>.int i
 |_,_,.str x h=>.str x
 |_,_,.lst h1 h2 h3 h4=>.lst (SqL.of h1) (RdXs.rd h4)
 |_,_,.tup h1 h2 h3 h4=>.tup (SqT.of h1) (RdXs.rd h4)
theorem RdXs.rd {K:Ag} {H:Hp} {B:Addr->Prop}:∀{vs:List V} {ds:List Ab},RdXs H B vs ds->RdAll K H vs ds
 |_,_,.nil=>.nil
 |_,_,.cons h1 h2=>.cons (RdX.rd h1) (RdXs.rd h2)
end
inductive Ob where
 |o | p (d:Ab) | k (m:List (Key×Ab)) | q (d:Ab) (m:List (Key×Ab))
inductive Wv where
 |d (x:Ab) | tp | dk (kvs:List (Key×Ab)) | ln (ds:List Ab) | ob (o:Ob)
def Wv.lent:Wv->Bool
 |.dk _=>true
 |.ln _=>true
 |_=>false
inductive SV where
 |w (x:Wv) | own (ds:List Ab) | odk (kvs:List (Key×Ab)) | odt (kvs:List (List Key×Ab))
abbrev Sl:=List (Option SV)
def RdK (H:Hp) (B:Addr->Prop):List (Key×V)->List (Key×Ab)->Prop:=Paired λp q=>p.1=q.1/\RdX H B p.2 q.2
theorem RdK.move {H H':Hp} {B B':Addr->Prop} (k:∀b o,H b=some o->¬B b->H' b=some o/\¬B' b) {l:List (Key×V)} {m:List (Key×Ab)} (h:RdK H B l m):RdK H' B' l m :=
 Paired.mapP h λ_ _ z=>⟨z.1,z.2.move k⟩
def RdT (H:Hp) (B:Addr->Prop):List (List Key×V)->List (List Key×Ab)->Prop:=Paired λp q=>p.1=q.1/\RdX H B p.2 q.2
theorem RdT.move {H H':Hp} {B B':Addr->Prop} (k:∀b o,H b=some o->¬B b->H' b=some o/\¬B' b) {l:List (List Key×V)} {m:List (List Key×Ab)} (h:RdT H B l m):RdT H' B' l m :=
 Paired.mapP h λ_ _ z=>⟨z.1,z.2.move k⟩
def ORel (H:Hp) (B:Addr->Prop) (v:V):Ob->Prop
 |.o=>∃a,v=.ref a
 |.p d=>∃a x y,v=.ref a/\H a=some (.tup [x,y])/\¬B a/\RdX H B x d
 |.k m=>∃a l,v=.ref a/\H a=some (.dK l)/\¬B a/\RdK H B l m
 |.q d m=>∃a x b l,v=.ref a/\H a=some (.tup [x,.ref b])/\¬B a/\RdX H B x d/\H b=some (.dK l)/\¬B b/\RdK H B l m
theorem ORel.move {H H':Hp} {B B':Addr->Prop} (k:∀b o,H b=some o->¬B b->H' b=some o/\¬B' b) {v:V} {o:Ob} (h:ORel H B v o):ORel H' B' v o:=by
 cases o with
 |o=>exact h
 |p d =>
  obtain⟨a,x,y,e,h1,h2,h3⟩:=h;exact⟨a,x,y,e,(k _ _ h1 h2).1,(k _ _ h1 h2).2,h3.move k⟩
 |k m =>
  obtain⟨a,l,e,h1,h2,h3⟩:=h;exact⟨a,l,e,(k _ _ h1 h2).1,(k _ _ h1 h2).2,h3.move k⟩
 |q d m =>
  obtain⟨a,x,b,l,e,h1,h2,h3,h4,h5,h6⟩:=h;exact⟨a,x,b,l,e,(k _ _ h1 h2).1,(k _ _ h1 h2).2,h3.move k,(k _ _ h4 h5).1,(k _ _ h4 h5).2,h6.move k⟩
def WRel (H:Hp) (B:Addr->Prop) (t:Addr) (v:V):Wv->Prop
 |.d x=>RdX H B v x
 |.tp=>v=.ref t
 |.dk kvs=>∃a l,v=.ref a/\H a=some (.dK l)/\a≠t/\RdK H B l kvs
 |.ln ds=>∃a xs,v=.ref a/\H a=some (.lst xs)/\a≠t/\xs.length<=Ax/\RdXs H B xs ds
 |.ob o=>ORel H B v o
def SRel (H0:Hp) (H:Hp) (B:Addr->Prop) (t:Addr) (v:V):SV->Prop
 |.w x=>WRel H B t v x/\(x.lent=true->∃a,v=.ref a/\H0 a≠none)
 |.own ds=>∃a xs,v=.ref a/\H a=some (.lst xs)/\B a/\H0 a=none/\xs.length<=Ax/\RdXs H B xs ds
 |.odk kvs=>∃a l,v=.ref a/\H a=some (.dK l)/\B a/\H0 a=none/\l.length<=1000/\RdK H B l kvs
 |.odt kvs=>∃a l,v=.ref a/\H a=some (.dT l)/\B a/\H0 a=none/\l.length<=1000/\RdT H B l kvs
def SV.isOwn:SV->Bool
 |.w _=>false
 |_=>true
structure Ctx where
 t:Addr
 l:TL
 ns:List Int
 H0:Hp
 B0:Addr->Prop
 fz:Hp
structure Rel (C:Ctx) (H:Hp) (B:Addr->Prop) (σ:St) (δ:Sl) (n:Int):Prop where
 tp:Tp H C.t C.l C.ns n
 kp:Kp C.t C.H0 H
 t0:C.H0 C.t≠none
 l0:C.H0 C.l.s≠none
 g0:jtd=true->C.H0 C.l.g≠none
 fz:∀b o,C.fz b=some o->H b=some o/\¬B b
 bt:B C.t
 b0:∀b,C.B0 b->B b
 ba:∀b,B b->H b≠none
 a0:∀b,C.B0 b->C.H0 b≠none
 sl:∀(i:Nat) (x:SV),δ[i]?=some (some x)->∃v,σ[i]?=some (some v)/\SRel C.H0 H B C.t v x
 ow:∀(i j:Nat) (x y:SV) (v:V),δ[i]?=some (some x)->δ[j]?=some (some y)->x.isOwn=true->y.isOwn=true->σ[i]?=some (some v)->σ[j]?=some (some v)->i=j
 len:σ.length=δ.length
theorem WRel.kp {H H':Hp} {B:Addr->Prop} {t:Addr} {v:V} {x:Wv} (k:Kp t H H') (ht:B t) (h:WRel H B t v x):WRel H' B t v x:=by
 cases x with
 |d x=>exact RdX.kp k ht h
 |tp=>exact h
 |dk kvs =>
  obtain⟨a,l,e,h1,h2,h3⟩:=h;exact⟨a,l,e,k _ _ h1 h2,h2,h3.move λb o e n=>⟨k b o e λz=>n (z▸ht),n⟩⟩
 |ln ds =>
  obtain⟨a,l,e,h1,h2,h3,h4⟩:=h;exact⟨a,l,e,k _ _ h1 h2,h2,h3,h4.kp k ht⟩
 |ob o=>exact ORel.move (λb o e n=>⟨k b o e λz=>n (z▸ht),n⟩) h
theorem WRel.less {H:Hp} {B B':Addr->Prop} {t:Addr} {v:V} {x:Wv} (k:∀b,B' b->B b) (h:WRel H B t v x):WRel H B' t v x:=by
 cases x with
 |d x=>exact RdX.less k h
 |tp=>exact h
 |dk kvs =>
  obtain⟨a,l,e,h1,h2,h3⟩:=h;exact⟨a,l,e,h1,h2,h3.move λb o e n=>⟨e,λz=>n (k b z)⟩⟩
 |ln ds =>
  obtain⟨a,l,e,h1,h2,h3,h4⟩:=h;exact⟨a,l,e,h1,h2,h3,h4.less k⟩
 |ob o=>exact ORel.move (λb o e n=>⟨e,λz=>n (k b z)⟩) h
theorem SRel.kp {H0 H H':Hp} {B:Addr->Prop} {t:Addr} {v:V} {x:SV} (k:Kp t H H') (ht:B t) (t0:H0 t≠none) (h:SRel H0 H B t v x):SRel H0 H' B t v x:=by
 cases x with
 |w x=>exact⟨h.1.kp k ht,h.2⟩
 |own ds =>
  obtain⟨a,xs,e,h1,h2,h3,h4,h5⟩:=h;exact⟨a,xs,e,k _ _ h1 (λz=>t0 (z▸h3)),h2,h3,h4,h5.kp k ht⟩
 |odk kvs =>
  obtain⟨a,l,e,h1,h2,h3,h4,h5⟩:=h;exact⟨a,l,e,k _ _ h1 (λz=>t0 (z▸h3)),h2,h3,h4,h5.move λb o e n=>⟨k b o e λz=>n (z▸ht),n⟩⟩
 |odt kvs =>
  obtain⟨a,l,e,h1,h2,h3,h4,h5⟩:=h;exact⟨a,l,e,k _ _ h1 (λz=>t0 (z▸h3)),h2,h3,h4,h5.move λb o e n=>⟨k b o e λz=>n (z▸ht),n⟩⟩
theorem Rel.step {C:Ctx} {H H':Hp} {B:Addr->Prop} {σ:St} {δ:Sl} {n n':Int} (R:Rel C H B σ δ n) (T:Tp H' C.t C.l C.ns n') (k:Kp C.t H H'):Rel C H' B σ δ n' where
 tp:=T
 kp:=R.kp.trans k
 t0:=R.t0
 l0:=R.l0
 g0:=R.g0
 fz:=λb o e=>⟨k b o (R.fz b o e).1 λz=>(R.fz b o e).2 (z▸R.bt),(R.fz b o e).2⟩
 bt:=R.bt
 b0:=R.b0
 ba:=λb hb e=>by
  by_cases z:b=C.t
  ·subst z;obtain⟨x,y,h,_⟩:=T.ob;rw[h]at e;cases e
  ·cases q:H b with
   |none=>exact R.ba b hb q
   |some o=>rw[k b o q z]at e;cases e
 a0:=R.a0
 sl:=λi x e=>by
  obtain⟨v,h1,h2⟩:=R.sl i x e;exact⟨v,h1,h2.kp k R.bt R.t0⟩
 ow:=R.ow
 len:=R.len
theorem Rel.new {C:Ctx} {H:Hp} {B:Addr->Prop} {σ:St} {δ:Sl} {n:Int} {p:Addr} {o:HO} (R:Rel C H B σ δ n) (h:H p=none):Rel C (upd H p o) B σ δ n:=R.step (R.tp.new h) (Kp.new h)
theorem Rel.nb {C:Ctx} {H:Hp} {B:Addr->Prop} {σ:St} {δ:Sl} {n:Int} {p:Addr} (R:Rel C H B σ δ n) (h:H p=none):¬B p:=λz=>R.ba p z h
theorem jap {α:Type} {l:List (Option α)} {i j:Nat} {x y:α} (h:(l.set i (some x))[j]?=some (some y)):(j=i/\y=x)\/(j≠i/\l[j]?=some (some y)):=by
 by_cases e:i=j
 ·subst e;rw[Fg]at h;cases q:l[i]? with
  |none=>rw[q]at h;cases h
  |some z =>
   rw[q]at h;exact .inl ⟨rfl,(Bo (Bo h)).symm⟩
 ·rw[C8 e]at h;exact .inr ⟨λz=>e z.symm,h⟩
theorem jq0 {α:Type} {l:List (Option α)} {i:Nat} {x y:Option α} (h:(l.set i x)[i]?=some y):i < l.length:=by
 have:=(Bp.mp h).1;rwa [Df]at this
theorem jcu {α:Type} {l:List (Option α)} {i:Nat} {x:α} (h:i < l.length):(l.set i (some x))[i]?=some (some x):=by simp[h]
theorem jbx {α:Type} {l:List (Option α)} {i j:Nat} {x:α} (h:j≠i):(l.set i (some x))[j]?=l[j]?:=C8 (λz=>h z.symm)
theorem Rel.set {C:Ctx} {H:Hp} {B:Addr->Prop} {σ:St} {δ:Sl} {n:Int} {i:Nat} {v:V} {x:Wv} (R:Rel C H B σ δ n) (h:WRel H B C.t v x) (hx:x.lent=false):Rel C H B (σ.set i (some v)) (δ.set i (some (.w x))) n where
 tp:=R.tp
 kp:=R.kp
 t0:=R.t0
 l0:=R.l0
 g0:=R.g0
 fz:=R.fz
 bt:=R.bt
 b0:=R.b0
 ba:=R.ba
 a0:=R.a0
 sl:=λj y e=>by
  rcases jap e with⟨rfl,rfl⟩ | ⟨ne,e'⟩
  ·exact⟨v,jcu (by rw[R.len];exact jq0 e),h,λz=>by rw[hx]at z;cases z⟩
  ·obtain⟨u,h1,h2⟩:=R.sl j y e';exact⟨u,by rw[jbx ne];exact h1,h2⟩
 ow:=λj k y z u e1 e2 o1 o2 f1 f2=>by
  rcases jap e1 with⟨rfl,rfl⟩ | ⟨ne1,e1'⟩
  ·cases o1
  ·rcases jap e2 with⟨rfl,rfl⟩ | ⟨ne2,e2'⟩
   ·cases o2
   ·rw[jbx ne1]at f1;rw[jbx ne2]at f2;exact R.ow j k y z u e1' e2' o1 o2 f1 f2
 len:=by rw[Df,Df];exact R.len
theorem Rel.mut {C:Ctx} {H:Hp} {B:Addr->Prop} {σ:St} {δ:Sl} {n:Int} {a:Addr} {o:HO} (R:Rel C H B σ δ n) (hb:B a) (h0:C.H0 a=none)
  (ho:∀(i:Nat) (x:SV),δ[i]?=some (some x)->x.isOwn=true->σ[i]?≠some (some (.ref a))):Rel C (upd H a o) B σ δ n where
 tp:=R.tp.other (λz=>R.t0 (z▸h0)) (λz=>R.l0 (z▸h0)) (λe z=>R.g0 e (z▸h0))
 kp:=λb o' e ne=>by
  rw[jag (jae e h0)];exact R.kp b o' e ne
 t0:=R.t0
 l0:=R.l0
 g0:=R.g0
 fz:=λb o' e=>⟨by rw[jag λ(z:b=a)=>(R.fz b o' e).2 (z▸hb)];exact(R.fz b o' e).1,(R.fz b o' e).2⟩
 bt:=R.bt
 b0:=R.b0
 ba:=λb hb' e=>by
  by_cases z:b=a
  ·rw[z,jai]at e;cases e
  ·rw[jag z]at e;exact R.ba b hb' e
 a0:=R.a0
 sl:=λi x e=>by
  obtain⟨v,h1,h2⟩:=R.sl i x e;have mv:∀b o',H b=some o'->¬B b->upd H a o b=some o'/\¬B b:=λb o' e n=>⟨by rw[jag λ(z:b=a)=>n (z▸hb)];exact e,n⟩;refine⟨v,h1,?_⟩;cases x with
  |w x =>
   refine⟨?_,h2.2⟩;cases x with
   |d x=>exact h2.1.move mv
   |tp=>exact h2.1
   |dk kvs =>
    obtain⟨a',l,e1,e2,e3,e4⟩:=h2.1;obtain⟨a'',f1,f2⟩:=h2.2 rfl;rw[e1]at f1;cases f1;exact⟨a',l,e1,by rw[jag λ(z:a'=a)=>f2 (z▸h0)];exact e2,e3,e4.move mv⟩
   |ln ds =>
    obtain⟨a',l,e1,e2,e3,e4,e5⟩:=h2.1;obtain⟨a'',f1,f2⟩:=h2.2 rfl;rw[e1]at f1;cases f1;exact⟨a',l,e1,by rw[jag λ(z:a'=a)=>f2 (z▸h0)];exact e2,e3,e4,e5.move mv⟩
   |ob o=>exact ORel.move mv h2.1
  |own ds =>
   obtain⟨a',xs,e1,e2,e3,e4,e5,e6⟩:=h2;have ne:a'≠a:=λz=>ho i _ e rfl (by rw[h1,e1,z]);exact⟨a',xs,e1,by rw[jag ne];exact e2,e3,e4,e5,e6.move mv⟩
  |odk kvs =>
   obtain⟨a',xs,e1,e2,e3,e4,e5,e6⟩:=h2;have ne:a'≠a:=λz=>ho i _ e rfl (by rw[h1,e1,z]);exact⟨a',xs,e1,by rw[jag ne];exact e2,e3,e4,e5,e6.move mv⟩
  |odt kvs =>
   obtain⟨a',xs,e1,e2,e3,e4,e5,e6⟩:=h2;have ne:a'≠a:=λz=>ho i _ e rfl (by rw[h1,e1,z]);exact⟨a',xs,e1,by rw[jag ne];exact e2,e3,e4,e5,e6.move mv⟩
 ow:=R.ow
 len:=R.len
theorem Rel.mutOwn {C:Ctx} {H:Hp} {B:Addr->Prop} {σ:St} {δ:Sl} {n:Int} {i:Nat} {x x':SV} {a:Addr} {o:HO} (R:Rel C H B σ δ n) (hi:δ[i]?=some (some x)) (hx:x.isOwn=true) (hσ:σ[i]?=some (some (.ref a))) (hb:B a) (h0:C.H0 a=none)
  (h:SRel C.H0 (upd H a o) B C.t (.ref a) x') (hx':x'.isOwn=true):Rel C (upd H a o) B σ (δ.set i (some x')) n:=by
 -- first the other slots: slot i is taken out
 have R1:Rel C H B σ (δ.set i none) n:={
  tp:=R.tp,kp:=R.kp,t0:=R.t0,l0:=R.l0,g0:=R.g0,fz:=R.fz,bt:=R.bt,b0:=R.b0,ba:=R.ba,a0:=R.a0
  sl:=λj y e=>by
   by_cases z:i=j
   ·subst z;rw[Fg]at e;rw[hi]at e;cases e
   ·rw[C8 z]at e;exact R.sl j y e
  ow:=λj k y z u e1 e2 o1 o2 f1 f2=>by
   have g:∀{m:Nat} {w:SV},(δ.set i none)[m]?=some (some w)->δ[m]?=some (some w):=λ{m w} e=>by
    by_cases q:i=m
    ·subst q;rw[Fg,hi]at e;cases e
    ·rwa [C8 q]at e
   exact R.ow j k y z u (g e1) (g e2) o1 o2 f1 f2
  len:=by rw[Df];exact R.len}
 have R2:Rel C (upd H a o) B σ (δ.set i none) n:=R1.mut hb h0 λj y e oy f=>by
  by_cases z:i=j
  ·subst z;rw[Fg,hi]at e;cases e
  ·rw[C8 z]at e;exact z (R.ow i j x y _ hi e hx oy hσ f)
 have hlt:i < δ.length:=(Bp.mp hi).1;exact{
  tp:=R2.tp,kp:=R2.kp,t0:=R2.t0,l0:=R2.l0,g0:=R2.g0,fz:=R2.fz,bt:=R2.bt,b0:=R2.b0,ba:=R2.ba,a0:=R2.a0
  sl:=λj y e=>by
   rcases jap e with⟨rfl,rfl⟩ | ⟨ne,e'⟩
   ·exact⟨_,hσ,h⟩
   ·exact R2.sl j y (by rw[C8 λz=>ne z.symm];exact e')
  ow:=λj k y z u e1 e2 o1 o2 f1 f2=>by
   rcases jap e1 with⟨rfl,rfl⟩ | ⟨ne1,e1'⟩
   ·rcases jap e2 with⟨rfl,rfl⟩ | ⟨ne2,e2'⟩
    ·rfl
    ·exact R.ow _ _ x z u hi e2' hx o2 f1 f2
   ·rcases jap e2 with⟨rfl,rfl⟩ | ⟨ne2,e2'⟩
    ·exact R.ow _ _ y x u e1' hi o1 hx f1 f2
    ·exact R.ow j k y z u e1' e2' o1 o2 f1 f2
  len:=by rw[Df];exact R.len}
theorem Rel.own {C:Ctx} {H H':Hp} {B:Addr->Prop} {σ:St} {δ:Sl} {n n':Int} {i:Nat} {a:Addr} {x:SV} (R:Rel C H B σ δ n) (R':Rel C H' B σ δ n') (k:Kp C.t H H') (h0:H a=none) (h1:H' a≠none) (hx:x.isOwn=true)
  (h:SRel C.H0 H' (λb=>B b\/b=a) C.t (.ref a) x):Rel C H' (λb=>B b\/b=a) (σ.set i (some (.ref a))) (δ.set i (some x)) n' where
 tp:=R'.tp
 kp:=R'.kp
 t0:=R'.t0
 l0:=R'.l0
 g0:=R'.g0
 fz:=λb o e=>⟨(R'.fz b o e).1,λz=>z.elim (R'.fz b o e).2 λq=>jae (R.fz b o e).1 h0 q⟩
 bt:=.inl R.bt
 b0:=λb z=>.inl (R.b0 b z)
 ba:=λb z=>z.elim (R'.ba b) λq=>q▸h1
 a0:=R.a0
 sl:=λj y e=>by
  have hta:C.t≠a:=λz=>by
   obtain⟨_,_,q,_⟩:=R.tp.ob;rw[z,h0]at q;cases q
  have mv:∀b o',H b=some o'->¬B b->H' b=some o'/\¬(B b\/b=a):=λb o' e n=>⟨k b o' e λz=>n (z▸R.bt),λz=>z.elim n λq=>jae e h0 q⟩;rcases jap e with⟨rfl,rfl⟩ | ⟨ne,e'⟩
  ·exact⟨_,jcu (by rw[R.len];exact jq0 e),h⟩
  ·obtain⟨v,f1,f2⟩:=R.sl j y e';refine⟨v,by rw[jbx ne];exact f1,?_⟩;cases y with
   |w y =>
    refine⟨?_,f2.2⟩;cases y with
    |d y=>exact f2.1.move mv
    |tp=>exact f2.1
    |dk kvs =>
     obtain⟨a',l,e1,e2,e3,e4⟩:=f2.1;exact⟨a',l,e1,k _ _ e2 e3,e3,e4.move mv⟩
    |ln ds =>
     obtain⟨a',l,e1,e2,e3,e4,e5⟩:=f2.1;exact⟨a',l,e1,k _ _ e2 e3,e3,e4,e5.move mv⟩
    |ob o=>exact ORel.move mv f2.1
   |own ds =>
    obtain⟨a',xs,e1,e2,e3,e4,e5,e6⟩:=f2;exact⟨a',xs,e1,k _ _ e2 (λz=>R.t0 (z▸e4)),.inl e3,e4,e5,e6.move mv⟩
   |odk kvs =>
    obtain⟨a',xs,e1,e2,e3,e4,e5,e6⟩:=f2;exact⟨a',xs,e1,k _ _ e2 (λz=>R.t0 (z▸e4)),.inl e3,e4,e5,e6.move mv⟩
   |odt kvs =>
    obtain⟨a',xs,e1,e2,e3,e4,e5,e6⟩:=f2;exact⟨a',xs,e1,k _ _ e2 (λz=>R.t0 (z▸e4)),.inl e3,e4,e5,e6.move mv⟩
 ow:=λj m y z u e1 e2 o1 o2 f1 f2=>by
  have out:∀{p:Nat} {w:SV},δ[p]?=some (some w)->w.isOwn=true->σ[p]?=some (some (.ref a))->False:=λ{p w} e ow f=>by
   obtain⟨v,g1,g2⟩:=R.sl p w e;rw[f]at g1;cases g1;cases w with
   |w _=>cases ow
   |own ds =>
    obtain⟨a',xs,e1,e2,_⟩:=g2;cases e1;rw[h0]at e2;cases e2
   |odk ds =>
    obtain⟨a',xs,e1,e2,_⟩:=g2;cases e1;rw[h0]at e2;cases e2
   |odt ds =>
    obtain⟨a',xs,e1,e2,_⟩:=g2;cases e1;rw[h0]at e2;cases e2
  rcases jap e1 with⟨rfl,rfl⟩ | ⟨ne1,e1'⟩
  ·rcases jap e2 with⟨rfl,rfl⟩ | ⟨ne2,e2'⟩
   ·rfl
   ·rw[jcu (by rw[R.len];exact jq0 e1)]at f1;rw[jbx ne2]at f2;cases f1;exact(out e2' o2 f2).elim
  ·rcases jap e2 with⟨rfl,rfl⟩ | ⟨ne2,e2'⟩
   ·rw[jcu (by rw[R.len];exact jq0 e2)]at f2;rw[jbx ne1]at f1;cases f2;exact(out e1' o1 f1).elim
   ·rw[jbx ne1]at f1;rw[jbx ne2]at f2;exact R.ow j m y z u e1' e2' o1 o2 f1 f2
 len:=by rw[Df,Df];exact R.len
theorem Rel.give {C:Ctx} {H:Hp} {B:Addr->Prop} {σ:St} {δ:Sl} {n:Int} {i:Nat} {x:SV} {y:Wv} {a:Addr} (R:Rel C H B σ δ n) (hi:δ[i]?=some (some x)) (ox:x.isOwn=true) (hv:σ[i]?=some (some (.ref a))) (e4:C.H0 a=none) (hy:WRel H (λb=>B b/\b≠a) C.t (.ref a) y) (hl:y.lent=false):Rel C H (λb=>B b/\b≠a) σ (δ.set i (some (.w y))) n:=by
 have less:∀b,(B b/\b≠a)->B b:=λb z=>z.1;exact{
  tp:=R.tp,kp:=R.kp,t0:=R.t0,l0:=R.l0,g0:=R.g0
  fz:=λb o e=>⟨(R.fz b o e).1,λz=>(R.fz b o e).2 z.1⟩
  bt:=⟨R.bt,λz=>R.t0 (z▸e4)⟩
  b0:=λb z=>⟨R.b0 b z,λq=>R.a0 b z (q▸e4)⟩
  ba:=λb z=>R.ba b z.1
  a0:=R.a0
  sl:=λj y' e=>by
   rcases jap e with⟨rfl,rfl⟩ | ⟨ne,e'⟩
   ·exact⟨_,hv,hy,λz=>by rw[hl]at z;cases z⟩
   ·obtain⟨u,f1,f2⟩:=R.sl j y' e';refine⟨u,f1,?_⟩;cases y' with
    |w y=>exact⟨f2.1.less less,f2.2⟩
    |own ds' =>
     obtain⟨a',xs',g1,g2,g3,g4,g5,g6⟩:=f2;refine⟨a',xs',g1,g2,⟨g3,λz=>?_⟩,g4,g5,g6.less less⟩;exact ne (R.ow j i _ _ _ e' hi rfl ox f1 (by rw[hv,g1,z]))
    |odk ds' =>
     obtain⟨a',xs',g1,g2,g3,g4,g5,g6⟩:=f2;refine⟨a',xs',g1,g2,⟨g3,λz=>?_⟩,g4,g5,g6.move λb o e n=>⟨e,λz=>n z.1⟩⟩;exact ne (R.ow j i _ _ _ e' hi rfl ox f1 (by rw[hv,g1,z]))
    |odt ds' =>
     obtain⟨a',xs',g1,g2,g3,g4,g5,g6⟩:=f2;refine⟨a',xs',g1,g2,⟨g3,λz=>?_⟩,g4,g5,g6.move λb o e n=>⟨e,λz=>n z.1⟩⟩;exact ne (R.ow j i _ _ _ e' hi rfl ox f1 (by rw[hv,g1,z]))
  ow:=λj k y z u e1 e2 o1 o2 f1 f2=>by
   rcases jap e1 with⟨rfl,rfl⟩ | ⟨ne1,e1'⟩
   ·cases o1
   ·rcases jap e2 with⟨rfl,rfl⟩ | ⟨ne2,e2'⟩
    ·cases o2
    ·exact R.ow j k y z u e1' e2' o1 o2 f1 f2
  len:=by rw[Df];exact R.len}
theorem Rel.frz {C:Ctx} {H:Hp} {B:Addr->Prop} {σ:St} {δ:Sl} {n:Int} {i:Nat} {ds:List Ab} (R:Rel C H B σ δ n) (hi:δ[i]?=some (some (.own ds))):∃B',Rel C H B' σ (δ.set i (some (.w (.d (.list ds))))) n:=by
 obtain⟨v,hv,a,xs,rfl,e2,e3,e4,e5,e6⟩:=R.sl i _ hi;exact⟨_,R.give hi rfl hv e4 (show RdX H _ (.ref a) (.list ds)from .lst e2 (λz=>z.2 rfl) e5 (e6.less λb z=>z.1)) rfl⟩
theorem Rel.frzK {C:Ctx} {H:Hp} {B:Addr->Prop} {σ:St} {δ:Sl} {n:Int} {i:Nat} {m:List (Key×Ab)} (R:Rel C H B σ δ n) (hi:δ[i]?=some (some (.odk m))):∃B',Rel C H B' σ (δ.set i (some (.w (.ob (.k m))))) n:=by
 obtain⟨v,hv,a,xs,rfl,e2,e3,e4,e5,e6⟩:=R.sl i _ hi;exact⟨_,R.give hi rfl hv e4 ⟨a,xs,rfl,e2,λz=>z.2 rfl,e6.move λb o e n=>⟨e,λz=>n z.1⟩⟩ rfl⟩
abbrev DQ:=Wv->Int->Prop
abbrev DT:=Sl->Int->DQ->Prop
abbrev DTT:=Sl->Int->(Bool->Int->Prop)->Prop
abbrev DTA:=Sl->Int->(List Wv->Int->Prop)->Prop
inductive ARel (H:Hp) (B:Addr->Prop) (t:Addr):List V->List Wv->Prop
 |nil:ARel H B t [] []
 |cons {v:V} {vs:List V} {x:Wv} {xs:List Wv}:WRel H B t v x->ARel H B t vs xs->ARel H B t (v::vs) (x::xs)
theorem ARel.kp {H H':Hp} {B:Addr->Prop} {t:Addr} (k:Kp t H H') (ht:B t):∀{vs:List V} {xs:List Wv},ARel H B t vs xs->ARel H' B t vs xs
 |_,_,.nil=>.nil
 |_,_,.cons a b=>.cons (a.kp k ht) (ARel.kp k ht b)
theorem ARel.len {H:Hp} {B:Addr->Prop} {t:Addr}:∀{vs:List V} {xs:List Wv},ARel H B t vs xs->vs.length=xs.length
 |_,_,.nil=>rfl
 |_,_,.cons _ b=>by rw[A3,A3,ARel.len b]
def Snd (t:TE) (w:DT):Prop:=∀(C:Ctx) (H:Hp) (B:Addr->Prop) (σ:St) (δ:Sl) (n:Int) (Q:DQ) (Q':VK),Rel C H B σ δ n->w δ n Q ->
 (∀v x H' n',Rel C H' B σ δ n'->Kp C.t H H'->WRel H' B C.t v x->Q x n'->Q' v H')->t σ H Q'
def SndT (t:TT) (w:DTT):Prop:=∀(C:Ctx) (H:Hp) (B:Addr->Prop) (σ:St) (δ:Sl) (n:Int) (Q:Bool->Int->Prop) (Q':Bool->Hp->Prop),Rel C H B σ δ n->w δ n Q ->
 (∀b H' n',Rel C H' B σ δ n'->Kp C.t H H'->Q b n'->Q' b H')->t σ H Q'
def SndA (t:TA) (w:DTA):Prop:=∀(C:Ctx) (H:Hp) (B:Addr->Prop) (σ:St) (δ:Sl) (n:Int) (Q:List Wv->Int->Prop) (Q':List V->Hp->Prop),Rel C H B σ δ n->w δ n Q ->
 (∀vs xs H' n',Rel C H' B σ δ n'->Kp C.t H H'->ARel H' B C.t vs xs->Q xs n'->Q' vs H')->t σ H Q'
abbrev DTF:=Sl->Int->(List Ab->Int->Prop)->Prop
def SndF (t:TE) (w:DTF):Prop:=∀(C:Ctx) (H:Hp) (B:Addr->Prop) (σ:St) (δ:Sl) (n:Int) (Q:List Ab->Int->Prop) (Q':VK),Rel C H B σ δ n->w δ n Q ->
 (∀a xs ds H' n',Rel C H' B σ δ n'->Kp C.t H H'->H a=none->H' a=some (.lst xs)->xs.length<=Ax->RdXs H' (λb=>B b\/b=a) xs ds->Q ds n'->Q' (.ref a) H')->t σ H Q'
structure DE (X:Cx) (e:Expr) (t:TE) (w:DT):Prop where
 pe:PE X e t
 sd:Snd t w
structure DC (X:Cx) (e:Expr) (t:TT) (w:DTT):Prop where
 pt:PT X e t
 sd:SndT t w
structure DCW (X:Cx) (e:Expr) (t:TT) (w:DTT):Prop where
 pw:PW X e t
 sd:SndT t w
structure DA (X:Cx) (es:List Expr) (t:TA) (w:DTA):Prop where
 pa:PA X es t
 sd:SndA t w
structure DF (X:Cx) (e:Expr) (t:TE) (w:DTF):Prop where
 pe:PE X e t
 sd:SndF t w
variable {X:Cx} {a b c e:Expr} {ta tb tc te:TE} {wa wb wc we:DT} {pos:Pos}
def wVar (i:Nat):DT:=λδ n Q=>match δ[i]? with
 |some (some (.w x))=>Q x n
 |_=>False
theorem j7e (i:Nat) {x:Str} {p:Pos} (hN:X.N[i]?=some x:=by rfl) (hv:Vis X.env.scope x:=by first | exact D1 rfl | exact C0 (D1 rfl) | exact C0 (C0 rfl)) (hd:(x==("__debug__":Str))=false:=by decide)
  (hcd:(x==("__classdict__":Str))=false:=by decide):DE X (.Name x p) (tVar i) (wVar i):=⟨jh5 hN hv hd hcd,λC H B σ δ n Q Q' R h k=>by
 unfold wVar at h
 split at h
 ·rename_i x e;obtain⟨v,h1,h2⟩:=R.sl i _ e;exact⟨v,h1,k v x H n R (Kp.refl _ _) h2.1 h⟩
 ·exact h.elim⟩
def wC (d:Ab):DT:=λ_ n Q=>Q (.d d) n
theorem jt7 {v:V} {d:Ab} (h:∀H B,RdX H B v d):Snd (tC v) (wC d):=λC H B σ δ n Q Q' R q k=>k v (.d d) H n R (Kp.refl _ _) (h H B) q
theorem j7s {i j p}:DE X (.Constant (.int i) j p) (tC (.int i)) (wC (.int i)):=⟨jay,jt7 λ_ _=>.int i⟩
theorem d_bl {i j p}:DE X (.Constant (.bool i) j p) (tC (.bl i)) (wC (.bool i)):=⟨j6t,jt7 λ_ _=>.bl i⟩
theorem j7n {j p}:DE X (.Constant .none j p) (tC .non) (wC .none):=⟨jq7,jt7 λ_ _=>.non⟩
theorem j7i {x j p} (h:Str.length x<=Ax:=by decide +kernel):DE X (.Constant (.str x) j p) (tC (.str x)) (wC (.str x)):=⟨j3x,jt7 λ_ _=>.str x h⟩
theorem j5f {x:Str} {i:Int} {tk:Tok} {p:Pos} (hg:Gl X x) (hm:X.mg x=some (.int i tk)) (hd:(x==("__debug__":Str))=false:=by decide):DE X (.Name x p) (tC (.int i)) (wC (.int i)):=⟨juw hg hm ⟨tk,rfl⟩ hd,jt7 λ_ _=>.int i⟩
def w2 (wa wb:DT) (g:Wv->Wv->Int->DQ->Prop):DT:=λδ n Q=>wa δ n λx n1=>wb δ n1 λy n2=>g x y n2 Q
def SndO (r:R2) (g:Wv->Wv->Int->DQ->Prop):Prop:=∀(C:Ctx) (H:Hp) (B:Addr->Prop) (σ:St) (δ:Sl) (n:Int) (x y:V) (p q:Wv) (Q:DQ) (Q':VK),Rel C H B σ δ n->WRel H B C.t x p->WRel H B C.t y q->g p q n Q ->
 (∀v x H' n',Rel C H' B σ δ n'->Kp C.t H H'->WRel H' B C.t v x->Q x n'->Q' v H')->r x y H Q'
theorem jnb {r:R2} {g:Wv->Wv->Int->DQ->Prop} (hr:SndO r g) (ha:Snd ta wa) (hb:Snd tb wb):Snd (tOp r ta tb) (w2 wa wb g):=λC H B σ δ n Q Q' R h k =>
 ha C H B σ δ n _ _ R h λv x H1 n1 R1 k1 r1 q1=>hb C H1 B σ δ n1 _ _ R1 q1 λu y H2 n2 R2 k2 r2 q2 =>
  hr C H2 B σ δ n2 v u x y Q Q' R2 (r1.kp k2 R1.bt) r2 q2 λz p H3 n3 R3 k3 r3 q3=>k z p H3 n3 R3 ((k1.trans k2).trans k3) r3 q3
theorem d_op {op:Operator} {r:R2} {g:Wv->Wv->Int->DQ->Prop} (ho:OpR X (Dr op) r) (hr:SndO r g) (ha:DE X a ta wa) (hb:DE X b tb wb):DE X (.BinOp a op b pos) (tOp r ta tb) (w2 wa wb g) :=
 ⟨jci ho ha.pe hb.pe,jnb hr ha.sd hb.sd⟩
theorem jqh {op:CmpOp} {r:R2} {g:Wv->Wv->Int->DQ->Prop} (ho:OpR X (Bt op) r) (hr:SndO r g) (ha:DE X a ta wa) (hb:DE X b tb wb) (hm:D0 op b=false):DE X (.Compare a [op] [b] pos) (tOp r ta tb) (w2 wa wb g) :=
 ⟨j05 ho ha.pe hb.pe hm,jnb hr ha.sd hb.sd⟩
def cT (w:DT):DTT:=λδ n Q=>w δ n λx n'=>match x with
 |.d (.bool k)=>Q k n'
 |_=>False
theorem wd {H:Hp} {B:Addr->Prop} {t:Addr} {v:V} {d:Ab} (h:RdX H B v d):WRel H B t v (.d d):=h
theorem jhm {t:TE} {w:DT} (h:Snd t w):SndT (jpm t) (cT w):=λC H B σ δ n Q Q' R q k =>
 h C H B σ δ n _ _ R q λv x H' n' R' k' r' q'=>by
  split at q'
  ·rename_i b;cases(show RdX H' B v (.bool b)from r');exact⟨b,rfl,k b H' n' R' k' q'⟩
  ·exact q'.elim
theorem jgd {op:CmpOp} {r:R2} {g:Wv->Wv->Int->DQ->Prop} (ho:OpR X (Bt op) r) (hr:SndO r g) (ha:DE X a ta wa) (hb:DE X b tb wb) (hm:D0 op b=false):DC X (.Compare a [op] [b] pos) (jpm (tOp r ta tb)) (cT (w2 wa wb g)) :=
 ⟨jf1 ho ha.pe hb.pe hm,jhm (jnb hr ha.sd hb.sd)⟩
theorem j7y {t:TE} {w:DT} (h:DE X e t w) (he:∀whole,isTrue e X.env whole=(do let v <-whole;standAt e.pos;holding [v] (truthy v)):=by intro _;rfl):DC X e (jpm t) (cT w):=⟨j3o h.pe he,jhm h.sd⟩
def jkj (x:Wv) (A B:Prop):Prop:=match x with
 |.d (.bool true)=>A
 |.d (.bool false)=>B
 |_=>False
theorem ja2 (b:Bool) (A B:Prop):jkj (.d (.bool b)) A B=if b=true then A else B:=by cases b<;>simp[jkj]
def jas (g g':Wv->Wv->Int->DQ->Prop) (wa wb wc:DT):DT:=λδ n Q=>wa δ n λx n1=>wb δ n1 λy n2=>g x y n2 λz n3=>jkj z (wc δ n3 λu n4=>g' y u n4 Q) (Q (.d (.bool false)) n3)
theorem jne {r r':R2} {g g':Wv->Wv->Int->DQ->Prop} (hr:SndO r g) (hr':SndO r' g') (ha:Snd ta wa) (hb:Snd tb wb) (hc:Snd tc wc):Snd (jm4 r r' ta tb tc) (jas g g' wa wb wc):=λC H B σ δ n Q Q' R h k =>
 ha C H B σ δ n _ _ R h λv x H1 n1 R1 k1 r1 q1=>hb C H1 B σ δ n1 _ _ R1 q1 λu y H2 n2 R2 k2 r2 q2 =>
  hr C H2 B σ δ n2 v u x y _ _ R2 (r1.kp k2 R1.bt) r2 q2 λz p H3 n3 R3 k3 r3 q3=>by
   have k13:=(k1.trans k2).trans k3;unfold jkj at q3
   split at q3
   ·cases(show RdX H3 B z (.bool true)from r3);refine⟨true,rfl,?_⟩;rw[if_pos rfl];exact hc C H3 B σ δ n3 _ _ R3 q3 λw0 x0 H4 n4 R4 k4 r4 q4=>hr' C H4 B σ δ n4 u w0 y x0 Q Q' R4 ((r2.kp k3 R2.bt).kp k4 R3.bt) r4 q4 λz p H5 n5 R5 k5 r5 q5=>k z p H5 n5 R5 ((k13.trans k4).trans k5) r5 q5
   ·cases(show RdX H3 B z (.bool false)from r3);refine⟨false,rfl,?_⟩;rw[if_neg Al];exact k _ _ H3 n3 R3 k13 (wd (.bl false)) q3
   ·exact q3.elim
theorem j1y {op op':CmpOp} {r r':R2} {g g':Wv->Wv->Int->DQ->Prop} (ho:OpR X (Bt op) r) (hr:SndO r g) (ho':OpR X (Bt op') r') (hr':SndO r' g') (ha:DE X a ta wa) (hb:DE X b tb wb) (hc:DE X c tc wc)
  (hm:lastMarks [op,op'] [b,c]=false:=by with_unfolding_all rfl):DE X (.Compare a [op,op'] [b,c] pos) (jm4 r r' ta tb tc) (jas g g' wa wb wc):=⟨jxn ho ho' ha.pe hb.pe hc.pe hm,jne hr hr' ha.sd hb.sd hc.sd⟩
theorem j14 {op op':CmpOp} {r r':R2} {g g':Wv->Wv->Int->DQ->Prop} (ho:OpR X (Bt op) r) (hr:SndO r g) (ho':OpR X (Bt op') r') (hr':SndO r' g') (ha:DE X a ta wa) (hb:DE X b tb wb) (hc:DE X c tc wc)
  (hm:lastMarks [op,op'] [b,c]=false:=by with_unfolding_all rfl):DC X (.Compare a [op,op'] [b,c] pos) (jpm (jm4 r r' ta tb tc)) (cT (jas g g' wa wb wc)):=⟨jxf ho ho' ha.pe hb.pe hc.pe hm,jhm (jne hr hr' ha.sd hb.sd hc.sd)⟩
variable {tA tB':TT} {cA cB:DTT} {rest:List Expr}
def cAnd (u v:DTT):DTT:=λδ n Q=>u δ n λb n1=>if b=true then v δ n1 Q else Q false n1
def cOr (u v:DTT):DTT:=λδ n Q=>u δ n λb n1=>if b=true then Q true n1 else v δ n1 Q
def cNot (u:DTT):DTT:=λδ n Q=>u δ n λb n1=>Q (!b) n1
theorem cw_and1 (h:DC X a tA cA):DCW X (.BoolOp .And [a] pos) tA cA:=⟨jul h.pt,h.sd⟩
theorem cw_or1 (h:DC X a tA cA):DCW X (.BoolOp .Or [a] pos) tA cA:=⟨j3n h.pt,h.sd⟩
theorem cw_and (h:DC X a tA cA) (h2:DCW X (.BoolOp .And (b::rest) pos) tB' cB):DCW X (.BoolOp .And (a::b::rest) pos) (tAnd tA tB') (cAnd cA cB):=⟨jy7 h.pt h2.pw,λC H B σ δ n Q Q' R q k =>
 h.sd C H B σ δ n _ _ R q λb H1 n1 R1 k1 q1=>by
  cases b with
  |true =>
   rw[if_pos rfl]at q1 ⊢;exact h2.sd C H1 B σ δ n1 _ _ R1 q1 λb H2 n2 R2 k2 q2=>k b H2 n2 R2 (k1.trans k2) q2
  |false =>
   rw[if_neg Al]at q1 ⊢;exact k false H1 n1 R1 k1 q1⟩
theorem cw_or (h:DC X a tA cA) (h2:DCW X (.BoolOp .Or (b::rest) pos) tB' cB):DCW X (.BoolOp .Or (a::b::rest) pos) (tOr tA tB') (cOr cA cB):=⟨j6q h.pt h2.pw,λC H B σ δ n Q Q' R q k =>
 h.sd C H B σ δ n _ _ R q λb H1 n1 R1 k1 q1=>by
  cases b with
  |true =>
   rw[if_pos rfl]at q1 ⊢;exact k true H1 n1 R1 k1 q1
  |false =>
   rw[if_neg Al]at q1 ⊢;exact h2.sd C H1 B σ δ n1 _ _ R1 q1 λb H2 n2 R2 k2 q2=>k b H2 n2 R2 (k1.trans k2) q2⟩
theorem DCW.cc (h:DCW X a tA cA):DC X a tA cA:=⟨h.pw.pt,h.sd⟩
theorem j7z (h:DC X a tA cA):DC X (.UnaryOp .Not a pos) (tNot tA) (cNot cA):=⟨j3p h.pt,λC H B σ δ n Q Q' R q k=>h.sd C H B σ δ n _ _ R q λb H1 n1 R1 k1 q1=>k (!b) H1 n1 R1 k1 q1⟩
def wAnd (u v:DT):DT:=λδ n Q=>u δ n λx n1=>jkj x (v δ n1 Q) (Q (.d (.bool false)) n1)
def wOr (u v:DT):DT:=λδ n Q=>u δ n λx n1=>jkj x (Q (.d (.bool true)) n1) (v δ n1 Q)
def wNot (u:DT):DT:=λδ n Q=>u δ n λx n1=>match x with
 |.d (.bool b)=>Q (.d (.bool !b)) n1
 |_=>False
theorem j7l {op} (h:DE X a ta wa):DE X (.BoolOp op [a] pos) ta wa:=⟨j3z h.pe,h.sd⟩
theorem j7u (h:DE X a ta wa) (h2:DE X (.BoolOp .And (b::rest) pos) tb wb):DE X (.BoolOp .And (a::b::rest) pos) (j2t ta tb) (wAnd wa wb):=⟨j32 h.pe h2.pe,λC H B σ δ n Q Q' R q k =>
 h.sd C H B σ δ n _ _ R q λv x H1 n1 R1 k1 r1 q1=>by
  unfold jkj at q1
  split at q1
  ·cases(show RdX H1 B v (.bool true)from r1);refine⟨true,rfl,?_⟩;rw[if_pos rfl];exact h2.sd C H1 B σ δ n1 _ _ R1 q1 λv x H2 n2 R2 k2 r2 q2=>k v x H2 n2 R2 (k1.trans k2) r2 q2
  ·cases(show RdX H1 B v (.bool false)from r1);refine⟨false,rfl,?_⟩;rw[if_neg Al];exact k _ _ H1 n1 R1 k1 (wd (.bl false)) q1
  ·exact q1.elim⟩
theorem d_or (h:DE X a ta wa) (h2:DE X (.BoolOp .Or (b::rest) pos) tb wb):DE X (.BoolOp .Or (a::b::rest) pos) (tOrV ta tb) (wOr wa wb):=⟨j6s h.pe h2.pe,λC H B σ δ n Q Q' R q k =>
 h.sd C H B σ δ n _ _ R q λv x H1 n1 R1 k1 r1 q1=>by
  unfold jkj at q1
  split at q1
  ·cases(show RdX H1 B v (.bool true)from r1);refine⟨true,rfl,?_⟩;rw[if_pos rfl];exact k _ _ H1 n1 R1 k1 (wd (.bl true)) q1
  ·cases(show RdX H1 B v (.bool false)from r1);refine⟨false,rfl,?_⟩;rw[if_neg Al];exact h2.sd C H1 B σ δ n1 _ _ R1 q1 λv x H2 n2 R2 k2 r2 q2=>k v x H2 n2 R2 (k1.trans k2) r2 q2
  ·exact q1.elim⟩
theorem j7m (h:DE X a ta wa):DE X (.UnaryOp .Not a pos) (j2q ta) (wNot wa):=⟨j30 h.pe,λC H B σ δ n Q Q' R q k =>
 h.sd C H B σ δ n _ _ R q λv x H1 n1 R1 k1 r1 q1=>by
  split at q1
  ·rename_i b;cases(show RdX H1 B v (.bool b)from r1);exact⟨b,rfl,k _ _ H1 n1 R1 k1 (wd (.bl _)) q1⟩
  ·exact q1.elim⟩
def wIf (u:DTT) (v w:DT):DT:=λδ n Q=>u δ n λb n1=>if b=true then v δ n1 Q else w δ n1 Q
theorem j1x (h:DC X c tA cA) (h1:DE X a ta wa) (h2:DE X b tb wb):DE X (.IfExp c a b pos) (tIf tA ta tb) (wIf cA wa wb):=⟨jxm h.pt h1.pe h2.pe,λC H B σ δ n Q Q' R q k =>
 h.sd C H B σ δ n _ _ R q λb H1 n1 R1 k1 q1=>by
  cases b with
  |true =>
   rw[if_pos rfl]at q1 ⊢;exact h1.sd C H1 B σ δ n1 _ _ R1 q1 λv x H2 n2 R2 k2 r2 q2=>k v x H2 n2 R2 (k1.trans k2) r2 q2
  |false =>
   rw[if_neg Al]at q1 ⊢;exact h2.sd C H1 B σ δ n1 _ _ R1 q1 λv x H2 n2 R2 k2 r2 q2=>k v x H2 n2 R2 (k1.trans k2) r2 q2⟩
variable {es:List Expr} {tR:TA} {wR:DTA}
def aNil:DTA:=λ_ n Q=>Q [] n
def jaa (w:DT) (r:DTA):DTA:=λδ n Q=>w δ n λx n1=>r δ n1 λxs n2=>Q (x::xs) n2
theorem j76:DA X [] tNil aNil:=⟨jcg,λC H B σ δ n Q Q' R q k=>k [] [] H n R (Kp.refl _ _) .nil q⟩
theorem j5z (h:DE X e te we) (hr:DA X es tR wR) (hs:A8 (e::es) X.env=(false,eval e X.env)::A8 es X.env:=by rfl):DA X (e::es) (jdi te tR) (jaa we wR):=⟨ja0 h.pe hr.pa hs,λC H B σ δ n Q Q' R q k =>
 h.sd C H B σ δ n _ _ R q λv x H1 n1 R1 k1 r1 q1=>hr.sd C H1 B σ δ n1 _ _ R1 q1 λvs xs H2 n2 R2 k2 r2 q2=>k (v::vs) (x::xs) H2 n2 R2 (k1.trans k2) (.cons (r1.kp k2 R1.bt) r2) q2⟩
def ja3:List Wv->Option (List Ab)
 |[]=>some []
 |.d x::r=>(ja3 r).map (x::·)
 |_::_=>none
theorem ARel.plain {H:Hp} {B:Addr->Prop} {t:Addr}:∀{vs:List V} {xs:List Wv} {ds:List Ab},ARel H B t vs xs->ja3 xs=some ds->RdXs H B vs ds
 |_,_,_,.nil,h=>by
  cases h;exact .nil
 |_,_,ds,.cons (x:=x) (xs:=xs) a b,h=>by
  cases x with
  |d x =>
   have h':(ja3 xs).map (x::·)=some ds:=h;cases e:ja3 xs with
   |none=>rw[e]at h';cases h'
   |some es =>
    rw[e]at h';cases h';exact .cons a (ARel.plain b e)
  |tp=>cases h
  |dk _=>cases h
  |ln _=>cases h
  |ob _=>cases h
theorem RdXs.fresh {H:Hp} {B:Addr->Prop} {vs:List V} {ds:List Ab} {p:Addr} {o:HO} (h:RdXs H B vs ds) (hp:H p=none):RdXs (upd H p o) (λb=>B b\/b=p) vs ds :=
 h.move λb o' e n=>⟨by rw[jag (jae e hp)];exact e,λz=>z.elim n λq=>jae e hp q⟩
def wTup (w:DTA):DT:=λδ n Q=>w δ n λxs n1=>match ja3 xs with
 |some ds=>ds.length<=1000/\Q (.d (.tuple ds)) n1
 |none=>False
theorem j7f {x1} (h:DA X es tR wR):DE X (.Tuple es x1 pos) (tTup tR) (wTup wR):=⟨j3w h.pa,λC H B σ δ n Q Q' R q k =>
 h.sd C H B σ δ n _ _ R q λvs xs H1 n1 R1 k1 r1 q1=>by
  split at q1
  ·rename_i ds e;have r:=r1.plain e;have hl:vs.length<=Ax:=by rw[r.len];exact jsb q1.1
   refine⟨hl,λp hp=>k _ _ _ n1 (R1.new hp) (k1.trans (Kp.new hp)) (wd (show RdX _ B (.ref p) (.tuple ds)from ?_)) q1.2⟩;exact .tup jai (R1.nb hp) hl ((r.fresh hp).less λb z=>.inl z)
  ·exact q1.elim⟩
def fLst (w:DTA):DTF:=λδ n Q=>w δ n λxs n1=>match ja3 xs with
 |some ds=>ds.length<=1000/\Q ds n1
 |none=>False
theorem j7c (h:DA X es tR wR):DF X (.List es pos) (tLst tR) (fLst wR):=⟨juv h.pa,λC H B σ δ n Q Q' R q k =>
 h.sd C H B σ δ n _ _ R q λvs xs H1 n1 R1 k1 r1 q1=>by
  split at q1
  ·rename_i ds e;have r:=r1.plain e;have hl:vs.length<=Ax:=by rw[r.len];exact jsb q1.1
   have hn:∀p,H1 p=none->H p=none:=λp hp=>by
    cases q:H p with
    |none=>rfl
    |some o =>
     by_cases z:p=C.t
     ·subst z;obtain⟨_,_,h,_⟩:=R1.tp.ob;rw[h]at hp;cases hp
     ·rw[k1 p o q z]at hp;cases hp
   exact⟨hl,λp hp=>k p vs ds _ n1 (R1.new hp) (k1.trans (Kp.new hp)) (hn p hp) jai hl (r.fresh hp) q1.2⟩
  ·exact q1.elim⟩
def wOf (w:DTF):DT:=λδ n Q=>w δ n λds n1=>Q (.d (.list ds)) n1
theorem j2z {t:TE} {w:DTF} (h:SndF t w):Snd t (wOf w):=λC H B σ δ n Q Q' R q k =>
 h C H B σ δ n _ _ R q λa xs ds H' n' R' k' h0 h1 h2 h3 q'=>k _ _ H' n' R' k' (wd (show RdX H' B (.ref a) (.list ds)from .lst h1 (R.nb h0) h2 (h3.less λb z=>.inl z))) q'
theorem DF.d {w:DTF} {t:TE} (h:DF X e t w):DE X e t (wOf w):=⟨h.pe,j2z h.sd⟩
theorem Rel.was {C:Ctx} {H H1:Hp} {B:Addr->Prop} {σ:St} {δ:Sl} {n1:Int} (R1:Rel C H1 B σ δ n1) (k1:Kp C.t H H1) {p:Addr} (hp:H1 p=none):H p=none:=by
 cases q:H p with
 |none=>rfl
 |some o =>
  by_cases z:p=C.t
  ·subst z;obtain⟨_,_,h,_⟩:=R1.tp.ob;rw[h]at hp;cases hp
  ·rw[k1 p o q z]at hp;cases hp
abbrev DSp:=List Wv->Int->DQ->Prop
def spOf (S:DSp):Sp:=λvs H Q _=>∃(t:Addr) (l:TL) (ns:List Int) (B:Addr->Prop) (ws:List Wv) (n:Int) (Q0:DQ),Tp H t l ns n/\B t/\(∀b,B b->H b≠none)/\ARel H B t vs ws/\S ws n Q0 /\
 ∀w n',Q0 w n'->∀v H',Tp H' t l ns n'->Kp t H H'->WRel H' B t v w->Q v H'
section
variable {X:Cx} {e:Expr} {es:List Expr} {pos p:Pos} {tR:TA} {wR:DTA}
def jac (S:DSp) (w:DTA):DT:=λδ n Q=>w δ n λxs n1=>S xs n1 Q
theorem jw6 {S:DSp} {t:TA} {w:DTA} (h:SndA t w):Snd (jpn (spOf S) [] E0 t) (jac S w):=λC H B σ δ n Q Q' R q k =>
 h C H B σ δ n _ _ R q λvs xs H1 n1 R1 k1 r1 q1=>by
  refine⟨C.t,C.l,C.ns,B,xs,n1,Q,R1.tp,R1.bt,R1.ba,by rw[B7];exact r1,q1,λw n' q2 v H' T' k' r'=>?_⟩;exact k v w H' n' (R1.step T' k') (k1.trans k') r' q2
theorem j5g {k:Nat} {f:Addr} {fd:C2} {ps:List Str} {S:DSp} {x:Str} (F:FnOk X.prog X.w X.K X.mg X.base CX0 k f fd ps (spOf S)) (hr:Room k X.A) (hg:Gl X x) (hm:X.mg x=some (.ref f)) (hk:Cz X.K (.ref f)=true) (hb:Binds X.K fd ps [])
  (ha:DA X (e::es) tR wR) (hdb:(x==("__debug__":Str))=false:=by decide) (he:A8 (e::es) X.env=(false,eval e X.env)::A8 es X.env:=by rfl) (hpl:(Ek pos (A8 es X.env)).any (·.1)=false:=by rfl) :
  DE X (.Call (.Name x p) (e::es) [] pos) (jpn (spOf S) [] E0 tR) (jac S wR):=⟨jux F hr hg hm hk hb .nil j33 ha.pa hdb he hpl,jw6 ha.sd⟩
def SndB (r:List V->Hp->VK->Prop) (g:List Wv->Int->DQ->Prop):Prop:=∀(C:Ctx) (H:Hp) (B:Addr->Prop) (σ:St) (δ:Sl) (n:Int) (vs:List V) (xs:List Wv) (Q:DQ) (Q':VK),Rel C H B σ δ n->ARel H B C.t vs xs->g xs n Q ->
 (∀v x H' n',Rel C H' B σ δ n'->Kp C.t H H'->WRel H' B C.t v x->Q x n'->Q' v H')->r vs H Q'
def wB (g:List Wv->Int->DQ->Prop) (w:DTA):DT:=λδ n Q=>w δ n λxs n1=>g xs n1 Q
theorem j24 {r:List V->Hp->VK->Prop} {g:List Wv->Int->DQ->Prop} {t:TA} {w:DTA} (hr:SndB r g) (h:SndA t w):Snd (tCB r t) (wB g w):=λC H B σ δ n Q Q' R q k =>
 h C H B σ δ n _ _ R q λvs xs H1 n1 R1 k1 r1 q1=>hr C H1 B σ δ n1 vs xs Q Q' R1 r1 q1 λv x H2 n2 R2 k2 r2 q2=>k v x H2 n2 R2 (k1.trans k2) r2 q2
theorem jmd {id:String} {x:Str} {r:List V->Hp->VK->Prop} {g:List Wv->Int->DQ->Prop} (hc:CallR X (.builtin id) r) (hr:SndB r g) (hg:Gl X x) (hm:X.mg x=none) (hv:By x=some (.builtin id)) (ha:DA X (e::es) tR wR) (hn:x≠"__name__":=by decide) (hdb:(x==("__debug__":Str))=false:=by decide)
  (he:A8 (e::es) X.env=(false,eval e X.env)::A8 es X.env:=by rfl) (hpl:(Ek pos (A8 es X.env)).any (·.1)=false:=by rfl):DE X (.Call (.Name x p) (e::es) [] pos) (tCB r tR) (wB g wR):=⟨jeg hc hg hm hv ha.pa hn hdb he hpl,j24 hr ha.sd⟩
theorem jhp {T:String} {x:Str} {r:List V->Hp->VK->Prop} {g:List Wv->Int->DQ->Prop} (hc:CallR X (.type T) r) (hr:SndB r g) (hg:Gl X x) (hm:X.mg x=none) (hv:By x=some (.type T)) (ha:DA X (e::es) tR wR) (hn:x≠"__name__":=by decide) (hdb:(x==("__debug__":Str))=false:=by decide)
  (he:A8 (e::es) X.env=(false,eval e X.env)::A8 es X.env:=by rfl) (hpl:(Ek pos (A8 es X.env)).any (·.1)=false:=by rfl):DE X (.Call (.Name x p) (e::es) [] pos) (tCB r tR) (wB g wR):=⟨jh6 hc hg hm hv ha.pa hn hdb he hpl,j24 hr ha.sd⟩
end
structure DEnds where
 nx:Sl->Int->Prop
 rt:DQ
 bk:Sl->Int->Prop:=λ_ _=>False
 ct:Sl->Int->Prop:=λ_ _=>False
 rn:List Ab->Int->Prop:=λ_ _=>False
abbrev DST:=Sl->Int->DEnds->Prop
structure EndsOk (C:Ctx) (K:DEnds) (D:Ends):Prop where
 nx:∀H B σ δ n,Rel C H B σ δ n->K.nx δ n->D.nx σ H
 rt:∀H B σ δ n v w,Rel C H B σ δ n->WRel H B C.t v w->K.rt w n->D.rt v H
 bk:∀H B σ δ n,Rel C H B σ δ n->K.bk δ n->D.bk σ H
 ct:∀H B σ δ n,Rel C H B σ δ n->K.ct δ n->D.ct σ H
 rn:∀H B σ δ n a xs ds,Rel C H B σ δ n->C.H0 a=none->H a=some (.lst xs)->xs.length<=Ax->RdXs H (λb=>B b\/b=a) xs ds->K.rn ds n->D.rt (.ref a) H
def SndS (T:TS) (W:DST):Prop:=∀(C:Ctx) (H:Hp) (B:Addr->Prop) (σ:St) (δ:Sl) (n:Int) (K:DEnds) (D:Ends),Rel C H B σ δ n->W δ n K->EndsOk C K D->T D σ H
structure DS (X:Cx) (st:Stmt) (T:TS) (W:DST):Prop where
 ps:PS X st T
 sd:SndS T W
structure DSs (X:Cx) (st:List Stmt) (T:TS) (W:DST):Prop where
 ps:PSs X st T
 sd:SndS T W
section
variable {X:Cx} {st:Stmt} {rest:List Stmt} {T U:TS} {W V':DST} {e:Expr} {te:TE} {we:DT} {pos:Pos}
def jaj:DST:=λδ n K=>K.nx δ n
def sSeq (W V:DST):DST:=λδ n K=>W δ n {K with nx:=λδ n=>V δ n K}
theorem j6j:DSs X [] j2s jaj:=⟨jlp,λC H B σ δ n K D R h E=>E.nx H B σ δ n R h⟩
theorem j3a (h:DS X st T W) (h2:DSs X rest U V'):DSs X (st::rest) (tSeq T U) (sSeq W V'):=⟨jbt h.ps h2.ps,λC H B σ δ n K D R q E =>
 h.sd C H B σ δ n _ _ R q ⟨λH B σ δ n R q=>h2.sd C H B σ δ n K D R q E,E.rt,E.bk,E.ct,E.rn⟩⟩
theorem j6i (h:DS X st T W):DSs X [st] T W:=⟨jf2 h.ps,h.sd⟩
def sRet (w:DT):DST:=λδ n K=>w δ n K.rt
theorem j6f (h:DE X e te we):DS X (.Return (some e) pos) (tRet te) (sRet we):=⟨jnm h.pe,λC H B σ δ n K D R q E =>
 h.sd C H B σ δ n _ _ R q λv x H' n' R' _ r' q'=>E.rt H' B σ δ n' v x R' r' q'⟩
def sIf (c:DTT) (W V:DST):DST:=λδ n K=>c δ n λb n1=>if b=true then W δ n1 K else V δ n1 K
theorem s_if {c:Expr} {a b:List Stmt} {tc:TT} {cc:DTT} (hc:DC X c tc cc) (ha:DSs X a T W) (hb:DSs X b U V'):DS X (.If c a b pos) (tIfS tc T U) (sIf cc W V'):=⟨jxg hc.pt ha.ps hb.ps,λC H B σ δ n K D R q E =>
 hc.sd C H B σ δ n _ _ R q λb H1 n1 R1 _ q1=>by
  cases b with
  |true =>
   rw[if_pos rfl]at q1 ⊢;exact ha.sd C H1 B σ δ n1 K D R1 q1 E
  |false =>
   rw[if_neg Al]at q1 ⊢;exact hb.sd C H1 B σ δ n1 K D R1 q1 E⟩
def sSet (i:Nat) (w:DT):DST:=λδ n K=>w δ n λx n1=>match x with
 |.d d=>K.nx (δ.set i (some (.w (.d d)))) n1
 |.tp=>K.nx (δ.set i (some (.w .tp))) n1
 |.dk _=>False
 |.ln _=>False
 |.ob o=>K.nx (δ.set i (some (.w (.ob o)))) n1
theorem j6e {i:Nat} {x:Str} {pos':Pos} (hN:X.N.Nodup) (hi:X.N[i]?=some x) (hx:Loc X.env.scope x) (he:DE X e te we) (hs:Fz e (some (.Name x pos')) pos.line X.env=pure false:=by rfl) (hf:X.fn x=true\/X.env.scope.names.lookup x=some .local:=by first | exact .inl rfl | exact .inr rfl | assumption) :
  DS X (.Assign [.Name x pos'] e pos) (tAsg te (jhg i)) (sSet i we):=⟨jgo hN hi hx he.pe hs hf,λC H B σ δ n K D R q E =>
 he.sd C H B σ δ n _ _ R q λv x H1 n1 R1 _ r1 q1=>by
  cases x with
  |d d=>exact E.nx _ _ _ _ _ (R1.set r1 rfl) q1
  |tp=>exact E.nx _ _ _ _ _ (R1.set r1 rfl) q1
  |dk _=>exact q1.elim
  |ln _=>exact q1.elim
  |ob o=>exact E.nx _ _ _ _ _ (R1.set r1 rfl) q1⟩
def sOwn (i:Nat) (w:DTF):DST:=λδ n K=>w δ n λds n1=>K.nx (δ.set i (some (.own ds))) n1
theorem Rel.h0 {C:Ctx} {H:Hp} {B:Addr->Prop} {σ:St} {δ:Sl} {n:Int} {a:Addr} (R:Rel C H B σ δ n) (h:H a=none):C.H0 a=none:=R.was R.kp h
theorem j6h {i:Nat} {x:Str} {pos':Pos} {w:DTF} (hN:X.N.Nodup) (hi:X.N[i]?=some x) (hx:Loc X.env.scope x) (he:DF X e te w) (hs:Fz e (some (.Name x pos')) pos.line X.env=pure false:=by rfl) (hf:X.fn x=true\/X.env.scope.names.lookup x=some .local:=by first | exact .inl rfl | exact .inr rfl | assumption) :
  DS X (.Assign [.Name x pos'] e pos) (tAsg te (jhg i)) (sOwn i w):=⟨jgo hN hi hx he.pe hs hf,λC H B σ δ n K D R q E =>
 he.sd C H B σ δ n _ _ R q λa xs ds H1 n1 R1 k1 h0 h1 h2 h3 q1=>by
  refine E.nx _ _ _ _ _ (R.own R1 k1 h0 (by rw[h1];exact λz=>nomatch z) rfl ?_) q1;exact⟨a,xs,rfl,h1,.inr rfl,R.h0 h0,h2,h3⟩⟩
def sFrz (i:Nat) (W:DST):DST:=λδ n K=>match δ[i]? with
 |some (some (.own ds))=>W (δ.set i (some (.w (.d (.list ds))))) n K
 |some (some (.odk m))=>W (δ.set i (some (.w (.ob (.k m))))) n K
 |_=>W δ n K
theorem j6k (i:Nat) {sts:List Stmt} (h:DSs X sts T W):DSs X sts T (sFrz i W):=⟨h.ps,λC H B σ δ n K D R q E=>by
 unfold sFrz at q
 split at q
 ·rename_i ds e;obtain⟨B',R'⟩:=R.frz e;exact h.sd C H B' σ _ n K D R' q E
 ·rename_i m e;obtain⟨B',R'⟩:=R.frzK e;exact h.sd C H B' σ _ n K D R' q E
 ·exact h.sd C H B σ δ n K D R q E⟩
def sApp (i:Nat) (w:DT):DST:=λδ n K=>match δ[i]? with
 |some (some (.own ds))=>w δ n λx n1=>match x with
  |.d d=>ds.length < 1000000/\K.nx (δ.set i (some (.own (ds++[d])))) n1
  |_=>False
 |_=>False
theorem jvc {n:Nat} (h:n < 1000000):n < Ax:=Nat.lt_trans h (by decide)
theorem j6m {i:Nat} {x:Str} {xp ap cp:Pos} (hN:X.N[i]?=some x) (he:DE X e te we) (hv:Vis X.env.scope x:=by first | exact D1 rfl | exact C0 (D1 rfl) | exact C0 (C0 rfl)) (hd:(x==("__debug__":Str))=false:=by decide)
  (hcd:(x==("__classdict__":Str))=false:=by decide)
  (hbase:attributeBase (.Name x xp) "append" X.env (eval (.Name x xp) X.env)=eval (.Name x xp) X.env:=by rfl)
  (hfew:((Ek cp (A8 [e] X.env)).all (λx=>!x.1)&&(backToKw cp (keywordEach [] X.env)).all (λx=>x.1.isSome)
   && decide ([e].length+([]:List Keyword).length+(if ([]:List Keyword).isEmpty then 0 else 1) < 30))=true:=by rfl)
  (hline:(ap.endLine==cp.line)=true:=by rfl) (hs:A8 [e] X.env=[(false,eval e X.env)]:=by rfl) (hplain:(Ek cp (A8 [] X.env)).any (·.1)=false:=by rfl)
  (hsw:Fz (.Call (.Attribute (.Name x xp) "append" ap) [e] [] cp) none pos.line X.env=pure false:=by rfl) :
  DS X (.Expr (.Call (.Attribute (.Name x xp) "append" ap) [e] [] cp) pos) (jz6 (tBM X.K "list" juj (tVar i) (jdi te tNil))) (sApp i we) :=
 ⟨jum (j31 PySem.F.plainAttrs_list PySem.F.slot_list_append PySem.F.type_list_append jib (jh5 hN hv hd hcd) (ja0 he.pe jcg hs) hbase hfew hline hs hplain) hsw,λC H B σ δ n K D R q E=>by
  unfold sApp at q
  split at q
  ·rename_i ds ei;obtain⟨v,hv,a,xs,rfl,e2,e3,e4,e5,e6⟩:=R.sl i _ ei;refine⟨_,hv,.inl ⟨rfl,_,SqL.of e2⟩,he.sd C H B σ δ n _ _ R q λu y H1 n1 R1 k1 r1 q1=>?_⟩;cases y with
   |d d =>
    have hat:a≠C.t:=λz=>R.t0 (z▸e4);have e2':=k1 _ _ e2 hat;refine⟨a,xs,u,rfl,rfl,e2',jvc (by rw[e6.len];exact q1.1),?_⟩;refine E.nx _ _ _ _ _ (R1.mutOwn ei rfl hv e3 e4 ?_ rfl) q1.2;refine⟨a,xs++[u],rfl,jai,e3,e4,?_,?_⟩
    ·rw[Ak,e6.len];exact jvc q1.1
    ·refine RdXs.keep (λb o e n=>?_) ((e6.kp k1 R.bt).append (.cons r1 .nil));rw[jag λ(z:b=a)=>n (z▸e3)];exact e
   |tp=>exact q1.elim
   |dk _=>exact q1.elim
   |ln _=>exact q1.elim
   |ob _=>exact q1.elim
  ·exact q.elim⟩
end
def jah (N:List Str) (ws:List Wv):Sl:=ws.map (λx=>some (.w x))++Av (N.length - ws.length) none
theorem ARel.get {H:Hp} {B:Addr->Prop} {t:Addr}:∀{vs:List V} {xs:List Wv} {i:Nat} {x:Wv},ARel H B t vs xs->xs[i]?=some x->∃v,vs[i]?=some v/\WRel H B t v x
 |_,_,_,_,.nil,e=>by simp at e
 |_,_,0,_,.cons h _,e=>by
  simp at e;subst e;exact⟨_,rfl,h⟩
 |_,_,i+1,x,.cons _ r,e=>by
  obtain⟨v,h1,h2⟩:=ARel.get (i:=i) (x:=x) r (by simpa using e);exact⟨v,by simpa using h1,h2⟩
theorem jue {H:Hp} {t:Addr} {l:TL} {ns:List Int} {B:Addr->Prop} {vs:List V} {ws:List Wv} {n:Int} {N:List Str} (T:Tp H t l ns n) (bt:B t) (ba:∀b,B b->H b≠none) (r:ARel H B t vs ws):Rel ⟨t,l,ns,H,B,λ_=>none⟩ H B (L2.start N vs) (jah N ws) n where
 tp:=T
 kp:=Kp.refl _ _
 t0:=by
  obtain⟨_,_,h,_⟩:=T.ob;show H t≠none;rw[h];exact λz=>nomatch z
 l0:=by
  show H l.s≠none;rw[T.ls];exact λz=>nomatch z
 g0:=λe=>by
  show H l.g≠none;rw[T.ag e];exact λz=>nomatch z
 fz:=λb o e=>nomatch e
 bt:=bt
 b0:=λ_ z=>z
 ba:=ba
 a0:=ba
 sl:=λi x e=>by
  have hl:=r.len;unfold jah at e;rw[List.getElem?_append]at e
  split at e
  ·rename_i hi;rw[Ai]at hi;rw[Ba]at e;cases q:ws[i]? with
   |none=>rw[q]at e;cases e
   |some y =>
    rw[q]at e;cases e;obtain⟨v,h1,h2⟩:=r.get q;refine⟨v,?_,h2,λz=>?_⟩
    ·unfold L2.start;rw[F8 (by rw[Ai,hl];exact hi),Ba,h1];rfl
    ·cases y with
     |d _=>cases z
     |tp=>cases z
     |dk _ =>
      obtain⟨a,l',f1,f2,_⟩:=h2;exact⟨a,f1,by show H a≠none;rw[f2];exact λz=>nomatch z⟩
     |ln _ =>
      obtain⟨a,l',f1,f2,_⟩:=h2;exact⟨a,f1,by show H a≠none;rw[f2];exact λz=>nomatch z⟩
     |ob _=>cases z
  ·rw[Ee]at e
   split at e
   ·cases e
   ·cases e
 ow:=λi j x y v e1 e2 o1 o2 _ _=>by
  unfold jah at e1;rw[List.getElem?_append]at e1
  split at e1
  ·rw[Ba]at e1;cases q:ws[i]? with
   |none=>rw[q]at e1;cases e1
   |some y =>
    rw[q]at e1;cases e1;cases o1
  ·rw[Ee]at e1
   split at e1
   ·cases e1
   ·cases e1
 len:=by
  unfold L2.start jah;rw[Ak,Ak,Ai,Ai,List.length_replicate,List.length_replicate,r.len]
section
variable {P:Br} {w:B4} {K:Ag} {mg:Str->Option Af} {base:Heap}
theorem Fun.okD {x qual:Str} {st:Stmt} {f:Addr} {fd:C2} {N ps:List Str} {k:Nat} {S:DSp} (F:Fun K x qual st f fd) (Sc:FnScope N ps (jao st)) (len:∀ws n Q,S ws n Q->ws.length=ps.length)
  (hbody:∀(cdv:Af) (A:B9) (outer:List Env) (s:Aj) (H:Hp) (E:XK),Room k (A.deeper (Ep qual (jao st) s.heap.objs.size f cdv)) ->
   ∃T W,DSs (cxOf CX0 P w K mg base N qual (jao st) f cdv A outer s H E).nox (jb2 st) T W/\∀ws n Q,S ws n Q->W (jah N ws) n {nx:=λ_ n=>Q (.d .none) n,rt:=Q}):FnOk P w K mg base CX0 (k+1) f fd ps (spOf S):=by
 refine F.ok Sc (λvs H Q E h=>?_) (λcdv A outer s H vs Q E hr h=>?_)
 ·obtain⟨t,l,ns,B,ws,n,Q0,_,_,_,r,q,_⟩:=h;rw[r.len];exact len ws n Q0 q
 ·obtain⟨t,l,ns,B,ws,n,Q0,T,bt,ba,r,q,kk⟩:=h;obtain⟨T',W,d,hw⟩:=hbody cdv A outer s H E hr;refine⟨T',d.ps,d.sd ⟨t,l,ns,H,B,λ_=>none⟩ H B _ _ n _ _ (jue T bt ba r) (hw ws n Q0 q) ⟨?_,?_,?_,?_,λ_ _ _ _ _ _ _ _ _ _ _ _ _ z=>z.elim⟩⟩
  ·exact λH' B' σ δ n' R' q'=>kk _ _ q' .non H' R'.tp R'.kp (show RdX H' B .non .none from .non)
  ·exact λH' B' σ δ n' v x R' r' q'=>kk _ _ q' v H' R'.tp R'.kp (r'.less R'.b0)
  ·exact λ_ _ _ _ _ _ z=>z.elim
  ·exact λ_ _ _ _ _ _ z=>z.elim
end
section
variable {X:Cx} {a b c e:Expr} {ta tb tc te:TE} {wa wb wc we:DT} {pos p:Pos}
def gI (Cd:Int->Int->Prop) (f:Int->Int->Ab):Wv->Wv->Int->DQ->Prop:=λx y n Q=>match x,y with
 |.d (.int i),.d (.int j)=>Cd i j/\Q (.d (f i j)) n
 |_,_=>False
theorem j2y {Cd:Int->Int->Prop} {g:Int->Int->V} {f:Int->Int->Ab} (h:∀i j H B,RdX H B (g i j) (f i j)):SndO (rI Cd g) (gI Cd f):=λC H B σ δ n x y p q Q Q' R rx ry h1 k=>by
 unfold gI at h1
 split at h1
 ·rename_i i j;cases(show RdX H B x (.int i)from rx);cases(show RdX H B y (.int j)from ry);exact⟨i,j,rfl,rfl,h1.1,k _ _ H n R (Kp.refl _ _) (wd (h i j H B)) h1.2⟩
 ·exact h1.elim
def gI0 (f:Int->Int->Ab):Wv->Wv->Int->DQ->Prop:=λx y n Q=>match x,y with
 |.d (.int i),.d (.int j)=>Q (.d (f i j)) n
 |_,_=>False
theorem jpp {g:Int->Int->V} {f:Int->Int->Ab} (h:∀i j H B,RdX H B (g i j) (f i j)):SndO (rI0 g) (gI0 f):=λC H B σ δ n x y p q Q Q' R rx ry h1 k=>by
 unfold gI0 at h1
 split at h1
 ·rename_i i j;cases(show RdX H B x (.int i)from rx);cases(show RdX H B y (.int j)from ry);exact⟨i,j,rfl,rfl,k _ _ H n R (Kp.refl _ _) (wd (h i j H B)) h1⟩
 ·exact h1.elim
theorem j7h (ha:DE X a ta wa) (hb:DE X b tb wb):DE X (.BinOp a .Sub b pos) (tOp (rI0 λi j=>.int (i - j)) ta tb) (w2 wa wb (gI0 λi j=>.int (i - j))):=d_op op_sub (jpp λ_ _ _ _=>.int _) ha hb
theorem j7k (ha:DE X a ta wa) (hb:DE X b tb wb):DE X (.BinOp a .Pow b pos) (tOp (rI CPow λi j=>.int (i ^ j.toNat)) ta tb) (w2 wa wb (gI CPow λi j=>.int (i ^ j.toNat))):=d_op jza (j2y λ_ _ _ _=>.int _) ha hb
def wNeg (w:DT):DT:=λδ n Q=>w δ n λx n1=>match x with
 |.d (.int i)=>Q (.d (.int (-i))) n1
 |_=>False
theorem j7o (ha:DE X a ta wa):DE X (.UnaryOp .USub a pos) (tUn (rU λi=>.int (-i)) ta) (wNeg wa):=⟨j3v jyy ha.pe,λC H B σ δ n Q Q' R q k=>ha.sd C H B σ δ n _ _ R q λv x H1 n1 R1 k1 r1 q1=>by
 split at q1
 ·rename_i i;cases(show RdX H1 B v (.int i)from r1);exact⟨i,rfl,k _ _ H1 n1 R1 k1 (wd (.int _)) q1⟩
 ·exact q1.elim⟩
def gAdd:Wv->Wv->Int->DQ->Prop:=λx y n Q=>match x,y with
 |.d (.int i),.d (.int j)=>Q (.d (.int (i+j))) n
 |.d (.str i),.d (.str j)=>i.length+j.length<=Ax/\Q (.d (.str (i++j))) n
 |.d (.tuple i),.d (.tuple j)=>(i≠[]\/j≠[])/\i.length+j.length<=Ax/\Q (.d (.tuple (i++j))) n
 |.d (.list i),.d (.list j)=>i.length+j.length<=Ax/\Q (.d (.list (i++j))) n
 |_,_=>False
def juk (K:Ag):R2:=λx y H Q=>(rI0 λi j=>.int (i+j)) x y H Q\/(∃i j,x=.str i/\y=.str j/\i.length+j.length<=Ax/\Q (.str (i++j)) H)\/j3m K x y H Q\/j3l K x y H Q\/rCat x y H Q
theorem op_addA:OpR X (Dr .Add) (juk X.K) :=
 op_add.or (op_add_str.or (op_catA.or (op_catT.or ju7)))
theorem jpo (i j:Str):(i++j).length=i.length+j.length:=Array.size_append
theorem jqz {K:Ag}:SndO (juk K) gAdd:=λC H B σ δ n x y p q Q Q' R rx ry h1 k=>by
 unfold gAdd at h1
 split at h1
 ·rename_i i j;cases(show RdX H B x (.int i)from rx);cases(show RdX H B y (.int j)from ry);exact .inl ⟨i,j,rfl,rfl,k _ _ H n R (Kp.refl _ _) (wd (.int _)) h1⟩
 ·rename_i i j;cases(show RdX H B x (.str i)from rx);cases(show RdX H B y (.str j)from ry);exact .inr (.inl ⟨i,j,rfl,rfl,h1.1,k _ _ H n R (Kp.refl _ _) (wd (show RdX H B _ (.str (i++j))from .str _ (by rw[jpo];exact h1.1))) h1.2⟩)
 ·rename_i i j;cases(show RdX H B x (.tuple i)from rx)with
  |@tup ax xs _ e1 e2 e3 e4 =>
   cases(show RdX H B y (.tuple j)from ry)with
   |@tup ay ys _ f1 f2 f3 f4 =>
    obtain⟨ne,hl,q⟩:=h1;have hl':xs.length+ys.length<=Ax:=by rw[e4.len,f4.len];exact hl
    have new:∀pn,H pn=none->Q' (.ref pn) (upd H pn (.tup (xs++ys))):=λpn hp=>by
     refine k _ _ _ n (R.new hp) (Kp.new hp) (wd (show RdX _ B _ (.tuple (i++j))from .tup jai (R.nb hp) (by rw[Ak];exact hl') ?_)) q;exact((e4.append f4).fresh hp).less λb z=>.inl z
    by_cases hy:ys=[]
    ·have hx:xs≠[]:=λz=>by
      subst hy z;cases e4;cases f4;exact ne.elim (λq=>q rfl) λq=>q rfl
     refine .inr (.inr (.inr (.inl ⟨ax,ay,xs,ys,rfl,rfl,SqT.of e1,SqT.of f1,hx,hl',λ_=>?_,λ_=>new⟩)));subst hy;cases f4;rw[B7]at q;exact k _ _ H n R (Kp.refl _ _) (wd (show RdX H B _ (.tuple i)from .tup e1 e2 e3 e4)) q
    ·refine .inr (.inr (.inl ⟨ax,ay,xs,ys,rfl,rfl,SqT.of e1,SqT.of f1,hy,hl',λz=>?_,λ_=>new⟩));subst z;cases e4;exact k _ _ H n R (Kp.refl _ _) (wd (show RdX H B _ (.tuple j)from .tup f1 f2 f3 f4)) q
 ·rename_i i j;cases(show RdX H B x (.list i)from rx)with
  |@lst ax xs _ e1 e2 e3 e4 =>
   cases(show RdX H B y (.list j)from ry)with
   |@lst ay ys _ f1 f2 f3 f4 =>
    obtain⟨hl,q⟩:=h1;have hl':xs.length+ys.length<=Ax:=by rw[e4.len,f4.len];exact hl
    refine .inr (.inr (.inr (.inr ⟨ax,ay,xs,ys,rfl,rfl,e1,f1,hl',λpn hp=>?_⟩)));refine k _ _ _ n (R.new hp) (Kp.new hp) (wd (show RdX _ B _ (.list (i++j))from .lst jai (R.nb hp) (by rw[Ak];exact hl') ?_)) q;exact((e4.append f4).fresh hp).less λb z=>.inl z
 ·exact h1.elim
def gCmp (f:Int->Int->Bool) (h:List Nat->List Nat->Bool):Wv->Wv->Int->DQ->Prop:=λx y n Q=>match x,y with
 |.d (.int i),.d (.int j)=>Q (.d (.bool (f i j))) n
 |.d (.str i),.d (.str j)=>Q (.d (.bool (h i.cps.toList j.cps.toList))) n
 |_,_=>False
theorem jll {f:Int->Int->Bool} {h:List Nat->List Nat->Bool}:SndO (λx y H Q=>(rI0 λi j=>.bl (f i j)) x y H Q\/∃i j,x=.str i/\y=.str j/\Q (.bl (h i.cps.toList j.cps.toList)) H) (gCmp f h):=λC H B σ δ n x y p q Q Q' R rx ry h1 k=>by
 unfold gCmp at h1
 split at h1
 ·rename_i i j;cases(show RdX H B x (.int i)from rx);cases(show RdX H B y (.int j)from ry);exact .inl ⟨i,j,rfl,rfl,k _ _ H n R (Kp.refl _ _) (wd (.bl _)) h1⟩
 ·rename_i i j;cases(show RdX H B x (.str i)from rx);cases(show RdX H B y (.str j)from ry);exact .inr ⟨i,j,rfl,rfl,k _ _ H n R (Kp.refl _ _) (wd (.bl _)) h1⟩
 ·exact h1.elim
theorem ju4:OpR X (Bt .GtE) (λx y H Q=>∃i j,x=.str i/\y=.str j/\Q (.bl (!decide (i.cps.toList < j.cps.toList))) H):=by
 intro pins s σ H x y v u Q I rx ry h;obtain⟨i,j,rfl,rfl,q⟩:=h;obtain⟨t,rfl⟩:=rx;obtain⟨t',rfl⟩:=ry;exact P.ge_str (jaz I q rfl)
abbrev gLt:=gCmp (λi j=>decide (i < j)) (λi j=>decide (i < j))
abbrev gLe:=gCmp (λi j=>decide (i<=j)) (λi j=>!decide (j < i))
abbrev gGt:=gCmp (λi j=>decide (j < i)) (λi j=>decide (j < i))
abbrev gGe:=gCmp (λi j=>decide (j<=i)) (λi j=>!decide (i < j))
def rLtA:R2:=λx y H Q=>(rI0 λi j=>.bl (decide (i < j))) x y H Q\/∃i j,x=.str i/\y=.str j/\Q (.bl (decide (i.cps.toList < j.cps.toList))) H
theorem jzb:OpR X (Bt .Lt) rLtA:=op_lt.or juz
def rLeA:R2:=λx y H Q=>(rI0 λi j=>.bl (decide (i<=j))) x y H Q\/∃i j,x=.str i/\y=.str j/\Q (.bl (!decide (j.cps.toList < i.cps.toList))) H
theorem jns:OpR X (Bt .LtE) rLeA:=op_le.or ju0
def rGtA:R2:=λx y H Q=>(rI0 λi j=>.bl (decide (j < i))) x y H Q\/∃i j,x=.str i/\y=.str j/\Q (.bl (decide (j.cps.toList < i.cps.toList))) H
theorem j34:OpR X (Bt .Gt) rGtA:=op_gt.or ju3
def rGeA:R2:=λx y H Q=>(rI0 λi j=>.bl (decide (j<=i))) x y H Q\/∃i j,x=.str i/\y=.str j/\Q (.bl (!decide (i.cps.toList < j.cps.toList))) H
theorem j35:OpR X (Bt .GtE) rGeA:=op_ge.or ju4
theorem jy1:SndO rLtA gLt:=jll (f:=λi j=>decide (i < j)) (h:=λi j=>decide (i < j))
theorem jnc:SndO rLeA gLe:=jll (f:=λi j=>decide (i<=j)) (h:=λi j=>!decide (j < i))
theorem j21:SndO rGtA gGt:=jll (f:=λi j=>decide (j < i)) (h:=λi j=>decide (j < i))
theorem j22:SndO rGeA gGe:=jll (f:=λi j=>decide (j<=i)) (h:=λi j=>!decide (i < j))
def eqD:Ab->Ab->Option Bool
 |.none,.none=>some true
 |.none,.int _=>some false
 |.int _,.none=>some false
 |.none,.bool _=>some false
 |.bool _,.none=>some false
 |.none,.str _=>some false
 |.str _,.none=>some false
 |.int i,.int j=>some (decide (i=j))
 |.bool i,.bool j=>some (decide (i=j))
 |.str i,.str j=>some (decide (i=j))
 |.int _,.str _=>some false
 |.str _,.int _=>some false
 |.bool _,.str _=>some false
 |.str _,.bool _=>some false
 |.list _,.str _=>some false
 |.tuple _,.str _=>some false
 |.dict _,.str _=>some false
 |.list xs,.list []=>some xs.isEmpty
 |_,_=>none
def jxe:R2:=λx y H Q=>∃d h B,RdX H B x d/\y=.str h/\Q (.bl (ja9 h d)) H
theorem jmc (x y:Str):decide (V.str x=V.str y)=decide (x=y):=by
 by_cases z:x=y
 ·rw[z,decide_eq_true rfl,decide_eq_true rfl]
 ·rw[decide_eq_false z,decide_eq_false λw=>z (V.str.inj w)]
theorem jrh (x y:Int):decide (V.int x=V.int y)=decide (x=y):=by
 by_cases z:x=y
 ·rw[z,decide_eq_true rfl,decide_eq_true rfl]
 ·rw[decide_eq_false z,decide_eq_false λw=>z (V.int.inj w)]
theorem jv0 (x y:Bool):decide (V.bl x=V.bl y)=decide (x=y):=by
 by_cases z:x=y
 ·rw[z,decide_eq_true rfl,decide_eq_true rfl]
 ·rw[decide_eq_false z,decide_eq_false λw=>z (V.bl.inj w)]
theorem j1f (hu:X.A.units < cLine):OpR X (Bt .Eq) jxe:=by
 intro pins s σ H x y v u Q I rx ry h;obtain⟨d,hh,B,hd,rfl,q⟩:=h;cases hd with
 |non=>exact op_eq pins s σ H _ _ v u Q I rx ry ⟨rfl,q⟩
 |bl b=>exact op_eq pins s σ H _ _ v u Q I rx ry ⟨rfl,q⟩
 |int i=>exact op_eq pins s σ H _ _ v u Q I rx ry ⟨rfl,q⟩
 |str x hx =>
  refine op_eq pins s σ H _ _ v u Q I rx ry ⟨rfl,?_⟩;rw[jmc];exact q
 |@lst a xs ds h1 h2 h3 h4 =>
  cases(show v=Cb a from rx);obtain⟨t,rfl⟩:=(show ∃t,u=Value.str hh t from ry);obtain⟨its,_,p,_⟩:=I.list (SqL.of (K:=X.K) h1);exact PySem.SeqAt.RcAt.list_str hh t p.isList hu _ _ _ _ ⟨.bl false,H,I,rfl,q⟩
 |@tup a xs ds h1 h2 h3 h4 =>
  cases(show v=Cb a from rx);obtain⟨t,rfl⟩:=(show ∃t,u=Value.str hh t from ry);obtain⟨its,_,p,_⟩:=I.tuple (SqT.of (K:=X.K) h1);exact PySem.SeqAt.RcAt.tuple_str hh t (show s.heap.IsTuple a its.toArray from p) hu _ _ _ _ ⟨.bl false,H,I,rfl,q⟩
def gEq:Wv->Wv->Int->DQ->Prop:=λx y n Q=>match x,y with
 |.d a,.d b=>match eqD a b with
  |some r=>Q (.d (.bool r)) n
  |none=>False
 |_,_=>False
theorem j36 (hu:X.A.units < cLine):OpR X (Bt .Eq) (λx y H Q=>rEq x y H Q\/jxe x y H Q\/jq3 X.K x y H Q):=op_eq.or ((j1f hu).or (jxs hu))
theorem j23 {K:Ag}:SndO (λx y H Q=>rEq x y H Q\/jxe x y H Q\/jq3 K x y H Q) gEq:=λC H B σ δ n x y p q Q Q' R rx ry h1 k=>by
 unfold gEq at h1
 split at h1
 ·rename_i da db;have rx:RdX H B x da:=rx;have ry:RdX H B y db:=ry;have fin:∀r:Bool,Q (.d (.bool r)) n->Q' (.bl r) H:=λr q=>k _ _ H n R (Kp.refl _ _) (wd (.bl r)) q
  split at h1
  ·rename_i r er;have h1:=fin r h1;cases rx with
   |non=>cases ry<;>first | (cases er;done) | (cases er;exact .inl ⟨rfl,h1⟩)
   |bl i=>cases ry<;>first | (cases er;done) | (cases er;exact .inl ⟨rfl,by first | exact h1 | (rw[jv0];exact h1)⟩)
   |int i=>cases ry<;>first | (cases er;done) | (cases er;exact .inl ⟨rfl,by first | exact h1 | (rw[jrh];exact h1)⟩)
   |str i hi=>cases ry<;>first | (cases er;done) | (cases er;exact .inl ⟨rfl,by first | exact h1 | (rw[jmc];exact h1)⟩)
   |@lst ax xs ds e1 e2 e3 e4 =>
    cases ry with
    |str j hj=>cases er;exact .inr (.inl ⟨_,j,B,.lst e1 e2 e3 e4,rfl,h1⟩)
    |@lst ay ys es f1 f2 f3 f4 =>
     cases f4 with
     |nil =>
      have er:some ds.isEmpty=some r:=er;cases er;refine .inr (.inr ⟨ax,ay,xs,rfl,rfl,SqL.of e1,SqL.of f1,?_⟩);have:xs.isEmpty=ds.isEmpty:=by cases e4<;>rfl
      rw[this];exact h1
     |cons _ _=>cases er
    |_=>cases er
   |@tup ax xs ds e1 e2 e3 e4 =>
    cases ry with
    |str j hj=>cases er;exact .inr (.inl ⟨_,j,B,.tup e1 e2 e3 e4,rfl,h1⟩)
    |_=>cases er
  ·exact h1.elim
 ·exact h1.elim
def neD (a b:Ab):Option Bool:=match a,b with
 |.list _,_=>none
 |.tuple _,_=>none
 |a,b=>(eqD a b).map not
def gNe:Wv->Wv->Int->DQ->Prop:=λx y n Q=>match x,y with
 |.d a,.d b=>match neD a b with
  |some r=>Q (.d (.bool r)) n
  |none=>False
 |_,_=>False
theorem j20:SndO rNe gNe:=λC H B σ δ n x y p q Q Q' R rx ry h1 k=>by
 unfold gNe at h1
 split at h1
 ·rename_i da db;have rx:RdX H B x da:=rx;have ry:RdX H B y db:=ry;have fin:∀r:Bool,Q (.d (.bool r)) n->Q' (.bl r) H:=λr q=>k _ _ H n R (Kp.refl _ _) (wd (.bl r)) q
  split at h1
  ·rename_i r er;have h1:=fin r h1;cases rx with
   |non=>cases ry<;>first | (cases er;done) | (cases er;exact⟨rfl,h1⟩)
   |bl i=>cases ry<;>first | (cases er;done) | (cases er;exact⟨rfl,by first | exact h1 | (rw[jv0];exact h1)⟩)
   |int i=>cases ry<;>first | (cases er;done) | (cases er;exact⟨rfl,by first | exact h1 | (rw[jrh];exact h1)⟩)
   |str i hi=>cases ry<;>first | (cases er;done) | (cases er;exact⟨rfl,by first | exact h1 | (rw[jmc];exact h1)⟩)
   |lst _ _ _ _=>cases er
   |tup _ _ _ _=>cases er
  ·exact h1.elim
 ·exact h1.elim
def jcl:Ab->Bool
 |.none=>true
 |_=>false
def gIsN (neg:Bool):Wv->Wv->Int->DQ->Prop:=λx y n Q=>match x,y with
 |.d a,.d .none=>Q (.d (.bool (if neg then !jcl a else jcl a))) n
 |_,_=>False
theorem jq9 {H:Hp} {B:Addr->Prop} {v:V} {d:Ab} (h:RdX H B v d):decide (v=.non)=jcl d:=by cases h<;>rfl
theorem jt6:SndO (λx y H Q=>y=.non/\Q (.bl (decide (x=.non))) H) (gIsN false):=λC H B σ δ n x y p q Q Q' R rx ry h1 k=>by
 unfold gIsN at h1
 split at h1
 ·rename_i da;cases(show RdX H B y .none from ry);exact⟨rfl,k _ _ H n R (Kp.refl _ _) (wd (show RdX H B _ (.bool (jcl da))from by rw[jq9 rx];exact .bl _)) h1⟩
 ·exact h1.elim
theorem jw3:SndO (λx y H Q=>y=.non/\Q (.bl (!decide (x=.non))) H) (gIsN true):=λC H B σ δ n x y p q Q Q' R rx ry h1 k=>by
 unfold gIsN at h1
 split at h1
 ·rename_i da;cases(show RdX H B y .none from ry);exact⟨rfl,k _ _ H n R (Kp.refl _ _) (wd (show RdX H B _ (.bool (!jcl da))from by rw[jq9 rx];exact .bl _)) h1⟩
 ·exact h1.elim
def jj8:Ab->Bool
 |.none=>true
 |.bool _=>true
 |.int _=>true
 |.str _=>true
 |_=>false
def eqF:Ab->Ab->Bool
 |.none,.none=>true
 |.bool a,.bool b=>a==b
 |.bool a,.int b=>(if a then 1 else 0)==b
 |.int a,.bool b=>a==(if b then 1 else 0)
 |.int a,.int b=>a==b
 |.str a,.str b=>a==b
 |_,_=>false
def inD (x:Ab) (ds:List Ab):Bool:=ds.any λy=>eqF y x
theorem jii {H:Hp} {B:Addr->Prop} {v:V} {d:Ab} (h:RdX H B v d) (f:jj8 d=true):jj7 v=true:=by cases h<;>first | rfl | cases f
theorem jfl {H:Hp} {B:Addr->Prop}:∀{vs:List V} {ds:List Ab},RdXs H B vs ds->ds.all jj8=true->vs.all jj7=true
 |_,_,.nil,_=>rfl
 |_,_,.cons h r,f=>by
  rw[Fv,Ap]at f ⊢;exact⟨jii h f.1,jfl r f.2⟩
theorem j47 {H:Hp} {B:Addr->Prop} {v u:V} {d e:Ab} (h:RdX H B v d) (h2:RdX H B u e):eqV v u=eqF d e:=by cases h<;>cases h2<;>rfl
theorem jn7 {H:Hp} {B:Addr->Prop} {v:V} {d:Ab} (h:RdX H B v d):∀{vs:List V} {ds:List Ab},RdXs H B vs ds->inV v vs=inD d ds
 |_,_,.nil=>rfl
 |_,_,.cons h1 r=>by
  have:=jn7 h r;unfold inV inD at this ⊢;rw[Fu,Fu,this,j47 h1 h]
def gIn (neg:Bool):Wv->Wv->Int->DQ->Prop:=λx y n Q=>match x,y with
 |.d a,.d (.tuple ds)=>jj8 a=true/\ds.all jj8=true/\Q (.d (.bool (if neg then !inD a ds else inD a ds))) n
 |.d a,.d (.list ds)=>jj8 a=true/\ds.all jj8=true/\Q (.d (.bool (if neg then !inD a ds else inD a ds))) n
 |_,_=>False
theorem jh2 {K:Ag} {neg:Bool}:SndO (rIn K neg) (gIn neg):=λC H B σ δ n x y p q Q Q' R rx ry h1 k=>by
 unfold gIn at h1
 split at h1
 ·rename_i da ds;obtain⟨f1,f2,q⟩:=h1;have rx:RdX H B x da:=rx;cases(show RdX H B y (.tuple ds)from ry)with
  |@tup ay ys _ e1 e2 e3 e4 =>
   refine⟨ay,ys,rfl,.inr (SqT.of e1),jii rx f1,jfl e4 f2,?_⟩;rw[jn7 rx e4];exact k _ _ H n R (Kp.refl _ _) (wd (.bl _)) q
 ·rename_i da ds;obtain⟨f1,f2,q⟩:=h1;have rx:RdX H B x da:=rx;cases(show RdX H B y (.list ds)from ry)with
  |@lst ay ys _ e1 e2 e3 e4 =>
   refine⟨ay,ys,rfl,.inl (SqL.of e1),jii rx f1,jfl e4 f2,?_⟩;rw[jn7 rx e4];exact k _ _ H n R (Kp.refl _ _) (wd (.bl _)) q
 ·exact h1.elim
def gIx:Wv->Wv->Int->DQ->Prop:=λx y n Q=>match x,y with
 |.d (.list ds),.d (.int i)=>match atI ds i with
  |some d=>Q (.d d) n
  |none=>False
 |.d (.tuple ds),.d (.int i)=>match atI ds i with
  |some d=>Q (.d d) n
  |none=>False
 |.d (.str z),.d (.int i)=>match atI z.cps.toList i with
  |some c=>Q (.d (.str ⟨#[c]⟩)) n
  |none=>False
 |_,_=>False
theorem jwf {H:Hp} {B:Addr->Prop} {vs:List V} {ds:List Ab} {i:Int} {d:Ab} (r:RdXs H B vs ds) (h:atI ds i=some d):∃v,atI vs i=some v/\RdX H B v d:=by
 unfold atI at h ⊢;rw[r.len];cases e:ixN ds.length i with
 |none=>rw[e]at h;cases h
 |some j =>
  rw[e]at h;exact r.getD h
theorem jnd {K:Ag}:SndO (rIx K) gIx:=λC H B σ δ n x y p q Q Q' R rx ry h1 k=>by
 unfold gIx at h1
 split at h1
 ·rename_i ds i
  split at h1
  ·rename_i d e;cases(show RdX H B y (.int i)from ry);cases(show RdX H B x (.list ds)from rx)with
   |@lst ay ys _ e1 e2 e3 e4 =>
    obtain⟨v,f1,f2⟩:=jwf e4 e;exact .inl ⟨ay,ys,i,v,rfl,rfl,SqL.of e1,f1,k _ _ H n R (Kp.refl _ _) (wd f2) h1⟩
  ·exact h1.elim
 ·rename_i ds i
  split at h1
  ·rename_i d e;cases(show RdX H B y (.int i)from ry);cases(show RdX H B x (.tuple ds)from rx)with
   |@tup ay ys _ e1 e2 e3 e4 =>
    obtain⟨v,f1,f2⟩:=jwf e4 e;exact .inr (.inl ⟨ay,ys,i,v,rfl,rfl,SqT.of e1,f1,k _ _ H n R (Kp.refl _ _) (wd f2) h1⟩)
  ·exact h1.elim
 ·rename_i z i
  split at h1
  ·rename_i c e;cases(show RdX H B y (.int i)from ry);cases(show RdX H B x (.str z)from rx)with
   |str _ hz=>exact .inr (.inr ⟨z,i,c,rfl,rfl,hz,e,k _ _ H n R (Kp.refl _ _) (wd (show RdX H B _ (.str ⟨#[c]⟩)from .str _ (by show 1<=Ax;decide))) h1⟩)
  ·exact h1.elim
 ·exact h1.elim
theorem d_ix (ha:DE X a ta wa) (hb:DE X b tb wb) (hs:jmt b:=by exact λ_ _=>rfl):DE X (.Subscript a b pos) (tOp (rIx X.K) ta tb) (w2 wa wb gIx):=⟨jha jvk ha.pe hb.pe hs,jnb jnd ha.sd hb.sd⟩
def gLen:List Wv->Int->DQ->Prop:=λxs n Q=>match xs with
 |[.d (.str x)]=>Q (.d (.int x.length)) n
 |[.d (.list ds)]=>Q (.d (.int ds.length)) n
 |[.d (.tuple ds)]=>Q (.d (.int ds.length)) n
 |_=>False
theorem jwb:CallR X (.builtin "len") (λxs H Q=>(∃z,xs=[.str z]/\z.length<=Ax/\Q (.int z.length) H)\/∃p ys,xs=[.ref p]/\(SqL X.K H p ys\/SqT X.K H p ys)/\Q (.int ys.length) H):=call_len_str.or jcv
theorem j0g {K:Ag}:SndB (λxs H Q=>(∃z,xs=[.str z]/\z.length<=Ax/\Q (.int z.length) H)\/∃p ys,xs=[.ref p]/\(SqL K H p ys\/SqT K H p ys)/\Q (.int ys.length) H) gLen:=λC H B σ δ n vs xs Q Q' R r h k=>by
 unfold gLen at h
 split at h
 ·rename_i x;cases r with
  |cons r1 r2 =>
   cases r2;cases(show RdX H B _ (.str x)from r1)with
   |str _ hz=>exact .inl ⟨x,rfl,hz,k _ _ H n R (Kp.refl _ _) (wd (.int _)) h⟩
 ·rename_i ds;cases r with
  |cons r1 r2 =>
   cases r2;cases(show RdX H B _ (.list ds)from r1)with
   |@lst ay ys _ e1 e2 e3 e4 =>
    refine .inr ⟨ay,ys,rfl,.inl (SqL.of e1),?_⟩;rw[e4.len];exact k _ _ H n R (Kp.refl _ _) (wd (.int _)) h
 ·rename_i ds;cases r with
  |cons r1 r2 =>
   cases r2;cases(show RdX H B _ (.tuple ds)from r1)with
   |@tup ay ys _ e1 e2 e3 e4 =>
    refine .inr ⟨ay,ys,rfl,.inr (SqT.of e1),?_⟩;rw[e4.len];exact k _ _ H n R (Kp.refl _ _) (wd (.int _)) h
 ·exact h.elim
theorem j2j {K:Ag} {H:Hp} {B:Addr->Prop} {v:V} {d:Ab} (h:RdX H B v d):TyOf K H v (.type (tyD d)):=by
 cases h with
 |non=>exact .non
 |bl b=>exact .bl b
 |int i=>exact .int i
 |str x h=>exact .str x
 |lst h1 h2 h3 h4=>exact .lst h1
 |tup h1 h2 h3 h4=>exact .tup h1
theorem j61 {K:Ag} {H:Hp} {B:Addr->Prop} {v:V} {d:Ab} (h:RdX H B v d) {T:String} (hT:T="int"\/T="bool"\/T="str"\/T="tuple"\/T="list"):PySem.W.kitOne K (.type (tyD d)) (.type T)=some (isiB T d):=by
 cases h<;>rcases hT with rfl | rfl | rfl | rfl | rfl<;>rfl
def wIsi (T:String) (w:DT):DT:=λδ n Q=>w δ n λx n1=>match x with
 |.d d=>Q (.d (.bool (isiB T d))) n1
 |_=>False
theorem j7r {T:String} {x:Str} {p p2:Pos} (hT:T="int"\/T="bool"\/T="str"\/T="tuple"\/T="list") (hg:Gl X "isinstance") (hm:X.mg "isinstance"=none) (hg2:Gl X x) (hm2:X.mg x=none) (hv:By x=some (.type T)) (ha:DE X a ta wa) (hn:x≠"__name__":=by decide) (hdb:(x==("__debug__":Str))=false:=by decide)
  (he:A8 [a,.Name x p2] X.env=(false,eval a X.env)::A8 [.Name x p2] X.env:=by rfl) (he2:A8 [.Name x p2] X.env=(false,eval (.Name x p2) X.env)::A8 [] X.env:=by rfl) (hpl:(Ek pos (A8 [.Name x p2] X.env)).any (·.1)=false:=by rfl) :
  DE X (.Call (.Name "isinstance" p) [a,.Name x p2] [] pos) (tCB (λxs H Q=>∃x t b,xs=[x,.ty T]/\TyOf X.K H x t/\PySem.W.kitOne X.K t (.type T)=some b/\Q (.bl b) H) (jdi ta (jdi (tC (.ty T)) tNil))) (wIsi T wa) :=
 ⟨jeg (jyg (T:=T)) hg hm jzt (ja0 ha.pe (ja0 (j06 (v:=.ty T) hg2 hm2 hv rfl hn hdb) jcg he2) he) (by decide) (by decide) he hpl,λC H B σ δ n Q Q' R q k=>ha.sd C H B σ δ n _ _ R q λv x H1 n1 R1 k1 r1 q1=>by
  cases x with
  |d d=>exact⟨v,_,_,rfl,j2j r1,j61 (show RdX H1 B v d from r1) hT,k _ _ H1 n1 R1 k1 (wd (.bl _)) q1⟩
  |tp=>exact q1.elim
  |dk _=>exact q1.elim
  |ln _=>exact q1.elim
  |ob _=>exact q1.elim⟩
def j40:List Wv->Int->DQ->Prop:=λxs n Q=>match xs with
 |[.d (.list ds)]=>j51 (.list ds)/\Q (.d (.str (PyData.shown (.list ds)))) n
 |[.d (.tuple ds)]=>j51 (.tuple ds)/\Q (.d (.str (PyData.shown (.tuple ds)))) n
 |_=>False
def jb0:List Ab->Option (List Bool)
 |[]=>some []
 |.bool b::r=>(jb0 r).map (b::·)
 |_::_=>none
theorem jrl {H:Hp} {B:Addr->Prop}:∀{vs:List V} {ds:List Ab} {bs:List Bool},RdXs H B vs ds->jb0 ds=some bs->vs=bs.map V.bl
 |_,_,bs,.nil,h=>by
  cases h;rfl
 |_,_,bs,.cons (d:=d) (ds:=ds) h1 h2,h=>by
  cases h1 with
  |bl b =>
   have h':(jb0 ds).map (b::·)=some bs:=h;cases e:jb0 ds with
   |none=>rw[e]at h';cases h'
   |some cs =>
    rw[e]at h';cases h';rw[jrl h2 e];rfl
  |_=>cases h
def gAll:List Wv->Int->DQ->Prop:=λxs n Q=>match xs with
 |[.d (.list ds)]=>match jb0 ds with
  |some bs=>Q (.d (.bool (bs.all id))) n
  |none=>False
 |_=>False
theorem j0n:SndB (λxs H Q=>∃(p:Addr) (bs:List Bool),xs=[.ref p]/\H p=some (.lst (bs.map V.bl))/\Q (.bl (bs.all id)) H) gAll:=λC H B σ δ n vs xs Q Q' R r h k=>by
 unfold gAll at h
 split at h
 ·rename_i ds
  split at h
  ·rename_i bs e;cases r with
   |cons r1 r2 =>
    cases r2;cases(show RdX H B _ (.list ds)from r1)with
    |@lst ay ys _ e1 e2 e3 e4 =>
     exact⟨ay,bs,rfl,by rw[<-jrl e4 e];exact e1,k _ _ H n R (Kp.refl _ _) (wd (.bl _)) h⟩
  ·exact h.elim
 ·exact h.elim
def jgt:List Wv->Int->DQ->Prop:=λxs n Q=>match xs with
 |[.d (.list ds)]=>Q (.d (.tuple ds)) n
 |[.d (.tuple ds)]=>Q (.d (.tuple ds)) n
 |_=>False
theorem jt3 {K:Ag}:SndB (λxs H Q=>∃p ys,xs=[.ref p]/\((SqL K H p ys/\∀l,H l=none->Q (.ref l) (upd H l (.tup ys)))\/(SqT K H p ys/\Q (.ref p) H))) jgt:=λC H B σ δ n vs xs Q Q' R r h k=>by
 unfold jgt at h
 split at h
 ·rename_i ds;cases r with
  |cons r1 r2 =>
   cases r2;cases(show RdX H B _ (.list ds)from r1)with
   |@lst ay ys _ e1 e2 e3 e4 =>
    refine⟨ay,ys,rfl,.inl ⟨SqL.of e1,λl hl=>?_⟩⟩;exact k _ _ _ n (R.new hl) (Kp.new hl) (wd (show RdX _ B _ (.tuple ds)from .tup jai (R.nb hl) e3 ((e4.fresh hl).less λb z=>.inl z))) h
 ·rename_i ds;cases r with
  |cons r1 r2 =>
   cases r2;cases(show RdX H B _ (.tuple ds)from r1)with
   |@tup ay ys _ e1 e2 e3 e4=>exact⟨ay,ys,rfl,.inr ⟨SqT.of e1,k _ _ H n R (Kp.refl _ _) (wd (show RdX H B _ (.tuple ds)from .tup e1 e2 e3 e4)) h⟩⟩
 ·exact h.elim
def jj6:List Wv->Int->DQ->Prop:=λxs n Q=>match xs with
 |[.d (.list ds)]=>Q (.d (.list ds)) n
 |[.d (.tuple ds)]=>Q (.d (.list ds)) n
 |_=>False
theorem jw4 {K:Ag}:SndB (λxs H Q=>∃p ys,xs=[.ref p]/\(SqL K H p ys\/SqT K H p ys)/\∀l,H l=none->Q (.ref l) (upd H l (.lst ys))) jj6:=λC H B σ δ n vs xs Q Q' R r h k=>by
 unfold jj6 at h
 split at h
 ·rename_i ds;cases r with
  |cons r1 r2 =>
   cases r2;cases(show RdX H B _ (.list ds)from r1)with
   |@lst ay ys _ e1 e2 e3 e4 =>
    refine⟨ay,ys,rfl,.inl (SqL.of e1),λl hl=>?_⟩;exact k _ _ _ n (R.new hl) (Kp.new hl) (wd (show RdX _ B _ (.list ds)from .lst jai (R.nb hl) e3 ((e4.fresh hl).less λb z=>.inl z))) h
 ·rename_i ds;cases r with
  |cons r1 r2 =>
   cases r2;cases(show RdX H B _ (.tuple ds)from r1)with
   |@tup ay ys _ e1 e2 e3 e4 =>
    refine⟨ay,ys,rfl,.inr (SqT.of e1),λl hl=>?_⟩;exact k _ _ _ n (R.new hl) (Kp.new hl) (wd (show RdX _ B _ (.list ds)from .lst jai (R.nb hl) e3 ((e4.fresh hl).less λb z=>.inl z))) h
 ·exact h.elim
end
structure ItOk (fz:Hp) (J:It) (ds:List Ab):Prop where
 le:ds.length<=Ax
 go:∀i H,(∀b o,fz b=some o->H b=some o)->i < ds.length->J.go i H
 stop:∀H,(∀b o,fz b=some o->H b=some o)->J.stop ds.length H
 yld:∀i H x H' d,(∀b o,fz b=some o->H b=some o)->ds[i]?=some d->J.yld i H x H'->Same H H'/\∀B,(∀b o,fz b=some o->¬B b)->(∀b,B b->H b≠none)->RdX H' B x d
def thaw (H:Hp) (B:Addr->Prop) (fz:Hp):Prop:=(∀b o,fz b=some o->H b=some o/\¬B b)/\∀b o,H b=some o->¬B b->fz b=some o
abbrev DTI:=Sl->Int->(List Ab->Int->Prop)->Prop
def SndI (wi:TI) (v:DTI):Prop:=∀(C:Ctx) (H:Hp) (B:Addr->Prop) (σ:St) (δ:Sl) (n:Int) (Q:List Ab->Int->Prop) (Q':It->Hp->Prop),Rel C H B σ δ n->v δ n Q ->
 (∀J ds H' n',Rel C H' B σ δ n'->Kp C.t H H'->(∀fz,thaw H' B fz->ItOk fz J ds)->Q ds n'->Q' J H')->wi σ H Q'
structure DI (X:Cx) (tg iter:Expr) (wi:TI) (v:DTI):Prop where
 pi:PI X tg iter wi
 sd:SndI wi v
section
variable {X:Cx} {tg a b c e:Expr} {ta tb te:TE} {wa wb we:DT} {pos p:Pos}
def je8 (w:DT):DTI:=λδ n Q=>w δ n λx n1=>match x with
 |.d (.list ds)=>Q ds n1
 |_=>False
def ja7 (w:DT):DTI:=λδ n Q=>w δ n λx n1=>match x with
 |.d (.tuple ds)=>Q ds n1
 |_=>False
def jcm (x:Str):List Ab:=x.cps.toList.map λc=>.str ⟨#[c]⟩
def jcd (w:DT):DTI:=λδ n Q=>w δ n λx n1=>match x with
 |.d (.str x)=>Q (jcm x) n1
 |_=>False
theorem j4s (ha:DE X a ta wa):DI X tg a (j1s X.K ta) (je8 wa):=⟨j00 ha.pe,λC H B σ δ n Q Q' R q k=>ha.sd C H B σ δ n _ _ R q λv x H1 n1 R1 k1 r1 q1=>by
 split at q1
 ·rename_i ds;cases(show RdX H1 B v (.list ds)from r1)with
  |@lst ay ys _ e1 e2 e3 e4 =>
   refine⟨ay,rfl,⟨ys,SqL.of e1⟩,k _ ds H1 n1 R1 k1 (λfz th=>?_) q1⟩;have hfz:fz ay=some (.lst ys):=th.2 _ _ e1 e2;refine⟨by rw[<-e4.len];exact e3,λi H hH hi=>?_,λH hH=>?_,λi H x H' d hH hd hy=>?_⟩
   ·rw[<-e4.len]at hi;exact⟨ys,ys[i],SqL.of (hH _ _ hfz),Am hi⟩
   ·exact⟨ys,SqL.of (hH _ _ hfz),by rw[e4.len];exact Ar _⟩
   ·obtain⟨rfl,hy⟩:=hy;refine⟨λ_ _ z=>z,λB' hB hBa=>?_⟩;obtain⟨u,hu,ru⟩:=e4.getD hd;have:=hy _ (SqL.of (hH _ _ hfz));rw[hu]at this;cases this;exact ru.move λb o e ne=>⟨hH _ _ (th.2 _ _ e ne),hB _ _ (th.2 _ _ e ne)⟩
 ·exact q1.elim⟩
theorem j62 (ha:DE X a ta wa):DI X tg a (iTup X.K ta) (ja7 wa):=⟨j3s ha.pe,λC H B σ δ n Q Q' R q k=>ha.sd C H B σ δ n _ _ R q λv x H1 n1 R1 k1 r1 q1=>by
 split at q1
 ·rename_i ds;cases(show RdX H1 B v (.tuple ds)from r1)with
  |@tup ay ys _ e1 e2 e3 e4 =>
   refine⟨ay,rfl,⟨ys,SqT.of e1⟩,k _ ds H1 n1 R1 k1 (λfz th=>?_) q1⟩;have hfz:fz ay=some (.tup ys):=th.2 _ _ e1 e2;refine⟨by rw[<-e4.len];exact e3,λi H hH hi=>?_,λH hH=>?_,λi H x H' d hH hd hy=>?_⟩
   ·rw[<-e4.len]at hi;exact⟨ys,ys[i],SqT.of (hH _ _ hfz),Am hi⟩
   ·exact⟨ys,SqT.of (hH _ _ hfz),by rw[e4.len];exact Ar _⟩
   ·obtain⟨rfl,hy⟩:=hy;refine⟨λ_ _ z=>z,λB' hB hBa=>?_⟩;obtain⟨u,hu,ru⟩:=e4.getD hd;have:=hy _ (SqT.of (hH _ _ hfz));rw[hu]at this;cases this;exact ru.move λb o e ne=>⟨hH _ _ (th.2 _ _ e ne),hB _ _ (th.2 _ _ e ne)⟩
 ·exact q1.elim⟩
theorem j63 (ha:DE X a ta wa):DI X tg a (iStr ta) (jcd wa):=⟨j3t ha.pe,λC H B σ δ n Q Q' R q k=>ha.sd C H B σ δ n _ _ R q λv x H1 n1 R1 k1 r1 q1=>by
 split at q1
 ·rename_i x;cases(show RdX H1 B v (.str x)from r1)with
  |str _ hx =>
   have hl:(jcm x).length=x.cps.size:=by unfold jcm;simp
   refine⟨x,rfl,k _ (jcm x) H1 n1 R1 k1 (λfz th=>⟨?_,λi H hH hi=>?_,λH hH=>?_,λi H y H' d hH hd hy=>?_⟩) q1⟩
   ·rw[hl];exact hx
   ·rw[hl]at hi;exact hi
   ·exact hl
   ·obtain⟨rfl,cc,hc,rfl⟩:=hy;refine⟨λ_ _ z=>z,λB' hB hBa=>?_⟩;unfold jcm at hd;rw[Ba,Array.getElem?_toList,hc]at hd;cases hd;exact .str _ (by show 1<=Ax;decide)
 ·exact q1.elim⟩
def rngD (lo:Int) (n:Nat):List Ab:=(Bu n).map λi=>.int (lo+(i:Nat))
def ja1 (w:DT):DTI:=λδ n Q=>w δ n λx n1=>match x with
 |.d (.int j)=>(-(2 ^ 62)<=j/\j<=1000000)/\Q (rngD 0 j.toNat) n1
 |_=>False
theorem jx1 (fz:Hp) (lo:Int) (n:Nat) (hn:n<=1000000):ItOk fz (Itr lo n) (rngD lo n):=by
 have hl:(rngD lo n).length=n:=by unfold rngD;simp
 refine⟨?_,λi H hH hi=>?_,λH hH=>?_,λi H y H' d hH hd hy=>?_⟩
 ·rw[hl];exact Bw hn (by decide)
 ·rw[hl]at hi;exact hi
 ·show n<=(rngD lo n).length;rw[hl];exact Ar _
 ·obtain⟨rfl,rfl⟩:=hy;refine⟨λ_ _ z=>z,λB' hB hBa=>?_⟩;unfold rngD at hd;rw[Ba]at hd;cases e:(Bu n)[i]? with
  |none=>rw[e]at hd;cases hd
  |some j =>
   rw[e]at hd;have:j=i:=by
    obtain⟨h1,h2⟩:=Bp.mp e;rw[List.getElem_range]at h2;exact h2.symm
   subst this;cases hd;exact .int _
theorem jx2 {p:Pos} (hg:Gl X "range") (hm:X.mg "range"=none) (ha:DE X a ta wa) (hs:A8 [a] X.env=[(false,eval a X.env)]:=by rfl):DI X tg (.Call (.Name "range" p) [a] [] pos) (j4v (jdi ta tNil)) (ja1 wa):=⟨jus hg hm (ja0 ha.pe jcg hs) hs,λC H B σ δ n Q Q' R q k=>ha.sd C H B σ δ n _ _ R q λv x H1 n1 R1 k1 r1 q1=>by
 split at q1
 ·rename_i j;cases(show RdX H1 B v (.int j)from r1);refine⟨j,rfl,q1.1.1,by have:=q1.1.2;have:(2:Int)^62=4611686018427387904:=(by decide);omega,k _ (rngD 0 j.toNat) H1 n1 R1 k1 (λfz _=>jx1 fz 0 j.toNat (by have:=q1.1.2;omega)) q1.2⟩
 ·exact q1.elim⟩
end
abbrev DTG:=Ab->Sl->(Sl->Prop)->Prop
def SndG (g:TG) (v:DTG):Prop:=∀(C:Ctx) (H:Hp) (B:Addr->Prop) (σ:St) (δ:Sl) (n:Int) (x:V) (d:Ab) (Q:Sl->Prop) (Q':St->Hp->Prop),Rel C H B σ δ n->RdX H B x d->v d δ Q ->
 (∀σ' δ',Rel C H B σ' δ' n->Q δ'->Q' σ' H)->g x σ H Q'
structure DG (X:Cx) (tg:Expr) (g:TG) (v:DTG):Prop where
 pg:PG X tg g
 sd:SndG g v
section
variable {X:Cx} {pos:Pos}
def jad (i:Nat):DTG:=λd δ Q=>Q (δ.set i (some (.w (.d d))))
theorem j4z {i:Nat} {x:Str} (hN:X.N.Nodup) (hi:X.N[i]?=some x) (hx:Loc X.env.scope x) (hf:X.fn x=true\/X.env.scope.names.lookup x=some .local:=by first | exact .inl rfl | exact .inr rfl | assumption):DG X (.Name x pos) (jhg i) (jad i) :=
 ⟨j03 hN hi hx hf,λC H B σ δ n x d Q Q' R r q k=>k _ _ (R.set (x:=.d d) r rfl) q⟩
end
def forD (g:DTG) (W:DST) (K:DEnds):List Ab->Sl->Int->Prop
 |[],δ,n=>K.nx δ n
 |d::r,δ,n=>g d δ λδ'=>W δ' n {K with nx:=forD g W K r,ct:=forD g W K r,bk:=K.nx}
def sFor (v:DTI) (g:DTG) (W:DST):DST:=λδ n K=>v δ n λds n1=>forD g W K ds δ n1
def fzOf (H:Hp) (B:Addr->Prop):Hp:=λb=>open Classical in if B b then none else H b
theorem jhv (H:Hp) (B:Addr->Prop):thaw H B (fzOf H B):=by
 refine⟨λb o e=>?_,λb o e n=>?_⟩
 ·unfold fzOf at e
  split at e
  ·cases e
  ·rename_i h;exact⟨e,h⟩
 ·unfold fzOf;rw[if_neg n];exact e
theorem Rel.refz {C:Ctx} {H:Hp} {B:Addr->Prop} {σ:St} {δ:Sl} {n:Int} (R:Rel C H B σ δ n):Rel {C with fz:=fzOf H B} H B σ δ n :=
 ⟨R.tp,R.kp,R.t0,R.l0,R.g0,(jhv H B).1,R.bt,R.b0,R.ba,R.a0,R.sl,R.ow,R.len⟩
theorem Rel.unfz {C:Ctx} {fz:Hp} {H:Hp} {B:Addr->Prop} {σ:St} {δ:Sl} {n:Int} (R:Rel {C with fz:=fz} H B σ δ n) (h:∀b o,C.fz b=some o->fz b=some o):Rel C H B σ δ n :=
 ⟨R.tp,R.kp,R.t0,R.l0,R.g0,λb o e=>R.fz b o (h b o e),R.bt,R.b0,R.ba,R.a0,R.sl,R.ow,R.len⟩
theorem Rel.same {C:Ctx} {H H':Hp} {B:Addr->Prop} {σ:St} {δ:Sl} {n:Int} (R:Rel C H B σ δ n) (k:Same H H'):Rel C H' B σ δ n:=by
 obtain⟨a,b,e,h⟩:=R.tp.ob;exact R.step ⟨⟨a,b,k _ _ e,h⟩,k _ _ R.tp.ls,R.tp.len,λz=>k _ _ (R.tp.ag z),R.tp.gne⟩ λb o e _=>k b o e
section
variable {X:Cx} {tg iter:Expr} {body:List Stmt} {wi:TI} {v:DTI} {g:TG} {gd:DTG} {T:TS} {W:DST} {pos:Pos}
theorem j6l (hi:DI X tg iter wi v) (hg:DG X tg g gd) (hb:DSs X body T W) (hp:PassesOwn (Bb X.prog X.w) X.A X.env X.xe:=by exact PassesOwn.never) (hc:X.calm=true:=by rfl)
  (hs:∀x,Ec iter X.env x=pure x:=by intro _;rfl):DS X (.For tg iter body [] pos) (tFor wi g T) (sFor v gd W):=⟨j3q hp hc hi.pi hg.pg hb.ps hs,λC H B σ δ n K D R q E =>
 hi.sd C H B σ δ n _ _ R q λJ ds H1 n1 R1 k1 hJ q1=>by
  have ok:=hJ (fzOf H1 B) (jhv H1 B);have R1':=R1.refz;have back:∀{H B' σ δ n},Rel {C with fz:=fzOf H1 B} H B' σ δ n->Rel C H B' σ δ n:=λR=>R.unfz λb o e=>(jhv H1 B).2 b o (R1.fz b o e).1 (R1.fz b o e).2;refine⟨λi m σ H=>m=ds.length - i/\i<=ds.length/\∃B' δ n,Rel {C with fz:=fzOf H1 B} H B' σ δ n/\forD gd W K (ds.drop i) δ n,⟨ds.length,by simp,Bj _,B,δ,n1,R1',by simpa using q1⟩,?_⟩
  rintro i m σ2 H2 ⟨rfl,hi,B2,δ2,n2,R2,q2⟩
  have hfz:∀b o,fzOf H1 B b=some o->H2 b=some o:=λb o e=>(R2.fz b o e).1;by_cases hlt:i < ds.length
  ·rw[List.drop_eq_getElem_cons hlt]at q2;refine .inr ⟨ok.go i H2 hfz hlt,λσ3 H3=>∃B' δ n,Rel {C with fz:=fzOf H1 B} H3 B' σ3 δ n/\forD gd W K (ds.drop (i+1)) δ n,λσ' H' z=>⟨ds.length - (i+1),by omega,rfl,hlt,z⟩,λx H' hy=>?_⟩;obtain⟨sm,rd⟩:=ok.yld i H2 x H' ds[i] hfz (Am hlt) hy;have R3:=R2.same sm;refine hg.sd _ H' B2 σ2 δ2 n2 x ds[i] _ _ R3 (rd B2 (λb o e=>(R2.fz b o e).2) R2.ba) q2 λσ' δ' R4 q4=>?_;refine hb.sd _ H' B2 σ' δ' n2 _ _ R4 q4 ⟨?_,?_,?_,?_,λH B σ δ n a xs ds R h0 h1 h2 h3 q=>E.rn H B σ δ n a xs ds (back R) h0 h1 h2 h3 q⟩
   ·exact λH B σ δ n R q=>⟨B,δ,n,R,q⟩
   ·exact λH B σ δ n v w R r q=>E.rt H B σ δ n v w (back R) r q
   ·exact λH B σ δ n R q=>E.nx H B σ δ n (back R) q
   ·exact λH B σ δ n R q=>⟨B,δ,n,R,q⟩
  ·have e:i=ds.length:=by omega
   subst e;rw[List.drop_length]at q2;exact .inl ⟨ok.stop H2 hfz,E.nx H2 B2 σ2 δ2 n2 (back R2) q2⟩⟩
end
def jbr (fr:List (Option Nat)) (δ:Sl):Sl:=fr.map λo=>o.bind λi=>match δ[i]? with
 |some (some (.w x))=>some (.w x)
 |some (some (.odk kvs))=>some (.w (.dk kvs))
 |some (some (.own ds))=>some (.w (.ln ds))
 |_=>none
def jbm (g:DTG) (c:DTT) (w:DT) (Q:List Ab->Int->Prop):List Ab->List Ab->Sl->Int->Prop
 |[],acc,_,n=>Q acc n
 |d::r,acc,δ,n=>g d δ λδ'=>c δ' n λb n1=>if b=true then w δ' n1 λx n2=>match x with
   |.d y=>jbm g c w Q r (acc++[y]) δ' n2
   |_=>False
  else jbm g c w Q r acc δ' n1
def jaq (fr:List (Option Nat)) (v:DTI) (g:DTG) (c:DTT) (w:DT):DTF:=λδ n Q=>v δ n λds n1=>jbm g c w Q ds [] (jbr fr δ) n1
structure DIf (X:Cx) (ifs:List Expr) (t:TT) (c:DTT):Prop where
 pf:PIf X ifs t
 sd:SndT t c
def cYes:DTT:=λ_ n Q=>Q true n
theorem j4p {X:Cx}:DIf X [] j2r cYes:=⟨j0y,λC H B σ δ n Q Q' R q k=>k true H n R (Kp.refl _ _) q⟩
theorem j4o {X:Cx} {c:Expr} {t:TT} {cc:DTT} (h:DC X c t cc):DIf X [c] t cc:=⟨j0x h.pt,h.sd⟩
theorem jyd (fr:List (Option Nat)) (σ:St):(capt fr σ).length=fr.length:=by unfold capt;rw[Ai]
theorem jv8 (fr:List (Option Nat)) (δ:Sl):(jbr fr δ).length=fr.length:=by unfold jbr;rw[Ai]
theorem jim {fr:List (Option Nat)} {δ:Sl} {j:Nat} {x:SV} (h:(jbr fr δ)[j]?=some (some x)):∃i y,fr[j]?=some (some i)/\δ[i]?=some (some y)/\((∃z,x=.w z/\y=.w z)\/(∃kvs,x=.w (.dk kvs)/\y=.odk kvs)\/∃ds,x=.w (.ln ds)/\y=.own ds):=by
 unfold jbr at h;rw[Ba]at h;cases e:fr[j]? with
 |none=>rw[e]at h;cases h
 |some o =>
  rw[e]at h;cases o with
  |none=>cases h
  |some i =>
   have h':=Bo h;dsimp only[B3]at h'
   split at h'
   ·rename_i z ez;cases h';exact⟨i,_,rfl,ez,.inl ⟨z,rfl,rfl⟩⟩
   ·rename_i kvs ez;cases h';exact⟨i,_,rfl,ez,.inr (.inl ⟨kvs,rfl,rfl⟩)⟩
   ·rename_i ds ez;cases h';exact⟨i,_,rfl,ez,.inr (.inr ⟨ds,rfl,rfl⟩)⟩
   ·cases h'
theorem j13 {fr:List (Option Nat)} {σ:St} {j i:Nat} {v:V} (h:fr[j]?=some (some i)) (h2:σ[i]?=some (some v)):(capt fr σ)[j]?=some (some v):=by
 unfold capt;rw[Ba,h];show some ((σ[i]?).bind id)=_;rw[h2];rfl
theorem jxc {C:Ctx} {H:Hp} {B:Addr->Prop} {σ:St} {δ:Sl} {n:Int} {L:Addr} {fr:List (Option Nat)} (R:Rel C H B σ δ n) (hL:H L=none) :
  Rel ⟨C.t,C.l,C.ns,H,B,fzOf H B⟩ (upd H L (.lst [])) (λb=>B b\/b=L) (capt fr σ) (jbr fr δ) n where
 tp:=R.tp.new hL
 kp:=Kp.new hL
 t0:=R.ba _ R.bt
 l0:=by
  show H C.l.s≠none;rw[R.tp.ls];exact λz=>nomatch z
 g0:=λe=>by
  show H C.l.g≠none;rw[R.tp.ag e];exact λz=>nomatch z
 fz:=λb o e=>by
  obtain⟨e1,e2⟩:=(jhv H B).1 b o e;exact⟨by rw[jag (jae e1 hL)];exact e1,λz=>z.elim e2 λq=>jae e1 hL q⟩
 bt:=.inl R.bt
 b0:=λb z=>.inl z
 ba:=λb z e=>by
  by_cases q:b=L
  ·rw[q,jai]at e;cases e
  ·rw[jag q]at e;exact R.ba b (z.resolve_right q) e
 a0:=R.ba
 sl:=λj x e=>by
  have mv:∀b o',H b=some o'->¬B b->upd H L (.lst []) b=some o'/\¬(B b\/b=L):=λb o' e n=>⟨by rw[jag (jae e hL)];exact e,λz=>z.elim n λq=>jae e hL q⟩;obtain⟨i,y,e1,e2,hy⟩:=jim e;obtain⟨v,f1,f2⟩:=R.sl i y e2;refine⟨v,j13 e1 f1,?_⟩;rcases hy with⟨z,rfl,rfl⟩ | ⟨kvs,rfl,rfl⟩ | ⟨ds,rfl,rfl⟩
  ·cases z with
   |d d=>exact⟨f2.1.move mv,λz=>by cases z⟩
   |tp=>exact⟨f2.1,λz=>by cases z⟩
   |ln ds =>
    obtain⟨a,l,g1,g2,g3,g4,g5⟩:=f2.1;exact⟨⟨a,l,g1,by rw[jag (jae g2 hL)];exact g2,g3,g4,g5.move mv⟩,λ_=>⟨a,g1,by show H a≠none;rw[g2];exact λz=>nomatch z⟩⟩
   |dk kvs =>
    obtain⟨a,l,g1,g2,g3,g4⟩:=f2.1;exact⟨⟨a,l,g1,by rw[jag (jae g2 hL)];exact g2,g3,g4.move mv⟩,λ_=>⟨a,g1,by show H a≠none;rw[g2];exact λz=>nomatch z⟩⟩
   |ob o =>
    refine⟨?_,λz=>by cases z⟩;exact ORel.move mv f2.1
  ·obtain⟨a,l,g1,g2,g3,g4,g5,g6⟩:=f2;exact⟨⟨a,l,g1,by rw[jag (jae g2 hL)];exact g2,λz=>R.t0 (z▸g4),g6.move mv⟩,λ_=>⟨a,g1,by show H a≠none;rw[g2];exact λz=>nomatch z⟩⟩
  ·obtain⟨a,l,g1,g2,g3,g4,g5,g6⟩:=f2;exact⟨⟨a,l,g1,by rw[jag (jae g2 hL)];exact g2,λz=>R.t0 (z▸g4),g5,g6.move mv⟩,λ_=>⟨a,g1,by show H a≠none;rw[g2];exact λz=>nomatch z⟩⟩
 ow:=λi j x y v e1 e2 o1 o2 _ _=>by
  obtain⟨_,_,_,_,hy⟩:=jim e1;rcases hy with⟨z,rfl,_⟩ | ⟨kvs,rfl,_⟩ | ⟨ds,rfl,_⟩
  ·cases o1
  ·cases o1
  ·cases o1
 len:=by rw[jyd,jv8]
section
variable {X:Cx} {elt tg iter:Expr} {ifs:List Expr} {scope:Eo} {cl:List (Str×Addr)} {pos:Pos} {N:List Str} {fr:List (Option Nat)} {wi:TI} {v:DTI} {g:TG} {gd:DTG} {tt:TT} {cc:DTT} {te:TE} {we:DT}
def jhb (δ:Sl):Prop:=∀(i:Nat) (x:SV),δ[i]?=some (some x)->x.isOwn=false
theorem jyf (fr:List (Option Nat)) (δ:Sl):jhb (jbr fr δ):=λi x e=>by
 obtain⟨_,_,_,_,hy⟩:=jim e;rcases hy with⟨z,rfl,_⟩ | ⟨kvs,rfl,_⟩ | ⟨ds,rfl,_⟩<;>rfl
def jjf (v:DTG):Prop:=∀d δ Q,jhb δ->v d δ Q->v d δ λδ'=>jhb δ'/\Q δ'
theorem jpz (i:Nat):jjf (jad i):=λd δ Q h q=>⟨λj x e=>by
 rcases jap e with⟨_,rfl⟩ | ⟨_,e'⟩
 ·rfl
 ·exact h j x e',q⟩
theorem jvv (hc:X.calm=true) (S:CompSc X N scope cl fr) (hi:DI X tg iter wi v) (hg:∀s H fp,DG (ja8 X N scope cl s H fp) tg g gd) (ht:∀s H fp,DIf (ja8 X N scope cl s H fp) ifs tt cc)
  (he:∀s H fp,DE (ja8 X N scope cl s H fp) elt te we) (hno:jjf gd) (hs:∀x,Ec iter X.env x=pure x:=by intro _;rfl) :
  DF X (.ListComp elt [⟨tg,iter,ifs,0⟩] scope pos) (jtp fr wi g tt te) (jaq fr v gd cc we):=by
 refine⟨j04 hc S hi.pi (λs H fp=>(hg s H fp).pg) (λs H fp=>(ht s H fp).pf) (λs H fp=>(he s H fp).pe) hs,λC H B σ δ n Q Q' R q k=>hi.sd C H B σ δ n _ _ R q λJ ds H1 n1 R1 k1 hJ q1=>λL hL=>?_⟩;have sg:=(hg X.s₀ X.H₀ []).sd;have st:=(ht X.s₀ X.H₀ []).sd;have se:=(he X.s₀ X.H₀ []).sd;have ok:=hJ (fzOf H1 B) (jhv H1 B);have hLt:L≠C.t:=λz=>R1.ba _ R1.bt (z▸hL);refine⟨λi m ys τ H=>m=ds.length - i/\i<=ds.length/\ys.length<=i/\∃δ' n' acc,Rel ⟨C.t,C.l,C.ns,H1,B,fzOf H1 B⟩ H (λb=>B b\/b=L) τ δ' n'/\jhb δ'/\H L=some (.lst ys)/\RdXs H (λb=>B b\/b=L) ys acc/\jbm gd cc we Q (ds.drop i) acc δ' n',
  ⟨ds.length,by simp,Bj _,Bj _,jbr fr δ,n1,[],jxc R1 hL,jyf fr δ,jai,.nil,by simpa using q1⟩,?_⟩
 rintro i m ys τ H2 ⟨rfl,hi,hys,δ2,n2,acc,R2,no2,hL2,rd2,q2⟩
 have hfz:∀b o,fzOf H1 B b=some o->H2 b=some o:=λb o e=>(R2.fz b o e).1;by_cases hlt:i < ds.length
 ·rw[List.drop_eq_getElem_cons hlt]at q2;refine .inr ⟨ok.go i H2 hfz hlt,Bq (F5 hys hlt) ok.le,λx H' hy=>?_⟩;obtain⟨sm,rd⟩:=ok.yld i H2 x H' ds[i] hfz (Am hlt) hy;have R3:=R2.same sm;refine sg _ H' _ τ δ2 n2 x ds[i] _ _ R3 (rd _ (λb o e=>(R2.fz b o e).2) R2.ba) (hno _ _ _ no2 q2) λτ3 δ3 R4 ⟨no3,q4⟩=>?_;refine st _ H' _ τ3 δ3 n2 _ _ R4 q4 λb H4 n4 R5 k5 q5=>?_;have hL4:H4 L=some (.lst ys):=k5 _ _ (sm _ _ hL2) hLt;have rd4:RdXs H4 (λb=>B b\/b=L) ys acc:=(rd2.keep λb o e _=>sm b o e).kp k5 R4.bt;cases b with
  |false =>
   rw[if_neg Al]at q5 ⊢;exact⟨ds.length - (i+1),by omega,rfl,hlt,by omega,δ3,n4,acc,R5,no3,hL4,rd4,q5⟩
  |true =>
   rw[if_pos rfl]at q5 ⊢;refine se _ H4 _ τ3 δ3 n4 _ _ R5 q5 λu y H5 n5 R6 k6 r6 q6=>?_;cases y with
   |d y =>
    have hL5:H5 L=some (.lst ys):=k6 _ _ hL4 hLt;refine⟨hL5,ds.length - (i+1),by omega,rfl,hlt,by rw[Ak,A9];omega,δ3,n5,acc++[y],R6.mut (.inr rfl) hL λj z e o=>absurd (no3 j z e) (by rw[o];exact λq=>nomatch q),no3,jai,?_,q6⟩;refine RdXs.keep (λb o e n=>?_) ((rd4.kp k6 R5.bt).append (.cons r6 .nil));rw[jag λ(z:b=L)=>n (.inr z)];exact e
   |tp=>exact q6.elim
   |dk _=>exact q6.elim
   |ln _=>exact q6.elim
   |ob _=>exact q6.elim
 ·have e:i=ds.length:=by omega
  subst e;rw[List.drop_length]at q2;refine .inl ⟨ok.stop H2 hfz,k L ys acc H2 n2 (R1.step R2.tp R2.kp) (k1.trans R2.kp) (R1.was k1 hL) hL2 (Bw hys ok.le) rd2 q2⟩
end
abbrev DTGs:=List Ab->Sl->(Sl->Prop)->Prop
def j78 (g:TGs) (v:DTGs):Prop:=∀(C:Ctx) (H:Hp) (B:Addr->Prop) (σ:St) (δ:Sl) (n:Int) (xs:List V) (ds:List Ab) (Q:Sl->Prop) (Q':St->Hp->Prop),Rel C H B σ δ n->RdXs H B xs ds->v ds δ Q ->
 (∀σ' δ',Rel C H B σ' δ' n->Q δ'->Q' σ' H)->g xs σ H Q'
structure DGs (X:Cx) (ts:List Expr) (g:TGs) (v:DTGs):Prop where
 pg:PGs X ts g
 sd:j78 g v
def jbg:DTGs:=λds δ Q=>match ds with
 |[]=>Q δ
 |_=>False
def jan (v:DTG) (r:DTGs):DTGs:=λds δ Q=>match ds with
 |d::ds=>v d δ λδ'=>r ds δ' Q
 |[]=>False
def jbl (n:Nat) (r:DTGs):DTG:=λd δ Q=>match d with
 |.tuple ds=>ds.length=n/\r ds δ Q
 |_=>False
theorem jqq:∀ds δ Q,jhb δ->jbg ds δ Q->jbg ds δ λδ'=>jhb δ'/\Q δ':=λds δ Q h q=>by
 cases ds with
 |nil=>exact⟨h,q⟩
 |cons _ _=>exact q
theorem jg2 {v:DTG} {r:DTGs} (mono:∀d δ (Q Q':Sl->Prop),(∀δ',Q δ'->Q' δ')->v d δ Q->v d δ Q') (hv:jjf v) (hr:∀ds δ Q,jhb δ->r ds δ Q->r ds δ λδ'=>jhb δ'/\Q δ'):∀ds δ Q,jhb δ->jan v r ds δ Q->jan v r ds δ λδ'=>jhb δ'/\Q δ':=λds δ Q h q=>by
 cases ds with
 |nil=>exact q
 |cons d ds=>exact mono d δ _ _ (λδ' z=>hr ds δ' Q z.1 z.2) (hv d δ _ h q)
theorem j4a {n:Nat} {r:DTGs} (hr:∀ds δ Q,jhb δ->r ds δ Q->r ds δ λδ'=>jhb δ'/\Q δ'):jjf (jbl n r):=λd δ Q h q=>by
 unfold jbl at q ⊢
 split at q
 ·exact⟨q.1,hr _ _ _ h q.2⟩
 ·exact q.elim
theorem j1m (i j n:Nat):jjf (jbl n (jan (jad i) (jan (jad j) jbg))) :=
 j4a (jg2 (λ_ _ _ _ h q=>h _ q) (jpz i) (jg2 (λ_ _ _ _ h q=>h _ q) (jpz j) jqq))
section
variable {X:Cx} {pos:Pos}
theorem j4x:DGs X [] gNil jbg:=⟨j02,λC H B σ δ n xs ds Q Q' R r q k=>by
 cases r with
 |nil=>exact⟨rfl,k σ δ R q⟩
 |cons _ _=>exact q.elim⟩
end
section
variable {X:Cx} {pos:Pos}
theorem j1t {e:Expr} {es:List Expr} {t:TG} {u:TGs} {v:DTG} {r:DTGs} (h1:DG X e t v) (h2:DGs X es u r)
  (hs:(Dx (e::es) X.env).map (·.2)=assign e X.env::(Dx es X.env).map (·.2):=by rfl):DGs X (e::es) (j41 t u) (jan v r):=⟨jxk h1.pg h2.pg hs,λC H B σ δ n xs ds Q Q' R rr q k=>by
 cases rr with
 |nil=>exact q.elim
 |cons r1 r2=>exact⟨_,_,rfl,h1.sd C H B σ δ n _ _ _ _ R r1 q λσ' δ' R' q'=>h2.sd C H B σ' δ' n _ _ _ _ R' r2 q' k⟩⟩
theorem j66 {es:List Expr} {k:Nat} {t:TGs} {n:Nat} {r:DTGs} (h:DGs X es t r) (hc:X.calm=true:=by rfl)
  (hn:(Dx es X.env).length=n:=by rfl) (hst:(Dx es X.env).findIdx? (·.1)=none:=by rfl):DG X (.Tuple es k pos) (gTup X.K n t) (jbl n r):=⟨j3u hc h.pg hn hst,λC H B σ δ n' x d Q Q' R rr q k=>by
 unfold jbl at q
 split at q
 ·rename_i ds;cases rr with
  |@tup ay ys _ e1 e2 e3 e4=>exact⟨ay,ys,rfl,SqT.of e1,by rw[e4.len];exact q.1,h.sd C H B σ δ n' _ _ _ _ R e4 q.2 k⟩
 ·exact q.elim⟩
def j0b:List Ab->Option (List Str)
 |[]=>some []
 |.str b::r=>(j0b r).map (b::·)
 |_::_=>none
def j8b (w w':DT):DT:=λδ n Q=>w δ n λx n1=>match x with
 |.d (.str z)=>w' δ n1 λy n2=>match y with
  |.d (.list ds)=>match j0b ds with
   |some ys=>(ys.map (·.length)).sum+ys.length*z.length<=16777216/\Q (.d (.str (Txt.join z ys))) n2
   |none=>False
  |.d (.tuple ds)=>match j0b ds with
   |some ys=>(ys.map (·.length)).sum+ys.length*z.length<=16777216/\Q (.d (.str (Txt.join z ys))) n2
   |none=>False
  |_=>False
 |_=>False
def sPut (i:Nat) (wj w:DT):DST:=λδ n K=>match δ[i]? with
 |some (some (.own ds))=>w δ n λx n1=>wj δ n1 λj n2=>match x,j with
  |.d d,.d (.int k)=>match ixN ds.length k with
   |some m=>K.nx (δ.set i (some (.own (ds.set m d)))) n2
   |none=>False
  |_,_=>False
 |_=>False
theorem j6g {i:Nat} {x:Str} {xp sp:Pos} {j e:Expr} {tj te:TE} {wj we:DT} (hN:X.N[i]?=some x) (hj:DE X j tj wj) (he:DE X e te we) (hv:Vis X.env.scope x:=by first | exact D1 rfl | exact C0 (D1 rfl) | exact C0 (C0 rfl)) (hd:(x==("__debug__":Str))=false:=by decide)
  (hcd:(x==("__classdict__":Str))=false:=by decide)
  (ha:∀v,assign (.Subscript (.Name x xp) j sp) X.env v=(do
   let ov <-holding [v] (eval (.Name x xp) X.env)
   let iv <-holding [v,ov] (eval j X.env)
   standAt sp
   holding [v,ov,iv] (setItem ov iv v)
   release [v,ov,iv] []):=by intro _;rfl)
  (hs:swapsWithSole [.Subscript (.Name x xp) j sp] e pos.line X.env=pure false:=by rfl) (hw:swappedStores [.Subscript (.Name x xp) j sp] e X.env=pure none:=by rfl)
  (h1:(Dx [.Subscript (.Name x xp) j sp] X.env).map (·.2)=[assign (.Subscript (.Name x xp) j sp) X.env]:=by rfl) :
  DS X (.Assign [.Subscript (.Name x xp) j sp] e pos) (tAsg te (gSub (tVar i) tj j3i)) (sPut i wj we) :=
 ⟨jnn he.pe (jq5 (jh5 hN hv hd hcd) hj.pe jhn ha) hs hw h1,λC H B σ δ n K D R q E=>by
  unfold sPut at q
  split at q
  ·rename_i ds ei;refine he.sd C H B σ δ n _ _ R q λu y H1 n1 R1 k1 r1 q1=>?_;obtain⟨v,hv,a,xs,rfl,e2,e3,e4,e5,e6⟩:=R1.sl i _ ei;refine⟨_,hv,hj.sd C H1 B σ δ n1 _ _ R1 q1 λw z H2 n2 R2 k2 r2 q2=>?_⟩
   split at q2
   ·rename_i d k
    split at q2
    ·rename_i m em;cases(show RdX H2 B w (.int k)from r2);have hat:a≠C.t:=λz=>R.t0 (z▸e4);have e2':=k2 _ _ e2 hat;have r1':RdX H2 B u d:=r1.kp k2 R1.bt;refine⟨a,xs,k,m,rfl,rfl,e2',by rw[e6.len];exact em,?_⟩;refine E.nx _ _ _ _ _ (R2.mutOwn ei rfl hv e3 e4 ?_ rfl) q2;refine⟨a,xs.set m u,rfl,jai,e3,e4,by rw[Df];exact e5,?_⟩;refine RdXs.keep (λb o e n=>?_) (RdXs.set m (e6.kp k2 R1.bt) r1');rw[jag λ(z:b=a)=>n (z▸e3)];exact e
    ·exact q2.elim
   ·exact q2.elim
  ·exact q.elim⟩
end
structure Has (P:Br) (w:B4) (K:Ag) (mg:Str->Option Af) (base:Heap) (k:Nat) (x:Str) (ps:List Str) (S:DSp):Prop where
 ex:∃(f:Addr) (fd:C2),FnOk P w K mg base CX0 k f fd ps (spOf S)/\Binds K fd ps []/\mg x=some (.ref f)/\Cz K (.ref f)=true
section
variable {P:Br} {w:B4} {K:Ag} {mg:Str->Option Af} {base:Heap}
theorem Has.mk' {k:Nat} {x qual:Str} {st:Stmt} {ps:List Str} {S:DSp} {f:Addr} {fd:C2} (F:Fun K x qual st f fd) (m:mg x=some (.ref f)) (b:Binds K fd ps []) (h:FnOk P w K mg base CX0 k f fd ps (spOf S)):Has P w K mg base k x ps S:=⟨f,fd,h,b,m,F.kp⟩
end
theorem j1z {X:Cx} {e:Expr} {es:List Expr} {pos p:Pos} {tR:TA} {wR:DTA} {k:Nat} {ps:List Str} {S:DSp} {x:Str} (h:Has X.prog X.w X.K X.mg X.base k x ps S) (hr:Room k X.A) (hg:Gl X x)
  (ha:DA X (e::es) tR wR) (hdb:(x==("__debug__":Str))=false:=by decide) (he:A8 (e::es) X.env=(false,eval e X.env)::A8 es X.env:=by rfl) (hpl:(Ek pos (A8 es X.env)).any (·.1)=false:=by rfl) :
  DE X (.Call (.Name x p) (e::es) [] pos) (jpn (spOf S) [] E0 tR) (jac S wR):=by
 obtain⟨f,fd,h1,h2,h3,h4⟩:=h.ex;exact j5g h1 hr hg h3 h4 h2 ha hdb he hpl
theorem jsm {cl cells:List (Str×Addr)} (h:∀y∈cl,cells.lookup y.1=some y.2):∀x c,cl.lookup x=some c->cells.lookup x=some c:=λx c e=>h _ (jeh e)
def jat:DSp:=λws n Q=>match ws with
 |[.tp,.d (.int many)]=>(n < 2 ^ 40/\0 < many/\many < 1073741824)/\∀r:Int,0<=r->r < many->Q (.d (.int r)) (n+1)
 |_=>False
section
variable {P:Br} {w:B4} {K:Ag} {mg:Str->Option Af} {base:Heap}
theorem jx9 {k:Nat} {f:Addr} {fd:C2} {ps:List Str} (h:FnOk P w K mg base CX0 k f fd ps jy0):FnOk P w K mg base CX0 k f fd ps (spOf jat):=h.imp λvs H Q E hs=>by
 obtain⟨t,l,ns,B,ws,n,Q0,T,bt,ba,r,q,kk⟩:=hs;unfold jat at q
 split at q
 ·rename_i many;cases r with
  |cons r1 r2 =>
   cases r2 with
   |cons r3 r4 =>
    cases r4;cases(show _=V.ref t from r1);cases(show RdX H B _ (.int many)from r3);exact⟨t,l,ns,n,many,rfl,T,q.1.1,q.1.2.1,q.1.2.2,λr H' h0 h1 T' k'=>kk _ _ (q.2 r h0 h1) _ H' T' k' (.int r)⟩
 ·exact q.elim
def spLaw (K:Ag):Sp:=λvs H Q _=>∃(a:Addr) (ns:List Int),vs=[.ref a]/\SqL K H a (ns.map V.int)/\ns.length<=63/\∀H',Q (.bl true) H'
def lawEnds:DEnds:={ nx:=λ_ _=>False,rt:=λw _=>w=.d (.bool true)}
theorem j0r {H:Hp} {t:Addr} {l:TL} {ns:List Int} {a:V} {k:Nat} (T:Tp H t l ns 0):Rel ⟨t,l,ns,H,λb=>b=t,λ_=>none⟩ H (λb=>b=t) (some a::some (.ref t)::Av k none) (none::some (.w .tp)::Av k none) 0 where
 tp:=T
 kp:=Kp.refl _ _
 t0:=by
  obtain⟨_,_,h,_⟩:=T.ob;show H t≠none;rw[h];exact λz=>nomatch z
 l0:=by
  show H l.s≠none;rw[T.ls];exact λz=>nomatch z
 g0:=λe=>by
  show H l.g≠none;rw[T.ag e];exact λz=>nomatch z
 fz:=λb o e=>nomatch e
 bt:=rfl
 b0:=λ_ z=>z
 ba:=λb z=>by
  obtain⟨_,_,h,_⟩:=T.ob;rw[z,h];exact λz=>nomatch z
 a0:=λb z=>by
  obtain⟨_,_,h,_⟩:=T.ob;show H b≠none;rw[show b=t from z,h];exact λz=>nomatch z
 sl:=λi x e=>by
  rcases i with _ | _ | i
  ·cases e
  ·cases e;exact⟨_,rfl,rfl,λz=>by cases z⟩
  ·have e':(Av k (none:Option SV))[i]?=some (some x):=e;rw[Ee]at e'
   split at e'
   ·cases e'
   ·cases e'
 ow:=λi j x y v e1 e2 o1 o2 f1 f2=>by
  rcases i with _ | _ | i
  ·cases e1
  ·cases e1;cases o1
  ·have e':(Av k (none:Option SV))[i]?=some (some x):=e1;rw[Ee]at e'
   split at e'
   ·cases e'
   ·cases e'
 len:=by simp
theorem j4e {f fT:Addr} {fd fdT:C2} {st:Stmt} {N:List Str} {k:Nat} {W:DST} (F:Fun K "law" "law" st f fd) (Sc:FnScope N ["_law_script"] (jao st))
  (GT:FnOk P w K mg base CX0 1 fT fdT ["_law_script"] (jna K)) (bT:Binds K fdT ["_law_script"] []) (mT:mg "_law_tape"=some (.ref fT)) (kT:Cz K (.ref fT)=true)
  (hN:∀v,start N [v]=some v::none::Av (N.length - 2) none)
  (hW:W (none::some (.w .tp)::Av (N.length - 2) none) 0 lawEnds)
  (hbody:∀(cdv:Af) (A:B9) (outer:List Env) (s:Aj) (H:Hp) (E:XK),Room k (A.deeper (Ep "law" (jao st) s.heap.objs.size f cdv)) ->
   ∃s0 rest T,jb2 st=s0::rest/\PS (cxOf CX0 P w K mg base N "law" (jao st) f cdv A outer s H E).nox s0 (tAsg (jpn (jna K) [] E0 (jdi (tVar 0) tNil)) (jhg 1))/\DSs (cxOf CX0 P w K mg base N "law" (jao st) f cdv A outer s H E).nox rest T W) :
  FnOk P w K mg base CX0 (k+1) f fd ["_law_script"] (spLaw K):=by
 refine F.ok Sc (λvs H Q E h=>?_) (λcdv A outer s H vs Q E hr h=>?_)
 ·obtain⟨a,ns,rfl,_⟩:=h;rfl
 ·obtain⟨a,ns,rfl,hS,hl,kk⟩:=h;obtain⟨s0,rest,T,e,p0,d⟩:=hbody cdv A outer s H E hr;rw[e];refine⟨_,jbt p0 d.ps,?_⟩;rw[hN];refine⟨_,rfl,a,ns,rfl,hS,hl,λt l H1 T1 _=>?_⟩;refine d.sd ⟨t,l,ns,H1,λb=>b=t,λ_=>none⟩ H1 (λb=>b=t) _ _ 0 lawEnds _ (j0r (a:=.ref a) (k:=N.length - 2) T1) hW ⟨?_,?_,?_,?_,λ_ _ _ _ _ _ _ _ _ _ _ _ _ z=>z.elim⟩
  ·exact λ_ _ _ _ _ _ z=>z.elim
  ·intro H B σ δ n v w R r z;have z:w=.d (.bool true):=z;subst z;cases(show RdX H B v (.bool true)from r);exact kk H
  ·exact λ_ _ _ _ _ _ z=>z.elim
  ·exact λ_ _ _ _ _ _ z=>z.elim
end
section
variable {X:Cx} {elt tg iter:Expr} {ifs:List Expr} {scope:Eo} {cl:List (Str×Addr)} {cpos pos pos':Pos} {N:List Str} {fr:List (Option Nat)} {wi:TI} {v:DTI} {g:TG} {gd:DTG} {tt:TT} {cc:DTT} {te:TE} {we:DT} {i:Nat} {x:Str}
theorem j0f {t:TE} {w:DTF} (h:SndF t w):SndS (tAsg t (jhg i)) (sOwn i w):=λC H B σ δ n K D R q E =>
 h C H B σ δ n _ _ R q λa xs ds H1 n1 R1 k1 h0 h1 h2 h3 q1=>by
  refine E.nx _ _ _ _ _ (R.own R1 k1 h0 (by rw[h1];exact λz=>nomatch z) rfl ?_) q1;exact⟨a,xs,rfl,h1,.inr rfl,R.h0 h0,h2,h3⟩
theorem j0e {t:TE} {w:DT} (h:Snd t w):SndS (tAsg t (jhg i)) (sSet i w):=λC H B σ δ n K D R q E =>
 h C H B σ δ n _ _ R q λv x H1 n1 R1 _ r1 q1=>by
  cases x with
  |d d=>exact E.nx _ _ _ _ _ (R1.set r1 rfl) q1
  |tp=>exact E.nx _ _ _ _ _ (R1.set r1 rfl) q1
  |dk _=>exact q1.elim
  |ln _=>exact q1.elim
  |ob _=>exact E.nx _ _ _ _ _ (R1.set r1 rfl) q1
theorem j28 (hN:X.N.Nodup) (hix:X.N[i]?=some x) (hx:X.env.scope.names.lookup x=some .local) (hc:X.calm=true) (S:CompSc X N scope cl fr) (hi:DI X tg iter wi v) (hg:∀s H fp,DG (ja8 X N scope cl s H fp) tg g gd) (ht:∀s H fp,DIf (ja8 X N scope cl s H fp) ifs tt cc)
  (he:∀s H fp,DE (ja8 X N scope cl s H fp) elt te we) (hno:jjf gd) (hs:∀x,Ec iter X.env x=pure x:=by intro _;rfl)
  (hsw:Fz (.ListComp elt [⟨tg,iter,ifs,0⟩] scope cpos) (some (.Name x pos')) pos.line X.env=pure true:=by rfl) :
  DS X (.Assign [.Name x pos'] (.ListComp elt [⟨tg,iter,ifs,0⟩] scope cpos) pos) (tAsg (jtp fr wi g tt te) (jhg i)) (sOwn i (jaq fr v gd cc we)) :=
 ⟨jko hN hix hx hc S hi.pi (λs H fp=>(hg s H fp).pg) (λs H fp=>(ht s H fp).pf) (λs H fp=>(he s H fp).pe) hs hsw,j0f (jvv (pos:=cpos) hc S hi hg ht he hno hs).sd⟩
theorem j27 (hN:X.N.Nodup) (hix:X.N[i]?=some x) (hx:X.env.scope.names.lookup x=some .local) (hc:X.calm=true) (S:CompSc X N scope cl fr) (hi:DI X tg iter wi v) (hg:∀s H fp,DG (ja8 X N scope cl s H fp) tg g gd) (ht:∀s H fp,DIf (ja8 X N scope cl s H fp) ifs tt cc)
  (he:∀s H fp,DE (ja8 X N scope cl s H fp) elt te we) (hno:jjf gd) (hs:∀x,Ec iter X.env x=pure x:=by intro _;rfl)
  (hsw:Fz (.ListComp elt [⟨tg,iter,ifs,0⟩] scope cpos) (some (.Name x pos')) pos.line X.env=pure true:=by rfl) :
  DS X (.Assign [.Name x pos'] (.ListComp elt [⟨tg,iter,ifs,0⟩] scope cpos) pos) (tAsg (jtp fr wi g tt te) (jhg i)) (sSet i (wOf (jaq fr v gd cc we))) :=
 ⟨jko hN hix hx hc S hi.pi (λs H fp=>(hg s H fp).pg) (λs H fp=>(ht s H fp).pf) (λs H fp=>(he s H fp).pe) hs hsw,j0e (jvv (pos:=cpos) hc S hi hg ht he hno hs).d.sd⟩
end
section
variable {X:Cx} {tg a b c e:Expr} {ta tb tc te:TE} {wa wb wc we:DT} {pos p:Pos} {K:Ag}
theorem j7q (ha:DE X a ta wa) (hb:DE X b tb wb) (hK:X.K=K:=by rfl) (hs:jmt b:=by exact λ_ _=>rfl):DE X (.Subscript a b pos) (tOp (rIx K) ta tb) (w2 wa wb gIx):=by subst hK;exact d_ix ha hb hs
def rIsi (K:Ag) (T:String):List V->Hp->VK->Prop:=λxs H Q=>∃x t b,xs=[x,.ty T]/\TyOf K H x t/\PySem.W.kitOne K t (.type T)=some b/\Q (.bl b) H
theorem j5e {T:String} {x:Str} {p p2:Pos} (hT:T="int"\/T="bool"\/T="str"\/T="tuple"\/T="list") (hg:Gl X "isinstance") (hm:X.mg "isinstance"=none) (hg2:Gl X x) (hm2:X.mg x=none) (hv:By x=some (.type T)) (ha:DE X a ta wa) (hK:X.K=K:=by rfl) (hn:x≠"__name__":=by decide) (hdb:(x==("__debug__":Str))=false:=by decide)
  (he:A8 [a,.Name x p2] X.env=(false,eval a X.env)::A8 [.Name x p2] X.env:=by rfl) (he2:A8 [.Name x p2] X.env=(false,eval (.Name x p2) X.env)::A8 [] X.env:=by rfl) (hpl:(Ek pos (A8 [.Name x p2] X.env)).any (·.1)=false:=by rfl) :
  DE X (.Call (.Name "isinstance" p) [a,.Name x p2] [] pos) (tCB (rIsi K T) (jdi ta (jdi (tC (.ty T)) tNil))) (wIsi T wa):=by subst hK;exact j7r hT hg hm hg2 hm2 hv ha hn hdb he he2 hpl
def rEqK (K:Ag):R2:=λx y H Q=>rEq x y H Q\/jxe x y H Q\/jq3 K x y H Q
theorem ju6 (hu:X.A.units < cLine) (hK:X.K=K:=by rfl):OpR X (Bt .Eq) (rEqK K):=by subst hK;exact j36 hu
theorem jpq:SndO (rEqK K) gEq:=j23
theorem ju2 (hK:X.K=K:=by rfl):OpR X (Bt .In) (rIn K false):=by subst hK;exact ju1
theorem jnr (hK:X.K=K:=by rfl):OpR X (Bt .NotIn) (rIn K true):=by subst hK;exact jnq
def j0t (K:Ag):List V->Hp->VK->Prop:=λxs H Q=>(∃z,xs=[.str z]/\z.length<=Ax/\Q (.int z.length) H)\/∃p ys,xs=[.ref p]/\(SqL K H p ys\/SqT K H p ys)/\Q (.int ys.length) H
theorem joe (hK:X.K=K:=by rfl):CallR X (.builtin "len") (j0t K):=by subst hK;exact jwb
theorem jqy:SndB (j0t K) gLen:=j0g
def jpv (K:Ag):List V->Hp->VK->Prop:=λxs H Q=>∃p ys,xs=[.ref p]/\((SqL K H p ys/\∀l,H l=none->Q (.ref l) (upd H l (.tup ys)))\/(SqT K H p ys/\Q (.ref p) H))
theorem jin (hK:X.K=K:=by rfl):CallR X (.type "tuple") (jpv K):=by subst hK;exact jme
theorem jkm:SndB (jpv K) jgt:=jt3
def juh (K:Ag):List V->Hp->VK->Prop:=λxs H Q=>∃p ys,xs=[.ref p]/\(SqL K H p ys\/SqT K H p ys)/\∀l,H l=none->Q (.ref l) (upd H l (.lst ys))
theorem jky (hK:X.K=K:=by rfl):CallR X (.type "list") (juh K):=by subst hK;exact jod
theorem jt5:SndB (juh K) jj6:=jw4
theorem j1r (ha:DE X a ta wa) (hK:X.K=K:=by rfl):DI X tg a (j1s K ta) (je8 wa):=by subst hK;exact j4s ha
theorem j4r (ha:DE X a ta wa) (hK:X.K=K:=by rfl):DI X tg a (iTup K ta) (ja7 wa):=by subst hK;exact j62 ha
theorem j4y {es:List Expr} {k:Nat} {t:TGs} {n:Nat} {r:DTGs} (h:DGs X es t r) (hc:X.calm=true:=by rfl) (hK:X.K=K:=by rfl)
  (hn:(Dx es X.env).length=n:=by rfl) (hst:(Dx es X.env).findIdx? (·.1)=none:=by rfl):DG X (.Tuple es k pos) (gTup K n t) (jbl n r):=by subst hK;exact j66 h hc hn hst
end
end DL
namespace KS
open PySem PySem.W PyProof.Rows
def run {α:Type} (c:Nat->Nat->Bool):KasT α->α
 |.ret a=>a
 |.ask i j k=>run c (k (c i j))
theorem jef {α β:Type} (c:Nat->Nat->Bool) (f:α->KasT β):∀t:KasT α,run c (t.bind f)=run c (f (run c t))
 |.ret _=>rfl
 |.ask i j k=>jef c f (k (c i j))
def Wi {α:Type} (n:Nat) (P:α->Prop):KasT α->Prop
 |.ret a=>P a
 |.ask i j k=>i < n/\j < n/\∀b,Wi n P (k b)
theorem Wi.bind {α β:Type} {n:Nat} {P:α->Prop} {R:β->Prop} {f:α->KasT β} (hf:∀a,P a->Wi n R (f a)):∀{t:KasT α},Wi n P t->Wi n R (t.bind f)
 |.ret a,h=>hf a h
 |.ask i j k,h=>⟨h.1,h.2.1,λb=>Wi.bind hf (h.2.2 b)⟩
theorem Wi.out {α:Type} {n:Nat} {P:α->Prop} (c:Nat->Nat->Bool):∀{t:KasT α},Wi n P t->P (run c t)
 |.ret a,h=>h
 |.ask i j k,h=>Wi.out c (t:=k (c i j)) (h.2.2 (c i j))
theorem wp_run {α:Type} {n:Nat} {P:α->Prop} {cmp:Nat->Nat->(Bool->Aj->Prop)->Aj->Prop} {c:Nat->Nat->Bool} {St:Aj->Prop} {Q:α->Aj->Prop}
  (hc:∀i j C s,i < n->j < n->St s->(∀s',St s'->C (c i j) s')->cmp i j C s):∀(t:KasT α) (s:Aj),Wi n P t->St s->(∀s',St s'->Q (run c t) s')->t.kasWp cmp Q s
 |.ret a,s,_,hs,h=>h s hs
 |.ask i j k,s,w,hs,h=>hc i j _ s w.1 w.2.1 hs λs' hs'=>wp_run hc (k (c i j)) s' (w.2.2 _) hs' h
def Lo (n:Nat) (p:Array Nat):Prop:=∀i,p.getD i 0 < n
theorem jdt (p:Array Nat) (i:Nat):p.getD i 0=(p[i]?).getD 0:=by simp
theorem j4c {n:Nat} {p:Array Nat} (hn:0 < n) (h:∀x∈p,x < n):Lo n p:=λi=>by
 rw[jdt];cases e:p[i]? with
 |none=>exact hn
 |some x=>exact h x (Array.mem_of_getElem? e)
def Pm (n:Nat) (p:Array Nat):Prop:=p.Perm (Da (Bu n))
theorem Pm.size {n:Nat} {p:Array Nat} (h:Pm n p):p.size=n:=by rw[Array.Perm.size_eq h];simp
theorem Pm.lo {n:Nat} {p:Array Nat} (hn:0 < n) (h:Pm n p):Lo n p:=j4c hn λx hx=>by
 have:x∈Da (Bu n):=(Array.Perm.mem_iff h).mp hx;simpa using this
theorem Pm.rev {n:Nat} {p:Array Nat} (h:Pm n p) (i j:Nat):Pm n (Eb p i j):=(mirror_perm p i j _).trans h
theorem Pm.bub {n:Nat} {p:Array Nat} (h:Pm n p) (i j:Nat):Pm n (bubble p i j):=(bubble_perm p i j).trans h
section
variable {n:Nat} (hn:0 < n)
include hn
theorem js5 {p:Array Nat} (h:Lo n p):∀f m,Wi n (λ_=>True) (kas_asc p f m)
 |0,m=>trivial
 |f+1,m=>⟨h _,h _,λb=>by
  cases b with
  |true=>exact trivial
  |false=>exact js5 h f (m+1)⟩
theorem jlf:∀f (p:Array Nat) m q,Pm n p->Wi n (λr=>Pm n r.1) (kas_desc f p m q)
 |0,p,m,q,h=>h
 |f+1,p,m,q,h=>⟨h.lo hn _,h.lo hn _,λb=>by
  cases b with
  |true =>
   show Wi n _ (if q > 0 then _ else _)
   split
   ·exact jlf f _ _ _ (h.rev _ _)
   ·exact jlf f _ _ _ h
  |false=>exact⟨h.lo hn _,h.lo hn _,λd=>by
    cases d with
    |true=>exact h
    |false=>exact jlf f _ _ _ h⟩⟩
theorem jqs (m nrem:Nat) {p:Array Nat} (h:Pm n p):Wi n (λr=>Pm n r.2) (kas_tail3 m nrem p):=by
 unfold kas_tail3;refine Wi.bind (P:=λ_=>True) (λa _=>?_) (js5 hn ((h.rev 0 m).lo hn) _ _);show Pm n (Eb p 0 m);exact h.rev _ _
theorem jhr (m nrem:Nat) {p:Array Nat} (h:Pm n p):Wi n (λr=>Pm n r.2) (kas_descPart m nrem p) :=
 Wi.bind (λr hr=>by
  show Wi n _ (if r.2.2 > 0 then _ else _)
  split
  ·exact jqs hn _ _ (Pm.rev hr _ _)
  ·exact jqs hn _ _ hr) (jlf hn _ p _ _ h)
theorem jwq (nrem:Nat) {p:Array Nat} (h:Pm n p):Wi n (λr=>Pm n r.2) (kas_count nrem p) :=
 Wi.bind (λm _=>by
  show Wi n _ (if (m==nrem)=true then _ else if m > 1 then _ else _)
  split
  ·exact h
  ·split
   ·exact⟨h.lo hn _,h.lo hn _,λb=>by
     cases b with
     |true=>exact h
     |false=>exact jhr hn _ _ (h.rev _ _)⟩
   ·exact jhr hn _ _ h) (js5 hn (h.lo hn) _ _)
theorem jle {p:Array Nat} (h:Lo n p) (k:Nat):∀f l r,Wi n (λ_=>True) (kas_place p k f l r)
 |0,l,r=>trivial
 |f+1,l,r=>by
  show Wi n _ (if l ≥ r then _ else _)
  split
  ·exact trivial
  ·exact⟨h _,h _,λb=>by
    cases b with
    |true=>exact jle h k f _ _
    |false=>exact jle h k f _ _⟩
theorem jyv:∀f (p:Array Nat) k,Pm n p->Wi n (Pm n) (kas_bin f p k)
 |0,p,k,h=>h
 |f+1,p,k,h=>Wi.bind (λl _=>jyv f _ _ (h.bub _ _)) (jle hn (h.lo hn) k _ _ _)
theorem wi_sort:Wi n (Pm n) (kas_sort n) :=
 Wi.bind (λr hr=>by
  show Wi n _ (if r.1 < n then _ else _)
  split
  ·exact jyv hn _ _ _ hr
  ·exact hr) (jwq hn n (Array.Perm.refl _))
end
structure Ord (lt:Nat->Nat->Bool):Prop where
 asym:∀i j,lt i j=true->lt j i=false
 ltr:∀i j k,lt j i=false->lt k j=false->lt k i=false
section
variable {lt:Nat->Nat->Bool} (O:Ord lt)
def g (p:Array Nat) (i:Nat):Nat:=p.getD i 0
def SP (lt:Nat->Nat->Bool) (p:Array Nat) (n:Nat):Prop:=∀i j,i < j->j < n->lt (g p j) (g p i)=false
def DP (lt:Nat->Nat->Bool) (p:Array Nat) (n:Nat):Prop:=∀i j,i < j->j < n->lt (g p i) (g p j)=false
def Sim (lt:Nat->Nat->Bool) (x y:Nat):Prop:=lt x y=false/\lt y x=false
include O
theorem irr (i:Nat):lt i i=false:=by
 cases e:lt i i with
 |false=>rfl
 |true=>exact(O.asym i i e).symm.trans e |>.symm▸rfl
theorem Sim.eq {a b x y:Nat} (h1:Sim lt a x) (h2:Sim lt b y):lt a b=lt x y:=by
 cases e:lt x y with
 |false=>exact O.ltr _ _ _ h2.2 (O.ltr _ _ _ e h1.1)
 |true =>
  cases e2:lt a b with
  |true=>rfl
  |false =>
   have:lt x y=false:=O.ltr _ _ _ h2.1 (O.ltr _ _ _ e2 h1.2);rw[this]at e;cases e
theorem SP.snoc {p:Array Nat} {n:Nat} (h:SP lt p n) (h1:1<=n) (e:lt (g p n) (g p (n - 1))=false):SP lt p (n+1):=λi j hij hj=>by
 by_cases q:j < n
 ·exact h i j hij q
 ·have:j=n:=by omega
  subst this;by_cases r:i=j - 1
  ·subst r;exact e
  ·exact O.ltr _ _ _ (h i (j - 1) (by omega) (by omega)) e
theorem jwg {p:Array Nat}:∀f n,1<=n->SP lt p n->n<=run lt (kas_asc p f n)/\run lt (kas_asc p f n)<=n+f/\SP lt p (run lt (kas_asc p f n))/\(run lt (kas_asc p f n)=n+f\/lt (g p (run lt (kas_asc p f n))) (g p (run lt (kas_asc p f n) - 1))=true)
 |0,n,h1,h=>⟨Ar _,Ar _,h,.inl rfl⟩
 |f+1,n,h1,h=>by
  have e:run lt (kas_asc p (f+1) n)=run lt (if lt (g p n) (g p (n - 1))=true then .ret n else kas_asc p f (n+1)):=rfl;rw[e];cases q:lt (g p n) (g p (n - 1))with
  |true=>exact⟨Ar _,Nat.le_add_right _ _,h,.inr q⟩
  |false =>
   rw[if_neg Al];obtain⟨a1,a2,a3,a4⟩:=jwg f (n+1) (by omega) (SP.snoc O h h1 q);exact⟨by omega,by omega,a3,a4.imp (λz=>by omega) id⟩
omit O
theorem juc {p:Array Nat} {i j:Nat} (hj:j<=p.size) (k:Nat):g (Eb p i j) k=if i<=k/\k < j then g p (i+j - 1 - k)else g p k:=by
 unfold g Eb;rw[jdt,jdt,jdt,getElem?_mirror hj _ (by omega)];by_cases h:i<=k/\k < j
 ·rw[if_pos h];by_cases q:(i<=k/\k < i+(j - i) / 2)\/(j - (j - i) / 2<=k/\k < j)
  ·rw[if_pos q]
  ·rw[if_neg q];have:i+j - 1 - k=k:=by omega
   rw[this]
 ·rw[if_neg h,if_neg (by omega)]
include O
theorem jpt {p:Array Nat} {i j:Nat} (hj:j<=p.size) (h:∀a b,i<=a->a < j->i<=b->b < j->Sim lt (g p a) (g p b)) (k:Nat):Sim lt (g (Eb p i j) k) (g p k):=by
 rw[juc hj]
 split
 ·rename_i q;exact h _ _ (by omega) (by omega) q.1 q.2
 ·exact⟨irr O _,irr O _⟩
theorem DP.sim {p p':Array Nat} {n:Nat} (h:DP lt p n) (s:∀k,Sim lt (g p' k) (g p k)):DP lt p' n:=λi j hij hj=>(Sim.eq O (s i) (s j)).trans (h i j hij hj)
theorem DP.snoc {p:Array Nat} {n:Nat} (h:DP lt p n) (h1:1<=n) (e:lt (g p (n - 1)) (g p n)=false):DP lt p (n+1):=λi j hij hj=>by
 by_cases q:j < n
 ·exact h i j hij q
 ·have:j=n:=by omega
  subst this;by_cases r:i=j - 1
  ·subst r;exact e
  ·exact O.ltr _ _ _ e (h i (j - 1) (by omega) (by omega))
omit O
def j2i (lt:Nat->Nat->Bool) (sz n f:Nat) (r:Array Nat×Nat×Nat):Prop :=
 r.1.size=sz/\n<=r.2.1/\r.2.1<=n+f/\r.2.2+1<=r.2.1/\DP lt r.1 r.2.1/\(∀a b,r.2.1 - (r.2.2+1)<=a->a < r.2.1->r.2.1 - (r.2.2+1)<=b->b < r.2.1->Sim lt (g r.1 a) (g r.1 b))
def CntP (lt:Nat->Nat->Bool) (sz nrem:Nat) (r:Nat×Array Nat):Prop:=r.2.size=sz/\1<=r.1/\r.1<=nrem/\SP lt r.2 r.1
def PlP (lt:Nat->Nat->Bool) (p:Array Nat) (k m:Nat):Prop:=m<=k/\(∀i,i < m->lt (g p k) (g p i)=false)/\(∀i,m<=i->i < k->lt (g p k) (g p i)=true)
include O
theorem jmb:∀f (p:Array Nat) n q,q+1<=n->n+f<=p.size->DP lt p n->(∀a b,n - (q+1)<=a->a < n->n - (q+1)<=b->b < n->Sim lt (g p a) (g p b)) ->
  j2i lt p.size n f (run lt (kas_desc f p n q))
 |0,p,n,q,h1,h2,h3,h4=>⟨rfl,Ar _,Ar _,h1,h3,h4⟩
 |f+1,p,n,q,h1,h2,h3,h4=>by
  have one:∀(p':Array Nat) (m:Nat) (a b:Nat),m+1 - (0+1)<=a->a < m+1->m+1 - (0+1)<=b->b < m+1->Sim lt (g p' a) (g p' b):=λp' m a b ha ha' hb hb'=>by
   have e1:a=m:=by omega
   have e2:b=m:=by omega
   rw[e1,e2];exact⟨irr O _,irr O _⟩
  show j2i lt p.size n (f+1) (run lt (if lt (g p n) (g p (n - 1))=true then(if q > 0 then kas_desc f (Eb p (n - (q+1)) n) (n+1) 0 else kas_desc f p (n+1) 0)else .ask (p.getD (n - 1) 0) (p.getD n 0) λd=>if d=true then .ret (p,n,q)else kas_desc f p (n+1) (q+1)));cases c1:lt (g p n) (g p (n - 1))with
  |true =>
   rw[if_pos rfl];by_cases hq:q > 0
   ·rw[if_pos hq];have sim:=jpt O (p:=p) (i:=n - (q+1)) (j:=n) (by omega) h4;have hd:DP lt (Eb p (n - (q+1)) n) (n+1):=DP.sim O (DP.snoc O h3 (by omega) (O.asym _ _ c1)) sim;have hs:(Eb p (n - (q+1)) n).size=p.size:=mirror_size _ _ _ _;obtain⟨a1,a2,a3,a4,a5,a6⟩:=jmb f (Eb p (n - (q+1)) n) (n+1) 0 (by omega) (by rw[hs];omega) hd (one _ n);exact⟨a1.trans hs,by omega,by omega,a4,a5,a6⟩
   ·rw[if_neg hq];obtain⟨a1,a2,a3,a4,a5,a6⟩:=jmb f p (n+1) 0 (by omega) (by omega) (DP.snoc O h3 (by omega) (O.asym _ _ c1)) (one _ n);exact⟨a1,by omega,by omega,a4,a5,a6⟩
  |false =>
   rw[if_neg Al];show j2i lt p.size n (f+1) (run lt (if lt (g p (n - 1)) (g p n)=true then .ret (p,n,q)else kas_desc f p (n+1) (q+1)));cases c2:lt (g p (n - 1)) (g p n)with
   |true=>exact⟨rfl,Ar _,by show n<=n+(f+1);omega,h1,h3,h4⟩
   |false =>
    rw[if_neg Al];have s1:Sim lt (g p n) (g p (n - 1)):=⟨c1,c2⟩;have tr:∀{x y z:Nat},Sim lt x y->Sim lt y z->Sim lt x z:=λh h'=>⟨O.ltr _ _ _ h'.1 h.1,O.ltr _ _ _ h.2 h'.2⟩;obtain⟨a1,a2,a3,a4,a5,a6⟩:=jmb f p (n+1) (q+1) (by omega) (by omega) (DP.snoc O h3 (by omega) c2) (λa b ha ha' hb hb'=>by
     have key:∀x,n+1 - (q+1+1)<=x->x < n+1->Sim lt (g p x) (g p (n - 1)):=λx hx hx'=>by
      by_cases e:x=n
      ·rw[e];exact s1
      ·exact h4 x (n - 1) (by omega) (by omega) (by omega) (by omega)
     have kb:=key b hb hb';exact tr (key a ha ha') ⟨kb.2,kb.1⟩)
    exact⟨a1,by omega,by omega,a4,a5,a6⟩
theorem jqw {p:Array Nat} {n nrem:Nat} (h1:1<=n) (hn:n<=nrem) (hz:nrem<=p.size) (h:DP lt p n):CntP lt p.size nrem (run lt (kas_tail3 n nrem p)):=by
 unfold kas_tail3;rw[jef];have hs:(Eb p 0 n).size=p.size:=mirror_size _ _ _ _;have sp:SP lt (Eb p 0 n) n:=λi j hij hj=>by
  rw[juc (by omega),juc (by omega),if_pos ⟨Bj _,hj⟩,if_pos ⟨Bj _,by omega⟩];exact h _ _ (by omega) (by omega)
 obtain⟨a1,a2,a3,_⟩:=jwg O (p:=Eb p 0 n) (nrem - n) n h1 sp;exact⟨hs,by show 1<=run lt (kas_asc (Eb p 0 n) (nrem - n) n);omega,by show run lt (kas_asc (Eb p 0 n) (nrem - n) n)<=nrem;omega,a3⟩
theorem jil {p:Array Nat} {n nrem:Nat} (h1:1<=n) (hn:n+1<=nrem) (hz:nrem<=p.size) (h:DP lt p (n+1)):CntP lt p.size nrem (run lt (kas_descPart n nrem p)):=by
 unfold kas_descPart;rw[jef];obtain⟨a1,a2,a3,a4,a5,a6⟩:=jmb O (nrem - (n+1)) p (n+1) 0 (by omega) (by omega) h (λa b ha ha' hb hb'=>by
  have e1:a=n:=by omega
  have e2:b=n:=by omega
  rw[e1,e2];exact⟨irr O _,irr O _⟩)
 generalize run lt (kas_desc (nrem - (n+1)) p (n+1) 0)=r at a1 a2 a3 a4 a5 a6;by_cases hq:r.2.2 > 0
 ·rw[if_pos hq];have hs:(Eb r.1 (r.2.1 - (r.2.2+1)) r.2.1).size=r.1.size:=mirror_size _ _ _ _;obtain⟨b1,b2⟩:=jqw O (p:=Eb r.1 (r.2.1 - (r.2.2+1)) r.2.1) (n:=r.2.1) (nrem:=nrem) (by omega) (by omega) (by rw[hs];omega) (DP.sim O a5 (jpt O (by omega) a6));exact⟨b1.trans (hs.trans a1),b2⟩
 ·rw[if_neg hq];obtain⟨b1,b2⟩:=jqw O (p:=r.1) (n:=r.2.1) (nrem:=nrem) (by omega) (by omega) (by omega) a5;exact⟨b1.trans a1,b2⟩
theorem jya {p:Array Nat} {nrem:Nat} (h1:1<=nrem) (hz:nrem<=p.size):CntP lt p.size nrem (run lt (kas_count nrem p)):=by
 unfold kas_count;rw[jef];obtain⟨a1,a2,a3,a4⟩:=jwg O (p:=p) (nrem - 1) 1 (Ar _) (λi j hij hj=>by omega);generalize run lt (kas_asc p (nrem - 1) 1)=m at a1 a2 a3 a4;by_cases q:(m==nrem)=true
 ·rw[if_pos q];exact⟨rfl,a1,by show m<=nrem;omega,a3⟩
 ·rw[if_neg q];have hm:m≠nrem:=λz=>q (by rw[z];exact beq_self_eq_true _);have a4:lt (g p m) (g p (m - 1))=true:=a4.resolve_left (by omega);by_cases hm1:m > 1
  ·rw[if_pos hm1];show CntP lt p.size nrem (run lt (if lt (g p 0) (g p (m - 1))=true then .ret (m,p)else kas_descPart m nrem (Eb p 0 m)));cases c:lt (g p 0) (g p (m - 1))with
   |true=>exact⟨rfl,a1,by show m<=nrem;omega,a3⟩
   |false =>
    rw[if_neg Al];have hs:(Eb p 0 m).size=p.size:=mirror_size _ _ _ _;have up:∀a b,a < m->b < m->lt (g p b) (g p a)=false:=λa b ha hb=>by
     have le0:lt (g p a) (g p 0)=false:=by
      by_cases z:a=0
      ·rw[z];exact irr O _
      ·exact a3 0 a (by omega) ha
     have leb:lt (g p (m - 1)) (g p b)=false:=by
      by_cases z:b=m - 1
      ·rw[z];exact irr O _
      ·exact a3 b (m - 1) (by omega) (by omega)
     have l1:lt (g p b) (g p 0)=false:=by
      by_cases z:b=0
      ·rw[z];exact irr O _
      ·exact a3 0 b (by omega) hb
     have l2:lt (g p 0) (g p a)=false:=O.ltr _ _ _ (by
      by_cases z:a=m - 1
      ·rw[z];exact irr O _
      ·exact a3 a (m - 1) (by omega) (by omega)) c
     -- b <= m-1 <= 0 <= a
     exact O.ltr _ _ _ l2 l1
    have all:∀a b,0<=a->a < m->0<=b->b < m->Sim lt (g p a) (g p b):=λa b _ ha _ hb=>⟨up b a hb ha,up a b ha hb⟩;have sim:=jpt O (p:=p) (i:=0) (j:=m) (by omega) all;have dp:DP lt p (m+1):=DP.snoc O (λi j hij hj=>up j i hj (by omega)) a1 (O.asym _ _ a4);obtain⟨b1,b2⟩:=jil O (p:=Eb p 0 m) (n:=m) (nrem:=nrem) a1 (by omega) (by rw[hs];omega) (DP.sim O dp sim);exact⟨b1.trans hs,b2⟩
  ·rw[if_neg hm1];have e:m=1:=by omega
   subst e;exact jil O (p:=p) (Ar _) (by omega) hz (DP.snoc O (λi j hij hj=>by omega) (Ar _) (O.asym _ _ a4))
theorem jlq {p:Array Nat} {k:Nat} (h:SP lt p k):∀f l r,l<=r->r<=k->r - l<=f->(∀i,i < l->lt (g p k) (g p i)=false)->(∀i,r<=i->i < k->lt (g p k) (g p i)=true) ->
  PlP lt p k (run lt (kas_place p k f l r))
 |0,l,r,hlr,hr,hf,h1,h2=>by
  have e:l=r:=by omega
  subst e;exact⟨hr,h1,h2⟩
 |f+1,l,r,hlr,hr,hf,h1,h2=>by
  show PlP lt p k (run lt (if l ≥ r then .ret l else .ask (p.getD k 0) (p.getD ((l+r) / 2) 0) λc=>if c=true then kas_place p k f l ((l+r) / 2)else kas_place p k f ((l+r) / 2+1) r));by_cases q:l ≥ r
  ·rw[if_pos q];have e:l=r:=by omega
   subst e;exact⟨hr,h1,h2⟩
  ·rw[if_neg q];show PlP lt p k (run lt (if lt (g p k) (g p ((l+r) / 2))=true then kas_place p k f l ((l+r) / 2)else kas_place p k f ((l+r) / 2+1) r));cases c:lt (g p k) (g p ((l+r) / 2))with
   |true =>
    rw[if_pos rfl];refine jlq h f l ((l+r) / 2) (by omega) (by omega) (by omega) h1 λi hi hik=>?_;by_cases e:i=(l+r) / 2
    ·rw[e];exact c
    ·cases z:lt (g p k) (g p i)with
     |true=>rfl
     |false =>
      have:=O.ltr _ _ _ (h ((l+r) / 2) i (by omega) hik) z;rw[this]at c;cases c
   |false =>
    rw[if_neg Al];refine jlq h f ((l+r) / 2+1) r (by omega) hr (by omega) (λi hi=>?_) h2;by_cases e:i=(l+r) / 2
    ·rw[e];exact c
    ·exact O.ltr _ _ _ (h i ((l+r) / 2) (by omega) (by omega)) c
omit O
theorem jzs {p:Array Nat} {k l:Nat} (hk:k < p.size) (hl:l<=k) (i:Nat):g (bubble p k (k - l)) i=if i=l then g p k else if l < i/\i<=k then g p (i - 1)else g p i:=by
 unfold g;rw[jdt,getElem?_bubble hk _ (by omega),jdt,jdt,jdt];have e:k - (k - l)=l:=by omega
 rw[e];by_cases h1:i=l
 ·rw[if_pos h1,if_pos h1]
 ·rw[if_neg h1,if_neg h1];by_cases h2:l < i/\i<=k
  ·rw[if_pos h2,if_pos h2]
  ·rw[if_neg h2,if_neg h2]
include O
theorem jzv:∀f (p:Array Nat) k,1<=k->k+f<=p.size->SP lt p k->SP lt (run lt (kas_bin f p k)) (k+f)
 |0,p,k,h1,hz,h=>h
 |f+1,p,k,h1,hz,h=>by
  show SP lt (run lt ((kas_place p k k 0 k).bind λl=>kas_bin f (bubble p k (k - l)) (k+1))) (k+(f+1));rw[jef];obtain⟨b1,b2,b3⟩:=jlq O h k 0 k (Bj _) (Ar _) (by omega) (λi hi=>by omega) (λi hi hi'=>by omega);generalize run lt (kas_place p k k 0 k)=l at b1 b2 b3;have sp:SP lt (bubble p k (k - l)) (k+1):=λi j hij hj=>by
   rw[jzs (by omega) b1,jzs (by omega) b1];by_cases e1:j=l
   ·rw[if_pos e1,if_neg (by omega),if_neg (by omega)];exact b2 i (by omega)
   ·rw[if_neg e1];by_cases e2:l < j/\j<=k
    ·rw[if_pos e2];by_cases e3:i=l
     ·rw[if_pos e3];exact O.asym _ _ (b3 (j - 1) (by omega) (by omega))
     ·rw[if_neg e3];by_cases e4:l < i/\i<=k
      ·rw[if_pos e4];exact h (i - 1) (j - 1) (by omega) (by omega)
      ·rw[if_neg e4];exact h i (j - 1) (by omega) (by omega)
    ·rw[if_neg e2,if_neg (by omega),if_neg (by omega)];exact h i j hij (by omega)
  have:=jzv f (bubble p k (k - l)) (k+1) (by omega) (by rw[bubble_size];omega) sp;have e:k+1+f=k+(f+1):=by omega
  rwa [e]at this
theorem sort_ok {n:Nat} (h1:1<=n):SP lt (run lt (kas_sort n)) n:=by
 unfold kas_sort;rw[jef];obtain⟨a1,a2,a3,a4⟩:=jya O (p:=Da (Bu n)) (nrem:=n) h1 (by simp);generalize run lt (kas_count n (Da (Bu n)))=r at a1 a2 a3 a4;have hs:r.2.size=n:=by rw[a1];simp
 by_cases q:r.1 < n
 ·rw[if_pos q];have e:max r.1 1=r.1:=by omega
  rw[e];have:=jzv O (n - r.1) r.2 r.1 a2 (by omega) a4;have e2:r.1+(n - r.1)=n:=by omega
  rwa [e2]at this
 ·rw[if_neg q];have e:r.1=n:=by omega
  rw[e]at a4;exact a4
end
end KS
namespace KS
open PySem PySem.W PySem.Calls PyProof.Rows
section
variable {prog:Br} {w:B4} {A:B9} {E:Af->Aj->Prop} {s:Aj} {a:Addr} {vs:List Af}
theorem ls_sort {n:Nat} {P:PySem.Fin->Aj->Prop} (ho:s.heap.get? a=some (C7 "list" vs.toArray n)) (h2:2<=vs.length) (h64:vs.length < 64)
  (h:∀e1 h',h'.get? a=some (C7 "list" #[] e1)->(∀b o,b≠a->s.heap.get? b=some o->h'.get? b=some o) ->
   Az (Bb prog w) A (keyKind' vs.toArray) (λκ s'=>(kas_sort vs.length).kasWp (kas_ask prog w A κ vs)
    (λp s''=>s''.heap.get? a=some (C7 "list" #[] e1)/\∀h3 c,Dc a s''.heap h3->h3.get? a=some (C7 "list" (Da (p.toList.map λi=>vs.getD i Bi)) c)->P (.done (.ret .none)) {s'' with heap:=h3}) s') (λ_ _=>False) {s with heap:=h'}) :
  Az (Bb prog w) A (Dp.«list.sort» ⟨[.ref a],[]⟩) P E s:=by
 have ha:a < s.heap.objs.size:=Ao ho;have s1:=Bg s.heap a (Cs λ_=>(#[]:Array Af));obtain⟨e1,ho1⟩:∃e1,(s.heap.update a (Cs λ_=>(#[]:Array Af))).get? a=some (C7 "list" #[] e1):=⟨_,get?_update_seq ho λ_=>#[]⟩;have ask:=h e1 (((s.heap.update a (Cs λ_=>(#[]:Array Af))).push (C7 "tuple" vs.toArray 0)).push (C7 "list" #[] 0)) (Ae _ (Ae _ ho1))
  λb o hb e=>Ae _ (Ae _ ((s1.2 b hb).trans e))
 rw[list_sort_plain];refine Aa (listItems_at ho rfl ?_);refine Aa (listUpdate_at ho rfl ?_ (by rw[Aq,E6];omega) (Bj _));refine Aa (seqEpoch_at ho1 rfl ?_);refine Aa (wpAny_newTuple ?_ (by show vs.length<=_;rw[E6];omega));refine Aa (wpAny_newList ?_ (Bj _));refine C6 ?_;show Az (Bb prog w) A _ P E {s with heap:=((s.heap.update a (Cs λ_=>(#[]:Array Af))).push (C7 "tuple" vs.toArray 0)).push (C7 "list" #[] 0)};dsimp only;have hn2:¬vs.toArray.size < 2:=by rw[Aq];omega
 rw[if_neg hn2,if_neg hn2];refine Aa (Dw ask (λκ s0 hk=>?_) λ_ _ x=>x.elim);refine Aa (Dw (kat_run (Q:=λst' s'=>∃p:Array Nat,p.size=vs.length/\arrOf st'=p.map (kas_item (vs.toArray.zip vs.toArray))/\failedOf st'=none/\s'.heap.get? a=some (C7 "list" #[] e1)/\∀h3 c,Dc a s'.heap h3->h3.get? a=some (C7 "list" (Da (p.toList.map λi=>vs.getD i Bi)) c)->P (.done (.ret .none)) {s' with heap:=h3})
  rfl h2 h64 (λp' st' s' a1 a2 a3 a4=>⟨p',a1,a2,a3,a4⟩) hk) ?_ λ_ _ e=>e)
 rintro⟨⟨⟩,st'⟩ s' ⟨p,hp,har,hf,na,k⟩
 dsimp only;have hout:=kat_snds rfl har;have hsz:(Da (p.toList.map λi=>vs.getD i Bi)).size=vs.length:=by rw[Aq,Ai,Cq,hp]
 rw[hout];have s2:=Bg s'.heap a (Cs λ_=>Da (p.toList.map λi=>vs.getD i Bi));obtain⟨c2,hc2⟩:∃c2,(s'.heap.update a (Cs λ_=>Da (p.toList.map λi=>vs.getD i Bi))).get? a=some (C7 "list" (Da (p.toList.map λi=>vs.getD i Bi)) c2):=⟨_,get?_update_seq na λ_=>Da (p.toList.map λi=>vs.getD i Bi)⟩;refine Aa (seqEpoch_at na rfl ?_);refine Aa (listUpdate_at na rfl ?_ (Bj _) (Bw (Nat.le_of_eq hsz) (by rw[E6];omega)));rw[hf];simp only[bne_self_eq_false,Bf,if_false];exact Ah (k _ c2 s2 hc2)
theorem ls_short {n:Nat} {P:PySem.Fin->Aj->Prop} (ho:s.heap.get? a=some (C7 "list" vs.toArray n)) (h2:vs.length < 2)
  (h:∀h' c,h'.get? a=some (C7 "list" vs.toArray c)->(∀b o,b≠a->s.heap.get? b=some o->h'.get? b=some o)->P (.done (.ret .none)) {s with heap:=h'}) :
  Az (Bb prog w) A (Dp.«list.sort» ⟨[.ref a],[]⟩) P E s:=by
 have ha:a < s.heap.objs.size:=Ao ho;have s1:=Bg s.heap a (Cs λ_=>(#[]:Array Af));obtain⟨e1,ho1⟩:∃e1,(s.heap.update a (Cs λ_=>(#[]:Array Af))).get? a=some (C7 "list" #[] e1):=⟨_,get?_update_seq ho λ_=>#[]⟩;have ho6:(((s.heap.update a (Cs λ_=>(#[]:Array Af))).push (C7 "tuple" vs.toArray 0)).push (C7 "list" #[] 0)).get? a=some (C7 "list" #[] e1):=Ae _ (Ae _ ho1);rw[list_sort_plain];refine Aa (listItems_at ho rfl ?_);refine Aa (listUpdate_at ho rfl ?_ (by rw[Aq,E6];omega) (Bj _));refine Aa (seqEpoch_at ho1 rfl ?_);refine Aa (wpAny_newTuple ?_ (by show vs.length<=_;rw[E6];omega));refine Aa (wpAny_newList ?_ (Bj _));refine C6 ?_;show Az (Bb prog w) A _ P E {s with heap:=((s.heap.update a (Cs λ_=>(#[]:Array Af))).push (C7 "tuple" vs.toArray 0)).push (C7 "list" #[] 0)};dsimp only;have hn2:vs.toArray.size < 2:=by rw[Aq];omega
 rw[if_pos hn2,if_pos hn2];refine Aa (Ah ?_);rw[StateT.run_pure];refine Aa (Ah ?_);dsimp only;refine Aa (seqEpoch_at ho6 rfl ?_);refine Aa (listUpdate_at ho6 rfl ?_ (hsz2:=by rw[Array.size_map];show(pairsOf vs).size<=_;rw[pairsOf_size,E6];omega));simp only[bne_self_eq_false,Bf,if_false];have e:(arrOf (SortSt.mk' general' (vs.toArray.zip vs.toArray) #[] 7 none)).map (·.2)=vs.toArray:=by
  show(vs.toArray.zip vs.toArray).map (·.2)=vs.toArray;apply Array.toList_inj.mp;simp only[Array.toList_map,Array.toList_zip];exact List.map_snd_zip (Ar _)
 have s2:=Bg (((s.heap.update a (Cs λ_=>(#[]:Array Af))).push (C7 "tuple" vs.toArray 0)).push (C7 "list" #[] 0)) a (Cs λ_=>(arrOf (SortSt.mk' general' (vs.toArray.zip vs.toArray) #[] 7 none)).map (·.2));refine Ah (h _ _ (by rw[e];exact get?_update_seq ho6 λ_=>vs.toArray) λb o hb q=>(s2.2 b hb).trans (Ae _ (Ae _ ((s1.2 b hb).trans q))))
theorem sorted_of {r:Af} {Q:Af->Aj->Prop} {R:List Af->Aj->Prop} (hcol:Az (Bb prog w) A.in1 (collect r) R E s)
  (h:∀vs s1,R vs s1->vs.length<=Ax/\Az (Bb prog w) A.in1.in1 (Dp.«list.sort» ⟨[.ref s1.heap.objs.size],[]⟩) (λf s2=>f=.done (.ret .none)/\Q (.ref s1.heap.objs.size) s2) E {s1 with heap:=s1.heap.push (C7 "list" vs.toArray 0)}) :
  Az (Bb prog w) A (call (.builtin "sorted") [r]) Q E s:=by
 refine Calls.call_function_entry kind_sorted plain_sorted entry_sorted (args_sorted1 _) ?_;unfold Dp.«sorted»;refine Aa (m:=checkCount "sorted" 1 1 _) (Ah ?_);refine Aa (Dw hcol (λvs s1 hr=>?_) λ_ _ e=>e);obtain⟨hl,hs⟩:=h vs s1 hr;refine Aa (wpAny_newList ?_ hl);have hoL:(s1.heap.push (C7 "list" vs.toArray 0)).get? s1.heap.objs.size=some (C7 "list" vs.toArray 0):=As _ rfl;refine Aa (C6 (B1 (s:={ s1 with heap:=s1.heap.push (C7 "list" vs.toArray 0)}) slot_list_sort ⟨_,hoL,rfl⟩ entry_list_sort ?body (args_list_sort _)))
 case body =>
  refine Dw hs (λf s2 hf=>?_) λ_ _ e=>e;obtain⟨rfl,hq⟩:=hf;exact⟨_,rfl,Ah ⟨_,rfl,hq⟩⟩
def ltK (ks:List Str) (i j:Nat):Bool:=decide ((ks.getD i ⟨#[]⟩).cps.toList < (ks.getD j ⟨#[]⟩).cps.toList)
theorem lt_asym' (x y:List Nat) (h:x < y):¬y < x:=λz=>List.lt_irrefl x (List.lt_trans h z)
theorem ordK (ks:List Str):Ord (ltK ks) where
 asym:=λi j h=>by
  unfold ltK at h ⊢;exact decide_eq_false (lt_asym' _ _ (of_decide_eq_true h))
 ltr:=λi j k h1 h2=>by
  unfold ltK at h1 h2 ⊢;have h1:=of_decide_eq_false h1;have h2:=of_decide_eq_false h2;refine decide_eq_false λz=>?_;have l1:=Ff.mp h1;have l2:=Ff.mp h2;exact absurd z (Ff.mpr (List.le_trans l1 l2))
end
end KS
namespace L2
open PySem PySem.Spec PyProof.Rows PySem.W
theorem j6r {ks:List Str} {p:Array Nat} {n:Nat} (hz:p.size=n) (h:KS.SP (KS.ltK ks) p n):(p.toList.map λi=>ks.getD i ⟨#[]⟩).Pairwise (λa b=>¬b.cps.toList < a.cps.toList):=by
 rw[List.pairwise_iff_getElem];intro i j hi hj hij;rw[Ai,Cq,hz]at hi hj;have:=h i j hij hj;unfold KS.ltK KS.g at this;have e1:p.getD i 0=p[i]:=by simp[hz,hi]
 have e2:p.getD j 0=p[j]:=by simp[hz,hj]
 rw[e1,e2]at this;simp only[List.getElem_map,Array.getElem_toList];exact of_decide_eq_false this
def TxOk (vs:List Af) (ks:List Str):Prop:=vs.length=ks.length/\∀(j:Nat) v,vs[j]?=some v->∃k t,ks[j]?=some k/\v=.str k t
theorem jno {vs:List Af} {ks:List Str} (h:TxOk vs ks):∀(idx:List Nat),(∀i∈idx,i < ks.length)->Vals ((idx.map λi=>ks.getD i ⟨#[]⟩).map V.str) (idx.map λi=>vs.getD i Bi)
 |[],_=>.nil
 |i::r,hi=>by
  have h1:=hi i A5;have h2:i < vs.length:=by rw[h.1];exact h1
  obtain⟨k,t,e1,e2⟩:=h.2 i vs[i] (Am h2);refine .cons ⟨t,?_⟩ (jno h r λj hj=>hi j (A1 _ hj));simp[h2,e1,e2]
theorem juu {ks:List Str} {idx:List Nat} (h:idx.Perm (Bu ks.length)):(idx.map λi=>ks.getD i ⟨#[]⟩).Perm ks:=by
 have h1:=h.map λi=>ks.getD i (⟨#[]⟩:Str);have h2:(Bu ks.length).map (λi=>ks.getD i (⟨#[]⟩:Str))=ks:=by
  apply List.ext_getElem (by simp);intro i h1 h2;simp[h2]
 rw[h2]at h1;exact h1
end L2
namespace L2
open PySem PySem.Spec PyProof.Rows
section
variable {prog:Br} {w:B4} {A:B9} {E:Af->Aj->Prop} {s:Aj}
theorem jbn {it t:Addr} {i:Nat} {items:Array Af} {x:Af} {Q:Af->Aj->Prop} (hit:s.heap.IsTupleIter it t i) (ht:s.heap.IsTuple t items) (hx:items[i]?=some x)
  (hQ:∀h',h'.IsTupleIter it t (i+1)->Dc it s.heap h'->Q x {s with heap:=h'}):Az (Bb prog w) A (Ca (.ref it)) Q E s:=by
 obtain⟨o,ho,hc,hd⟩:=id hit;obtain⟨ol,hol,_,nl,hdl⟩:=ht;unfold Ca;refine Aa (Bs (name:=Cm "__next__") hit.typeIs E5
  (B1 E5 hit.typeIs F.entry_tuple_iterator_next ?_ (F.args_tuple_iterator_next_1 _)))
 show Az _ _ (field (.ref it) 0>>=_) _ _ s;refine Aa (Ce ho hd (x:=.ref t) rfl ?_);show Az _ _ (if (Cb t==Bi)=true then _ else _) _ _ s;rw[if_neg (show ¬((Cb t==Bi)=true)from Al)];show Az _ _ (field (.ref it) 1>>=_) _ _ s;refine Aa (Ce ho hd (x:=.int i 0) rfl ?_);show Az _ _ (seqItems? (.ref t)>>=_) _ _ s;refine Aa (Cn hol hdl ?_);simp only[Bv,hx];refine Aa (Dh ho hd (by simp) (Ah ⟨x,rfl,Ah (hQ _ ?_ (Bg ..))⟩));exact⟨_,Bx _ ho (Di (B8 hd _)),(Es ..).trans hc,by
  rw[B8 hd];simp[Cy]⟩
theorem jcc {it t:Addr} {i:Nat} {items:Array Af} {Q:Af->Aj->Prop} (hh:A.handled=none) (hit:s.heap.IsTupleIter it t i) (ht:s.heap.IsTuple t items) (hx:items[i]?=none)
  (hE:∀h' e,Heap.ExtBut it s.heap h'->(∃o,h'.get? e=some o/\o.cls=.type "StopIteration")->E (.ref e) {s with heap:=h'}) :
  Az (Bb prog w) A (Ca (.ref it)) Q E s:=by
 obtain⟨o,ho,hc,hd⟩:=id hit;obtain⟨ol,hol,_,nl,hdl⟩:=ht;unfold Ca;refine Aa (Bs (name:=Cm "__next__") hit.typeIs E5
  (B1 E5 hit.typeIs F.entry_tuple_iterator_next ?_ (F.args_tuple_iterator_next_1 _)))
 show Az _ _ (field (.ref it) 0>>=_) _ _ s;refine Aa (Ce ho hd (x:=.ref t) rfl ?_);show Az _ _ (if (Cb t==Bi)=true then _ else _) _ _ s;rw[if_neg (show ¬((Cb t==Bi)=true)from Al)];show Az _ _ (field (.ref it) 1>>=_) _ _ s;refine Aa (Ce ho hd (x:=.int i 0) rfl ?_);show Az _ _ (seqItems? (.ref t)>>=_) _ _ s;refine Aa (Cn hol hdl ?_);simp only[Bv,hx];refine Aa (Fy (Aa (Dh ho hd (by simp) ?_)));show Az _ _ (newExc (.type "StopIteration") []>>=_) _ _ _;refine Aa ?_;simp only[newExc,newTuple];refine Aa (Bm ?_ (by size_fits));refine Aa (m:=Ej _ _) (wpAny_of_eq (a:=Bi) (by first | rfl | (simp only[Ej];rfl)) ?_);refine Bm ?_ (by size_fits);simp only[raiseNew];refine Aa (wpAny_handled ?_)
 first | rw[show A.in1.handled=none from hh] | rw[hh]
 refine Aa (Ah (wpAny_throw ?_));exact hE _ _ (((Bg ..).extBut.push _).push _) ⟨_,As _ rfl,rfl⟩
theorem js3 {z TI TO i1 i2 l1 l2:Addr} {k:Nat} {xs ys:Array Af} {x y a b:Af} {Q:Af->Aj->Prop} (D:ZipApart z TI TO i1 i2 l1 l2)
  (hz:IsZip s.heap z TI TO .none) (hTI:D5 s.heap TI (.ref i1) (.ref i2)) (hTO:D5 s.heap TO a b)
  (h1:s.heap.IsTupleIter i1 l1 k) (h2:s.heap.IsTupleIter i2 l2 k) (hl1:s.heap.IsTuple l1 xs) (hl2:s.heap.IsTuple l2 ys) (hx:xs[k]?=some x) (hy:ys[k]?=some y)
  (hQ:∀h',IsZip h' z TI TO (Cy s.heap.objs.size)->D5 h' TO x y->h'.IsTupleIter i1 l1 (k+1)->h'.IsTupleIter i2 l2 (k+1)->D5 h' s.heap.objs.size x y->h'.objs.size=s.heap.objs.size+1 ->
   (∀c o,c≠z->c≠TO->c≠i1->c≠i2->s.heap.get? c=some o->h'.get? c=some o)->Q (.ref s.heap.objs.size) {s with heap:=h'}) :
  Az (Bb prog w) A (Dp.«zip.__next__» ⟨[.ref z],[]⟩) (λfin s'=>∃v,fin=.done (.ret v)/\Q v s') E s:=by
 show Az _ _ (field (.ref z) 2>>=_) _ _ _;refine Aa (Ce hz rfl (x:=.bool false) rfl ?_);show Az _ _ (field (.ref z) 3>>=_) _ _ _;refine Aa (Ce hz rfl (x:=.ref TI) rfl ?_);refine Aa (Cn hTI rfl ?_);show Az _ _ (Cg (.ref z)>>=_) _ _ _;refine Aa ?_;unfold Cg;refine Aa (Ce hz rfl (x:=.none) rfl (Ah ?_));simp only[if_true];refine Aa (Fy ?_);refine Aa (Ce hz rfl (x:=.ref TO) rfl ?_);refine Aa (D3 hz (by simp) λg1 hz1 s1=>?_)
 replace hz1:IsZip g1 z TI TO .ellipsis:=hz1
 refine Aa ?_;simp only[List.zipIdx_cons,List.zipIdx_nil,List.forIn_cons,List.forIn_nil];refine Aa (Aa (wpAny_onRaise ?_));show Az _ _ (Ca (.ref i1)>>=_) _ _ _;refine Aa (jbn (h1.extBut s1.extBut D.i1z) (hl1.extBut s1.extBut D.l1z) hx λg2 t2 s2=>Ah ?_);have p2:D5 g2 TO a b:=s2.extBut _ _ D.TOi1 (s1.extBut _ _ D.TOz hTO);refine Aa (Cn p2 rfl ?_);refine Aa (wpAny_updateSeq_pair p2 λg3 p3 s3=>?_)
 replace p3:D5 g3 TO x b:=p3
 refine Aa (wpAny_letGo (Ah ?_));refine Aa (Aa (wpAny_onRaise ?_));show Az _ _ (Ca (.ref i2)>>=_) _ _ _;refine Aa (jbn (((h2.extBut s1.extBut D.i2z).extBut s2.extBut D.i12.symm).extBut s3.extBut D.TOi2.symm)
  (((hl2.extBut s1.extBut D.l2z).extBut s2.extBut D.l2i1).extBut s3.extBut D.l2TO) hy λg4 t4 s4=>Ah ?_)
 have p4:D5 g4 TO x b:=s4.extBut _ _ D.TOi2 p3;refine Aa (Cn p4 rfl ?_);refine Aa (wpAny_updateSeq_pair p4 λg5 p5 s5=>?_)
 replace p5:D5 g5 TO x y:=p5
 refine Aa (wpAny_letGo (Ah (Ah ?_)));refine Aa (Cn p5 rfl ?_);refine Aa (wpAny_newTuple ?_);have sz:g5.objs.size=s.heap.objs.size:=by rw[s5.1,s4.1,s3.1,s2.1,s1.1]
 have z5:IsZip g5 z TI TO .ellipsis:=s5.extBut _ _ D.TOz.symm (s4.extBut _ _ D.i2z.symm (s3.extBut _ _ D.TOz.symm (s2.extBut _ _ D.i1z.symm hz1)));have k5:∀c o,c≠z->c≠TO->c≠i1->c≠i2->s.heap.get? c=some o->g5.get? c=some o:=λc o c1 c2 c3 c4 e =>
  s5.extBut _ _ c2 (s4.extBut _ _ c4 (s3.extBut _ _ c2 (s2.extBut _ _ c3 (s1.extBut _ _ c1 e))))
 have u1:g5.IsTupleIter i1 l1 (k+1):=((t2.extBut s3.extBut D.TOi1.symm).extBut s4.extBut D.i12).extBut s5.extBut D.TOi1.symm;have u2:g5.IsTupleIter i2 l2 (k+1):=t4.extBut s5.extBut D.TOi2.symm;have zlt:z < g5.objs.size:=Ao z5;show Az _ _ (F3 (.ref z) (.ref g5.objs.size)>>=_) _ _ _;refine Aa ?_;unfold F3;have z6:IsZip (g5.push {cls:=.type "tuple",data:=.seq #[x,y]}) z TI TO .ellipsis:=Ae _ z5;refine Aa (D3 z6 (by simp) λg7 z7 s7=>?_)
 replace z7:IsZip g7 z TI TO (Cy g5.objs.size):=z7
 refine D3 z7 (by simp) λg8 z8 s8=>?_
 replace z8:IsZip g8 z TI TO (Cy g5.objs.size):=z8
 have up:∀c o,c≠z->g5.get? c=some o->g8.get? c=some o:=λc o c1 e=>s8.extBut _ _ c1 (s7.extBut _ _ c1 (Ae _ e));have T8:D5 g8 g5.objs.size x y:=s8.extBut _ _ (E4 zlt) (s7.extBut _ _ (E4 zlt) (As _ rfl));have e8:g8.objs.size=g5.objs.size+1:=by rw[s8.1,s7.1,Cf]
 rw[sz]at z8 T8 e8;refine Ah ⟨_,rfl,?_⟩;show Q (.ref g5.objs.size) _;rw[sz];exact hQ g8 z8 (up _ _ D.TOz p5) (u1.at λo e=>up _ o D.i1z e) (u2.at λo e=>up _ o D.i2z e) T8 e8 λc o c1 c2 c3 c4 e=>up c o c1 (k5 c o c1 c2 c3 c4 e)
theorem jwo {z TI TO i1 i2 l1 l2:Addr} {k:Nat} {xs:Array Af} {Q:Fin->Aj->Prop} (hh:A.handled=none) (D:ZipApart z TI TO i1 i2 l1 l2)
  (hz:IsZip s.heap z TI TO .none) (hTI:D5 s.heap TI (.ref i1) (.ref i2)) (h1:s.heap.IsTupleIter i1 l1 k) (hl1:s.heap.IsTuple l1 xs) (hx:xs[k]?=none)
  (hE:∀h' e,(∀c o,c≠z->c≠i1->s.heap.get? c=some o->h'.get? c=some o)->(∃o,h'.get? e=some o/\o.cls=.type "StopIteration")->E (.ref e) {s with heap:=h'}) :
  Az (Bb prog w) A (Dp.«zip.__next__» ⟨[.ref z],[]⟩) Q E s:=by
 show Az _ _ (field (.ref z) 2>>=_) _ _ _;refine Aa (Ce hz rfl (x:=.bool false) rfl ?_);show Az _ _ (field (.ref z) 3>>=_) _ _ _;refine Aa (Ce hz rfl (x:=.ref TI) rfl ?_);refine Aa (Cn hTI rfl ?_);show Az _ _ (Cg (.ref z)>>=_) _ _ _;refine Aa ?_;unfold Cg;refine Aa (Ce hz rfl (x:=.none) rfl (Ah ?_));simp only[if_true];refine Aa (Fy ?_);refine Aa (Ce hz rfl (x:=.ref TO) rfl ?_);refine Aa (D3 hz (by simp) λg1 hz1 s1=>?_)
 replace hz1:IsZip g1 z TI TO .ellipsis:=hz1
 refine Aa ?_;simp only[List.zipIdx_cons,List.zipIdx_nil,List.forIn_cons,List.forIn_nil];refine Aa (Aa (wpAny_onRaise ?_));show Az _ _ (Ca (.ref i1)>>=_) _ _ _;refine Aa (jcc hh (h1.extBut s1.extBut D.i1z) (hl1.extBut s1.extBut D.l1z) hx λg2 e s2 he=>?_);obtain⟨oe,hoe,hce⟩:=he;have z2:IsZip g2 z TI TO .ellipsis:=s2 _ _ D.i1z.symm hz1;have hez:e≠z:=λx=>by subst x;rw[z2]at hoe;cases hoe;simp at hce
 refine D3 z2 (by simp) λg3 _ s3=>hE g3 e (λc o c1 c3 x=>s3.extBut _ _ c1 (s2 _ _ c3 (s1.extBut _ _ c1 x))) ⟨oe,s3.extBut _ _ hez hoe,hce⟩
theorem jju {z TI TO i1 i2 l1 l2:Addr} {k:Nat} {xs ys:Array Af} {x y a b:Af} {Q:Option Af->Aj->Prop} (D:ZipApart z TI TO i1 i2 l1 l2)
  (hz:IsZip s.heap z TI TO .none) (hTI:D5 s.heap TI (.ref i1) (.ref i2)) (hTO:D5 s.heap TO a b)
  (h1:s.heap.IsTupleIter i1 l1 k) (h2:s.heap.IsTupleIter i2 l2 k) (hl1:s.heap.IsTuple l1 xs) (hl2:s.heap.IsTuple l2 ys) (hx:xs[k]?=some x) (hy:ys[k]?=some y)
  (hQ:∀h',IsZip h' z TI TO (Cy s.heap.objs.size)->D5 h' TO x y->h'.IsTupleIter i1 l1 (k+1)->h'.IsTupleIter i2 l2 (k+1)->D5 h' s.heap.objs.size x y->h'.objs.size=s.heap.objs.size+1 ->
   (∀c o,c≠z->c≠TO->c≠i1->c≠i2->s.heap.get? c=some o->h'.get? c=some o)->Q (some (.ref s.heap.objs.size)) {s with heap:=h'}) :
  Az (Bb prog w) A (Eg (.ref z)) Q E s:=by
 have hT:s.TypeIs (.ref z) "zip":=⟨_,hz,rfl⟩;unfold Eg;exact Aa (Ef (Bs (name:=Cm "__next__") hT Fh
  (B1 Fh hT F.entry_zip_next
   (js3 D hz hTI hTO h1 h2 hl1 hl2 hx hy λh' a1 a2 a3 a4 a5 a6 a7=>Ah (hQ h' a1 a2 a3 a4 a5 a6 a7)) (F.args_zip_next_1 _))))
theorem jls {z TI TO i1 i2 l1 l2:Addr} {k:Nat} {xs:Array Af} {Q:Option Af->Aj->Prop} (hh:A.handled=none) (D:ZipApart z TI TO i1 i2 l1 l2)
  (hz:IsZip s.heap z TI TO .none) (hTI:D5 s.heap TI (.ref i1) (.ref i2)) (h1:s.heap.IsTupleIter i1 l1 k) (hl1:s.heap.IsTuple l1 xs) (hx:xs[k]?=none)
  (hQ:∀h',(∀c o,c≠z->c≠i1->s.heap.get? c=some o->h'.get? c=some o)->Q none {s with heap:=h'}):Az (Bb prog w) A (Eg (.ref z)) Q E s:=by
 have hT:s.TypeIs (.ref z) "zip":=⟨_,hz,rfl⟩;unfold Eg;refine Aa (Ef (Bs (name:=Cm "__next__") hT Fh
  (B1 Fh hT F.entry_zip_next (jwo hh D hz hTI h1 hl1 hx λh' e hk he=>?_) (F.args_zip_next_1 _))))
 obtain⟨o,ho,hc⟩:=he;refine Aa (Fb (T:="StopIteration") (b:=true) ⟨o,ho,hc⟩ isSubtype_stop ?_);exact Ah (hQ _ hk)
end
abbrev zt1 (h:Heap) (l1:Addr):Heap:=h.push {cls:=.type "tuple_iterator",data:=.fields #[.ref l1,.int 0 0]}
abbrev zt2 (h:Heap) (l1 l2:Addr):Heap:=(zt1 h l1).push {cls:=.type "tuple_iterator",data:=.fields #[.ref l2,.int 0 0]}
abbrev zt3 (h:Heap) (l1 l2:Addr):Heap:=(zt2 h l1 l2).push {cls:=.type "tuple",data:=.seq #[.ref h.objs.size,.ref (zt1 h l1).objs.size]}
abbrev zt4 (h:Heap) (l1 l2:Addr):Heap:=(zt3 h l1 l2).push {cls:=.type "tuple",data:=.seq #[.none,.none]}
abbrev zt5 (h:Heap) (l1 l2:Addr):Heap:=(zt4 h l1 l2).push {cls:=.type "zip",data:=.fields #[.none,.bool false,.bool false,.ref (zt2 h l1 l2).objs.size,.ref (zt3 h l1 l2).objs.size]}
theorem jjw (l1 l2:Addr) (xs ys:Array Af) :
  Meets (Dp.«zip.__new__» ⟨[.type "zip",.ref l1,.ref l2],[]⟩) (λ_ R s=>s.heap.IsTuple l1 xs/\s.heap.IsTuple l2 ys /\
   R (.ok (.ret (.ref (zt4 s.heap l1 l2).objs.size))) {s with heap:=zt5 s.heap l1 l2}) :=
 .of_wp λprog w A R s h=>by
  obtain⟨hp,g,d,tk,os⟩:=s;obtain⟨hl1,hl2,h⟩:=h;have hsub:=sub_zip;have hL1:Heap.IsTuple (Shared.heap ⟨hp,g,d,tk,os⟩) l1 xs:=hl1;have hL2:Heap.IsTuple (Shared.heap ⟨hp.push {cls:=.type "tuple_iterator",data:=.fields #[.ref l1,.int 0 0]},g,d,tk,os⟩) l2 ys:=Heap.IsTuple.push hl2 _
  wp_walk using D4 hL1,D4 hL2
  exact⟨_,rfl,h⟩
section
variable {prog:Br} {w:B4} {A:B9} {E:Af->Aj->Prop} {s:Aj}
theorem jv9 {l1 l2:Addr} {xs ys:Array Af} {Q:Af->Aj->Prop} (hl1:s.heap.IsTuple l1 xs) (hl2:s.heap.IsTuple l2 ys)
  (h:∀h',IsZip h' (s.heap.objs.size+4) (s.heap.objs.size+2) (s.heap.objs.size+3) .none->D5 h' (s.heap.objs.size+2) (.ref s.heap.objs.size) (.ref (s.heap.objs.size+1)) ->
   D5 h' (s.heap.objs.size+3) .none .none->h'.IsTupleIter s.heap.objs.size l1 0->h'.IsTupleIter (s.heap.objs.size+1) l2 0 ->
   (∀c o,s.heap.get? c=some o->h'.get? c=some o)->Q (.ref (s.heap.objs.size+4)) {s with heap:=h'}) :
  Az (Bb prog w) A (call (.type "zip") [.ref l1,.ref l2]) Q E s:=by
 refine callType_new F.called_zip (by decide) (F.typeCall_zip_2 _ _) (F.newCall_zip_2 _ _) (λobj=>F.args_object_init_3 obj _ _) F.entry_zip_new
  (jjw l1 l2 xs ys) ⟨hl1,hl2,?_⟩
 have z1:(zt1 s.heap l1).objs.size=s.heap.objs.size+1:=Cf ..;have z2:(zt2 s.heap l1 l2).objs.size=s.heap.objs.size+2:=by rw[Cf,z1]
 have z3:(zt3 s.heap l1 l2).objs.size=s.heap.objs.size+3:=by rw[Cf,z2]
 have z4:(zt4 s.heap l1 l2).objs.size=s.heap.objs.size+4:=by rw[Cf,z3]
 have g5:(zt5 s.heap l1 l2).get? (zt4 s.heap l1 l2).objs.size=some _:=As _ rfl;have g4:(zt5 s.heap l1 l2).get? (zt3 s.heap l1 l2).objs.size=some _:=Ae _ (As _ rfl);have g3:(zt5 s.heap l1 l2).get? (zt2 s.heap l1 l2).objs.size=some _:=Ae _ (Ae _ (As _ rfl));have g2:(zt5 s.heap l1 l2).get? (zt1 s.heap l1).objs.size=some _:=Ae _ (Ae _ (Ae _ (As _ rfl)));have g1:(zt5 s.heap l1 l2).get? s.heap.objs.size=some _:=Ae _ (Ae _ (Ae _ (Ae _ (As _ rfl))));show _/\_;rw[z2,z3,z4]at g5;rw[z1,z2]at g3;rw[z3]at g4;rw[z1]at g2;rw[z4];exact⟨⟨_,g5,rfl⟩,h _ g5 g3 g4 ⟨_,g1,rfl,rfl⟩ ⟨_,g2,rfl,rfl⟩ λc o x =>
  Ae _ (Ae _ (Ae _ (Ae _ (Ae _ x))))⟩
end
theorem Inv.many {X:Cx} {pins:List (Addr×Obj)} {σ:St} {H:Hp} {s:Aj} {h':Heap} {t':Nat} {fp:List Addr} {a:Addr} {o:HO} (I:Inv X pins σ H s) (hf:∀b∈fp,FpOk X pins H b) (k:∀b u,b∉fp->s.heap.get? b=some u->h'.get? b=some u)
  (ha:s.heap.objs.size<=a) (new:ObjOk X.prog X.w (upd H a o) h' a o):Inv X pins σ (upd H a o) {s with heap:=h',toks:=t'}:=by
 have hn:H a=none:=I.hok.fresh ha;have nf:∀b u,H b=some u->b∉fp:=λb u e z=>by rw[(hf b z).1]at e;cases e
 refine I.call' (s':={ s with heap:=h',toks:=t'}) (ch:=fp) rfl ⟨λb u q _ _ z=>k b u z q,λb u q _ _ z=>⟨u.slots,k b u z q⟩,λb u q n _=>?_,λb u q z=>⟨u,k b u z q⟩,λb xs q=>?_,λb u xs q=>?_,λb ps q=>⟨#[],?_⟩⟩ (λb u e=>?_) I.bare (λb hb=>?_)
 ·rw[jag (Bd (Bq (Ao q) ha))];exact n
 ·rw[jag (jae q hn)];exact q
 ·rw[jag (jae q hn)];exact q
 ·rw[jag (jae q hn),q];simp
 ·by_cases z:b=a
  ·subst z;rw[jai]at e;cases e;exact new
  ·rw[jag z]at e;refine(I.hok b u e).stay (λc v hc q=>k c v ?_ q) (λc q=>?_) λc ys q=>?_
   ·rcases hc with z | z
    ·rw[z];exact nf b u e
    ·exact nf c _ z
   ·rw[jag (jae q hn)];exact q
   ·rw[jag (jae q hn)];exact q
 ·obtain⟨f0,f1,f2,f3,f4,f5⟩:=hf b hb;exact⟨f3,f1,f4,f5⟩
theorem Inv.many0 {X:Cx} {pins:List (Addr×Obj)} {σ:St} {H:Hp} {s:Aj} {h':Heap} {t':Nat} {fp:List Addr} (I:Inv X pins σ H s) (hf:∀b∈fp,FpOk X pins H b) (k:∀b u,b∉fp->s.heap.get? b=some u->h'.get? b=some u):Inv X pins σ H {s with heap:=h',toks:=t'}:=by
 have nf:∀b u,H b=some u->b∉fp:=λb u e z=>by rw[(hf b z).1]at e;cases e
 refine I.call' (s':={ s with heap:=h',toks:=t'}) (ch:=fp) rfl ⟨λb u q _ _ z=>k b u z q,λb u q _ _ z=>⟨u.slots,k b u z q⟩,λb u q n _=>n,λb u q z=>⟨u,k b u z q⟩,λb xs q=>q,λb u xs q=>q,λb ps q=>⟨#[],by rw[q];simp⟩⟩ (λb u e=>?_) I.bare (λb hb=>?_)
 ·refine(I.hok b u e).stay (λc v hc q=>k c v ?_ q) (λc q=>q) λc ys q=>q;rcases hc with z | z
  ·rw[z];exact nf b u e
  ·exact nf c _ z
 ·obtain⟨f0,f1,f2,f3,f4,f5⟩:=hf b hb;exact⟨f3,f1,f4,f5⟩
theorem j5m:By "zip"=some (.type "zip"):=by decide +kernel
theorem jn9 {P:Br} {w:B4} {A:B9} (hh:A.handled=none) (it t:Addr) (hne:t≠it) (xs:Array Af):Draws P w A it [it,t] xs.size (λi v=>xs[i]?=some v) (λi h=>h.IsTupleIter it t i/\h.IsTuple t xs) where
 live:=λ_ _ z=>by obtain⟨⟨o,q,_⟩,_⟩:=z;exact⟨o,q⟩
 frame:=λ_ _ _ z k=>⟨z.1.at λo e=>k it (.head _) o e,z.2.at λo e=>k t (.tail _ (.head _)) o e⟩
 item:=λi s Q E hi z k=>jbn z.1 z.2 (x:=xs[i]) (Dg hi) λh' a b=>k _ h' s.toks (Dg hi) ⟨a,z.2.extBut b.extBut hne⟩ b
 done:=λs Q E z k=>jcc hh z.1 z.2 (by simp) k
abbrev et1 (h:Heap) (l:Addr):Heap:=h.push {cls:=.type "tuple_iterator",data:=.fields #[.ref l,.int 0 0]}
abbrev et2 (h:Heap) (l:Addr):Heap:=(et1 h l).push {cls:=.type "enumerate",data:=.fields #[.none,.bool false,.ref h.objs.size,Cy 0,.none,.none]}
theorem jic (l:Addr) (xs:Array Af) (n:Nat) (dc:Option Addr) (sl:Array (Option Af)) :
  Meets (Dp.«enumerate.__new__» ⟨[.type "enumerate",.ref l],[]⟩) (λ_ R s=>s.heap.get? l=some {cls:=.type "tuple",dict:=dc,data:=.seq xs n,slots:=sl} /\
   R (.ok (.ret (.ref (et1 s.heap l).objs.size))) {s with heap:=et2 s.heap l}) :=
 .of_wp λP w A R s h=>by
  obtain⟨hp,g,d,tk,os⟩:=s;obtain⟨hl,h⟩:=h;have hsub:=sub_enumerate;have hT:Heap.IsTuple (Shared.heap ⟨hp,g,d,tk,os⟩) l xs:=⟨_,hl,rfl,n,rfl⟩
  wp_walk using E1 hl
  refine wpAny_stack_any λst=>Ah ?_
  split
  ·rename_i c _ _ _ _ _;cases(c==Dm "enumerate")
   ·wp_walk using E1 hl,D4 hT
    exact⟨_,rfl,h⟩
   ·wp_walk using E1 hl,D4 hT
    exact⟨_,rfl,h⟩
  ·wp_walk using E1 hl,D4 hT
   exact⟨_,rfl,h⟩
section
variable {prog:Br} {w:B4} {A:B9} {E:Af->Aj->Prop} {s:Aj}
theorem jsx {l:Addr} {xs:Array Af} {Q:Af->Aj->Prop} (hl:s.heap.IsTuple l xs)
  (h:∀h',IsEnum h' (s.heap.objs.size+1) s.heap.objs.size 0 .none->h'.IsTupleIter s.heap.objs.size l 0->(∀c o,s.heap.get? c=some o->h'.get? c=some o)->Q (.ref (s.heap.objs.size+1)) {s with heap:=h'}) :
  Az (Bb prog w) A (call (.type "enumerate") [.ref l]) Q E s:=by
 obtain⟨⟨c,dc,dt,sl⟩,hl,hc,n,hd⟩:=hl;obtain rfl:c=.type "tuple":=hc;obtain rfl:dt=.seq xs n:=hd;refine callType_new F.called_enumerate (by decide) (F.typeCall_enumerate_1 _) (F.newCall_enumerate_1 _) (λo=>F.args_object_init_2 o _) F.entry_enumerate_new (jic l xs n dc sl) ⟨hl,?_⟩;have z1:(et1 s.heap l).objs.size=s.heap.objs.size+1:=Cf ..;have g2:(et2 s.heap l).get? (et1 s.heap l).objs.size=some _:=As _ rfl;have g1:(et2 s.heap l).get? s.heap.objs.size=some _:=Ae _ (As _ rfl);show _/\_;rw[z1]at g2 ⊢;exact⟨⟨_,g2,rfl⟩,h _ g2 ⟨_,g1,rfl,rfl⟩ λc o x=>Ae _ (Ae _ x)⟩
end
def Ite (K:Ag) (a:Addr):It :=
 ⟨λi H=>∃xs x,SqT K H a xs/\xs[i]?=some x,
  λi H v H'=>∃T x,v=.ref T/\H T=none/\H'=upd H T (.tup [.int i,x])/\∀xs,SqT K H a xs->xs[i]?=some x,
  λi H=>∃xs,SqT K H a xs/\xs.length=i⟩
theorem js9 {P:Br} {w:B4} {K:Ag} {elts:List Expr} {kk:Nat} {pos:Pos} {a e it:Addr} (h1:e≠it) (h2:a≠it) (h3:e≠a):Turn P w K (.Tuple elts kk pos) (Ite K a) [e,it] e
  (λi h=>(∃old,IsEnum h e it i old)/\h.IsTupleIter it a i) where
 mem:=by simp
 obj:=λi h st c hc=>by
  obtain⟨⟨x,he⟩,⟨o1,e1,c1,d1⟩⟩:=st;simp only[An,Aw,or_false]at hc;rcases hc with rfl | rfl
  ·exact⟨_,he,λv q=>by have q':Data.fields _=Data.cell v:=q;cases q'⟩
  ·exact⟨o1,e1,λv q=>by rw[d1]at q;cases q⟩
 keep:=λi h h' st k=>⟨st.1.imp λ_ q=>k e (by simp) _ q,st.2.at λo q=>k it (by simp) o q⟩
 item:=by
  intro X hP hw hK hc i pins s σ H E I hf st hg;subst hP hw hK;obtain⟨⟨old,he⟩,hi⟩:=st;obtain⟨xs,x,qa,ex⟩:=hg;obtain⟨its,rv,p,_⟩:=I.tuple qa;obtain⟨u,hu,ru⟩:=rv.get ex;have hlt:i < its.toArray.size:=by simpa using(Bp.mp hu).1
  have hef:e∉[it,a]:=λz=>by
   simp only[An,Aw,or_false]at z;exact z.elim h1 h3
  refine wpAny_pyNext_enum_itemD (jn9 (A:=X.A.in1) (I.ok.hd hc) it a h2 its.toArray) he ⟨hi,show s.heap.IsTuple a its.toArray from p⟩ hlt h1 hef λy h' tk a1 a2 a3 a4 a5 a6=>⟨_,rfl,?_⟩;obtain rfl:u=y:=by
   rw[List.getElem?_toArray,hu]at a1;cases a1;rfl
  refine wpAny_letOwnedTupleGo_enum (s:={ s with heap:=h',toks:=tk+1}) a2 λh'' b1 b2=>?_;have T:h''.get? s.heap.objs.size=some {cls:=.type "tuple",data:=.seq #[.int i tk,u]}:=b2.extBut _ _ (E4 (Ao he)) a4;have Tn:H s.heap.objs.size=none:=I.hok.fresh (Ar _);have kp:∀c o,c∉[e,it]->s.heap.get? c=some o->h''.get? c=some o:=λc o hc e=>by
   simp only[An,Aw,or_false,not_or]at hc;exact b2.extBut _ _ hc.1 (a6 c o hc.1 hc.2 e)
  refine⟨.ref s.heap.objs.size,upd H s.heap.objs.size (.tup [.int i,x]),I.many (t':=tk+1) hf kp (Ar _) ⟨by show 2<=Ax;decide,[.int i tk,u],.cons ⟨tk,rfl⟩ (.cons ru .nil),_,T,rfl,⟨_,rfl⟩,rfl⟩,rfl,⟨_,x,rfl,Tn,rfl,λzs q=>by rw[I.tuple_inj q qa];exact ex⟩,
   ⟨⟨u,by rw[show((i+1:Nat):Int)=(i:Int)+1 from rfl];exact b1⟩,a3.1.extBut b2.extBut h1.symm⟩,λc hc=>?_⟩
  have hlt:c < s.heap.objs.size:=by
   simp only[An,Aw,or_false]at hc;rcases hc with rfl | rfl
   ·exact Ao he
   ·obtain⟨_,e,_⟩:=hi;exact Ao e
  rw[jag (Bd hlt)];exact(hf c hc).1
 done:=by
  intro X hP hw hK hc i pins s σ H E I hf st hg;subst hP hw hK;obtain⟨⟨old,he⟩,hi⟩:=st;obtain⟨xs,hq,hx⟩:=hg;obtain⟨its,rv,p,_⟩:=I.tuple hq;have hl:=rv.length;have hs:its.toArray.size=i:=by simp;omega
  refine wpAny_pyNext_enum_endD (jn9 (A:=X.A.in1) (I.ok.hd hc) it a h2 its.toArray) he (by rw[hs];exact⟨hi,p⟩) λh' k=>⟨rfl,I.many0 (t':=s.toks) hf λc o hc e=>?_⟩;simp only[An,Aw,or_false,not_or]at hc;exact k c o hc.2 e
 self:=λ_ _ _ _ _ st h=>wpAny_pyIter_enum st.1.choose_spec h
def j4w (K:Ag) (ta:TA):TI:=λσ H R=>ta σ H λvs H1=>∃a,vs=[.ref a]/\(∃xs,SqT K H1 a xs)/\R (Ite K a) H1
theorem j01 {X:Cx} {elts:List Expr} {kk:Nat} {tpos:Pos} {e1:Expr} {ta:TA} {p pos:Pos} (hg:Gl X "enumerate") (hm:X.mg "enumerate"=none) (ha:PA X [e1] ta) (hs:A8 [e1] X.env=[(false,eval e1 X.env)]:=by rfl) :
  PI X (.Tuple elts kk tpos) (.Call (.Name "enumerate" p) [e1] [] pos) (j4w X.K ta):=by
 intro pins s σ H R I h;refine Call_ (jku I hg hm boot_enumerate (Eh (thn (ha pos pins s σ H _ I h) λus s1 ⟨vs,H1,I1,r1,q1⟩=>?_) (by rw[hs];rfl) rfl));obtain⟨a,e,⟨xs,qa⟩,q⟩:=q1;subst e;cases r1 with
 |cons r rr =>
  cases rr;cases r;obtain⟨its,rv,pp,_⟩:=I1.tuple qa;have la:a < s1.heap.objs.size:=by obtain⟨_,e,_⟩:=id pp;exact Ao e
  refine jsx (show s1.heap.IsTuple a its.toArray from pp) λh' a1 a2 a3=>wpAny_pyIter_enum (s:={ s1 with heap:=h'}) a1 ?_;refine⟨_,_,_,_,H1,rfl,I1.kept (t':=s1.toks) a3,js9 (Nat.succ_ne_self _) (Bd la) (E4 (D7 la)),⟨⟨_,a1⟩,a2⟩,λc hc=>?_,q⟩;have hlt:s1.heap.objs.size<=c:=by
   simp only[An,Aw,or_false]at hc;rcases hc with rfl | rfl<;>omega
  exact I1.fpOk hlt (I1.hok.fresh hlt)
end L2
namespace DL
open PySem L2 Nb
def valD (kvs:List (Key×Ab)) (k:Key):Option Ab:=(kvs.find? λkv=>decide (kv.1=k)).map (·.2)
section
variable {X:Cx} {a b c e o i f:Expr} {ta tb te td ty tx:TE} {wa wb we wd' wy wx:DT} {pos p:Pos} {K:Ag}
def jyw (wd wy wx:DT):DT:=λδ n Q=>wd δ n λx n1=>match x with
 |.dk kvs=>wy δ n1 λy n2=>wx δ n2 λz n3=>match y,z with
  |.d (.str k),.d z=>Q (.d ((valD kvs (.inr k)).getD z)) n3
  |_,_=>False
 |_=>False
end
section
variable {X:Cx} {a b c e o i f:Expr} {ta tb te td ty tx:TE} {wa wb we wd' wy wx:DT} {pos p:Pos} {K:Ag}
theorem jpu {H:Hp} {B:Addr->Prop}:∀{ys:List Str},(∀y∈ys,y.length<=1000)->RdXs H B (ys.map V.str) (ys.map .str)
 |[],_=>.nil
 |y::r,h=>.cons (.str _ (jee (h y A5))) (jpu λz hz=>h z (A1 _ hz))
def zipD (xs ys:List Ab):List Ab:=List.zipWith (λx y=>.tuple [x,y]) xs ys
end
end DL
namespace L2
open PySem PySem.Spec PyProof.Rows PySem.SeqAt
end L2
namespace DL
open PySem L2 Nb
section
variable {X:Cx} {K:Ag}
def rXX (K:Ag) (f:Ab->Ab->Option Bool):R2:=λx y H Q=>∃d e b,RdD K H x d/\RdD K H y e/\d.canLay0=true/\e.canLay0=true/\d.depth<=20/\e.depth<=20/\f d e=some b/\Q (.bl b) H
theorem jzd (hu:X.A.units+64 < cLine) (hK:X.K=K:=by rfl):OpR X (Bt .Eq) (rXX K λd e=>some (PyData.eqv d e)):=by
 subst hK;intro pins s σ H x y v u Q I rx ry h;obtain⟨d,e,b,h1,h2,h3,h4,h5,h6,h7,q⟩:=h;cases h7;obtain⟨as,r1⟩:=RdD.reads I h1 rx;obtain⟨bs,r2⟩:=RdD.reads I h2 ry;exact SeqAt.compareEq_reads r1 r2 h3 h4 (by omega) ⟨.bl _,H,I,rfl,q⟩
def gXX (f:Ab->Ab->Option Bool):Wv->Wv->Int->DQ->Prop:=λx y n Q=>match x,y with
 |.d d,.d e=>d.canLay0=true/\e.canLay0=true/\d.depth<=20/\e.depth<=20/\∃b,f d e=some b/\Q (.d (.bool b)) n
 |_,_=>False
theorem jy2 {f:Ab->Ab->Option Bool}:SndO (rXX K f) (gXX f):=λC H B σ δ n x y p q Q Q' R rx ry h1 k=>by
 unfold gXX at h1
 split at h1
 ·rename_i d e;obtain⟨a1,a2,a3,a4,b,a5,a6⟩:=h1;exact⟨d,e,b,RdX.rd rx,RdX.rd ry,a1,a2,a3,a4,a5,k _ _ H n R (Kp.refl _ _) (wd (.bl b)) a6⟩
 ·exact h1.elim
end
end DL
namespace L2
open PySem PySem.Spec PyProof.Rows PySem.W
section
variable {prog:Br} {w:B4} {A:B9} {E:Af->Aj->Prop} {s:Aj}
theorem jt0 {src:Source} {n:Nat} {Q:Nat->Aj->Prop} (hn:n≠0) (h:∀i dr,i < n->Q i {s with drawn:=dr}):Az (Bb prog w) A (choose src n) Q E s :=
 λ_ _ _=>⟨hn,h _ _ (Nat.mod_lt _ (Nat.pos_of_ne_zero hn))⟩
theorem jih {α:Type}:∀(l:List α) (i:Nat) (h:i < l.length),(l[i]::l.eraseIdx i).Perm l
 |x::r,0,_=>List.Perm.refl _
 |x::r,i+1,h=>(List.Perm.swap x (r[i]'(Nat.lt_of_succ_lt_succ h)) (r.eraseIdx i)).trans ((jih r i (Nat.lt_of_succ_lt_succ h)).cons x)
theorem jtx {α:Type}:∀(n:Nat) (xs:List α) (s:Aj) {Q:List α->Aj->Prop},xs.length=n->(∀ys dr,ys.Perm xs->Q ys {s with drawn:=dr})->Az (Bb prog w) A (drawOrder n xs) Q E s
 |0,xs,s,Q,hl,h=>by
  cases Cp hl;exact Ah (h [] s.drawn (List.Perm.refl _))
 |n+1,[],s,Q,hl,h=>by cases hl
 |n+1,x::r,s,Q,hl,h=>by
  unfold drawOrder;refine Aa (jt0 (by simp) λi dr hi=>?_);rw[Am hi];dsimp only;refine Aa (jtx n _ _ (by rw[List.length_eraseIdx_of_lt hi];simp at hl ⊢;omega) λys dr' hp=>Ah (h _ dr' ?_));exact(hp.cons _).trans (jih _ _ hi)
theorem jtr {α:Type} (next:Nat->Nat):∀(fuel k:Nat) (left:List α) (out:Array α),left.length=fuel->(pickOrder.go next fuel k left out).toList.Perm (out.toList++left)
 |0,k,left,out,hl=>by
  cases Cp hl;simp[pickOrder.go]
 |fuel+1,k,left,out,hl=>by
  have hi:next k % left.length < left.length:=Nat.mod_lt _ (by omega)
  unfold pickOrder.go;rw[Am hi];dsimp only;refine(jtr next fuel (k+1) _ _ (by rw[List.length_eraseIdx_of_lt hi];omega)).trans ?_;rw[Array.toList_push,Bn];exact List.Perm.append_left _ (jih _ _ hi)
theorem jr6 {α:Type} (next:Nat->Nat) (xs:Array α):(pickOrder next xs).toList.Perm xs.toList:=by
 have:=jtr next xs.size 0 xs.toList #[] (by simp)
 simpa[pickOrder]using this
def byTx (w:B4):Bool:=w.params.followText "set-order"
theorem jlk {Q:Bool->Aj->Prop} (h:Q (byTx w) s):Az (Bb prog w) A setsByText Q E s:=by
 unfold setsByText;exact Aa (wpAny_askSetting (Ah h))
structure SetTb (w:B4) (h:Heap) (a:Addr) (es:Array (Int×Af)) (ep:Nat) (t:El):Prop where
 obj:∃o,h.get? a=some o/\o.ExactSet/\o.data=.set es ep t
 fits:t.fits es.size=true
 led:t.led=!byTx w
 plain:t.plain=true->es.size=0
theorem SetTb.move {h h':Heap} {a:Addr} {es:Array (Int×Af)} {ep:Nat} {t:El} (x:SetTb w h a es ep t) (k:∀o,h.get? a=some o->h'.get? a=some o):SetTb w h' a es ep t :=
 ⟨let⟨o,e,r⟩:=x.obj;⟨o,k o e,r⟩,x.fits,x.led,x.plain⟩
theorem SetTb.typeIs {a:Addr} {es:Array (Int×Af)} {ep:Nat} {t:El} (x:SetTb w s.heap a es ep t):s.TypeIs (.ref a) "set":=let⟨o,e,r,_⟩:=x.obj;⟨o,e,r.1⟩
theorem SetTb.lt {h:Heap} {a:Addr} {es:Array (Int×Af)} {ep:Nat} {t:El} (x:SetTb w h a es ep t):a < h.objs.size:=let⟨_,e,_⟩:=x.obj;Ao e
theorem j08 (t:El) (n:Nat):(t.orStandIn n).led=t.led:=by
 unfold SetTable.orStandIn
 split<;>rfl
theorem j1o (t:El) (es:Array (Int×Af)) (h:Int) (x:Af):(layNew t es h x).2.1.led=t.led:=by
 unfold layNew
 split
 ·exact j08 _ _
 ·rfl
theorem jsd {t t':El} {hs:Array Int} {n:Nat} {ord:Array Nat} (h:t.relaid hs n=some (t',ord)):t'.led=t.led/\t'.plain=t.plain:=by
 unfold SetTable.relaid SetTable.laid at h;cases hc:SetTable.layClean (SetTable.sizeAbove n - 1) hs with
 |none=>rw[hc]at h;cases h
 |some ow =>
  rw[hc]at h;cases h;exact⟨rfl,rfl⟩
theorem jnl (t:El) (es:Array (Int×Af)) (n:Nat):(relayAll t es n).2.1.led=t.led/\((relayAll t es n).2.1.plain=true->t.plain=true):=by
 unfold relayAll
 split
 ·rename_i t' ord he;obtain⟨h1,h2⟩:=jsd he;dsimp only
  split
  ·exact⟨h1,λz=>h2▸z⟩
  ·exact⟨rfl,λz=>by simp[SetTable.standIn]at z⟩
 ·exact⟨rfl,λz=>by simp[SetTable.standIn]at z⟩
def txOf (v:Af):Str:=match v with
 |.str k _=>k
 |_=>⟨#[]⟩
def ksOf (es:Array (Int×Af)):List Str:=es.toList.map λe=>txOf e.2
def TxEs (w:B4) (es:Array (Int×Af)):Prop:=∀e∈es.toList,∃k t,e.2=.str k t/\e.1=hashStr w k
theorem TxEs.elems {es:Array (Int×Af)} (h:TxEs w es):ElemsOf (Du prog w) es.toList:=λe he=>by
 obtain⟨k,t,e1,e2⟩:=h e he;refine⟨⟨k,?_,e2⟩,by rw[e1];rfl⟩;rw[e1];simp[Du,Value.isStrOf]
def ji8 (w:B4) (h:Heap) (a:Addr) (seen:List Str):Prop:=∃es ep t,SetTb w h a es ep t/\TxEs w es/\(ksOf es).Nodup/\(∀k,k∈ksOf es↔k∈seen)/\es.size<=seen.length
end
theorem jfm:entryFor table "set.update.loop"=some Dp.«set.update.loop»:=entryFor_of_tree (by kernel_rfl)
theorem jc8:plainId "set.update.loop"=true:=by decide +kernel
section
variable {prog:Br} {w:B4} {A:B9} {E:Af->Aj->Prop} {s:Aj}
theorem jz7 {es es':Array (Int×Af)} {seen:List Str} {k:Str} {tk:Tok} (hx:TxEs w es) (nd:(ksOf es).Nodup) (hm:∀k,k∈ksOf es↔k∈seen) (hl:es.size<=seen.length) (hk:k∉ksOf es)
  (p:es'.toList.Perm (es.toList++[(hashStr w k,.str k tk)])):TxEs w es'/\(ksOf es').Nodup/\(∀k',k'∈ksOf es'↔k'∈seen++[k])/\es'.size<=(seen++[k]).length/\es'.size=es.size+1:=by
 have pk:(ksOf es').Perm (ksOf es++[k]):=by
  have:=p.map λe=>txOf e.2;rw[Cw]at this;exact this
 have hz:es'.size=es.size+1:=by
  have:=p.length_eq;simpa using this
 refine⟨λe he=>?_,pk.nodup_iff.mpr ?_,λk'=>?_,by rw[hz,Ak];exact Nat.succ_le_succ hl,hz⟩
 ·rcases A0.mp (p.mem_iff.mp he)with h | h
  ·exact hx e h
  ·rw[A2]at h;subst h;exact⟨k,tk,rfl,rfl⟩
 ·rw[List.nodup_append];exact⟨nd,F9 _ _,λa ha b hb e=>hk (by rw[A2]at hb;rw[<-hb,<-e];exact ha)⟩
 ·rw[pk.mem_iff,A0,A0,hm k']
theorem jtq {es es':Array (Int×Af)} (hx:TxEs w es) (nd:(ksOf es).Nodup) (p:es'.toList.Perm es.toList):TxEs w es'/\(ksOf es').Nodup/\(∀k',k'∈ksOf es'↔k'∈ksOf es)/\es'.size=es.size:=by
 have pk:(ksOf es').Perm (ksOf es):=List.Perm.map (λe:Int×Af=>txOf e.2) p;exact⟨λe he=>hx e (p.mem_iff.mp he),pk.nodup_iff.mpr nd,λk'=>pk.mem_iff,by have:=p.length_eq;simpa using this⟩
theorem j2v {a:Addr} {k:Str} {tk:Tok} {seen:List Str} {Q:Bool->Aj->Prop} (hS:ji8 w s.heap a seen) (hb:seen.length < 1000)
  (h:∀b h',Dc a s.heap h'->ji8 w h' a (seen++[k])->Q b {s with heap:=h'}):Az (Bb prog w) A (setAddHashed a (.str k tk) (hashStr w k)) Q E s:=by
 obtain⟨es,ep,t,T,hx,nd,hm,hl⟩:=hS;obtain⟨o,ho,hex,hd⟩:=T.obj;have hel:ElemsOf (Du prog w) es.toList:=hx.elems;have hsz:es.size < scanBound:=by unfold scanBound;omega
 have hkey:(Du prog w).is k (.str k tk)=true:=by simp[Du,Value.isStrOf]
 unfold setAddHashed setAddHashedIn;refine C6 (Aa (Ey ho hd T.fits ?_));dsimp only;rw[byScan_of (knd:=Du prog w) (x:=.str k tk) rfl hsz hel];simp only[↓reduceIte];unfold setAddByScan;refine Aa (Aa (Fy (Aa (wpAny_setScan_of (knd:=Du prog w) (k:=k) hkey ho hd T.fits hel ?_))));cases hr:es.toList.findIdx? (λe=>(Du prog w).is k e.2)with
 |some j =>
  dsimp only;obtain⟨hj,hpj,_⟩:=List.findIdx?_eq_some_iff_getElem.mp hr;have hk:k∈ksOf es:=by
   obtain⟨u,hu⟩:=Value.isStrOf_shape hpj;exact Cc.mpr ⟨es.toList[j],Ez hj,by rw[hu];rfl⟩
  refine Ah (Ah (h _ s.heap (Heap.SameBut.refl a s.heap) ⟨es,ep,t,T,hx,nd,λk'=>?_,by rw[Ak];omega⟩));rw[hm k',A0,A2];exact⟨.inl,λz=>z.elim id λe=>e▸(hm k).mp hk⟩
 |none =>
  dsimp only;have hk:k∉ksOf es:=λz=>by
   obtain⟨e,he,e2⟩:=Cc.mp z;obtain⟨k',t',e3,_⟩:=hx e he;have q:=List.findIdx?_eq_none_iff.mp hr e he;rw[e3]at e2 q;have e2:k'=k:=e2;subst e2;simp[Du,Value.isStrOf]at q
  have hgw:∀(b:Bool) {s₁:Aj} {Q':Unit->Aj->Prop},Q' () s₁->Az (Bb prog w) A (match b with | true=>rule "set.scan.the-table-gave-way" | false=>pure ()) Q' E s₁ :=
   λb s₁ Q' hq=>by cases b with
    |true=>exact Fy hq
    |false=>exact Ah hq
  have hp:=layNew_perm t es (hashStr w k) (.str k tk);have hf:=layNew_fits t es (hashStr w k) (.str k tk);have hle:=j1o t es (hashStr w k) (.str k tk);have eh:(Du prog w).hash k=hashStr w k:=rfl
  try rw[eh]
  generalize layNew t es (hashStr w k) (.str k tk)=L at hp hf hle ⊢;obtain⟨es1,t1,wd,gave⟩:=L;dsimp only at hp hf hle ⊢;rw[Array.toList_push]at hp;obtain⟨x1,n1,m1,l1,z1⟩:=jz7 hx nd hm hl hk hp;refine Aa (hgw _ ?_)
  split
  ·refine Aa ?_;rw[hashByValue_scannable 8 rfl];refine Ah ?_;have hpl:({t1 with plain:=false}:El).plain=false:=rfl;have hft:({t1 with plain:=false}:El).fits es1.size=true:=SetTable.fits_plain_off hf;have hld:({t1 with plain:=false}:El).led=t.led:=hle;simp only[plainKind,Bf,↓reduceIte];generalize({t1 with plain:=false}:El)=t2 at hpl hft hld ⊢;have hb1:es1.size < scanBound:=by unfold scanBound;omega
   refine Aa (wpAny_storeSet_of ho hd ?_ (fits_of_scanBound hb1));have g1:(s.heap.update a (Ea es1 t2)).get? a=some {o with data:=.set es1 (ep+1) t2}:=by
    have:=Bx (Ea es1 t2) ho (by rw[putSet_of es1 t2 hd];rfl);rw[putSet_of es1 t2 hd]at this;exact this
   have sb1:=Bg s.heap a (Ea es1 t2)
   split
   ·have hp2:=relayAll_perm t2 es1 (D8 es1.size);have hf2:=relayAll_fits t2 es1 (D8 es1.size);obtain⟨hl2,hq2⟩:=jnl t2 es1 (D8 es1.size);generalize relayAll t2 es1 (D8 es1.size)=R at hp2 hf2 hl2 hq2 ⊢;obtain⟨es2,t3,gave2⟩:=R;dsimp only at hp2 hf2 hl2 hq2 ⊢;obtain⟨x2,n2,m2,z2⟩:=jtq x1 n1 hp2;refine Aa (hgw _ ?_);refine Aa (wpAny_storeSet_of g1 rfl ?_ (fits_of_scanBound (by rw[z2];exact hb1)));have g2:((s.heap.update a (Ea es1 t2)).update a (Ea es2 t3)).get? a=some {o with data:=.set es2 (ep+1+1) t3}:=by
     have:=Bx (Ea es2 t3) g1 (by rw[putSet_of es2 t3 rfl];rfl);rw[putSet_of es2 t3 rfl]at this;exact this
    refine Ah (Ah (h _ _ (sb1.trans (Bg _ a _)) ⟨es2,ep+1+1,t3,⟨⟨_,g2,hex,rfl⟩,hf2,by rw[hl2,hld];exact T.led,λz=>?_⟩,x2,n2,λk'=>(m2 k').trans (m1 k'),by rw[z2];exact l1⟩));have:=hq2 z;rw[hpl]at this;cases this
   ·refine Ah (Ah (h _ _ sb1 ⟨es1,ep+1,t2,⟨⟨_,g1,hex,rfl⟩,hft,by rw[hld];exact T.led,λz=>?_⟩,x1,n1,m1,l1⟩));rw[hpl]at z;cases z
  ·rename_i hpl0;have hpl:t1.plain=false:=by simpa using hpl0
   have hft:=hf;have hld:=hle;refine Aa (Ah ?_);simp only[↓reduceIte];clear hf hle hpl0;generalize t1=t2 at hpl hft hld ⊢;have hb1:es1.size < scanBound:=by unfold scanBound;omega
   refine Aa (wpAny_storeSet_of ho hd ?_ (fits_of_scanBound hb1));have g1:(s.heap.update a (Ea es1 t2)).get? a=some {o with data:=.set es1 (ep+1) t2}:=by
    have:=Bx (Ea es1 t2) ho (by rw[putSet_of es1 t2 hd];rfl);rw[putSet_of es1 t2 hd]at this;exact this
   have sb1:=Bg s.heap a (Ea es1 t2)
   split
   ·have hp2:=relayAll_perm t2 es1 (D8 es1.size);have hf2:=relayAll_fits t2 es1 (D8 es1.size);obtain⟨hl2,hq2⟩:=jnl t2 es1 (D8 es1.size);generalize relayAll t2 es1 (D8 es1.size)=R at hp2 hf2 hl2 hq2 ⊢;obtain⟨es2,t3,gave2⟩:=R;dsimp only at hp2 hf2 hl2 hq2 ⊢;obtain⟨x2,n2,m2,z2⟩:=jtq x1 n1 hp2;refine Aa (hgw _ ?_);refine Aa (wpAny_storeSet_of g1 rfl ?_ (fits_of_scanBound (by rw[z2];exact hb1)));have g2:((s.heap.update a (Ea es1 t2)).update a (Ea es2 t3)).get? a=some {o with data:=.set es2 (ep+1+1) t3}:=by
     have:=Bx (Ea es2 t3) g1 (by rw[putSet_of es2 t3 rfl];rfl);rw[putSet_of es2 t3 rfl]at this;exact this
    refine Ah (Ah (h _ _ (sb1.trans (Bg _ a _)) ⟨es2,ep+1+1,t3,⟨⟨_,g2,hex,rfl⟩,hf2,by rw[hl2,hld];exact T.led,λz=>?_⟩,x2,n2,λk'=>(m2 k').trans (m1 k'),by rw[z2];exact l1⟩));have:=hq2 z;rw[hpl]at this;cases this
   ·refine Ah (Ah (h _ _ sb1 ⟨es1,ep+1,t2,⟨⟨_,g1,hex,rfl⟩,hft,by rw[hld];exact T.led,λz=>?_⟩,x1,n1,m1,l1⟩));rw[hpl]at z;cases z
def SeqV (ks:List Str) (i:Nat) (v:Af):Prop:=∃k t,ks[i]?=some k/\v=.str k t
theorem jz8 {R:Result->Aj->Prop} {I:Addr} {fp wr:List Addr} {G:Array GenState->Array GenState->Prop} {n:Nat} {St:Nat->Aj->Prop} {ks:List Str} (W:WalksS prog w A.in1 I fp wr G n (SeqV ks) St) (S:Addr) (hSf:S∉fp) (hn:ks.length=n) (hb:n < 64) :
  ∀(m i:Nat) (s:Aj),n - i=m->i<=n->St i s->ji8 w s.heap S (ks.take i) ->
   (∀s',Moved (S::wr) G s s'->ji8 w s'.heap S ks->R (.ok (.ret .none)) s')->Fs (Bb prog w) A (.builtin "set.update.loop" ⟨[.ref S,.ref I],[]⟩) R s:=by
 have hSw:S∉wr:=λh=>hSf (W.sub _ h);have hsub:∀b∈wr,b∈S::wr:=λb hb=>A1 _ hb;have mv:∀{h h':Heap} {seen:List Str},(∀o,h.get? S=some o->h'.get? S=some o)->ji8 w h S seen->ji8 w h' S seen:=λk x=>by
  obtain⟨es,ep,t,T,r⟩:=x;exact⟨es,ep,t,T.move k,r⟩
 intro m
 induction m with
 |zero =>
  intro i s hk hi hst hS hR;have hin:i=n:=by omega
  subst hin;refine Fj jfm ?_;rw[Et jc8 _];show Az _ A.in1 (Eg (.ref I)>>=_) _ _ s;refine Aa (W.done s _ _ hst λs' hm=>?_);show Az _ A.in1 (ret Bi) _ _ s';rw[<-hn,List.take_length]at hS;exact Ah (hR s' (hm.mono hsub) (mv (λo e=>hm.heap S _ hSw e) hS))
 |succ m ih =>
  intro i s hk hi hst hS hR;have hlt:i < n:=by omega
  refine Fj jfm ?_;rw[Et jc8 _];show Az _ A.in1 (Eg (.ref I)>>=_) _ _ s;refine Aa (W.item i s _ _ hlt hst λv s' hP hst' hm=>?_);obtain⟨k,t,hk1,rfl⟩:=hP;have hS':=mv (λo e=>hm.heap S _ hSw e) hS;show Az _ A.in1 (holding [Value.str k t] (setAdd S (.str k t))>>=_) _ _ s';refine Aa (C6 ?_);unfold setAdd;refine C6 ?_;refine Aa (wpAny_pyHash_str ?_);refine j2v (s:={ s' with toks:=s'.toks+1}) hS' (by rw[Ed];omega) λb h' hsb hS2=>?_;have et:ks.take i++[k]=ks.take (i+1):=by
   rw[List.take_add_one,hk1];rfl
  rw[et]at hS2;refine Ah ⟨plainId_quiet jc8 _,ih (i+1) _ (by omega) hlt (W.frame _ s' _ _ hst' (Nat.le_succ _) λb hb o e=>?_) hS2 λs'' hm'' hS''=>?_⟩
  ·rw[hsb.2 b (λh:b=S=>hSf (by rw[<-h];exact hb))];exact e
  ·refine hR s'' (Moved.trans W.gtrans ((hm.mono hsub).then_heap (Nat.le_succ _) λb o hb e=>?_) hm'') hS'';rw[hsb.2 b (λh:b=S=>hb (by rw[h];exact A5))];exact e
end
theorem slot_setit_next:Slot "set_iterator" "__next__" "set_iterator.__next__":=Slot.of (owner:="set_iterator") (n:="__next__") (by rw[typeLookup_type,builtinLookup_eq_fast];kernel_rfl)
 (by decide +kernel) (by decide +kernel) (by decide +kernel) (by first | exact .inl (by decide +kernel) | exact .inr (by decide +kernel)) (by rw[E7];kernel_rfl)
theorem jbc:entryFor table "set_iterator.__next__"=some Dp.«set_iterator.__next__»:=entryFor_of_tree (by kernel_rfl)
theorem jbe (a:Af):argsOk "set_iterator.__next__" ⟨[a],[]⟩:=by unfold argsOk;kernel_rfl
theorem jdm:Slot "set_iterator" "__iter__" "set_iterator.__iter__":=Slot.of (owner:="set_iterator") (n:="__iter__") (by rw[typeLookup_type,builtinLookup_eq_fast];kernel_rfl)
 (by decide +kernel) (by decide +kernel) (by decide +kernel) (by first | exact .inl (by decide +kernel) | exact .inr (by decide +kernel)) (by rw[E7];kernel_rfl)
theorem jhh:entryFor table "set_iterator.__iter__"=some Dp.«dict_keyiterator.__iter__»:=by exact entryFor_alias (id':="dict_keyiterator.__iter__") (by kernel_rfl) rfl (by decide +kernel) (by kernel_rfl)
theorem jiy (a:Af):argsOk "set_iterator.__iter__" ⟨[a],[]⟩:=by unfold argsOk;kernel_rfl
theorem jik:entryFor table "set.__iter__"=some Dp.«frozenset.__iter__»:=by exact entryFor_alias (id':="frozenset.__iter__") (by kernel_rfl) rfl (by decide +kernel) (by kernel_rfl)
def SetIt (h:Heap) (I:Addr) (first:Af) (i:Nat) (a:Addr) (n ep:Nat):Prop:=∃o,h.get? I=some o/\o.cls=.type "set_iterator"/\o.data=.fields #[first,.int i 0,.ref a,.int n 0,.int ep 0]
section
variable {prog:Br} {w:B4} {A:B9} {E:Af->Aj->Prop} {s:Aj} {I a T:Addr} {n ep i j:Nat} {es:Array (Int×Af)} {t:El} {first:Af}
theorem SetIt.typeIs (x:SetIt s.heap I first i a n ep):s.TypeIs (.ref I) "set_iterator":=let⟨o,e,c,_⟩:=x;⟨o,e,c⟩
theorem SetIt.move {h h':Heap} (x:SetIt h I first i a n ep) (k:∀o,h.get? I=some o->h'.get? I=some o):SetIt h' I first i a n ep:=let⟨o,e,r⟩:=x;⟨o,k o e,r⟩
theorem jb7 {Q:Af->Aj->Prop} (hit:SetIt s.heap I first i a n ep) (h:Q (.ref I) s):Az (Bb prog w) A (pyIter (.ref I)) Q E s:=by
 refine wpAny_pyIter_slot hit.typeIs jdm (B1 jdm hit.typeIs jhh ?_ (jiy _));show Az _ _ (ret (.ref I)) _ _ s;exact Ah ⟨_,rfl,"set_iterator",_,hit.typeIs,slot_setit_next.lookup,h⟩
theorem jtu {pl:Array Af} {x:Int×Af} {Q:Option Af->Aj->Prop} (hit:SetIt s.heap I (.ref T) i a n ep) (hs:SetTb w s.heap a es ep t) (hn:es.size=n) (hT:s.heap.IsTuple T pl) (hp:pl[i]?=some (.int j 0)) (hx:es[j]?=some x)
  (hQ:∀h',SetIt h' I (.ref T) (i+1) a n ep->Dc I s.heap h'->Q (some x.2) {s with heap:=h'}):Az (Bb prog w) A (Eg (.ref I)) Q E s:=by
 obtain⟨o,ho,hc,hd⟩:=id hit;obtain⟨oa,hoa,_,hda⟩:=hs.obj;obtain⟨ol,hol,_,nl,hdl⟩:=hT;unfold Eg;refine Aa (Ef (Bs (name:=Cm "__next__") hit.typeIs slot_setit_next (B1 slot_setit_next hit.typeIs jbc ?_ (jbe _))));refine Aa (Ah ?_);refine Aa (Fq ho hd ?_);dsimp only;refine Aa (Dy hoa hda hs.fits ?_);rw[if_neg (by rw[hn];simp)];refine Aa (Cn hol hdl ?_);simp only[Bv,hp];refine Aa ?_;unfold setNextDrawn;refine Aa (Ey hoa hda hs.fits ?_);simp only[Bv,bne_self_eq_false,Bf,if_false,hx];refine Ah ?_;refine Aa (Dh ho hd (by simp) (Ah ⟨x.2,rfl,Ah (hQ _ ?_ (Bg ..))⟩));exact⟨_,Bx _ ho (Di (B8 hd _)),(Es ..).trans hc,by
  rw[B8 hd];simp[Cy]⟩
theorem jty {pl:Array Af} {Q:Option Af->Aj->Prop} (hh:A.handled=none) (hit:SetIt s.heap I (.ref T) i a n ep) (hs:SetTb w s.heap a es ep t) (hn:es.size=n) (hT:s.heap.IsTuple T pl) (hp:pl[i]?=none)
  (hQ:∀h',Heap.ExtBut I s.heap h'->Q none {s with heap:=h'}):Az (Bb prog w) A (Eg (.ref I)) Q E s:=by
 obtain⟨ol,hol,_,nl,hdl⟩:=hT;obtain⟨o,ho,hc,hd⟩:=id hit;obtain⟨oa,hoa,_,hda⟩:=hs.obj;unfold Eg;refine Aa (Ef (Bs (name:=Cm "__next__") hit.typeIs slot_setit_next (B1 slot_setit_next hit.typeIs jbc ?_ (jbe _))));refine Aa (Ah ?_);refine Aa (Fq ho hd ?_);dsimp only;refine Aa (Dy hoa hda hs.fits ?_);rw[if_neg (by rw[hn];simp)];refine Aa (Cn hol hdl ?_);simp only[Bv,hp];refine Aa (Dh ho hd (by simp) ?_);have ho2:=Bx (Obj.mapFields (·.setIfInBounds 0 (Cy 0))) ho (Di (B8 hd _));have hd2:=B8 hd (·.setIfInBounds 0 (Cy 0));refine Aa (Dh ho2 hd2 (by simp) ?_);refine Aa ?_;simp only[newExc,newTuple];refine Aa (Bm ?_ (by size_fits));refine Aa (m:=Ej _ _) (wpAny_of_eq (a:=Bi) (by first | rfl | (simp only[Ej];rfl)) ?_);refine Bm ?_ (by size_fits);simp only[raiseNew];refine Aa (wpAny_handled ?_)
 first | rw[show A.in1.handled=none from hh] | rw[hh]
 refine Aa (Ah (wpAny_throw ?_));refine Aa (Fb (T:="StopIteration") (b:=true) ⟨_,As _ rfl,rfl⟩ isSubtype_stop ?_);exact Ah (hQ _ (((((Bg ..).trans (Bg ..)).extBut).push _).push _))
def jgn (w:B4) (a:Addr) (ep:Nat) (es:Array (Int×Af)):Array (Int×Af):=pickOrder (w.params.setOrder a ep) es
theorem jm6 {Q:Option (Af×Nat)->Aj->Prop} {k:Nat} (hb:byTx w=true) (hs:SetTb w s.heap a es ep t) (h:Q (((jgn w a ep es)[i]?).map λe=>(e.2,k)) s):Az (Bb prog w) A (setNext a k i ep) Q E s:=by
 obtain⟨oa,hoa,_,hda⟩:=hs.obj;unfold setNext;refine Aa (Ey hoa hda hs.fits ?_);dsimp only;refine Aa (jlk ?_);rw[hb];simp only[↓reduceIte,bne_self_eq_false,Bf,if_false];refine Aa ?_;unfold setWalk;refine Aa (Ey hoa hda hs.fits ?_);dsimp only;refine Aa (jlk ?_);rw[hb];simp only[↓reduceIte];refine Aa (wpAny_askSetting (Ah (Ah h)))
theorem jtv {x:Int×Af} {Q:Option Af->Aj->Prop} (hb:byTx w=true) (hit:SetIt s.heap I (.int 0 0) i a n ep) (hs:SetTb w s.heap a es ep t) (hn:es.size=n) (hx:(jgn w a ep es)[i]?=some x)
  (hQ:∀h',SetIt h' I (.int 0 0) (i+1) a n ep->Dc I s.heap h'->Q (some x.2) {s with heap:=h'}):Az (Bb prog w) A (Eg (.ref I)) Q E s:=by
 obtain⟨o,ho,hc,hd⟩:=id hit;obtain⟨oa,hoa,_,hda⟩:=hs.obj;unfold Eg;refine Aa (Ef (Bs (name:=Cm "__next__") hit.typeIs slot_setit_next (B1 slot_setit_next hit.typeIs jbc ?_ (jbe _))));refine Aa (Ah ?_);refine Aa (Fq ho hd ?_);dsimp only;refine Aa (Dy hoa hda hs.fits ?_);rw[if_neg (by rw[hn];simp)];refine Aa (jm6 hb hs ?_);simp only[Bv,hx,Option.map_some];refine Aa (Dh ho hd (by simp) ?_);have ho2:=Bx (Obj.mapFields (·.setIfInBounds 0 (Cy ((0:Int).toNat:Nat)))) ho (Di (B8 hd _));have hd2:=B8 hd (·.setIfInBounds 0 (Cy ((0:Int).toNat:Nat)));refine Aa (Dh ho2 hd2 (by simp) (Ah ⟨x.2,rfl,Ah (hQ _ ?_ ((Bg ..).trans (Bg ..)))⟩));exact⟨_,Bx _ ho2 (Di (B8 hd2 _)),(Es ..).trans ((Es ..).trans hc),by
  rw[B8 hd2];simp[Cy]⟩
theorem jtz {Q:Option Af->Aj->Prop} (hh:A.handled=none) (hb:byTx w=true) (hit:SetIt s.heap I (.int 0 0) i a n ep) (hs:SetTb w s.heap a es ep t) (hn:es.size=n) (hx:(jgn w a ep es)[i]?=none)
  (hQ:∀h',Heap.ExtBut I s.heap h'->Q none {s with heap:=h'}):Az (Bb prog w) A (Eg (.ref I)) Q E s:=by
 obtain⟨o,ho,hc,hd⟩:=id hit;obtain⟨oa,hoa,_,hda⟩:=hs.obj;unfold Eg;refine Aa (Ef (Bs (name:=Cm "__next__") hit.typeIs slot_setit_next (B1 slot_setit_next hit.typeIs jbc ?_ (jbe _))));refine Aa (Ah ?_);refine Aa (Fq ho hd ?_);dsimp only;refine Aa (Dy hoa hda hs.fits ?_);rw[if_neg (by rw[hn];simp)];refine Aa (jm6 hb hs ?_);simp only[Bv,hx,Option.map_none];refine Aa (Dh ho hd (by simp) ?_);refine Aa ?_;simp only[newExc,newTuple];refine Aa (Bm ?_ (by size_fits));refine Aa (m:=Ej _ _) (wpAny_of_eq (a:=Bi) (by first | rfl | (simp only[Ej];rfl)) ?_);refine Bm ?_ (by size_fits);simp only[raiseNew];refine Aa (wpAny_handled ?_)
 first | rw[show A.in1.handled=none from hh] | rw[hh]
 refine Aa (Ah (wpAny_throw ?_));refine Aa (Fb (T:="StopIteration") (b:=true) ⟨_,As _ rfl,rfl⟩ isSubtype_stop ?_);exact Ah (hQ _ (((Bg ..).extBut.push _).push _))
theorem jm5 {Q:Option (Af×Nat)->Aj->Prop} {k:Nat} (hb:byTx w=false) (h1:es.size<=1) (hs:SetTb w s.heap a es ep t)
  (h:Q (match es[D9 t.place k]?,t.place[D9 t.place k]? with
   |some (_,x),some j=>some (x,j+1)
   |_,_=>none) s):Az (Bb prog w) A (setNext a k i ep) Q E s:=by
 obtain⟨oa,hoa,_,hda⟩:=hs.obj;have hl:t.led=true:=by rw[hs.led,hb];rfl
 unfold setNext;refine Aa (Ey hoa hda hs.fits ?_);dsimp only;refine Aa (jlk ?_);rw[hb];simp only[Bf,↓reduceIte];have hd:(!t.plain&&decide (es.size > 1))=false:=by
  have:decide (es.size > 1)=false:=decide_eq_false (by omega);rw[this,Fm]
 split
 ·rename_i z;have z':(!t.plain&&decide (es.size > 1))=true:=z;rw[hd]at z';cases z'
 ·refine Aa (wpAny_of_eq (a:=()) ?_ (Ah h));show(if (!t.led&&!es.isEmpty)=true then unsupported "set:maker-not-led" else pure ())=pure ();rw[hl];rfl
theorem jov {j:Nat}:D9 #[j] 0=0/\D9 #[j] (j+1)=1:=by
 constructor
 ·simp[D9,SetTable.below.go]
 ·simp[D9,SetTable.below.go]
theorem jtt {x:Int×Af} {Q:Option Af->Aj->Prop} (hb:byTx w=false) (hp:t.place=#[j]) (he:es=#[x]) (hit:SetIt s.heap I (.int 0 0) 0 a 1 ep) (hs:SetTb w s.heap a es ep t)
  (hQ:∀h',SetIt h' I (.int ((j+1:Nat):Int) 0) 1 a 1 ep->Dc I s.heap h'->Q (some x.2) {s with heap:=h'}):Az (Bb prog w) A (Eg (.ref I)) Q E s:=by
 have hn:es.size=1:=by rw[he];rfl
 obtain⟨o,ho,hc,hd⟩:=id hit;obtain⟨oa,hoa,_,hda⟩:=hs.obj;unfold Eg;refine Aa (Ef (Bs (name:=Cm "__next__") hit.typeIs slot_setit_next (B1 slot_setit_next hit.typeIs jbc ?_ (jbe _))));refine Aa (Ah ?_);refine Aa (Fq ho hd ?_);dsimp only;refine Aa (Dy hoa hda hs.fits ?_);rw[if_neg (by rw[hn];simp)];refine Aa (jm5 hb (by omega) hs ?_);have b1:D9 t.place (0:Int).toNat=0:=by rw[hp];exact jov.1
 rw[b1,hp,he];show Az _ _ (setField (.ref I) 0 (Cy ((j+1:Nat):Int))>>=_) _ _ _;refine Aa (Dh ho hd (by simp) ?_);have ho2:=Bx (Obj.mapFields (·.setIfInBounds 0 (Cy ((j+1:Nat):Int)))) ho (Di (B8 hd _));have hd2:=B8 hd (·.setIfInBounds 0 (Cy ((j+1:Nat):Int)));refine Aa (Dh ho2 hd2 (by simp) (Ah ⟨x.2,rfl,Ah (hQ _ ?_ ((Bg ..).trans (Bg ..)))⟩));exact⟨_,Bx _ ho2 (Di (B8 hd2 _)),(Es ..).trans ((Es ..).trans hc),by
  rw[B8 hd2];simp[Cy]⟩
theorem jm7 {k:Nat} {Q:Option Af->Aj->Prop} (hh:A.handled=none) (hb:byTx w=false) (h1:es.size<=1) (hk:es[D9 t.place k]?=none) (hit:SetIt s.heap I (.int (k:Int) 0) i a n ep) (hs:SetTb w s.heap a es ep t) (hn:es.size=n)
  (hQ:∀h',Heap.ExtBut I s.heap h'->Q none {s with heap:=h'}):Az (Bb prog w) A (Eg (.ref I)) Q E s:=by
 obtain⟨o,ho,hc,hd⟩:=id hit;obtain⟨oa,hoa,_,hda⟩:=hs.obj;unfold Eg;refine Aa (Ef (Bs (name:=Cm "__next__") hit.typeIs slot_setit_next (B1 slot_setit_next hit.typeIs jbc ?_ (jbe _))));refine Aa (Ah ?_);refine Aa (Fq ho hd ?_);dsimp only;refine Aa (Dy hoa hda hs.fits ?_);rw[if_neg (by rw[hn];simp)];refine Aa (jm5 hb h1 hs ?_);rw[Bv,hk];dsimp only;refine Aa (Dh ho hd (by simp) ?_);refine Aa ?_;simp only[newExc,newTuple];refine Aa (Bm ?_ (by size_fits));refine Aa (m:=Ej _ _) (wpAny_of_eq (a:=Bi) (by first | rfl | (simp only[Ej];rfl)) ?_);refine Bm ?_ (by size_fits);simp only[raiseNew];refine Aa (wpAny_handled ?_)
 first | rw[show A.in1.handled=none from hh] | rw[hh]
 refine Aa (Ah (wpAny_throw ?_));refine Aa (Fb (T:="StopIteration") (b:=true) ⟨_,As _ rfl,rfl⟩ isSubtype_stop ?_);exact Ah (hQ _ (((Bg ..).extBut.push _).push _))
end
section
variable {prog:Br} {w:B4} {A:B9} {E:Af->Aj->Prop} {s:Aj} {a:Addr} {ep:Nat} {es:Array (Int×Af)} {t:El}
def jow (vs:List (Int×Af)) (i:Nat) (v:Af):Prop:=∃e,vs[i]?=some e/\v=e.2
structure SetWk (prog:Br) (w:B4) (sz:Nat) (h':Heap) (a I:Addr) (vs:List (Int×Af)):Prop where
 above:sz<=I
 walk:∃(fp:List Addr) (St:Nat->Heap->Prop),(∀b∈fp,b=a\/sz<=b)/\(∀b∈fp,b < h'.objs.size)/\(∀A:B9,A.handled=none->Walks prog w A I fp [I] vs.length (jow vs) St)/\St 0 h'
theorem j1u {α:Type} {xs:Array α} {j:Nat} {d:α} (h:j < xs.size):xs[j]?=some (xs.getD j d):=by
 simp[h]
theorem jss {ys:List Nat} {n:Nat} (hp:ys.Perm (Bu n)) (hn:es.size=n):(ys.map λj=>es.getD j (0,Bi)).Perm es.toList:=by
 have h1:=hp.map λj=>es.getD j ((0:Int),Bi);have h2:(Bu n).map (λj=>es.getD j ((0:Int),Bi))=es.toList:=by
  apply List.ext_getElem (by simp[hn]);intro i h1 h2;simp at h2;simp[h2]
 rw[h2]at h1;exact h1
theorem jzy {I T:Addr} {ys:List Nat} {n:Nat} (hne:a≠I) (hTI:T≠I) (hp:ys.Perm (Bu n)) (hn:es.size=n) (A:B9) (hh:A.handled=none) :
  Walks prog w A I [I,a,T] [I] (ys.map λj=>es.getD j (0,Bi)).length (jow (ys.map λj=>es.getD j (0,Bi)))
   (λi h=>SetIt h I (.ref T) i a n ep/\SetTb w h a es ep t/\h.IsTuple T (ys.map λ(j:Nat)=>Value.int (j:Int) 0).toArray) where
 sub:=λb hb=>by simp at hb;simp[hb]
 frame:=λ_ _ _ st hk=>⟨st.1.move λo e=>hk I (by simp) o e,st.2.1.move λo e=>hk a (by simp) o e,let⟨o,e,r⟩:=st.2.2;⟨o,hk T (by simp) o e,r⟩⟩
 item:=λi s Q E hi st hQ=>by
  rw[Ai]at hi;have hj:ys[i] < es.size:=by rw[hn];exact C3.mp (hp.mem_iff.mp (Ez hi))
  refine jtu (j:=ys[i]) st.1 st.2.1 hn st.2.2 (by simp[hi]) (j1u (d:=(0,Bi)) hj) λh' hit' hs'=>?_;refine hQ _ h' s.toks ⟨_,by rw[Ba,Am hi];rfl,rfl⟩ ⟨hit',st.2.1.move λo e=>(hs'.2 a hne).trans e,let⟨o,e,r⟩:=st.2.2;⟨o,(hs'.2 T hTI).trans e,r⟩⟩ λb o hb e=>hs'.extBut b o (λh=>hb (by simp[h])) e
 done:=λs Q E st hQ=>jty hh st.1 st.2.1 hn st.2.2 (by simp) λh' he'=>hQ h' s.toks λb o hb e=>he' b o (λh=>hb (by simp[h])) e
 self:=λ_ _ _ _ st hQ=>jb7 st.1 hQ
theorem jzz {I:Addr} {n:Nat} (hb:byTx w=true) (hne:a≠I) (hn:es.size=n) (A:B9) (hh:A.handled=none) :
  Walks prog w A I [I,a] [I] (jgn w a ep es).toList.length (jow (jgn w a ep es).toList) (λi h=>SetIt h I (.int 0 0) i a n ep/\SetTb w h a es ep t) where
 sub:=λb hb=>by simp at hb;simp[hb]
 frame:=λ_ _ _ st hk=>⟨st.1.move λo e=>hk I (by simp) o e,st.2.move λo e=>hk a (by simp) o e⟩
 item:=λi s Q E hi st hQ=>by
  rw[Cq]at hi;have hx:(jgn w a ep es)[i]?=some (jgn w a ep es)[i]:=Dg hi;refine jtv hb st.1 st.2 hn hx λh' hit' hs'=>?_;exact hQ _ h' s.toks ⟨_,by rw[Array.getElem?_toList];exact hx,rfl⟩ ⟨hit',st.2.move λo e=>(hs'.2 a hne).trans e⟩ λb o hb e=>hs'.extBut b o (λh=>hb (by simp[h])) e
 done:=λs Q E st hQ=>jtz hh hb st.1 st.2 hn (by simp) λh' he'=>hQ h' s.toks λb o hb e=>he' b o (λh=>hb (by simp[h])) e
 self:=λ_ _ _ _ st hQ=>jb7 st.1 hQ
theorem jz1 {I:Addr} (hb:byTx w=false) (hn:es.size=0) (A:B9) (hh:A.handled=none) :
  Walks prog w A I [I,a] [I] ([]:List (Int×Af)).length (jow []) (λ_ h=>SetIt h I (.int ((0:Nat):Int) 0) 0 a 0 ep/\SetTb w h a es ep t) where
 sub:=λb hb=>by simp at hb;simp[hb]
 frame:=λ_ _ _ st hk=>⟨st.1.move λo e=>hk I (by simp) o e,st.2.move λo e=>hk a (by simp) o e⟩
 item:=λi s Q E hi st hQ=>by simp at hi
 done:=λs Q E st hQ=>jm7 (k:=0) hh hb (by omega) (by rw[Array.getElem?_eq_none];omega) st.1 st.2 hn λh' he'=>hQ h' s.toks λb o hb e=>he' b o (λh=>hb (by simp[h])) e
 self:=λ_ _ _ _ st hQ=>jb7 st.1 hQ
theorem jz0 {I:Addr} {x:Int×Af} {j:Nat} (hb:byTx w=false) (hne:a≠I) (he:es=#[x]) (hp:t.place=#[j]) (A:B9) (hh:A.handled=none) :
  Walks prog w A I [I,a] [I] [x].length (jow [x]) (λi h=>((i=0/\SetIt h I (.int 0 0) 0 a 1 ep)\/(i=1/\SetIt h I (.int ((j+1:Nat):Int) 0) 1 a 1 ep))/\SetTb w h a es ep t) where
 sub:=λb hb=>by simp at hb;simp[hb]
 frame:=λ_ _ _ st hk=>⟨st.1.imp (λz=>⟨z.1,z.2.move λo e=>hk I (by simp) o e⟩) (λz=>⟨z.1,z.2.move λo e=>hk I (by simp) o e⟩),st.2.move λo e=>hk a (by simp) o e⟩
 item:=λi s Q E hi st hQ=>by
  have hi0:i=0:=by simpa using hi
  subst hi0;rcases st.1 with⟨_,z⟩ | ⟨z,_⟩
  ·refine jtt hb hp he z st.2 λh' hit' hs'=>?_;exact hQ _ h' s.toks ⟨x,rfl,rfl⟩ ⟨.inr ⟨rfl,hit'⟩,st.2.move λo e=>(hs'.2 a hne).trans e⟩ λb o hb e=>hs'.extBut b o (λh=>hb (by simp[h])) e
  ·cases z
 done:=λs Q E st hQ=>by
  rcases st.1 with⟨z,_⟩ | ⟨_,z⟩
  ·cases z
  ·refine jm7 (k:=j+1) hh hb (by rw[he];exact Ar 1) ?_ z st.2 (by rw[he];rfl) λh' he'=>hQ h' s.toks λb o hb e=>he' b o (λh=>hb (by simp[h])) e;rw[hp,jov.2,he];rfl
 self:=λi s Q E st hQ=>by
  rcases st.1 with⟨_,z⟩ | ⟨_,z⟩
  ·exact jb7 z hQ
  ·exact jb7 z hQ
theorem jz9 {Q:Af->Aj->Prop} (hs:SetTb w s.heap a es ep t) (h64:es.size < 64)
  (h:∀(h':Heap) (dr:Drawn) (I:Addr) (vs:List (Int×Af)),vs.Perm es.toList->(∀b o,s.heap.get? b=some o->h'.get? b=some o)->SetWk prog w s.heap.objs.size h' a I vs->Q (.ref I) {s with heap:=h',drawn:=dr}) :
  Az (Bb prog w) A (pyIter (.ref a)) Q E s:=by
 obtain⟨oa,hoa,hex,hda⟩:=hs.obj;have hlt:=hs.lt;refine wpAny_pyIter_slot hs.typeIs F.slot_set_iter (B1 F.slot_set_iter hs.typeIs jik ?_ (F.args_set_iter_1 _));refine Aa (Ah ?_);refine Aa (Aa (Dy hoa hda hs.fits (Ah ?_)));refine Aa ?_;unfold setDrawn;refine Aa (Ey hoa hda hs.fits ?_);dsimp only;refine Aa (jlk ?_);refine Ah ?_
 split
 ·rename_i hd;refine Aa (jtx es.size (Bu es.size) s (by simp) λys dr hp=>?_);have hly:ys.length=es.size:=by rw[hp.length_eq,List.length_range]
  refine Aa (wpAny_newTuple ?_ (by rw[Ai,hly,E6];omega));have hoa1:=Ae ({cls:=.type "tuple",data:=.seq (ys.map λ(i:Nat)=>Cy i).toArray}:Obj) hoa;refine Aa (wpAny_setEpoch_of hoa1 hda hs.fits ?_);refine Aa (Bm (Ah ⟨_,rfl,"set_iterator",_,⟨_,As _ rfl,rfl⟩,slot_setit_next.lookup,?_⟩));have hT:(s.heap.push ({cls:=.type "tuple",data:=.seq (ys.map λ(i:Nat)=>Cy i).toArray}:Obj)).get? s.heap.objs.size=some {cls:=.type "tuple",data:=.seq (ys.map λ(i:Nat)=>Cy i).toArray}:=As _ rfl;refine h _ dr _ (ys.map λj=>es.getD j (0,Bi)) (jss hp rfl) (λb o e=>Ae _ (Ae _ e)) ⟨by rw[Cf];exact Nat.le_succ _,[_,a,s.heap.objs.size],_,λb hb=>?_,λb hb=>?_,λA hh=>jzy (t:=t) (ep:=ep) (T:=s.heap.objs.size) (by rw[Cf];exact Bd (D7 hlt)) (by rw[Cf];exact Bd (Ft _)) hp rfl A hh,⟨⟨_,As _ rfl,rfl,rfl⟩,hs.move λo e=>Ae _ (Ae _ e),⟨_,Ae _ hT,rfl,_,rfl⟩⟩⟩
  ·simp only[An,Aw,or_false]at hb;rcases hb with rfl | rfl | rfl
   ·rw[Cf];exact .inr (Nat.le_succ _)
   ·exact .inl rfl
   ·exact .inr (Ar _)
  ·simp only[An,Aw,or_false]at hb;rw[Cf,Cf];rcases hb with rfl | rfl | rfl
   ·rw[Cf];exact Ft _
   ·exact D7 (D7 hlt)
   ·exact D7 (Ft _)
 ·rename_i hd;refine Aa (Ah ?_);refine Aa (wpAny_setEpoch_of hoa hda hs.fits ?_);refine Aa (Bm (Ah ⟨_,rfl,"set_iterator",_,⟨_,As _ rfl,rfl⟩,slot_setit_next.lookup,?_⟩));have hit:SetIt (s.heap.push {cls:=.type "set_iterator",data:=.fields #[Cy 0,Cy 0,.ref a,Cy es.size,Cy ep]}) s.heap.objs.size (.int 0 0) 0 a es.size ep:=⟨_,As _ rfl,rfl,rfl⟩;have hst:SetTb w (s.heap.push {cls:=.type "set_iterator",data:=.fields #[Cy 0,Cy 0,.ref a,Cy es.size,Cy ep]}) a es ep t:=hs.move λo e=>Ae _ e;have kp:∀b o,s.heap.get? b=some o->(s.heap.push {cls:=.type "set_iterator",data:=.fields #[Cy 0,Cy 0,.ref a,Cy es.size,Cy ep]}).get? b=some o:=λb o e=>Ae _ e;have f1:∀b∈[s.heap.objs.size,a],b=a\/s.heap.objs.size<=b:=λb hb=>by
   simp only[An,Aw,or_false]at hb;rcases hb with rfl | rfl
   ·exact .inr (Ar _)
   ·exact .inl rfl
  have f2:∀b∈[s.heap.objs.size,a],b < (s.heap.push {cls:=.type "set_iterator",data:=.fields #[Cy 0,Cy 0,.ref a,Cy es.size,Cy ep]}).objs.size:=λb hb=>by
   simp only[An,Aw,or_false]at hb;rw[Cf];rcases hb with rfl | rfl
   ·exact Ft _
   ·exact D7 hlt
  have hne:a≠s.heap.objs.size:=Bd hlt;cases hb:byTx w with
  |true=>exact h _ s.drawn _ (jgn w a ep es).toList (jr6 _ _) kp ⟨Ar _,[s.heap.objs.size,a],_,f1,f2,λA hh=>jzz (t:=t) hb hne rfl A hh,⟨hit,hst⟩⟩
  |false =>
   have hd0:¬((!byTx w&&(!t.plain&&decide (es.size > 1)))=true):=hd;have hd':(!byTx w&&(!t.plain&&decide (es.size > 1)))=false:=by simpa using hd0
   have h1:es.size<=1:=by
    rw[hb]at hd';by_cases hz:es.size<=1
    ·exact hz
    ·have hg:decide (es.size > 1)=true:=decide_eq_true (by omega);rw[hg]at hd';have hpl:t.plain=true:=by simpa using hd'
     have:=hs.plain hpl;omega
   by_cases h0:es.size=0
   ·have e0:es.toList=[]:=Cp (by simpa using h0);refine h _ s.drawn _ [] (by rw[e0]) kp ⟨Ar _,[s.heap.objs.size,a],_,f1,f2,λA hh=>jz1 (t:=t) (ep:=ep) hb h0 A hh,⟨?_,hst⟩⟩;rw[h0]at hit ⊢;exact hit
   ·have h1':es.size=1:=by omega
    obtain⟨x,hx⟩:∃x,es=#[x]:=by
     have:es.toList.length=1:=by simpa using h1'
     obtain⟨x,hx⟩:=List.length_eq_one_iff.mp this;exact⟨x,Array.toList_inj.mp hx⟩
    have hps:t.place.size=1:=by
     have:=hs.fits;simp only[SetTable.fits,Ap,beq_iff_eq]at this;rw[this.1,h1']
    obtain⟨j,hj⟩:∃j,t.place=#[j]:=by
     have:t.place.toList.length=1:=by simpa using hps
     obtain⟨x,hx⟩:=List.length_eq_one_iff.mp this;exact⟨x,Array.toList_inj.mp hx⟩
    refine h _ s.drawn _ [x] (by rw[hx]) kp ⟨Ar _,[s.heap.objs.size,a],_,f1,f2,λA hh=>jz0 (t:=t) (ep:=ep) hb hne hx hj A hh,⟨.inl ⟨rfl,?_⟩,hst⟩⟩;rw[h1']at hit ⊢;exact hit
end
theorem jma:entryFor table "proto.collect"=some Dp.«proto.collect»:=entryFor_of_tree (by kernel_rfl)
theorem jsr:entryFor table "list.__iadd__"=some Dp.«list.__iadd__»:=entryFor_of_tree (by kernel_rfl)
section
variable {prog:Br} {w:B4} {A:B9} {E:Af->Aj->Prop} {s:Aj} {a:Addr} {ep:Nat} {es:Array (Int×Af)} {t:El}
theorem j0a {Q:Bool->Aj->Prop} (hT:s.TypeIs (.ref a) "set") (h:Q false s):Az (Bb prog w) A (Builtin.List.listLengthHint (.ref a)) Q E s:=by
 unfold Builtin.List.listLengthHint;refine Aa (wpAny_specialOf hT F.slot_set_len.lookup ?_);generalize hid:("set.__len__":String)=id0
 wp_delta
 rw[show splitId id0=some ("set","__len__")from by subst hid;decide +kernel];subst hid;refine Aa (Fb (T:="set") (b:=true) hT (by rw[E7];kernel_rfl) ?_);refine wpAny_ite_split (λhab=>absurd hab (by decide)) (λ_=>?_);refine wpAny_ite_split (λ_=>?_) (λhab=>absurd (by decide +kernel) hab);refine Aa (Fp hT ?_);exact Ah h
theorem jtw {R:Result->Aj->Prop} (hh:A.handled=none) (hs:SetTb w s.heap a es ep t) (h64:es.size < 64) (S:Addr) (hSa:S≠a) (res:Af) (hS:s.heap.get? S=some {cls:=.type "list",data:=.seq #[]})
  (hR:∀h' tk dr (vs:List (Int×Af)) acc c,vs.Perm es.toList->(∀b o,b≠S->s.heap.get? b=some o->h'.get? b=some o)->h'.get? S=some {cls:=.type "list",dict:=none,data:=.seq acc c,slots:=#[]}->ItemsOf (jow vs) acc vs.length->R (.ok (.ret res)) {s with heap:=h',toks:=tk,drawn:=dr}) :
  Az (Bb prog w) A.in1 (Dl (.ref S) (.ref a) res)
   (λfin s'=>match fin with | .done f=>R (.ok f) s' | .again c'=>c'.quiet=true/\Fs (Bb prog w) A c' R s') (λe s'=>R (.error e) s') s:=by
 unfold Dl;refine Aa (Fp (T:="set") hs.typeIs ?_);have h1:Fx (.ref S) (.ref a)=false:=by simp[Fx,hSa]
 have h2:(Dm "set"==Dm "list")=false:=by decide
 have h3:(Dm "set"==Dm "tuple")=false:=by decide
 simp only[h1,h2,h3,Bool.or_false,Bf,if_false];refine Aa (jz9 (A:=A.in1) hs h64 λh' dr I vs hp hk hw=>?_);obtain⟨hI,fp,St,hf1,hf2,W,st⟩:=hw;have hSlt:S < s.heap.objs.size:=Ao hS;have hSf:S∉fp:=λhm=>(hf1 S hm).elim hSa λz=>Er _ (Bq hSlt z);have hS1:=hk S _ hS;have hlen:vs.length=es.size:=by rw[hp.length_eq,Cq]
 have key:∀(h:Heap) (c₁ tk:Nat),St 0 h->(∀b o,b≠S->s.heap.get? b=some o->h.get? b=some o) ->
   h.get? S=some {cls:=.type "list",data:=.seq #[] c₁}->Fs (Bb prog w) A (.builtin "list.extend.loop" ⟨[.ref S,.ref I,res],[]⟩) R {s with heap:=h,toks:=tk,drawn:=dr}:=by
  intro h c₁ tk hst hk2 hS₁;refine codeAny_extend_loopS (W A.in1 hh).toS (by rw[hlen,E6];omega) S hSf res vs.length 0 _ #[] c₁ rfl (Bj _) hst hS₁ (ItemsOf.nil _) λs' acc' c' hm hS' hacc=>?_;rw[Moved.eq_with hm];refine hR s'.heap s'.toks dr vs acc' c' hp (λb o hb e=>hm.heap b o (λhmem=>?_) (hk2 b o hb e)) hS' hacc;rcases An.mp hmem with e' | hmem
  ·exact hb e'
  ·have hbI:=A2.mp hmem;exact absurd (Ao e) (by rw[hbI];exact Nat.not_lt.mpr hI)
 refine Aa (C6 (j0a (s:={ s with heap:=h',drawn:=dr}) (hs.move λo e=>hk a o e).typeIs ?_));refine wpAny_ite_split (λ_=>?_) (λ_=>Ah ⟨plainId_quiet PySem.F.plain_extend_loop _,key _ 0 _ st (λb o _ e=>hk b o e) hS1⟩);refine Aa (Fy ?_);refine Aa ?_;show Az _ _ (updateSeq S (·.push .none)>>=λ_=>updateSeq S (·.pop)) _ _ _;refine Aa (wpAny_updateSeq hS1 rfl ?_);have hS₂:=Bx (Cs (·.push Bi)) hS1 rfl;refine wpAny_updateSeq (hz:=by seq_fits) hS₂ rfl ?_;have hS₃:=Bx (Cs (·.pop)) hS₂ rfl;refine Ah ⟨plainId_quiet PySem.F.plain_extend_loop _,key _ _ _ ?_ (λb o hb e=>?_) hS₃⟩
 ·refine(W A hh).frame 0 _ _ st λb hb o e=>?_;have hbS:b≠S:=λh=>hSf (h▸hb);exact(Dv _ _ (Ne.symm hbS)).trans ((Dv _ _ (Ne.symm hbS)).trans e)
 ·exact(Dv _ _ (Ne.symm hb)).trans ((Dv _ _ (Ne.symm hb)).trans (hk b o e))
theorem jre {vs:List (Int×Af)} {acc:Array Af} (h:ItemsOf (jow vs) acc vs.length):acc.toList=vs.map (·.2):=by
 apply List.ext_getElem?;intro i;by_cases hi:i < vs.length
 ·have hi2:i < acc.size:=by rw[h.1];exact hi
  obtain⟨e,e1,e2⟩:=h.2 i acc[i] (Dg hi2);rw[Ba,e1,Array.getElem?_toList,Dg hi2,e2];rfl
 ·rw[Fo (by rw[Cq,h.1];omega),Fo (by rw[Ai];omega)]
theorem jr7 {R:List Af->Aj->Prop} (hh:A.handled=none) (hs:SetTb w s.heap a es ep t) (h64:es.size < 64)
  (h:∀(h':Heap) (tk:Nat) (dr:Drawn) (vs:List (Int×Af)),vs.Perm es.toList->(∀b o,s.heap.get? b=some o->h'.get? b=some o)->R (vs.map (·.2)) {s with heap:=h',toks:=tk,drawn:=dr}) :
  Az (Bb prog w) A (collect (.ref a)) R E s:=by
 unfold collect;refine Aa (wpAny_runValue (Fj jma ?_));rw[Et PySem.F.plain_proto_collect _];show Az _ A.in1 (newList []>>=λl=>again (.builtin "list.__iadd__" ⟨[l,.ref a],[]⟩)) _ _ s;refine Aa (Bm ?_);refine Ah ⟨plainId_quiet PySem.F.plain_list_iadd _,Fj jsr ?_⟩;rw[Et PySem.F.plain_list_iadd _];have hS₁:(s.heap.push {cls:=.type "list",data:=.seq ([]:List Af).toArray}).get? s.heap.objs.size=some {cls:=.type "list",data:=.seq #[]}:=As _ rfl;show Az _ A.in1 (Dl (.ref s.heap.objs.size) (.ref a) (.ref s.heap.objs.size)) _ _ _;have key:=jtw (prog:=prog) (A:=A) (s:={ s with heap:=s.heap.push {cls:=.type "list",data:=.seq ([]:List Af).toArray}})
  (R:=λ(q:Result) (s':Aj)=>∃(h':Heap) (tk:Nat) (dr:Drawn) (vs:List (Int×Af)) (acc':Array Af) (c':Nat),q=.ok (.ret (.ref s.heap.objs.size))/\s'={ s with heap:=h',toks:=tk,drawn:=dr}/\vs.Perm es.toList /\
   (∀b o,s.heap.get? b=some o->h'.get? b=some o)/\h'.get? s.heap.objs.size=some {cls:=.type "list",dict:=none,data:=.seq acc' c',slots:=#[]}/\ItemsOf (jow vs) acc' vs.length)
  hh (hs.move λo e=>Ae _ e) h64 s.heap.objs.size (E4 hs.lt) (.ref s.heap.objs.size) hS₁
  (λh' tk dr vs acc' c' hp hk hS' hacc=>⟨h',tk,dr,vs,acc',c',rfl,rfl,hp,λb o e=>hk b o (Bd (Ao e)) (Ae _ e),hS',hacc⟩)
 refine Dw key (λfin s' x=>?_) λe s' x=>?_
 ·cases fin with
  |done f =>
   obtain⟨h',tk,dr,vs,acc',c',e,rfl,hp,hk,hS',hacc⟩:=x;cases e;show Az _ A (load s.heap.objs.size>>=_) _ _ _;refine Aa (wpAny_load hS' ?_);refine Ah ?_;rw[jre hacc];exact h h' tk dr vs hp hk
  |again c₁ =>
   refine⟨x.1,codeAny_mono x.2 λq s₂ y=>?_⟩;obtain⟨h',tk,dr,vs,acc',c',rfl,rfl,hp,hk,hS',hacc⟩:=y;show Az _ A (load s.heap.objs.size>>=_) _ _ _;refine Aa (wpAny_load hS' ?_);refine Ah ?_;rw[jre hacc];exact h h' tk dr vs hp hk
 ·obtain⟨_,_,_,_,_,_,z,_⟩:=x;cases z
end
def set0 (w:B4):Obj:={ cls:=.type "set",dict:=none,data:=.set #[] 0 (.fresh 0 0 (!byTx w))}
section
variable {prog:Br} {w:B4} {A:B9} {E:Af->Aj->Prop} {s:Aj}
theorem j0p {h:Heap} {a:Addr} (e:h.get? a=some (set0 w)):ji8 w h a [] :=
 ⟨#[],0,.fresh 0 0 (!byTx w),⟨⟨_,e,⟨rfl,rfl,rfl⟩,rfl⟩,rfl,rfl,λ_=>rfl⟩,λe he=>by simp at he,List.Pairwise.nil,λk=>by simp[ksOf],Ar _⟩
theorem j2u (a:Af) {Q₁:Af->Aj->Prop} (h:Q₁ (.ref s.heap.objs.size) {s with heap:=s.heap.push (set0 w)}) :
  Fs (Bb prog w) A (.call (.builtin "set.__new__") ⟨[.type "set",a],[]⟩) (wants Q₁ E) s:=by
 refine codeAny_of_tree ?_;show Az _ A.in1 (do checkBuiltinCall "set.__new__" ⟨[.type "set",a],[]⟩;again (.builtin "set.__new__" ⟨[.type "set",a],[]⟩)) _ _ s;refine Aa (wpAny_of_eq (F.newCall_set_1 a) (Ah ⟨plainId_quiet F.plain_set_new _,Fj F.entry_set_new ?_⟩));rw[Et F.plain_set_new _];unfold Dp.«set.__new__» Builtin.Frozenset.newClass;have hsub:=sub_set_self;obtain⟨hp,g,d,tk,os⟩:=s;dsimp only
 wp_walk
 refine wpAny_askSetting (Ah ?_);dsimp only;simp only[newObj];exact Aa (wpAny_alloc (Ah (Ah h)))
structure TxSrc (prog:Br) (w:B4) (T:String) (x:Addr) (ks:List Str) (OK:Heap->Prop):Prop where
 type:∀s:Aj,OK s.heap->s.TypeIs (.ref x) T
 there:∀h:Heap,OK h->x < h.objs.size
 keep:∀h h':Heap,OK h->(∀o,h.get? x=some o->h'.get? x=some o)->OK h'
 notSet:isSubtype (.type T) (.type "set")=pure false
 notFrozen:isSubtype (.type T) (.type "frozenset")=pure false
 notDict:(Dm T==Dm "dict")=false
 iter:∀s:Aj,OK s.heap->∃(oI:Obj) (St:Nat->Heap->Prop),
  (∀(A:B9) (E:Af->Aj->Prop) (Q:Af->Aj->Prop),Q (.ref s.heap.objs.size) {s with heap:=s.heap.push oI}->Az (Bb prog w) A (pyIter (.ref x)) Q E s) /\
  (∀A:B9,A.handled=none->Walks prog w A s.heap.objs.size [s.heap.objs.size,x] [s.heap.objs.size] ks.length (SeqV ks) St)/\St 0 (s.heap.push oI)
set_option maxHeartbeats 3200000 in
theorem joc {T:String} {x:Addr} {ks:List Str} {OK:Heap->Prop} {Q:Af->Aj->Prop} (K:TxSrc prog w T x ks OK) (hh:A.handled=none) (hok:OK s.heap) (h64:ks.length < 64)
  (h:∀(h':Heap) (tk:Nat),ji8 w h' s.heap.objs.size ks->(∀b o,b < s.heap.objs.size->s.heap.get? b=some o->h'.get? b=some o)->Q (.ref s.heap.objs.size) {s with heap:=h',toks:=tk}) :
  Az (Bb prog w) A (call (.type "set") [.ref x]) Q E s:=by
 obtain⟨c,tl,hmro⟩:=F.called_set.mro;have hmade:=F.called_set.made;have hsub:=F.called_set.sub;refine wpAny_call (codeAny_of_tree ?_);show Az _ _ (callAny (.type "set") _) _ _ _;refine Ah ⟨Code.quiet_builtin _ (by decide +kernel),Fj F.entry_type_call ?_⟩;rw[Around.under_plain (weight_type_call_type "set" [.ref x] []) rfl];have h1:=F.called_set.notType;have h2:=F.called_set.canCreate;have hct:=F.typeCall_set_1 (.ref x)
 repeat (any_goals (first | assumption | wp_step))
 refine codeAny_mono (j2u (.ref x) (E:=E) (Q₁:=λobj s₁=>obj=.ref s.heap.objs.size/\s₁={ s with heap:=s.heap.push (set0 w)}) ⟨rfl,rfl⟩) λr s₁ hr=>?_;cases r with
 |error e=>exact hr
 |ok fl =>
  cases fl with
  |ret obj =>
   obtain⟨rfl,rfl⟩:=hr;have hS:(s.heap.push (set0 w)).get? s.heap.objs.size=some (set0 w):=As _ rfl;have hT:Shared.TypeIs {s with heap:=s.heap.push (set0 w)} (.ref s.heap.objs.size) "set":=⟨_,hS,rfl⟩;have hli:=F.called_set.init.lookup;have hbi:=F.called_set.init.bind (.ref s.heap.objs.size)
   repeat (any_goals (first | assumption | wp_step))
   refine codeAny_mono (codeAny_call_builtin (R:=wants (λr s₂=>r=.none/\∃h' tk,s₂={ s with heap:=h',toks:=tk}/\ji8 w h' s.heap.objs.size ks /\
     (∀b o,b < s.heap.objs.size->s.heap.get? b=some o->h'.get? b=some o)) E) F.called_set.init.plain F.entry_set_init (check_set_init_1 hT ?_)) λr₂ s₂ hr₂=>?_
   ·have hok1:OK (s.heap.push (set0 w)):=K.keep _ _ hok λo e=>Ae _ e;have hTx:Shared.TypeIs {s with heap:=s.heap.push (set0 w)} (.ref x) T:=K.type {s with heap:=s.heap.push (set0 w)} hok1;have hsls:=K.notSet;have hslf:=K.notFrozen;have hne:=K.notDict;unfold Dp.«set.__init__» noKeywords Builtin.Frozenset.updateFrom;generalize hPI:pyIter=PI
    wp_walk
    subst hPI;have hh3:A.in1.in1.in1.handled=none:=by simp[hh]
    obtain⟨oI,St,hit,W,st⟩:=K.iter {s with heap:=s.heap.push (set0 w)} hok1;refine hit _ _ _ ?_;refine Aa (wpAny_runValue ?_);have hxS:x < s.heap.objs.size:=K.there _ hok;have hSf:s.heap.objs.size∉[(s.heap.push (set0 w)).objs.size,x]:=by
     rw[Cf];simp only[An,A2,Aw,or_false,not_or];exact⟨Bd (Ft _),E4 hxS⟩
    refine jz8 (W _ hh3).toS s.heap.objs.size hSf rfl h64 (ks.length - 0) 0 _ (by omega) (Bj _) st (j0p (Ae _ hS)) ?_;intro s' hm hS';obtain⟨h',g',d',tk',os'⟩:=s';have eg:g'=s.gens:=hm.gens;have ed:d'=s.drawn:=hm.drawn;have eo:os'=s.os:=hm.os;subst eg;subst ed;subst eo;show Az _ _ _ _ _ _;refine Ah ?_;show Az _ _ (ret Bi) _ _ _;refine Ah ⟨rfl,h',tk',rfl,hS',λb o hb e=>?_⟩;have hb1:b≠s.heap.objs.size:=Bd hb;have hb2:b≠(s.heap.push (set0 w)).objs.size:=by
     rw[Cf];exact Bd (D7 hb)
    exact hm.heap b o (by simp only[An,A2,Aw,or_false,not_or];exact⟨hb1,hb2⟩) (Ae _ (Ae _ e))
   ·cases r₂ with
    |error e=>exact hr₂
    |ok fl₂ =>
     cases fl₂ with
     |ret r =>
      obtain⟨rfl,h',tk,rfl,hS',hk'⟩:=hr₂
      repeat (any_goals (first | assumption | wp_step))
      exact h _ _ hS' hk'
     |_=>exact hr₂.elim
  |_=>exact hr.elim
theorem jw1 {x:Addr} {ks:List Str} {items:Array Af} (hk:∀i v,items[i]?=some v->SeqV ks i v) (hl:items.size=ks.length):TxSrc prog w "list" x ks (λh=>h.IsList x items) where
 type:=λs h=>h.typeIs
 there:=λh hl=>let⟨_,e,_⟩:=hl;Ao e
 keep:=λh h' hl k=>let⟨o,e,r⟩:=hl;⟨o,k o e,r⟩
 notSet:=by rw[E7];kernel_rfl
 notFrozen:=by rw[E7];kernel_rfl
 notDict:=by decide
 iter:=λs hok=>⟨_,(λi h=>h.IsListIter s.heap.objs.size x i/\h.IsList x items),(λA E Q hq=>wpAny_pyIter_list hok hq),(λA hh=>by
  have W:=Walks.list (prog:=prog) (w:=w) hh s.heap.objs.size x (Bd (let⟨_,e,_⟩:=hok;Ao e)) items;refine⟨W.sub,W.frame,λi s Q E hi st hQ=>W.item i s Q E (by rw[hl];exact hi) st λv h' tk hv a b=>hQ v h' tk (hk i v hv) a b,?_,W.self⟩;rw[<-hl];exact W.done),⟨⟨_,As _ rfl,rfl,rfl⟩,hok.push _⟩⟩
theorem jt2 {x:Addr} {ks:List Str} {items:Array Af} (hk:∀i v,items[i]?=some v->SeqV ks i v) (hl:items.size=ks.length):TxSrc prog w "tuple" x ks (λh=>h.IsTuple x items) where
 type:=λs h=>h.typeIs
 there:=λh hl=>let⟨_,e,_⟩:=hl;Ao e
 keep:=λh h' hl k=>let⟨o,e,r⟩:=hl;⟨o,k o e,r⟩
 notSet:=by rw[E7];kernel_rfl
 notFrozen:=by rw[E7];kernel_rfl
 notDict:=by decide
 iter:=λs hok=>⟨_,(λi h=>h.IsTupleIter s.heap.objs.size x i/\h.IsTuple x items),(λA E Q hq=>D4 hok hq),(λA hh=>by
  have W:=Walks.tuple (prog:=prog) (w:=w) hh s.heap.objs.size x (Bd (let⟨_,e,_⟩:=hok;Ao e)) items;refine⟨W.sub,W.frame,λi s Q E hi st hQ=>W.item i s Q E (by rw[hl];exact hi) st λv h' tk hv a b=>hQ v h' tk (hk i v hv) a b,?_,W.self⟩;rw[<-hl];exact W.done),⟨⟨_,As _ rfl,rfl,rfl⟩,hok.push _⟩⟩
end
def setO (w:B4) (v:Addr) (ks:List Str):HO:=.ext λh=>ji8 w h v ks
def jug (w:B4):List V->Hp->VK->Prop:=λxs H Q=>∃(a:Addr) (ks:List Str),xs=[.ref a]/\(H a=some (.lst (ks.map V.str))\/H a=some (.tup (ks.map V.str)))/\ks.length < 64/\∀v,H v=none->Q (.ref v) (upd H v (setO w v ks))
theorem jt9 {ks:List Str} {vs:List Af} (h:Vals (ks.map V.str) vs) (i:Nat) (v:Af) (e:vs.toArray[i]?=some v):SeqV ks i v:=by
 have e':vs[i]?=some v:=by simpa using e
 have hl:=h.length;rw[Ai]at hl;have hi:i < ks.length:=by rw[hl];exact(Bp.mp e').1
 obtain⟨u,hu,ru⟩:=h.get (show(ks.map V.str)[i]?=some (V.str ks[i]) by rw[Ba,Am hi];rfl);rw[e']at hu;cases hu;obtain⟨t,ht⟩:=ru;exact⟨ks[i],t,Am hi,ht⟩
theorem jt8 {ks:List Str} {vs:List Af} (h:Vals (ks.map V.str) vs):vs.toArray.size=ks.length:=by
 have hl:=h.length;rw[Ai]at hl;rw[Aq,<-hl]
theorem jsw {X:Cx} (hh:X.A.handled=none):CallR X (.type "set") (jug X.w):=by
 intro pins s σ H xs us Q I r h;obtain⟨a,ks,rfl,ha,h64,q⟩:=h;obtain⟨u,rfl,ru⟩:=jht r;cases(show u=Cb a from ru);have fin:∀(h':Heap) (tk:Nat),ji8 X.w h' s.heap.objs.size ks->(∀b o,b < s.heap.objs.size->s.heap.get? b=some o->h'.get? b=some o)->EP X pins σ Q (.ref s.heap.objs.size) {s with heap:=h',toks:=tk}:=λh' tk hS hk=>by
  have hob:∃o,h'.get? s.heap.objs.size=some o:=by
   obtain⟨es,ep,t,T,_⟩:=hS;obtain⟨o,e,_⟩:=T.obj;exact⟨o,e⟩
  refine⟨.ref s.heap.objs.size,_,I.laid (t':=tk) (o:=setO X.w s.heap.objs.size ks) (λb o e=>hk b o (Ao e) e) (Ar _) ⟨hS,hob,λh1 h2 q k=>?_⟩,rfl,q _ (I.hok.fresh (Ar _))⟩;obtain⟨es,ep,t,T,r⟩:=q;exact⟨es,ep,t,T.move λo e=>k _ e,r⟩
 rcases ha with ha | ha
 ·obtain⟨hl,vs,c,hv,hL⟩:=I.hok a _ ha;exact joc (jw1 (jt9 hv) (jt8 hv)) hh ⟨_,hL,rfl,_,rfl⟩ h64 fin
 ·obtain⟨hl,vs,hv,o,ho,hc,⟨n,hd⟩,_⟩:=I.hok a _ ha;exact joc (jt2 (jt9 hv) (jt8 hv)) hh ⟨o,ho,hc,n,hd⟩ h64 fin
theorem Inv.drew {X:Cx} {pins:List (Addr×Obj)} {σ:St} {H:Hp} {s:Aj} (I:Inv X pins σ H s) (dr:Drawn):Inv X pins σ H {s with drawn:=dr}:=⟨I.ok,I.os,I.bare,I.base,I.loc,I.cell,I.free,I.freeC,I.pin,I.hok,I.len⟩
theorem jr8 {X:Cx} {pins:List (Addr×Obj)} {σ:St} {H:Hp} {s:Aj} {h':Heap} {tk:Nat} {vs:List Af} {ks:List Str} {Q:VK} (I:Inv X pins σ H s) (hkp:∀b o,s.heap.get? b=some o->h'.get? b=some o) (hT:TxOk vs ks) (h64:ks.length < 64)
  (q:∀(D:Addr) (ys:List Str),ys.Perm ks->ys.Pairwise (λa b=>¬b.cps.toList < a.cps.toList)->H D=none->Q (.ref D) (upd H D (.lst (ys.map V.str)))) :
  vs.length<=Ax/\Az (Bb X.prog X.w) X.A.in1.in1 (Dp.«list.sort» ⟨[.ref h'.objs.size],[]⟩) (λf s2=>f=.done (.ret .none)/\EP X pins σ Q (.ref h'.objs.size) s2) X.xe {s with heap:=h'.push (C7 "list" vs.toArray 0),toks:=tk}:=by
 have hl:=hT.1;refine⟨by rw[hl];exact jee (by omega),?_⟩;have hoL:(h'.push (C7 "list" vs.toArray 0)).get? h'.objs.size=some (C7 "list" vs.toArray 0):=As _ rfl;have hs':∀b o,s.heap.get? b=some o->b≠h'.objs.size:=λb o e=>Bd (Ao (hkp b o e));have fin:∀(idx:List Nat) (h3:Heap) (c:Nat),idx.Perm (Bu ks.length)->(idx.map λi=>ks.getD i ⟨#[]⟩).Pairwise (λa b=>¬b.cps.toList < a.cps.toList) ->
   (∀b o,b≠h'.objs.size->(h'.push (C7 "list" vs.toArray 0)).get? b=some o->h3.get? b=some o)->h3.get? h'.objs.size=some (C7 "list" (Da (idx.map λi=>vs.getD i Bi)) c)->EP X pins σ Q (.ref h'.objs.size) {s with heap:=h3,toks:=tk}:=λidx h3 c hp hw k3 hL=>by
  have I1:Inv X pins σ H {s with heap:=h',toks:=tk}:=I.kept hkp;have hn:H h'.objs.size=none:=I1.hok.fresh (Ar _);refine⟨.ref h'.objs.size,_,I1.laid (t':=tk) (h':=h3) (o:=.lst ((idx.map λi=>ks.getD i ⟨#[]⟩).map V.str)) (λb o e=>k3 b o (Bd (Ao e)) (Ae _ e)) (Ar _) ⟨?_,_,c,jno hT idx (λi hi=>C3.mp (hp.mem_iff.mp hi)),hL⟩,rfl,q _ _ (juu hp) hw hn⟩;rw[Ai,Ai,hp.length_eq,List.length_range];exact jee (by omega)
 by_cases h2:2<=vs.length
 ·refine KS.ls_sort (s:={ s with heap:=h'.push (C7 "list" vs.toArray 0),toks:=tk}) hoL h2 (by omega) λe1 h4 ha4 k4=>?_;refine kas_kind (s:={ s with heap:=h4,toks:=tk}) (T:=Dm "str") h2 (λf hf=>?_) rfl rfl ?_
  ·obtain⟨j,hj⟩:=List.mem_iff_getElem?.mp hf;obtain⟨k,t,_,rfl⟩:=hT.2 j f hj;exact .now
  ·have hn:0 < vs.length:=by omega
   have hwi:=KS.wi_sort hn;refine KS.wp_run (n:=vs.length) (P:=KS.Pm vs.length) (c:=KS.ltK ks) (St:=λs'=>s'={ s with heap:=h4,toks:=tk}) (λi j C s' hi hj hs hC=>?_) _ _ hwi rfl λs' hs'=>?_
   ·subst hs;obtain⟨k1,t1,a1,a2⟩:=hT.2 i vs[i] (Am hi);obtain⟨k2,t2,b1,b2⟩:=hT.2 j vs[j] (Am hj);unfold kas_ask;have g1:vs.getD i Bi=.str k1 t1:=by simp[hi,a2]
    have g2:vs.getD j Bi=.str k2 t2:=by simp[hj,b2]
    rw[g1,g2];have c1:ks.getD i ⟨#[]⟩=k1:=by simp[a1]
    have c2:ks.getD j ⟨#[]⟩=k2:=by simp[b1]
    have:=hC _ rfl;unfold KS.ltK at this;rw[c1,c2]at this;exact kas_lt_str this
   ·subst hs';refine⟨ha4,λh3 c sb hL3=>⟨rfl,?_⟩⟩;have hpm:KS.Pm vs.length (KS.run (KS.ltK ks) (kas_sort vs.length)):=KS.Wi.out _ hwi;have hsp:=KS.sort_ok (KS.ordK ks) (n:=vs.length) hn;have hsz:=hpm.size;have hidx:(KS.run (KS.ltK ks) (kas_sort vs.length)).toList.Perm (Bu vs.length):=by
     have:=Array.perm_iff_toList_perm.mp hpm;simpa using this
    refine fin _ h3 c (by rw[<-hl];exact hidx) (j6r hsz hsp) (λb o hb e=>(sb.2 b hb).trans (k4 b o hb e)) hL3
 ·refine KS.ls_short (s:={ s with heap:=h'.push (C7 "list" vs.toArray 0),toks:=tk}) hoL (by omega) λh4 c ha4 k4=>⟨rfl,?_⟩;have el:vs=(Bu ks.length).map λi=>vs.getD i Bi:=by
   apply List.ext_getElem (by simp[hl]);intro i h1 h2;simp[h1]
  have ha5:h4.get? h'.objs.size=some (C7 "list" (Da ((Bu ks.length).map λi=>vs.getD i Bi)) c):=by rw[<-el];exact ha4
  refine fin (Bu ks.length) h4 c (List.Perm.refl _) ?_ k4 ha5;have:(Bu ks.length).length<=1:=by simp;omega
  match hr:Bu ks.length,this with
  |[],_=>exact .nil
  |[i],_=>exact F9 _ _
def jlo (w:B4):List V->Hp->VK->Prop:=λxs H Q=>∃(v:Addr) (ks:List Str),xs=[.ref v]/\H v=some (setO w v ks)/\ks.length < 64 /\
 ∀(D:Addr) (ys:List Str),ys.Nodup->(∀k,k∈ys↔k∈ks)->ys.Pairwise (λa b=>¬b.cps.toList < a.cps.toList)->H D=none->Q (.ref D) (upd H D (.lst (ys.map V.str)))
theorem jz2 {w:B4} {es vs:List (Int×Af)} (h:∀e∈es,∃k t,e.2=.str k t/\e.1=hashStr w k) (p:vs.Perm es):TxOk (vs.map (·.2)) (vs.map λe=>txOf e.2):=by
 refine⟨by rw[Ai,Ai],λj v hj=>?_⟩;rw[Ba]at hj;cases e:vs[j]? with
 |none=>rw[e]at hj;cases hj
 |some x =>
  rw[e]at hj;obtain⟨k,t,e1,_⟩:=h x (p.mem_iff.mp (Fw e));have hv:x.2=v:=Bo hj;refine⟨k,t,?_,hv▸e1⟩;rw[Ba,e];show some (txOf x.2)=some k;rw[e1];rfl
theorem job {X:Cx} (hh:X.A.handled=none):CallR X (.builtin "sorted") (jlo X.w):=by
 intro pins s σ H xs us Q I r h;obtain⟨v,ks,rfl,hv,h64,q⟩:=h;obtain⟨u,rfl,ru⟩:=jht r;cases(show u=Cb v from ru);obtain⟨es,ep,t,T,hx,nd,hm,hl⟩:=(I.hok v _ hv).1;have h64':es.size < 64:=F5 hl h64;refine KS.sorted_of (R:=λvs s1=>∃(h':Heap) (tk:Nat) (dr:Drawn) (ys:List Str),s1={ s with heap:=h',toks:=tk,drawn:=dr}/\(∀b o,s.heap.get? b=some o->h'.get? b=some o)/\TxOk vs ys/\ys.Nodup/\(∀k,k∈ys↔k∈ks)/\ys.length < 64)
  (jr7 hh T h64' λh' tk dr vs hp hk=>?_) ?_
 ·have pk:(vs.map λe=>txOf e.2).Perm (ksOf es):=List.Perm.map (λe:Int×Af=>txOf e.2) hp;exact⟨h',tk,dr,vs.map λe=>txOf e.2,rfl,hk,jz2 hx hp,pk.nodup_iff.mpr nd,λk=>pk.mem_iff.trans (hm k),by rw[Ai,hp.length_eq,Cq];exact h64'⟩
 rintro vs s1 ⟨h',tk,dr,ys,rfl,hkp,hT,nd',hm',h64'⟩
 exact jr8 (s:={ s with drawn:=dr}) (I.drew dr) hkp hT h64' λD zs hp hw hD=>q D zs (hp.nodup_iff.mpr nd') (λk=>hp.mem_iff.trans (hm' k)) hw hD
end L2
namespace DL
open PySem L2 Nb
section
variable {X:Cx} {o:Expr} {td:TE} {wd':DT} {pos p p2 ip:Pos} {W:B4}
def upT (ys:List Str):Prop:=ys.Pairwise λa b=>¬b.cps.toList < a.cps.toList
def jei (w:DT):DTF:=λδ n Q=>w δ n λx n1=>∃ks:List Str,(x=.d (.list (ks.map .str))\/x=.d (.tuple (ks.map .str)))/\ks.length < 64/\(∀k∈ks,k.length<=1000) /\
 ∀ys:List Str,ys.Nodup->(∀k,k∈ys↔k∈ks)->upT ys->Q (ys.map .str) n1
theorem jzf {α:Type}:∀{xs ys:List α},xs.Nodup->(∀x∈xs,x∈ys)->xs.length<=ys.length
 |[],_,_,_=>Bj _
 |x::xs,ys,nd,h=>by
  obtain⟨h1,h2⟩:=Fc.mp nd;obtain⟨l,r,e⟩:=List.append_of_mem (h x A5);have:=jzf (ys:=l++r) h2 λz hz=>by
   have hm:=h z (A1 _ hz);rw[e]at hm;rcases A0.mp hm with q | q
   ·exact Dk _ q
   ·rcases An.mp q with q | q
    ·exact absurd (q▸hz) h1
    ·exact Be _ q
  rw[e];simp only[A3,Ak]at this ⊢;omega
theorem je3 {H:Hp} {B:Addr->Prop}:∀{xs:List V} {ks:List Str},RdXs H B xs (ks.map .str)->xs=ks.map V.str
 |[],[],_=>rfl
 |_::_,[],h=>nomatch h
 |[],_::_,h=>nomatch h
 |x::xs,k::ks,.cons h t=>by
  cases h;rw[je3 t];rfl
theorem jvu (hh:X.A.handled=none) (hg:Gl X "sorted") (hm:X.mg "sorted"=none) (hg2:Gl X "set") (hm2:X.mg "set"=none) (ho:DE X o td wd') (hW:X.w=W:=by rfl) (hv:By "sorted"=some (.builtin "sorted"):=by decide +kernel) (hv2:By "set"=some (.type "set"):=by decide +kernel)
  (he2:A8 [o] X.env=(false,eval o X.env)::A8 [] X.env:=by rfl) (hpl2:(Ek ip (A8 [] X.env)).any (·.1)=false:=by rfl)
  (he':A8 [Expr.Call (.Name "set" p2) [o] [] ip] X.env=(false,eval (Expr.Call (.Name "set" p2) [o] [] ip) X.env)::A8 [] X.env:=by rfl) (hpl:(Ek pos (A8 [] X.env)).any (·.1)=false:=by rfl) :
  DF X (.Call (.Name "sorted" p) [.Call (.Name "set" p2) [o] [] ip] [] pos) (tCB (jlo W) (jdi (tCB (jug W) (jdi td tNil)) tNil)) (jei wd'):=by
 subst hW;refine⟨jeg (job hh) hg hm hv (ja0 (jh6 (jsw hh) hg2 hm2 hv2 (ja0 ho.pe jcg he2) (by decide) (by decide) he2 hpl2) jcg he') (by decide) (by decide) he' hpl,λC H B σ δ n Q Q' R q k =>
  ho.sd C H B σ δ n _ _ R q λv x H1 n1 R1 k1 r1 q1=>?_⟩
 obtain⟨ks,hx,h64,hk,kq⟩:=q1;have key:∀a:Addr,v=.ref a->(H1 a=some (.lst (ks.map V.str))\/H1 a=some (.tup (ks.map V.str)))->tCB (jlo X.w) (jdi (λσ H Q=>jug X.w [v] H Q) tNil) σ H1 Q':=λa ea ha=>by
  subst ea;refine⟨a,ks,rfl,ha,h64,λu hu=>⟨u,ks,rfl,jai,h64,λD ys nd hm hw hD=>?_⟩⟩;have R2:=R1.new (o:=setO X.w u ks) hu;have hD1:H1 D=none:=by
   cases e:H1 D with
   |none=>rfl
   |some ob =>
    have:upd H1 u (setO X.w u ks) D=some ob:=by rw[jag (jae e hu)];exact e
    rw[hD]at this;cases this
  have hy:∀y∈ys,y.length<=1000:=λy hy=>hk y ((hm y).mp hy);refine k D _ _ _ n1 (R2.new hD) ((k1.trans (Kp.new hu)).trans (Kp.new hD)) (R1.was k1 hD1) jai ?_ (jpu hy) (kq ys nd hm hw);rw[Ai];have:ys.length<=ks.length:=jzf nd λy hy=>(hm y).mp hy;exact jee (by omega)
 rcases hx with rfl | rfl
 ·cases(show RdX H1 B v (.list (ks.map .str))from r1)with
  |@lst a xs _ e1 e2 e3 e4=>exact key a rfl (.inl (by rw[e1,je3 e4]))
 ·cases(show RdX H1 B v (.tuple (ks.map .str))from r1)with
  |@tup a xs _ e1 e2 e3 e4=>exact key a rfl (.inr (by rw[e1,je3 e4]))
variable {a:Expr} {ta:TE} {wa:DT} {K:Ag}
end
section
variable {X:Cx} {a b c e o i f:Expr} {ta tb te td ty tx:TE} {wa wb we wd' wy wx:DT} {pos p:Pos} {K:Ag}
def jfy (i:Nat):DT:=λδ n Q=>match δ[i]? with
 |some (some (.own ds))=>Q (.ln ds) n
 |some (some (.w x))=>Q x n
 |_=>False
theorem j5d (i:Nat) {x:Str} {p:Pos} (hN:X.N[i]?=some x:=by rfl) (hv:Vis X.env.scope x:=by first | exact D1 rfl | exact C0 (D1 rfl) | exact C0 (C0 rfl)) (hd:(x==("__debug__":Str))=false:=by decide)
  (hcd:(x==("__classdict__":Str))=false:=by decide):DE X (.Name x p) (tVar i) (jfy i):=⟨jh5 hN hv hd hcd,λC H B σ δ n Q Q' R h k=>by
 unfold jfy at h
 split at h
 ·rename_i ds e;obtain⟨v,h1,a,xs,rfl,g2,g3,g4,g5,g6⟩:=R.sl i _ e;exact⟨_,h1,k _ (.ln ds) H n R (Kp.refl _ _) ⟨a,xs,rfl,g2,λz=>R.t0 (z▸g4),g5,g6⟩ h⟩
 ·rename_i x e;obtain⟨v,h1,h2⟩:=R.sl i _ e;exact⟨v,h1,k v x H n R (Kp.refl _ _) h2.1 h⟩
 ·exact h.elim⟩
def gIxL:Wv->Wv->Int->DQ->Prop:=λx y n Q=>match x with
 |.ln ds=>match y with
  |.d (.int i)=>match atI ds i with
   |some d=>Q (.d d) n
   |none=>False
  |_=>False
 |x=>gIx x y n Q
theorem j0h:SndO (rIx K) gIxL:=λC H B σ δ n x y p q Q Q' R rx ry h1 k=>by
 cases p with
 |ln ds =>
  unfold gIxL at h1;dsimp only at h1
  split at h1
  ·rename_i i
   split at h1
   ·rename_i d e;cases(show RdX H B y (.int i)from ry);obtain⟨ay,ys,rfl,e1,e2,e3,e4⟩:=rx;obtain⟨v,f1,f2⟩:=jwf e4 e;exact .inl ⟨ay,ys,i,v,rfl,rfl,SqL.of e1,f1,k _ _ H n R (Kp.refl _ _) (wd f2) h1⟩
   ·exact h1.elim
  ·exact h1.elim
 |d _=>exact jnd C H B σ δ n x y _ q Q Q' R rx ry h1 k
 |tp=>exact jnd C H B σ δ n x y _ q Q Q' R rx ry h1 k
 |dk _=>exact jnd C H B σ δ n x y _ q Q Q' R rx ry h1 k
 |ob _=>exact jnd C H B σ δ n x y _ q Q Q' R rx ry h1 k
theorem j7p (ha:DE X a ta wa) (hb:DE X b tb wb) (hK:X.K=K:=by rfl) (hs:jmt b:=by exact λ_ _=>rfl):DE X (.Subscript a b pos) (tOp (rIx K) ta tb) (w2 wa wb gIxL):=by
 subst hK;exact⟨jha jvk ha.pe hb.pe hs,jnb j0h ha.sd hb.sd⟩
def gInL (neg:Bool):Wv->Wv->Int->DQ->Prop:=λx y n Q=>match y with
 |.ln ds=>match x with
  |.d a=>jj8 a=true/\ds.all jj8=true/\Q (.d (.bool (if neg then !inD a ds else inD a ds))) n
  |_=>False
 |y=>gIn neg x y n Q
theorem j0j {neg:Bool}:SndO (rIn K neg) (gInL neg):=λC H B σ δ n x y p q Q Q' R rx ry h1 k=>by
 cases q with
 |ln ds =>
  unfold gInL at h1;dsimp only at h1
  split at h1
  ·rename_i da;obtain⟨f1,f2,q⟩:=h1;have rx:RdX H B x da:=rx;obtain⟨ay,ys,rfl,e1,e2,e3,e4⟩:=ry;refine⟨ay,ys,rfl,.inl (SqL.of e1),jii rx f1,jfl e4 f2,?_⟩;rw[jn7 rx e4];exact k _ _ H n R (Kp.refl _ _) (wd (.bl _)) q
  ·exact h1.elim
 |d _=>exact jh2 C H B σ δ n x y p _ Q Q' R rx ry h1 k
 |tp=>exact jh2 C H B σ δ n x y p _ Q Q' R rx ry h1 k
 |dk _=>exact jh2 C H B σ δ n x y p _ Q Q' R rx ry h1 k
 |ob _=>exact jh2 C H B σ δ n x y p _ Q Q' R rx ry h1 k
def jf9:List Wv->Int->DQ->Prop:=λxs n Q=>match xs with
 |[.ln ds]=>Q (.d (.int ds.length)) n
 |xs=>gLen xs n Q
theorem jw5:SndB (j0t K) jf9:=λC H B σ δ n vs xs Q Q' R r h k=>by
 unfold jf9 at h
 split at h
 ·rename_i ds;cases r with
  |cons r1 r2 =>
   cases r2;obtain⟨ay,ys,rfl,e1,e2,e3,e4⟩:=r1;refine .inr ⟨ay,ys,rfl,.inl (SqL.of e1),?_⟩;rw[e4.len];exact k _ _ H n R (Kp.refl _ _) (wd (.int _)) h
 ·exact jqy C H B σ δ n vs xs Q Q' R r h k
def gEqL:Wv->Wv->Int->DQ->Prop:=λx y n Q=>match x,y with
 |.ln ds,.d (.list [])=>Q (.d (.bool ds.isEmpty)) n
 |x,y=>gEq x y n Q
theorem j0l:SndO (rEqK K) gEqL:=λC H B σ δ n x y p q Q Q' R rx ry h1 k=>by
 unfold gEqL at h1
 split at h1
 ·rename_i ds;obtain⟨ax,xs,rfl,e1,e2,e3,e4⟩:=rx;cases(show RdX H B y (.list [])from ry)with
  |@lst ay ys _ f1 f2 f3 f4 =>
   cases f4;refine .inr (.inr ⟨ax,ay,xs,rfl,rfl,SqL.of e1,SqL.of f1,?_⟩);have:xs.isEmpty=ds.isEmpty:=by cases e4<;>rfl
   rw[this];exact k _ _ H n R (Kp.refl _ _) (wd (.bl _)) h1
 ·exact jpq C H B σ δ n x y p q Q Q' R rx ry h1 k
def lsOf:Wv->Option (List Ab)
 |.ln ds=>some ds
 |.d (.list ds)=>some ds
 |_=>none
def gCat:Wv->Wv->Int->DQ->Prop:=λx y n Q=>match lsOf x,lsOf y with
 |some i,some j=>i.length+j.length<=Ax/\Q (.d (.list (i++j))) n
 |_,_=>False
theorem jrc {H:Hp} {B:Addr->Prop} {t:Addr} {v:V} {x:Wv} {ds:List Ab} (h:WRel H B t v x) (e:lsOf x=some ds):∃a xs,v=.ref a/\H a=some (.lst xs)/\xs.length<=Ax/\RdXs H B xs ds:=by
 cases x with
 |ln es =>
  cases e;obtain⟨a,xs,h1,h2,h3,h4,h5⟩:=h;exact⟨a,xs,h1,h2,h4,h5⟩
 |d y =>
  cases y with
  |list es =>
   cases e;cases(show RdX H B v (.list ds)from h)with
   |@lst a xs _ e1 e2 e3 e4=>exact⟨a,xs,rfl,e1,e3,e4⟩
  |_=>cases e
 |tp=>cases e
 |dk _=>cases e
 |ob _=>cases e
theorem j0m:SndO rCat gCat:=λC H B σ δ n x y p q Q Q' R rx ry h1 k=>by
 unfold gCat at h1
 split at h1
 ·rename_i i j ei ej;obtain⟨ax,xs,rfl,e1,e3,e4⟩:=jrc rx ei;obtain⟨ay,ys,rfl,f1,f3,f4⟩:=jrc ry ej;obtain⟨hl,q⟩:=h1;have hl':xs.length+ys.length<=Ax:=by rw[e4.len,f4.len];exact hl
  refine⟨ax,ay,xs,ys,rfl,rfl,e1,f1,hl',λpn hp=>?_⟩;refine k _ _ _ n (R.new hp) (Kp.new hp) (wd (show RdX _ B _ (.list (i++j))from .lst jai (R.nb hp) (by rw[Ak];exact hl') ?_)) q;exact((e4.append f4).fresh hp).less λb z=>.inl z
 ·exact h1.elim
theorem j7t (ha:DE X a ta wa) (hb:DE X b tb wb):DE X (.BinOp a .Add b pos) (tOp rCat ta tb) (w2 wa wb gCat):=d_op ju7 j0m ha hb
end
section
variable {X:Cx} {a b c e o i f:Expr} {ta tb te td ty tx:TE} {wa wb we wd' wy wx:DT} {pos p:Pos} {K:Ag}
def sUnp (w:DT) (g:DTG):DST:=λδ n K=>w δ n λx n1=>match x with
 |.d d=>g d δ λδ'=>K.nx δ' n1
 |_=>False
theorem j6d {tg:Expr} {g:TG} {gd:DTG} (he:DE X e te we) (hg:DG X tg g gd) (hs:swapsWithSole [tg] e pos.line X.env=pure false:=by rfl) (hw:swappedStores [tg] e X.env=pure none:=by rfl)
  (h1:(Dx [tg] X.env).map (·.2)=[assign tg X.env]:=by rfl):DS X (.Assign [tg] e pos) (tAsg te g) (sUnp we gd):=⟨jnn he.pe hg.pg hs hw h1,λC H B σ δ n K D R q E =>
 he.sd C H B σ δ n _ _ R q λv x H1 n1 R1 k1 r1 q1=>by
  cases x with
  |d d=>exact hg.sd C H1 B σ δ n1 v d _ _ R1 r1 q1 λσ' δ' R' q'=>E.nx _ _ _ _ _ R' q'
  |tp=>exact q1.elim
  |dk _=>exact q1.elim
  |ln _=>exact q1.elim
  |ob _=>exact q1.elim⟩
def sqOf:Wv->Option (List Ab)
 |.ln ds=>some ds
 |.d (.list ds)=>some ds
 |.d (.tuple ds)=>some ds
 |_=>none
theorem j2x {H:Hp} {B:Addr->Prop} {t:Addr} {v:V} {x:Wv} {ds:List Ab} (h:WRel H B t v x) (e:sqOf x=some ds):∃a xs,v=.ref a/\(SqL K H a xs\/SqT K H a xs)/\xs.length<=Ax/\RdXs H B xs ds:=by
 cases x with
 |ln es =>
  cases e;obtain⟨a,xs,h1,h2,h3,h4,h5⟩:=h;exact⟨a,xs,h1,.inl (SqL.of h2),h4,h5⟩
 |d y =>
  cases y with
  |list es =>
   cases e;cases(show RdX H B v (.list ds)from h)with
   |@lst a xs _ e1 e2 e3 e4=>exact⟨a,xs,rfl,.inl (SqL.of e1),e3,e4⟩
  |tuple es =>
   cases e;cases(show RdX H B v (.tuple ds)from h)with
   |@tup a xs _ e1 e2 e3 e4=>exact⟨a,xs,rfl,.inr (SqT.of e1),e3,e4⟩
  |_=>cases e
 |tp=>cases e
 |dk _=>cases e
 |ob _=>cases e
def jgb (w:DT):DTF:=λδ n Q=>w δ n λx n1=>match sqOf x with
 |some ds=>Q ds n1
 |none=>False
theorem jx7 (hg:Gl X "list") (hm:X.mg "list"=none) (ho:DE X o td wd') (hK:X.K=K:=by rfl) (he:A8 [o] X.env=(false,eval o X.env)::A8 [] X.env:=by rfl) (hpl:(Ek pos (A8 [] X.env)).any (·.1)=false:=by rfl) :
  DF X (.Call (.Name "list" p) [o] [] pos) (tCB (juh K) (jdi td tNil)) (jgb wd') :=
 ⟨jh6 (jky hK) hg hm jqj (ja0 ho.pe jcg he) (by decide) (by decide) he hpl,λC H B σ δ n Q Q' R q k=>ho.sd C H B σ δ n _ _ R q λv x H1 n1 R1 k1 r1 q1=>by
  split at q1
  ·rename_i ds ex;obtain⟨a,xs,rfl,h1,h2,h3⟩:=j2x (K:=K) r1 ex;refine⟨a,xs,rfl,h1,λl hl=>?_⟩;exact k l xs ds _ n1 (R1.new hl) (k1.trans (Kp.new hl)) (R1.was k1 hl) jai h2 (h3.fresh hl) q1
  ·exact q1.elim⟩
def jce:List Wv->Int->DQ->Prop:=λxs n Q=>match xs with
 |[.ln ds]=>Q (.d (.tuple ds)) n
 |xs=>jgt xs n Q
theorem jr9:SndB (jpv K) jce:=λC H B σ δ n vs xs Q Q' R r h k=>by
 unfold jce at h
 split at h
 ·rename_i ds;cases r with
  |cons r1 r2 =>
   cases r2;obtain⟨ay,ys,rfl,e1,e2,e3,e4⟩:=r1;refine⟨ay,ys,rfl,.inl ⟨SqL.of e1,λl hl=>?_⟩⟩;refine k _ _ _ n (R.new hl) (Kp.new hl) (wd (show RdX _ B _ (.tuple ds)from .tup jai (R.nb hl) e3 ?_)) h;exact(e4.fresh hl).less λb z=>.inl z
 ·exact jkm C H B σ δ n vs xs Q Q' R r h k
def sExt (i:Nat) (w:DT):DST:=λδ n K=>match δ[i]? with
 |some (some (.own ds))=>w δ n λx n1=>match x with
  |.d (.list es)=>(ds.length < 1000000/\es.length < 1000000)/\K.nx (δ.set i (some (.own (ds++es)))) n1
  |_=>False
 |_=>False
theorem jej {n m:Nat} (h:n < 1000000) (h':m < 1000000):n+m<=Ax:=by
 have:2000000<=Ax:=by decide
 omega
theorem j2e (H:Hp) (B:Addr->Prop):RdXs H B jyq jmq:=.cons .non (.cons .non (.cons .non (.cons (.int _) (.cons (.int _) (.cons (.int _) (.cons (.int _) .nil))))))
def wTp3 (i:Nat):DT:=λδ n Q=>match δ[i]? with
 |some (some (.w .tp))=>Q (.ln jmq) n
 |_=>False
theorem j7g (i:Nat) {x:Str} {ix:Int} {p p2:Pos} {jj} (hK:X.K=K:=by rfl) (hN:X.N[i]?=some x:=by rfl) (hv:Vis X.env.scope x:=by first | exact D1 rfl | exact C0 (D1 rfl) | exact C0 (C0 rfl)) (hd:(x==("__debug__":Str))=false:=by decide)
  (hcd:(x==("__classdict__":Str))=false:=by decide):DE X (.Subscript (.Name x p) (.Constant (.int 3) jj p2) pos) (tOp (rIx K) (tVar i) (tC (.int 3))) (wTp3 i):=by
 subst hK;refine⟨jha jvk (jh5 hN hv hd hcd) jay (λ_ _=>rfl),λC H B σ δ n Q Q' R h k=>?_⟩;unfold wTp3 at h
 split at h
 ·rename_i e;obtain⟨v,h1,h2⟩:=R.sl i _ e;cases(show v=.ref C.t from h2.1);obtain⟨a,b,ho,_⟩:=R.tp.ob;refine⟨_,h1,.inl ⟨C.t,_,3,.ref C.l.g,rfl,rfl,SqL.of ho,jbs (j:=3) rfl,k _ (.ln jmq) H n R (Kp.refl _ _) ⟨C.l.g,jyq,rfl,R.tp.ag rfl,R.tp.gne,by decide,j2e _ _⟩ h⟩⟩
 ·exact h.elim
end
end DL
namespace L2
open PySem PySem.Spec PyProof.Rows
end L2
namespace DL
open PySem L2 Nb
end DL
namespace HT
open PySem PyProof.Rows
open PySem.SeqAt
open PySem.AutoSeq1 (wpAny_loadPart')
open PySem.MeetsSeq PySem.MeetsSeq2 PySem.MeetsSeq3
section
variable {prog:Br} {w:B4} {A:B9} {E:Af->Aj->Prop} {s:Aj}
theorem getItem_tuple_whole {t sl:Addr} {items:Array Af} {vl vu:Af} {lo hi:Option Int} {Q:Af->Aj->Prop} (ht:IsTup s.heap t items) (hs:s.heap.IsSliceOf sl vl vu .none) (pl:IsPart vl lo) (pu:IsPart vu hi)
  (h0:sIx items.size 0 lo=0) (h1:sIx items.size items.size hi=items.size) (h:Q (.ref t) s):Az (Bb prog w) A (getItem (.ref t) (.ref sl)) Q E s:=by
 obtain⟨os,hos,hcs,hds⟩:=id hs;have hTs:s.TypeIs (.ref sl) "slice":=⟨os,hos,hcs⟩;unfold getItem
 try with_reducible refine C6 ?_
 first | refine Aa (Ah ?_) | skip
 refine Aa (wpAny_sequenceKey ht.typeIs (by decide) ?_);refine Aa (Bs (name:=Cm "__getitem__") ht.typeIs Cr
  (B1 Cr ht.typeIs entry_tuple_getitem ?_ (args_tuple_getitem _ _)))
 show Az _ _ (Dn (.ref t)>>=_) _ _ s;refine Aa (tupleItemsOf_ ht ?_);refine Aa (Fp hTs ?_);rw[if_pos (by decide)];refine Aa (jde hs pl pu ?_);have hyes:(((sIx items.size 0 lo:Nat):Int)==0&&(1:Int)==1&&(sIx items.size items.size hi - sIx items.size 0 lo)==items.size)=true:=by
  rw[h0,h1];simp
 show Az _ _ (if (((sIx items.size 0 lo:Nat):Int)==0&&(1:Int)==1&&(sIx items.size items.size hi - sIx items.size 0 lo)==items.size)=true then _ else _) _ _ s;rw[if_pos hyes];unfold Builtin.Tuple.tupleIsExact;refine Aa (Aa (Fp ht.typeIs (Ah ?_)));rw[if_pos (by decide)];exact Aa (Fy (Ah ⟨_,rfl,Ah h⟩))
end
end HT
namespace L2
open PySem PySem.Spec PyProof.Rows
def rSlW (K:Ag):V->Option Int->Option Int->Hp->VK->Prop:=λx lo hi H Q=>∃a xs,x=.ref a/\SqT K H a xs/\HT.sIx xs.length 0 lo=0/\HT.sIx xs.length xs.length hi=xs.length/\Q (.ref a) H
theorem jw8 {X:Cx}:SlR X (rSlW X.K):=by
 intro pins s σ H x v vl vu lo hi sl Q I rx hs pl pu h;obtain⟨a,xs,rfl,hx,h0,h1,q⟩:=h;cases rx;obtain⟨its,r,ht,hz⟩:=I.tuple hx;have hlen:its.toArray.size=xs.length:=by rw[Aq];exact r.length.symm
 refine⟨"tuple",_,PyProof.Rows.slot_tuple_getitem.lookup,ht.typeIs,?_⟩;exact HT.getItem_tuple_whole ht hs pl pu (by rw[hlen];exact h0) (by rw[hlen];exact h1) ⟨.ref a,H,I,rfl,q⟩
end L2
namespace DL
open PySem L2 Nb
section
variable {X:Cx} {e:Expr} {te:TE} {we:DT} {pos p2:Pos} {K:Ag} {lo hi:Option Expr}
abbrev DTO:=Sl->Int->(Option Int->Int->Prop)->Prop
def ja6:DTO:=λ_ n Q=>Q none n
def jar (w:DT):DTO:=λδ n Q=>w δ n λx n1=>match x with
 |.d (.int i)=>Q (some i) n1
 |_=>False
def j77 (t:TO) (w:DTO):Prop:=∀(C:Ctx) (H:Hp) (B:Addr->Prop) (σ:St) (δ:Sl) (n:Int) (Q:Option Int->Int->Prop) (Q':Option Int->Hp->Prop),Rel C H B σ δ n->w δ n Q ->
 (∀o H' n',Rel C H' B σ δ n'->Kp C.t H H'->Q o n'->Q' o H')->t σ H Q'
structure DOp (X:Cx) (o:Option Expr) (t:TO) (w:DTO):Prop where
 po:PO X o t
 sd:j77 t w
theorem j38:DOp X none jto ja6:=⟨juq,λC H B σ δ n Q Q' R q k=>k none H n R (Kp.refl _ _) q⟩
theorem j37 (h:DE X e te we):DOp X (some e) (j2p te) (jar we):=⟨jup h.pe,λC H B σ δ n Q Q' R q k=>h.sd C H B σ δ n _ _ R q λv x H1 n1 R1 k1 r1 q1=>by
 split at q1
 ·rename_i i;cases(show RdX H1 B v (.int i)from r1);exact⟨i,rfl,k (some i) H1 n1 R1 k1 q1⟩
 ·exact q1.elim⟩
def cutD (xs:List Ab) (lo hi:Option Int):List Ab:=(xs.drop (HT.sIx xs.length 0 lo)).take (HT.sIx xs.length xs.length hi - HT.sIx xs.length 0 lo)
def jak (w:DT) (l u:DTO):DT:=λδ n Q=>w δ n λx n1=>l δ n1 λa n2=>u δ n2 λb n3=>match x with
 |.d (.tuple ds)=>Q (.d (.tuple (cutD ds a b))) n3
 |_=>False
def rSlA (K:Ag):V->Option Int->Option Int->Hp->VK->Prop:=λx lo hi H Q=>rSlT K x lo hi H Q\/rSlW K x lo hi H Q
theorem j1w {tl th:TO} {wl wh:DTO} (he:DE X e te we) (hl:DOp X lo tl wl) (hh:DOp X hi th wh) (hK:X.K=K:=by rfl):DE X (.Subscript e (.Slice lo hi none p2) pos) (tSl (rSlA K) te tl th) (jak we wl wh):=by
 subst hK;refine⟨jq6 (sl_tup.or jw8) he.pe hl.po hh.po,λC H B σ δ n Q Q' R q k=>he.sd C H B σ δ n _ _ R q λv x H1 n1 R1 k1 r1 q1 =>
  hl.sd C H1 B σ δ n1 _ _ R1 q1 λa H2 n2 R2 k2 q2=>hh.sd C H2 B σ δ n2 _ _ R2 q2 λb H3 n3 R3 k3 q3=>?_⟩
 split at q3
 ·rename_i ds;have r3:RdX H3 B v (.tuple ds):=(r1.kp k2 R1.bt).kp k3 R2.bt;cases r3 with
  |@tup aa xs _ e1 e2 e3 e4 =>
   have kk:=(k1.trans k2).trans k3;by_cases hw:HT.sIx xs.length 0 a=0/\HT.sIx xs.length xs.length b=xs.length
   ·refine .inr ⟨aa,xs,rfl,SqT.of e1,hw.1,hw.2,k _ _ H3 n3 R3 kk (wd (show RdX H3 B _ (.tuple ds)from .tup e1 e2 e3 e4)) ?_⟩;have:cutD ds a b=ds:=by
     unfold cutD;rw[<-e4.len,hw.1,hw.2,List.drop_zero,Nat.sub_zero,e4.len,List.take_length]
    rw[this]at q3;exact q3
   ·refine .inl ⟨aa,xs,rfl,SqT.of e1,hw,λp hp=>?_⟩;refine k _ _ _ n3 (R3.new hp) (kk.trans (Kp.new hp)) (wd (show RdX _ B _ (.tuple (cutD ds a b))from .tup jai (R3.nb hp) (Bw (jfa xs a b) e3) ?_)) q3;unfold cutD cutV;rw[<-e4.len];exact(((e4.drop _).take _).fresh hp).less λb z=>.inl z
 ·exact q3.elim
end
end DL
namespace Nb
open PySem L2
section
variable {X:Cx}
theorem j1v (S it:Addr) (mine:Array Af) (n:Nat) {o:Obj} (items:Array Af) (n2:Nat) (hc:o.cls=.type "tuple") (hd:o.data=.seq items n2)
  (hlong:¬(!mine.isEmpty&&Dz (mine.size+items.size))=true) (hz1:mine.size<=Ax) (hz2:mine.size+items.size<=Ax+1) (hz3:items.size<=Ax) :
  Meets (Dp.«list.extend» ⟨[.ref S,.ref it],[]⟩) (λ_ R s=>s.heap.get? S=some {cls:=.type "list",data:=.seq mine n}/\s.heap.get? it=some o/\R (.ok (.ret Bi)) {s with heap:=s.heap.update S (Cs λx=>x++items),toks:=s.toks}):=λprog w A R s h=>by
 obtain⟨hS,ho,hR⟩:=h;show Az _ A.in1 (Dl (.ref S) (.ref it) .none) _ _ s;unfold Dl;refine Aa (Fp ⟨o,ho,hc⟩ ?_);have h1:(Fx (.ref S) (.ref it) || Dm "tuple"==Dm "list" || Dm "tuple"==Dm "tuple")=true:=by simp
 simp only[h1,if_true];refine Aa ?_;unfold Builtin.List.listItems;refine Aa (Cn ho hd (Ah ?_));refine Aa ?_;refine Aa (Cn hS rfl (Ah ?_));simp only[hlong];show Az _ A.in1 (updateSeq S (·++items)>>=λ_=>ret Bi) _ _ s;refine Aa (wpAny_updateSeq hS rfl ?_ hz1 (by rw[Array.size_append];exact hz2));exact Ah hR
def jq2:V->List V->Hp->VK->Prop:=λx vs H Q=>∃l b xs zs,x=.ref l/\vs=[.ref b]/\H l=some (.lst xs)/\H b=some (.tup zs)/\xs.length+zs.length<=Ax/\Q .non (upd H l (.lst (xs++zs)))
theorem jsk:MtM X "list.extend" jq2:=by
 intro pins s σ H x vs v us Q I rx rv h;obtain⟨l,b,xs,zs,rfl,rfl,hH,hB,hz,q⟩:=h;cases rx;obtain⟨u,rfl,ru⟩:=rv.one;cases ru;obtain⟨z,its,n,r,hl,e⟩:=I.lstM hH;obtain⟨its2,r2,⟨o2,e2,c2,n2,d2⟩,z2⟩:=I.tuple (SqT.of hB);have hl2:=r2.length;have hsz:its.toArray.size+its2.toArray.size<=Ax:=by rw[Aq,Aq];omega
 have hlong:¬(!its.toArray.isEmpty&&Dz (its.toArray.size+its2.toArray.size))=true:=by
  rw[jq8 hsz,Fm];exact Al
 refine Fn F.slot_list_extend ⟨_,e,rfl⟩ F.entry_list_extend (F.args_list_extend_2 _ _)
  (j1v l b its.toArray n its2.toArray n2 c2 d2 hlong (by rw[Aq];omega) (by omega) (by rw[Aq];omega)) ⟨e,e2,?_⟩
 refine⟨.non,_,I.lset (its':=its++its2) hH e (by simp) (r.append r2) ?_,rfl,q⟩;rw[Ak];omega
end
end Nb
namespace DL
open PySem L2 Nb
section
variable {X:Cx} {tg a b c e o i f:Expr} {ta tb te td ty tx:TE} {wa wb we wd' wy wx:DT} {pos p:Pos} {K:Ag}
def jsc (i:Nat) (w:DT):DST:=λδ n K=>match δ[i]? with
 |some (some (.own ds))=>w δ n λx n1=>match x with
  |.d (.tuple es)=>(ds.length < 1000000/\es.length < 1000000)/\K.nx (δ.set i (some (.own (ds++es)))) n1
  |_=>False
 |_=>False
theorem j29 {i:Nat} {x:Str} {xp ap cp:Pos} (hN:X.N[i]?=some x) (he:DE X e te we) (hv:Vis X.env.scope x:=by first | exact D1 rfl | exact C0 (D1 rfl) | exact C0 (C0 rfl)) (hd:(x==("__debug__":Str))=false:=by decide)
  (hcd:(x==("__classdict__":Str))=false:=by decide)
  (hbase:attributeBase (.Name x xp) "extend" X.env (eval (.Name x xp) X.env)=eval (.Name x xp) X.env:=by rfl)
  (hfew:((Ek cp (A8 [e] X.env)).all (λx=>!x.1)&&(backToKw cp (keywordEach [] X.env)).all (λx=>x.1.isSome)
   && decide ([e].length+([]:List Keyword).length+(if ([]:List Keyword).isEmpty then 0 else 1) < 30))=true:=by rfl)
  (hline:(ap.endLine==cp.line)=true:=by rfl) (hs:A8 [e] X.env=[(false,eval e X.env)]:=by rfl) (hplain:(Ek cp (A8 [] X.env)).any (·.1)=false:=by rfl)
  (hsw:Fz (.Call (.Attribute (.Name x xp) "extend" ap) [e] [] cp) none pos.line X.env=pure false:=by rfl) :
  DS X (.Expr (.Call (.Attribute (.Name x xp) "extend" ap) [e] [] cp) pos) (jz6 (tBM X.K "list" jq2 (tVar i) (jdi te tNil))) (jsc i we) :=
 ⟨jum (j31 PySem.F.plainAttrs_list PySem.F.slot_list_extend PySem.F.type_list_extend jsk (jh5 hN hv hd hcd) (ja0 he.pe jcg hs) hbase hfew hline hs hplain) hsw,λC H B σ δ n K D R q E=>by
  unfold jsc at q
  split at q
  ·rename_i ds ei;obtain⟨v,hv,a,xs,rfl,e2,e3,e4,e5,e6⟩:=R.sl i _ ei;refine⟨_,hv,.inl ⟨rfl,_,SqL.of e2⟩,he.sd C H B σ δ n _ _ R q λu y H1 n1 R1 k1 r1 q1=>?_⟩
   split at q1
   ·rename_i es;have hat:a≠C.t:=λz=>R.t0 (z▸e4);have e2':=k1 _ _ e2 hat;cases(show RdX H1 B u (.tuple es)from r1)with
    |@tup b zs _ f1 f2 f3 f4 =>
     have hl:xs.length+zs.length<=Ax:=by rw[e6.len,f4.len];exact jej q1.1.1 q1.1.2
     refine⟨a,b,xs,zs,rfl,rfl,e2',f1,hl,?_⟩;refine E.nx _ _ _ _ _ (R1.mutOwn ei rfl hv e3 e4 ?_ rfl) q1.2;refine⟨a,xs++zs,rfl,jai,e3,e4,by rw[Ak];exact hl,?_⟩;refine RdXs.keep (λb o e n=>?_) ((e6.kp k1 R.bt).append f4);rw[jag λ(z:b=a)=>n (z▸e3)];exact e
   ·exact q1.elim
  ·exact q.elim⟩
def wInG (hs:List Str) (w:DT):DT:=λδ n Q=>w δ n λx n1=>match x with
 |.d a=>jj8 a=true/\Q (.d (.bool (inD a (hs.map .str)))) n1
 |_=>False
theorem j0k {q:Addr} {hs:List Str} (hl:∀h∈hs,h.length<=1000) (hq:∀H,SqT K H q (hs.map V.str)) (h:Snd ta wa):Snd (tOp (rIn K false) ta (tC (.ref q))) (wInG hs wa):=λC H B σ δ n Q Q' R z k =>
 h C H B σ δ n _ _ R z λv x H1 n1 R1 k1 r1 q1=>by
  split at q1
  ·rename_i da;have r1:RdX H1 B v da:=r1;have rs:RdXs H1 B (hs.map V.str) (hs.map .str):=jpu hl;refine⟨q,_,rfl,.inr (hq H1),jii r1 q1.1,jfl rs ?_,k _ _ H1 n1 R1 k1 (wd (.bl _)) ?_⟩
   ·rw[Dj];exact Bh.mpr λ_ _=>rfl
   ·rw[jn7 r1 rs];exact q1.2
  ·exact q1.elim
theorem j70 {q:Addr} {hs:List Str} {x:Str} {xp:Pos} (ha:DE X a ta wa) (hg:Gl X x) (hm:X.mg x=some (.ref q)) (hq:∀H,SqT K H q (hs.map V.str)) (hl:∀h∈hs,h.length<=1000:=by decide +kernel) (hK:X.K=K:=by rfl) (hd:(x==("__debug__":Str))=false:=by decide)
  (hmk:D0 .In (Expr.Name x xp)=false:=by with_unfolding_all rfl):DC X (.Compare a [.In] [.Name x xp] pos) (jpm (tOp (rIn K false) ta (tC (.ref q)))) (cT (wInG hs wa)) :=
 ⟨jf1 (ju2 hK) ha.pe (juw hg hm rfl hd) hmk,jhm (j0k hl hq ha.sd)⟩
end
section
variable {X:Cx} {e:Expr} {es:List Expr} {pos p:Pos} {tR:TA} {wR:DTA} {te:TE} {we:DT}
theorem RdXs.rev {H:Hp} {B:Addr->Prop}:∀{vs:List V} {ds:List Ab},RdXs H B vs ds->RdXs H B vs.reverse ds.reverse
 |_,_,.nil=>.nil
 |_,_,.cons h r=>by
  rw[List.reverse_cons,List.reverse_cons];exact(RdXs.rev r).append (.cons h .nil)
end
end DL
namespace Nb
open PySem L2
end Nb
namespace DL
open PySem L2 Nb
section
variable {X:Cx} {a b c e o i f:Expr} {ta tb te ty:TE} {wa wb we wy:DT} {pos p xp:Pos} {K:Ag} {D:List (Str×Str)} {q:Addr} {x:Str}
def wInT (D:List (Str×Str)) (w:DT):DT:=λδ n Q=>w δ n λx n1=>match x with
 |.d (.str k)=>Q (.d (.bool (PyProof.Rows.KTD.datumAt k D).isSome)) n1
 |_=>False
theorem jlw {n:Nat} (h:n<=1000):n<=Ax:=Bw h (by decide)
def rStr:List V->Hp->VK->Prop:=λxs H Q=>(∃i,xs=[.int i]/\i.natAbs.log2 < 1920/\Q (.str (toString i)) H)\/∃x,xs=[.str x]/\Q (.str x) H
theorem call_strA:CallR X (.type "str") rStr:=by
 intro pins s σ H xs us Q I r h;rcases h with h | ⟨x,rfl,q⟩
 ·exact joa pins s σ H xs us Q I r h
 ·obtain⟨u,rfl,t,rfl⟩:=jht r;exact PySem.P.str_of_str ⟨.str _,H,I,⟨_,rfl⟩,q⟩
def gStr:List Wv->Int->DQ->Prop:=λxs n Q=>match xs with
 |[.d (.int i)]=>(i.natAbs.log2 < 1920/\(Cm (toString i)).length<=1000)/\Q (.d (.str (toString i))) n
 |[.d (.str x)]=>Q (.d (.str x)) n
 |_=>False
theorem j0d:SndB rStr gStr:=λC H B σ δ n vs xs Q Q' R r h k=>by
 unfold gStr at h
 split at h
 ·rename_i i;cases r with
  |cons r1 r2 =>
   cases r2;cases(show RdX H B _ (.int i)from r1);exact .inl ⟨i,rfl,h.1.1,k _ _ H n R (Kp.refl _ _) (wd (.str _ (jlw h.1.2))) h.2⟩
 ·rename_i x;cases r with
  |cons r1 r2 =>
   cases r2;have r1':RdX H B _ (.str x):=r1;cases r1' with
   |str _ hx=>exact .inr ⟨x,rfl,k _ _ H n R (Kp.refl _ _) (wd (.str _ hx)) h⟩
 ·exact h.elim
def fCat (wa wb:DT):DTF:=λδ n Q=>wa δ n λx n1=>wb δ n1 λy n2=>match lsOf x,lsOf y with
 |some i,some j=>i.length+j.length<=Ax/\Q (i++j) n2
 |_,_=>False
theorem j7d (ha:DE X a ta wa) (hb:DE X b tb wb):DF X (.BinOp a .Add b pos) (tOp rCat ta tb) (fCat wa wb):=⟨jci ju7 ha.pe hb.pe,λC H B σ δ n Q Q' R z k =>
 ha.sd C H B σ δ n _ _ R z λv x H1 n1 R1 k1 r1 q1=>hb.sd C H1 B σ δ n1 _ _ R1 q1 λu y H2 n2 R2 k2 r2 q2=>by
  have r1':=r1.kp k2 R1.bt
  split at q2
  ·rename_i i j ei ej;obtain⟨ax,xs,rfl,e1,e3,e4⟩:=jrc r1' ei;obtain⟨ay,ys,rfl,f1,f3,f4⟩:=jrc r2 ej;obtain⟨hl,q⟩:=q2;have hl':xs.length+ys.length<=Ax:=by rw[e4.len,f4.len];exact hl
   refine⟨ax,ay,xs,ys,rfl,rfl,e1,f1,hl',λpn hp=>?_⟩;refine k pn (xs++ys) (i++j) _ n2 (R2.new hp) ((k1.trans k2).trans (Kp.new hp)) (R2.was (k1.trans k2) hp) jai (by rw[Ak];exact hl') ((e4.append f4).fresh hp) q
  ·exact q2.elim⟩
end
end DL
namespace L2
open PySem PySem.Spec PyProof.Rows PySem.SeqAt PySem.W
end L2
namespace L2
open PySem PySem.Spec PyProof.Rows
end L2
namespace L2
open PySem PySem.Spec PyProof.Rows PySem.W
end L2
namespace L2
open PySem PySem.Spec PyProof.Rows
end L2
namespace L2
open PySem PySem.Spec PyProof.Rows PySem.SeqAt PySem.W
section
variable {X:Cx}
def rIsB (neg:Bool):R2:=λx y H Q=>∃a b,x=.bl a/\y=.bl b/\Q (.bl (if neg then a != b else a==b)) H
theorem j1d:OpR X (Bt .IsNot) (rIsB true):=by
 intro pins s σ H x y v u Q I rx ry h;obtain⟨a,b,rfl,rfl,q⟩:=h;cases rx;cases ry;exact isnot_bool (jaz I q rfl)
end
end L2
namespace DL
open PySem L2 Nb
section
variable {X:Cx} {a b c e o i f:Expr} {ta tb te td ty tx:TE} {wa wb we wd' wy wx:DT} {pos p:Pos} {K:Ag}
def sIns (i:Nat) (wa wb:DT):DST:=λδ n K=>match δ[i]? with
 |some (some (.own ds))=>wa δ n λx n1=>wb δ n1 λy n2=>match x,y with
  |.d (.int k),.d d=>(0<=k/\k<=ds.length/\ds.length < 1000)/\K.nx (δ.set i (some (.own (ds.take k.toNat++d::ds.drop k.toNat)))) n2
  |_,_=>False
 |_=>False
def gIsB (neg:Bool):Wv->Wv->Int->DQ->Prop:=λx y n Q=>match x,y with
 |.d (.bool a),.d (.bool b)=>Q (.d (.bool (if neg then a != b else a==b))) n
 |_,_=>False
theorem j0i {neg:Bool}:SndO (rIsB neg) (gIsB neg):=λC H B σ δ n x y p q Q Q' R rx ry h1 k=>by
 unfold gIsB at h1
 split at h1
 ·rename_i u v;cases(show RdX H B x (.bool u)from rx);cases(show RdX H B y (.bool v)from ry);exact⟨u,v,rfl,rfl,k _ _ H n R (Kp.refl _ _) (wd (.bl _)) h1⟩
 ·exact h1.elim
end
end DL
namespace L2
open PySem PySem.Spec PyProof.Rows PySem.SeqAt PySem.W
end L2
namespace DL
open PySem L2 Nb
end DL
namespace HT
open PySem PyProof.Rows
section
variable {prog:Br} {w:B4} {A:B9} {E:Af->Aj->Prop} {s:Aj}
theorem js0 (n:Nat):C9 none none (-1) (n:Int)=((n:Int) - 1,-1):=by
 unfold C9;simp
theorem jsh (n:Nat):Cj ((n:Int) - 1) (-1) (-1)=n:=by
 unfold Cj;simp only[show ¬((-1:Int) > 0) by decide,if_false];by_cases h:n=0
 ·subst h;rfl
 ·have h1:(-1:Int) < (n:Int) - 1:=by omega
  have h2:((n:Int) - 1 - -1 - 1) / - -1+1=(n:Int):=by simp;try omega
  have h3:((n:Int) - 1 > -1):=by omega
  simp only[h3,if_true];rw[h2];exact Bv n
theorem jg9 {sl:Addr} {t:Tok} {n:Nat} {Q:Int×Int×Nat->Aj->Prop} (hs:s.heap.IsSliceOf sl .none .none (.int (-1) t)) (h:Q ((n:Int) - 1,-1,n) s) :
  Az (Bb prog w) A (Ei (.ref sl) (pure (n:Int))) Q E s:=by
 obtain⟨os,hos,hcs,hds⟩:=id hs;unfold Ei Builtin.Slice.sliceFields;refine Aa (Aa (Ce hos hds (x:=.none) rfl (Aa (Ce hos hds (x:=.none) rfl (Aa (Ce hos hds (x:=.int (-1) t) rfl (Ah ?_)))))));refine Aa (slicePart_int ?_);show Az _ _ (if ((-1:Int)==0)=true then _ else _) _ _ s;rw[if_neg (by decide)];refine Aa (slicePart_none (Aa (slicePart_none (Aa (Ah ?_)))));show Az _ _ (match C9 none none (-1) (n:Int)with | (lo,hi)=>pure (lo,(-1:Int),Cj lo hi (-1))) _ _ s;rw[js0 n];show Az _ _ (pure ((n:Int) - 1,(-1:Int),Cj ((n:Int) - 1) (-1) (-1))) _ _ s;rw[jsh];exact Ah h
theorem jxi (xs:Array Af):((Bu xs.size).filterMap λ(m:Nat)=>xs[((xs.size:Int) - 1+(m:Int)*(-1)).toNat]?).toArray=xs.toList.reverse.toArray:=by
 congr 1
 have e:∀m∈Bu xs.size,xs[((xs.size:Int) - 1+(m:Int)*(-1)).toNat]?=some (xs.getD (xs.size - 1 - m) Bi):=λm hm=>by
  have hm:=C3.mp hm;have e1:((xs.size:Int) - 1+(m:Int)*(-1)).toNat=xs.size - 1 - m:=by omega
  have e2:xs.size - 1 - m < xs.size:=by omega
  rw[e1,Dg e2];simp[e2]
 have fm:∀l:List Nat,(∀m∈l,m∈Bu xs.size)->(l.filterMap λ(m:Nat)=>xs[((xs.size:Int) - 1+(m:Int)*(-1)).toNat]?)=l.map λm=>xs.getD (xs.size - 1 - m) Bi:=by
  intro l
  induction l with
  |nil=>intro _;rfl
  |cons m r ih =>
   intro hm;rw[F1,e m (hm m A5),A7,ih λk hk=>hm k (A1 _ hk)]
 rw[fm _ λm hm=>hm];apply List.ext_getElem
 ·simp
 ·intro i h1 h2;simp at h1;have:xs.size - 1 - i < xs.size:=by omega
  simp[List.getElem_reverse,this]
theorem getItem_tuple_rev {t sl:Addr} {items:Array Af} {tk:Tok} {Q:Af->Aj->Prop} (ht:IsTup s.heap t items) (hs:s.heap.IsSliceOf sl .none .none (.int (-1) tk))
  (h:Q (.ref s.heap.objs.size) {s with heap:=s.heap.push {cls:=.type "tuple",data:=.seq items.toList.reverse.toArray}}) (hsz:items.size<=Ax):Az (Bb prog w) A (getItem (.ref t) (.ref sl)) Q E s:=by
 have htake:sizeOk (.seq items.toList.reverse.toArray):=by
  show items.toList.reverse.toArray.size<=Ax;rw[Aq,F0,Cq];exact hsz
 obtain⟨os,hos,hcs,hds⟩:=id hs;have hTs:s.TypeIs (.ref sl) "slice":=⟨os,hos,hcs⟩;unfold getItem
 try with_reducible refine C6 ?_
 first | refine Aa (Ah ?_) | skip
 refine Aa (wpAny_sequenceKey ht.typeIs (by decide) ?_);refine Aa (Bs (name:=Cm "__getitem__") ht.typeIs Cr
  (B1 Cr ht.typeIs entry_tuple_getitem ?_ (args_tuple_getitem _ _)))
 show Az _ _ (Dn (.ref t)>>=_) _ _ s;refine Aa (tupleItemsOf_ ht ?_);refine Aa (Fp hTs ?_);rw[if_pos (by decide)];refine Aa (jg9 hs ?_);have hno:¬(((items.size:Int) - 1==0&&(-1:Int)==1&&items.size==items.size)=true):=by
  intro q;rw[Ap,Ap]at q;exact absurd q.1.2 (by decide)
 show Az _ _ (if ((items.size:Int) - 1==0&&(-1:Int)==1&&items.size==items.size)=true then _ else _) _ _ s;rw[if_neg hno,jxi]
 first
  |exact Aa (m:=Co _) (Bm (Ah ⟨_,rfl,Ah h⟩) htake)
  |exact Aa (m:=Co _) (Bm (Aa (Ah (Ah ⟨_,rfl,Ah h⟩))) htake)
  |exact Aa (Aa (m:=Co _) (Bm (Ah (Ah ⟨_,rfl,Ah h⟩)) htake))
  |exact Aa (Aa (m:=Co _) (Bm (Ah ⟨_,rfl,Ah h⟩) htake))
end
end HT
namespace L2
open PySem PySem.Spec PyProof.Rows
section
variable {X:Cx} {e st:Expr} {te ts:TE} {pos p2:Pos}
def j2o (K:Ag) (te ts:TE):TE:=λσ H Q=>te σ H λx H1=>ts σ H1 λy H2=>∃a xs,x=.ref a/\y=.int (-1)/\SqT K H2 a xs/\∀p,H2 p=none->Q (.ref p) (upd H2 p (.tup xs.reverse))
theorem j3y (he:PE X e te) (hs:PE X st ts) (hev:evalPart (some st) X.env=eval st X.env:=by rfl):PE X (.Subscript e (.Slice none none (some st) p2) pos) (j2o X.K te ts):=by
 intro pins s σ H Q I h;refine Subscript_ (thn (he pins s σ H _ I h) λv s1 ⟨x,H1,I1,r1,q1⟩=>?_);refine wpAny_Slice ?_;rw[evalPart_none];refine Ah (Ah ?_);rw[hev];refine thn (hs pins s1 σ H1 _ I1 q1) λvs s3 ⟨y,H3,I3,ry,a,xs,ex,ey,hx,q⟩=>?_;subst ex;subst ey;cases r1;obtain⟨tk,rfl⟩:=ry;have I4:Inv X pins σ H3 {s3 with heap:=s3.heap.push {cls:=.type "slice",data:=.fields #[.none,.none,.int (-1) tk]}}:=I3.kept (t':=s3.toks) λb ob q=>Ae _ q;obtain⟨its,r,ht,hz⟩:=I4.tuple hx;have hlen:its.toArray.size=xs.length:=by rw[Aq];exact r.length.symm
 show Az (Bb X.prog X.w) X.A (subscriptTail e (.Slice none none (some st) p2) (.ref a) (.ref s3.heap.objs.size)) (EP X pins σ Q) X.xe {s3 with heap:=s3.heap.push {cls:=.type "slice",data:=.fields #[.none,.none,.int (-1) tk]}};refine tail_any (ops:=[.ref a,.ref s3.heap.objs.size]) ht.typeIs PyProof.Rows.slot_tuple_getitem.lookup (HT.getItem_tuple_rev ht (Heap.IsSliceOf.new ..) ?_ (by rw[hlen];exact hz)) (by with_unfolding_all rfl);refine⟨.ref _,_,I4.laid (t':=s3.toks) (o:=.tup xs.reverse) (λb ob q=>Ae _ q) (Ar _) ?_,rfl,q _ (I4.hok.fresh (Ar _))⟩;exact⟨by rw[F0];exact hz,its.reverse,r.reverse,IsTupP.new _ _⟩
def rBI (f:Int->Int->Int):R2:=λx y H Q=>∃b j,x=.bl b/\y=.int j/\Q (.int (f (if b=true then 1 else 0) j)) H
theorem jxt:OpR X (Dr .Add) (rBI (·+·)):=by
 intro pins s σ H x y v u Q I rx ry h;obtain⟨b,j,rfl,rfl,q⟩:=h;cases rx;obtain⟨t,rfl⟩:=ry;exact IntBool.add_bool_int ⟨.int _,H,I.tok _,⟨_,rfl⟩,q⟩
theorem jxr:OpR X (Dr .Sub) (rBI (· - ·)):=by
 intro pins s σ H x y v u Q I rx ry h;obtain⟨b,j,rfl,rfl,q⟩:=h;cases rx;obtain⟨t,rfl⟩:=ry;exact IntBool.sub_bool_int ⟨.int _,H,I.tok _,⟨_,rfl⟩,q⟩
def j0s:List V->Hp->VK->Prop:=λxs H Q=>∃b,xs=[.bl b]/\Q (.str (if b then "True" else "False")) H
theorem jwa:CallR X (.type "str") j0s:=by
 intro pins s σ H xs us Q I r h;obtain⟨b,rfl,q⟩:=h;obtain⟨u,rfl,ru⟩:=jht r;cases ru;exact PySem.P.str_of_bool ⟨.str _,H,I.tok _,⟨_,rfl⟩,q⟩
end
end L2
namespace DL
open PySem L2 Nb
section
variable {X:Cx} {a b c e o i f:Expr} {ta tb te td ty tx:TE} {wa wb we wd' wy wx:DT} {pos p p2 p3 p4:Pos} {K:Ag}
def wRev (w:DT):DT:=λδ n Q=>w δ n λx n1=>match x with
 |.d (.tuple ds)=>Q (.d (.tuple ds.reverse)) n1
 |_=>False
theorem j7j {jj} (he:DE X e te we) (hK:X.K=K:=by rfl):DE X (.Subscript e (.Slice none none (some (.UnaryOp .USub (.Constant (.int 1) jj p3) p4)) p2) pos) (j2o K te (tUn (rU λi=>.int (-i)) (tC (.int 1)))) (wRev we):=by
 subst hK;refine⟨j3y he.pe (j3v jyy jay),λC H B σ δ n Q Q' R q k=>he.sd C H B σ δ n _ _ R q λv x H1 n1 R1 k1 r1 q1=>?_⟩
 split at q1
 ·rename_i ds;cases(show RdX H1 B v (.tuple ds)from r1)with
  |@tup ay ys _ e1 e2 e3 e4 =>
   refine⟨1,rfl,ay,ys,rfl,rfl,SqT.of e1,λp hp=>k _ _ _ n1 (R1.new hp) (k1.trans (Kp.new hp)) (wd (show RdX _ B _ (.tuple ds.reverse)from .tup jai (R1.nb hp) (by rw[F0];exact e3) ?_)) q1⟩;exact((RdXs.rev e4).fresh hp).less λb z=>.inl z
 ·exact q1.elim
def gBI (f:Int->Int->Int) (g:Wv->Wv->Int->DQ->Prop):Wv->Wv->Int->DQ->Prop:=λx y n Q=>match x with
 |.d (.bool b)=>match y with
  |.d (.int j)=>Q (.d (.int (f (if b=true then 1 else 0) j))) n
  |_=>False
 |x=>g x y n Q
theorem jy3 {f:Int->Int->Int} {r:R2} {g:Wv->Wv->Int->DQ->Prop} (h:SndO r g):SndO (λx y H Q=>r x y H Q\/rBI f x y H Q) (gBI f g):=λC H B σ δ n x y p q Q Q' R rx ry h1 k=>by
 unfold gBI at h1
 split at h1
 ·rename_i b
  split at h1
  ·rename_i j;cases(show RdX H B x (.bool b)from rx);cases(show RdX H B y (.int j)from ry);exact .inr ⟨b,j,rfl,rfl,k _ _ H n R (Kp.refl _ _) (wd (.int _)) h1⟩
  ·exact h1.elim
 ·exact .inl (h C H B σ δ n x y _ q Q Q' R rx ry h1 k)
theorem j5j (ha:DE X a ta wa) (hb:DE X b tb wb) (hK:X.K=K:=by rfl):DE X (.BinOp a .Add b pos) (tOp (λx y H Q=>juk K x y H Q\/rBI (·+·) x y H Q) ta tb) (w2 wa wb (gBI (·+·) gAdd)):=by
 subst hK;exact d_op (op_addA.or jxt) (jy3 jqz) ha hb
theorem j5b (ha:DE X a ta wa) (hb:DE X b tb wb):DE X (.BinOp a .Sub b pos) (tOp (λx y H Q=>(rI0 λi j=>.int (i - j)) x y H Q\/rBI (· - ·) x y H Q) ta tb) (w2 wa wb (gBI (· - ·) (gI0 λi j=>.int (i - j)))):=d_op (op_sub.or jxr) (jy3 (jpp λ_ _ _ _=>.int _)) ha hb
def jx6:List Wv->Int->DQ->Prop:=λxs n Q=>match xs with
 |[.d (.bool b)]=>Q (.d (.str (if b then "True" else "False"))) n
 |xs=>gStr xs n Q
theorem jw2:SndB (λxs H Q=>rStr xs H Q\/j0s xs H Q) jx6:=λC H B σ δ n vs xs Q Q' R r h k=>by
 unfold jx6 at h
 split at h
 ·rename_i b
  match vs,r with
  |[_],.cons r1 .nil =>
   cases(show RdX H B _ (.bool b)from r1);exact .inr ⟨b,rfl,k _ _ H n R (Kp.refl _ _) (wd (.str _ (by cases b<;>exact jlw (by decide +kernel)))) h⟩
 ·exact .inl (j0d C H B σ δ n vs xs Q Q' R r h k)
theorem jsu:CallR X (.type "str") (λxs H Q=>rStr xs H Q\/j0s xs H Q):=call_strA.or jwa
end
end DL
namespace L2
open PySem PySem.Spec PyProof.Rows PySem.SeqAt
section
variable {X:Cx} {K:Ag}
def rT0 (K:Ag) (neg:Bool):R2:=λx y H Q=>∃a b xs,x=.ref a/\y=.ref b/\SqT K H a xs/\SqT K H b []/\Q (.bl (if neg then !xs.isEmpty else xs.isEmpty)) H
theorem j1e (hu:X.A.units < cLine) (hK:X.K=K:=by rfl):OpR X (Bt .NotEq) (rT0 K true):=by
 subst hK;intro pins s σ H x y v u Q I rx ry h;obtain⟨a,b,xs,rfl,rfl,ha,hb,q⟩:=h;cases(show v=Cb a from rx);cases(show u=Cb b from ry);obtain⟨its,r1,p1,_⟩:=I.tuple ha;obtain⟨its2,r2,p2,_⟩:=I.tuple hb;have e2:its2=[]:=Vals.zero r2;subst e2;refine RcNeAt.tuples (e:=λ_=>true) p1 p2 hu (λj h1 h2=>absurd h2 (by simp)) X.prog X.w X.xe _ ⟨.bl (!xs.isEmpty),H,I,?_,q⟩;cases r1<;>simp[RelV]
end
end L2
namespace DL
open PySem L2 Nb
section
variable {X:Cx} {K:Ag}
def gT0 (neg:Bool):Wv->Wv->Int->DQ->Prop:=λx y n Q=>match x,y with
 |.d (.tuple ds),.d (.tuple [])=>Q (.d (.bool (if neg then !ds.isEmpty else ds.isEmpty))) n
 |_,_=>False
theorem j25 {neg:Bool}:SndO (rT0 K neg) (gT0 neg):=λC H B σ δ n x y p q Q Q' R rx ry h1 k=>by
 unfold gT0 at h1
 split at h1
 ·rename_i ds;cases(show RdX H B x (.tuple ds)from rx)with
  |@tup ax xs _ e1 e2 e3 e4 =>
   cases(show RdX H B y (.tuple [])from ry)with
   |@tup ay ys _ f1 f2 f3 f4 =>
    cases f4;have:xs.isEmpty=ds.isEmpty:=by cases e4<;>rfl
    refine⟨ax,ay,xs,rfl,rfl,SqT.of e1,SqT.of f1,?_⟩;rw[this];exact k _ _ H n R (Kp.refl _ _) (wd (.bl _)) h1
 ·exact h1.elim
end
end DL
namespace L2
open PySem PySem.Spec PyProof.Rows
section
variable {prog:Br} {w:B4} {A:B9} {E:Af->Aj->Prop} {s:Aj}
theorem js4 {z TI TO i1 i2 l1 l2:Addr} {k:Nat} {xs ys:Array Af} {x a b:Af} {Q:Fin->Aj->Prop} (hh:A.handled=none) (D:ZipApart z TI TO i1 i2 l1 l2)
  (hz:IsZip s.heap z TI TO .none) (hTI:D5 s.heap TI (.ref i1) (.ref i2)) (hTO:D5 s.heap TO a b)
  (h1:s.heap.IsTupleIter i1 l1 k) (h2:s.heap.IsTupleIter i2 l2 k) (hl1:s.heap.IsTuple l1 xs) (hl2:s.heap.IsTuple l2 ys) (hx:xs[k]?=some x) (hy:ys[k]?=none)
  (hE:∀h' e,(∀c o,c≠z->c≠TO->c≠i1->c≠i2->s.heap.get? c=some o->h'.get? c=some o)->(∃o,h'.get? e=some o/\o.cls=.type "StopIteration")->E (.ref e) {s with heap:=h'}) :
  Az (Bb prog w) A (Dp.«zip.__next__» ⟨[.ref z],[]⟩) Q E s:=by
 show Az _ _ (field (.ref z) 2>>=_) _ _ _;refine Aa (Ce hz rfl (x:=.bool false) rfl ?_);show Az _ _ (field (.ref z) 3>>=_) _ _ _;refine Aa (Ce hz rfl (x:=.ref TI) rfl ?_);refine Aa (Cn hTI rfl ?_);show Az _ _ (Cg (.ref z)>>=_) _ _ _;refine Aa ?_;unfold Cg;refine Aa (Ce hz rfl (x:=.none) rfl (Ah ?_));simp only[if_true];refine Aa (Fy ?_);refine Aa (Ce hz rfl (x:=.ref TO) rfl ?_);refine Aa (D3 hz (by simp) λg1 hz1 s1=>?_)
 replace hz1:IsZip g1 z TI TO .ellipsis:=hz1
 refine Aa ?_;simp only[List.zipIdx_cons,List.zipIdx_nil,List.forIn_cons,List.forIn_nil];refine Aa (Aa (wpAny_onRaise ?_));show Az _ _ (Ca (.ref i1)>>=_) _ _ _;refine Aa (jbn (h1.extBut s1.extBut D.i1z) (hl1.extBut s1.extBut D.l1z) hx λg2 t2 s2=>Ah ?_);have p2:D5 g2 TO a b:=s2.extBut _ _ D.TOi1 (s1.extBut _ _ D.TOz hTO);refine Aa (Cn p2 rfl ?_);refine Aa (wpAny_updateSeq_pair p2 λg3 p3 s3=>?_)
 replace p3:D5 g3 TO x b:=p3
 refine Aa (wpAny_letGo (Ah ?_));refine Aa (Aa (wpAny_onRaise ?_));show Az _ _ (Ca (.ref i2)>>=_) _ _ _;refine Aa (jcc hh (((h2.extBut s1.extBut D.i2z).extBut s2.extBut D.i12.symm).extBut s3.extBut D.TOi2.symm)
  (((hl2.extBut s1.extBut D.l2z).extBut s2.extBut D.l2i1).extBut s3.extBut D.l2TO) hy λg4 e s4 he=>?_)
 obtain⟨oe,hoe,hce⟩:=he;have z4:IsZip g4 z TI TO .ellipsis:=s4 _ _ D.i2z.symm (s3.extBut _ _ D.TOz.symm (s2.extBut _ _ D.i1z.symm hz1));have hez:e≠z:=λx=>by subst x;rw[z4]at hoe;cases hoe;simp at hce
 refine D3 z4 (by simp) λg5 _ s5=>hE g5 e (λc o c1 c2 c3 c4 x=>s5.extBut _ _ c1 (s4 _ _ c4 (s3.extBut _ _ c2 (s2.extBut _ _ c3 (s1.extBut _ _ c1 x))))) ⟨oe,s5.extBut _ _ hez hoe,hce⟩
theorem jjv {z TI TO i1 i2 l1 l2:Addr} {k:Nat} {xs ys:Array Af} {x a b:Af} {Q:Option Af->Aj->Prop} (hh:A.handled=none) (D:ZipApart z TI TO i1 i2 l1 l2)
  (hz:IsZip s.heap z TI TO .none) (hTI:D5 s.heap TI (.ref i1) (.ref i2)) (hTO:D5 s.heap TO a b)
  (h1:s.heap.IsTupleIter i1 l1 k) (h2:s.heap.IsTupleIter i2 l2 k) (hl1:s.heap.IsTuple l1 xs) (hl2:s.heap.IsTuple l2 ys) (hx:xs[k]?=some x) (hy:ys[k]?=none)
  (hQ:∀h',(∀c o,c≠z->c≠TO->c≠i1->c≠i2->s.heap.get? c=some o->h'.get? c=some o)->Q none {s with heap:=h'}):Az (Bb prog w) A (Eg (.ref z)) Q E s:=by
 have hT:s.TypeIs (.ref z) "zip":=⟨_,hz,rfl⟩;unfold Eg;refine Aa (Ef (Bs (name:=Cm "__next__") hT Fh
  (B1 Fh hT F.entry_zip_next (js4 hh D hz hTI hTO h1 h2 hl1 hl2 hx hy λh' e hk he=>?_) (F.args_zip_next_1 _))))
 obtain⟨o,ho,hc⟩:=he;refine Aa (Fb (T:="StopIteration") (b:=true) ⟨o,ho,hc⟩ isSubtype_stop ?_);exact Ah (hQ _ hk)
end
def Itz2 (K:Ag) (a b:Addr):It :=
 ⟨λi H=>∃xs ys x y,SqT K H a xs/\SqT K H b ys/\xs[i]?=some x/\ys[i]?=some y,
  λi H v H'=>∃T x y,v=.ref T/\H T=none/\H'=upd H T (.tup [x,y])/\(∀xs,SqT K H a xs->xs[i]?=some x)/\∀ys,SqT K H b ys->ys[i]?=some y,
  λi H=>(∃xs,SqT K H a xs/\xs.length<=i)\/∃xs ys x,SqT K H a xs/\SqT K H b ys/\xs[i]?=some x/\ys.length<=i⟩
theorem js7 {P:Br} {w:B4} {K:Ag} {elts:List Expr} {kk:Nat} {pos:Pos} {a b z TI TO i1 i2:Addr} (D:ZipApart z TI TO i1 i2 a b):Turn P w K (.Tuple elts kk pos) (Itz2 K a b) [z,TI,TO,i1,i2] z
  (λi h=>IsZip h z TI TO .none/\D5 h TI (.ref i1) (.ref i2)/\(∃x y,D5 h TO x y)/\h.IsTupleIter i1 a i/\h.IsTupleIter i2 b i) where
 mem:=by simp
 obj:=λi h st c hc=>by
  obtain⟨hz,hI,⟨x,y,hO⟩,⟨o1,e1,c1,d1⟩,⟨o2,e2,c2,d2⟩⟩:=st;simp only[An,Aw,or_false]at hc;rcases hc with rfl | rfl | rfl | rfl | rfl
  ·exact⟨_,hz,λv q=>by have q':Data.fields _=Data.cell v:=q;cases q'⟩
  ·exact⟨_,hI,λv q=>by have q':Data.seq _ _=Data.cell v:=q;cases q'⟩
  ·exact⟨_,hO,λv q=>by have q':Data.seq _ _=Data.cell v:=q;cases q'⟩
  ·exact⟨o1,e1,λv q=>by rw[d1]at q;cases q⟩
  ·exact⟨o2,e2,λv q=>by rw[d2]at q;cases q⟩
 keep:=λi h h' st k=>by
  obtain⟨hz,hI,⟨x,y,hO⟩,h1,h2⟩:=st;exact⟨k z (by simp) _ hz,k TI (by simp) _ hI,⟨x,y,k TO (by simp) _ hO⟩,h1.at λo e=>k i1 (by simp) o e,h2.at λo e=>k i2 (by simp) o e⟩
 item:=by
  intro X hP hw hK hc i pins s σ H E I hf st hg;subst hP hw hK;obtain⟨hz,hI,⟨x0,y0,hO⟩,h1,h2⟩:=st;obtain⟨xs,ys,x,y,qa,qb,ex,ey⟩:=hg;obtain⟨its,rv,p,_⟩:=I.tuple qa;obtain⟨jts,rw',p',_⟩:=I.tuple qb;obtain⟨u,hu,ru⟩:=rv.get ex;obtain⟨u',hu',ru'⟩:=rw'.get ey;refine jju D hz hI hO h1 h2 (show s.heap.IsTuple a its.toArray from p) (show s.heap.IsTuple b jts.toArray from p') (x:=u) (y:=u') (by simpa using hu) (by simpa using hu') λh' a1 a2 a3 a4 a5 a6 a7=>⟨_,rfl,?_⟩;refine wpAny_letOwnedTupleGo_zip (s:={ s with heap:=h'}) a1 λh'' b1 b2=>?_;have T:h''.get? s.heap.objs.size=some {cls:=.type "tuple",data:=.seq #[u,u']}:=b2.extBut _ _ (E4 (Ao hz)) a5;have Tn:H s.heap.objs.size=none:=I.hok.fresh (Ar _);have kp:∀c o,c∉[z,TI,TO,i1,i2]->s.heap.get? c=some o->h''.get? c=some o:=λc o hc e=>by
   simp only[An,Aw,or_false,not_or]at hc;exact b2.extBut _ _ hc.1 (a7 c o hc.1 hc.2.2.1 hc.2.2.2.1 hc.2.2.2.2 e)
  refine⟨.ref s.heap.objs.size,upd H s.heap.objs.size (.tup [x,y]),I.many (t':=s.toks) hf kp (Ar _) ⟨by show 2<=Ax;decide,[u,u'],.cons ru (.cons ru' .nil),_,T,rfl,⟨_,rfl⟩,rfl⟩,rfl,⟨_,x,y,rfl,Tn,rfl,λzs q=>by rw[I.tuple_inj q qa];exact ex,λzs q=>by rw[I.tuple_inj q qb];exact ey⟩,
   ⟨b1,b2.extBut _ _ D.TIz (a7 _ _ D.TIz D.TITO D.TIi1 D.TIi2 hI),⟨_,_,b2.extBut _ _ D.TOz a2⟩,a3.extBut b2.extBut D.i1z,a4.extBut b2.extBut D.i2z⟩,λc hc=>?_⟩
  have hlt:c < s.heap.objs.size:=by
   simp only[An,Aw,or_false]at hc;rcases hc with rfl | rfl | rfl | rfl | rfl
   ·exact Ao hz
   ·exact Ao hI
   ·exact Ao hO
   ·obtain⟨_,e,_⟩:=h1;exact Ao e
   ·obtain⟨_,e,_⟩:=h2;exact Ao e
  rw[jag (Bd hlt)];exact(hf c hc).1
 done:=by
  intro X hP hw hK hc i pins s σ H E I hf st hg;subst hP hw hK;obtain⟨hz,hI,⟨x0,y0,hO⟩,h1,h2⟩:=st;rcases hg with⟨xs,hq,hx⟩ | ⟨xs,ys,x,qa,qb,ex,ey⟩
  ·obtain⟨its,rv,p,_⟩:=I.tuple hq;have hl:=rv.length;refine jls (I.ok.hd hc) D hz hI h1 (show s.heap.IsTuple a its.toArray from p) (by simp;omega) λh' k=>⟨rfl,I.many0 (t':=s.toks) hf λc o hc e=>?_⟩;simp only[An,Aw,or_false,not_or]at hc;exact k c o hc.1 hc.2.2.2.1 e
  ·obtain⟨its,rv,p,_⟩:=I.tuple qa;obtain⟨jts,rw',p',_⟩:=I.tuple qb;have hl:=rw'.length;obtain⟨u,hu,ru⟩:=rv.get ex;refine jjv (I.ok.hd hc) D hz hI hO h1 h2 (show s.heap.IsTuple a its.toArray from p) (show s.heap.IsTuple b jts.toArray from p') (x:=u) (by simpa using hu) (by simp;omega) λh' k=>⟨rfl,I.many0 (t':=s.toks) hf λc o hc e=>?_⟩;simp only[An,Aw,or_false,not_or]at hc;exact k c o hc.1 hc.2.2.1 hc.2.2.2.1 hc.2.2.2.2 e
 self:=λ_ _ _ _ _ st h=>wpAny_pyIter_zip st.1 h
def j4u (K:Ag) (ta:TA):TI:=λσ H R=>ta σ H λvs H1=>∃a b,vs=[.ref a,.ref b]/\(∃xs,SqT K H1 a xs)/\(∃ys,SqT K H1 b ys)/\R (Itz2 K a b) H1
theorem j0z {X:Cx} {elts:List Expr} {kk:Nat} {tpos:Pos} {e1 e2:Expr} {ta:TA} {p pos:Pos} (hg:Gl X "zip") (hm:X.mg "zip"=none) (ha:PA X [e1,e2] ta) (hs:A8 [e1,e2] X.env=[(false,eval e1 X.env),(false,eval e2 X.env)]:=by rfl) (hs2:A8 [e2] X.env=[(false,eval e2 X.env)]:=by rfl) :
  PI X (.Tuple elts kk tpos) (.Call (.Name "zip" p) [e1,e2] [] pos) (j4u X.K ta):=by
 intro pins s σ H R I h;refine Call_ (jku I hg hm j5m (Eh (thn (ha pos pins s σ H _ I h) λus s1 ⟨vs,H1,I1,r1,q1⟩=>?_) (by rw[hs,hs2]) (by rw[hs2];rfl)));obtain⟨a,b,e,⟨xs,qa⟩,⟨ys,qb⟩,q⟩:=q1;subst e;cases r1 with
 |cons r rr =>
  cases rr with
  |cons r' rr =>
   cases rr;cases r;cases r';obtain⟨its,rv,pp,_⟩:=I1.tuple qa;obtain⟨jts,rw',pp',_⟩:=I1.tuple qb;have la:a < s1.heap.objs.size:=by obtain⟨_,e,_⟩:=id pp;exact Ao e
   have lb:b < s1.heap.objs.size:=by obtain⟨_,e,_⟩:=id pp';exact Ao e
   refine jv9 (show s1.heap.IsTuple a its.toArray from pp) (show s1.heap.IsTuple b jts.toArray from pp') λh' a1 a2 a3 a4 a5 a6=>wpAny_pyIter_zip (s:={ s1 with heap:=h'}) a1 ?_;refine⟨_,_,_,_,H1,rfl,I1.kept (t':=s1.toks) a6,js7 (zipApart_new la lb),⟨a1,a2,⟨_,_,a3⟩,a4,a5⟩,λc hc=>?_,q⟩;have hlt:s1.heap.objs.size<=c:=by
    simp only[An,Aw,or_false]at hc;rcases hc with rfl | rfl | rfl | rfl | rfl<;>omega
   exact I1.fpOk hlt (I1.hok.fresh hlt)
end L2
namespace DL
open PySem L2 Nb
section
variable {X:Cx} {a b:Expr} {ta tb:TE} {wa wb:DT} {pos p:Pos} {K:Ag}
def jvp (w w':DT):DTI:=λδ n Q=>w δ n λx n1=>w' δ n1 λy n2=>match x,y with
 |.d (.tuple xs),.d (.tuple ys)=>ys.length<=xs.length/\Q (zipD xs ys) n2
 |_,_=>False
theorem j4q {elts:List Expr} {kk:Nat} {tpos:Pos} (hg:Gl X "zip") (hm:X.mg "zip"=none) (ha:DE X a ta wa) (hb:DE X b tb wb) (hK:X.K=K:=by rfl) (hs:A8 [a,b] X.env=[(false,eval a X.env),(false,eval b X.env)]:=by rfl) (hs2:A8 [b] X.env=[(false,eval b X.env)]:=by rfl)
  (he1:A8 [a,b] X.env=(false,eval a X.env)::A8 [b] X.env:=by rfl) (he2:A8 [b] X.env=(false,eval b X.env)::A8 [] X.env:=by rfl) :
  DI X (.Tuple elts kk tpos) (.Call (.Name "zip" p) [a,b] [] pos) (j4u K (jdi ta (jdi tb tNil))) (jvp wa wb):=by
 subst hK;refine⟨j0z hg hm (ja0 ha.pe (ja0 hb.pe jcg he2) he1) hs hs2,λC H B σ δ n Q Q' R q k=>ha.sd C H B σ δ n _ _ R q λv x H1 n1 R1 k1 r1 q1=>hb.sd C H1 B σ δ n1 _ _ R1 q1 λu y H2 n2 R2 k2 r2 q2=>?_⟩;have r1':=r1.kp k2 R1.bt
 split at q2
 ·rename_i xs ys;cases(show RdX H2 B v (.tuple xs)from r1')with
  |@tup aa vs _ e1 e2 e3 e4 =>
   cases(show RdX H2 B u (.tuple ys)from r2)with
   |@tup ab ws _ f1 f2 f3 f4 =>
    refine⟨aa,ab,rfl,⟨vs,SqT.of e1⟩,⟨ws,SqT.of f1⟩,k _ (zipD xs ys) H2 n2 R2 (k1.trans k2) (λfz th=>?_) q2.2⟩;have za:fz aa=some (.tup vs):=th.2 _ _ e1 e2;have zb:fz ab=some (.tup ws):=th.2 _ _ f1 f2;have lz:(zipD xs ys).length=ys.length:=by unfold zipD;rw[List.length_zipWith];have:=q2.1;omega
    have le:=q2.1;have l1:=e4.len;have l2:=f4.len;refine⟨by rw[lz,<-f4.len];exact f3,λi H hH hi=>?_,λH hH=>?_,λi H x H' d hH hd hy=>?_⟩
    ·rw[lz]at hi;have h1:i < vs.length:=by omega
     have h2:i < ws.length:=by omega
     exact⟨vs,ws,vs[i],ws[i],SqT.of (hH _ _ za),SqT.of (hH _ _ zb),Am h1,Am h2⟩
    ·by_cases hq:vs.length<=ws.length
     ·exact .inl ⟨vs,SqT.of (hH _ _ za),by rw[lz];omega⟩
     ·have hq':ws.length < vs.length:=by omega
      exact .inr ⟨vs,ws,vs[ws.length],SqT.of (hH _ _ za),SqT.of (hH _ _ zb),by rw[lz,<-l2];exact Am hq',by rw[lz,l2];exact Ar _⟩
    ·obtain⟨T,x1,y1,rfl,hT,rfl,hx,hy⟩:=hy;refine⟨λb o e=>by rw[jag (jae e hT)];exact e,λB' hB hBa=>?_⟩;have hi2:i < ys.length:=by rw[<-lz];exact(Bp.mp hd).1
     have hi:i < xs.length:=by omega
     have ed:d=.tuple [xs[i],ys[i]]:=by
      unfold zipD at hd;rw[List.getElem?_zipWith,Am hi,Am hi2]at hd;exact(Bo hd).symm
     subst ed;obtain⟨u1,hu1,ru1⟩:=e4.getD (Am hi);obtain⟨u2,hu2,ru2⟩:=f4.getD (Am hi2);have t1:=hx _ (SqT.of (hH _ _ za));have t2:=hy _ (SqT.of (hH _ _ zb));rw[hu1]at t1;rw[hu2]at t2;cases t1;cases t2;have mv:∀b o,H2 b=some o->¬B b->upd H T (.tup [x1,y1]) b=some o/\¬B' b:=λb o e ne=>by
      have:=hH _ _ (th.2 _ _ e ne);exact⟨by rw[jag (jae this hT)];exact this,hB _ _ (th.2 _ _ e ne)⟩
     exact .tup jai (λz=>hBa T z hT) (by show 2<=Ax;decide) (.cons (ru1.move mv) (.cons (ru2.move mv) .nil))
 ·exact q2.elim
end
end DL
namespace L2
open PySem PySem.Spec PyProof.Rows
def j0v (K:Ag):R2:=λx y H Q=>∃a b ys,x=.ref a/\y=.ref b/\SqT K H a []/\SqT K H b ys/\Q (.ref b) H
theorem j1g {X:Cx}:OpR X (Dr .Add) (j0v X.K):=by
 intro pins s σ H x y v u Q I rx ry h;obtain⟨a,b,ys,rfl,rfl,ha,hb,q0⟩:=h;cases(show v=Cb a from rx);cases(show u=Cb b from ry);obtain⟨its,r1,p1,_⟩:=I.tuple ha;obtain⟨its2,r2,p2,_⟩:=I.tuple hb;obtain⟨⟨cls,dd,data,sl⟩,ho,hc,n,hd⟩:=id p1;obtain⟨⟨cls2,dd2,data2,sl2⟩,ho2,hc2,n2,hd2⟩:=id p2;simp only at hc hd hc2 hd2;subst hc hd hc2 hd2;have hi:its=[]:=r1.nil_iff.mpr rfl;exact concat_meets ⟨_,ho,rfl⟩ ⟨_,ho2,rfl⟩ noFill_tuple_add seq_tuple_add Fd E8 (E3 _ _)
  (tuple_addW0 a b its.toArray its2.toArray n n2 dd dd2 sl sl2 (by simp[hi])) ⟨ho,ho2,⟨.ref b,H,I,rfl,q0⟩⟩
end L2
namespace DL
open PySem L2 Nb
section
variable {X:Cx} {a b:Expr} {ta tb:TE} {wa wb:DT} {pos p:Pos} {K:Ag}
def jcj:Wv->Wv->Int->DQ->Prop:=λx y n Q=>match x,y with
 |.d (.tuple []),.d (.tuple j)=>Q (.d (.tuple j)) n
 |x,y=>gAdd x y n Q
theorem jw7:SndO (λx y H Q=>juk K x y H Q\/j0v K x y H Q) jcj:=λC H B σ δ n x y p q Q Q' R rx ry h1 k=>by
 unfold jcj at h1
 split at h1
 ·rename_i j;cases(show RdX H B x (.tuple [])from rx)with
  |@tup ax xs _ e1 e2 e3 e4 =>
   cases(show RdX H B y (.tuple j)from ry)with
   |@tup ay ys _ f1 f2 f3 f4 =>
    cases e4;exact .inr ⟨ax,ay,ys,rfl,rfl,SqT.of e1,SqT.of f1,k _ _ H n R (Kp.refl _ _) (wd (show RdX H B _ (.tuple j)from .tup f1 f2 f3 f4)) h1⟩
 ·exact .inl (jqz C H B σ δ n x y _ _ Q Q' R rx ry h1 k)
theorem j5i (ha:DE X a ta wa) (hb:DE X b tb wb) (hK:X.K=K:=by rfl):DE X (.BinOp a .Add b pos) (tOp (λx y H Q=>juk K x y H Q\/j0v K x y H Q) ta tb) (w2 wa wb jcj):=by
 subst hK;exact d_op (op_addA.or j1g) jw7 ha hb
end
end DL
namespace L2
open PySem PySem.Spec PyProof.Rows
end L2
namespace DL
open PySem L2 Nb
end DL
namespace L2
open PySem PySem.Spec PyProof.Rows
end L2
namespace DL
open PySem L2 Nb
end DL
namespace L2
open PySem PySem.Spec PyProof.Rows
end L2
namespace DL
open PySem L2 Nb
end DL
namespace L2
open PySem PySem.Spec PyProof.Rows
section
variable {X:Cx} {e st:Expr} {te ts:TE} {pos p2:Pos}
def jy6:List V->Hp->VK->Prop:=λxs H Q=>∃b,xs=[.bl b]/\Q (.str (if b then "True" else "False")) H
theorem jsv:CallR X (.builtin "repr") jy6:=by
 intro pins s σ H xs us Q I r h;obtain⟨b,rfl,q⟩:=h;obtain⟨u,rfl,ru⟩:=jht r;cases ru;exact P.repr_of_bool ⟨.str _,H,I.tok _,⟨_,rfl⟩,q⟩
end
end L2
namespace DL
open PySem L2 Nb
section
variable {X:Cx} {e:Expr} {te:TE} {we:DT} {pos p p2 p3 p4:Pos} {K:Ag}
def j8a (w:DT):DT:=λδ n Q=>w δ n λx n1=>match x with
 |.d (.list ds)=>Q (.d (.list ds.reverse)) n1
 |_=>False
def jbp:List Wv->Int->DQ->Prop:=λxs n Q=>match xs with
 |[.d (.bool b)]=>Q (.d (.str (if b then "True" else "False"))) n
 |_=>False
theorem jt4:SndB jy6 jbp:=λC H B σ δ n vs xs Q Q' R r h k=>by
 unfold jbp at h
 split at h
 ·rename_i b;cases r with
  |cons r1 r2 =>
   cases r2;cases(show RdX H B _ (.bool b)from r1);exact⟨b,rfl,k _ _ H n R (Kp.refl _ _) (wd (.str _ (by cases b<;>exact jlw (by decide +kernel)))) h⟩
 ·exact h.elim
end
theorem j5h {X:Cx} {a b:Expr} {ta tb:TE} {wa wb:DT} {pos:Pos} (ha:DE X a ta wa) (hb:DE X b tb wb):DE X (.BinOp a .Add b pos) (tOp (rI0 λi j=>.int (i+j)) ta tb) (w2 wa wb (gI0 λi j=>.int (i+j))):=d_op op_add (jpp λ_ _ _ _=>.int _) ha hb
section
variable {X:Cx} {a b e o i f:Expr} {ta tb te td ty:TE} {wa wb we wd' wy:DT} {pos p p2:Pos} {K:Ag}
def jj9 (k:Int) (xs:List Ab):List Ab:=xs.zipIdx.map λq=>.tuple [.int (k+q.2),q.1]
theorem jij {k:Int} {xs:List Ab}:(jj9 k xs).length=xs.length:=by unfold jj9;rw[Ai,List.length_zipIdx]
theorem jvw {k:Int} {xs:List Ab} {i:Nat} {d:Ab} (h:(jj9 k xs)[i]?=some d):∃x,xs[i]?=some x/\d=.tuple [.int (k+i),x]:=by
 unfold jj9 at h;rw[Ba,List.getElem?_zipIdx]at h;cases e:xs[i]? with
 |none=>rw[e]at h;cases h
 |some x =>
  rw[e]at h;refine⟨x,rfl,?_⟩;have:=Bo h;rw[<-this,Nat.zero_add]
theorem jkw {k:Int} {x:Ab} {xs:List Ab}:jj9 k (x::xs)=.tuple [.int k,x]::jj9 (k+1) xs:=by
 refine List.ext_getElem? λi=>?_;unfold jj9;cases i with
 |zero=>rw[List.zipIdx_cons,A7,Au,Au,Int.natCast_zero,Int.add_zero]
 |succ i =>
  rw[Ay,Ba,Ba,List.getElem?_zipIdx,List.getElem?_zipIdx,Ay];cases xs[i]? with
  |none=>rfl
  |some y =>
   show some (Bz [.int (k+(0+(i+1):Nat)),y])=some (.tuple [.int (k+1+(0+i:Nat)),y]);have:k+(0+(i+1):Nat)=k+1+(0+i:Nat):=by omega
   rw[this]
def jvq (w:DT):DTI:=λδ n Q=>w δ n λx n1=>∃xs,x=.d (.tuple xs)/\Q (jj9 0 xs) n1
theorem j4t {elts:List Expr} {kk:Nat} {tpos:Pos} (hg:Gl X "enumerate") (hm:X.mg "enumerate"=none) (ha:DE X a ta wa) (hK:X.K=K:=by rfl) (hs:A8 [a] X.env=[(false,eval a X.env)]:=by rfl) (he1:A8 [a] X.env=(false,eval a X.env)::A8 [] X.env:=by rfl) :
  DI X (.Tuple elts kk tpos) (.Call (.Name "enumerate" p) [a] [] pos) (j4w K (jdi ta tNil)) (jvq wa):=by
 subst hK;refine⟨j01 hg hm (ja0 ha.pe jcg he1) hs,λC H B σ δ n Q Q' R q k=>ha.sd C H B σ δ n _ _ R q λv x H1 n1 R1 k1 r1 q1=>?_⟩;obtain⟨xs,rfl,q2⟩:=q1;cases(show RdX H1 B v (.tuple xs)from r1)with
 |@tup aa vs _ e1 e2 e3 e4 =>
  refine⟨aa,rfl,⟨vs,SqT.of e1⟩,k _ (jj9 0 xs) H1 n1 R1 k1 (λfz th=>?_) q2⟩;have za:fz aa=some (.tup vs):=th.2 _ _ e1 e2;refine⟨by rw[jij,<-e4.len];exact e3,λi H hH hi=>?_,λH hH=>?_,λi H x H' d hH hd hy=>?_⟩
  ·rw[jij]at hi;have h1:i < vs.length:=by rw[e4.len];exact hi
   exact⟨vs,vs[i],SqT.of (hH _ _ za),Am h1⟩
  ·exact⟨vs,SqT.of (hH _ _ za),by rw[jij,e4.len]⟩
  ·obtain⟨T,x1,rfl,hT,rfl,hx⟩:=hy;refine⟨λb o e=>by rw[jag (jae e hT)];exact e,λB' hB hBa=>?_⟩;obtain⟨y,hy,rfl⟩:=jvw hd;obtain⟨u1,hu1,ru1⟩:=e4.getD hy;have t1:=hx _ (SqT.of (hH _ _ za));rw[hu1]at t1;cases t1;have mv:∀b o,H1 b=some o->¬B b->upd H T (.tup [.int i,x1]) b=some o/\¬B' b:=λb o e ne=>by
    have:=hH _ _ (th.2 _ _ e ne);exact⟨by rw[jag (jae this hT)];exact this,hB _ _ (th.2 _ _ e ne)⟩
   rw[Int.zero_add];exact .tup jai (λz=>hBa T z hT) (by show 2<=Ax;decide) (.cons (.int _) (.cons (ru1.move mv) .nil))
end
end DL
namespace L2
open PySem PySem.Spec PyProof.Rows
end L2
namespace DL
open PySem L2 Nb
end DL
namespace L2
open PySem PySem.Spec PyProof.Rows
end L2
namespace DL
open PySem L2 Nb
end DL
namespace L2
open PySem PySem.Spec
end L2
namespace L2
open PySem PySem.Spec PyProof.Rows
theorem jqj:By "list"=some (.type "list"):=by decide +kernel
end L2
namespace DL
open PySem L2 Nb
end DL
namespace L2
open PySem PySem.Spec
theorem jcb:fillsNumberSlot (.type "tuple") "mul"=pure false :=
 fillsNumberSlot_seq (id:="tuple.__mul__") (r:=some (.builtin "tuple.__rmul__")) F.slot_tuple_mul.lookup (by decide +kernel) F.slot_tuple_rmul.lookup (by decide +kernel)
theorem jdo:seqRepeat? (.type "tuple")=pure (some (.builtin "tuple.__mul__")):=by
 unfold seqRepeat?;rw[seqSlot_of (T:="tuple") (name:="__mul__") (id:="tuple.__mul__") F.slot_tuple_mul.lookup (by decide +kernel),seqSlot_of (T:="tuple") (name:="__rmul__") (id:="tuple.__rmul__") F.slot_tuple_rmul.lookup (by decide +kernel)];rfl
theorem jcz (a:Int) (t:Tok) (l:Addr) (items:Array Af) (n:Nat) (dd:Option Addr) (sl:Array (Option Af)) :
  Meets (Dp.«int.__rmul__» ⟨[.int a t,.ref l],[]⟩) (λ_ R s=>s.heap.get? l=some {cls:=.type "tuple",dict:=dd,data:=.seq items n,slots:=sl}/\R (.ok (.ret Value.notImplemented)) s) :=
 .of_wp λprog w A R s h=>by
  obtain⟨hp,g,d,tk,os⟩:=s;obtain⟨hl,h⟩:=h
  wp_walk
  exact⟨_,rfl,h⟩
theorem jlu (l:Addr) (items:Array Af) (m:Nat) (dd:Option Addr) (sl:Array (Option Af)) (k:Int) (t:Tok) (he:items.isEmpty=false) (h2:2<=k) (hk:k < 2 ^ 63) (hm:¬((items.size:Int)*k > (2 ^ 63 - 1) / 8)) (ht:Builtin.Tuple.tupleTooMany ((items.size:Int)*k)=false) (hf:¬((Av k.toNat items).foldl (·++·) #[]).size > Ax) :
  Meets (Dp.«tuple.__mul__» ⟨[.ref l,.int k t],[]⟩) (λ_ R s=>s.heap.get? l=some {cls:=.type "tuple",dict:=dd,data:=.seq items m,slots:=sl} /\
   R (.ok (.ret (.ref s.heap.objs.size))) {s with heap:=s.heap.push {cls:=.type "tuple",data:=.seq ((Av k.toNat items).foldl (·++·) #[])}}) :=
 .of_wp λprog w A R s h=>by
  obtain⟨hp,g,d,tk,os⟩:=s;obtain⟨hl,h⟩:=h
  wp_walk
  have c1:¬((decide (k < -2 ^ 63) || decide (k ≥ 2 ^ 63))=true):=by simp;omega
  have c2:¬((items.isEmpty || k==1)=true):=by simp[he];omega
  have c3:¬((decide (k<=0) || items.isEmpty)=true):=by simp[he];omega
  rw[if_neg c1];refine Aa ?_;unfold Dn;refine Aa (Cn hl rfl (Ah ?_));rw[if_neg c2];simp only[if_neg c3,if_neg hm,ht,Bf,if_false]
  wp_walk
  exact⟨_,rfl,h⟩
section
variable {X:Cx}
def j3j (K:Ag):R2:=λx y H Q=>∃l k xs,x=.ref l/\y=.int k/\SqT K H l xs/\xs≠[]/\2<=k/\k<=1000/\xs.length<=1000 /\
 ∀p,H p=none->Q (.ref p) (upd H p (.tup (Av k.toNat xs).flatten))
theorem j1a:OpR X (Dr .Mult) (j3j X.K):=by
 intro pins s σ H x y v u Q I rx ry h;obtain⟨l,k,xs,rfl,rfl,hH,hne,h2,h3,hz,q⟩:=h;cases rx;obtain⟨t,rfl⟩:=ry;obtain⟨its,r,⟨o,e,hc,n,hd⟩,z⟩:=I.tuple hH;obtain⟨c,dd,da,sl⟩:=o;cases hc;cases hd;have hl:=r.length;have h0:its.length≠0:=λz=>hne (Cp (by omega));have hs:its.toArray.size=its.length:=Aq;have f0:List.foldl (λx1 x2=>x1++x2) #[] (Av k.toNat its.toArray)=(Av k.toNat its).flatten.toArray:=by
  have:=jn8 its k.toNat [];rw[Cu]at this;exact this
 have hfl:(Av k.toNat its).flatten.length<=1000*1000:=by
  rw[jp4];exact Nat.mul_le_mul (by omega) (by omega)
 have hmul:(its.toArray.size:Int)*k<=1000*1000:=Int.mul_le_mul (by omega) h3 (by omega) (by omega);have hsl:(1000*1000:Nat)<=Ax:=by decide
 refine Ga (T:="tuple") (U:="int") (by decide) ⟨_,e,rfl⟩ (λs'=>typeIs_int s' k t) jcb F.fills_int_mul Fi jdo F.slot_int_index.lookup
  (Fn Fi (typeIs_int s k t) F.entry_int_rmul (F.args_int_rmul_2 _ _) (jcz k t l its.toArray n dd sl)
   ⟨e,rfl,⟨_,e,rfl⟩,Fn F.slot_tuple_mul ⟨_,e,rfl⟩ F.entry_tuple_mul (F.args_tuple_mul_2 _ _) (jlu l its.toArray n dd sl k t (by cases its with | nil=>exact absurd rfl h0 | cons a b=>rfl) h2 (by omega) (by omega) (decide_eq_false (by omega)) (by rw[f0,Aq];omega)) ⟨e,?_⟩⟩)
 rw[f0];have T:(s.heap.push {cls:=.type "tuple",data:=.seq (Av k.toNat its).flatten.toArray}).get? s.heap.objs.size=some {cls:=.type "tuple",data:=.seq (Av k.toNat its).flatten.toArray}:=As _ rfl;refine⟨.ref _,_,I.laid (t':=s.toks) (o:=.tup (Av k.toNat xs).flatten) (λb ob q=>Ae _ q) (Ar _) ⟨by rw[jp4];exact Bw (Nat.mul_le_mul (by omega) hz) hsl,_,r.rep k.toNat,⟨_,T,rfl,⟨_,rfl⟩,rfl⟩⟩,rfl,q _ (I.hok.fresh (Ar _))⟩
end
theorem jp2 (l:Addr) (items:Array Af) (m:Nat) (dd:Option Addr) (sl:Array (Option Af)) (k:Int) (t:Tok) (he:items.isEmpty=false) (h0:k<=0) (hk:-2 ^ 62<=k) :
  Meets (Dp.«tuple.__mul__» ⟨[.ref l,.int k t],[]⟩) (λ_ R s=>s.heap.get? l=some {cls:=.type "tuple",dict:=dd,data:=.seq items m,slots:=sl} /\
   R (.ok (.ret (.ref s.heap.objs.size))) {s with heap:=s.heap.push {cls:=.type "tuple",data:=.seq #[]}}) :=
 .of_wp λprog w A R s h=>by
  obtain⟨hp,g,d,tk,os⟩:=s;obtain⟨hl,h⟩:=h
  wp_walk
  have c1:¬((decide (k < -2 ^ 63) || decide (k ≥ 2 ^ 63))=true):=by simp;omega
  have c2:¬((items.isEmpty || k==1)=true):=by simp[he];omega
  have c3:(decide (k<=0) || items.isEmpty)=true:=by simp[h0]
  rw[if_neg c1];refine Aa ?_;unfold Dn;refine Aa (Cn hl rfl (Ah ?_));rw[if_neg c2];simp only[if_pos c3]
  wp_walk
  exact⟨_,rfl,h⟩
theorem jp1 (l:Addr) (items:Array Af) (m:Nat) (dd:Option Addr) (sl:Array (Option Af)) (t:Tok) :
  Meets (Dp.«tuple.__mul__» ⟨[.ref l,.int 1 t],[]⟩) (λ_ R s=>s.heap.get? l=some {cls:=.type "tuple",dict:=dd,data:=.seq items m,slots:=sl} /\
   R (.ok (.ret (.ref l))) s) :=
 .of_wp λprog w A R s h=>by
  obtain⟨hp,g,d,tk,os⟩:=s;obtain⟨hl,h⟩:=h
  wp_walk
  exact⟨_,rfl,h⟩
section
variable {X:Cx}
def j3k (K:Ag):R2:=λx y H Q=>j3j K x y H Q\/∃l k xs,x=.ref l/\y=.int k/\SqT K H l xs/\xs≠[]/\((k=1/\Q (.ref l) H)\/(k<=0/\-1000<=k/\∀p,H p=none->Q (.ref p) (upd H p (.tup []))))
theorem j1b:OpR X (Dr .Mult) (j3k X.K):=by
 intro pins s σ H x y v u Q I rx ry h;rcases h with h | h
 ·exact j1a pins s σ H x y v u Q I rx ry h
 obtain⟨l,k,xs,rfl,rfl,hH,hne,h⟩:=h;cases rx;obtain⟨t,rfl⟩:=ry;obtain⟨its,r,⟨o,e,hc,n,hd⟩,z⟩:=I.tuple hH;obtain⟨c,dd,da,sl⟩:=o;cases hc;cases hd;have hl:=r.length;have h0:its.length≠0:=λz=>hne (Cp (by omega));rcases h with⟨rfl,q⟩ | ⟨h1,h2,q⟩
 ·exact Ga (T:="tuple") (U:="int") (by decide) ⟨_,e,rfl⟩ (λs'=>typeIs_int s' 1 t) jcb F.fills_int_mul Fi jdo F.slot_int_index.lookup
   (Fn Fi (typeIs_int s 1 t) F.entry_int_rmul (F.args_int_rmul_2 _ _) (jcz 1 t l its.toArray n dd sl)
    ⟨e,rfl,⟨_,e,rfl⟩,Fn F.slot_tuple_mul ⟨_,e,rfl⟩ F.entry_tuple_mul (F.args_tuple_mul_2 _ _) (jp1 l its.toArray n dd sl t) ⟨e,⟨.ref l,H,I,rfl,q⟩⟩⟩)
 ·refine Ga (T:="tuple") (U:="int") (by decide) ⟨_,e,rfl⟩ (λs'=>typeIs_int s' k t) jcb F.fills_int_mul Fi jdo F.slot_int_index.lookup
   (Fn Fi (typeIs_int s k t) F.entry_int_rmul (F.args_int_rmul_2 _ _) (jcz k t l its.toArray n dd sl)
    ⟨e,rfl,⟨_,e,rfl⟩,Fn F.slot_tuple_mul ⟨_,e,rfl⟩ F.entry_tuple_mul (F.args_tuple_mul_2 _ _) (jp2 l its.toArray n dd sl k t (by cases its with | nil=>exact absurd rfl h0 | cons a b=>rfl) h1 (by omega)) ⟨e,?_⟩⟩)
  have T:(s.heap.push {cls:=.type "tuple",data:=.seq #[]}).get? s.heap.objs.size=some {cls:=.type "tuple",data:=.seq #[]}:=As _ rfl;exact⟨.ref _,_,I.laid (t':=s.toks) (o:=.tup []) (λb ob q=>Ae _ q) (Ar _) ⟨Bj _,[],.nil,⟨_,T,rfl,⟨_,rfl⟩,rfl⟩⟩,rfl,q _ (I.hok.fresh (Ar _))⟩
end
end L2
namespace DL
open PySem L2 Nb
section
variable {X:Cx} {a b:Expr} {ta tb:TE} {wa wb:DT} {pos:Pos} {K:Ag}
theorem juf {H:Hp} {B:Addr->Prop} {xs:List V} {ds:List Ab} (h:RdXs H B xs ds):∀k:Nat,RdXs H B (Av k xs).flatten (Av k ds).flatten
 |0=>.nil
 |k+1=>by
  rw[Dd,Dd,D6,D6];exact h.append (juf h k)
end
end DL
namespace Nb
open PySem L2 DL
def spJ (g:Ab->Bool):DSp:=λws n Q=>match ws with
 |[.d d]=>Q (.d (.bool (g d))) n
 |_=>False
theorem jav {g:Ab->Bool} {ws:List Wv} {n:Int} {Q:DQ} (h:spJ g ws n Q):ws.length=1:=by
 unfold spJ at h
 split at h
 ·rfl
 ·exact h.elim
def okS (c:Nat):Bool:=!decide ([c] < ("a":Str).cps.toList)&&!decide (("z":Str).cps.toList < [c])
def letB (k:Int):Ab->Bool
 |.str x=>decide ((1:Int)<=(x.length:Int))&&(decide ((x.length:Int)<=k)&&x.cps.toList.all okS)
 |_=>false
def jcr:DSp:=λws n Q=>match ws with
 |[.d d,.d (.int k)]=>Q (.d (.bool (letB k d))) n
 |_=>False
def jdl:Ab->Bool
 |.int _=>true
 |_=>false
def jnt (lo hi:Int):Ab->Bool
 |.int i=>decide (lo<=i)&&decide (i<=hi)
 |_=>false
abbrev numB:Ab->Bool:=jnt 0 99
def jbk (d:Ab):Bool:=letB 8 d || numB d
def rowB:Ab->Bool
 |.tuple ds=>decide ((1:Int)<=(ds.length:Int))&&(decide ((ds.length:Int)<=4)&&ds.all jbk)
 |_=>false
def ageB (d:Ab):Bool:=jcl d || jnt 1 20 d
def jca:Ab->Bool
 |.tuple [a,b]=>rowB a&&ageB b
 |_=>false
theorem jfn {w:DT} {Q:List Ab->Int->Prop} {rest:Sl} (P:Ab->Prop) (f:Ab->Ab) (h:∀d n Q',P d->Q' (.d (f d)) n->w (some (.w (.d d))::rest) n Q'):∀(items acc:List Ab) (x:Option SV) (n:Int),(∀d∈items,P d)->Q (acc++items.map f) n->jbm (jad 0) cYes w Q items acc (x::rest) n
 |[],acc,x,n,hP,q=>by
  rw[Bk,B7]at q;exact q
 |d::r,acc,x,n,hP,q=>by
  simp only[jbm,jad,cYes,if_true,A4];refine h d n _ (hP d A5) ?_;refine jfn P f h r (acc++[f d]) _ n (λe he=>hP e (A1 _ he)) ?_;rw[Bn];exact q
theorem jb8 {c:DTT} {w:DT} {Q:List Ab->Int->Prop} {rest:Sl} (P:Ab->Prop) (p:Ab->Bool) (f:Ab->Ab) (hp:∀d n Q',P d->Q' (p d) n->c (some (.w (.d d))::rest) n Q') (h:∀d n Q',P d->Q' (.d (f d)) n->w (some (.w (.d d))::rest) n Q') :
  ∀(items acc:List Ab) (x:Option SV) (n:Int),(∀d∈items,P d)->Q (acc++(items.filter p).map f) n->jbm (jad 0) c w Q items acc (x::rest) n
 |[],acc,x,n,hP,q=>by
  rw[List.filter_nil,Bk,B7]at q;exact q
 |d::r,acc,x,n,hP,q=>by
  simp only[jbm,jad,A4];refine hp d n _ (hP d A5) ?_;cases e:p d with
  |true =>
   rw[if_pos rfl];refine h d n _ (hP d A5) ?_;refine jb8 P p f hp h r (acc++[f d]) _ n (λe he=>hP e (A1 _ he)) ?_;rw[List.filter_cons_of_pos e]at q;rw[Bn];exact q
  |false =>
   rw[if_neg Al];refine jb8 P p f hp h r acc _ n (λe he=>hP e (A1 _ he)) ?_;rw[List.filter_cons_of_neg (by rw[e];exact Al)]at q;exact q
def isCh (d:Ab):Prop:=∃c:Nat,d=.str ⟨#[c]⟩
theorem jrj (x:Str):∀d∈jcm x,isCh d:=λd hd=>by
 obtain⟨c,_,rfl⟩:=Cc.mp hd;exact⟨c,rfl⟩
def okD:Ab->Bool
 |.str y=>!decide (y.cps.toList < ("a":Str).cps.toList)&&!decide (("z":Str).cps.toList < y.cps.toList)
 |_=>false
theorem ju9 (x:Str):(jcm x).all okD=x.cps.toList.all okS:=by
 unfold jcm;rw[Dj];rfl
theorem jc5 {α:Type} (f:α->Bool):∀l:List α,jb0 (l.map λa=>.bool (f a))=some (l.map f)
 |[]=>rfl
 |a::r=>by
  show(jb0 (r.map λa=>.bool (f a))).map _=_;rw[jc5 f r];rfl
theorem jwh {α:Type} (f:α->Bool) (l:List α):(l.map f).all id=l.all f:=by
 rw[Dj];rfl
theorem jgu {α β:Type} (p:α->Bool) (f:α->β) (l:List α):((l.filter p).map f).isEmpty=l.all λa=>!p a:=by
 induction l with
 |nil=>rfl
 |cons a r ih =>
  cases e:p a with
  |true=>rw[List.filter_cons_of_pos e,Fv,e];rfl
  |false=>rw[List.filter_cons_of_neg (by rw[e];exact Al),Fv,e,ih];rfl
theorem jmo {α:Type} {xs:List α} {r:Int} (h0:0<=r) (h1:r < xs.length):∃v,atI xs r=some v/\v∈xs:=by
 obtain⟨j,rfl⟩:=Int.eq_ofNat_of_zero_le h0;have hj:j < xs.length:=by omega
 exact⟨xs[j],jbs (Am hj),Ez hj⟩
end Nb
namespace DL
open PySem L2 Nb
section
variable {X:Cx} {a b:Expr} {ta tb:TE} {wa wb:DT} {pos:Pos} {K:Ag}
def js6 (wa wb:DT):DT:=λδ n Q=>wa δ n λx n1=>wb δ n1 λy n2=>∃(ds:List Ab) (k:Int),x=.d (.tuple ds)/\y=.d (.int k)/\ds≠[]/\-1000<=k/\k<=1000/\ds.length<=1000/\Q (.d (.tuple (Av k.toNat ds).flatten)) n2
theorem j5c (ha:DE X a ta wa) (hb:DE X b tb wb) (hK:X.K=K:=by rfl):DE X (.BinOp a .Mult b pos) (tOp (j3k K) ta tb) (js6 wa wb):=by
 subst hK;refine⟨jci j1b ha.pe hb.pe,λC H B σ δ n Q Q' R z k=>ha.sd C H B σ δ n _ _ R z λv x H1 n1 R1 k1 r1 q1=>hb.sd C H1 B σ δ n1 _ _ R1 q1 λu y H2 n2 R2 k2 r2 q2=>?_⟩;obtain⟨ds,m,rfl,rfl,hne,h2,h3,hl,kq⟩:=q2;cases(show RdX H2 B u (.int m)from r2);have r1':RdX H2 B v (.tuple ds):=r1.kp k2 R1.bt;cases r1' with
 |@tup l xs _ e1 e2 e3 e4 =>
  have len:=e4.len;have hx:xs≠[]:=λz=>hne (by rw[z]at len;exact Cp len.symm);by_cases c2:2<=m
  ·refine .inl ⟨l,m,xs,rfl,rfl,SqT.of e1,hx,c2,h3,by omega,λD hD=>?_⟩;have nB:=R2.nb hD;refine k _ (.d (.tuple (Av m.toNat ds).flatten)) _ n2 (R2.new hD) ((k1.trans k2).trans (Kp.new hD)) (show RdX _ B (.ref D) (.tuple (Av m.toNat ds).flatten)from .tup jai nB ?_ (RdXs.keep (λb o e _=>by rw[jag (jae e hD)];exact e) (juf e4 m.toNat))) kq;rw[jp4];exact Bw (Nat.mul_le_mul (show m.toNat<=1000 by omega) (show xs.length<=1000 by omega)) (by decide)
  ·refine .inr ⟨l,m,xs,rfl,rfl,SqT.of e1,hx,?_⟩;by_cases c1:m=1
   ·subst c1;refine .inl ⟨rfl,?_⟩;have e:(Av (1:Int).toNat ds).flatten=ds:=by simp
    rw[e]at kq;exact k _ (.d (.tuple ds)) _ n2 R2 (k1.trans k2) (show RdX H2 B (.ref l) (.tuple ds)from .tup e1 e2 e3 e4) kq
   ·refine .inr ⟨by omega,h2,λD hD=>?_⟩;have e:(Av m.toNat ds).flatten=[]:=by rw[show m.toNat=0 by omega];rfl
    rw[e]at kq;exact k _ (.d (.tuple [])) _ n2 (R2.new hD) ((k1.trans k2).trans (Kp.new hD)) (show RdX _ B (.ref D) (.tuple [])from .tup jai (R2.nb hD) (Bj _) .nil) kq
end
end DL
namespace Nb
open PySem L2 DL
theorem jbb (d:Ab):isiB "int" d=match d with | .int _=>true | .bool _=>true | _=>false:=by cases d<;>rfl
theorem jax (d:Ab):isiB "bool" d=match d with | .bool _=>true | _=>false:=by cases d<;>rfl
theorem jba (d:Ab):isiB "str" d=match d with | .str _=>true | _=>false:=by cases d<;>rfl
theorem jal (d:Ab):isiB "tuple" d=match d with | .tuple _=>true | _=>false:=by cases d<;>rfl
theorem jaw (d:Ab):isiB "list" d=match d with | .list _=>true | _=>false:=by cases d<;>rfl
theorem jbz {W:DST} {g:Ab->Bool} {N:List Str} (h:∀d n K,K.rt (.d (.bool (g d))) n->W (jah N [.d d]) n K):∀ws n Q,spJ g ws n Q->W (jah N ws) n {nx:=λ_ n=>Q (.d .none) n,rt:=Q}:=λws n Q q=>by
 unfold spJ at q
 split at q
 ·exact h _ n _ q
 ·exact q.elim
theorem ifb {b:Bool} {A B:Prop} (h1:b=true->A) (h2:b=false->B):if b=true then A else B:=by
 cases b with
 |true=>rw[if_pos rfl];exact h1 rfl
 |false=>rw[if_neg Al];exact h2 rfl
theorem jh7 {a b:Bool} {A:Prop} {F:Bool->Prop} (h:F (a || b)) (hA:F b->A):if a=true then F true else A:=by
 cases a with
 |true=>exact h
 |false=>exact hA h
theorem jek {a b:Bool} {A:Prop} {F:Bool->Prop} (h:F (a&&b)) (hA:a=true->F b->A):if a=true then A else F false:=by
 cases a with
 |true=>exact hA rfl h
 |false=>exact h
theorem jkr {lo hi:Int} {d:Ab} {n:Int} {Q:DQ} (k:Q (.d (.bool (jnt lo hi d))) n) :
  if jdl d=true then(gCmp (λi j=>decide (i<=j)) (λi j=>!decide (j < i)) (.d (.int lo)) (.d d) n λz n3=>jkj z (gCmp (λi j=>decide (i<=j)) (λi j=>!decide (j < i)) (.d d) (.d (.int hi)) n3 Q) (Q (.d (.bool false)) n3))else Q (.d (.bool false)) n:=by
 cases d with
 |int i =>
  simp only[jdl,if_true,gCmp,ja2];simp only[jnt]at k;refine ifb (λe=>?_) (λe=>?_)
  ·rw[e]at k;exact k
  ·rw[e]at k;exact k
 |_=>exact k
theorem jxy {Q:DQ} {n:Int} (x:Str) (h:Q (.d (.bool (x.cps.toList.all okS))) n):jbm (jad 0) cYes (jas gLe gLe (wC (.str "a")) (wVar 0) (wC (.str "z")))
  (λds n1=>match jb0 ds with | some bs=>Q (.d (.bool (bs.all id))) n1 | none=>False) (jcm x) [] [none] n:=by
 refine jfn isCh (λd=>.bool (okD d)) ?_ _ _ _ _ (jrj x) ?_
 ·rintro d n Q' ⟨c,rfl⟩ k
  simp only[wVar,jyw,jei,gXX,jbl,jan,jbg,wC,w2,cT,jas,ja2,cAnd,cOr,cNot,wAnd,wOr,wNot,aNil,jaa,wTup,fLst,wOf,jac,wB,jaj,sSeq,sRet,sIf,sSet,sOwn,sFrz,sApp,sFor,gI,gI0,wNeg,gAdd,gCmp,gEq,gNe,gIsN,gIn,gIx,gLen,wIsi,j40,gAll,jgt,jj6,je8,ja7,jcd,ja1,jaq,jbr,cYes,jad,ja3,Ci,Au,Ay,A4,Bc,A7,Bk,B3,jbb,jax,jba,jal,jaw];refine ifb (λe=>?_) (λe=>?_)
  ·simp only[okD,e,B6]at k;exact k
  ·simp only[okD,e,Fl]at k;exact k
 ·show match jb0 ((jcm x).map λd=>.bool (okD d))with | some bs=>Q (.d (.bool (bs.all id))) n | none=>False
  simp only[jc5,jwh,ju9];exact h
theorem jxa {Q:DQ} {n:Int} (ds:List Ab) (h:Q (.d (.bool (ds.all jbk))) n):jbm (jad 0) cYes (jac (spJ jbk) (jaa (wVar 0) aNil))
  (λds n1=>match jb0 ds with | some bs=>Q (.d (.bool (bs.all id))) n1 | none=>False) ds [] [none] n:=by
 refine jfn (λ_=>True) (λd=>.bool (jbk d)) ?_ _ _ _ _ (λ_ _=>trivial) ?_
 ·exact λd n Q' _ k=>k
 ·show match jb0 (ds.map λd=>.bool (jbk d))with | some bs=>Q (.d (.bool (bs.all id))) n | none=>False
  simp only[jc5,jwh];exact h
def badD (d:Ab):Bool:=!okD d
theorem jsa {Q:List Ab->Int->Prop} {n:Int} (x:Str) (h:Q ((jcm x).filter badD) n):jbm (jad 0) (cOr (cT (w2 (wVar 0) (wC (.str "a")) gLt)) (cT (w2 (wVar 0) (wC (.str "z")) gGt))) (wVar 0) Q (jcm x) [] [none] n:=by
 refine jb8 isCh badD id ?_ ?_ _ _ _ _ (jrj x) ?_
 ·rintro d n Q' ⟨c,rfl⟩ k
  simp only[wVar,jyw,jei,gXX,jbl,jan,jbg,wC,w2,cT,jas,ja2,cAnd,cOr,cNot,wAnd,wOr,wNot,aNil,jaa,wTup,fLst,wOf,jac,wB,jaj,sSeq,sRet,sIf,sSet,sOwn,sFrz,sApp,sFor,gI,gI0,wNeg,gAdd,gCmp,gEq,gNe,gIsN,gIn,gIx,gLen,wIsi,j40,gAll,jgt,jj6,je8,ja7,jcd,ja1,jaq,jbr,cYes,jad,ja3,Ci,Au,Ay,A4,Bc,A7,Bk,B3,jbb,jax,jba,jal,jaw];simp only[badD,okD,Bool.not_and,Bool.not_not]at k;exact jh7 (F:=λb=>Q' b n) k id
 ·exact λd n Q' _ k=>k
 ·rw[De];exact h
theorem jyo (x:Str):((jcm x).filter badD).isEmpty=x.cps.toList.all okS:=by
 have:=jgu badD id (jcm x);rw[De]at this;rw[this,<-ju9]
 congr 1
 funext a
 show(!!okD a)=okD a;rw[Bool.not_not]
theorem jx8 {n many:Int} {Q:DQ} (h:n < 2 ^ 40) (h0:0 < many) (h1:many < 1073741824) (k:∀r:Int,0<=r->r < many->Q (.d (.int r)) (n+1)):jat [.tp,.d (.int many)] n Q:=⟨⟨h,h0,h1⟩,k⟩
theorem jgr {ds:List Ab} {r:Int} {n:Int} {Q:DQ} (h0:0<=r) (h1:r < (ds.length:Int)) (k:∀d∈ds,Q (.d d) n):gIx (.d (.list ds)) (.d (.int r)) n Q:=by
 obtain⟨v,hv,hm⟩:=jmo h0 h1;show match atI ds r with | some d=>Q (.d d) n | none=>False
 simp only[hv];exact k v hm
theorem jv5 {w:DT} {Q:List Ab->Int->Prop} {rest:Sl} (c:Nat) (h:∀d n Q',n+(c:Int) < 2 ^ 39->(∀y n',n'<=n+(c:Int)->Q' (.d y) n')->w (some (.w (.d d))::rest) n Q') :
  ∀(items acc:List Ab) (x:Option SV) (n:Int),n+(c:Int)*(items.length:Int) < 2 ^ 39->(∀ds n',n'<=n+(c:Int)*(items.length:Int)->Q ds n')->jbm (jad 0) cYes w Q items acc (x::rest) n
 |[],acc,x,n,hn,q=>q acc n (by simp)
 |d::r,acc,x,n,hn,q=>by
  simp only[jbm,jad,cYes,if_true,A4];rw[A3]at hn q;have e:(c:Int)*((r.length+1:Nat):Int)=(c:Int)*(r.length:Int)+c:=by rw[Int.natCast_add,Int.mul_add];simp
  rw[e]at hn q;have hc:0<=(c:Int)*(r.length:Int):=Int.mul_nonneg (F6 _) (F6 _);refine h d n _ (by omega) λy n' hn'=>?_;exact jv5 c h r (acc++[y]) _ n' (by omega) λds n'' h''=>q ds n'' (by omega)
theorem jbj (n:Nat):(rngD 0 n).length=n:=by unfold rngD;simp
theorem jgc {w:DT} {Q:List Ab->Int->Prop} {rest:Sl} (P:Ab->Prop) (c:Nat) (h:∀d n Q',n+(c:Int) < 2 ^ 39->(∀y n',P y->n'<=n+(c:Int)->Q' (.d y) n')->w (some (.w (.d d))::rest) n Q') :
  ∀(items acc:List Ab) (x:Option SV) (n:Int),n+(c:Int)*(items.length:Int) < 2 ^ 39->(∀ds n',ds.length=items.length->(∀d∈ds,P d)->n'<=n+(c:Int)*(items.length:Int)->Q (acc++ds) n')->jbm (jad 0) cYes w Q items acc (x::rest) n
 |[],acc,x,n,hn,q=>by
  have:=q [] n rfl (by simp) (by simp);rwa [B7]at this
 |d::r,acc,x,n,hn,q=>by
  simp only[jbm,jad,cYes,if_true,A4];rw[A3]at hn q;have e:(c:Int)*((r.length+1:Nat):Int)=(c:Int)*(r.length:Int)+c:=by rw[Int.natCast_add,Int.mul_add];simp
  rw[e]at hn q;have hc:0<=(c:Int)*(r.length:Int):=Int.mul_nonneg (F6 _) (F6 _);refine h d n _ (by omega) λy n' hy hn'=>?_;refine jgc P c h r (acc++[y]) _ n' (by omega) λds n'' hl hds h''=>?_;rw[Bn];refine q (y::ds) n'' (by rw[A3,hl]) (λd hd=>?_) (by omega);rcases An.mp hd with rfl | z
  ·exact hy
  ·exact hds d z
def sndD:Ab->Ab
 |.tuple (_::d::_)=>d
 |_=>.none
def ja5 (h:Str) (k:Int):Ab->Bool
 |.tuple ds=>decide ((ds.length:Int)=k)&&(match ds with | a::_=>ja9 h a | []=>false)
 |_=>false
def jgq (h:Str) (d:Ab):Bool:=ja5 h 2 d&&letB 4 (sndD d)
def jch (d:Ab):Bool:=if ja5 "is" 2 d=true then jbk (sndD d)else jgq "as" d
def jb1 (d:Ab):Bool:=(ja5 "any" 1 d || (ja5 "word" 1 d || ja5 "number" 1 d)) || (jch d || jgq "bind" d)
def jc7 (d:Ab):Bool:=jch d || jgq "next" d
def cntB:Ab->Bool
 |.tuple ds=>decide ((1:Int)<=(ds.length:Int))&&decide ((ds.length:Int)<=4)
 |_=>false
def jn6:Ab->List Ab
 |.tuple ds=>ds
 |_=>[]
def patB (d:Ab):Bool:=cntB d&&(jn6 d).all jb1
def temB (d:Ab):Bool:=cntB d&&(jn6 d).all jc7
def ja4:DSp:=λws n Q=>match ws with
 |[.d d,.d (.str h),.d (.int k)]=>1<=k/\Q (.d (.bool (ja5 h k d))) n
 |_=>False
def jcq:DSp:=λws n Q=>match ws with
 |[.d d,.d (.str h)]=>Q (.d (.bool (jgq h d))) n
 |_=>False
theorem eq_str (a:Ab) (h:Str):eqD a (.str h)=some (ja9 h a):=by cases a<;>rfl
theorem eq_int (i j:Int):eqD (.int i) (.int j)=some (decide (i=j)):=rfl
theorem at0 {α:Type} (a:α) (r:List α):atI (a::r) 0=some a:=jbs (j:=0) rfl
theorem at1 {α:Type} (a b:α) (r:List α):atI (a::b::r) 1=some b:=jbs (j:=1) rfl
theorem jl7 {h:Str} {k:Int} {d:Ab} (e:ja5 h k d=true):∃ds,d=.tuple ds/\(ds.length:Int)=k:=by
 cases d with
 |tuple ds =>
  refine⟨ds,rfl,?_⟩;have e:(decide ((ds.length:Int)=k)&&_)=true:=e;rw[Ap]at e;exact of_decide_eq_true e.1
 |_=>cases e
theorem jrg {h:Str} {d:Ab} (e:ja5 h 2 d=true):∃a b,d=.tuple [a,b]:=by
 obtain⟨ds,rfl,hl⟩:=jl7 e;rcases ds with _ | ⟨a,_ | ⟨b,_ | ⟨c,r⟩⟩⟩
 ·cases hl
 ·cases hl
 ·exact⟨a,b,rfl⟩
 ·simp only[A3]at hl;omega
section
variable {δ:Sl} {n:Int} {Q:DQ} {K:DEnds} {W V:DST} {i j:Nat} {a b d:Ab} {r ds:List Ab} {h:Str}
theorem jaf (h:W δ n {K with nx:=λδ n=>V δ n K}):sSeq W V δ n K:=h
theorem jab {x:Wv} (e:δ[i]?=some (some (.w x))) (k:Q x n):wVar i δ n Q:=by unfold wVar;rw[e];exact k
theorem ix_i {m:Nat} (e:δ[i]?=some (some (.w (.d (.tuple ds))))) (e2:ds[m]?=some a) (k:Q (.d a) n):w2 (wVar i) (wC (.int (m:Int))) gIx δ n Q:=by
 unfold w2;refine jab e ?_;unfold wC gIx;simp only[jbs e2];exact k
theorem jj5 (e:δ[i]?=some (some (.w (.d (.tuple (a::r)))))) (k:Q (.d a) n):w2 (wVar i) (wC (.int 0)) gIx δ n Q:=ix_i (m:=0) e rfl k
theorem jfk (e:δ[i]?=some (some (.w (.d (.tuple (a::b::r)))))) (k:Q (.d b) n):w2 (wVar i) (wC (.int 1)) gIx δ n Q:=ix_i (m:=1) e rfl k
theorem j45 (e:δ[i]?=some (some (.w (.d (.tuple (a::r)))))) (k:Q (.d (.bool (ja9 h a))) n):w2 (w2 (wVar i) (wC (.int 0)) gIx) (wC (.str h)) gEq δ n Q:=by
 show w2 (wVar i) (wC (.int 0)) gIx δ n λx n1=>wC (.str h) δ n1 λy n2=>gEq x y n2 Q;refine jj5 e ?_;unfold wC gEq;simp only[eq_str];exact k
theorem if_i {c:DTT} (k:c δ n λb n1=>if b=true then W δ n1 K else V δ n1 K):sIf c W V δ n K:=k
end
end Nb
namespace DL
open PySem L2 Nb
end DL
namespace Nb
structure Lin {α:Type} (lt:α->α->Bool):Prop where
 asym:∀a b,lt a b=true->lt b a=false
 ntr:∀a b c,lt b a=false->lt c b=false->lt c a=false
 tot:∀a b,lt a b=false->lt b a=false->a=b
section
variable {α:Type} {lt:α->α->Bool}
theorem Lin.tr1 (L:Lin lt) {a b c:α} (h1:lt a b=true) (h2:lt c b=false):lt a c=true:=by
 cases e:lt a c with
 |true=>rfl
 |false=>have:=L.ntr b c a h2 e;rw[h1]at this;cases this
variable [DecidableEq α]
end
end Nb
namespace Nb
open PySem L2 DL
abbrev Vl:=Sum Int Str
def vlt:Vl->Vl->Bool
 |.inl i,.inl j=>decide (i < j)
 |.inl _,.inr _=>true
 |.inr _,.inl _=>false
 |.inr x,.inr y=>decide (x.cps.toList < y.cps.toList)
theorem j2w {x y:Str} (h:x.cps.toList=y.cps.toList):x=y:=by
 cases x;cases y
 congr
 exact Array.toList_inj.mp h
theorem vlin:Lin vlt where
 asym:=λa b h=>by
  cases a<;>cases b<;>simp only[vlt,decide_eq_true_eq,decide_eq_false_iff_not,Bf]at h ⊢
  ·omega
  ·exact KS.lt_asym' _ _ h
 ntr:=λa b c h g=>by
  cases a<;>cases b<;>cases c<;>simp only[vlt,decide_eq_false_iff_not,Bool.true_eq_false]at h g ⊢
  ·omega
  ·exact λz=>absurd z (Ff.mpr (List.le_trans (Ff.mp h) (Ff.mp g)))
 tot:=λa b h g=>by
  cases a<;>cases b<;>simp only[vlt,decide_eq_false_iff_not,Bool.true_eq_false]at h g
  ·congr 1;omega
  ·congr 1
   exact j2w (List.le_antisymm (Ff.mp g) (Ff.mp h))
section
variable {δ:Sl} {n:Int} {Q:DQ} {K:DEnds} {W V:DST} {i j:Nat} {a b d:Ab} {r ds:List Ab}
theorem w2_i {wa wb:DT} {g:Wv->Wv->Int->DQ->Prop} (k:wa δ n λx n1=>wb δ n1 λy n2=>g x y n2 Q):w2 wa wb g δ n Q:=k
theorem jdn {w:DT} {x:Ab} (h:∀Q:DQ,Q (.d x) n->w δ n Q) (k:K.nx (δ.set i (some (.w (.d x)))) n):sSet i w δ n K:=h _ k
theorem jf3 (k:K.nx (δ.set i (some (.own []))) n):sOwn i (fLst aNil) δ n K:=⟨Bj _,k⟩
theorem g0_i (k:Q (.d a) n):gIx (.d (.tuple (a::r))) (.d (.int 0)) n Q:=by
 show(match atI (a::r) 0 with | some d=>Q (.d d) n | none=>False);rw[at0];exact k
theorem g1_i (k:Q (.d b) n):gIx (.d (.tuple (a::b::r))) (.d (.int 1)) n Q:=by
 show(match atI (a::b::r) 1 with | some d=>Q (.d d) n | none=>False);rw[at1];exact k
theorem c_i {c:Ab} (k:Q (.d c) n):wC c δ n Q:=k
theorem b1_i {w:DT} {g:List Wv->Int->DQ->Prop} (k:w δ n λx n1=>g [x] n1 Q):wB g (jaa w aNil) δ n Q:=k
theorem c1_i {w:DT} {S:DSp} (k:w δ n λx n1=>S [x] n1 Q):jac S (jaa w aNil) δ n Q:=k
theorem c2_i {w w':DT} {S:DSp} (k:w δ n λx n1=>w' δ n1 λy n2=>S [x,y] n2 Q):jac S (jaa w (jaa w' aNil)) δ n Q:=k
theorem c3_i {w w' w'':DT} {S:DSp} (k:w δ n λx n1=>w' δ n1 λy n2=>w'' δ n2 λz n3=>S [x,y,z] n3 Q):jac S (jaa w (jaa w' (jaa w'' aNil))) δ n Q:=k
theorem of_i {w:DTF} (k:w δ n λds n1=>Q (.d (.list ds)) n1):wOf w δ n Q:=k
theorem jcf {fr:List (Option Nat)} {w e:DT} {g:DTG} {c:DTT} {Q:List Ab->Int->Prop} (hw:∀Q:DQ,Q (.d (.tuple ds)) n->w δ n Q) (k:jbm g c e Q ds [] (jbr fr δ) n):jaq fr (ja7 w) g c e δ n Q:=by
 unfold jaq ja7;exact hw _ k
theorem jc9 (e:δ[i]?=some (some (.w (.d (.tuple ds))))) (k:Q (.d (.int ds.length)) n):wB gLen (jaa (wVar i) aNil) δ n Q:=b1_i (jab e k)
theorem jy9 (e:δ[j]?=some (some (.w (.d (.tuple ds))))) (k:K.nx (δ.set i (some (.own ds))) n):sOwn i (jgb (wVar j)) δ n K:=by
 unfold sOwn jgb;exact jab e k
theorem jam {w:DT} (k:w δ n K.rt):sRet w δ n K:=k
theorem jga (e:δ[i]?=some (some (.own ds))) (k:W (δ.set i (some (.w (.d (.list ds))))) n K):sFrz i W δ n K:=by
 unfold sFrz;rw[e];exact k
theorem jes (e:δ[i]?=some (some (.w (.d (.tuple ds))))) (k:Q (.d (.bool true)) n):wIsi "tuple" (wVar i) δ n Q:=by
 unfold wIsi;refine jab e ?_;show Q (.d (.bool (isiB "tuple" (.tuple ds)))) n;rw[jal];exact k
theorem ct_b {w:DT} {k:Bool} {Q:Bool->Int->Prop} (hw:∀Q':DQ,Q' (.d (.bool k)) n->w δ n Q') (q:Q k n):cT w δ n Q:=hw _ q
theorem if_n {C:DTT} (hc:∀Q:Bool->Int->Prop,Q false n->C δ n Q) (hF:V δ n K):sIf C W V δ n K:=hc _ (by show if false=true then _ else _;rw[if_neg Al];exact hF)
theorem if_y {C:DTT} (hc:∀Q:Bool->Int->Prop,Q true n->C δ n Q) (hT:W δ n K):sIf C W V δ n K:=hc _ (by show if true=true then _ else _;rw[if_pos rfl];exact hT)
theorem jv1 {A B:DTT} {Q:Bool->Int->Prop} (ha:∀Q:Bool->Int->Prop,Q false n->A δ n Q) (hb:B δ n Q):cOr A B δ n Q:=ha _ (by show if false=true then _ else _;rw[if_neg Al];exact hb)
theorem j10 {A B:DTT} {Q:Bool->Int->Prop} (ha:∀Q:Bool->Int->Prop,Q true n->A δ n Q) (k:Q true n):cOr A B δ n Q:=ha _ (by show if true=true then _ else _;rw[if_pos rfl];exact k)
theorem jzq {A B:DTT} {Q:Bool->Int->Prop} (ha:∀Q:Bool->Int->Prop,Q true n->A δ n Q) (hb:B δ n Q):cAnd A B δ n Q:=ha _ (by show if true=true then _ else _;rw[if_pos rfl];exact hb)
theorem jbq {A:DTT} {k:Bool} {Q:Bool->Int->Prop} (ha:∀Q:Bool->Int->Prop,Q k n->A δ n Q) (q:Q (!k) n):cNot A δ n Q:=ha _ q
end
theorem jbh {g:DTG} {W:DST} {K:DEnds} (I:List Ab->Sl->Int->Prop) (h0:∀δ n,I [] δ n->K.nx δ n)
  (h1:∀d r δ n (N:Sl->Int->Prop),I (d::r) δ n->(∀δ n,I r δ n->N δ n)->g d δ λδ'=>W δ' n {K with nx:=N,ct:=N,bk:=K.nx}):∀ds δ n,I ds δ n->forD g W K ds δ n
 |[],δ,n,h=>h0 δ n h
 |d::r,δ,n,h=>h1 d r δ n (forD g W K r) h (jbh I h0 h1 r)
section
variable {δ:Sl} {n m:Int} {Q:DQ} {K:DEnds} {W V:DST} {i j:Nat} {ds:List Ab}
theorem jdv {w:DT} (e0:δ[0]?=some (some (.w .tp))) (hw:∀Q:DQ,Q (.d (.int m)) n->w δ n Q) (h:n < 2 ^ 40) (h0:0 < m) (h1:m < 1073741824) (k:∀r:Int,0<=r->r < m->Q (.d (.int r)) (n+1)):jac jat (jaa (wVar 0) (jaa w aNil)) δ n Q :=
 c2_i (jab e0 (hw _ (jx8 h h0 h1 k)))
theorem jdw (e0:δ[0]?=some (some (.w .tp))) (h:n < 2 ^ 40) (h0:0 < m) (h1:m < 1073741824) (k:∀r:Int,0<=r->r < m->Q (.d (.int r)) (n+1)):jac jat (jaa (wVar 0) (jaa (wC (.int m)) aNil)) δ n Q:=jdv e0 (λQ q=>c_i q) h h0 h1 k
theorem jnh (e0:δ[0]?=some (some (.w .tp))) (h:n < 2 ^ 40) (h0:0 < m) (h1:m < 1073741824) (k:∀r:Int,0<=r->r < m->K.nx (δ.set i (some (.w (.d (.int r))))) (n+1)):sSet i (jac jat (jaa (wVar 0) (jaa (wC (.int m)) aNil))) δ n K:=jdw e0 h h0 h1 k
theorem jqf {r:Int} (h0:0<=r) (h1:r < (ds.length:Int)) (k:∀d∈ds,Q (.d d) n):gIxL (.ln ds) (.d (.int r)) n Q:=by
 obtain⟨v,hv,hm⟩:=jmo h0 h1;show(match atI ds r with | some d=>Q (.d d) n | none=>False);rw[hv];exact k v hm
theorem jb5 {r:Int} (h0:0<=r) (h1:r < (ds.length:Int)) (k:∀d∈ds,Q (.d d) n):gIxL (.d (.list ds)) (.d (.int r)) n Q:=jgr h0 h1 k
theorem jnv (e:δ[i]?=some (some (.own ds))) (k:Q (.ln ds) n):jfy i δ n Q:=by
 unfold jfy;rw[e];exact k
theorem jyp {w:DT} {x:Ab} {es:List Ab} (e:δ[i]?=some (some (.own es))) (hw:∀Q:DQ,Q (.d x) m->w δ n Q) (hl:es.length < 1000000) (k:K.nx (δ.set i (some (.own (es++[x])))) m):sApp i w δ n K:=by
 unfold sApp;rw[e];exact hw _ (Ad hl k)
theorem jmp {w:DT} {es:List Ab} (e:δ[i]?=some (some (.own es))) (k:w δ n λx n1=>match x with
  |.d d=>es.length < 1000000/\K.nx (δ.set i (some (.own (es++[d])))) n1
  |_=>False):sApp i w δ n K:=by
 unfold sApp;rw[e];exact k
theorem jb6 {w w':DT} (k:w δ n λx n1=>w' δ n1 λy n2=>match ja3 [x,y]with
  |some ds=>ds.length<=1000/\Q (.d (.tuple ds)) n2
  |none=>False):wTup (jaa w (jaa w' aNil)) δ n Q:=k
theorem j2m {w w' w'':DT} (k:w δ n λx n1=>w' δ n1 λy n2=>w'' δ n2 λz n3=>match ja3 [x,y,z]with
  |some ds=>ds.length<=1000/\Q (.d (.tuple ds)) n3
  |none=>False):wTup (jaa w (jaa w' (jaa w'' aNil))) δ n Q:=k
theorem jhu (k:Q (.d (.tuple ds)) n):jce [.d (.list ds)] n Q:=k
theorem iflt {a b:Int} (e:δ[i]?=some (some (.w (.d (.int a))))) (hT:a < b->W δ n K) (hF:¬a < b->V δ n K):sIf (cT (w2 (wVar i) (wC (.int b)) gLt)) W V δ n K:=by
 refine if_i (w2_i (jab e (c_i ?_)));show if decide (a < b)=true then _ else _
 by_cases h:a < b
 ·rw[if_pos (decide_eq_true h)];exact hT h
 ·rw[if_neg (by simpa using h)];exact hF h
end
section
variable {δ:Sl} {n m:Int} {Q:DQ} {K:DEnds} {W V:DST} {i j:Nat} {ds:List Ab}
theorem j2l {w w' w'' v:DT} (k:w δ n λx n1=>w' δ n1 λy n2=>w'' δ n2 λz n3=>v δ n3 λu n4=>match ja3 [x,y,z,u]with
  |some ds=>ds.length<=1000/\Q (.d (.tuple ds)) n4
  |none=>False):wTup (jaa w (jaa w' (jaa w'' (jaa v aNil)))) δ n Q:=k
theorem jdp (k:Q (.d (.list [])) n):wOf (fLst aNil) δ n Q:=Ad (Bj _) k
theorem eqLn (k:Q (.d (.bool ds.isEmpty)) n):gEqL (.ln ds) (.d (.list [])) n Q:=k
theorem eqLi {a b:Int} (k:Q (.d (.bool (decide (a=b)))) n):gEqL (.d (.int a)) (.d (.int b)) n Q:=k
theorem ifeq {a b:Int} (e:δ[i]?=some (some (.w (.d (.int a))))) (hT:a=b->W δ n K) (hF:¬a=b->V δ n K):sIf (cT (w2 (wVar i) (wC (.int b)) gEqL)) W V δ n K:=by
 refine if_i (w2_i (jab e (c_i ?_)));show if decide (a=b)=true then _ else _
 by_cases h:a=b
 ·rw[if_pos (decide_eq_true h)];exact hT h
 ·rw[if_neg (by simpa using h)];exact hF h
theorem ifgt {a b:Int} (e:δ[i]?=some (some (.w (.d (.int a))))) (hT:b < a->W δ n K) (hF:¬b < a->V δ n K):sIf (cT (w2 (wVar i) (wC (.int b)) gGt)) W V δ n K:=by
 refine if_i (w2_i (jab e (c_i ?_)));show if decide (b < a)=true then _ else _
 by_cases h:b < a
 ·rw[if_pos (decide_eq_true h)];exact hT h
 ·rw[if_neg (by simpa using h)];exact hF h
end
theorem jdu (hs:List Str):(hs.map B5).all jj8=true:=by
 rw[Bh];intro d hd;obtain⟨x,_,rfl⟩:=Cc.mp hd;rfl
theorem jy4 {δ:Sl} {n m:Int} {K:DEnds} {W:DST} {g:DTG} {L:List Ab} {wl:DT} {M:Nat} (e:δ[0]?=some (some (.w .tp))) (hl:∀Q:DQ,Q (.d (.list L)) n->wl δ n Q) (hn:n < 2 ^ 40) (hm:m=L.length) (h0:0 < m) (h1:m < 1000) (hL:∀d∈L,∃j:Nat,j<=M/\d=.int j) (hM:M<=1000) (k:∀j:Nat,j<=M->forD g W K (rngD 0 j) δ (n+1)) :
  sFor (ja1 (w2 wl (jac jat (jaa (wVar 0) (jaa (wC (.int m)) aNil))) gIxL)) g W δ n K:=by
 unfold sFor ja1;refine w2_i (hl _ (jdw e hn h0 (by omega) λr r0 r1=>jb5 r0 (by omega) λd hd=>?_));obtain⟨j,hj,rfl⟩:=hL d hd;refine Ad ⟨by omega,by omega⟩ ?_;rw[Bv];exact k j hj
theorem j4d {ds:List Ab} {n:Int} {Q:DQ} (k:Q (.d (.int ds.length)) n):jf9 [.ln ds] n Q:=k
theorem gN_i {n:Int} {Q:DQ} {i:Nat} {x:Ab} {xs:List Ab} (h:xs[i]?=some x) (k:Q (.d x) n):gIx (.d (.tuple xs)) (.d (.int (i:Nat))) n Q:=by
 show(match atI xs ((i:Nat):Int)with | some d=>Q (.d d) n | none=>False);rw[jbs h];exact k
theorem jzp (xs:List Ab) {p:Nat} (hp:p<=xs.length):cutD xs none (some (p:Int))=xs.take p:=by
 unfold cutD;rw[HT.sIx_nat];show(xs.drop 0).take (min p xs.length - 0)=_;rw[List.drop_zero,Nat.sub_zero,Nat.min_eq_left hp]
def jff:DSp:=λws n Q=>match ws with
 |[.d d,.d (.int k)]=>Q (.d (.bool (letB k d))) n
 |_=>False
def jdb:DSp:=λws n Q=>match ws with
 |[.d d,.d (.int lo),.d (.int hi)]=>Q (.d (.bool (jnt lo hi d))) n
 |_=>False
def j60 (bare named:List Ab):Ab->Bool
 |.tuple [.str x]=>inD (.str x) bare
 |.tuple [.str x,b]=>(decide (x="is")&&jbk b) || (inD (.str x) named&&letB 4 b)
 |_=>false
def ixD (k:Nat) (d:Ab):Ab:=(jn6 d).getD k .none
def jc1:Ab->Bool
 |.int i=>decide (0<=i)
 |_=>false
def layB (d:Ab):Bool:=ja5 "lay" 3 d&&(temB (ixD 1 d)&&ageB (ixD 2 d))
def je4 (h:Str) (d:Ab):Bool:=ja5 h 2 d&&patB (ixD 1 d)
def jp3 (d:Ab):Bool:=ja5 "look" 3 d&&(patB (ixD 1 d)&&jc1 (ixD 2 d))
def jh3 (d:Ab):Bool:=ja5 "same" 4 d&&(jch (ixD 1 d)&&(jch (ixD 2 d)&&jc1 (ixD 3 d)))
def goB (d:Ab):Bool:=ja5 "go" 2 d&&jc1 (ixD 1 d)
def actB (d:Ab):Bool:=(layB d || (je4 "take" d || je4 "read" d)) || (jp3 d || (jh3 d || goB d))
def txD:Ab->Str
 |.str x=>x
 |_=>⟨#[]⟩
def jer:List Ab->Bool
 |a::b::r=>decide ((txD a).cps.toList < (txD b).cps.toList)&&jer (b::r)
 |_=>true
def jjp:Ab->Bool
 |.tuple ds=>decide ((ds.length:Int)<=4)&&(ds.all (letB 4)&&jer ds)
 |_=>false
def jkk:Ab->Bool
 |.tuple ds=>decide ((ds.length:Int)<=8)&&ds.all actB
 |_=>false
def jcw:Ab->Bool
 |.tuple [a,b]=>jjp a&&jkk b
 |_=>false
abbrev B30:Int:=1000000000000000000000000000000
inductive Th:Nat->Nat->Ab->Prop
 |non {L k:Nat}:Th L k .none
 |bool {L k:Nat} (b:Bool):Th L k (.bool b)
 |int {L k:Nat} (i:Int):-(B30+(L:Int))<=i->i<=B30+(L:Int)->Th L k (.int i)
 |str {L k:Nat} (x:Str):x.length<=60->Ew x=true->Th L k (.str x)
 |list {L k:Nat} {ds:List Ab}:ds.length<=L->(∀d∈ds,Th L k d)->Th L (k+1) (.list ds)
 |tuple {L k:Nat} {ds:List Ab}:ds.length<=L->(∀d∈ds,Th L k d)->Th L (k+1) (.tuple ds)
def jew:DSp:=λws n Q=>ws=[.tp]/\n < 2 ^ 39/\∀d,Th 9 1 d->Q (.d d) (n+1)
def jfv:Nat->DSp
 |0=>λ_ _ _=>False
 |t+1=>λws n Q=>∃(d:Ab) (L k:Nat),ws=[.tp,.d d]/\Th L k d/\9<=L/\L<=30/\k<=t/\n+5*(k:Int)+5 < 2 ^ 39/\∀(d':Ab) (n':Int),Th (L+1) (k+2) d'->n'<=n+5*(k:Int)+5->Q (.d d') n'
mutual
def thB (L:Nat):Nat->Ab->Bool
 |_,.none=>true
 |_,.bool _=>true
 |_,.int i=>decide (-(B30+(L:Int))<=i)&&decide (i<=B30+(L:Int))
 |_,.str x=>decide (x.length<=60)&&Ew x
 |k,.list ds=>decide (0 < k)&&(decide (ds.length<=L)&&jfg L (k - 1) ds)
 |k,.tuple ds=>decide (0 < k)&&(decide (ds.length<=L)&&jfg L (k - 1) ds)
 |_,.dict _=>false
def jfg (L:Nat):Nat->List Ab->Bool
 |_,[]=>true
 |k,d::r=>thB L k d&&jfg L k r
end
mutual
theorem jyz (L:Nat):∀(d:Ab) (k:Nat),thB L k d=true->Th L k d
 |.none,_,_=>.non
 |.bool b,_,_=>.bool b
 |.int i,_,h=>by
  rw[thB,Ap]at h;exact .int i (of_decide_eq_true h.1) (of_decide_eq_true h.2)
 |.str x,_,h=>by
  rw[thB,Ap]at h;exact .str x (of_decide_eq_true h.1) h.2
 |.list ds,k,h=>by
  rw[thB,Ap,Ap]at h;have h0:=of_decide_eq_true h.1;have:=Th.list (of_decide_eq_true h.2.1) (jlg L ds (k - 1) h.2.2);rw[show k - 1+1=k by omega]at this;exact this
 |.tuple ds,k,h=>by
  rw[thB,Ap,Ap]at h;have h0:=of_decide_eq_true h.1;have:=Th.tuple (of_decide_eq_true h.2.1) (jlg L ds (k - 1) h.2.2);rw[show k - 1+1=k by omega]at this;exact this
 |.dict _,_,h=>by rw[thB]at h;cases h
theorem jlg (L:Nat):∀(ds:List Ab) (k:Nat),jfg L k ds=true->∀d∈ds,Th L k d
 |[],_,_,d,hd=>by simp at hd
 |a::r,k,h,d,hd=>by
  rw[jfg,Ap]at h;exact(An.mp hd).elim (λe=>e▸jyz L a k h.1) λhd=>jlg L r k h.2 d hd
end
theorem jtb {L k:Nat} {d:Ab} (h:thB L k d=true):Th L k d:=jyz L d k h
theorem jqv {L k:Nat} {ds:List Ab} (h:jfg L k ds=true):∀d∈ds,Th L k d:=jlg L ds k h
theorem Th.mono {L k:Nat} {d:Ab} (h:Th L k d):∀{L' k':Nat},L<=L'->k<=k'->Th L' k' d:=by
 induction h with
 |non=>exact λ_ _=>.non
 |bool b=>exact λ_ _=>.bool b
 |int i h1 h2=>exact λa _=>.int i (by omega) (by omega)
 |str x h1 h2=>exact λ_ _=>.str x h1 h2
 |list h1 _ ih =>
  intro L' k' a b;obtain⟨j,rfl⟩:∃j,k'=j+1:=⟨k' - 1,by omega⟩;exact .list (by omega) λd hd=>ih d hd a (by omega)
 |tuple h1 _ ih =>
  intro L' k' a b;obtain⟨j,rfl⟩:∃j,k'=j+1:=⟨k' - 1,by omega⟩;exact .tuple (by omega) λd hd=>ih d hd a (by omega)
theorem th2 {L k:Nat} {a b:Ab} (ha:Th L k a) (hb:Th L k b) (hL:2<=L):Th L (k+1) (.tuple [a,b]):=.tuple hL λd hd=>by
 rcases An.mp hd with rfl | hd
 ·exact ha
 ·rw[A2.mp hd];exact hb
theorem th3 {L k:Nat} {a b c:Ab} (ha:Th L k a) (hb:Th L k b) (hc:Th L k c) (hL:3<=L):Th L (k+1) (.tuple [a,b,c]):=.tuple hL λd hd=>by
 rcases An.mp hd with rfl | hd
 ·exact ha
 ·rcases An.mp hd with rfl | hd
  ·exact hb
  ·rw[A2.mp hd];exact hc
theorem th4 {L k:Nat} {a b c e:Ab} (ha:Th L k a) (hb:Th L k b) (hc:Th L k c) (he:Th L k e) (hL:4<=L):Th L (k+1) (.tuple [a,b,c,e]):=.tuple hL λd hd=>by
 rcases An.mp hd with rfl | hd
 ·exact ha
 ·rcases An.mp hd with rfl | hd
  ·exact hb
  ·rcases An.mp hd with rfl | hd
   ·exact hc
   ·rw[A2.mp hd];exact he
def jbu (ks:List Str):Ab:=.tuple (ks.map .str)
def jwr:List Ab:=[.str "a",.int 0,.int 1,.str "ab",.str "go",.int 99]
inductive Fe where
 |any | word | num | isv (d:Ab) | bind (k:Str) | as (k:Str) | nx (k:Str)
def Fe.hd:Fe->Str
 |.any=>"any"
 |.word=>"word"
 |.num=>"number"
 |.isv _=>"is"
 |.bind _=>"bind"
 |.as _=>"as"
 |.nx _=>"next"
def Fe.tl:Fe->List Ab
 |.any=>[]
 |.word=>[]
 |.num=>[]
 |.isv d=>[d]
 |.bind k=>[.str k]
 |.as k=>[.str k]
 |.nx k=>[.str k]
def Fe.d (f:Fe):Ab:=.tuple (.str f.hd::f.tl)
def okK (k:Str):Prop:=letB 4 (.str k)=true/\Ew k=true
def isV (d:Ab):Bool:=jbk d&&thB 60 0 d
def Fe.ok:Fe->Prop
 |.isv d=>isV d=true
 |.bind k=>okK k
 |.as k=>okK k
 |.nx k=>okK k
 |_=>True
def Fe.bd:Fe->Option Str
 |.bind k=>some k
 |_=>none
def Fe.us:Fe->Option Str
 |.as k=>some k
 |.nx k=>some k
 |_=>none
def bndE (fs:List Fe):List Str:=fs.filterMap Fe.bd
def Fe.pt:Fe->Bool
 |.nx _=>false
 |_=>true
def Fe.tm:Fe->Bool
 |.isv _=>true
 |.as _=>true
 |.nx _=>true
 |_=>false
def Fe.te:Fe->Bool
 |.isv _=>true
 |.as _=>true
 |_=>false
def okFs (fs:List Fe):Prop:=fs.length<=4/\∀f∈fs,f.ok
def rF:List Str->List Fe->Prop
 |_,[]=>True
 |ks,f::r=>(∀k,f.us=some k->k∈ks)/\rF (ks++f.bd.toList) r
inductive Ac where
 |lay (fs:List Fe) (age:Ab) | take (fs:List Fe) | read (fs:List Fe) | look (fs:List Fe) (b:Nat) | same (f g:Fe) (b:Nat) | go (b:Nat)
def fsD (fs:List Fe):Ab:=.tuple (fs.map Fe.d)
def Ac.d:Ac->Ab
 |.lay fs age=>.tuple [.str "lay",fsD fs,age]
 |.take fs=>.tuple [.str "take",fsD fs]
 |.read fs=>.tuple [.str "read",fsD fs]
 |.look fs b=>.tuple [.str "look",fsD fs,.int b]
 |.same f g b=>.tuple [.str "same",f.d,g.d,.int b]
 |.go b=>.tuple [.str "go",.int b]
def Ac.bs:Ac->List Str
 |.take fs=>bndE fs
 |.read fs=>bndE fs
 |.look fs _=>bndE fs
 |_=>[]
def Ac.fs:Ac->List Fe
 |.lay fs _=>fs
 |.take fs=>fs
 |.read fs=>fs
 |.look fs _=>fs
 |.same f g _=>[f,g]
 |.go _=>[]
def Ac.to:Ac->Option Nat
 |.look _ b=>some b
 |.same _ _ b=>some b
 |.go b=>some b
 |_=>none
def Ac.right (wants:List (List Str)) (ks:List Str) (a:Ac):Prop:=rF ks a.fs/\∀b,a.to=some b->∃w,wants[b]?=some w/\∀k∈w,k∈ks
def jsj (d:Ab):Prop:=d=.none\/∃i:Int,d=.int i/\1<=i/\i<=20
def patO (fs:List Fe):Prop:=1<=fs.length/\∀f∈fs,f.pt=true
def Ac.pat:Ac->Prop
 |.take fs=>patO fs
 |.read fs=>patO fs
 |.look fs _=>patO fs
 |.lay fs age=>(∀f∈fs,f.tm=true)/\jsj age/\1<=fs.length
 |.same f g _=>f.te=true/\g.te=true
 |.go _=>True
def okA (a:Ac):Prop:=okFs a.fs/\a.pat
abbrev Bl:=List Str×List Ac
def blD (b:Bl):Ab:=.tuple [jbu b.1,.tuple (b.2.map Ac.d)]
def prD (bs:List Bl):Ab:=.tuple (bs.map blD)
def kn (w:List Str) (as:List Ac) (p:Nat):List Str:=w++(as.take p).flatMap Ac.bs
def okB (b:Bl):Prop:=b.1.length<=4/\(∀k∈b.1,okK k)/\b.2.length<=8/\(∀a∈b.2,okA a)/\b.1.Nodup/\upT b.1
def riB (wants:List (List Str)) (b:Bl):Prop:=∀(p:Nat) (a:Ac),b.2[p]?=some a->a.right wants (kn b.1 b.2 p)
def jfu:DSp:=λws n Q=>ws=[.tp]/\n < 2 ^ 39/\∀v∈jwr,Q (.d v) (n+1)
def jja:DSp:=λws n Q=>ws=[.tp]/\n < 2 ^ 39/\∀m:Nat,1<=m->m<=4->Q (.d (.int m)) (n+1)
def jrq:DSp:=λws n Q=>∃ks:List Str,ws=[.tp,.ln (ks.map .str)]/\ks.length<=1000/\(∀k∈ks,okK k)/\n+9 < 2 ^ 39/\∀(fs:List Fe) (n':Int),1<=fs.length->okFs fs->(∀f∈fs,f.tm=true)->rF ks fs->n'<=n+9->Q (.d (fsD fs)) n'
def jjd:DSp:=λws n Q=>∃ks:List Str,ws=[.tp,.ln (ks.map .str)]/\ks.length<=1000/\(∀k∈ks,okK k)/\n+2 < 2 ^ 39/\∀(f:Fe) (n':Int),f.ok->f.te=true->(∀k,f.us=some k->k∈ks)->n'<=n+2->Q (.d f.d) n'
def jk8:DSp:=λws n Q=>∃(ks:List Str) (os:List Nat) (wants:List (List Str)),ws=[.tp,.ln (ks.map .str),.d (.list (os.map λb=>.int (b:Nat)))]/\ks.length<=1000/\(∀k∈ks,okK k)/\0 < os.length/\os.length<=1000 /\
 (∀b∈os,∃w,wants[b]?=some w/\∀k∈w,k∈ks)/\n+11 < 2 ^ 39/\∀(a:Ac) (n':Int),okA a->a.right wants ks->n'<=n+11->Q (.d (.tuple [a.d,.list (a.bs.map .str)])) n'
def okG (bs:List Bl):Prop:=1<=bs.length/\bs.length<=6/\∀b∈bs,okB b/\riB (bs.map (·.1)) b
def jrr:DSp:=λws n Q=>∃(ks:List Str) (v:Wv),ws=[.tp,v]/\lsOf v=some (ks.map .str)/\ks.length<=1000/\(∀k∈ks,okK k)/\n+9 < 2 ^ 39/\∀(fs:List Fe) (n':Int),1<=fs.length->okFs fs->(∀f∈fs,f.pt=true)->rF ks fs->n'<=n+9->Q (.d (.tuple [fsD fs,.list ((bndE fs).map .str)])) n'
def fst0 (bs:List Bl):Prop:=∃w,bs.map (·.1)=[]::w
def jro:DSp:=λws n Q=>ws=[.tp]/\n+600 < 2 ^ 39/\∀(bs:List Bl) (n':Int),okG bs->fst0 bs->n'<=n+600->Q (.d (prD bs)) n'
def rfB:List Str->List Fe->Bool
 |_,[]=>true
 |ks,f::r=>(match f.us with | some k=>decide (k∈ks) | none=>true)&&rfB (ks++f.bd.toList) r
def toB (P:List Bl) (ks:List Str):Option Nat->Bool
 |none=>true
 |some b=>match P[b]? with
  |some bl=>bl.1.all λk=>decide (k∈ks)
  |none=>false
def actR (P:List Bl) (ks:List Str) (a:Ac):Bool:=rfB ks a.fs&&toB P ks a.to
def blR (P:List Bl):List Str->List Ac->Bool
 |_,[]=>true
 |ks,a::r=>actR P ks a&&blR P (ks++a.bs) r
def fstB:List Bl->Bool
 |b::_=>b.1.isEmpty
 |[]=>false
def jun (P:List Bl):Bool:=fstB P&&P.all λb=>blR P b.1 b.2
def jiw:Ab->Bool
 |.tuple ds=>(decide ((1:Int)<=(ds.length:Int))&&decide ((ds.length:Int)<=6))&&ds.all jcw
 |_=>false
def wfB (b:Bl):Prop:=b.1.length<=4/\(∀k∈b.1,okK k)/\b.2.length<=8/\∀a∈b.2,okA a
def wfP (P:List Bl):Prop:=jiw (prD P)=true/\1<=P.length/\P.length<=6/\∀b∈P,wfB b
theorem jnk:∀(fs:List Fe) {ks ks':List Str},(∀k,k∈ks↔k∈ks')->rfB ks fs=rfB ks' fs
 |[],_,_,_=>rfl
 |f::r,ks,ks',h=>by
  have ih:=jnk r (ks:=ks++f.bd.toList) (ks':=ks'++f.bd.toList) λk=>by rw[A0,A0,h k]
  show((match f.us with | some k=>decide (k∈ks) | none=>true)&&rfB (ks++f.bd.toList) r)=((match f.us with | some k=>decide (k∈ks') | none=>true)&&rfB (ks'++f.bd.toList) r);rw[ih];cases f.us with
  |none=>rfl
  |some k =>
   show(decide (k∈ks)&&_)=(decide (k∈ks')&&_);rw[decide_eq_decide.mpr (h k)]
theorem jta (P:List Bl) (o:Option Nat) {ks ks':List Str} (h:∀k,k∈ks↔k∈ks'):toB P ks o=toB P ks' o:=by
 cases o with
 |none=>rfl
 |some b =>
  show(match P[b]? with | some bl=>bl.1.all λk=>decide (k∈ks) | none=>false)=(match P[b]? with | some bl=>bl.1.all λk=>decide (k∈ks') | none=>false);cases P[b]? with
  |none=>rfl
  |some bl =>
   show(bl.1.all λk=>decide (k∈ks))=bl.1.all λk=>decide (k∈ks')
   congr 1
   funext k
   exact decide_eq_decide.mpr (h k)
def plR (P:List Bl) (b:Bl) (p:Nat):Bool:=match b.2[p]? with
 |some a=>actR P (kn b.1 b.2 p) a
 |none=>true
theorem jix (P:List Bl):∀(as:List Ac) (w:List Str),blR P w as=(Bu as.length).all (plR P (w,as))
 |[],_=>rfl
 |a::r,w=>by
  have ih:=jix P r (w++a.bs);rw[A3,List.range_succ_eq_map,Fv,Dj];show(actR P w a&&blR P (w++a.bs) r)=_;rw[ih];have e0:plR P (w,a::r) 0=actR P w a:=by
   show actR P (w++[]) a=_;rw[B7]
  rw[e0]
  congr 1
  congr 1
  funext p
  show plR P (w++a.bs,r) p=plR P (w,a::r) (p+1);unfold plR kn;rw[Ay];show(match r[p]? with | some x=>actR P (w++a.bs++(r.take p).flatMap Ac.bs) x | none=>true)=(match r[p]? with | some x=>actR P (w++(a::r.take p).flatMap Ac.bs) x | none=>true);rw[List.flatMap_cons,Bn]
theorem j6o {fs:List Fe}:∀{ks:List Str},rF ks fs->rfB ks fs=true:=by
 induction fs with
 |nil=>intro ks _;rfl
 |cons f r ih =>
  intro ks h;show((match f.us with | some k=>decide (k∈ks) | none=>true)&&rfB (ks++f.bd.toList) r)=true;rw[ih h.2,Bool.and_true];cases e:f.us with
  |none=>rfl
  |some k=>exact decide_eq_true (h.1 k e)
theorem j5x {P:List Bl} {ks:List Str} {a:Ac} (h:a.right (P.map (·.1)) ks):actR P ks a=true:=by
 unfold actR;rw[j6o h.1,B6];cases e:a.to with
 |none=>rfl
 |some b =>
  obtain⟨w,hw,hk⟩:=h.2 b e;rw[Ba]at hw;cases hb:P[b]? with
  |none=>rw[hb]at hw;cases hw
  |some bl =>
   rw[hb]at hw;cases hw;show(match P[b]? with | some bl=>bl.1.all λk=>decide (k∈ks) | none=>false)=true;rw[hb];show(bl.1.all λk=>decide (k∈ks))=true;rw[Bh];exact λk hk'=>decide_eq_true (hk k hk')
theorem jpx {P:List Bl} (h:okG P) (h0:fst0 P):jun P=true/\∀b∈P,wfB b:=by
 refine⟨?_,λb hb=>?_⟩
 ·unfold jun;rw[Ap];refine⟨?_,?_⟩
  ·obtain⟨w,e⟩:=h0;cases P with
   |nil=>cases e
   |cons b r =>
    rw[A7]at e;have:=(Ex e).1;show b.1.isEmpty=true;rw[this];rfl
  ·rw[Bh];intro b hb;rw[jix,Bh];intro p _;unfold plR;cases e:b.2[p]? with
   |none=>rfl
   |some a=>exact j5x ((h.2.2 b hb).2 p a e)
 ·obtain⟨h1,h2,h3,h4,_,_⟩:=(h.2.2 b hb).1;exact⟨h1,h2,h3,h4⟩
def unF:Ab->Option Fe
 |.tuple [.str h]=>if h="any" then some .any else if h="word" then some .word else if h="number" then some .num else none
 |.tuple [.str h,x]=>if h="is" then some (.isv x)else match x with
  |.str k=>if h="bind" then some (.bind k)else if h="as" then some (.as k)else if h="next" then some (.nx k)else none
  |_=>none
 |_=>none
theorem j57 (f:Fe):unF f.d=some f:=by
 have n1:¬(("word":Str)="any"):=by decide +kernel
 have n2:¬(("number":Str)="any"):=by decide +kernel
 have n3:¬(("number":Str)="word"):=by decide +kernel
 have n4:¬(("bind":Str)="is"):=by decide +kernel
 have n5:¬(("as":Str)="is"):=by decide +kernel
 have n6:¬(("next":Str)="is"):=by decide +kernel
 have n7:¬(("as":Str)="bind"):=by decide +kernel
 have n8:¬(("next":Str)="bind"):=by decide +kernel
 have n9:¬(("next":Str)="as"):=by decide +kernel
 cases f with
 |any =>
  show(if ("any":Str)="any" then some Fe.any else if ("any":Str)="word" then some Fe.word else if ("any":Str)="number" then some Fe.num else none)=_;rw[if_pos rfl]
 |word =>
  show(if ("word":Str)="any" then some Fe.any else if ("word":Str)="word" then some Fe.word else if ("word":Str)="number" then some Fe.num else none)=_;rw[if_neg n1,if_pos rfl]
 |num =>
  show(if ("number":Str)="any" then some Fe.any else if ("number":Str)="word" then some Fe.word else if ("number":Str)="number" then some Fe.num else none)=_;rw[if_neg n2,if_neg n3,if_pos rfl]
 |isv d =>
  show(if ("is":Str)="is" then some (Fe.isv d)else match d with | .str k=>if ("is":Str)="bind" then some (Fe.bind k)else if ("is":Str)="as" then some (Fe.as k)else if ("is":Str)="next" then some (Fe.nx k)else none | _=>none)=_;rw[if_pos rfl]
 |bind k =>
  show(if ("bind":Str)="is" then some (Fe.isv (.str k))else if ("bind":Str)="bind" then some (Fe.bind k)else if ("bind":Str)="as" then some (Fe.as k)else if ("bind":Str)="next" then some (Fe.nx k)else none)=_;rw[if_neg n4,if_pos rfl]
 |as k =>
  show(if ("as":Str)="is" then some (Fe.isv (.str k))else if ("as":Str)="bind" then some (Fe.bind k)else if ("as":Str)="as" then some (Fe.as k)else if ("as":Str)="next" then some (Fe.nx k)else none)=_;rw[if_neg n5,if_neg n7,if_pos rfl]
 |nx k =>
  show(if ("next":Str)="is" then some (Fe.isv (.str k))else if ("next":Str)="bind" then some (Fe.bind k)else if ("next":Str)="as" then some (Fe.as k)else if ("next":Str)="next" then some (Fe.nx k)else none)=_;rw[if_neg n6,if_neg n8,if_neg n9,if_pos rfl]
theorem j4n {α:Type} {f:α->Ab} {g:Ab->Option α} (h:∀x,g (f x)=some x) {x y:α} (e:f x=f y):x=y:=by
 have:=h x;rw[e,h y]at this;exact(Bo this).symm
theorem jc4 {α:Type} {f:α->Ab} (h:∀x y,f x=f y->x=y):∀{l m:List α},l.map f=m.map f->l=m
 |[],[],_=>rfl
 |[],_::_,e=>by cases e
 |_::_,[],e=>by cases e
 |x::l,y::m,e=>by
  rw[A7,A7]at e;obtain⟨e1,e2⟩:=Ex e;rw[h x y e1,jc4 h e2]
theorem jqg (f g:Fe) (e:f.d=g.d):f=g:=j4n j57 e
theorem jvs {l m:List Fe} (e:fsD l=fsD m):l=m:=jc4 jqg (Em e)
theorem j2g (a b:Ac) (e:a.d=b.d):a=b:=by
 have s:∀{x y:Str} {l m:List Ab},Bz (.str x::l)=.tuple (.str y::m)->x=y/\l=m:=λh=>by
  have:=Ex (Em h);exact⟨PyData.str.inj this.1,this.2⟩
 cases a<;>cases b<;>first
  |exact absurd (s e).1 (by decide +kernel)
  | (obtain⟨_,e⟩:=s e;simp only[List.cons.injEq,PyData.int.injEq,Int.natCast_inj,and_true]at e;first | (rw[jvs e.1,e.2]) | (rw[jvs e]) | (rw[jqg _ _ e.1,jqg _ _ e.2.1,e.2.2]) | (rw[e]))
theorem jwz {l m:List Str} (e:l.map B5=m.map B5):l=m:=jc4 (λ_ _ e=>PyData.str.inj e) e
theorem j19 (a b:Bl) (e:blD a=blD b):a=b:=by
 have:=Ex (Em e);have h1:=jwz (Em this.1);have h2:=jc4 j2g (Em (Ex this.2).1);exact Prod.ext h1 h2
theorem j0w {P R:List Bl} (e:prD P=prD R):P=R:=jc4 j19 (Em e)
def jct (d:Ab):Bool:=by
 classical exact if h:∃P,d=prD P/\wfP P then jun h.choose else false
theorem jq4 {P:List Bl} (h:wfP P):jct (prD P)=jun P:=by
 have e:∃R,prD P=prD R/\wfP R:=⟨P,rfl,h⟩;unfold jct;rw[dif_pos e,<-j0w e.choose_spec.1]
theorem jxh {d:Ab} (h:¬∃P,d=prD P/\wfP P):jct d=false:=by
 unfold jct;rw[dif_neg h]
def js2:DSp:=λws n Q=>ws=[.tp]/\n < 2 ^ 39/\∀v∈jmq,Q (.d v) (n+1)
def jd6:DSp:=λws n Q=>∃fs:List Fe,ws=[.d (fsD fs)]/\okFs fs/\∀ys:List Str,ys.length<=4->(∀k,k∈ys↔k∈bndE fs)->Q (.d (jbu ys)) n
def jyt:DSp:=λws n Q=>∃(P:List Bl) (i p:Nat) (b:Bl),ws=[.d (prD P),.d (.int i),.d (.int p)]/\P[i]?=some b/\wfB b/\p<=b.2.length/\∀ys:List Str,ys.length<=40->(∀k,k∈ys↔k∈kn b.1 b.2 p)->Q (.d (jbu ys)) n
def jyu:DSp:=λws n Q=>∃a:Ac,ws=[.d a.d]/\Q (.d (fsD a.fs)) n
def unkN (ks:List Str):List Fe->List Fe->Option Nat
 |_,[]=>none
 |dn,f::r=>match f.us with
  |some k=>if k∈ks\/k∈bndE dn then unkN ks (dn++[f]) r else some dn.length
  |none=>unkN ks (dn++[f]) r
def natO:Option Nat->Ab
 |some k=>.int k
 |none=>.none
def jys:DSp:=λws n Q=>∃(fs:List Fe) (ks:List Str),ws=[.d (fsD fs),.d (jbu ks)]/\okFs fs/\Q (.d (natO (unkN ks [] fs))) n
def jo3:DSp:=λws n Q=>∃(P:List Bl) (b:Nat) (ks:List Str),ws=[.d (prD P),.d (.int b),.d (jbu ks)]/\Q (.d (.bool (toB P ks (some b)))) n
def ji9:DSp:=λws n Q=>∃(P:List Bl) (i p:Nat) (b:Bl) (a:Ac),ws=[.d (prD P),.d (.int i),.d (.int p)]/\P[i]?=some b/\wfB b/\b.2[p]?=some a/\∀r,jcl r=actR P (kn b.1 b.2 p) a->Q (.d r) n
def jjb:DSp:=λws n Q=>∃(P:List Bl) (i:Nat) (b:Bl),ws=[.d (prD P),.d (.int i)]/\P[i]?=some b/\wfB b/\Q (.d (.bool (blR P b.1 b.2))) n
def jo4:DSp:=λws n Q=>∃(d:Ab) (L k:Nat),ws=[.d d]/\Th L k d/\L<=40/\k<=18/\Q (.d (.bool (jct d))) n
def toOk (a:Ac):Prop:=∀b,a.to=some b->b<=1000
abbrev Nt:=List Ab×Ab
def ntD (q:Nt):Ab:=.tuple [.tuple q.1,q.2]
def nsD (ns:List Nt):Ab:=.tuple (ns.map ntD)
abbrev Pg:=List (List Bl)
def pgD (ps:Pg):Ab:=.tuple (ps.map prD)
def okPg (ps:Pg):Prop:=ps.length<=5/\∀P∈ps,okG P
def okRw (row:List Ab):Prop:=(row.length<=4/\1<=row.length)/\∀d∈row,isV d=true
def okQ (q:Nt):Prop:=okRw q.1/\jsj q.2
def okNs (m:Nat) (ns:List Nt):Prop:=ns.length<=m/\∀q∈ns,okQ q
def jc3:Ab->Bool
 |.tuple ds=>decide (ds.length<=5)&&ds.all jct
 |_=>false
def jh4:Ab->Bool
 |.tuple ds=>decide (ds.length<=12)&&ds.all jca
 |_=>false
def jsg:Ab->Bool
 |.tuple [a,b]=>jc3 a&&jh4 b
 |_=>false
abbrev okT (d:Ab):Prop:=∃L k,Th L k d/\L<=40/\k<=18
def jd5:DSp:=λws n Q=>∃d,ws=[.d d]/\okT d/\Q (.d (.bool (jc3 d))) n
def jje:DSp:=λws n Q=>∃d,ws=[.d d]/\okT d/\Q (.d (.bool (jsg d))) n
def jhk:DSp:=jd5
def jwl:DSp:=jje
def jd4:DSp:=spJ jca
def jjc:DSp:=λws n Q=>∃m:Nat,ws=[.tp,.d (.int m)]/\m<=12/\n+100 < 2 ^ 39/\∀(ns:List Nt) (n':Int),okNs m ns->n'<=n+100->Q (.d (nsD ns)) n'
def jrp:DSp:=λws n Q=>ws=[.tp]/\n+4200 < 2 ^ 39/\∀(ps:Pg) (ns:List Nt) (n':Int),okPg ps->(∀P∈ps,fst0 P)->okNs 12 ns->n'<=n+4200->Q (.d (.tuple [pgD ps,nsD ns])) n'
def jk7:DSp:=λws n Q=>∃p s:List Ab,ws=[.tp,.d (.tuple [.tuple p,.tuple s])]/\p.length<=5/\s.length<=12/\(∀d∈p,Th 9 6 d)/\(∀d∈s,Th 9 2 d)/\n+1 < 2 ^ 39/\∀d,Th 20 9 d->Q (.d d) (n+1)
def jel:DSp:=λws n Q=>∃d,ws=[.d d]/\okT d/\Q (.d (.bool true)) n
abbrev jgi:DST:=(sRet (wAnd (wIsi "int" (wVar 0)) (wNot (wIsi "bool" (wVar 0)))))
abbrev jd1:DST:=(sSeq (sIf (cNot (cT (wIsi "str" (wVar 0)))) (sRet (wC (.bool false))) jaj) (sRet (wAnd (jas gLe gLe (wC (.int (1))) (wB gLen (jaa (wVar 0) aNil)) (wVar 1)) (wB gAll (jaa (wOf (jaq [none] (jcd (wVar 0)) (jad 0) cYes (jas gLe gLe (wC (.str "a")) (wVar 0) (wC (.str "z"))))) aNil)))))
abbrev jwi:DST:=(sRet (jac jcr (jaa (wVar 0) (jaa (wC (.int (8))) aNil))))
abbrev jfc:DST:=(sRet (wAnd (jac (spJ jdl) (jaa (wVar 0) aNil)) (jas gLe gLe (wC (.int (0))) (wVar 0) (wC (.int (99))))))
abbrev jgj:DST:=(sRet (wOr (jac (spJ (letB 8)) (jaa (wVar 0) aNil)) (jac (spJ numB) (jaa (wVar 0) aNil))))
abbrev jwj:DST:=(sRet (jac jcr (jaa (wVar 0) (jaa (wC (.int (4))) aNil))))
abbrev jmr:DST:=(sSeq (sIf (cNot (cT (wIsi "tuple" (wVar 0)))) (sRet (wC (.bool false))) jaj) (sRet (wAnd (jas gLe gLe (wC (.int (1))) (wB gLen (jaa (wVar 0) aNil)) (wC (.int (4)))) (wB gAll (jaa (wOf (jaq [none] (ja7 (wVar 0)) (jad 0) cYes (jac (spJ jbk) (jaa (wVar 0) aNil)))) aNil)))))
abbrev jms:DST:=(sRet (wOr (w2 (wVar 0) (wC .none) (gIsN false)) (wAnd (jac (spJ jdl) (jaa (wVar 0) aNil)) (jas gLe gLe (wC (.int (1))) (wVar 0) (wC (.int (20)))))))
abbrev ji2:DST:=(sRet (wAnd (wIsi "tuple" (wVar 0)) (wAnd (w2 (wB gLen (jaa (wVar 0) aNil)) (wC (.int (2))) gEq) (wAnd (jac (spJ rowB) (jaa (w2 (wVar 0) (wC (.int (0))) gIx) aNil)) (jac (spJ ageB) (jaa (w2 (wVar 0) (wC (.int (1))) gIx) aNil))))))
abbrev jfd:DST:=(sRet (wAnd (wIsi "tuple" (wVar 0)) (wAnd (w2 (wB gLen (jaa (wVar 0) aNil)) (wVar 2) gEq) (w2 (w2 (wVar 0) (wC (.int (0))) gIx) (wVar 1) gEq))))
abbrev jgk:DST:=(sRet (wAnd (jac ja4 (jaa (wVar 0) (jaa (wVar 1) (jaa (wC (.int (2))) aNil)))) (jac (spJ (letB 4)) (jaa (w2 (wVar 0) (wC (.int (1))) gIx) aNil))))
abbrev ji1:DST:=(sSeq (sIf (cT (jac ja4 (jaa (wVar 0) (jaa (wC (.str "is")) (jaa (wC (.int (2))) aNil))))) (sRet (jac (spJ jbk) (jaa (w2 (wVar 0) (wC (.int (1))) gIx) aNil))) jaj) (sRet (jac jcq (jaa (wVar 0) (jaa (wC (.str "as")) aNil)))))
abbrev jby:DST:=(sSeq (sIf (cOr (cT (jac ja4 (jaa (wVar 0) (jaa (wC (.str "any")) (jaa (wC (.int (1))) aNil))))) (cOr (cT (jac ja4 (jaa (wVar 0) (jaa (wC (.str "word")) (jaa (wC (.int (1))) aNil))))) (cT (jac ja4 (jaa (wVar 0) (jaa (wC (.str "number")) (jaa (wC (.int (1))) aNil))))))) (sRet (wC (.bool true))) jaj) (sRet (wOr (jac (spJ jch) (jaa (wVar 0) aNil)) (jac jcq (jaa (wVar 0) (jaa (wC (.str "bind")) aNil))))))
abbrev jbv:DST:=(sRet (wOr (jac (spJ jch) (jaa (wVar 0) aNil)) (jac jcq (jaa (wVar 0) (jaa (wC (.str "next")) aNil)))))
abbrev jb3:DST:=(sRet (wAnd (wIsi "tuple" (wVar 0)) (jas gLe gLe (wC (.int (1))) (wB gLen (jaa (wVar 0) aNil)) (wC (.int (4))))))
abbrev jd0:DST:=(sRet (wAnd (jac (spJ cntB) (jaa (wVar 0) aNil)) (wB gAll (jaa (wOf (jaq [none] (ja7 (wVar 0)) (jad 0) cYes (jac (spJ jb1) (jaa (wVar 0) aNil)))) aNil))))
abbrev jda:DST:=(sRet (wAnd (jac (spJ cntB) (jaa (wVar 0) aNil)) (wB gAll (jaa (wOf (jaq [none] (ja7 (wVar 0)) (jad 0) cYes (jac (spJ jc7) (jaa (wVar 0) aNil)))) aNil))))
abbrev j2h:DST:=(sRet (wB jgt (jaa (wOf (jei (wOf (jaq [none] (ja7 (wVar 0)) (jad 0) (cT (w2 (w2 (wVar 0) (wC (.int (0))) gIx) (wC (.str "bind")) gEq)) (w2 (wVar 0) (wC (.int (1))) gIx))))) aNil)))
abbrev jc6:DST:=(sRet (wAnd (jac (spJ jdl) (jaa (wVar 0) aNil)) (w2 (wVar 0) (wC (.int (0))) gGe)))
abbrev jrm:DST:=(sRet (wAnd (jac ja4 (jaa (wVar 0) (jaa (wC (.str "lay")) (jaa (wC (.int (3))) aNil)))) (wAnd (jac (spJ temB) (jaa (w2 (wVar 0) (wC (.int (1))) gIx) aNil)) (jac (spJ ageB) (jaa (w2 (wVar 0) (wC (.int (2))) gIx) aNil)))))
abbrev jox:DST:=(sRet (wAnd (jac ja4 (jaa (wVar 0) (jaa (wC (.str "take")) (jaa (wC (.int (2))) aNil)))) (jac (spJ patB) (jaa (w2 (wVar 0) (wC (.int (1))) gIx) aNil))))
abbrev joz:DST:=(sRet (wAnd (jac ja4 (jaa (wVar 0) (jaa (wC (.str "read")) (jaa (wC (.int (2))) aNil)))) (jac (spJ patB) (jaa (w2 (wVar 0) (wC (.int (1))) gIx) aNil))))
abbrev jo1:DST:=(sRet (wAnd (jac ja4 (jaa (wVar 0) (jaa (wC (.str "look")) (jaa (wC (.int (3))) aNil)))) (wAnd (jac (spJ patB) (jaa (w2 (wVar 0) (wC (.int (1))) gIx) aNil)) (jac (spJ jc1) (jaa (w2 (wVar 0) (wC (.int (2))) gIx) aNil)))))
abbrev joy:DST:=(sSeq (sIf (cNot (cT (jac ja4 (jaa (wVar 0) (jaa (wC (.str "same")) (jaa (wC (.int (4))) aNil)))))) (sRet (wC (.bool false))) jaj) (sRet (wAnd (jac (spJ jch) (jaa (w2 (wVar 0) (wC (.int (1))) gIx) aNil)) (wAnd (jac (spJ jch) (jaa (w2 (wVar 0) (wC (.int (2))) gIx) aNil)) (jac (spJ jc1) (jaa (w2 (wVar 0) (wC (.int (3))) gIx) aNil))))))
abbrev jwk:DST:=(sRet (wAnd (jac ja4 (jaa (wVar 0) (jaa (wC (.str "go")) (jaa (wC (.int (2))) aNil)))) (jac (spJ jc1) (jaa (w2 (wVar 0) (wC (.int (1))) gIx) aNil))))
abbrev jrn:DST:=(sSeq (sIf (cOr (cT (jac (spJ layB) (jaa (wVar 0) aNil))) (cOr (cT (jac (spJ (je4 "take")) (jaa (wVar 0) aNil))) (cT (jac (spJ (je4 "read")) (jaa (wVar 0) aNil))))) (sRet (wC (.bool true))) jaj) (sRet (wOr (jac (spJ jp3) (jaa (wVar 0) aNil)) (wOr (jac (spJ jh3) (jaa (wVar 0) aNil)) (jac (spJ goB) (jaa (wVar 0) aNil))))))
abbrev ji0:DST:=(sSeq (sIf (cOr (cNot (cT (wIsi "tuple" (wVar 0)))) (cT (w2 (wB gLen (jaa (wVar 0) aNil)) (wC (.int (4))) gGt))) (sRet (wC (.bool false))) jaj) (sSeq (sIf (cNot (cT (wB gAll (jaa (wOf (jaq [none] (ja7 (wVar 0)) (jad 0) cYes (jac (spJ (letB 4)) (jaa (wVar 0) aNil)))) aNil)))) (sRet (wC (.bool false))) jaj) (sRet (wB gAll (jaa (wOf (jaq [none,none] (jvp (wVar 0) (jak (wVar 0) (jar (wC (.int (1)))) ja6)) (jbl 2 (jan (jad 0) (jan (jad 1) jbg))) cYes (w2 (wVar 0) (wVar 1) gLt))) aNil)))))
abbrev jo2:DST:=(sRet (wAnd (wIsi "tuple" (wVar 0)) (wAnd (w2 (wB gLen (jaa (wVar 0) aNil)) (wC (.int (8))) gLe) (wB gAll (jaa (wOf (jaq [none] (ja7 (wVar 0)) (jad 0) cYes (jac (spJ actB) (jaa (wVar 0) aNil)))) aNil)))))
abbrev jk2:DST:=(sRet (wAnd (wIsi "tuple" (wVar 0)) (wAnd (w2 (wB gLen (jaa (wVar 0) aNil)) (wC (.int (2))) gEq) (wAnd (jac (spJ jjp) (jaa (w2 (wVar 0) (wC (.int (0))) gIx) aNil)) (jac (spJ jkk) (jaa (w2 (wVar 0) (wC (.int (1))) gIx) aNil))))))
abbrev Zc:List Str:=["take","read","look"]
abbrev jk1:DST:=(sSeq (sSet 3 (w2 (w2 (wVar 0) (wVar 1) gIx) (wC (.int (0))) gIx)) (sSeq (sSet 4 (w2 (w2 (wVar 0) (wVar 1) gIx) (wC (.int (1))) gIx)) (sSeq (sOwn 5 (jgb (wVar 3))) (sSeq (sFor (ja7 (jak (wVar 4) ja6 (jar (wVar 2)))) (jad 6) (sIf (cT (wInG Zc (w2 (wVar 6) (wC (.int (0))) gIx))) (jsc 5 (jac jd6 (jaa (w2 (wVar 6) (wC (.int (1))) gIx) aNil))) jaj)) (sFrz 5 (sRet (wB jgt (jaa (wOf (jei (wVar 5))) aNil))))))))
abbrev jfe:DST:=(sSeq (sIf (cT (w2 (w2 (wVar 0) (wC (.int (0))) gIx) (wC (.str "same")) gEq)) (sRet (jak (wVar 0) (jar (wC (.int (1)))) (jar (wC (.int (3)))))) jaj) (sRet (wIf (cT (w2 (w2 (wVar 0) (wC (.int (0))) gIx) (wC (.str "go")) gEq)) (wTup aNil) (w2 (wVar 0) (wC (.int (1))) gIx))))
abbrev jd2:DST:=(sSeq (sFor (jvq (wVar 0)) (jbl 2 (jan (jad 2) (jan (jad 3) jbg))) (sIf (cAnd (cT (w2 (w2 (wVar 3) (wC (.int (0))) gIx) (wTup (jaa (wC (.str "as")) (jaa (wC (.str "next")) aNil))) (gIn false))) (cAnd (cT (w2 (w2 (wVar 3) (wC (.int (1))) gIx) (wVar 1) (gIn true))) (cT (w2 (w2 (wVar 3) (wC (.int (1))) gIx) (jac jd6 (jaa (jak (wVar 0) ja6 (jar (wVar 2))) aNil)) (gIn true))))) (sRet (wVar 2)) jaj)) (sRet (wC .none)))
abbrev jk3:DST:=(sRet (wAnd (w2 (wVar 1) (wB gLen (jaa (wVar 0) aNil)) gLt) (wB gAll (jaa (wOf (jaq [none,some 2] (ja7 (w2 (w2 (wVar 0) (wVar 1) gIx) (wC (.int (0))) gIx)) (jad 0) cYes (w2 (wVar 0) (wVar 1) (gIn false)))) aNil))))
abbrev Zh:List Str:=["look","same","go"]
abbrev jgw:DST:=(sSeq (sSet 3 (w2 (w2 (w2 (wVar 0) (wVar 1) gIx) (wC (.int (1))) gIx) (wVar 2) gIx)) (sSeq (sSet 4 (jac jyt (jaa (wVar 0) (jaa (wVar 1) (jaa (wVar 2) aNil))))) (sSeq (sSet 5 (jac jyu (jaa (wVar 3) aNil))) (sSeq (sSet 6 (jac jys (jaa (wVar 5) (jaa (wVar 4) aNil)))) (sSeq (sIf (cT (w2 (wVar 6) (wC .none) (gIsN true))) (sRet (w2 (wC (.int (1))) (wVar 6) (gI0 λi j=>.int (i+j)))) jaj) (sSeq (sIf (cAnd (cT (wInG Zh (w2 (wVar 3) (wC (.int (0))) gIx))) (cNot (cT (jac jo3 (jaa (wVar 0) (jaa (w2 (wVar 3) (wNeg (wC (.int (1)))) gIx) (jaa (wVar 4) aNil))))))) (sRet (w2 (wC (.int (1))) (wB gLen (jaa (wVar 5) aNil)) (gI0 λi j=>.int (i+j)))) jaj) (sRet (wC .none))))))))
abbrev jdg:DST:=(sSeq (sSet 2 (w2 (w2 (wVar 0) (wVar 1) gIx) (wC (.int (1))) gIx)) (sRet (wB gAll (jaa (wOf (jaq [none,some 1,some 0] (ja1 (wB gLen (jaa (wVar 2) aNil))) (jad 0) cYes (w2 (jac ji9 (jaa (wVar 2) (jaa (wVar 1) (jaa (wVar 0) aNil)))) (wC .none) (gIsN false)))) aNil))))
abbrev ji3:DST:=(sSeq (sIf (cOr (cNot (cT (wIsi "tuple" (wVar 0)))) (cNot (cT (jas gLe gLe (wC (.int (1))) (wB gLen (jaa (wVar 0) aNil)) (wC (.int (6))))))) (sRet (wC (.bool false))) jaj) (sRet (wB gAll (jaa (wOf (jaq [none] (ja7 (wVar 0)) (jad 0) cYes (jac (spJ jcw) (jaa (wVar 0) aNil)))) aNil))))
abbrev jgx:DST:=(sSeq (sIf (cOr (cNot (cT (jac (spJ jiw) (jaa (wVar 0) aNil)))) (cT (w2 (w2 (w2 (wVar 0) (wC (.int (0))) gIx) (wC (.int (0))) gIx) (wTup aNil) (gT0 true)))) (sRet (wC (.bool false))) jaj) (sRet (wB gAll (jaa (wOf (jaq [none,some 0] (ja1 (wB gLen (jaa (wVar 0) aNil))) (jad 0) cYes (jac jjb (jaa (wVar 1) (jaa (wVar 0) aNil))))) aNil))))
abbrev jft:DST:=(sSeq (sIf (cOr (cNot (cT (wIsi "tuple" (wVar 0)))) (cT (w2 (wB gLen (jaa (wVar 0) aNil)) (wC (.int (5))) gGt))) (sRet (wC (.bool false))) jaj) (sRet (wB gAll (jaa (wOf (jaq [none] (ja7 (wVar 0)) (jad 0) cYes (jac jo4 (jaa (wVar 0) aNil)))) aNil))))
abbrev jdz:DST:=(sRet (wAnd (wIsi "tuple" (wVar 0)) (wAnd (w2 (wB gLen (jaa (wVar 0) aNil)) (wC (.int (12))) gLe) (wB gAll (jaa (wOf (jaq [none] (ja7 (wVar 0)) (jad 0) cYes (jac (spJ jca) (jaa (wVar 0) aNil)))) aNil)))))
abbrev jo0:DST:=(sRet (wAnd (wIsi "tuple" (wVar 0)) (wAnd (w2 (wB gLen (jaa (wVar 0) aNil)) (wC (.int (2))) gEq) (wAnd (jac jd5 (jaa (w2 (wVar 0) (wC (.int (0))) gIx) aNil)) (jac (spJ jh4) (jaa (w2 (wVar 0) (wC (.int (1))) gIx) aNil))))))
abbrev jgy:DST:=(sRet (w2 (wOf (fLst (jaa (wC (.str "a")) (jaa (wC (.int (0))) (jaa (wC (.str "a")) (jaa (wC (.int (1))) (jaa (wC (.str "ab")) (jaa (wC (.str "go")) (jaa (wC (.int (99))) (jaa (wC (.int (0))) aNil)))))))))) (jac jat (jaa (wVar 0) (jaa (wC (.int (8))) aNil))) gIx))
abbrev ji5:DST:=(sRet (w2 (wOf (fLst (jaa (wC (.int (1))) (jaa (wC (.int (2))) (jaa (wC (.int (2))) (jaa (wC (.int (2))) (jaa (wC (.int (1))) (jaa (wC (.int (3))) (jaa (wC (.int (4))) aNil))))))))) (jac jat (jaa (wVar 0) (jaa (wC (.int (7))) aNil))) gIx))
abbrev jk5:DST:=(sRet (w2 (wTp3 0) (jac jat (jaa (wVar 0) (jaa (wB jf9 (jaa (wTp3 0) aNil)) aNil))) gIxL))
abbrev jeu:DST:=(sSeq (sOwn 2 (fLst aNil)) (sSeq (sOwn 3 (fLst aNil)) (sSeq (sFor (ja1 (jac jja (jaa (wVar 0) aNil))) (jad 4) (sSeq (sSet 5 (jac jat (jaa (wVar 0) (jaa (wC (.int (9))) aNil)))) (sSeq (sSet 6 (w2 (wVar 1) (jfy 3) gCat)) (sIf (cT (w2 (wVar 5) (wC (.int (3))) gLt)) (sApp 2 (wTup (jaa (wC (.str "is")) (jaa (jac jfu (jaa (wVar 0) aNil)) aNil)))) (sIf (cT (w2 (wVar 5) (wC (.int (6))) gLt)) (sApp 2 (w2 (wOf (fLst (jaa (wTup (jaa (wC (.str "any")) aNil)) (jaa (wTup (jaa (wC (.str "word")) aNil)) (jaa (wTup (jaa (wC (.str "number")) aNil)) aNil))))) (w2 (wVar 5) (wC (.int (3))) (gI0 λi j=>.int (i - j))) gIxL)) (sIf (cOr (cT (w2 (wVar 5) (wC (.int (8))) gLt)) (cT (w2 (wVar 6) (wOf (fLst aNil)) gEqL))) (sSeq (sSet 7 (w2 (wOf (fLst (jaa (wC (.str "n")) (jaa (wC (.str "nm")) (jaa (wC (.str "go")) (jaa (wC (.str "m")) aNil)))))) (jac jat (jaa (wVar 0) (jaa (wC (.int (4))) aNil))) gIxL)) (sSeq (sApp 3 (wVar 7)) (sApp 2 (wTup (jaa (wC (.str "bind")) (jaa (wVar 7) aNil)))))) (sApp 2 (wTup (jaa (wC (.str "as")) (jaa (w2 (wVar 6) (jac jat (jaa (wVar 0) (jaa (wB jf9 (jaa (wVar 6) aNil)) aNil))) gIxL) aNil)))))))))) (sFrz 2 (sFrz 3 (sRet (wTup (jaa (wB jce (jaa (wVar 2) aNil)) (jaa (wVar 3) aNil)))))))))
abbrev jd3:DST:=(sSeq (sOwn 2 (fLst aNil)) (sSeq (sFor (ja1 (jac jja (jaa (wVar 0) aNil))) (jad 3) (sSeq (sSet 4 (jac jat (jaa (wVar 0) (jaa (wC (.int (6))) aNil)))) (sIf (cOr (cT (w2 (wVar 4) (wC (.int (3))) gLt)) (cT (w2 (wVar 1) (wOf (fLst aNil)) gEqL))) (sApp 2 (wTup (jaa (wC (.str "is")) (jaa (jac jfu (jaa (wVar 0) aNil)) aNil)))) (sApp 2 (wTup (jaa (w2 (wOf (fLst (jaa (wC (.str "as")) (jaa (wC (.str "as")) (jaa (wC (.str "next")) aNil))))) (w2 (wVar 4) (wC (.int (3))) (gI0 λi j=>.int (i - j))) gIxL) (jaa (w2 (wVar 1) (jac jat (jaa (wVar 0) (jaa (wB jf9 (jaa (wVar 1) aNil)) aNil))) gIxL) aNil))))))) (sFrz 2 (sRet (wB jce (jaa (wVar 2) aNil))))))
abbrev ji4:DST:=(sSeq (sIf (cOr (cT (w2 (wVar 1) (wOf (fLst aNil)) gEqL)) (cT (w2 (jac jat (jaa (wVar 0) (jaa (wC (.int (2))) aNil))) (wC (.int (0))) gEqL))) (sRet (wTup (jaa (wC (.str "is")) (jaa (jac jfu (jaa (wVar 0) aNil)) aNil)))) jaj) (sRet (wTup (jaa (wC (.str "as")) (jaa (w2 (wVar 1) (jac jat (jaa (wVar 0) (jaa (wB jf9 (jaa (wVar 1) aNil)) aNil))) gIxL) aNil)))))
abbrev jk6:DST:=(sSeq (sSet 3 (jac jat (jaa (wVar 0) (jaa (wC (.int (12))) aNil)))) (sSeq (sIf (cT (w2 (wVar 3) (wC (.int (4))) gLt)) (sRet (wTup (jaa (wTup (jaa (wC (.str "lay")) (jaa (jac jrq (jaa (wVar 0) (jaa (wVar 1) aNil))) (jaa (jac js2 (jaa (wVar 0) aNil)) aNil)))) (jaa (wOf (fLst aNil)) aNil)))) jaj) (sSeq (sSet 4 (w2 (wVar 2) (jac jat (jaa (wVar 0) (jaa (wB jf9 (jaa (wVar 2) aNil)) aNil))) gIxL)) (sSeq (sIf (cT (w2 (wVar 3) (wC (.int (10))) gEqL)) (sRet (wTup (jaa (wTup (jaa (wC (.str "same")) (jaa (jac jjd (jaa (wVar 0) (jaa (wVar 1) aNil))) (jaa (jac jjd (jaa (wVar 0) (jaa (wVar 1) aNil))) (jaa (wVar 4) aNil))))) (jaa (wOf (fLst aNil)) aNil)))) jaj) (sSeq (sIf (cT (w2 (wVar 3) (wC (.int (11))) gEqL)) (sRet (wTup (jaa (wTup (jaa (wC (.str "go")) (jaa (wVar 4) aNil))) (jaa (wOf (fLst aNil)) aNil)))) jaj) (sSeq (sUnp (jac jrr (jaa (wVar 0) (jaa (wVar 1) aNil))) (jbl 2 (jan (jad 5) (jan (jad 6) jbg)))) (sSeq (sIf (cT (w2 (wVar 3) (wC (.int (7))) gGt)) (sRet (wTup (jaa (wTup (jaa (wC (.str "look")) (jaa (wVar 5) (jaa (wVar 4) aNil)))) (jaa (wVar 6) aNil)))) jaj) (sRet (wTup (jaa (wTup (jaa (w2 (wOf (fLst (jaa (wC (.str "take")) (jaa (wC (.str "take")) (jaa (wC (.str "take")) (jaa (wC (.str "read")) aNil)))))) (w2 (wVar 3) (wC (.int (4))) (gI0 λi j=>.int (i - j))) gIxL) (jaa (wVar 5) aNil))) (jaa (wVar 6) aNil)))))))))))
abbrev jet:DST:=(sSeq (sOwn 1 (fLst (jaa (wTup aNil) aNil))) (sSeq (sFor (ja1 (w2 (wOf (fLst (jaa (wC (.int (0))) (jaa (wC (.int (1))) (jaa (wC (.int (2))) (jaa (wC (.int (1))) (jaa (wC (.int (0))) (jaa (wC (.int (2))) (jaa (wC (.int (5))) aNil))))))))) (jac jat (jaa (wVar 0) (jaa (wC (.int (7))) aNil))) gIxL)) (jad 2) (sApp 1 (w2 (wOf (fLst (jaa (wTup aNil) (jaa (wTup (jaa (wC (.str "n")) aNil)) (jaa (wTup (jaa (wC (.str "go")) (jaa (wC (.str "n")) aNil))) (jaa (wTup (jaa (wC (.str "nm")) aNil)) (jaa (wTup aNil) aNil))))))) (jac jat (jaa (wVar 0) (jaa (wC (.int (5))) aNil))) gIxL))) (sSeq (sOwn 3 (fLst aNil)) (sFrz 1 (sSeq (sFor (je8 (wVar 1)) (jad 4) (sSeq (sOwn 5 (jgb (wVar 4))) (sSeq (sOwn 6 (fLst aNil)) (sSeq (sFor (ja1 (w2 (wOf (fLst (jaa (wC (.int (2))) (jaa (wC (.int (3))) (jaa (wC (.int (1))) (jaa (wC (.int (4))) (jaa (wC (.int (2))) (jaa (wC (.int (0))) (jaa (wC (.int (3))) (jaa (wC (.int (8))) aNil)))))))))) (jac jat (jaa (wVar 0) (jaa (wC (.int (8))) aNil))) gIxL)) (jad 2) (sSeq (sSet 8 (wOf (jaq [none,some 5,some 1] (ja1 (wB jf9 (jaa (wVar 1) aNil))) (jad 0) (cT (w2 (wOf (jaq [none,some 1] (ja7 (w2 (wVar 2) (wVar 0) gIxL)) (jad 0) (cT (w2 (wVar 0) (wVar 1) (gInL true))) (wVar 0))) (wOf (fLst aNil)) gEqL)) (wVar 0)))) (sSeq (sUnp (jac jk8 (jaa (wVar 0) (jaa (jfy 5) (jaa (wVar 8) aNil)))) (jbl 2 (jan (jad 9) (jan (jad 10) jbg)))) (sSeq (sApp 6 (wVar 9)) (sFor (je8 (wVar 10)) (jad 7) (sIf (cT (w2 (wVar 7) (jfy 5) (gInL true))) (sApp 5 (wVar 7)) jaj)))))) (sFrz 6 (sApp 3 (wTup (jaa (wVar 4) (jaa (wB jce (jaa (wVar 6) aNil)) aNil))))))))) (sFrz 3 (sRet (wB jce (jaa (wVar 3) aNil)))))))))
abbrev jg1:DST:=(sSeq (sOwn 2 (fLst aNil)) (sSeq (sFor (ja1 (jac jat (jaa (wVar 0) (jaa (w2 (wVar 1) (wC (.int (1))) (gI0 λi j=>.int (i+j))) aNil)))) (jad 3) (sSeq (sSet 4 (wB jce (jaa (wOf (jaq [none,some 0] (ja1 (jac jja (jaa (wVar 0) aNil))) (jad 0) cYes (jac jfu (jaa (wVar 1) aNil)))) aNil))) (sApp 2 (wTup (jaa (wVar 4) (jaa (jac js2 (jaa (wVar 0) aNil)) aNil)))))) (sFrz 2 (sRet (wB jce (jaa (wVar 2) aNil))))))
abbrev ji6:DST:=(sSeq (sOwn 1 (jaq [none,some 0] (ja1 (w2 (wOf (fLst (jaa (wC (.int (2))) (jaa (wC (.int (1))) (jaa (wC (.int (2))) (jaa (wC (.int (3))) (jaa (wC (.int (2))) (jaa (wC (.int (1))) (jaa (wC (.int (0))) (jaa (wC (.int (5))) aNil)))))))))) (jac jat (jaa (wVar 0) (jaa (wC (.int (8))) aNil))) gIxL)) (jad 0) cYes (jac jro (jaa (wVar 1) aNil)))) (sSeq (sIf (cAnd (cT (w2 (wB jf9 (jaa (jfy 1) aNil)) (wC (.int (2))) gEqL)) (cT (w2 (jac jat (jaa (wVar 0) (jaa (wC (.int (4))) aNil))) (wC (.int (0))) gEqL))) (sPut 1 (wC (.int (1))) (w2 (jfy 1) (wC (.int (0))) gIxL)) jaj) (sFrz 1 (sRet (wTup (jaa (wB jce (jaa (wVar 1) aNil)) (jaa (jac jjc (jaa (wVar 0) (jaa (w2 (wOf (fLst (jaa (wC (.int (4))) (jaa (wC (.int (3))) (jaa (wC (.int (6))) (jaa (wC (.int (12))) aNil)))))) (jac jat (jaa (wVar 0) (jaa (wC (.int (4))) aNil))) gIxL) aNil))) aNil)))))))
abbrev jcn:DST:=(sRet (wAnd (wIsi "int" (wVar 0)) (wAnd (wNot (wIsi "bool" (wVar 0))) (jas gLe gLe (wVar 1) (wVar 0) (wVar 2)))))
abbrev jco:DST:=(sSeq (sIf (cOr (cNot (cT (wIsi "str" (wVar 0)))) (cOr (cT (w2 (wB gLen (jaa (wVar 0) aNil)) (wC (.int (0))) gEq)) (cT (w2 (wB gLen (jaa (wVar 0) aNil)) (wVar 1) gGt)))) (sRet (wC (.bool false))) jaj) (sRet (w2 (wOf (jaq [none] (jcd (wVar 0)) (jad 0) (cOr (cT (w2 (wVar 0) (wC (.str "a")) gLt)) (cT (w2 (wVar 0) (wC (.str "z")) gGt))) (wVar 0))) (wOf (fLst aNil)) gEq)))
abbrev jk4:DST:=(sSeq (sSet 1 (wOf (fLst (jaa (wC .none) (jaa (wC (.bool true)) (jaa (wC (.bool false)) (jaa (wC (.int (0))) (jaa (wNeg (wC (.int (1)))) (jaa (wC (.int (20))) (jaa (wC (.int (21))) (jaa (wC (.int (100))) (jaa (wC (.str "")) (jaa (wC (.str "n")) (jaa (wC (.str "a")) (jaa (wC (.str "abcde")) (jaa (wC (.str "abcdefghi")) (jaa (wC (.str "A")) (jaa (wC (.str "any")) (jaa (wC (.str "is")) (jaa (wC (.str "as")) (jaa (wC (.str "bind")) aNil))))))))))))))))))))) (sSeq (sSet 1 (w2 (wVar 1) (wOf (fLst (jaa (wTup aNil) (jaa (wOf (fLst aNil)) (jaa (wTup (jaa (wC (.str "any")) aNil)) (jaa (wTup (jaa (wC (.str "as")) (jaa (wC (.str "n")) aNil))) (jaa (wTup (jaa (wC (.str "next")) (jaa (wC (.str "n")) aNil))) (jaa (wTup (jaa (wC (.str "is")) (jaa (wC (.int (0))) aNil))) (jaa (wTup (jaa (wC (.str "go")) (jaa (wC (.int (0))) aNil))) (jaa (w2 (wC (.int (10))) (wC (.int (30))) (gI CPow λi j=>.int (i ^ j.toNat))) (jaa (wC (.str "next")) (jaa (wC (.str "take")) (jaa (wTup (jaa (wC (.str "n")) aNil)) aNil))))))))))))) gCat)) (sRet (w2 (wVar 1) (jac jat (jaa (wVar 0) (jaa (wB gLen (jaa (wVar 1) aNil)) aNil))) gIx))))
abbrev ji7 (Sf:DSp):DST:=(sSeq (sIf (cAnd (cT (wIsi "tuple" (wVar 1))) (cAnd (cT (w2 (wVar 1) (wTup aNil) (gT0 true))) (cT (w2 (jac jat (jaa (wVar 0) (jaa (wC (.int (5))) aNil))) (wC (.int (0))) gGt)))) (sSeq (sSet 2 (jac jat (jaa (wVar 0) (jaa (wB gLen (jaa (wVar 1) aNil)) aNil)))) (sRet (w2 (w2 (jak (wVar 1) ja6 (jar (wVar 2))) (wTup (jaa (jac Sf (jaa (wVar 0) (jaa (w2 (wVar 1) (wVar 2) gIx) aNil))) aNil)) jcj) (jak (wVar 1) (jar (w2 (wVar 2) (wC (.int (1))) (gI0 λi j=>.int (i+j)))) ja6) jcj))) jaj) (sSeq (sSet 3 (jac jat (jaa (wVar 0) (jaa (wC (.int (7))) aNil)))) (sSeq (sIf (cOr (cNot (cT (wIsi "tuple" (wVar 1)))) (cT (w2 (wVar 3) (wC (.int (0))) (gXX λd e=>some (PyData.eqv d e))))) (sSeq (sIf (cAnd (cT (wIsi "int" (wVar 1))) (cT (w2 (wVar 3) (wC (.int (4))) gLt))) (sRet (w2 (wOf (fLst (jaa (w2 (wVar 1) (wC (.int (1))) (gBI (·+·) gAdd)) (jaa (w2 (wVar 1) (wC (.int (1))) (gBI (· - ·) (gI0 λi j=>.int (i - j)))) (jaa (w2 (wVar 1) (wC (.int (1))) (gXX λd e=>some (PyData.eqv d e))) (jaa (wB jx6 (jaa (wVar 1) aNil)) aNil)))))) (wVar 3) gIx)) jaj) (sRet (jac jew (jaa (wVar 0) aNil)))) jaj) (sSeq (sSet 2 (jac jat (jaa (wVar 0) (jaa (w2 (wB gLen (jaa (wVar 1) aNil)) (wC (.int (1))) (gI0 λi j=>.int (i+j))) aNil)))) (sSeq (sSet 4 (wOf (fLst (jaa (w2 (jak (wVar 1) ja6 (jar (wVar 2))) (jak (wVar 1) (jar (w2 (wVar 2) (wC (.int (1))) (gI0 λi j=>.int (i+j)))) ja6) jcj) (jaa (w2 (w2 (jak (wVar 1) ja6 (jar (wVar 2))) (jak (wVar 1) (jar (wVar 2)) (jar (w2 (wVar 2) (wC (.int (1))) (gI0 λi j=>.int (i+j))))) jcj) (jak (wVar 1) (jar (wVar 2)) ja6) jcj) (jaa (wRev (wVar 1)) (jaa (wB jj6 (jaa (wVar 1) aNil)) aNil))))))) (sRet (w2 (w2 (wVar 4) (wOf (fLst (jaa (w2 (w2 (jak (wVar 1) ja6 (jar (wVar 2))) (wTup (jaa (jac jew (jaa (wVar 0) aNil)) aNil)) jcj) (jak (wVar 1) (jar (wVar 2)) ja6) jcj) (jaa (w2 (wVar 1) (wTup (jaa (jac jew (jaa (wVar 0) aNil)) aNil)) jcj) aNil)))) jcj) (w2 (wVar 3) (wC (.int (1))) (gI0 λi j=>.int (i - j))) gIx)))))))
abbrev jc2:DST:=(sSeq (sIf (cOr (cNot (cT (wIsi "tuple" (wVar 0)))) (cOr (cT (w2 (wB gLen (jaa (wVar 0) aNil)) (wC (.int (2))) gNe)) (cNot (cT (wIsi "tuple" (w2 (wVar 0) (wC (.int (0))) gIx)))))) (sRet (wC (.bool false))) jaj) (sSeq (sIf (cOr (cT (w2 (wB gLen (jaa (w2 (wVar 0) (wC (.int (0))) gIx) aNil)) (wTup (jaa (wC (.int (1))) (jaa (wC (.int (2))) (jaa (wC (.int (3))) (jaa (wC (.int (4))) aNil))))) (gIn true))) (cNot (cOr (cT (w2 (w2 (wVar 0) (wC (.int (1))) gIx) (wC .none) (gIsN false))) (cT (jac jdb (jaa (w2 (wVar 0) (wC (.int (1))) gIx) (jaa (wC (.int (1))) (jaa (wC (.int (20))) aNil)))))))) (sRet (wC (.bool false))) jaj) (sRet (w2 (wOf (jaq [none] (ja7 (w2 (wVar 0) (wC (.int (0))) gIx)) (jad 0) (cAnd (cNot (cT (jac jff (jaa (wVar 0) (jaa (wC (.int (8))) aNil))))) (cNot (cT (jac jdb (jaa (wVar 0) (jaa (wC (.int (0))) (jaa (wC (.int (99))) aNil))))))) (wVar 0))) (wOf (fLst aNil)) gEq))))
abbrev jcp:DST:=(sRet (wAnd (wIsi "tuple" (wVar 0)) (wAnd (w2 (wB gLen (jaa (wVar 0) aNil)) (wC (.int (6))) gLt) (w2 (wOf (jaq [none] (ja7 (wVar 0)) (jad 0) (cT (w2 (jac jo4 (jaa (wVar 0) aNil)) (wC (.bool true)) (gIsB true))) (wVar 0))) (wOf (fLst aNil)) gEq))))
abbrev jev:DST:=(sSeq (sIf (cOr (cNot (cT (wIsi "tuple" (wVar 0)))) (cOr (cT (w2 (wB gLen (jaa (wVar 0) aNil)) (wC (.int (2))) gNe)) (cNot (cT (jac jhk (jaa (w2 (wVar 0) (wC (.int (0))) gIx) aNil)))))) (sRet (wC (.bool false))) jaj) (sSeq (sSet 1 (wAnd (wIsi "tuple" (w2 (wVar 0) (wC (.int (1))) gIx)) (w2 (wB gLen (jaa (w2 (wVar 0) (wC (.int (1))) gIx) aNil)) (wC (.int (13))) gLt))) (sRet (wAnd (wVar 1) (w2 (wOf (jaq [none] (ja7 (w2 (wVar 0) (wC (.int (1))) gIx)) (jad 0) (cNot (cT (jac jd4 (jaa (wVar 0) aNil)))) (wVar 0))) (wOf (fLst aNil)) gEq)))))
abbrev jg0:DST:=(sSeq (sUnp (wVar 1) (jbl 2 (jan (jad 2) (jan (jad 3) jbg)))) (sSeq (sSet 4 (wTup (jaa (wTup (jaa (wTup aNil) (jaa (wTup aNil) aNil))) aNil))) (sSeq (sSet 5 (wTup (jaa (wTup (jaa (wC (.str "a")) aNil)) (jaa (wC .none) aNil)))) (sSeq (sOwn 6 (jaq [none,some 3,some 2,some 4] (ja7 (wTup (jaa (wC (.int (5))) (jaa (wC (.int (6))) aNil)))) (jad 0) cYes (wTup (jaa (w2 (wVar 2) (js6 (wTup (jaa (wVar 3) aNil)) (w2 (wVar 0) (wB gLen (jaa (wVar 2) aNil)) (gI0 λi j=>.int (i - j)))) jcj) (jaa (wVar 1) aNil))))) (sFrz 6 (sSeq (sOwn 6 (fCat (wVar 6) (wOf (jaq [none,some 5,some 3,some 2] (ja7 (wTup (jaa (wC (.int (12))) (jaa (wC (.int (13))) aNil)))) (jad 0) cYes (wTup (jaa (wVar 3) (jaa (w2 (wVar 2) (js6 (wTup (jaa (wVar 1) aNil)) (w2 (wVar 0) (wB gLen (jaa (wVar 2) aNil)) (gI0 λi j=>.int (i - j)))) jcj) aNil))))))) (sFrz 6 (sSeq (sOwn 6 (fCat (wVar 6) (wOf (fLst (jaa (wTup (jaa (wB jj6 (jaa (wVar 2) aNil)) (jaa (wVar 3) aNil))) (jaa (wTup (jaa (wVar 2) (jaa (wB jj6 (jaa (wVar 3) aNil)) aNil))) (jaa (wOf (fLst (jaa (wVar 2) (jaa (wVar 3) aNil)))) (jaa (wTup (jaa (wVar 2) (jaa (wVar 3) (jaa (wTup aNil) aNil)))) aNil)))))))) (sFrz 6 (sSeq (sOwn 6 (fCat (wVar 6) (wOf (fLst (jaa (wTup (jaa (wVar 2) aNil)) (jaa (wTup (jaa (w2 (wVar 2) (wTup (jaa (wTup (jaa (wTup (jaa (wTup (jaa (wC (.str "n")) aNil)) (jaa (wTup aNil) aNil))) aNil)) aNil)) jcj) (jaa (wVar 3) aNil))) (jaa (wTup (jaa (wVar 3) (jaa (wVar 2) aNil))) aNil))))))) (sSeq (sFor (je8 (wOf (fLst (jaa (wTup (jaa (wTup (jaa (wC (.str "a")) (jaa (wC (.bool true)) aNil))) (jaa (wC .none) aNil))) (jaa (wTup (jaa (wTup (jaa (wC (.str "a")) aNil)) (jaa (wC (.int (21))) aNil))) (jaa (wTup (jaa (wC (.str "a")) (jaa (wC (.int (1))) aNil))) (jaa (wTup (jaa (wTup (jaa (wC (.str "a")) aNil)) (jaa (wC (.int (20))) aNil))) (jaa (wOf (fLst (jaa (wTup (jaa (wC (.str "a")) aNil)) (jaa (wC (.int (1))) aNil)))) (jaa (wTup (jaa (wTup (jaa (wC (.str "a")) aNil)) aNil)) aNil))))))))) (jad 7) (sApp 6 (wTup (jaa (wVar 2) (jaa (w2 (jak (wVar 3) ja6 (jar (wC (.int (11))))) (wTup (jaa (wVar 7) aNil)) jcj) aNil))))) (sFrz 6 (sRet (w2 (wVar 6) (jac jat (jaa (wVar 0) (jaa (wB gLen (jaa (wVar 6) aNil)) aNil))) gIx))))))))))))))
abbrev jgz:DST:=(sSeq (sIf (cT (w2 (wB jbp (jaa (jac jje (jaa (wVar 0) aNil)) aNil)) (wB jbp (jaa (jac jwl (jaa (wVar 0) aNil)) aNil)) gNe)) (sRet (wC (.bool false))) jaj) (sSeq (sFor (ja7 (wIf (cT (wIsi "tuple" (wVar 0))) (wVar 0) (wTup aNil))) (jad 1) (sIf (cT (w2 (wB jbp (jaa (jac jd5 (jaa (wVar 1) aNil)) aNil)) (wB jbp (jaa (jac jhk (jaa (wVar 1) aNil)) aNil)) gNe)) (sRet (wC (.bool false))) jaj)) (sRet (w2 (wB jbp (jaa (jac jd5 (jaa (wVar 0) aNil)) aNil)) (wB jbp (jaa (jac jhk (jaa (wVar 0) aNil)) aNil)) gEq))))
abbrev j50:DST:=(sSeq (sFor (je8 (wOf (fLst (jaa (wC .none) (jaa (wC (.bool true)) (jaa (wC (.int (0))) (jaa (wC (.str "")) (jaa (wTup aNil) (jaa (wOf (fLst aNil)) (jaa (wTup (jaa (wTup aNil) (jaa (wTup aNil) aNil))) (jaa (wTup (jaa (wTup aNil) (jaa (wOf (fLst aNil)) aNil))) (jaa (wTup (jaa (wOf (fLst aNil)) (jaa (wTup aNil) aNil))) (jaa (wTup (jaa (wTup aNil) aNil)) (jaa (wTup (jaa (wTup aNil) (jaa (wTup aNil) (jaa (wTup aNil) aNil)))) (jaa (wTup (jaa (wTup aNil) (jaa (wTup (jaa (wTup (jaa (wTup (jaa (wC (.str "a")) aNil)) (jaa (wC (.int (1))) aNil))) aNil)) aNil))) aNil))))))))))))))) (jad 2) (sIf (cNot (cT (jac jel (jaa (wVar 2) aNil)))) (sRet (wC (.bool false))) jaj)) (sSeq (sFor (ja1 (wC (.int (3)))) (jad 3) (sSeq (sSet 4 (jac jrp (jaa (wVar 1) aNil))) (sSeq (sIf (cT (w2 (jac jje (jaa (wVar 4) aNil)) (wC (.bool true)) (gIsB true))) (sRet (wC (.bool false))) jaj) (sSeq (sSet 5 (wOf (fLst (jaa (wVar 4) (jaa (jac jk7 (jaa (wVar 1) (jaa (wVar 4) aNil))) (jaa (jac jk7 (jaa (wVar 1) (jaa (wVar 4) aNil))) (jaa (jac (jfv 20) (jaa (wVar 1) (jaa (wVar 4) aNil))) (jaa (jac (jfv 20) (jaa (wVar 1) (jaa (wVar 4) aNil))) aNil)))))))) (sFor (je8 (wVar 5)) (jad 2) (sIf (cNot (cT (jac jel (jaa (wVar 2) aNil)))) (sRet (wC (.bool false))) jaj)))))) (sRet (wC (.bool true)))))
theorem jnx:∀ws n Q,spJ jdl ws n Q->ws.length=1:=λ_ _ _ h=>jav h
abbrev Za:List Str:=["thing"]
theorem jmg:∀ws n Q,spJ jdl ws n Q->jgi (jah Za ws) n {nx:=λ_ n=>Q (.d .none) n,rt:=Q}:=jbz λd n K k=>by
 show jgi [some (.w (.d d))] n K;unfold jgi;cases d<;>(simp only[wVar,jbl,jan,jbg,jak,ja6,jar,wC,w2,cT,jas,ja2,cOr,cNot,wAnd,wOr,wNot,aNil,jaa,wOf,jac,wB,jaj,sSeq,sRet,sIf,gCmp,gEq,gIsN,gIx,gLen,wIsi,gAll,ja7,jcd,jaq,jbr,cYes,jad,ja3,Ci,Au,Ay,A4,Bc,A7,Bk,B3,jbb,jax,jba,jal,jaw];simpa[jdl]using k)
theorem jj0:∀ws n Q,jcr ws n Q->ws.length=2:=λws n Q h=>by
 unfold jcr at h
 split at h
 ·rfl
 ·exact h.elim
theorem jir:∀ws n Q,jcr ws n Q->jd1 (jah ["thing","longest"] ws) n {nx:=λ_ n=>Q (.d .none) n,rt:=Q}:=λws n Q h=>by
 unfold jcr at h
 split at h
 ·rename_i d k;show jd1 [some (.w (.d d)),some (.w (.d (.int k)))] n _;unfold jd1;cases d with
  |str x =>
   simp only[wVar,jbl,jan,jbg,jak,ja6,jar,wC,w2,cT,jas,ja2,cOr,cNot,wAnd,wOr,wNot,aNil,jaa,wOf,jac,wB,jaj,sSeq,sRet,sIf,gCmp,gEq,gIsN,gIx,gLen,wIsi,gAll,ja7,jcd,jaq,jbr,cYes,jad,ja3,Ci,Au,Ay,A4,Bc,A7,Bk,B3,jbb,jax,jba,jal,jaw];simp only[Bool.not_true,Bf,if_false];simp only[letB]at h;refine ifb (λe1=>?_) (λe1=>?_)
   ·refine ifb (λe2=>?_) (λe2=>?_)
    ·rw[e1,e2,B6,B6]at h;exact jxy x h
    ·rw[e1,e2]at h;exact h
   ·rw[e1]at h;exact h
  |_=>simp only[wVar,jbl,jan,jbg,jak,ja6,jar,wC,w2,cT,jas,ja2,cOr,cNot,wAnd,wOr,wNot,aNil,jaa,wOf,jac,wB,jaj,sSeq,sRet,sIf,gCmp,gEq,gIsN,gIx,gLen,wIsi,gAll,ja7,jcd,jaq,jbr,cYes,jad,ja3,Ci,Au,Ay,A4,Bc,A7,Bk,B3,jbb,jax,jba,jal,jaw];exact h
 ·exact h.elim
theorem jp5:∀ws n Q,spJ (letB 8) ws n Q->ws.length=1:=λ_ _ _ h=>jav h
theorem jog:∀ws n Q,spJ (letB 8) ws n Q->jwi (jah Za ws) n {nx:=λ_ n=>Q (.d .none) n,rt:=Q}:=jbz λd n K k=>k
theorem jqb:∀ws n Q,spJ (letB 4) ws n Q->ws.length=1:=λ_ _ _ h=>jav h
theorem jon:∀ws n Q,spJ (letB 4) ws n Q->jwj (jah Za ws) n {nx:=λ_ n=>Q (.d .none) n,rt:=Q}:=jbz λd n K k=>k
theorem jly:∀ws n Q,spJ numB ws n Q->ws.length=1:=λ_ _ _ h=>jav h
theorem jkb:∀ws n Q,spJ numB ws n Q->jfc (jah Za ws) n {nx:=λ_ n=>Q (.d .none) n,rt:=Q}:=jbz λd n K k=>by
 show jfc [some (.w (.d d))] n K;unfold jfc;simp only[sRet,wAnd,jac,jaa,aNil,wVar,Au,spJ,ja2,jas,wC];exact jkr k
theorem jny:∀ws n Q,spJ jbk ws n Q->ws.length=1:=λ_ _ _ h=>jav h
theorem jmh:∀ws n Q,spJ jbk ws n Q->jgj (jah Za ws) n {nx:=λ_ n=>Q (.d .none) n,rt:=Q}:=jbz λd n K k=>by
 show jgj [some (.w (.d d))] n K;unfold jgj;simp only[wVar,jbl,jan,jbg,jak,ja6,jar,wC,w2,cT,jas,ja2,cOr,cNot,wAnd,wOr,wNot,aNil,jaa,wOf,jac,wB,jaj,sSeq,sRet,sIf,gCmp,gEq,gIsN,gIx,gLen,wIsi,gAll,ja7,jcd,jaq,jbr,cYes,jad,ja3,Ci,Au,Ay,A4,Bc,A7,Bk,B3,jbb,jax,jba,jal,jaw,spJ];exact jh7 (F:=λb=>K.rt (.d (.bool b)) n) k id
theorem jsn:∀ws n Q,spJ rowB ws n Q->ws.length=1:=λ_ _ _ h=>jav h
theorem jqk:∀ws n Q,spJ rowB ws n Q->jmr (jah Za ws) n {nx:=λ_ n=>Q (.d .none) n,rt:=Q}:=jbz λd n K k=>by
 show jmr [some (.w (.d d))] n K;unfold jmr;cases d with
 |tuple ds =>
  simp only[rowB]at k;simp only[wVar,jbl,jan,jbg,jak,ja6,jar,wC,w2,cT,jas,ja2,cOr,cNot,wAnd,wOr,wNot,aNil,jaa,wOf,jac,wB,jaj,sSeq,sRet,sIf,gCmp,gEq,gIsN,gIx,gLen,wIsi,gAll,ja7,jcd,jaq,jbr,cYes,jad,ja3,Ci,Au,Ay,A4,Bc,A7,Bk,B3,jbb,jax,jba,jal,jaw];simp only[Bool.not_true,Bf,if_false];refine ifb (λe1=>?_) (λe1=>?_)
  ·refine ifb (λe2=>?_) (λe2=>?_)
   ·rw[e1,e2,B6,B6]at k;exact jxa ds k
   ·rw[e1,e2]at k;exact k
  ·rw[e1]at k;exact k
 |_=>simp only[wVar,jbl,jan,jbg,jak,ja6,jar,wC,w2,cT,jas,ja2,cOr,cNot,wAnd,wOr,wNot,aNil,jaa,wOf,jac,wB,jaj,sSeq,sRet,sIf,gCmp,gEq,gIsN,gIx,gLen,wIsi,gAll,ja7,jcd,jaq,jbr,cYes,jad,ja3,Ci,Au,Ay,A4,Bc,A7,Bk,B3,jbb,jax,jba,jal,jaw];exact k
theorem jsp:∀ws n Q,spJ ageB ws n Q->ws.length=1:=λ_ _ _ h=>jav h
theorem jqm:∀ws n Q,spJ ageB ws n Q->jms (jah Za ws) n {nx:=λ_ n=>Q (.d .none) n,rt:=Q}:=jbz λd n K k=>by
 show jms [some (.w (.d d))] n K;unfold jms;simp only[sRet,wOr,w2,wAnd,jac,jaa,aNil,wVar,Au,spJ,ja2,jas,wC,gIsN,Bf,if_false];exact jh7 (F:=λb=>K.rt (.d (.bool b)) n) k jkr
theorem jqa:∀ws n Q,spJ jca ws n Q->ws.length=1:=λ_ _ _ h=>jav h
theorem jom:∀ws n Q,spJ jca ws n Q->ji2 (jah Za ws) n {nx:=λ_ n=>Q (.d .none) n,rt:=Q}:=jbz λd n K k=>by
 show ji2 [some (.w (.d d))] n K;unfold ji2;cases d with
 |tuple ds =>
  simp only[wVar,jbl,jan,jbg,jak,ja6,jar,wC,w2,cT,jas,ja2,cOr,cNot,wAnd,wOr,wNot,aNil,jaa,wOf,jac,wB,jaj,sSeq,sRet,sIf,gCmp,gEq,gIsN,gIx,gLen,wIsi,gAll,ja7,jcd,jaq,jbr,cYes,jad,ja3,Ci,Au,Ay,A4,Bc,A7,Bk,B3,jbb,jax,jba,jal,jaw,spJ,eqD];rcases ds with _ | ⟨a,_ | ⟨b,_ | ⟨c,r⟩⟩⟩
  ·exact k
  ·exact k
  ·show if rowB a=true then K.rt (.d (.bool (ageB b))) n else K.rt (.d (.bool false)) n
   exact jek (F:=λb=>K.rt (.d (.bool b)) n) k λ_ z=>z
  ·have e:decide (((a::b::c::r).length:Int)=2)=false:=decide_eq_false (by simp only[A3];omega);simp only[if_true,e,Bf,if_false];exact k
 |_=>simp only[wVar,jbl,jan,jbg,jak,ja6,jar,wC,w2,cT,jas,ja2,cOr,cNot,wAnd,wOr,wNot,aNil,jaa,wOf,jac,wB,jaj,sSeq,sRet,sIf,gCmp,gEq,gIsN,gIx,gLen,wIsi,gAll,ja7,jcd,jaq,jbr,cYes,jad,ja3,Ci,Au,Ay,A4,Bc,A7,Bk,B3,jbb,jax,jba,jal,jaw];exact k
theorem jlz:∀ws n Q,ja4 ws n Q->ws.length=3:=λws n Q h=>by
 unfold ja4 at h
 split at h
 ·rfl
 ·exact h.elim
theorem jkc:∀ws n Q,ja4 ws n Q->jfd (jah ["thing","head","many"] ws) n {nx:=λ_ n=>Q (.d .none) n,rt:=Q}:=λws n Q h=>by
 unfold ja4 at h
 split at h
 ·rename_i d hd k;obtain⟨hk,h⟩:=h;show jfd [some (.w (.d d)),some (.w (.d (.str hd))),some (.w (.d (.int k)))] n _;unfold jfd;cases d with
  |tuple ds =>
   simp only[wVar,jbl,jan,jbg,jak,ja6,jar,wC,w2,cT,jas,ja2,cOr,cNot,wAnd,wOr,wNot,aNil,jaa,wOf,jac,wB,jaj,sSeq,sRet,sIf,gCmp,gEq,gIsN,gIx,gLen,wIsi,gAll,ja7,jcd,jaq,jbr,cYes,jad,ja3,Ci,Au,Ay,A4,Bc,A7,Bk,B3,jbb,jax,jba,jal,jaw,eq_int,eq_str];simp only[if_true];by_cases e:(ds.length:Int)=k
   ·rcases ds with _ | ⟨a,r⟩
    ·exfalso;have e:(0:Int)=k:=e;omega
    ·simp only[ja5,decide_eq_true e,if_true,B6]at h ⊢;simp only[at0,eq_str];exact h
   ·simp only[ja5,decide_eq_false e,Bf,if_false,Fl]at h ⊢;exact h
  |_=>simp only[wVar,jbl,jan,jbg,jak,ja6,jar,wC,w2,cT,jas,ja2,cOr,cNot,wAnd,wOr,wNot,aNil,jaa,wOf,jac,wB,jaj,sSeq,sRet,sIf,gCmp,gEq,gIsN,gIx,gLen,wIsi,gAll,ja7,jcd,jaq,jbr,cYes,jad,ja3,Ci,Au,Ay,A4,Bc,A7,Bk,B3,jbb,jax,jba,jal,jaw];exact h
 ·exact h.elim
theorem jnz:∀ws n Q,jcq ws n Q->ws.length=2:=λws n Q h=>by
 unfold jcq at h
 split at h
 ·rfl
 ·exact h.elim
theorem jmi:∀ws n Q,jcq ws n Q->jgk (jah ["thing","head"] ws) n {nx:=λ_ n=>Q (.d .none) n,rt:=Q}:=λws n Q h=>by
 unfold jcq at h
 split at h
 ·rename_i d hd;show jgk [some (.w (.d d)),some (.w (.d (.str hd)))] n _;unfold jgk;simp only[wVar,jbl,jan,jbg,jak,ja6,jar,wC,w2,cT,jas,ja2,cOr,cNot,wAnd,wOr,wNot,aNil,jaa,wOf,jac,wB,jaj,sSeq,sRet,sIf,gCmp,gEq,gIsN,gIx,gLen,wIsi,gAll,ja7,jcd,jaq,jbr,cYes,jad,ja3,Ci,Au,Ay,A4,Bc,A7,Bk,B3,jbb,jax,jba,jal,jaw,ja4,spJ];refine⟨by decide,?_⟩;refine jek (F:=λb=>Q (.d (.bool b)) n) h λe z=>?_;obtain⟨a,b,rfl⟩:=jrg e;exact z
 ·exact h.elim
theorem jp6:∀ws n Q,spJ jch ws n Q->ws.length=1:=λ_ _ _ h=>jav h
theorem joh:∀ws n Q,spJ jch ws n Q->ji1 (jah Za ws) n {nx:=λ_ n=>Q (.d .none) n,rt:=Q}:=jbz λd n K k=>by
 show ji1 [some (.w (.d d))] n K;unfold ji1;simp only[wVar,jbl,jan,jbg,jak,ja6,jar,wC,w2,cT,jas,ja2,cOr,cNot,wAnd,wOr,wNot,aNil,jaa,wOf,jac,wB,jaj,sSeq,sRet,sIf,gCmp,gEq,gIsN,gIx,gLen,wIsi,gAll,ja7,jcd,jaq,jbr,cYes,jad,ja3,Ci,Au,Ay,A4,Bc,A7,Bk,B3,jbb,jax,jba,jal,jaw,ja4,jcq,spJ];refine⟨by decide,?_⟩;unfold jch at k;cases e:ja5 "is" 2 d with
 |true =>
  rw[e,if_pos rfl]at k;rw[if_pos rfl];obtain⟨a,b,rfl⟩:=jrg e;exact k
 |false =>
  rw[e,if_neg Al]at k;rw[if_neg Al];exact k
theorem jeo:∀ws n Q,spJ jb1 ws n Q->ws.length=1:=λ_ _ _ h=>jav h
theorem jdy:∀ws n Q,spJ jb1 ws n Q->jby (jah Za ws) n {nx:=λ_ n=>Q (.d .none) n,rt:=Q}:=jbz λd n K k=>by
 show jby [some (.w (.d d))] n K;unfold jby;simp only[wVar,jbl,jan,jbg,jak,ja6,jar,wC,w2,cT,jas,ja2,cOr,cNot,wAnd,wOr,wNot,aNil,jaa,wOf,jac,wB,jaj,sSeq,sRet,sIf,gCmp,gEq,gIsN,gIx,gLen,wIsi,gAll,ja7,jcd,jaq,jbr,cYes,jad,ja3,Ci,Au,Ay,A4,Bc,A7,Bk,B3,jbb,jax,jba,jal,jaw,ja4,jcq,spJ];unfold jb1 at k;refine⟨by decide,?_⟩;cases e1:ja5 "any" 1 d with
 |true=>rw[e1]at k;exact k
 |false =>
  rw[e1,E9]at k;simp only[Bf,if_false];refine⟨by decide,?_⟩;cases e2:ja5 "word" 1 d with
  |true=>rw[e2]at k;exact k
  |false =>
   rw[e2,E9]at k;simp only[Bf,if_false];refine⟨by decide,?_⟩;cases e3:ja5 "number" 1 d with
   |true=>rw[e3]at k;exact k
   |false =>
    rw[e3,E9]at k;simp only[Bf,if_false];exact jh7 (F:=λb=>K.rt (.d (.bool b)) n) k id
theorem jdq:∀ws n Q,spJ jc7 ws n Q->ws.length=1:=λ_ _ _ h=>jav h
theorem jdj:∀ws n Q,spJ jc7 ws n Q->jbv (jah Za ws) n {nx:=λ_ n=>Q (.d .none) n,rt:=Q}:=jbz λd n K k=>by
 show jbv [some (.w (.d d))] n K;unfold jbv;simp only[wVar,jbl,jan,jbg,jak,ja6,jar,wC,w2,cT,jas,ja2,cOr,cNot,wAnd,wOr,wNot,aNil,jaa,wOf,jac,wB,jaj,sSeq,sRet,sIf,gCmp,gEq,gIsN,gIx,gLen,wIsi,gAll,ja7,jcd,jaq,jbr,cYes,jad,ja3,Ci,Au,Ay,A4,Bc,A7,Bk,B3,jbb,jax,jba,jal,jaw,ja4,jcq,spJ];exact jh7 (F:=λb=>K.rt (.d (.bool b)) n) k id
theorem je6:∀ws n Q,spJ cntB ws n Q->ws.length=1:=λ_ _ _ h=>jav h
theorem jeq:∀ws n Q,spJ cntB ws n Q->jb3 (jah Za ws) n {nx:=λ_ n=>Q (.d .none) n,rt:=Q}:=jbz λd n K k=>by
 show jb3 [some (.w (.d d))] n K;unfold jb3;cases d with
 |tuple ds =>
  simp only[wVar,jbl,jan,jbg,jak,ja6,jar,wC,w2,cT,jas,ja2,cOr,cNot,wAnd,wOr,wNot,aNil,jaa,wOf,jac,wB,jaj,sSeq,sRet,sIf,gCmp,gEq,gIsN,gIx,gLen,wIsi,gAll,ja7,jcd,jaq,jbr,cYes,jad,ja3,Ci,Au,Ay,A4,Bc,A7,Bk,B3,jbb,jax,jba,jal,jaw];simp only[if_true];exact jek (F:=λb=>K.rt (.d (.bool b)) n) k λ_ z=>z
 |_=>simp only[wVar,jbl,jan,jbg,jak,ja6,jar,wC,w2,cT,jas,ja2,cOr,cNot,wAnd,wOr,wNot,aNil,jaa,wOf,jac,wB,jaj,sSeq,sRet,sIf,gCmp,gEq,gIsN,gIx,gLen,wIsi,gAll,ja7,jcd,jaq,jbr,cYes,jad,ja3,Ci,Au,Ay,A4,Bc,A7,Bk,B3,jbb,jax,jba,jal,jaw];exact k
theorem jv6 {d:Ab} (e:cntB d=true):∃ds,d=.tuple ds:=by
 cases d with
 |tuple ds=>exact⟨ds,rfl⟩
 |_=>cases e
theorem jhq {Q:DQ} {n:Int} (g:Ab->Bool) (ds:List Ab) (h:Q (.d (.bool (ds.all g))) n):jbm (jad 0) cYes (jac (spJ g) (jaa (wVar 0) aNil))
  (λds n1=>match jb0 ds with | some bs=>Q (.d (.bool (bs.all id))) n1 | none=>False) ds [] [none] n:=by
 refine jfn (λ_=>True) (λd=>.bool (g d)) ?_ _ _ _ _ (λ_ _=>trivial) ?_
 ·exact λd n Q' _ k=>k
 ·show match jb0 (ds.map λd=>.bool (g d))with | some bs=>Q (.d (.bool (bs.all id))) n | none=>False
  simp only[jc5,jwh];exact h
theorem jjz:∀ws n Q,spJ patB ws n Q->ws.length=1:=λ_ _ _ h=>jav h
theorem jiq:∀ws n Q,spJ patB ws n Q->jd0 (jah Za ws) n {nx:=λ_ n=>Q (.d .none) n,rt:=Q}:=jbz λd n K k=>by
 show jd0 [some (.w (.d d))] n K;unfold jd0;simp only[sRet,wAnd,jac,jaa,aNil,wVar,Au,spJ,ja2,wB,wOf,jaq,ja7,gAll,jbr,A7,Bk,B3];refine jek (F:=λb=>K.rt (.d (.bool b)) n) k λe z=>?_;obtain⟨ds,rfl⟩:=jv6 e;exact jhq jb1 ds z
theorem jie:∀ws n Q,spJ temB ws n Q->ws.length=1:=λ_ _ _ h=>jav h
theorem jhi:∀ws n Q,spJ temB ws n Q->jda (jah Za ws) n {nx:=λ_ n=>Q (.d .none) n,rt:=Q}:=jbz λd n K k=>by
 show jda [some (.w (.d d))] n K;unfold jda;simp only[sRet,wAnd,jac,jaa,aNil,wVar,Au,spJ,ja2,wB,wOf,jaq,ja7,gAll,jbr,A7,Bk,B3];refine jek (F:=λb=>K.rt (.d (.bool b)) n) k λe z=>?_;obtain⟨ds,rfl⟩:=jv6 e;exact jhq jc7 ds z
theorem jf8:∀ws n Q,jff ws n Q->ws.length=2:=λws n Q h=>by
 unfold jff at h
 split at h
 ·rfl
 ·exact h.elim
theorem jfs:∀ws n Q,jff ws n Q->jco (jah ["_law_thing","_law_most"] ws) n {nx:=λ_ n=>Q (.d .none) n,rt:=Q}:=λws n Q h=>by
 unfold jff at h
 split at h
 ·rename_i d k;show jco [some (.w (.d d)),some (.w (.d (.int k)))] n _;unfold jco;cases d with
  |str x =>
   simp only[wVar,jbl,jan,jbg,jak,ja6,jar,wC,w2,cT,jas,ja2,cOr,cNot,wAnd,wOr,wNot,aNil,jaa,wOf,jac,wB,jaj,sSeq,sRet,sIf,gCmp,gEq,gIsN,gIx,gLen,wIsi,gAll,ja7,jcd,jaq,jbr,cYes,jad,ja3,Ci,Au,Ay,A4,Bc,A7,Bk,B3,jbb,jax,jba,jal,jaw,eqD];simp only[Bool.not_true,Bf,if_false];simp only[letB]at h;by_cases e1:(x.length:Int)=0
   ·simp only[e1,decide_true,if_true];rw[e1]at h;exact h
   ·simp only[decide_eq_false e1,Bf,if_false];have p1:decide ((1:Int)<=(x.length:Int))=true:=decide_eq_true (by omega);rw[p1,B6]at h;by_cases e2:k < (x.length:Int)
    ·simp only[decide_eq_true e2,if_true];rw[decide_eq_false (show ¬(x.length:Int)<=k by omega)]at h;exact h
    ·simp only[decide_eq_false e2,Bf,if_false];rw[decide_eq_true (show(x.length:Int)<=k by omega),B6]at h;refine jsa x ?_;refine⟨Bj _,?_⟩;show Q (.d (.bool ((jcm x).filter badD).isEmpty)) n;rw[jyo];exact h
  |_=>simp only[wVar,jbl,jan,jbg,jak,ja6,jar,wC,w2,cT,jas,ja2,cOr,cNot,wAnd,wOr,wNot,aNil,jaa,wOf,jac,wB,jaj,sSeq,sRet,sIf,gCmp,gEq,gIsN,gIx,gLen,wIsi,gAll,ja7,jcd,jaq,jbr,cYes,jad,ja3,Ci,Au,Ay,A4,Bc,A7,Bk,B3,jbb,jax,jba,jal,jaw];exact h
 ·exact h.elim
theorem jf7:∀ws n Q,jdb ws n Q->ws.length=3:=λws n Q h=>by
 unfold jdb at h
 split at h
 ·rfl
 ·exact h.elim
theorem jfr:∀ws n Q,jdb ws n Q->jcn (jah ["_law_thing","_law_low","_law_high"] ws) n {nx:=λ_ n=>Q (.d .none) n,rt:=Q}:=λws n Q h=>by
 unfold jdb at h
 split at h
 ·rename_i d lo hi;show jcn [some (.w (.d d)),some (.w (.d (.int lo))),some (.w (.d (.int hi)))] n _;unfold jcn;cases d with
  |int i =>
   simp only[wVar,jbl,jan,jbg,jak,ja6,jar,wC,w2,cT,jas,ja2,cOr,cNot,wAnd,wOr,wNot,aNil,jaa,wOf,jac,wB,jaj,sSeq,sRet,sIf,gCmp,gEq,gIsN,gIx,gLen,wIsi,gAll,ja7,jcd,jaq,jbr,cYes,jad,ja3,Ci,Au,Ay,A4,Bc,A7,Bk,B3,jbb,jax,jba,jal,jaw];simp only[jnt]at h;simp only[if_true,Bool.not_false];exact jek (F:=λb=>Q (.d (.bool b)) n) h λ_ z=>z
  |_=>simp only[wVar,jbl,jan,jbg,jak,ja6,jar,wC,w2,cT,jas,ja2,cOr,cNot,wAnd,wOr,wNot,aNil,jaa,wOf,jac,wB,jaj,sSeq,sRet,sIf,gCmp,gEq,gIsN,gIx,gLen,wIsi,gAll,ja7,jcd,jaq,jbr,cYes,jad,ja3,Ci,Au,Ay,A4,Bc,A7,Bk,B3,jbb,jax,jba,jal,jaw];exact h
 ·exact h.elim
section
variable {δ:Sl} {n:Int} {Q:DQ} {K:DEnds} {W V:DST} {i j:Nat} {ds:List Ab}
theorem jbi {u v:DT} {a b:Bool} (hu:∀Q:DQ,Q (.d (.bool a)) n->u δ n Q) (hv:a=true->∀Q:DQ,Q (.d (.bool b)) n->v δ n Q) (k:Q (.d (.bool (a&&b))) n):wAnd u v δ n Q:=by
 refine hu _ ?_;cases a with
 |true=>exact hv rfl _ k
 |false=>exact k
theorem or_v {u v:DT} {a b:Bool} (hu:∀Q:DQ,Q (.d (.bool a)) n->u δ n Q) (hv:a=false->∀Q:DQ,Q (.d (.bool b)) n->v δ n Q) (k:Q (.d (.bool (a || b))) n):wOr u v δ n Q:=by
 refine hu _ ?_;cases a with
 |false=>exact hv rfl _ k
 |true=>exact k
theorem c_or {u v:DTT} {a b:Bool} {Q:Bool->Int->Prop} (hu:∀Q:Bool->Int->Prop,Q a n->u δ n Q) (hv:a=false->∀Q:Bool->Int->Prop,Q b n->v δ n Q) (k:Q (a || b) n):cOr u v δ n Q:=by
 refine hu _ ?_;cases a with
 |false=>exact hv rfl _ k
 |true=>exact k
theorem jdx {u v:DTT} {a b:Bool} {Q:Bool->Int->Prop} (hu:∀Q:Bool->Int->Prop,Q a n->u δ n Q) (hv:a=true->∀Q:Bool->Int->Prop,Q b n->v δ n Q) (k:Q (a&&b) n):cAnd u v δ n Q:=by
 refine hu _ ?_;cases a with
 |true=>exact hv rfl _ k
 |false=>exact k
theorem if_b {C:DTT} {b:Bool} (hc:∀Q:Bool->Int->Prop,Q b n->C δ n Q) (hT:b=true->W δ n K) (hF:b=false->V δ n K):sIf C W V δ n K:=by
 refine hc _ ?_;cases b with
 |true=>exact hT rfl
 |false=>exact hF rfl
theorem j1_i {w:DT} {g:Ab->Bool} {d:Ab} (hw:∀Q:DQ,Q (.d d) n->w δ n Q):∀Q:DQ,Q (.d (.bool (g d))) n->jac (spJ g) (jaa w aNil) δ n Q:=λQ q=>c1_i (hw _ q)
theorem h_i {h:Str} {k:Int} {d:Ab} (e:δ[i]?=some (some (.w (.d d)))) (hk:1<=k):∀Q:DQ,Q (.d (.bool (ja5 h k d))) n->jac ja4 (jaa (wVar i) (jaa (wC (.str h)) (jaa (wC (.int k)) aNil))) δ n Q:=λQ q=>c3_i (jab e (c_i (c_i ⟨hk,q⟩)))
end
theorem jc0 {h:Str} {k:Int} {d:Ab} (e:ja5 h k d=true) {δ:Sl} {n:Int} {i m:Nat} (es:δ[i]?=some (some (.w (.d d)))) (hm:(m:Int) < k):∀Q:DQ,Q (.d (ixD m d)) n->w2 (wVar i) (wC (.int (m:Nat))) gIx δ n Q:=λQ q=>by
 obtain⟨ds,rfl,hl⟩:=jl7 e;have hm':m < ds.length:=by omega
 refine w2_i (jab es (c_i (gN_i (Am hm') ?_)));have:ixD m (.tuple ds)=ds[m]:=by show ds.getD m .none=_;simp[hm']
 rw[<-this];exact q
theorem je5:∀ws n Q,spJ jc1 ws n Q->ws.length=1:=λ_ _ _ h=>jav h
theorem jep:∀ws n Q,spJ jc1 ws n Q->jc6 (jah Za ws) n {nx:=λ_ n=>Q (.d .none) n,rt:=Q}:=jbz λd n K k=>by
 show jc6 [some (.w (.d d))] n K;cases d with
 |int i=>exact jam (jbi (a:=true) (λQ q=>c1_i (jab rfl (show spJ jdl [.d (.int i)] n Q from q))) (λ_ Q q=>w2_i (jab rfl (c_i q))) k)
 |_=>exact jam (jbi (a:=false) (b:=false) (λQ q=>c1_i (jab rfl (show spJ jdl [.d _] n Q from q))) (λz=>nomatch z) k)
theorem jso:∀ws n Q,spJ layB ws n Q->ws.length=1:=λ_ _ _ h=>jav h
theorem jql:∀ws n Q,spJ layB ws n Q->jrm (jah Za ws) n {nx:=λ_ n=>Q (.d .none) n,rt:=Q}:=jbz λd n K k=>by
 show jrm [some (.w (.d d))] n K;exact jam (jbi (h_i rfl (by decide)) (λe Q q=>jbi (j1_i (g:=temB) (jc0 (m:=1) e rfl (by decide))) (λ_ Q q=>j1_i (g:=ageB) (jc0 (m:=2) e rfl (by decide)) Q q) q) k)
theorem jp7:∀ws n Q,spJ (je4 "take") ws n Q->ws.length=1:=λ_ _ _ h=>jav h
theorem joi:∀ws n Q,spJ (je4 "take") ws n Q->jox (jah Za ws) n {nx:=λ_ n=>Q (.d .none) n,rt:=Q}:=jbz λd n K k=>by
 show jox [some (.w (.d d))] n K;exact jam (jbi (h_i rfl (by decide)) (λe Q q=>j1_i (g:=patB) (jc0 (m:=1) e rfl (by decide)) Q q) k)
theorem jp9:∀ws n Q,spJ (je4 "read") ws n Q->ws.length=1:=λ_ _ _ h=>jav h
theorem jok:∀ws n Q,spJ (je4 "read") ws n Q->joz (jah Za ws) n {nx:=λ_ n=>Q (.d .none) n,rt:=Q}:=jbz λd n K k=>by
 show joz [some (.w (.d d))] n K;exact jam (jbi (h_i rfl (by decide)) (λe Q q=>j1_i (g:=patB) (jc0 (m:=1) e rfl (by decide)) Q q) k)
theorem jqc:∀ws n Q,spJ jp3 ws n Q->ws.length=1:=λ_ _ _ h=>jav h
theorem joo:∀ws n Q,spJ jp3 ws n Q->jo1 (jah Za ws) n {nx:=λ_ n=>Q (.d .none) n,rt:=Q}:=jbz λd n K k=>by
 show jo1 [some (.w (.d d))] n K;exact jam (jbi (h_i rfl (by decide)) (λe Q q=>jbi (j1_i (g:=patB) (jc0 (m:=1) e rfl (by decide))) (λ_ Q q=>j1_i (g:=jc1) (jc0 (m:=2) e rfl (by decide)) Q q) q) k)
theorem jp8:∀ws n Q,spJ jh3 ws n Q->ws.length=1:=λ_ _ _ h=>jav h
theorem joj:∀ws n Q,spJ jh3 ws n Q->joy (jah Za ws) n {nx:=λ_ n=>Q (.d .none) n,rt:=Q}:=jbz λd n K k=>by
 show joy [some (.w (.d d))] n K;refine jaf (if_b (b:=!ja5 "same" 4 d) (λQ q=>jbq (λQ q=>ct_b (h_i rfl (by decide)) q) q) (λe=>?_) λe=>?_)
 ·have e:ja5 "same" 4 d=false:=by simpa using e
  have:jh3 d=false:=by unfold jh3;rw[e];rfl
  rw[this]at k;exact jam (c_i k)
 ·have e:ja5 "same" 4 d=true:=by simpa using e
  have:jh3 d=(jch (ixD 1 d)&&(jch (ixD 2 d)&&jc1 (ixD 3 d))):=by unfold jh3;rw[e];rfl
  rw[this]at k;dsimp only[jaj];exact jam (jbi (j1_i (g:=jch) (jc0 (m:=1) e rfl (by decide))) (λ_ Q q=>jbi (j1_i (g:=jch) (jc0 (m:=2) e rfl (by decide))) (λ_ Q q=>j1_i (g:=jc1) (jc0 (m:=3) e rfl (by decide)) Q q) q) k)
theorem jvh:∀ws n Q,spJ goB ws n Q->ws.length=1:=λ_ _ _ h=>jav h
theorem jsy:∀ws n Q,spJ goB ws n Q->jwk (jah Za ws) n {nx:=λ_ n=>Q (.d .none) n,rt:=Q}:=jbz λd n K k=>by
 show jwk [some (.w (.d d))] n K;exact jam (jbi (h_i rfl (by decide)) (λe Q q=>j1_i (g:=jc1) (jc0 (m:=1) e rfl (by decide)) Q q) k)
theorem jsq:∀ws n Q,spJ actB ws n Q->ws.length=1:=λ_ _ _ h=>jav h
theorem jqn:∀ws n Q,spJ actB ws n Q->jrn (jah Za ws) n {nx:=λ_ n=>Q (.d .none) n,rt:=Q}:=jbz λd n K k=>by
 show jrn [some (.w (.d d))] n K;have v:∀g:Ab->Bool,∀Q:DQ,Q (.d (.bool (g d))) n->jac (spJ g) (jaa (wVar 0) aNil) [some (.w (.d d))] n Q:=λg=>j1_i (λQ q=>jab rfl q);refine jaf (if_b (b:=layB d || (je4 "take" d || je4 "read" d)) (λQ q=>c_or (λQ q=>ct_b (v _) q) (λ_ Q q=>c_or (λQ q=>ct_b (v _) q) (λ_ Q q=>ct_b (v _) q) q) q) (λe=>?_) λe=>?_)
 ·have:actB d=true:=by unfold actB;rw[e];rfl
  rw[this]at k;exact jam (c_i k)
 ·have:actB d=(jp3 d || (jh3 d || goB d)):=by unfold actB;rw[e];rfl
  rw[this]at k;dsimp only[jaj];exact jam (or_v (v _) (λ_ Q q=>or_v (v _) (λ_ Q q=>v _ Q q) q) k)
theorem jqd:∀ws n Q,spJ jkk ws n Q->ws.length=1:=λ_ _ _ h=>jav h
theorem jop:∀ws n Q,spJ jkk ws n Q->jo2 (jah Za ws) n {nx:=λ_ n=>Q (.d .none) n,rt:=Q}:=jbz λd n K k=>by
 show jo2 [some (.w (.d d))] n K;cases d with
 |tuple ds =>
  refine jam (jbi (a:=true) (λQ q=>jes rfl q) (λ_ Q q=>jbi (a:=decide ((ds.length:Int)<=8)) (b:=ds.all actB) (λQ q=>w2_i (jc9 rfl (c_i q))) (λ_ Q q=>?_) q) (b:=decide ((ds.length:Int)<=8)&&ds.all actB) k);exact b1_i (of_i (jcf (λQ q=>jab rfl q) (jhq actB ds q)))
 |_=>exact jam (jbi (a:=false) (b:=false) (λQ q=>show wIsi "tuple" (wVar 0) [some (.w (.d _))] n Q from q) (λz=>nomatch z) k)
theorem jn0:∀ws n Q,spJ jcw ws n Q->ws.length=1:=λ_ _ _ h=>jav h
theorem jmj:∀ws n Q,spJ jcw ws n Q->jk2 (jah Za ws) n {nx:=λ_ n=>Q (.d .none) n,rt:=Q}:=jbz λd n K k=>by
 show jk2 [some (.w (.d d))] n K;cases d with
 |tuple ds =>
  refine jam (jbi (a:=true) (b:=jcw (.tuple ds)) (λQ q=>jes rfl q) (λ_ Q q=>?_) k);rcases ds with _ | ⟨a,_ | ⟨b,_ | ⟨c,r⟩⟩⟩
  ·exact jbi (a:=false) (b:=false) (λQ q=>w2_i (jc9 rfl (c_i q))) (λz=>nomatch z) q
  ·exact jbi (a:=false) (b:=false) (λQ q=>w2_i (jc9 rfl (c_i q))) (λz=>nomatch z) q
  ·exact jbi (a:=true) (b:=jjp a&&jkk b) (λQ q=>w2_i (jc9 rfl (c_i q))) (λ_ Q q=>jbi (j1_i (g:=jjp) (λQ q=>w2_i (jab rfl (c_i (g0_i q))))) (λ_ Q q=>j1_i (g:=jkk) (λQ q=>w2_i (jab rfl (c_i (g1_i q)))) Q q) q) q
  ·refine jbi (a:=false) (b:=false) (λQ q=>w2_i (jc9 rfl (c_i ?_))) (λz=>nomatch z) q;show Q (.d (.bool (decide (((a::b::c::r).length:Int)=2)))) n;rw[decide_eq_false (by simp only[A3];omega)];exact q
 |_=>exact jam (jbi (a:=false) (b:=false) (λQ q=>show wIsi "tuple" (wVar 0) [some (.w (.d _))] n Q from q) (λz=>nomatch z) k)
section
variable {δ:Sl} {n:Int} {Q:DQ} {K:DEnds} {W V:DST} {i j:Nat} {ds:List Ab}
theorem jvn {T:String} {w:DT} {d:Ab} (hw:∀Q:DQ,Q (.d d) n->w δ n Q):∀Q:DQ,Q (.d (.bool (isiB T d))) n->wIsi T w δ n Q:=λQ q=>hw _ q
end
theorem jrf {d:Ab} (h:isiB "tuple" d=true):∃ds,d=.tuple ds:=by
 rw[jal]at h;cases d with
 |tuple ds=>exact⟨ds,rfl⟩
 |_=>cases h
theorem jnj {Q:List Ab->Int->Prop} {n:Int}:∀(ds acc:List Ab) (x y:Option SV),(∀d∈ds,∃s,d=.str s)->(∀bs:List Bool,bs.all id=jer ds->Q (acc++bs.map .bool) n) ->
  jbm (jbl 2 (jan (jad 0) (jan (jad 1) jbg))) cYes (w2 (wVar 0) (wVar 1) gLt) Q (zipD ds (ds.drop 1)) acc [x,y] n
 |[],acc,x,y,_,q=>by
  have:=q [] rfl;rw[Bk,B7]at this;exact this
 |[_],acc,x,y,_,q=>by
  have:=q [] rfl;rw[Bk,B7]at this;exact this
 |a::b::r,acc,x,y,h,q=>by
  obtain⟨s,rfl⟩:=h a A5;obtain⟨t,rfl⟩:=h b (A1 _ A5);show jbm _ _ _ Q (.tuple [.str s,.str t]::zipD (.str t::r) ((.str t::r).drop 1)) acc [x,y] n;refine⟨rfl,?_⟩;dsimp only[jan,jad,jbg,A6,cYes];rw[if_pos rfl];refine w2_i (jab rfl (jab rfl ?_));show jbm _ _ _ Q (zipD (.str t::r) ((.str t::r).drop 1)) (acc++[.bool (decide (s.cps.toList < t.cps.toList))]) [some (.w (.d (.str s))),some (.w (.d (.str t)))] n;refine jnj (.str t::r) _ _ _ (λd hd=>h d (A1 _ hd)) λbs hb=>?_;have:=q (decide (s.cps.toList < t.cps.toList)::bs) (by
   show(decide (s.cps.toList < t.cps.toList)&&bs.all id)=(decide ((txD (.str s)).cps.toList < (txD (.str t)).cps.toList)&&jer (.str t::r));rw[hb];rfl)
  rw[A7]at this;rw[Bn];exact this
theorem jxx {ds:List Ab} {k:Int} (h:ds.all (letB k)=true):∀d∈ds,∃s,d=.str s:=λd hd=>by
 have:=Bh.mp h d hd;cases d with
 |str s=>exact⟨s,rfl⟩
 |_=>cases this
theorem j73 {Q:DQ} {n:Int} {bs:List Bool} (k:Q (.d (.bool (bs.all id))) n):gAll [.d (.list (bs.map .bool))] n Q:=by
 show match jb0 (bs.map .bool)with | some bs=>Q (.d (.bool (bs.all id))) n | none=>False
 have:jb0 (bs.map PyData.bool)=some bs:=by
  have:=jc5 (λb:Bool=>b) bs;simpa using this
 rw[this];exact k
theorem jlx:∀ws n Q,spJ jjp ws n Q->ws.length=1:=λ_ _ _ h=>jav h
theorem jka:∀ws n Q,spJ jjp ws n Q->ji0 (jah Za ws) n {nx:=λ_ n=>Q (.d .none) n,rt:=Q}:=jbz λd n K k=>by
 show ji0 [some (.w (.d d))] n K;cases d with
 |tuple ds =>
  have k:K.rt (.d (.bool (decide ((ds.length:Int)<=4)&&(ds.all (letB 4)&&jer ds)))) n:=k;refine jaf (if_b (b:=decide ((4:Int) < (ds.length:Int))) (λQ q=>c_or (a:=false) (λQ q=>jbq (k:=true) (λQ q=>ct_b (λQ q=>jes rfl q) q) q) (λ_ Q q=>ct_b (λQ q=>w2_i (jc9 rfl (c_i q))) q) (by rw[E9];exact q)) (λe=>?_) λe=>?_)
  ·have e:=of_decide_eq_true e;rw[decide_eq_false (by omega),Fl]at k;exact jam (c_i k)
  ·have e:=of_decide_eq_false e;rw[decide_eq_true (by omega),B6]at k;dsimp only[jaj];refine jaf (if_b (b:=!ds.all (letB 4)) (λQ q=>jbq (λQ q=>ct_b (λQ q=>b1_i (of_i (jcf (λQ q=>jab rfl q) (jhq (letB 4) ds q)))) q) q) (λe2=>?_) λe2=>?_)
   ·have e2:ds.all (letB 4)=false:=by simpa using e2
    rw[e2,Fl]at k;exact jam (c_i k)
   ·have e2:ds.all (letB 4)=true:=by simpa using e2
    rw[e2,B6]at k;dsimp only[jaj];refine jam (b1_i (of_i (show jvp _ _ _ _ _ from jab rfl ?_)));have step:∀Q:DQ,Q (.d (.tuple (ds.drop 1))) n->jak (wVar 0) (jar (wC (.int (1)))) ja6 [some (.w (.d (.tuple ds)))] n Q:=λQ q=>by
     unfold jak ja6 jar;refine jab rfl (c_i ?_);show Q (.d (.tuple (cutD ds (some ((1:Nat):Int)) none))) n;have:cutD ds (some ((1:Nat):Int)) none=ds.drop 1:=by
      cases ds with
      |nil=>rfl
      |cons a r =>
       unfold cutD;rw[HT.sIx_nat];show((a::r).drop (min 1 (r.length+1))).take (r.length+1 - min 1 (r.length+1))=_;rw[Nat.min_eq_left (by omega)];exact List.take_of_length_le (by simp)
     rw[this];exact q
    refine step _ (Ad (by rw[List.length_drop];omega) ?_);refine jnj ds [] _ _ (jxx e2) λbs hb=>?_;rw[Cu];exact j73 (by rw[hb];exact k)
 |_=>exact jaf (if_b (b:=true) (λQ q=>c_or (a:=true) (b:=true) (λQ q=>jbq (k:=false) (λQ q=>ct_b (λQ q=>q) q) q) (λz=>nomatch z) q) (λ_=>jam (c_i k)) λz=>nomatch z)
theorem in12 (m:Nat):inD (.int (m:Nat)) [.int 1,.int 2]=(decide (m=1) || decide (m=2)):=by
 unfold inD;simp only[Fu,List.any_nil,Bool.or_false,eqF]
 congr 1
 ·by_cases h:m=1
  ·subst h;rfl
  ·rw[decide_eq_false h];simp only[beq_eq_false_iff_ne,ne_eq];omega
 ·by_cases h:m=2
  ·subst h;rfl
  ·rw[decide_eq_false h];simp only[beq_eq_false_iff_ne,ne_eq];omega
theorem in14 (m:Nat):inD (.int (m:Nat)) [.int 1,.int 2,.int 3,.int 4]=(decide (1<=m)&&decide (m<=4)):=by
 unfold inD;simp only[Fu,List.any_nil,Bool.or_false,eqF];by_cases h1:m=1
 ·subst h1;rfl
 ·by_cases h2:m=2
  ·subst h2;rfl
  ·by_cases h3:m=3
   ·subst h3;rfl
   ·by_cases h4:m=4
    ·subst h4;rfl
    ·have e:(decide (1<=m)&&decide (m<=4))=false:=by
      by_cases z:1<=m
      ·rw[decide_eq_false (show ¬m<=4 by omega),Fm]
      ·rw[decide_eq_false z,Fl]
     rw[e];have n1:((1:Int)==(m:Int))=false:=by simp only[beq_eq_false_iff_ne,ne_eq];omega
     have n2:((2:Int)==(m:Int))=false:=by simp only[beq_eq_false_iff_ne,ne_eq];omega
     have n3:((3:Int)==(m:Int))=false:=by simp only[beq_eq_false_iff_ne,ne_eq];omega
     have n4:((4:Int)==(m:Int))=false:=by simp only[beq_eq_false_iff_ne,ne_eq];omega
     rw[n1,n2,n3,n4];rfl
section
variable {δ:Sl} {n:Int} {i:Nat} {ds:List Ab}
theorem nt_i (e:δ[i]?=some (some (.w (.d (.tuple ds))))):∀Q:Bool->Int->Prop,Q false n->cNot (cT (wIsi "tuple" (wVar i))) δ n Q:=λQ q=>jbq (k:=true) (λQ q=>ct_b (λQ q=>jes e q) q) q
end
def slt (x y:Str):Bool:=decide (x.cps.toList < y.cps.toList)
theorem slin:Lin slt where
 asym:=λa b h=>vlin.asym (.inr a) (.inr b) h
 ntr:=λa b c h g=>vlin.ntr (.inr a) (.inr b) (.inr c) h g
 tot:=λa b h g=>Sum.inr.inj (vlin.tot (.inr a) (.inr b) h g)
theorem jq1:∀ks:List Str,jer (ks.map .str)=true↔ks.Pairwise λa b=>slt a b=true
 |[]=>⟨λ_=>.nil,λ_=>rfl⟩
 |[_]=>⟨λ_=>F9 _ _,λ_=>rfl⟩
 |a::b::r=>by
  have ih:=jq1 (b::r);have e:jer ((a::b::r).map .str)=(slt a b&&jer ((b::r).map .str)):=rfl;rw[e,Ap,ih,List.pairwise_cons (a:=a)];refine⟨λh=>⟨λc hc=>?_,h.2⟩,λh=>⟨h.1 b A5,h.2⟩⟩;rcases An.mp hc with rfl | hc
  ·exact h.1
  ·exact slin.tr1 h.1 (slin.asym _ _ ((List.pairwise_cons.mp h.2).1 c hc))
theorem j1n {s:Str} {k:Int} (h:letB k (.str s)=true):(s.length:Int)<=k:=by
 unfold letB at h;simp only[Ap,decide_eq_true_eq]at h;exact h.2.1
theorem Th.mem {L k:Nat} {ds:List Ab} (h:Th L k (.tuple ds)):∀d∈ds,Th L (k - 1) d:=by
 cases h with
 |tuple h1 h2=>exact h2
theorem jlr (p:Ab->Bool) (ds:List Ab):(ds.filter λd=>!p d).isEmpty=ds.all p:=by
 have:=jgu (λd=>!p d) id ds;rw[De]at this;rw[this]
 congr 1
 funext a
 exact Bool.not_not _
theorem jn2:∀ws n Q,jew ws n Q->ws.length=1:=λws n Q h=>by obtain⟨rfl,_⟩:=h;rfl
theorem jml:∀ws n Q,jew ws n Q->jk4 (jah ["_law_tape_here","_law_some"] ws) n {nx:=λ_ n=>Q (.d .none) n,rt:=Q}:=λws n Q h=>by
 obtain⟨rfl,hn,k⟩:=h;show jk4 [some (.w .tp),none] n _;have a1:jfg 9 1 [.none,.bool true,.bool false,.int 0,.int (-1),.int 20,.int 21,.int 100,.str "",.str "n",.str "a",.str "abcde",.str "abcdefghi",.str "A",.str "any",.str "is",.str "as",.str "bind"]=true:=by decide +kernel
 have a2:jfg 9 1 [.tuple [],.list [],.tuple [.str "any"],.tuple [.str "as",.str "n"],.tuple [.str "next",.str "n"],.tuple [.str "is",.int 0],.tuple [.str "go",.int 0],.int (10 ^ 30),.str "next",.str "take",.tuple [.str "n"]]=true:=by decide +kernel
 refine jaf (jdn (x:=.list [.none,.bool true,.bool false,.int 0,.int (-1),.int 20,.int 21,.int 100,.str "",.str "n",.str "a",.str "abcde",.str "abcdefghi",.str "A",.str "any",.str "is",.str "as",.str "bind"]) (λQ q=>of_i (Ad (by decide) q)) ?_);dsimp only[A6];generalize hA:([.none,.bool true,.bool false,.int 0,.int (-1),.int 20,.int 21,.int 100,.str "",.str "n",.str "a",.str "abcde",.str "abcdefghi",.str "A",.str "any",.str "is",.str "as",.str "bind"]:List Ab)=A at a1;have lA:A.length=18:=by rw[<-hA];rfl
 refine jaf (jdn (x:=.list (A++[.tuple [],.list [],.tuple [.str "any"],.tuple [.str "as",.str "n"],.tuple [.str "next",.str "n"],.tuple [.str "is",.int 0],.tuple [.str "go",.int 0],.int (10 ^ 30),.str "next",.str "take",.tuple [.str "n"]])) (λQ q=>w2_i (jab rfl (of_i ?_))) ?_)
 ·exact Ad (by decide) (Ad (by decide) (Ad (by decide) (Ad (by decide) (Ad (by decide) (Ad (by decide) (Ad (by decide) (Ad ⟨by decide,by decide,by decide⟩ (Ad (by decide) (Ad (by decide) (Ad (jej (by omega) (by decide)) q))))))))))
 dsimp only[A6];generalize hB:([.tuple [],.list [],.tuple [.str "any"],.tuple [.str "as",.str "n"],.tuple [.str "next",.str "n"],.tuple [.str "is",.int 0],.tuple [.str "go",.int 0],.int (10 ^ 30),.str "next",.str "take",.tuple [.str "n"]]:List Ab)=B at a2;have lB:B.length=11:=by rw[<-hB];rfl
 have lAB:(A++B).length=29:=by rw[Ak,lA,lB]
 refine jam (w2_i (jab rfl ?_));exact jdv (m:=((A++B).length:Int)) rfl (λQ q=>b1_i (jab rfl q)) (by omega) (by omega) (by omega) λr r0 r1=>jgr r0 r1 λd hd=>k d ((A0.mp hd).elim (jqv a1 d) (jqv a2 d))
theorem jhl {P:Ab->Prop} {l:List Ab} {x:Ab} (h:∀d∈l,P d) (hx:P x):∀d∈l++[x],P d:=λd hd=>(A0.mp hd).elim (h d) λz=>by rw[A2.mp z];exact hx
theorem j1h (s:String):Ew (Cm s)=true:=by
 rw[Str.ofString_eq_toList];unfold Ew;simp only[List.all_toArray,Dj,Bh,Function.comp_apply,decide_eq_true_eq];intro c _;have:=c.valid;show c.val.toNat < 1114112;rcases this with h | h
 ·have:c.val.toNat < 55296:=h;omega
 ·exact h.2
theorem jrd {i:Int} (h:i.natAbs < 10 ^ 40):(Cm (toString i)).length<=60:=by
 rw[ofString_length];have:=int_text_length_le10 (a:=i) (k:=40) (by decide) h;omega
theorem jxw {i:Int} (h:i.natAbs < 10 ^ 40):i.natAbs.log2 < 1920:=by
 by_cases h0:i.natAbs=0
 ·rw[h0];decide
 ·exact(Nat.log2_lt h0).mpr (Nat.lt_trans h (by decide +kernel))
theorem j5y {i:Int} {L:Nat} (hL:L<=30) (h1:-(B30+(L:Int))<=i) (h2:i<=B30+(L:Int)):i.natAbs < 10 ^ 40:=by
 have e:(10:Nat) ^ 40=10000000000000000000000000000000000000000:=by decide +kernel
 rw[e];unfold B30 at h1 h2;omega
theorem jdf {Q:DQ} {n:Int} {i j:List Ab} (h:i.length+j.length<=1000) (k:Q (.d (.tuple (i++j))) n):jcj (.d (.tuple i)) (.d (.tuple j)) n Q:=by
 cases i with
 |nil=>exact k
 |cons a r=>exact Ad (.inl (λz=>nomatch z)) ⟨jsb h,k⟩
theorem jl6 {ds:List Ab} {a b:Option Int} {x:Ab} (h:x∈cutD ds a b):x∈ds:=List.mem_of_mem_drop (List.mem_of_mem_take h)
theorem jqe (ds:List Ab) (j:Nat):(cutD ds none (some (j:Int))).length<=min j ds.length:=by
 unfold cutD;rw[HT.sIx_nat,HT.sIx_none,Ed];omega
theorem jn5 (ds:List Ab) (j:Nat):(cutD ds (some (j:Int)) none).length<=ds.length - j:=by
 unfold cutD;rw[HT.sIx_nat,HT.sIx_none,Ed];omega
theorem jxz (ds:List Ab) (j:Nat):(cutD ds (some (j:Int)) (some ((j:Int)+1))).length<=1:=by
 unfold cutD;rw[show((j:Int)+1)=((j+1:Nat):Int) by omega,HT.sIx_nat,HT.sIx_nat,Ed];omega
theorem jkv (ds:List Ab) (j:Nat):(cutD ds (some ((j:Int)+1)) none).length<=ds.length - (j+1):=by
 rw[show((j:Int)+1)=((j+1:Nat):Int) by omega];exact jn5 ds (j+1)
section
variable {δ:Sl} {n:Int} {Q:DQ} {ds:List Ab} {j:Int}
theorem to_i (e1:δ[1]?=some (some (.w (.d (.tuple ds))))) (e2:δ[2]?=some (some (.w (.d (.int j))))) (k:Q (.d (.tuple (cutD ds none (some j)))) n):jak (wVar 1) ja6 (jar (wVar 2)) δ n Q:=by
 unfold jak ja6 jar;exact jab e1 (jab e2 k)
theorem jzk (e1:δ[1]?=some (some (.w (.d (.tuple ds))))) (e2:δ[2]?=some (some (.w (.d (.int j))))) (k:Q (.d (.tuple (cutD ds (some j) none))) n):jak (wVar 1) (jar (wVar 2)) ja6 δ n Q:=by
 unfold jak ja6 jar;exact jab e1 (jab e2 k)
theorem jvt (e1:δ[1]?=some (some (.w (.d (.tuple ds))))) (e2:δ[2]?=some (some (.w (.d (.int j))))) (k:Q (.d (.tuple (cutD ds (some (j+1)) none))) n):jak (wVar 1) (jar (w2 (wVar 2) (wC (.int (1))) (gI0 λi j=>.int (i+j)))) ja6 δ n Q:=by
 unfold jak ja6 jar;exact jab e1 (w2_i (jab e2 (c_i k)))
theorem j6y (e1:δ[1]?=some (some (.w (.d (.tuple ds))))) (e2:δ[2]?=some (some (.w (.d (.int j))))) (k:Q (.d (.tuple (cutD ds (some j) (some (j+1))))) n):jak (wVar 1) (jar (wVar 2)) (jar (w2 (wVar 2) (wC (.int (1))) (gI0 λi j=>.int (i+j)))) δ n Q:=by
 unfold jak jar;exact jab e1 (jab e2 (w2_i (jab e2 (c_i k))))
theorem j69 {a b c d:DT} {Q:List Ab->Int->Prop} (k:a δ n λx n1=>b δ n1 λy n2=>c δ n2 λz n3=>d δ n3 λu n4=>match ja3 [x,y,z,u]with
  |some ds=>ds.length<=1000/\Q ds n4
  |none=>False):fLst (jaa a (jaa b (jaa c (jaa d aNil)))) δ n Q:=k
theorem j7b {a b:DT} {Q:List Ab->Int->Prop} (k:a δ n λx n1=>b δ n1 λy n2=>match ja3 [x,y]with
  |some ds=>ds.length<=1000/\Q ds n2
  |none=>False):fLst (jaa a (jaa b aNil)) δ n Q:=k
theorem jws {w:DT} (k:w δ n λx n1=>match ja3 [x]with
  |some ds=>ds.length<=1000/\Q (.d (.tuple ds)) n1
  |none=>False):wTup (jaa w aNil) δ n Q:=k
theorem j6p {i:Nat} (e:δ[i]?=some (some (.w (.d (.tuple ds))))) (k:Q (.d (.tuple ds.reverse)) n):wRev (wVar i) δ n Q:=by
 unfold wRev;exact jab e k
theorem j6z {i:Nat} (e:δ[i]?=some (some (.w (.d (.tuple ds))))) (k:Q (.d (.list ds)) n):wB jj6 (jaa (wVar i) aNil) δ n Q:=b1_i (jab e k)
end
def j2a:DST:=(sSeq (sIf (cAnd (cT (wIsi "int" (wVar 1))) (cT (w2 (wVar 3) (wC (.int (4))) gLt))) (sRet (w2 (wOf (fLst (jaa (w2 (wVar 1) (wC (.int (1))) (gBI (·+·) gAdd)) (jaa (w2 (wVar 1) (wC (.int (1))) (gBI (· - ·) (gI0 λi j=>.int (i - j)))) (jaa (w2 (wVar 1) (wC (.int (1))) (gXX λd e=>some (PyData.eqv d e))) (jaa (wB jx6 (jaa (wVar 1) aNil)) aNil)))))) (wVar 3) gIx)) jaj) (sRet (jac jew (jaa (wVar 0) aNil))))
theorem jkz {d:Ab} {L kk:Nat} {n n' w:Int} {x2 x4:Option SV} {Q:DQ} (hT:Th L kk d) (hL9:9<=L) (hL30:L<=30) (w0:0<=w) (hn':n'<=n+2) (hn:n+5*(kk:Int)+5 < 2 ^ 39)
  (k:∀(d':Ab) (n':Int),Th (L+1) (kk+2) d'->n'<=n+5*(kk:Int)+5->Q (.d d') n') :
  j2a [some (.w .tp),some (.w (.d d)),x2,some (.w (.d (.int w))),x4] n' {nx:=λ_ n=>Q (.d .none) n,rt:=Q}:=by
 have odd:sRet (jac jew (jaa (wVar 0) aNil)) [some (.w .tp),some (.w (.d d)),x2,some (.w (.d (.int w))),x4] n' {nx:=λ_ n=>Q (.d .none) n,rt:=Q} :=
  jam (c1_i (jab rfl ⟨rfl,by omega,λe he=>k e _ (he.mono (by omega) (by omega)) (by omega)⟩))
 have lt4:∀Q:Bool->Int->Prop,Q (decide (w < 4)) n'->cT (w2 (wVar 3) (wC (.int (4))) gLt) [some (.w .tp),some (.w (.d d)),x2,some (.w (.d (.int w))),x4] n' Q:=λQ q=>ct_b (λQ q=>w2_i (jab rfl (c_i q))) q;unfold j2a;cases hT with
 |int i h1 h2 =>
  refine jaf (if_b (b:=decide (w < 4)) (λQ q=>jdx (a:=true) (λQ q=>ct_b (λQ q=>jvn (d:=.int i) (λQ q=>jab rfl q) Q q) q) (λ_ Q q=>lt4 Q q) (by rw[B6];exact q)) (λe=>?_) λ_=>?_)
  ·have e:=of_decide_eq_true e;have ha:=j5y hL30 h1 h2;refine jam (w2_i (of_i (Ad rfl ⟨rfl,Bj _,Bj _,_,rfl,Ad ⟨jxw ha,Bw (jrd ha) (by decide)⟩ (Ad (D2 rfl) ?_)⟩)));refine jab rfl (jgr (ds:=[.int (i+1),.int (i - 1),.bool _,.str (toString i)]) w0 e λf hf=>?_);simp only[An,Aw,or_false]at hf;rcases hf with rfl | rfl | rfl | rfl
   ·exact k _ _ (.int _ (by omega) (by omega)) (by omega)
   ·exact k _ _ (.int _ (by omega) (by omega)) (by omega)
   ·exact k _ _ (.bool _) (by omega)
   ·exact k _ _ (.str _ (jrd ha) (j1h _)) (by omega)
  ·exact odd
 |bool b =>
  refine jaf (if_b (b:=decide (w < 4)) (λQ q=>jdx (a:=true) (λQ q=>ct_b (λQ q=>jvn (d:=.bool b) (λQ q=>jab rfl q) Q q) q) (λ_ Q q=>lt4 Q q) (by rw[B6];exact q)) (λe=>?_) λ_=>?_)
  ·have e:=of_decide_eq_true e;refine jam (w2_i (of_i (Ad rfl ⟨rfl,Bj _,Bj _,_,rfl,Ad (D2 rfl) ?_⟩)));refine jab rfl (jgr (ds:=[.int ((if b=true then 1 else 0)+1),.int ((if b=true then 1 else 0) - 1),.bool _,.str (if b then "True" else "False")]) w0 e λf hf=>?_);simp only[An,Aw,or_false]at hf;have hb:(0:Int)<=(if b=true then 1 else 0)/\(if b=true then 1 else 0)<=(1:Int):=by cases b<;>decide
   rcases hf with rfl | rfl | rfl | rfl
   ·exact k _ _ (.int _ (by unfold B30;omega) (by unfold B30;omega)) (by omega)
   ·exact k _ _ (.int _ (by unfold B30;omega) (by unfold B30;omega)) (by omega)
   ·exact k _ _ (.bool _) (by omega)
   ·refine k _ _ ?_ (by omega);cases b
    ·exact .str _ (by decide +kernel) (by decide +kernel)
    ·exact .str _ (by decide +kernel) (by decide +kernel)
  ·exact odd
 |_=>exact jaf (if_b (b:=false) (λQ q=>jdx (a:=false) (b:=true) (λQ q=>ct_b (k:=false) (λQ q=>q) q) (λz=>nomatch z) q) (λz=>nomatch z) λ_=>odd)
def j5s:DST:=(sSeq (sSet 3 (jac jat (jaa (wVar 0) (jaa (wC (.int (7))) aNil)))) (sSeq (sIf (cOr (cNot (cT (wIsi "tuple" (wVar 1)))) (cT (w2 (wVar 3) (wC (.int (0))) (gXX λd e=>some (PyData.eqv d e))))) j2a jaj) (sSeq (sSet 2 (jac jat (jaa (wVar 0) (jaa (w2 (wB gLen (jaa (wVar 1) aNil)) (wC (.int (1))) (gI0 λi j=>.int (i+j))) aNil)))) (sSeq (sSet 4 (wOf (fLst (jaa (w2 (jak (wVar 1) ja6 (jar (wVar 2))) (jak (wVar 1) (jar (w2 (wVar 2) (wC (.int (1))) (gI0 λi j=>.int (i+j)))) ja6) jcj) (jaa (w2 (w2 (jak (wVar 1) ja6 (jar (wVar 2))) (jak (wVar 1) (jar (wVar 2)) (jar (w2 (wVar 2) (wC (.int (1))) (gI0 λi j=>.int (i+j))))) jcj) (jak (wVar 1) (jar (wVar 2)) ja6) jcj) (jaa (wRev (wVar 1)) (jaa (wB jj6 (jaa (wVar 1) aNil)) aNil))))))) (sRet (w2 (w2 (wVar 4) (wOf (fLst (jaa (w2 (w2 (jak (wVar 1) ja6 (jar (wVar 2))) (wTup (jaa (jac jew (jaa (wVar 0) aNil)) aNil)) jcj) (jak (wVar 1) (jar (wVar 2)) ja6) jcj) (jaa (w2 (wVar 1) (wTup (jaa (jac jew (jaa (wVar 0) aNil)) aNil)) jcj) aNil)))) jcj) (w2 (wVar 3) (wC (.int (1))) (gI0 λi j=>.int (i - j))) gIx))))))
theorem eq0 {δ:Sl} {n w:Int} {i:Nat} (e:δ[i]?=some (some (.w (.d (.int w))))):∀Q:Bool->Int->Prop,Q (decide (w=0)) n->cT (w2 (wVar i) (wC (.int (0))) (gXX λd e=>some (PyData.eqv d e))) δ n Q:=λQ q =>
 ct_b (λQ q=>w2_i (jab e (c_i (Ad rfl ⟨rfl,Bj _,Bj _,decide (w=0),rfl,q⟩)))) q
theorem jou {ds:List Ab} {L kk:Nat} {n n':Int} {Q:DQ} (hT:Th L kk (.tuple ds)) (hL9:9<=L) (hL30:L<=30) (hn':n'<=n+1) (hn:n+5*(kk:Int)+5 < 2 ^ 39)
  (k:∀(d':Ab) (n':Int),Th (L+1) (kk+2) d'->n'<=n+5*(kk:Int)+5->Q (.d d') n') :
  j5s [some (.w .tp),some (.w (.d (.tuple ds))),none,none,none] n' {nx:=λ_ n=>Q (.d .none) n,rt:=Q}:=by
 have hl:ds.length<=L:=by cases hT;assumption
 have hm:∀x∈ds,Th (L+1) (kk+1) x:=λx hx=>(hT.mem x hx).mono (by omega) (by omega);have hm0:∀x∈ds,Th (L+1) (kk - 1) x:=λx hx=>(hT.mem x hx).mono (by omega) (by omega);unfold j5s;refine jaf (jnh (m:=7) rfl (by omega) (by decide) (by decide) λw w0 w1=>?_);dsimp only[A6];refine jaf (if_b (b:=decide (w=0)) (λQ q=>c_or (nt_i rfl) (λ_ Q q=>eq0 rfl Q q) (by rw[E9];exact q)) (λe=>?_) λe=>?_)
 ·exact jkz (n:=n) hT hL9 hL30 w0 (by omega) hn k
 ·have e:=of_decide_eq_false e;dsimp only[jaj];refine jaf (jdv (m:=(ds.length:Int)+1) rfl (λQ q=>w2_i (b1_i (jab rfl (show Q _ _ from q)))) (by omega) (by omega) (by omega) λr r0 r1=>?_);obtain⟨j,rfl⟩:∃j:Nat,r=j:=⟨r.toNat,by omega⟩;dsimp only[A6];have t1:=jqe ds j;have t2:=jn5 ds j;have t3:=jkv ds j;have t4:=jxz ds j;have mk:∀xs:List Ab,xs.length<=L+1->(∀x∈xs,Th (L+1) (kk+1) x)->Th (L+1) (kk+2) (.tuple xs):=λxs h1 h2=>.tuple h1 h2;have mA:∀{a b:Option Int},∀x∈cutD ds a b,Th (L+1) (kk+1) x:=λx hx=>hm x (jl6 hx);refine jaf (show sSet 4 _ _ _ _ from of_i (j69 ?_));refine w2_i (to_i rfl rfl (jvt rfl rfl (jdf (by omega) ?_)));refine w2_i (w2_i (to_i rfl rfl (j6y rfl rfl (jdf (by omega) (jzk rfl rfl (jdf (by rw[Ak];omega) ?_))))));refine j6p rfl (j6z rfl ?_);refine Ad (show 4<=1000 by decide) ?_;dsimp only[A6];have cA:=mk _ (show(cutD ds none (some (j:Int))++cutD ds (some ((j:Int)+1)) none).length<=L+1 by rw[Ak];omega) λx hx=>(A0.mp hx).elim (mA x) (mA x);have cB:=mk _ (show((cutD ds none (some (j:Int))++cutD ds (some (j:Int)) (some ((j:Int)+1)))++cutD ds (some (j:Int)) none).length<=L+1 by rw[Ak,Ak];omega) λx hx=>(A0.mp hx).elim (λhx=>(A0.mp hx).elim (mA x) (mA x)) (mA x);have cC:=mk ds.reverse (by rw[F0];omega) λx hx=>hm x (List.mem_reverse.mp hx);have cD:Th (L+1) (kk+2) (.list ds):=.list (by omega) hm;generalize Bz (cutD ds none (some (j:Int))++cutD ds (some ((j:Int)+1)) none)=A at cA;generalize Bz ((cutD ds none (some (j:Int))++cutD ds (some (j:Int)) (some ((j:Int)+1)))++cutD ds (some (j:Int)) none)=B at cB;refine jam (w2_i (w2_i (jab rfl (of_i (j7b ?_)))));refine w2_i (w2_i (to_i rfl rfl (jws (c1_i (jab rfl ⟨rfl,by omega,λo ho=>?_⟩)))));have ho:=ho.mono (L':=L+1) (k':=kk+1) (by omega) (by omega);refine Ad (show 1<=1000 by decide) (jdf (by simp only[A9];omega) (jzk rfl rfl (jdf (by rw[Ak,A9];omega) ?_)));refine w2_i (jab rfl (jws (c1_i (jab rfl ⟨rfl,by omega,λo' ho'=>?_⟩))));have ho':=ho'.mono (L':=L+1) (k':=kk+1) (by omega) (by omega);refine Ad (show 1<=1000 by decide) (jdf (by simp only[A9];omega) ?_);have cE:=mk _ (show((cutD ds none (some (j:Int))++[o])++cutD ds (some (j:Int)) none).length<=L+1 by rw[Ak,Ak,A9];omega) λx hx=>(A0.mp hx).elim (λhx=>jhl mA ho x hx) (mA x);have cF:=mk (ds++[o']) (by rw[Ak,A9];omega) (jhl hm ho');generalize Bz ((cutD ds none (some (j:Int))++[o])++cutD ds (some (j:Int)) none)=E at cE;generalize Bz (ds++[o'])=F at cF;refine Ad (show 2<=1000 by decide) (Ad (jsb (show 6<=1000 by decide)) (w2_i (jab rfl (c_i ?_))));refine jgr (ds:=[A,B,.tuple ds.reverse,.list ds,E,F]) (r:=w - 1) (by omega) (show w - 1 < 6 by omega) λf hf=>?_;simp only[An,Aw,or_false]at hf;rcases hf with rfl | rfl | rfl | rfl | rfl | rfl
  ·exact k _ _ cA (by omega)
  ·exact k _ _ cB (by omega)
  ·exact k _ _ cC (by omega)
  ·exact k _ _ cD (by omega)
  ·exact k _ _ cE (by omega)
  ·exact k _ _ cF (by omega)
theorem jl5:∀d ws n Q,jfv d ws n Q->ws.length=2:=λt ws n Q h=>by
 cases t with
 |zero=>exact h.elim
 |succ t=>obtain⟨_,_,_,rfl,_⟩:=h;rfl
theorem jki:∀d ws n Q,jfv (d+1) ws n Q->ji7 (jfv d) (jah ["_law_tape_here","_law_thing","_law_at","_law_way","_law_some"] ws) n {nx:=λ_ n=>Q (.d .none) n,rt:=Q}:=λt ws n Q h=>by
 obtain⟨d,L,kk,rfl,hT,hL9,hL30,hk,hn,k⟩:=h;show ji7 (jfv t) [some (.w .tp),some (.w (.d d)),none,none,none] n _;by_cases ht:isiB "tuple" d=true
 ·obtain⟨ds,rfl⟩:=jrf ht;rcases ds with _ | ⟨a,r⟩
  ·refine jaf (if_b (b:=false) (λQ q=>jdx (a:=true) (b:=false) (λQ q=>ct_b (λQ q=>jes rfl q) q) (λ_ Q q=>jdx (a:=false) (b:=true) (λQ q=>ct_b (λQ q=>w2_i (jab rfl (Ad (Bj _) q))) q) (λz=>nomatch z) q) q) (λz=>nomatch z) λ_=>?_);exact jou hT hL9 hL30 (by omega) hn k
  ·have hl:(a::r).length<=L:=by cases hT;assumption
   have k1:1<=kk:=by cases hT;omega
   generalize hds:a::r=ds at hT hl;have l1:1<=ds.length:=by rw[<-hds];simp
   refine jaf (if_i (jzq (λQ q=>ct_b (λQ q=>jes rfl q) q) (jzq (λQ q=>ct_b (k:=true) (λQ q=>w2_i (jab rfl (Ad (Bj _) (by subst hds;exact q)))) q) ?_)));refine w2_i (jdw (m:=5) rfl (by omega) (by decide) (by decide) λx x0 x1=>c_i ?_);show if decide (0 < x)=true then _ else _
   by_cases h:0 < x
   ·rw[if_pos (decide_eq_true h)];refine jaf (jdv (m:=(ds.length:Int)) rfl (λQ q=>b1_i (jab rfl q)) (by omega) (by omega) (by omega) λr r0 r1=>?_);obtain⟨y,hy,ym⟩:=jmo r0 r1;obtain⟨j,rfl⟩:∃j:Nat,r=j:=⟨r.toNat,by omega⟩;dsimp only[A6];have t1:=jqe ds j;have t3:=jkv ds j;refine jam (w2_i (w2_i (to_i rfl rfl (c2_i (jab rfl (w2_i (jab rfl (jab rfl ?_))))))));show match atI ds (j:Int)with | some d=>_ | none=>False
    rw[hy];cases t with
    |zero=>omega
    |succ t =>
     refine⟨y,L,kk - 1,rfl,hT.mem y ym,hL9,hL30,by omega,by omega,λd' n' hd' hn''=>?_⟩;refine Ad (D2 rfl) (jdf (by simp only[A9];omega) (jvt rfl rfl (jdf (by rw[Ak,A9];omega) ?_)));have mA:∀{a b:Option Int},∀x∈cutD ds a b,Th (L+1) (kk+1) x:=λx hx=>(hT.mem x (jl6 hx)).mono (by omega) (by omega);exact k _ _ (.tuple (by rw[Ak,Ak,A9];omega) λx hx=>(A0.mp hx).elim (jhl mA (hd'.mono (Ar _) (by omega)) x) (mA x)) (by omega)
   ·rw[if_neg (by simpa using h)];exact jou hT hL9 hL30 (by omega) hn k
 ·have ht:isiB "tuple" d=false:=by simpa using ht
  refine jaf (if_b (b:=false) (λQ q=>jdx (a:=false) (b:=true) (λQ q=>ct_b (k:=false) (λQ q=>jvn (d:=d) (λQ q=>jab rfl q) Q (by rw[ht];exact q)) q) (λz=>nomatch z) q) (λz=>nomatch z) λ_=>?_);dsimp only[jaj];refine jaf (jnh (m:=7) rfl (by omega) (by decide) (by decide) λw w0 w1=>?_);dsimp only[A6];refine jaf (if_b (b:=true) (λQ q=>c_or (a:=true) (b:=true) (λQ q=>jbq (k:=false) (λQ q=>ct_b (k:=false) (λQ q=>jvn (d:=d) (λQ q=>jab rfl q) Q (by rw[ht];exact q)) q) q) (λz=>nomatch z) q) (λ_=>?_) λz=>nomatch z);exact jkz (n:=n) hT hL9 hL30 w0 (by omega) hn k
theorem jj1:∀ws n Q,jfu ws n Q->ws.length=1:=λws n Q h=>by obtain⟨rfl,_⟩:=h;rfl
abbrev Zd:List Str:=["_law_tape_here"]
theorem jis:∀ws n Q,jfu ws n Q->jgy (jah Zd ws) n {nx:=λ_ n=>Q (.d .none) n,rt:=Q}:=λws n Q h=>by
 obtain⟨rfl,hn,k⟩:=h;show jgy [some (.w .tp)] n _;refine jam (w2_i (of_i (Ad (by decide) ?_)));dsimp only;refine jdw (m:=8) rfl (by omega) (by decide) (by decide) λr h0 h1=>jgr (ds:=[.str "a",.int 0,.str "a",.int 1,.str "ab",.str "go",.int 99,.int 0]) h0 h1 λd hd=>k d ?_;simp only[An,Aw,or_false]at hd;rcases hd with rfl | rfl | rfl | rfl | rfl | rfl | rfl | rfl<;>simp[jwr]
theorem jl3:∀ws n Q,jja ws n Q->ws.length=1:=λws n Q h=>by obtain⟨rfl,_⟩:=h;rfl
theorem jkg:∀ws n Q,jja ws n Q->ji5 (jah Zd ws) n {nx:=λ_ n=>Q (.d .none) n,rt:=Q}:=λws n Q h=>by
 obtain⟨rfl,hn,k⟩:=h;show ji5 [some (.w .tp)] n _;refine jam (w2_i (of_i (Ad (by decide) ?_)));dsimp only;refine jdw (m:=7) rfl (by omega) (by decide) (by decide) λr h0 h1=>jgr (ds:=[.int 1,.int 2,.int 2,.int 2,.int 1,.int 3,.int 4]) h0 h1 λd hd=>?_;simp only[An,Aw,or_false]at hd;rcases hd with rfl | rfl | rfl | rfl | rfl | rfl | rfl
 ·exact k 1 (by decide) (by decide)
 ·exact k 2 (by decide) (by decide)
 ·exact k 2 (by decide) (by decide)
 ·exact k 2 (by decide) (by decide)
 ·exact k 1 (by decide) (by decide)
 ·exact k 3 (by decide) (by decide)
 ·exact k 4 (by decide) (by decide)
theorem j3g {δ:Sl} {n:Int} {K:DEnds} {W:DST} {g:DTG} (e:δ[0]?=some (some (.w .tp))) (hn:n < 2 ^ 39) (k:∀m:Nat,1<=m->m<=4->forD g W K (rngD 0 m) δ (n+1)):sFor (ja1 (jac jja (jaa (wVar 0) aNil))) g W δ n K:=by
 unfold sFor ja1;refine c1_i (jab e (Ad rfl ⟨hn,λm h1 h4=>?_⟩));refine Ad ⟨by omega,by omega⟩ ?_;rw[Bv];exact k m h1 h4
theorem jqi {c:DTT} {w:DT} {Q:List Ab->Int->Prop} {rest:Sl} (g:Fe->Option Ab) (hno:∀(f:Fe) (n:Int) (Q':Bool->Int->Prop),g f=none->Q' false n->c (some (.w (.d f.d))::rest) n Q')
  (hyes:∀(f:Fe) (n:Int) (Q':Bool->Int->Prop) (y:Ab),g f=some y->Q' true n->c (some (.w (.d f.d))::rest) n Q') (hw:∀(f:Fe) (n:Int) (Q':DQ) (y:Ab),g f=some y->Q' (.d y) n->w (some (.w (.d f.d))::rest) n Q') :
  ∀(fs:List Fe) (acc:List Ab) (x:Option SV) (n:Int),Q (acc++fs.filterMap g) n->jbm (jad 0) c w Q (fs.map Fe.d) acc (x::rest) n
 |[],acc,x,n,q=>by
  rw[List.filterMap_nil,B7]at q;exact q
 |f::r,acc,x,n,q=>by
  rw[A7];simp only[jbm,jad,A4];cases e:g f with
  |none =>
   refine hno f n _ e ?_;rw[if_neg Al];refine jqi g hno hyes hw r acc _ n ?_;rw[List.filterMap_cons_none e]at q;exact q
  |some y =>
   refine hyes f n _ y e ?_;rw[if_pos rfl];refine hw f n _ y e ?_;refine jqi g hno hyes hw r (acc++[y]) _ n ?_;rw[List.filterMap_cons_some e]at q;rw[Bn];exact q
def strO (o:Option Str):Option Ab:=o.map .str
theorem jw0 (g:Fe->Option Str) (fs:List Fe):fs.filterMap (λf=>strO (g f))=(fs.filterMap g).map .str:=by
 rw[List.map_filterMap];rfl
theorem j72 (f:Fe):ja9 "bind" (.str f.hd)=f.bd.isSome:=by
 cases f with
 |any=>exact(show ja9 "bind" (.str "any")=false by decide +kernel)
 |word=>exact(show ja9 "bind" (.str "word")=false by decide +kernel)
 |num=>exact(show ja9 "bind" (.str "number")=false by decide +kernel)
 |isv _=>exact(show ja9 "bind" (.str "is")=false by decide +kernel)
 |bind _=>exact(show ja9 "bind" (.str "bind")=true by decide +kernel)
 |as _=>exact(show ja9 "bind" (.str "as")=false by decide +kernel)
 |nx _=>exact(show ja9 "bind" (.str "next")=false by decide +kernel)
theorem j56 (f:Fe):inD (.str f.hd) [.str "as",.str "next"]=f.us.isSome:=by
 cases f with
 |any=>exact(show inD (.str "any") [.str "as",.str "next"]=false by decide +kernel)
 |word=>exact(show inD (.str "word") [.str "as",.str "next"]=false by decide +kernel)
 |num=>exact(show inD (.str "number") [.str "as",.str "next"]=false by decide +kernel)
 |isv _=>exact(show inD (.str "is") [.str "as",.str "next"]=false by decide +kernel)
 |bind _=>exact(show inD (.str "bind") [.str "as",.str "next"]=false by decide +kernel)
 |as _=>exact(show inD (.str "as") [.str "as",.str "next"]=true by decide +kernel)
 |nx _=>exact(show inD (.str "next") [.str "as",.str "next"]=true by decide +kernel)
theorem j71 {f:Fe} {k:Str} (h:f.bd=some k):f.d=.tuple [.str f.hd,.str k]:=by
 cases f<;>cases h;rfl
theorem j55 {f:Fe} {k:Str} (h:f.us=some k):f.d=.tuple [.str f.hd,.str k]:=by
 cases f<;>cases h<;>rfl
theorem jm8 {o:Option Str} {y:Ab} (h:strO o=some y):∃k,o=some k/\y=.str k:=by
 cases o with
 |none=>cases h
 |some k=>cases h;exact⟨k,rfl,rfl⟩
theorem jt1 {o:Option Str} (h:strO o=none):o=none:=by
 cases o with
 |none=>rfl
 |some k=>cases h
theorem ju8 {fs:List Fe} (h:okFs fs):∀k∈bndE fs,okK k:=λk hk=>by
 obtain⟨f,hf,e⟩:=List.mem_filterMap.mp hk;have:=h.2 f hf;cases f<;>cases e;exact this
theorem jve {fs:List Fe} (h:okFs fs):(bndE fs).length<=4:=Bw (List.length_filterMap_le _ _) h.1
theorem j4l {δ:Sl} {n:Int} {Q:DQ} {a b:Ab} (e:δ[0]?=some (some (.w (.d (.tuple [a,b]))))) (k:Q (.d b) n):w2 (wVar 0) (wC (.int 1)) gIx δ n Q:=jfk (r:=[]) e k
theorem jzu {f:Fe} {rest:Sl} {n:Int} {Q':Bool->Int->Prop} (k:Q' f.bd.isSome n):cT (w2 (w2 (wVar 0) (wC (.int 0)) gIx) (wC (.str "bind")) gEq) (some (.w (.d f.d))::rest) n Q':=by
 refine j45 (i:=0) (a:=.str f.hd) (r:=f.tl) rfl ?_;show Q' (ja9 "bind" (.str f.hd)) n;rw[j72];exact k
theorem jst {Q:List Ab->Int->Prop} (fs:List Fe) (n:Int) (k:Q ((bndE fs).map .str) n) :
  jbm (jad 0) (cT (w2 (w2 (wVar 0) (wC (.int 0)) gIx) (wC (.str "bind")) gEq)) (w2 (wVar 0) (wC (.int 1)) gIx) Q (fs.map Fe.d) [] [none] n:=by
 refine jqi (λf=>strO f.bd) (λf n Q' e q=>jzu ?_) (λf n Q' y e q=>jzu ?_) (λf n Q' y e q=>?_) fs [] none n ?_
 ·rw[jt1 e];exact q
 ·obtain⟨x,e1,_⟩:=jm8 e;rw[e1];exact q
 ·obtain⟨x,e1,rfl⟩:=jm8 e;exact j4l (by rw[j71 e1];rfl) q
 ·rw[jw0];exact k
theorem j1q {δ:Sl} {n:Int} {hs:List Str} {w:DT} {s:Str} {b:Bool} {Q:Bool->Int->Prop} (hw:∀Q:DQ,Q (.d (.str s)) n->w δ n Q) (e:inD (.str s) (hs.map .str)=b) (q:Q b n):cT (wInG hs w) δ n Q:=hw _ (Ad rfl (by show Q (inD (.str s) (hs.map .str)) n;rw[e];exact q))
theorem j5r {a:Ac} (h:okFs a.fs):(∀k∈a.bs,okK k)/\a.bs.length<=4:=by
 cases a with
 |take fs=>exact⟨ju8 h,jve h⟩
 |read fs=>exact⟨ju8 h,jve h⟩
 |look fs b=>exact⟨ju8 h,jve h⟩
 |lay fs b=>exact⟨λk hk=>by simp[Ac.bs]at hk,by simp[Ac.bs]⟩
 |same f g b=>exact⟨λk hk=>by simp[Ac.bs]at hk,by simp[Ac.bs]⟩
 |go b=>exact⟨λk hk=>by simp[Ac.bs]at hk,by simp[Ac.bs]⟩
theorem jia:∀{ys ks:List Str},ys.Nodup->(∀k∈ys,k∈ks)->ys.length<=ks.length
 |[],_,_,_=>Bj _
 |y::ys,ks,h,hs=>by
  obtain⟨h1,h2⟩:=Fc.mp h;have hm:=hs y A5;have:=jia (ks:=ks.erase y) h2 λk hk=>(List.mem_erase_of_ne (λ(e:k=y)=>h1 (e▸hk))).mpr (hs k (A1 _ hk));rw[List.length_erase_of_mem hm]at this;have:=List.length_pos_of_mem hm;rw[A3];omega
structure KnI (w:List Str) (dn:List Ac) (L:List Str):Prop where
 mem:∀k,k∈L↔k∈w++dn.flatMap Ac.bs
 len:L.length<=4+4*dn.length
 ok:∀k∈L,okK k
theorem KnI.first {w:List Str} (h:w.length<=4) (ok:∀k∈w,okK k):KnI w [] w:=⟨λk=>by simp,by simpa using h,ok⟩
theorem KnI.skip {w L:List Str} {dn:List Ac} {a:Ac} (I:KnI w dn L) (e:a.bs=[]):KnI w (dn++[a]) L :=
 ⟨λk=>by rw[I.mem k,List.flatMap_append];simp[e],by rw[Ak,A9];have:=I.len;omega,I.ok⟩
theorem KnI.more {w L ys:List Str} {dn:List Ac} {a:Ac} (I:KnI w dn L) (h:∀k,k∈ys↔k∈a.bs) (hl:ys.length<=4) (ok:okFs a.fs):KnI w (dn++[a]) (L++ys) :=
 ⟨λk=>by rw[A0,I.mem k,h k,List.flatMap_append,<-Bn];simp[or_assoc],by rw[Ak,Ak,A9];have:=I.len;omega,λk hk=>by
  rcases A0.mp hk with z | z
  ·exact I.ok k z
  ·exact(j5r ok).1 k ((h k).mp z)⟩
theorem jqt {v:Ab} (h:v∈jwr):isV v=true:=by
 simp only[jwr,An,Aw,or_false]at h;rcases h with rfl | rfl | rfl | rfl | rfl | rfl<;>decide +kernel
theorem j7x {v:Wv} {a b:List Ab} {n:Int} {Q:DQ} (hv:lsOf v=some a) (hl:a.length+b.length<=Ax) (q:Q (.d (.list (a++b))) n):gCat v (.ln b) n Q:=by
 unfold gCat;rw[hv];exact⟨hl,q⟩
theorem j74 {δ:Sl} {n:Int} {Q:DQ} (e0:δ[0]?=some (some (.w .tp))) (h:n < 2 ^ 39) (k:∀v∈jmq,Q (.d v) (n+1)):w2 (wTp3 0) (jac jat (jaa (wVar 0) (jaa (wB jf9 (jaa (wTp3 0) aNil)) aNil))) gIxL δ n Q:=by
 have ht:∀(n:Int) (Q:DQ),Q (.ln jmq) n->wTp3 0 δ n Q:=λn Q q=>by unfold wTp3;rw[e0];exact q
 exact w2_i (ht _ _ (jdv (m:=7) e0 (λQ q=>b1_i (ht _ _ q)) (by omega) (by decide) (by decide) λr h0 h1=>jqf h0 h1 k))
theorem jyn (f:Fe) (r:List Fe):bndE (f::r)=f.bd.toList++bndE r:=by cases f<;>rfl
theorem jym (fs:List Fe) (f:Fe):bndE (fs++[f])=bndE fs++f.bd.toList:=by
 unfold bndE;rw[List.filterMap_append];cases f<;>rfl
theorem jpw:∀{fs:List Fe} {ks:List Str} {f:Fe},rF ks fs->(∀k,f.us=some k->k∈ks++bndE fs)->rF ks (fs++[f])
 |[],ks,f,_,h=>⟨λk hk=>by simpa[bndE]using h k hk,trivial⟩
 |g::r,ks,f,h1,h2=>⟨h1.1,jpw h1.2 λk hk=>by
  have:=h2 k hk;rw[jyn,<-Bn]at this;exact this⟩
theorem jlv {f:Ab} {ks:List Str} (h:f∈ks.map .str):∃s∈ks,f=.str s:=by
 obtain⟨s,hs,rfl⟩:=Cc.mp h;exact⟨s,hs,rfl⟩
def PatI (kv:Wv) (ks:List Str) (n0:Int) (ds:List Ab) (δ:Sl) (n:Int):Prop:=∃(fs:List Fe) (x y z u:Option SV),δ=[some (.w .tp),some (.w kv),some (.own (fs.map Fe.d)),some (.own ((bndE fs).map .str)),x,y,z,u]/\1<=fs.length+ds.length/\fs.length+ds.length<=4/\(∀f∈fs,f.ok/\f.pt=true)/\rF ks fs/\n+2*(ds.length:Int)<=n0+9
theorem jhd:∀ws n Q,jrr ws n Q->ws.length=2:=λws n Q h=>by obtain⟨_,_,rfl,_⟩:=h;rfl
theorem jgf:∀ws n Q,jrr ws n Q->jeu (jah ["_law_tape_here","_law_known","_law_fields","_law_bound","_law_k","_law_way","_law_some","_law_name"] ws) n {nx:=λ_ n=>Q (.d .none) n,rt:=Q}:=λws n0 Q h=>by
 obtain⟨ks,kv,rfl,hkv,hks,hok,hn0,k⟩:=h;show jeu [some (.w .tp),some (.w kv),none,none,none,none,none,none] n0 _;refine jaf (jf3 ?_);dsimp only[A6];refine jaf (jf3 ?_);dsimp only[A6];refine jaf (j3g rfl (by omega) λm h1 h4=>?_);refine jbh (PatI kv ks n0) (λδ n I=>?_) (λd r δ n N I kN=>?_) _ _ _ ⟨[],none,none,none,none,rfl,by rw[jbj];simpa using h1,by rw[jbj];simpa using h4,λf hf=>(by simp at hf),trivial,by rw[jbj];omega⟩
 ·obtain⟨fs,x,y,z,u,rfl,hf1,hf,hfo,hr,hn⟩:=I;dsimp only;refine jga rfl ?_;dsimp only[A6];refine jga rfl ?_;dsimp only[A6];exact jam (jb6 (b1_i (jab rfl (jhu (jab rfl (Ad (show 2<=1000 by decide) (k fs n (by simpa using hf1) ⟨by simpa using hf,λf z=>(hfo f z).1⟩ (λf z=>(hfo f z).2) hr (by simpa using hn))))))))
 ·obtain⟨fs,x,y,z,u,rfl,hf1,hf,hfo,hr,hn⟩:=I;rw[A3]at hf1 hf hn;dsimp only[jad,A6];have hfl:(fs.map Fe.d).length < 1000000:=by rw[Ai];omega
  have hbl:(bndE fs).length<=4:=Bw (List.length_filterMap_le _ _) (by omega);have hbo:∀s∈ks++bndE fs,okK s:=λs hs=>(A0.mp hs).elim (hok s) λz=>ju8 (fs:=fs) ⟨by omega,λf z=>(hfo f z).1⟩ s z;have nxt:∀(f:Fe) (n':Int) (y z u:Option SV) (B:List Ab),f.ok/\f.pt=true->(∀k,f.us=some k->k∈ks++bndE fs)->n'<=n+2->B=(bndE fs).map .str++f.bd.toList.map .str->N [some (.w .tp),some (.w kv),some (.own (fs.map Fe.d++[f.d])),some (.own B),some (.w (.d d)),y,z,u] n':=λf n' y z u B fo fu hn' hB =>
   kN _ _ ⟨fs++[f],some (.w (.d d)),y,z,u,by rw[hB,Cw,jym,Cw];rfl,by rw[Ak,A9];omega,by rw[Ak,A9];omega,λg hg=>(A0.mp hg).elim (hfo g) λz=>by rw[A2]at z;subst z;exact fo,jpw hr fu,by omega⟩
  have nxtN:∀(f:Fe) (n':Int) (y z u:Option SV),f.bd=none->f.ok/\f.pt=true->(∀k,f.us=some k->k∈ks++bndE fs)->n'<=n+2->N [some (.w .tp),some (.w kv),some (.own (fs.map Fe.d++[f.d])),some (.own ((bndE fs).map .str)),some (.w (.d d)),y,z,u] n':=λf n' y z u fb fo fu hn' =>
   nxt f n' y z u _ fo fu hn' (by rw[fb];exact(B7 _).symm)
  refine jaf (jnh (m:=9) rfl (by omega) (by decide) (by decide) λw w0 w1=>?_);dsimp only[A6];refine jaf (jdn (x:=.list (ks.map .str++(bndE fs).map .str)) (λQ q=>w2_i (jab rfl (jnv rfl (j7x hkv (jej (by rw[Ai];omega) (by rw[Ai];omega)) q)))) ?_);dsimp only[A6];refine iflt rfl (λhw=>?_) (λhw=>?_)
  ·refine jmp rfl (jb6 (c_i (c1_i (jab rfl (Ad rfl ⟨by omega,λv hv=>?_⟩)))));exact Ad (show 2<=1000 by decide) (Ad hfl (nxtN (.isv v) _ _ _ _ rfl ⟨jqt hv,rfl⟩ (λk hk=>by cases hk) (by omega)))
  ·refine iflt rfl (λhw6=>?_) (λhw6=>?_)
   ·refine jmp rfl (w2_i (of_i (Ad (by decide) (Ad (by decide) (Ad (by decide) (Ad (by decide) ?_))))));dsimp only;refine w2_i (jab rfl (c_i ?_));dsimp only[gI0];refine jb5 (ds:=[.tuple [.str "any"],.tuple [.str "word"],.tuple [.str "number"]]) (r:=w - 3) (by omega) (show w - 3 < 3 by omega) λf hf'=>?_;simp only[An,Aw,or_false]at hf';rcases hf' with rfl | rfl | rfl
    ·exact Ad hfl (nxtN .any _ _ _ _ rfl ⟨trivial,rfl⟩ (λk hk=>by cases hk) (by omega))
    ·exact Ad hfl (nxtN .word _ _ _ _ rfl ⟨trivial,rfl⟩ (λk hk=>by cases hk) (by omega))
    ·exact Ad hfl (nxtN .num _ _ _ _ rfl ⟨trivial,rfl⟩ (λk hk=>by cases hk) (by omega))
   ·have bind:∀(K:DEnds) (L:List Ab),(∀δ n,N δ n->K.nx δ n)->sSeq (sSet 7 (w2 (wOf (fLst (jaa (wC (.str "n")) (jaa (wC (.str "nm")) (jaa (wC (.str "go")) (jaa (wC (.str "m")) aNil)))))) (jac jat (jaa (wVar 0) (jaa (wC (.int (4))) aNil))) gIxL)) (sSeq (sApp 3 (wVar 7)) (sApp 2 (wTup (jaa (wC (.str "bind")) (jaa (wVar 7) aNil)))))
      [some (.w .tp),some (.w kv),some (.own (fs.map Fe.d)),some (.own ((bndE fs).map .str)),some (.w (.d d)),some (.w (.d (.int w))),some (.w (.d (.list L))),u] (n+1) K:=λK L hK=>by
     refine jaf (show w2 _ _ _ _ _ _ from w2_i (of_i (Ad (by decide) ?_)));dsimp only;refine jdw (m:=4) rfl (by omega) (by decide) (by decide) λr r0 r1=>jb5 (ds:=[.str "n",.str "nm",.str "go",.str "m"]) r0 r1 λf hf'=>?_;have:∃s:Str,f=.str s/\okK s:=by
      simp only[An,Aw,or_false]at hf';rcases hf' with rfl | rfl | rfl | rfl<;>exact⟨_,rfl,by decide +kernel,by decide +kernel⟩
     obtain⟨s,rfl,so⟩:=this;dsimp only[A6];refine jaf (jyp rfl (λQ q=>jab rfl q) (by rw[Ai];omega) ?_);dsimp only[A6];refine jyp (x:=.tuple [.str "bind",.str s]) rfl (λQ q=>jb6 (c_i (jab rfl (Ad (show 2<=1000 by decide) q)))) hfl (hK _ _ ?_);exact nxt (.bind s) (n+1+1) _ _ _ _ ⟨so,rfl⟩ (λk hk=>by cases hk) (by omega) rfl
    by_cases hw8:w < 8
    ·refine if_y (λQ q=>j10 (λQ q=>ct_b (k:=true) (λQ q=>w2_i (jab rfl (c_i ?_))) q) q) (bind _ _ λ_ _ z=>z);show Q (.d (.bool (decide (w < 8)))) _;rw[decide_eq_true hw8];exact q
    ·have hmem:∀f∈ks.map B5++(bndE fs).map B5,∃s∈ks++bndE fs,f=.str s:=λf hf=>jlv (by rw[Cw];exact hf);have hlen:(ks.map B5++(bndE fs).map B5).length<=2000:=by rw[Ak,Ai,Ai];omega
     generalize(ks.map B5++(bndE fs).map B5)=L at hmem hlen;cases L with
     |nil =>
      refine if_y (λQ q=>jv1 (λQ q=>ct_b (k:=false) (λQ q=>w2_i (jab rfl (c_i ?_))) q) (ct_b (k:=true) (λQ q=>w2_i (jab rfl (of_i (Ad (Bj _) q)))) q)) (bind _ _ λ_ _ z=>z);show Q (.d (.bool (decide (w < 8)))) _;rw[decide_eq_false hw8];exact q
     |cons a l =>
      refine if_n (λQ q=>jv1 (λQ q=>ct_b (k:=false) (λQ q=>w2_i (jab rfl (c_i ?_))) q) (ct_b (k:=false) (λQ q=>w2_i (jab rfl (of_i (Ad (Bj _) q)))) q)) ?_
      ·show Q (.d (.bool (decide (w < 8)))) _;rw[decide_eq_false hw8];exact q
      ·refine jmp rfl (jb6 (c_i (w2_i (jab rfl ?_))));refine jdv (m:=(a::l).length) rfl (λQ q=>b1_i (jab rfl q)) (by omega) (by rw[A3];omega) (by omega) λr r0 r1=>jb5 r0 r1 λf hf'=>?_;obtain⟨s,hs,rfl⟩:=hmem f hf';exact Ad (show 2<=1000 by decide) (Ad hfl (nxtN (.as s) _ _ _ _ rfl ⟨hbo s hs,rfl⟩ (λk hk=>by cases hk;exact hs) (by omega)))
theorem jzw {v:Ab} (h:v∈jmq):jsj v:=by
 simp only[jmq,An,Aw,or_false]at h;rcases h with rfl | rfl | rfl | rfl | rfl | rfl | rfl<;>first | exact .inl rfl | exact .inr ⟨_,rfl,by decide,by decide⟩
theorem jn3:∀ws n Q,js2 ws n Q->ws.length=1:=λws n Q h=>by obtain⟨rfl,_⟩:=h;rfl
theorem jmm:∀ws n Q,js2 ws n Q->jk5 (jah Zd ws) n {nx:=λ_ n=>Q (.d .none) n,rt:=Q}:=λws n Q h=>by
 obtain⟨rfl,hn,k⟩:=h;show jk5 [some (.w .tp)] n _;exact jam (j74 rfl hn k)
theorem j5l {δ:Sl} {n:Int} {Q:DQ} (e0:δ[0]?=some (some (.w .tp))) (h:n < 2 ^ 39) (k:∀v∈jmq,Q (.d v) (n+1)):jac js2 (jaa (wVar 0) aNil) δ n Q:=c1_i (jab e0 ⟨rfl,h,k⟩)
def TemI (ks:List Str) (n0:Int) (ds:List Ab) (δ:Sl) (n:Int):Prop:=∃(fs:List Fe) (x y:Option SV),δ=[some (.w .tp),some (.w (.ln (ks.map .str))),some (.own (fs.map Fe.d)),x,y]/\fs.length+ds.length<=4/\1<=fs.length+ds.length/\(∀f∈fs,f.ok/\f.tm=true)/\rF ks fs/\n+2*(ds.length:Int)<=n0+9
theorem jf6:∀ws n Q,jrq ws n Q->ws.length=2:=λws n Q h=>by obtain⟨_,rfl,_⟩:=h;rfl
theorem jfq:∀ws n Q,jrq ws n Q->jd3 (jah ["_law_tape_here","_law_known","_law_fields","_law_k","_law_way"] ws) n {nx:=λ_ n=>Q (.d .none) n,rt:=Q}:=λws n0 Q h=>by
 obtain⟨ks,rfl,hks,hok,hn0,k⟩:=h;show jd3 [some (.w .tp),some (.w (.ln (ks.map .str))),none,none,none] n0 _;refine jaf (jf3 ?_);dsimp only[A6];refine jaf (j3g rfl (by omega) λm h1 h4=>?_);refine jbh (TemI ks n0) (λδ n I=>?_) (λd r δ n N I kN=>?_) _ _ _ ⟨[],none,none,rfl,by rw[jbj];simpa using h4,by rw[jbj];simpa using h1,λf hf=>(by simp at hf),trivial,by rw[jbj];omega⟩
 ·obtain⟨fs,x,y,rfl,hf,hf1,hfo,hr,hn⟩:=I;dsimp only;refine jga rfl ?_;dsimp only[A6];exact jam (b1_i (jab rfl (jhu (k fs n (by simpa using hf1) ⟨by simpa using hf,λf z=>(hfo f z).1⟩ (λf z=>(hfo f z).2) hr (by simpa using hn)))))
 ·obtain⟨fs,x,y,rfl,hf,hf1,hfo,hr,hn⟩:=I;rw[A3]at hf hf1 hn;dsimp only[jad,A6];have hfl:(fs.map Fe.d).length < 1000000:=by rw[Ai];omega
  have nxt:∀(f:Fe) (n':Int) (y:Option SV),f.ok/\f.tm=true->(∀k,f.us=some k->k∈ks)->n'<=n+2->N [some (.w .tp),some (.w (.ln (ks.map .str))),some (.own (fs.map Fe.d++[f.d])),some (.w (.d d)),y] n':=λf n' y fo fu hn' =>
   kN _ _ ⟨fs++[f],some (.w (.d d)),y,by rw[Cw];rfl,by rw[Ak,A9];omega,by rw[Ak,A9];omega,λg hg=>(A0.mp hg).elim (hfo g) λz=>by rw[A2]at z;subst z;exact fo,jpw hr λk hk=>Dk _ (fu k hk),by omega⟩
  refine jaf (jnh (m:=6) rfl (by omega) (by decide) (by decide) λw w0 w1=>?_);dsimp only[A6];have isv:∀K:DEnds,(∀δ n,N δ n->K.nx δ n)->sApp 2 (wTup (jaa (wC (.str "is")) (jaa (jac jfu (jaa (wVar 0) aNil)) aNil))) [some (.w .tp),some (.w (.ln (ks.map .str))),some (.own (fs.map Fe.d)),some (.w (.d d)),some (.w (.d (.int w)))] (n+1) K:=λK hK =>
   jmp rfl (jb6 (c_i (c1_i (jab rfl (Ad rfl ⟨by omega,λv hv=>Ad (show 2<=1000 by decide) (Ad hfl (hK _ _ (nxt (.isv v) _ _ ⟨jqt hv,rfl⟩ (λk hk=>by cases hk) (by omega))))⟩)))))
  by_cases hw3:w < 3
  ·refine if_y (λQ q=>j10 (λQ q=>ct_b (k:=true) (λQ q=>w2_i (jab rfl (c_i ?_))) q) q) (isv _ λ_ _ z=>z);show Q (.d (.bool (decide (w < 3)))) _;rw[decide_eq_true hw3];exact q
  ·have ct3:∀Q:DQ,Q (.d (.bool false)) (n+1)->w2 (wVar 4) (wC (.int 3)) gLt [some (.w .tp),some (.w (.ln (ks.map .str))),some (.own (fs.map Fe.d)),some (.w (.d d)),some (.w (.d (.int w)))] (n+1) Q:=λQ q=>w2_i (jab rfl (c_i (by
    show Q (.d (.bool (decide (w < 3)))) _;rw[decide_eq_false hw3];exact q)))
   cases ks with
   |nil=>exact if_y (λQ q=>jv1 (λQ q=>ct_b (k:=false) ct3 q) (ct_b (k:=true) (λQ q=>w2_i (jab rfl (jdp (eqLn q)))) q)) (isv _ λ_ _ z=>z)
   |cons a l =>
    refine if_n (λQ q=>jv1 (λQ q=>ct_b (k:=false) ct3 q) (ct_b (k:=false) (λQ q=>w2_i (jab rfl (jdp (eqLn q)))) q)) ?_;refine jmp rfl (jb6 (w2_i (of_i (Ad (by decide) ?_))));dsimp only;refine w2_i (jab rfl (c_i ?_));dsimp only[gI0];refine jb5 (ds:=[.str "as",.str "as",.str "next"]) (r:=w - 3) (by omega) (show w - 3 < 3 by omega) λf hf'=>?_;refine w2_i (jab rfl ?_);have hl:((a::l).map B5).length<=1000:=by rw[Ai];exact hks
    refine jdv (m:=((a::l).map B5).length) rfl (λQ q=>b1_i (jab rfl q)) (by omega) (by rw[Ai,A3];omega) (by omega) λr r0 r1=>jqf r0 r1 λf' hf''=>?_;obtain⟨s,hs,rfl⟩:=jlv hf'';simp only[An,Aw,or_false]at hf';rcases hf' with rfl | rfl | rfl
    ·exact Ad (show 2<=1000 by decide) (Ad hfl (nxt (.as s) _ _ ⟨hok s hs,rfl⟩ (λk hk=>by cases hk;exact hs) (by omega)))
    ·exact Ad (show 2<=1000 by decide) (Ad hfl (nxt (.as s) _ _ ⟨hok s hs,rfl⟩ (λk hk=>by cases hk;exact hs) (by omega)))
    ·exact Ad (show 2<=1000 by decide) (Ad hfl (nxt (.nx s) _ _ ⟨hok s hs,rfl⟩ (λk hk=>by cases hk;exact hs) (by omega)))
theorem jl2:∀ws n Q,jjd ws n Q->ws.length=2:=λws n Q h=>by obtain⟨_,rfl,_⟩:=h;rfl
abbrev Ze:List Str:=["_law_tape_here","_law_known"]
theorem jkf:∀ws n Q,jjd ws n Q->ji4 (jah Ze ws) n {nx:=λ_ n=>Q (.d .none) n,rt:=Q}:=λws n Q h=>by
 obtain⟨ks,rfl,hks,hok,hn0,k⟩:=h;show ji4 [some (.w .tp),some (.w (.ln (ks.map .str)))] n _;have isv:∀n',n'<=n+1->sRet (wTup (jaa (wC (.str "is")) (jaa (jac jfu (jaa (wVar 0) aNil)) aNil))) [some (.w .tp),some (.w (.ln (ks.map .str)))] n' {nx:=λ_ n=>Q (.d .none) n,rt:=Q}:=λn' hn' =>
  jam (jb6 (c_i (c1_i (jab rfl (Ad rfl ⟨by omega,λv hv=>Ad (show 2<=1000 by decide) (k (.isv v) _ (jqt hv) rfl (λk hk=>by cases hk) (by omega))⟩)))))
 cases ks with
 |nil=>exact jaf (if_y (λQ q=>j10 (λQ q=>ct_b (k:=true) (λQ q=>w2_i (jab rfl (jdp (eqLn q)))) q) q) (isv n (by omega)))
 |cons a l =>
  refine jaf (if_i (jv1 (λQ q=>ct_b (k:=false) (λQ q=>w2_i (jab rfl (jdp (eqLn q)))) q) ?_));refine w2_i (jdw (m:=2) rfl (by omega) (by decide) (by decide) λr r0 r1=>c_i (eqLi ?_));show if decide (r=0)=true then _ else _
  by_cases h:r=0
  ·rw[if_pos (decide_eq_true h)];exact isv (n+1) (by omega)
  ·rw[if_neg (by simpa using h)];dsimp only[jaj];refine jam (jb6 (c_i (w2_i (jab rfl ?_))));have hl:((a::l).map B5).length<=1000:=by rw[Ai];exact hks
   refine jdv (m:=((a::l).map B5).length) rfl (λQ q=>b1_i (jab rfl q)) (by omega) (by rw[Ai,A3];omega) (by omega) λr r0 r1=>jqf r0 r1 λf' hf''=>?_;obtain⟨s,hs,rfl⟩:=jlv hf'';exact Ad (show 2<=1000 by decide) (k (.as s) _ (hok s hs) rfl (λk hk=>by cases hk;exact hs) (by omega))
theorem jn4:∀ws n Q,jk8 ws n Q->ws.length=3:=λws n Q h=>by obtain⟨_,_,_,rfl,_⟩:=h;rfl
theorem jmn:∀ws n Q,jk8 ws n Q->jk6 (jah ["_law_tape_here","_law_known","_law_open_ones","_law_way","_law_block","_law_pattern_here","_law_bound"] ws) n {nx:=λ_ n=>Q (.d .none) n,rt:=Q}:=λws n Q h=>by
 obtain⟨ks,os,wants,rfl,hks,hok,ho,ho',hop,hn0,k⟩:=h;show jk6 [some (.w .tp),some (.w (.ln (ks.map .str))),some (.w (.d (.list (os.map λb=>.int (b:Nat))))),none,none,none,none] n _;refine jaf (jnh (m:=12) rfl (by omega) (by decide) (by decide) λw w0 w1=>?_);dsimp only[A6];refine jaf (iflt rfl (λhw=>?_) (λhw=>?_))
 ·refine jam (jb6 (j2m (c_i (c2_i (jab rfl (jab rfl (Dt ks ⟨rfl,hks,hok,by omega,λfs n' hf1 hfs htm hrf hn'=>?_⟩)))))));refine j5l rfl (by omega) λv hv=>?_;exact Ad (show 3<=1000 by decide) (jdp (Ad (show 2<=1000 by decide) (k (.lay fs v) _ ⟨hfs,htm,jzw hv,hf1⟩ ⟨hrf,λb hb=>by cases hb⟩ (by omega))))
 dsimp only[jaj];refine jaf (show sSet 4 _ _ _ _ from w2_i (jab rfl ?_));refine jdv (m:=(os.map λb:Nat=>PyData.int (b:Nat)).length) rfl (λQ q=>b1_i (jab rfl q)) (by omega) (by rw[Ai];omega) (by rw[Ai];omega) λr r0 r1=>jb5 r0 r1 λb hb=>?_;obtain⟨b,hbo,rfl⟩:=Cc.mp hb;have hto:=hop b hbo;dsimp only[A6];refine jaf (ifeq rfl (λh10=>?_) (λh10=>?_))
 ·refine jam (jb6 (j2l (c_i (c2_i (jab rfl (jab rfl (Dt ks ⟨rfl,hks,hok,by omega,λf n' fo fb fu hn'=>?_⟩)))))));refine c2_i (jab rfl (jab rfl (Dt ks ⟨rfl,hks,hok,by omega,λg n'' go gb gu hn''=>?_⟩)));refine jab rfl (Ad (show 4<=1000 by decide) (jdp (Ad (show 2<=1000 by decide) (k (.same f g b) _ ⟨⟨show 2<=4 by decide,λe he=>?_⟩,fb,gb⟩ ⟨⟨fu,λk hk=>Dk _ (gu k hk),trivial⟩,λb' hb'=>by cases hb';exact hto⟩ (by omega)))));simp only[Ac.fs,An,Aw,or_false]at he;rcases he with rfl | rfl
  ·exact fo
  ·exact go
 dsimp only[jaj];refine jaf (ifeq rfl (λh11=>?_) (λh11=>?_))
 ·exact jam (jb6 (jb6 (c_i (jab rfl (Ad (show 2<=1000 by decide) (jdp (Ad (show 2<=1000 by decide) (k (.go b) _ ⟨⟨show 0<=4 by decide,λe he=>by simp[Ac.fs]at he⟩,trivial⟩ ⟨trivial,λb' hb'=>by cases hb';exact hto⟩ (by omega)))))))))
 dsimp only[jaj];refine jaf ?_;unfold sUnp;refine c2_i (jab rfl (jab rfl (Dt ks ⟨.ln (ks.map .str),rfl,rfl,hks,hok,by omega,λfs n' hf1 hfs hpt hrf hn'=>?_⟩)));refine Ad rfl ?_;dsimp only[jan,jbg,jad,A6];refine jaf (ifgt rfl (λh7=>?_) (λh7=>?_))
 ·exact jam (jb6 (j2m (c_i (jab rfl (jab rfl (Ad (show 3<=1000 by decide) (jab rfl (Ad (show 2<=1000 by decide) (k (.look fs b) _ ⟨hfs,hf1,hpt⟩ ⟨hrf,λb' hb'=>by cases hb';exact hto⟩ (by omega))))))))))
 dsimp only[jaj];refine jam (jb6 (jb6 (w2_i (of_i (Ad (by decide) ?_)))));dsimp only;refine w2_i (jab rfl (c_i ?_));dsimp only[gI0];refine jb5 (ds:=[.str "take",.str "take",.str "take",.str "read"]) (r:=w - 4) (by omega) (show w - 4 < 4 by omega) λf hf'=>?_;simp only[An,Aw,or_false]at hf';rcases hf' with rfl | rfl | rfl | rfl
 ·exact jab rfl (Ad (show 2<=1000 by decide) (jab rfl (Ad (show 2<=1000 by decide) (k (.take fs) _ ⟨hfs,hf1,hpt⟩ ⟨hrf,λb' hb'=>by cases hb'⟩ (by omega)))))
 ·exact jab rfl (Ad (show 2<=1000 by decide) (jab rfl (Ad (show 2<=1000 by decide) (k (.take fs) _ ⟨hfs,hf1,hpt⟩ ⟨hrf,λb' hb'=>by cases hb'⟩ (by omega)))))
 ·exact jab rfl (Ad (show 2<=1000 by decide) (jab rfl (Ad (show 2<=1000 by decide) (k (.take fs) _ ⟨hfs,hf1,hpt⟩ ⟨hrf,λb' hb'=>by cases hb'⟩ (by omega)))))
 ·exact jab rfl (Ad (show 2<=1000 by decide) (jab rfl (Ad (show 2<=1000 by decide) (k (.read fs) _ ⟨hfs,hf1,hpt⟩ ⟨hrf,λb' hb'=>by cases hb'⟩ (by omega)))))
def jg7:List (List Str):=[[],["n"],["go","n"],["nm"]]
theorem je7 (x:Str):∀hs:List Str,inD (.str x) (hs.map .str)=decide (x∈hs)
 |[]=>rfl
 |y::r=>by
  rw[A7];show(eqF (.str y) (.str x) || inD (.str x) (r.map .str))=_;rw[je7 x r];show(decide (y=x) || decide (x∈r))=_;by_cases e:y=x
  ·subst e;simp
  ·have:¬x=y:=λz=>e z.symm;simp[e,this]
theorem jzx {w:List Str} (h:w∈jg7):w.length<=4/\(∀k∈w,okK k)/\w.Nodup/\upT w:=by
 have key:∀w∈jg7,w.length<=4/\(∀k∈w,letB 4 (.str k)=true/\Ew k=true)/\w.Nodup/\w.Pairwise λa b=>¬b.cps.toList < a.cps.toList:=by decide +kernel
 exact key w h
theorem jv3 {Q:List Ab->Int->Prop} {n:Int} (ss ks:List Str) (k:Q ((ss.map B5).filter λx=>!inD x (ks.map .str)) n) :
  jbm (jad 0) (cT (w2 (wVar 0) (wVar 1) (gInL true))) (wVar 0) Q (ss.map .str) [] [none,some (.w (.ln (ks.map .str)))] n:=by
 refine jb8 (λd=>∃s:Str,d=.str s) (λx=>!inD x (ks.map .str)) id (λd n Q' hd q=>?_) (λd n Q' hd q=>jab rfl q) _ [] none n (λd hd=>?_) ?_
 ·obtain⟨s,rfl⟩:=hd;exact ct_b (k:=!inD (.str s) (ks.map .str)) (λQ q=>w2_i (jab rfl (jab rfl (Ad rfl ⟨jdu ks,q⟩)))) q
 ·obtain⟨s,_,rfl⟩:=Cc.mp hd;exact⟨s,rfl⟩
 ·rw[Cu,De];exact k
theorem jxv (ss ks:List Str):((ss.map B5).filter λx=>!inD x (ks.map .str)).isEmpty=decide (∀k∈ss,k∈ks):=by
 rw[En,List.isEmpty_iff,List.filter_eq_nil_iff,decide_eq_true_iff]
 constructor
 ·intro h k hk;have:=h (.str k) (Cc.mpr ⟨k,hk,rfl⟩);rw[je7]at this;simpa using this
 ·intro h d hd;obtain⟨k,hk,rfl⟩:=Cc.mp hd;rw[je7,decide_eq_true (h k hk)];simp
def jxq (ws:List (List Str)) (ks:List Str):Ab->Bool
 |.int j=>decide (∀k∈ws.getD j.toNat [],k∈ks)
 |_=>false
def jnp (ws:List (List Str)) (ks:List Str):List Nat:=(Bu ws.length).filter λb=>decide (∀k∈ws.getD b [],k∈ks)
theorem jxp (ws:List (List Str)) (ks:List Str):(rngD 0 ws.length).filter (jxq ws ks)=(jnp ws ks).map λb=>.int (b:Nat):=by
 unfold rngD jnp;rw[List.filter_map];have e:(λi:Nat=>PyData.int (0+(i:Int)))=λb=>.int (b:Nat):=funext λi=>by rw[Int.zero_add]
 rw[e];rfl
theorem jv2 {Q:List Ab->Int->Prop} {n:Int} (ws:List (List Str)) (ks:List Str) (k:Q ((jnp ws ks).map λb=>.int (b:Nat)) n) :
  jbm (jad 0) (cT (w2 (wOf (jaq [none,some 1] (ja7 (w2 (wVar 2) (wVar 0) gIxL)) (jad 0) (cT (w2 (wVar 0) (wVar 1) (gInL true))) (wVar 0))) (wOf (fLst aNil)) gEqL)) (wVar 0) Q (rngD 0 ws.length) [] [none,some (.w (.ln (ks.map .str))),some (.w (.d (.list (ws.map jbu))))] n:=by
 refine jb8 (λd=>∃j:Nat,j < ws.length/\d=.int j) (jxq ws ks) id (λd n Q' hd q=>?_) (λd n Q' hd q=>jab rfl q) _ [] none n (λd hd=>?_) ?_
 ·obtain⟨j,hj,rfl⟩:=hd;have hg:(ws.map jbu)[j]?=some (.tuple (ws[j].map .str)):=by rw[Ba,Am hj];rfl
  refine ct_b (k:=jxq ws ks (.int j)) (λQ q=>w2_i (of_i (jcf (ds:=ws[j].map .str) (λQ q=>w2_i (jab rfl (jab rfl ?_))) (jv3 ws[j] ks (jdp ?_))))) q
  ·show(match atI (ws.map jbu) (j:Int)with | some d=>Q (.d d) n | none=>False);rw[jbs hg];exact q
  ·have eo:jxq ws ks (.int j)=((ws[j].map B5).filter λx=>!inD x (ks.map .str)).isEmpty:=by
    rw[jxv];show decide (∀k∈ws.getD (j:Int).toNat [],k∈ks)=_;rw[Bv,List.getD_eq_getElem?_getD,Am hj,Option.getD_some]
   rw[eo]at q;exact q
 ·unfold rngD at hd;obtain⟨j,hj,rfl⟩:=Cc.mp hd;exact⟨j,C3.mp hj,by rw[Int.zero_add]⟩
 ·rw[Cu,De,jxp];exact k
theorem juy {ws w0:List (List Str)} {ks:List Str} (h:ws=[]::w0):0 < (jnp ws ks).length :=
 List.length_pos_of_mem (a:=0) (List.mem_filter.mpr ⟨C3.mpr (by rw[h];simp),by subst h;simp⟩)
theorem j09 {ws:List (List Str)} {ks:List Str} {b:Nat} (h:b∈jnp ws ks):∃w,ws[b]?=some w/\∀k∈w,k∈ks:=by
 obtain⟨h1,h2⟩:=List.mem_filter.mp h;have hj:=C3.mp h1;refine⟨ws[b],Am hj,?_⟩;have:=of_decide_eq_true h2;rw[List.getD_eq_getElem?_getD,Am hj,Option.getD_some]at this;exact this
theorem jui:∀{fs:List Fe} {ks ks':List Str},(∀k∈ks,k∈ks')->rF ks fs->rF ks' fs
 |[],_,_,_,_=>trivial
 |f::r,ks,ks',h,z=>⟨λk hk=>h k (z.1 k hk),jui (λk hk=>(A0.mp hk).elim (λq=>Dk _ (h k q)) λq=>Be _ q) z.2⟩
theorem Ac.right_mono {ws:List (List Str)} {ks ks':List Str} {a:Ac} (h:∀k∈ks,k∈ks') (z:a.right ws ks):a.right ws ks' :=
 ⟨jui h z.1,λb hb=>by obtain⟨w,h1,h2⟩:=z.2 b hb;exact⟨w,h1,λk hk=>h k (h2 k hk)⟩⟩
theorem jxb {ws:List (List Str)} {w ks:List Str} {as:List Ac} {a:Ac} (h:riB ws (w,as)) (hk:∀k∈ks,k∈w++as.flatMap Ac.bs) (ha:a.right ws ks):riB ws (w,as++[a]):=λp b hb=>by
 dsimp only at hb ⊢;by_cases hp:p < as.length
 ·rw[F8 hp]at hb;have:=h p b hb;unfold kn at this ⊢;rw[List.take_append_of_le_length (Nat.le_of_lt hp)];exact this
 ·rw[List.getElem?_append_right (by omega)]at hb;have e0:p - as.length=0:=by
   by_cases e:p - as.length=0
   ·exact e
   ·rw[Fo (by rw[A9];omega)]at hb;cases hb
  rw[e0]at hb;cases hb;have ep:p=as.length:=by omega
  subst ep;refine Ac.right_mono (λk z=>?_) ha;unfold kn;rw[List.take_append_of_le_length (Ar _),List.take_length];exact hk k z
structure ActO (ws:List (List Str)) (want ks:List Str) (acts:List Ac):Prop where
 mem:∀k,k∈ks↔k∈want++acts.flatMap Ac.bs
 ok:∀k∈ks,okK k
 fs:∀a∈acts,okA a
 ri:riB ws (want,acts)
def ActI (ws:List (List Str)) (bl:List Ab) (want:List Str) (nb:Int) (ds:List Ab) (δ:Sl) (n:Int):Prop:=∃(ks:List Str) (acts:List Ac) (x2 x7 x8 x9 x10:Option SV),
 δ=[some (.w .tp),some (.w (.d (.list (ws.map jbu)))),x2,some (.own bl),some (.w (.d (jbu want))),some (.own (ks.map .str)),some (.own (acts.map Ac.d)),x7,x8,x9,x10]/\ActO ws want ks acts/\ks.length+4*ds.length<=40/\acts.length+ds.length<=8/\n+11*(ds.length:Int)<=nb+89
theorem jyr {ws w0:List (List Str)} {bl r:List Ab} {want:List Str} {d:Ab} {ks:List Str} {acts:List Ac} {nb n:Int} {x7 x8 x9 x10:Option SV} {K:DEnds} (hw0:ws=[]::w0) (hwl:ws.length<=6) (hnb:nb+89 < 2 ^ 39) (O:ActO ws want ks acts) (hk:ks.length+4*(r.length+1)<=40) (ha:acts.length+(r.length+1)<=8) (hn:n+11*((r.length:Int)+1)<=nb+89)
  (kN:∀δ n,ActI ws bl want nb r δ n->K.nx δ n) :
  sSeq (sSet 8 (wOf (jaq [none,some 5,some 1] (ja1 (wB jf9 (jaa (wVar 1) aNil))) (jad 0) (cT (w2 (wOf (jaq [none,some 1] (ja7 (w2 (wVar 2) (wVar 0) gIxL)) (jad 0) (cT (w2 (wVar 0) (wVar 1) (gInL true))) (wVar 0))) (wOf (fLst aNil)) gEqL)) (wVar 0)))) (sSeq (sUnp (jac jk8 (jaa (wVar 0) (jaa (jfy 5) (jaa (wVar 8) aNil)))) (jbl 2 (jan (jad 9) (jan (jad 10) jbg)))) (sSeq (sApp 6 (wVar 9)) (sFor (je8 (wVar 10)) (jad 7) (sIf (cT (w2 (wVar 7) (jfy 5) (gInL true))) (sApp 5 (wVar 7)) jaj))))
   [some (.w .tp),some (.w (.d (.list (ws.map jbu)))),some (.w (.d d)),some (.own bl),some (.w (.d (jbu want))),some (.own (ks.map .str)),some (.own (acts.map Ac.d)),x7,x8,x9,x10] n K:=by
 refine jaf (show sSet 8 _ _ _ _ from of_i ?_);unfold jaq ja1;refine b1_i (jab rfl ?_);refine Ad ⟨by omega,by rw[Ai];omega⟩ ?_;rw[Bv,Ai];refine jv2 ws ks ?_;dsimp only[A6];refine jaf ?_;unfold sUnp;have ol:(jnp ws ks).length<=6:=Bw (List.length_filter_le _ _) (by rw[List.length_range];exact hwl);refine c3_i (jab rfl (jnv rfl (jab rfl ?_)));refine Dt ks (Dt (jnp ws ks) (Dt ws ⟨rfl,by omega,O.ok,juy hw0,by omega,λb hb=>j09 hb,by omega,λact n' hfs hri hn'=>?_⟩));refine Ad rfl ?_;dsimp only[jan,jbg,jad,A6];refine jaf (jyp rfl (λQ q=>jab rfl q) (by rw[Ai];omega) ?_);dsimp only[A6];unfold sFor je8;refine jab rfl ?_;dsimp only;have hbs:=j5r hfs.1;refine jbh (λds δ n''=>∃(ks' dn bs':List Str) (x7:Option SV),ds=bs'.map .str/\dn++bs'=act.bs/\(∀k,k∈ks'↔k∈ks++dn)/\n''=n'/\δ=[some (.w .tp),some (.w (.d (.list (ws.map jbu)))),some (.w (.d d)),some (.own bl),some (.w (.d (jbu want))),some (.own (ks'.map .str)),some (.own (acts.map Ac.d++[act.d])),x7,some (.w (.d (.list ((jnp ws ks).map λb=>.int (b:Nat))))),some (.w (.d act.d)),some (.w (.d (.list (act.bs.map .str))))]/\ks'.length+bs'.length<=ks.length+4)
  (λδ n'' I=>?_) (λe r' δ n'' N I kN'=>?_) _ _ _ ⟨ks,[],act.bs,x7,rfl,rfl,λk=>by simp,rfl,rfl,by have:=hbs.2;omega⟩
 ·obtain⟨ks',dn,bs',x7,e,hdn,hm,rfl,rfl,hk'⟩:=I;cases List.map_eq_nil_iff.mp e.symm;rw[B7]at hdn;subst hdn;have hm':∀k,k∈ks'↔k∈want++(acts++[act]).flatMap Ac.bs:=λk=>by
   rw[hm k,A0,O.mem k,List.flatMap_append,<-Bn,A0 (s:=want++acts.flatMap Ac.bs)];simp
  refine kN _ _ ⟨ks',acts++[act],_,_,_,_,_,by rw[Cw];rfl,⟨hm',λk z=>?_,λa z=>?_,jxb O.ri (λk z=>(O.mem k).mp z) hri⟩,by omega,by rw[Ak,A9];omega,by omega⟩
  ·exact(A0.mp ((hm k).mp z)).elim (O.ok k) (hbs.1 k)
  ·rcases A0.mp z with z | z
   ·exact O.fs a z
   ·rw[A2]at z;subst z;exact hfs
 ·obtain⟨ks',dn,bs',x7,e',hdn,hm,rfl,rfl,hk'⟩:=I;obtain⟨s,bs'',rfl,rfl,rfl⟩:=List.map_eq_cons_iff.mp e'.symm;rw[A3]at hk';dsimp only[jad,A6];have hdn':(dn++[s])++bs''=act.bs:=by rw[Bn];exact hdn
  refine if_i (w2_i (jab rfl (jnv rfl (Ad rfl ⟨jdu ks',?_⟩))));refine ifb (λz=>?_) (λz=>?_)
  ·refine jyp rfl (λQ q=>jab rfl q) (by rw[Ai];omega) (kN' _ _ ⟨ks'++[s],dn++[s],bs'',some (.w (.d (.str s))),rfl,hdn',λk=>?_,rfl,?_,by rw[Ak,A9];omega⟩)
   ·rw[A0,hm k,<-Bn,A0 (s:=ks++dn)]
   ·rw[Cw];rfl
  ·have hs:s∈ks':=by
    have z':(!inD (.str s) (ks'.map .str))=false:=z;rw[je7]at z';simpa using z'
   refine kN' _ _ ⟨ks',dn++[s],bs'',some (.w (.d (.str s))),rfl,hdn',λk=>?_,rfl,rfl,by omega⟩;rw[<-Bn,A0 (s:=ks++dn),A2,<-hm k];exact⟨.inl,λq=>q.elim id λe=>e▸hs⟩
def WanI (n0:Int) (ds:List Ab) (δ:Sl) (n:Int):Prop:=∃(more:List (List Str)) (x2:Option SV),δ=[some (.w .tp),some (.own (([]::more).map jbu)),x2,none,none,none,none,none,none,none,none]/\more.length+ds.length<=5/\(∀w∈more,w∈jg7)/\n+(ds.length:Int)<=n0+6
def BlkI (ws:List (List Str)) (n0:Int) (ds:List Ab) (δ:Sl) (n:Int):Prop:=∃(bl:List Bl) (re:List (List Str)) (x2 x4 x5 x6 x7 x8 x9 x10:Option SV),
 δ=[some (.w .tp),some (.w (.d (.list (ws.map jbu)))),x2,some (.own (bl.map blD)),x4,x5,x6,x7,x8,x9,x10]/\ds=re.map jbu/\bl.map (·.1)++re=ws/\(∀b∈bl,okB b/\riB ws b)/\n+90*(ds.length:Int)<=n0+600
theorem jhc:∀ws n Q,jro ws n Q->ws.length=1:=λws n Q h=>by obtain⟨rfl,_⟩:=h;rfl
theorem jyl {ws w0 re:List (List Str)} {bl:List Bl} {want:List Str} {n0 n:Int} {x2 x5 x6 x7 x8 x9 x10:Option SV} {K:DEnds} (hw:∀w∈ws,w∈jg7) (hw0:ws=[]::w0) (hwl:ws.length<=6) (hn0:n0+600 < 2 ^ 39) (hb:bl.map (·.1)++want::re=ws) (hbo:∀b∈bl,okB b/\riB ws b) (hn:n+90*((re.length:Int)+1)<=n0+600)
  (kN:∀δ n,BlkI ws n0 (re.map jbu) δ n->K.nx δ n) :
  sSeq (sOwn 5 (jgb (wVar 4))) (sSeq (sOwn 6 (fLst aNil)) (sSeq (sFor (ja1 (w2 (wOf (fLst (jaa (wC (.int (2))) (jaa (wC (.int (3))) (jaa (wC (.int (1))) (jaa (wC (.int (4))) (jaa (wC (.int (2))) (jaa (wC (.int (0))) (jaa (wC (.int (3))) (jaa (wC (.int (8))) aNil)))))))))) (jac jat (jaa (wVar 0) (jaa (wC (.int (8))) aNil))) gIxL)) (jad 2) (sSeq (sSet 8 (wOf (jaq [none,some 5,some 1] (ja1 (wB jf9 (jaa (wVar 1) aNil))) (jad 0) (cT (w2 (wOf (jaq [none,some 1] (ja7 (w2 (wVar 2) (wVar 0) gIxL)) (jad 0) (cT (w2 (wVar 0) (wVar 1) (gInL true))) (wVar 0))) (wOf (fLst aNil)) gEqL)) (wVar 0)))) (sSeq (sUnp (jac jk8 (jaa (wVar 0) (jaa (jfy 5) (jaa (wVar 8) aNil)))) (jbl 2 (jan (jad 9) (jan (jad 10) jbg)))) (sSeq (sApp 6 (wVar 9)) (sFor (je8 (wVar 10)) (jad 7) (sIf (cT (w2 (wVar 7) (jfy 5) (gInL true))) (sApp 5 (wVar 7)) jaj)))))) (sFrz 6 (sApp 3 (wTup (jaa (wVar 4) (jaa (wB jce (jaa (wVar 6) aNil)) aNil)))))))
   [some (.w .tp),some (.w (.d (.list (ws.map jbu)))),x2,some (.own (bl.map blD)),some (.w (.d (jbu want))),x5,x6,x7,x8,x9,x10] n K:=by
 obtain⟨hss,hso,hnd,hup⟩:=jzx (hw want (by rw[<-hb];exact Be _ A5));have hbl:bl.length+(re.length+1)<=6:=by rw[<-hb,Ak,Ai,A3]at hwl;exact hwl
 refine jaf (jy9 (ds:=want.map .str) rfl ?_);dsimp only[A6];refine jaf (jf3 ?_);dsimp only[A6];refine jaf (jy4 (L:=[.int 2,.int 3,.int 1,.int 4,.int 2,.int 0,.int 3,.int 8]) (M:=8) rfl (λQ q=>of_i (Ad (by decide) q)) (by omega) rfl (by decide) (by decide) (λd hd=>?_) (by decide) λj hj=>?_)
 ·simp only[An,Aw,or_false]at hd;rcases hd with rfl | rfl | rfl | rfl | rfl | rfl | rfl | rfl
  ·exact⟨2,by decide,rfl⟩
  ·exact⟨3,by decide,rfl⟩
  ·exact⟨1,by decide,rfl⟩
  ·exact⟨4,by decide,rfl⟩
  ·exact⟨2,by decide,rfl⟩
  ·exact⟨0,by decide,rfl⟩
  ·exact⟨3,by decide,rfl⟩
  ·exact⟨8,by decide,rfl⟩
 refine jbh (ActI ws (bl.map blD) want n) (λδ n' I=>?_) (λd r' δ n' N I kN'=>?_) _ _ _ ⟨want,[],_,_,_,_,_,rfl,⟨λk=>by simp,hso,λa ha=>by simp at ha,λp a ha=>by simp at ha⟩,by rw[jbj];omega,by rw[jbj];simpa using hj,by rw[jbj];omega⟩
 ·obtain⟨ks,acts,y2,y7,y8,y9,y10,rfl,O,_,ha,hn'⟩:=I;dsimp only;refine jga rfl ?_;dsimp only[A6];refine jmp rfl (jb6 (jab rfl (b1_i (jab rfl (jhu ?_)))));have ha':acts.length<=8:=by simpa using ha
  refine Ad (show 2<=1000 by decide) (Ad (by rw[Ai];omega) (kN _ _ ⟨bl++[(want,acts)],re,_,_,_,_,_,_,_,_,by rw[Cw];rfl,rfl,by rw[Cw,Bn];exact hb,λb z=>?_,?_⟩))
  ·rcases A0.mp z with z | z
   ·exact hbo b z
   ·rw[A2]at z;subst z;exact⟨⟨hss,hso,ha',O.fs,hnd,hup⟩,O.ri⟩
  ·have h0:n'<=n+89:=by simpa using hn'
   rw[Ai];omega
 ·obtain⟨ks,acts,y2,y7,y8,y9,y10,rfl,O,hk,ha,hn'⟩:=I;rw[A3]at hk ha hn';dsimp only[jad,A6];exact jyr hw0 hwl (by omega) O hk ha (by omega) kN'
theorem jge:∀ws n Q,jro ws n Q->jet (jah ["_law_tape_here","_law_wants","_law_k","_law_blocks","_law_want","_law_known","_law_acts","_law_name","_law_open_ones","_law_act_here","_law_bound"] ws) n {nx:=λ_ n=>Q (.d .none) n,rt:=Q}:=λws n0 Q h=>by
 obtain⟨rfl,hn0,k⟩:=h;show jet [some (.w .tp),none,none,none,none,none,none,none,none,none,none] n0 _;refine jaf (show sOwn 1 _ _ _ _ from Ad (Bj _) (Ad (by decide) ?_));dsimp only[A6];refine jaf (jy4 (L:=[.int 0,.int 1,.int 2,.int 1,.int 0,.int 2,.int 5]) (M:=5) rfl (λQ q=>of_i (Ad (by decide) q)) (by omega) rfl (by decide) (by decide) (λd hd=>?_) (by decide) λj hj=>?_)
 ·simp only[An,Aw,or_false]at hd;rcases hd with rfl | rfl | rfl | rfl | rfl | rfl | rfl
  ·exact⟨0,by decide,rfl⟩
  ·exact⟨1,by decide,rfl⟩
  ·exact⟨2,by decide,rfl⟩
  ·exact⟨1,by decide,rfl⟩
  ·exact⟨0,by decide,rfl⟩
  ·exact⟨2,by decide,rfl⟩
  ·exact⟨5,by decide,rfl⟩
 refine jbh (WanI n0) (λδ n I=>?_) (λd r δ n N I kN=>?_) _ _ _ ⟨[],none,rfl,by rw[jbj];simpa using hj,λd hd=>by simp at hd,by rw[jbj];omega⟩
 ·obtain⟨more,x2,rfl,hl,hm,hn⟩:=I;dsimp only;refine jaf (jf3 ?_);dsimp only[A6];refine jga rfl ?_;dsimp only[A6];refine jaf ?_;unfold sFor je8;refine jab rfl ?_;dsimp only;have hw:∀w∈([]:List Str)::more,w∈jg7:=λd hd=>by
   rcases An.mp hd with rfl | z
   ·simp[jg7]
   ·exact hm d z
  have hwl:(([]:List Str)::more).length<=6:=by rw[A3];simp at hl;omega
  refine jbh (BlkI ([]::more) n0) (λδ n' I=>?_) (λd r δ n' N I kN=>?_) _ _ _ ⟨[],[]::more,_,_,_,_,_,_,_,_,rfl,rfl,rfl,λb hb=>by simp at hb,?_⟩
  ·obtain⟨bl,re,y2,y4,y5,y6,y7,y8,y9,y10,rfl,er,hb,hbo,hn'⟩:=I;cases List.map_eq_nil_iff.mp er.symm;rw[B7]at hb;dsimp only;refine jga rfl ?_;dsimp only[A6];refine jam (b1_i (jab rfl (jhu (k bl n' ⟨by have:=congrArg List.length hb;simp at this;omega,?_,λb z=>⟨(hbo b z).1,by rw[hb];exact(hbo b z).2⟩⟩ ⟨more,hb⟩ (by simpa using hn')))));rw[<-hb,Ai]at hwl;exact hwl
  ·obtain⟨bl,re,y2,y4,y5,y6,y7,y8,y9,y10,rfl,er,hb,hbo,hn'⟩:=I;obtain⟨want,re,rfl,rfl,rfl⟩:=List.map_eq_cons_iff.mp er.symm;rw[A3,Ai]at hn';dsimp only[jad,A6];exact jyl hw rfl hwl hn0 hb hbo (by omega) kN
  ·have h1:n<=n0+6:=by simpa using hn
   have h2:(((([]:List Str)::more).map jbu).length:Int)<=6:=by rw[Ai];omega
   omega
 ·obtain⟨more,x2,rfl,hl,hm,hn⟩:=I;rw[A3]at hl hn;dsimp only[jad,A6];refine jmp rfl (w2_i (of_i (Ad (by decide) (Ad (by decide) (Ad (by decide) (Ad (by decide) (Ad (by decide) (Ad (by decide) ?_))))))));dsimp only;refine jdw (m:=5) rfl (by omega) (by decide) (by decide) λq q0 q1=>jb5 (ds:=[jbu [],jbu ["n"],jbu ["go","n"],jbu ["nm"],jbu []]) q0 q1 λw hw=>?_;have:∃v∈jg7,w=jbu v:=by
   simp only[An,Aw,or_false]at hw;rcases hw with rfl | rfl | rfl | rfl | rfl
   ·exact⟨[],by simp[jg7],rfl⟩
   ·exact⟨["n"],by simp[jg7],rfl⟩
   ·exact⟨["go","n"],by simp[jg7],rfl⟩
   ·exact⟨["nm"],by simp[jg7],rfl⟩
   ·exact⟨[],by simp[jg7],rfl⟩
  obtain⟨v,hv,rfl⟩:=this;refine Ad (by rw[Ai,A3];omega) (kN _ _ ⟨more++[v],some (.w (.d d)),?_,by rw[Ak,A9];omega,λe he=>?_,by omega⟩)
  ·rw[show([]::(more++[v]):List (List Str))=([]::more)++[v]from rfl,Cw];rfl
  rcases A0.mp he with z | z
  ·exact hm e z
  ·rw[A2]at z;subst z;exact hv
theorem jzg {α:Type} {f:α->Ab} {P:α->Prop}:∀{ds:List Ab},(∀d∈ds,∃x,P x/\d=f x)->∃xs:List α,ds=xs.map f/\∀x∈xs,P x
 |[],_=>⟨[],rfl,λx hx=>by simp at hx⟩
 |d::r,h=>by
  obtain⟨x,hx,rfl⟩:=h d A5;obtain⟨xs,rfl,hxs⟩:=jzg λe he=>h e (A1 _ he);exact⟨x::xs,rfl,λy hy=>(An.mp hy).elim (λe=>e▸hx) (hxs y)⟩
theorem jj4:∀ws n Q,jjc ws n Q->ws.length=2:=λws n Q h=>by obtain⟨_,rfl,_⟩:=h;rfl
def NotI (m:Nat) (n0:Int) (ds:List Ab) (δ:Sl) (n:Int):Prop:=∃(ns:List Nt) (x y:Option SV),δ=[some (.w .tp),some (.w (.d (.int m))),some (.own (ns.map ntD)),x,y]/\ns.length+ds.length<=m/\(∀q∈ns,okQ q)/\n+6*(ds.length:Int)<=n0+100
theorem jiv:∀ws n Q,jjc ws n Q->jg1 (jah ["_law_tape_here","_law_most","_law_found","_law_k","_law_row"] ws) n {nx:=λ_ n=>Q (.d .none) n,rt:=Q}:=λws n0 Q h=>by
 obtain⟨m,rfl,hm,hn0,k⟩:=h;show jg1 [some (.w .tp),some (.w (.d (.int m))),none,none,none] n0 _;refine jaf (jf3 ?_);dsimp only[A6];refine jaf ?_;unfold sFor ja1;refine jdv (m:=(m:Int)+1) rfl (λQ q=>w2_i (jab rfl (c_i q))) (by omega) (by omega) (by omega) λr r0 r1=>?_;refine Ad ⟨by omega,by omega⟩ ?_;have hr:r.toNat<=m:=by omega
 refine jbh (NotI m n0) (λδ n I=>?_) (λd r' δ n N I kN=>?_) _ _ _ ⟨[],none,none,rfl,by rw[jbj];simpa using hr,λd hd=>by simp at hd,by rw[jbj];omega⟩
 ·obtain⟨ns,x,y,rfl,hl,hns,hn⟩:=I;dsimp only;refine jga rfl ?_;dsimp only[A6];exact jam (b1_i (jab rfl (jhu (k ns n ⟨by simpa using hl,hns⟩ (by simpa using hn)))))
 ·obtain⟨ns,x,y,rfl,hl,hns,hn⟩:=I;rw[A3]at hl hn;dsimp only[jad,A6];refine jaf (show sSet 4 _ _ _ _ from b1_i (of_i ?_));unfold jaq;dsimp only;refine c1_i (jab rfl (Ad rfl ⟨by omega,λs s1 s4=>?_⟩));refine Ad ⟨by omega,by omega⟩ ?_;rw[Bv];refine jgc (λv=>isV v=true) 1 (λd n Q' hn q=>c1_i (jab rfl (Ad rfl ⟨by omega,λv hv=>q v _ (jqt hv) (by omega)⟩))) _ [] none _ (by rw[jbj];omega) λrow n' hrl hrow hn'=>?_;rw[jbj]at hrl hn';rw[Cu];refine jhu ?_;dsimp only[A6];refine jmp rfl (jb6 (jab rfl (j5l rfl (by omega) λv hv=>?_)));refine Ad (show 2<=1000 by decide) (Ad (by rw[Ai];omega) (kN _ _ ⟨ns++[(row,v)],_,_,by rw[Cw];rfl,by rw[Ak,A9];omega,λe he=>?_,by omega⟩));rcases A0.mp he with z | z
  ·exact hns e z
  ·rw[A2]at z;subst z;exact⟨⟨⟨by show row.length<=4;omega,by show 1<=row.length;omega⟩,hrow⟩,jzw hv⟩
theorem jl4:∀ws n Q,jrp ws n Q->ws.length=1:=λws n Q h=>by obtain⟨rfl,_⟩:=h;rfl
theorem jkh:∀ws n Q,jrp ws n Q->ji6 (jah ["_law_tape_here","_law_programs"] ws) n {nx:=λ_ n=>Q (.d .none) n,rt:=Q}:=λws n0 Q h=>by
 obtain⟨rfl,hn0,k⟩:=h;show ji6 [some (.w .tp),none] n0 _;refine jaf (show sOwn 1 _ _ _ _ from ?_);unfold sOwn jaq ja1;refine w2_i (of_i (Ad (by decide) ?_));dsimp only;refine jdw (m:=8) rfl (by omega) (by decide) (by decide) λq q0 q1=>jb5 (ds:=[.int 2,.int 1,.int 2,.int 3,.int 2,.int 1,.int 0,.int 5]) q0 q1 λd hd=>?_;have hj:∃j:Nat,j<=5/\d=.int j:=by
  simp only[An,Aw,or_false]at hd;rcases hd with rfl | rfl | rfl | rfl | rfl | rfl | rfl | rfl
  ·exact⟨2,by decide,rfl⟩
  ·exact⟨1,by decide,rfl⟩
  ·exact⟨2,by decide,rfl⟩
  ·exact⟨3,by decide,rfl⟩
  ·exact⟨2,by decide,rfl⟩
  ·exact⟨1,by decide,rfl⟩
  ·exact⟨0,by decide,rfl⟩
  ·exact⟨5,by decide,rfl⟩
 obtain⟨j,hj,rfl⟩:=hj;refine Ad ⟨by omega,by omega⟩ ?_;rw[Bv];refine jgc (λd=>∃P,(okG P/\fst0 P)/\d=prD P) 600 (λd n Q' hn q=>c1_i (jab rfl (Ad rfl ⟨by omega,λP n' hP hP' hn'=>q (prD P) n' ⟨P,⟨hP,hP'⟩,rfl⟩ (by omega)⟩))) _ [] none _ (by rw[jbj];omega) λds n1 hpl hps0 hn1=>?_;rw[jbj]at hpl hn1;rw[Cu];obtain⟨ps,rfl,hps⟩:=jzg hps0;clear hps0;rw[Ai]at hpl;dsimp only[A6];have rest:∀(ps':Pg) (n2:Int),ps'.length<=5->(∀P∈ps',okG P/\fst0 P)->n2<=n1+1->sFrz 1 (sRet (wTup (jaa (wB jce (jaa (wVar 1) aNil)) (jaa (jac jjc (jaa (wVar 0) (jaa (w2 (wOf (fLst (jaa (wC (.int (4))) (jaa (wC (.int (3))) (jaa (wC (.int (6))) (jaa (wC (.int (12))) aNil)))))) (jac jat (jaa (wVar 0) (jaa (wC (.int (4))) aNil))) gIxL) aNil))) aNil)))) [some (.w .tp),some (.own (ps'.map prD))] n2 {nx:=λ_ n=>Q (.d .none) n,rt:=Q}:=λps' n2 hl' hp' hn2=>by
  refine jga rfl ?_;dsimp only[A6];refine jam (jb6 (b1_i (jab rfl (jhu (c2_i (jab rfl (w2_i (of_i (Ad (by decide) ?_)))))))));dsimp only;refine jdw (m:=4) rfl (by omega) (by decide) (by decide) λr r0 r1=>jb5 (ds:=[.int 4,.int 3,.int 6,.int 12]) r0 r1 λd hd=>?_;have hm:∃m:Nat,m<=12/\d=.int m:=by
   simp only[An,Aw,or_false]at hd;rcases hd with rfl | rfl | rfl | rfl
   ·exact⟨4,by decide,rfl⟩
   ·exact⟨3,by decide,rfl⟩
   ·exact⟨6,by decide,rfl⟩
   ·exact⟨12,by decide,rfl⟩
  obtain⟨m,hm,rfl⟩:=hm;exact Dt m ⟨rfl,hm,by omega,λns n' hns hn'=>Ad (show 2<=1000 by decide) (k ps' _ n' ⟨hl',λP hP=>(hp' P hP).1⟩ (λP hP=>(hp' P hP).2) ⟨Bw hns.1 hm,hns.2⟩ (by omega))⟩
 refine jaf (if_i ?_);refine(show cT _ _ _ _ from w2_i (b1_i (jnv rfl (j4d (c_i (eqLi ?_))))));rw[Ai];show if decide ((ps.length:Int)=2)=true then _ else _
 by_cases h2:(ps.length:Int)=2
 ·rw[if_pos (decide_eq_true h2)];refine w2_i (jdw (m:=4) rfl (by omega) (by decide) (by decide) λq q0 q1=>c_i (eqLi ?_));show if decide (q=0)=true then _ else _
  by_cases hq:q=0
  ·rw[if_pos (decide_eq_true hq)];have hl2:ps.length=2:=by omega
   obtain⟨P,P',rfl⟩:∃P P',ps=[P,P']:=by
    match ps,hl2 with
    |[P,P'],_=>exact⟨P,P',rfl⟩
   refine(show sPut 1 _ _ _ _ _ from w2_i (jnv rfl (c_i ?_)));refine(show gIxL (.ln [prD P,prD P']) (.d (.int 0)) _ _ from ?_);refine rest [P,P] _ (show 2<=5 by decide) (λR hR=>?_) (by omega);simp only[An,Aw,or_false,or_self]at hR;subst hR;exact hps _ A5
  ·rw[if_neg (by simpa using hq)];exact rest ps _ (by omega) hps (by omega)
 ·rw[if_neg (by simpa using h2)];exact rest ps _ (by omega) hps (by omega)
theorem jpy {k:Str} (h:okK k):k.length<=4:=by
 have:=j1n h.1;omega
theorem jvi:∀ws n Q,jd6 ws n Q->ws.length=1:=λws n Q h=>by obtain⟨_,rfl,_⟩:=h;rfl
theorem jsz:∀ws n Q,jd6 ws n Q->j2h (jah ["pattern"] ws) n {nx:=λ_ n=>Q (.d .none) n,rt:=Q}:=λws n Q h=>by
 obtain⟨fs,rfl,ok,k⟩:=h;refine jst fs n ?_;exact⟨bndE fs,.inl rfl,F5 (jve ok) (by decide),λx hx=>Bw (jpy (ju8 ok x hx)) (by decide),λys a b c=>k ys (Bw (jia a λz hz=>(b z).mp hz) (jve ok)) b⟩
theorem jnw:∀ws n Q,jyt ws n Q->ws.length=3:=λws n Q h=>by obtain⟨_,_,_,_,rfl,_⟩:=h;rfl
theorem jmf:∀ws n Q,jyt ws n Q->jk1 (jah ["program","block","place","wanted","acts","known","act"] ws) n {nx:=λ_ n=>Q (.d .none) n,rt:=Q}:=λws n Q h=>by
 obtain⟨bs,i,p,⟨w,as⟩,rfl,hi,⟨hb1,hb2,hb3,hb4⟩,hp,k⟩:=h;dsimp only at hb1 hb2 hb3 hb4 hp k;have hi':(bs.map blD)[i]?=some (blD (w,as)):=by rw[Ba,hi];rfl
 show jk1 [some (.w (.d (.tuple (bs.map blD)))),some (.w (.d (.int i))),some (.w (.d (.int p))),none,none,none,none] n _;refine jaf (jdn (x:=.tuple (w.map .str)) (λQ q=>w2_i (w2_i (jab rfl (jab rfl (gN_i hi' (c_i (g0_i q))))))) ?_);dsimp only[A6];refine jaf (jdn (x:=.tuple (as.map Ac.d)) (λQ q=>w2_i (w2_i (jab rfl (jab rfl (gN_i hi' (c_i (g1_i q))))))) ?_);dsimp only[A6];refine jaf (jy9 rfl ?_);dsimp only[A6];refine jaf ?_;unfold sFor ja7 jak;refine jab rfl ?_;dsimp only[ja6,jar];refine jab rfl ?_;dsimp only;rw[jzp _ (by rw[Ai];exact hp),<-List.map_take];refine jbh (λds δ n'=>∃(dn re:List Ac) (L:List Str) (x:Option SV),ds=re.map Ac.d/\dn++re=as.take p/\n'=n/\δ=[some (.w (.d (.tuple (bs.map blD)))),some (.w (.d (.int i))),some (.w (.d (.int p))),some (.w (.d (.tuple (w.map .str)))),some (.w (.d (.tuple (as.map Ac.d)))),some (.own (L.map .str)),x]/\KnI w dn L) (λδ n' I=>?_) (λd r δ n' N I kN=>?_) _ _ _
  ⟨[],as.take p,w,none,rfl,rfl,rfl,rfl,KnI.first hb1 hb2⟩
 ·obtain⟨dn,re,L,x,e,hdn,rfl,rfl,I⟩:=I;cases List.map_eq_nil_iff.mp e.symm;rw[B7]at hdn;subst hdn;dsimp only;refine jga rfl ?_;dsimp only[A6];have hl:(as.take p).length<=8:=Bw (List.length_take_le _ _) (by omega);have hI:=I.len;refine jam (b1_i (of_i (show jei _ _ _ _ from jab rfl ?_)));exact Dt L ⟨.inl rfl,by omega,λx hx=>Bw (jpy (I.ok x hx)) (by decide),λys a b c=>k ys (Bw (jia a λz hz=>(b z).mp hz) (by omega)) λz=>(b z).trans (I.mem z)⟩
 ·obtain⟨dn,re,L,x,e,hdn,rfl,rfl,I⟩:=I;obtain⟨a,re,rfl,rfl,rfl⟩:=List.map_eq_cons_iff.mp e.symm;dsimp only[jad,A6];have ha:okFs a.fs:=(hb4 a (List.mem_of_mem_take (i:=p) (by rw[<-hdn];exact Be _ A5))).1;have hlen:L.length<=36:=by
   have h1:dn.length+(re.length+1)=(as.take p).length:=by rw[<-hdn,Ak,A3]
   have h3:=I.len;have h4:(as.take p).length<=as.length:=List.length_take_le' _ _;omega
  have hdn':(dn++[a])++re=as.take p:=by rw[Bn];exact hdn
  have nxt:∀L',KnI w (dn++[a]) L'->N [some (.w (.d (.tuple (bs.map blD)))),some (.w (.d (.int i))),some (.w (.d (.int p))),some (.w (.d (.tuple (w.map .str)))),some (.w (.d (.tuple (as.map Ac.d)))),some (.own (L'.map .str)),some (.w (.d a.d))] n':=λL' I'=>kN _ _ ⟨dn++[a],re,L',_,rfl,hdn',rfl,rfl,I'⟩;have get:∀(K:DEnds) (hK:∀δ n,N δ n->K.nx δ n) (s:Str) (fs:List Fe) (r:List Ab),a.d=.tuple (.str s::fsD fs::r)->inD (.str s) ((Zc:List Str).map .str)=true->a.bs=bndE fs->a.fs=fs->sIf (cT (wInG Zc (w2 (wVar 6) (wC (.int (0))) gIx))) (jsc 5 (jac jd6 (jaa (w2 (wVar 6) (wC (.int (1))) gIx) aNil))) jaj
    [some (.w (.d (.tuple (bs.map blD)))),some (.w (.d (.int i))),some (.w (.d (.int p))),some (.w (.d (.tuple (w.map .str)))),some (.w (.d (.tuple (as.map Ac.d)))),some (.own (L.map .str)),some (.w (.d a.d))] n' K:=λK hK s fs r e1 e2 e3 e4=>by
   rw[e1]at nxt ⊢;refine if_y (λQ q=>j1q (s:=s) (λQ q=>jj5 rfl q) e2 q) ?_;refine(show jsc 5 _ _ _ _ from c1_i (jfk rfl (Dt fs ⟨rfl,e4▸ha,λys hl hys=>Ad ⟨by rw[Ai];omega,by rw[Ai];omega⟩ ?_⟩)));have:=nxt (L++ys) (I.more (λk=>by rw[e3];exact hys k) hl ha);rw[Cw]at this;exact hK _ _ this
  have skip:∀(K:DEnds) (hK:∀δ n,N δ n->K.nx δ n) (s:Str) (r:List Ab),a.d=.tuple (.str s::r)->inD (.str s) ((Zc:List Str).map .str)=false->a.bs=[]->sIf (cT (wInG Zc (w2 (wVar 6) (wC (.int (0))) gIx))) (jsc 5 (jac jd6 (jaa (w2 (wVar 6) (wC (.int (1))) gIx) aNil))) jaj
    [some (.w (.d (.tuple (bs.map blD)))),some (.w (.d (.int i))),some (.w (.d (.int p))),some (.w (.d (.tuple (w.map .str)))),some (.w (.d (.tuple (as.map Ac.d)))),some (.own (L.map .str)),some (.w (.d a.d))] n' K:=λK hK s r e1 e2 e3=>by
   rw[e1]at nxt ⊢;refine if_n (λQ q=>j1q (s:=s) (λQ q=>jj5 rfl q) e2 q) (hK _ _ (nxt L (I.skip e3)))
  cases a with
  |lay fs age=>exact skip _ (λ_ _ z=>z) "lay" [fsD fs,age] rfl (by decide +kernel) rfl
  |take fs=>exact get _ (λ_ _ z=>z) "take" fs [] rfl (by decide +kernel) rfl rfl
  |read fs=>exact get _ (λ_ _ z=>z) "read" fs [] rfl (by decide +kernel) rfl rfl
  |look fs b=>exact get _ (λ_ _ z=>z) "look" fs [.int b] rfl (by decide +kernel) rfl rfl
  |same f g b=>exact skip _ (λ_ _ z=>z) "same" [f.d,g.d,.int b] rfl (by decide +kernel) rfl
  |go b=>exact skip _ (λ_ _ z=>z) "go" [.int b] rfl (by decide +kernel) rfl
theorem jwp {u:DTT} {v w:DT} {δ:Sl} {n:Int} {Q:DQ} {b:Bool} (hu:∀Q:Bool->Int->Prop,Q b n->u δ n Q) (k:if b=true then v δ n Q else w δ n Q):wIf u v w δ n Q:=hu _ k
theorem addI {i j n:Int} {Q:DQ} (k:Q (.d (.int (i+j))) n):gI0 (λi j=>.int (i+j)) (.d (.int i)) (.d (.int j)) n Q:=k
theorem jzj {δ:Sl} {n:Int} {i:Nat} {a:Ab} {r:List Ab} {h:Str} (e:δ[i]?=some (some (.w (.d (.tuple (a::r)))))):∀Q:Bool->Int->Prop,Q (ja9 h a) n->cT (w2 (w2 (wVar i) (wC (.int 0)) gIx) (wC (.str h)) gEq) δ n Q:=λQ q=>ct_b (k:=ja9 h a) (λQ q=>j45 e q) q
def Ac.hd:Ac->Str
 |.lay _ _=>"lay"
 |.take _=>"take"
 |.read _=>"read"
 |.look _ _=>"look"
 |.same _ _ _=>"same"
 |.go _=>"go"
def Ac.tl:Ac->List Ab
 |.lay fs age=>[fsD fs,age]
 |.take fs=>[fsD fs]
 |.read fs=>[fsD fs]
 |.look fs b=>[fsD fs,.int b]
 |.same f g b=>[f.d,g.d,.int b]
 |.go b=>[.int b]
theorem ac_d (a:Ac):a.d=.tuple (.str a.hd::a.tl):=by cases a<;>rfl
def Ac.isSame:Ac->Bool
 |.same _ _ _=>true
 |_=>false
def Ac.isGo:Ac->Bool
 |.go _=>true
 |_=>false
theorem j0q (a:Ac):ja9 "same" (.str a.hd)=a.isSame:=by
 cases a with
 |lay _ _=>exact(show ja9 "same" (.str "lay")=false by decide +kernel)
 |take _=>exact(show ja9 "same" (.str "take")=false by decide +kernel)
 |read _=>exact(show ja9 "same" (.str "read")=false by decide +kernel)
 |look _ _=>exact(show ja9 "same" (.str "look")=false by decide +kernel)
 |same _ _ _=>exact(show ja9 "same" (.str "same")=true by decide +kernel)
 |go _=>exact(show ja9 "same" (.str "go")=false by decide +kernel)
theorem j64 (a:Ac):ja9 "go" (.str a.hd)=a.isGo:=by
 cases a with
 |lay _ _=>exact(show ja9 "go" (.str "lay")=false by decide +kernel)
 |take _=>exact(show ja9 "go" (.str "take")=false by decide +kernel)
 |read _=>exact(show ja9 "go" (.str "read")=false by decide +kernel)
 |look _ _=>exact(show ja9 "go" (.str "look")=false by decide +kernel)
 |same _ _ _=>exact(show ja9 "go" (.str "same")=false by decide +kernel)
 |go _=>exact(show ja9 "go" (.str "go")=true by decide +kernel)
theorem j59 (a:Ac):inD (.str a.hd) [.str "look",.str "same",.str "go"]=a.to.isSome:=by
 cases a with
 |lay _ _=>exact(show inD (.str "lay") [.str "look",.str "same",.str "go"]=false by decide +kernel)
 |take _=>exact(show inD (.str "take") [.str "look",.str "same",.str "go"]=false by decide +kernel)
 |read _=>exact(show inD (.str "read") [.str "look",.str "same",.str "go"]=false by decide +kernel)
 |look _ _=>exact(show inD (.str "look") [.str "look",.str "same",.str "go"]=true by decide +kernel)
 |same _ _ _=>exact(show inD (.str "same") [.str "look",.str "same",.str "go"]=true by decide +kernel)
 |go _=>exact(show inD (.str "go") [.str "look",.str "same",.str "go"]=true by decide +kernel)
theorem jl1:∀ws n Q,jyu ws n Q->ws.length=1:=λws n Q h=>by obtain⟨_,rfl,_⟩:=h;rfl
theorem jke:∀ws n Q,jyu ws n Q->jfe (jah ["act"] ws) n {nx:=λ_ n=>Q (.d .none) n,rt:=Q}:=λws n Q h=>by
 obtain⟨a,rfl,q⟩:=h;show jfe [some (.w (.d a.d))] n _;have hs:∀(b:Bool),a.isSame=b->∀Q:Bool->Int->Prop,Q b n->cT (w2 (w2 (wVar 0) (wC (.int 0)) gIx) (wC (.str "same")) gEq) [some (.w (.d a.d))] n Q:=λb e Q q=>by
  rw[ac_d];exact jzj rfl Q (by rw[j0q,e];exact q)
 have hg:∀(b:Bool),a.isGo=b->∀Q:Bool->Int->Prop,Q b n->cT (w2 (w2 (wVar 0) (wC (.int 0)) gIx) (wC (.str "go")) gEq) [some (.w (.d a.d))] n Q:=λb e Q q=>by
  rw[ac_d];exact jzj rfl Q (by rw[j64,e];exact q)
 have other:a.isSame=false->a.isGo=false->(∀Q:DQ,Q (.d (fsD a.fs)) n->w2 (wVar 0) (wC (.int (1))) gIx [some (.w (.d a.d))] n Q)->jfe [some (.w (.d a.d))] n {nx:=λ_ n=>Q (.d .none) n,rt:=Q}:=λh1 h2 h3=>by
  refine jaf (if_n (hs false h1) ?_);dsimp only[jaj];refine jam (jwp (hg false h2) ?_);rw[if_neg Al];exact h3 _ q
 cases a with
 |lay fs age=>exact other rfl rfl λQ q=>jfk rfl q
 |take fs=>exact other rfl rfl λQ q=>jfk rfl q
 |read fs=>exact other rfl rfl λQ q=>jfk rfl q
 |look fs b=>exact other rfl rfl λQ q=>jfk rfl q
 |same f g b =>
  refine jaf (if_y (hs true rfl) (jam ?_));unfold jak jar;exact jab rfl (c_i (c_i q))
 |go b =>
  refine jaf (if_n (hs false rfl) ?_);dsimp only[jaj];refine jam (jwp (hg true rfl) ?_);rw[if_pos rfl];exact(show wTup aNil _ _ _ from Ad (by decide) q)
theorem jyj (dn:List Fe) (f:Fe):bndE (dn++[f])=bndE dn++f.bd.toList:=by
 unfold bndE;rw[List.filterMap_append];have:[f].filterMap Fe.bd=f.bd.toList:=by cases f<;>rfl
 rw[this]
theorem jyx (ks:List Str):∀(fs dn:List Fe),(unkN ks dn fs).isNone=rfB (ks++bndE dn) fs
 |[],_=>rfl
 |f::r,dn=>by
  have ih:=jyx ks r (dn++[f]);rw[jyj,<-Bn]at ih;show(match f.us with | some k=>if k∈ks\/k∈bndE dn then unkN ks (dn++[f]) r else some dn.length | none=>unkN ks (dn++[f]) r).isNone=((match f.us with | some k=>decide (k∈ks++bndE dn) | none=>true)&&rfB (ks++bndE dn++f.bd.toList) r);cases f.us with
  |none=>exact ih
  |some k =>
   show(if k∈ks\/k∈bndE dn then unkN ks (dn++[f]) r else some dn.length).isNone=(decide (k∈ks++bndE dn)&&rfB (ks++bndE dn++f.bd.toList) r);by_cases h:k∈ks\/k∈bndE dn
   ·rw[if_pos h,decide_eq_true (A0.mpr h),B6];exact ih
   ·rw[if_neg h,decide_eq_false (λz=>h (A0.mp z))];rfl
theorem jf5:∀ws n Q,jys ws n Q->ws.length=2:=λws n Q h=>by obtain⟨_,_,rfl,_⟩:=h;rfl
theorem jfp:∀ws n Q,jys ws n Q->jd2 (jah ["fields","known","k","field"] ws) n {nx:=λ_ n=>Q (.d .none) n,rt:=Q}:=λws n Q h=>by
 obtain⟨fs,ks,rfl,ok,q⟩:=h;show jd2 [some (.w (.d (.tuple (fs.map Fe.d)))),some (.w (.d (.tuple (ks.map .str)))),none,none] n _;refine jaf ?_;unfold sFor jvq;refine jab rfl ⟨fs.map Fe.d,rfl,?_⟩;refine jbh (λds δ m=>m=n/\∃(dn re:List Fe) (x y:Option SV),dn++re=fs/\ds=jj9 dn.length (re.map Fe.d)/\δ=[some (.w (.d (.tuple (fs.map Fe.d)))),some (.w (.d (.tuple (ks.map .str)))),x,y]/\Q (.d (natO (unkN ks dn re))) n) (λδ m I=>?_) (λd r δ m N I kN=>?_) _ _ _ ⟨rfl,[],fs,none,none,rfl,rfl,rfl,q⟩
 ·obtain⟨rfl,dn,re,x,y,e1,e2,rfl,kq⟩:=I;have:re=[]:=by
   cases re with
   |nil=>rfl
   |cons f re=>rw[A7,jkw]at e2;cases e2
  subst this;exact(show Q (.d .none) m from kq)
 ·obtain⟨rfl,dn,re,x,y,e1,e2,rfl,kq⟩:=I;cases re with
  |nil=>cases e2
  |cons f re =>
   rw[A7,jkw]at e2;obtain⟨rfl,rfl⟩:=Ex e2;have nxt:∀x y,Q (.d (natO (unkN ks (dn++[f]) re))) m->N [some (.w (.d (.tuple (fs.map Fe.d)))),some (.w (.d (.tuple (ks.map .str)))),x,y] m:=λx y h=>kN _ _ ⟨rfl,dn++[f],re,x,y,by rw[Bn];exact e1,by rw[Ak,A9];rfl,rfl,h⟩;refine⟨rfl,?_⟩;dsimp only[jan,jbg,jad,A6];have h0:∀(b:Bool),f.us.isSome=b->∀Q:Bool->Int->Prop,Q b m->cT (w2 (w2 (wVar 3) (wC (.int (0))) gIx) (wTup (jaa (wC (.str "as")) (jaa (wC (.str "next")) aNil))) (gIn false)) [some (.w (.d (.tuple (fs.map Fe.d)))),some (.w (.d (.tuple (ks.map .str)))),some (.w (.d (.int dn.length))),some (.w (.d f.d))] m Q:=λb e Q q=>ct_b (k:=b) (λQ q=>w2_i (jj5 (a:=.str f.hd) (r:=f.tl) rfl (jb6 (c_i (c_i (Ad (show 2<=1000 by decide) ⟨rfl,rfl,by rw[if_neg Al,j56,e];exact q⟩)))))) q;cases hu:f.us with
   |none =>
    have kq:Q (.d (natO (match f.us with | some k=>if k∈ks\/k∈bndE dn then unkN ks (dn++[f]) re else some dn.length | none=>unkN ks (dn++[f]) re))) m:=kq;rw[hu]at kq;exact if_n (λQ q=>jdx (a:=false) (b:=true) (h0 false (by rw[hu];rfl)) (λz=>nomatch z) q) (nxt _ _ kq)
   |some k =>
    have kq:Q (.d (natO (match f.us with | some k=>if k∈ks\/k∈bndE dn then unkN ks (dn++[f]) re else some dn.length | none=>unkN ks (dn++[f]) re))) m:=kq;rw[hu]at kq;have kq:Q (.d (natO (if k∈ks\/k∈bndE dn then unkN ks (dn++[f]) re else some dn.length))) m:=kq;have h0':=h0 true (by rw[hu];rfl);have ef:=j55 hu;have h1:∀Q:Bool->Int->Prop,Q (!decide (k∈ks)) m->cT (w2 (w2 (wVar 3) (wC (.int (1))) gIx) (wVar 1) (gIn true)) [some (.w (.d (.tuple (fs.map Fe.d)))),some (.w (.d (.tuple (ks.map .str)))),some (.w (.d (.int dn.length))),some (.w (.d f.d))] m Q:=λQ q=>by
     rw[ef];exact ct_b (k:=!decide (k∈ks)) (λQ q=>w2_i (jfk rfl (jab rfl ⟨rfl,jdu ks,by rw[if_pos rfl,je7];exact q⟩))) q
    have okd:okFs dn:=⟨by have:=ok.1;rw[<-e1,Ak]at this;omega,λg hg=>ok.2 g (by rw[<-e1];exact Dk _ hg)⟩;have h2:∀Q:Bool->Int->Prop,Q (!decide (k∈bndE dn)) m->cT (w2 (w2 (wVar 3) (wC (.int (1))) gIx) (jac jd6 (jaa (jak (wVar 0) ja6 (jar (wVar 2))) aNil)) (gIn true)) [some (.w (.d (.tuple (fs.map Fe.d)))),some (.w (.d (.tuple (ks.map .str)))),some (.w (.d (.int dn.length))),some (.w (.d f.d))] m Q:=λQ q=>by
     rw[ef];refine ct_b (k:=!decide (k∈bndE dn)) (λQ q=>w2_i (jfk rfl (c1_i ?_))) q;unfold jak ja6 jar;refine jab rfl (jab rfl ?_);refine⟨dn,?_,okd,λys hl hy=>⟨rfl,jdu ys,?_⟩⟩
     ·rw[jzp _ (by rw[Ai,<-e1,Ak];omega),<-List.map_take,<-e1,List.take_left];rfl
     ·rw[if_pos rfl,je7,decide_eq_decide.mpr (hy k)];exact q
    by_cases a1:k∈ks
    ·rw[if_pos (D1 a1)]at kq;exact if_n (λQ q=>jdx (a:=true) (b:=false) h0' (λ_ Q q=>jdx (a:=false) (b:=true) (λQ q=>h1 Q (by rw[decide_eq_true a1];exact q)) (λz=>nomatch z) q) q) (nxt _ _ kq)
    ·by_cases a2:k∈bndE dn
     ·rw[if_pos (C0 a2)]at kq;exact if_n (λQ q=>jdx (a:=true) (b:=false) h0' (λ_ Q q=>jdx (a:=true) (b:=false) (λQ q=>h1 Q (by rw[decide_eq_false a1];exact q)) (λ_ Q q=>h2 Q (by rw[decide_eq_true a2];exact q)) q) q) (nxt _ _ kq)
     ·rw[if_neg (λz=>z.elim a1 a2)]at kq;exact if_y (λQ q=>jdx (a:=true) (b:=true) h0' (λ_ Q q=>jdx (a:=true) (b:=true) (λQ q=>h1 Q (by rw[decide_eq_false a1];exact q)) (λ_ Q q=>h2 Q (by rw[decide_eq_false a2];exact q)) q) q) (jam (jab rfl kq))
theorem rng0 (m:Nat):rngD 0 m=(Bu m).map λi=>PyData.int (i:Nat):=by
 unfold rngD;exact List.map_congr_left λi _=>by rw[Int.zero_add]
theorem jyc {α:Type} {w:DT} {Q:List Ab->Int->Prop} {rest:Sl} (f g:α->Ab):∀(xs:List α) (acc:List Ab) (x:Option SV) (n:Int),(∀a∈xs,∀(n:Int) (Q':DQ),Q' (.d (g a)) n->w (some (.w (.d (f a)))::rest) n Q')->Q (acc++xs.map g) n->jbm (jad 0) cYes w Q (xs.map f) acc (x::rest) n
 |[],acc,x,n,_,q=>by rw[Bk,B7]at q;exact q
 |a::r,acc,x,n,h,q=>by
  simp only[A7,jbm,jad,cYes,if_true,A4];refine h a A5 n _ (jyc f g r (acc++[g a]) _ n (λb hb=>h b (A1 _ hb)) ?_);rw[Bn];exact q
theorem jof {α:Type} (g:α->Bool):∀l:List α,jb0 (l.map λf=>.bool (g f))=some (l.map g)
 |[]=>rfl
 |f::l=>by
  rw[A7,A7,jb0,jof g l];rfl
theorem jk0 {α:Type} {δ:Sl} {n:Int} {Q:DQ} {rest:Sl} {w:DT} {F:DTF} (f:α->Ab) (g:α->Bool) (xs:List α) (hF:∀Q:List Ab->Int->Prop,jbm (jad 0) cYes w Q (xs.map f) [] (none::rest) n->F δ n Q) (h:∀a∈xs,∀(n:Int) (Q':DQ),Q' (.d (.bool (g a))) n->w (some (.w (.d (f a)))::rest) n Q') (q:Q (.d (.bool (xs.all g))) n):wB gAll (jaa (wOf F) aNil) δ n Q:=by
 refine b1_i (of_i (hF _ (jyc f (λa=>.bool (g a)) xs [] none n h ?_)));rw[Cu];show(match jb0 (xs.map λc=>.bool (g c))with | some bs=>Q (.d (.bool (bs.all id))) n | none=>False);rw[jof];show Q (.d (.bool ((xs.map g).all id))) n;rw[Dj];exact q
theorem jn1:∀ws n Q,jo3 ws n Q->ws.length=3:=λws n Q h=>by obtain⟨_,_,_,rfl,_⟩:=h;rfl
theorem jmk:∀ws n Q,jo3 ws n Q->jk3 (jah ["program","block","known"] ws) n {nx:=λ_ n=>Q (.d .none) n,rt:=Q}:=λws n Q h=>by
 obtain⟨P,b,ks,rfl,q⟩:=h;show jk3 [some (.w (.d (.tuple (P.map blD)))),some (.w (.d (.int b))),some (.w (.d (.tuple (ks.map .str))))] n _;have q:Q (.d (.bool (match P[b]? with | some bl=>bl.1.all λk=>decide (k∈ks) | none=>false))) n:=q;refine jam ?_;have h1:∀(c:Bool),decide (b < P.length)=c->∀Q:DQ,Q (.d (.bool c)) n->w2 (wVar 1) (wB gLen (jaa (wVar 0) aNil)) gLt [some (.w (.d (.tuple (P.map blD)))),some (.w (.d (.int b))),some (.w (.d (.tuple (ks.map .str))))] n Q:=λc e Q q=>by
  refine w2_i (jab rfl (jc9 rfl ?_));show Q (.d (.bool (decide ((b:Int) < ((P.map blD).length:Int))))) n;rw[Ai,show decide ((b:Int) < (P.length:Int))=decide (b < P.length)from decide_eq_decide.mpr (by omega),e];exact q
 by_cases hb:b < P.length
 ·rw[Am hb]at q;have q:Q (.d (.bool (P[b].1.all λk=>decide (k∈ks)))) n:=q;refine jbi (a:=true) (h1 true (decide_eq_true hb)) (λ_ Q q=>?_) q;have hP:(P.map blD)[b]?=some (blD P[b]):=by rw[Ba,Am hb];rfl
  refine jk0 B5 (λk=>decide (k∈ks)) P[b].1 (rest:=[some (.w (.d (.tuple (ks.map .str))))]) (λQ q=>jcf (ds:=P[b].1.map .str) (λQ q=>w2_i (w2_i (jab rfl (jab rfl (gN_i hP (c_i (g0_i q))))))) q) (λk _ n Q' q=>w2_i (jab rfl (jab rfl ⟨rfl,jdu ks,?_⟩))) q;rw[if_neg Al,je7];exact q
 ·rw[Fo (by omega)]at q;exact jbi (a:=false) (b:=true) (h1 false (decide_eq_false hb)) (λz=>nomatch z) q
theorem j2f {a:Ac} {b:Nat} (h:a.to=some b) {δ:Sl} {n:Int} {Q:DQ} {i:Nat} (e:δ[i]?=some (some (.w (.d a.d)))) (k:Q (.d (.int b)) n):w2 (wVar i) (wNeg (wC (.int (1)))) gIx δ n Q:=by
 cases a with
 |look fs c=>cases h;exact w2_i (jab e k)
 |same f g c=>cases h;exact w2_i (jab e k)
 |go c=>cases h;exact w2_i (jab e k)
 |_=>cases h
theorem j3h {a:Ac} {ys ks:List Str} (h:∀k,k∈ys↔k∈ks):rfB ks a.fs=(unkN ys [] a.fs).isNone:=by
 rw[jyx,show bndE []=[]from rfl,B7];exact(jnk a.fs h).symm
theorem jjx:∀ws n Q,ji9 ws n Q->ws.length=3:=λws n Q h=>by obtain⟨_,_,_,_,_,rfl,_⟩:=h;rfl
theorem jio:∀ws n Q,ji9 ws n Q->jgw (jah ["program","block","place","act","known","fields","unknown"] ws) n {nx:=λ_ n=>Q (.d .none) n,rt:=Q}:=λws n Q h=>by
 obtain⟨P,i,p,b,a,rfl,hi,wf,hp,q⟩:=h;show jgw [some (.w (.d (.tuple (P.map blD)))),some (.w (.d (.int i))),some (.w (.d (.int p))),none,none,none,none] n _;have hi':(P.map blD)[i]?=some (blD b):=by rw[Ba,hi];rfl
 have hp':(b.2.map Ac.d)[p]?=some a.d:=by rw[Ba,hp];rfl
 have hpl:p < b.2.length:=(Bp.mp hp).1;have oka:okA a:=wf.2.2.2 a (Fw hp);refine jaf (jdn (x:=a.d) (λQ q=>w2_i (w2_i (w2_i (jab rfl (jab rfl (gN_i hi' (c_i (g1_i (jab rfl (gN_i hp' q))))))))) ) ?_);dsimp only[A6];refine jaf (show sSet 4 _ _ _ _ from c3_i (jab rfl (jab rfl (jab rfl ⟨P,i,p,b,rfl,hi,wf,by omega,λys hl hy=>?_⟩))));dsimp only[A6];refine jaf (show sSet 5 _ _ _ _ from c1_i (jab rfl ⟨a,rfl,?_⟩));dsimp only[A6];refine jaf (show sSet 6 _ _ _ _ from c2_i (jab rfl (jab rfl ⟨a.fs,ys,rfl,oka.1,?_⟩)));dsimp only[A6];have hr:=j3h (a:=a) hy;cases hu:unkN ys [] a.fs with
 |some u =>
  rw[hu]at hr;refine jaf (if_y (λQ q=>ct_b (k:=true) (λQ q=>w2_i (jab rfl (c_i q))) q) (jam (w2_i (c_i (jab rfl (addI (q _ ?_)))))));show false=actR P (kn b.1 b.2 p) a;unfold actR;rw[hr];rfl
 |none =>
  rw[hu]at hr;refine jaf (if_n (λQ q=>ct_b (k:=false) (λQ q=>w2_i (jab rfl (c_i q))) q) ?_);dsimp only[jaj];have ea:actR P (kn b.1 b.2 p) a=toB P ys a.to:=by
   unfold actR;rw[hr,jta P a.to hy];rfl
  rw[ea]at q;have hd:∀(c:Bool),a.to.isSome=c->∀Q:Bool->Int->Prop,Q c n->cT (wInG Zh (w2 (wVar 3) (wC (.int (0))) gIx)) [some (.w (.d (.tuple (P.map blD)))),some (.w (.d (.int i))),some (.w (.d (.int p))),some (.w (.d a.d)),some (.w (.d (jbu ys))),some (.w (.d (fsD a.fs))),some (.w (.d .none))] n Q:=λc e Q q=>by
   rw[ac_d];exact j1q (s:=a.hd) (λQ q=>jj5 rfl q) ((j59 a).trans e) q
  cases ht:a.to with
  |none =>
   rw[ht]at q;refine jaf (if_n (λQ q=>jdx (a:=false) (b:=true) (hd false (by rw[ht];rfl)) (λz=>nomatch z) q) ?_);dsimp only[jaj];exact jam (c_i (q _ rfl))
  |some t =>
   rw[ht]at q;have cl:∀(c:Bool),toB P ys (some t)=c->∀Q:Bool->Int->Prop,Q c n->cT (jac jo3 (jaa (wVar 0) (jaa (w2 (wVar 3) (wNeg (wC (.int (1)))) gIx) (jaa (wVar 4) aNil)))) [some (.w (.d (.tuple (P.map blD)))),some (.w (.d (.int i))),some (.w (.d (.int p))),some (.w (.d a.d)),some (.w (.d (jbu ys))),some (.w (.d (fsD a.fs))),some (.w (.d .none))] n Q:=λc e Q q =>
    ct_b (k:=c) (λQ q=>c3_i (jab rfl (j2f ht rfl (jab rfl ⟨P,t,ys,rfl,by rw[e];exact q⟩)))) q
   cases hb:toB P ys (some t)with
   |true =>
    rw[hb]at q;refine jaf (if_n (λQ q=>jdx (a:=true) (b:=false) (hd true (by rw[ht];rfl)) (λ_ Q q=>jbq (k:=true) (cl true hb) q) q) ?_);dsimp only[jaj];exact jam (c_i (q _ rfl))
   |false =>
    rw[hb]at q;refine jaf (if_y (λQ q=>jdx (a:=true) (b:=true) (hd true (by rw[ht];rfl)) (λ_ Q q=>jbq (k:=false) (cl false hb) q) q) (jam (w2_i (c_i (jc9 rfl (addI (q _ rfl)))))))
theorem jfj:∀ws n Q,jjb ws n Q->ws.length=2:=λws n Q h=>by obtain⟨_,_,_,rfl,_⟩:=h;rfl
theorem jfb:∀ws n Q,jjb ws n Q->jdg (jah ["program","block","acts"] ws) n {nx:=λ_ n=>Q (.d .none) n,rt:=Q}:=λws n Q h=>by
 obtain⟨P,i,b,rfl,hi,wf,q⟩:=h;show jdg [some (.w (.d (.tuple (P.map blD)))),some (.w (.d (.int i))),none] n _;have hi':(P.map blD)[i]?=some (blD b):=by rw[Ba,hi];rfl
 refine jaf (jdn (x:=.tuple (b.2.map Ac.d)) (λQ q=>w2_i (w2_i (jab rfl (jab rfl (gN_i hi' (c_i (g1_i q))))))) ?_);dsimp only[A6];rw[jix]at q;have h8:=wf.2.2.1;refine jam (jk0 (w:=w2 (jac ji9 (jaa (wVar 2) (jaa (wVar 1) (jaa (wVar 0) aNil)))) (wC .none) (gIsN false)) (λp:Nat=>.int (p:Nat)) (plR P (b.1,b.2)) (Bu b.2.length) (rest:=[some (.w (.d (.int i))),some (.w (.d (.tuple (P.map blD))))]) (λQ q=>?_) (λp hp n Q' q=>?_) q)
 ·unfold jaq ja1;refine jc9 rfl ?_;rw[Ai];refine Ad ⟨by omega,by omega⟩ ?_;rw[Bv,rng0];exact q
 ·have hp:p < b.2.length:=C3.mp hp;have ep:b.2[p]?=some b.2[p]:=Am hp;refine w2_i (c3_i (jab rfl (jab rfl (jab rfl ⟨P,i,p,b,b.2[p],rfl,hi,wf,ep,λr hr=>c_i ?_⟩))));show Q' (.d (.bool (jcl r))) n;have:plR P (b.1,b.2) p=jcl r:=by
   unfold plR;show(match b.2[p]? with | some a=>actR P (kn b.1 b.2 p) a | none=>true)=_;rw[ep];exact hr.symm
  rw[this]at q;exact q
theorem j12 {δ:Sl} {n:Int} {Q:DQ} {w:DT} {lo k hi:Int} {wl wh:DT} (hl:∀Q:DQ,Q (.d (.int lo)) n->wl δ n Q) (hw:∀Q:DQ,Q (.d (.int k)) n->w δ n Q) (hh:∀Q:DQ,Q (.d (.int hi)) n->wh δ n Q) (q:Q (.d (.bool (decide (lo<=k)&&decide (k<=hi)))) n):jas gLe gLe wl w wh δ n Q:=by
 unfold jas;refine hl _ (hw _ ?_);show jkj (.d (.bool (decide (lo<=k)))) _ _;cases h:decide (lo<=k)with
 |true=>rw[h]at q;exact hh _ q
 |false=>rw[h]at q;exact q
theorem jl0:∀ws n Q,spJ jiw ws n Q->ws.length=1:=λ_ _ _ h=>jav h
theorem jkd:∀ws n Q,spJ jiw ws n Q->ji3 (jah Za ws) n {nx:=λ_ n=>Q (.d .none) n,rt:=Q}:=jbz λd n K q=>by
 show ji3 [some (.w (.d d))] n K;cases d with
 |tuple ds =>
  have hc:∀Q:Bool->Int->Prop,Q (decide ((1:Int)<=(ds.length:Int))&&decide ((ds.length:Int)<=6)) n->cT (jas gLe gLe (wC (.int (1))) (wB gLen (jaa (wVar 0) aNil)) (wC (.int (6)))) [some (.w (.d (.tuple ds)))] n Q:=λQ q=>ct_b (λQ q=>j12 (λQ q=>c_i q) (λQ q=>jc9 rfl q) (λQ q=>c_i q) q) q;have q:K.rt (.d (.bool ((decide ((1:Int)<=(ds.length:Int))&&decide ((ds.length:Int)<=6))&&ds.all jcw))) n:=q;cases hb:(decide ((1:Int)<=(ds.length:Int))&&decide ((ds.length:Int)<=6))with
  |false =>
   rw[hb]at q hc;exact jaf (if_y (λQ q=>c_or (a:=false) (b:=true) (nt_i rfl) (λ_ Q q=>jbq (k:=false) hc q) q) (jam (c_i q)))
  |true =>
   rw[hb,B6]at q;rw[hb]at hc;refine jaf (if_n (λQ q=>c_or (a:=false) (b:=false) (nt_i rfl) (λ_ Q q=>jbq (k:=true) hc q) q) ?_);dsimp only[jaj];refine jam (jk0 id jcw ds (rest:=[]) (λQ q=>jcf (ds:=ds) (λQ q=>jab rfl q) (by rw[De]at q;exact q)) (λd _ n Q' q=>j1_i (g:=jcw) (λQ q=>jab rfl q) Q' q) q)
 |_=>exact jaf (if_y (λQ q=>c_or (a:=true) (b:=true) (λQ q=>jbq (k:=false) (λQ q=>ct_b (k:=false) (λQ q=>q) q) q) (λz=>nomatch z) q) (jam (c_i q)))
theorem j0c {h:Str} {a:Ab} (e:ja9 h a=true):a=.str h:=by
 cases a with
 |str s=>rw[show s=h from of_decide_eq_true e]
 |_=>cases e
theorem jl8 {h:Str} {k:Nat} {d:Ab} (e:ja5 h ((k+1:Nat):Int) d=true):∃r,d=.tuple (.str h::r)/\r.length=k:=by
 obtain⟨ds,rfl,hl⟩:=jl7 e;cases ds with
 |nil=>cases hl
 |cons a r =>
  have e:(decide (((a::r).length:Int)=((k+1:Nat):Int))&&ja9 h a)=true:=e;rw[Ap]at e;exact⟨r,by rw[j0c e.2],by rw[A3]at hl;omega⟩
theorem jl9 {h:Str} {d:Ab} (e:ja5 h 1 d=true):d=.tuple [.str h]:=by
 obtain⟨r,rfl,hl⟩:=jl8 (k:=0) e;rw[Cp hl]
theorem jho {h:Str} {d:Ab} (e:ja5 h 2 d=true):∃x,d=.tuple [.str h,x]:=by
 obtain⟨r,rfl,hl⟩:=jl8 (k:=1) e;obtain⟨x,rfl⟩:=List.length_eq_one_iff.mp hl;exact⟨x,rfl⟩
theorem jvg {k:Int} {d:Ab} (h:letB k d=true):∃x,d=.str x:=by
 cases d with
 |str x=>exact⟨x,rfl⟩
 |_=>cases h
theorem jgs (h:Str) (r:List Ab):ja5 h ((r.length+1:Nat):Int) (.tuple (.str h::r))=true:=by
 show(decide (((B5 h::r).length:Int)=((r.length+1:Nat):Int))&&decide (h=h))=true;rw[decide_eq_true rfl,decide_eq_true (show((B5 h::r).length:Int)=((r.length+1:Nat):Int)from rfl)];rfl
theorem jze {x:Str} {L k:Nat} (h:letB 4 (.str x)=true) (hT:Th L k (.str x)):okK x:=⟨h,by cases hT;assumption⟩
theorem j4m {d:Ab} {L k:Nat} (h:jbk d=true) (hT:Th L k d):isV d=true:=by
 unfold isV;rw[h,B6];cases hT with
 |str x hx hs =>
  show(decide (x.length<=60)&&Ew x)=true;rw[hs,decide_eq_true hx];rfl
 |int i _ _ =>
  have h:(false || (decide ((0:Int)<=i)&&decide (i<=99)))=true:=h;rw[E9,Ap]at h;have h1:=of_decide_eq_true h.1;have h2:=of_decide_eq_true h.2;rw[thB,Ap];exact⟨decide_eq_true (by unfold B30;omega),decide_eq_true (by unfold B30;omega)⟩
 |non=>cases h
 |bool b=>cases h
 |list _ _=>cases h
 |tuple _ _=>cases h
theorem jlt {h:Str} {d:Ab} {L k:Nat} (e:jgq h d=true) (hT:Th L k d):∃x,d=.tuple [.str h,.str x]/\okK x:=by
 have e:(ja5 h 2 d&&letB 4 (sndD d))=true:=e;rw[Ap]at e;obtain⟨y,rfl⟩:=jho e.1;obtain⟨x,rfl⟩:=jvg e.2;exact⟨x,rfl,jze e.2 (hT.mem (.str x) (by simp))⟩
theorem jlh {d:Ab} {L k:Nat} (e:jch d=true) (hT:Th L k d):∃f:Fe,d=f.d/\f.ok/\f.te=true:=by
 unfold jch at e;cases hb:ja5 "is" 2 d with
 |true =>
  rw[hb,if_pos rfl]at e;obtain⟨x,rfl⟩:=jho hb;exact⟨.isv x,rfl,j4m e (hT.mem x (by simp)),rfl⟩
 |false =>
  rw[hb,if_neg Al]at e;obtain⟨x,rfl,ok⟩:=jlt e hT;exact⟨.as x,rfl,ok,rfl⟩
theorem jtc {d:Ab} {L k:Nat} (e:jc7 d=true) (hT:Th L k d):∃f:Fe,d=f.d/\f.ok/\f.tm=true:=by
 rcases Ck.mp e with z | z
 ·obtain⟨f,h1,h2,h3⟩:=jlh z hT;exact⟨f,h1,h2,by cases f<;>first | rfl | cases h3⟩
 ·obtain⟨x,rfl,ok⟩:=jlt z hT;exact⟨.nx x,rfl,ok,rfl⟩
theorem jut {d:Ab} {L k:Nat} (e:jb1 d=true) (hT:Th L k d):∃f:Fe,d=f.d/\f.ok/\f.pt=true:=by
 rcases Ck.mp e with z | z
 ·rcases Ck.mp z with z | z
  ·exact⟨.any,jl9 z,trivial,rfl⟩
  ·rcases Ck.mp z with z | z
   ·exact⟨.word,jl9 z,trivial,rfl⟩
   ·exact⟨.num,jl9 z,trivial,rfl⟩
 ·rcases Ck.mp z with z | z
  ·obtain⟨f,h1,h2,h3⟩:=jlh z hT;exact⟨f,h1,h2,by cases f<;>first | rfl | cases h3⟩
  ·obtain⟨x,rfl,ok⟩:=jlt z hT;exact⟨.bind x,rfl,ok,rfl⟩
theorem jid {α:Type} {f:α->Ab} {R:α->Prop}:∀{ds:List Ab},(∀d∈ds,∃x,d=f x/\R x)->∃xs:List α,ds=xs.map f/\∀x∈xs,R x
 |[],_=>⟨[],rfl,λx hx=>nomatch hx⟩
 |d::r,h=>by
  obtain⟨x,rfl,hx⟩:=h d A5;obtain⟨xs,rfl,hxs⟩:=jid λe he=>h e (A1 _ he);exact⟨x::xs,rfl,λy hy=>(An.mp hy).elim (λe=>e▸hx) (hxs y)⟩
theorem j44 {d:Ab} {L k:Nat} {g:Ab->Bool} {R:Fe->Prop} (e:(cntB d&&(jn6 d).all g)=true) (hT:Th L k d) (h:∀x,g x=true->(∃L k,Th L k x)->∃f:Fe,x=f.d/\f.ok/\R f):∃fs:List Fe,d=fsD fs/\okFs fs/\1<=fs.length/\∀f∈fs,R f:=by
 rw[Ap]at e;cases d with
 |tuple ds =>
  have e1:(decide ((1:Int)<=(ds.length:Int))&&decide ((ds.length:Int)<=4))=true:=e.1;rw[Ap]at e1;have l1:=of_decide_eq_true e1.1;have l4:=of_decide_eq_true e1.2;obtain⟨fs,rfl,hfs⟩:=jid (f:=Fe.d) (R:=λf=>f.ok/\R f) λx hx=>h x (Bh.mp e.2 x hx) ⟨_,_,hT.mem x hx⟩;rw[Ai]at l1 l4;exact⟨fs,rfl,⟨by omega,λf hf=>(hfs f hf).1⟩,by omega,λf hf=>(hfs f hf).2⟩
 |_=>cases e.1
theorem jqo {d:Ab} (h:jc1 d=true):∃b:Nat,d=.int b:=by
 cases d with
 |int i =>
  have:=of_decide_eq_true (show decide ((0:Int)<=i)=true from h);exact⟨i.toNat,by rw[Int.toNat_of_nonneg this]⟩
 |_=>cases h
theorem jy8 {d:Ab} {L k:Nat} (e:patB d=true) (hT:Th L k d):∃fs:List Fe,d=fsD fs/\okFs fs/\patO fs:=by
 obtain⟨fs,h1,h2,h3,h4⟩:=j44 (R:=λf=>f.pt=true) e hT λx hx ⟨_,_,ht⟩=>jut hx ht;exact⟨fs,h1,h2,h3,h4⟩
theorem j5v {d:Ab} (h:ageB d=true):jsj d:=by
 rcases Ck.mp h with z | z
 ·cases d<;>first | exact .inl rfl | cases z
 ·cases d with
  |int i =>
   have z:(decide ((1:Int)<=i)&&decide (i<=20))=true:=z;rw[Ap]at z;exact .inr ⟨i,rfl,of_decide_eq_true z.1,of_decide_eq_true z.2⟩
  |_=>cases z
theorem j5w {d:Ab} {L k:Nat} (e:actB d=true) (hT:Th L k d):∃a:Ac,d=a.d/\okA a:=by
 have three:∀{h:Str},ja5 h 3 d=true->∃x y,d=.tuple [.str h,x,y]:=λ{h} z=>by
  obtain⟨r,rfl,hl⟩:=jl8 (k:=2) z
  match r,hl with
  |[x,y],_=>exact⟨x,y,rfl⟩
 have patA:∀{h:Str},je4 h d=true->∃fs,d=.tuple [.str h,fsD fs]/\okFs fs/\patO fs:=λ{h} z=>by
  have z:(ja5 h 2 d&&patB (ixD 1 d))=true:=z;rw[Ap]at z;obtain⟨x,rfl⟩:=jho z.1;obtain⟨fs,rfl,h2,h3⟩:=jy8 (d:=x) z.2 (hT.mem x (by simp));exact⟨fs,rfl,h2,h3⟩
 rcases Ck.mp e with z | z
 ·rcases Ck.mp z with z | z
  ·have z:(ja5 "lay" 3 d&&(temB (ixD 1 d)&&ageB (ixD 2 d)))=true:=z;rw[Ap,Ap]at z;obtain⟨x,y,rfl⟩:=three z.1;obtain⟨fs,h1,h2,h3,h4⟩:=j44 (R:=λf=>f.tm=true) (d:=x) z.2.1 (hT.mem x (by simp)) λx hx ⟨_,_,ht⟩=>jtc hx ht;subst h1;exact⟨.lay fs y,rfl,h2,h4,j5v z.2.2,h3⟩
  ·rcases Ck.mp z with z | z
   ·obtain⟨fs,rfl,h2,h3⟩:=patA z;exact⟨.take fs,rfl,h2,h3⟩
   ·obtain⟨fs,rfl,h2,h3⟩:=patA z;exact⟨.read fs,rfl,h2,h3⟩
 ·rcases Ck.mp z with z | z
  ·have z:(ja5 "look" 3 d&&(patB (ixD 1 d)&&jc1 (ixD 2 d)))=true:=z;rw[Ap,Ap]at z;obtain⟨x,y,rfl⟩:=three z.1;obtain⟨fs,h1,h2,h3⟩:=jy8 (d:=x) z.2.1 (hT.mem x (by simp));obtain⟨b,rfl⟩:=jqo (d:=y) z.2.2;subst h1;exact⟨.look fs b,rfl,h2,h3⟩
  ·rcases Ck.mp z with z | z
   ·have z:(ja5 "same" 4 d&&(jch (ixD 1 d)&&(jch (ixD 2 d)&&jc1 (ixD 3 d))))=true:=z;rw[Ap,Ap,Ap]at z;obtain⟨r,rfl,hl⟩:=jl8 (k:=3) z.1
    match r,hl with
    |[x,y,w],_ =>
     obtain⟨f,h1,h2,h3⟩:=jlh (d:=x) z.2.1 (hT.mem x (by simp));obtain⟨g,g1,g2,g3⟩:=jlh (d:=y) z.2.2.1 (hT.mem y (by simp));obtain⟨b,rfl⟩:=jqo (d:=w) z.2.2.2;subst h1 g1;exact⟨.same f g b,rfl,⟨show 2<=4 by decide,λe he=>by
      rcases An.mp he with rfl | he
      ·exact h2
      ·rw[A2.mp he];exact g2⟩,h3,g3⟩
   ·have z:(ja5 "go" 2 d&&jc1 (ixD 1 d))=true:=z;rw[Ap]at z;obtain⟨x,rfl⟩:=jho z.1;obtain⟨b,rfl⟩:=jqo (d:=x) z.2;exact⟨.go b,rfl,⟨show 0<=4 by decide,λe he=>nomatch he⟩,trivial⟩
theorem jyk {d:Ab} {L k:Nat} (e:jcw d=true) (hT:Th L k d):∃b:Bl,d=blD b/\wfB b:=by
 have two:∃x y,d=.tuple [x,y]:=by
  cases d with
  |tuple ds =>
   rcases ds with _ | ⟨x,_ | ⟨y,_ | ⟨z,r⟩⟩⟩
   ·cases e
   ·cases e
   ·exact⟨x,y,rfl⟩
   ·cases e
  |_=>cases e
 obtain⟨x,y,rfl⟩:=two;have e:(jjp x&&jkk y)=true:=e;rw[Ap]at e;have hx:=hT.mem x (by simp);have hy:=hT.mem y (by simp);cases x with
 |tuple ws =>
  cases y with
  |tuple as =>
   have e1:(decide ((ws.length:Int)<=4)&&(ws.all (letB 4)&&jer ws))=true:=e.1;have e2:(decide ((as.length:Int)<=8)&&as.all actB)=true:=e.2;rw[Ap,Ap]at e1;rw[Ap]at e2;obtain⟨ks,rfl,hks⟩:=jid (f:=B5) (R:=okK) λz hz=>by
    have hl:=Bh.mp e1.2.1 z hz;obtain⟨s,rfl⟩:=jvg hl;exact⟨s,rfl,jze hl (hx.mem (.str s) hz)⟩
   obtain⟨acs,rfl,hacs⟩:=jid (f:=Ac.d) (R:=okA) λz hz=>j5w (Bh.mp e2.2 z hz) (hy.mem z hz);have l1:=of_decide_eq_true e1.1;have l2:=of_decide_eq_true e2.1;rw[Ai]at l1 l2;exact⟨(ks,acs),rfl,by show ks.length<=4;omega,hks,by show acs.length<=8;omega,hacs⟩
  |_=>cases e.2
 |_=>cases e.1
theorem j18 {d:Ab} {L k:Nat} (e:jiw d=true) (hT:Th L k d):∃P:List Bl,d=prD P/\wfP P:=by
 cases d with
 |tuple ds =>
  have e':((decide ((1:Int)<=(ds.length:Int))&&decide ((ds.length:Int)<=6))&&ds.all jcw)=true:=e;rw[Ap,Ap]at e';obtain⟨P,rfl,hP⟩:=jid (f:=blD) (R:=wfB) λz hz=>jyk (Bh.mp e'.2 z hz) (hT.mem z hz);have l1:=of_decide_eq_true e'.1.1;have l2:=of_decide_eq_true e'.1.2;rw[Ai]at l1 l2;exact⟨P,rfl,e,by omega,by omega,hP⟩
 |_=>cases e
theorem jp0 {h x:Str} (ok:okK x):jgq h (.tuple [.str h,.str x])=true:=by
 show(ja5 h 2 (.tuple [.str h,.str x])&&letB 4 (.str x))=true;rw[ok.1,show ja5 h 2 (.tuple [.str h,.str x])=true from jgs h [.str x]];rfl
theorem jkl {f:Fe} (ok:f.ok) (h:f.te=true):jch f.d=true:=by
 unfold jch;cases f with
 |isv d =>
  have ok:(jbk d&&thB 60 0 d)=true:=ok;rw[Ap]at ok;rw[if_pos (show ja5 "is" 2 (Fe.isv d).d=true from jgs "is" [d])];exact ok.1
 |as x =>
  rw[if_neg (show ¬ja5 "is" 2 (Fe.as x).d=true by
   show ¬(decide ((2:Int)=2)&&decide (("as":Str)="is"))=true;rw[show decide (("as":Str)="is")=false by decide +kernel,Fm];exact Al)]
  exact jp0 ok
 |_=>cases h
theorem jwu {f:Fe} (ok:f.ok) (h:f.tm=true):jc7 f.d=true:=by
 unfold jc7;cases f with
 |isv d=>rw[jkl (f:=.isv d) ok rfl];rfl
 |as x=>rw[jkl (f:=.as x) ok rfl];rfl
 |nx x=>rw[show jgq "next" (Fe.nx x).d=true from jp0 ok,C5]
 |_=>cases h
theorem jxl {f:Fe} (ok:f.ok) (h:f.pt=true):jb1 f.d=true:=by
 unfold jb1;cases f with
 |any=>exact(show jb1 Fe.any.d=true by decide +kernel)
 |word=>exact(show jb1 Fe.word.d=true by decide +kernel)
 |num=>exact(show jb1 Fe.num.d=true by decide +kernel)
 |isv d=>rw[jkl (f:=.isv d) ok rfl,Fk,C5]
 |as x=>rw[jkl (f:=.as x) ok rfl,Fk,C5]
 |bind x=>rw[show jgq "bind" (Fe.bind x).d=true from jp0 ok,C5,C5]
 |nx x=>cases h
theorem j5k {fs:List Fe} (h1:1<=fs.length) (h4:fs.length<=4):cntB (fsD fs)=true:=by
 show(decide ((1:Int)<=((fs.map Fe.d).length:Int))&&decide (((fs.map Fe.d).length:Int)<=4))=true;rw[Ai,decide_eq_true (show(1:Int)<=(fs.length:Int) by omega),decide_eq_true (show(fs.length:Int)<=4 by omega)];rfl
theorem j5t {fs:List Fe} {g:Ab->Bool} (h:∀f∈fs,g f.d=true):(jn6 (fsD fs)).all g=true:=by
 show(fs.map Fe.d).all g=true;rw[Dj];exact Bh.mpr h
theorem j07 {fs:List Fe} (ok:okFs fs) (h:patO fs):patB (fsD fs)=true:=by
 unfold patB;rw[j5k h.1 ok.1,j5t λf hf=>jxl (ok.2 f hf) (h.2 f hf)];rfl
theorem j6b {fs:List Fe} (ok:okFs fs) (h1:1<=fs.length) (h:∀f∈fs,f.tm=true):temB (fsD fs)=true:=by
 unfold temB;rw[j5k h1 ok.1,j5t λf hf=>jwu (ok.2 f hf) (h f hf)];rfl
theorem j5u {d:Ab} (h:jsj d):ageB d=true:=by
 rcases h with rfl | ⟨i,rfl,h1,h2⟩
 ·rfl
 ·show(false || (decide ((1:Int)<=i)&&decide (i<=20)))=true;rw[decide_eq_true h1,decide_eq_true h2];rfl
theorem jwe (b:Nat):jc1 (.int b)=true:=by
 show decide ((0:Int)<=(b:Int))=true;exact decide_eq_true (by omega)
theorem j75 {a:Ac} (h:okA a):actB a.d=true:=by
 unfold actB;cases a with
 |lay fs age =>
  have:layB (Ac.lay fs age).d=true:=by
   show(ja5 "lay" 3 _&&(temB (fsD fs)&&ageB age))=true;rw[show ja5 "lay" 3 (Ac.lay fs age).d=true from jgs "lay" [fsD fs,age],j6b (fs:=fs) h.1 h.2.2.2 h.2.1,j5u h.2.2.1];rfl
  rw[this];rfl
 |take fs =>
  have:je4 "take" (Ac.take fs).d=true:=by
   show(ja5 "take" 2 _&&patB (fsD fs))=true;rw[show ja5 "take" 2 (Ac.take fs).d=true from jgs "take" [fsD fs],j07 (fs:=fs) h.1 h.2];rfl
  rw[this,Fk,C5,Fk]
 |read fs =>
  have:je4 "read" (Ac.read fs).d=true:=by
   show(ja5 "read" 2 _&&patB (fsD fs))=true;rw[show ja5 "read" 2 (Ac.read fs).d=true from jgs "read" [fsD fs],j07 (fs:=fs) h.1 h.2];rfl
  rw[this,C5,C5,Fk]
 |look fs b =>
  have:jp3 (Ac.look fs b).d=true:=by
   show(ja5 "look" 3 _&&(patB (fsD fs)&&jc1 (.int b)))=true;rw[show ja5 "look" 3 (Ac.look fs b).d=true from jgs "look" [fsD fs,.int b],j07 (fs:=fs) h.1 h.2,jwe];rfl
  rw[this,Fk,C5]
 |same f g b =>
  have:jh3 (Ac.same f g b).d=true:=by
   show(ja5 "same" 4 _&&(jch f.d&&(jch g.d&&jc1 (.int b))))=true;rw[show ja5 "same" 4 (Ac.same f g b).d=true from jgs "same" [f.d,g.d,.int b],jkl (h.1.2 f (by simp[Ac.fs])) h.2.1,jkl (h.1.2 g (by simp[Ac.fs])) h.2.2,jwe];rfl
  rw[this,Fk,C5,C5]
 |go b =>
  have:goB (Ac.go b).d=true:=by
   show(ja5 "go" 2 _&&jc1 (.int b))=true;rw[show ja5 "go" 2 (Ac.go b).d=true from jgs "go" [.int b],jwe];rfl
  rw[this,C5,C5,C5]
theorem j17 {b:Bl} (h:okB b):jcw (blD b)=true:=by
 obtain⟨h1,h2,h3,h4,h5,h6⟩:=h;show(jjp (jbu b.1)&&jkk (.tuple (b.2.map Ac.d)))=true;have hw:jjp (jbu b.1)=true:=by
  show(decide (((b.1.map B5).length:Int)<=4)&&((b.1.map B5).all (letB 4)&&jer (b.1.map B5)))=true;have up:b.1.Pairwise λa b=>slt a b=true:=(h5.and h6).imp λ{a b} h=>by
   cases e:slt a b with
   |true=>rfl
   |false=>exact absurd (slin.tot a b e (decide_eq_false h.2)) h.1
  rw[Ai,decide_eq_true (show(b.1.length:Int)<=4 by omega),(jq1 b.1).mpr up,Dj];rw[show b.1.all (letB 4 ∘ B5)=true from Bh.mpr λk hk=>(h2 k hk).1];rfl
 have ha:jkk (.tuple (b.2.map Ac.d))=true:=by
  show(decide (((b.2.map Ac.d).length:Int)<=8)&&(b.2.map Ac.d).all actB)=true;rw[Ai,decide_eq_true (show(b.2.length:Int)<=8 by omega),Dj];rw[show b.2.all (actB ∘ Ac.d)=true from Bh.mpr λa ha=>j75 (h4 a ha)];rfl
 rw[hw,ha];rfl
theorem j52 {P:List Bl} (h:okG P) (h0:fst0 P):wfP P:=by
 refine⟨?_,h.1,h.2.1,(jpx h h0).2⟩;show((decide ((1:Int)<=((P.map blD).length:Int))&&decide (((P.map blD).length:Int)<=6))&&(P.map blD).all jcw)=true;rw[Ai,decide_eq_true (show(1:Int)<=(P.length:Int) by have:=h.1;omega),decide_eq_true (show(P.length:Int)<=6 by have:=h.2.1;omega),Dj];rw[show P.all (jcw ∘ blD)=true from Bh.mpr λb hb=>j17 (h.2.2 b hb).1];rfl
theorem th_K {k:Str} (h:okK k) {L j:Nat}:Th L j (.str k):=.str k (by have:=jpy h;omega) h.2
theorem th_V {v:Ab} (h:isV v=true) {L j:Nat} (hL:60<=L+60):Th L j v:=by
 unfold isV at h;rw[Ap]at h;cases v with
 |str x =>
  have h2:(decide (x.length<=60)&&Ew x)=true:=h.2;rw[Ap]at h2;exact .str x (of_decide_eq_true h2.1) h2.2
 |int i =>
  have h1:(false || (decide ((0:Int)<=i)&&decide (i<=99)))=true:=h.1;rw[E9,Ap]at h1;have a:=of_decide_eq_true h1.1;have b:=of_decide_eq_true h1.2;exact .int i (by unfold B30;omega) (by unfold B30;omega)
 |_=>cases h.1
theorem th_s {x:Str} {L k:Nat} (h:thB 9 0 (.str x)=true):Th L k (.str x):=by
 cases jtb h with
 |str _ h1 h2=>exact .str x h1 h2
theorem j6a (f:Fe) {L k:Nat}:Th L k (.str f.hd):=by
 cases f with
 |any=>exact th_s (show thB 9 0 (.str "any")=true by decide +kernel)
 |word=>exact th_s (show thB 9 0 (.str "word")=true by decide +kernel)
 |num=>exact th_s (show thB 9 0 (.str "number")=true by decide +kernel)
 |isv d=>exact th_s (show thB 9 0 (.str "is")=true by decide +kernel)
 |bind d=>exact th_s (show thB 9 0 (.str "bind")=true by decide +kernel)
 |as d=>exact th_s (show thB 9 0 (.str "as")=true by decide +kernel)
 |nx d=>exact th_s (show thB 9 0 (.str "next")=true by decide +kernel)
theorem th_F {f:Fe} (h:f.ok):Th 9 1 f.d:=by
 refine .tuple ?_ λd hd=>?_
 ·cases f<;>exact D2 rfl
 ·rcases An.mp hd with rfl | hd
  ·exact j6a f
  ·cases f with
   |isv v=>rw[A2.mp hd];exact th_V h (by decide)
   |bind k=>rw[A2.mp hd];exact th_K h
   |as k=>rw[A2.mp hd];exact th_K h
   |nx k=>rw[A2.mp hd];exact th_K h
   |_=>cases hd
theorem jwt {fs:List Fe} (h:okFs fs):Th 9 2 (fsD fs):=.tuple (by rw[Ai];have:=h.1;omega) λd hd=>by
 obtain⟨f,hf,rfl⟩:=Cc.mp hd;exact th_F (h.2 f hf)
theorem j2n {d:Ab} (h:jsj d):Th 9 2 d:=by
 rcases h with rfl | ⟨i,rfl,h1,h2⟩
 ·exact .non
 ·exact .int i (by unfold B30;omega) (by unfold B30;omega)
theorem th_A {a:Ac} (h:okA a) (ht:toOk a):Th 9 3 a.d:=by
 have i:∀b:Nat,b<=1000->Th 9 2 (.int b):=λb hb=>.int _ (by unfold B30;omega) (by unfold B30;omega);cases a with
 |lay fs age=>exact th3 (th_s (by decide +kernel)) (jwt h.1) (j2n h.2.2.1) (by decide)
 |take fs=>exact th2 (th_s (by decide +kernel)) (jwt h.1) (by decide)
 |read fs=>exact th2 (th_s (by decide +kernel)) (jwt h.1) (by decide)
 |look fs b=>exact th3 (th_s (by decide +kernel)) (jwt h.1) (i b (ht b rfl)) (by decide)
 |same f g b=>exact th4 (th_s (by decide +kernel)) ((th_F (h.1.2 f (by simp[Ac.fs]))).mono (by decide) (by decide)) ((th_F (h.1.2 g (by simp[Ac.fs]))).mono (by decide) (by decide)) (i b (ht b rfl)) (by decide)
 |go b=>exact th2 (th_s (by decide +kernel)) (i b (ht b rfl)) (by decide)
theorem th_B {b:Bl} (h:wfB b) (ht:∀a∈b.2,toOk a):Th 9 5 (blD b):=by
 obtain⟨h1,h2,h3,h4⟩:=h;refine th2 (.tuple (by rw[Ai];omega) λd hd=>?_) (.tuple (by rw[Ai];omega) λd hd=>?_) (by decide)
 ·obtain⟨k,hk,rfl⟩:=Cc.mp hd;exact th_K (h2 k hk)
 ·obtain⟨a,ha,rfl⟩:=Cc.mp hd;exact th_A (h4 a ha) (ht a ha)
theorem th_P {P:List Bl} (hl:P.length<=6) (h:∀b∈P,wfB b) (ht:∀b∈P,∀a∈b.2,toOk a):Th 9 6 (prD P):=.tuple (by rw[Ai];omega) λd hd=>by
 obtain⟨b,hb,rfl⟩:=Cc.mp hd;exact th_B (h b hb) (ht b hb)
theorem j58 {P:List Bl} (h:okG P):∀b∈P,∀a∈b.2,toOk a:=λb hb a ha t e=>by
 obtain⟨p,hp,he⟩:=List.getElem_of_mem ha;obtain⟨w,hw,_⟩:=((h.2.2 b hb).2 p a (by rw[Am hp,he])).2 t e;have:=(Bp.mp hw).1;rw[Ai]at this;have:=h.2.1;omega
theorem jv4 {α:Type} {c:DTT} {w:DT} {Q:List Ab->Int->Prop} {rest:Sl} (f g:α->Ab) (p:α->Bool):∀(xs:List α) (acc:List Ab) (x:Option SV) (n:Int),(∀a∈xs,∀(n:Int) (Q':Bool->Int->Prop),Q' (p a) n->c (some (.w (.d (f a)))::rest) n Q')->(∀a∈xs,∀(n:Int) (Q':DQ),Q' (.d (g a)) n->w (some (.w (.d (f a)))::rest) n Q')->Q (acc++(xs.filter p).map g) n->jbm (jad 0) c w Q (xs.map f) acc (x::rest) n
 |[],acc,x,n,_,_,q=>by rw[List.filter_nil,Bk,B7]at q;exact q
 |a::r,acc,x,n,hp,h,q=>by
  simp only[A7,jbm,jad,A4];refine hp a A5 n _ ?_;cases e:p a with
  |true =>
   simp only[if_true];refine h a A5 n _ (jv4 f g p r (acc++[g a]) _ n (λb hb=>hp b (A1 _ hb)) (λb hb=>h b (A1 _ hb)) ?_);rw[List.filter_cons,if_pos e,A7]at q;rw[Bn];exact q
  |false =>
   simp only[Bf,if_false];refine jv4 f g p r acc _ n (λb hb=>hp b (A1 _ hb)) (λb hb=>h b (A1 _ hb)) ?_;rw[List.filter_cons,if_neg (by rw[e];exact Al)]at q;exact q
theorem j6x {δ:Sl} {n:Int} {Q:Bool->Int->Prop} {w:DT} {ds:List Ab} (hw:∀Q:DQ,Q (.d (.tuple ds)) n->w δ n Q) (q:Q (!ds.isEmpty) n):cT (w2 w (wTup aNil) (gT0 true)) δ n Q :=
 ct_b (k:=!ds.isEmpty) (λQ q=>w2_i (hw _ (show wTup aNil _ _ _ from Ad (Bj _) (by cases ds<;>exact q)))) q
theorem jjy:∀ws n Q,jo4 ws n Q->ws.length=1:=λws n Q h=>by obtain⟨_,_,_,rfl,_⟩:=h;rfl
theorem jsf {d:Ab} {L k:Nat} (hT:Th L k d):(jiw d=false/\jct d=false)\/∃P,d=prD P/\wfP P/\jct d=jun P:=by
 cases hb:jiw d with
 |false=>exact .inl ⟨rfl,jxh λ⟨P,e,h⟩=>by
   rw[e,h.1]at hb;cases hb⟩
 |true =>
  obtain⟨P,rfl,h⟩:=j18 hb hT;exact .inr ⟨P,rfl,h,jq4 h⟩
theorem jip:∀ws n Q,jo4 ws n Q->jgx (jah Za ws) n {nx:=λ_ n=>Q (.d .none) n,rt:=Q}:=λws n Q h=>by
 obtain⟨d,L,k,rfl,hT,hL,hk,q⟩:=h;show jgx [some (.w (.d d))] n _;have hj:∀(b:Bool),jiw d=b->∀Q:Bool->Int->Prop,Q (!b) n->cNot (cT (jac (spJ jiw) (jaa (wVar 0) aNil))) [some (.w (.d d))] n Q:=λb e Q q=>jbq (k:=b) (λQ q=>ct_b (λQ q=>j1_i (g:=jiw) (λQ q=>jab rfl q) Q (by rw[e];exact q)) q) q;rcases jsf hT with⟨h1,h2⟩ | ⟨P,rfl,wf,e⟩
 ·rw[h2]at q;exact jaf (if_y (λQ q=>c_or (a:=true) (b:=true) (hj false h1) (λz=>nomatch z) q) (jam (c_i q)))
 ·rw[e]at q;obtain⟨wf1,wf2,wf3,wf4⟩:=wf;cases P with
  |nil=>exact absurd wf2 (by decide)
  |cons b P =>
   have q:Q (.d (.bool (b.1.isEmpty&&(b::P).all λc=>blR (b::P) c.1 c.2))) n:=q;have h0:∀Q:Bool->Int->Prop,Q (!(b.1.map B5).isEmpty) n->cT (w2 (w2 (w2 (wVar 0) (wC (.int (0))) gIx) (wC (.int (0))) gIx) (wTup aNil) (gT0 true)) [some (.w (.d (prD (b::P))))] n Q:=λQ q=>j6x (ds:=b.1.map B5) (λQ q=>w2_i (w2_i (jab rfl (c_i (g0_i (c_i (g0_i q))))))) q;have e0:(b.1.map B5).isEmpty=b.1.isEmpty:=by cases b.1<;>rfl
   rw[e0]at h0;cases hb:b.1.isEmpty with
   |false =>
    rw[hb]at q h0;exact jaf (if_y (λQ q=>c_or (a:=false) (b:=true) (hj true wf1) (λ_ Q q=>h0 Q q) q) (jam (c_i q)))
   |true =>
    rw[hb,B6]at q;rw[hb]at h0;refine jaf (if_n (λQ q=>c_or (a:=false) (b:=false) (hj true wf1) (λ_ Q q=>h0 Q q) q) ?_);dsimp only[jaj];generalize b::P=R at q wf1 wf2 wf3 wf4;have er:(R.all λc=>blR R c.1 c.2)=(Bu R.length).all λi=>match R[i]? with | some c=>blR R c.1 c.2 | none=>true:=by
     rw[En,Bh,Bh];refine⟨λh i _=>?_,λh c hc=>?_⟩
     ·cases hi:R[i]? with
      |none=>rfl
      |some c=>exact h c (Fw hi)
     ·obtain⟨i,hi,rfl⟩:=List.getElem_of_mem hc;have:=h i (C3.mpr hi);rw[Am hi]at this;exact this
    rw[er]at q;refine jam (jk0 (w:=jac jjb (jaa (wVar 1) (jaa (wVar 0) aNil))) (λi:Nat=>.int (i:Nat)) (λi=>match R[i]? with | some c=>blR R c.1 c.2 | none=>true) (Bu R.length) (rest:=[some (.w (.d (prD R)))]) (λQ q=>?_) (λi hi n Q' q=>?_) q)
    ·unfold jaq ja1;refine jc9 rfl ?_;rw[Ai];refine Ad ⟨by omega,by omega⟩ ?_;rw[Bv,rng0];exact q
    ·have hi:i < R.length:=C3.mp hi;have ei:R[i]?=some R[i]:=Am hi;have q:Q' (.d (.bool (match R[i]? with | some c=>blR R c.1 c.2 | none=>true))) n:=q;rw[ei]at q;exact c2_i (jab rfl (jab rfl ⟨R,i,R[i],rfl,ei,wf4 _ (Ez hi),q⟩))
theorem jzn {m k:Nat} {k':Int} (h:k'=(k:Int)):decide ((m:Int)<=k')=decide (m<=k):=decide_eq_decide.mpr (by omega)
theorem j5a {m k:Nat} {k':Int} (h:k'=(k:Int)):decide (k' < (m:Int))=!decide (m<=k):=by
 by_cases z:m<=k
 ·rw[decide_eq_true z,decide_eq_false (by omega)];rfl
 ·rw[decide_eq_false z,decide_eq_true (by omega)];rfl
theorem jzm {m k:Nat} {k':Int} (h:k'=(k:Int)+1):decide ((m:Int) < k')=decide (m<=k):=decide_eq_decide.mpr (by omega)
theorem jh8 {ds:List Ab} (h:okT (.tuple ds)):∀d∈ds,okT d:=λd hd=>by
 obtain⟨L,k,hT,hL,hk⟩:=h;exact⟨L,k - 1,hT.mem d hd,hL,by omega⟩
theorem jzr {δ:Sl} {n:Int} {Q:DQ} {i:Nat} {d:Ab} (e:δ[i]?=some (some (.w (.d d)))) (h:okT d) (q:Q (.d (.bool (jct d))) n):jac jo4 (jaa (wVar i) aNil) δ n Q:=by
 obtain⟨L,k,hT,hL,hk⟩:=h;exact c1_i (jab e ⟨d,L,k,rfl,hT,hL,hk,q⟩)
theorem jdr:∀ws n Q,jd5 ws n Q->ws.length=1:=λws n Q h=>by obtain⟨_,rfl,_⟩:=h;rfl
theorem jhj:∀ws n Q,jd5 ws n Q->jft (jah Za ws) n {nx:=λ_ n=>Q (.d .none) n,rt:=Q}:=λws n Q h=>by
 obtain⟨d,rfl,ok,q⟩:=h;show jft [some (.w (.d d))] n _;cases d with
 |tuple ds =>
  have q:Q (.d (.bool (decide (ds.length<=5)&&ds.all jct))) n:=q;have hg:∀Q:Bool->Int->Prop,Q (!decide (ds.length<=5)) n->cT (w2 (wB gLen (jaa (wVar 0) aNil)) (wC (.int (5))) gGt) [some (.w (.d (.tuple ds)))] n Q:=λQ q=>ct_b (k:=!decide (ds.length<=5)) (λQ q=>w2_i (jc9 rfl (c_i (show Q (.d (.bool (decide ((5:Int) < (ds.length:Int))))) n by rw[j5a (k:=5) (k':=5) rfl];exact q)))) q;cases hl:decide (ds.length<=5)with
  |false =>
   rw[hl]at q hg;exact jaf (if_y (λQ q=>c_or (a:=false) (b:=true) (nt_i rfl) (λ_ Q q=>hg Q q) q) (jam (c_i q)))
  |true =>
   rw[hl,B6]at q;rw[hl]at hg;refine jaf (if_n (λQ q=>c_or (a:=false) (b:=false) (nt_i rfl) (λ_ Q q=>hg Q q) q) ?_);dsimp only[jaj];exact jam (jk0 (w:=jac jo4 (jaa (wVar 0) aNil)) id jct ds (rest:=[]) (λQ q=>jcf (ds:=ds) (λQ q=>jab rfl q) (by rw[De]at q;exact q)) (λd hd n Q' q=>jzr rfl (jh8 ok d hd) q) q)
 |_=>exact jaf (if_y (λQ q=>c_or (a:=true) (b:=true) (λQ q=>jbq (k:=false) (λQ q=>ct_b (k:=false) (λQ q=>q) q) q) (λz=>nomatch z) q) (jam (c_i q)))
theorem jf4:∀ws n Q,spJ jh4 ws n Q->ws.length=1:=λ_ _ _ h=>jav h
theorem jfo:∀ws n Q,spJ jh4 ws n Q->jdz (jah Za ws) n {nx:=λ_ n=>Q (.d .none) n,rt:=Q}:=jbz λd n K q=>by
 show jdz [some (.w (.d d))] n K;refine jam ?_;cases d with
 |tuple ds =>
  have q:K.rt (.d (.bool (decide (ds.length<=12)&&ds.all jca))) n:=q;refine jbi (a:=true) (b:=decide (ds.length<=12)&&ds.all jca) (λQ q=>jes rfl q) (λ_ Q q=>?_) q;refine jbi (a:=decide (ds.length<=12)) (b:=ds.all jca) (λQ q=>w2_i (jc9 rfl (c_i (show Q (.d (.bool (decide ((ds.length:Int)<=12)))) n by rw[jzn (k:=12) (k':=12) rfl];exact q)))) (λ_ Q q=>?_) q;exact jk0 (w:=jac (spJ jca) (jaa (wVar 0) aNil)) id jca ds (rest:=[]) (λQ q=>jcf (ds:=ds) (λQ q=>jab rfl q) (by rw[De]at q;exact q)) (λd hd n Q' q=>j1_i (g:=jca) (λQ q=>jab rfl q) Q' q) q
 |_=>exact jbi (a:=false) (b:=false) (λQ q=>q) (λz=>nomatch z) q
theorem jif:∀ws n Q,jje ws n Q->ws.length=1:=λws n Q h=>by obtain⟨_,rfl,_⟩:=h;rfl
theorem jur {ds:List Ab} (h:ds.length≠2):jsg (.tuple ds)=false:=by
 rcases ds with _ | ⟨a,_ | ⟨b,_ | ⟨c,r⟩⟩⟩
 ·rfl
 ·rfl
 ·exact absurd rfl h
 ·rfl
theorem jol:∀ws n Q,jje ws n Q->jo0 (jah Za ws) n {nx:=λ_ n=>Q (.d .none) n,rt:=Q}:=λws n Q h=>by
 obtain⟨d,rfl,ok,q⟩:=h;show jo0 [some (.w (.d d))] n _;refine jam ?_;cases d with
 |tuple ds =>
  refine jbi (a:=true) (b:=jsg (.tuple ds)) (λQ q=>jes rfl q) (λ_ Q q=>?_) q;by_cases h2:ds.length=2
  ·obtain⟨a,b,rfl⟩:∃a b,ds=[a,b]:=by
    match ds,h2 with
    |[a,b],_=>exact⟨a,b,rfl⟩
   have q:Q (.d (.bool (jc3 a&&jh4 b))) n:=q;refine jbi (a:=true) (b:=jc3 a&&jh4 b) (λQ q=>w2_i (jc9 (ds:=[a,b]) rfl (c_i q))) (λ_ Q q=>?_) q;exact jbi (a:=jc3 a) (b:=jh4 b) (λQ q=>c1_i (jj5 rfl ⟨a,rfl,jh8 ok a (by simp),q⟩)) (λ_ Q q=>j1_i (g:=jh4) (λQ q=>jfk rfl q) Q q) q
  ·rw[jur h2]at q;exact jbi (a:=false) (b:=true) (λQ q=>w2_i (jc9 rfl (c_i (show Q (.d (.bool (decide ((ds.length:Int)=2)))) n by rw[decide_eq_false (by omega)];exact q)))) (λz=>nomatch z) q
 |_=>exact jbi (a:=false) (b:=false) (λQ q=>q) (λz=>nomatch z) q
theorem jds:∀ws n Q,jhk ws n Q->ws.length=1:=jdr
abbrev Zg:List Str:=["_law_thing"]
theorem jdk:∀ws n Q,jhk ws n Q->jcp (jah Zg ws) n {nx:=λ_ n=>Q (.d .none) n,rt:=Q}:=λws n Q h=>by
 obtain⟨d,rfl,ok,q⟩:=h;show jcp [some (.w (.d d))] n _;refine jam ?_;cases d with
 |tuple ds =>
  have q:Q (.d (.bool (decide (ds.length<=5)&&ds.all jct))) n:=q;refine jbi (a:=true) (b:=decide (ds.length<=5)&&ds.all jct) (λQ q=>jes rfl q) (λ_ Q q=>?_) q;refine jbi (a:=decide (ds.length<=5)) (b:=ds.all jct) (λQ q=>w2_i (jc9 rfl (c_i (show Q (.d (.bool (decide ((ds.length:Int) < 6)))) n by rw[jzm (k:=5) (k':=6) rfl];exact q)))) (λ_ Q q=>?_) q;refine w2_i (of_i (jcf (ds:=ds) (λQ q=>jab rfl q) ?_));show jbm _ _ _ _ ds [] [none] n;have:=jv4 (c:=cT (w2 (jac jo4 (jaa (wVar 0) aNil)) (wC (.bool true)) (gIsB true))) (w:=wVar 0) (Q:=λl n=>wOf (fLst aNil) [some (.w (.d (.tuple ds)))] n λy n2=>gEq (.d (.list l)) y n2 Q) (rest:=[]) id id (λd=>!jct d) ds [] none n (λx hx n Q' q=>ct_b (k:=!jct x) (λQ q=>w2_i (jzr rfl (jh8 ok x hx) (c_i (show Q (.d (.bool (jct x != true))) n by cases h:jct x<;>(rw[h]at q;exact q))))) q) (λx _ n Q' q=>jab rfl q) (by
   rw[Cu,De];refine jdp ?_;show Q (.d (.bool (ds.filter λd=>!jct d).isEmpty)) n;rw[jlr];exact q)
  rw[De]at this;exact this
 |_=>exact jbi (a:=false) (b:=false) (λQ q=>q) (λz=>nomatch z) q
theorem jzi {n:Int} {Q:DQ} {ds:List Ab} (k:Q (.d (.int ds.length)) n):gLen [.d (.tuple ds)] n Q:=k
theorem j3f {a:Ab} (h:∀ds,a≠.tuple ds):rowB a=false:=by
 cases a with
 |tuple ds=>exact absurd rfl (h ds)
 |_=>rfl
theorem j1l {ds:List Ab} (h:ds.length≠2):jca (.tuple ds)=false:=by
 rcases ds with _ | ⟨a,_ | ⟨b,_ | ⟨c,r⟩⟩⟩
 ·rfl
 ·rfl
 ·exact absurd rfl h
 ·rfl
theorem len2 {ds:List Ab} (h:ds.length=2):∃a b,ds=[a,b]:=by
 match ds,h with
 |[a,b],_=>exact⟨a,b,rfl⟩
theorem jrb {δ:Sl} {n:Int} {i:Nat} {ds:List Ab} {k:Int} (e:δ[i]?=some (some (.w (.d (.tuple ds))))):∀Q:Bool->Int->Prop,Q (!decide ((ds.length:Int)=k)) n->cT (w2 (wB gLen (jaa (wVar i) aNil)) (wC (.int k)) gNe) δ n Q:=λQ q=>ct_b (k:=!decide ((ds.length:Int)=k)) (λQ q=>w2_i (jc9 e (c_i q))) q
theorem jhf:∀ws n Q,jd4 ws n Q->ws.length=1:=λ_ _ _ h=>jav (g:=jca) h
theorem jgh:∀ws n Q,jd4 ws n Q->jc2 (jah Zg ws) n {nx:=λ_ n=>Q (.d .none) n,rt:=Q}:=λws n Q h=>jbz (g:=jca) (W:=jc2) (N:=Zg) (λd n K q=>by
 show jc2 [some (.w (.d d))] n K;cases d with
 |tuple ds =>
  by_cases h2:ds.length=2
  ·obtain⟨a,b,rfl⟩:=len2 h2;have q:K.rt (.d (.bool (rowB a&&ageB b))) n:=q;have f2:∀Q:Bool->Int->Prop,Q false n->cT (w2 (wB gLen (jaa (wVar 0) aNil)) (wC (.int 2)) gNe) [some (.w (.d (.tuple [a,b])))] n Q:=λQ q=>jrb (ds:=[a,b]) rfl Q q;have hi:∀(c:Bool),isiB "tuple" a=c->∀Q:Bool->Int->Prop,Q (!c) n->cNot (cT (wIsi "tuple" (w2 (wVar 0) (wC (.int (0))) gIx))) [some (.w (.d (.tuple [a,b])))] n Q:=λc e Q q=>jbq (k:=c) (λQ q=>ct_b (k:=c) (λQ q=>(show w2 _ _ _ _ _ _ from jj5 rfl (by rw[<-e]at q;exact q))) q) q;cases ht:isiB "tuple" a with
   |false =>
    rw[j3f λds e=>by rw[e,jal]at ht;cases ht]at q;exact jaf (if_y (λQ q=>c_or (a:=false) (b:=true) (nt_i rfl) (λ_ Q q=>c_or (a:=false) (b:=true) f2 (λ_ Q q=>hi false ht Q q) q) q) (jam (c_i q)))
   |true =>
    obtain⟨ds,rfl⟩:=jrf ht;refine jaf (if_n (λQ q=>c_or (a:=false) (b:=false) (nt_i rfl) (λ_ Q q=>c_or (a:=false) (b:=false) f2 (λ_ Q q=>hi true ht Q q) q) q) ?_);dsimp only[jaj];have er:rowB (.tuple ds)=((decide (1<=ds.length)&&decide (ds.length<=4))&&ds.all jbk):=by
     show(decide ((1:Int)<=(ds.length:Int))&&(decide ((ds.length:Int)<=4)&&ds.all jbk))=_;rw[jzn (k:=4) (k':=4) rfl,show decide ((1:Int)<=(ds.length:Int))=decide (1<=ds.length)from decide_eq_decide.mpr (by omega),Bool.and_assoc]
    rw[er]at q;have hl:∀Q:Bool->Int->Prop,Q (!(decide (1<=ds.length)&&decide (ds.length<=4))) n->cT (w2 (wB gLen (jaa (w2 (wVar 0) (wC (.int (0))) gIx) aNil)) (wTup (jaa (wC (.int (1))) (jaa (wC (.int (2))) (jaa (wC (.int (3))) (jaa (wC (.int (4))) aNil))))) (gIn true)) [some (.w (.d (.tuple [.tuple ds,b])))] n Q:=λQ q =>
     ct_b (k:=!(decide (1<=ds.length)&&decide (ds.length<=4))) (λQ q=>w2_i (b1_i (jj5 rfl (jzi (j2l (c_i (c_i (c_i (c_i (Ad (show 4<=1000 by decide) ⟨rfl,rfl,by show Q (.d (.bool (!inD (.int (ds.length:Nat)) [.int 1,.int 2,.int 3,.int 4]))) n;rw[in14];exact q⟩))))))))) ) q
    have ha:∀Q:Bool->Int->Prop,Q (!ageB b) n->cNot (cOr (cT (w2 (w2 (wVar 0) (wC (.int (1))) gIx) (wC .none) (gIsN false))) (cT (jac jdb (jaa (w2 (wVar 0) (wC (.int (1))) gIx) (jaa (wC (.int (1))) (jaa (wC (.int (20))) aNil)))))) [some (.w (.d (.tuple [.tuple ds,b])))] n Q:=λQ q =>
     jbq (k:=ageB b) (λQ q=>c_or (a:=jcl b) (b:=jnt 1 20 b) (λQ q=>ct_b (k:=jcl b) (λQ q=>w2_i (jfk rfl (c_i q))) q) (λ_ Q q=>ct_b (k:=jnt 1 20 b) (λQ q=>c3_i (jfk rfl (c_i (c_i q)))) q) q) q
    cases hb:(decide (1<=ds.length)&&decide (ds.length<=4))with
    |false =>
     rw[hb]at q hl;exact jaf (if_y (λQ q=>c_or (a:=true) (b:=true) hl (λz=>nomatch z) q) (jam (c_i q)))
    |true =>
     rw[hb,B6]at q;rw[hb]at hl;cases hg:ageB b with
     |false =>
      rw[hg,Fm]at q;rw[hg]at ha;exact jaf (if_y (λQ q=>c_or (a:=false) (b:=true) hl (λ_ Q q=>ha Q q) q) (jam (c_i q)))
     |true =>
      rw[hg,Bool.and_true]at q;rw[hg]at ha;refine jaf (if_n (λQ q=>c_or (a:=false) (b:=false) hl (λ_ Q q=>ha Q q) q) ?_);dsimp only[jaj];refine jam (w2_i (of_i (jcf (ds:=ds) (λQ q=>jj5 rfl q) ?_)));show jbm _ _ _ _ ds [] [none] n;have:=jv4 (c:=cAnd (cNot (cT (jac jff (jaa (wVar 0) (jaa (wC (.int (8))) aNil))))) (cNot (cT (jac jdb (jaa (wVar 0) (jaa (wC (.int (0))) (jaa (wC (.int (99))) aNil))))))) (w:=wVar 0) (Q:=λl n=>wOf (fLst aNil) [some (.w (.d (.tuple [.tuple ds,b])))] n λy n2=>gEq (.d (.list l)) y n2 K.rt) (rest:=[]) id id (λd=>!jbk d) ds [] none n (λx hx n Q' q=>jdx (a:=!letB 8 x) (b:=!numB x) (λQ q=>jbq (k:=letB 8 x) (λQ q=>ct_b (k:=letB 8 x) (λQ q=>c2_i (jab rfl (c_i q))) q) q) (λ_ Q q=>jbq (k:=numB x) (λQ q=>ct_b (k:=numB x) (λQ q=>c3_i (jab rfl (c_i (c_i q)))) q) q) (by
       have e:(!letB 8 x&&!numB x)=!jbk x:=by unfold jbk;rw[Bool.not_or]
       rw[e];exact q)) (λx _ n Q' q=>jab rfl q) (by
       rw[Cu,De];refine jdp ?_;show K.rt (.d (.bool (ds.filter λd=>!jbk d).isEmpty)) n;rw[jlr];exact q)
      rw[De]at this;exact this
  ·rw[j1l h2]at q;have e2:decide ((ds.length:Int)=2)=false:=decide_eq_false (by omega);exact jaf (if_y (λQ q=>c_or (a:=false) (b:=true) (nt_i rfl) (λ_ Q q=>c_or (a:=true) (b:=true) (λQ q=>jrb rfl Q (by rw[e2];exact q)) (λz=>nomatch z) q) q) (jam (c_i q)))
 |_=>exact jaf (if_y (λQ q=>c_or (a:=true) (b:=true) (λQ q=>jbq (k:=false) (λQ q=>ct_b (k:=false) (λQ q=>q) q) q) (λz=>nomatch z) q) (jam (c_i q)))) ws n Q h
theorem jhe:∀ws n Q,jwl ws n Q->ws.length=1:=jif
theorem jgg:∀ws n Q,jwl ws n Q->jev (jah ["_law_thing","_law_good"] ws) n {nx:=λ_ n=>Q (.d .none) n,rt:=Q}:=λws n Q h=>by
 obtain⟨d,rfl,ok,q⟩:=h;show jev [some (.w (.d d)),none] n _;cases d with
 |tuple ds =>
  by_cases h2:ds.length=2
  ·obtain⟨a,b,rfl⟩:=len2 h2;have q:Q (.d (.bool (jc3 a&&jh4 b))) n:=q;have f2:∀Q:Bool->Int->Prop,Q false n->cT (w2 (wB gLen (jaa (wVar 0) aNil)) (wC (.int 2)) gNe) [some (.w (.d (.tuple [a,b]))),none] n Q:=λQ q=>jrb (ds:=[a,b]) rfl Q q;have hp:∀Q:Bool->Int->Prop,Q (!jc3 a) n->cNot (cT (jac jhk (jaa (w2 (wVar 0) (wC (.int (0))) gIx) aNil))) [some (.w (.d (.tuple [a,b]))),none] n Q:=λQ q=>jbq (k:=jc3 a) (λQ q=>ct_b (k:=jc3 a) (λQ q=>c1_i (jj5 rfl ⟨a,rfl,jh8 ok a (by simp),q⟩)) q) q;cases ha:jc3 a with
   |false =>
    rw[ha]at q hp;exact jaf (if_y (λQ q=>c_or (a:=false) (b:=true) (nt_i rfl) (λ_ Q q=>c_or (a:=false) (b:=true) f2 (λ_ Q q=>hp Q q) q) q) (jam (c_i q)))
   |true =>
    rw[ha,B6]at q;rw[ha]at hp;refine jaf (if_n (λQ q=>c_or (a:=false) (b:=false) (nt_i rfl) (λ_ Q q=>c_or (a:=false) (b:=false) f2 (λ_ Q q=>hp Q q) q) q) ?_);dsimp only[jaj];have isi1:∀Q:DQ,Q (.d (.bool (isiB "tuple" b))) n->wIsi "tuple" (w2 (wVar 0) (wC (.int (1))) gIx) [some (.w (.d (.tuple [a,b]))),none] n Q:=λQ q=>(show w2 _ _ _ _ _ _ from jfk rfl q);cases hb:isiB "tuple" b with
    |false =>
     have:jh4 b=false:=by cases b<;>first | rfl | (rw[jal]at hb;cases hb)
     rw[this]at q;refine jaf (jdn (x:=.bool false) (λQ q=>jbi (a:=false) (b:=true) (λQ q=>isi1 Q (by rw[hb];exact q)) (λz=>nomatch z) q) ?_);dsimp only[A6];exact jam (jbi (a:=false) (b:=true) (λQ q=>jab rfl q) (λz=>nomatch z) q)
    |true =>
     obtain⟨ds,rfl⟩:=jrf hb;have q:Q (.d (.bool (decide (ds.length<=12)&&ds.all jca))) n:=q;refine jaf (jdn (x:=.bool (decide (ds.length<=12))) (λQ q=>jbi (a:=true) (b:=decide (ds.length<=12)) (λQ q=>isi1 Q (by rw[hb];exact q)) (λ_ Q q=>w2_i (b1_i (jfk rfl (jzi (c_i (show Q (.d (.bool (decide ((ds.length:Int) < 13)))) n by rw[jzm (k:=12) (k':=13) rfl];exact q)))))) q) ?_);dsimp only[A6];refine jam (jbi (a:=decide (ds.length<=12)) (b:=ds.all jca) (λQ q=>jab rfl q) (λ_ Q q=>?_) q);refine w2_i (of_i (jcf (ds:=ds) (λQ q=>jfk rfl q) ?_));show jbm _ _ _ _ ds [] [none] n;have:=jv4 (c:=cNot (cT (jac jd4 (jaa (wVar 0) aNil)))) (w:=wVar 0) (Q:=λl n=>wOf (fLst aNil) [some (.w (.d (.tuple [a,.tuple ds]))),some (.w (.d (.bool (decide (ds.length<=12)))))] n λy n2=>gEq (.d (.list l)) y n2 Q) (rest:=[]) id id (λd=>!jca d) ds [] none n (λx hx n Q' q=>jbq (k:=jca x) (λQ q=>ct_b (k:=jca x) (λQ q=>c1_i (jab rfl (show spJ jca [.d x] n Q from q))) q) q) (λx _ n Q' q=>jab rfl q) (by
      rw[Cu,De];refine jdp ?_;show Q (.d (.bool (ds.filter λd=>!jca d).isEmpty)) n;rw[jlr];exact q)
     rw[De]at this;exact this
  ·rw[jur h2]at q;have e2:decide ((ds.length:Int)=2)=false:=decide_eq_false (by omega);exact jaf (if_y (λQ q=>c_or (a:=false) (b:=true) (nt_i rfl) (λ_ Q q=>c_or (a:=true) (b:=true) (λQ q=>jrb rfl Q (by rw[e2];exact q)) (λz=>nomatch z) q) q) (jam (c_i q)))
 |_=>exact jaf (if_y (λQ q=>c_or (a:=true) (b:=true) (λQ q=>jbq (k:=false) (λQ q=>ct_b (k:=false) (λQ q=>q) q) q) (λz=>nomatch z) q) (jam (c_i q)))
theorem j6w {S:Str} {n:Int} {Q:DQ} (k:Q (.d (.bool false)) n):gNe (.d (.str S)) (.d (.str S)) n Q:=by
 have e:neD (.str S) (.str S)=some false:=by simp[neD,eqD]
 show(match neD (.str S) (.str S)with | some r=>Q (.d (.bool r)) n | none=>False);rw[e];exact k
theorem j46 {S:Str} {n:Int} {Q:DQ} (k:Q (.d (.bool true)) n):gEq (.d (.str S)) (.d (.str S)) n Q:=by
 have e:eqD (.str S) (.str S)=some true:=by simp[eqD]
 show(match eqD (.str S) (.str S)with | some r=>Q (.d (.bool r)) n | none=>False);rw[e];exact k
theorem jni {W V:DST} {δ:Sl} {n:Int} {K:DEnds} {u v:DT} {b:Bool} (hu:∀Q:DQ,Q (.d (.bool b)) n->u δ n Q) (hv:∀Q:DQ,Q (.d (.bool b)) n->v δ n Q) (k:V δ n K):sIf (cT (w2 (wB jbp (jaa u aNil)) (wB jbp (jaa v aNil)) gNe)) W V δ n K:=by
 refine if_n (λQ q=>ct_b (k:=false) (λQ q=>w2_i (b1_i (hu _ ?_))) q) k;refine(show jbp [.d (.bool b)] n _ from b1_i (hv _ ?_));refine(show jbp [.d (.bool b)] n _ from j6w q)
theorem jvf {δ:Sl} {n:Int} {Q:DQ} {u v:DT} {b:Bool} (hu:∀Q:DQ,Q (.d (.bool b)) n->u δ n Q) (hv:∀Q:DQ,Q (.d (.bool b)) n->v δ n Q) (k:Q (.d (.bool true)) n):w2 (wB jbp (jaa u aNil)) (wB jbp (jaa v aNil)) gEq δ n Q:=by
 refine w2_i (b1_i (hu _ ?_));refine(show jbp [.d (.bool b)] n _ from b1_i (hv _ ?_));exact(show jbp [.d (.bool b)] n _ from j46 k)
theorem jj2:∀ws n Q,jel ws n Q->ws.length=1:=λws n Q h=>by obtain⟨_,rfl,_⟩:=h;rfl
theorem jit:∀ws n Q,jel ws n Q->jgz (jah ["_law_thing","_law_one"] ws) n {nx:=λ_ n=>Q (.d .none) n,rt:=Q}:=λws n Q h=>by
 obtain⟨d,rfl,ok,q⟩:=h;show jgz [some (.w (.d d)),none] n _;have c:∀{δ:Sl} {i:Nat} {d:Ab} {g:Ab->Bool} {S:DSp},(∀(d:Ab) (n:Int) (Q:DQ),okT d->Q (.d (.bool (g d))) n->S [.d d] n Q)->δ[i]?=some (some (.w (.d d)))->okT d->∀Q:DQ,Q (.d (.bool (g d))) n->jac S (jaa (wVar i) aNil) δ n Q:=λhS e ok Q q=>c1_i (jab e (hS _ _ _ ok q));have s1:∀(d:Ab) (n:Int) (Q:DQ),okT d->Q (.d (.bool (jsg d))) n->jje [.d d] n Q:=λd n Q ok q=>⟨d,rfl,ok,q⟩;have s2:∀(d:Ab) (n:Int) (Q:DQ),okT d->Q (.d (.bool (jc3 d))) n->jd5 [.d d] n Q:=λd n Q ok q=>⟨d,rfl,ok,q⟩;refine jaf (jni (b:=jsg d) (c s1 rfl ok) (c (S:=jwl) s1 rfl ok) ?_);dsimp only[jaj];have last:∀x:Option SV,sRet (w2 (wB jbp (jaa (jac jd5 (jaa (wVar 0) aNil)) aNil)) (wB jbp (jaa (jac jhk (jaa (wVar 0) aNil)) aNil)) gEq) [some (.w (.d d)),x] n {nx:=λ_ n=>Q (.d .none) n,rt:=Q}:=λx=>jam (jvf (b:=jc3 d) (c s2 rfl ok) (c (S:=jhk) s2 rfl ok) q);refine jaf ?_;unfold sFor ja7;have main:∀ds:List Ab,(∀x∈ds,okT x)->forD (jad 1) (sIf (cT (w2 (wB jbp (jaa (jac jd5 (jaa (wVar 1) aNil)) aNil)) (wB jbp (jaa (jac jhk (jaa (wVar 1) aNil)) aNil)) gNe)) (sRet (wC (.bool false))) jaj) {nx:=λδ n=>sRet (w2 (wB jbp (jaa (jac jd5 (jaa (wVar 0) aNil)) aNil)) (wB jbp (jaa (jac jhk (jaa (wVar 0) aNil)) aNil)) gEq) δ n {nx:=λ_ n=>Q (.d .none) n,rt:=Q},rt:=Q} ds [some (.w (.d d)),none] n:=λds hds=>by
  refine jbh (λds δ m=>m=n/\(∀x∈ds,okT x)/\∃x,δ=[some (.w (.d d)),x]) (λδ m I=>?_) (λe r δ m N I kN=>?_) _ _ _ ⟨rfl,hds,none,rfl⟩
  ·obtain⟨rfl,_,x,rfl⟩:=I;exact last x
  ·obtain⟨rfl,h1,x,rfl⟩:=I;dsimp only[jad,A6];exact jni (b:=jc3 e) (c s2 rfl (h1 e A5)) (c (S:=jhk) s2 rfl (h1 e A5)) (kN _ _ ⟨rfl,λy hy=>h1 y (A1 _ hy),_,rfl⟩)
 cases ht:isiB "tuple" d with
 |true =>
  obtain⟨ds,rfl⟩:=jrf ht;refine jwp (b:=true) (λQ q=>ct_b (λQ q=>jes rfl q) q) ?_;rw[if_pos rfl];exact jab rfl (main ds (jh8 ok))
 |false =>
  refine jwp (b:=false) (λQ q=>ct_b (k:=false) (λQ q=>jvn (d:=d) (λQ q=>jab rfl q) Q (by rw[ht];exact q)) q) ?_;rw[if_neg Al];exact(show wTup aNil _ _ _ from Ad (Bj _) (main [] λx hx=>nomatch hx))
theorem jy5 {δ:Sl} {n m:Int} {Q:DQ} {i:Nat} {d:Ab} {w:DT} (e:δ[i]?=some (some (.w (.d d)))) (hw:∀Q:DQ,Q (.d (.int m)) n->w δ n Q) (h2:-1000<=m) (h3:m<=1000) (k:Q (.d (.tuple (Av m.toNat [d]).flatten)) n):js6 (wTup (jaa (wVar i) aNil)) w δ n Q:=by
 unfold js6;exact(show wTup _ _ _ _ from jab e (Ad (show 1<=1000 by decide) (hw _ ⟨[d],m,rfl,rfl,List.cons_ne_nil _ _,h2,h3,show 1<=1000 by decide,k⟩)))
theorem jud {d x:Ab} {m:Nat} (h:x∈(Av m [d]).flatten):x=d:=by
 obtain⟨l,hl,hx⟩:=List.mem_flatten.mp h;rw[List.eq_of_mem_replicate hl]at hx;exact A2.mp hx
theorem jln {d:Ab} {m:Nat}:((Av m [d]).flatten).length=m:=by
 induction m with
 |zero=>rfl
 |succ m ih=>rw[Dd,D6,Ak,ih];simp;omega
theorem j7a {δ:Sl} {n:Int} {a b c:DT} {Q:List Ab->Int->Prop} (k:a δ n λx n1=>b δ n1 λy n2=>c δ n2 λz n3=>match ja3 [x,y,z]with
  |some ds=>ds.length<=1000/\Q ds n3
  |none=>False):fLst (jaa a (jaa b (jaa c aNil))) δ n Q:=k
theorem jxo {δ:Sl} {n:Int} {K:DEnds} {i:Nat} {w:DTF} (k:w δ n λds n1=>K.nx (δ.set i (some (.own ds))) n1):sOwn i w δ n K:=k
theorem jhw {j:Nat} {a b:Ab} (ha:Th 20 j a) (hb:Th 20 j b):Th 20 (j+1) (.tuple [a,b]):=th2 ha hb (by decide)
def jhs:Ab:=.tuple [.tuple [.tuple [],.tuple []]]
def jh9:Ab:=.tuple [.tuple [.str "a"],.none]
def oth6:List Ab:=[.tuple [.tuple [.str "a",.bool true],.none],.tuple [.tuple [.str "a"],.int 21],.tuple [.str "a",.int 1],.tuple [.tuple [.str "a"],.int 20],.list [.tuple [.str "a"],.int 1],.tuple [.tuple [.str "a"]]]
theorem jj3:∀ws n Q,jk7 ws n Q->ws.length=2:=λws n Q h=>by obtain⟨_,_,rfl,_⟩:=h;rfl
theorem jiu:∀ws n Q,jk7 ws n Q->jg0 (jah ["_law_tape_here","_law_plan_here","_law_programs","_law_notes_here","_law_void","_law_note","_law_some","_law_other_here"] ws) n {nx:=λ_ n=>Q (.d .none) n,rt:=Q}:=λws n Q h=>by
 obtain⟨p,s,rfl,hp5,hs12,hp,hs,hn,k⟩:=h;show jg0 [some (.w .tp),some (.w (.d (.tuple [.tuple p,.tuple s]))),none,none,none,none,none,none] n _;have le:∀{m k:Nat},Nat.ble m k=true->m<=k:=λh=>D2 h;refine jaf (show sUnp _ _ _ _ _ from jab rfl (Ad rfl ?_));dsimp only[jan,jbg,jad,A6];refine jaf (jdn (x:=jhs) (λQ q=>Ad (le rfl) (Ad (le rfl) (Ad (le rfl) (Ad (le rfl) q)))) ?_);dsimp only[A6];refine jaf (jdn (x:=jh9) (λQ q=>Ad (le rfl) (Ad (le rfl) q)) ?_);dsimp only[A6];have hv:Th 20 6 jhs:=jtb (by decide +kernel);have hnt:Th 20 6 jh9:=jtb (by decide +kernel);have hp':∀x∈p,Th 20 6 x:=λx hx=>(hp x hx).mono (by decide) (by decide);have hs':∀x∈s,Th 20 6 x:=λx hx=>(hs x hx).mono (by decide) (by decide);have tp:Th 20 8 (.tuple p):=.tuple (by omega) λx hx=>(hp' x hx).mono (by decide) (by decide);have ts:Th 20 8 (.tuple s):=.tuple (by omega) λx hx=>(hs' x hx).mono (by decide) (by decide);have tpl:Th 20 8 (.list p):=.list (by omega) λx hx=>(hp' x hx).mono (by decide) (by decide);have tsl:Th 20 8 (.list s):=.list (by omega) λx hx=>(hs' x hx).mono (by decide) (by decide);have cat:∀(a b:List Ab),a.length+b.length<=20->(∀x∈a,Th 20 6 x)->(∀x∈b,Th 20 6 x)->Th 20 8 (.tuple (a++b)):=λa b hl ha hb=>.tuple (by rw[Ak];exact hl) λx hx=>((A0.mp hx).elim (ha x) (hb x)).mono (by decide) (by decide)
 -- more programs
 refine jaf (jxo (jcf (ds:=[.int 5,.int 6]) (λQ q=>jb6 (c_i (c_i (Ad (le rfl) q)))) ?_));show jbm _ _ _ _ [.int 5,.int 6] [] [none,some (.w (.d (.tuple s))),some (.w (.d (.tuple p))),some (.w (.d jhs))] n;have g1:∀m:Int,m=5\/m=6->Th 20 9 (.tuple [.tuple (p++(Av (m - (p.length:Int)).toNat [jhs]).flatten),.tuple s]):=λm hm=>jhw (cat p _ (by rw[jln];omega) hp' λx hx=>by rw[jud hx];exact hv) ts;refine jyc PyData.int (λm=>.tuple [.tuple (p++(Av (m - (p.length:Int)).toNat [jhs]).flatten),.tuple s]) [5,6] [] none n (λm hm n Q' q=>?_) ?_
 ·have hm:m=5\/m=6:=by simpa using hm
  refine jb6 (w2_i (jab rfl (jy5 (m:=m - (p.length:Int)) rfl (λQ q=>w2_i (jab rfl (jc9 rfl q))) (by omega) (by omega) (jdf (by rw[jln];omega) (jab rfl (Ad (le rfl) q))))))
 rw[Cu];have a1:∀x∈([5,6]:List Int).map λm=>Bz [.tuple (p++(Av (m - (p.length:Int)).toNat [jhs]).flatten),.tuple s],Th 20 9 x:=λx hx=>by
  obtain⟨m,hm,rfl⟩:=Cc.mp hx;exact g1 m (by simpa using hm)
 have l1:(([5,6]:List Int).map λm=>Bz [.tuple (p++(Av (m - (p.length:Int)).toNat [jhs]).flatten),.tuple s]).length=2:=rfl;generalize(([5,6]:List Int).map λm=>Bz [.tuple (p++(Av (m - (p.length:Int)).toNat [jhs]).flatten),.tuple s])=A at a1 l1;dsimp only[A6];refine jga rfl ?_;dsimp only[A6]
 -- more notes
 refine jaf (jxo ?_);refine(show fCat _ _ _ _ _ from jab rfl (of_i (jcf (ds:=[.int 12,.int 13]) (λQ q=>jb6 (c_i (c_i (Ad (le rfl) q)))) ?_)));show jbm _ _ _ _ [.int 12,.int 13] [] [none,some (.w (.d jh9)),some (.w (.d (.tuple s))),some (.w (.d (.tuple p)))] n;have g2:∀m:Int,m=12\/m=13->Th 20 9 (.tuple [.tuple p,.tuple (s++(Av (m - (s.length:Int)).toNat [jh9]).flatten)]):=λm hm=>jhw tp (cat s _ (by rw[jln];omega) hs' λx hx=>by rw[jud hx];exact hnt);refine jyc PyData.int (λm=>.tuple [.tuple p,.tuple (s++(Av (m - (s.length:Int)).toNat [jh9]).flatten)]) [12,13] [] none n (λm hm n Q' q=>?_) ?_
 ·have hm:m=12\/m=13:=by simpa using hm
  refine jb6 (jab rfl (w2_i (jab rfl (jy5 (m:=m - (s.length:Int)) rfl (λQ q=>w2_i (jab rfl (jc9 rfl q))) (by omega) (by omega) (jdf (by rw[jln];omega) (Ad (le rfl) q))))))
 rw[Cu];have a2:∀x∈([12,13]:List Int).map λm=>Bz [.tuple p,.tuple (s++(Av (m - (s.length:Int)).toNat [jh9]).flatten)],Th 20 9 x:=λx hx=>by
  obtain⟨m,hm,rfl⟩:=Cc.mp hx;exact g2 m (by simpa using hm)
 have l2:(([12,13]:List Int).map λm=>Bz [.tuple p,.tuple (s++(Av (m - (s.length:Int)).toNat [jh9]).flatten)]).length=2:=rfl;generalize(([12,13]:List Int).map λm=>Bz [.tuple p,.tuple (s++(Av (m - (s.length:Int)).toNat [jh9]).flatten)])=B at a2 l2;refine Ad (jej (by omega) (by omega)) ?_;have aAB:∀x∈A++B,Th 20 9 x:=λx hx=>(A0.mp hx).elim (a1 x) (a2 x);have lAB:(A++B).length=4:=by rw[Ak,l1,l2]
 generalize A++B=C at aAB lAB;dsimp only[A6];refine jga rfl ?_;dsimp only[A6]
 -- other kinds
 refine jaf (jxo ?_);refine(show fCat _ _ _ _ _ from jab rfl (Ad (le rfl) (Ad (le rfl) (Ad (le rfl) (Ad (le rfl) (Ad (le rfl) (Ad (le rfl) (Ad (jej (by omega) (show 4 < 1000000 by decide)) ?_))))))));have a3:∀x∈[Bz [.list p,.tuple s],.tuple [.tuple p,.list s],.list [.tuple p,.tuple s],.tuple [.tuple p,.tuple s,.tuple []]],Th 20 9 x:=λx hx=>by
  simp only[An,Aw,or_false]at hx;rcases hx with rfl | rfl | rfl | rfl
  ·exact jhw tpl ts
  ·exact jhw tp tsl
  ·exact .list (le rfl) λy hy=>by
    rcases An.mp hy with rfl | hy
    ·exact tp
    ·rw[A2.mp hy];exact ts
  ·exact th3 tp ts (jtb (by decide +kernel)) (by decide)
 have aC:∀x∈C++[Bz [.list p,.tuple s],.tuple [.tuple p,.list s],.list [.tuple p,.tuple s],.tuple [.tuple p,.tuple s,.tuple []]],Th 20 9 x:=λx hx=>(A0.mp hx).elim (aAB x) (a3 x);have lC:(C++[Bz [.list p,.tuple s],.tuple [.tuple p,.list s],.list [.tuple p,.tuple s],.tuple [.tuple p,.tuple s,.tuple []]]).length=8:=by rw[Ak,lAB];rfl
 dsimp only[A6];refine(show(λD=>sFrz 6 _ [some (.w .tp),some (.w (.d (.tuple [.tuple p,.tuple s]))),some (.w (.d (.tuple p))),some (.w (.d (.tuple s))),some (.w (.d jhs)),some (.w (.d jh9)),some (.own D),none] n _) (C++[Bz [.list p,.tuple s],.tuple [.tuple p,.list s],.list [.tuple p,.tuple s],.tuple [.tuple p,.tuple s,.tuple []]])from ?_);generalize C++[Bz [.list p,.tuple s],.tuple [.tuple p,.list s],.list [.tuple p,.tuple s],.tuple [.tuple p,.tuple s,.tuple []]]=D at aC lC;refine jga rfl ?_;dsimp only[A6];refine jaf (jxo ?_);refine(show fCat _ _ _ _ _ from jab rfl (of_i (j7a (jws (jab rfl (Ad (le rfl) ?_))))));have hq:∀Q:DQ,Q (.d (.tuple [.tuple [.tuple [.tuple [.str "n"],.tuple []]]])) n->wTup (jaa (wTup (jaa (wTup (jaa (wTup (jaa (wC (.str "n")) aNil)) (jaa (wTup aNil) aNil))) aNil)) aNil) [some (.w .tp),some (.w (.d (.tuple [.tuple p,.tuple s]))),some (.w (.d (.tuple p))),some (.w (.d (.tuple s))),some (.w (.d jhs)),some (.w (.d jh9)),some (.w (.d (.list D))),none] n Q:=λQ q=>Ad (le rfl) (Ad (le rfl) (Ad (le rfl) (Ad (le rfl) (Ad (le rfl) q))));refine jb6 (w2_i (jab rfl (hq _ (jdf (show p.length+1<=1000 by omega) (jab rfl (Ad (le rfl) ?_))))));refine jb6 (jab rfl (jab rfl (Ad (le rfl) (Ad (le rfl) (Ad (jej (by omega) (show 3 < 1000000 by decide)) ?_)))));have a4:∀x∈[Bz [.tuple p],.tuple [.tuple (p++[.tuple [.tuple [.tuple [.str "n"],.tuple []]]]),.tuple s],.tuple [.tuple s,.tuple p]],Th 20 9 x:=λx hx=>by
  simp only[An,Aw,or_false]at hx;rcases hx with rfl | rfl | rfl
  ·exact .tuple (le rfl) λy hy=>by rw[A2.mp hy];exact tp
  ·exact jhw (cat p _ (by show _+1<=20;omega) hp' λy hy=>by rw[A2.mp hy];exact jtb (by decide +kernel)) ts
  ·exact jhw ts tp
 have aD:∀x∈D++[Bz [.tuple p],.tuple [.tuple (p++[.tuple [.tuple [.tuple [.str "n"],.tuple []]]]),.tuple s],.tuple [.tuple s,.tuple p]],Th 20 9 x:=λx hx=>(A0.mp hx).elim (aC x) (a4 x);have lD:(D++[Bz [.tuple p],.tuple [.tuple (p++[.tuple [.tuple [.tuple [.str "n"],.tuple []]]]),.tuple s],.tuple [.tuple s,.tuple p]]).length=11:=by rw[Ak,lC];rfl
 dsimp only[A6]
 -- one more note
 refine jaf ?_;unfold sFor je8;refine(show wOf _ _ _ _ from(Ad (le rfl) (Ad (le rfl) (Ad (le rfl) (Ad (le rfl) (Ad (le rfl) (Ad (le rfl) (Ad (le rfl) (Ad (le rfl) (Ad (le rfl) (Ad (le rfl) (Ad (le rfl) (Ad (le rfl) ?_)))))))))))));have h6:∀x∈oth6,Th 20 6 x:=jqv (by decide +kernel);refine jbh (λds δ m=>m=n/\(∀x∈ds,Th 20 6 x)/\∃(E:List Ab) (y:Option SV),δ=[some (.w .tp),some (.w (.d (.tuple [.tuple p,.tuple s]))),some (.w (.d (.tuple p))),some (.w (.d (.tuple s))),some (.w (.d jhs)),some (.w (.d jh9)),some (.own E),y]/\(∀x∈E,Th 20 9 x)/\1<=E.length/\E.length+ds.length<=17) (λδ m I=>?_) (λd r δ m N I kN=>?_) _ _ _ ⟨rfl,h6,_,none,rfl,aD,by omega,by rw[lD];exact le rfl⟩
 ·obtain⟨rfl,_,E,y,rfl,hE,l1,l17⟩:=I;have l17:E.length<=17:=by simpa using l17
  dsimp only;refine jga rfl ?_;dsimp only[A6];refine jam (w2_i (jab rfl ?_));exact jdv (m:=(E.length:Int)) rfl (λQ q=>b1_i (jab rfl q)) (by omega) (by omega) (by omega) λr r0 r1=>jgr r0 r1 λd hd=>k d (hE d hd)
 ·obtain⟨rfl,hd,E,y,rfl,hE,l1,l17⟩:=I;rw[A3]at l17;dsimp only[jad,A6];have t1:=jqe s 11;refine jmp rfl (jb6 (jab rfl (w2_i ?_)));unfold jak ja6 jar;refine jab rfl (c_i (jws (jab rfl (Ad (le rfl) (jdf ?_ (Ad (le rfl) (Ad (by omega) ?_)))))))
  ·show(cutD s none (some 11)).length+1<=1000;have t1:(cutD s none (some 11)).length<=min 11 s.length:=t1;omega
  ·refine kN _ _ ⟨rfl,λx hx=>hd x (A1 _ hx),_,_,rfl,jhl hE ?_,by rw[Ak];omega,by rw[Ak,A9];omega⟩;have t1:(cutD s none (some 11)).length<=min 11 s.length:=t1;exact jhw tp (cat _ _ (by show(cutD s none (some 11)).length+1<=20;omega) (λx hx=>hs' x (jl6 hx)) λx hx=>by rw[A2.mp hx];exact hd d A5)
theorem j3r {P:List Bl} (h:okG P) (h0:fst0 P):jct (prD P)=true:=by rw[jq4 (j52 h h0)];exact(jpx h h0).1
theorem j54 {v:Ab} (h:isV v=true):jbk v=true:=by
 unfold isV at h;rw[Ap]at h;exact h.1
theorem j39 {q:Nt} (h:okQ q):jca (ntD q)=true:=by
 obtain⟨⟨⟨h4,h1⟩,hv⟩,ha⟩:=h;show(rowB (.tuple q.1)&&ageB q.2)=true;rw[j5u ha,Bool.and_true];show(decide ((1:Int)<=(q.1.length:Int))&&(decide ((q.1.length:Int)<=4)&&q.1.all jbk))=true;rw[decide_eq_true (show(1:Int)<=(q.1.length:Int) by omega),decide_eq_true (show(q.1.length:Int)<=4 by omega)];rw[show q.1.all jbk=true from Bh.mpr λv hv'=>j54 (hv v hv')];rfl
theorem jz3 {q:Nt} (h:okQ q):Th 9 2 (ntD q):=by
 obtain⟨⟨⟨h4,h1⟩,hv⟩,ha⟩:=h;refine th2 (.tuple (by omega) λv hv'=>th_V (hv v hv') (by decide)) ?_ (by decide);rcases ha with e | ⟨i,e,h1,h2⟩
 ·rw[e];exact .non
 ·rw[e];exact .int i (by unfold B30;omega) (by unfold B30;omega)
def fstL:List Ab:=[.none,.bool true,.int 0,.str "",.tuple [],.list [],.tuple [.tuple [],.tuple []],.tuple [.tuple [],.list []],.tuple [.list [],.tuple []],.tuple [.tuple []],.tuple [.tuple [],.tuple [],.tuple []],.tuple [.tuple [],.tuple [.tuple [.tuple [.str "a"],.int 1]]]]
theorem j43:∀d∈fstL,okT d:=λd hd=>⟨9,4,jqv (show jfg 9 4 fstL=true by decide +kernel) d hd,by decide,by decide⟩
theorem jub {δ:Sl} {n:Int} {K:DEnds} {d:Ab} (e:δ[2]?=some (some (.w (.d d)))) (h:okT d) (k:K.nx δ n):sIf (cNot (cT (jac jel (jaa (wVar 2) aNil)))) (sRet (wC (.bool false))) jaj δ n K :=
 if_n (λQ q=>jbq (k:=true) (λQ q=>ct_b (k:=true) (λQ q=>c1_i (jab e ⟨d,rfl,h,q⟩)) q) q) k
theorem j68 {δ:Sl} {n:Int} {a b c d e:DT} {Q:List Ab->Int->Prop} (k:a δ n λx n1=>b δ n1 λy n2=>c δ n2 λz n3=>d δ n3 λu n4=>e δ n4 λv n5=>match ja3 [x,y,z,u,v]with
  |some ds=>ds.length<=1000/\Q ds n5
  |none=>False):fLst (jaa a (jaa b (jaa c (jaa d (jaa e aNil))))) δ n Q:=k
abbrev Zf:List Str:=["_law_script","_law_tape_here","_law_thing","_law_k","_law_plan_here","_law_some"]
theorem jyi:j50 (none::some (.w .tp)::Av (List.length Zf - 2) none) 0 lawEnds:=by
 show j50 [none,some (.w .tp),none,none,none,none] 0 lawEnds;have le:∀{m k:Nat},Nat.ble m k=true->m<=k:=λh=>D2 h;refine jaf ?_;unfold sFor je8;refine(show wOf _ _ _ _ from(Ad (le rfl) (Ad (le rfl) (Ad (le rfl) (Ad (le rfl) (Ad (le rfl) (Ad (le rfl) (Ad (le rfl) (Ad (le rfl) (Ad (le rfl) (Ad (le rfl) (Ad (le rfl) (Ad (le rfl) (Ad (le rfl) (Ad (le rfl) (Ad (le rfl) (Ad (le rfl) (Ad (le rfl) (Ad (le rfl) (Ad (le rfl) (Ad (le rfl) (Ad (le rfl) (Ad (le rfl) (Ad (le rfl) ?_))))))))))))))))))))))));refine jbh (λds δ m=>m=0/\(∀d∈ds,okT d)/\∃x2,δ=[none,some (.w .tp),x2,none,none,none]) (λδ m I=>?_) (λd r δ m N I kN=>?_) _ _ _ ⟨rfl,j43,none,rfl⟩
 ·obtain⟨rfl,_,x2,rfl⟩:=I;dsimp only;refine jaf ?_;unfold ja1;refine c_i (Ad ⟨by decide,by decide⟩ ?_);refine jbh (λds δ n=>∃x2 x3 x4 x5:Option SV,δ=[none,some (.w .tp),x2,x3,x4,x5]/\n+5000*(ds.length:Int)<=16000) (λδ n I=>?_) (λd r δ n N I kN=>?_) _ _ _ ⟨x2,none,none,none,rfl,by rw[jbj];decide⟩
  ·obtain⟨x2,x3,x4,x5,rfl,hn⟩:=I;dsimp only;exact jam (c_i (show lawEnds.rt _ _ from rfl))
  ·obtain⟨x2,x3,x4,x5,rfl,hn⟩:=I;rw[A3]at hn;dsimp only[jad,A6];refine jaf (show sSet 4 _ _ _ _ from c1_i (jab rfl ⟨rfl,by omega,λps ns n1 hp h0 hns hn1=>?_⟩));dsimp only[A6];have tps:∀x∈ps.map prD,Th 9 6 x:=λx hx=>by
    obtain⟨P,hP,rfl⟩:=Cc.mp hx;exact th_P (hp.2 P hP).2.1 (jpx (hp.2 P hP) (h0 P hP)).2 (j58 (hp.2 P hP))
   have tns:∀x∈ns.map ntD,Th 9 2 x:=λx hx=>by
    obtain⟨q,hq,rfl⟩:=Cc.mp hx;exact jz3 (hns.2 q hq)
   have lps:(ps.map prD).length<=5:=by rw[Ai];exact hp.1
   have lns:(ns.map ntD).length<=12:=by rw[Ai];exact hns.1
   have tP:Th 20 8 (.tuple [pgD ps,nsD ns]):=th2 (.tuple (by omega) λx hx=>(tps x hx).mono (by decide) (by decide)) (.tuple (by omega) λx hx=>(tns x hx).mono (by decide) (by decide)) (by decide);have okP:okT (.tuple [pgD ps,nsD ns]):=⟨20,8,tP,by decide,by decide⟩;have eP:jsg (.tuple [pgD ps,nsD ns])=true:=by
    show((decide ((ps.map prD).length<=5)&&(ps.map prD).all jct)&&(decide ((ns.map ntD).length<=12)&&(ns.map ntD).all jca))=true;rw[decide_eq_true lps,decide_eq_true lns,Dj,Dj];rw[show ps.all (jct ∘ prD)=true from Bh.mpr λP hP=>j3r (hp.2 P hP) (h0 P hP),show ns.all (jca ∘ ntD)=true from Bh.mpr λq hq=>j39 (hns.2 q hq)];rfl
   refine jaf (if_n (λQ q=>ct_b (k:=false) (λQ q=>w2_i (c1_i (jab rfl ⟨_,rfl,okP,by rw[eP];exact c_i q⟩))) q) ?_);dsimp only[jaj];have oth:∀(n:Int) (Q:DQ) (x2 x3 x5:Option SV),n+1 < 2 ^ 39->(∀d,Th 20 9 d->Q (.d d) (n+1))->jac jk7 (jaa (wVar 1) (jaa (wVar 4) aNil)) [none,some (.w .tp),x2,x3,some (.w (.d (.tuple [pgD ps,nsD ns]))),x5] n Q:=λn Q x2 x3 x5 hn q=>c2_i (jab rfl (jab rfl ⟨ps.map prD,ns.map ntD,rfl,lps,lns,tps,tns,hn,q⟩));have bent:∀(n:Int) (Q:DQ) (x2 x3 x5:Option SV),n+50 < 2 ^ 39->(∀d n',Th 21 10 d->n'<=n+45->Q (.d d) n')->jac (jfv 20) (jaa (wVar 1) (jaa (wVar 4) aNil)) [none,some (.w .tp),x2,x3,some (.w (.d (.tuple [pgD ps,nsD ns]))),x5] n Q:=λn Q x2 x3 x5 hn q=>c2_i (jab rfl (jab rfl ⟨.tuple [pgD ps,nsD ns],20,8,rfl,tP,by decide,by decide,by decide,by omega,λd n' hd hn'=>q d n' hd (by omega)⟩));refine jaf (show sSet 5 _ _ _ _ from of_i (j68 (jab rfl (oth _ _ _ _ _ (by omega) λd1 t1=>oth _ _ _ _ _ (by omega) λd2 t2=>bent _ _ _ _ _ (by omega) λd3 n3 t3 hn3=>bent _ _ _ _ _ (by omega) λd4 n4 t4 hn4=>Ad (show 5<=1000 by decide) ?_))));dsimp only[A6];refine jab rfl ?_;dsimp only;have hall:∀x∈[Bz [pgD ps,nsD ns],d1,d2,d3,d4],okT x:=λx hx=>by
    simp only[An,Aw,or_false]at hx;rcases hx with rfl | rfl | rfl | rfl | rfl
    ·exact okP
    ·exact⟨20,9,t1,by decide,by decide⟩
    ·exact⟨20,9,t2,by decide,by decide⟩
    ·exact⟨21,10,t3,by decide,by decide⟩
    ·exact⟨21,10,t4,by decide,by decide⟩
   refine(show(λX=>forD _ _ _ X [none,some (.w .tp),x2,some (.w (.d d)),some (.w (.d (.tuple [pgD ps,nsD ns]))),some (.w (.d (.list X)))] n4) [Bz [pgD ps,nsD ns],d1,d2,d3,d4]from ?_);generalize[Bz [pgD ps,nsD ns],d1,d2,d3,d4]=X at hall;refine jbh (λds δ m=>m=n4/\(∀d∈ds,okT d)/\∃x2,δ=[none,some (.w .tp),x2,some (.w (.d d)),some (.w (.d (.tuple [pgD ps,nsD ns]))),some (.w (.d (.list X)))]) (λδ m I=>?_) (λe r δ m N' I kN'=>?_) _ _ _ ⟨rfl,hall,x2,rfl⟩
   ·obtain⟨rfl,_,y,rfl⟩:=I;exact kN _ _ ⟨_,_,_,_,rfl,by omega⟩
   ·obtain⟨rfl,h1,y,rfl⟩:=I;dsimp only[jad,A6];exact jub rfl (h1 e A5) (kN' _ _ ⟨rfl,λx hx=>h1 x (A1 _ hx),_,rfl⟩)
 ·obtain⟨rfl,h1,x2,rfl⟩:=I;dsimp only[jad,A6];exact jub rfl (h1 d A5) (kN _ _ ⟨rfl,λx hx=>h1 x (A1 _ hx),_,rfl⟩)
def top (i:Nat):Stmt:=PySem.Challenge.pw_noteboard_k12_programs_and_plans.main.body.getD i (.Pass ⟨0,0,0,0⟩)
abbrev jpr:Stmt:=top 58
abbrev jps:Stmt:=top 59
abbrev jw9:Stmt:=top 79
abbrev j3b:Stmt:=jpr
abbrev j3d:Stmt:=jps
end Nb
namespace Nb
open PySem L2
section
variable {P:Br} {w:B4} {K:Ag} {mg:Str->Option Af} {base:Heap}
abbrev Zb:List Str:=["_law_script"]
theorem j26:FnScope Zb Zb (jao j3b):=⟨rfl,rfl,rfl,by decide +kernel,rfl,by decide +kernel,by decide +kernel⟩
theorem j1i {f:Addr} {fd:C2} (F:Fun K "_law_tape" "_law_tape" j3b f fd):FnOk P w K mg base CX0 1 f fd Zb (jna K):=by
 refine F.ok j26 (λvs H Q E h=>?_) (λcdv A outer s H vs Q E hr h=>?_)
 ·obtain⟨a,ns,rfl,_⟩:=h;rfl
 ·obtain⟨a,ns,rfl,hS,hl,k⟩:=h;refine⟨_,jf2 (jnm (juv (ja0 (jq6 j0o (pv 0) juq (jup jay)) (ja0 jay (ja0 jay (ja0 (juv (ja0 jq7 (ja0 jq7 (ja0 jq7 (ja0 jay (ja0 jay (ja0 jay (ja0 jay jcg)))))))) jcg)))))),?_⟩;refine⟨_,rfl,_,rfl,a,_,rfl,hS,λp hp=>⟨jsb (by simp),λg hg=>⟨jsb (by simp),λq hq=>?_⟩⟩⟩;rw[j7v (by rw[Ai];exact hl)]at hg hq ⊢;have hgp:g≠p:=λz=>by rw[z,jai]at hg;cases hg
  have hg0:H g=none:=by rw[jag hgp]at hg;exact hg
  have hqg:q≠g:=λz=>by rw[z,jai]at hq;cases hq
  rw[jag hqg]at hq;have hqp:q≠p:=λz=>by rw[z,jai]at hq;cases hq
  have hq0:H q=none:=by rw[jag hqp]at hq;exact hq
  refine k q ⟨p,g⟩ _ ⟨⟨0,0,jai,Int.le_refl _,Int.le_refl _⟩,by rw[jag hqp.symm,jag hgp.symm,jai],hl,(λz=>by rw[jag hqg.symm,jai];rfl),hqg.symm⟩ λb o e=>?_;rw[jag (jae e hq0),jag (jae e hg0),jag (jae e hp)];exact e
abbrev Zi:List Str:=["_law_tape_here","_law_many"]
theorem scDraw:FnScope ["_law_tape_here","_law_many","_law_found","_law_spot","_law_cell","_law_mixed"] Zi (jao j3d):=⟨rfl,rfl,rfl,by decide +kernel,rfl,by decide +kernel,by decide +kernel⟩
theorem jx5 {R:Prop} {G:Int->Prop} (use:(∀c,G c)->R) (fin:∀c,G c):R:=use fin
theorem j65 {R G:Prop} (use:G->R) (fin:G):R:=use fin
theorem j1j {f:Addr} {fd:C2} (F:Fun K "_law_draw" "_law_draw" j3d f fd) (zl:mg "len"=none):FnOk P w K mg base CX0 1 f fd Zi jy0:=by
 refine F.ok scDraw (λvs H Q E h=>?_) (λcdv A outer s H vs Q E hr h=>?_)
 ·obtain⟨t,l,ns,n,many,rfl,_⟩:=h;rfl
 ·obtain⟨t,l,ns,n,many,rfl,T,hn,hm0,hm1,k⟩:=h;obtain⟨a,b,ht,ha0,ha1⟩:=T.ob;have ntl:=T.ne;have hl:=T.ls;have hlen:=T.len;refine⟨_,jbt (jxg (jf1 op_gt (jha ix_list (pv 0) jay (λ_ _=>rfl)) jay (jnu _))
    (jbt (jgo (i:=2) scDraw.nd rfl (D1 rfl) (jci jgp (jha ix_list (pv 0) jay (λ_ _=>rfl)) (pv 1)))
     (jbt (jnn (jci ju5 (jha ix_list (pv 0) jay (λ_ _=>rfl)) (pv 1)) (jq5 (pv 0) jay jhn))
     (jf2 (jnm (pv 2))))) jlp)
   (jbt (jgo (i:=3) scDraw.nd rfl (D1 rfl) (jha ix_list (pv 0) jay (λ_ _=>rfl)))
   (jbt (jnn (jci op_add (pv 3) jay) (jq5 (pv 0) jay jhn))
   (jbt (jgo (i:=4) scDraw.nd rfl (D1 rfl) jay)
   (jbt (jxg (jf1 op_gt (jeg jcv (by rfl) zl PySem.boot_len (ja0 (jha ix_list (pv 0) jay (λ_ _=>rfl)) jcg)) jay (jnu _))
    (jf2 (jgo (i:=4) scDraw.nd rfl (D1 rfl) (jha ix_list (jha ix_list (pv 0) jay (λ_ _=>rfl))
     (jci jgp (pv 3) (jeg jcv (by rfl) zl PySem.boot_len (ja0 (jha ix_list (pv 0) jay (λ_ _=>rfl)) jcg))) (λ_ _=>rfl)))) jlp)
   (jbt (jxg (PW.pt (jy7 (jf1 op_ge (pv 4) (jci jza jay jay) (jnu _))
     (jul (jf1 op_lt (pv 3) (jeg jcv (by rfl) zl PySem.boot_len (ja0 (jha ix_list (pv 0) jay (λ_ _=>rfl)) jcg)) (jnu _)))))
    (jbt (jnn (jci ju5 (pv 4) (pv 1)) (jq5 (pv 0) jay jhn)) (jf2 (jnm (jci jgp (pv 4) (pv 1))))) jlp)
   (jbt (jgo (i:=5) scDraw.nd rfl (D1 rfl) (jci jgp (jci jkq (jci op_add (jci op_add (jci jgp (pv 4) jay) (jci jkq (jci jkq jay (pv 3)) (pv 3))) jay) jay) jay))
   (jf2 (jnm (jci jgp (jci jgp (jci jkq (jci jgp (jci op_add (jci jkq (pv 5) jay) (jci jkq (pv 3) jay)) jay) jay) jay) (pv 1)))))))))),?_⟩
  -- tape[2] > 0
  refine⟨_,rfl,t,_,2,_,rfl,rfl,SqL.of ht,jbs (j:=2) rfl,_,_,rfl,rfl,_,rfl,?_⟩;refine ite2 (λ_=>?_) (λ_=>?_)
  ·-- found=tape[2] % many;tape[2]=tape[2] // many;return found
   refine⟨_,rfl,t,_,2,_,rfl,rfl,SqL.of ht,jbs (j:=2) rfl,_,rfl,_,_,rfl,rfl,hm0,?_⟩;refine⟨_,rfl,t,_,2,_,rfl,rfl,SqL.of ht,jbs (j:=2) rfl,_,rfl,_,_,rfl,rfl,⟨hm0,hm1⟩,?_⟩;refine⟨_,rfl,t,_,2,2,rfl,rfl,ht,rfl,?_⟩;refine⟨_,rfl,?_⟩;refine k _ _ (Int.emod_nonneg _ (by omega)) (F7 _ hm0) ⟨⟨a,b / many,jai,ha0,by omega⟩,by rw[jag ntl.symm];exact hl,hlen,(λz=>by rw[jag T.gne];exact T.ag z),T.gne⟩ Kp.tape
  ·-- spot=tape[1];tape[1]=spot+1;cell=0
   refine⟨_,rfl,t,_,1,_,rfl,rfl,SqL.of ht,jbs (j:=1) rfl,?_⟩;refine⟨_,rfl,_,_,rfl,rfl,_,rfl,t,_,1,1,rfl,rfl,ht,rfl,?_⟩;have ht1:∀o,upd H t o t=some o:=λo=>jai;have hl1:∀o,upd H t o l.s=some (.lst (ns.map V.int)):=λo=>by rw[jag ntl.symm];exact hl
   generalize hH1:upd H t (.lst (((.ref l.s::.int a::.int b::exOf l:List V)).set 1 (.int (a+1))))=H1;have g1:H1 t=some (.lst (.ref l.s::.int (a+1)::.int b::exOf l)):=by rw[<-hH1];exact jai
   have g2:H1 l.s=some (.lst (ns.map V.int)):=by rw[<-hH1];exact hl1 _
   have g3:Kp t H H1:=by rw[<-hH1];exact Kp.tape
   have g4:jtd=true->H1 l.g=some (.lst jyq):=λz=>by rw[<-hH1,jag T.gne];exact T.ag z
   refine⟨_,rfl,t,_,0,_,rfl,rfl,SqL.of g1,jbs (j:=0) rfl,l.s,_,rfl,.inl (SqL.of g2),_,_,rfl,rfl,_,rfl,?_⟩;apply jx5
   case use =>
    intro fin;refine ite2 (λhp=>?_) (λ_=>?_)
    ·have hpos:(0:Int) < ((ns.map V.int).length:Int):=of_decide_eq_true hp;obtain⟨v,hv,hm⟩:=j2b (xs:=ns.map V.int) (r:=a % ((ns.map V.int).length:Int)) (Int.emod_nonneg _ (by omega)) (F7 _ hpos);obtain⟨c,_,rfl⟩:=Cc.mp hm;refine⟨_,rfl,t,_,0,_,rfl,rfl,SqL.of g1,jbs (j:=0) rfl,_,rfl,_,rfl,t,_,0,_,rfl,rfl,SqL.of g1,jbs (j:=0) rfl,l.s,_,rfl,.inl (SqL.of g2),_,_,rfl,rfl,hpos,l.s,_,_,.int c,rfl,rfl,SqL.of g2,hv,?_⟩;exact fin c
    ·exact fin 0
   case fin =>
    intro c;refine⟨_,rfl,_,_,rfl,rfl,⟨by decide,by decide,by decide⟩,_,_,rfl,rfl,_,rfl,?_⟩;apply j65
    case use =>
     intro fin;refine ite2 (λ_=>?_) (λ_=>?_)
     ·refine⟨_,rfl,_,rfl,t,_,0,_,rfl,rfl,SqL.of g1,jbs (j:=0) rfl,l.s,_,rfl,.inl (SqL.of g2),_,_,rfl,rfl,_,rfl,?_⟩;refine ite2 (λ_=>?_) (λ_=>fin);refine⟨_,rfl,_,rfl,_,_,rfl,rfl,⟨hm0,hm1⟩,_,rfl,t,_,2,2,rfl,rfl,g1,rfl,_,rfl,_,rfl,_,_,rfl,rfl,hm0,?_⟩;exact k _ _ (Int.emod_nonneg _ (by omega)) (F7 _ hm0) ⟨⟨a+1,_,jai,by omega,by omega⟩,by rw[jag ntl.symm];exact g2,hlen,(λz=>by rw[jag T.gne];exact g4 z),T.gne⟩ (g3.trans Kp.tape)
     ·exact iteF fin
    case fin =>
     refine⟨_,rfl,_,_,rfl,rfl,(by show(0:Int) < 999331;decide),_,rfl,_,_,rfl,rfl,.inl ⟨by decide,by decide⟩,_,rfl,_,_,rfl,rfl,.inl ⟨by omega,by omega⟩,_,_,rfl,rfl,_,_,rfl,rfl,_,_,rfl,rfl,.inr ⟨by decide,by decide⟩,_,_,rfl,rfl,(by show(0:Int) < 999961;decide),?_⟩;refine⟨_,rfl,_,_,rfl,rfl,.inr ⟨by decide,by decide⟩,_,rfl,_,_,rfl,rfl,.inr ⟨by decide,by decide⟩,_,_,rfl,rfl,_,_,rfl,rfl,(by show(0:Int) < 999953;decide),_,_,rfl,rfl,.inr ⟨by decide,by decide⟩,_,_,rfl,rfl,(by show(0:Int) < 524287;decide),_,rfl,_,_,rfl,rfl,hm0,?_⟩;exact k _ _ (Int.emod_nonneg _ (by omega)) (F7 _ hm0) ⟨⟨a+1,b,g1,by omega,by omega⟩,g2,hlen,g4,T.gne⟩ g3
end
end Nb
namespace Nb
open PySem L2 DL
theorem ls1 {α:Type} {us:List α} (h:us.length=1):∃a,us=[a]:=match us,h with | [a],_=>⟨a,rfl⟩
theorem ls2 {α:Type} {us:List α} (h:us.length=2):∃a b,us=[a,b]:=match us,h with | [a,b],_=>⟨a,b,rfl⟩
theorem ls3 {α:Type} {us:List α} (h:us.length=3):∃a b c,us=[a,b,c]:=match us,h with | [a,b,c],_=>⟨a,b,c,rfl⟩
theorem ls4 {α:Type} {us:List α} (h:us.length=4):∃a b c d,us=[a,b,c,d]:=match us,h with | [a,b,c,d],_=>⟨a,b,c,d,rfl⟩
theorem ls5 {α:Type} {us:List α} (h:us.length=5):∃a b c d e,us=[a,b,c,d,e]:=match us,h with | [a,b,c,d,e],_=>⟨a,b,c,d,e,rfl⟩
theorem scM {N ps:List Str} {S:Eo} (h1:S.kind=.function:=by rfl) (h2:S.isCoroutine=false:=by rfl) (h3:S.isGenerator=false:=by rfl) (h4:N.Nodup:=by decide +kernel) (h5:N.take ps.length=ps:=by rfl) (h6:∀x∈ps,S.names.lookup x=some .local\/S.names.lookup x=some .cell:=by decide +kernel) (h7:∀y∈S.names,y.2≠.free:=by decide +kernel):FnScope N ps S:=⟨h1,h2,h3,h4,h5,h6,h7⟩
theorem d_cA {X:Cx} {e:Expr} {es:List Expr} {pos p:Pos} {tR:TA} {wR:DTA} {k k':Nat} {ps:List Str} {S:DSp} {x:Str} (h:Has X.prog X.w X.K X.mg X.base k x ps S) (hr:Room k' X.A) (ha:DA X (e::es) tR wR) (hk:k<=k') (hg:Gl X x) (hdb:(x==("__debug__":Str))=false) (he:A8 (e::es) X.env=(false,eval e X.env)::A8 es X.env) (hpl:(Ek pos (A8 es X.env)).any (·.1)=false):DE X (.Call (.Name x p) (e::es) [] pos) (jpn (spOf S) [] E0 tR) (jac S wR):=j1z h (hr.mono hk) hg ha hdb he hpl
def isL:NameKind->Bool
 |.local=>true
 |_=>false
def isF:NameKind->Bool
 |.free=>true
 |_=>false
def cFr (sc:Eo):List Str:=(sc.names.filter λy=>isF y.2).map (·.1)
def cN (sc:Eo):List Str:=((sc.names.drop 1).filter λy=>isL y.2).map (·.1)++cFr sc
def cCl (sc:Eo) (cells:List (Str×Addr)):List (Str×Addr):=(cFr sc).reverse.map λx=>(x,(cells.lookup x).getD 0)
def cRl (sc:Eo):List (Str×NameKind):=sc.names.map λy=>(y.1,bif isF y.2 then .cell else y.2)
inductive Frs (X:Cx) (sc:Eo):List (Option Nat)->List Str->Prop
 |nil:Frs X sc [] []
 |own {f:List (Option Nat)} {x:Str} {N:List Str} (h:Frs X sc f N):Frs X sc (none::f) (x::N)
 |free {f:List (Option Nat)} {x:Str} {N:List Str} {i:Nat} (h1:X.N[i]?=some x) (h2:Vis X.env.scope x) (h3:X.env.kindOf x=some .cell\/X.env.kindOf x=some .free) (h4:(cRl sc).lookup x=some .cell\/(cRl sc).lookup x=some .free) (h5:(cCl sc X.env.cells).lookup x=X.env.cells.lookup x) (h:Frs X sc f N):Frs X sc (some i::f) (x::N)
theorem Frs.len {X:Cx} {sc:Eo} {f:List (Option Nat)} {N:List Str} (h:Frs X sc f N):f.length=N.length:=by
 induction h with
 |nil=>rfl
 |own _ ih=>rw[A3,A3,ih]
 |free _ _ _ _ _ _ ih=>rw[A3,A3,ih]
theorem j7w {X:Cx} {sc:Eo} {f:List (Option Nat)} (h1:closureFor sc X.env=pure (cCl sc X.env.cells)) (h2:sc.kind=.function) (h3:∀y∈sc.names,y.2≠.cell) (h4:∀y∈sc.names,y.2=.local->sc.names.lookup y.1=some .local) (h5:((cFr sc).all λx=>(X.env.cells.lookup x).isSome)=true) (h6:(relabel sc X.env).names=cRl sc) (h7:∀y∈cRl sc,(y.2=.cell\/y.2=.free)->y.1∈(cFr sc).reverse) (h8:Frs X sc f (cN sc)):CompSc X (cN sc) sc (cCl sc X.env.cells) f:=by
 refine⟨h1,h2,h3,h4,jsm λy hy=>?_,jyb _ _ h6 (show(cCl sc X.env.cells).map (·.1)=(cFr sc).reverse by unfold cCl;rw[List.map_map];exact List.map_id' _) h7,h8.len,?_⟩
 ·obtain⟨x,hx,rfl⟩:=Cc.mp hy;obtain⟨c,hc⟩:=Option.isSome_iff_exists.mp (Bh.mp h5 x (List.mem_reverse.mp hx));show X.env.cells.lookup x=some ((X.env.cells.lookup x).getD 0);rw[hc];rfl
 ·intro j i h;rw[h6];clear h1 h2 h3 h4 h5 h6 h7;generalize cN sc=N at h8 ⊢
  induction h8 generalizing j with
  |nil=>cases h
  |own _ ih=>cases j with
   |zero=>cases h
   |succ j=>exact ih j h
  |free a b c d e _ ih=>cases j with
   |zero=>cases h;exact⟨_,rfl,a,b,c,d,e⟩
   |succ j=>exact ih j h
theorem gFr {X:Cx} {sc:Eo} {f:List (Option Nat)} {N:List Str} (h:Frs X sc f N):Frs X sc f N:=h
theorem kC {X:Cx} {N:List Str} {sc:Eo} {cl:List (Str×Addr)} {s:Aj} {H:Hp} {fp:List Addr} {K:Ag} (h:X.K=K):(ja8 X N sc cl s H fp).K=K:=h
theorem nC {X:Cx} {N:List Str} {sc:Eo} {cl:List (Str×Addr)} {s:Aj} {H:Hp} {fp:List Addr} (h:N.Nodup):(ja8 X N sc cl s H fp).N.Nodup:=h
def zL:List Str:=["all","bool","enumerate","int","isinstance","len","list","range","repr","set","sorted","str","tuple","zip"]
theorem zU {mg:Str->Option Af} {x:Str} (z:∀x∈zL,mg x=none) (h:x∈zL):mg x=none:=z x h
theorem j5o:By "set"=some (.type "set"):=by decide +kernel
theorem jwd:By "sorted"=some (.builtin "sorted"):=by decide +kernel
section
variable {P:Br} {w:B4} {K:Ag} {mg:Str->Option Af} {base:Heap} {fa:Addr} {fd:C2}
theorem gDE {X:Cx} {e:Expr} {t:TE} {w:DT} (h:DE X e t w):DE X e t w:=h
theorem gDA {X:Cx} {e:List Expr} {t:TA} {w:DTA} (h:DA X e t w):DA X e t w:=h
theorem gDS {X:Cx} {e:Stmt} {t:TS} {w:DST} (h:DS X e t w):DS X e t w:=h
theorem gDSs {X:Cx} {e:List Stmt} {t:TS} {w:DST} (h:DSs X e t w):DSs X e t w:=h
theorem gDC {X:Cx} {e:Expr} {t:TT} {w:DTT} (h:DC X e t w):DC X e t w:=h
theorem gDF {X:Cx} {e:Expr} {t:TE} {w:DTF} (h:DF X e t w):DF X e t w:=h
theorem gDI {X:Cx} {g e:Expr} {t:TI} {w:DTI} (h:DI X g e t w):DI X g e t w:=h
theorem j6n {X:Cx} {b rest:List Stmt} {st:Stmt} {T:TS} {W:DST} (e:b=st::rest) (h:DSs X (st::rest) T W):DSs X b T W:=e▸h
theorem bnd {x:Str} {st:Stmt} {ps:List Str} (F:Fun K x x st fa fd) (h:∀(kV doc pm:Af) (an:Option Addr) (cdv ct:Af) (us:List Af),us.length=ps.length->bindArgs (Eu x x (je9 st) (jb2 st) (jao st) .none kV doc pm an cdv ct) ⟨us,[]⟩=pure (ps.zip us):=by
 intro _ _ _ _ _ _ us hl
 first
  |obtain⟨_,rfl⟩:=ls1 hl;rfl
  |obtain⟨_,_,rfl⟩:=ls2 hl;rfl
  |obtain⟨_,_,_,rfl⟩:=ls3 hl;rfl
  |obtain⟨_,_,_,_,rfl⟩:=ls4 hl;rfl
  |obtain⟨_,_,_,_,_,rfl⟩:=ls5 hl;rfl):Binds K fd ps []:=F.binds h
def Bnd (x:Str) (st:Stmt) (ps:List Str):Prop:=∀{K:Ag} {fa:Addr} {fd:C2},Fun K x x st fa fd->Binds K fd ps []
def Wire (P:Br) (w:B4) (K:Ag) (mg:Str->Option Af) (base:Heap) (k:Nat) (x:Str) (i:Nat) (fa:Addr) (N:List Str) (b:List Stmt) (W:DST):Prop:=N.Nodup->∀(cdv:Af) (A:B9) (outer:List Env) (s:Aj) (H:Hp) (E:XK),Room k (A.deeper (Ep x (jao (top i)) s.heap.objs.size fa cdv))->∃T,DSs (cxOf CX0 P w K mg base N x (jao (top i)) fa cdv A outer s H E).nox b T W
theorem auD {k:Nat} {x:Str} {i:Nat} {N:List Str} {b:List Stmt} {W:DST} (h:N.Nodup->∀(cdv:Af) (A:B9) (outer:List Env) (s:Aj) (H:Hp) (E:XK),Room k (A.deeper (Ep x (jao (top i)) s.heap.objs.size fa cdv))->∃T,DSs (cxOf CX0 P w K mg base N x (jao (top i)) fa cdv A outer s H E).nox b T W:=by
 intro nd cdv A outer s H E hr;apply Dt;apply j6n (by exact rfl)
 repeat' first
  |with_reducible first | exact j5q | exact j16 | exact j5p | exact jzt | exact PySem.boot_len | exact jqj | exact PyProof.Rows.boot_range | exact j15 | exact j5o | exact jwd | exact j5n | exact jyh
  |with_reducible first | apply Room.units | apply Room.units0 | apply Room.hd | apply Room.gd
  |exact rfl
  |exact D1 rfl
  |exact C0 (D1 rfl)
  |exact C0 (C0 rfl)
  |exact C0 rfl
  | (with_reducible apply gDE;with_reducible first | apply j7e | apply j7s | apply d_cA | apply j7f | apply j7i | apply j7q | apply j7u | apply jmd (joe ?_) jqy ?_ ?_ ?_ ?_ ?_ ?_ ?_ ?_ | apply j5e | apply d_bl | apply j7p | apply j1w | apply j5i | apply jmd (jwc ?_) j0n ?_ ?_ ?_ ?_ ?_ ?_ ?_ ?_ | apply j5f | apply j7n | apply jqh (ju6 ?_ ?_) jpq | apply j5h | apply jmd (joe ?_) jw5 ?_ ?_ ?_ ?_ ?_ ?_ ?_ ?_ | apply jhp (jin ?_) jr9 ?_ ?_ ?_ ?_ ?_ ?_ ?_ ?_ | apply j1y jns jnc jns jnc ?_ ?_ ?_ ?_ | apply d_or | apply j7h | apply jmd jsv jt4 ?_ ?_ ?_ ?_ ?_ ?_ ?_ ?_ | apply j5d | apply jqh jzb jy1 | apply jhp (jky ?_) jt5 ?_ ?_ ?_ ?_ ?_ ?_ ?_ ?_ | apply j7m | apply j1x | apply j7o | apply j7g | apply j7t | apply j5c | apply jqh jzc jt6 | apply jqh jns jnc | apply jhp (jin ?_) jkm ?_ ?_ ?_ ?_ ?_ ?_ ?_ ?_ | apply j7k | apply j5j | apply j5b | apply j7j | apply jqh j35 j22 | apply jqh (ju2 ?_) jh2 | apply jqh (jzd ?_ ?_) jy2 | apply jhp jsu jw2 ?_ ?_ ?_ ?_ ?_ ?_ ?_ ?_ | apply j7l | apply DF.d)
  | (with_reducible apply gDA;with_reducible first | apply j5z | apply j76)
  | ((with_reducible apply gDS);first | ((with_reducible apply j27);case hx=>exact rfl) | ((with_reducible apply j28);case hx=>exact rfl) | with_reducible first | apply j6f | apply s_if | apply j6e | apply j6l | apply j6m | apply j6h | apply j6d | apply j29 | apply j6g)
  | (with_reducible apply gDSs;with_reducible first | apply j6k | apply j3a | apply j6j | apply j6i)
  | ((with_reducible apply gDC);first | (with_reducible apply DCW.cc;with_reducible first | apply cw_and | apply cw_or) | with_reducible first | apply j7z | apply jgd (ju6 ?_ ?_) j0l | apply jgd jzb jy1 | apply jgd j34 j21 | apply jgd (ju6 ?_ ?_) jpq | apply jgd j6u j20 | apply jgd (jnr ?_) jh2 | apply j70 | apply jgd (j1e ?_ ?_) j25 | apply jgd (jnr ?_) j0j | apply jgd j1d j0i | apply jgd (ju2 ?_) jh2 | apply jgd j1c jw3 | apply jgd (jzd ?_ ?_) jy2 | apply jgd jzc jt6 | apply j14 jns jnc jns jnc ?_ ?_ ?_ ?_ | apply j7y)
  | (with_reducible apply gDF;with_reducible first | apply j7c | apply jvv | apply j7d | apply jvu | apply jx7)
  | (with_reducible apply gDI;with_reducible first | apply jx2 | apply j4q | apply j4t | apply j4r | apply j1r | apply j63)
  |with_reducible first | apply j4z | apply jpz | apply cw_or | apply j4p | apply cw_or1 | apply j37 | apply j38 | apply j1t | apply cw_and | apply j4o | apply cw_and1 | apply j4y | apply j4x | apply j1m | apply j7w
  |assumption
  |with_reducible first | apply kC | apply nC
  | ((with_reducible apply gFr);first | apply Frs.nil | apply Frs.own | apply Frs.free)
  |exact jnu _
  |exact λ_ _=>rfl
  |exact λ_=>rfl
  |exact zU (by assumption) (by decide +kernel)
  |exact PassesOwn.never
  |exact⟨rfl,rfl,rfl,rfl⟩
  |with_unfolding_all rfl
  |decide
  |decide +kernel
  |omega
  |exact C0 (C0 (D1 rfl))
  |exact C0 (C0 (C0 (D1 rfl)))
  |exact C0 (C0 (C0 (C0 rfl)))
  |intro(_:Aj) _ _
  |exact(0:Int)):Wire P w K mg base k x i fa N b W:=h
theorem hasD {i p:Nat} {N:List Str} {S:DSp} {W:DST} (k:Nat) (x:Str) (F:Fun K x x (top i) fa fd/\mg x=some (.ref fa)) (len:∀ws n Q,S ws n Q->ws.length=p) (body:∀ws n Q,S ws n Q->W (jah N ws) n {nx:=λ_ n=>Q (.d .none) n,rt:=Q}) (hp:(N.take p).length=p:=by rfl) (Sc:FnScope N (N.take p) (jao (top i)):=by exact scM) (b:Bnd x (top i) (N.take p):=by intro _ _ _ F;exact bnd F)
  (h:Wire P w K mg base k x i fa N (jb2 (top i)) W:=by exact auD):Has P w K mg base (k+1) x (N.take p) S :=
 Has.mk' F.1 F.2 (b F.1) (Fun.okD F.1 Sc (λws n Q q=>by rw[hp];exact len ws n Q q) λcdv A outer s H E hr=>(h Sc.nd cdv A outer s H E hr).elim λT d=>⟨T,W,d,body⟩)
theorem hasR {i p:Nat} {N:List Str} {S:Nat->DSp} {W:DSp->DST} (c0:Nat) (x:Str) (F:Fun K x x (top i) fa fd/\mg x=some (.ref fa)) (len:∀d ws n Q,S d ws n Q->ws.length=p) (z:∀ws n Q,¬S 0 ws n Q) (body:∀d ws n Q,S (d+1) ws n Q->W (S d) (jah N ws) n {nx:=λ_ n=>Q (.d .none) n,rt:=Q}) (D:Nat) (hp:(N.take p).length=p:=by rfl) (Sc:FnScope N (N.take p) (jao (top i)):=by exact scM) (b:Bnd x (top i) (N.take p):=by intro _ _ _ F;exact bnd F)
  (h:∀k d:Nat,c0<=k->Has P w K mg base k x (N.take p) (S d)->Wire P w K mg base k x i fa N (jb2 (top i)) (W (S d)):=by intro k d hk hS;exact auD):Has P w K mg base (c0+D) x (N.take p) (S D):=by
 induction D with
 |zero=>exact Has.mk' F.1 F.2 (b F.1) ⟨λvs H Q E h=>(by obtain⟨_,_,_,_,_,_,_,_,_,_,_,q,_⟩:=h;exact absurd q (z _ _ _)),λA outer s H args us vs Q E hr he hb hv h=>(by obtain⟨_,_,_,_,_,_,_,_,_,_,_,q,_⟩:=h;exact absurd q (z _ _ _))⟩
 |succ d ih=>exact Has.mk' F.1 F.2 (b F.1) (Fun.okD F.1 Sc (λws n Q q=>by rw[hp];exact len (d+1) ws n Q q) λcdv A outer s H E hr=>(h (c0+d) d (Nat.le_add_right _ _) ih Sc.nd cdv A outer s H E hr).elim λT e=>⟨T,W (S d),e,body d⟩)
theorem okL {fT:Addr} {fdT:C2} {i:Nat} {N:List Str} {W:DST} {s0:Stmt} {rest:List Stmt} (k:Nat) (F:Fun K "law" "law" (top i) fa fd) (GT:FnOk P w K mg base CX0 1 fT fdT Zb (jna K)) (bT:Binds K fdT Zb []) (mT:mg "_law_tape"=some (.ref fT)) (kT:Cz K (.ref fT)=true) (hW:W (none::some (.w .tp)::Av (N.length - 2) none) 0 lawEnds) (e:jb2 (top i)=s0::rest) (h0:N.Nodup->∀(cdv:Af) (A:B9) (outer:List Env) (s:Aj) (H:Hp) (E:XK),Room k (A.deeper (Ep "law" (jao (top i)) s.heap.objs.size fa cdv))->PS (cxOf CX0 P w K mg base N "law" (jao (top i)) fa cdv A outer s H E).nox s0 (tAsg (jpn (jna K) [] E0 (jdi (tVar 0) tNil)) (jhg 1))) (hN:∀v,start N [v]=some v::none::Av (N.length - 2) none:=by intro _;rfl) (Sc:FnScope N Zb (jao (top i)):=by exact scM)
  (h:Wire P w K mg base k "law" i fa N rest W:=by exact auD):FnOk P w K mg base CX0 (k+1) fa fd Zb (DL.spLaw K) :=
 j4e F Sc GT bT mT kT hN hW λcdv A outer s H E hr=>(h Sc.nd cdv A outer s H E hr).elim λT d=>⟨s0,rest,T,e,h0 Sc.nd cdv A outer s H E hr,d⟩
end
abbrev oT (t:String) (d:Data):Obj:=⟨.type t,none,d,#[]⟩
structure Ds where
 i:Nat
 x:Str
 t:Nat
 l:Nat
 n:Nat
 r:Nat
 b:Bool
 v:Nat
 m:Nat
abbrev Ds.c (d:Ds):Nat:=if d.b then d.r+5 else d.r+3
abbrev Ds.f (d:Ds):Nat:=if d.b then d.r+6 else d.r+4
abbrev mOd (m:Nat):Af:=[(.str "noteboard.values" 187),(.str "noteboard.patterns" 260),(.str "noteboard.acts" 327),(.str "noteboard.programs" 408),(.str "law_noteboard_k12_programs_and_plans" 510)].getD m .none
abbrev fdO (d:Ds):C2:=Eu d.x d.x (je9 (top d.i)) (jb2 (top d.i)) (jao (top d.i)) .none .none .none (mOd d.m) none (.ref d.c) .none
abbrev oF (d:Ds):Obj:=oT "function" (.func (fdO d))
abbrev oC (d:Ds):Obj:=oT "code" (.fields #[.str d.x d.t,.str d.x (d.t+1),.str "/claim/cut.py" (d.t+2),.int d.l 0,.int d.n 0,.int 0 0,.int 0 0,.int 3 0,.ref d.r,.bool true,.int 181 0,.ref (d.r+1),.none,if d.b then .ref (d.r+2)else .none,if d.b then .ref (d.r+3)else .none,.ref (if d.b then d.r+4 else d.r+2),.int d.v 0,.int d.l 0,.str "/claim/cut.py" (d.v+1)])
abbrev eN (P:Params) (x:Str) (t:Nat) (v:Af):DictEntry:=⟨PyData.keyHash P x,.str x t,v⟩
abbrev en (P:Params) (d:Ds):DictEntry:=eN P d.x (d.v+2) (.ref d.f)
def dL:List Ds:=[⟨6,"is_whole",199,7,1,15,true,203,0⟩,⟨7,"is_letters",206,9,2,22,false,209,0⟩,⟨8,"is_word",212,13,1,27,true,216,0⟩,⟨9,"is_number",219,15,1,34,true,223,0⟩,⟨10,"is_value",226,17,1,41,true,230,0⟩,⟨11,"is_name",233,19,1,48,true,237,0⟩,⟨12,"is_row",240,21,1,55,false,243,0⟩,⟨13,"is_age",246,25,1,60,true,250,0⟩,⟨14,"is_note",253,27,1,67,true,257,0⟩,⟨17,"is_headed",264,31,3,74,true,270,1⟩,⟨18,"is_named",273,33,2,81,true,278,1⟩,⟨19,"is_term",281,35,1,88,true,285,1⟩,⟨20,"is_pattern_field",288,39,1,95,true,292,1⟩,⟨21,"is_template_field",295,43,1,102,true,299,1⟩,⟨22,"has_field_count",302,45,1,109,true,306,1⟩,⟨23,"is_pattern",309,47,1,116,false,312,1⟩,⟨24,"is_template",315,49,1,121,false,318,1⟩,⟨25,"binds",321,51,1,126,false,324,1⟩,⟨29,"is_block_number",333,56,1,131,true,337,2⟩,⟨30,"is_lay",340,58,1,138,true,344,2⟩,⟨31,"is_take",347,60,1,145,true,351,2⟩,⟨32,"is_read",354,62,1,152,true,358,2⟩,⟨33,"is_look",361,64,1,159,true,365,2⟩,⟨34,"is_same",368,66,1,166,true,372,2⟩,⟨35,"is_go",375,70,1,173,true,379,2⟩,⟨36,"is_act",382,72,1,180,true,386,2⟩,⟨37,"is_wanted",389,76,1,187,false,392,2⟩,⟨38,"is_acts",395,82,1,192,false,398,2⟩,⟨39,"is_block",401,84,1,197,true,405,2⟩,⟨46,"known_at",424,92,3,206,true,434,3⟩,⟨47,"fields_of",437,100,1,213,true,441,3⟩,⟨48,"first_unknown",444,104,2,220,true,451,3⟩,⟨49,"can_lead",454,109,3,227,false,457,3⟩,⟨50,"wrong_word",460,111,3,232,true,470,3⟩,⟨51,"has_right_acts",473,121,2,239,false,476,3⟩,⟨52,"is_blocks",479,124,1,244,false,482,3⟩,⟨53,"is_program",485,128,1,249,false,488,3⟩,⟨54,"is_programs",491,132,1,254,false,494,3⟩,⟨55,"is_plan_notes",497,136,1,259,false,500,3⟩,⟨56,"is_plan",503,138,1,264,true,507,3⟩,⟨58,"_law_tape",512,141,1,271,true,516,4⟩,⟨59,"_law_draw",519,143,2,278,true,528,4⟩,⟨60,"_law_value",531,158,1,285,true,535,4⟩,⟨61,"_law_size",538,160,1,292,true,542,4⟩,⟨62,"_law_age",545,162,1,299,true,549,4⟩,⟨63,"_law_pattern",552,164,2,306,true,563,4⟩,⟨64,"_law_template",566,181,2,313,true,574,4⟩,⟨65,"_law_term",577,190,2,320,true,582,4⟩,⟨66,"_law_act",585,194,3,327,true,595,4⟩,⟨67,"_law_program",598,207,1,334,false,601,4⟩,⟨68,"_law_notes",604,224,2,339,false,607,4⟩,⟨69,"_law_plan",610,230,1,344,false,613,4⟩,⟨70,"_law_is_whole",616,235,3,349,true,622,4⟩,⟨71,"_law_is_small",625,237,2,356,false,628,4⟩,⟨72,"_law_odd",631,241,1,361,true,636,4⟩,⟨73,"_law_bent",639,245,2,368,true,647,4⟩,⟨74,"_law_is_note",650,257,1,375,false,653,4⟩,⟨75,"_law_are_programs",656,263,1,380,false,659,4⟩,⟨76,"_law_is_plan",662,265,1,385,false,665,4⟩,⟨77,"_law_other",668,270,2,390,false,671,4⟩,⟨78,"_law_right",674,281,1,395,true,679,4⟩,⟨79,"law",682,288,1,402,true,691,4⟩]
def KK (P:Params):Ag:=let e:=eN P
 (3,oT "dict" (.dict ([e "__name__" 165 (.str "law_noteboard_k12_programs_and_plans" 510),e "__doc__" 166 .none,e "__package__" 167 .none,e "__loader__" 168 (.builtin "__main__.__loader__#opaque"),e "__spec__" 169 .none,e "__annotations__" 170 (.ref 6),e "__builtins__" 171 (.ref 4),e "__file__" 173 (.str "/claim/cut.py" 172),e "__cached__" 174 .none,e "LONGEST_WORD" 190 (.int 8 189),e "LONGEST_NAME" 192 (.int 4 191),e "LONGEST_ROW" 194 (.int 4 193),e "GREATEST_NUMBER" 196 (.int 99 195),e "GREATEST_AGE" 198 (.int 20 197)]++((dL.drop 0).take 9).map (en P)++[e "MOST_FIELDS" 263 (.int 4 262)]++((dL.drop 9).take 9).map (en P)++[e "MOST_WANTED" 330 (.int 4 329),e "MOST_ACTS" 332 (.int 8 331)]++((dL.drop 18).take 11).map (en P)++[e "MOST_BLOCKS" 411 (.int 6 410),e "MOST_PROGRAMS" 413 (.int 5 412),e "MOST_NOTES" 415 (.int 12 414),e "GETTING" 419 (.ref 204),e "LEADING" 423 (.ref 205)]++((dL.drop 29).take 33).map (en P)).toArray 84))::(dL.flatMap λd=>[(d.c,oC d),(d.f,oF d)])++[(204,oT "tuple" (.seq #[(.str "take" 416),(.str "read" 417),(.str "look" 418)] 0)),(205,oT "tuple" (.seq #[(.str "look" 420),(.str "same" 421),(.str "go" 422)] 0))]
def aS:List Addr:=3::(dL.flatMap λd=>[d.c,d.f])++[204,205]
abbrev pp:Br:=PySem.Challenge.pw_noteboard_k12_programs_and_plans
abbrev qq:Br:=PySem.W.view pp [79]
def lO:List Str:=(["LONGEST_WORD","LONGEST_NAME","LONGEST_ROW","GREATEST_NUMBER","GREATEST_AGE","is_whole","is_letters","is_word","is_number","is_value","is_name","is_row","is_age","is_note","MOST_FIELDS","is_headed","is_named","is_term","is_pattern_field","is_template_field","has_field_count","is_pattern","is_template","binds","MOST_WANTED","MOST_ACTS","is_block_number","is_lay","is_take","is_read","is_look","is_same","is_go","is_act","is_wanted","is_acts","is_block","MOST_BLOCKS","MOST_PROGRAMS","MOST_NOTES","GETTING","LEADING","known_at","fields_of","first_unknown","can_lead","wrong_word","has_right_acts","is_blocks","is_program","is_programs","is_plan_notes","is_plan","_law_tape","_law_draw","_law_value","_law_size","_law_age","_law_pattern","_law_template","_law_term","_law_act","_law_program","_law_notes","_law_plan","_law_is_whole","_law_is_small","_law_odd","_law_bent","_law_is_note","_law_are_programs","_law_is_plan","_law_other","_law_right"]:List String).map Cm
abbrev xT:Aj->Bool:=λs=>PySem.W.xlAt qq [] s&&PySem.W.recOk (PySem.W.RowW.records PySem.Challenge.rw_noteboard_k12_programs_and_plans.row.toRowW) s
theorem aK:∀P,aS=(KK P).map (·.1):=λP=>by kernel_rfl
abbrev hK:PySem.W.Hook:=PySem.W.kHook KK aS aK
theorem left_:PySem.W.LeftO pp qq lO xT hK.obs hK.val 3000:=λw=>by kernel_rfl
def j49 (s:Stmt):Pos:=match s with
 |.FunctionDef _ _ _ _ _ _ _ _ _ p=>p
 |_=>⟨0,0,0,0⟩
def dW:DefRec:=⟨"law",je9 jw9,jb2 jw9,jao jw9,j49 jw9⟩
theorem said_:PySem.Challenge.rw_noteboard_k12_programs_and_plans.wellSaid=true:=by kernel_rfl
theorem fnE (P:Params):(dL.map λd=>(PySem.W.nsIn (KK P) Dq d.x,(KK P).lookup d.f,PySem.W.codeIn (KK P) (.ref d.c) d.x))=dL.map λd=>(some (some (.ref d.f)),some (oF d),true):=by kernel_rfl
theorem jzh {α β:Type} {f g:α->β} {l:List α} (h:l.map f=l.map g) {j:Nat} {a:α} (e:l[j]?=some a):f a=g a:=by
 have:=congrArg (λl=>l[j]?) h;simp only[Ba,e,Option.map_some]at this;exact Bo this
theorem zE (P:Params):(zL.map λx=>PySem.W.nsIn (KK P) Dq x)=zL.map λ_=>some none:=by kernel_rfl
section
variable {P:Params} {h:Heap} {mg:Str->Option Af} (X:(KK P).In h) (G:h.Ns Dq mg)
include X G
theorem fnK (j:Nat) (d:Ds) (e:dL[j]?=some d):(Fun (KK P) d.x d.x (top d.i) d.f (fdO d)/\mg d.x=some (.ref d.f))/\Cz (KK P) (.ref d.f)=true:=by
 have q:=jzh (fnE P) e;obtain⟨q1,q2⟩:=Prod.mk.inj q;obtain⟨q2,q3⟩:=Prod.mk.inj q2;have k:Cz (KK P) (.ref d.f)=true:=by
  unfold Cz;simp only[q2]
 exact⟨⟨j42 q2 q3 k,Ct X G q1⟩,k⟩
theorem zK (x:Str) (h:x∈zL):mg x=none:=by
 obtain⟨j,e⟩:=List.mem_iff_getElem?.mp h;exact PySem.W.mg_none_of X G (jzh (zE P) e)
end
abbrev pR:Br:=PySem.W.OpenLaw.prog PySem.Challenge.rw_noteboard_k12_programs_and_plans
structure Cv where
 P:Br
 w:B4
 K:Ag
 mg:Str->Option Af
 base:Heap
abbrev jau (c:Cv):Prop:=Has c.P c.w c.K c.mg c.base 1 "_law_draw" Zi jat
abbrev jem (c:Cv):Prop:=Has c.P c.w c.K c.mg c.base 1 "is_whole" Za (spJ jdl)
abbrev jd9 (c:Cv):Prop:=Has c.P c.w c.K c.mg c.base 1 "is_letters" ["thing","longest"] jcr
abbrev jo5 (c:Cv):Prop:=Has c.P c.w c.K c.mg c.base 2 "is_word" Za (spJ (letB 8))
abbrev jji (c:Cv):Prop:=Has c.P c.w c.K c.mg c.base 2 "is_number" Za (spJ numB)
abbrev jgl (c:Cv):Prop:=Has c.P c.w c.K c.mg c.base 3 "is_value" Za (spJ jbk)
abbrev jjj (c:Cv):Prop:=Has c.P c.w c.K c.mg c.base 2 "is_name" Za (spJ (letB 4))
abbrev jrs (c:Cv):Prop:=Has c.P c.w c.K c.mg c.base 4 "is_row" Za (spJ rowB)
abbrev jmu (c:Cv):Prop:=Has c.P c.w c.K c.mg c.base 2 "is_age" Za (spJ ageB)
abbrev jo9 (c:Cv):Prop:=Has c.P c.w c.K c.mg c.base 5 "is_note" Za (spJ jca)
abbrev jbd (c:Cv):Prop:=Has c.P c.w c.K c.mg c.base 1 "is_headed" ["thing","head","many"] ja4
abbrev jen (c:Cv):Prop:=Has c.P c.w c.K c.mg c.base 3 "is_named" ["thing","head"] jcq
abbrev jfw (c:Cv):Prop:=Has c.P c.w c.K c.mg c.base 4 "is_term" Za (spJ jch)
abbrev jcx (c:Cv):Prop:=Has c.P c.w c.K c.mg c.base 5 "is_pattern_field" Za (spJ jb1)
abbrev jcs (c:Cv):Prop:=Has c.P c.w c.K c.mg c.base 5 "is_template_field" Za (spJ jc7)
abbrev jb4 (c:Cv):Prop:=Has c.P c.w c.K c.mg c.base 1 "has_field_count" Za (spJ cntB)
abbrev jcy (c:Cv):Prop:=Has c.P c.w c.K c.mg c.base 6 "is_pattern" Za (spJ patB)
abbrev jfx (c:Cv):Prop:=Has c.P c.w c.K c.mg c.base 6 "is_template" Za (spJ temB)
abbrev jqr (c:Cv):Prop:=Has c.P c.w c.K c.mg c.base 1 "binds" ["pattern"] jd6
abbrev jbo (c:Cv):Prop:=Has c.P c.w c.K c.mg c.base 2 "is_block_number" Za (spJ jc1)
abbrev jrt (c:Cv):Prop:=Has c.P c.w c.K c.mg c.base 7 "is_lay" Za (spJ layB)
abbrev jo6 (c:Cv):Prop:=Has c.P c.w c.K c.mg c.base 7 "is_take" Za (spJ (je4 "take"))
abbrev jo8 (c:Cv):Prop:=Has c.P c.w c.K c.mg c.base 7 "is_read" Za (spJ (je4 "read"))
abbrev jpa (c:Cv):Prop:=Has c.P c.w c.K c.mg c.base 7 "is_look" Za (spJ jp3)
abbrev jo7 (c:Cv):Prop:=Has c.P c.w c.K c.mg c.base 5 "is_same" Za (spJ jh3)
abbrev jwn (c:Cv):Prop:=Has c.P c.w c.K c.mg c.base 3 "is_go" Za (spJ goB)
abbrev jru (c:Cv):Prop:=Has c.P c.w c.K c.mg c.base 8 "is_act" Za (spJ actB)
abbrev jjg (c:Cv):Prop:=Has c.P c.w c.K c.mg c.base 3 "is_wanted" Za (spJ jjp)
abbrev jpb (c:Cv):Prop:=Has c.P c.w c.K c.mg c.base 9 "is_acts" Za (spJ jkk)
abbrev jla (c:Cv):Prop:=Has c.P c.w c.K c.mg c.base 10 "is_block" Za (spJ jcw)
abbrev jk9 (c:Cv):Prop:=Has c.P c.w c.K c.mg c.base 2 "known_at" ["program","block","place"] jyt
abbrev jjl (c:Cv):Prop:=Has c.P c.w c.K c.mg c.base 1 "fields_of" ["act"] jyu
abbrev jea (c:Cv):Prop:=Has c.P c.w c.K c.mg c.base 2 "first_unknown" ["fields","known"] jys
abbrev jlb (c:Cv):Prop:=Has c.P c.w c.K c.mg c.base 1 "can_lead" ["program","block","known"] jo3
abbrev jg3 (c:Cv):Prop:=Has c.P c.w c.K c.mg c.base 3 "wrong_word" ["program","block","place"] ji9
abbrev jdh (c:Cv):Prop:=Has c.P c.w c.K c.mg c.base 4 "has_right_acts" ["program","block"] jjb
abbrev jjk (c:Cv):Prop:=Has c.P c.w c.K c.mg c.base 11 "is_blocks" Za (spJ jiw)
abbrev jd7 (c:Cv):Prop:=Has c.P c.w c.K c.mg c.base 12 "is_program" Za jo4
abbrev jdc (c:Cv):Prop:=Has c.P c.w c.K c.mg c.base 13 "is_programs" Za jd5
abbrev jd8 (c:Cv):Prop:=Has c.P c.w c.K c.mg c.base 6 "is_plan_notes" Za (spJ jh4)
abbrev jjh (c:Cv):Prop:=Has c.P c.w c.K c.mg c.base 14 "is_plan" Za jje
abbrev jb9 (c:Cv):Prop:=Has c.P c.w c.K c.mg c.base 2 "_law_value" Zd jfu
abbrev jdd (c:Cv):Prop:=Has c.P c.w c.K c.mg c.base 2 "_law_size" Zd jja
abbrev jgm (c:Cv):Prop:=Has c.P c.w c.K c.mg c.base 2 "_law_age" Zd js2
abbrev jey (c:Cv):Prop:=Has c.P c.w c.K c.mg c.base 3 "_law_pattern" Ze jrr
abbrev jeb (c:Cv):Prop:=Has c.P c.w c.K c.mg c.base 3 "_law_template" Ze jrq
abbrev jjm (c:Cv):Prop:=Has c.P c.w c.K c.mg c.base 3 "_law_term" Ze jjd
abbrev jld (c:Cv):Prop:=Has c.P c.w c.K c.mg c.base 4 "_law_act" ["_law_tape_here","_law_known","_law_open_ones"] jk8
abbrev jex (c:Cv):Prop:=Has c.P c.w c.K c.mg c.base 5 "_law_program" Zd jro
abbrev jg6 (c:Cv):Prop:=Has c.P c.w c.K c.mg c.base 3 "_law_notes" ["_law_tape_here","_law_most"] jjc
abbrev jjn (c:Cv):Prop:=Has c.P c.w c.K c.mg c.base 6 "_law_plan" Zd jrp
abbrev jec (c:Cv):Prop:=Has c.P c.w c.K c.mg c.base 1 "_law_is_whole" ["_law_thing","_law_low","_law_high"] jdb
abbrev jed (c:Cv):Prop:=Has c.P c.w c.K c.mg c.base 1 "_law_is_small" ["_law_thing","_law_most"] jff
abbrev jlc (c:Cv):Prop:=Has c.P c.w c.K c.mg c.base 2 "_law_odd" Zd jew
abbrev jjo (c:Cv):Prop:=Has c.P c.w c.K c.mg c.base 23 "_law_bent" ["_law_tape_here","_law_thing"] (jfv 20)
abbrev je0 (c:Cv):Prop:=Has c.P c.w c.K c.mg c.base 2 "_law_is_note" Zg jd4
abbrev jbw (c:Cv):Prop:=Has c.P c.w c.K c.mg c.base 13 "_law_are_programs" Zg jhk
abbrev jez (c:Cv):Prop:=Has c.P c.w c.K c.mg c.base 14 "_law_is_plan" Zg jwl
abbrev jg5 (c:Cv):Prop:=Has c.P c.w c.K c.mg c.base 2 "_law_other" ["_law_tape_here","_law_plan_here"] jk7
abbrev jg4 (c:Cv):Prop:=Has c.P c.w c.K c.mg c.base 15 "_law_right" Zg jel
section
variable {c:Cv} (F:∀(j:Nat) (d:Ds),dL[j]?=some d->(Fun c.K d.x d.x (top d.i) d.f (fdO d)/\c.mg d.x=some (.ref d.f))/\Cz c.K (.ref d.f)=true) (z:∀x∈zL,c.mg x=none) (u0:c.mg "GREATEST_AGE"=some (.int 20 197)) (u1:c.mg "GREATEST_NUMBER"=some (.int 99 195)) (u2:c.mg "LONGEST_NAME"=some (.int 4 191)) (u3:c.mg "LONGEST_ROW"=some (.int 4 193)) (u4:c.mg "LONGEST_WORD"=some (.int 8 189)) (u5:c.mg "MOST_ACTS"=some (.int 8 331)) (u6:c.mg "MOST_BLOCKS"=some (.int 6 410)) (u7:c.mg "MOST_FIELDS"=some (.int 4 262)) (u8:c.mg "MOST_NOTES"=some (.int 12 414)) (u9:c.mg "MOST_PROGRAMS"=some (.int 5 412)) (u10:c.mg "MOST_WANTED"=some (.int 4 329)) (u11:c.mg "GETTING"=some (.ref 204)) (u12:∀H,SqT c.K H 204 ((Zc:List Str).map V.str)) (u13:c.mg "LEADING"=some (.ref 205)) (u14:∀H,SqT c.K H 205 ((Zh:List Str).map V.str))
include F z u0 u1 u2 u3 u4 u5 u6 u7 u8 u9 u10 u11 u12 u13 u14
theorem jpk:jau c:=Has.mk' (F 41 _ rfl).1.1 (F 41 _ rfl).1.2 (bnd (F 41 _ rfl).1.1) (jx9 (j1j (F 41 _ rfl).1.1 (zU z (by decide +kernel))))
theorem jry:jem c:=hasD (i:=6) 0 "is_whole" (F 0 _ rfl).1 jnx jmg
theorem jmz:jd9 c:=hasD (i:=7) 0 "is_letters" (F 1 _ rfl).1 jj0 jir
theorem jte (h0:jd9 c):jo5 c:=hasD (i:=8) 1 "is_word" (F 2 _ rfl).1 jp5 jog
theorem jpd (h0:jem c):jji c:=hasD (i:=9) 1 "is_number" (F 3 _ rfl).1 jly jkb
theorem jrz (h0:jji c) (h1:jo5 c):jgl c:=hasD (i:=10) 2 "is_value" (F 4 _ rfl).1 jny jmh
theorem jtl (h0:jd9 c):jjj c:=hasD (i:=11) 1 "is_name" (F 5 _ rfl).1 jqb jon
theorem jwv (h0:jgl c):jrs c:=hasD (i:=12) 3 "is_row" (F 6 _ rfl).1 jsn jqk
theorem jwx (h0:jem c):jmu c:=hasD (i:=13) 1 "is_age" (F 7 _ rfl).1 jsp jqm
theorem jtk (h0:jmu c) (h1:jrs c):jo9 c:=hasD (i:=14) 4 "is_note" (F 8 _ rfl).1 jqa jom
theorem jpe:jbd c:=hasD (i:=17) 0 "is_headed" (F 9 _ rfl).1 jlz jkc
theorem jr0 (h0:jbd c) (h1:jjj c):jen c:=hasD (i:=18) 2 "is_named" (F 10 _ rfl).1 jnz jmi
theorem jtf (h0:jbd c) (h1:jen c) (h2:jgl c):jfw c:=hasD (i:=19) 3 "is_term" (F 11 _ rfl).1 jp6 joh
theorem jfh (h0:jbd c) (h1:jen c) (h2:jfw c):jcx c:=hasD (i:=20) 4 "is_pattern_field" (F 12 _ rfl).1 jeo jdy
theorem je1 (h0:jen c) (h1:jfw c):jcs c:=hasD (i:=21) 4 "is_template_field" (F 13 _ rfl).1 jdq jdj
theorem jf0:jb4 c:=hasD (i:=22) 0 "has_field_count" (F 14 _ rfl).1 je6 jeq
theorem jmy (h0:jb4 c) (h1:jcx c):jcy c:=hasD (i:=23) 5 "is_pattern" (F 15 _ rfl).1 jjz jiq
theorem jli (h0:jb4 c) (h1:jcs c):jfx c:=hasD (i:=24) 5 "is_template" (F 16 _ rfl).1 jie jhi
theorem jz5:jqr c:=hasD (i:=25) 0 "binds" (F 17 _ rfl).1 jvi jsz
theorem jfz (h0:jem c):jbo c:=hasD (i:=29) 1 "is_block_number" (F 18 _ rfl).1 je5 jep
theorem jww (h0:jmu c) (h1:jbd c) (h2:jfx c):jrt c:=hasD (i:=30) 6 "is_lay" (F 19 _ rfl).1 jso jql
theorem jtg (h0:jbd c) (h1:jcy c):jo6 c:=hasD (i:=31) 6 "is_take" (F 20 _ rfl).1 jp7 joi
theorem jti (h0:jbd c) (h1:jcy c):jo8 c:=hasD (i:=32) 6 "is_read" (F 21 _ rfl).1 jp9 jok
theorem jtm (h0:jbo c) (h1:jbd c) (h2:jcy c):jpa c:=hasD (i:=33) 6 "is_look" (F 22 _ rfl).1 jqc joo
theorem jth (h0:jbo c) (h1:jbd c) (h2:jfw c):jo7 c:=hasD (i:=34) 4 "is_same" (F 23 _ rfl).1 jp8 joj
theorem jz4 (h0:jbo c) (h1:jbd c):jwn c:=hasD (i:=35) 2 "is_go" (F 24 _ rfl).1 jvh jsy
theorem jwy (h0:jwn c) (h1:jrt c) (h2:jpa c) (h3:jo8 c) (h4:jo7 c) (h5:jo6 c):jru c:=hasD (i:=36) 7 "is_act" (F 25 _ rfl).1 jsq jqn
theorem jpc (h0:jjj c):jjg c:=hasD (i:=37) 2 "is_wanted" (F 26 _ rfl).1 jlx jka
theorem jtn (h0:jru c):jpb c:=hasD (i:=38) 8 "is_acts" (F 27 _ rfl).1 jqd jop
theorem jr1 (h0:jpb c) (h1:jjg c):jla c:=hasD (i:=39) 9 "is_block" (F 28 _ rfl).1 jn0 jmj
theorem jrx (h0:jqr c):jk9 c:=hasD (i:=46) 1 "known_at" (F 29 _ rfl).1 jnw jmf
theorem jpg:jjl c:=hasD (i:=47) 0 "fields_of" (F 30 _ rfl).1 jl1 jke
theorem jhy (h0:jqr c):jea c:=hasD (i:=48) 1 "first_unknown" (F 31 _ rfl).1 jf5 jfp
theorem jr2:jlb c:=hasD (i:=49) 0 "can_lead" (F 32 _ rfl).1 jn1 jmk
theorem jmw (h0:jlb c) (h1:jjl c) (h2:jea c) (h3:jk9 c):jg3 c:=hasD (i:=50) 2 "wrong_word" (F 33 _ rfl).1 jjx jio
theorem jg8 (h0:jg3 c):jdh c:=hasD (i:=51) 3 "has_right_acts" (F 34 _ rfl).1 jfj jfb
theorem jpf (h0:jla c):jjk c:=hasD (i:=52) 10 "is_blocks" (F 35 _ rfl).1 jl0 jkd
theorem jmx (h0:jdh c) (h1:jjk c):jd7 c:=hasD (i:=53) 11 "is_program" (F 36 _ rfl).1 jjy jip
theorem jlj (h0:jd7 c):jdc c:=hasD (i:=54) 12 "is_programs" (F 37 _ rfl).1 jdr jhj
theorem jhx (h0:jo9 c):jd8 c:=hasD (i:=55) 5 "is_plan_notes" (F 38 _ rfl).1 jf4 jfo
theorem jtj (h0:jd8 c) (h1:jdc c):jjh c:=hasD (i:=56) 13 "is_plan" (F 39 _ rfl).1 jif jol
theorem jm0 (h0:jau c):jb9 c:=hasD (i:=60) 1 "_law_value" (F 42 _ rfl).1 jj1 jis
theorem jpi (h0:jau c):jdd c:=hasD (i:=61) 1 "_law_size" (F 43 _ rfl).1 jl3 jkg
theorem jr4 (h0:jau c):jgm c:=hasD (i:=62) 1 "_law_age" (F 44 _ rfl).1 jn3 jmm
theorem jjr (h0:jau c) (h1:jdd c) (h2:jb9 c):jey c:=hasD (i:=63) 2 "_law_pattern" (F 45 _ rfl).1 jhd jgf
theorem jhz (h0:jau c) (h1:jdd c) (h2:jb9 c):jeb c:=hasD (i:=64) 2 "_law_template" (F 46 _ rfl).1 jf6 jfq
theorem jph (h0:jau c) (h1:jb9 c):jjm c:=hasD (i:=65) 2 "_law_term" (F 47 _ rfl).1 jl2 jkf
theorem jr5 (h0:jgm c) (h1:jau c) (h2:jey c) (h3:jeb c) (h4:jjm c):jld c:=hasD (i:=66) 3 "_law_act" (F 48 _ rfl).1 jn4 jmn
theorem jjq (h0:jld c) (h1:jau c):jex c:=hasD (i:=67) 4 "_law_program" (F 49 _ rfl).1 jhc jge
theorem jm3 (h0:jgm c) (h1:jau c) (h2:jdd c) (h3:jb9 c):jg6 c:=hasD (i:=68) 2 "_law_notes" (F 50 _ rfl).1 jj4 jiv
theorem jpj (h0:jau c) (h1:jg6 c) (h2:jex c):jjn c:=hasD (i:=69) 5 "_law_plan" (F 51 _ rfl).1 jl4 jkh
theorem jh0:jec c:=hasD (i:=70) 0 "_law_is_whole" (F 52 _ rfl).1 jf7 jfr
theorem jh1:jed c:=hasD (i:=71) 0 "_law_is_small" (F 53 _ rfl).1 jf8 jfs
theorem jr3 (h0:jau c):jlc c:=hasD (i:=72) 1 "_law_odd" (F 54 _ rfl).1 jn2 jml
theorem jpl (h0:jau c) (h1:jlc c):jjo c:=hasR (S:=jfv) (i:=73) 3 "_law_bent" (F 55 _ rfl).1 jl5 (λ_ _ _ h=>h) jki 20
theorem jjt (h0:jed c) (h1:jec c):je0 c:=hasD (i:=74) 1 "_law_is_note" (F 56 _ rfl).1 jhf jgh
theorem je2 (h0:jd7 c):jbw c:=hasD (i:=75) 12 "_law_are_programs" (F 57 _ rfl).1 jds jdk
theorem jjs (h0:jbw c) (h1:je0 c):jez c:=hasD (i:=76) 13 "_law_is_plan" (F 58 _ rfl).1 jhe jgg
theorem jm2 (h0:jau c):jg5 c:=hasD (i:=77) 1 "_law_other" (F 59 _ rfl).1 jj3 jiu
theorem jm1 (h0:jbw c) (h1:jez c) (h2:jjh c) (h3:jdc c):jg4 c:=hasD (i:=78) 14 "_law_right" (F 60 _ rfl).1 jj2 jit
theorem j6c (h0:jjo c) (h1:jg5 c) (h2:jjn c) (h3:jg4 c) (h4:jjh c):FnOk c.P c.w c.K c.mg c.base CX0 24 (Ds.f ⟨79,"law",682,288,1,402,true,691,4⟩) (fdO ⟨79,"law",682,288,1,402,true,691,4⟩) Zb (DL.spLaw c.K):=by
 have bT:=bnd (ps:=Zb) (F 40 _ rfl).1.1;have GT:=j1i (P:=c.P) (w:=c.w) (mg:=c.mg) (base:=c.base) (F 40 _ rfl).1.1;exact okL (i:=79) (N:=Zf) 23 (F 61 _ rfl).1.1 GT bT (F 40 _ rfl).1.2 (F 40 _ rfl).2 jyi rfl λnd cdv A outer s H E hr=>jgo (i:=1) nd rfl (D1 rfl) (jux GT (hr.mono (by decide)) rfl (F 40 _ rfl).1.2 (F 40 _ rfl).2 bT .nil j33 (ja0 (pv 0) jcg))
end
theorem j2c (c:Cv) (F:∀(j:Nat) (d:Ds),dL[j]?=some d->(Fun c.K d.x d.x (top d.i) d.f (fdO d)/\c.mg d.x=some (.ref d.f))/\Cz c.K (.ref d.f)=true) (z:∀x∈zL,c.mg x=none) (u0:c.mg "GREATEST_AGE"=some (.int 20 197)) (u1:c.mg "GREATEST_NUMBER"=some (.int 99 195)) (u2:c.mg "LONGEST_NAME"=some (.int 4 191)) (u3:c.mg "LONGEST_ROW"=some (.int 4 193)) (u4:c.mg "LONGEST_WORD"=some (.int 8 189)) (u5:c.mg "MOST_ACTS"=some (.int 8 331)) (u6:c.mg "MOST_BLOCKS"=some (.int 6 410)) (u7:c.mg "MOST_FIELDS"=some (.int 4 262)) (u8:c.mg "MOST_NOTES"=some (.int 12 414)) (u9:c.mg "MOST_PROGRAMS"=some (.int 5 412)) (u10:c.mg "MOST_WANTED"=some (.int 4 329)) (u11:c.mg "GETTING"=some (.ref 204)) (u12:∀H,SqT c.K H 204 ((Zc:List Str).map V.str)) (u13:c.mg "LEADING"=some (.ref 205)) (u14:∀H,SqT c.K H 205 ((Zh:List Str).map V.str)):FnOk c.P c.w c.K c.mg c.base CX0 24 (Ds.f ⟨79,"law",682,288,1,402,true,691,4⟩) (fdO ⟨79,"law",682,288,1,402,true,691,4⟩) Zb (DL.spLaw c.K):=by
 have a__law_draw:=jpk F z u0 u1 u2 u3 u4 u5 u6 u7 u8 u9 u10 u11 u12 u13 u14;have a_is_whole:=jry F z u0 u1 u2 u3 u4 u5 u6 u7 u8 u9 u10 u11 u12 u13 u14;have a_is_letters:=jmz F z u0 u1 u2 u3 u4 u5 u6 u7 u8 u9 u10 u11 u12 u13 u14;have a_is_word:=jte F z u0 u1 u2 u3 u4 u5 u6 u7 u8 u9 u10 u11 u12 u13 u14 a_is_letters;have a_is_number:=jpd F z u0 u1 u2 u3 u4 u5 u6 u7 u8 u9 u10 u11 u12 u13 u14 a_is_whole;have a_is_value:=jrz F z u0 u1 u2 u3 u4 u5 u6 u7 u8 u9 u10 u11 u12 u13 u14 a_is_number a_is_word;have a_is_name:=jtl F z u0 u1 u2 u3 u4 u5 u6 u7 u8 u9 u10 u11 u12 u13 u14 a_is_letters;have a_is_row:=jwv F z u0 u1 u2 u3 u4 u5 u6 u7 u8 u9 u10 u11 u12 u13 u14 a_is_value;have a_is_age:=jwx F z u0 u1 u2 u3 u4 u5 u6 u7 u8 u9 u10 u11 u12 u13 u14 a_is_whole;have a_is_note:=jtk F z u0 u1 u2 u3 u4 u5 u6 u7 u8 u9 u10 u11 u12 u13 u14 a_is_age a_is_row;have a_is_headed:=jpe F z u0 u1 u2 u3 u4 u5 u6 u7 u8 u9 u10 u11 u12 u13 u14;have a_is_named:=jr0 F z u0 u1 u2 u3 u4 u5 u6 u7 u8 u9 u10 u11 u12 u13 u14 a_is_headed a_is_name;have a_is_term:=jtf F z u0 u1 u2 u3 u4 u5 u6 u7 u8 u9 u10 u11 u12 u13 u14 a_is_headed a_is_named a_is_value;have a_is_pattern_field:=jfh F z u0 u1 u2 u3 u4 u5 u6 u7 u8 u9 u10 u11 u12 u13 u14 a_is_headed a_is_named a_is_term;have a_is_template_field:=je1 F z u0 u1 u2 u3 u4 u5 u6 u7 u8 u9 u10 u11 u12 u13 u14 a_is_named a_is_term;have a_has_field_count:=jf0 F z u0 u1 u2 u3 u4 u5 u6 u7 u8 u9 u10 u11 u12 u13 u14;have a_is_pattern:=jmy F z u0 u1 u2 u3 u4 u5 u6 u7 u8 u9 u10 u11 u12 u13 u14 a_has_field_count a_is_pattern_field;have a_is_template:=jli F z u0 u1 u2 u3 u4 u5 u6 u7 u8 u9 u10 u11 u12 u13 u14 a_has_field_count a_is_template_field;have a_binds:=jz5 F z u0 u1 u2 u3 u4 u5 u6 u7 u8 u9 u10 u11 u12 u13 u14;have a_is_block_number:=jfz F z u0 u1 u2 u3 u4 u5 u6 u7 u8 u9 u10 u11 u12 u13 u14 a_is_whole;have a_is_lay:=jww F z u0 u1 u2 u3 u4 u5 u6 u7 u8 u9 u10 u11 u12 u13 u14 a_is_age a_is_headed a_is_template;have a_is_take:=jtg F z u0 u1 u2 u3 u4 u5 u6 u7 u8 u9 u10 u11 u12 u13 u14 a_is_headed a_is_pattern;have a_is_read:=jti F z u0 u1 u2 u3 u4 u5 u6 u7 u8 u9 u10 u11 u12 u13 u14 a_is_headed a_is_pattern;have a_is_look:=jtm F z u0 u1 u2 u3 u4 u5 u6 u7 u8 u9 u10 u11 u12 u13 u14 a_is_block_number a_is_headed a_is_pattern;have a_is_same:=jth F z u0 u1 u2 u3 u4 u5 u6 u7 u8 u9 u10 u11 u12 u13 u14 a_is_block_number a_is_headed a_is_term;have a_is_go:=jz4 F z u0 u1 u2 u3 u4 u5 u6 u7 u8 u9 u10 u11 u12 u13 u14 a_is_block_number a_is_headed;have a_is_act:=jwy F z u0 u1 u2 u3 u4 u5 u6 u7 u8 u9 u10 u11 u12 u13 u14 a_is_go a_is_lay a_is_look a_is_read a_is_same a_is_take;have a_is_wanted:=jpc F z u0 u1 u2 u3 u4 u5 u6 u7 u8 u9 u10 u11 u12 u13 u14 a_is_name;have a_is_acts:=jtn F z u0 u1 u2 u3 u4 u5 u6 u7 u8 u9 u10 u11 u12 u13 u14 a_is_act;have a_is_block:=jr1 F z u0 u1 u2 u3 u4 u5 u6 u7 u8 u9 u10 u11 u12 u13 u14 a_is_acts a_is_wanted;have a_known_at:=jrx F z u0 u1 u2 u3 u4 u5 u6 u7 u8 u9 u10 u11 u12 u13 u14 a_binds;have a_fields_of:=jpg F z u0 u1 u2 u3 u4 u5 u6 u7 u8 u9 u10 u11 u12 u13 u14;have a_first_unknown:=jhy F z u0 u1 u2 u3 u4 u5 u6 u7 u8 u9 u10 u11 u12 u13 u14 a_binds;have a_can_lead:=jr2 F z u0 u1 u2 u3 u4 u5 u6 u7 u8 u9 u10 u11 u12 u13 u14;have a_wrong_word:=jmw F z u0 u1 u2 u3 u4 u5 u6 u7 u8 u9 u10 u11 u12 u13 u14 a_can_lead a_fields_of a_first_unknown a_known_at;have a_has_right_acts:=jg8 F z u0 u1 u2 u3 u4 u5 u6 u7 u8 u9 u10 u11 u12 u13 u14 a_wrong_word;have a_is_blocks:=jpf F z u0 u1 u2 u3 u4 u5 u6 u7 u8 u9 u10 u11 u12 u13 u14 a_is_block;have a_is_program:=jmx F z u0 u1 u2 u3 u4 u5 u6 u7 u8 u9 u10 u11 u12 u13 u14 a_has_right_acts a_is_blocks;have a_is_programs:=jlj F z u0 u1 u2 u3 u4 u5 u6 u7 u8 u9 u10 u11 u12 u13 u14 a_is_program;have a_is_plan_notes:=jhx F z u0 u1 u2 u3 u4 u5 u6 u7 u8 u9 u10 u11 u12 u13 u14 a_is_note;have a_is_plan:=jtj F z u0 u1 u2 u3 u4 u5 u6 u7 u8 u9 u10 u11 u12 u13 u14 a_is_plan_notes a_is_programs;have a__law_value:=jm0 F z u0 u1 u2 u3 u4 u5 u6 u7 u8 u9 u10 u11 u12 u13 u14 a__law_draw;have a__law_size:=jpi F z u0 u1 u2 u3 u4 u5 u6 u7 u8 u9 u10 u11 u12 u13 u14 a__law_draw;have a__law_age:=jr4 F z u0 u1 u2 u3 u4 u5 u6 u7 u8 u9 u10 u11 u12 u13 u14 a__law_draw;have a__law_pattern:=jjr F z u0 u1 u2 u3 u4 u5 u6 u7 u8 u9 u10 u11 u12 u13 u14 a__law_draw a__law_size a__law_value;have a__law_template:=jhz F z u0 u1 u2 u3 u4 u5 u6 u7 u8 u9 u10 u11 u12 u13 u14 a__law_draw a__law_size a__law_value;have a__law_term:=jph F z u0 u1 u2 u3 u4 u5 u6 u7 u8 u9 u10 u11 u12 u13 u14 a__law_draw a__law_value;have a__law_act:=jr5 F z u0 u1 u2 u3 u4 u5 u6 u7 u8 u9 u10 u11 u12 u13 u14 a__law_age a__law_draw a__law_pattern a__law_template a__law_term;have a__law_program:=jjq F z u0 u1 u2 u3 u4 u5 u6 u7 u8 u9 u10 u11 u12 u13 u14 a__law_act a__law_draw;have a__law_notes:=jm3 F z u0 u1 u2 u3 u4 u5 u6 u7 u8 u9 u10 u11 u12 u13 u14 a__law_age a__law_draw a__law_size a__law_value;have a__law_plan:=jpj F z u0 u1 u2 u3 u4 u5 u6 u7 u8 u9 u10 u11 u12 u13 u14 a__law_draw a__law_notes a__law_program;have a__law_is_whole:=jh0 F z u0 u1 u2 u3 u4 u5 u6 u7 u8 u9 u10 u11 u12 u13 u14;have a__law_is_small:=jh1 F z u0 u1 u2 u3 u4 u5 u6 u7 u8 u9 u10 u11 u12 u13 u14;have a__law_odd:=jr3 F z u0 u1 u2 u3 u4 u5 u6 u7 u8 u9 u10 u11 u12 u13 u14 a__law_draw;have a__law_bent:=jpl F z u0 u1 u2 u3 u4 u5 u6 u7 u8 u9 u10 u11 u12 u13 u14 a__law_draw a__law_odd;have a__law_is_note:=jjt F z u0 u1 u2 u3 u4 u5 u6 u7 u8 u9 u10 u11 u12 u13 u14 a__law_is_small a__law_is_whole;have a__law_are_programs:=je2 F z u0 u1 u2 u3 u4 u5 u6 u7 u8 u9 u10 u11 u12 u13 u14 a_is_program;have a__law_is_plan:=jjs F z u0 u1 u2 u3 u4 u5 u6 u7 u8 u9 u10 u11 u12 u13 u14 a__law_are_programs a__law_is_note;have a__law_other:=jm2 F z u0 u1 u2 u3 u4 u5 u6 u7 u8 u9 u10 u11 u12 u13 u14 a__law_draw;have a__law_right:=jm1 F z u0 u1 u2 u3 u4 u5 u6 u7 u8 u9 u10 u11 u12 u13 u14 a__law_are_programs a__law_is_plan a_is_plan a_is_programs;exact j6c F z u0 u1 u2 u3 u4 u5 u6 u7 u8 u9 u10 u11 u12 u13 u14 a__law_bent a__law_other a__law_plan a__law_right a_is_plan
theorem all_K (w:B4) (mg:Str->Option Af) (fa:Addr) (h:Heap) (X:(KK w.params).In h) (G:h.Ns Dq mg) (hfa:mg "law"=some (.ref fa)) :
  ∃fd:C2,(∀(s:Aj) (u:Af),BindsTo s fd ⟨[u],[]⟩ [("_law_script",u)])/\∀base:Heap,(KK w.params).In base->base.Ns Dq mg->FnOk pR w (KK w.params) mg base CX0 24 fa fd Zb (DL.spLaw (KK w.params)):=by
 have e:=hfa.symm.trans (fnK X G 61 ⟨79,"law",682,288,1,402,true,691,4⟩ rfl).1.2;cases e;exact⟨fdO ⟨79,"law",682,288,1,402,true,691,4⟩,λs v=>.of_eq rfl,λbase _ _=>j2c ⟨pR,w,KK w.params,mg,base⟩ (λj d e=>fnK X G j d e) (zK X G) (Ct X G (by kernel_rfl)) (Ct X G (by kernel_rfl)) (Ct X G (by kernel_rfl)) (Ct X G (by kernel_rfl)) (Ct X G (by kernel_rfl)) (Ct X G (by kernel_rfl)) (Ct X G (by kernel_rfl)) (Ct X G (by kernel_rfl)) (Ct X G (by kernel_rfl)) (Ct X G (by kernel_rfl)) (Ct X G (by kernel_rfl)) (Ct X G (by kernel_rfl)) (λH=>.inr ⟨_,_,_,(show(KK w.params).lookup 204=some (oT "tuple" (.seq #[(.str "take" 416),(.str "read" 417),(.str "look" 418)] 0)) by kernel_rfl),rfl,rfl,show 3<=Ax by decide,(.cons ⟨_,rfl⟩ (.cons ⟨_,rfl⟩ (.cons ⟨_,rfl⟩ .nil)))⟩) (Ct X G (by kernel_rfl)) (λH=>.inr ⟨_,_,_,(show(KK w.params).lookup 205=some (oT "tuple" (.seq #[(.str "look" 420),(.str "same" 421),(.str "go" 422)] 0)) by kernel_rfl),rfl,rfl,show 3<=Ax by decide,(.cons ⟨_,rfl⟩ (.cons ⟨_,rfl⟩ (.cons ⟨_,rfl⟩ .nil)))⟩)⟩
theorem walk {l:PySem.W.OpenLaw} {q:Br} {loose:List Str} {XP:(Str->Option Af)->Heap->Prop} {YP:B4->Heap->Prop} {d:DefRec} {K:Params->Ag} (hn:l.most=some 63) (hdf:d.params.defaults=[])
  (hY:∀(w:B4) (h:Heap),YP w h->(K w.params).In h)
  (F:∀(w:B4) (mg:Str->Option Af) (fa:Addr) (h:Heap),(K w.params).In h->h.Ns Dq mg->mg d.name=some (.ref fa) ->
   ∃fd:C2,(∀(s:Aj) (u:Af),BindsTo s fd ⟨[u],[]⟩ [("_law_script",u)])/\∀base:Heap,(K w.params).In base->base.Ns Dq mg->FnOk l.prog w (K w.params) mg base CX0 24 fa fd Zb (DL.spLaw (K w.params))) :
  PySem.W.WalkO q loose XP YP l.row.toRowW d [] (λf vs=>PySem.call f vs) :=
 L2.walk_of (n:=63) (k:=24) (x:="_law_script") (CX:=λ_=>CX0) (sp:=λw=>DL.spLaw (K w.params)) hn (by decide) hdf ⟨rfl,by decide,by decide,rfl⟩ hY F (λ_ _ a ns hl _ hS=>⟨a,ns,rfl,hS,hl,λ_=>rfl⟩) λ_ _ _ _ _ z=>z
end Nb
open PySem PySem.W PyProof.Rows
set_option maxRecDepth 100000 in
set_option maxHeartbeats 0 in
theorem PySem.Challenge.cw_noteboard_k12_programs_and_plans_holds : PySem.Challenge.rw_noteboard_k12_programs_and_plans.Holds := by
 refine holds_law Nb.said_ λsaid=>?_;refine holds_open (q:=Nb.qq) (loose:=Nb.lO) (Xt:=Nb.xT) (XP:=XL Nb.qq []) (Yf:=Hook.obs Nb.hK) (Ya:=Hook.val Nb.hK) (YP:=Hook.says Nb.hK) (d:=Nb.dW) (kwd:=[]) (N:=3000) Nb.left_ (Hook.of Nb.hK) (Hook.keeps Nb.hK) (λs e=>xl_of s (Bool.and_eq_true_iff.mp e).1) XL.keeps (by kernel_rfl) (by kernel_rfl) (by kernel_rfl) (λs e=>recFacts_of (Bool.and_eq_true_iff.mp e).2) (by kernel_rfl) said (by decide +kernel) ⟨rfl,rfl,rfl,rfl,rfl,by decide +kernel⟩ ?hw ?hc
 (case hw=>w_witness2)
 exact Nb.walk (l:=PySem.Challenge.rw_noteboard_k12_programs_and_plans) (by kernel_rfl) (by kernel_rfl) (λw h Y=>kIn_of Y) Nb.all_K
