import PyProof.Rows.All
import Wide.All
import OpenK.AllK
import Wide.FinOn
import Lean
import PyProof.EqAt
import PyProof.EqKinds
import PyProof.TupleCall
import PyProof.AttrMissHeap
import PyProof.Rows.RegFStrParts
import PySem.Challenge.RW_noteboard_k19_faults_of_stands
set_option Elab.async false
set_option linter.all false
set_option maxRecDepth 100000
open PySem renaming wpAny_bind -> Aa, PyData -> Ab, Value -> Ah, wpAny_pure -> Ai, Shared -> Ak, starEach -> Ax, sizeLine -> Ay, wpAny -> Az, model -> Ba, wpAny_newObj_type -> Bg, wpAny_callSpecial?_slot -> Bh, compareOp -> Bk, Program -> Bm, wpAny_call_entry -> Bv, bootBuiltins -> By, wpAny_field -> B1, World -> B3, Around -> B8, wpAny_seqItems -> Ca, IsPair -> Ck, rawInt -> Cr, wpAny_setField_rec -> Cy, FuncData -> C1, wpAny_truthy_bool -> C3, wpAny_holding -> C6, wpAny_setField -> Dg, mainGlobals -> Dm, strKind -> Dn, wpAny_mono -> Dq, assignEach -> Dr, wpAny_setEntries_of -> Dw, wpAny_attempt -> D0, behindInMarks -> D1, pyNext -> D2, Builtin -> D4, backTo -> D9, foldedSetIterable -> Ec, IsZip -> Ed, firstArgMember -> Ek, binaryOp -> El, SetTable -> Em, Scope -> Eo, wpAny_setState_of -> E2, mem_of_lookup -> E6, wpAny_updateSeq_pair -> Fg, sizeLine_eq -> Fh, isSubtype_type -> Fi, wpAny_pyIter_zip -> Fn, wpAny_isInstance -> Fo, wpAny_onRaise -> Fw, codeAny_builtin -> Fx, wpAny_rule -> F0, wpAny_pyIter_tuple -> F1, swapsWith -> F2, wpAny_typeOf -> F7, wpAny_fieldsOf -> F8, codeAny -> F9, ZipApart -> Ga, sliceBounds -> Gi, wpAny_passesOwn -> Gp, wpAny_letOwnedTupleGo_zip -> Gv
open PySem.Heap renaming get?_push_of_some -> Ad, lt_size -> Ao, get?_push_size -> As, get?_update_self -> Bq, size_push -> Bx, SameBut -> Dd, get?_update_other -> Dp
open List renaming length_map -> Ae, getElem?_eq_getElem -> Ag, mem_cons -> Am, length_append -> Ap, not_mem_nil -> Ar, mem_cons_self -> Au, size_toArray -> Av, mem_cons_of_mem -> Aw, set -> A0, length_cons -> A1, length_singleton -> A2, getElem?_eq_some_iff -> A6, getElem?_map -> A7, mem_append -> A8, mem_append_right -> Bb, mem_singleton -> Bd, map_cons -> Bi, append_assoc -> Bo, set_cons_zero -> Bp, all_eq_true -> Bt, append_nil -> Bu, range -> B4, mem_of_getElem? -> B5, getElem?_cons_zero -> B6, map_append -> Cc, mem_map -> Ce, map_nil -> Cf, getElem?_cons_succ -> Cj, nil_append -> Ct, set_cons_succ -> C5, getElem?_set_ne -> C8, toArray -> Da, replicate -> Dc, length_set -> De, all_cons -> Dt, length_take -> Dv, mem_range -> Dy, mem_append_left -> D3, getElem?_replicate -> Ee, map_id -> Eh, mem_of_mem_take -> Ez, map_eq_cons_iff -> E1, length_drop -> E3, all_map -> E4, getElem?_append_left -> E9, drop_eq_getElem_cons -> Fb, map_eq_nil_iff -> Fd, length_reverse -> Ff, nodup_cons -> Fp, not_lt -> Ft, getElem?_set_self' -> Fu, reverse_cons -> Fy, getElem_mem -> F6, eq_nil_of_length_eq_zero -> Gc, of_mem_zip -> Gd, mem_filter -> Ge, mem_map_of_mem -> Gg, filterMap_cons -> Gh, zip_cons_cons -> Gk, pairwise_cons -> Gm, getElem?_append_right -> Gn, pairwise_singleton -> Gu
open And renaming intro -> Af
open PySem.W renaming Frag -> Aj, keepIn -> Cz, kia_one -> C0, kas_rev -> Eb, fnOf -> Ew, mg_of -> E7
open Nat renaming le_refl -> Al, zero_le -> A3, le_trans -> A9, ne_of_lt -> Bc, lt_of_lt_of_le -> Bn, ne_of_gt -> D5, lt_irrefl -> Er, lt_succ_of_lt -> Et, mul_le_mul_left -> Fk, lt_succ_self -> Gb, lt_of_le_of_lt -> Gq
open Bool renaming false_ne_true -> An, and_eq_true -> A4, false_eq_true -> B9, true_and -> Di, eq_iff_iff -> Fq, and_false -> Fz
open PySem.PyData renaming weightAll -> Aq, weight -> A5, canLay0 -> Cb, eqv -> Cn, depth -> Cu, str -> C4, strOk -> Eg, showable -> Ej, canLayAll0 -> En, tuple -> Ex, intsShort -> Ey, depthAll -> Fj, eqvAll -> F4
open PySem.Heap.SameBut renaming update -> Be
open PySem.Value renaming none -> Bf, ref -> Bw, type -> Dx, str -> F3
open Option.some renaming inj -> Bj
open PySem.Builtin.SmallTypes renaming ownedTupleIsFree -> Br, nextOf -> Bs, ownedTupleHandOut -> Df
open Int renaming toNat_natCast -> Bz, eq_ofNat_of_zero_le -> Cs, natCast_nonneg -> Gr, emod_lt_of_pos -> Gs
open PySem.Obj renaming data_mapFields -> B7, mapSeq -> Cq, isFreed_of_fields -> Dh, putSet -> Ea, cls_mapFields -> Es
open PySem.Str renaming ofString -> Cg
open PySem.Builtin.Slice renaming slicePlaces -> Ci, sliceAdjust -> C9, sliceApplied -> Ei
open PySem.Builtin.Tuple renaming tupleExact -> Cm, tupleItemsOf -> F5
open Array renaming length_toList -> Co, getElem?_eq_getElem -> E5
open PyProof.Rows renaming slot_tuple_getitem -> Cp, seqObj -> C7, callWith_type1 -> Dj, envOfC -> Ep
open Or renaming inr -> Cw, inl -> Du
open Exists renaming intro -> C2
open PySem.Builtin.List renaming listExtendWith -> Dk, listTooLong -> Dz, listSameRef -> Gf
open List.cons renaming inj -> Dl
open PySem.SetTable renaming grown -> D6, below -> D7
open PySem.F renaming slot_zip_next -> D8, args_tuple_add_2 -> E8, slot_tuple_iterator_next -> Fc, entry_tuple_add -> Fl, slot_tuple_add -> Fs, plainAttrs_list -> Gt
open Option renaming bind -> Ef, map -> Fm
open PySem.Around renaming under_plainId -> Eu
open PySem.Data renaming cell -> Fv
open PySem.Builtin.Str renaming occurrences -> Gj
noncomputable section
namespace L2
open PySem PySem.Spec PyProof.Rows
abbrev Key:=Sum Int Str
def j1m:Key->Ah->Bool
 |.inl k,v=>Value.isInt k v
 |.inr x,v=>Value.isStrOf x v
def keyH (w:B3):Key->Int
 |.inl k=>hashInt k
 |.inr x=>hashStr w x
theorem ja7:∀{k:Key} {v:Ah},j1m k v=true->(∃i t,k=Sum.inl i/\v=Value.int i t)\/(∃x t,k=Sum.inr x/\v=F3 x t)
 |.inl i,v,h=>by
  obtain⟨t,e⟩:=Value.isInt_shape (k:=i) (v:=v) h;exact .inl ⟨i,t,rfl,e⟩
 |.inr x,v,h=>by
  obtain⟨t,e⟩:=Value.isStrOf_shape (x:=x) (v:=v) h;exact .inr ⟨x,t,rfl,e⟩
theorem j1l (a b:Int):decide ((Sum.inl a:Key)=Sum.inl b)=(a==b):=by
 by_cases e:a=b
 ·subst e;simp
 ·have h:¬(Sum.inl a:Key)=Sum.inl b:=λq=>e (Sum.inl.inj q);rw[decide_eq_false h];exact(beq_eq_false_iff_ne.mpr e).symm
theorem j1i (a b:Str):decide ((Sum.inr a:Key)=Sum.inr b)=decide (a=b):=by
 by_cases e:a=b
 ·subst e;simp
 ·have h:¬(Sum.inr a:Key)=Sum.inr b:=λq=>e (Sum.inr.inj q);rw[decide_eq_false h,decide_eq_false e]
theorem j1k (a:Int) (b:Str):decide ((Sum.inl a:Key)=Sum.inr b)=false:=decide_eq_false (λq=>nomatch q)
theorem j1j (a:Str) (b:Int):decide ((Sum.inr a:Key)=Sum.inl b)=false:=decide_eq_false (λq=>nomatch q)
def jse (prog:Bm) (w:B3):PySem.KeyKind prog w Key where
 is:=j1m
 hash:=keyH w
 inj:=λv a b ha hb=>by
  rcases ja7 ha with⟨i,t,rfl,rfl⟩ | ⟨x,t,rfl,rfl⟩
  ·rcases ja7 hb with⟨j,u,rfl,e⟩ | ⟨y,u,rfl,e⟩
   ·injection e with e1 _;rw[e1]
   ·exact nomatch e
  ·rcases ja7 hb with⟨j,u,rfl,e⟩ | ⟨y,u,rfl,e⟩
   ·exact nomatch e
   ·injection e with e1 _;rw[e1]
 byValue:=λk v h=>by
  rcases ja7 h with⟨i,t,rfl,rfl⟩ | ⟨x,t,rfl,rfl⟩<;>rfl
 pyHash:=λhv h=>by
  rcases ja7 hv with⟨i,t,rfl,rfl⟩ | ⟨x,t,rfl,rfl⟩
  ·exact wpAny_pyHash_int h
  ·exact wpAny_pyHash_str h
 eqBool:=λhu hv h=>by
  rcases ja7 hu with⟨i,t,rfl,rfl⟩ | ⟨x,t,rfl,rfl⟩
  ·rcases ja7 hv with⟨j,u,rfl,rfl⟩ | ⟨y,u,rfl,rfl⟩
   ·rw[j1l]at h;exact wpAny_eqBool_int h
   ·rw[j1k]at h;exact SeqAt.EqAt.int_str i t y u _ _ _ _ h
  ·rcases ja7 hv with⟨j,u,rfl,rfl⟩ | ⟨y,u,rfl,rfl⟩
   ·rw[j1j]at h;exact SeqAt.EqAt.str_int x t j u _ _ _ _ h
   ·rw[j1i]at h;exact wpAny_eqBool_str h
 «strs»:=λk x t v h=>by
  rcases ja7 h with⟨i,u,rfl,e⟩ | ⟨y,u,rfl,e⟩
  ·exact nomatch e
  ·injection e with e1 _;subst e1;cases v<;>rfl
inductive V where
 |non | bl (b:Bool) | int (i:Int) | str (x:Str) | byt (b:Array UInt8) | flt (b:UInt64) | ref (a:Addr) | ty (n:String)
 deriving DecidableEq
def RelV:V->Ah->Prop
 |.non,u=>u=Bf
 |.bl b,u=>u=Value.bool b
 |.int i,u=>∃t,u=Value.int i t
 |.str x,u=>∃t,u=F3 x t
 |.byt b,u=>∃t,u=Value.bytes b t
 |.flt b,u=>∃t,u=Value.float b t
 |.ref a,u=>u=Bw a
 |.ty n,u=>u=Dx n
abbrev Vals:List V->List Ah->Prop:=Paired RelV
theorem Vals.length {xs:List V} {us:List Ah} (r:Vals xs us):xs.length=us.length:=Paired.length r
theorem Vals.get:∀{xs:List V} {us:List Ah} {i:Nat} {x:V},Vals xs us->xs[i]?=some x->∃u,us[i]?=some u/\RelV x u
 |_,_,_,_,.nil,e=>by simp at e
 |_,_,0,_,.cons r _,e=>by simp at e;subst e;exact⟨_,rfl,r⟩
 |_,_,i+1,x,.cons _ t,e=>by
  obtain⟨u,h1,h2⟩:=Vals.get (i:=i) (x:=x) t (by simpa using e);exact⟨u,by simpa using h1,h2⟩
theorem Vals.set {x:V} {u:Ah} (r:RelV x u):∀{xs:List V} {us:List Ah} (i:Nat),Vals xs us->Vals (xs.set i x) (us.set i u)
 |_,_,_,.nil=>.nil
 |_,_,0,.cons _ t=>.cons r t
 |_,_,i+1,.cons q t=>.cons q (Vals.set r i t)
theorem Vals.append:∀{xs ys:List V} {us ws:List Ah},Vals xs us->Vals ys ws->Vals (xs++ys) (us++ws)
 |_,_,_,_,.nil,s=>s
 |_,_,_,_,.cons r t,s=>.cons r (Vals.append t s)
theorem Vals.take:∀{xs:List V} {us:List Ah} (n:Nat),Vals xs us->Vals (xs.take n) (us.take n)
 |_,_,0,_=>.nil
 |_,_,_+1,.nil=>.nil
 |_,_,n+1,.cons r t=>.cons r (Vals.take n t)
theorem Vals.drop:∀{xs:List V} {us:List Ah} (n:Nat),Vals xs us->Vals (xs.drop n) (us.drop n)
 |_,_,0,r=>r
 |_,_,_+1,.nil=>.nil
 |_,_,n+1,.cons _ t=>Vals.drop n t
def RelO:Option V->Option Ah->Prop
 |some v,some u=>RelV v u
 |none,none=>True
 |_,_=>False
def KV {κ:Type}:List (κ×V)->List (κ×Ah)->Prop:=Paired λ(p:κ×V) (q:κ×Ah)=>p.1=q.1/\RelV p.2 q.2
def kV:Key->V
 |.inl i=>.int i
 |.inr x=>.str x
inductive HO where
 |lst (xs:List V)
 |tup (xs:List V)
 |dK (kvs:List (Key×V)) | dT (kvs:List (List Key×V))
 |set (S:Int->Bool) (n:Nat)
 |ins (C dx:Addr) (fs:List (Str×V))
 |own (x:Addr)
 |xd (fs:List (Str×V))
 |met (f x:Addr)
 |rng (lo hi:Int)
 |frz (o:Obj) (u:HO)
 |tbl (ps:Array Ah)
 |ext (φ:Heap->Prop)
abbrev Hp:=Addr->Option HO
def upd (H:Hp) (a:Addr) (o:HO):Hp:=λb=>if b=a then some o else H b
theorem jaj {H:Hp} {a:Addr} {o:HO}:upd H a o a=some o:=by unfold upd;rw[if_pos rfl]
theorem jag {H:Hp} {a b:Addr} {o:HO} (h:b≠a):upd H a o b=H b:=by unfold upd;rw[if_neg h]
theorem j3l {H:Hp} {a b:Addr} {o u:HO} (h:H a=some o) (h':H b=some u) (d:o≠u):a≠b:=by
 intro e;subst e;rw[h]at h';exact d (Bj h')
theorem jaf {H:Hp} {a b:Addr} {o:HO} (h:H a=some o) (h':H b=none):a≠b:=by
 intro e;subst e;rw[h]at h';cases h'
def IsTupP (h:Heap) (a:Addr) (items:Array Ah):Prop:=∃o,h.get? a=some o/\o.cls=.type "tuple"/\(∃n,o.data=.seq items n)/\o.dict=none
theorem IsTupP.tup {h:Heap} {a:Addr} {items:Array Ah} (x:IsTupP h a items):IsTup h a items:=let⟨o,e,c,d,_⟩:=x;⟨o,e,c,d⟩
theorem IsTupP.lt {h:Heap} {a:Addr} {items:Array Ah} (x:IsTupP h a items):a < h.objs.size:=let⟨_,e,_⟩:=x;Ao e
theorem IsTupP.new (h:Heap) (items:Array Ah):IsTupP (h.push {cls:=.type "tuple",data:=.seq items}) h.objs.size items:=⟨_,As _ rfl,rfl,⟨_,rfl⟩,rfl⟩
section
variable (P:Bm) (w:B3)
def ObjOk (H:Hp) (h:Heap) (a:Addr):HO->Prop
 |.lst xs=>xs.length<=Ay/\∃(its:List Ah) (n:Nat),Vals xs its/\h.get? a=some {cls:=.type "list",data:=.seq its.toArray n}
 |.tup xs=>xs.length<=Ay/\∃its:List Ah,Vals xs its/\IsTupP h a its.toArray
 |.dK kvs=>kvs.length<=Ay/\(a==sysModules)=false/\∃vs,KV kvs vs/\h.DictOf (jse P w) a vs
 |.dT kvs=>kvs.length<=Ay/\(a==sysModules)=false/\∃xs:List (List Key×Addr×Ah),
   Paired (λ(p:List Key×V) (q:List Key×Addr×Ah)=>p.1=q.1/\H q.2.1=some (.tup (p.1.map kV))/\RelV p.2 q.2.2) kvs xs /\
   ∃o es ep,h.get? a=some o/\o.ExactDict/\o.data=.dict es ep/\es.toList=xs.map (entryOfKey (tupleKind (jse P w)))/\(xs.map (·.1)).Nodup
 |.set S n=>h.SetOf (intKind P w) a S n
 |.ins C dx fs=>H dx=some (.own a)/\fs.length<=1000/\dx≠a/\h.get? a=some (PySem.W.instObj C dx) /\
   ∃mA,h.Ns1 dx mA/\(∀f,RelO (fs.lookup f) (mA f))/\PySem.Within mA (fs.map (·.1))
 |.own _=>∃o,h.get? a=some o
 |.xd fs=>∃mA,h.Ns1 a mA/\∀f,RelO (fs.lookup f) (mA f)
 |.rng lo hi=>∃t u v,h.get? a=some {cls:=.type "range",data:=.fields #[.int lo t,.int hi u,.int 1 v]}
 |.frz o u=>h.get? a=some o/\ObjOk H h a u
 |.tbl ps=>h.get? a=some {cls:=.none,data:=.fields ps}
 |.met f x=>h.get? a=some (PySem.W.methodObj (.ref f) (.ref x))
 |.ext φ=>φ h/\(∃o,h.get? a=some o)/\∀h1 h2:Heap,φ h1->(∀o,h1.get? a=some o->h2.get? a=some o)->φ h2
def HOk (H:Hp) (h:Heap):Prop:=∀a o,H a=some o->ObjOk P w H h a o
end
section
variable {P:Bm} {w:B3} {H H':Hp} {h h':Heap} {a:Addr} {o:HO}
theorem ObjOk.lt (x:ObjOk P w H h a o):a < h.objs.size:=by
 cases o with
 |lst xs=>obtain⟨_,_,_,_,e⟩:=x;exact Ao e
 |tup xs=>obtain⟨_,_,_,p⟩:=x;exact p.lt
 |dK kvs=>obtain⟨_,_,_,_,o,_,_,e,_⟩:=x;exact Ao e
 |dT kvs=>obtain⟨_,_,_,_,o,_,_,e,_⟩:=x;exact Ao e
 |set S n=>obtain⟨o,_,_,_,e,_⟩:=x;exact Ao e
 |ins C dx fs=>obtain⟨_,_,_,e,_⟩:=x;exact Ao e
 |own y=>obtain⟨_,e⟩:=x;exact Ao e
 |xd fs=>obtain⟨_,⟨_,_,_,e,_⟩,_⟩:=x;exact Ao e
 |rng lo hi=>obtain⟨_,_,_,e⟩:=x;exact Ao e
 |frz ob u=>obtain⟨e,_⟩:=x;exact Ao e
 |tbl ps=>exact Ao (show h.get? a=some _ from x)
 |met f y=>exact Ao (show h.get? a=some _ from x)
 |ext φ=>obtain⟨_,⟨_,e⟩,_⟩:=x;exact Ao e
theorem Paired.mapP {α β:Type} {F G:α->β->Prop}:∀{l₁:List α} {l₂:List β},Paired F l₁ l₂->(∀a b,F a b->G a b)->Paired G l₁ l₂
 |_,_,.nil,_=>.nil
 |_,_,.cons r t,f=>.cons (f _ _ r) (Paired.mapP t f)
theorem ObjOk.stay (x:ObjOk P w H h a o) (k:∀b u,(b=a\/H b=some (.own a))->h.get? b=some u->h'.get? b=some u)
  (ho:∀b,H b=some (.own a)->H' b=some (.own a)) (ht:∀b xs,H b=some (.tup xs)->H' b=some (.tup xs)):ObjOk P w H' h' a o:=by
 induction o with
 |lst xs=>obtain⟨z,its,n,r,e⟩:=x;exact⟨z,its,n,r,k _ _ (.inl rfl) e⟩
 |tup xs=>obtain⟨z,its,r,ob,e,c⟩:=x;exact⟨z,its,r,ob,k _ _ (.inl rfl) e,c⟩
 |dK kvs=>obtain⟨z,y,vs,r,ob,es,ep,e,c⟩:=x;exact⟨z,y,vs,r,ob,es,ep,k _ _ (.inl rfl) e,c⟩
 |dT kvs =>
  obtain⟨z,y,xs,r,ob,es,ep,e,c⟩:=x;exact⟨z,y,xs,Paired.mapP r λp q z=>⟨z.1,ht _ _ z.2.1,z.2.2⟩,ob,es,ep,k _ _ (.inl rfl) e,c⟩
 |set S n=>obtain⟨ob,es,ep,t,e,c⟩:=x;exact⟨ob,es,ep,t,k _ _ (.inl rfl) e,c⟩
 |ins C dx fs =>
  obtain⟨d,z,ne,e,mA,⟨od,es,ep,e2,c⟩,r⟩:=x;exact⟨ho _ d,z,ne,k _ _ (.inl rfl) e,mA,⟨od,es,ep,k _ _ (.inr d) e2,c⟩,r⟩
 |own y=>obtain⟨ob,e⟩:=x;exact⟨ob,k _ _ (.inl rfl) e⟩
 |xd fs=>obtain⟨mA,⟨od,es,ep,e,c⟩,r⟩:=x;exact⟨mA,⟨od,es,ep,k _ _ (.inl rfl) e,c⟩,r⟩
 |rng lo hi=>obtain⟨t,u,v,e⟩:=x;exact⟨t,u,v,k _ _ (.inl rfl) e⟩
 |frz ob u ih=>obtain⟨e,q⟩:=x;exact⟨k _ _ (.inl rfl) e,ih q⟩
 |tbl ps =>
  have e:h.get? a=some {cls:=.none,data:=.fields ps}:=x;show h'.get? a=some {cls:=.none,data:=.fields ps};exact k a _ (.inl rfl) e
 |met f y =>
  have e:h.get? a=some (PySem.W.methodObj (.ref f) (.ref y)):=x;show h'.get? a=some (PySem.W.methodObj (.ref f) (.ref y));exact k a _ (.inl rfl) e
 |ext φ=>obtain⟨p,⟨o,e⟩,st⟩:=x;exact⟨st _ _ p λo q=>k _ _ (.inl rfl) q,⟨o,k _ _ (.inl rfl) e⟩,st⟩
theorem HOk.lt (x:HOk P w H h) (e:H a=some o):a < h.objs.size:=(x a o e).lt
theorem HOk.fresh (x:HOk P w H h) (e:h.objs.size<=a):H a=none:=by
 cases q:H a with
 |none=>rfl
 |some u=>exact absurd (Bn (x.lt q) e) (Er _)
theorem HOk.kept (x:HOk P w H h) (k:∀b u,h.get? b=some u->h'.get? b=some u):HOk P w H h':=λa o e =>
 (x a o e).stay (λb u _ q=>k b u q) (λ_ q=>q) λ_ _ q=>q
theorem HOk.laid (x:HOk P w H h) (k:∀b u,h.get? b=some u->h'.get? b=some u) (hp:h.objs.size<=a) (new:ObjOk P w (upd H a o) h' a o):HOk P w (upd H a o) h':=λb u e=>by
 have hn:=x.fresh hp;by_cases hb:b=a
 ·subst hb;rw[jaj]at e;cases e;exact new
 ·rw[jag hb]at e;exact(x b u e).stay (λc v _ q=>k c v q) (λc q=>by rw[jag (jaf q hn)];exact q) λc xs q=>by rw[jag (jaf q hn)];exact q
end
def Rd (H:Hp) (a:Addr) (u:HO):Prop:=H a=some u\/∃o,H a=some (.frz o u)
theorem Rd.ok {P:Bm} {w:B3} {H:Hp} {h:Heap} {a:Addr} {u:HO} (r:Rd H a u) (x:HOk P w H h):ObjOk P w H h a u:=by
 rcases r with r | ⟨o,r⟩
 ·exact x a u r
 ·obtain⟨_,q⟩:=x a _ r;exact q
def Mut:Option HO->Prop
 |some (.lst _)=>True
 |some (.dK _)=>True
 |some (.dT _)=>True
 |some (.set _ _)=>True
 |some (.ins _ _ _)=>True
 |some (.ext _)=>True
 |_=>False
section
variable {P:Bm} {w:B3} {H:Hp} {h h':Heap} {x e:Addr} {o':HO}
theorem HOk.write (ok:HOk P w H h) (mu:Mut (H x)) (he:e=x\/H e=some (.own x)) (k:∀b u,b≠e->h.get? b=some u->h'.get? b=some u) (heo:∃u,h'.get? e=some u)
  (new:ObjOk P w (upd H x o') h' x o'):HOk P w (upd H x o') h':=λb u q=>by
 have nown:∀c y,H c=some (.own y)->c≠x:=λc y r z=>by subst z;rw[r]at mu;exact mu
 have ntup:∀c xs,H c=some (.tup xs)->c≠x:=λc xs r z=>by subst z;rw[r]at mu;exact mu
 by_cases hb:b=x
 ·subst hb;rw[jaj]at q;cases q;exact new
 ·rw[jag hb]at q;by_cases hbe:b=e
  ·have q':H b=some (.own x):=by
    rcases he with z | z
    ·exact absurd (hbe.trans z) hb
    ·rw[hbe];exact z
   rw[q]at q';cases q';obtain⟨v,hv⟩:=heo;exact⟨v,by rw[hbe];exact hv⟩
  ·refine(ok b u q).stay (λc v hc r=>k c v ?_ r) (λc r=>by rw[jag (nown c b r)];exact r) λc xs r=>by rw[jag (ntup c xs r)];exact r
   rcases hc with rfl | hc
   ·exact hbe
   ·rintro rfl
    rcases he with z | z
    ·exact nown c b hc z
    ·rw[hc]at z;cases z;exact hb rfl
end
structure Un (fs ex:List Addr) (H H':Hp) (h h':Heap):Prop where
 keep:∀b o,h.get? b=some o->H b=none->b∉fs->b∉ex->h'.get? b=some o
 slot:∀b o,h.get? b=some o->H b=none->b∈fs->b∉ex->∃sl,h'.get? b=some {o with slots:=sl}
 free:∀b o,h.get? b=some o->H b=none->b∉ex->H' b=none
 there:∀b o,h.get? b=some o->b∉ex->∃o',h'.get? b=some o'
 tups:∀b xs,H b=some (.tup xs)->H' b=some (.tup xs)
 frzs:∀b o u,H b=some (.frz o u)->H' b=some (.frz o u)
 tbls:∀b ps,H b=some (.tbl ps)->∃more,H' b=some (.tbl (ps++more))
section
variable {fs fs' ex ex':List Addr} {H H1 H2:Hp} {h h1 h2 h':Heap} {a x e:Addr} {o:HO}
theorem Un.any (u:Un fs ex H H1 h h1) {b:Addr} {ob:Obj} (q:h.get? b=some ob) (n:H b=none) (hx:b∉ex):∃sl,h1.get? b=some {ob with slots:=sl}:=by
 by_cases hb:b∈fs
 ·exact u.slot b ob q n hb hx
 ·exact⟨ob.slots,u.keep b ob q n hb hx⟩
theorem Un.kept (k:∀b u,h.get? b=some u->h'.get? b=some u):Un fs ex H H h h' :=
 ⟨λb ob q _ _ _=>k b ob q,λb ob q _ _ _=>⟨ob.slots,k b ob q⟩,λ_ _ _ n _=>n,λb ob q _=>⟨ob,k b ob q⟩,λ_ _ q=>q,λ_ _ _ q=>q,λ_ ps q=>⟨#[],by rw[q];simp⟩⟩
theorem Un.refl:Un fs ex H H h h:=Un.kept λ_ _ q=>q
theorem Un.laid (k:∀b u,h.get? b=some u->h'.get? b=some u) (hp:h.objs.size<=a) (hn:H a=none):Un fs ex H (upd H a o) h h' where
 keep:=λb u q _ _ _=>k b u q
 slot:=λb u q _ _ _=>⟨u.slots,k b u q⟩
 free:=λb u q n _=>by rw[jag (Bc (Bn (Ao q) hp))];exact n
 there:=λb u q _=>⟨u,k b u q⟩
 tups:=λb xs q=>by rw[jag (jaf q hn)];exact q
 frzs:=λb u xs q=>by rw[jag (jaf q hn)];exact q
 tbls:=λb ps q=>⟨#[],by rw[jag (jaf q hn),q];simp⟩
theorem Un.write (mu:Mut (H x)) (he:e=x\/H e=some (.own x)) (k:∀b u,b≠e->h.get? b=some u->h'.get? b=some u) (heo:∃u,h'.get? e=some u):Un fs ex H (upd H x o) h h':=by
 have hx:∀b,H b=none->b≠x:=λb n z=>by subst z;rw[n]at mu;exact mu
 have hb:∀b,H b=none->b≠e:=λb n z=>by
  subst z;rcases he with r | r
  ·exact hx b n r
  ·rw[n]at r;cases r
 have hm:∀b u,H b=some u->¬Mut (some u)->b≠x:=λb u q nm z=>by subst z;rw[q]at mu;exact nm mu
 refine⟨λb u q n _ _=>k b u (hb b n) q,λb u q n _ _=>⟨u.slots,k b u (hb b n) q⟩,λb u q n _=>by rw[jag (hx b n)];exact n,λb u q _=>?_,
  λb xs q=>by rw[jag (hm b _ q λz=>z)];exact q,λb u xs q=>by rw[jag (hm b _ q λz=>z)];exact q,λb ps q=>⟨#[],by rw[jag (hm b _ q λz=>z),q];simp⟩⟩
 by_cases hbe:b=e
 ·subst hbe;exact heo
 ·exact⟨u,k b u hbe q⟩
end
def trk (h:Heap) (H:Hp):List Addr:=(B4 h.objs.size).filter λa=>(H a).isSome
def hidT (h:Heap) (H:Hp):Heap:=PySem.W.hideAll h (trk h H)
theorem jsr (h:Heap) (H:Hp):(hidT h H).objs.size=h.objs.size:=PySem.W.hideAll_size _ _
theorem ju1 {h:Heap} {H:Hp} {b:Addr} {o:Obj} (e:h.get? b=some o) (n:H b=none):(hidT h H).get? b=some o :=
 PySem.W.hideAll_get _ e λhm=>by
  have q:(H b).isSome=true:=(Ge.mp hm).2;rw[n]at q;simp at q
theorem jyf {h:Heap} {H:Hp} {b:Addr} {o:Obj} (e:(hidT h H).get? b=some o):h.get? b=some o/\H b=none:=by
 have e':h.get? b=some o:=PySem.W.of_hideAll (trk h H) e;refine⟨e',?_⟩;cases q:H b with
 |none=>rfl
 |some x =>
  have hm:b∈trk h H:=Ge.mpr ⟨Dy.mpr (Ao e'),by simp[q]⟩;have z:(hidT h H).get? b=none:=PySem.W.hideAll_none (trk h H) hm;rw[z]at e;cases e
def jza (g h:Heap) (L:Addr):List (Addr×Obj):=(B4 h.objs.size).filterMap λa=>if a=L\/(g.get? a).isSome=true then none else(h.get? a).map λo=>(a,o)
def rest (g h:Heap) (L d:Addr):List (Addr×Obj):=(jza g h L).filter λp=>decide (p.1≠d)
structure Mod (K:Aj) (mg:Str->Option Ah) (base:Heap):Prop where
 kin:K.In base
 glob:base.Ns Dm mg
 blt:∃mb,base.Ns builtinsNs mb/\∀x:Str,x≠"__name__"->mb x=By x
 nolimit:base.NoLimit
structure Cx where
 prog:Bm
 w:B3
 K:Aj
 mg:Str->Option Ah
 base:Heap
 A:B8
 N:List Str
 s₀:Ak
 H₀:Hp
 env:Env
 outer:List Env
 stack:List Env
 ex:List Addr
 fn:Str->Bool
 calm:Bool
 pn:List (Addr×Obj)
 xe:Ah->Ak->Prop
def frs (l:List Env):List Addr:=l.filterMap (·.frame)
abbrev Cx.fs (X:Cx):List Addr:=frs X.outer
def Vis (sc:Eo) (x:Str):Prop:=sc.names.lookup x=some .local\/sc.names.lookup x=some .cell\/sc.names.lookup x=some .free
def Loc (sc:Eo) (x:Str):Prop:=sc.names.lookup x=some .local\/sc.names.lookup x=some .cell
def Look (env:Env) (h:Heap) (m:Str->Option Ah) (x:Str) (u:Ah):Prop :=
 (env.kindOf x=some .local/\m x=some u)\/((env.kindOf x=some .cell\/env.kindOf x=some .free)/\∃c,env.cells.lookup x=some c/\h.IsCell c (some u))
structure Cx.Ok (X:Cx):Prop where
 mod:Mod X.K X.mg X.base
 kind:X.env.scope.kind=.function
 glob:X.env.globals=Dm
 blt:X.env.builtins=builtinsNs
 above:X.s₀.heap.objs.size<=X.env.locals
 inj:∀x y c,X.env.cells.lookup x=some c->X.env.cells.lookup y=some c->x=y
 has:∀x,(X.env.kindOf x=some .cell\/X.env.kindOf x=some .free)->∃c,X.env.cells.lookup x=some c
 cab:∀x c,X.fn x=true->X.env.cells.lookup x=some c->X.s₀.heap.objs.size<=c
 hd:X.calm=true->X.A.handled=none
 frames:X.A.frames=some X.stack
 stk:X.stack=X.outer\/(X.stack=X.env::X.outer/\X.env.frame=some X.env.locals)
 exf:∀b∈X.ex,b≠X.env.locals/\∀x c,X.env.cells.lookup x=some c->c≠b
 bs:∀b o,X.base.get? b=some o->X.s₀.heap.get? b=some o/\X.H₀ b=none
 bsz:X.base.objs.size<=X.s₀.heap.objs.size
 noex:∀b o,X.base.get? b=some o->b∉X.ex
 exfs:∀b∈X.ex,b∉X.fs
 funs:X.s₀.heap.FunFrames X.base X.outer
 frf:∀b∈X.fs,X.H₀ b=none
structure Inv (X:Cx) (pins:List (Addr×Obj)) (σ:List (Option V)) (H:Hp) (s:Ak):Prop where
 ok:X.Ok
 os:s.os=X.s₀.os
 bare:AllBare s.gens
 base:Un X.fs X.ex X.H₀ H X.s₀.heap s.heap
 loc:∃m,s.heap.Ns X.env.locals m/\∀(i:Nat) (x:Str) (v:V),X.N[i]?=some x->σ[i]?=some (some v)->Vis X.env.scope x->∃u,RelV v u/\Look X.env s.heap m x u
 cell:∀x c,X.env.cells.lookup x=some c->∃v,s.heap.IsCell c v
 free:H X.env.locals=none
 freeC:∀x c,X.env.cells.lookup x=some c->H c=none
 pin:∀p∈X.pn++pins,s.heap.get? p.1=some p.2/\H p.1=none/\p.1≠X.env.locals/\p.1∉X.fs/\∀v,p.2.data≠.cell v
 hok:HOk X.prog X.w H s.heap
 len:σ.length=X.N.length
section
variable {X:Cx} {pins:List (Addr×Obj)} {σ:List (Option V)} {H H':Hp} {s:Ak} {h':Heap}
theorem Cx.Ok.nofr (ok:X.Ok) {b:Addr} {o:Obj} (e:X.base.get? b=some o):b∉X.fs:=λhb=>by
 have:=(ok.funs.mem hb).1;rw[e]at this;cases this
theorem Inv.bs (I:Inv X pins σ H s):∀b o,X.base.get? b=some o->s.heap.get? b=some o/\H b=none:=λb o e =>
 ⟨I.base.keep b o (I.ok.bs b o e).1 (I.ok.bs b o e).2 (I.ok.nofr e) (I.ok.noex b o e),I.base.free b o (I.ok.bs b o e).1 (I.ok.bs b o e).2 (I.ok.noex b o e)⟩
theorem Inv.bk (I:Inv X pins σ H s):∀b o,X.base.get? b=some o->s.heap.get? b=some o:=λb o e=>(I.bs b o e).1
theorem Inv.mod (I:Inv X pins σ H s):Mod X.K X.mg X.base:=I.ok.mod
theorem Inv.kIn (I:Inv X pins σ H s):X.K.In s.heap:=I.ok.mod.kin.keeps I.bk
theorem Inv.lt (I:Inv X pins σ H s):X.env.locals < s.heap.objs.size:=let⟨_,hn,_⟩:=I.loc;hn.lt
theorem Inv.sz (I:Inv X pins σ H s):X.s₀.heap.objs.size<=s.heap.objs.size:=A9 I.ok.above (Nat.le_of_lt I.lt)
theorem Inv.nofs (I:Inv X pins σ H s) {a:Addr} (h:s.heap.objs.size<=a):a∉X.fs:=λhb=>by
 obtain⟨_,o,ho,_⟩:=I.ok.funs.mem hb;exact absurd (Bn (Ao ho) (A9 I.sz h)) (Er _)
theorem Inv.cne (I:Inv X pins σ H s):∀x c,X.env.cells.lookup x=some c->c≠X.env.locals:=λx c e z=>by
 obtain⟨v,o,ho,hd⟩:=I.cell x c e;obtain⟨m,⟨o',es,ep,ho',hd',_⟩,_⟩:=I.loc;rw[z,ho']at ho;cases ho;rw[hd']at hd;cases hd
theorem Inv.funs (I:Inv X pins σ H s):s.heap.FunFrames X.base X.outer:=by
 have all:∀(l:List Env),(∀b∈frs l,b∈X.fs)->X.s₀.heap.FunFrames X.base l->s.heap.FunFrames X.base l:=by
  intro l
  induction l with
  |nil=>intro _ _;trivial
  |cons env r ih =>
   intro hs hl;obtain⟨hk,⟨L,o,hf,hn,ho,hd⟩,hr⟩:=hl;have hL:L∈X.fs:=hs L (by unfold frs;rw[Gh,hf];exact Au);obtain⟨sl,e⟩:=I.base.slot L o ho (I.ok.frf L hL) hL λz=>I.ok.exfs L z hL;exact⟨hk,⟨L,_,hf,hn,e,hd⟩,ih (λb hb=>hs b (by unfold frs;rw[Gh,hf];exact Aw _ hb)) hr⟩
 exact all X.outer (λ_ hb=>hb) I.ok.funs
theorem Inv.stack (I:Inv X pins σ H s):s.heap.FunFrames X.base X.stack:=by
 rcases I.ok.stk with e | ⟨e,hf⟩
 ·rw[e];exact I.funs
 ·rw[e];obtain⟨m,hn,_⟩:=I.loc;refine .cons (by rw[I.ok.kind];decide) hf hn ?_ I.funs;exact Heap.get?_none_of_le (A9 I.ok.bsz I.ok.above)
theorem Inv.stkSub (I:Inv X pins σ H s):∀b∈frs X.stack,b∈X.env.locals::X.fs:=λb hb=>by
 rcases I.ok.stk with e | ⟨e,hf⟩
 ·rw[e]at hb;exact Aw _ hb
 ·rw[e]at hb;unfold frs at hb;rw[Gh,hf]at hb;exact hb
theorem Inv.stkFree (I:Inv X pins σ H s):∀b∈frs X.stack,H b=none:=λb hb=>by
 rcases Am.mp (I.stkSub b hb)with e | hb
 ·rw[e];exact I.free
 ·obtain⟨_,o,ho,_⟩:=I.ok.funs.mem hb;exact I.base.free b o ho (I.ok.frf b hb) λz=>I.ok.exfs b z hb
theorem Inv.step {g':Array GenState} {t':Nat} {d':Drawn} {ch:List Addr} (I:Inv X pins σ H s)
  (hch:∀b∈ch,(b∈X.ex\/X.s₀.heap.objs.size<=b)/\b≠X.env.locals/\(∀x c,X.env.cells.lookup x=some c->c≠b)/\∀p∈X.pn++pins,p.1≠b)
  (keep:∀b o,b≠X.env.locals->b∉X.fs->b∉ch->s.heap.get? b=some o->H b=none->h'.get? b=some o)
  (slot:∀b o,b≠X.env.locals->b∈X.fs->b∉ch->s.heap.get? b=some o->H b=none->∃sl,h'.get? b=some {o with slots:=sl}) (free:∀b o,b∉ch->s.heap.get? b=some o->H b=none->H' b=none)
  (there:∀b o,b∉ch->s.heap.get? b=some o->∃o',h'.get? b=some o')
  (tups:∀b xs,H b=some (.tup xs)->H' b=some (.tup xs)) (frzs:∀b o u,H b=some (.frz o u)->H' b=some (.frz o u)) (tbls:∀b ps,H b=some (.tbl ps)->∃more,H' b=some (.tbl (ps++more)))
  (ns:∀m,s.heap.Ns X.env.locals m->h'.Ns X.env.locals m) (hok:HOk X.prog X.w H' h') (hg:AllBare g') :
  Inv X pins σ H' {s with heap:=h',gens:=g',drawn:=d',toks:=t'}:=by
 have neL:∀b o,X.s₀.heap.get? b=some o->b≠X.env.locals:=λb o e=>Bc (Bn (Ao e) I.ok.above);have neC:∀b o,X.s₀.heap.get? b=some o->b∉X.ex->b∉ch:=λb o e hx hb=>by
  rcases(hch b hb).1 with z | z
  ·exact hx z
  ·exact absurd (Bn (Ao e) z) (Er _)
 have cellK:∀x c,X.env.cells.lookup x=some c->∀v,s.heap.IsCell c v->h'.IsCell c v:=λx c e v ⟨o,ho,hd⟩=>by
  have nch:c∉ch:=λz=>(hch c z).2.2.1 x c e rfl;by_cases hc:c∈X.fs
  ·obtain⟨sl,q⟩:=slot c o (I.cne x c e) hc nch ho (I.freeC x c e);exact⟨_,q,hd⟩
  ·exact⟨o,keep c o (I.cne x c e) hc nch ho (I.freeC x c e),hd⟩
 refine⟨I.ok,I.os,hg,⟨λb o e n hb hx=>?_,λb o e n hb hx=>?_,λb o e n hx=>?_,λb o e hx=>?_,λb xs e=>tups b xs (I.base.tups b xs e),λb o xs e=>frzs b o xs (I.base.frzs b o xs e),λb ps e=>?_⟩,?_,λx c e=>?_,?_,λx c e=>?_,λp hp=>?_,hok,I.len⟩
 ·exact keep b o (neL b o e) hb (neC b o e hx) (I.base.keep b o e n hb hx) (I.base.free b o e n hx)
 ·obtain⟨sl,e1⟩:=I.base.slot b o e n hb hx;obtain⟨sl',e2⟩:=slot b _ (neL b o e) hb (neC b o e hx) e1 (I.base.free b o e n hx);exact⟨sl',e2⟩
 ·obtain⟨o',e1⟩:=I.base.there b o e hx;exact free b o' (neC b o e hx) e1 (I.base.free b o e n hx)
 ·obtain⟨o',e1⟩:=I.base.there b o e hx;exact there b o' (neC b o e hx) e1
 ·obtain⟨m1,e1⟩:=I.base.tbls b ps e;obtain⟨m2,e2⟩:=tbls b _ e1;exact⟨m1++m2,by rw[e2,Array.append_assoc]⟩
 ·obtain⟨m,hn,hl⟩:=I.loc;refine⟨m,ns m hn,λi x v e1 e2 e3=>?_⟩;obtain⟨u,r,l⟩:=hl i x v e1 e2 e3;refine⟨u,r,?_⟩;rcases l with l | ⟨k,c,e,z⟩
  ·exact .inl l
  ·exact .inr ⟨k,c,e,cellK x c e _ z⟩
 ·obtain⟨v,z⟩:=I.cell x c e;exact⟨v,cellK x c e v z⟩
 ·obtain⟨m,⟨o,_,_,ho,_⟩,_⟩:=I.loc;exact free _ o (λz=>(hch _ z).2.1 rfl) ho I.free
 ·obtain⟨v,o,ho,hd⟩:=I.cell x c e;exact free c o (λz=>(hch c z).2.2.1 x c e rfl) ho (I.freeC x c e)
 ·obtain⟨e,n,ne,nf,d⟩:=I.pin p hp;have nch:p.1∉ch:=λz=>(hch p.1 z).2.2.2 p hp rfl;exact⟨keep p.1 p.2 ne nf nch e n,free p.1 p.2 nch e n,ne,nf,d⟩
theorem Inv.un {t':Nat} (I:Inv X pins σ H s) (u:Un X.fs [] H H' s.heap h') (hok:HOk X.prog X.w H' h'):Inv X pins σ H' {s with heap:=h',toks:=t'}:=by
 obtain⟨m,⟨o,es,ep,ho,r⟩,_⟩:=id I.loc;obtain⟨sl,hL⟩:=u.any ho I.free (by simp);exact I.step (g':=s.gens) (d':=s.drawn) (ch:=[]) (λ_ z=>nomatch z) (λb o _ hb _ e n=>u.keep b o e n hb (by simp)) (λb o _ hb _ e n=>u.slot b o e n hb (by simp)) (λb o _ e n=>u.free b o e n (by simp)) (λb o _ e=>u.there b o e (by simp)) u.tups u.frzs u.tbls (λm' hm=>by
  obtain⟨o',es',ep',ho',r'⟩:=hm;rw[ho]at ho';cases ho';exact⟨_,es',ep',hL,r'⟩) hok I.bare
theorem Inv.call {g':Array GenState} {t':Nat} {d':Drawn} {ch:List Addr} (I:Inv X pins σ H s) (u:Un (frs X.stack) ch H H' s.heap h') (hok:HOk X.prog X.w H' h') (hg:AllBare g')
  (hch:∀b∈ch,(b∈X.ex\/X.s₀.heap.objs.size<=b)/\b≠X.env.locals/\(∀x c,X.env.cells.lookup x=some c->c≠b)/\∀p∈X.pn++pins,p.1≠b) :
  Inv X pins σ H' {s with heap:=h',gens:=g',drawn:=d',toks:=t'}:=by
 obtain⟨m,⟨o,es,ep,ho,r⟩,_⟩:=id I.loc;obtain⟨sl,hL⟩:=u.any ho I.free λz=>(hch _ z).2.1 rfl;exact I.step (ch:=ch) hch (λb o hL hb hc e n=>u.keep b o e n (λz=>(Am.mp (I.stkSub b z)).elim hL hb) hc) (λb o _ _ hc e n=>u.any e n hc) (λb o hc e n=>u.free b o e n hc) (λb o hc e=>u.there b o e hc) u.tups u.frzs u.tbls (λm' hm=>by
  obtain⟨o',es',ep',ho',r'⟩:=hm;rw[ho]at ho';cases ho';exact⟨_,es',ep',hL,r'⟩) hok hg
theorem Inv.turned {t':Nat} {it:Addr} (I:Inv X pins σ H s) (k:∀b o,b≠it->s.heap.get? b=some o->h'.get? b=some o) (hn:H it=none) (hL:it≠X.env.locals)
  (h1:it∈X.ex\/X.s₀.heap.objs.size<=it) (h2:∀x c,X.env.cells.lookup x=some c->c≠it) (h3:∀p∈X.pn++pins,p.1≠it):Inv X pins σ H {s with heap:=h',toks:=t'}:=by
 have nit:∀b u,H b=some u->b≠it:=λb u e z=>by rw[z,hn]at e;cases e
 refine I.step (g':=s.gens) (d':=s.drawn) (ch:=[it]) (λb hb=>?_) (λb o _ _ hc e _=>k b o (λz=>hc (by simp[z])) e) (λb o _ _ hc e _=>⟨o.slots,k b o (λz=>hc (by simp[z])) e⟩) (λ_ _ _ _ n=>n)
  (λb o hc e=>⟨o,k b o (λz=>hc (by simp[z])) e⟩) (λ_ _ e=>e) (λ_ _ _ e=>e) (λb ps e=>⟨#[],by rw[e];simp⟩) (λm hm=>?_) (λb u e=>?_) I.bare
 ·have e:b=it:=by simpa using hb
  subst e;exact⟨h1,hL,h2,h3⟩
 ·obtain⟨o,es,ep,ho,r⟩:=hm;exact⟨o,es,ep,k _ o (Ne.symm hL) ho,r⟩
 ·refine(I.hok b u e).stay (λc v hc q=>k c v ?_ q) (λ_ q=>q) λ_ _ q=>q;rcases hc with z | z
  ·rw[z];exact nit b u e
  ·exact nit c _ z
theorem Inv.tok (I:Inv X pins σ H s) (t:Nat):Inv X pins σ H {s with toks:=t}:=I.un (h':=s.heap) (t':=t) Un.refl I.hok
theorem Inv.kept {t':Nat} (I:Inv X pins σ H s) (k:∀b u,s.heap.get? b=some u->h'.get? b=some u):Inv X pins σ H {s with heap:=h',toks:=t'}:=I.un (Un.kept k) (I.hok.kept k)
theorem Inv.laid {a:Addr} {o:HO} {t':Nat} (I:Inv X pins σ H s) (k:∀b u,s.heap.get? b=some u->h'.get? b=some u) (hp:s.heap.objs.size<=a) (new:ObjOk X.prog X.w (upd H a o) h' a o) :
  Inv X pins σ (upd H a o) {s with heap:=h',toks:=t'}:=I.un (Un.laid k hp (I.hok.fresh hp)) (I.hok.laid k hp new)
theorem Inv.write {x e:Addr} {o:HO} {t':Nat} (I:Inv X pins σ H s) (mu:Mut (H x)) (he:e=x\/H e=some (.own x)) (k:∀b u,b≠e->s.heap.get? b=some u->h'.get? b=some u) (heo:∃u,h'.get? e=some u)
  (new:ObjOk X.prog X.w (upd H x o) h' x o):Inv X pins σ (upd H x o) {s with heap:=h',toks:=t'}:=I.un (Un.write mu he k heo) (I.hok.write mu he k heo new)
theorem Inv.pins_of {pins':List (Addr×Obj)} (I:Inv X pins σ H s) (h:∀p∈pins',s.heap.get? p.1=some p.2/\H p.1=none/\p.1≠X.env.locals/\p.1∉X.fs/\∀v,p.2.data≠.cell v):Inv X pins' σ H s :=
 ⟨I.ok,I.os,I.bare,I.base,I.loc,I.cell,I.free,I.freeC,λp hp=>(A8.mp hp).elim (λz=>I.pin p (D3 _ z)) (h p),I.hok,I.len⟩
theorem jot {N:List Str} (hN:N.Nodup) {i j:Nat} {x:Str} (a:N[i]?=some x) (b:N[j]?=some x):i=j:=by
 obtain⟨h1,e1⟩:=A6.mp a;obtain⟨h2,e2⟩:=A6.mp b;exact(List.getElem_inj hN).mp (e1.trans e2.symm)
theorem jlo {M:Model} {A:B8} {E:Ah->Ak->Prop} {i:Nat} {x:Str} {v:V} {u:Ah} {Q:Unit->Ak->Prop} (I:Inv X pins σ H s) (hN:X.N.Nodup) (hi:X.N[i]?=some x) (hx:Loc X.env.scope x) (r:RelV v u)
  (h:∀s',Inv X pins (σ.set i (some v)) H s'->(∃a,Dd a s.heap s'.heap/\(a=X.env.locals\/X.env.cells.lookup x=some a))->Q () s') (hf:X.fn x=true\/X.env.scope.names.lookup x=some .local:=by first | exact .inl rfl | exact .inr rfl | assumption):Az M A (storeName X.env x u) Q E s:=by
 obtain⟨m,hn,hl⟩:=id I.loc;have hcls:(X.env.scope.kind==.class || (X.env.scope.kind==.module&&X.env.locals != X.env.globals))=false:=by rw[I.ok.kind];rfl
 have hiσ:i < σ.length:=by rw[I.len];exact(A6.mp hi).1
 have cne:=I.cne;have tracked:∀{a:Addr} {h':Heap},(∃o,s.heap.get? a=some o/\H a=none)->Dd a s.heap h'->HOk X.prog X.w H h':=λ{a h'} ha hs b ob e=>by
  obtain⟨_,_,hfree⟩:=ha;refine(I.hok b ob e).stay (λc w' hc q=>(hs.2 c ?_).trans q) (λ_ q=>q) λ_ _ q=>q
  rintro rfl
  rcases hc with rfl | hc
  ·rw[hfree]at e;cases e
  ·rw[hfree]at hc;cases hc
 rcases hx with hk | hk
 ·refine wpAny_storeName_local hk hn (λh' hn' hs=>?_) hcls;obtain⟨oL,_,_,hoL,_⟩:=id hn;refine h _ ⟨I.ok,I.os,I.bare,⟨λb o e n hb hx=>?_,λb o e n hb hx=>?_,I.base.free,λb o e hx=>?_,I.base.tups,I.base.frzs,I.base.tbls⟩,⟨_,hn',λj y v' e1 e2 e3=>?_⟩,λy c e=>?_,I.free,I.freeC,λp hp=>?_,tracked ⟨oL,hoL,I.free⟩ hs,by simpa using I.len⟩ ⟨_,hs,.inl rfl⟩
  ·exact(hs.2 b (Bc (Bn (Ao e) I.ok.above))).trans (I.base.keep b o e n hb hx)
  ·obtain⟨sl,e1⟩:=I.base.slot b o e n hb hx;exact⟨sl,(hs.2 b (Bc (Bn (Ao e) I.ok.above))).trans e1⟩
  ·obtain⟨o',e1⟩:=I.base.there b o e hx;exact⟨o',(hs.2 b (Bc (Bn (Ao e) I.ok.above))).trans e1⟩
  ·by_cases hj:j=i
   ·subst hj;rw[hi]at e1;cases e1;rw[List.getElem?_set_self hiσ]at e2;cases e2;exact⟨u,r,.inl ⟨hk,by simp⟩⟩
   ·rw[C8 (Ne.symm hj)]at e2;obtain⟨u',r',q⟩:=hl j y v' e1 e2 e3;refine⟨u',r',?_⟩;rcases q with⟨k,e⟩ | ⟨k,c,e,z⟩
    ·refine .inl ⟨k,?_⟩;have:y≠x:=λe=>hj (jot hN e1 (e▸hi));simp[this,e]
    ·exact .inr ⟨k,c,e,z.sameBut hs (cne y c e)⟩
  ·obtain⟨w',z⟩:=I.cell y c e;exact⟨w',z.sameBut hs (cne y c e)⟩
  ·obtain⟨e,n,ne,nf,d⟩:=I.pin p hp;exact⟨(hs.2 p.1 ne).trans e,n,ne,nf,d⟩
 ·have hfn:X.fn x=true:=by
   rcases hf with z | z
   ·exact z
   ·rw[z]at hk;cases hk
  obtain⟨c,hc⟩:=I.ok.has x (.inl hk);obtain⟨w',z⟩:=I.cell x c hc;refine wpAny_storeName_cell I.ok.kind hk hc z (λh' hc' hs=>?_);obtain⟨oc,hoc,hocd⟩:=id z;refine h {s with heap:=h'} ⟨I.ok,I.os,I.bare,⟨λb o e n hb hx=>?_,λb o e n hb hx=>?_,I.base.free,λb o e hx=>?_,I.base.tups,I.base.frzs,I.base.tbls⟩,⟨m,hn.sameBut hs (Ne.symm (cne x c hc)),λj y v' e1 e2 e3=>?_⟩,λy c' e=>?_,I.free,I.freeC,λp hp=>?_,tracked ⟨oc,hoc,I.freeC x c hc⟩ hs,by simpa using I.len⟩ ⟨c,hs,.inr hc⟩
  ·exact(hs.2 b (Bc (Bn (Ao e) (I.ok.cab x c hfn hc)))).trans (I.base.keep b o e n hb hx)
  ·obtain⟨sl,e1⟩:=I.base.slot b o e n hb hx;exact⟨sl,(hs.2 b (Bc (Bn (Ao e) (I.ok.cab x c hfn hc)))).trans e1⟩
  ·obtain⟨o',e1⟩:=I.base.there b o e hx;exact⟨o',(hs.2 b (Bc (Bn (Ao e) (I.ok.cab x c hfn hc)))).trans e1⟩
  ·by_cases hj:j=i
   ·subst hj;rw[hi]at e1;cases e1;rw[List.getElem?_set_self hiσ]at e2;cases e2;exact⟨u,r,.inr ⟨.inl hk,c,hc,hc'⟩⟩
   ·rw[C8 (Ne.symm hj)]at e2;obtain⟨u',r',q⟩:=hl j y v' e1 e2 e3;refine⟨u',r',?_⟩;rcases q with q | ⟨k,c',e,z'⟩
    ·exact .inl q
    ·refine .inr ⟨k,c',e,z'.sameBut hs ?_⟩
     rintro rfl
     exact hj (jot hN e1 (I.ok.inj _ _ _ e hc▸hi))
  ·by_cases hcc:c'=c
   ·subst hcc;exact⟨_,hc'⟩
   ·obtain⟨w2,z2⟩:=I.cell y c' e;exact⟨w2,z2.sameBut hs hcc⟩
  ·obtain⟨e,n,ne,nf,d⟩:=I.pin p hp;refine⟨(hs.2 p.1 ?_).trans e,n,ne,nf,d⟩;intro q;rw[q,hoc]at e;have q':oc=p.2:=Bj e;exact d w' (by rw[<-q'];exact hocd)
theorem jof {M:Model} {A:B8} {E:Ah->Ak->Prop} {i:Nat} {x:Str} {v:V} {u:Ah} {Q:Unit->Ak->Prop} (I:Inv X pins σ H s) (hN:X.N.Nodup) (hi:X.N[i]?=some x) (hx:Loc X.env.scope x) (r:RelV v u)
  (h:∀s',Inv X pins (σ.set i (some v)) H s'->Q () s') (hf:X.fn x=true\/X.env.scope.names.lookup x=some .local:=by first | exact .inl rfl | exact .inr rfl | assumption):Az M A (storeName X.env x u) Q E s :=
 jlo I hN hi hx r (λs' I' _=>h s' I') hf
theorem Inv.call' {s':Ak} {ch:List Addr} (I:Inv X pins σ H s) (ho:s'.os=s.os) (u:Un (frs X.stack) ch H H' s.heap s'.heap) (hok:HOk X.prog X.w H' s'.heap) (hg:AllBare s'.gens)
  (hch:∀b∈ch,(b∈X.ex\/X.s₀.heap.objs.size<=b)/\b≠X.env.locals/\(∀x c,X.env.cells.lookup x=some c->c≠b)/\∀p∈X.pn++pins,p.1≠b):Inv X pins σ H' s':=by
 obtain⟨h',g',d',t',o'⟩:=s';have e:o'=s.os:=ho;subst e;exact I.call (g':=g') (t':=t') (d':=d') u hok hg hch
end
abbrev XK:=Ah->Option Addr->Hp->Prop
abbrev St:=List (Option V)
abbrev VK:=V->Hp->Prop
abbrev TE:=St->Hp->VK->Prop
abbrev TT:=St->Hp->(Bool->Hp->Prop)->Prop
abbrev TA:=St->Hp->(List V->Hp->Prop)->Prop
structure Ends where
 nx:St->Hp->Prop
 rt:VK
 bk:St->Hp->Prop:=λ_ _=>False
 ct:St->Hp->Prop:=λ_ _=>False
abbrev TS:=Ends->St->Hp->Prop
def EP (X:Cx) (pins:List (Addr×Obj)) (σ:St) (Q:VK) (u:Ah) (s':Ak):Prop:=∃v H',Inv X pins σ H' s'/\RelV v u/\Q v H'
def TP (X:Cx) (pins:List (Addr×Obj)) (σ:St) (Q:Bool->Hp->Prop) (b:Bool) (s':Ak):Prop:=∃H',Inv X pins σ H' s'/\Q b H'
def AP (X:Cx) (pins:List (Addr×Obj)) (σ:St) (Q:List V->Hp->Prop) (us:List Ah) (s':Ak):Prop:=∃vs H',Inv X pins σ H' s'/\Vals vs us/\Q vs H'
def SP (X:Cx) (pins:List (Addr×Obj)) (D:Ends) (f:Flow) (s':Ak):Prop :=
 match f with
 |.next=>∃σ' H',Inv X pins σ' H' s'/\D.nx σ' H'
 |.brk=>∃σ' H',Inv X pins σ' H' s'/\D.bk σ' H'
 |.cont=>∃σ' H',Inv X pins σ' H' s'/\D.ct σ' H'
 |.ret u=>∃v σ' H',Inv X pins σ' H' s'/\RelV v u/\D.rt v H'
def PE (X:Cx) (e:Expr) (t:TE):Prop :=
 ∀(pins:List (Addr×Obj)) (s:Ak) (σ:St) (H:Hp) (Q:VK),Inv X pins σ H s->t σ H Q->Az (Ba X.prog X.w) X.A (eval e X.env) (EP X pins σ Q) X.xe s
def PT (X:Cx) (e:Expr) (t:TT):Prop :=
 ∀(pins:List (Addr×Obj)) (s:Ak) (σ:St) (H:Hp) (Q:Bool->Hp->Prop),Inv X pins σ H s->t σ H Q->Az (Ba X.prog X.w) X.A (isTrue e X.env (eval e X.env)) (TP X pins σ Q) X.xe s
def PW (X:Cx) (e:Expr) (t:TT):Prop :=
 ∀(whole:Sem Ah) (pins:List (Addr×Obj)) (s:Ak) (σ:St) (H:Hp) (Q:Bool->Hp->Prop),Inv X pins σ H s->t σ H Q->Az (Ba X.prog X.w) X.A (isTrue e X.env whole) (TP X pins σ Q) X.xe s
theorem PW.pt {X:Cx} {e:Expr} {t:TT} (h:PW X e t):PT X e t:=h _
def PA (X:Cx) (es:List Expr) (t:TA):Prop :=
 ∀(pos:Pos) (pins:List (Addr×Obj)) (s:Ak) (σ:St) (H:Hp) (Q:List V->Hp->Prop),Inv X pins σ H s->t σ H Q->Az (Ba X.prog X.w) X.A (spliced (D9 pos (Ax es X.env))) (AP X pins σ Q) X.xe s
def PS (X:Cx) (st:Stmt) (t:TS):Prop :=
 ∀(pins:List (Addr×Obj)) (s:Ak) (σ:St) (H:Hp) (D:Ends),Inv X pins σ H s->t D σ H->Az (Ba X.prog X.w) X.A (exec st X.env) (SP X pins D) X.xe s
def PSs (X:Cx) (st:List Stmt) (t:TS):Prop :=
 ∀(pins:List (Addr×Obj)) (s:Ak) (σ:St) (H:Hp) (D:Ends),Inv X pins σ H s->t D σ H->Az (Ba X.prog X.w) X.A (execs st X.env) (SP X pins D) X.xe s
theorem thn {α:Type} {t:Sem α} {Q Q':α->Ak->Prop} {M:Model} {A:B8} {E:Ah->Ak->Prop} {s:Ak} (h:Az M A t Q E s) (hQ:∀a s,Q a s->Q' a s):Az M A t Q' E s:=Dq h hQ λ_ _ x=>x
section
variable {X:Cx}
theorem bin {a b:Expr} {ta tb:TE} (ha:PE X a ta) (hb:PE X b tb) {pins:List (Addr×Obj)} {s:Ak} {σ:St} {H:Hp} {R:V->V->Hp->Prop} (I:Inv X pins σ H s) (h:ta σ H λx H1=>tb σ H1 λy H2=>R x y H2)
  {α:Type} {Q:α->Ak->Prop} {f:Ah->Ah->Sem α}
  (hf:∀v u s2 x y H2,Inv X pins σ H2 s2->RelV x v->RelV y u->R x y H2->Az (Ba X.prog X.w) X.A (f v u) Q X.xe s2) :
  Az (Ba X.prog X.w) X.A (eval a X.env) (λv s₁=>Az (Ba X.prog X.w) X.A (eval b X.env) (λu s₂=>Az (Ba X.prog X.w) X.A (f v u) Q X.xe s₂) X.xe s₁) X.xe s:=by
 refine thn (ha pins s σ H _ I h) λv s1 ⟨x,H1,I1,r1,q1⟩=>?_;refine thn (hb pins s1 σ H1 _ I1 q1) λu s2 ⟨y,H2,I2,r2,q2⟩=>?_;exact hf v u s2 x y H2 I2 r1 r2 q2
def tVar (i:Nat):TE:=λσ H Q=>∃v,σ[i]?=some (some v)/\Q v H
def tC (v:V):TE:=λ_ H Q=>Q v H
theorem jf5 {i:Nat} {x:Str} {pos:Pos} (hN:X.N[i]?=some x) (hv:Vis X.env.scope x) (hd:(x==("__debug__":Str))=false:=by decide) (hcd:(x==("__classdict__":Str))=false:=by decide):PE X (.Name x pos) (tVar i):=by
 intro pins s σ H Q I h;obtain⟨v,e,h⟩:=h;obtain⟨m,hn,hl⟩:=I.loc;obtain⟨u,r,l⟩:=hl i x v hN e hv;have fin:EP X pins σ Q u s:=⟨v,H,I,r,h⟩;rcases l with⟨hk,hm⟩ | ⟨hk,c,hc,hcell⟩
 ·exact wpAny_Name (wpAny_loadName_local I.ok.kind hk hn hm fin) hd
 ·rcases hk with hk | hk
  ·exact wpAny_Name (wpAny_loadName_cell I.ok.kind hk hc hcell fin) hd
  ·exact wpAny_Name (wpAny_loadName_free I.ok.kind hk hc hcell fin hcd) hd
theorem jau {i j pos}:PE X (.Constant (.int i) j pos) (tC (.int i)):=λ_ _ _ H _ I h=>wpAny_Constant_int ⟨.int i,H,I.tok _,⟨_,rfl⟩,h⟩
theorem j3h {b j pos}:PE X (.Constant (.bool b) j pos) (tC (.bl b)):=λ_ _ _ H _ I h=>Constant_bool ⟨.bl b,H,I,rfl,h⟩
theorem jop {j pos}:PE X (.Constant .none j pos) (tC .non):=λ_ _ _ H _ I h=>Constant_none ⟨.non,H,I,rfl,h⟩
theorem j0u {x j pos}:PE X (.Constant (.str x) j pos) (tC (.str x)):=λ_ _ _ H _ I h=>Calls.Constant_str ⟨.str x,H,I.tok _,⟨_,rfl⟩,h⟩
def Gl (X:Cx) (x:Str):Prop:=X.env.kindOf x=some .globalImplicit
theorem jsj {E:Ah->Ak->Prop} {pins:List (Addr×Obj)} {s:Ak} {σ:St} {H:Hp} {x:Str} {u:Ah} {pos:Pos} {Q:Ah->Ak->Prop} (I:Inv X pins σ H s) (hg:Gl X x) (hm:X.mg x=some u) (h:Q u s)
  (hd:(x==("__debug__":Str))=false:=by decide):Az (Ba X.prog X.w) X.A (eval (.Name x pos) X.env) Q E s :=
 Calls.Name_function_global I.ok.kind hg (Calls.loadGlobal_global (by rw[I.ok.glob];exact I.mod.glob.keeps I.bk) hm h) hd
theorem jhk {E:Ah->Ak->Prop} {pins:List (Addr×Obj)} {s:Ak} {σ:St} {H:Hp} {x:Str} {u:Ah} {pos:Pos} {Q:Ah->Ak->Prop} (I:Inv X pins σ H s) (hg:Gl X x) (hm:X.mg x=none) (hv:By x=some u) (h:Q u s)
  (hn:x≠"__name__":=by decide) (hd:(x==("__debug__":Str))=false:=by decide):Az (Ba X.prog X.w) X.A (eval (.Name x pos) X.env) Q E s:=by
 obtain⟨mb,h1,h2⟩:=I.mod.blt;exact Calls.Name_function_global I.ok.kind hg (Calls.loadGlobal_builtin (by rw[I.ok.glob];exact I.mod.glob.keeps I.bk) hm (by rw[I.ok.blt];exact h1.keeps I.bk) ((h2 x hn).trans hv) h) hd
theorem jrx {x:Str} {v:V} {u:Ah} {pos:Pos} (hg:Gl X x) (hm:X.mg x=some u) (r:RelV v u) (hd:(x==("__debug__":Str))=false:=by decide):PE X (.Name x pos) (tC v) :=
 λ_ _ _ H _ I h=>jsj I hg hm ⟨v,H,I,r,h⟩ hd
theorem jx4 {x:Str} {v:V} {u:Ah} {pos:Pos} (hg:Gl X x) (hm:X.mg x=none) (hv:By x=some u) (r:RelV v u) (hn:x≠"__name__":=by decide) (hd:(x==("__debug__":Str))=false:=by decide):PE X (.Name x pos) (tC v) :=
 λ_ _ _ H _ I h=>jhk I hg hm hv ⟨v,H,I,r,h⟩ hn hd
variable {a b:Expr} {ta tb:TE} {pos:Pos}
def PC (X:Cx) (op:CmpOp) (a b:Expr) (t:TE):Prop :=
 ∀(pins:List (Addr×Obj)) (s:Ak) (σ:St) (H:Hp) (Q:VK),Inv X pins σ H s->t σ H Q ->
  Az (Ba X.prog X.w) X.A (eval a X.env) (λv s₁=>Az (Ba X.prog X.w) X.A (eval b X.env) (λu s₂=>Az (Ba X.prog X.w) X.A (Bk op v u) (EP X pins σ Q) X.xe s₂) X.xe s₁) X.xe s
theorem jut (b:Expr) {op:CmpOp} (h:op≠.In) (h2:op≠.NotIn):D1 op b=false:=by
 have e1:(op==CmpOp.In)=false:=by cases op<;>first | rfl | exact absurd rfl h
 have e2:(op==CmpOp.NotIn)=false:=by cases op<;>first | rfl | exact absurd rfl h2
 cases b<;>simp[D1,e1,e2]
def tB (t:TE):TT:=λσ H Q=>t σ H λx H1=>∃c,x=.bl c/\Q c H1
theorem j4x {op:CmpOp} {t:TE} (h:PC X op a b t) (h1:D1 op b=false:=by first | exact jut _ (by decide) (by decide) | rfl):PT X (.Compare a [op] [b] pos) (tB t):=by
 intro pins s σ H Q I hw;refine wpAny_isTrue_Compare1 (thn (h pins s σ H _ I hw) λv s1 h1=>thn h1 λu s2 h2=>thn h2 λc s3 ⟨x,H1,I1,r1,q1⟩=>?_) h1;obtain⟨d,rfl,q⟩:=q1;cases r1;exact C3 ⟨H1,I1,q⟩
theorem j0k {e:Expr} {t:TE} (h:PE X e t) (he:∀whole,isTrue e X.env whole=(do let v <-whole;standAt e.pos;holding [v] (truthy v)):=by intro _;rfl):PT X e (tB t):=by
 intro pins s σ H Q I hw;refine isTrue_plain (thn (h pins s σ H _ I hw) λv s1 ⟨x,H1,I1,r1,q1⟩=>?_) (he _);obtain⟨d,rfl,q⟩:=q1;cases r1;exact C3 ⟨H1,I1,q⟩
variable {tA tB':TT} {rest:List Expr}
def tAnd (t u:TT):TT:=λσ H Q=>t σ H λc H1=>if c=true then u σ H1 Q else Q false H1
def tOr (t u:TT):TT:=λσ H Q=>t σ H λc H1=>if c=true then Q true H1 else u σ H1 Q
def tNot (t:TT):TT:=λσ H Q=>t σ H λc H1=>Q (!c) H1
theorem jrn (ha:PT X a tA):PW X (.BoolOp .And [a] pos) tA:=by
 intro wh pins s σ H Q I h;refine isTrue_and (thn (ha pins s σ H Q I h) λc s1 e=>?_);cases c with
 |true=>exact isTrue_and_nil e
 |false=>exact e
theorem j0j (ha:PT X a tA):PW X (.BoolOp .Or [a] pos) tA:=by
 intro wh pins s σ H Q I h;refine isTrue_or (thn (ha pins s σ H Q I h) λc s1 e=>?_);cases c with
 |false=>exact isTrue_or_nil e
 |true=>exact e
theorem jv3 (ha:PT X a tA) (hb:PW X (.BoolOp .And (b::rest) pos) tB'):PW X (.BoolOp .And (a::b::rest) pos) (tAnd tA tB'):=by
 intro wh pins s σ H Q I h;refine isTrue_and (thn (ha pins s σ H _ I h) λc s1 ⟨H1,I1,q1⟩=>?_);cases c with
 |true=>exact hb wh pins s1 σ H1 Q I1 q1
 |false=>exact⟨H1,I1,q1⟩
theorem j3e (ha:PT X a tA) (hb:PW X (.BoolOp .Or (b::rest) pos) tB'):PW X (.BoolOp .Or (a::b::rest) pos) (tOr tA tB'):=by
 intro wh pins s σ H Q I h;refine isTrue_or (thn (ha pins s σ H _ I h) λc s1 ⟨H1,I1,q1⟩=>?_);cases c with
 |true=>exact⟨H1,I1,q1⟩
 |false=>exact hb wh pins s1 σ H1 Q I1 q1
theorem j0l (ha:PT X a tA):PT X (.UnaryOp .Not a pos) (tNot tA):=by
 intro pins s σ H Q I h;exact isTrue_not (ha pins s σ H (λc H1=>Q (!c) H1) I h)
def jzr (ta tb:TE):TE:=λσ H Q=>ta σ H λx H1=>∃c,x=.bl c/\if c=true then tb σ H1 Q else Q (.bl false) H1
def tOrV (ta tb:TE):TE:=λσ H Q=>ta σ H λx H1=>∃c,x=.bl c/\if c=true then Q (.bl true) H1 else tb σ H1 Q
def jzo (ta:TE):TE:=λσ H Q=>ta σ H λx H1=>∃c,x=.bl c/\Q (.bl (!c)) H1
theorem j0w {op} {t:TE} (h:PE X a t):PE X (.BoolOp op [a] pos) t:=λpins s σ H Q I hw=>BoolOp_one (h pins s σ H Q I hw)
theorem j0y (ha:PE X a ta) (hb:PE X (.BoolOp .And (b::rest) pos) tb):PE X (.BoolOp .And (a::b::rest) pos) (jzr ta tb):=by
 intro pins s σ H Q I h;refine BoolOp_and (thn (ha pins s σ H _ I h) λv s1 ⟨x,H1,I1,r1,q1⟩=>?_);obtain⟨c,rfl,q1⟩:=q1;cases r1;refine C3 ?_;cases c with
 |true=>exact hb pins s1 σ H1 Q I1 q1
 |false=>exact⟨.bl false,H1,I1,rfl,q1⟩
theorem j3g (ha:PE X a ta) (hb:PE X (.BoolOp .Or (b::rest) pos) tb):PE X (.BoolOp .Or (a::b::rest) pos) (tOrV ta tb):=by
 intro pins s σ H Q I h;refine BoolOp_or (thn (ha pins s σ H _ I h) λv s1 ⟨x,H1,I1,r1,q1⟩=>?_);obtain⟨c,rfl,q1⟩:=q1;cases r1;refine C3 ?_;cases c with
 |false=>exact hb pins s1 σ H1 Q I1 q1
 |true=>exact⟨.bl true,H1,I1,rfl,q1⟩
theorem j0x (ha:PE X a ta):PE X (.UnaryOp .Not a pos) (jzo ta):=by
 intro pins s σ H Q I h;refine UnaryOp_ (thn (ha pins s σ H _ I h) λv s1 ⟨x,H1,I1,r1,q1⟩=>?_);obtain⟨c,rfl,q1⟩:=q1;cases r1;exact not_of (C3 ⟨.bl (!c),H1,I1,rfl,q1⟩)
def tIf (t:TT) (ta tb:TE):TE:=λσ H Q=>t σ H λc H1=>if c=true then ta σ H1 Q else tb σ H1 Q
theorem jul {c:Expr} (hc:PT X c tA) (ha:PE X a ta) (hb:PE X b tb):PE X (.IfExp c a b pos) (tIf tA ta tb):=by
 intro pins s σ H Q I h;refine wpAny_IfExp (thn (hc pins s σ H _ I h) λd s1 ⟨H1,I1,q1⟩=>?_);cases d with
 |true=>exact ha pins s1 σ H1 Q I1 q1
 |false=>exact hb pins s1 σ H1 Q I1 q1
end
def SqL (K:Aj) (H:Hp) (a:Addr) (xs:List V):Prop :=
 Rd H a (.lst xs) \/
  ∃(o:Obj) (its:Array Ah) (n:Nat),K.lookup a=some o/\o.cls=.type "list"/\o.dict=none/\o.data=.seq its n/\its.size<=Ay/\Vals xs its.toList
def SqT (K:Aj) (H:Hp) (a:Addr) (xs:List V):Prop :=
 Rd H a (.tup xs) \/
  ∃(o:Obj) (its:Array Ah) (n:Nat),K.lookup a=some o/\o.cls=.type "tuple"/\o.data=.seq its n/\its.size<=Ay/\Vals xs its.toList
def absV:Ah->Option V
 |.none=>some .non
 |.bool b=>some (.bl b)
 |.int i _=>some (.int i)
 |.str x _=>some (.str x)
 |.bytes b _=>some (.byt b)
 |.float b _=>some (.flt b)
 |.ref a=>some (.ref a)
 |.type n=>some (.ty n)
 |_=>none
theorem RelV.abs {x:V} {u:Ah} (r:RelV x u):absV u=some x:=by
 cases x with
 |non=>cases r;rfl
 |bl _=>cases r;rfl
 |int _=>obtain⟨t,rfl⟩:=r;rfl
 |str _=>obtain⟨t,rfl⟩:=r;rfl
 |byt _=>obtain⟨t,rfl⟩:=r;rfl
 |flt _=>obtain⟨t,rfl⟩:=r;rfl
 |ref _=>cases r;rfl
 |ty _=>cases r;rfl
theorem RelV.inj {x y:V} {u:Ah} (r:RelV x u) (q:RelV y u):x=y:=Bj (r.abs.symm.trans q.abs)
theorem Vals.inj:∀{xs ys:List V} {us:List Ah},Vals xs us->Vals ys us->xs=ys
 |_,_,_,.nil,.nil=>rfl
 |_,_,_,.cons r t,.cons r' t'=>by rw[r.inj r',Vals.inj t t']
section
variable {X:Cx} {pins:List (Addr×Obj)} {σ:St} {H:Hp} {s:Ak} {a:Addr} {xs ys:List V}
theorem SqL.of {K:Aj} (h:H a=some (.lst xs)):SqL K H a xs:=.inl (.inl h)
theorem SqT.of {K:Aj} (h:H a=some (.tup xs)):SqT K H a xs:=.inl (.inl h)
theorem Inv.list (I:Inv X pins σ H s) (h:SqL X.K H a xs):∃its:List Ah,Vals xs its/\PlainL s.heap a its.toArray/\xs.length<=Ay:=by
 rcases h with h | ⟨o,its,n,hk,hc,hd,hs,hz,r⟩
 ·obtain⟨z,its,n,r,e⟩:=h.ok I.hok;exact⟨its,r,⟨_,n,e,rfl,rfl,rfl⟩,z⟩
 ·refine⟨its.toList,r,⟨o,n,I.kIn a o hk,hc,hd,by simpa using hs⟩,?_⟩;have e:=r.length;simp only[Co]at e;omega
theorem Inv.tuple (I:Inv X pins σ H s) (h:SqT X.K H a xs):∃its:List Ah,Vals xs its/\IsTup s.heap a its.toArray/\xs.length<=Ay:=by
 rcases h with h | ⟨o,its,n,hk,hc,hs,hz,r⟩
 ·obtain⟨z,its,r,p⟩:=h.ok I.hok;exact⟨its,r,p.tup,z⟩
 ·refine⟨its.toList,r,⟨o,I.kIn a o hk,hc,n,by simpa using hs⟩,?_⟩;have e:=r.length;simp only[Co]at e;omega
theorem Inv.list_inj (I:Inv X pins σ H s) (h:SqL X.K H a xs) (h':SqL X.K H a ys):xs=ys:=by
 obtain⟨its,r,⟨o,n,e,_,_,d⟩,_⟩:=I.list h;obtain⟨its',r',⟨o',n',e',_,_,d'⟩,_⟩:=I.list h';rw[e]at e';cases e';rw[d]at d';injection d' with d1 _;have:its=its':=by simpa using congrArg Array.toList d1
 subst this;exact r.inj r'
theorem Inv.tuple_inj (I:Inv X pins σ H s) (h:SqT X.K H a xs) (h':SqT X.K H a ys):xs=ys:=by
 obtain⟨its,r,⟨o,e,_,n,d⟩,_⟩:=I.tuple h;obtain⟨its',r',⟨o',e',_,n',d'⟩,_⟩:=I.tuple h';rw[e]at e';cases e';rw[d]at d';injection d' with d1 _;have:its=its':=by simpa using congrArg Array.toList d1
 subst this;exact r.inj r'
end
abbrev Cx.wish (X:Cx) (E:Ah->Ak->Prop):Cx:={ X with xe:=E}
abbrev Cx.nox (X:Cx):Cx:=X.wish λ_ _=>False
theorem Cx.Ok.wish {X:Cx} (ok:X.Ok) (E:Ah->Ak->Prop):(X.wish E).Ok :=
 ⟨ok.mod,ok.kind,ok.glob,ok.blt,ok.above,ok.inj,ok.has,ok.cab,ok.hd,ok.frames,ok.stk,ok.exf,ok.bs,ok.bsz,ok.noex,ok.exfs,ok.funs,ok.frf⟩
theorem Cx.Ok.unwish {X:Cx} {E:Ah->Ak->Prop} (ok:(X.wish E).Ok):X.Ok :=
 ⟨ok.mod,ok.kind,ok.glob,ok.blt,ok.above,ok.inj,ok.has,ok.cab,ok.hd,ok.frames,ok.stk,ok.exf,ok.bs,ok.bsz,ok.noex,ok.exfs,ok.funs,ok.frf⟩
section
variable {X:Cx} {pins:List (Addr×Obj)} {σ:St} {H:Hp} {s:Ak} {E:Ah->Ak->Prop}
theorem Inv.wish (I:Inv X pins σ H s) (E:Ah->Ak->Prop):Inv (X.wish E) pins σ H s:=⟨I.ok.wish E,I.os,I.bare,I.base,I.loc,I.cell,I.free,I.freeC,I.pin,I.hok,I.len⟩
theorem Inv.unwish (I:Inv (X.wish E) pins σ H s):Inv X pins σ H s:=⟨I.ok.unwish,I.os,I.bare,I.base,I.loc,I.cell,I.free,I.freeC,I.pin,I.hok,I.len⟩
theorem SP.unwish {D:Ends} {f:Flow} {s':Ak} (h:SP (X.wish E) pins D f s'):SP X pins D f s':=by
 cases f with
 |next=>obtain⟨σ',H',I,q⟩:=h;exact⟨σ',H',I.unwish,q⟩
 |brk=>obtain⟨σ',H',I,q⟩:=h;exact⟨σ',H',I.unwish,q⟩
 |cont=>obtain⟨σ',H',I,q⟩:=h;exact⟨σ',H',I.unwish,q⟩
 |ret u=>obtain⟨v,σ',H',I,r,q⟩:=h;exact⟨v,σ',H',I.unwish,r,q⟩
theorem PSs.nox {st:List Stmt} {t:TS} (h:PSs X.nox st t):PSs X st t:=λpins s σ H D I hw =>
 Dq (h pins s σ H D (I.wish _) hw) (λ_ _ q=>q.unwish) λ_ _ z=>False.elim z
end
section
variable {X:Cx} {st:Stmt} {rest:List Stmt} {t u:TS} {e:Expr} {te:TE} {pos:Pos}
def jzq:TS:=λD σ H=>D.nx σ H
def tSeq (t u:TS):TS:=λD σ H=>t {D with nx:=u D} σ H
theorem jj9:PSs X [] jzq:=λ_ _ σ H _ I h=>wpAny_execs_nil ⟨σ,H,I,h⟩
theorem jbg (h1:PS X st t) (h2:PSs X rest u):PSs X (st::rest) (tSeq t u):=by
 intro pins s σ H D I h;refine wpAny_execs_cons (thn (h1 pins s σ H {D with nx:=u D} I h) λf s1 q=>?_);cases f with
 |next =>
  obtain⟨σ',H',I',q⟩:=q;exact h2 pins s1 σ' H' D I' q
 |ret v=>exact q
 |brk=>exact q
 |cont=>exact q
theorem jfe (h1:PS X st t):PSs X [st] t:=by
 intro pins s σ H D I h;refine wpAny_execs_cons (thn (h1 pins s σ H D I h) λf s1 q=>?_);cases f with
 |next=>exact wpAny_execs_nil q
 |ret v=>exact q
 |brk=>exact q
 |cont=>exact q
theorem Inv.quiet {pins:List (Addr×Obj)} {σ:St} {H:Hp} {s:Ak} (I:Inv X pins σ H s):interactive X.env=false:=by simp[interactive,I.ok.kind]
def jtx (te:TE):TS:=λD σ H=>te σ H λ_ H1=>D.nx σ H1
theorem jno (he:PE X e te) (hs:F2 e none pos.line X.env=pure false:=by rfl):PS X (.Expr e pos) (jtx te):=by
 intro pins s σ H D I h;exact wpAny_Expr_any (thn (he pins s σ H _ I h) λv s1 ⟨x,H1,I1,r1,q1⟩=>⟨σ,H1,I1,q1⟩) I.quiet hs
def tRet (te:TE):TS:=λD σ H=>te σ H D.rt
theorem jl0 (he:PE X e te):PS X (.Return (some e) pos) (tRet te):=by
 intro pins s σ H D I h;exact wpAny_Return_some (thn (he pins s σ H _ I h) λv s1 ⟨x,H1,I1,r1,q1⟩=>⟨x,σ,H1,I1,r1,q1⟩)
def tIfS (c:TT) (t u:TS):TS:=λD σ H=>c σ H λb H1=>if b=true then t D σ H1 else u D σ H1
theorem jug {c:Expr} {a b:List Stmt} {tc:TT} (hc:PT X c tc) (ha:PSs X a t) (hb:PSs X b u):PS X (.If c a b pos) (tIfS tc t u):=by
 intro pins s σ H D I h;refine wpAny_If (thn (hc pins s σ H _ I h) λd s1 ⟨H1,I1,q1⟩=>?_);cases d with
 |true=>exact ha pins s1 σ H1 D I1 q1
 |false=>exact hb pins s1 σ H1 D I1 q1
end
abbrev TG:=V->St->Hp->(St->Hp->Prop)->Prop
abbrev TGs:=List V->St->Hp->(St->Hp->Prop)->Prop
def PG (X:Cx) (target:Expr) (t:TG):Prop :=
 ∀(pins:List (Addr×Obj)) (s:Ak) (σ:St) (H:Hp) (v:V) (u:Ah) (Q:St->Hp->Prop),Inv X pins σ H s->RelV v u->t v σ H Q ->
  Az (Ba X.prog X.w) X.A (assign target X.env u) (λ_ s'=>∃σ' H',Inv X pins σ' H' s'/\Q σ' H') X.xe s
def PGs (X:Cx) (ts:List Expr) (t:TGs):Prop :=
 ∀(pins:List (Addr×Obj)) (s:Ak) (σ:St) (H:Hp) (vs:List V) (us:List Ah) (Q:St->Hp->Prop),Inv X pins σ H s->Vals vs us->t vs σ H Q ->
  Az (Ba X.prog X.w) X.A (assignInOrder ((Dr ts X.env).map (·.2)) us) (λ_ s'=>∃σ' H',Inv X pins σ' H' s'/\Q σ' H') X.xe s
abbrev TSet:=V->V->V->Hp->(Hp->Prop)->Prop
def PSet (X:Cx) (t:TSet):Prop :=
 ∀(pins:List (Addr×Obj)) (s:Ak) (σ:St) (H:Hp) (o i v:V) (ov iv u:Ah) (Q:Hp->Prop),Inv X pins σ H s->RelV o ov->RelV i iv->RelV v u->t o i v H Q ->
  Az (Ba X.prog X.w) X.A (setItem ov iv u) (λ_ s'=>∃H',Inv X pins σ H' s'/\Q H') X.xe s
section
variable {X:Cx} {pos:Pos}
def jgw (i:Nat):TG:=λv σ H Q=>Q (σ.set i (some v)) H
theorem jx0 {i:Nat} {x:Str} (hN:X.N.Nodup) (hi:X.N[i]?=some x) (hx:Loc X.env.scope x) (hf:X.fn x=true\/X.env.scope.names.lookup x=some .local:=by first | exact .inl rfl | exact .inr rfl | assumption):PG X (.Name x pos) (jgw i):=by
 intro pins s σ H v u Q I r h;exact wpAny_assign_Name (jof I hN hi hx r (λs' I'=>⟨_,H,I',h⟩) hf)
def gNil:TGs:=λvs σ H Q=>vs=[]/\Q σ H
def j15 (t:TG) (u:TGs):TGs:=λvs σ H Q=>∃v r,vs=v::r/\t v σ H λσ' H'=>u r σ' H' Q
theorem jxz:PGs X [] gNil:=by
 intro pins s σ H vs us Q I r h;obtain⟨e,h⟩:=h;subst e;cases r;exact assignInOrder_nil ⟨σ,H,I,h⟩
theorem juk {e:Expr} {es:List Expr} {t:TG} {u:TGs} (h1:PG X e t) (h2:PGs X es u)
  (hs:(Dr (e::es) X.env).map (·.2)=assign e X.env::(Dr es X.env).map (·.2):=by rfl):PGs X (e::es) (j15 t u):=by
 intro pins s σ H vs us Q I r h;obtain⟨v,vr,e1,h⟩:=h;subst e1;cases r with
 |cons r rr =>
  rw[hs];refine assignInOrder_cons (thn (h1 pins s σ H _ _ _ I r h) λ_ s1 ⟨σ1,H1,I1,q1⟩=>?_);exact h2 pins s1 σ1 H1 _ _ Q I1 rr q1
def gTup (K:Aj) (n:Nat) (t:TGs):TG:=λv σ H Q=>∃a xs,v=.ref a/\SqT K H a xs/\xs.length=n/\t xs σ H Q
theorem j0r {es:List Expr} {k:Nat} {t:TGs} {n:Nat} (hc:X.calm=true) (h:PGs X es t)
  (hn:(Dr es X.env).length=n:=by rfl) (hst:(Dr es X.env).findIdx? (·.1)=none:=by rfl):PG X (.Tuple es k pos) (gTup X.K n t):=by
 intro pins s σ H v u Q I r hw;obtain⟨a,xs,e1,hq,hl,hw⟩:=hw;subst e1;cases r;obtain⟨its,rv,ht,hz⟩:=I.tuple hq;refine assign_Tuple_tuple (I.ok.hd hc) ht (by simp[hn,<-hl,rv.length]) hst λh' hx=>?_;have I1:Inv X pins σ H {s with heap:=h'}:=I.kept (t':=s.toks) λb o e=>hx b o (Bc (Ao e)) e;exact h pins _ σ H xs _ Q I1 (by simpa using rv) hw
def gSub (to ti:TE) (t:TSet):TG:=λv σ H Q=>to σ H λo H1=>ti σ H1 λi H2=>t o i v H2 λH3=>Q σ H3
theorem jon {o i:Expr} {to ti:TE} {t:TSet} (ho:PE X o to) (hi:PE X i ti) (hs:PSet X t)
  (ha:∀v,assign (.Subscript o i pos) X.env v=(do
   let ov <-holding [v] (eval o X.env)
   let iv <-holding [v,ov] (eval i X.env)
   standAt pos
   holding [v,ov,iv] (setItem ov iv v)
   release [v,ov,iv] []):=by intro _;rfl):PG X (.Subscript o i pos) (gSub to ti t):=by
 intro pins s σ H v u Q I r h;rw[ha];refine Aa (C6 (thn (ho pins s σ H _ I h) λov s1 ⟨x,H1,I1,r1,q1⟩=>?_));refine Aa (C6 (thn (hi pins s1 σ H1 _ I1 q1) λiv s2 ⟨y,H2,I2,r2,q2⟩=>?_));refine Aa (wpAny_standAt (Aa (C6 (thn (hs pins s2 σ H2 x y v ov iv u _ I2 r1 r2 r q2) λ_ s3 ⟨H3,I3,q3⟩=>?_))));exact wpAny_release ⟨σ,H3,I3,q3⟩
def tAsg (te:TE) (g:TG):TS:=λD σ H=>te σ H λx H1=>g x σ H1 D.nx
theorem jl1 {tg e:Expr} {te:TE} {g:TG} (he:PE X e te) (hg:PG X tg g) (hs:swapsWithSole [tg] e pos.line X.env=pure false:=by rfl) (hw:swappedStores [tg] e X.env=pure none:=by rfl)
  (h1:(Dr [tg] X.env).map (·.2)=[assign tg X.env]:=by rfl):PS X (.Assign [tg] e pos) (tAsg te g):=by
 intro pins s σ H D I h;refine wpAny_Assign_stores (thn (he pins s σ H _ I h) λv s1 ⟨x,H1,I1,r1,q1⟩=>?_) hs hw;rw[h1];exact thn (hg pins s1 σ H1 x v _ I1 r1 q1) λ_ s2 q=>q
theorem jf4 {i:Nat} {x:Str} {e:Expr} {te:TE} {pos':Pos} (hN:X.N.Nodup) (hi:X.N[i]?=some x) (hx:Loc X.env.scope x) (he:PE X e te) (hs:F2 e (some (.Name x pos')) pos.line X.env=pure false:=by rfl) (hf:X.fn x=true\/X.env.scope.names.lookup x=some .local:=by first | exact .inl rfl | exact .inr rfl | assumption) :
  PS X (.Assign [.Name x pos'] e pos) (tAsg te (jgw i)):=by
 intro pins s σ H D I h;refine wpAny_Assign_Name (thn (he pins s σ H _ I h) λv s1 ⟨y,H1,I1,r1,q1⟩=>?_) hs;exact jof I1 hN hi hx r1 (λs2 I2=>⟨_,H1,I2,q1⟩) hf
end
structure It where
 go:Nat->Hp->Prop
 yld:Nat->Hp->V->Hp->Prop
 stop:Nat->Hp->Prop
def FpOk (X:Cx) (pins:List (Addr×Obj)) (H:Hp) (b:Addr):Prop :=
 H b=none/\b≠X.env.locals/\b∉X.fs/\(b∈X.ex\/X.s₀.heap.objs.size<=b)/\(∀x c,X.env.cells.lookup x=some c->c≠b)/\∀p∈X.pn++pins,p.1≠b
theorem Inv.fpOk {X:Cx} {pins:List (Addr×Obj)} {σ:St} {H H':Hp} {s:Ak} {b:Addr} (I:Inv X pins σ H s) (hb:s.heap.objs.size<=b) (hn:H' b=none):FpOk X pins H' b:=by
 refine⟨hn,D5 (Bn I.lt hb),I.nofs hb,.inr (A9 I.sz hb),λx c e z=>?_,λp hp z=>?_⟩
 ·obtain⟨v,q⟩:=I.cell x c e;exact absurd (Bn q.lt (by rw[z];exact hb)) (Er _)
 ·exact absurd (Bn (Ao (I.pin p hp).1) (by rw[z];exact hb)) (Er _)
structure Turn (P:Bm) (w:B3) (K:Aj) (tg:Expr) (J:It) (fp:List Addr) (it:Addr) (tn:Nat->Heap->Prop):Prop where
 mem:it∈fp
 obj:∀i h,tn i h->∀b∈fp,∃o,h.get? b=some o/\∀v,o.data≠.cell v
 keep:∀i h h',tn i h->(∀b∈fp,∀o,h.get? b=some o->h'.get? b=some o)->tn i h'
 item:∀(X:Cx),X.prog=P->X.w=w->X.K=K->X.calm=true->∀(i:Nat) (pins:List (Addr×Obj)) (s:Ak) (σ:St) (H:Hp) (E:Ah->Ak->Prop),Inv X pins σ H s->(∀b∈fp,FpOk X pins H b)->tn i s.heap->J.go i H ->
  Az (Ba P w) X.A (D2 (.ref it)) (λr s1=>∃u,r=some u /\
   Az (Ba P w) X.A (letOwnedTupleGo tg (.ref it) u) (λ_ s2=>∃x H',Inv X pins σ H' s2/\RelV x u/\J.yld i H x H'/\tn (i+1) s2.heap/\∀b∈fp,H' b=none) E s1) E s
 done:∀(X:Cx),X.prog=P->X.w=w->X.K=K->X.calm=true->∀(i:Nat) (pins:List (Addr×Obj)) (s:Ak) (σ:St) (H:Hp) (E:Ah->Ak->Prop),Inv X pins σ H s->(∀b∈fp,FpOk X pins H b)->tn i s.heap->J.stop i H ->
  Az (Ba P w) X.A (D2 (.ref it)) (λr s1=>r=none/\Inv X pins σ H s1) E s
 self:∀(A:B8) (i:Nat) (s:Ak) (Q:Ah->Ak->Prop) (E:Ah->Ak->Prop),tn i s.heap->Q (.ref it) s->Az (Ba P w) A (pyIter (.ref it)) Q E s
abbrev TI:=St->Hp->(It->Hp->Prop)->Prop
def PIE (X:Cx) (pins:List (Addr×Obj)) (σ:St) (tg:Expr) (R:It->Hp->Prop) (itv:Ah) (s2:Ak):Prop :=
 ∃(it:Addr) (fp:List Addr) (tn:Nat->Heap->Prop) (J:It) (H':Hp),itv=.ref it/\Inv X pins σ H' s2/\Turn X.prog X.w X.K tg J fp it tn/\tn 0 s2.heap/\(∀b∈fp,FpOk X pins H' b)/\R J H'
def PI (X:Cx) (tg iter:Expr) (wi:TI):Prop :=
 ∀(pins:List (Addr×Obj)) (s:Ak) (σ:St) (H:Hp) (R:It->Hp->Prop),Inv X pins σ H s->wi σ H R ->
  Az (Ba X.prog X.w) X.A (eval iter X.env) (λv s1=>Az (Ba X.prog X.w) X.A (pyIter v) (PIE X pins σ tg R) X.xe s1) X.xe s
theorem ju2 {M:Model} {A:B8} {E:Ah->Ak->Prop} {s:Ak} {tg:Expr} {it:Addr} {u:Ah} {o:Obj} {n:String} {vs:Array Ah} {Q:Unit->Ak->Prop} (ho:s.heap.get? it=some o) (hc:o.cls=.type n) (hd:o.data=.fields vs)
  (hn:["enumerate","zip","dict_itemiterator","dict_reverseitemiterator","odict_iterator","itertools.zip_longest","itertools.pairwise"].contains n=false) (hQ:Q () s):Az M A (letOwnedTupleGo tg (.ref it) u) Q E s:=by
 unfold letOwnedTupleGo;cases tg<;>first
  |exact Ai hQ
  | (cases u<;>first
    |exact Ai hQ
    | (refine Aa (wpAny_load ho ?_)
       rw[hc,hd];show Az M A (if (["enumerate","zip","dict_itemiterator","dict_reverseitemiterator","odict_iterator","itertools.zip_longest","itertools.pairwise"].contains n&&vs[0]?==some (Cr _))=true then _ else _) Q E s;rw[if_neg (by intro h;rw[hn,Bool.false_and]at h;cases h)];exact Ai hQ))
def Itl (K:Aj) (a:Addr):It :=
 ⟨λi H=>∃xs x,SqL K H a xs/\xs[i]?=some x,λi H x H'=>H'=H/\∀xs,SqL K H a xs->xs[i]?=some x,λi H=>∃xs,SqL K H a xs/\xs.length<=i⟩
def Itt (K:Aj) (a:Addr):It :=
 ⟨λi H=>∃xs x,SqT K H a xs/\xs[i]?=some x,λi H x H'=>H'=H/\∀xs,SqT K H a xs->xs[i]?=some x,λi H=>∃xs,SqT K H a xs/\xs.length<=i⟩
def Itr (lo:Int) (n:Nat):It:=⟨λi _=>i < n,λi H x H'=>H'=H/\x=.int (lo+i),λi _=>n<=i⟩
theorem jqm {P:Bm} {w:B3} {K:Aj} {tg:Expr} (a it:Addr):Turn P w K tg (Itl K a) [it] it (λi h=>h.IsListIter it a i) where
 mem:=by simp
 obj:=λi h st b hb=>by
  have e:b=it:=by simpa using hb
  subst e;obtain⟨o,e,c,d⟩:=st;exact⟨o,e,λv z=>by rw[d]at z;cases z⟩
 keep:=λi h h' st k=>st.at λo e=>k it (by simp) o e
 item:=by
  intro X hP hw hK hc i pins s σ H E I hf st hg;subst hP hw hK;obtain⟨xs,x,hq,hx⟩:=hg;obtain⟨its,rv,p,hz⟩:=I.list hq;obtain⟨u,hu,ru⟩:=rv.get hx;obtain⟨f0,f1,f2,f3,f4,f5⟩:=hf it (by simp);refine wpAny_pyNext_list_item st p.isList (x:=u) (by simpa using hu) λh' st' sb=>?_;have I1:Inv X pins σ H {s with heap:=h'}:=I.turned (t':=s.toks) (λb o hb e=>(sb.2 b hb).trans e) f0 f1 f3 f4 f5;obtain⟨o,e,c,d⟩:=id st';exact⟨u,rfl,ju2 (s:={ s with heap:=h'}) e c d (by decide) ⟨x,H,I1,ru,⟨rfl,λys hy=>by rw[I.list_inj hy hq];exact hx⟩,st',λb hb=>(hf b hb).1⟩⟩
 done:=by
  intro X hP hw hK hc i pins s σ H E I hf st hg;subst hP hw hK;obtain⟨xs,hq,hx⟩:=hg;obtain⟨its,rv,p,hz⟩:=I.list hq;obtain⟨f0,f1,f2,f3,f4,f5⟩:=hf it (by simp);have hl:=rv.length;exact wpAny_pyNext_list_end (I.ok.hd hc) st p.isList (by simp;omega) λh' eb=>⟨rfl,I.turned (t':=s.toks) (λb o hb e=>eb b o hb e) f0 f1 f3 f4 f5⟩
 self:=λ_ _ _ _ _ st h=>wpAny_pyIter_listiter st h
theorem jpd {P:Bm} {w:B3} {K:Aj} {tg:Expr} (a it:Addr):Turn P w K tg (Itt K a) [it] it (λi h=>h.IsTupleIter it a i) where
 mem:=by simp
 obj:=λi h st b hb=>by
  have e:b=it:=by simpa using hb
  subst e;obtain⟨o,e,c,d⟩:=st;exact⟨o,e,λv z=>by rw[d]at z;cases z⟩
 keep:=λi h h' st k=>st.at λo e=>k it (by simp) o e
 item:=by
  intro X hP hw hK hc i pins s σ H E I hf st hg;subst hP hw hK;obtain⟨xs,x,hq,hx⟩:=hg;obtain⟨its,rv,p,hz⟩:=I.tuple hq;obtain⟨u,hu,ru⟩:=rv.get hx;obtain⟨f0,f1,f2,f3,f4,f5⟩:=hf it (by simp);refine wpAny_pyNext_tuple_item st (show s.heap.IsTuple a its.toArray from p) (x:=u) (by simpa using hu) λh' st' sb=>?_;have I1:Inv X pins σ H {s with heap:=h'}:=I.turned (t':=s.toks) (λb o hb e=>(sb.2 b hb).trans e) f0 f1 f3 f4 f5;obtain⟨o,e,c,d⟩:=id st';exact⟨u,rfl,ju2 (s:={ s with heap:=h'}) e c d (by decide) ⟨x,H,I1,ru,⟨rfl,λys hy=>by rw[I.tuple_inj hy hq];exact hx⟩,st',λb hb=>(hf b hb).1⟩⟩
 done:=by
  intro X hP hw hK hc i pins s σ H E I hf st hg;subst hP hw hK;obtain⟨xs,hq,hx⟩:=hg;obtain⟨its,rv,p,hz⟩:=I.tuple hq;obtain⟨f0,f1,f2,f3,f4,f5⟩:=hf it (by simp);have hl:=rv.length;exact wpAny_pyNext_tuple_end (I.ok.hd hc) st (show s.heap.IsTuple a its.toArray from p) (by simp;omega) λh' eb=>⟨rfl,I.turned (t':=s.toks) (λb o hb e=>eb b o hb e) f0 f1 f3 f4 f5⟩
 self:=λ_ _ _ _ _ st h=>wpAny_pyIter_tupleiter st h
theorem jpe {P:Bm} {w:B3} {K:Aj} {tg:Expr} (it:Addr) (lo:Int) (n:Nat):Turn P w K tg (Itr lo n) [it] it (λi h=>IsRangeIter h it (lo+(i:Nat)*1) ((n:Int) - (i:Nat)) 1) where
 mem:=by simp
 obj:=λi h st b hb=>by
  have e:b=it:=by simpa using hb
  subst e;exact⟨_,st,λv z=>by
   have z':Data.fields _=Fv v:=z;cases z'⟩
 keep:=λi h h' st k=>k it (by simp) _ st
 item:=by
  intro X hP hw hK hc i pins s σ H E I hf st hg;subst hP hw hK;obtain⟨f0,f1,f2,f3,f4,f5⟩:=hf it (by simp);have W:=Walks.range (prog:=X.prog) (w:=X.w) (I.ok.hd hc) it lo 1 n;refine W.item i s _ _ hg st λv h' tk hv st' kk=>?_;obtain⟨t,rfl⟩:=hv;have I1:Inv X pins σ H {s with heap:=h',toks:=tk}:=I.turned (λb o hb e=>kk b o (by simpa using hb) e) f0 f1 f3 f4 f5;refine⟨_,rfl,ju2 (s:={ s with heap:=h',toks:=tk}) (n:="range_iterator") st' rfl rfl (by decide) ⟨.int (lo+i),H,I1,⟨t,?_⟩,⟨rfl,rfl⟩,st',λb hb=>(hf b hb).1⟩⟩;rw[Int.mul_one]
 done:=by
  intro X hP hw hK hc i pins s σ H E I hf st hg;subst hP hw hK;obtain⟨f0,f1,f2,f3,f4,f5⟩:=hf it (by simp);exact wpAny_pyNext_range_end (I.ok.hd hc) st (by have:n<=i:=hg;omega) λh' eb=>⟨rfl,I.turned (t':=s.toks) (λb o hb e=>eb b o hb e) f0 f1 f3 f4 f5⟩
 self:=λ_ _ _ _ _ st h=>wpAny_pyIter_rangeiter st h
section
variable {X:Cx} {tg:Expr}
def jyq (K:Aj) (tl:TE):TI:=λσ H R=>tl σ H λx H1=>∃a,x=.ref a/\(∃xs,SqL K H1 a xs)/\R (Itl K a) H1
def iTup (K:Aj) (tl:TE):TI:=λσ H R=>tl σ H λx H1=>∃a,x=.ref a/\(∃xs,SqT K H1 a xs)/\R (Itt K a) H1
theorem jxy {l:Expr} {tl:TE} (hl:PE X l tl):PI X tg l (jyq X.K tl):=by
 intro pins s σ H R I h;refine thn (hl pins s σ H _ I h) λv s1 ⟨x,H1,I1,r1,q1⟩=>?_;obtain⟨a,e,⟨xs,hq⟩,q⟩:=q1;subst e;cases r1;obtain⟨its,rv,p,hz⟩:=I1.list hq;refine wpAny_pyIter_list p.isList ?_;refine⟨s1.heap.objs.size,[s1.heap.objs.size],_,_,H1,rfl,I1.kept (t':=s1.toks) λb o e=>Ad _ e,jqm a _,⟨_,As _ rfl,rfl,rfl⟩,λb hb=>?_,q⟩;have e:b=s1.heap.objs.size:=by simpa using hb
 subst e;exact I1.fpOk (Al _) (I1.hok.fresh (Al _))
theorem j0p {l:Expr} {tl:TE} (hl:PE X l tl):PI X tg l (iTup X.K tl):=by
 intro pins s σ H R I h;refine thn (hl pins s σ H _ I h) λv s1 ⟨x,H1,I1,r1,q1⟩=>?_;obtain⟨a,e,⟨xs,hq⟩,q⟩:=q1;subst e;cases r1;obtain⟨its,rv,p,hz⟩:=I1.tuple hq;refine F1 (show s1.heap.IsTuple a its.toArray from p) ?_;refine⟨s1.heap.objs.size,[s1.heap.objs.size],_,_,H1,rfl,I1.kept (t':=s1.toks) λb o e=>Ad _ e,jpd a _,⟨_,As _ rfl,rfl,rfl⟩,λb hb=>?_,q⟩;have e:b=s1.heap.objs.size:=by simpa using hb
 subst e;exact I1.fpOk (Al _) (I1.hok.fresh (Al _))
theorem jub {pins:List (Addr×Obj)} {σ:St} {H:Hp} {s:Ak} {R:It->Hp->Prop} {E:Ah->Ak->Prop} {lo hi:Int} {t u v:Tok} {tk:Nat} (I:Inv X pins σ H s) (h1:-(2 ^ 62)<=lo) (h2:lo < 2 ^ 62) (h3:-(2 ^ 62)<=hi) (h4:hi < 2 ^ 62)
  (q:R (Itr lo (hi - lo).toNat) H):Az (Ba X.prog X.w) X.A (pyIter (.ref s.heap.objs.size)) (PIE X pins σ tg R) E {s with heap:=s.heap.push {cls:=.type "range",data:=.fields #[.int lo t,.int hi u,.int 1 v]},toks:=tk}:=by
 refine wpAny_pyIter_range (IsRange.new ..) (small_one h1 h2 h3 h4) ?_;have I1:Inv X pins σ H {s with heap:=s.heap.push {cls:=.type "range",data:=.fields #[.int lo t,.int hi u,.int 1 v]},toks:=tk}:=I.kept λb o e=>Ad _ e;refine⟨(s.heap.push {cls:=.type "range",data:=.fields #[.int lo t,.int hi u,.int 1 v]}).objs.size,[(s.heap.push {cls:=.type "range",data:=.fields #[.int lo t,.int hi u,.int 1 v]}).objs.size],_,_,H,rfl,
  I1.kept (t':=tk) λb o e=>Ad _ e,jpe _ lo (hi - lo).toNat,?_,λb hb=>?_,q⟩
 ·have e1:lo+((0:Nat):Int)*1=lo:=by simp
  have e2:(((hi - lo).toNat:Nat):Int) - ((0:Nat):Int)=Builtin.Range.rangeSize lo hi 1:=by rw[rangeSize_one];split<;>omega
  show IsRangeIter _ _ (lo+((0:Nat):Int)*1) ((((hi - lo).toNat:Nat):Int) - ((0:Nat):Int)) 1;rw[e1,e2];exact As _ rfl
 ·have e:b=(s.heap.push {cls:=.type "range",data:=.fields #[.int lo t,.int hi u,.int 1 v]}).objs.size:=by simpa using hb
  subst e;exact I1.fpOk (Al _) (I1.hok.fresh (Al _))
def j10 (ta:TA):TI:=λσ H R=>ta σ H λvs H1=>∃j:Int,vs=[.int j]/\-(2 ^ 62)<=j/\j < 2 ^ 62/\R (Itr 0 j.toNat) H1
theorem jru {a:Expr} {ta:TA} {p pos:Pos} (hg:Gl X "range") (hm:X.mg "range"=none) (ha:PA X [a] ta) (hs:Ax [a] X.env=[(false,eval a X.env)]:=by rfl):PI X tg (.Call (.Name "range" p) [a] [] pos) (j10 ta):=by
 intro pins s σ H R I h;refine Call_ (jhk I hg hm boot_range (Dj (thn (ha pos pins s σ H _ I h) λus s1 ⟨vs,H1,I1,r1,q1⟩=>?_) hs rfl));obtain⟨j,e,q1,q2,q⟩:=q1;subst e;cases r1 with
 |cons r rr =>
  cases rr;obtain⟨t,rfl⟩:=r;exact call_range_1 (jub I1 (by omega) (by omega) q1 q2 (by simpa using q))
def tFor (wi:TI) (g:TG) (tb:TS):TS:=λD σ H=>wi σ H λJ H1=>∃W:Nat->Nat->St->Hp->Prop,(∃m,W 0 m σ H1)/\∀i m σ H,W i m σ H ->
 (J.stop i H/\D.nx σ H)\/(J.go i H/\∃N:St->Hp->Prop,(∀σ' H',N σ' H'->∃m',m' < m/\W (i+1) m' σ' H')/\∀x H',J.yld i H x H'->g x σ H' λσ2 H2=>tb {D with nx:=N,ct:=N,bk:=D.nx} σ2 H2)
def jjg (fp:List Addr) (h:Heap):List (Addr×Obj):=fp.filterMap λb=>(h.get? b).map λo=>(b,o)
theorem jbz {fp:List Addr} {h:Heap} {b:Addr} {o:Obj} (hb:b∈fp) (e:h.get? b=some o):(b,o)∈jjg fp h:=List.mem_filterMap.mpr ⟨b,hb,by rw[e];rfl⟩
theorem jsc {fp:List Addr} {h:Heap} {p:Addr×Obj} (hp:p∈jjg fp h):p.1∈fp/\h.get? p.1=some p.2:=by
 obtain⟨b,hb,e⟩:=List.mem_filterMap.mp hp;cases q:h.get? b with
 |none=>rw[q]at e;cases e
 |some o =>
  rw[q]at e;have e':(b,o)=p:=Bj e;subst e';exact⟨hb,q⟩
theorem Inv.pinned {pins:List (Addr×Obj)} {σ:St} {H:Hp} {s:Ak} {fp:List Addr} (I:Inv X pins σ H s) (hf:∀b∈fp,FpOk X pins H b) (ho:∀b∈fp,∃o,s.heap.get? b=some o/\∀v,o.data≠.cell v):Inv X (pins++jjg fp s.heap) σ H s :=
 I.pins_of λp hp=>(A8.mp hp).elim (λz=>I.pin p (Bb _ z)) λz=>by
  obtain⟨hb,e⟩:=jsc z;obtain⟨f0,f1,f2,_⟩:=hf p.1 hb;obtain⟨o,e',d⟩:=ho p.1 hb;rw[e]at e';cases e';exact⟨e,f0,f1,f2,d⟩
theorem Inv.unpinned {pins pl:List (Addr×Obj)} {σ:St} {H:Hp} {s:Ak} (I:Inv X (pins++pl) σ H s):Inv X pins σ H s:=I.pins_of λp hp=>I.pin p (Bb _ (D3 _ hp))
theorem j0m {iter:Expr} {body:List Stmt} {wi:TI} {g:TG} {tb:TS} {pos:Pos} (hp:PassesOwn (Ba X.prog X.w) X.A X.env X.xe) (hc:X.calm=true) (hi:PI X tg iter wi) (hg:PG X tg g) (hb:PSs X body tb)
  (hs:∀x,Ec iter X.env x=pure x:=by intro _;rfl):PS X (.For tg iter body [] pos) (tFor wi g tb):=by
 intro pins s σ H D I h;refine wpAny_For (thn (hi pins s σ H _ I h) λv s1 h1=>thn h1 λitv s2 h2=>?_) hs;obtain⟨it,fp,tn,J,H2,e,I2,T,st2,f2,W,⟨m0,w0⟩,turn⟩:=h2;subst e
 -- what stays true of the iterator's objects through the loop
 have stat:∀{H':Hp},(∀b∈fp,H' b=none)->∀b∈fp,FpOk X pins H' b:=λhn b hb=>⟨hn b hb,(f2 b hb).2⟩;refine codeAny_forLoop_any (λn s'=>∃i σ' H',Inv X pins σ' H' s'/\tn i s'.heap/\(∀b∈fp,H' b=none)/\W i n σ' H') ?_ m0 ⟨0,σ,H2,I2,st2,λb hb=>(f2 b hb).1,w0⟩
 rintro n s3 ⟨i,σ3,H3,I3,st3,fr3,w3⟩
 rcases turn i n σ3 H3 w3 with⟨stop,qn⟩ | ⟨go,N,hN,step⟩
 ·refine Gp hp (thn (T.done X rfl rfl rfl hc i pins s3 σ3 H3 X.xe I3 (stat fr3) st3 stop) λr s4 ⟨hr,I4⟩=>?_);subst hr;exact wpAny_execs_nil ⟨σ3,H3,I4,qn⟩
 ·refine Gp hp (thn (T.item X rfl rfl rfl hc i pins s3 σ3 H3 X.xe I3 (stat fr3) st3 go) λr s4 ⟨u,hr,h4⟩=>?_);subst hr;refine Gp hp (thn h4 λ_ s5 ⟨x,H5,I5,r5,y5,st5,fr5⟩=>?_);have I5':=I5.pinned (stat fr5) (T.obj _ _ st5);refine Gp hp (thn (hg _ s5 σ3 H5 x u _ I5' r5 (step x H5 y5)) λ_ s6 ⟨σ6,H6,I6,q6⟩=>?_);refine Gp hp (thn (hb _ s6 σ6 H6 _ I6 q6) λf s7 q7=>?_);have again:∀{σ7:St} {H7:Hp},Inv X (pins++jjg fp s5.heap) σ7 H7 s7->N σ7 H7->∃m,m < n/\∃i σ' H',Inv X pins σ' H' s7/\tn i s7.heap/\(∀b∈fp,H' b=none)/\W i m σ' H':=λ{σ7 H7} I7 n7=>by
   obtain⟨m',hm,w7⟩:=hN σ7 H7 n7;refine⟨m',hm,i+1,σ7,H7,I7.unpinned,T.keep _ _ _ st5 λb hb o e=>(I7.pin (b,o) (Bb _ (Bb _ (jbz hb e)))).1,λb hb=>?_,w7⟩;obtain⟨o,e,d⟩:=T.obj _ _ st5 b hb;exact(I7.pin (b,o) (Bb _ (Bb _ (jbz hb e)))).2.1
  cases f with
  |next=>obtain⟨σ7,H7,I7,n7⟩:=q7;exact again I7 n7
  |cont=>obtain⟨σ7,H7,I7,n7⟩:=q7;exact again I7 n7
  |brk=>obtain⟨σ7,H7,I7,q7⟩:=q7;exact⟨σ7,H7,I7.unpinned,q7⟩
  |ret v=>obtain⟨x7,σ7,H7,I7,r7,q7⟩:=q7;exact⟨x7,σ7,H7,I7.unpinned,r7,q7⟩
end
abbrev R2:=V->V->Hp->VK->Prop
def OpR (X:Cx) (f:Ah->Ah->Sem Ah) (r:R2):Prop :=
 ∀(pins:List (Addr×Obj)) (s:Ak) (σ:St) (H:Hp) (x y:V) (v u:Ah) (Q:VK),Inv X pins σ H s->RelV x v->RelV y u->r x y H Q ->
  Az (Ba X.prog X.w) X.A (f v u) (EP X pins σ Q) X.xe s
def UnR (X:Cx) (f:Ah->Sem Ah) (r:V->Hp->VK->Prop):Prop :=
 ∀(pins:List (Addr×Obj)) (s:Ak) (σ:St) (H:Hp) (x:V) (v:Ah) (Q:VK),Inv X pins σ H s->RelV x v->r x H Q ->
  Az (Ba X.prog X.w) X.A (f v) (EP X pins σ Q) X.xe s
def CallR (X:Cx) (f:Ah) (r:List V->Hp->VK->Prop):Prop :=
 ∀(pins:List (Addr×Obj)) (s:Ak) (σ:St) (H:Hp) (xs:List V) (us:List Ah) (Q:VK),Inv X pins σ H s->Vals xs us->r xs H Q ->
  Az (Ba X.prog X.w) X.A (call f us) (EP X pins σ Q) X.xe s
def tOp (r:R2) (ta tb:TE):TE:=λσ H Q=>ta σ H λx H1=>tb σ H1 λy H2=>r x y H2 Q
def tUn (r:V->Hp->VK->Prop) (ta:TE):TE:=λσ H Q=>ta σ H λx H1=>r x H1 Q
def rI (C:Int->Int->Prop) (g:Int->Int->V):R2:=λx y H Q=>∃i j,x=.int i/\y=.int j/\C i j/\Q (g i j) H
def rI0 (g:Int->Int->V):R2:=λx y H Q=>∃i j,x=.int i/\y=.int j/\Q (g i j) H
def rU (g:Int->V):V->Hp->VK->Prop:=λx H Q=>∃i,x=.int i/\Q (g i) H
section
variable {X:Cx} {a b c:Expr} {ta tb tc:TE} {pos:Pos}
theorem binT (ha:PE X a ta) (hb:PE X b tb) {pins:List (Addr×Obj)} {s:Ak} {σ:St} {H:Hp} {R:V->V->Hp->Prop} (I:Inv X pins σ H s)
  (h:ta σ H λx H1=>tb σ H1 λy H2=>R x y H2) {Q:Ah->Ak->Prop} {f:Ah->Ah->Sem Ah}
  (hf:∀v u s2 x y H2,Inv X pins σ H2 s2->RelV x v->RelV y u->R x y H2->Az (Ba X.prog X.w) X.A (f v u) Q X.xe s2) :
  Az (Ba X.prog X.w) X.A (eval a X.env) (λv s₁=>Az (Ba X.prog X.w) X.A (eval b X.env) (λu s₂=>Az (Ba X.prog X.w) X.A (f v u) Q X.xe s₂) X.xe s₁) X.xe s:=by
 refine thn (ha pins s σ H _ I h) λv s1 ⟨x,H1,I1,r1,q1⟩=>?_;refine thn (hb pins s1 σ H1 _ I1 q1) λu s2 ⟨y,H2,I2,r2,q2⟩=>?_;exact hf v u s2 x y H2 I2 r1 r2 q2
theorem jb3 {op:Operator} {r:R2} (ho:OpR X (El op) r) (ha:PE X a ta) (hb:PE X b tb):PE X (.BinOp a op b pos) (tOp r ta tb):=by
 intro pins s σ H Q I h;exact wpAny_BinOp (binT ha hb I h λv u s2 x y H2 I2 rx ry q=>ho pins s2 σ H2 x y v u Q I2 rx ry q)
theorem j0s {op:UnaryOp} {r:V->Hp->VK->Prop} (ho:UnR X (unaryOp op) r) (ha:PE X a ta):PE X (.UnaryOp op a pos) (tUn r ta):=by
 intro pins s σ H Q I h;exact UnaryOp_ (thn (ha pins s σ H _ I h) λv s1 ⟨x,H1,I1,r1,q1⟩=>ho pins s1 σ H1 x v Q I1 r1 q1)
theorem opI {f:Ah->Ah->Sem Ah} {C:Int->Int->Prop} {g:Int->Int->Int}
  (rule:∀(i j:Int) (t u:Tok) (s:Ak) (Q:Ah->Ak->Prop) (E:Ah->Ak->Prop),C i j->Q (.int (g i j) s.toks) {s with toks:=s.toks+1}->Az (Ba X.prog X.w) X.A (f (.int i t) (.int j u)) Q E s) :
  OpR X f (rI C λi j=>.int (g i j)):=by
 intro pins s σ H x y v u Q I rx ry h;obtain⟨i,j,rfl,rfl,hc,q⟩:=h;obtain⟨t,rfl⟩:=rx;obtain⟨t',rfl⟩:=ry;exact rule i j t t' s _ _ hc ⟨.int (g i j),H,I.tok _,⟨_,rfl⟩,q⟩
theorem opI0 {f:Ah->Ah->Sem Ah} {g:Int->Int->Int}
  (rule:∀(i j:Int) (t u:Tok) (s:Ak) (Q:Ah->Ak->Prop) (E:Ah->Ak->Prop),Q (.int (g i j) s.toks) {s with toks:=s.toks+1}->Az (Ba X.prog X.w) X.A (f (.int i t) (.int j u)) Q E s) :
  OpR X f (rI0 λi j=>.int (g i j)):=by
 intro pins s σ H x y v u Q I rx ry h;obtain⟨i,j,rfl,rfl,q⟩:=h;obtain⟨t,rfl⟩:=rx;obtain⟨t',rfl⟩:=ry;exact rule i j t t' s _ _ ⟨.int (g i j),H,I.tok _,⟨_,rfl⟩,q⟩
theorem opB0 {f:Ah->Ah->Sem Ah} {g:Int->Int->Bool}
  (rule:∀(i j:Int) (t u:Tok) (s:Ak) (Q:Ah->Ak->Prop) (E:Ah->Ak->Prop),Q (.bool (g i j)) s->Az (Ba X.prog X.w) X.A (f (.int i t) (.int j u)) Q E s) :
  OpR X f (rI0 λi j=>.bl (g i j)):=by
 intro pins s σ H x y v u Q I rx ry h;obtain⟨i,j,rfl,rfl,q⟩:=h;obtain⟨t,rfl⟩:=rx;obtain⟨t',rfl⟩:=ry;exact rule i j t t' s _ _ ⟨.bl (g i j),H,I,rfl,q⟩
def CDiv (i j:Int):Prop:=0 < j/\j < 1073741824
def CPow (i j:Int):Prop:=0<=j/\j<=1000000/\i.natAbs < 2 ^ 64
def CMul (i j:Int):Prop:=(-(2 ^ 64) < i/\i < 2 ^ 64)\/(-(2 ^ 64) < j/\j < 2 ^ 64)
theorem CMul.ok {i j:Int} (h:CMul i j):IntMulOk i j:=by
 rcases h with⟨h1,h2⟩ | ⟨h1,h2⟩
 ·exact .of_left (intBits_le_64 h1 h2)
 ·exact .of_right (intBits_le_64 h1 h2)
theorem op_add:OpR X (El .Add) (rI0 λi j=>.int (i+j)):=opI0 λ_ _ _ _ _ _ _ q=>add_int q
theorem j00:OpR X (El .Sub) (rI0 λi j=>.int (i - j)):=opI0 λ_ _ _ _ _ _ _ q=>sub_int q
theorem jjh:OpR X (El .Mult) (rI CMul λi j=>.int (i*j)):=opI λ_ _ _ _ _ _ _ hc q=>mul_int q hc.ok
theorem jr7:OpR X (El .FloorDiv) (rI CDiv λi j=>.int (i / j)):=opI λi j _ _ _ _ _ hc q=>by
 have h1:(0:Int) < j:=hc.1;have h2:j < 1073741824:=hc.2;exact floordiv_int (by omega) (by rw[Int.fdiv_eq_ediv_of_nonneg i (by omega)];exact q) (.inl (PyProof.noPylong_small (by omega)))
theorem jf6:OpR X (El .Mod) (rI (λ_ j=>0 < j) λi j=>.int (i % j)):=opI λi j _ _ _ _ _ hc q=>by
 have h1:(0:Int) < j:=hc;exact mod_int' (by omega) (by rw[Int.fmod_eq_emod_of_nonneg i (by omega)];exact q)
theorem jv6:OpR X (El .Pow) (rI CPow λi j=>.int (i ^ j.toNat)):=opI λ_ _ _ _ _ _ _ hc q=>pow_int_small hc.1 hc.2.1 hc.2.2 q
theorem unI {f:Ah->Sem Ah} {g:Int->Int}
  (rule:∀(i:Int) (t:Tok) (s:Ak) (Q:Ah->Ak->Prop) (E:Ah->Ak->Prop),Q (.int (g i) s.toks) {s with toks:=s.toks+1}->Az (Ba X.prog X.w) X.A (f (.int i t)) Q E s) :
  UnR X f (rU λi=>.int (g i)):=by
 intro pins s σ H x v Q I rx h;obtain⟨i,rfl,q⟩:=h;obtain⟨t,rfl⟩:=rx;exact rule i t s _ _ ⟨.int (g i),H,I.tok _,⟨_,rfl⟩,q⟩
theorem jvs:UnR X (unaryOp .USub) (rU λi=>.int (-i)):=unI λ_ _ _ _ _ q=>neg_int q
end
def scal:V->V->Bool
 |.non,.non=>true | .non,.int _=>true | .int _,.non=>true | .non,.bl _=>true | .bl _,.non=>true | .non,.str _=>true | .str _,.non=>true
 |.int _,.int _=>true | .bl _,.bl _=>true | .str _,.str _=>true | .byt _,.byt _=>true
 |.int _,.str _=>true | .str _,.int _=>true | .bl _,.str _=>true | .str _,.bl _=>true
 |_,_=>false
def rEq:R2:=λx y H Q=>scal x y=true/\Q (.bl (decide (x=y))) H
def rNe:R2:=λx y H Q=>scal x y=true/\Q (.bl (!decide (x=y))) H
theorem jsy {i j:Int}:decide (V.int i=V.int j)=(i==j):=by
 rw[Fq];simp
theorem jwk {i j:Bool}:decide (V.bl i=V.bl j)=(i==j):=by
 rw[Fq];simp
theorem jsx {i j:Str}:decide (V.str i=V.str j)=(i==j):=by
 rw[Fq];simp
theorem jsz {i j:Array UInt8}:decide (V.byt i=V.byt j)=(i.toList==j.toList):=by
 rw[Fq];cases i;cases j;simp
section
variable {X:Cx} {a b c:Expr} {ta tb tc:TE} {pos:Pos}
theorem jav {pins:List (Addr×Obj)} {σ:St} {H:Hp} {s:Ak} {Q:VK} {k k':Bool} (I:Inv X pins σ H s) (q:Q (.bl k) H) (e:k=k'):EP X pins σ Q (.bool k') s:=by
 subst e;exact⟨.bl k,H,I,rfl,q⟩
theorem op_eq:OpR X (Bk .Eq) rEq:=by
 intro pins s σ H x y v u Q I rx ry h;obtain⟨hs,q⟩:=h;cases x with
 |non =>
  cases rx;cases y with
  |non=>cases ry;exact PySem.EqNone.eq_none_none (jav I q (by simp))
  |bl j=>cases ry;exact PySem.EqNone.eq_none_bool (jav I q (by simp))
  |int j=>obtain⟨t',rfl⟩:=ry;exact PySem.EqNone.eq_none_int (jav I q (by simp))
  |str j=>obtain⟨t',rfl⟩:=ry;exact PySem.EqNone.eq_none_str (jav I q (by simp))
  |_=>exact absurd (show false=true from hs) An
 |bl i =>
  cases rx;cases y with
  |non=>cases ry;exact PySem.EqNone.eq_bool_none (jav I q (by simp))
  |bl j=>cases ry;exact eq_bool (jav I q jwk)
  |str j=>obtain⟨t',rfl⟩:=ry;exact PySem.EqMixed.eq_bool_str (jav I q (by simp))
  |_=>exact absurd (show false=true from hs) An
 |int i =>
  obtain⟨t,rfl⟩:=rx;cases y with
  |non=>cases ry;exact PySem.EqNone.eq_int_none (jav I q (by simp))
  |int j=>obtain⟨t',rfl⟩:=ry;exact eq_int (jav I q jsy)
  |str j=>obtain⟨t',rfl⟩:=ry;exact PySem.EqMixed.eq_int_str (jav I q (by simp))
  |_=>exact absurd (show false=true from hs) An
 |str i =>
  obtain⟨t,rfl⟩:=rx;cases y with
  |non=>cases ry;exact PySem.EqNone.eq_str_none (jav I q (by simp))
  |bl j=>cases ry;exact PySem.EqMixed.eq_str_bool (jav I q (by simp))
  |int j=>obtain⟨t',rfl⟩:=ry;exact PySem.EqMixed.eq_str_int (jav I q (by simp))
  |str j=>obtain⟨t',rfl⟩:=ry;exact eq_str (jav I q jsx)
  |_=>exact absurd (show false=true from hs) An
 |byt i =>
  obtain⟨t,rfl⟩:=rx;cases y with
  |byt j=>obtain⟨t',rfl⟩:=ry;exact PySem.W.eq_bytes (jav I q jsz)
  |_=>exact absurd (show false=true from hs) An
 |_=>cases y<;>exact absurd (show false=true from hs) An
theorem j3i:OpR X (Bk .NotEq) rNe:=by
 intro pins s σ H x y v u Q I rx ry h;obtain⟨hs,q⟩:=h;cases x with
 |non =>
  cases rx;cases y with
  |non=>cases ry;exact PySem.EqNone.ne_none_none (jav I q (by simp))
  |bl j=>cases ry;exact PySem.EqNone.ne_none_bool (jav I q (by simp))
  |int j=>obtain⟨t',rfl⟩:=ry;exact PySem.EqNone.ne_none_int (jav I q (by simp))
  |str j=>obtain⟨t',rfl⟩:=ry;exact PySem.EqNone.ne_none_str (jav I q (by simp))
  |_=>exact absurd (show false=true from hs) An
 |bl i =>
  cases rx;cases y with
  |non=>cases ry;exact PySem.EqNone.ne_bool_none (jav I q (by simp))
  |bl j=>cases ry;exact ne_bool (jav I q (congrArg not jwk))
  |str j=>obtain⟨t',rfl⟩:=ry;exact PySem.EqMixed.ne_bool_str (jav I q (by simp))
  |_=>exact absurd (show false=true from hs) An
 |int i =>
  obtain⟨t,rfl⟩:=rx;cases y with
  |non=>cases ry;exact PySem.EqNone.ne_int_none (jav I q (by simp))
  |int j=>obtain⟨t',rfl⟩:=ry;exact ne_int (jav I q (congrArg not jsy))
  |str j=>obtain⟨t',rfl⟩:=ry;exact PySem.EqMixed.ne_int_str (jav I q (by simp))
  |_=>exact absurd (show false=true from hs) An
 |str i =>
  obtain⟨t,rfl⟩:=rx;cases y with
  |non=>cases ry;exact PySem.EqNone.ne_str_none (jav I q (by simp))
  |bl j=>cases ry;exact PySem.EqMixed.ne_str_bool (jav I q (by simp))
  |int j=>obtain⟨t',rfl⟩:=ry;exact PySem.EqMixed.ne_str_int (jav I q (by simp))
  |str j=>obtain⟨t',rfl⟩:=ry;exact ne_str (jav I q (congrArg not jsx))
  |_=>exact absurd (show false=true from hs) An
 |byt i =>
  obtain⟨t,rfl⟩:=rx;cases y with
  |byt j=>obtain⟨t',rfl⟩:=ry;exact PySem.W.ne_bytes (jav I q (congrArg not jsz))
  |_=>exact absurd (show false=true from hs) An
 |_=>cases y<;>exact absurd (show false=true from hs) An
theorem op_lt:OpR X (Bk .Lt) (rI0 λi j=>.bl (decide (i < j))):=opB0 λ_ _ _ _ _ _ _ q=>lt_int q
theorem op_le:OpR X (Bk .LtE) (rI0 λi j=>.bl (decide (i<=j))):=opB0 λ_ _ _ _ _ _ _ q=>le_int q
theorem op_gt:OpR X (Bk .Gt) (rI0 λi j=>.bl (decide (j < i))):=opB0 λ_ _ _ _ _ _ _ q=>gt_int q
theorem j3j:OpR X (Bk .GtE) (rI0 λi j=>.bl (decide (j<=i))):=opB0 λ_ _ _ _ _ _ _ q=>ge_int q
theorem jr3:OpR X (Bk .Lt) (λx y H Q=>∃i j,x=.str i/\y=.str j/\Q (.bl (decide (i.cps.toList < j.cps.toList))) H):=by
 intro pins s σ H x y v u Q I rx ry h;obtain⟨i,j,rfl,rfl,q⟩:=h;obtain⟨t,rfl⟩:=rx;obtain⟨t',rfl⟩:=ry;exact lt_str (jav I q rfl)
theorem jv8:OpR X (Bk .Is) (λx y H Q=>y=.non/\Q (.bl (decide (x=.non))) H):=by
 intro pins s σ H x y v u Q I rx ry h;obtain⟨rfl,q⟩:=h;cases ry;refine is_none_gen (jav I q ?_);cases x<;>first
  | (cases rx;rfl)
  | (obtain⟨t,rfl⟩:=rx;rfl)
theorem jx7:OpR X (Bk .IsNot) (λx y H Q=>y=.non/\Q (.bl (!decide (x=.non))) H):=by
 intro pins s σ H x y v u Q I rx ry h;obtain⟨rfl,q⟩:=h;cases ry;refine isnot_none_gen (jav I q ?_);cases x<;>first
  | (cases rx;rfl)
  | (obtain⟨t,rfl⟩:=rx;rfl)
theorem OpR.or {f:Ah->Ah->Sem Ah} {r r':R2} (h:OpR X f r) (h':OpR X f r'):OpR X f (λx y H Q=>r x y H Q\/r' x y H Q):=by
 intro pins s σ H x y v u Q I rx ry q;rcases q with q | q
 ·exact h pins s σ H x y v u Q I rx ry q
 ·exact h' pins s σ H x y v u Q I rx ry q
theorem jl6 (b:Expr) {op:CmpOp} (h:op≠.In:=by decide) (h2:op≠.NotIn:=by decide):D1 op b=false:=by
 have e1:(op==CmpOp.In)=false:=by cases op<;>first | rfl | exact absurd rfl h
 have e2:(op==CmpOp.NotIn)=false:=by cases op<;>first | rfl | exact absurd rfl h2
 cases b<;>simp[D1,e1,e2]
theorem jx2 {op:CmpOp} {r:R2} (ho:OpR X (Bk op) r) (ha:PE X a ta) (hb:PE X b tb) (hm:D1 op b=false):PE X (.Compare a [op] [b] pos) (tOp r ta tb):=by
 intro pins s σ H Q I h;exact wpAny_Compare1 (binT ha hb I h λv u s2 x y H2 I2 rx ry q=>ho pins s2 σ H2 x y v u Q I2 rx ry q) hm
def jnd (t:TE):TT:=λσ H Q=>t σ H λx H'=>∃k,x=.bl k/\Q k H'
theorem jfd {op:CmpOp} {r:R2} (ho:OpR X (Bk op) r) (ha:PE X a ta) (hb:PE X b tb) (hm:D1 op b=false):PT X (.Compare a [op] [b] pos) (jnd (tOp r ta tb)):=by
 intro pins s σ H Q I h;refine wpAny_isTrue_Compare1 (thn (ha pins s σ H _ I h) λv s1 ⟨x,H1,I1,r1,q1⟩=>thn (hb pins s1 σ H1 _ I1 q1) λu s2 ⟨y,H2,I2,r2,q2⟩ =>
  thn (ho pins s2 σ H2 x y v u _ I2 r1 r2 q2) λc s3 ⟨z,H3,I3,r3,k,e,q3⟩=>?_) hm
 subst e;cases r3;exact C3 ⟨H3,I3,q3⟩
def jlj (r r':R2) (ta tb tc:TE):TE:=λσ H Q=>ta σ H λx H1=>tb σ H1 λy H2=>r x y H2 λz H3=>∃k,z=.bl k /\
 (if k=true then tc σ H3 λw' H4=>r' y w' H4 Q else Q (.bl false) H3)
theorem jum {op op':CmpOp} {r r':R2} (ho:OpR X (Bk op) r) (ho':OpR X (Bk op') r') (ha:PE X a ta) (hb:PE X b tb) (hc:PE X c tc)
  (hm:lastMarks [op,op'] [b,c]=false:=by with_unfolding_all rfl):PE X (.Compare a [op,op'] [b,c] pos) (jlj r r' ta tb tc):=by
 intro pins s σ H Q I h;refine Compare_chain (thn (ha pins s σ H _ I h) λv s1 ⟨x,H1,I1,r1,q1⟩=>chain_link (thn (hb pins s1 σ H1 _ I1 q1) λu s2 ⟨y,H2,I2,r2,q2⟩ =>
  thn (ho pins s2 σ H2 x y v u _ I2 r1 r2 q2) λd s3 ⟨z,H3,I3,r3,k,e,q3⟩=>?_)) hm
 subst e;cases r3;refine C3 ?_;cases k with
 |false=>exact ite_ff ⟨.bl false,H3,I3,rfl,q3⟩
 |true=>exact ite_tt (chain_last (thn (hc pins s3 σ H3 _ I3 q3) λw' s4 ⟨z',H4,I4,r4,q4⟩=>ho' pins s4 σ H4 y z' u w' Q I4 r2 r4 q4))
theorem juf {op op':CmpOp} {r r':R2} (ho:OpR X (Bk op) r) (ho':OpR X (Bk op') r') (ha:PE X a ta) (hb:PE X b tb) (hc:PE X c tc)
  (hm:lastMarks [op,op'] [b,c]=false:=by with_unfolding_all rfl):PT X (.Compare a [op,op'] [b,c] pos) (jnd (jlj r r' ta tb tc)):=by
 intro pins s σ H Q I h;refine isTrue_chain (thn (ha pins s σ H _ I h) λv s1 ⟨x,H1,I1,r1,q1⟩=>test_link (thn (hb pins s1 σ H1 _ I1 q1) λu s2 ⟨y,H2,I2,r2,q2⟩ =>
  thn (ho pins s2 σ H2 x y v u _ I2 r1 r2 q2) λd s3 ⟨z,H3,I3,r3,k,e,q3⟩=>?_)) hm
 subst e;cases r3;refine C3 ?_;cases k with
 |false =>
  obtain⟨k',e',q'⟩:=q3;cases e';exact ite_ff ⟨H3,I3,q'⟩
 |true =>
  refine ite_tt (test_last (thn (hc pins s3 σ H3 _ I3 q3) λw' s4 ⟨z',H4,I4,r4,q4⟩=>thn (ho' pins s4 σ H4 y z' u w' _ I4 r2 r4 q4) λd' s5 ⟨z2,H5,I5,r5,k2,e2,q5⟩=>?_));subst e2;cases r5;exact C3 ⟨H5,I5,q5⟩
theorem jjk:(Ay:Nat) < 2 ^ 63:=by rw[Fh];decide
theorem op_add_str:OpR X (El .Add) (λx y H Q=>∃i j,x=.str i/\y=.str j/\i.length+j.length<=Ay/\Q (.str (i++j)) H):=by
 intro pins s σ H x y v u Q I rx ry h;obtain⟨i,j,rfl,rfl,hz,q⟩:=h;obtain⟨t,rfl⟩:=rx;obtain⟨t',rfl⟩:=ry;exact add_str (λt' tk=>⟨.str (i++j),H,I.tok _,⟨_,rfl⟩,q⟩) hz
theorem jin {x:V} {us:List Ah} (r:Vals [x] us):∃u,us=[u]/\RelV x u:=by
 cases r with
 |cons r1 r2=>cases r2;exact⟨_,rfl,r1⟩
theorem j2w {x y:V} {us:List Ah} (r:Vals [x,y] us):∃u w',us=[u,w']/\RelV x u/\RelV y w':=by
 cases r with
 |cons r1 r2 =>
  cases r2 with
  |cons r3 r4=>cases r4;exact⟨_,_,rfl,r1,r3⟩
theorem jmk:CallR X (.type "str") (λxs H Q=>∃i,xs=[.int i]/\i.natAbs.log2 < 1920/\Q (.str (toString i)) H):=by
 intro pins s σ H xs us Q I r h;obtain⟨i,rfl,hz,q⟩:=h;obtain⟨u,rfl,t,rfl⟩:=jin r;exact PySem.P.str_of_int hz ⟨.str _,H,I.tok _,⟨_,rfl⟩,q⟩
end
structure ObjM (h:Heap) (x dx C:Addr) (mA:Str->Option Ah):Prop where
 obj:h.get? x=some (PySem.W.instObj C dx)
 ns:h.Ns1 dx mA
 ne:dx≠x
theorem jsg {h:Heap} {dx:Addr} {mA:Str->Option Ah} (n:h.Ns1 dx mA):∃od,h.get? dx=some od/\∀name,PySem.W.lookIn name od=some (mA name):=by
 obtain⟨o,es,ep,ho,hd,hk,_,hm⟩:=n;refine⟨o,ho,λname=>?_⟩;have e:=hm name;unfold nsFind findBy at e;rw[<-Array.find?_toList]at e;unfold PySem.W.lookIn;rw[hd];dsimp only
 split
 ·rename_i y q;rw[q]at e;exact congrArg some e
 ·rename_i q;rw[q]at e;have a:es.toList.any (·.refKey)=false:=by
   rw[List.any_eq_false];intro y hy;obtain⟨z,t,hkey⟩:=hk y (Array.mem_toList_iff.mp hy);simp[DictEntry.refKey,hkey]
  have a':¬es.toList.any (·.refKey)=true:=by rw[a];exact An
  rw[if_neg a'];exact congrArg some e
theorem ObjM.look {h:Heap} {x dx C:Addr} {mA:Str->Option Ah} (I:ObjM h x dx C mA):∃od,PySem.W.InstAt h x (PySem.W.instObj C dx) C (some od)/\∀name,PySem.W.lookIn name od=some (mA name) :=
 let⟨od,ho,hl⟩:=jsg I.ns
 ⟨od,⟨I.obj,rfl,rfl,ho⟩,hl⟩
section
variable {P:Bm} {w:B3} {H H':Hp} {h h':Heap} {a C dx:Addr} {fs fs':List (Str×V)}
theorem jyo (hok:HOk P w H h) (e:H a=some (.ins C dx fs)):∃mA,ObjM h a dx C mA/\(∀f,RelO (fs.lookup f) (mA f))/\PySem.Within mA (fs.map (·.1))/\fs.length<=1000/\H dx=some (.own a):=by
 obtain⟨d,z,ne,ob,mA,n,r,q⟩:=(show ObjOk P w H h a (.ins C dx fs)from hok a _ e);exact⟨mA,⟨ob,n,ne⟩,r,q,z,d⟩
end
structure Cls (K:Aj) (C:Addr):Prop where
 pg:PySem.W.plainGet K C Str.empty=true
 hd:PySem.W.hasDictIn K C=true
 po:PySem.W.plainOver K C=true
 sa:PySem.W.findIn K (.ref C) "__setattr__"=some (some (.builtin "object.__setattr__"))
theorem Cls.get {K:Aj} {C:Addr} (c:Cls K C) (f:Str):PySem.W.plainGet K C f=true:=c.pg
section
variable {X:Cx} {pins:List (Addr×Obj)} {σ:St} {H:Hp} {s:Ak} {A:B8} {E:Ah->Ak->Prop} {Q:Ah->Ak->Prop} {c:Ah} {b:Bool}
inductive TyOf (K:Aj) (H:Hp):V->Ah->Prop where
 |non:TyOf K H .non (.type "NoneType")
 |bl (x:Bool):TyOf K H (.bl x) (.type "bool")
 |int (i:Int):TyOf K H (.int i) (.type "int")
 |str (x:Str):TyOf K H (.str x) (.type "str")
 |flt (x:UInt64):TyOf K H (.flt x) (.type "float")
 |lst {a:Addr} {xs:List V} (e:H a=some (.lst xs)):TyOf K H (.ref a) (.type "list")
 |frz {a:Addr} {o:Obj} {xs:List V} (e:H a=some (.frz o (.lst xs))):TyOf K H (.ref a) (.type "list")
 |tup {a:Addr} {xs:List V} (e:H a=some (.tup xs)):TyOf K H (.ref a) (.type "tuple")
 |dK {a:Addr} {kvs:List (Key×V)} (e:H a=some (.dK kvs)):TyOf K H (.ref a) (.type "dict")
 |dT {a:Addr} {kvs:List (List Key×V)} (e:H a=some (.dT kvs)):TyOf K H (.ref a) (.type "dict")
 |ins {a C dx:Addr} {fs:List (Str×V)} (e:H a=some (.ins C dx fs)) (cl:Cls K C) (ha:PySem.W.findIn K (.ref C) "__class__"=some (some (.builtin "object.__class__")))
   (hn:PySem.W.specialIn K (.builtin "object.__class__") "__get__"=some (some (.builtin "getset_descriptor.__get__"))) (htk:PySem.W.takesIn K (.builtin "object.__class__")=some true)
   (hm:PySem.W.mroIn K C (.type "object")=some true):TyOf K H (.ref a) (.ref C)
theorem jsn {x:V} {u t:Ah} (I:Inv X pins σ H s) (rx:RelV x u) (ty:TyOf X.K H x t) (e:PySem.W.kitOne X.K t c=some b) (h:∀tk,Q (.bool b) {s with toks:=tk}) :
  Az (Ba X.prog X.w) A (call (.builtin "isinstance") [u,c]) Q E s:=by
 cases ty with
 |non=>cases(show u=Bf from rx);exact C0 PySem.W.kitx_none I.kIn True.intro e (λz=>nomatch z) h
 |bl y=>cases(show u=Value.bool y from rx);exact C0 PySem.W.kitx_bool I.kIn True.intro e (λz=>nomatch z) h
 |int i=>obtain⟨t,q⟩:=(show ∃t,u=Value.int i t from rx);cases q;exact C0 PySem.W.kitx_int I.kIn True.intro e (λz=>nomatch z) h
 |str y=>obtain⟨t,q⟩:=(show ∃t,u=F3 y t from rx);cases q;exact C0 PySem.W.kitx_str I.kIn True.intro e (λz=>nomatch z) h
 |flt y=>obtain⟨t,q⟩:=(show ∃t,u=Value.float y t from rx);cases q;exact C0 PySem.W.kitx_float I.kIn True.intro e (λz=>nomatch z) h
 |@lst a xs ea =>
  cases(show u=Bw a from rx);obtain⟨_,_,n,_,h1⟩:=(show ObjOk X.prog X.w H s.heap a (.lst xs)from I.hok a _ ea);exact C0 PySem.W.kitx_list I.kIn ⟨_,h1,rfl⟩ e (λz=>nomatch z) h
 |@frz a ob xs ea =>
  cases(show u=Bw a from rx);obtain⟨_,_,_,n,_,h1⟩:=(show ObjOk X.prog X.w H s.heap a (.frz ob (.lst xs))from I.hok a _ ea);exact C0 PySem.W.kitx_list I.kIn ⟨_,h1,rfl⟩ e (λz=>nomatch z) h
 |@tup a xs ea =>
  cases(show u=Bw a from rx);obtain⟨_,_,_,p⟩:=(show ObjOk X.prog X.w H s.heap a (.tup xs)from I.hok a _ ea);obtain⟨o,h1,h2,_⟩:=p;exact C0 PySem.W.kitx_tuple I.kIn ⟨o,h1,h2⟩ e (λz=>nomatch z) h
 |@dK a kvs ea =>
  cases(show u=Bw a from rx);obtain⟨_,_,vs,_,p⟩:=(show ObjOk X.prog X.w H s.heap a (.dK kvs)from I.hok a _ ea);obtain⟨o,es,ep,h1,h2,_⟩:=p;exact C0 PySem.W.kitx_dict I.kIn ⟨o,h1,h2.1⟩ e (λz=>nomatch z) h
 |@dT a kvs ea =>
  cases(show u=Bw a from rx);obtain⟨_,_,xs,_,o,es,ep,h1,h2,_⟩:=(show ObjOk X.prog X.w H s.heap a (.dT kvs)from I.hok a _ ea);exact C0 PySem.W.kitx_dict I.kIn ⟨o,h1,h2.1⟩ e (λz=>nomatch z) h
 |@ins a C dx fs ea cl ha hn htk hm =>
  cases(show u=Bw a from rx);obtain⟨mA,O,_⟩:=jyo I.hok ea;obtain⟨od,J,_⟩:=O.look;exact C0 (PySem.W.kitx_own (cl.get _) cl.hd ha hn htk hm) I.kIn J e (λz=>nomatch z) h
end
structure Room (k:Nat) (A:B8):Prop where
 hd:A.handled=none
 dp:A.depth+3*k+5 < recursionLimit
 un:A.units+16*k+200 < cLine
 gd:A.guards=some []
theorem Room.mono {j k:Nat} {A:B8} (r:Room k A) (h:j<=k):Room j A:=⟨r.hd,by have:=r.dp;omega,by have:=r.un;omega,r.gd⟩
theorem Room.deeper {k:Nat} {A:B8} (r:Room (k+1) A) (env:Env):Room k (A.deeper env) :=
 ⟨r.hd,by have:=r.dp;show A.depth+1+3*k+5 < _;omega,by have:=r.un;show A.units+3+16*k+200 < _;omega,r.gd⟩
theorem Room.depth {k:Nat} {A:B8} (r:Room k A):A.depth < recursionLimit:=by have:=r.dp;omega
theorem Room.units {k:Nat} {A:B8} (r:Room k A):A.units+64 < cLine:=by have:=r.un;omega
theorem Room.units0 {k:Nat} {A:B8} (r:Room k A):A.units < cLine:=by have:=r.un;omega
def tNil:TA:=λ_ H Q=>Q [] H
def jb2 (ta:TE) (tr:TA):TA:=λσ H Q=>ta σ H λx H1=>tr σ H1 λxs H2=>Q (x::xs) H2
section
variable {X:Cx} {e:Expr} {es:List Expr} {te:TE} {t:TA} {pos:Pos}
theorem jbm:PA X [] tNil:=λ_ _ _ _ H Q I h=>Calls.spliced_nil ⟨[],H,I,.nil,h⟩
theorem jas (ha:PE X e te) (hr:PA X es t) (hs:Ax (e::es) X.env=(false,eval e X.env)::Ax es X.env:=by rfl):PA X (e::es) (jb2 te t):=by
 intro pos pins s σ H Q I h;rw[hs];show Az _ _ (spliced ((false,eval e X.env)::D9 pos (Ax es X.env))) _ _ s;refine Calls.spliced_cons (thn (ha pins s σ H _ I h) λu s1 ⟨x,H1,I1,r1,q1⟩=>?_);exact thn (hr pos pins s1 σ H1 _ I1 q1) λus s2 ⟨xs,H2,I2,r2,q2⟩=>⟨x::xs,H2,I2,.cons r1 r2,q2⟩
def tTup (t:TA):TE:=λσ H Q=>t σ H λxs H1=>xs.length<=Ay/\∀p,H1 p=none->Q (.ref p) (upd H1 p (.tup xs))
def tLst (t:TA):TE:=λσ H Q=>t σ H λxs H1=>xs.length<=Ay/\∀p,H1 p=none->Q (.ref p) (upd H1 p (.lst xs))
theorem j0t {x1} (h:PA X es t):PE X (.Tuple es x1 pos) (tTup t):=by
 intro pins s σ H Q I hq;refine wpAny_Tuple_spliced (thn (h pos pins s σ H _ I hq) λus s1 ⟨xs,H1,I1,r,z,q⟩=>⟨by rw[<-r.length];exact z,?_⟩);have hf:H1 s1.heap.objs.size=none:=I1.hok.fresh (Al _);refine⟨.ref s1.heap.objs.size,upd H1 s1.heap.objs.size (.tup xs),I1.laid (t':=s1.toks) (λb u e=>Ad _ e) (Al _) ?_,rfl,q _ hf⟩;exact⟨z,us,r,IsTupP.new _ _⟩
theorem jrw (h:PA X es t):PE X (.List es pos) (tLst t):=by
 intro pins s σ H Q I hq;refine wpAny_List_spliced (thn (h pos pins s σ H _ I hq) λus s1 ⟨xs,H1,I1,r,z,q⟩=>⟨by rw[<-r.length];exact z,?_⟩);have hf:H1 s1.heap.objs.size=none:=I1.hok.fresh (Al _);refine⟨.ref s1.heap.objs.size,upd H1 s1.heap.objs.size (.lst xs),I1.laid (t':=s1.toks) (λb u e=>Ad _ e) (Al _) ?_,rfl,q _ hf⟩;exact⟨z,us,0,r,As _ rfl⟩
end
abbrev Sp:=List V->Hp->VK->XK->Prop
abbrev CXT:=List Env->Hp->Ak->XK->Ah->Ak->Prop
structure Env0 (P:Bm) (w:B3) (K:Aj) (mg:Str->Option Ah) (base:Heap) (A:B8) (outer:List Env) (s:Ak) (H:Hp):Prop where
 frames:A.frames=some outer
 mod:Mod K mg base
 bs:∀b o,base.get? b=some o->s.heap.get? b=some o/\H b=none
 bsz:base.objs.size<=s.heap.objs.size
 funs:s.heap.FunFrames base outer
 frf:∀b∈frs outer,H b=none
 hok:HOk P w H s.heap
 bare:AllBare s.gens
def CE (outer:List Env) (P:Bm) (w:B3) (H:Hp) (s:Ak) (Q:VK) (u:Ah) (s':Ak):Prop :=
 ∃v H',s'.os=s.os/\AllBare s'.gens/\Un (frs outer) [] H H' s.heap s'.heap/\HOk P w H' s'.heap/\RelV v u/\Q v H'
def CR (CX:CXT) (outer:List Env) (P:Bm) (w:B3) (H:Hp) (s:Ak) (Q:VK) (E:XK) (r:Result) (s':Ak):Prop :=
 match r with
 |.ok (.ret u)=>CE outer P w H s Q u s'
 |.ok _=>False
 |.error e=>CX outer H s E e s'
structure FnOk (P:Bm) (w:B3) (K:Aj) (mg:Str->Option Ah) (base:Heap) (CX:CXT) (k:Nat) (f:Addr) (fd:C1) (ps:List Str) (sp:Sp):Prop where
 len:∀vs H Q E,sp vs H Q E->vs.length=ps.length
 run:∀(A:B8) (outer:List Env) (s:Ak) (H:Hp) (args:Args) (us:List Ah) (vs:List V) (Q:VK) (E:XK),Room k A->Env0 P w K mg base A outer s H->BindsTo s fd args (ps.zip us)->Vals vs us->sp vs H Q E ->
  F9 (Ba P w) A (.call (.ref f) args) (CR CX outer P w H s Q E) s
theorem FnOk.imp {P:Bm} {w:B3} {K:Aj} {mg:Str->Option Ah} {base:Heap} {CX:CXT} {k:Nat} {f:Addr} {fd:C1} {ps:List Str} {sp sp':Sp} (F:FnOk P w K mg base CX k f fd ps sp)
  (h:∀vs H Q E,sp' vs H Q E->sp vs H Q E):FnOk P w K mg base CX k f fd ps sp' :=
 ⟨λvs H Q E q=>F.len vs H Q E (h _ _ _ _ q),λA outer s H args us vs Q E hr he hb hv hs=>F.run A outer s H args us vs Q E hr he hb hv (h _ _ _ _ hs)⟩
section
variable {X:Cx} {pins:List (Addr×Obj)} {σ:St} {H:Hp} {s s':Ak}
theorem Inv.env0 (I:Inv X pins σ H s):Env0 X.prog X.w X.K X.mg X.base X.A X.stack s H :=
 ⟨I.ok.frames,I.ok.mod,I.bs,A9 I.ok.bsz I.sz,I.stack,I.stkFree,I.hok,I.bare⟩
theorem Inv.after {Q:VK} {u:Ah} (I:Inv X pins σ H s) (h:CE X.stack X.prog X.w H s Q u s'):EP X pins σ Q u s':=by
 obtain⟨v,H',os,bare,un,hok,r,q⟩:=h;obtain⟨hh,g,d,t,os'⟩:=s';obtain rfl:os'=s.os:=os;exact⟨v,H',I.call (h':=hh) (g':=g) (d':=d) (t':=t) (ch:=[]) un hok bare (λb z=>absurd z (by simp)),r,q⟩
end
def jne (sp:Sp) (dvs:List V) (E:XK) (t:TA):TE:=λσ H Q=>t σ H λvs H1=>sp (vs++dvs) H1 Q E
def Binds (K:Aj) (fd:C1) (ps:List Str) (ds:List Ah):Prop :=
 ∀(s:Ak) (us:List Ah),K.In s.heap->(us++ds).length=ps.length->BindsTo s fd ⟨us,[]⟩ (ps.zip (us++ds))
theorem Binds.all {K:Aj} {fd:C1} {ps:List Str} (h:∀us:List Ah,us.length=ps.length->bindArgs fd ⟨us,[]⟩=pure (ps.zip us)):Binds K fd ps []:=λs us _ hl=>by
 rw[Bu]at hl ⊢;exact .of_eq (h us hl)
def jtm (CX:CXT) (X:Cx) (E:XK):Prop:=∀(pins:List (Addr×Obj)) (σ:St) (H:Hp) (s:Ak) (e:Ah) (s':Ak),Inv X pins σ H s->CX X.stack H s E e s'->X.xe e s'
section
variable {X:Cx} {CX:CXT} {k:Nat} {f C:Addr} {fd:C1} {ps:List Str} {sp:Sp} {dvs:List V} {ds:List Ah} {E:XK} {x m:Str} {p pos apos:Pos} {e o:Expr} {es:List Expr} {ta:TE} {t:TA}
theorem j0c {pins:List (Addr×Obj)} {σ:St} {H:Hp} {s:Ak} {Q:VK} {us:List Ah} {vs:List V} (F:FnOk X.prog X.w X.K X.mg X.base CX k f fd ps sp) (hr:Room k X.A) (hb:Binds X.K fd ps ds) (hd:Vals dvs ds) (hx:jtm CX X E)
  (I:Inv X pins σ H s) (r:Vals vs us) (h:sp (vs++dvs) H Q E):Az (Ba X.prog X.w) X.A (call (.ref f) us) (EP X pins σ Q) X.xe s:=by
 have r2:Vals (vs++dvs) (us++ds):=r.append hd;have hl:(us++ds).length=ps.length:=by rw[<-r2.length];exact F.len _ _ _ _ h
 refine wpAny_call (codeAny_mono (F.run X.A X.stack s H ⟨us,[]⟩ (us++ds) (vs++dvs) Q E hr I.env0 (hb s us I.kIn hl) r2 h) λr s' hq=>?_);cases r with
 |error e=>exact hx pins σ H s e s' I hq
 |ok fl =>
  cases fl with
  |ret u=>exact I.after hq
  |next=>exact False.elim hq
  |brk=>exact False.elim hq
  |cont=>exact False.elim hq
theorem jry (F:FnOk X.prog X.w X.K X.mg X.base CX k f fd ps sp) (hr:Room k X.A) (hg:Gl X x) (hm:X.mg x=some (.ref f)) (hk:Cz X.K (.ref f)=true) (hb:Binds X.K fd ps ds) (hd:Vals dvs ds) (hx:jtm CX X E)
  (ha:PA X (e::es) t) (hdb:(x==("__debug__":Str))=false:=by decide) (he:Ax (e::es) X.env=(false,eval e X.env)::Ax es X.env:=by rfl) (hpl:(D9 pos (Ax es X.env)).any (·.1)=false:=by rfl) :
  PE X (.Call (.Name x p) (e::es) [] pos) (jne sp dvs E t):=by
 intro pins s σ H Q I h;refine wpAny_Call_Name_kw (jsj I hg hm ?_ hdb);refine PySem.W.callWith_K (h₀:=X.base) I.ok.mod.kin hk (thn (ha pos pins s σ H _ I h) λus s1 ⟨vs,H1,I1,r,q⟩=>⟨I1.kIn,?_⟩) he hpl;exact j0c F hr hb hd hx I1 r q
end
structure FnScope (N P:List Str) (sc:Eo):Prop where
 kind:sc.kind=.function
 co:sc.isCoroutine=false
 gen:sc.isGenerator=false
 nd:N.Nodup
 pre:N.take P.length=P
 par:∀x∈P,sc.names.lookup x=some .local\/sc.names.lookup x=some .cell
 nofree:∀y∈sc.names,y.2≠.free
theorem jms {kindOf:Str->Option NameKind} {x:Str}:∀{binds:List (Str×Ah)} {m:Str->Option Ah},(∀v,(x,v)∉binds)->bindL kindOf binds m x=m x
 |[],_,_=>rfl
 | (n,v)::r,m,h=>by
  unfold bindL;rw[jms λw hw=>h w (Aw _ hw)]
  split
  ·have:x≠n:=by rintro rfl;exact h v Au
   simp[this]
  ·rfl
theorem jmu {kindOf:Str->Option NameKind} {x:Str}:∀{binds:List (Str×Ah)} {m:Str->Option Ah},(∀v,(x,v)∉binds)->bindC kindOf binds m x=m x
 |[],_,_=>rfl
 | (n,v)::r,m,h=>by
  unfold bindC;rw[jmu λw hw=>h w (Aw _ hw)]
  split
  ·rfl
  ·have:x≠n:=by rintro rfl;exact h v Au
   simp[this]
theorem jmt {kindOf:Str->Option NameKind} {x:Str} {v:Ah}:∀{P:List Str} {vs:List Ah} {i:Nat} {m:Str->Option Ah},P.Nodup->P[i]?=some x->vs[i]?=some v->kindOf x=some .local ->
  bindL kindOf (P.zip vs) m x=some v
 |[],_,_,_,_,h,_,_=>by simp at h
 |_::_,[],_,_,_,_,h,_=>by simp at h
 |p::P,w::vs,0,m,nd,h1,h2,hk=>by
  simp at h1 h2;subst h1;subst h2;show bindL kindOf ((p,w)::P.zip vs) m p=_;unfold bindL;rw[jms λv hv=>(Fp.mp nd).1 (Gd hv).1,if_pos hk];simp
 |p::P,w::vs,i+1,m,nd,h1,h2,hk=>by
  show bindL kindOf ((p,w)::P.zip vs) m x=_;unfold bindL;exact jmt (i:=i) (Fp.mp nd).2 (by simpa using h1) (by simpa using h2) hk
theorem jmv {kindOf:Str->Option NameKind} {x:Str} {v:Ah}:∀{P:List Str} {vs:List Ah} {i:Nat} {m:Str->Option Ah},P.Nodup->P[i]?=some x->vs[i]?=some v->kindOf x≠some .local ->
  bindC kindOf (P.zip vs) m x=some v
 |[],_,_,_,_,h,_,_=>by simp at h
 |_::_,[],_,_,_,_,h,_=>by simp at h
 |p::P,w::vs,0,m,nd,h1,h2,hk=>by
  simp at h1 h2;subst h1;subst h2;show bindC kindOf ((p,w)::P.zip vs) m p=_;unfold bindC;rw[jmu λv hv=>(Fp.mp nd).1 (Gd hv).1,if_neg hk];simp
 |p::P,w::vs,i+1,m,nd,h1,h2,hk=>by
  show bindC kindOf ((p,w)::P.zip vs) m x=_;unfold bindC;exact jmv (i:=i) (Fp.mp nd).2 (by simpa using h1) (by simpa using h2) hk
def start (N:List Str) (vs:List V):St:=vs.map some++Dc (N.length - vs.length) none
def cxOf (CX:CXT) (P:Bm) (w:B3) (K:Aj) (mg:Str->Option Ah) (base:Heap) (N:List Str) (qual:Str) (scope:Eo) (f:Addr) (cd:Ah) (A:B8) (outer:List Env) (s:Ak) (H:Hp) (E:XK):Cx where
 prog:=P
 w:=w
 K:=K
 mg:=mg
 base:=base
 A:=A.deeper (envOfC qual scope s.heap.objs.size f cd)
 N:=N
 s₀:=s
 H₀:=H
 env:=envOfC qual scope s.heap.objs.size f cd
 outer:=outer
 stack:=envOfC qual scope s.heap.objs.size f cd::outer
 ex:=[]
 calm:=true
 fn:=λ_=>true
 pn:=[]
 xe:=λe s'=>Az (Ba P w) (A.deeper (envOfC qual scope s.heap.objs.size f cd)) (leaving (envOfC qual scope s.heap.objs.size f cd) e) (λ_ s''=>CX outer H s E e s'') (λe' s''=>CX outer H s E e' s'') s'
theorem jo2 {sc:Eo} {n:Nat} {x:Str} (h:sc.names.lookup x=some .cell):∃c,(cellsFrom n sc.names []).lookup x=some c:=by
 have q:=PySem.W.cellsFrom_some sc.names n [] (.inl h);exact Option.isSome_iff_exists.mp q
theorem jso {CX:CXT} {P:Bm} {w:B3} {K:Aj} {mg:Str->Option Ah} {base:Heap} {N ps:List Str} {qual:Str} {scope:Eo} {f:Addr} {cd:Ah} {A:B8} {outer:List Env} {s s1:Ak} {H:Hp} {E:XK} {us:List Ah} {vs:List V}
  (S:FnScope N ps scope) (hd:A.handled=none) (e0:Env0 P w K mg base A outer s H) (hl:vs.length=ps.length) (r:Vals vs us)
  (x:InCallC s s.heap.objs.size (bindL (envOfC qual scope s.heap.objs.size f cd).kindOf (ps.zip us) λ_=>none) (cellsFrom (s.heap.objs.size+1) scope.names []) (bindC (envOfC qual scope s.heap.objs.size f cd).kindOf (ps.zip us) λ_=>none) s1) :
  Inv (cxOf CX P w K mg base N qual scope f cd A outer s H E) [] (start N vs) H s1:=by
 have hpl:ps.length<=N.length:=by have:=congrArg List.length S.pre;rw[Dv]at this;omega
 obtain⟨h1,tk,rfl,hk⟩:=x.done;have noA:∀b:Addr,b∉(cxOf CX P w K mg base N qual scope f cd A outer s H E).ex:=λb z=>absurd (show b∈([]:List Addr)from z) (by simp);refine⟨⟨e0.mod,S.kind,rfl,rfl,Al _,λy z c h1 h2=>?_,λy hy=>?_,λy c _ h=>?_,λ_=>hd,Around.frames_deeper e0.frames,.inr ⟨rfl,rfl⟩,λb z=>absurd z (noA b),e0.bs,e0.bsz,λb _ _=>noA b,λb z=>absurd z (noA b),e0.funs,e0.frf⟩,
  rfl,e0.bare,Un.kept hk,⟨_,x.toInCall.ns,λi y v h1 h2 h3=>?_⟩,λy c h=>⟨_,x.cell y c h⟩,e0.hok.fresh (Al _),λy c h=>?_,λp hp=>absurd (show p∈([]:List (Addr×Obj))from hp) (by simp),e0.hok.kept hk,?_⟩
 ·exact name_of_addr x.apart (E6 h1) (E6 h2)
 ·have hy:scope.names.lookup y=some .cell\/scope.names.lookup y=some .free:=hy;rcases hy with hy | hy
  ·exact jo2 hy
  ·exact absurd rfl (S.nofree _ (E6 hy))
 ·exact Nat.le_of_lt (x.above y c (E6 h))
 ·have hi:i < vs.length:=by
   unfold start at h2;by_cases hi:i < vs.length
   ·exact hi
   ·rw[Gn (by simpa using hi)]at h2;rw[Ee]at h2
    split at h2<;>cases h2
  have ha:vs[i]?=some v:=by
   unfold start at h2;rw[E9 (by simpa using hi),A7]at h2;cases e:vs[i]? with
   |none=>rw[e]at h2;cases h2
   |some a=>rw[e]at h2;cases h2;rfl
  obtain⟨u,hu,rv⟩:=r.get ha;have hp:ps[i]?=some y:=by
   rw[<-S.pre,List.getElem?_take_of_lt (by omega)];exact h1
  have ndP:ps.Nodup:=by rw[<-S.pre];exact S.nd.sublist (List.take_sublist _ _)
  refine⟨u,rv,?_⟩;rcases S.par y (B5 hp)with k | k
  ·exact .inl ⟨k,jmt ndP hp hu k⟩
  ·obtain⟨c,e⟩:=jo2 (n:=s.heap.objs.size+1) k;refine .inr ⟨.inl k,c,e,?_⟩;have q:=x.cell y c e;rw[jmv ndP hp hu (by show scope.names.lookup y≠_;rw[k];decide)]at q;exact q
 ·exact e0.hok.fresh (Nat.le_of_lt (x.above y c (E6 h)))
 ·unfold start;show _=N.length;rw[Ap,Ae,List.length_replicate];omega
theorem j3x {CX:CXT} {P:Bm} {w:B3} {K:Aj} {mg:Str->Option Ah} {base:Heap} {k:Nat} {f:Addr} {name qual:Str} {params:Arguments} {body:List Stmt} {scope:Eo} {dV kV doc pm cdv ct oc:Ah} {an od:Option Addr}
  {osl:Array (Option Ah)} {N ps:List Str} {sp:Sp} (lk:K.lookup f=some ⟨oc,od,.func (Ew name qual params body scope dV kV doc pm an cdv ct),osl⟩) (hcd:PySem.W.codeIn K cdv qual=true) (S:FnScope N ps scope)
  (len:∀vs H Q E,sp vs H Q E->vs.length=ps.length)
  (hbody:∀(A:B8) (outer:List Env) (s:Ak) (H:Hp) (vs:List V) (Q:VK) (E:XK),Room k (A.deeper (envOfC qual scope s.heap.objs.size f cdv))->sp vs H Q E ->
   ∃t,PSs (cxOf CX P w K mg base N qual scope f cdv A outer s H E) body t/\t {nx:=λ_ H'=>Q .non H',rt:=Q} (start N vs) H) :
  FnOk P w K mg base CX (k+1) f (Ew name qual params body scope dV kV doc pm an cdv ct) ps sp:=by
 refine⟨len,λA outer s H args us vs Q E hr e0 hb r hsp=>?_⟩;have hl:=len _ _ _ _ hsp;have KX:K.In s.heap:=e0.mod.kin.keeps λb o e=>(e0.bs b o e).1;have lim:s.heap.NoLimit:=e0.mod.nolimit.keeps λb o e=>(e0.bs b o e).1;have hkind:∀y∈ps.zip us,scope.names.lookup y.1=some .local\/(scope.names.lookup y.1=some .cell/\((cellsFrom (s.heap.objs.size+1) scope.names []).lookup y.1).isSome=true):=λ⟨n,v⟩ hy=>by
  rcases S.par n (Gd hy).1 with q | q
  ·exact .inl q
  ·exact .inr ⟨q,PySem.W.cellsFrom_some _ _ _ (.inl q)⟩
 refine codeAny_call_function hr.depth (KX _ _ lk) rfl S.co S.gen rfl (PySem.W.codeRec_of KX hcd) (hb _ _ _ _ ?_);refine wpAny_newFunctionEnv_cells S.kind hkind λenv he s1 x=>?_;subst he;refine⟨lim.keeps x.toInCall.keep,codeAny_func ?_⟩;obtain⟨t,ht,hq⟩:=hbody A outer s H vs Q E (hr.deeper _) hsp;have I:Inv (cxOf CX P w K mg base N qual scope f cdv A outer s H E) [] (start N vs) H s1:=jso S hr.hd e0 hl r x;refine Dq (ht [] s1 (start N vs) H _ I hq) (λfl s' hs=>?_) λe s' hs=>hs;have fin:∀{σ':St} {H':Hp} {v:V} {u:Ah},Inv (cxOf CX P w K mg base N qual scope f cdv A outer s H E) [] σ' H' s'->RelV v u->Q v H'->CE outer P w H s Q u s' :=
  λ{σ' H' v u} J rv q=>⟨v,H',J.os,J.bare,J.base,J.hok,rv,q⟩
 cases fl with
 |ret u =>
  obtain⟨v,σ',H',J,rv,q⟩:=hs;exact fin J rv q
 |next =>
  obtain⟨σ',H',J,q⟩:=hs;exact fin (v:=V.non) (u:=Bf) J rfl q
 |brk =>
  obtain⟨_,_,_,q⟩:=hs;exact False.elim q
 |cont =>
  obtain⟨_,_,_,q⟩:=hs;exact False.elim q
section
variable {X:Cx} {x:Str} {p pos:Pos} {e:Expr} {es:List Expr} {t:TA} {id T:String} {r:List V->Hp->VK->Prop}
def tCB (r:List V->Hp->VK->Prop) (t:TA):TE:=λσ H Q=>t σ H λvs H1=>r vs H1 Q
theorem jdx (hc:CallR X (.builtin id) r) (hg:Gl X x) (hm:X.mg x=none) (hv:By x=some (.builtin id)) (ha:PA X (e::es) t) (hn:x≠"__name__":=by decide) (hdb:(x==("__debug__":Str))=false:=by decide)
  (he:Ax (e::es) X.env=(false,eval e X.env)::Ax es X.env:=by rfl) (hpl:(D9 pos (Ax es X.env)).any (·.1)=false:=by rfl):PE X (.Call (.Name x p) (e::es) [] pos) (tCB r t):=by
 intro pins s σ H Q I h;refine wpAny_Call_Name_kw (jhk I hg hm hv ?_ hn hdb);exact PyProof.Rows.callWith_builtin1 (thn (ha pos pins s σ H _ I h) λus s1 ⟨vs,H1,I1,r1,q1⟩=>hc pins s1 σ H1 vs us Q I1 r1 q1) he hpl
theorem jhe (hc:CallR X (.type T) r) (hg:Gl X x) (hm:X.mg x=none) (hv:By x=some (.type T)) (ha:PA X (e::es) t) (hn:x≠"__name__":=by decide) (hdb:(x==("__debug__":Str))=false:=by decide)
  (he:Ax (e::es) X.env=(false,eval e X.env)::Ax es X.env:=by rfl) (hpl:(D9 pos (Ax es X.env)).any (·.1)=false:=by rfl):PE X (.Call (.Name x p) (e::es) [] pos) (tCB r t):=by
 intro pins s σ H Q I h;refine wpAny_Call_Name_kw (jhk I hg hm hv ?_ hn hdb);exact Dj (thn (ha pos pins s σ H _ I h) λus s1 ⟨vs,H1,I1,r1,q1⟩=>hc pins s1 σ H1 vs us Q I1 r1 q1) he hpl
end
end L2
namespace HT
open PySem PyProof.Rows
section
variable {prog:Bm} {w:B3} {A:B8} {E:Ah->Ak->Prop} {s:Ak}
theorem cat_tup {t b:Addr} {vs ws:List Ah} {Q:Ah->Ak->Prop} (ht:IsTup s.heap t vs.toArray) (hb:IsTup s.heap b ws.toArray) (hv:vs≠[])
  (h1:ws=[]->Q (.ref t) s) (h2:ws≠[]->Q (.ref s.heap.objs.size) {s with heap:=s.heap.push {cls:=.type "tuple",data:=.seq (vs++ws).toArray}})
  (hsz:vs.length+ws.length<=Ay):Az (Ba prog w) A (El .Add (.ref t) (.ref b)) Q E s:=by
 obtain⟨⟨cls,dd,data,sl⟩,ho,hc,n,hd⟩:=id ht;obtain⟨⟨cls2,dd2,data2,sl2⟩,ho2,hc2,n2,hd2⟩:=id hb;simp only at hc hd hc2 hd2;subst hc hd hc2 hd2;have e:vs.toArray++ws.toArray=(vs++ws).toArray:=by simp
 by_cases hw:ws=[]
 ·exact concat_meets ⟨_,ho,rfl⟩ ⟨_,ho2,rfl⟩ noFill_tuple_add seq_tuple_add Fs Fl (E8 _ _)
   (tuple_addW1 t b vs.toArray ws.toArray n n2 dd dd2 sl sl2 (by simpa using hv) (by simp[hw])) ⟨ho,ho2,h1 hw⟩
 ·refine concat_meets ⟨_,ho,rfl⟩ ⟨_,ho2,rfl⟩ noFill_tuple_add seq_tuple_add Fs Fl (E8 _ _)
   (tuple_addW2 t b vs.toArray ws.toArray n n2 dd dd2 sl sl2 (by simpa using hv) (by simpa using hw) (by rw[Av,Av];exact hsz)) ⟨ho,ho2,?_⟩
  rw[e];exact h2 hw
def sIx (n d:Nat):Option Int->Nat
 |none=>d
 |some v=>if v < 0 then(v+(n:Int)).toNat else min v.toNat n
theorem sIx_none (n d:Nat):sIx n d none=d:=rfl
theorem sIx_nat (n d k:Nat):sIx n d (some (k:Int))=min k n:=by
 show(if (k:Int) < 0 then((k:Int)+(n:Int)).toNat else min (k:Int).toNat n)=min k n;rw[if_neg (by omega),Bz]
theorem j0a (n d:Nat) (hd:d<=n) (o:Option Int):sIx n d o<=n:=by
 cases o with
 |none=>exact hd
 |some v =>
  show(if v < 0 then(v+(n:Int)).toNat else min v.toNat n)<=n;by_cases hv:v < 0
  ·rw[if_pos hv];omega
  ·rw[if_neg hv];exact Nat.min_le_right _ _
theorem js8 (v:Int) (n d:Nat):(if v < 0 then max (v+(n:Int)) 0 else min v (n:Int))=((sIx n d (some v):Nat):Int):=by
 show(if v < 0 then max (v+(n:Int)) 0 else min v (n:Int))=(((if v < 0 then(v+(n:Int)).toNat else min v.toNat n):Nat):Int);by_cases hv:v < 0
 ·simp only[if_pos hv];omega
 ·simp only[if_neg hv];omega
theorem jqb (lo hi:Option Int) (n:Nat):C9 lo hi 1 (n:Int)=(((sIx n 0 lo:Nat):Int),((sIx n n hi:Nat):Int)):=by
 have h1:¬((1:Int) < 0):=by omega
 unfold C9;simp only[h1,if_false];refine Prod.ext ?_ ?_
 ·cases lo with
  |none=>rfl
  |some v=>exact js8 v n 0
 ·cases hi with
  |none=>rfl
  |some v=>exact js8 v n n
theorem jpw (i j:Nat):Ci (i:Int) (j:Int) 1=j - i:=by
 unfold Ci;have h1:(1:Int) > 0:=by omega
 simp only[h1,if_true,Int.ediv_one]
 split<;>omega
theorem jje {v:Ah} {o:Option Int} {Q:Option Int->Ak->Prop} (p:IsPart v o) (h:Q o s):Az (Ba prog w) A (Builtin.Slice.slicePartIndex v) Q E s:=by
 cases p with
 |none=>exact slicePart_none h
 |int i t=>exact slicePart_int h
theorem jcu {sl:Addr} {vl vu:Ah} {lo hi:Option Int} {n:Nat} {Q:Int×Int×Nat->Ak->Prop} (hs:s.heap.IsSliceOf sl vl vu .none) (pl:IsPart vl lo) (pu:IsPart vu hi)
  (h:Q (((sIx n 0 lo:Nat):Int),1,sIx n n hi - sIx n 0 lo) s):Az (Ba prog w) A (Ei (.ref sl) (pure (n:Int))) Q E s:=by
 obtain⟨os,hos,hcs,hds⟩:=id hs;unfold Ei Builtin.Slice.sliceFields;refine Aa (Aa (B1 hos hds (x:=vl) rfl (Aa (B1 hos hds (x:=vu) rfl (Aa (B1 hos hds (x:=.none) rfl (Ai ?_)))))));refine Aa (slicePart_none ?_);show Az _ _ (if ((1:Int)==0)=true then _ else _) _ _ s;rw[if_neg (by decide)];refine Aa (jje pl (Aa (jje pu (Aa (Ai ?_)))));show Az _ _ (match C9 lo hi 1 (n:Int)with | (lo,hi)=>pure (lo,(1:Int),Ci lo hi 1)) _ _ s;rw[jqb lo hi n];show Az _ _ (pure (((sIx n 0 lo:Nat):Int),(1:Int),Ci ((sIx n 0 lo:Nat):Int) ((sIx n n hi:Nat):Int) 1)) _ _ s;rw[jpw];exact Ai h
theorem juj (xs:Array Ah) (i k:Nat):((B4 k).filterMap λ(m:Nat)=>xs[((i:Int)+(m:Int)*1).toNat]?).toArray=((xs.toList.drop i).take k).toArray:=by
 have e:(λ(m:Nat)=>xs[((i:Int)+(m:Int)*1).toNat]?)=λm=>xs[i+m]?:=by
  funext m
  have:((i:Int)+(m:Int)*1).toNat=i+m:=by omega
  rw[this]
 rw[e];have:=pick_run xs i k;rw[List.filterMap_map]at this;have e2:((λx=>xs[x]?) ∘ λx=>i+x)=λm=>xs[i+m]?:=rfl;rw[e2]at this;rw[this]
theorem getItem_tuple_cut {t sl:Addr} {items:Array Ah} {vl vu:Ah} {lo hi:Option Int} {Q:Ah->Ak->Prop} (ht:IsTup s.heap t items) (hs:s.heap.IsSliceOf sl vl vu .none) (pl:IsPart vl lo) (pu:IsPart vu hi)
  (hw:¬(sIx items.size 0 lo=0/\sIx items.size items.size hi=items.size))
  (h:Q (.ref s.heap.objs.size) {s with heap:=s.heap.push {cls:=.type "tuple",data:=.seq ((items.toList.drop (sIx items.size 0 lo)).take (sIx items.size items.size hi - sIx items.size 0 lo)).toArray}})
  (hsz:items.size<=Ay):Az (Ba prog w) A (getItem (.ref t) (.ref sl)) Q E s:=by
 have htake:sizeOk (.seq ((items.toList.drop (sIx items.size 0 lo)).take (sIx items.size items.size hi - sIx items.size 0 lo)).toArray):=by
  show((items.toList.drop (sIx items.size 0 lo)).take (sIx items.size items.size hi - sIx items.size 0 lo)).toArray.size<=Ay;rw[Av,Dv,E3,Co];omega
 have hj:sIx items.size items.size hi<=items.size:=j0a _ _ (Al _) hi;obtain⟨os,hos,hcs,hds⟩:=id hs;have hTs:s.TypeIs (.ref sl) "slice":=⟨os,hos,hcs⟩;unfold getItem
 try with_reducible refine C6 ?_
 first | refine Aa (Ai ?_) | skip
 refine Aa (wpAny_sequenceKey ht.typeIs (by decide) ?_);refine Aa (Bh (name:=Cg "__getitem__") ht.typeIs Cp
  (Bv Cp ht.typeIs entry_tuple_getitem ?_ (args_tuple_getitem _ _)))
 show Az _ _ (F5 (.ref t)>>=_) _ _ s;refine Aa (tupleItemsOf_ ht ?_);refine Aa (F7 hTs ?_);rw[if_pos (by decide)];refine Aa (jcu hs pl pu ?_);have hno:¬((((sIx items.size 0 lo:Nat):Int)==0&&(1:Int)==1&&(sIx items.size items.size hi - sIx items.size 0 lo)==items.size)=true):=by
  intro q;rw[A4,A4]at q;have q1:((sIx items.size 0 lo:Nat):Int)=0:=eq_of_beq q.1.1;have q2:sIx items.size items.size hi - sIx items.size 0 lo=items.size:=eq_of_beq q.2;exact hw ⟨by omega,by omega⟩
 show Az _ _ (if (((sIx items.size 0 lo:Nat):Int)==0&&(1:Int)==1&&(sIx items.size items.size hi - sIx items.size 0 lo)==items.size)=true then _ else _) _ _ s;rw[if_neg hno,juj]
 first
  |exact Aa (m:=Cm _) (Bg (Ai ⟨_,rfl,Ai h⟩) htake)
  |exact Aa (m:=Cm _) (Bg (Aa (Ai (Ai ⟨_,rfl,Ai h⟩))) htake)
  |exact Aa (Aa (m:=Cm _) (Bg (Ai (Ai ⟨_,rfl,Ai h⟩)) htake))
  |exact Aa (Aa (m:=Cm _) (Bg (Ai ⟨_,rfl,Ai h⟩) htake))
end
end HT
namespace L2
open PySem PySem.Spec PyProof.Rows
abbrev TO:=St->Hp->(Option Int->Hp->Prop)->Prop
def PO (X:Cx) (e:Option Expr) (t:TO):Prop :=
 ∀(pins:List (Addr×Obj)) (s:Ak) (σ:St) (H:Hp) (Q:Option Int->Hp->Prop),Inv X pins σ H s->t σ H Q ->
  Az (Ba X.prog X.w) X.A (evalPart e X.env) (λu s'=>∃o H',Inv X pins σ H' s'/\IsPart u o/\Q o H') X.xe s
def jqr:TO:=λ_ H Q=>Q none H
def jzn (t:TE):TO:=λσ H Q=>t σ H λx H1=>∃i,x=.int i/\Q (some i) H1
section
variable {X:Cx} {e:Expr} {te:TE} {lo hi:Option Expr} {tl th:TO} {pos p2:Pos}
theorem jrt:PO X none jqr:=by
 intro pins s σ H Q I h;rw[evalPart_none];exact Ai ⟨none,H,I,.none,h⟩
theorem jrs (h:PE X e te):PO X (some e) (jzn te):=by
 intro pins s σ H Q I hw;rw[evalPart_some];refine thn (h pins s σ H _ I hw) λu s1 ⟨x,H1,I1,r1,q1⟩=>?_;obtain⟨i,rfl,q⟩:=q1;obtain⟨t,rfl⟩:=r1;exact⟨some i,H1,I1,.int i t,q⟩
def SlR (X:Cx) (r:V->Option Int->Option Int->Hp->VK->Prop):Prop :=
 ∀(pins:List (Addr×Obj)) (s:Ak) (σ:St) (H:Hp) (x:V) (v vl vu:Ah) (lo hi:Option Int) (sl:Addr) (Q:VK),Inv X pins σ H s->RelV x v->s.heap.IsSliceOf sl vl vu .none->IsPart vl lo->IsPart vu hi->r x lo hi H Q ->
  ∃T id,typeLookup (.type T) "__getitem__"=pure (some (.builtin id))/\s.TypeIs v T/\Az (Ba X.prog X.w) X.A (getItem v (.ref sl)) (EP X pins σ Q) X.xe s
theorem SlR.or {r r':V->Option Int->Option Int->Hp->VK->Prop} (h:SlR X r) (h':SlR X r'):SlR X (λx lo hi H Q=>r x lo hi H Q\/r' x lo hi H Q):=by
 intro pins s σ H x v vl vu lo hi sl Q I rx hs pl pu q;rcases q with q | q
 ·exact h pins s σ H x v vl vu lo hi sl Q I rx hs pl pu q
 ·exact h' pins s σ H x v vl vu lo hi sl Q I rx hs pl pu q
def tSl (r:V->Option Int->Option Int->Hp->VK->Prop) (te:TE) (tl th:TO):TE:=λσ H Q=>te σ H λx H1=>tl σ H1 λl H2=>th σ H2 λu H3=>r x l u H3 Q
theorem joo {r:V->Option Int->Option Int->Hp->VK->Prop} (hr:SlR X r) (he:PE X e te) (hl:PO X lo tl) (hu:PO X hi th):PE X (.Subscript e (.Slice lo hi none p2) pos) (tSl r te tl th):=by
 intro pins s σ H Q I h;refine Subscript_ (thn (he pins s σ H _ I h) λv s1 ⟨x,H1,I1,r1,q1⟩=>?_);refine wpAny_Slice (thn (hl pins s1 σ H1 _ I1 q1) λvl s2 ⟨l,H2,I2,pl,q2⟩=>thn (hu pins s2 σ H2 _ I2 q2) λvu s3 ⟨u,H3,I3,pu,q3⟩=>?_);rw[evalPart_none];refine Ai ?_;have I4:Inv X pins σ H3 {s3 with heap:=s3.heap.push {cls:=.type "slice",data:=.fields #[vl,vu,.none]}}:=I3.kept (t':=s3.toks) λb ob q=>Ad _ q;obtain⟨T,id,hT,ht,hg⟩:=hr pins {s3 with heap:=s3.heap.push {cls:=.type "slice",data:=.fields #[vl,vu,.none]}} σ H3 x v vl vu l u s3.heap.objs.size Q I4 r1 (Heap.IsSliceOf.new ..) pl pu q3;show Az (Ba X.prog X.w) X.A (subscriptTail e (.Slice lo hi none p2) v (.ref s3.heap.objs.size)) (EP X pins σ Q) X.xe {s3 with heap:=s3.heap.push {cls:=.type "slice",data:=.fields #[vl,vu,.none]}};exact tail_any (ops:=[.ref s3.heap.objs.size,v]) ht hT hg (by with_unfolding_all rfl)
def cutV (xs:List V) (lo hi:Option Int):List V:=(xs.drop (HT.sIx xs.length 0 lo)).take (HT.sIx xs.length xs.length hi - HT.sIx xs.length 0 lo)
theorem jej (xs:List V) (lo hi:Option Int):(cutV xs lo hi).length<=xs.length:=by
 unfold cutV;rw[Dv,E3];omega
def rSlT (K:Aj):V->Option Int->Option Int->Hp->VK->Prop:=λx lo hi H Q=>∃a xs,x=.ref a/\SqT K H a xs /\
 ¬(HT.sIx xs.length 0 lo=0/\HT.sIx xs.length xs.length hi=xs.length)/\∀p,H p=none->Q (.ref p) (upd H p (.tup (cutV xs lo hi)))
theorem sl_tup:SlR X (rSlT X.K):=by
 intro pins s σ H x v vl vu lo hi sl Q I rx hs pl pu h;obtain⟨a,xs,rfl,hx,hw,q⟩:=h;cases rx;obtain⟨its,r,ht,hz⟩:=I.tuple hx;have hlen:its.toArray.size=xs.length:=by rw[Av];exact r.length.symm
 refine⟨"tuple",_,PyProof.Rows.slot_tuple_getitem.lookup,ht.typeIs,?_⟩;refine HT.getItem_tuple_cut ht hs pl pu (by rw[hlen];exact hw) ?_ (by rw[hlen];exact hz);rw[hlen];refine⟨.ref s.heap.objs.size,_,I.laid (t':=s.toks) (o:=.tup (cutV xs lo hi)) (λb ob q=>Ad _ q) (Al _) ?_,rfl,q _ (I.hok.fresh (Al _))⟩;exact⟨A9 (jej xs lo hi) hz,_,(r.drop (HT.sIx xs.length 0 lo)).take (HT.sIx xs.length xs.length hi - HT.sIx xs.length 0 lo),IsTupP.new _ _⟩
def j0h (K:Aj):R2:=λx y H Q=>∃a b xs ys,x=.ref a/\y=.ref b/\SqT K H a xs/\SqT K H b ys/\xs≠[]/\xs.length+ys.length<=Ay /\
 (ys=[]->Q (.ref a) H)/\(ys≠[]->∀p,H p=none->Q (.ref p) (upd H p (.tup (xs++ys))))
theorem Vals.nil_iff {xs:List V} {us:List Ah} (r:Vals xs us):us=[]↔xs=[]:=by
 cases r with
 |nil=>simp
 |cons _ _=>simp
theorem op_catT:OpR X (El .Add) (j0h X.K):=by
 intro pins s σ H x y v u Q I rx ry h;obtain⟨a,b,xs,ys,rfl,rfl,ha,hb,hx,hz,q1,q2⟩:=h;cases rx;cases ry;obtain⟨its,r1,p1,_⟩:=I.tuple ha;obtain⟨its2,r2,p2,_⟩:=I.tuple hb;refine HT.cat_tup p1 p2 (λz=>hx (r1.nil_iff.mp z)) (λz=>⟨.ref a,H,I,rfl,q1 (r2.nil_iff.mp z)⟩) (λz=>?_) (by rw[<-r1.length,<-r2.length];exact hz);refine⟨.ref s.heap.objs.size,_,I.laid (t':=s.toks) (o:=.tup (xs++ys)) (λb ob q=>Ad _ q) (Al _) ?_,rfl,q2 (λw=>z (r2.nil_iff.mpr w)) _ (I.hok.fresh (Al _))⟩;exact⟨by rw[Ap];exact hz,_,r1.append r2,IsTupP.new _ _⟩
end
def ixN (n:Nat) (i:Int):Option Nat:=if 0<=i then(if i < n then some i.toNat else none)else if -(n:Int)<=i then some (i+n).toNat else none
def atI {α:Type} (xs:List α) (i:Int):Option α:=(ixN xs.length i).bind λj=>xs[j]?
theorem jsm {n:Nat} {i:Int} {j:Nat} (h:ixN n i=some j):seqIndex? i n=some j/\j < n/\-(n:Int)<=i/\i < n:=by
 unfold ixN at h;by_cases h0:0<=i
 ·rw[if_pos h0]at h;by_cases h1:i < n
  ·rw[if_pos h1]at h;have e:i.toNat=j:=Bj h;exact⟨by rw[seqIndex_of h0 h1,e],by omega,by omega,h1⟩
  ·rw[if_neg h1]at h;cases h
 ·rw[if_neg h0]at h;by_cases h1:-(n:Int)<=i
  ·rw[if_pos h1]at h;have e:(i+n).toNat=j:=Bj h;exact⟨by rw[seqIndex_neg (by omega) h1,e],by omega,h1,by omega⟩
  ·rw[if_neg h1]at h;cases h
theorem jn1 {α:Type} {xs:List α} {i:Int} {v:α} (h:atI xs i=some v):∃j,seqIndex? i xs.length=some j/\xs[j]?=some v/\j < xs.length/\-(xs.length:Int)<=i/\i < xs.length:=by
 unfold atI at h;cases e:ixN xs.length i with
 |none=>rw[e]at h;cases h
 |some j =>
  rw[e]at h;obtain⟨h1,h2,h3,h4⟩:=jsm e;exact⟨j,h1,h,h2,h3,h4⟩
theorem jbc {α:Type} {xs:List α} {j:Nat} {v:α} (h:xs[j]?=some v):atI xs (j:Int)=some v:=by
 have hj:j < xs.length:=(A6.mp h).1;have e:ixN xs.length (j:Int)=some j:=by
  unfold ixN;rw[if_pos (by omega),if_pos (by omega)];simp
 unfold atI;rw[e];exact h
def jk8 (b:Expr):Prop:=∀o i,subscripted b false o i=operate [o,i] (getItem o i)
def IxR (X:Cx) (r:R2):Prop :=
 ∀(value slice:Expr) (pins:List (Addr×Obj)) (s:Ak) (σ:St) (H:Hp) (x y:V) (v u:Ah) (Q:VK),Inv X pins σ H s->RelV x v->RelV y u->r x y H Q ->
  subscripted slice false v u=operate [v,u] (getItem v u)->Az (Ba X.prog X.w) X.A (subscriptTail value slice v u) (EP X pins σ Q) X.xe s
def MtR (X:Cx) (id:String) (r:V->List V->Hp->VK->Prop):Prop :=
 ∀(pins:List (Addr×Obj)) (s:Ak) (σ:St) (H:Hp) (x:V) (xs:List V) (v:Ah) (us:List Ah) (Q:VK),Inv X pins σ H s->RelV x v->Vals xs us->r x xs H Q ->
  Az (Ba X.prog X.w) X.A (call (.builtin id) (v::us)) (EP X pins σ Q) X.xe s
section
variable {X:Cx} {a b:Expr} {ta tb:TE} {pos:Pos}
theorem IxR.or {r r':R2} (h:IxR X r) (h':IxR X r'):IxR X (λx y H Q=>r x y H Q\/r' x y H Q):=by
 intro value slice pins s σ H x y v u Q I rx ry q hs;rcases q with q | q
 ·exact h value slice pins s σ H x y v u Q I rx ry q hs
 ·exact h' value slice pins s σ H x y v u Q I rx ry q hs
theorem jgp {r:R2} (hr:IxR X r) (ha:PE X a ta) (hb:PE X b tb) (hs:jk8 b):PE X (.Subscript a b pos) (tOp r ta tb):=by
 intro pins s σ H Q I h;exact Subscript_ (binT ha hb I h λv u s2 x y H2 I2 rx ry q=>hr a b pins s2 σ H2 x y v u Q I2 rx ry q (hs _ _))
def rIxL (K:Aj):R2:=λx y H Q=>∃p xs i v,x=.ref p/\y=.int i/\SqL K H p xs/\atI xs i=some v/\Q v H
def rIxT (K:Aj):R2:=λx y H Q=>∃p xs i v,x=.ref p/\y=.int i/\SqT K H p xs/\atI xs i=some v/\Q v H
def rIxS:R2:=λx y H Q=>∃z i c,x=.str z/\y=.int i/\z.length<=Ay/\atI z.cps.toList i=some c/\Q (.str ⟨#[c]⟩) H
theorem ix_list:IxR X (rIxL X.K):=by
 intro value slice pins s σ H x y v u Q I rx ry h hs;obtain⟨p,xs,i,z,rfl,rfl,hq,he,q⟩:=h;cases rx;obtain⟨t,rfl⟩:=ry;obtain⟨its,r,pl,hz⟩:=I.list hq;obtain⟨j,h1,h2,h3,h4,h5⟩:=jn1 he;obtain⟨w,ew,rw'⟩:=r.get h2;have hl:=r.length;have hn:=jjk;have fin:EP X pins σ Q w s:=⟨z,H,I,rw',q⟩;by_cases h0:0<=i
 ·have hj:i.toNat=j:=by
   rw[seqIndex_of h0 h5]at h1;exact Bj h1
  exact item_listR pl.isList h0 (by omega) (by rw[hj];simpa using ew) fin hs
 ·have hj:(i+(its.toArray.size:Int)).toNat=j:=by
   rw[seqIndex_neg (by omega) h4]at h1;rw[Av,<-hl];exact Bj h1
  exact subscriptTail_builtinR (x:=w) pl.isList.typeIs slot_list_getitem.lookup
   (wpAny_getItem_list_neg (Q:=λr s'=>r=w/\EP X pins σ Q r s') pl.isList (by omega) (by rw[Av]<;>omega) (by omega) (by rw[hj];simpa using ew) ⟨rfl,fin⟩) hs
theorem ix_tup:IxR X (rIxT X.K):=by
 intro value slice pins s σ H x y v u Q I rx ry h hs;obtain⟨p,xs,i,z,rfl,rfl,hq,he,q⟩:=h;cases rx;obtain⟨t,rfl⟩:=ry;obtain⟨its,r,pl,hz⟩:=I.tuple hq;obtain⟨j,h1,h2,h3,h4,h5⟩:=jn1 he;obtain⟨w,ew,rw'⟩:=r.get h2;have hl:=r.length;have hn:=jjk;have fin:EP X pins σ Q w s:=⟨z,H,I,rw',q⟩;exact subscriptTail_builtinR (x:=w) pl.typeIs slot_tuple_getitem.lookup
  (getItem_tuple (j:=j) (Q:=λr s'=>r=w/\EP X pins σ Q r s') pl (by omega) (by omega) (by rw[Av,<-hl];exact h1) (by simpa using ew) ⟨rfl,fin⟩) hs
theorem j1n:IxR X rIxS:=by
 intro value slice pins s σ H x y v u Q I rx ry h hs;obtain⟨z,i,c,rfl,rfl,hz,he,q⟩:=h;obtain⟨t,rfl⟩:=rx;obtain⟨t',rfl⟩:=ry;obtain⟨j,h1,h2,h3,h4,h5⟩:=jn1 he;have hl:z.cps.toList.length=z.length:=by simp[Str.length]
 rw[hl]at h1 h4 h5;have hn:=jjk;exact tail_any (typeIs_str s z t) slot_str_getitem.lookup (getItem_str (c:=c) (by
  have e1:decide (i < -(2 ^ 63:Int))=false:=decide_eq_false (by omega);have e2:decide (i ≥ 2 ^ 63)=false:=decide_eq_false (by omega);rw[e1,e2,Bool.or_false]) (by rw[h1];simpa using h2) ⟨.str ⟨#[c]⟩,H,I.tok _,⟨_,rfl⟩,q⟩) hs
def rIx (K:Aj):R2:=λx y H Q=>rIxL K x y H Q\/rIxT K x y H Q\/rIxS x y H Q
theorem jsl:IxR X (rIx X.K):=ix_list.or (ix_tup.or j1n)
theorem jpy (its:List Ah) (n j:Nat) (u:Ah):Cq (·.setIfInBounds j u) {cls:=.type "list",data:=.seq its.toArray n}={ cls:=.type "list",data:=.seq (its.set j u).toArray n}:=by
 simp[Cq]
theorem Inv.lst {pins:List (Addr×Obj)} {σ:St} {H:Hp} {s:Ak} {p:Addr} {xs:List V} (I:Inv X pins σ H s) (h:H p=some (.lst xs)) :
  ∃(its:List Ah) (n:Nat),Vals xs its/\s.heap.get? p=some {cls:=.type "list",data:=.seq its.toArray n}/\xs.length<=Ay:=by
 obtain⟨z,its,n,r,e⟩:=I.hok p _ h;exact⟨its,n,r,e,z⟩
theorem Inv.lstUpd {pins:List (Addr×Obj)} {σ:St} {H:Hp} {s:Ak} {p:Addr} {xs ys:List V} {its its':List Ah} {n n':Nat} {f:Obj->Obj} (I:Inv X pins σ H s) (h:H p=some (.lst xs))
  (ho:s.heap.get? p=some {cls:=.type "list",data:=.seq its.toArray n}) (hf:f {cls:=.type "list",data:=.seq its.toArray n}={ cls:=.type "list",data:=.seq its'.toArray n'}) (r:Vals ys its') (hz:ys.length<=Ay) (t:Nat) :
  Inv X pins σ (upd H p (.lst ys)) {s with heap:=s.heap.update p f,toks:=t}:=by
 have e:(s.heap.update p f).get? p=some {cls:=.type "list",data:=.seq its'.toArray n'}:=by
  rw[Bq f ho (by rw[hf]<;>rfl),hf]
 refine I.write (x:=p) (e:=p) (by rw[h];trivial) (.inl rfl) (λb u hb q=>(Dp _ _ (Ne.symm hb)).trans q) ⟨_,e⟩ ?_;exact⟨hz,its',n',r,e⟩
def j0g:V->V->V->Hp->(Hp->Prop)->Prop:=λo i v H Q=>∃p xs k j,o=.ref p/\i=.int k/\H p=some (.lst xs)/\ixN xs.length k=some j/\Q (upd H p (.lst (xs.set j v)))
theorem jg0:PSet X j0g:=by
 intro pins s σ H o i v ov iv u Q I ro ri rv h;obtain⟨p,xs,k,j,rfl,rfl,hp,hj,q⟩:=h;cases ro;obtain⟨t,rfl⟩:=ri;obtain⟨its,n,r,ho,hz⟩:=I.lst hp;obtain⟨h1,h2,h3,h4⟩:=jsm hj;have hl:=r.length;have hn:=jjk;have I':Inv X pins σ (upd H p (.lst (xs.set j v))) {s with heap:=s.heap.update p (Cq (·.setIfInBounds j u))} :=
  I.lstUpd hp ho (jpy its n j u) (r.set rv j) (by rw[De];exact hz) s.toks
 by_cases h0:0<=k
 ·have hk:k.toNat=j:=by
   rw[seqIndex_of h0 h4]at h1;exact Bj h1
  exact PySem.W.ki_setAt ho h0 (by omega) (by rw[Av,<-hl];exact h4) (by rw[hk];exact⟨_,I',q⟩)
 ·have hk:(k+(its.toArray.size:Int)).toNat=j:=by
   rw[seqIndex_neg (by omega) h3]at h1;rw[Av,<-hl];exact Bj h1
  exact PySem.W.ki_setBack ho (by omega) (by rw[Av,<-hl];exact h3) (by omega) (by rw[hk];exact⟨_,I',q⟩)
theorem jlv (lo hi:Option Int) (n:Nat):(Gi lo hi none n).1=((HT.sIx n 0 lo:Nat):Int)/\(Gi lo hi none n).2.1=((HT.sIx n n hi:Nat):Int)/\(Gi lo hi none n).2.2=1:=by
 refine⟨?_,?_,rfl⟩
 ·cases lo with
  |none=>simp[Gi,HT.sIx]
  |some i =>
   simp only[Gi,HT.sIx,Option.getD_none,show(1:Int) > 0 by decide,if_true];by_cases h:i < 0
   ·simp only[h,if_true]<;>omega
   ·simp only[h,if_false]<;>omega
 ·cases hi with
  |none=>simp[Gi,HT.sIx]
  |some i =>
   simp only[Gi,HT.sIx,Option.getD_none,show(1:Int) > 0 by decide,if_true];by_cases h:i < 0
   ·simp only[h,if_true]<;>omega
   ·simp only[h,if_false]<;>omega
theorem jj7 (its:List Ah) (lo hi:Option Int):slicePick its.toArray lo hi none=((its.drop (HT.sIx its.length 0 lo)).take (HT.sIx its.length its.length hi - HT.sIx its.length 0 lo)).toArray:=by
 obtain⟨h1,h2,h3⟩:=jlv lo hi its.toArray.size;unfold slicePick;rw[h1,h2,h3];simp only[sliceRange_one,pick_run,Av]<;>rfl
def rSlL (K:Aj):V->Option Int->Option Int->Hp->VK->Prop:=λx lo hi H Q=>∃a xs,x=.ref a/\SqL K H a xs/\∀p,H p=none->Q (.ref p) (upd H p (.lst (cutV xs lo hi)))
theorem jxm:SlR X (rSlL X.K):=by
 intro pins s σ H x v vl vu lo hi sl Q I rx hs pl pu h;obtain⟨a,xs,rfl,hx,q⟩:=h;cases rx;obtain⟨its,r,ht,hz⟩:=I.list hx;have hlen:=r.length;refine⟨"list",_,slot_list_getitem.lookup,ht.isList.typeIs,?_⟩;refine wpAny_getItem_list_slice ht.isList hs pl pu .none (by simp) ?_ (by rw[Av]<;>omega);rw[jj7,<-hlen];refine⟨.ref s.heap.objs.size,_,I.laid (t':=s.toks) (o:=.lst (cutV xs lo hi)) (λb ob q=>Ad _ q) (Al _) ?_,rfl,q _ (I.hok.fresh (Al _))⟩;exact⟨A9 (jej xs lo hi) hz,_,0,(r.drop (HT.sIx xs.length 0 lo)).take (HT.sIx xs.length xs.length hi - HT.sIx xs.length 0 lo),As _ rfl⟩
def ji4:V->Bool
 |.non=>true
 |.bl _=>true
 |.int _=>true
 |.str _=>true
 |_=>false
def eqV:V->V->Bool
 |.non,.non=>true
 |.bl a,.bl b=>a==b
 |.bl a,.int b=>(if a then 1 else 0)==b
 |.int a,.bl b=>a==(if b then 1 else 0)
 |.int a,.int b=>a==b
 |.str a,.str b=>a==b
 |_,_=>false
theorem j2c {A:B8} {s:Ak} {y x:V} {u v:Ah} (ry:RelV y u) (rx:RelV x v) (fy:ji4 y=true) (fx:ji4 x=true):SeqAt.EqAt A s u v (eqV y x):=by
 cases y with
 |non =>
  cases ry;cases x with
  |non=>cases rx;exact SeqAt.EqAt.same _
  |bl b=>cases rx;exact SeqAt.EqAt.none_bool b
  |int b=>obtain⟨t,rfl⟩:=rx;exact SeqAt.EqAt.none_int b t
  |str b=>obtain⟨t,rfl⟩:=rx;exact SeqAt.EqAt.none_str b t
  |_=>exact absurd (show false=true from fx) An
 |bl a =>
  cases ry;cases x with
  |non=>cases rx;exact SeqAt.EqAt.bool_none a
  |bl b=>cases rx;exact SeqAt.EqAt.bool_bool a b
  |int b=>obtain⟨t,rfl⟩:=rx;exact SeqAt.EqAt.bool_int a b t
  |str b=>obtain⟨t,rfl⟩:=rx;exact SeqAt.EqAt.bool_str a b t
  |_=>exact absurd (show false=true from fx) An
 |int a =>
  obtain⟨t',rfl⟩:=ry;cases x with
  |non=>cases rx;exact SeqAt.EqAt.int_none a t'
  |bl b=>cases rx;exact SeqAt.EqAt.int_bool a t' b
  |int b=>obtain⟨t,rfl⟩:=rx;exact SeqAt.EqAt.int_int a t' b t
  |str b=>obtain⟨t,rfl⟩:=rx;exact SeqAt.EqAt.int_str a t' b t
  |_=>exact absurd (show false=true from fx) An
 |str a =>
  obtain⟨t',rfl⟩:=ry;cases x with
  |non=>cases rx;exact SeqAt.EqAt.str_none a t'
  |bl b=>cases rx;exact SeqAt.EqAt.str_bool a t' b
  |int b=>obtain⟨t,rfl⟩:=rx;exact SeqAt.EqAt.str_int a t' b t
  |str b=>obtain⟨t,rfl⟩:=rx;exact SeqAt.EqAt.str_str a t' b t
  |_=>exact absurd (show false=true from fx) An
 |_=>exact absurd (show false=true from fy) An
def eqU (x:V) (u:Ah):Bool:=match u with
 |.none=>eqV .non x
 |.bool b=>eqV (.bl b) x
 |.int i _=>eqV (.int i) x
 |.str z _=>eqV (.str z) x
 |_=>false
theorem jwj {x y:V} {u:Ah} (r:RelV y u) (f:ji4 y=true):eqU x u=eqV y x:=by
 cases y with
 |non=>cases r;rfl
 |bl b=>cases r;rfl
 |int i=>obtain⟨t,rfl⟩:=r;rfl
 |str z=>obtain⟨t,rfl⟩:=r;rfl
 |_=>exact absurd (show false=true from f) An
theorem jh5 {x:V}:∀{xs:List V} {us:List Ah},Vals xs us->xs.all ji4=true->us.any (eqU x)=xs.any λy=>eqV y x
 |_,_,.nil,_=>rfl
 |y::xs,u::us,.cons r t,f=>by
  rw[Dt,A4]at f;rw[List.any_cons,List.any_cons,jwj r f.1,jh5 t f.2]
theorem jeu {A:B8} {s:Ak} {x:V} {v:Ah} (rx:RelV x v) (fx:ji4 x=true):∀{xs:List V} {us:List Ah},Vals xs us->xs.all ji4=true->∀u∈us,SeqAt.EqAt A s u v (eqU x u)
 |_,_,.nil,_=>λu hu=>by cases hu
 |y::xs,u::us,.cons r t,f=>λu' hu=>by
  rw[Dt,A4]at f;rcases Am.mp hu with rfl | hu
  ·rw[jwj r f.1];exact j2c r rx f.1 fx
  ·exact jeu rx fx t f.2 u' hu
def inV (x:V) (xs:List V):Bool:=xs.any λy=>eqV y x
def rIn (K:Aj) (neg:Bool):R2:=λx y H Q=>∃p xs,y=.ref p/\(SqL K H p xs\/SqT K H p xs)/\ji4 x=true/\xs.all ji4=true/\Q (.bl (if neg then !inV x xs else inV x xs)) H
theorem jr5:OpR X (Bk .In) (rIn X.K false):=by
 intro pins s σ H x y v u Q I rx ry h;obtain⟨p,xs,rfl,hq,fx,fs,q⟩:=h;cases ry;rcases hq with hq | hq
 ·obtain⟨its,r,pl,hz⟩:=I.list hq;refine SeqAt.in_listAt (eqU x) pl.isList (λw hw=>jeu rx fx r fs w (by simpa using hw)) ⟨.bl _,H,I,rfl,?_⟩;rw[show its.toArray.any (eqU x)=its.any (eqU x) by simp,jh5 r fs];exact q
 ·obtain⟨its,r,pl,hz⟩:=I.tuple hq;refine SeqAt.in_tupleAt (eqU x) pl (λw hw=>jeu rx fx r fs w (by simpa using hw)) ⟨.bl _,H,I,rfl,?_⟩;rw[show its.toArray.any (eqU x)=its.any (eqU x) by simp,jh5 r fs];exact q
theorem jl5:OpR X (Bk .NotIn) (rIn X.K true):=by
 intro pins s σ H x y v u Q I rx ry h;obtain⟨p,xs,rfl,hq,fx,fs,q⟩:=h;cases ry;rcases hq with hq | hq
 ·obtain⟨its,r,pl,hz⟩:=I.list hq;refine SeqAt.notIn_listAt (eqU x) pl.isList (λw hw=>jeu rx fx r fs w (by simpa using hw)) ⟨.bl _,H,I,rfl,?_⟩;rw[show its.toArray.any (eqU x)=its.any (eqU x) by simp,jh5 r fs];exact q
 ·obtain⟨its,r,pl,hz⟩:=I.tuple hq;refine SeqAt.notIn_tupleAt (eqU x) pl (λw hw=>jeu rx fx r fs w (by simpa using hw)) ⟨.bl _,H,I,rfl,?_⟩;rw[show its.toArray.any (eqU x)=its.any (eqU x) by simp,jh5 r fs];exact q
theorem jl4:OpR X (Bk .NotIn) (λx y H Q=>∃i j,x=.str i/\y=.str j/\Q (.bl (!(!(Gj j i 0 j.length 1).isEmpty))) H):=by
 intro pins s σ H x y v u Q I rx ry h;obtain⟨i,j,rfl,rfl,q⟩:=h;obtain⟨t,rfl⟩:=rx;obtain⟨t',rfl⟩:=ry;exact notIn_str ⟨.bl _,H,I,rfl,q⟩
theorem jb7:CallR X (.builtin "len") (λxs H Q=>∃p ys,xs=[.ref p]/\(SqL X.K H p ys\/SqT X.K H p ys)/\Q (.int ys.length) H):=by
 intro pins s σ H xs us Q I r h;obtain⟨p,ys,rfl,hq,q⟩:=h;obtain⟨u,rfl,rx⟩:=jin r;cases rx;have hn:=jjk;rcases hq with hq | hq
 ·obtain⟨its,r',pl,hz⟩:=I.list hq;have hlen:=r'.length;exact Calls.call_len_list pl.isList (by simp only[Av]<;>omega) ⟨.int ys.length,H,I.tok _,⟨s.toks+1,by rw[Av,hlen]⟩,q⟩
 ·obtain⟨its,r',pl,hz⟩:=I.tuple hq;have hlen:=r'.length;exact len_tuple pl (by simp only[Av]<;>omega) ⟨.int ys.length,H,I.tok _,⟨s.toks+1,by rw[Av,hlen]⟩,q⟩
theorem call_len_str:CallR X (.builtin "len") (λxs H Q=>∃z,xs=[.str z]/\z.length<=Ay/\Q (.int z.length) H):=by
 intro pins s σ H xs us Q I r h;obtain⟨z,rfl,hz,q⟩:=h;obtain⟨u,rfl,t,rfl⟩:=jin r;have hn:=jjk;exact len_str (by omega) ⟨.int z.length,H,I.tok _,⟨_,rfl⟩,q⟩
theorem CallR.or {f:Ah} {r r':List V->Hp->VK->Prop} (h:CallR X f r) (h':CallR X f r'):CallR X f (λxs H Q=>r xs H Q\/r' xs H Q):=by
 intro pins s σ H xs us Q I rs q;rcases q with q | q
 ·exact h pins s σ H xs us Q I rs q
 ·exact h' pins s σ H xs us Q I rs q
theorem jmn:CallR X (.type "list") (λxs H Q=>∃p ys,xs=[.ref p]/\(SqL X.K H p ys\/SqT X.K H p ys)/\∀l,H l=none->Q (.ref l) (upd H l (.lst ys))):=by
 intro pins s σ H xs us Q I r h;obtain⟨p,ys,rfl,hq,q⟩:=h;obtain⟨u,rfl,rx⟩:=jin r;cases rx;have fin:∀(its:List Ah),Vals ys its->ys.length<=Ay->∀(h':Heap) (c':Nat),(∀b o',s.heap.get? b=some o'->h'.get? b=some o') ->
   h'.get? s.heap.objs.size=some {cls:=.type "list",dict:=none,data:=.seq its.toArray c',slots:=#[]}->EP X pins σ Q (.ref s.heap.objs.size) {s with heap:=h'}:=λits r' hz h' c' kp e =>
  ⟨.ref s.heap.objs.size,_,I.laid (t':=s.toks) kp (Al _) (show ObjOk X.prog X.w _ h' _ (.lst ys)from⟨hz,its,c',r',e⟩),rfl,q _ (I.hok.fresh (Al _))⟩
 rcases hq with hq | hq
 ·obtain⟨its,r',pl,hz⟩:=I.list hq;have hlen:=r'.length;obtain⟨o,ho,hc,n,hd⟩:=pl.isList;exact call_list_seq p (.inl rfl) ho hc hd (λh' c' kp e=>fin its r' hz h' c' kp e) (by simp only[Av]<;>omega)
 ·obtain⟨its,r',pl,hz⟩:=I.tuple hq;have hlen:=r'.length;obtain⟨o,ho,hc,n,hd⟩:=pl;exact call_list_seq p (.inr rfl) ho hc hd (λh' c' kp e=>fin its r' hz h' c' kp e) (by simp only[Av]<;>omega)
theorem jku:CallR X (.type "tuple") (λxs H Q=>∃p ys,xs=[.ref p]/\((SqL X.K H p ys/\∀l,H l=none->Q (.ref l) (upd H l (.tup ys)))\/(SqT X.K H p ys/\Q (.ref p) H))):=by
 intro pins s σ H xs us Q I r h;obtain⟨p,ys,rfl,h⟩:=h;obtain⟨u,rfl,rx⟩:=jin r;cases rx;rcases h with⟨hq,q⟩ | ⟨hq,q⟩
 ·obtain⟨its,r',pl,hz⟩:=I.list hq;have hlen:=r'.length;refine call_tuple_list pl.isList (λh' kp=>?_) (by simp only[Av]<;>omega);have I1:Inv X pins σ H {s with heap:=h'}:=I.kept (t':=s.toks) kp;have I2:Inv X pins σ (upd H h'.objs.size (.tup ys)) {s with heap:=h'.push {cls:=.type "tuple",data:=.seq its.toArray}} :=
   I1.laid (t':=s.toks) (λb o e=>Ad _ e) (Al _) (show ObjOk X.prog X.w _ _ _ (.tup ys)from⟨hz,its,r',IsTupP.new _ _⟩)
  exact⟨.ref h'.objs.size,_,I2,rfl,q _ (I1.hok.fresh (Al _))⟩
 ·obtain⟨its,r',pl,hz⟩:=I.tuple hq;exact call_tuple_same pl ⟨.ref p,H,I,rfl,q⟩
def tyV (K:Aj) (T:String) (x:V) (H:Hp):Prop:=match x with
 |.str _=>T="str"
 |.int _=>T="int"
 |.ref p=>(T="list"/\∃xs,SqL K H p xs)\/(T="tuple"/\∃o,K.lookup p=some o/\o.cls=.type "tuple"/\o.dict=none) \/
   (T="dict"/\((∃kvs,H p=some (.dK kvs))\/∃kvs,H p=some (.dT kvs)))\/(T="set"/\∃S n,H p=some (.set S n))
 |_=>False
theorem jzj {pins:List (Addr×Obj)} {σ:St} {H:Hp} {s:Ak} {T:String} {x:V} {v:Ah} (I:Inv X pins σ H s) (r:RelV x v) (ty:tyV X.K T x H) :
  s.TypeIs v T/\∀a,v=.ref a->∃ob,s.heap.get? a=some ob/\ob.dict=none:=by
 cases x with
 |str z =>
  obtain⟨t,rfl⟩:=r;cases(show T="str" from ty);exact⟨typeIs_str s z t,λ_ e=>nomatch e⟩
 |int i =>
  obtain⟨t,rfl⟩:=r;cases(show T="int" from ty);exact⟨typeIs_int s i t,λ_ e=>nomatch e⟩
 |ref p =>
  cases r;rcases ty with⟨rfl,xs,hq⟩ | ⟨rfl,o,hk,hc,hd⟩ | ⟨rfl,hk⟩ | ⟨rfl,S,n,hk⟩
  ·obtain⟨its,_,pl,_⟩:=I.list hq;refine⟨pl.isList.typeIs,λa e=>?_⟩;cases e;obtain⟨o,n,e,c,hd,_⟩:=pl;exact⟨o,e,hd⟩
  ·refine⟨⟨o,I.kIn p o hk,hc⟩,λa e=>?_⟩;cases e;exact⟨o,I.kIn _ o hk,hd⟩
  ·have z:∃o,s.heap.get? p=some o/\o.ExactDict:=by
    rcases hk with⟨kvs,hk⟩ | ⟨kvs,hk⟩
    ·obtain⟨_,_,_,_,o,_,_,e,ex,_⟩:=I.hok p _ hk;exact⟨o,e,ex⟩
    ·obtain⟨_,_,_,_,o,_,_,e,ex,_⟩:=I.hok p _ hk;exact⟨o,e,ex⟩
   obtain⟨o,e,ex⟩:=z;refine⟨⟨o,e,ex.1⟩,λa e2=>?_⟩;cases e2;exact⟨o,e,ex.2.1⟩
  ·obtain⟨o,_,_,_,e,ex,_⟩:=I.hok p _ hk;refine⟨⟨o,e,ex.1⟩,λa e2=>?_⟩;cases e2;exact⟨o,e,ex.2.1⟩
 |_=>exact False.elim ty
def tBM (K:Aj) (T:String) (r:V->List V->Hp->VK->Prop) (to:TE) (t:TA):TE:=λσ H Q=>to σ H λx H1=>tyV K T x H1/\t σ H1 λxs H2=>r x xs H2 Q
variable {o e:Expr} {es:List Expr} {to:TE} {t:TA} {name:Str} {apos cpos:Pos} {T id:String} {r:V->List V->Hp->VK->Prop}
theorem jx3 (pa:PlainAttrs T) (slot:Slot T name id) (hty:typeOf (.builtin id)=pure (.type "method_descriptor")) (hm:MtR X id r) (ho:PE X o to) (ha:PA X (e::es) t)
  (hbase:attributeBase o name X.env (eval o X.env)=eval o X.env:=by rfl)
  (hfew:((D9 cpos (Ax (e::es) X.env)).all (λx=>!x.1)&&(backToKw cpos (keywordEach [] X.env)).all (λx=>x.1.isSome)
   && decide ((e::es).length+([]:List Keyword).length+(if ([]:List Keyword).isEmpty then 0 else 1) < 30))=true:=by rfl)
  (hline:(apos.endLine==cpos.line)=true:=by rfl) (hs:Ax (e::es) X.env=(false,eval e X.env)::Ax es X.env:=by rfl) (hplain:(D9 cpos (Ax es X.env)).any (·.1)=false:=by rfl) :
  PE X (.Call (.Attribute o name apos) (e::es) [] cpos) (tBM X.K T r to t):=by
 intro pins s σ H Q I h;refine wpAny_Call_method_late hbase hfew hline rfl (thn (ho pins s σ H _ I h) λv s1 ⟨x,H1,I1,r1,ty,q1⟩=>?_);obtain⟨h1,h2⟩:=jzj I1 r1 ty;refine⟨T,id,pa,slot,hty,h1,h2,?_⟩;have hA:=ha cpos pins s1 σ H1 _ I1 q1;rw[hs]at hA ⊢;refine Calls.callWith_builtin (by show(false || (D9 cpos (Ax es X.env)).any (·.1))=false;rw[hplain]<;>rfl) (Calls.evalArgs_plain ?_);exact thn hA λus s2 ⟨vs,H2,I2,r2,q2⟩=>hm pins s2 σ H2 x vs v us Q I2 r1 r2 q2
end
def MtM (X:Cx) (id:String) (r:V->List V->Hp->VK->Prop):Prop :=
 ∀(pins:List (Addr×Obj)) (s:Ak) (σ:St) (H:Hp) (x:V) (xs:List V) (v:Ah) (us:List Ah) (Q:VK),Inv X pins σ H s->RelV x v->Vals xs us->r x xs H Q ->
  Az (Ba X.prog X.w) X.A (call (.builtin id) (v::us)) (EP X pins σ Q) X.xe s
theorem Vals.one:∀{x:V} {us:List Ah},Vals [x] us->∃u,us=[u]/\RelV x u
 |_,_,.cons r .nil=>⟨_,rfl,r⟩
theorem Vals.zero:∀{us:List Ah},Vals [] us->us=[]
 |_,.nil=>rfl
theorem Vals.reverse {xs:List V} {us:List Ah} (h:Vals xs us):Vals xs.reverse us.reverse:=by
 induction h with
 |nil=>exact .nil
 |cons r t ih=>rw[Fy,Fy];exact Vals.append ih (.cons r .nil)
section
variable {X:Cx} {pins:List (Addr×Obj)} {σ:St} {H:Hp} {s:Ak} {l b:Addr} {xs ys zs:List V}
theorem Inv.lset {its its':List Ah} {n:Nat} {f:Array Ah->Array Ah} {t':Nat} (I:Inv X pins σ H s) (hH:H l=some (.lst xs))
  (e:s.heap.get? l=some {cls:=.type "list",data:=.seq its.toArray n}) (hf:f its.toArray=its'.toArray) (hv:Vals ys its') (hz:ys.length<=Ay) :
  Inv X pins σ (upd H l (.lst ys)) {s with heap:=s.heap.update l (Cq f),toks:=t'}:=by
 have q:=PySem.IsL.update e f;rw[hf]at q;refine I.write (x:=l) (e:=l) (by rw[hH];exact trivial) (.inl rfl) (λb' u hb hu=>(Dp s.heap (Cq f) (Ne.symm hb)).trans hu) ⟨_,q⟩ ?_;exact⟨hz,its',_,hv,q⟩
theorem Inv.lnew {its:List Ah} {t':Nat} (I:Inv X pins σ H s) (hv:Vals ys its) (hz:ys.length<=Ay) :
  Inv X pins σ (upd H s.heap.objs.size (.lst ys)) {s with heap:=s.heap.push {cls:=.type "list",data:=.seq its.toArray},toks:=t'} :=
 I.laid (λ_ _ q=>Ad _ q) (Al _) ⟨hz,its,0,hv,As _ rfl⟩
theorem Inv.fresh (I:Inv X pins σ H s):H s.heap.objs.size=none:=I.hok.fresh (Al _)
theorem Inv.lstM (I:Inv X pins σ H s) (hH:H l=some (.lst xs)):xs.length<=Ay/\∃(its:List Ah) (n:Nat),Vals xs its/\xs.length=its.length/\s.heap.get? l=some {cls:=.type "list",data:=.seq its.toArray n}:=by
 obtain⟨z,its,n,r,e⟩:=I.hok l _ hH;exact⟨z,its,n,r,r.length,e⟩
theorem jor {n:Nat} (h:n<=Ay):Dz n=false:=by
 unfold Dz;exact decide_eq_false (by omega)
end
section
variable {X:Cx}
def jrm:V->List V->Hp->VK->Prop:=λx vs H Q=>∃l xs y,x=.ref l/\vs=[y]/\H l=some (.lst xs)/\xs.length < Ay/\Q .non (upd H l (.lst (xs++[y])))
theorem jhh:MtM X "list.append" jrm:=by
 intro pins s σ H x vs v us Q I rx rv h;obtain⟨l,xs,y,rfl,rfl,hH,hz,q⟩:=h;cases rx;obtain⟨u,rfl,ru⟩:=rv.one;obtain⟨z,its,n,r,hl,e⟩:=I.lstM hH;refine call_meets F.slot_list_append ⟨_,e,rfl⟩ F.entry_list_append (F.args_list_append_2 _ _) (PySem.list_append l its.toArray n u (by rw[Av];omega)) ⟨e,?_⟩;refine⟨.non,_,I.lset (its':=its++[u]) hH e (by simp) (r.append (.cons ru .nil)) ?_,rfl,q⟩;rw[Ap,A2];omega
def jrl:V->List V->Hp->VK->Prop:=λx vs H Q=>∃l b xs zs,x=.ref l/\vs=[.ref b]/\H l=some (.lst xs)/\H b=some (.lst zs)/\xs.length+zs.length<=Ay/\Q .non (upd H l (.lst (xs++zs)))
theorem jsd:MtM X "list.extend" jrl:=by
 intro pins s σ H x vs v us Q I rx rv h;obtain⟨l,b,xs,zs,rfl,rfl,hH,hB,hz,q⟩:=h;cases rx;obtain⟨u,rfl,ru⟩:=rv.one;cases ru;obtain⟨z,its,n,r,hl,e⟩:=I.lstM hH;obtain⟨z2,its2,n2,r2,hl2,e2⟩:=I.lstM hB;have hsz:its.toArray.size+its2.toArray.size<=Ay:=by rw[Av,Av];omega
 have hlong:¬(!its.toArray.isEmpty&&Dz (its.toArray.size+its2.toArray.size))=true:=by
  rw[jor hsz,Fz];exact An
 refine call_meets F.slot_list_extend ⟨_,e,rfl⟩ F.entry_list_extend (F.args_list_extend_2 _ _)
  (AutoSeq1.list_extend_list_list_0 l its.toArray n b its2.toArray n2 hlong (by rw[Av];omega) (by omega)) ⟨e,e2,?_⟩
 refine⟨.non,_,I.lset (its':=its++its2) hH e (by simp) (r.append r2) ?_,rfl,q⟩;rw[Ap];omega
def rCat:R2:=λx y H Q=>∃l b xs zs,x=.ref l/\y=.ref b/\H l=some (.lst xs)/\H b=some (.lst zs)/\xs.length+zs.length<=Ay/\∀p,H p=none->Q (.ref p) (upd H p (.lst (xs++zs)))
theorem jwb:OpR X (El .Add) rCat:=by
 intro pins s σ H x y v u Q I rx ry h;obtain⟨l,b,xs,zs,rfl,rfl,hH,hB,hz,q⟩:=h;cases rx;cases ry;obtain⟨z,its,n,r,hl,e⟩:=I.lstM hH;obtain⟨z2,its2,n2,r2,hl2,e2⟩:=I.lstM hB;refine PySem.P.add_list e e2 ?_ (by rw[Av,Av];omega);have ea:its.toArray++its2.toArray=(its++its2).toArray:=by simp
 rw[ea];exact⟨.ref _,_,I.lnew (t':=s.toks) (r.append r2) (by rw[Ap];omega),rfl,q _ I.fresh⟩
end
end L2
namespace Att
open PySem PySem.W PySem.Calls PyProof.Rows
theorem jhl {P:Params} {h:Heap}:∀(ns:List Int) (vs:List Ah),WellAll P h vs (ns.map WData.int)->IntsAre vs ns:=by
 intro ns
 induction ns with
 |nil =>
  intro vs w;rw[Cf]at w;cases w;exact .nil
 |cons n ns ih =>
  intro vs w;rw[Bi]at w;cases w with
  |cons a b =>
   cases a;exact .cons _ _ (ih _ b)
theorem jrf {l:OpenLaw} {n:Nat} (hn:l.most=some n) {P:Params} {h:Heap} {args:List WData} {vals:List Ah}
  (hpre:l.row.toRowW.claim.pre args=true) (hwl:WellAll P h vals args) :
  ∃a vs ns,vals=[Bw a]/\args=[WData.list (ns.map WData.int)]/\h.get? a=some {cls:=.type "list",data:=.seq vs.toArray}/\IntsAre vs ns/\ns.length<=n:=by
 have hsh:WShape.hasAll [] args [.list .int]=true:=(pre_splitW hpre).1;have hc:l.pre.holds [] {args:=args}=true:=(pre_splitW hpre).2;obtain⟨d,r,rfl,h1,h2⟩:=hasAllW_cons hsh;obtain rfl:=hasAllW_nil h2;obtain⟨xs,rfl,h3⟩:=hasW_list h1;obtain⟨ns,rfl⟩:=items_int h3;have hlen:ns.length<=n:=by
  unfold OpenLaw.pre at hc;have h4:(WTm.not (.lt (.lit (.int (n:Int))) (.len (.arg 0)))).holds [] {args:=[.list (ns.map .int)]}=true:=by
   have h4:=(holds_andW hc).1;rw[hn]at h4;exact h4
  have h5:=condW_of h4 (w_not (w_lt w_lit (w_len_list (w_arg rfl))));rw[Ae]at h5;refine Nat.le_of_not_lt λq=>?_;have q':(n:Int) < ((ns.length:Nat):Int):=by omega
  first
   | (rw[decide_eq_true q']at h5;exact absurd h5 (by decide))
   | (simp at h5;omega)
 cases hwl with
 |cons w1 w2 =>
  cases w2;cases w1 with
  |list ho hall=>exact⟨_,_,ns,rfl,rfl,ho,jhl ns _ hall,hlen⟩
theorem jrr (l:OpenLaw) (args:List WData):l.row.toRowW.claim.post args (.bool true) args=true :=
 postW_of (r:=l.row.toRowW) (X:=(true==true))
  (show WShape.has [] (.bool true) .bool=true by first | rfl | decide | simp[WShape.has,WShape.arms,WShape.armsAll])
  (show(WTm.eq .res (.lit (.bool true))).value [] {args:=args,res:=some (.bool true),after:=args}=some (.bool (true==true))from w_eq_bool (w_res rfl) w_lit) rfl
theorem attach_call {l:OpenLaw} {n:Nat} {q:Bm} {loose:List Str} {XP:(Str->Option Ah)->Heap->Prop} {YP:B3->Heap->Prop} {d:DefRec}
  (hn:l.most=some n) (hdf:d.params.defaults=[])
  (call:∀(w:B3) (s₀ s₁:Ak) (mg mb:Str->Option Ah) (fa:Addr) (o:Obj) (pm cd doc:Ah) (a:Addr) (vs:List Ah) (ns:List Int),
   Ground q loose [] XP w s₀ mg mb s₁.heap->YP w s₁.heap ->
   s₁.heap.get? fa=some o->o.data=.func (docDef d.name d.params d.body d.scope pm cd doc)->s₁.heap.CodeRec cd d.name->mg d.name=some (.ref fa) ->
   s₁.heap.get? a=some {cls:=.type "list",data:=.seq vs.toArray}->IntsAre vs ns->ns.length<=n->s₁.gens=#[] ->
   F9 (Ba l.prog w) callerA (.call (.ref fa) ⟨[.ref a],[]⟩) (λr s'=>r=.ok (.ret (.bool true))/\OldK s₁.heap s'.heap/\s'.os=s₁.os/\AllBare s'.gens) s₁) :
  WalkO q loose XP YP l.row.toRowW d [] (λf vs=>PySem.call f vs):=by
 intro w s₀ s₁ mg mb G Y fa o pm cd doc dV kV ho hd hcd hD hmg hg args vals as hpre hlay hrd hwl hlo;obtain rfl:dV=.none:=Dflts.none hD hdf;obtain rfl:kV=.none:=Dflts.noKw hD;obtain⟨a,vs,ns,rfl,rfl,hobj,hints,hlen⟩:=jrf hn hpre hwl;refine enter_call (codeAny_mono (call w s₀ s₁ mg mb fa o pm cd doc a vs ns G Y ho (fd_plain hd) hcd hmg hobj hints hlen hg) λr s' hq=>?_);obtain⟨rfl,h2,h3,h4⟩:=hq;exact⟨.inl ⟨.bool true,.bool true,[],rfl,λ_=>rfl,.bool true,jrr l _,λ_=>⟨List.Pairwise.nil,λ_ hm=>(nomatch hm)⟩⟩,h2,h3,h4⟩
end Att
namespace L2
open PySem PySem.Spec PyProof.Rows
theorem jla:∀{vs:List Ah} {ns:List Int},IntsAre vs ns->Vals (ns.map V.int) vs
 |_,_,.nil=>.nil
 |_,_,.cons n t h=>.cons ⟨t,rfl⟩ (jla h)
def Only (H:Hp):Prop:=∀b,H b=none\/∃o xs,H b=some (.frz o (.lst xs))
theorem juy {P:Bm} {w:B3} {K:Aj} {mg mb:Str->Option Ah} {CX:CXT} {k:Nat} {fa a:Addr} {fd:C1} {x:Str} {sp:Sp} {s₁:Ak} {vs:List Ah} {ns:List Int}
  (KX:K.In s₁.heap) (hns:s₁.heap.Ns Dm mg) (hb:s₁.heap.Ns builtinsNs mb) (hbb:∀x:Str,x≠"__name__"->mb x=By x) (hlim:s₁.heap.NoLimit) (hg:s₁.gens=#[])
  (ha:s₁.heap.get? a=some {cls:=.type "list",data:=.seq vs.toArray}) (hi:IntsAre vs ns) (hl:ns.length<=Ay) (hr:Room k callerA)
  (F:∀base:Heap,K.In base->base.Ns Dm mg->FnOk P w K mg base CX k fa fd [x] sp) (hbind:∀(s:Ak) (u:Ah),BindsTo s fd ⟨[u],[]⟩ [(x,u)])
  (hsp:∀H:Hp,Only H->SqL K H a (ns.map V.int)->sp [.ref a] H (λv _=>v=.bl true) λ_ _ _=>False)
  (hCX:∀H e s',CX [] H s₁ (λ_ _ _=>False) e s'->False) :
  F9 (Ba P w) callerA (.call (.ref fa) ⟨[.ref a],[]⟩) (λr s'=>r=.ok (.ret (.bool true))/\OldK s₁.heap s'.heap/\s'.os=s₁.os/\AllBare s'.gens) s₁:=by
 have rv:=jla hi;have lenV:=hi.length
 -- from an abstract heap in which nothing but the script may be tracked
 have core:∀H:Hp,Only H->SqL K H a (ns.map V.int)->HOk P w H s₁.heap->(∀b,H b≠none->b=a)->(H a≠none->K.lookup a=none) ->
   F9 (Ba P w) callerA (.call (.ref fa) ⟨[.ref a],[]⟩) (λr s'=>r=.ok (.ret (.bool true))/\OldK s₁.heap s'.heap/\s'.os=s₁.os/\AllBare s'.gens) s₁:=by
  intro H hO hS hok hA hK;have base_of:∀{b:Addr} {o:Obj},s₁.heap.get? b=some o->H b=none->(hidT s₁.heap H).get? b=some o:=λe n=>ju1 e n;have noA:∀{b:Addr} {o:Obj} {es:Array DictEntry} {ep:Nat},s₁.heap.get? b=some o->o.data=.dict es ep->H b=none:=λ{b o es ep} e d=>by
   cases q:H b with
   |none=>rfl
   |some u =>
    have e':b=a:=hA b (by rw[q];simp);subst e';rw[ha]at e;cases e;have d':Data.seq vs.toArray _=Data.dict es ep:=d;cases d'
  have nsK:∀{b:Addr} {m:Str->Option Ah},s₁.heap.Ns b m->(hidT s₁.heap H).Ns b m:=λ{b m} ⟨o,es,ep,e,d,r⟩=>⟨o,es,ep,base_of e (noA e d),d,r⟩;have hKb:K.In (hidT s₁.heap H):=λb o e=>base_of (KX b o e) (by
   cases q:H b with
   |none=>rfl
   |some u =>
    have e':b=a:=hA b (by rw[q];simp);subst e';rw[hK (by rw[q];simp)]at e;cases e)
  have hM:Mod K mg (hidT s₁.heap H):=⟨hKb,nsK hns,⟨mb,nsK hb,hbb⟩,let⟨mc,h1,h2⟩:=hlim;⟨mc,nsK h1,h2⟩⟩;have e0:Env0 P w K mg (hidT s₁.heap H) callerA [] s₁ H:=⟨rfl,hM,λb o e=>jyf e,Nat.le_of_eq (jsr _ _),trivial,λb hb=>absurd (show b∈([]:List Addr)from hb) (by simp),hok,.of_eq hg⟩;refine codeAny_mono ((F _ hKb (nsK hns)).run callerA [] s₁ H ⟨[.ref a],[]⟩ [.ref a] [.ref a] _ _ hr e0 (hbind s₁ (.ref a)) (.cons rfl .nil) (hsp H hO hS)) λr s' h=>?_;cases r with
  |error e=>exact(hCX H e s' h).elim
  |ok fl =>
   cases fl with
   |next=>exact False.elim h
   |brk=>exact False.elim h
   |cont=>exact False.elim h
   |ret u =>
    obtain⟨v,H',os,bare,un,hok',r',q⟩:=h;have q':v=.bl true:=q;subst q';obtain rfl:u=Value.bool true:=r';refine⟨rfl,OldK.of_keep λb o e=>?_,os,bare⟩;cases q:H b with
    |none=>exact un.keep b o e q (by intro z;exact absurd (show b∈([]:List Addr)from z) (by simp)) (by simp)
    |some u =>
     rcases hO b with z | ⟨ob,xs,z⟩
     ·rw[q]at z;cases z
     ·have z2:=un.frzs b ob _ z;obtain⟨e1,_⟩:=hok b _ z;obtain⟨e2,_⟩:=hok' b _ z2;rw[e]at e1;cases e1;exact e2
 cases hk:K.lookup a with
 |some o =>
  -- the script is one of the module's own objects
  have e:=KX a o hk;rw[ha]at e;cases e;refine core (λ_=>none) (λ_=>.inl rfl) (.inr ⟨_,vs.toArray,_,hk,rfl,rfl,rfl,by rw[Av,lenV];exact hl,by simpa using rv⟩) (λb u z=>by have z':(none:Option HO)=some u:=z;cases z') (λb z=>absurd rfl z) λz=>absurd rfl z
 |none =>
  refine core (λb=>if b=a then some (.frz {cls:=.type "list",data:=.seq vs.toArray} (.lst (ns.map V.int)))else none) (λb=>?_) (.inl (.inr ⟨{cls:=.type "list",data:=.seq vs.toArray},if_pos rfl⟩)) (λb u z=>?_) (λb z=>?_) λ_=>hk
  ·by_cases hb:b=a
   ·exact .inr ⟨_,_,if_pos hb⟩
   ·exact .inl (if_neg hb)
  ·by_cases hb:b=a
   ·have z':=(if_pos hb).symm.trans z;cases z';subst hb;exact⟨ha,by rw[Ae];exact hl,vs,_,rv,ha⟩
   ·have z':=(if_neg hb).symm.trans z;cases z'
  ·by_cases hb:b=a
   ·exact hb
   ·exact absurd (if_neg hb) z
theorem walk_of {l:PySem.W.OpenLaw} {n k:Nat} {q:Bm} {loose:List Str} {XP:(Str->Option Ah)->Heap->Prop} {YP:B3->Heap->Prop} {d:DefRec} {K:Params->Aj} {CX:B3->CXT} {sp:B3->Sp} {x:Str}
  (hn:l.most=some n) (hn2:n<=Ay) (hdf:d.params.defaults=[]) (hr:Room k callerA)
  (hY:∀(w:B3) (h:Heap),YP w h->(K w.params).In h)
  (F:∀(w:B3) (mg:Str->Option Ah) (fa:Addr) (h:Heap),(K w.params).In h->h.Ns Dm mg->mg d.name=some (.ref fa) ->
   ∃fd:C1,(∀(s:Ak) (u:Ah),BindsTo s fd ⟨[u],[]⟩ [(x,u)]) /\
    ∀base:Heap,(K w.params).In base->base.Ns Dm mg->FnOk l.prog w (K w.params) mg base (CX w) k fa fd [x] (sp w))
  (hsp:∀(w:B3) (H:Hp) (a:Addr) (ns:List Int),ns.length<=n->Only H->SqL (K w.params) H a (ns.map V.int)->sp w [.ref a] H (λv _=>v=.bl true) λ_ _ _=>False)
  (hCX:∀(w:B3) (H:Hp) (s:Ak) (e:Ah) (s':Ak),CX w [] H s (λ_ _ _=>False) e s'->False) :
  PySem.W.WalkO q loose XP YP l.row.toRowW d [] (λf vs=>PySem.call f vs):=by
 refine Att.attach_call hn hdf λw s₀ s₁ mg mb fa o pm cd doc a vs ns G Y ho hd hcd hmg hobj hints hlen hg=>?_;have KX:=hY w _ Y;obtain⟨fd,hb,hF⟩:=F w mg fa _ KX G.T.g hmg;exact juy KX G.T.g G.T.b G.T.builtins G.T.nolimit hg hobj hints (A9 hlen hn2) hr hF hb (λH hO hS=>hsp w H a ns hlen hO hS) λH e s'=>hCX w H s₁ e s'
def jei (s:Stmt):Arguments:=match s with
 |.FunctionDef _ a _ _ _ _ _ _ _ _=>a
 |_=>{ posonlyargs:=[],args:=[],vararg:=none,kwonlyargs:=[],kw_defaults:=[],kwarg:=none,defaults:=[]}
def jbp (s:Stmt):List Stmt:=match s with
 |.FunctionDef _ _ b _ _ _ _ _ _ _=>b
 |_=>[]
def jao (s:Stmt):Eo:=match s with
 |.FunctionDef _ _ _ _ _ _ sc _ _ _=>sc
 |_=>{ kind:=.function,names:=[],isGenerator:=false,isCoroutine:=false}
abbrev CX0:CXT:=λ_ _ _ _ _ _=>False
abbrev E0:XK:=λ_ _ _=>False
theorem j0z {X:Cx}:jtm CX0 X E0:=λ_ _ _ _ _ _ _ h=>h.elim
structure Fun (K:Aj) (x qual:Str) (st:Stmt) (f:Addr) (fd:C1):Prop where
 ex:∃(oc:Ah) (od:Option Addr) (kV doc pm:Ah) (an:Option Addr) (cdv ct:Ah) (osl:Array (Option Ah)),
  fd=Ew x qual (jei st) (jbp st) (jao st) .none kV doc pm an cdv ct/\K.lookup f=some ⟨oc,od,.func fd,osl⟩/\PySem.W.codeIn K cdv qual=true
 kp:Cz K (.ref f)=true
section
variable {P:Bm} {w:B3} {K:Aj} {mg:Str->Option Ah} {base:Heap}
theorem Fun.ok {x qual:Str} {st:Stmt} {f:Addr} {fd:C1} {N ps:List Str} {k:Nat} {sp:Sp} (F:Fun K x qual st f fd) (S:FnScope N ps (jao st)) (len:∀vs H Q E,sp vs H Q E->vs.length=ps.length)
  (hbody:∀(cdv:Ah) (A:B8) (outer:List Env) (s:Ak) (H:Hp) (vs:List V) (Q:VK) (E:XK),Room k (A.deeper (envOfC qual (jao st) s.heap.objs.size f cdv))->sp vs H Q E ->
   ∃t,PSs (cxOf CX0 P w K mg base N qual (jao st) f cdv A outer s H E).nox (jbp st) t/\t {nx:=λ_ H'=>Q .non H',rt:=Q} (start N vs) H):FnOk P w K mg base CX0 (k+1) f fd ps sp:=by
 obtain⟨oc,od,kV,doc,pm,an,cdv,ct,osl,rfl,lk,hcd⟩:=F.ex;refine j3x lk hcd S len λA outer s H vs Q E hr hsp=>?_;obtain⟨t,h,q⟩:=hbody cdv A outer s H vs Q E hr hsp;exact⟨t,h.nox,q⟩
theorem Fun.binds {x qual:Str} {st:Stmt} {f:Addr} {fd:C1} {ps:List Str} (F:Fun K x qual st f fd)
  (h:∀(kV doc pm:Ah) (an:Option Addr) (cdv ct:Ah) (us:List Ah),us.length=ps.length->bindArgs (Ew x qual (jei st) (jbp st) (jao st) .none kV doc pm an cdv ct) ⟨us,[]⟩=pure (ps.zip us)):Binds K fd ps []:=by
 obtain⟨oc,od,kV,doc,pm,an,cdv,ct,osl,rfl,lk,hcd⟩:=F.ex;exact .all (h kV doc pm an cdv ct)
theorem j16 {x qual:Str} {st:Stmt} {f:Addr} {oc:Ah} {od an:Option Addr} {osl:Array (Option Ah)} {kV doc pm cdv ct:Ah} (l:K.lookup f=some ⟨oc,od,.func (Ew x qual (jei st) (jbp st) (jao st) .none kV doc pm an cdv ct),osl⟩)
  (c:PySem.W.codeIn K cdv qual=true) (k:Cz K (.ref f)=true):Fun K x qual st f (Ew x qual (jei st) (jbp st) (jao st) .none kV doc pm an cdv ct):=⟨⟨oc,od,kV,doc,pm,an,cdv,ct,osl,rfl,l,c⟩,k⟩
end
theorem jlu {n:Nat} (h:n<=1000):n < Ay:=Gq h (by decide)
section
variable {X:Cx}
theorem pv (i:Nat) {x:Str} {pos:Pos} (hN:X.N[i]?=some x:=by rfl) (hv:Vis X.env.scope x:=by first | exact Du rfl | exact Cw (Du rfl) | exact Cw (Cw rfl)) (hd:(x==("__debug__":Str))=false:=by decide)
  (hcd:(x==("__classdict__":Str))=false:=by decide):PE X (.Name x pos) (tVar i):=jf5 hN hv hd hcd
end
theorem iteF {A B:Prop} (h:B):if false=true then A else B:=by
 rw[if_neg An];exact h
theorem ite2 {c A B:Prop} [Decidable c] (h1:c->A) (h2:¬c->B):if c then A else B:=by
 by_cases h:c
 ·rw[if_pos h];exact h1 h
 ·rw[if_neg h];exact h2 h
def Same (H H':Hp):Prop:=∀b o,H b=some o->H' b=some o
end L2
set_option maxHeartbeats 4000000
set_option maxHeartbeats 4000000
namespace Nb
open PySem L2
def jqn:Bool:=true
def jvm:List V:=[.non,.non,.non,.int 1,.int 2,.int 3,.int 20]
def jk4:List Ab:=[.none,.none,.none,.int 1,.int 2,.int 3,.int 20]
end Nb
namespace L2
open PySem PySem.Spec PyProof.Rows
section
variable {prog:Bm} {w:B3} {A:B8} {R:Result->Ak->Prop} {s:Ak}
theorem jf9 {elt target iter:Expr} {ifs:List Expr} {scope:Eo} {pos:Pos} {it acc:Ah} {env:Env} (I:Nat->Ak->Prop)
  (turn:∀n s,I n s->Az (Ba prog w) A (D2 it) (λr s₁=>match r with
   |none=>R (.ok .next) s₁
   |some v=>Az (Ba prog w) A (letOwnedTupleGo target it v) (λ_ s₁'=>Az (Ba prog w) A (assign target env v) (λ_ s₂ =>
     Az (Ba prog w) A (forIn ifs true λc r=>if r=true then do let ok <-isTrue c env (eval c env);pure (ForInStep.yield ok)else pure (ForInStep.yield r)) (λok s₃ =>
      if ok=true then Az (Ba prog w) A (eval elt env) (λx s₄ =>
       Az (Ba prog w) A (call (.builtin "list.append") [acc,x]) (λ_ s₅=>∃m,m < n/\I m s₅) (λ_ _=>False) s₄) (λ_ _=>False) s₃
      else ∃m,m < n/\I m s₃) (λ_ _=>False) s₂) (λ_ _=>False) s₁') (λ_ _=>False) s₁) (λ_ _=>False) s)
  (n:Nat) (h:I n s):F9 (Ba prog w) A (.compLoop (.ListComp elt [⟨target,iter,ifs,0⟩] scope pos) 0 it acc env) R s:=by
 refine codeAny_loop rfl I (λn s hI=>?_) n h;show Az _ A ((compTurn (.ListComp elt [⟨target,iter,ifs,0⟩] scope pos) 0 it acc env).onRaise (λx=>do noteFrame x env;theTreesLotGoes x)) _ _ s;refine wpAny_noted ?_;rw[compTurn_list];refine Aa (wpAny_standAt (Aa (Dq (turn n s hI) (λr s₁ h₁=>?_) λ_ _ f=>f.elim)));cases r with
 |none=>exact Ai h₁
 |some v =>
  refine Aa (Dq h₁ (λ_ s₁' h₁'=>?_) λ_ _ f=>f.elim);refine Aa (Dq h₁' (λ_ s₂ h₂=>Aa (Dq h₂ (λok s₃ h₃=>?_) λ_ _ f=>f.elim)) λ_ _ f=>f.elim);cases ok with
  |false=>exact Ai ⟨rfl,h₃⟩
  |true =>
   exact Aa (Aa (Dq h₃ (λx s₄ h₄=>Aa (Dq h₄ (λ_ s₅ h₅=>Ai (Ai ⟨rfl,h₅⟩)) λ_ _ f=>f.elim)) λ_ _ f=>f.elim))
end
def jaw (X:Cx) (N:List Str) (scope:Eo) (cl:List (Str×Addr)) (s:Ak) (H:Hp) (fp:List Addr):Cx :=
 { X with N:=N,s₀:=s,H₀:=H,env:=compEnvC scope cl s.heap.objs.size X.env,outer:=X.stack,ex:=fp,fn:=λ_=>false,pn:=[],xe:=λ_ _=>False}
structure CompSc (X:Cx) (N:List Str) (scope:Eo) (cl:List (Str×Addr)) (fr:List (Option Nat)):Prop where
 clos:closureFor scope X.env=pure cl
 kind:scope.kind=.function
 nocell:∀y∈scope.names,y.2≠.cell
 names:∀y∈scope.names,y.2=.local->scope.names.lookup y.1=some .local
 sub:∀x c,cl.lookup x=some c->X.env.cells.lookup x=some c
 has:∀x,((relabel scope X.env).names.lookup x=some .cell\/(relabel scope X.env).names.lookup x=some .free)->∃c,cl.lookup x=some c
 len:fr.length=N.length
 fre:∀(j i:Nat),fr[j]?=some (some i)->∃x,N[j]?=some x/\X.N[i]?=some x/\Vis X.env.scope x/\(X.env.kindOf x=some .cell\/X.env.kindOf x=some .free) /\
  ((relabel scope X.env).names.lookup x=some .cell\/(relabel scope X.env).names.lookup x=some .free)/\cl.lookup x=X.env.cells.lookup x
theorem jdy {κ:Type}:∀{l:List (Str×κ)} {x:Str} {k:κ},l.lookup x=some k->(x,k)∈l
 |[],_,_,h=>nomatch h
 | (y,k')::r,x,k,h=>by
  rw[List.lookup_cons]at h;cases e:x==y with
  |true =>
   rw[e]at h;have e':x=y:=by simpa using e
   have h':k'=k:=Bj h;rw[e',h'];exact Au
  |false =>
   rw[e]at h;exact Aw _ (jdy h)
theorem jjj {κ:Type}:∀{l:List (Str×κ)} {x:Str},x∈l.map (·.1)->∃k,l.lookup x=some k
 |[],_,h=>absurd h (by simp)
 | (y,k')::r,x,h=>by
  rw[List.lookup_cons];cases e:x==y with
  |true=>exact⟨k',rfl⟩
  |false =>
   have ne:¬x=y:=λz=>by rw[z]at e;simp at e
   have h':x∈y::r.map (·.1):=h;rcases Am.mp h' with z | z
   ·exact absurd z ne
   ·exact jjj z
theorem ju9 {X:Cx} {scope:Eo} {cl:List (Str×Addr)} (nm:List (Str×NameKind)) (ks:List Str) (hrel:(relabel scope X.env).names=nm) (hks:cl.map (·.1)=ks) (h3:∀y∈nm,(y.2=.cell\/y.2=.free)->y.1∈ks) :
  ∀x,((relabel scope X.env).names.lookup x=some .cell\/(relabel scope X.env).names.lookup x=some .free)->∃c,cl.lookup x=some c:=by
 intro x h;rw[hrel]at h;refine jjj ?_;rw[hks];rcases h with h | h
 ·exact h3 _ (jdy h) (.inl rfl)
 ·exact h3 _ (jdy h) (.inr rfl)
def capt (fr:List (Option Nat)) (σ:St):St:=fr.map λo=>o.bind λi=>(σ[i]?).bind id
theorem jvc {fr:List (Option Nat)} {σ:St} {j:Nat} {v:V} (h:(capt fr σ)[j]?=some (some v)):∃i,fr[j]?=some (some i)/\σ[i]?=some (some v):=by
 unfold capt at h;rw[A7]at h;cases e:fr[j]? with
 |none=>rw[e]at h;cases h
 |some o =>
  rw[e]at h;cases o with
  |none=>cases h
  |some i =>
   refine⟨i,rfl,?_⟩;have h':(σ[i]?).bind id=some v:=Bj h;cases e2:σ[i]? with
   |none=>rw[e2]at h';cases h'
   |some o2 =>
    rw[e2]at h';have h2:o2=some v:=h';rw[h2]
def PIf (X:Cx) (ifs:List Expr) (tt:TT):Prop :=
 ∀(pins:List (Addr×Obj)) (s:Ak) (σ:St) (H:Hp) (Q:Bool->Hp->Prop),Inv X pins σ H s->tt σ H Q ->
  Az (Ba X.prog X.w) X.A (forIn ifs true λc r=>if r=true then do let ok <-isTrue c X.env (eval c X.env);pure (ForInStep.yield ok)else pure (ForInStep.yield r)) (TP X pins σ Q) X.xe s
def jzp:TT:=λ_ H Q=>Q true H
theorem jxv {X:Cx}:PIf X [] jzp:=λ_ _ _ H _ I h=>wpAny_tests_nil ⟨H,I,h⟩
theorem jxu {X:Cx} {c:Expr} {tt:TT} (h:PT X c tt):PIf X [c] tt:=λpins s σ H Q I q=>wpAny_tests_one (h pins s σ H Q I q)
def jqs (fr:List (Option Nat)) (wi:TI) (g:TG) (tt:TT) (te:TE):TE:=λσ H Q=>wi σ H λJ H1=>∀D,H1 D=none ->
 ∃W:Nat->Nat->List V->St->Hp->Prop,(∃m,W 0 m [] (capt fr σ) (upd H1 D (.lst [])))/\∀i m ys τ H,W i m ys τ H ->
  ((J.stop i H/\Q (.ref D) H)\/(J.go i H/\ys.length < Ay/\∀x H',J.yld i H x H'->g x τ H' λτ2 H2=>tt τ2 H2 λb H3 =>
   if b=true then te τ2 H3 (λy H4=>H4 D=some (.lst ys)/\∃m',m' < m/\W (i+1) m' (ys++[y]) τ2 (upd H4 D (.lst (ys++[y]))))else ∃m',m' < m/\W (i+1) m' ys τ2 H3))
section
variable {X:Cx} {N:List Str} {scope:Eo} {cl:List (Str×Addr)} {fr:List (Option Nat)} {pins:List (Addr×Obj)} {σ:St} {H:Hp} {s:Ak} {fp:List Addr}
theorem jy1 (S:CompSc X N scope cl fr) (I:Inv X pins σ H s) (hf:∀b∈fp,FpOk X pins H b) (hlt:∀b∈fp,b < s.heap.objs.size):(jaw X N scope cl s H fp).Ok where
 mod:=I.ok.mod
 kind:=S.kind
 glob:=I.ok.glob
 blt:=I.ok.blt
 above:=Al _
 inj:=λx y c a b=>I.ok.inj x y c (S.sub x c a) (S.sub y c b)
 has:=λx h=>S.has x h
 cab:=λx c h=>nomatch h
 hd:=I.ok.hd
 frames:=I.ok.frames
 stk:=.inl rfl
 exf:=λb hb=>⟨Bc (hlt b hb),λx c e=>(hf b hb).2.2.2.2.1 x c (S.sub x c e)⟩
 bs:=I.bs
 bsz:=A9 I.ok.bsz I.sz
 noex:=λb o e hb=>by
  rcases(hf b hb).2.2.2.1 with z | z
  ·exact I.ok.noex b o e z
  ·exact absurd (Bn (Ao (I.ok.bs b o e).1) z) (Er _)
 exfs:=λb hb z=>by
  rcases Am.mp (I.stkSub b z)with e | e
  ·exact(hf b hb).2.1 e
  ·exact(hf b hb).2.2.1 e
 funs:=I.stack
 frf:=I.stkFree
theorem jjn {h₁:Heap} {t':Nat} (S:CompSc X N scope cl fr) (I:Inv X pins σ H s) (hf:∀b∈fp,FpOk X pins H b) (hlt:∀b∈fp,b < s.heap.objs.size)
  {ob:Obj} (hsb:Dd s.heap.objs.size (s.heap.push ob) h₁) {m:Str->Option Ah} (hn:h₁.Ns s.heap.objs.size m) :
  Inv (jaw X N scope cl s H fp) [] (capt fr σ) H {s with heap:=h₁,toks:=t'}:=by
 have old:∀b o,s.heap.get? b=some o->h₁.get? b=some o:=λb o e=>(hsb.2 b (Bc (Ao e))).trans (Ad _ e);refine⟨jy1 S I hf hlt,rfl,I.bare,Un.kept old,⟨m,hn,λj x v e1 e2 e3=>?_⟩,λx c e=>?_,I.fresh,λx c e=>I.freeC x c (S.sub x c e),λp hp=>?_,I.hok.kept old,?_⟩
 ·obtain⟨i,f1,f2⟩:=jvc e2;obtain⟨y,g1,g2,g3,g4,g5,g6⟩:=S.fre j i f1;have e1':N[j]?=some x:=e1;rw[g1]at e1';have exy:y=x:=Bj e1';subst exy;obtain⟨m0,hn0,hl⟩:=I.loc;obtain⟨u,r,l⟩:=hl i y v g2 f2 g3;refine⟨u,r,.inr ⟨g5,?_⟩⟩;rcases l with⟨k,_⟩ | ⟨k,c,e,z⟩
  ·rcases g4 with q | q
   ·rw[q]at k;cases k
   ·rw[q]at k;cases k
  ·exact⟨c,g6.trans e,z.keeps old⟩
 ·obtain⟨v,z⟩:=I.cell x c (S.sub x c e);exact⟨v,z.keeps old⟩
 ·exact absurd hp (by simp[jaw])
 ·show(capt fr σ).length=N.length;unfold capt;rw[Ae,S.len]
theorem jo1 {H':Hp} {τ:St} {s0 s':Ak} {h':Heap} (I:Inv X pins σ H s0) (hf:∀b∈fp,FpOk X pins H b) (I':Inv (jaw X N scope cl s0 H fp) [] τ H' s') (hs:Dd s0.heap.objs.size s'.heap h') :
  Inv X pins σ H' {s' with heap:=h'}:=by
 have hC:H' s0.heap.objs.size=none:=I'.free;have u:Un (frs X.stack) fp H H' s0.heap s'.heap:=I'.base;have ne:∀b o,s0.heap.get? b=some o->b≠s0.heap.objs.size:=λb o e=>Bc (Ao e);have hok':HOk X.prog X.w H' h':=λb o e=>by
  have q:ObjOk X.prog X.w H' s'.heap b o:=I'.hok b o e;refine q.stay (λc v hc z=>(hs.2 c ?_).trans z) (λ_ z=>z) λ_ _ z=>z
  rintro rfl
  rcases hc with z | z
  ·rw[<-z,hC]at e;cases e
  ·rw[hC]at z;cases z
 refine I.call' (s':={ s' with heap:=h'}) (ch:=fp) I'.os ?_ hok' I'.bare λb hb=>?_
 ·refine⟨λb o e n h1 h2=>(hs.2 b (ne b o e)).trans (u.keep b o e n h1 h2),λb o e n h1 h2=>?_,u.free,λb o e h2=>?_,u.tups,u.frzs,u.tbls⟩
  ·obtain⟨sl,z⟩:=u.slot b o e n h1 h2;exact⟨sl,(hs.2 b (ne b o e)).trans z⟩
  ·obtain⟨o',z⟩:=u.there b o e h2;exact⟨o',(hs.2 b (ne b o e)).trans z⟩
 ·obtain⟨_,f1,_,f3,f4,f5⟩:=hf b hb;exact⟨f3,f1,f4,f5⟩
end
theorem jx1 {X:Cx} {elt tg iter:Expr} {ifs:List Expr} {scope:Eo} {cl:List (Str×Addr)} {pos:Pos} {N:List Str} {fr:List (Option Nat)} {wi:TI} {g:TG} {tt:TT} {te:TE}
  (hc:X.calm=true) (S:CompSc X N scope cl fr) (hi:PI X tg iter wi) (hg:∀s H fp,PG (jaw X N scope cl s H fp) tg g) (ht:∀s H fp,PIf (jaw X N scope cl s H fp) ifs tt)
  (he:∀s H fp,PE (jaw X N scope cl s H fp) elt te) (hs:∀x,Ec iter X.env x=pure x:=by intro _;rfl) :
  PE X (.ListComp elt [⟨tg,iter,ifs,0⟩] scope pos) (jqs fr wi g tt te):=by
 intro pins s σ H Q I h;rw[eval_ListComp];refine wpAny_comprehension_free (use:=none) (cl:=cl) rfl hs S.clos S.kind S.names (thn (hi pins s σ H _ I h) λv s1 h1=>thn h1 λitv s2 h2=>?_);obtain⟨it,fp,tn,J,H2,e,I2,T,st2,f2,q⟩:=h2;subst e;refine Bg (wpAny_newFunctionEnv S.nocell (by intro y hy;simp at hy) (λh₁ hn hsb=>?_) S.kind);dsimp only at hn hsb ⊢;obtain⟨W,⟨m0,w0⟩,turn⟩:=q s2.heap.objs.size I2.fresh
 -- the state with the new list
 have I3:Inv X pins σ (upd H2 s2.heap.objs.size (.lst [])) {s2 with heap:=s2.heap.push {cls:=.type "list",dict:=none,data:=.seq ([]:List Ah).toArray}}:=I2.lnew (its:=[]) (t':=s2.toks) .nil (A3 _);have key:∀s3:Ak,s3={ s2 with heap:=s2.heap.push {cls:=.type "list",dict:=none,data:=.seq ([]:List Ah).toArray}}->Inv X pins σ (upd H2 s2.heap.objs.size (.lst [])) s3 ->
   ∀(ob:Obj) (mm:Str->Option Ah),Dd s3.heap.objs.size (s3.heap.push ob) h₁->h₁.Ns s3.heap.objs.size mm ->
   F9 (Ba X.prog X.w) X.A (.compStart (.ListComp elt [⟨tg,iter,ifs,0⟩] scope pos) 0 (.ref it) (.ref s2.heap.objs.size) (compEnvC scope cl s3.heap.objs.size X.env))
    (compPost (Ba X.prog X.w) X.A X.xe none (EP X pins σ Q) (.ref s2.heap.objs.size) s3.heap.objs.size) {s3 with heap:=h₁,toks:=s3.toks+([]:List (Str×Ah)).length}:=?key
 ·exact key _ rfl I3 _ _ hsb hn
 clear I3 hn hsb;intro s3 hs3 I3 ob mm hsb hn;have hfp:∀b∈fp,∃o,s2.heap.get? b=some o:=λb hb=>let⟨o,e,_⟩:=T.obj _ _ st2 b hb;⟨o,e⟩;have up:∀b o,s2.heap.get? b=some o->s3.heap.get? b=some o:=λb o e=>by rw[hs3];exact Ad _ e
 have f3:∀b∈fp,FpOk X pins (upd H2 s2.heap.objs.size (.lst [])) b:=λb hb=>by
  obtain⟨o,e⟩:=hfp b hb;obtain⟨g0,gr⟩:=f2 b hb;exact⟨by rw[jag (Bc (Ao e))];exact g0,gr⟩
 have hlt:∀b∈fp,b < s3.heap.objs.size:=λb hb=>let⟨o,e⟩:=hfp b hb;Ao (up b o e);generalize hH3:upd H2 s2.heap.objs.size (.lst [])=H3 at I3 f3 w0;have I4:=jjn (t':=s3.toks+([]:List (Str×Ah)).length) S I3 f3 hlt hsb hn;have st4:tn 0 h₁:=T.keep _ _ _ st2 λb hb o e=>(hsb.2 b (Bc (Ao (up b o e)))).trans (Ad _ (up b o e));have stat:∀{H':Hp},(∀b∈fp,H' b=none)->∀b∈fp,FpOk (jaw X N scope cl s3 H3 fp) [] H' b:=λhn b hb=>by
  obtain⟨_,k1,k2,k3,k4,k5⟩:=f3 b hb;refine⟨hn b hb,Bc (hlt b hb),λz=>?_,.inl hb,λx c e=>k4 x c (S.sub x c e),λp hp=>absurd hp (by simp[jaw])⟩;rcases Am.mp (I3.stkSub b z)with e | e
  ·exact k1 e
  ·exact k2 e
 have loop:F9 (Ba X.prog X.w) X.A (.compLoop (.ListComp elt [⟨tg,iter,ifs,0⟩] scope pos) 0 (.ref it) (.ref s2.heap.objs.size) (compEnvC scope cl s3.heap.objs.size X.env))
   (compPost (Ba X.prog X.w) X.A X.xe none (EP X pins σ Q) (.ref s2.heap.objs.size) s3.heap.objs.size) {s3 with heap:=h₁,toks:=s3.toks+([]:List (Str×Ah)).length}:=by
  refine jf9 (λn s'=>∃i ys τ Hc,Inv (jaw X N scope cl s3 H3 fp) [] τ Hc s'/\tn i s'.heap/\(∀b∈fp,Hc b=none)/\W i n ys τ Hc) ?_ m0 ⟨0,[],capt fr σ,H3,I4,st4,λb hb=>(f3 b hb).1,w0⟩
  rintro n s5 ⟨i,ys,τ,Hc,I5,st5,fr5,w5⟩
  rcases turn i n ys τ Hc w5 with⟨stop,qn⟩ | ⟨go,hz,step⟩
  ·refine thn (T.done (jaw X N scope cl s3 H3 fp) rfl rfl rfl hc i [] s5 τ Hc (λ_ _=>False) I5 (stat fr5) st5 stop) λr s6 ⟨hr,I6⟩=>?_;subst hr;obtain⟨mm,hm,_⟩:=I6.loc;exact⟨mm,hm,λh' hs'=>⟨.ref s2.heap.objs.size,Hc,jo1 I3 f3 I6 hs',rfl,qn⟩⟩
  ·refine thn (T.item (jaw X N scope cl s3 H3 fp) rfl rfl rfl hc i [] s5 τ Hc (λ_ _=>False) I5 (stat fr5) st5 go) λr s6 ⟨u,hr,h6⟩=>?_;subst hr;refine thn h6 λ_ s7 ⟨x,H7,I7,r7,y7,st7,fr7⟩=>?_;have I7':=I7.pinned (stat fr7) (T.obj _ _ st7);refine thn (hg s3 H3 fp _ s7 τ H7 x u _ I7' r7 (step x H7 y7)) λ_ s8 ⟨τ8,H8,I8,q8⟩=>?_;refine thn (ht s3 H3 fp _ s8 τ8 H8 _ I8 q8) λok s9 ⟨H9,I9,q9⟩=>?_;have keep:∀{st:Ak} {τ':St} {H':Hp},Inv (jaw X N scope cl s3 H3 fp) ([]++jjg fp s7.heap) τ' H' st->tn (i+1) st.heap/\∀b∈fp,H' b=none:=λ{st τ' H'} Ix=>by
    refine⟨T.keep _ _ _ st7 λb hb o e=>(Ix.pin (b,o) (Bb _ (Bb _ (jbz hb e)))).1,λb hb=>?_⟩;obtain⟨o,e,d⟩:=T.obj _ _ st7 b hb;exact(Ix.pin (b,o) (Bb _ (Bb _ (jbz hb e)))).2.1
   cases ok with
   |false =>
    rw[if_neg An]at q9 ⊢;obtain⟨m',hm,w9⟩:=q9;obtain⟨k1,k2⟩:=keep I9;exact⟨m',hm,i+1,ys,τ8,H9,I9.unpinned,k1,k2,w9⟩
   |true =>
    rw[if_pos rfl]at q9 ⊢;refine thn (he s3 H3 fp _ s9 τ8 H9 _ I9 q9) λxv s10 ⟨y,H10,I10,r10,hD,m',hm,w10⟩=>?_;refine thn (jhh _ s10 τ8 H10 (.ref s2.heap.objs.size) [y] (.ref s2.heap.objs.size) [xv] (λz H'=>∃m',m' < n/\W (i+1) m' (ys++[y]) τ8 H') I10 rfl (.cons r10 .nil) ⟨_,ys,y,rfl,rfl,hD,hz,m',hm,w10⟩) λz s11 ⟨z',H11,I11,_,m'',hm',w11⟩=>?_;obtain⟨k1,k2⟩:=keep I11;exact⟨m'',hm',i+1,ys++[y],τ8,H11,I11.unpinned,k1,k2,w11⟩
 exact codeAny_compStart_list loop (T.self _ 0 _ _ _ st4 loop)
mutual
inductive RdD (K:Aj) (H:Hp):V->Ab->Prop
 |non:RdD K H .non .none
 |bl (b:Bool):RdD K H (.bl b) (.bool b)
 |int (i:Int):RdD K H (.int i) (.int i)
 |str (x:Str):RdD K H (.str x) (.str x)
 |lst {a:Addr} {xs:List V} {ds:List Ab}:SqL K H a xs->RdAll K H xs ds->RdD K H (.ref a) (.list ds)
 |tup {a:Addr} {xs:List V} {ds:List Ab}:SqT K H a xs->RdAll K H xs ds->RdD K H (.ref a) (.tuple ds)
inductive RdAll (K:Aj) (H:Hp):List V->List Ab->Prop
 |nil:RdAll K H [] []
 |cons {x:V} {xs:List V} {d:Ab} {ds:List Ab}:RdD K H x d->RdAll K H xs ds->RdAll K H (x::xs) (d::ds)
end
section
variable {X:Cx} {pins:List (Addr×Obj)} {σ:St} {H:Hp} {s:Ak}
mutual
theorem RdD.reads (I:Inv X pins σ H s):∀{v:V} {d:Ab} {u:Ah},RdD X.K H v d->RelV v u->∃as,Reads s.heap u d as
 |_,_,u,.non,r=>by
  cases(show u=Bf from r);exact⟨_,.none⟩
 |_,_,u,.bl b,r=>by
  cases(show u=Value.bool b from r);exact⟨_,.bool b⟩
 |_,_,u,.int i,r=>by
  obtain⟨t,rfl⟩:=(show ∃t,u=Value.int i t from r);exact⟨_,.int i t⟩
 |_,_,u,.str x,r=>by
  obtain⟨t,rfl⟩:=(show ∃t,u=F3 x t from r);exact⟨_,.str x t⟩
 |_,_,u,.lst (a:=a) h1 h2,r=>by
  cases(show u=Bw a from r);obtain⟨its,rv,⟨o,n,e,c,_,d⟩,_⟩:=I.list h1;obtain⟨as,ha⟩:=RdAll.reads I h2 rv;exact⟨_,.list e c d (by simpa using ha)⟩
 |_,_,u,.tup (a:=a) h1 h2,r=>by
  cases(show u=Bw a from r);obtain⟨its,rv,⟨o,e,c,n,d⟩,_⟩:=I.tuple h1;obtain⟨as,ha⟩:=RdAll.reads I h2 rv;exact⟨_,.tuple e c d (by simpa using ha)⟩
theorem RdAll.reads (I:Inv X pins σ H s):∀{vs:List V} {ds:List Ab} {us:List Ah},RdAll X.K H vs ds->Vals vs us->∃as,ReadsAll s.heap us ds as
 |_,_,_,.nil,.nil=>⟨_,.nil⟩
 |_,_,_,.cons h1 h2,.cons r1 r2=>by
  obtain⟨as,ha⟩:=RdD.reads I h1 r1;obtain⟨bs,hb⟩:=RdAll.reads I h2 r2;exact⟨_,.cons ha hb⟩
end
end
def j2t (d:Ab):Prop:=Cb d=true/\Cu d<=20/\A5 d<=2 ^ 20/\Ey 13 d=true/\Ej d=true
def jom (K:Aj):R2:=λx y H Q=>∃a b xs,x=.ref a/\y=.ref b/\SqL K H a xs/\SqL K H b []/\Q (.bl xs.isEmpty) H
theorem jup {X:Cx} (hu:X.A.units < cLine):OpR X (Bk .Eq) (jom X.K):=by
 intro pins s σ H x y v u Q I rx ry h;obtain⟨a,b,xs,rfl,rfl,ha,hb,q⟩:=h;cases(show v=Bw a from rx);cases(show u=Bw b from ry);obtain⟨its,r1,p1,_⟩:=I.list ha;obtain⟨its2,r2,p2,_⟩:=I.list hb;have e2:its2=[]:=Vals.zero r2;subst e2;cases r1 with
 |nil=>exact PySem.SeqAt.eq_listAt (e:=λ_=>true) p1.isList p2.isList rfl hu (λj h1=>absurd h1 (by simp)) ⟨.bl true,H,I,(by rfl),q⟩
 |cons r1 r3=>exact PySem.SeqAt.eq_list_lengthsAt p1.isList p2.isList (by simp) hu ⟨.bl false,H,I,rfl,q⟩
def j0i (K:Aj):R2:=λx y H Q=>∃a b xs ys,x=.ref a/\y=.ref b/\SqT K H a xs/\SqT K H b ys/\ys≠[]/\xs.length+ys.length<=Ay /\
 (xs=[]->Q (.ref b) H)/\(xs≠[]->∀p,H p=none->Q (.ref p) (upd H p (.tup (xs++ys))))
theorem op_catA {X:Cx}:OpR X (El .Add) (j0i X.K):=by
 intro pins s σ H x y v u Q I rx ry h;obtain⟨a,b,xs,ys,rfl,rfl,ha,hb,hy,hz,q0,q2⟩:=h;by_cases hx:xs=[]
 ·cases(show v=Bw a from rx);cases(show u=Bw b from ry);obtain⟨its,r1,p1,_⟩:=I.tuple ha;obtain⟨its2,r2,p2,_⟩:=I.tuple hb;obtain⟨⟨cls,dd,data,sl⟩,ho,hc,n,hd⟩:=id p1;obtain⟨⟨cls2,dd2,data2,sl2⟩,ho2,hc2,n2,hd2⟩:=id p2;simp only at hc hd hc2 hd2;subst hc hd hc2 hd2;have hi:its=[]:=r1.nil_iff.mpr hx;exact concat_meets ⟨_,ho,rfl⟩ ⟨_,ho2,rfl⟩ noFill_tuple_add seq_tuple_add Fs Fl (E8 _ _)
   (tuple_addW0 a b its.toArray its2.toArray n n2 dd dd2 sl sl2 (by simp[hi])) ⟨ho,ho2,⟨.ref b,H,I,rfl,q0 hx⟩⟩
 ·exact op_catT pins s σ H (.ref a) (.ref b) v u Q I rx ry ⟨a,b,xs,ys,rfl,rfl,ha,hb,hx,hz,λe=>absurd e hy,λ_=>q2 hx⟩
theorem jve {X:Cx} {T:String}:CallR X (.builtin "isinstance") (λxs H Q=>∃x t b,xs=[x,.ty T]/\TyOf X.K H x t/\PySem.W.kitOne X.K t (.type T)=some b/\Q (.bl b) H):=by
 intro pins s σ H xs us Q I r h;obtain⟨x,t,b,rfl,ty,e,q⟩:=h;obtain⟨u,u',rfl,ru,ru'⟩:=j2w r;cases(show u'=Dx T from ru');exact jsn I ru ty e λtk=>⟨.bl b,H,I.tok tk,rfl,q⟩
section
variable {X:Cx} {pins:List (Addr×Obj)} {σ:St} {A:B8} {R:Result->Ak->Prop}
theorem jdv {n:Nat} (h:n<=1000):n<=Ay:=Nat.le_of_lt (jlu h)
end
def Its (x:Str):It:=⟨λi _=>i < x.cps.size,λi H y H'=>H'=H/\∃c,x.cps[i]?=some c/\y=.str ⟨#[c]⟩,λi _=>i=x.cps.size⟩
theorem jod {P:Bm} {w:B3} {K:Aj} {tg:Expr} {T:String} {x:Str} {t:Tok} (it:Addr)
  (hn:["enumerate","zip","dict_itemiterator","dict_reverseitemiterator","odict_iterator","itertools.zip_longest","itertools.pairwise"].contains T=false)
  (hW:∀A:B8,A.handled=none->Walks P w A it [it] [it] x.cps.size (SignAt x) (λi h=>h.IsStrIter it T x t i))
  (hS:∀(A:B8) (i:Nat) (s:Ak) (Q:Ah->Ak->Prop) (E:Ah->Ak->Prop),s.heap.IsStrIter it T x t i->Q (.ref it) s->Az (Ba P w) A (pyIter (.ref it)) Q E s) :
  Turn P w K tg (Its x) [it] it (λi h=>h.IsStrIter it T x t i) where
 mem:=by simp
 obj:=λi h st b hb=>by
  have e:b=it:=by simpa using hb
  subst e;obtain⟨o,e,c,d⟩:=st;exact⟨o,e,λv z=>by rw[d]at z;cases z⟩
 keep:=λi h h' st k=>let⟨o,ho,r⟩:=st;⟨o,k it (by simp) o ho,r⟩
 item:=by
  intro X hP hw hK hc i pins s σ H E I hf st hg;subst hP hw hK;obtain⟨f0,f1,f2,f3,f4,f5⟩:=hf it (by simp);refine(hW X.A (I.ok.hd hc)).item i s _ _ hg st λv h' tk hv st' kk=>?_;obtain⟨c,u,hcu,rfl⟩:=hv;have I1:Inv X pins σ H {s with heap:=h',toks:=tk}:=I.turned (λb o hb e=>kk b o (by simpa using hb) e) f0 f1 f3 f4 f5;obtain⟨o,e,cc,d⟩:=id st';exact⟨_,rfl,ju2 (s:={ s with heap:=h',toks:=tk}) e cc d hn ⟨.str ⟨#[c]⟩,H,I1,⟨u,rfl⟩,⟨rfl,c,hcu,rfl⟩,st',λb hb=>(hf b hb).1⟩⟩
 done:=by
  intro X hP hw hK hc i pins s σ H E I hf st hg;subst hP hw hK;obtain⟨f0,f1,f2,f3,f4,f5⟩:=hf it (by simp);have hi:i=x.cps.size:=hg;subst hi;exact(hW X.A (I.ok.hd hc)).done s _ _ st λh' tk kk=>⟨rfl,I.turned (λb o hb e=>kk b o (by simpa using hb) e) f0 f1 f3 f4 f5⟩
 self:=λA i s Q E st h=>hS A i s Q E st h
def iStr (tl:TE):TI:=λσ H R=>tl σ H λv H1=>∃x,v=.str x/\R (Its x) H1
theorem j0q {X:Cx} {tg l:Expr} {tl:TE} (hl:PE X l tl):PI X tg l (iStr tl):=by
 intro pins s σ H R I h;refine thn (hl pins s σ H _ I h) λv s1 ⟨y,H1,I1,r1,q1⟩=>?_;obtain⟨x,e,q⟩:=q1;subst e;obtain⟨t,rfl⟩:=(show ∃t,v=F3 x t from r1);have fp:∀(o:Obj) (b:Addr),b∈[s1.heap.objs.size]->FpOk X pins H1 b:=λo b hb=>by
  have e:b=s1.heap.objs.size:=by simpa using hb
  subst e;exact I1.fpOk (Al _) (I1.hok.fresh (Al _))
 cases ha:x.cps.all (· < 128)
 ·refine wpAny_pyIter_wide ha ?_;exact⟨s1.heap.objs.size,[s1.heap.objs.size],_,_,H1,rfl,I1.kept (t':=s1.toks) λb o e=>Ad _ e,
   jod (T:="str_iterator") (t:=t) _ (by decide) (λA hA=>Walks.strWide hA _ x t) (λ_ _ _ _ _ st h=>wpAny_pyIter_striter_wide st h),⟨_,As _ rfl,rfl,rfl⟩,fp default,q⟩
 ·refine wpAny_pyIter_ascii ha ?_;exact⟨s1.heap.objs.size,[s1.heap.objs.size],_,_,H1,rfl,I1.kept (t':=s1.toks) λb o e=>Ad _ e,
   jod (T:="str_ascii_iterator") (t:=t) _ (by decide) (λA hA=>Walks.strAscii hA _ x t) (λ_ _ _ _ _ st h=>wpAny_pyIter_striter_ascii st h),⟨_,As _ rfl,rfl,rfl⟩,fp default,q⟩
theorem jpu (bs:List Bool):((B4 bs.length).all λi=>(bs[i]?).getD true)=bs.all id:=by
 rw[Fq,Bt,Bt]
 constructor
 ·intro h b hb;obtain⟨i,hi,rfl⟩:=List.mem_iff_getElem.mp hb;have:=h i (Dy.mpr hi);rw[Ag hi]at this;exact this
 ·intro h i hi;have hi':=Dy.mp hi;rw[Ag hi'];exact h _ (F6 hi')
theorem jtc {X:Cx} (hh:X.A.handled=none):CallR X (.builtin "all") (λxs H Q=>∃(p:Addr) (bs:List Bool),xs=[.ref p]/\H p=some (.lst (bs.map V.bl))/\Q (.bl (bs.all id)) H):=by
 intro pins s σ H xs us Q I r h;obtain⟨p,bs,rfl,hp,q⟩:=h;obtain⟨u,rfl,ru⟩:=jin r;cases(show u=Bw p from ru);obtain⟨its,rv,pl,_⟩:=I.list (SqL.of (K:=X.K) hp);have hl:s.heap.IsList p its.toArray:=pl.isList;have hlt:p < s.heap.objs.size:=by obtain⟨_,e,_⟩:=hl;exact Ao e
 have hlen:bs.length=its.length:=by have:=rv.length;rwa [Ae]at this
 refine call_all_walk (wpAny_pyIter_list hl ?_);refine⟨s.heap.objs.size,[s.heap.objs.size,p],[s.heap.objs.size],its.toArray.size,_,_,λi=>(bs[i]?).getD true,rfl,Walks.list (A:=X.A.in1) hh _ p (Bc hlt) its.toArray,
  ⟨⟨_,As _ rfl,rfl,rfl⟩,hl.push _⟩,λi v s' Q' E' hP hQ=>?_,λh' tk hk=>?_⟩
 ·have hi:its[i]?=some v:=by simpa using hP
  have hib:i < bs.length:=by rw[hlen];exact(A6.mp hi).1
  have hx:(bs.map V.bl)[i]?=some (V.bl bs[i]):=by simp[hib]
  obtain⟨u,hu,ru⟩:=rv.get hx;rw[hi]at hu;cases(Bj hu);cases(show v=Value.bool bs[i]from ru);dsimp only at hQ;rw[Ag hib,Option.getD_some]at hQ;exact C3 hQ
 ·have e:((B4 its.toArray.size).all λi=>(bs[i]?).getD true)=bs.all id:=by
   rw[Av,<-hlen];exact jpu bs
  rw[e];refine⟨.bl (bs.all id),H,I.kept λb x e=>hk b x (λhm=>?_) (Ad _ e),rfl,q⟩;rw[Bd.mp hm]at e;exact Er _ (Ao e)
theorem jr4 {X:Cx}:OpR X (Bk .LtE) (λx y H Q=>∃i j,x=.str i/\y=.str j/\Q (.bl (!decide (j.cps.toList < i.cps.toList))) H):=by
 intro pins s σ H x y v u Q I rx ry h;obtain⟨i,j,rfl,rfl,q⟩:=h;obtain⟨t,rfl⟩:=rx;obtain⟨t',rfl⟩:=ry;exact P.le_str (jav I q rfl)
theorem jr6 {X:Cx}:OpR X (Bk .Gt) (λx y H Q=>∃i j,x=.str i/\y=.str j/\Q (.bl (decide (j.cps.toList < i.cps.toList))) H):=by
 intro pins s σ H x y v u Q I rx ry h;obtain⟨i,j,rfl,rfl,q⟩:=h;obtain⟨t,rfl⟩:=rx;obtain⟨t',rfl⟩:=ry;exact P.gt_str (jav I q rfl)
def tyD:Ab->String
 |.none=>"NoneType"
 |.bool _=>"bool"
 |.int _=>"int"
 |.str _=>"str"
 |.list _=>"list"
 |.tuple _=>"tuple"
 |.dict _=>"dict"
def isiB (T:String) (d:Ab):Bool:=tyD d==T || (T=="int"&&tyD d=="bool")
def jcw (h:Str):Ab->Bool
 |.str x=>decide (x=h)
 |_=>false
theorem jjf {X:Cx} {elt tg iter:Expr} {ifs:List Expr} {scope:Eo} {cl:List (Str×Addr)} {cpos pos pos':Pos} {N:List Str} {fr:List (Option Nat)} {wi:TI} {g:TG} {tt:TT} {te:TE} {i:Nat} {x:Str}
  (hN:X.N.Nodup) (hix:X.N[i]?=some x) (hx:X.env.scope.names.lookup x=some .local)
  (hc:X.calm=true) (S:CompSc X N scope cl fr) (hi:PI X tg iter wi) (hg:∀s H fp,PG (jaw X N scope cl s H fp) tg g) (ht:∀s H fp,PIf (jaw X N scope cl s H fp) ifs tt)
  (he:∀s H fp,PE (jaw X N scope cl s H fp) elt te) (hs:∀x,Ec iter X.env x=pure x:=by intro _;rfl)
  (hsw:F2 (.ListComp elt [⟨tg,iter,ifs,0⟩] scope cpos) (some (.Name x pos')) pos.line X.env=pure true:=by rfl) :
  PS X (.Assign [.Name x pos'] (.ListComp elt [⟨tg,iter,ifs,0⟩] scope cpos) pos) (tAsg (jqs fr wi g tt te) (jgw i)):=by
 intro pins s σ H D I h;rw[exec_Assign_Name_used _ _ _ _ hsw];refine Aa (wpAny_standAt (Aa ?_));show Az _ _ (do let _ <-comprehension (.ListComp elt [⟨tg,iter,ifs,0⟩] scope cpos) scope X.env (firstIterPos [⟨tg,iter,ifs,0⟩] cpos) (newList []) (firstAsync [⟨tg,iter,ifs,0⟩]) (firstIter [⟨tg,iter,ifs,0⟩] X.env) (some (assign (.Name x pos') X.env))) _ _ s;refine Aa ?_;have fin:∀(u:Unit) (s':Ak),SP X pins D .next s'->Az (Ba X.prog X.w) X.A (pure Flow.next) (SP X pins D) X.xe s':=λ_ s' z=>Ai z
 refine thn (Q:=λ_ s'=>SP X pins D .next s') ?_ λ_ s' z=>Ai (Ai z);refine wpAny_comprehension_free (use:=some (assign (.Name x pos') X.env)) (cl:=cl) rfl hs S.clos S.kind S.names (thn (hi pins s σ H _ I h) λv s1 h1=>thn h1 λitv s2 h2=>?_);obtain⟨it,fp,tn,J,H2,e,I2,T,st2,f2,q⟩:=h2;subst e;refine Bg (wpAny_newFunctionEnv S.nocell (by intro y hy;simp at hy) (λh₁ hn hsb=>?_) S.kind);dsimp only at hn hsb ⊢;obtain⟨W,⟨m0,w0⟩,turn⟩:=q s2.heap.objs.size I2.fresh
 -- the state with the new list
 have I3:Inv X pins σ (upd H2 s2.heap.objs.size (.lst [])) {s2 with heap:=s2.heap.push {cls:=.type "list",dict:=none,data:=.seq ([]:List Ah).toArray}}:=I2.lnew (its:=[]) (t':=s2.toks) .nil (A3 _);have key:∀s3:Ak,s3={ s2 with heap:=s2.heap.push {cls:=.type "list",dict:=none,data:=.seq ([]:List Ah).toArray}}->Inv X pins σ (upd H2 s2.heap.objs.size (.lst [])) s3 ->
   ∀(ob:Obj) (mm:Str->Option Ah),Dd s3.heap.objs.size (s3.heap.push ob) h₁->h₁.Ns s3.heap.objs.size mm ->
   F9 (Ba X.prog X.w) X.A (.compStart (.ListComp elt [⟨tg,iter,ifs,0⟩] scope cpos) 0 (.ref it) (.ref s2.heap.objs.size) (compEnvC scope cl s3.heap.objs.size X.env))
    (compPost (Ba X.prog X.w) X.A X.xe (some (assign (.Name x pos') X.env)) (λ_ s'=>SP X pins D .next s') (.ref s2.heap.objs.size) s3.heap.objs.size) {s3 with heap:=h₁,toks:=s3.toks+([]:List (Str×Ah)).length}:=?key
 ·exact key _ rfl I3 _ _ hsb hn
 clear I3 hn hsb;intro s3 hs3 I3 ob mm hsb hn;have hfp:∀b∈fp,∃o,s2.heap.get? b=some o:=λb hb=>let⟨o,e,_⟩:=T.obj _ _ st2 b hb;⟨o,e⟩;have up:∀b o,s2.heap.get? b=some o->s3.heap.get? b=some o:=λb o e=>by rw[hs3];exact Ad _ e
 have f3:∀b∈fp,FpOk X pins (upd H2 s2.heap.objs.size (.lst [])) b:=λb hb=>by
  obtain⟨o,e⟩:=hfp b hb;obtain⟨g0,gr⟩:=f2 b hb;exact⟨by rw[jag (Bc (Ao e))];exact g0,gr⟩
 have hlt:∀b∈fp,b < s3.heap.objs.size:=λb hb=>let⟨o,e⟩:=hfp b hb;Ao (up b o e);generalize hH3:upd H2 s2.heap.objs.size (.lst [])=H3 at I3 f3 w0;have I4:=jjn (t':=s3.toks+([]:List (Str×Ah)).length) S I3 f3 hlt hsb hn;have st4:tn 0 h₁:=T.keep _ _ _ st2 λb hb o e=>(hsb.2 b (Bc (Ao (up b o e)))).trans (Ad _ (up b o e));have stat:∀{H':Hp},(∀b∈fp,H' b=none)->∀b∈fp,FpOk (jaw X N scope cl s3 H3 fp) [] H' b:=λhn b hb=>by
  obtain⟨_,k1,k2,k3,k4,k5⟩:=f3 b hb;refine⟨hn b hb,Bc (hlt b hb),λz=>?_,.inl hb,λx c e=>k4 x c (S.sub x c e),λp hp=>absurd hp (by simp[jaw])⟩;rcases Am.mp (I3.stkSub b z)with e | e
  ·exact k1 e
  ·exact k2 e
 have loop:F9 (Ba X.prog X.w) X.A (.compLoop (.ListComp elt [⟨tg,iter,ifs,0⟩] scope cpos) 0 (.ref it) (.ref s2.heap.objs.size) (compEnvC scope cl s3.heap.objs.size X.env))
   (compPost (Ba X.prog X.w) X.A X.xe (some (assign (.Name x pos') X.env)) (λ_ s'=>SP X pins D .next s') (.ref s2.heap.objs.size) s3.heap.objs.size) {s3 with heap:=h₁,toks:=s3.toks+([]:List (Str×Ah)).length}:=by
  refine jf9 (λn s'=>∃i ys τ Hc,Inv (jaw X N scope cl s3 H3 fp) [] τ Hc s'/\tn i s'.heap/\(∀b∈fp,Hc b=none)/\W i n ys τ Hc) ?_ m0 ⟨0,[],capt fr σ,H3,I4,st4,λb hb=>(f3 b hb).1,w0⟩
  rintro n s5 ⟨i,ys,τ,Hc,I5,st5,fr5,w5⟩
  rcases turn i n ys τ Hc w5 with⟨stop,qn⟩ | ⟨go,hz,step⟩
  ·refine thn (T.done (jaw X N scope cl s3 H3 fp) rfl rfl rfl hc i [] s5 τ Hc (λ_ _=>False) I5 (stat fr5) st5 stop) λr s6 ⟨hr,I6⟩=>?_;subst hr;obtain⟨mm,hm,_⟩:=I6.loc;have I6x:Inv X pins σ Hc s6:=jo1 I3 f3 I6 (Heap.SameBut.refl _ _);have hC:Hc s3.heap.objs.size=none:=I6.free;obtain⟨_,c1,_,c3,c4,c5⟩:=I3.fpOk (H':=Hc) (Al _) hC;show Az (Ba X.prog X.w) X.A (assign (.Name x pos') X.env (.ref s2.heap.objs.size)) _ X.xe s6;refine wpAny_assign_Name (jlo I6x hN hix (.inl hx) (show RelV (.ref s2.heap.objs.size) (Bw s2.heap.objs.size)from rfl) (λs7 I7 hsb=>?_) (.inr hx));obtain⟨ad,hsb,had⟩:=hsb;have hne:s3.heap.objs.size≠ad:=by
    rcases had with z | z
    ·rw[z];exact c1
    ·exact λq=>c4 x ad z q.symm
   obtain⟨oo,es,ep,ho,rr⟩:=hm;refine⟨mm,⟨oo,es,ep,(hsb.2 _ hne).trans ho,rr⟩,λh' hs'=>⟨_,Hc,?_,qn⟩⟩;have ne:∀b,b∉[s3.heap.objs.size]->b≠s3.heap.objs.size:=λb z q=>z (by rw[q];exact Bd.mpr rfl);have hok':HOk X.prog X.w Hc h':=λb o e=>by
    refine(I7.hok b o e).stay (λc v hc z=>(hs'.2 c ?_).trans z) (λ_ z=>z) λ_ _ z=>z
    rintro rfl
    rcases hc with z | z
    ·rw[<-z,hC]at e;cases e
    ·rw[hC]at z;cases z
   refine I7.call' (s':={ s7 with heap:=h'}) (ch:=[s3.heap.objs.size]) rfl ?_ hok' I7.bare λb hb=>?_
   ·exact⟨λb o e n h1 h2=>(hs'.2 b (ne b h2)).trans e,λb o e n h1 h2=>⟨o.slots,(hs'.2 b (ne b h2)).trans e⟩,λb o e n h2=>n,λb o e h2=>⟨o,(hs'.2 b (ne b h2)).trans e⟩,λ_ _ z=>z,λ_ _ _ z=>z,λb ps z=>⟨#[],by rw[Array.append_empty];exact z⟩⟩
   ·cases Bd.mp hb;exact⟨c3,c1,c4,c5⟩
  ·refine thn (T.item (jaw X N scope cl s3 H3 fp) rfl rfl rfl hc i [] s5 τ Hc (λ_ _=>False) I5 (stat fr5) st5 go) λr s6 ⟨u,hr,h6⟩=>?_;subst hr;refine thn h6 λ_ s7 ⟨x,H7,I7,r7,y7,st7,fr7⟩=>?_;have I7':=I7.pinned (stat fr7) (T.obj _ _ st7);refine thn (hg s3 H3 fp _ s7 τ H7 x u _ I7' r7 (step x H7 y7)) λ_ s8 ⟨τ8,H8,I8,q8⟩=>?_;refine thn (ht s3 H3 fp _ s8 τ8 H8 _ I8 q8) λok s9 ⟨H9,I9,q9⟩=>?_;have keep:∀{st:Ak} {τ':St} {H':Hp},Inv (jaw X N scope cl s3 H3 fp) ([]++jjg fp s7.heap) τ' H' st->tn (i+1) st.heap/\∀b∈fp,H' b=none:=λ{st τ' H'} Ix=>by
    refine⟨T.keep _ _ _ st7 λb hb o e=>(Ix.pin (b,o) (Bb _ (Bb _ (jbz hb e)))).1,λb hb=>?_⟩;obtain⟨o,e,d⟩:=T.obj _ _ st7 b hb;exact(Ix.pin (b,o) (Bb _ (Bb _ (jbz hb e)))).2.1
   cases ok with
   |false =>
    rw[if_neg An]at q9 ⊢;obtain⟨m',hm,w9⟩:=q9;obtain⟨k1,k2⟩:=keep I9;exact⟨m',hm,i+1,ys,τ8,H9,I9.unpinned,k1,k2,w9⟩
   |true =>
    rw[if_pos rfl]at q9 ⊢;refine thn (he s3 H3 fp _ s9 τ8 H9 _ I9 q9) λxv s10 ⟨y,H10,I10,r10,hD,m',hm,w10⟩=>?_;refine thn (jhh _ s10 τ8 H10 (.ref s2.heap.objs.size) [y] (.ref s2.heap.objs.size) [xv] (λz H'=>∃m',m' < n/\W (i+1) m' (ys++[y]) τ8 H') I10 rfl (.cons r10 .nil) ⟨_,ys,y,rfl,rfl,hD,hz,m',hm,w10⟩) λz s11 ⟨z',H11,I11,_,m'',hm',w11⟩=>?_;obtain⟨k1,k2⟩:=keep I11;exact⟨m'',hm',i+1,ys++[y],τ8,H11,I11.unpinned,k1,k2,w11⟩
 exact codeAny_compStart_list loop (T.self _ 0 _ _ _ st4 loop)
end L2
set_option Elab.async false
set_option maxRecDepth 100000
namespace Nb
open PySem L2
def Kp (t:Addr) (H H':Hp):Prop:=∀b o,H b=some o->b≠t->H' b=some o
theorem Kp.refl (t:Addr) (H:Hp):Kp t H H:=λ_ _ h _=>h
theorem Kp.trans {t:Addr} {H H1 H2:Hp} (a:Kp t H H1) (b:Kp t H1 H2):Kp t H H2:=λc o h n=>b c o (a c o h n) n
theorem Kp.new {t p:Addr} {H:Hp} {o:HO} (h:H p=none):Kp t H (upd H p o):=λc o' e _=>by
 rw[jag (jaf e h)];exact e
theorem Kp.tape {t:Addr} {H:Hp} {o:HO}:Kp t H (upd H t o):=λc o' e n=>by
 rw[jag n];exact e
structure TL where
 s:Addr
 g:Addr
def exOf (l:TL):List V:=if jqn=true then[.ref l.g]else[]
structure Tp (H:Hp) (t:Addr) (l:TL) (ns:List Int) (n:Int):Prop where
 ob:∃a b:Int,H t=some (.lst (.ref l.s::.int a::.int b::exOf l))/\0<=a/\a<=n
 ls:H l.s=some (.lst (ns.map V.int))
 len:ns.length<=63
 ag:jqn=true->H l.g=some (.lst jvm)
 gne:l.g≠t
theorem Tp.ne {H:Hp} {t:Addr} {l:TL} {ns:List Int} {n:Int} (T:Tp H t l ns n):t≠l.s:=by
 obtain⟨a,b,h,_⟩:=T.ob;refine j3l h T.ls λz=>?_;have z':(.ref l.s::.int a::.int b::exOf l:List V)=ns.map V.int:=HO.lst.inj z;cases ns with
 |nil=>cases z'
 |cons m r =>
  rw[Bi]at z';have:=(Dl z').1;cases this
theorem Tp.other {H:Hp} {t p:Addr} {l:TL} {ns:List Int} {n:Int} {o:HO} (T:Tp H t l ns n) (h1:t≠p) (h2:l.s≠p) (h3:jqn=true->l.g≠p):Tp (upd H p o) t l ns n:=by
 obtain⟨a,b,e,h⟩:=T.ob;exact⟨⟨a,b,by rw[jag h1];exact e,h⟩,by rw[jag h2];exact T.ls,T.len,λz=>by rw[jag (h3 z)];exact T.ag z,T.gne⟩
theorem Tp.new {H:Hp} {t p:Addr} {l:TL} {ns:List Int} {n:Int} {o:HO} (T:Tp H t l ns n) (h:H p=none):Tp (upd H p o) t l ns n:=by
 obtain⟨a,b,e,_⟩:=T.ob;exact T.other (jaf e h) (jaf T.ls h) λz=>jaf (T.ag z) h
theorem jy8 {xs:List V} {r:Int} (h0:0<=r) (h1:r < xs.length):∃v,atI xs r=some v/\v∈xs:=by
 obtain⟨j,rfl⟩:=Cs h0;have hj:j < xs.length:=by omega
 exact⟨xs[j],jbc (Ag hj),F6 hj⟩
theorem jrb {n:Nat} (h:n<=1000):n<=Ay:=Nat.le_of_lt (jlu h)
theorem jvf:By "tuple"=some (.type "tuple"):=by decide +kernel
theorem j2p:By "int"=some (.type "int"):=by decide +kernel
theorem j2n:By "str"=some (.type "str"):=by decide +kernel
theorem jy5:By "repr"=some (.builtin "repr"):=by decide +kernel
theorem jwm:By "isinstance"=some (.builtin "isinstance"):=by decide +kernel
theorem j2q:By "all"=some (.builtin "all"):=by decide +kernel
theorem jny:By "list"=some (.type "list"):=by decide +kernel
theorem jy6:By "bool"=some (.type "bool"):=by decide +kernel
theorem j4l {xs:List V} (h:xs.length<=63):cutV xs none (some 63)=xs:=by
 unfold cutV;have e1:HT.sIx xs.length 0 none=0:=rfl;have e2:HT.sIx xs.length xs.length (some 63)=xs.length:=by
  have e:=HT.sIx_nat xs.length xs.length 63;rw[show((63:Nat):Int)=63 from rfl]at e;rw[e];omega
 rw[e1,e2,List.drop_zero,Nat.sub_zero,List.take_length]
def jlp (K:Aj):Sp:=λvs H Q _=>∃(a:Addr) (ns:List Int),vs=[.ref a]/\SqL K H a (ns.map V.int)/\ns.length<=63 /\
 ∀(t:Addr) (l:TL) (H':Hp),Tp H' t l ns 0->(∀b o,H b=some o->H' b=some o)->Q (.ref t) H'
def jvw:Sp:=λvs H Q _=>∃(t:Addr) (l:TL) (ns:List Int) (n many:Int),vs=[.ref t,.int many]/\Tp H t l ns n/\n < 2 ^ 40/\0 < many/\many < 1073741824 /\
 ∀(r:Int) (H':Hp),0<=r->r < many->Tp H' t l ns (n+1)->Kp t H H'->Q (.int r) H'
end Nb
namespace DL
open PySem L2 Nb
abbrev D:=Ab
mutual
inductive RdX (H:Hp) (B:Addr->Prop):V->Ab->Prop
 |non:RdX H B .non .none
 |bl (b:Bool):RdX H B (.bl b) (.bool b)
 |int (i:Int):RdX H B (.int i) (.int i)
 |str (x:Str) (h:x.length<=Ay):RdX H B (.str x) (.str x)
 |lst {a:Addr} {xs:List V} {ds:List Ab}:H a=some (.lst xs)->¬B a->xs.length<=Ay->RdXs H B xs ds->RdX H B (.ref a) (.list ds)
 |tup {a:Addr} {xs:List V} {ds:List Ab}:H a=some (.tup xs)->¬B a->xs.length<=Ay->RdXs H B xs ds->RdX H B (.ref a) (.tuple ds)
inductive RdXs (H:Hp) (B:Addr->Prop):List V->List Ab->Prop
 |nil:RdXs H B [] []
 |cons {x:V} {xs:List V} {d:Ab} {ds:List Ab}:RdX H B x d->RdXs H B xs ds->RdXs H B (x::xs) (d::ds)
end
mutual
theorem RdX.move {H H':Hp} {B B':Addr->Prop} (k:∀b o,H b=some o->¬B b->H' b=some o/\¬B' b):∀{v:V} {d:Ab},RdX H B v d->RdX H' B' v d
 |_,_,.non=>.non
 |_,_,.bl b=>.bl b
 |_,_,.int i=>.int i
 |_,_,.str x h=>.str x h
 |_,_,.lst h1 h2 h3 h4=>.lst (k _ _ h1 h2).1 (k _ _ h1 h2).2 h3 (RdXs.move k h4)
 |_,_,.tup h1 h2 h3 h4=>.tup (k _ _ h1 h2).1 (k _ _ h1 h2).2 h3 (RdXs.move k h4)
theorem RdXs.move {H H':Hp} {B B':Addr->Prop} (k:∀b o,H b=some o->¬B b->H' b=some o/\¬B' b):∀{vs:List V} {ds:List Ab},RdXs H B vs ds->RdXs H' B' vs ds
 |_,_,.nil=>.nil
 |_,_,.cons h1 h2=>.cons (RdX.move k h1) (RdXs.move k h2)
end
section
variable {H H':Hp} {B B':Addr->Prop} {v:V} {d:Ab} {vs ws:List V} {ds es:List Ab} {t:Addr}
theorem RdX.kp (k:Kp t H H') (ht:B t) (h:RdX H B v d):RdX H' B v d:=h.move λb o e n=>⟨k b o e λz=>n (z▸ht),n⟩
theorem RdXs.kp (k:Kp t H H') (ht:B t) (h:RdXs H B vs ds):RdXs H' B vs ds:=h.move λb o e n=>⟨k b o e λz=>n (z▸ht),n⟩
theorem RdX.less (k:∀b,B' b->B b) (h:RdX H B v d):RdX H B' v d:=h.move λb o e n=>⟨e,λz=>n (k b z)⟩
theorem RdXs.less (k:∀b,B' b->B b) (h:RdXs H B vs ds):RdXs H B' vs ds:=h.move λb o e n=>⟨e,λz=>n (k b z)⟩
theorem RdXs.keep (k:∀b o,H b=some o->¬B b->H' b=some o) (h:RdXs H B vs ds):RdXs H' B vs ds:=h.move λb o e n=>⟨k b o e n,n⟩
theorem RdXs.len:∀{vs:List V} {ds:List Ab},RdXs H B vs ds->vs.length=ds.length
 |_,_,.nil=>rfl
 |_,_,.cons _ t=>by rw[A1,A1,RdXs.len t]
theorem RdXs.getD:∀{vs:List V} {ds:List Ab} {i:Nat} {d:Ab},RdXs H B vs ds->ds[i]?=some d->∃v,vs[i]?=some v/\RdX H B v d
 |_,_,_,_,.nil,e=>by simp at e
 |_,_,0,_,.cons h _,e=>by
  simp at e;subst e;exact⟨_,rfl,h⟩
 |_,_,i+1,d,.cons _ t,e=>by
  obtain⟨v,h1,h2⟩:=RdXs.getD (i:=i) (d:=d) t (by simpa using e);exact⟨v,by simpa using h1,h2⟩
theorem RdXs.append:∀{vs ws:List V} {ds es:List Ab},RdXs H B vs ds->RdXs H B ws es->RdXs H B (vs++ws) (ds++es)
 |_,_,_,_,.nil,h=>h
 |_,_,_,_,.cons h1 h2,h=>.cons h1 (RdXs.append h2 h)
theorem RdXs.set:∀{vs:List V} {ds:List Ab} (i:Nat) {v:V} {d:Ab},RdXs H B vs ds->RdX H B v d->RdXs H B (vs.set i v) (ds.set i d)
 |_,_,_,_,_,.nil,_=>.nil
 |_,_,0,_,_,.cons _ t,h=>.cons h t
 |_,_,i+1,_,_,.cons q t,h=>.cons q (RdXs.set i t h)
theorem RdXs.take:∀{vs:List V} {ds:List Ab} (n:Nat),RdXs H B vs ds->RdXs H B (vs.take n) (ds.take n)
 |_,_,0,_=>.nil
 |_,_,_+1,.nil=>.nil
 |_,_,n+1,.cons r t=>.cons r (RdXs.take n t)
theorem RdXs.drop:∀{vs:List V} {ds:List Ab} (n:Nat),RdXs H B vs ds->RdXs H B (vs.drop n) (ds.drop n)
 |_,_,0,r=>r
 |_,_,_+1,.nil=>.nil
 |_,_,n+1,.cons _ t=>RdXs.drop n t
end
mutual
theorem RdX.rd {K:Aj} {H:Hp} {B:Addr->Prop}:∀{v:V} {d:Ab},RdX H B v d->RdD K H v d
 |_,_,.non=>.non
 |_,_,.bl b=>.bl b
 |_,_,.int i=>.int i
 |_,_,.str x h=>.str x
 |_,_,.lst h1 h2 h3 h4=>.lst (SqL.of h1) (RdXs.rd h4)
 |_,_,.tup h1 h2 h3 h4=>.tup (SqT.of h1) (RdXs.rd h4)
theorem RdXs.rd {K:Aj} {H:Hp} {B:Addr->Prop}:∀{vs:List V} {ds:List Ab},RdXs H B vs ds->RdAll K H vs ds
 |_,_,.nil=>.nil
 |_,_,.cons h1 h2=>.cons (RdX.rd h1) (RdXs.rd h2)
end
inductive Ob where
 |o | p (d:Ab) | k (m:List (Key×Ab)) | q (d:Ab) (m:List (Key×Ab))
inductive Wv where
 |d (x:Ab) | tp | dk (kvs:List (Key×Ab)) | ln (ds:List Ab) | ob (o:Ob)
def Wv.lent:Wv->Bool
 |.dk _=>true
 |.ln _=>true
 |_=>false
inductive SV where
 |w (x:Wv) | own (ds:List Ab) | odk (kvs:List (Key×Ab)) | odt (kvs:List (List Key×Ab))
abbrev Sl:=List (Option SV)
def RdK (H:Hp) (B:Addr->Prop):List (Key×V)->List (Key×Ab)->Prop:=Paired λp q=>p.1=q.1/\RdX H B p.2 q.2
theorem RdK.move {H H':Hp} {B B':Addr->Prop} (k:∀b o,H b=some o->¬B b->H' b=some o/\¬B' b) {l:List (Key×V)} {m:List (Key×Ab)} (h:RdK H B l m):RdK H' B' l m :=
 Paired.mapP h λ_ _ z=>⟨z.1,z.2.move k⟩
def RdT (H:Hp) (B:Addr->Prop):List (List Key×V)->List (List Key×Ab)->Prop:=Paired λp q=>p.1=q.1/\RdX H B p.2 q.2
theorem RdT.move {H H':Hp} {B B':Addr->Prop} (k:∀b o,H b=some o->¬B b->H' b=some o/\¬B' b) {l:List (List Key×V)} {m:List (List Key×Ab)} (h:RdT H B l m):RdT H' B' l m :=
 Paired.mapP h λ_ _ z=>⟨z.1,z.2.move k⟩
def ORel (H:Hp) (B:Addr->Prop) (v:V):Ob->Prop
 |.o=>∃a,v=.ref a
 |.p d=>∃a x y,v=.ref a/\H a=some (.tup [x,y])/\¬B a/\RdX H B x d
 |.k m=>∃a l,v=.ref a/\H a=some (.dK l)/\¬B a/\RdK H B l m
 |.q d m=>∃a x b l,v=.ref a/\H a=some (.tup [x,.ref b])/\¬B a/\RdX H B x d/\H b=some (.dK l)/\¬B b/\RdK H B l m
theorem ORel.move {H H':Hp} {B B':Addr->Prop} (k:∀b o,H b=some o->¬B b->H' b=some o/\¬B' b) {v:V} {o:Ob} (h:ORel H B v o):ORel H' B' v o:=by
 cases o with
 |o=>exact h
 |p d =>
  obtain⟨a,x,y,e,h1,h2,h3⟩:=h;exact⟨a,x,y,e,(k _ _ h1 h2).1,(k _ _ h1 h2).2,h3.move k⟩
 |k m =>
  obtain⟨a,l,e,h1,h2,h3⟩:=h;exact⟨a,l,e,(k _ _ h1 h2).1,(k _ _ h1 h2).2,h3.move k⟩
 |q d m =>
  obtain⟨a,x,b,l,e,h1,h2,h3,h4,h5,h6⟩:=h;exact⟨a,x,b,l,e,(k _ _ h1 h2).1,(k _ _ h1 h2).2,h3.move k,(k _ _ h4 h5).1,(k _ _ h4 h5).2,h6.move k⟩
def WRel (H:Hp) (B:Addr->Prop) (t:Addr) (v:V):Wv->Prop
 |.d x=>RdX H B v x
 |.tp=>v=.ref t
 |.dk kvs=>∃a l,v=.ref a/\H a=some (.dK l)/\a≠t/\RdK H B l kvs
 |.ln ds=>∃a xs,v=.ref a/\H a=some (.lst xs)/\a≠t/\xs.length<=Ay/\RdXs H B xs ds
 |.ob o=>ORel H B v o
def SRel (H0:Hp) (H:Hp) (B:Addr->Prop) (t:Addr) (v:V):SV->Prop
 |.w x=>WRel H B t v x/\(x.lent=true->∃a,v=.ref a/\H0 a≠none)
 |.own ds=>∃a xs,v=.ref a/\H a=some (.lst xs)/\B a/\H0 a=none/\xs.length<=Ay/\RdXs H B xs ds
 |.odk kvs=>∃a l,v=.ref a/\H a=some (.dK l)/\B a/\H0 a=none/\l.length<=1000/\RdK H B l kvs
 |.odt kvs=>∃a l,v=.ref a/\H a=some (.dT l)/\B a/\H0 a=none/\l.length<=1000/\RdT H B l kvs
def SV.isOwn:SV->Bool
 |.w _=>false
 |_=>true
structure Ctx where
 t:Addr
 l:TL
 ns:List Int
 H0:Hp
 B0:Addr->Prop
 fz:Hp
structure Rel (C:Ctx) (H:Hp) (B:Addr->Prop) (σ:St) (δ:Sl) (n:Int):Prop where
 tp:Tp H C.t C.l C.ns n
 kp:Kp C.t C.H0 H
 t0:C.H0 C.t≠none
 l0:C.H0 C.l.s≠none
 g0:jqn=true->C.H0 C.l.g≠none
 fz:∀b o,C.fz b=some o->H b=some o/\¬B b
 bt:B C.t
 b0:∀b,C.B0 b->B b
 ba:∀b,B b->H b≠none
 a0:∀b,C.B0 b->C.H0 b≠none
 sl:∀(i:Nat) (x:SV),δ[i]?=some (some x)->∃v,σ[i]?=some (some v)/\SRel C.H0 H B C.t v x
 ow:∀(i j:Nat) (x y:SV) (v:V),δ[i]?=some (some x)->δ[j]?=some (some y)->x.isOwn=true->y.isOwn=true->σ[i]?=some (some v)->σ[j]?=some (some v)->i=j
 len:σ.length=δ.length
theorem WRel.kp {H H':Hp} {B:Addr->Prop} {t:Addr} {v:V} {x:Wv} (k:Kp t H H') (ht:B t) (h:WRel H B t v x):WRel H' B t v x:=by
 cases x with
 |d x=>exact RdX.kp k ht h
 |tp=>exact h
 |dk kvs =>
  obtain⟨a,l,e,h1,h2,h3⟩:=h;exact⟨a,l,e,k _ _ h1 h2,h2,h3.move λb o e n=>⟨k b o e λz=>n (z▸ht),n⟩⟩
 |ln ds =>
  obtain⟨a,l,e,h1,h2,h3,h4⟩:=h;exact⟨a,l,e,k _ _ h1 h2,h2,h3,h4.kp k ht⟩
 |ob o=>exact ORel.move (λb o e n=>⟨k b o e λz=>n (z▸ht),n⟩) h
theorem WRel.less {H:Hp} {B B':Addr->Prop} {t:Addr} {v:V} {x:Wv} (k:∀b,B' b->B b) (h:WRel H B t v x):WRel H B' t v x:=by
 cases x with
 |d x=>exact RdX.less k h
 |tp=>exact h
 |dk kvs =>
  obtain⟨a,l,e,h1,h2,h3⟩:=h;exact⟨a,l,e,h1,h2,h3.move λb o e n=>⟨e,λz=>n (k b z)⟩⟩
 |ln ds =>
  obtain⟨a,l,e,h1,h2,h3,h4⟩:=h;exact⟨a,l,e,h1,h2,h3,h4.less k⟩
 |ob o=>exact ORel.move (λb o e n=>⟨e,λz=>n (k b z)⟩) h
theorem SRel.kp {H0 H H':Hp} {B:Addr->Prop} {t:Addr} {v:V} {x:SV} (k:Kp t H H') (ht:B t) (t0:H0 t≠none) (h:SRel H0 H B t v x):SRel H0 H' B t v x:=by
 cases x with
 |w x=>exact⟨h.1.kp k ht,h.2⟩
 |own ds =>
  obtain⟨a,xs,e,h1,h2,h3,h4,h5⟩:=h;exact⟨a,xs,e,k _ _ h1 (λz=>t0 (z▸h3)),h2,h3,h4,h5.kp k ht⟩
 |odk kvs =>
  obtain⟨a,l,e,h1,h2,h3,h4,h5⟩:=h;exact⟨a,l,e,k _ _ h1 (λz=>t0 (z▸h3)),h2,h3,h4,h5.move λb o e n=>⟨k b o e λz=>n (z▸ht),n⟩⟩
 |odt kvs =>
  obtain⟨a,l,e,h1,h2,h3,h4,h5⟩:=h;exact⟨a,l,e,k _ _ h1 (λz=>t0 (z▸h3)),h2,h3,h4,h5.move λb o e n=>⟨k b o e λz=>n (z▸ht),n⟩⟩
theorem Rel.step {C:Ctx} {H H':Hp} {B:Addr->Prop} {σ:St} {δ:Sl} {n n':Int} (R:Rel C H B σ δ n) (T:Tp H' C.t C.l C.ns n') (k:Kp C.t H H'):Rel C H' B σ δ n' where
 tp:=T
 kp:=R.kp.trans k
 t0:=R.t0
 l0:=R.l0
 g0:=R.g0
 fz:=λb o e=>⟨k b o (R.fz b o e).1 λz=>(R.fz b o e).2 (z▸R.bt),(R.fz b o e).2⟩
 bt:=R.bt
 b0:=R.b0
 ba:=λb hb e=>by
  by_cases z:b=C.t
  ·subst z;obtain⟨x,y,h,_⟩:=T.ob;rw[h]at e;cases e
  ·cases q:H b with
   |none=>exact R.ba b hb q
   |some o=>rw[k b o q z]at e;cases e
 a0:=R.a0
 sl:=λi x e=>by
  obtain⟨v,h1,h2⟩:=R.sl i x e;exact⟨v,h1,h2.kp k R.bt R.t0⟩
 ow:=R.ow
 len:=R.len
theorem Rel.new {C:Ctx} {H:Hp} {B:Addr->Prop} {σ:St} {δ:Sl} {n:Int} {p:Addr} {o:HO} (R:Rel C H B σ δ n) (h:H p=none):Rel C (upd H p o) B σ δ n:=R.step (R.tp.new h) (Kp.new h)
theorem Rel.nb {C:Ctx} {H:Hp} {B:Addr->Prop} {σ:St} {δ:Sl} {n:Int} {p:Addr} (R:Rel C H B σ δ n) (h:H p=none):¬B p:=λz=>R.ba p z h
theorem jaq {α:Type} {l:List (Option α)} {i j:Nat} {x y:α} (h:(l.set i (some x))[j]?=some (some y)):(j=i/\y=x)\/(j≠i/\l[j]?=some (some y)):=by
 by_cases e:i=j
 ·subst e;rw[Fu]at h;cases q:l[i]? with
  |none=>rw[q]at h;cases h
  |some z =>
   rw[q]at h;exact .inl ⟨rfl,(Bj (Bj h)).symm⟩
 ·rw[C8 e]at h;exact .inr ⟨λz=>e z.symm,h⟩
theorem joi {α:Type} {l:List (Option α)} {i:Nat} {x y:Option α} (h:(l.set i x)[i]?=some y):i < l.length:=by
 have:=(A6.mp h).1;rwa [De]at this
theorem jb4 {α:Type} {l:List (Option α)} {i:Nat} {x:α} (h:i < l.length):(l.set i (some x))[i]?=some (some x):=by simp[h]
theorem jbi {α:Type} {l:List (Option α)} {i j:Nat} {x:α} (h:j≠i):(l.set i (some x))[j]?=l[j]?:=C8 (λz=>h z.symm)
theorem Rel.set {C:Ctx} {H:Hp} {B:Addr->Prop} {σ:St} {δ:Sl} {n:Int} {i:Nat} {v:V} {x:Wv} (R:Rel C H B σ δ n) (h:WRel H B C.t v x) (hx:x.lent=false):Rel C H B (σ.set i (some v)) (δ.set i (some (.w x))) n where
 tp:=R.tp
 kp:=R.kp
 t0:=R.t0
 l0:=R.l0
 g0:=R.g0
 fz:=R.fz
 bt:=R.bt
 b0:=R.b0
 ba:=R.ba
 a0:=R.a0
 sl:=λj y e=>by
  rcases jaq e with⟨rfl,rfl⟩ | ⟨ne,e'⟩
  ·exact⟨v,jb4 (by rw[R.len];exact joi e),h,λz=>by rw[hx]at z;cases z⟩
  ·obtain⟨u,h1,h2⟩:=R.sl j y e';exact⟨u,by rw[jbi ne];exact h1,h2⟩
 ow:=λj k y z u e1 e2 o1 o2 f1 f2=>by
  rcases jaq e1 with⟨rfl,rfl⟩ | ⟨ne1,e1'⟩
  ·cases o1
  ·rcases jaq e2 with⟨rfl,rfl⟩ | ⟨ne2,e2'⟩
   ·cases o2
   ·rw[jbi ne1]at f1;rw[jbi ne2]at f2;exact R.ow j k y z u e1' e2' o1 o2 f1 f2
 len:=by rw[De,De];exact R.len
theorem Rel.mut {C:Ctx} {H:Hp} {B:Addr->Prop} {σ:St} {δ:Sl} {n:Int} {a:Addr} {o:HO} (R:Rel C H B σ δ n) (hb:B a) (h0:C.H0 a=none)
  (ho:∀(i:Nat) (x:SV),δ[i]?=some (some x)->x.isOwn=true->σ[i]?≠some (some (.ref a))):Rel C (upd H a o) B σ δ n where
 tp:=R.tp.other (λz=>R.t0 (z▸h0)) (λz=>R.l0 (z▸h0)) (λe z=>R.g0 e (z▸h0))
 kp:=λb o' e ne=>by
  rw[jag (jaf e h0)];exact R.kp b o' e ne
 t0:=R.t0
 l0:=R.l0
 g0:=R.g0
 fz:=λb o' e=>⟨by rw[jag λ(z:b=a)=>(R.fz b o' e).2 (z▸hb)];exact(R.fz b o' e).1,(R.fz b o' e).2⟩
 bt:=R.bt
 b0:=R.b0
 ba:=λb hb' e=>by
  by_cases z:b=a
  ·rw[z,jaj]at e;cases e
  ·rw[jag z]at e;exact R.ba b hb' e
 a0:=R.a0
 sl:=λi x e=>by
  obtain⟨v,h1,h2⟩:=R.sl i x e;have mv:∀b o',H b=some o'->¬B b->upd H a o b=some o'/\¬B b:=λb o' e n=>⟨by rw[jag λ(z:b=a)=>n (z▸hb)];exact e,n⟩;refine⟨v,h1,?_⟩;cases x with
  |w x =>
   refine⟨?_,h2.2⟩;cases x with
   |d x=>exact h2.1.move mv
   |tp=>exact h2.1
   |dk kvs =>
    obtain⟨a',l,e1,e2,e3,e4⟩:=h2.1;obtain⟨a'',f1,f2⟩:=h2.2 rfl;rw[e1]at f1;cases f1;exact⟨a',l,e1,by rw[jag λ(z:a'=a)=>f2 (z▸h0)];exact e2,e3,e4.move mv⟩
   |ln ds =>
    obtain⟨a',l,e1,e2,e3,e4,e5⟩:=h2.1;obtain⟨a'',f1,f2⟩:=h2.2 rfl;rw[e1]at f1;cases f1;exact⟨a',l,e1,by rw[jag λ(z:a'=a)=>f2 (z▸h0)];exact e2,e3,e4,e5.move mv⟩
   |ob o=>exact ORel.move mv h2.1
  |own ds =>
   obtain⟨a',xs,e1,e2,e3,e4,e5,e6⟩:=h2;have ne:a'≠a:=λz=>ho i _ e rfl (by rw[h1,e1,z]);exact⟨a',xs,e1,by rw[jag ne];exact e2,e3,e4,e5,e6.move mv⟩
  |odk kvs =>
   obtain⟨a',xs,e1,e2,e3,e4,e5,e6⟩:=h2;have ne:a'≠a:=λz=>ho i _ e rfl (by rw[h1,e1,z]);exact⟨a',xs,e1,by rw[jag ne];exact e2,e3,e4,e5,e6.move mv⟩
  |odt kvs =>
   obtain⟨a',xs,e1,e2,e3,e4,e5,e6⟩:=h2;have ne:a'≠a:=λz=>ho i _ e rfl (by rw[h1,e1,z]);exact⟨a',xs,e1,by rw[jag ne];exact e2,e3,e4,e5,e6.move mv⟩
 ow:=R.ow
 len:=R.len
theorem Rel.mutOwn {C:Ctx} {H:Hp} {B:Addr->Prop} {σ:St} {δ:Sl} {n:Int} {i:Nat} {x x':SV} {a:Addr} {o:HO} (R:Rel C H B σ δ n) (hi:δ[i]?=some (some x)) (hx:x.isOwn=true) (hσ:σ[i]?=some (some (.ref a))) (hb:B a) (h0:C.H0 a=none)
  (h:SRel C.H0 (upd H a o) B C.t (.ref a) x') (hx':x'.isOwn=true):Rel C (upd H a o) B σ (δ.set i (some x')) n:=by
 -- first the other slots: slot i is taken out
 have R1:Rel C H B σ (δ.set i none) n:={
  tp:=R.tp,kp:=R.kp,t0:=R.t0,l0:=R.l0,g0:=R.g0,fz:=R.fz,bt:=R.bt,b0:=R.b0,ba:=R.ba,a0:=R.a0
  sl:=λj y e=>by
   by_cases z:i=j
   ·subst z;rw[Fu]at e;rw[hi]at e;cases e
   ·rw[C8 z]at e;exact R.sl j y e
  ow:=λj k y z u e1 e2 o1 o2 f1 f2=>by
   have g:∀{m:Nat} {w:SV},(δ.set i none)[m]?=some (some w)->δ[m]?=some (some w):=λ{m w} e=>by
    by_cases q:i=m
    ·subst q;rw[Fu,hi]at e;cases e
    ·rwa [C8 q]at e
   exact R.ow j k y z u (g e1) (g e2) o1 o2 f1 f2
  len:=by rw[De];exact R.len}
 have R2:Rel C (upd H a o) B σ (δ.set i none) n:=R1.mut hb h0 λj y e oy f=>by
  by_cases z:i=j
  ·subst z;rw[Fu,hi]at e;cases e
  ·rw[C8 z]at e;exact z (R.ow i j x y _ hi e hx oy hσ f)
 have hlt:i < δ.length:=(A6.mp hi).1;exact{
  tp:=R2.tp,kp:=R2.kp,t0:=R2.t0,l0:=R2.l0,g0:=R2.g0,fz:=R2.fz,bt:=R2.bt,b0:=R2.b0,ba:=R2.ba,a0:=R2.a0
  sl:=λj y e=>by
   rcases jaq e with⟨rfl,rfl⟩ | ⟨ne,e'⟩
   ·exact⟨_,hσ,h⟩
   ·exact R2.sl j y (by rw[C8 λz=>ne z.symm];exact e')
  ow:=λj k y z u e1 e2 o1 o2 f1 f2=>by
   rcases jaq e1 with⟨rfl,rfl⟩ | ⟨ne1,e1'⟩
   ·rcases jaq e2 with⟨rfl,rfl⟩ | ⟨ne2,e2'⟩
    ·rfl
    ·exact R.ow _ _ x z u hi e2' hx o2 f1 f2
   ·rcases jaq e2 with⟨rfl,rfl⟩ | ⟨ne2,e2'⟩
    ·exact R.ow _ _ y x u e1' hi o1 hx f1 f2
    ·exact R.ow j k y z u e1' e2' o1 o2 f1 f2
  len:=by rw[De];exact R.len}
theorem Rel.own {C:Ctx} {H H':Hp} {B:Addr->Prop} {σ:St} {δ:Sl} {n n':Int} {i:Nat} {a:Addr} {x:SV} (R:Rel C H B σ δ n) (R':Rel C H' B σ δ n') (k:Kp C.t H H') (h0:H a=none) (h1:H' a≠none) (hx:x.isOwn=true)
  (h:SRel C.H0 H' (λb=>B b\/b=a) C.t (.ref a) x):Rel C H' (λb=>B b\/b=a) (σ.set i (some (.ref a))) (δ.set i (some x)) n' where
 tp:=R'.tp
 kp:=R'.kp
 t0:=R'.t0
 l0:=R'.l0
 g0:=R'.g0
 fz:=λb o e=>⟨(R'.fz b o e).1,λz=>z.elim (R'.fz b o e).2 λq=>jaf (R.fz b o e).1 h0 q⟩
 bt:=.inl R.bt
 b0:=λb z=>.inl (R.b0 b z)
 ba:=λb z=>z.elim (R'.ba b) λq=>q▸h1
 a0:=R.a0
 sl:=λj y e=>by
  have hta:C.t≠a:=λz=>by
   obtain⟨_,_,q,_⟩:=R.tp.ob;rw[z,h0]at q;cases q
  have mv:∀b o',H b=some o'->¬B b->H' b=some o'/\¬(B b\/b=a):=λb o' e n=>⟨k b o' e λz=>n (z▸R.bt),λz=>z.elim n λq=>jaf e h0 q⟩;rcases jaq e with⟨rfl,rfl⟩ | ⟨ne,e'⟩
  ·exact⟨_,jb4 (by rw[R.len];exact joi e),h⟩
  ·obtain⟨v,f1,f2⟩:=R.sl j y e';refine⟨v,by rw[jbi ne];exact f1,?_⟩;cases y with
   |w y =>
    refine⟨?_,f2.2⟩;cases y with
    |d y=>exact f2.1.move mv
    |tp=>exact f2.1
    |dk kvs =>
     obtain⟨a',l,e1,e2,e3,e4⟩:=f2.1;exact⟨a',l,e1,k _ _ e2 e3,e3,e4.move mv⟩
    |ln ds =>
     obtain⟨a',l,e1,e2,e3,e4,e5⟩:=f2.1;exact⟨a',l,e1,k _ _ e2 e3,e3,e4,e5.move mv⟩
    |ob o=>exact ORel.move mv f2.1
   |own ds =>
    obtain⟨a',xs,e1,e2,e3,e4,e5,e6⟩:=f2;exact⟨a',xs,e1,k _ _ e2 (λz=>R.t0 (z▸e4)),.inl e3,e4,e5,e6.move mv⟩
   |odk kvs =>
    obtain⟨a',xs,e1,e2,e3,e4,e5,e6⟩:=f2;exact⟨a',xs,e1,k _ _ e2 (λz=>R.t0 (z▸e4)),.inl e3,e4,e5,e6.move mv⟩
   |odt kvs =>
    obtain⟨a',xs,e1,e2,e3,e4,e5,e6⟩:=f2;exact⟨a',xs,e1,k _ _ e2 (λz=>R.t0 (z▸e4)),.inl e3,e4,e5,e6.move mv⟩
 ow:=λj m y z u e1 e2 o1 o2 f1 f2=>by
  have out:∀{p:Nat} {w:SV},δ[p]?=some (some w)->w.isOwn=true->σ[p]?=some (some (.ref a))->False:=λ{p w} e ow f=>by
   obtain⟨v,g1,g2⟩:=R.sl p w e;rw[f]at g1;cases g1;cases w with
   |w _=>cases ow
   |own ds =>
    obtain⟨a',xs,e1,e2,_⟩:=g2;cases e1;rw[h0]at e2;cases e2
   |odk ds =>
    obtain⟨a',xs,e1,e2,_⟩:=g2;cases e1;rw[h0]at e2;cases e2
   |odt ds =>
    obtain⟨a',xs,e1,e2,_⟩:=g2;cases e1;rw[h0]at e2;cases e2
  rcases jaq e1 with⟨rfl,rfl⟩ | ⟨ne1,e1'⟩
  ·rcases jaq e2 with⟨rfl,rfl⟩ | ⟨ne2,e2'⟩
   ·rfl
   ·rw[jb4 (by rw[R.len];exact joi e1)]at f1;rw[jbi ne2]at f2;cases f1;exact(out e2' o2 f2).elim
  ·rcases jaq e2 with⟨rfl,rfl⟩ | ⟨ne2,e2'⟩
   ·rw[jb4 (by rw[R.len];exact joi e2)]at f2;rw[jbi ne1]at f1;cases f2;exact(out e1' o1 f1).elim
   ·rw[jbi ne1]at f1;rw[jbi ne2]at f2;exact R.ow j m y z u e1' e2' o1 o2 f1 f2
 len:=by rw[De,De];exact R.len
theorem Rel.give {C:Ctx} {H:Hp} {B:Addr->Prop} {σ:St} {δ:Sl} {n:Int} {i:Nat} {x:SV} {y:Wv} {a:Addr} (R:Rel C H B σ δ n) (hi:δ[i]?=some (some x)) (ox:x.isOwn=true) (hv:σ[i]?=some (some (.ref a))) (e4:C.H0 a=none) (hy:WRel H (λb=>B b/\b≠a) C.t (.ref a) y) (hl:y.lent=false):Rel C H (λb=>B b/\b≠a) σ (δ.set i (some (.w y))) n:=by
 have less:∀b,(B b/\b≠a)->B b:=λb z=>z.1;exact{
  tp:=R.tp,kp:=R.kp,t0:=R.t0,l0:=R.l0,g0:=R.g0
  fz:=λb o e=>⟨(R.fz b o e).1,λz=>(R.fz b o e).2 z.1⟩
  bt:=⟨R.bt,λz=>R.t0 (z▸e4)⟩
  b0:=λb z=>⟨R.b0 b z,λq=>R.a0 b z (q▸e4)⟩
  ba:=λb z=>R.ba b z.1
  a0:=R.a0
  sl:=λj y' e=>by
   rcases jaq e with⟨rfl,rfl⟩ | ⟨ne,e'⟩
   ·exact⟨_,hv,hy,λz=>by rw[hl]at z;cases z⟩
   ·obtain⟨u,f1,f2⟩:=R.sl j y' e';refine⟨u,f1,?_⟩;cases y' with
    |w y=>exact⟨f2.1.less less,f2.2⟩
    |own ds' =>
     obtain⟨a',xs',g1,g2,g3,g4,g5,g6⟩:=f2;refine⟨a',xs',g1,g2,⟨g3,λz=>?_⟩,g4,g5,g6.less less⟩;exact ne (R.ow j i _ _ _ e' hi rfl ox f1 (by rw[hv,g1,z]))
    |odk ds' =>
     obtain⟨a',xs',g1,g2,g3,g4,g5,g6⟩:=f2;refine⟨a',xs',g1,g2,⟨g3,λz=>?_⟩,g4,g5,g6.move λb o e n=>⟨e,λz=>n z.1⟩⟩;exact ne (R.ow j i _ _ _ e' hi rfl ox f1 (by rw[hv,g1,z]))
    |odt ds' =>
     obtain⟨a',xs',g1,g2,g3,g4,g5,g6⟩:=f2;refine⟨a',xs',g1,g2,⟨g3,λz=>?_⟩,g4,g5,g6.move λb o e n=>⟨e,λz=>n z.1⟩⟩;exact ne (R.ow j i _ _ _ e' hi rfl ox f1 (by rw[hv,g1,z]))
  ow:=λj k y z u e1 e2 o1 o2 f1 f2=>by
   rcases jaq e1 with⟨rfl,rfl⟩ | ⟨ne1,e1'⟩
   ·cases o1
   ·rcases jaq e2 with⟨rfl,rfl⟩ | ⟨ne2,e2'⟩
    ·cases o2
    ·exact R.ow j k y z u e1' e2' o1 o2 f1 f2
  len:=by rw[De];exact R.len}
theorem Rel.frz {C:Ctx} {H:Hp} {B:Addr->Prop} {σ:St} {δ:Sl} {n:Int} {i:Nat} {ds:List Ab} (R:Rel C H B σ δ n) (hi:δ[i]?=some (some (.own ds))):∃B',Rel C H B' σ (δ.set i (some (.w (.d (.list ds))))) n:=by
 obtain⟨v,hv,a,xs,rfl,e2,e3,e4,e5,e6⟩:=R.sl i _ hi;exact⟨_,R.give hi rfl hv e4 (show RdX H _ (.ref a) (.list ds)from .lst e2 (λz=>z.2 rfl) e5 (e6.less λb z=>z.1)) rfl⟩
theorem Rel.frzK {C:Ctx} {H:Hp} {B:Addr->Prop} {σ:St} {δ:Sl} {n:Int} {i:Nat} {m:List (Key×Ab)} (R:Rel C H B σ δ n) (hi:δ[i]?=some (some (.odk m))):∃B',Rel C H B' σ (δ.set i (some (.w (.ob (.k m))))) n:=by
 obtain⟨v,hv,a,xs,rfl,e2,e3,e4,e5,e6⟩:=R.sl i _ hi;exact⟨_,R.give hi rfl hv e4 ⟨a,xs,rfl,e2,λz=>z.2 rfl,e6.move λb o e n=>⟨e,λz=>n z.1⟩⟩ rfl⟩
abbrev DQ:=Wv->Int->Prop
abbrev DT:=Sl->Int->DQ->Prop
abbrev DTT:=Sl->Int->(Bool->Int->Prop)->Prop
abbrev DTA:=Sl->Int->(List Wv->Int->Prop)->Prop
inductive ARel (H:Hp) (B:Addr->Prop) (t:Addr):List V->List Wv->Prop
 |nil:ARel H B t [] []
 |cons {v:V} {vs:List V} {x:Wv} {xs:List Wv}:WRel H B t v x->ARel H B t vs xs->ARel H B t (v::vs) (x::xs)
theorem ARel.kp {H H':Hp} {B:Addr->Prop} {t:Addr} (k:Kp t H H') (ht:B t):∀{vs:List V} {xs:List Wv},ARel H B t vs xs->ARel H' B t vs xs
 |_,_,.nil=>.nil
 |_,_,.cons a b=>.cons (a.kp k ht) (ARel.kp k ht b)
theorem ARel.len {H:Hp} {B:Addr->Prop} {t:Addr}:∀{vs:List V} {xs:List Wv},ARel H B t vs xs->vs.length=xs.length
 |_,_,.nil=>rfl
 |_,_,.cons _ b=>by rw[A1,A1,ARel.len b]
def Snd (t:TE) (w:DT):Prop:=∀(C:Ctx) (H:Hp) (B:Addr->Prop) (σ:St) (δ:Sl) (n:Int) (Q:DQ) (Q':VK),Rel C H B σ δ n->w δ n Q ->
 (∀v x H' n',Rel C H' B σ δ n'->Kp C.t H H'->WRel H' B C.t v x->Q x n'->Q' v H')->t σ H Q'
def SndT (t:TT) (w:DTT):Prop:=∀(C:Ctx) (H:Hp) (B:Addr->Prop) (σ:St) (δ:Sl) (n:Int) (Q:Bool->Int->Prop) (Q':Bool->Hp->Prop),Rel C H B σ δ n->w δ n Q ->
 (∀b H' n',Rel C H' B σ δ n'->Kp C.t H H'->Q b n'->Q' b H')->t σ H Q'
def SndA (t:TA) (w:DTA):Prop:=∀(C:Ctx) (H:Hp) (B:Addr->Prop) (σ:St) (δ:Sl) (n:Int) (Q:List Wv->Int->Prop) (Q':List V->Hp->Prop),Rel C H B σ δ n->w δ n Q ->
 (∀vs xs H' n',Rel C H' B σ δ n'->Kp C.t H H'->ARel H' B C.t vs xs->Q xs n'->Q' vs H')->t σ H Q'
abbrev DTF:=Sl->Int->(List Ab->Int->Prop)->Prop
def SndF (t:TE) (w:DTF):Prop:=∀(C:Ctx) (H:Hp) (B:Addr->Prop) (σ:St) (δ:Sl) (n:Int) (Q:List Ab->Int->Prop) (Q':VK),Rel C H B σ δ n->w δ n Q ->
 (∀a xs ds H' n',Rel C H' B σ δ n'->Kp C.t H H'->H a=none->H' a=some (.lst xs)->xs.length<=Ay->RdXs H' (λb=>B b\/b=a) xs ds->Q ds n'->Q' (.ref a) H')->t σ H Q'
structure DE (X:Cx) (e:Expr) (t:TE) (w:DT):Prop where
 pe:PE X e t
 sd:Snd t w
structure DC (X:Cx) (e:Expr) (t:TT) (w:DTT):Prop where
 pt:PT X e t
 sd:SndT t w
structure DCW (X:Cx) (e:Expr) (t:TT) (w:DTT):Prop where
 pw:PW X e t
 sd:SndT t w
structure DA (X:Cx) (es:List Expr) (t:TA) (w:DTA):Prop where
 pa:PA X es t
 sd:SndA t w
structure DF (X:Cx) (e:Expr) (t:TE) (w:DTF):Prop where
 pe:PE X e t
 sd:SndF t w
variable {X:Cx} {a b c e:Expr} {ta tb tc te:TE} {wa wb wc we:DT} {pos:Pos}
def wVar (i:Nat):DT:=λδ n Q=>match δ[i]? with
 |some (some (.w x))=>Q x n
 |_=>False
theorem j34 (i:Nat) {x:Str} {p:Pos} (hN:X.N[i]?=some x:=by rfl) (hv:Vis X.env.scope x:=by first | exact Du rfl | exact Cw (Du rfl) | exact Cw (Cw rfl)) (hd:(x==("__debug__":Str))=false:=by decide)
  (hcd:(x==("__classdict__":Str))=false:=by decide):DE X (.Name x p) (tVar i) (wVar i):=⟨jf5 hN hv hd hcd,λC H B σ δ n Q Q' R h k=>by
 unfold wVar at h
 split at h
 ·rename_i x e;obtain⟨v,h1,h2⟩:=R.sl i _ e;exact⟨v,h1,k v x H n R (Kp.refl _ _) h2.1 h⟩
 ·exact h.elim⟩
def wC (d:Ab):DT:=λ_ n Q=>Q (.d d) n
theorem jra {v:V} {d:Ab} (h:∀H B,RdX H B v d):Snd (tC v) (wC d):=λC H B σ δ n Q Q' R q k=>k v (.d d) H n R (Kp.refl _ _) (h H B) q
theorem j4i {i j p}:DE X (.Constant (.int i) j p) (tC (.int i)) (wC (.int i)):=⟨jau,jra λ_ _=>.int i⟩
theorem d_bl {i j p}:DE X (.Constant (.bool i) j p) (tC (.bl i)) (wC (.bool i)):=⟨j3h,jra λ_ _=>.bl i⟩
theorem j4d {j p}:DE X (.Constant .none j p) (tC .non) (wC .none):=⟨jop,jra λ_ _=>.non⟩
theorem j38 {x j p} (h:Str.length x<=Ay:=by decide +kernel):DE X (.Constant (.str x) j p) (tC (.str x)) (wC (.str x)):=⟨j0u,jra λ_ _=>.str x h⟩
theorem j2g {x:Str} {i:Int} {tk:Tok} {p:Pos} (hg:Gl X x) (hm:X.mg x=some (.int i tk)) (hd:(x==("__debug__":Str))=false:=by decide):DE X (.Name x p) (tC (.int i)) (wC (.int i)):=⟨jrx hg hm ⟨tk,rfl⟩ hd,jra λ_ _=>.int i⟩
def w2 (wa wb:DT) (g:Wv->Wv->Int->DQ->Prop):DT:=λδ n Q=>wa δ n λx n1=>wb δ n1 λy n2=>g x y n2 Q
def SndO (r:R2) (g:Wv->Wv->Int->DQ->Prop):Prop:=∀(C:Ctx) (H:Hp) (B:Addr->Prop) (σ:St) (δ:Sl) (n:Int) (x y:V) (p q:Wv) (Q:DQ) (Q':VK),Rel C H B σ δ n->WRel H B C.t x p->WRel H B C.t y q->g p q n Q ->
 (∀v x H' n',Rel C H' B σ δ n'->Kp C.t H H'->WRel H' B C.t v x->Q x n'->Q' v H')->r x y H Q'
theorem jlq {r:R2} {g:Wv->Wv->Int->DQ->Prop} (hr:SndO r g) (ha:Snd ta wa) (hb:Snd tb wb):Snd (tOp r ta tb) (w2 wa wb g):=λC H B σ δ n Q Q' R h k =>
 ha C H B σ δ n _ _ R h λv x H1 n1 R1 k1 r1 q1=>hb C H1 B σ δ n1 _ _ R1 q1 λu y H2 n2 R2 k2 r2 q2 =>
  hr C H2 B σ δ n2 v u x y Q Q' R2 (r1.kp k2 R1.bt) r2 q2 λz p H3 n3 R3 k3 r3 q3=>k z p H3 n3 R3 ((k1.trans k2).trans k3) r3 q3
theorem d_op {op:Operator} {r:R2} {g:Wv->Wv->Int->DQ->Prop} (ho:OpR X (El op) r) (hr:SndO r g) (ha:DE X a ta wa) (hb:DE X b tb wb):DE X (.BinOp a op b pos) (tOp r ta tb) (w2 wa wb g) :=
 ⟨jb3 ho ha.pe hb.pe,jlq hr ha.sd hb.sd⟩
theorem js1 {op:CmpOp} {r:R2} {g:Wv->Wv->Int->DQ->Prop} (ho:OpR X (Bk op) r) (hr:SndO r g) (ha:DE X a ta wa) (hb:DE X b tb wb) (hm:D1 op b=false):DE X (.Compare a [op] [b] pos) (tOp r ta tb) (w2 wa wb g) :=
 ⟨jx2 ho ha.pe hb.pe hm,jlq hr ha.sd hb.sd⟩
def cT (w:DT):DTT:=λδ n Q=>w δ n λx n'=>match x with
 |.d (.bool k)=>Q k n'
 |_=>False
theorem wd {H:Hp} {B:Addr->Prop} {t:Addr} {v:V} {d:Ab} (h:RdX H B v d):WRel H B t v (.d d):=h
theorem jgz {t:TE} {w:DT} (h:Snd t w):SndT (jnd t) (cT w):=λC H B σ δ n Q Q' R q k =>
 h C H B σ δ n _ _ R q λv x H' n' R' k' r' q'=>by
  split at q'
  ·rename_i b;cases(show RdX H' B v (.bool b)from r');exact⟨b,rfl,k b H' n' R' k' q'⟩
  ·exact q'.elim
theorem jfp {op:CmpOp} {r:R2} {g:Wv->Wv->Int->DQ->Prop} (ho:OpR X (Bk op) r) (hr:SndO r g) (ha:DE X a ta wa) (hb:DE X b tb wb) (hm:D1 op b=false):DC X (.Compare a [op] [b] pos) (jnd (tOp r ta tb)) (cT (w2 wa wb g)) :=
 ⟨jfd ho ha.pe hb.pe hm,jgz (jlq hr ha.sd hb.sd)⟩
theorem j4o {t:TE} {w:DT} (h:DE X e t w) (he:∀whole,isTrue e X.env whole=(do let v <-whole;standAt e.pos;holding [v] (truthy v)):=by intro _;rfl):DC X e (jnd t) (cT w):=⟨j0k h.pe he,jgz h.sd⟩
def jjb (x:Wv) (A B:Prop):Prop:=match x with
 |.d (.bool true)=>A
 |.d (.bool false)=>B
 |_=>False
theorem jbu (b:Bool) (A B:Prop):jjb (.d (.bool b)) A B=if b=true then A else B:=by cases b<;>simp[jjb]
def ja3 (g g':Wv->Wv->Int->DQ->Prop) (wa wb wc:DT):DT:=λδ n Q=>wa δ n λx n1=>wb δ n1 λy n2=>g x y n2 λz n3=>jjb z (wc δ n3 λu n4=>g' y u n4 Q) (Q (.d (.bool false)) n3)
theorem jlt {r r':R2} {g g':Wv->Wv->Int->DQ->Prop} (hr:SndO r g) (hr':SndO r' g') (ha:Snd ta wa) (hb:Snd tb wb) (hc:Snd tc wc):Snd (jlj r r' ta tb tc) (ja3 g g' wa wb wc):=λC H B σ δ n Q Q' R h k =>
 ha C H B σ δ n _ _ R h λv x H1 n1 R1 k1 r1 q1=>hb C H1 B σ δ n1 _ _ R1 q1 λu y H2 n2 R2 k2 r2 q2 =>
  hr C H2 B σ δ n2 v u x y _ _ R2 (r1.kp k2 R1.bt) r2 q2 λz p H3 n3 R3 k3 r3 q3=>by
   have k13:=(k1.trans k2).trans k3;unfold jjb at q3
   split at q3
   ·cases(show RdX H3 B z (.bool true)from r3);refine⟨true,rfl,?_⟩;rw[if_pos rfl];exact hc C H3 B σ δ n3 _ _ R3 q3 λw0 x0 H4 n4 R4 k4 r4 q4=>hr' C H4 B σ δ n4 u w0 y x0 Q Q' R4 ((r2.kp k3 R2.bt).kp k4 R3.bt) r4 q4 λz p H5 n5 R5 k5 r5 q5=>k z p H5 n5 R5 ((k13.trans k4).trans k5) r5 q5
   ·cases(show RdX H3 B z (.bool false)from r3);refine⟨false,rfl,?_⟩;rw[if_neg An];exact k _ _ H3 n3 R3 k13 (wd (.bl false)) q3
   ·exact q3.elim
theorem jyy {op op':CmpOp} {r r':R2} {g g':Wv->Wv->Int->DQ->Prop} (ho:OpR X (Bk op) r) (hr:SndO r g) (ho':OpR X (Bk op') r') (hr':SndO r' g') (ha:DE X a ta wa) (hb:DE X b tb wb) (hc:DE X c tc wc)
  (hm:lastMarks [op,op'] [b,c]=false:=by with_unfolding_all rfl):DE X (.Compare a [op,op'] [b,c] pos) (jlj r r' ta tb tc) (ja3 g g' wa wb wc):=⟨jum ho ho' ha.pe hb.pe hc.pe hm,jlt hr hr' ha.sd hb.sd hc.sd⟩
theorem jy4 {op op':CmpOp} {r r':R2} {g g':Wv->Wv->Int->DQ->Prop} (ho:OpR X (Bk op) r) (hr:SndO r g) (ho':OpR X (Bk op') r') (hr':SndO r' g') (ha:DE X a ta wa) (hb:DE X b tb wb) (hc:DE X c tc wc)
  (hm:lastMarks [op,op'] [b,c]=false:=by with_unfolding_all rfl):DC X (.Compare a [op,op'] [b,c] pos) (jnd (jlj r r' ta tb tc)) (cT (ja3 g g' wa wb wc)):=⟨juf ho ho' ha.pe hb.pe hc.pe hm,jgz (jlt hr hr' ha.sd hb.sd hc.sd)⟩
variable {tA tB':TT} {cA cB:DTT} {rest:List Expr}
def cAnd (u v:DTT):DTT:=λδ n Q=>u δ n λb n1=>if b=true then v δ n1 Q else Q false n1
def cOr (u v:DTT):DTT:=λδ n Q=>u δ n λb n1=>if b=true then Q true n1 else v δ n1 Q
def cNot (u:DTT):DTT:=λδ n Q=>u δ n λb n1=>Q (!b) n1
theorem cw_and1 (h:DC X a tA cA):DCW X (.BoolOp .And [a] pos) tA cA:=⟨jrn h.pt,h.sd⟩
theorem cw_or1 (h:DC X a tA cA):DCW X (.BoolOp .Or [a] pos) tA cA:=⟨j0j h.pt,h.sd⟩
theorem cw_and (h:DC X a tA cA) (h2:DCW X (.BoolOp .And (b::rest) pos) tB' cB):DCW X (.BoolOp .And (a::b::rest) pos) (tAnd tA tB') (cAnd cA cB):=⟨jv3 h.pt h2.pw,λC H B σ δ n Q Q' R q k =>
 h.sd C H B σ δ n _ _ R q λb H1 n1 R1 k1 q1=>by
  cases b with
  |true =>
   rw[if_pos rfl]at q1 ⊢;exact h2.sd C H1 B σ δ n1 _ _ R1 q1 λb H2 n2 R2 k2 q2=>k b H2 n2 R2 (k1.trans k2) q2
  |false =>
   rw[if_neg An]at q1 ⊢;exact k false H1 n1 R1 k1 q1⟩
theorem cw_or (h:DC X a tA cA) (h2:DCW X (.BoolOp .Or (b::rest) pos) tB' cB):DCW X (.BoolOp .Or (a::b::rest) pos) (tOr tA tB') (cOr cA cB):=⟨j3e h.pt h2.pw,λC H B σ δ n Q Q' R q k =>
 h.sd C H B σ δ n _ _ R q λb H1 n1 R1 k1 q1=>by
  cases b with
  |true =>
   rw[if_pos rfl]at q1 ⊢;exact k true H1 n1 R1 k1 q1
  |false =>
   rw[if_neg An]at q1 ⊢;exact h2.sd C H1 B σ δ n1 _ _ R1 q1 λb H2 n2 R2 k2 q2=>k b H2 n2 R2 (k1.trans k2) q2⟩
theorem DCW.cc (h:DCW X a tA cA):DC X a tA cA:=⟨h.pw.pt,h.sd⟩
theorem j4p (h:DC X a tA cA):DC X (.UnaryOp .Not a pos) (tNot tA) (cNot cA):=⟨j0l h.pt,λC H B σ δ n Q Q' R q k=>h.sd C H B σ δ n _ _ R q λb H1 n1 R1 k1 q1=>k (!b) H1 n1 R1 k1 q1⟩
def wAnd (u v:DT):DT:=λδ n Q=>u δ n λx n1=>jjb x (v δ n1 Q) (Q (.d (.bool false)) n1)
def wOr (u v:DT):DT:=λδ n Q=>u δ n λx n1=>jjb x (Q (.d (.bool true)) n1) (v δ n1 Q)
def wNot (u:DT):DT:=λδ n Q=>u δ n λx n1=>match x with
 |.d (.bool b)=>Q (.d (.bool !b)) n1
 |_=>False
theorem j4b {op} (h:DE X a ta wa):DE X (.BoolOp op [a] pos) ta wa:=⟨j0w h.pe,h.sd⟩
theorem j4k (h:DE X a ta wa) (h2:DE X (.BoolOp .And (b::rest) pos) tb wb):DE X (.BoolOp .And (a::b::rest) pos) (jzr ta tb) (wAnd wa wb):=⟨j0y h.pe h2.pe,λC H B σ δ n Q Q' R q k =>
 h.sd C H B σ δ n _ _ R q λv x H1 n1 R1 k1 r1 q1=>by
  unfold jjb at q1
  split at q1
  ·cases(show RdX H1 B v (.bool true)from r1);refine⟨true,rfl,?_⟩;rw[if_pos rfl];exact h2.sd C H1 B σ δ n1 _ _ R1 q1 λv x H2 n2 R2 k2 r2 q2=>k v x H2 n2 R2 (k1.trans k2) r2 q2
  ·cases(show RdX H1 B v (.bool false)from r1);refine⟨false,rfl,?_⟩;rw[if_neg An];exact k _ _ H1 n1 R1 k1 (wd (.bl false)) q1
  ·exact q1.elim⟩
theorem d_or (h:DE X a ta wa) (h2:DE X (.BoolOp .Or (b::rest) pos) tb wb):DE X (.BoolOp .Or (a::b::rest) pos) (tOrV ta tb) (wOr wa wb):=⟨j3g h.pe h2.pe,λC H B σ δ n Q Q' R q k =>
 h.sd C H B σ δ n _ _ R q λv x H1 n1 R1 k1 r1 q1=>by
  unfold jjb at q1
  split at q1
  ·cases(show RdX H1 B v (.bool true)from r1);refine⟨true,rfl,?_⟩;rw[if_pos rfl];exact k _ _ H1 n1 R1 k1 (wd (.bl true)) q1
  ·cases(show RdX H1 B v (.bool false)from r1);refine⟨false,rfl,?_⟩;rw[if_neg An];exact h2.sd C H1 B σ δ n1 _ _ R1 q1 λv x H2 n2 R2 k2 r2 q2=>k v x H2 n2 R2 (k1.trans k2) r2 q2
  ·exact q1.elim⟩
theorem j4c (h:DE X a ta wa):DE X (.UnaryOp .Not a pos) (jzo ta) (wNot wa):=⟨j0x h.pe,λC H B σ δ n Q Q' R q k =>
 h.sd C H B σ δ n _ _ R q λv x H1 n1 R1 k1 r1 q1=>by
  split at q1
  ·rename_i b;cases(show RdX H1 B v (.bool b)from r1);exact⟨b,rfl,k _ _ H1 n1 R1 k1 (wd (.bl _)) q1⟩
  ·exact q1.elim⟩
def wIf (u:DTT) (v w:DT):DT:=λδ n Q=>u δ n λb n1=>if b=true then v δ n1 Q else w δ n1 Q
theorem jyx (h:DC X c tA cA) (h1:DE X a ta wa) (h2:DE X b tb wb):DE X (.IfExp c a b pos) (tIf tA ta tb) (wIf cA wa wb):=⟨jul h.pt h1.pe h2.pe,λC H B σ δ n Q Q' R q k =>
 h.sd C H B σ δ n _ _ R q λb H1 n1 R1 k1 q1=>by
  cases b with
  |true =>
   rw[if_pos rfl]at q1 ⊢;exact h1.sd C H1 B σ δ n1 _ _ R1 q1 λv x H2 n2 R2 k2 r2 q2=>k v x H2 n2 R2 (k1.trans k2) r2 q2
  |false =>
   rw[if_neg An]at q1 ⊢;exact h2.sd C H1 B σ δ n1 _ _ R1 q1 λv x H2 n2 R2 k2 r2 q2=>k v x H2 n2 R2 (k1.trans k2) r2 q2⟩
variable {es:List Expr} {tR:TA} {wR:DTA}
def aNil:DTA:=λ_ n Q=>Q [] n
def jaa (w:DT) (r:DTA):DTA:=λδ n Q=>w δ n λx n1=>r δ n1 λxs n2=>Q (x::xs) n2
theorem j4u:DA X [] tNil aNil:=⟨jbm,λC H B σ δ n Q Q' R q k=>k [] [] H n R (Kp.refl _ _) .nil q⟩
theorem j2r (h:DE X e te we) (hr:DA X es tR wR) (hs:Ax (e::es) X.env=(false,eval e X.env)::Ax es X.env:=by rfl):DA X (e::es) (jb2 te tR) (jaa we wR):=⟨jas h.pe hr.pa hs,λC H B σ δ n Q Q' R q k =>
 h.sd C H B σ δ n _ _ R q λv x H1 n1 R1 k1 r1 q1=>hr.sd C H1 B σ δ n1 _ _ R1 q1 λvs xs H2 n2 R2 k2 r2 q2=>k (v::vs) (x::xs) H2 n2 R2 (k1.trans k2) (.cons (r1.kp k2 R1.bt) r2) q2⟩
def jba:List Wv->Option (List Ab)
 |[]=>some []
 |.d x::r=>(jba r).map (x::·)
 |_::_=>none
theorem ARel.plain {H:Hp} {B:Addr->Prop} {t:Addr}:∀{vs:List V} {xs:List Wv} {ds:List Ab},ARel H B t vs xs->jba xs=some ds->RdXs H B vs ds
 |_,_,_,.nil,h=>by
  cases h;exact .nil
 |_,_,ds,.cons (x:=x) (xs:=xs) a b,h=>by
  cases x with
  |d x =>
   have h':(jba xs).map (x::·)=some ds:=h;cases e:jba xs with
   |none=>rw[e]at h';cases h'
   |some es =>
    rw[e]at h';cases h';exact .cons a (ARel.plain b e)
  |tp=>cases h
  |dk _=>cases h
  |ln _=>cases h
  |ob _=>cases h
theorem RdXs.fresh {H:Hp} {B:Addr->Prop} {vs:List V} {ds:List Ab} {p:Addr} {o:HO} (h:RdXs H B vs ds) (hp:H p=none):RdXs (upd H p o) (λb=>B b\/b=p) vs ds :=
 h.move λb o' e n=>⟨by rw[jag (jaf e hp)];exact e,λz=>z.elim n λq=>jaf e hp q⟩
def wTup (w:DTA):DT:=λδ n Q=>w δ n λxs n1=>match jba xs with
 |some ds=>ds.length<=1000/\Q (.d (.tuple ds)) n1
 |none=>False
theorem j35 {x1} (h:DA X es tR wR):DE X (.Tuple es x1 pos) (tTup tR) (wTup wR):=⟨j0t h.pa,λC H B σ δ n Q Q' R q k =>
 h.sd C H B σ δ n _ _ R q λvs xs H1 n1 R1 k1 r1 q1=>by
  split at q1
  ·rename_i ds e;have r:=r1.plain e;have hl:vs.length<=Ay:=by rw[r.len];exact jrb q1.1
   refine⟨hl,λp hp=>k _ _ _ n1 (R1.new hp) (k1.trans (Kp.new hp)) (wd (show RdX _ B (.ref p) (.tuple ds)from ?_)) q1.2⟩;exact .tup jaj (R1.nb hp) hl ((r.fresh hp).less λb z=>.inl z)
  ·exact q1.elim⟩
def fLst (w:DTA):DTF:=λδ n Q=>w δ n λxs n1=>match jba xs with
 |some ds=>ds.length<=1000/\Q ds n1
 |none=>False
theorem j31 (h:DA X es tR wR):DF X (.List es pos) (tLst tR) (fLst wR):=⟨jrw h.pa,λC H B σ δ n Q Q' R q k =>
 h.sd C H B σ δ n _ _ R q λvs xs H1 n1 R1 k1 r1 q1=>by
  split at q1
  ·rename_i ds e;have r:=r1.plain e;have hl:vs.length<=Ay:=by rw[r.len];exact jrb q1.1
   have hn:∀p,H1 p=none->H p=none:=λp hp=>by
    cases q:H p with
    |none=>rfl
    |some o =>
     by_cases z:p=C.t
     ·subst z;obtain⟨_,_,h,_⟩:=R1.tp.ob;rw[h]at hp;cases hp
     ·rw[k1 p o q z]at hp;cases hp
   exact⟨hl,λp hp=>k p vs ds _ n1 (R1.new hp) (k1.trans (Kp.new hp)) (hn p hp) jaj hl (r.fresh hp) q1.2⟩
  ·exact q1.elim⟩
def wOf (w:DTF):DT:=λδ n Q=>w δ n λds n1=>Q (.d (.list ds)) n1
theorem jzx {t:TE} {w:DTF} (h:SndF t w):Snd t (wOf w):=λC H B σ δ n Q Q' R q k =>
 h C H B σ δ n _ _ R q λa xs ds H' n' R' k' h0 h1 h2 h3 q'=>k _ _ H' n' R' k' (wd (show RdX H' B (.ref a) (.list ds)from .lst h1 (R.nb h0) h2 (h3.less λb z=>.inl z))) q'
theorem DF.d {w:DTF} {t:TE} (h:DF X e t w):DE X e t (wOf w):=⟨h.pe,jzx h.sd⟩
theorem Rel.was {C:Ctx} {H H1:Hp} {B:Addr->Prop} {σ:St} {δ:Sl} {n1:Int} (R1:Rel C H1 B σ δ n1) (k1:Kp C.t H H1) {p:Addr} (hp:H1 p=none):H p=none:=by
 cases q:H p with
 |none=>rfl
 |some o =>
  by_cases z:p=C.t
  ·subst z;obtain⟨_,_,h,_⟩:=R1.tp.ob;rw[h]at hp;cases hp
  ·rw[k1 p o q z]at hp;cases hp
abbrev DSp:=List Wv->Int->DQ->Prop
def spOf (S:DSp):Sp:=λvs H Q _=>∃(t:Addr) (l:TL) (ns:List Int) (B:Addr->Prop) (ws:List Wv) (n:Int) (Q0:DQ),Tp H t l ns n/\B t/\(∀b,B b->H b≠none)/\ARel H B t vs ws/\S ws n Q0 /\
 ∀w n',Q0 w n'->∀v H',Tp H' t l ns n'->Kp t H H'->WRel H' B t v w->Q v H'
section
variable {X:Cx} {e:Expr} {es:List Expr} {pos p:Pos} {tR:TA} {wR:DTA}
def jad (S:DSp) (w:DTA):DT:=λδ n Q=>w δ n λxs n1=>S xs n1 Q
theorem jt3 {S:DSp} {t:TA} {w:DTA} (h:SndA t w):Snd (jne (spOf S) [] E0 t) (jad S w):=λC H B σ δ n Q Q' R q k =>
 h C H B σ δ n _ _ R q λvs xs H1 n1 R1 k1 r1 q1=>by
  refine⟨C.t,C.l,C.ns,B,xs,n1,Q,R1.tp,R1.bt,R1.ba,by rw[Bu];exact r1,q1,λw n' q2 v H' T' k' r'=>?_⟩;exact k v w H' n' (R1.step T' k') (k1.trans k') r' q2
theorem j2h {k:Nat} {f:Addr} {fd:C1} {ps:List Str} {S:DSp} {x:Str} (F:FnOk X.prog X.w X.K X.mg X.base CX0 k f fd ps (spOf S)) (hr:Room k X.A) (hg:Gl X x) (hm:X.mg x=some (.ref f)) (hk:Cz X.K (.ref f)=true) (hb:Binds X.K fd ps [])
  (ha:DA X (e::es) tR wR) (hdb:(x==("__debug__":Str))=false:=by decide) (he:Ax (e::es) X.env=(false,eval e X.env)::Ax es X.env:=by rfl) (hpl:(D9 pos (Ax es X.env)).any (·.1)=false:=by rfl) :
  DE X (.Call (.Name x p) (e::es) [] pos) (jne (spOf S) [] E0 tR) (jad S wR):=⟨jry F hr hg hm hk hb .nil j0z ha.pa hdb he hpl,jt3 ha.sd⟩
def SndB (r:List V->Hp->VK->Prop) (g:List Wv->Int->DQ->Prop):Prop:=∀(C:Ctx) (H:Hp) (B:Addr->Prop) (σ:St) (δ:Sl) (n:Int) (vs:List V) (xs:List Wv) (Q:DQ) (Q':VK),Rel C H B σ δ n->ARel H B C.t vs xs->g xs n Q ->
 (∀v x H' n',Rel C H' B σ δ n'->Kp C.t H H'->WRel H' B C.t v x->Q x n'->Q' v H')->r vs H Q'
def wB (g:List Wv->Int->DQ->Prop) (w:DTA):DT:=λδ n Q=>w δ n λxs n1=>g xs n1 Q
theorem jz0 {r:List V->Hp->VK->Prop} {g:List Wv->Int->DQ->Prop} {t:TA} {w:DTA} (hr:SndB r g) (h:SndA t w):Snd (tCB r t) (wB g w):=λC H B σ δ n Q Q' R q k =>
 h C H B σ δ n _ _ R q λvs xs H1 n1 R1 k1 r1 q1=>hr C H1 B σ δ n1 vs xs Q Q' R1 r1 q1 λv x H2 n2 R2 k2 r2 q2=>k v x H2 n2 R2 (k1.trans k2) r2 q2
theorem jks {id:String} {x:Str} {r:List V->Hp->VK->Prop} {g:List Wv->Int->DQ->Prop} (hc:CallR X (.builtin id) r) (hr:SndB r g) (hg:Gl X x) (hm:X.mg x=none) (hv:By x=some (.builtin id)) (ha:DA X (e::es) tR wR) (hn:x≠"__name__":=by decide) (hdb:(x==("__debug__":Str))=false:=by decide)
  (he:Ax (e::es) X.env=(false,eval e X.env)::Ax es X.env:=by rfl) (hpl:(D9 pos (Ax es X.env)).any (·.1)=false:=by rfl):DE X (.Call (.Name x p) (e::es) [] pos) (tCB r tR) (wB g wR):=⟨jdx hc hg hm hv ha.pa hn hdb he hpl,jz0 hr ha.sd⟩
theorem jg2 {T:String} {x:Str} {r:List V->Hp->VK->Prop} {g:List Wv->Int->DQ->Prop} (hc:CallR X (.type T) r) (hr:SndB r g) (hg:Gl X x) (hm:X.mg x=none) (hv:By x=some (.type T)) (ha:DA X (e::es) tR wR) (hn:x≠"__name__":=by decide) (hdb:(x==("__debug__":Str))=false:=by decide)
  (he:Ax (e::es) X.env=(false,eval e X.env)::Ax es X.env:=by rfl) (hpl:(D9 pos (Ax es X.env)).any (·.1)=false:=by rfl):DE X (.Call (.Name x p) (e::es) [] pos) (tCB r tR) (wB g wR):=⟨jhe hc hg hm hv ha.pa hn hdb he hpl,jz0 hr ha.sd⟩
end
structure DEnds where
 nx:Sl->Int->Prop
 rt:DQ
 bk:Sl->Int->Prop:=λ_ _=>False
 ct:Sl->Int->Prop:=λ_ _=>False
 rn:List Ab->Int->Prop:=λ_ _=>False
abbrev DST:=Sl->Int->DEnds->Prop
structure EndsOk (C:Ctx) (K:DEnds) (D:Ends):Prop where
 nx:∀H B σ δ n,Rel C H B σ δ n->K.nx δ n->D.nx σ H
 rt:∀H B σ δ n v w,Rel C H B σ δ n->WRel H B C.t v w->K.rt w n->D.rt v H
 bk:∀H B σ δ n,Rel C H B σ δ n->K.bk δ n->D.bk σ H
 ct:∀H B σ δ n,Rel C H B σ δ n->K.ct δ n->D.ct σ H
 rn:∀H B σ δ n a xs ds,Rel C H B σ δ n->C.H0 a=none->H a=some (.lst xs)->xs.length<=Ay->RdXs H (λb=>B b\/b=a) xs ds->K.rn ds n->D.rt (.ref a) H
def SndS (T:TS) (W:DST):Prop:=∀(C:Ctx) (H:Hp) (B:Addr->Prop) (σ:St) (δ:Sl) (n:Int) (K:DEnds) (D:Ends),Rel C H B σ δ n->W δ n K->EndsOk C K D->T D σ H
structure DS (X:Cx) (st:Stmt) (T:TS) (W:DST):Prop where
 ps:PS X st T
 sd:SndS T W
structure DSs (X:Cx) (st:List Stmt) (T:TS) (W:DST):Prop where
 ps:PSs X st T
 sd:SndS T W
section
variable {X:Cx} {st:Stmt} {rest:List Stmt} {T U:TS} {W V':DST} {e:Expr} {te:TE} {we:DT} {pos:Pos}
def jai:DST:=λδ n K=>K.nx δ n
def sSeq (W V:DST):DST:=λδ n K=>W δ n {K with nx:=λδ n=>V δ n K}
theorem j28:DSs X [] jzq jai:=⟨jj9,λC H B σ δ n K D R h E=>E.nx H B σ δ n R h⟩
theorem jz8 (h:DS X st T W) (h2:DSs X rest U V'):DSs X (st::rest) (tSeq T U) (sSeq W V'):=⟨jbg h.ps h2.ps,λC H B σ δ n K D R q E =>
 h.sd C H B σ δ n _ _ R q ⟨λH B σ δ n R q=>h2.sd C H B σ δ n K D R q E,E.rt,E.bk,E.ct,E.rn⟩⟩
theorem j27 (h:DS X st T W):DSs X [st] T W:=⟨jfe h.ps,h.sd⟩
def sRet (w:DT):DST:=λδ n K=>w δ n K.rt
theorem j24 (h:DE X e te we):DS X (.Return (some e) pos) (tRet te) (sRet we):=⟨jl0 h.pe,λC H B σ δ n K D R q E =>
 h.sd C H B σ δ n _ _ R q λv x H' n' R' _ r' q'=>E.rt H' B σ δ n' v x R' r' q'⟩
def sIf (c:DTT) (W V:DST):DST:=λδ n K=>c δ n λb n1=>if b=true then W δ n1 K else V δ n1 K
theorem s_if {c:Expr} {a b:List Stmt} {tc:TT} {cc:DTT} (hc:DC X c tc cc) (ha:DSs X a T W) (hb:DSs X b U V'):DS X (.If c a b pos) (tIfS tc T U) (sIf cc W V'):=⟨jug hc.pt ha.ps hb.ps,λC H B σ δ n K D R q E =>
 hc.sd C H B σ δ n _ _ R q λb H1 n1 R1 _ q1=>by
  cases b with
  |true =>
   rw[if_pos rfl]at q1 ⊢;exact ha.sd C H1 B σ δ n1 K D R1 q1 E
  |false =>
   rw[if_neg An]at q1 ⊢;exact hb.sd C H1 B σ δ n1 K D R1 q1 E⟩
def sSet (i:Nat) (w:DT):DST:=λδ n K=>w δ n λx n1=>match x with
 |.d d=>K.nx (δ.set i (some (.w (.d d)))) n1
 |.tp=>K.nx (δ.set i (some (.w .tp))) n1
 |.dk _=>False
 |.ln _=>False
 |.ob o=>K.nx (δ.set i (some (.w (.ob o)))) n1
theorem j23 {i:Nat} {x:Str} {pos':Pos} (hN:X.N.Nodup) (hi:X.N[i]?=some x) (hx:Loc X.env.scope x) (he:DE X e te we) (hs:F2 e (some (.Name x pos')) pos.line X.env=pure false:=by rfl) (hf:X.fn x=true\/X.env.scope.names.lookup x=some .local:=by first | exact .inl rfl | exact .inr rfl | assumption) :
  DS X (.Assign [.Name x pos'] e pos) (tAsg te (jgw i)) (sSet i we):=⟨jf4 hN hi hx he.pe hs hf,λC H B σ δ n K D R q E =>
 he.sd C H B σ δ n _ _ R q λv x H1 n1 R1 _ r1 q1=>by
  cases x with
  |d d=>exact E.nx _ _ _ _ _ (R1.set r1 rfl) q1
  |tp=>exact E.nx _ _ _ _ _ (R1.set r1 rfl) q1
  |dk _=>exact q1.elim
  |ln _=>exact q1.elim
  |ob o=>exact E.nx _ _ _ _ _ (R1.set r1 rfl) q1⟩
def sOwn (i:Nat) (w:DTF):DST:=λδ n K=>w δ n λds n1=>K.nx (δ.set i (some (.own ds))) n1
theorem Rel.h0 {C:Ctx} {H:Hp} {B:Addr->Prop} {σ:St} {δ:Sl} {n:Int} {a:Addr} (R:Rel C H B σ δ n) (h:H a=none):C.H0 a=none:=R.was R.kp h
theorem j26 {i:Nat} {x:Str} {pos':Pos} {w:DTF} (hN:X.N.Nodup) (hi:X.N[i]?=some x) (hx:Loc X.env.scope x) (he:DF X e te w) (hs:F2 e (some (.Name x pos')) pos.line X.env=pure false:=by rfl) (hf:X.fn x=true\/X.env.scope.names.lookup x=some .local:=by first | exact .inl rfl | exact .inr rfl | assumption) :
  DS X (.Assign [.Name x pos'] e pos) (tAsg te (jgw i)) (sOwn i w):=⟨jf4 hN hi hx he.pe hs hf,λC H B σ δ n K D R q E =>
 he.sd C H B σ δ n _ _ R q λa xs ds H1 n1 R1 k1 h0 h1 h2 h3 q1=>by
  refine E.nx _ _ _ _ _ (R.own R1 k1 h0 (by rw[h1];exact λz=>nomatch z) rfl ?_) q1;exact⟨a,xs,rfl,h1,.inr rfl,R.h0 h0,h2,h3⟩⟩
def sFrz (i:Nat) (W:DST):DST:=λδ n K=>match δ[i]? with
 |some (some (.own ds))=>W (δ.set i (some (.w (.d (.list ds))))) n K
 |some (some (.odk m))=>W (δ.set i (some (.w (.ob (.k m))))) n K
 |_=>W δ n K
theorem j29 (i:Nat) {sts:List Stmt} (h:DSs X sts T W):DSs X sts T (sFrz i W):=⟨h.ps,λC H B σ δ n K D R q E=>by
 unfold sFrz at q
 split at q
 ·rename_i ds e;obtain⟨B',R'⟩:=R.frz e;exact h.sd C H B' σ _ n K D R' q E
 ·rename_i m e;obtain⟨B',R'⟩:=R.frzK e;exact h.sd C H B' σ _ n K D R' q E
 ·exact h.sd C H B σ δ n K D R q E⟩
def sApp (i:Nat) (w:DT):DST:=λδ n K=>match δ[i]? with
 |some (some (.own ds))=>w δ n λx n1=>match x with
  |.d d=>ds.length < 1000000/\K.nx (δ.set i (some (.own (ds++[d])))) n1
  |_=>False
 |_=>False
theorem jsf {n:Nat} (h:n < 1000000):n < Ay:=Nat.lt_trans h (by decide)
theorem j3c {i:Nat} {x:Str} {xp ap cp:Pos} (hN:X.N[i]?=some x) (he:DE X e te we) (hv:Vis X.env.scope x:=by first | exact Du rfl | exact Cw (Du rfl) | exact Cw (Cw rfl)) (hd:(x==("__debug__":Str))=false:=by decide)
  (hcd:(x==("__classdict__":Str))=false:=by decide)
  (hbase:attributeBase (.Name x xp) "append" X.env (eval (.Name x xp) X.env)=eval (.Name x xp) X.env:=by rfl)
  (hfew:((D9 cp (Ax [e] X.env)).all (λx=>!x.1)&&(backToKw cp (keywordEach [] X.env)).all (λx=>x.1.isSome)
   && decide ([e].length+([]:List Keyword).length+(if ([]:List Keyword).isEmpty then 0 else 1) < 30))=true:=by rfl)
  (hline:(ap.endLine==cp.line)=true:=by rfl) (hs:Ax [e] X.env=[(false,eval e X.env)]:=by rfl) (hplain:(D9 cp (Ax [] X.env)).any (·.1)=false:=by rfl)
  (hsw:F2 (.Call (.Attribute (.Name x xp) "append" ap) [e] [] cp) none pos.line X.env=pure false:=by rfl) :
  DS X (.Expr (.Call (.Attribute (.Name x xp) "append" ap) [e] [] cp) pos) (jtx (tBM X.K "list" jrm (tVar i) (jb2 te tNil))) (sApp i we) :=
 ⟨jno (jx3 Gt PySem.F.slot_list_append PySem.F.type_list_append jhh (jf5 hN hv hd hcd) (jas he.pe jbm hs) hbase hfew hline hs hplain) hsw,λC H B σ δ n K D R q E=>by
  unfold sApp at q
  split at q
  ·rename_i ds ei;obtain⟨v,hv,a,xs,rfl,e2,e3,e4,e5,e6⟩:=R.sl i _ ei;refine⟨_,hv,.inl ⟨rfl,_,SqL.of e2⟩,he.sd C H B σ δ n _ _ R q λu y H1 n1 R1 k1 r1 q1=>?_⟩;cases y with
   |d d =>
    have hat:a≠C.t:=λz=>R.t0 (z▸e4);have e2':=k1 _ _ e2 hat;refine⟨a,xs,u,rfl,rfl,e2',jsf (by rw[e6.len];exact q1.1),?_⟩;refine E.nx _ _ _ _ _ (R1.mutOwn ei rfl hv e3 e4 ?_ rfl) q1.2;refine⟨a,xs++[u],rfl,jaj,e3,e4,?_,?_⟩
    ·rw[Ap,e6.len];exact jsf q1.1
    ·refine RdXs.keep (λb o e n=>?_) ((e6.kp k1 R.bt).append (.cons r1 .nil));rw[jag λ(z:b=a)=>n (z▸e3)];exact e
   |tp=>exact q1.elim
   |dk _=>exact q1.elim
   |ln _=>exact q1.elim
   |ob _=>exact q1.elim
  ·exact q.elim⟩
end
def jam (N:List Str) (ws:List Wv):Sl:=ws.map (λx=>some (.w x))++Dc (N.length - ws.length) none
theorem ARel.get {H:Hp} {B:Addr->Prop} {t:Addr}:∀{vs:List V} {xs:List Wv} {i:Nat} {x:Wv},ARel H B t vs xs->xs[i]?=some x->∃v,vs[i]?=some v/\WRel H B t v x
 |_,_,_,_,.nil,e=>by simp at e
 |_,_,0,_,.cons h _,e=>by
  simp at e;subst e;exact⟨_,rfl,h⟩
 |_,_,i+1,x,.cons _ r,e=>by
  obtain⟨v,h1,h2⟩:=ARel.get (i:=i) (x:=x) r (by simpa using e);exact⟨v,by simpa using h1,h2⟩
theorem jrh {H:Hp} {t:Addr} {l:TL} {ns:List Int} {B:Addr->Prop} {vs:List V} {ws:List Wv} {n:Int} {N:List Str} (T:Tp H t l ns n) (bt:B t) (ba:∀b,B b->H b≠none) (r:ARel H B t vs ws):Rel ⟨t,l,ns,H,B,λ_=>none⟩ H B (L2.start N vs) (jam N ws) n where
 tp:=T
 kp:=Kp.refl _ _
 t0:=by
  obtain⟨_,_,h,_⟩:=T.ob;show H t≠none;rw[h];exact λz=>nomatch z
 l0:=by
  show H l.s≠none;rw[T.ls];exact λz=>nomatch z
 g0:=λe=>by
  show H l.g≠none;rw[T.ag e];exact λz=>nomatch z
 fz:=λb o e=>nomatch e
 bt:=bt
 b0:=λ_ z=>z
 ba:=ba
 a0:=ba
 sl:=λi x e=>by
  have hl:=r.len;unfold jam at e;rw[List.getElem?_append]at e
  split at e
  ·rename_i hi;rw[Ae]at hi;rw[A7]at e;cases q:ws[i]? with
   |none=>rw[q]at e;cases e
   |some y =>
    rw[q]at e;cases e;obtain⟨v,h1,h2⟩:=r.get q;refine⟨v,?_,h2,λz=>?_⟩
    ·unfold L2.start;rw[E9 (by rw[Ae,hl];exact hi),A7,h1];rfl
    ·cases y with
     |d _=>cases z
     |tp=>cases z
     |dk _ =>
      obtain⟨a,l',f1,f2,_⟩:=h2;exact⟨a,f1,by show H a≠none;rw[f2];exact λz=>nomatch z⟩
     |ln _ =>
      obtain⟨a,l',f1,f2,_⟩:=h2;exact⟨a,f1,by show H a≠none;rw[f2];exact λz=>nomatch z⟩
     |ob _=>cases z
  ·rw[Ee]at e
   split at e
   ·cases e
   ·cases e
 ow:=λi j x y v e1 e2 o1 o2 _ _=>by
  unfold jam at e1;rw[List.getElem?_append]at e1
  split at e1
  ·rw[A7]at e1;cases q:ws[i]? with
   |none=>rw[q]at e1;cases e1
   |some y =>
    rw[q]at e1;cases e1;cases o1
  ·rw[Ee]at e1
   split at e1
   ·cases e1
   ·cases e1
 len:=by
  unfold L2.start jam;rw[Ap,Ap,Ae,Ae,List.length_replicate,List.length_replicate,r.len]
section
variable {P:Bm} {w:B3} {K:Aj} {mg:Str->Option Ah} {base:Heap}
theorem Fun.okD {x qual:Str} {st:Stmt} {f:Addr} {fd:C1} {N ps:List Str} {k:Nat} {S:DSp} (F:Fun K x qual st f fd) (Sc:FnScope N ps (jao st)) (len:∀ws n Q,S ws n Q->ws.length=ps.length)
  (hbody:∀(cdv:Ah) (A:B8) (outer:List Env) (s:Ak) (H:Hp) (E:XK),Room k (A.deeper (Ep qual (jao st) s.heap.objs.size f cdv)) ->
   ∃T W,DSs (cxOf CX0 P w K mg base N qual (jao st) f cdv A outer s H E).nox (jbp st) T W/\∀ws n Q,S ws n Q->W (jam N ws) n {nx:=λ_ n=>Q (.d .none) n,rt:=Q}):FnOk P w K mg base CX0 (k+1) f fd ps (spOf S):=by
 refine F.ok Sc (λvs H Q E h=>?_) (λcdv A outer s H vs Q E hr h=>?_)
 ·obtain⟨t,l,ns,B,ws,n,Q0,_,_,_,r,q,_⟩:=h;rw[r.len];exact len ws n Q0 q
 ·obtain⟨t,l,ns,B,ws,n,Q0,T,bt,ba,r,q,kk⟩:=h;obtain⟨T',W,d,hw⟩:=hbody cdv A outer s H E hr;refine⟨T',d.ps,d.sd ⟨t,l,ns,H,B,λ_=>none⟩ H B _ _ n _ _ (jrh T bt ba r) (hw ws n Q0 q) ⟨?_,?_,?_,?_,λ_ _ _ _ _ _ _ _ _ _ _ _ _ z=>z.elim⟩⟩
  ·exact λH' B' σ δ n' R' q'=>kk _ _ q' .non H' R'.tp R'.kp (show RdX H' B .non .none from .non)
  ·exact λH' B' σ δ n' v x R' r' q'=>kk _ _ q' v H' R'.tp R'.kp (r'.less R'.b0)
  ·exact λ_ _ _ _ _ _ z=>z.elim
  ·exact λ_ _ _ _ _ _ z=>z.elim
end
section
variable {X:Cx} {a b c e:Expr} {ta tb tc te:TE} {wa wb wc we:DT} {pos p:Pos}
def gI (Cd:Int->Int->Prop) (f:Int->Int->Ab):Wv->Wv->Int->DQ->Prop:=λx y n Q=>match x,y with
 |.d (.int i),.d (.int j)=>Cd i j/\Q (.d (f i j)) n
 |_,_=>False
theorem jzw {Cd:Int->Int->Prop} {g:Int->Int->V} {f:Int->Int->Ab} (h:∀i j H B,RdX H B (g i j) (f i j)):SndO (rI Cd g) (gI Cd f):=λC H B σ δ n x y p q Q Q' R rx ry h1 k=>by
 unfold gI at h1
 split at h1
 ·rename_i i j;cases(show RdX H B x (.int i)from rx);cases(show RdX H B y (.int j)from ry);exact⟨i,j,rfl,rfl,h1.1,k _ _ H n R (Kp.refl _ _) (wd (h i j H B)) h1.2⟩
 ·exact h1.elim
def gI0 (f:Int->Int->Ab):Wv->Wv->Int->DQ->Prop:=λx y n Q=>match x,y with
 |.d (.int i),.d (.int j)=>Q (.d (f i j)) n
 |_,_=>False
theorem jq7 {g:Int->Int->V} {f:Int->Int->Ab} (h:∀i j H B,RdX H B (g i j) (f i j)):SndO (rI0 g) (gI0 f):=λC H B σ δ n x y p q Q Q' R rx ry h1 k=>by
 unfold gI0 at h1
 split at h1
 ·rename_i i j;cases(show RdX H B x (.int i)from rx);cases(show RdX H B y (.int j)from ry);exact⟨i,j,rfl,rfl,k _ _ H n R (Kp.refl _ _) (wd (h i j H B)) h1⟩
 ·exact h1.elim
theorem j37 (ha:DE X a ta wa) (hb:DE X b tb wb):DE X (.BinOp a .Sub b pos) (tOp (rI0 λi j=>.int (i - j)) ta tb) (w2 wa wb (gI0 λi j=>.int (i - j))):=d_op j00 (jq7 λ_ _ _ _=>.int _) ha hb
theorem j4a (ha:DE X a ta wa) (hb:DE X b tb wb):DE X (.BinOp a .Pow b pos) (tOp (rI CPow λi j=>.int (i ^ j.toNat)) ta tb) (w2 wa wb (gI CPow λi j=>.int (i ^ j.toNat))):=d_op jv6 (jzw λ_ _ _ _=>.int _) ha hb
def wNeg (w:DT):DT:=λδ n Q=>w δ n λx n1=>match x with
 |.d (.int i)=>Q (.d (.int (-i))) n1
 |_=>False
theorem j4e (ha:DE X a ta wa):DE X (.UnaryOp .USub a pos) (tUn (rU λi=>.int (-i)) ta) (wNeg wa):=⟨j0s jvs ha.pe,λC H B σ δ n Q Q' R q k=>ha.sd C H B σ δ n _ _ R q λv x H1 n1 R1 k1 r1 q1=>by
 split at q1
 ·rename_i i;cases(show RdX H1 B v (.int i)from r1);exact⟨i,rfl,k _ _ H1 n1 R1 k1 (wd (.int _)) q1⟩
 ·exact q1.elim⟩
def gAdd:Wv->Wv->Int->DQ->Prop:=λx y n Q=>match x,y with
 |.d (.int i),.d (.int j)=>Q (.d (.int (i+j))) n
 |.d (.str i),.d (.str j)=>i.length+j.length<=Ay/\Q (.d (.str (i++j))) n
 |.d (.tuple i),.d (.tuple j)=>(i≠[]\/j≠[])/\i.length+j.length<=Ay/\Q (.d (.tuple (i++j))) n
 |.d (.list i),.d (.list j)=>i.length+j.length<=Ay/\Q (.d (.list (i++j))) n
 |_,_=>False
def jud (K:Aj):R2:=λx y H Q=>(rI0 λi j=>.int (i+j)) x y H Q\/(∃i j,x=.str i/\y=.str j/\i.length+j.length<=Ay/\Q (.str (i++j)) H)\/j0i K x y H Q\/j0h K x y H Q\/rCat x y H Q
theorem op_addA:OpR X (El .Add) (jud X.K) :=
 op_add.or (op_add_str.or (op_catA.or (op_catT.or jwb)))
theorem jnf (i j:Str):(i++j).length=i.length+j.length:=Array.size_append
theorem jt5 {K:Aj}:SndO (jud K) gAdd:=λC H B σ δ n x y p q Q Q' R rx ry h1 k=>by
 unfold gAdd at h1
 split at h1
 ·rename_i i j;cases(show RdX H B x (.int i)from rx);cases(show RdX H B y (.int j)from ry);exact .inl ⟨i,j,rfl,rfl,k _ _ H n R (Kp.refl _ _) (wd (.int _)) h1⟩
 ·rename_i i j;cases(show RdX H B x (.str i)from rx);cases(show RdX H B y (.str j)from ry);exact .inr (.inl ⟨i,j,rfl,rfl,h1.1,k _ _ H n R (Kp.refl _ _) (wd (show RdX H B _ (.str (i++j))from .str _ (by rw[jnf];exact h1.1))) h1.2⟩)
 ·rename_i i j;cases(show RdX H B x (.tuple i)from rx)with
  |@tup ax xs _ e1 e2 e3 e4 =>
   cases(show RdX H B y (.tuple j)from ry)with
   |@tup ay ys _ f1 f2 f3 f4 =>
    obtain⟨ne,hl,q⟩:=h1;have hl':xs.length+ys.length<=Ay:=by rw[e4.len,f4.len];exact hl
    have new:∀pn,H pn=none->Q' (.ref pn) (upd H pn (.tup (xs++ys))):=λpn hp=>by
     refine k _ _ _ n (R.new hp) (Kp.new hp) (wd (show RdX _ B _ (.tuple (i++j))from .tup jaj (R.nb hp) (by rw[Ap];exact hl') ?_)) q;exact((e4.append f4).fresh hp).less λb z=>.inl z
    by_cases hy:ys=[]
    ·have hx:xs≠[]:=λz=>by
      subst hy z;cases e4;cases f4;exact ne.elim (λq=>q rfl) λq=>q rfl
     refine .inr (.inr (.inr (.inl ⟨ax,ay,xs,ys,rfl,rfl,SqT.of e1,SqT.of f1,hx,hl',λ_=>?_,λ_=>new⟩)));subst hy;cases f4;rw[Bu]at q;exact k _ _ H n R (Kp.refl _ _) (wd (show RdX H B _ (.tuple i)from .tup e1 e2 e3 e4)) q
    ·refine .inr (.inr (.inl ⟨ax,ay,xs,ys,rfl,rfl,SqT.of e1,SqT.of f1,hy,hl',λz=>?_,λ_=>new⟩));subst z;cases e4;exact k _ _ H n R (Kp.refl _ _) (wd (show RdX H B _ (.tuple j)from .tup f1 f2 f3 f4)) q
 ·rename_i i j;cases(show RdX H B x (.list i)from rx)with
  |@lst ax xs _ e1 e2 e3 e4 =>
   cases(show RdX H B y (.list j)from ry)with
   |@lst ay ys _ f1 f2 f3 f4 =>
    obtain⟨hl,q⟩:=h1;have hl':xs.length+ys.length<=Ay:=by rw[e4.len,f4.len];exact hl
    refine .inr (.inr (.inr (.inr ⟨ax,ay,xs,ys,rfl,rfl,e1,f1,hl',λpn hp=>?_⟩)));refine k _ _ _ n (R.new hp) (Kp.new hp) (wd (show RdX _ B _ (.list (i++j))from .lst jaj (R.nb hp) (by rw[Ap];exact hl') ?_)) q;exact((e4.append f4).fresh hp).less λb z=>.inl z
 ·exact h1.elim
def gCmp (f:Int->Int->Bool) (h:List Nat->List Nat->Bool):Wv->Wv->Int->DQ->Prop:=λx y n Q=>match x,y with
 |.d (.int i),.d (.int j)=>Q (.d (.bool (f i j))) n
 |.d (.str i),.d (.str j)=>Q (.d (.bool (h i.cps.toList j.cps.toList))) n
 |_,_=>False
theorem jnh {f:Int->Int->Bool} {h:List Nat->List Nat->Bool}:SndO (λx y H Q=>(rI0 λi j=>.bl (f i j)) x y H Q\/∃i j,x=.str i/\y=.str j/\Q (.bl (h i.cps.toList j.cps.toList)) H) (gCmp f h):=λC H B σ δ n x y p q Q Q' R rx ry h1 k=>by
 unfold gCmp at h1
 split at h1
 ·rename_i i j;cases(show RdX H B x (.int i)from rx);cases(show RdX H B y (.int j)from ry);exact .inl ⟨i,j,rfl,rfl,k _ _ H n R (Kp.refl _ _) (wd (.bl _)) h1⟩
 ·rename_i i j;cases(show RdX H B x (.str i)from rx);cases(show RdX H B y (.str j)from ry);exact .inr ⟨i,j,rfl,rfl,k _ _ H n R (Kp.refl _ _) (wd (.bl _)) h1⟩
 ·exact h1.elim
abbrev gLt:=gCmp (λi j=>decide (i < j)) (λi j=>decide (i < j))
abbrev gLe:=gCmp (λi j=>decide (i<=j)) (λi j=>!decide (j < i))
abbrev gGt:=gCmp (λi j=>decide (j < i)) (λi j=>decide (j < i))
def rLtA:R2:=λx y H Q=>(rI0 λi j=>.bl (decide (i < j))) x y H Q\/∃i j,x=.str i/\y=.str j/\Q (.bl (decide (i.cps.toList < j.cps.toList))) H
theorem jv7:OpR X (Bk .Lt) rLtA:=op_lt.or jr3
def rLeA:R2:=λx y H Q=>(rI0 λi j=>.bl (decide (i<=j))) x y H Q\/∃i j,x=.str i/\y=.str j/\Q (.bl (!decide (j.cps.toList < i.cps.toList))) H
theorem joq:OpR X (Bk .LtE) rLeA:=op_le.or jr4
def rGtA:R2:=λx y H Q=>(rI0 λi j=>.bl (decide (j < i))) x y H Q\/∃i j,x=.str i/\y=.str j/\Q (.bl (decide (j.cps.toList < i.cps.toList))) H
theorem jwa:OpR X (Bk .Gt) rGtA:=op_gt.or jr6
theorem jvx:SndO rLtA gLt:=jnh (f:=λi j=>decide (i < j)) (h:=λi j=>decide (i < j))
theorem joh:SndO rLeA gLe:=jnh (f:=λi j=>decide (i<=j)) (h:=λi j=>!decide (j < i))
theorem jvy:SndO rGtA gGt:=jnh (f:=λi j=>decide (j < i)) (h:=λi j=>decide (j < i))
def eqD:Ab->Ab->Option Bool
 |.none,.none=>some true
 |.none,.int _=>some false
 |.int _,.none=>some false
 |.none,.bool _=>some false
 |.bool _,.none=>some false
 |.none,.str _=>some false
 |.str _,.none=>some false
 |.int i,.int j=>some (decide (i=j))
 |.bool i,.bool j=>some (decide (i=j))
 |.str i,.str j=>some (decide (i=j))
 |.int _,.str _=>some false
 |.str _,.int _=>some false
 |.bool _,.str _=>some false
 |.str _,.bool _=>some false
 |.list _,.str _=>some false
 |.tuple _,.str _=>some false
 |.dict _,.str _=>some false
 |.list xs,.list []=>some xs.isEmpty
 |_,_=>none
def juc:R2:=λx y H Q=>∃d h B,RdX H B x d/\y=.str h/\Q (.bl (jcw h d)) H
theorem jkr (x y:Str):decide (V.str x=V.str y)=decide (x=y):=by
 by_cases z:x=y
 ·rw[z,decide_eq_true rfl,decide_eq_true rfl]
 ·rw[decide_eq_false z,decide_eq_false λw=>z (V.str.inj w)]
theorem jo0 (x y:Int):decide (V.int x=V.int y)=decide (x=y):=by
 by_cases z:x=y
 ·rw[z,decide_eq_true rfl,decide_eq_true rfl]
 ·rw[decide_eq_false z,decide_eq_false λw=>z (V.int.inj w)]
theorem js0 (x y:Bool):decide (V.bl x=V.bl y)=decide (x=y):=by
 by_cases z:x=y
 ·rw[z,decide_eq_true rfl,decide_eq_true rfl]
 ·rw[decide_eq_false z,decide_eq_false λw=>z (V.bl.inj w)]
theorem jya (hu:X.A.units < cLine):OpR X (Bk .Eq) juc:=by
 intro pins s σ H x y v u Q I rx ry h;obtain⟨d,hh,B,hd,rfl,q⟩:=h;cases hd with
 |non=>exact op_eq pins s σ H _ _ v u Q I rx ry ⟨rfl,q⟩
 |bl b=>exact op_eq pins s σ H _ _ v u Q I rx ry ⟨rfl,q⟩
 |int i=>exact op_eq pins s σ H _ _ v u Q I rx ry ⟨rfl,q⟩
 |str x hx =>
  refine op_eq pins s σ H _ _ v u Q I rx ry ⟨rfl,?_⟩;rw[jkr];exact q
 |@lst a xs ds h1 h2 h3 h4 =>
  cases(show v=Bw a from rx);obtain⟨t,rfl⟩:=(show ∃t,u=F3 hh t from ry);obtain⟨its,_,p,_⟩:=I.list (SqL.of (K:=X.K) h1);exact PySem.SeqAt.RcAt.list_str hh t p.isList hu _ _ _ _ ⟨.bl false,H,I,rfl,q⟩
 |@tup a xs ds h1 h2 h3 h4 =>
  cases(show v=Bw a from rx);obtain⟨t,rfl⟩:=(show ∃t,u=F3 hh t from ry);obtain⟨its,_,p,_⟩:=I.tuple (SqT.of (K:=X.K) h1);exact PySem.SeqAt.RcAt.tuple_str hh t (show s.heap.IsTuple a its.toArray from p) hu _ _ _ _ ⟨.bl false,H,I,rfl,q⟩
def gEq:Wv->Wv->Int->DQ->Prop:=λx y n Q=>match x,y with
 |.d a,.d b=>match eqD a b with
  |some r=>Q (.d (.bool r)) n
  |none=>False
 |_,_=>False
theorem j03 (hu:X.A.units < cLine):OpR X (Bk .Eq) (λx y H Q=>rEq x y H Q\/juc x y H Q\/jom X.K x y H Q):=op_eq.or ((jya hu).or (jup hu))
theorem jzz {K:Aj}:SndO (λx y H Q=>rEq x y H Q\/juc x y H Q\/jom K x y H Q) gEq:=λC H B σ δ n x y p q Q Q' R rx ry h1 k=>by
 unfold gEq at h1
 split at h1
 ·rename_i da db;have rx:RdX H B x da:=rx;have ry:RdX H B y db:=ry;have fin:∀r:Bool,Q (.d (.bool r)) n->Q' (.bl r) H:=λr q=>k _ _ H n R (Kp.refl _ _) (wd (.bl r)) q
  split at h1
  ·rename_i r er;have h1:=fin r h1;cases rx with
   |non=>cases ry<;>first | (cases er;done) | (cases er;exact .inl ⟨rfl,h1⟩)
   |bl i=>cases ry<;>first | (cases er;done) | (cases er;exact .inl ⟨rfl,by first | exact h1 | (rw[js0];exact h1)⟩)
   |int i=>cases ry<;>first | (cases er;done) | (cases er;exact .inl ⟨rfl,by first | exact h1 | (rw[jo0];exact h1)⟩)
   |str i hi=>cases ry<;>first | (cases er;done) | (cases er;exact .inl ⟨rfl,by first | exact h1 | (rw[jkr];exact h1)⟩)
   |@lst ax xs ds e1 e2 e3 e4 =>
    cases ry with
    |str j hj=>cases er;exact .inr (.inl ⟨_,j,B,.lst e1 e2 e3 e4,rfl,h1⟩)
    |@lst ay ys es f1 f2 f3 f4 =>
     cases f4 with
     |nil =>
      have er:some ds.isEmpty=some r:=er;cases er;refine .inr (.inr ⟨ax,ay,xs,rfl,rfl,SqL.of e1,SqL.of f1,?_⟩);have:xs.isEmpty=ds.isEmpty:=by cases e4<;>rfl
      rw[this];exact h1
     |cons _ _=>cases er
    |_=>cases er
   |@tup ax xs ds e1 e2 e3 e4 =>
    cases ry with
    |str j hj=>cases er;exact .inr (.inl ⟨_,j,B,.tup e1 e2 e3 e4,rfl,h1⟩)
    |_=>cases er
  ·exact h1.elim
 ·exact h1.elim
def neD (a b:Ab):Option Bool:=match a,b with
 |.list _,_=>none
 |.tuple _,_=>none
 |a,b=>(eqD a b).map not
def gNe:Wv->Wv->Int->DQ->Prop:=λx y n Q=>match x,y with
 |.d a,.d b=>match neD a b with
  |some r=>Q (.d (.bool r)) n
  |none=>False
 |_,_=>False
theorem jzy:SndO rNe gNe:=λC H B σ δ n x y p q Q Q' R rx ry h1 k=>by
 unfold gNe at h1
 split at h1
 ·rename_i da db;have rx:RdX H B x da:=rx;have ry:RdX H B y db:=ry;have fin:∀r:Bool,Q (.d (.bool r)) n->Q' (.bl r) H:=λr q=>k _ _ H n R (Kp.refl _ _) (wd (.bl r)) q
  split at h1
  ·rename_i r er;have h1:=fin r h1;cases rx with
   |non=>cases ry<;>first | (cases er;done) | (cases er;exact⟨rfl,h1⟩)
   |bl i=>cases ry<;>first | (cases er;done) | (cases er;exact⟨rfl,by first | exact h1 | (rw[js0];exact h1)⟩)
   |int i=>cases ry<;>first | (cases er;done) | (cases er;exact⟨rfl,by first | exact h1 | (rw[jo0];exact h1)⟩)
   |str i hi=>cases ry<;>first | (cases er;done) | (cases er;exact⟨rfl,by first | exact h1 | (rw[jkr];exact h1)⟩)
   |lst _ _ _ _=>cases er
   |tup _ _ _ _=>cases er
  ·exact h1.elim
 ·exact h1.elim
def jda:Ab->Bool
 |.none=>true
 |_=>false
def gIsN (neg:Bool):Wv->Wv->Int->DQ->Prop:=λx y n Q=>match x,y with
 |.d a,.d .none=>Q (.d (.bool (if neg then !jda a else jda a))) n
 |_,_=>False
theorem jos {H:Hp} {B:Addr->Prop} {v:V} {d:Ab} (h:RdX H B v d):decide (v=.non)=jda d:=by cases h<;>rfl
theorem jq9:SndO (λx y H Q=>y=.non/\Q (.bl (decide (x=.non))) H) (gIsN false):=λC H B σ δ n x y p q Q Q' R rx ry h1 k=>by
 unfold gIsN at h1
 split at h1
 ·rename_i da;cases(show RdX H B y .none from ry);exact⟨rfl,k _ _ H n R (Kp.refl _ _) (wd (show RdX H B _ (.bool (jda da))from by rw[jos rx];exact .bl _)) h1⟩
 ·exact h1.elim
theorem jt0:SndO (λx y H Q=>y=.non/\Q (.bl (!decide (x=.non))) H) (gIsN true):=λC H B σ δ n x y p q Q Q' R rx ry h1 k=>by
 unfold gIsN at h1
 split at h1
 ·rename_i da;cases(show RdX H B y .none from ry);exact⟨rfl,k _ _ H n R (Kp.refl _ _) (wd (show RdX H B _ (.bool (!jda da))from by rw[jos rx];exact .bl _)) h1⟩
 ·exact h1.elim
def jhp:Ab->Bool
 |.none=>true
 |.bool _=>true
 |.int _=>true
 |.str _=>true
 |_=>false
def eqF:Ab->Ab->Bool
 |.none,.none=>true
 |.bool a,.bool b=>a==b
 |.bool a,.int b=>(if a then 1 else 0)==b
 |.int a,.bool b=>a==(if b then 1 else 0)
 |.int a,.int b=>a==b
 |.str a,.str b=>a==b
 |_,_=>false
def inD (x:Ab) (ds:List Ab):Bool:=ds.any λy=>eqF y x
theorem jho {H:Hp} {B:Addr->Prop} {v:V} {d:Ab} (h:RdX H B v d) (f:jhp d=true):ji4 v=true:=by cases h<;>first | rfl | cases f
theorem je1 {H:Hp} {B:Addr->Prop}:∀{vs:List V} {ds:List Ab},RdXs H B vs ds->ds.all jhp=true->vs.all ji4=true
 |_,_,.nil,_=>rfl
 |_,_,.cons h r,f=>by
  rw[Dt,A4]at f ⊢;exact⟨jho h f.1,je1 r f.2⟩
theorem j2b {H:Hp} {B:Addr->Prop} {v u:V} {d e:Ab} (h:RdX H B v d) (h2:RdX H B u e):eqV v u=eqF d e:=by cases h<;>cases h2<;>rfl
theorem jmg {H:Hp} {B:Addr->Prop} {v:V} {d:Ab} (h:RdX H B v d):∀{vs:List V} {ds:List Ab},RdXs H B vs ds->inV v vs=inD d ds
 |_,_,.nil=>rfl
 |_,_,.cons h1 r=>by
  have:=jmg h r;unfold inV inD at this ⊢;rw[List.any_cons,List.any_cons,this,j2b h1 h]
def gIn (neg:Bool):Wv->Wv->Int->DQ->Prop:=λx y n Q=>match x,y with
 |.d a,.d (.tuple ds)=>jhp a=true/\ds.all jhp=true/\Q (.d (.bool (if neg then !inD a ds else inD a ds))) n
 |.d a,.d (.list ds)=>jhp a=true/\ds.all jhp=true/\Q (.d (.bool (if neg then !inD a ds else inD a ds))) n
 |_,_=>False
theorem jls {K:Aj} {neg:Bool}:SndO (rIn K neg) (gIn neg):=λC H B σ δ n x y p q Q Q' R rx ry h1 k=>by
 unfold gIn at h1
 split at h1
 ·rename_i da ds;obtain⟨f1,f2,q⟩:=h1;have rx:RdX H B x da:=rx;cases(show RdX H B y (.tuple ds)from ry)with
  |@tup ay ys _ e1 e2 e3 e4 =>
   refine⟨ay,ys,rfl,.inr (SqT.of e1),jho rx f1,je1 e4 f2,?_⟩;rw[jmg rx e4];exact k _ _ H n R (Kp.refl _ _) (wd (.bl _)) q
 ·rename_i da ds;obtain⟨f1,f2,q⟩:=h1;have rx:RdX H B x da:=rx;cases(show RdX H B y (.list ds)from ry)with
  |@lst ay ys _ e1 e2 e3 e4 =>
   refine⟨ay,ys,rfl,.inl (SqL.of e1),jho rx f1,je1 e4 f2,?_⟩;rw[jmg rx e4];exact k _ _ H n R (Kp.refl _ _) (wd (.bl _)) q
 ·exact h1.elim
def gIx:Wv->Wv->Int->DQ->Prop:=λx y n Q=>match x,y with
 |.d (.list ds),.d (.int i)=>match atI ds i with
  |some d=>Q (.d d) n
  |none=>False
 |.d (.tuple ds),.d (.int i)=>match atI ds i with
  |some d=>Q (.d d) n
  |none=>False
 |.d (.str z),.d (.int i)=>match atI z.cps.toList i with
  |some c=>Q (.d (.str ⟨#[c]⟩)) n
  |none=>False
 |_,_=>False
theorem jtf {H:Hp} {B:Addr->Prop} {vs:List V} {ds:List Ab} {i:Int} {d:Ab} (r:RdXs H B vs ds) (h:atI ds i=some d):∃v,atI vs i=some v/\RdX H B v d:=by
 unfold atI at h ⊢;rw[r.len];cases e:ixN ds.length i with
 |none=>rw[e]at h;cases h
 |some j =>
  rw[e]at h;exact r.getD h
theorem jlr {K:Aj}:SndO (rIx K) gIx:=λC H B σ δ n x y p q Q Q' R rx ry h1 k=>by
 unfold gIx at h1
 split at h1
 ·rename_i ds i
  split at h1
  ·rename_i d e;cases(show RdX H B y (.int i)from ry);cases(show RdX H B x (.list ds)from rx)with
   |@lst ay ys _ e1 e2 e3 e4 =>
    obtain⟨v,f1,f2⟩:=jtf e4 e;exact .inl ⟨ay,ys,i,v,rfl,rfl,SqL.of e1,f1,k _ _ H n R (Kp.refl _ _) (wd f2) h1⟩
  ·exact h1.elim
 ·rename_i ds i
  split at h1
  ·rename_i d e;cases(show RdX H B y (.int i)from ry);cases(show RdX H B x (.tuple ds)from rx)with
   |@tup ay ys _ e1 e2 e3 e4 =>
    obtain⟨v,f1,f2⟩:=jtf e4 e;exact .inr (.inl ⟨ay,ys,i,v,rfl,rfl,SqT.of e1,f1,k _ _ H n R (Kp.refl _ _) (wd f2) h1⟩)
  ·exact h1.elim
 ·rename_i z i
  split at h1
  ·rename_i c e;cases(show RdX H B y (.int i)from ry);cases(show RdX H B x (.str z)from rx)with
   |str _ hz=>exact .inr (.inr ⟨z,i,c,rfl,rfl,hz,e,k _ _ H n R (Kp.refl _ _) (wd (show RdX H B _ (.str ⟨#[c]⟩)from .str _ (by show 1<=Ay;decide))) h1⟩)
  ·exact h1.elim
 ·exact h1.elim
theorem d_ix (ha:DE X a ta wa) (hb:DE X b tb wb) (hs:jk8 b:=by exact λ_ _=>rfl):DE X (.Subscript a b pos) (tOp (rIx X.K) ta tb) (w2 wa wb gIx):=⟨jgp jsl ha.pe hb.pe hs,jlq jlr ha.sd hb.sd⟩
def gLen:List Wv->Int->DQ->Prop:=λxs n Q=>match xs with
 |[.d (.str x)]=>Q (.d (.int x.length)) n
 |[.d (.list ds)]=>Q (.d (.int ds.length)) n
 |[.d (.tuple ds)]=>Q (.d (.int ds.length)) n
 |_=>False
theorem jtb:CallR X (.builtin "len") (λxs H Q=>(∃z,xs=[.str z]/\z.length<=Ay/\Q (.int z.length) H)\/∃p ys,xs=[.ref p]/\(SqL X.K H p ys\/SqT X.K H p ys)/\Q (.int ys.length) H):=call_len_str.or jb7
theorem jxf {K:Aj}:SndB (λxs H Q=>(∃z,xs=[.str z]/\z.length<=Ay/\Q (.int z.length) H)\/∃p ys,xs=[.ref p]/\(SqL K H p ys\/SqT K H p ys)/\Q (.int ys.length) H) gLen:=λC H B σ δ n vs xs Q Q' R r h k=>by
 unfold gLen at h
 split at h
 ·rename_i x;cases r with
  |cons r1 r2 =>
   cases r2;cases(show RdX H B _ (.str x)from r1)with
   |str _ hz=>exact .inl ⟨x,rfl,hz,k _ _ H n R (Kp.refl _ _) (wd (.int _)) h⟩
 ·rename_i ds;cases r with
  |cons r1 r2 =>
   cases r2;cases(show RdX H B _ (.list ds)from r1)with
   |@lst ay ys _ e1 e2 e3 e4 =>
    refine .inr ⟨ay,ys,rfl,.inl (SqL.of e1),?_⟩;rw[e4.len];exact k _ _ H n R (Kp.refl _ _) (wd (.int _)) h
 ·rename_i ds;cases r with
  |cons r1 r2 =>
   cases r2;cases(show RdX H B _ (.tuple ds)from r1)with
   |@tup ay ys _ e1 e2 e3 e4 =>
    refine .inr ⟨ay,ys,rfl,.inr (SqT.of e1),?_⟩;rw[e4.len];exact k _ _ H n R (Kp.refl _ _) (wd (.int _)) h
 ·exact h.elim
theorem jzi {K:Aj} {H:Hp} {B:Addr->Prop} {v:V} {d:Ab} (h:RdX H B v d):TyOf K H v (.type (tyD d)):=by
 cases h with
 |non=>exact .non
 |bl b=>exact .bl b
 |int i=>exact .int i
 |str x h=>exact .str x
 |lst h1 h2 h3 h4=>exact .lst h1
 |tup h1 h2 h3 h4=>exact .tup h1
theorem j3p {K:Aj} {H:Hp} {B:Addr->Prop} {v:V} {d:Ab} (h:RdX H B v d) {T:String} (hT:T="int"\/T="bool"\/T="str"\/T="tuple"\/T="list"):PySem.W.kitOne K (.type (tyD d)) (.type T)=some (isiB T d):=by
 cases h<;>rcases hT with rfl | rfl | rfl | rfl | rfl<;>rfl
def wIsi (T:String) (w:DT):DT:=λδ n Q=>w δ n λx n1=>match x with
 |.d d=>Q (.d (.bool (isiB T d))) n1
 |_=>False
theorem j4h {T:String} {x:Str} {p p2:Pos} (hT:T="int"\/T="bool"\/T="str"\/T="tuple"\/T="list") (hg:Gl X "isinstance") (hm:X.mg "isinstance"=none) (hg2:Gl X x) (hm2:X.mg x=none) (hv:By x=some (.type T)) (ha:DE X a ta wa) (hn:x≠"__name__":=by decide) (hdb:(x==("__debug__":Str))=false:=by decide)
  (he:Ax [a,.Name x p2] X.env=(false,eval a X.env)::Ax [.Name x p2] X.env:=by rfl) (he2:Ax [.Name x p2] X.env=(false,eval (.Name x p2) X.env)::Ax [] X.env:=by rfl) (hpl:(D9 pos (Ax [.Name x p2] X.env)).any (·.1)=false:=by rfl) :
  DE X (.Call (.Name "isinstance" p) [a,.Name x p2] [] pos) (tCB (λxs H Q=>∃x t b,xs=[x,.ty T]/\TyOf X.K H x t/\PySem.W.kitOne X.K t (.type T)=some b/\Q (.bl b) H) (jb2 ta (jb2 (tC (.ty T)) tNil))) (wIsi T wa) :=
 ⟨jdx (jve (T:=T)) hg hm jwm (jas ha.pe (jas (jx4 (v:=.ty T) hg2 hm2 hv rfl hn hdb) jbm he2) he) (by decide) (by decide) he hpl,λC H B σ δ n Q Q' R q k=>ha.sd C H B σ δ n _ _ R q λv x H1 n1 R1 k1 r1 q1=>by
  cases x with
  |d d=>exact⟨v,_,_,rfl,jzi r1,j3p (show RdX H1 B v d from r1) hT,k _ _ H1 n1 R1 k1 (wd (.bl _)) q1⟩
  |tp=>exact q1.elim
  |dk _=>exact q1.elim
  |ln _=>exact q1.elim
  |ob _=>exact q1.elim⟩
def j3v:List Wv->Int->DQ->Prop:=λxs n Q=>match xs with
 |[.d (.list ds)]=>j2t (.list ds)/\Q (.d (.str (PyData.shown (.list ds)))) n
 |[.d (.tuple ds)]=>j2t (.tuple ds)/\Q (.d (.str (PyData.shown (.tuple ds)))) n
 |_=>False
def jbn:List Ab->Option (List Bool)
 |[]=>some []
 |.bool b::r=>(jbn r).map (b::·)
 |_::_=>none
theorem jo3 {H:Hp} {B:Addr->Prop}:∀{vs:List V} {ds:List Ab} {bs:List Bool},RdXs H B vs ds->jbn ds=some bs->vs=bs.map V.bl
 |_,_,bs,.nil,h=>by
  cases h;rfl
 |_,_,bs,.cons (d:=d) (ds:=ds) h1 h2,h=>by
  cases h1 with
  |bl b =>
   have h':(jbn ds).map (b::·)=some bs:=h;cases e:jbn ds with
   |none=>rw[e]at h';cases h'
   |some cs =>
    rw[e]at h';cases h';rw[jo3 h2 e];rfl
  |_=>cases h
def gAll:List Wv->Int->DQ->Prop:=λxs n Q=>match xs with
 |[.d (.list ds)]=>match jbn ds with
  |some bs=>Q (.d (.bool (bs.all id))) n
  |none=>False
 |_=>False
theorem jxl:SndB (λxs H Q=>∃(p:Addr) (bs:List Bool),xs=[.ref p]/\H p=some (.lst (bs.map V.bl))/\Q (.bl (bs.all id)) H) gAll:=λC H B σ δ n vs xs Q Q' R r h k=>by
 unfold gAll at h
 split at h
 ·rename_i ds
  split at h
  ·rename_i bs e;cases r with
   |cons r1 r2 =>
    cases r2;cases(show RdX H B _ (.list ds)from r1)with
    |@lst ay ys _ e1 e2 e3 e4 =>
     exact⟨ay,bs,rfl,by rw[<-jo3 e4 e];exact e1,k _ _ H n R (Kp.refl _ _) (wd (.bl _)) h⟩
  ·exact h.elim
 ·exact h.elim
def jdc:List Wv->Int->DQ->Prop:=λxs n Q=>match xs with
 |[.d (.list ds)]=>Q (.d (.tuple ds)) n
 |[.d (.tuple ds)]=>Q (.d (.tuple ds)) n
 |_=>False
theorem jq5 {K:Aj}:SndB (λxs H Q=>∃p ys,xs=[.ref p]/\((SqL K H p ys/\∀l,H l=none->Q (.ref l) (upd H l (.tup ys)))\/(SqT K H p ys/\Q (.ref p) H))) jdc:=λC H B σ δ n vs xs Q Q' R r h k=>by
 unfold jdc at h
 split at h
 ·rename_i ds;cases r with
  |cons r1 r2 =>
   cases r2;cases(show RdX H B _ (.list ds)from r1)with
   |@lst ay ys _ e1 e2 e3 e4 =>
    refine⟨ay,ys,rfl,.inl ⟨SqL.of e1,λl hl=>?_⟩⟩;exact k _ _ _ n (R.new hl) (Kp.new hl) (wd (show RdX _ B _ (.tuple ds)from .tup jaj (R.nb hl) e3 ((e4.fresh hl).less λb z=>.inl z))) h
 ·rename_i ds;cases r with
  |cons r1 r2 =>
   cases r2;cases(show RdX H B _ (.tuple ds)from r1)with
   |@tup ay ys _ e1 e2 e3 e4=>exact⟨ay,ys,rfl,.inr ⟨SqT.of e1,k _ _ H n R (Kp.refl _ _) (wd (show RdX H B _ (.tuple ds)from .tup e1 e2 e3 e4)) h⟩⟩
 ·exact h.elim
def ji3:List Wv->Int->DQ->Prop:=λxs n Q=>match xs with
 |[.d (.list ds)]=>Q (.d (.list ds)) n
 |[.d (.tuple ds)]=>Q (.d (.list ds)) n
 |_=>False
theorem jt1 {K:Aj}:SndB (λxs H Q=>∃p ys,xs=[.ref p]/\(SqL K H p ys\/SqT K H p ys)/\∀l,H l=none->Q (.ref l) (upd H l (.lst ys))) ji3:=λC H B σ δ n vs xs Q Q' R r h k=>by
 unfold ji3 at h
 split at h
 ·rename_i ds;cases r with
  |cons r1 r2 =>
   cases r2;cases(show RdX H B _ (.list ds)from r1)with
   |@lst ay ys _ e1 e2 e3 e4 =>
    refine⟨ay,ys,rfl,.inl (SqL.of e1),λl hl=>?_⟩;exact k _ _ _ n (R.new hl) (Kp.new hl) (wd (show RdX _ B _ (.list ds)from .lst jaj (R.nb hl) e3 ((e4.fresh hl).less λb z=>.inl z))) h
 ·rename_i ds;cases r with
  |cons r1 r2 =>
   cases r2;cases(show RdX H B _ (.tuple ds)from r1)with
   |@tup ay ys _ e1 e2 e3 e4 =>
    refine⟨ay,ys,rfl,.inr (SqT.of e1),λl hl=>?_⟩;exact k _ _ _ n (R.new hl) (Kp.new hl) (wd (show RdX _ B _ (.list ds)from .lst jaj (R.nb hl) e3 ((e4.fresh hl).less λb z=>.inl z))) h
 ·exact h.elim
end
structure ItOk (fz:Hp) (J:It) (ds:List Ab):Prop where
 le:ds.length<=Ay
 go:∀i H,(∀b o,fz b=some o->H b=some o)->i < ds.length->J.go i H
 stop:∀H,(∀b o,fz b=some o->H b=some o)->J.stop ds.length H
 yld:∀i H x H' d,(∀b o,fz b=some o->H b=some o)->ds[i]?=some d->J.yld i H x H'->Same H H'/\∀B,(∀b o,fz b=some o->¬B b)->(∀b,B b->H b≠none)->RdX H' B x d
def thaw (H:Hp) (B:Addr->Prop) (fz:Hp):Prop:=(∀b o,fz b=some o->H b=some o/\¬B b)/\∀b o,H b=some o->¬B b->fz b=some o
abbrev DTI:=Sl->Int->(List Ab->Int->Prop)->Prop
def SndI (wi:TI) (v:DTI):Prop:=∀(C:Ctx) (H:Hp) (B:Addr->Prop) (σ:St) (δ:Sl) (n:Int) (Q:List Ab->Int->Prop) (Q':It->Hp->Prop),Rel C H B σ δ n->v δ n Q ->
 (∀J ds H' n',Rel C H' B σ δ n'->Kp C.t H H'->(∀fz,thaw H' B fz->ItOk fz J ds)->Q ds n'->Q' J H')->wi σ H Q'
structure DI (X:Cx) (tg iter:Expr) (wi:TI) (v:DTI):Prop where
 pi:PI X tg iter wi
 sd:SndI wi v
section
variable {X:Cx} {tg a b c e:Expr} {ta tb te:TE} {wa wb we:DT} {pos p:Pos}
def je0 (w:DT):DTI:=λδ n Q=>w δ n λx n1=>match x with
 |.d (.list ds)=>Q ds n1
 |_=>False
def ja4 (w:DT):DTI:=λδ n Q=>w δ n λx n1=>match x with
 |.d (.tuple ds)=>Q ds n1
 |_=>False
def jcx (x:Str):List Ab:=x.cps.toList.map λc=>.str ⟨#[c]⟩
def jfm (w:DT):DTI:=λδ n Q=>w δ n λx n1=>match x with
 |.d (.str x)=>Q (jcx x) n1
 |_=>False
theorem j1x (ha:DE X a ta wa):DI X tg a (jyq X.K ta) (je0 wa):=⟨jxy ha.pe,λC H B σ δ n Q Q' R q k=>ha.sd C H B σ δ n _ _ R q λv x H1 n1 R1 k1 r1 q1=>by
 split at q1
 ·rename_i ds;cases(show RdX H1 B v (.list ds)from r1)with
  |@lst ay ys _ e1 e2 e3 e4 =>
   refine⟨ay,rfl,⟨ys,SqL.of e1⟩,k _ ds H1 n1 R1 k1 (λfz th=>?_) q1⟩;have hfz:fz ay=some (.lst ys):=th.2 _ _ e1 e2;refine⟨by rw[<-e4.len];exact e3,λi H hH hi=>?_,λH hH=>?_,λi H x H' d hH hd hy=>?_⟩
   ·rw[<-e4.len]at hi;exact⟨ys,ys[i],SqL.of (hH _ _ hfz),Ag hi⟩
   ·exact⟨ys,SqL.of (hH _ _ hfz),by rw[e4.len];exact Al _⟩
   ·obtain⟨rfl,hy⟩:=hy;refine⟨λ_ _ z=>z,λB' hB hBa=>?_⟩;obtain⟨u,hu,ru⟩:=e4.getD hd;have:=hy _ (SqL.of (hH _ _ hfz));rw[hu]at this;cases this;exact ru.move λb o e ne=>⟨hH _ _ (th.2 _ _ e ne),hB _ _ (th.2 _ _ e ne)⟩
 ·exact q1.elim⟩
theorem j3r (ha:DE X a ta wa):DI X tg a (iTup X.K ta) (ja4 wa):=⟨j0p ha.pe,λC H B σ δ n Q Q' R q k=>ha.sd C H B σ δ n _ _ R q λv x H1 n1 R1 k1 r1 q1=>by
 split at q1
 ·rename_i ds;cases(show RdX H1 B v (.tuple ds)from r1)with
  |@tup ay ys _ e1 e2 e3 e4 =>
   refine⟨ay,rfl,⟨ys,SqT.of e1⟩,k _ ds H1 n1 R1 k1 (λfz th=>?_) q1⟩;have hfz:fz ay=some (.tup ys):=th.2 _ _ e1 e2;refine⟨by rw[<-e4.len];exact e3,λi H hH hi=>?_,λH hH=>?_,λi H x H' d hH hd hy=>?_⟩
   ·rw[<-e4.len]at hi;exact⟨ys,ys[i],SqT.of (hH _ _ hfz),Ag hi⟩
   ·exact⟨ys,SqT.of (hH _ _ hfz),by rw[e4.len];exact Al _⟩
   ·obtain⟨rfl,hy⟩:=hy;refine⟨λ_ _ z=>z,λB' hB hBa=>?_⟩;obtain⟨u,hu,ru⟩:=e4.getD hd;have:=hy _ (SqT.of (hH _ _ hfz));rw[hu]at this;cases this;exact ru.move λb o e ne=>⟨hH _ _ (th.2 _ _ e ne),hB _ _ (th.2 _ _ e ne)⟩
 ·exact q1.elim⟩
theorem j3s (ha:DE X a ta wa):DI X tg a (iStr ta) (jfm wa):=⟨j0q ha.pe,λC H B σ δ n Q Q' R q k=>ha.sd C H B σ δ n _ _ R q λv x H1 n1 R1 k1 r1 q1=>by
 split at q1
 ·rename_i x;cases(show RdX H1 B v (.str x)from r1)with
  |str _ hx =>
   have hl:(jcx x).length=x.cps.size:=by unfold jcx;simp
   refine⟨x,rfl,k _ (jcx x) H1 n1 R1 k1 (λfz th=>⟨?_,λi H hH hi=>?_,λH hH=>?_,λi H y H' d hH hd hy=>?_⟩) q1⟩
   ·rw[hl];exact hx
   ·rw[hl]at hi;exact hi
   ·exact hl
   ·obtain⟨rfl,cc,hc,rfl⟩:=hy;refine⟨λ_ _ z=>z,λB' hB hBa=>?_⟩;unfold jcx at hd;rw[A7,Array.getElem?_toList,hc]at hd;cases hd;exact .str _ (by show 1<=Ay;decide)
 ·exact q1.elim⟩
def rngD (lo:Int) (n:Nat):List Ab:=(B4 n).map λi=>.int (lo+(i:Nat))
def ja1 (w:DT):DTI:=λδ n Q=>w δ n λx n1=>match x with
 |.d (.int j)=>(-(2 ^ 62)<=j/\j<=1000000)/\Q (rngD 0 j.toNat) n1
 |_=>False
theorem juz (fz:Hp) (lo:Int) (n:Nat) (hn:n<=1000000):ItOk fz (Itr lo n) (rngD lo n):=by
 have hl:(rngD lo n).length=n:=by unfold rngD;simp
 refine⟨?_,λi H hH hi=>?_,λH hH=>?_,λi H y H' d hH hd hy=>?_⟩
 ·rw[hl];exact A9 hn (by decide)
 ·rw[hl]at hi;exact hi
 ·show n<=(rngD lo n).length;rw[hl];exact Al _
 ·obtain⟨rfl,rfl⟩:=hy;refine⟨λ_ _ z=>z,λB' hB hBa=>?_⟩;unfold rngD at hd;rw[A7]at hd;cases e:(B4 n)[i]? with
  |none=>rw[e]at hd;cases hd
  |some j =>
   rw[e]at hd;have:j=i:=by
    obtain⟨h1,h2⟩:=A6.mp e;rw[List.getElem_range]at h2;exact h2.symm
   subst this;cases hd;exact .int _
theorem ju0 {p:Pos} (hg:Gl X "range") (hm:X.mg "range"=none) (ha:DE X a ta wa) (hs:Ax [a] X.env=[(false,eval a X.env)]:=by rfl):DI X tg (.Call (.Name "range" p) [a] [] pos) (j10 (jb2 ta tNil)) (ja1 wa):=⟨jru hg hm (jas ha.pe jbm hs) hs,λC H B σ δ n Q Q' R q k=>ha.sd C H B σ δ n _ _ R q λv x H1 n1 R1 k1 r1 q1=>by
 split at q1
 ·rename_i j;cases(show RdX H1 B v (.int j)from r1);refine⟨j,rfl,q1.1.1,by have:=q1.1.2;have:(2:Int)^62=4611686018427387904:=(by decide);omega,k _ (rngD 0 j.toNat) H1 n1 R1 k1 (λfz _=>juz fz 0 j.toNat (by have:=q1.1.2;omega)) q1.2⟩
 ·exact q1.elim⟩
end
abbrev DTG:=Ab->Sl->(Sl->Prop)->Prop
def SndG (g:TG) (v:DTG):Prop:=∀(C:Ctx) (H:Hp) (B:Addr->Prop) (σ:St) (δ:Sl) (n:Int) (x:V) (d:Ab) (Q:Sl->Prop) (Q':St->Hp->Prop),Rel C H B σ δ n->RdX H B x d->v d δ Q ->
 (∀σ' δ',Rel C H B σ' δ' n->Q δ'->Q' σ' H)->g x σ H Q'
structure DG (X:Cx) (tg:Expr) (g:TG) (v:DTG):Prop where
 pg:PG X tg g
 sd:SndG g v
section
variable {X:Cx} {pos:Pos}
def jac (i:Nat):DTG:=λd δ Q=>Q (δ.set i (some (.w (.d d))))
theorem j14 {i:Nat} {x:Str} (hN:X.N.Nodup) (hi:X.N[i]?=some x) (hx:Loc X.env.scope x) (hf:X.fn x=true\/X.env.scope.names.lookup x=some .local:=by first | exact .inl rfl | exact .inr rfl | assumption):DG X (.Name x pos) (jgw i) (jac i) :=
 ⟨jx0 hN hi hx hf,λC H B σ δ n x d Q Q' R r q k=>k _ _ (R.set (x:=.d d) r rfl) q⟩
end
def forD (g:DTG) (W:DST) (K:DEnds):List Ab->Sl->Int->Prop
 |[],δ,n=>K.nx δ n
 |d::r,δ,n=>g d δ λδ'=>W δ' n {K with nx:=forD g W K r,ct:=forD g W K r,bk:=K.nx}
def sFor (v:DTI) (g:DTG) (W:DST):DST:=λδ n K=>v δ n λds n1=>forD g W K ds δ n1
def fzOf (H:Hp) (B:Addr->Prop):Hp:=λb=>open Classical in if B b then none else H b
theorem jg7 (H:Hp) (B:Addr->Prop):thaw H B (fzOf H B):=by
 refine⟨λb o e=>?_,λb o e n=>?_⟩
 ·unfold fzOf at e
  split at e
  ·cases e
  ·rename_i h;exact⟨e,h⟩
 ·unfold fzOf;rw[if_neg n];exact e
theorem Rel.refz {C:Ctx} {H:Hp} {B:Addr->Prop} {σ:St} {δ:Sl} {n:Int} (R:Rel C H B σ δ n):Rel {C with fz:=fzOf H B} H B σ δ n :=
 ⟨R.tp,R.kp,R.t0,R.l0,R.g0,(jg7 H B).1,R.bt,R.b0,R.ba,R.a0,R.sl,R.ow,R.len⟩
theorem Rel.unfz {C:Ctx} {fz:Hp} {H:Hp} {B:Addr->Prop} {σ:St} {δ:Sl} {n:Int} (R:Rel {C with fz:=fz} H B σ δ n) (h:∀b o,C.fz b=some o->fz b=some o):Rel C H B σ δ n :=
 ⟨R.tp,R.kp,R.t0,R.l0,R.g0,λb o e=>R.fz b o (h b o e),R.bt,R.b0,R.ba,R.a0,R.sl,R.ow,R.len⟩
theorem Rel.same {C:Ctx} {H H':Hp} {B:Addr->Prop} {σ:St} {δ:Sl} {n:Int} (R:Rel C H B σ δ n) (k:Same H H'):Rel C H' B σ δ n:=by
 obtain⟨a,b,e,h⟩:=R.tp.ob;exact R.step ⟨⟨a,b,k _ _ e,h⟩,k _ _ R.tp.ls,R.tp.len,λz=>k _ _ (R.tp.ag z),R.tp.gne⟩ λb o e _=>k b o e
section
variable {X:Cx} {tg iter:Expr} {body:List Stmt} {wi:TI} {v:DTI} {g:TG} {gd:DTG} {T:TS} {W:DST} {pos:Pos}
theorem j3a (hi:DI X tg iter wi v) (hg:DG X tg g gd) (hb:DSs X body T W) (hp:PassesOwn (Ba X.prog X.w) X.A X.env X.xe:=by exact PassesOwn.never) (hc:X.calm=true:=by rfl)
  (hs:∀x,Ec iter X.env x=pure x:=by intro _;rfl):DS X (.For tg iter body [] pos) (tFor wi g T) (sFor v gd W):=⟨j0m hp hc hi.pi hg.pg hb.ps hs,λC H B σ δ n K D R q E =>
 hi.sd C H B σ δ n _ _ R q λJ ds H1 n1 R1 k1 hJ q1=>by
  have ok:=hJ (fzOf H1 B) (jg7 H1 B);have R1':=R1.refz;have back:∀{H B' σ δ n},Rel {C with fz:=fzOf H1 B} H B' σ δ n->Rel C H B' σ δ n:=λR=>R.unfz λb o e=>(jg7 H1 B).2 b o (R1.fz b o e).1 (R1.fz b o e).2;refine⟨λi m σ H=>m=ds.length - i/\i<=ds.length/\∃B' δ n,Rel {C with fz:=fzOf H1 B} H B' σ δ n/\forD gd W K (ds.drop i) δ n,⟨ds.length,by simp,A3 _,B,δ,n1,R1',by simpa using q1⟩,?_⟩
  rintro i m σ2 H2 ⟨rfl,hi,B2,δ2,n2,R2,q2⟩
  have hfz:∀b o,fzOf H1 B b=some o->H2 b=some o:=λb o e=>(R2.fz b o e).1;by_cases hlt:i < ds.length
  ·rw[Fb hlt]at q2;refine .inr ⟨ok.go i H2 hfz hlt,λσ3 H3=>∃B' δ n,Rel {C with fz:=fzOf H1 B} H3 B' σ3 δ n/\forD gd W K (ds.drop (i+1)) δ n,λσ' H' z=>⟨ds.length - (i+1),by omega,rfl,hlt,z⟩,λx H' hy=>?_⟩;obtain⟨sm,rd⟩:=ok.yld i H2 x H' ds[i] hfz (Ag hlt) hy;have R3:=R2.same sm;refine hg.sd _ H' B2 σ2 δ2 n2 x ds[i] _ _ R3 (rd B2 (λb o e=>(R2.fz b o e).2) R2.ba) q2 λσ' δ' R4 q4=>?_;refine hb.sd _ H' B2 σ' δ' n2 _ _ R4 q4 ⟨?_,?_,?_,?_,λH B σ δ n a xs ds R h0 h1 h2 h3 q=>E.rn H B σ δ n a xs ds (back R) h0 h1 h2 h3 q⟩
   ·exact λH B σ δ n R q=>⟨B,δ,n,R,q⟩
   ·exact λH B σ δ n v w R r q=>E.rt H B σ δ n v w (back R) r q
   ·exact λH B σ δ n R q=>E.nx H B σ δ n (back R) q
   ·exact λH B σ δ n R q=>⟨B,δ,n,R,q⟩
  ·have e:i=ds.length:=by omega
   subst e;rw[List.drop_length]at q2;exact .inl ⟨ok.stop H2 hfz,E.nx H2 B2 σ2 δ2 n2 (back R2) q2⟩⟩
end
def jcq (fr:List (Option Nat)) (δ:Sl):Sl:=fr.map λo=>o.bind λi=>match δ[i]? with
 |some (some (.w x))=>some (.w x)
 |some (some (.odk kvs))=>some (.w (.dk kvs))
 |some (some (.own ds))=>some (.w (.ln ds))
 |_=>none
def jbe (g:DTG) (c:DTT) (w:DT) (Q:List Ab->Int->Prop):List Ab->List Ab->Sl->Int->Prop
 |[],acc,_,n=>Q acc n
 |d::r,acc,δ,n=>g d δ λδ'=>c δ' n λb n1=>if b=true then w δ' n1 λx n2=>match x with
   |.d y=>jbe g c w Q r (acc++[y]) δ' n2
   |_=>False
  else jbe g c w Q r acc δ' n1
def jat (fr:List (Option Nat)) (v:DTI) (g:DTG) (c:DTT) (w:DT):DTF:=λδ n Q=>v δ n λds n1=>jbe g c w Q ds [] (jcq fr δ) n1
structure DIf (X:Cx) (ifs:List Expr) (t:TT) (c:DTT):Prop where
 pf:PIf X ifs t
 sd:SndT t c
def cYes:DTT:=λ_ n Q=>Q true n
theorem j1t {X:Cx}:DIf X [] jzp cYes:=⟨jxv,λC H B σ δ n Q Q' R q k=>k true H n R (Kp.refl _ _) q⟩
theorem j1s {X:Cx} {c:Expr} {t:TT} {cc:DTT} (h:DC X c t cc):DIf X [c] t cc:=⟨jxu h.pt,h.sd⟩
theorem jvb (fr:List (Option Nat)) (σ:St):(capt fr σ).length=fr.length:=by unfold capt;rw[Ae]
theorem js9 (fr:List (Option Nat)) (δ:Sl):(jcq fr δ).length=fr.length:=by unfold jcq;rw[Ae]
theorem jht {fr:List (Option Nat)} {δ:Sl} {j:Nat} {x:SV} (h:(jcq fr δ)[j]?=some (some x)):∃i y,fr[j]?=some (some i)/\δ[i]?=some (some y)/\((∃z,x=.w z/\y=.w z)\/(∃kvs,x=.w (.dk kvs)/\y=.odk kvs)\/∃ds,x=.w (.ln ds)/\y=.own ds):=by
 unfold jcq at h;rw[A7]at h;cases e:fr[j]? with
 |none=>rw[e]at h;cases h
 |some o =>
  rw[e]at h;cases o with
  |none=>cases h
  |some i =>
   have h':=Bj h;dsimp only[Ef]at h'
   split at h'
   ·rename_i z ez;cases h';exact⟨i,_,rfl,ez,.inl ⟨z,rfl,rfl⟩⟩
   ·rename_i kvs ez;cases h';exact⟨i,_,rfl,ez,.inr (.inl ⟨kvs,rfl,rfl⟩)⟩
   ·rename_i ds ez;cases h';exact⟨i,_,rfl,ez,.inr (.inr ⟨ds,rfl,rfl⟩)⟩
   ·cases h'
theorem jy3 {fr:List (Option Nat)} {σ:St} {j i:Nat} {v:V} (h:fr[j]?=some (some i)) (h2:σ[i]?=some (some v)):(capt fr σ)[j]?=some (some v):=by
 unfold capt;rw[A7,h];show some ((σ[i]?).bind id)=_;rw[h2];rfl
theorem jua {C:Ctx} {H:Hp} {B:Addr->Prop} {σ:St} {δ:Sl} {n:Int} {L:Addr} {fr:List (Option Nat)} (R:Rel C H B σ δ n) (hL:H L=none) :
  Rel ⟨C.t,C.l,C.ns,H,B,fzOf H B⟩ (upd H L (.lst [])) (λb=>B b\/b=L) (capt fr σ) (jcq fr δ) n where
 tp:=R.tp.new hL
 kp:=Kp.new hL
 t0:=R.ba _ R.bt
 l0:=by
  show H C.l.s≠none;rw[R.tp.ls];exact λz=>nomatch z
 g0:=λe=>by
  show H C.l.g≠none;rw[R.tp.ag e];exact λz=>nomatch z
 fz:=λb o e=>by
  obtain⟨e1,e2⟩:=(jg7 H B).1 b o e;exact⟨by rw[jag (jaf e1 hL)];exact e1,λz=>z.elim e2 λq=>jaf e1 hL q⟩
 bt:=.inl R.bt
 b0:=λb z=>.inl z
 ba:=λb z e=>by
  by_cases q:b=L
  ·rw[q,jaj]at e;cases e
  ·rw[jag q]at e;exact R.ba b (z.resolve_right q) e
 a0:=R.ba
 sl:=λj x e=>by
  have mv:∀b o',H b=some o'->¬B b->upd H L (.lst []) b=some o'/\¬(B b\/b=L):=λb o' e n=>⟨by rw[jag (jaf e hL)];exact e,λz=>z.elim n λq=>jaf e hL q⟩;obtain⟨i,y,e1,e2,hy⟩:=jht e;obtain⟨v,f1,f2⟩:=R.sl i y e2;refine⟨v,jy3 e1 f1,?_⟩;rcases hy with⟨z,rfl,rfl⟩ | ⟨kvs,rfl,rfl⟩ | ⟨ds,rfl,rfl⟩
  ·cases z with
   |d d=>exact⟨f2.1.move mv,λz=>by cases z⟩
   |tp=>exact⟨f2.1,λz=>by cases z⟩
   |ln ds =>
    obtain⟨a,l,g1,g2,g3,g4,g5⟩:=f2.1;exact⟨⟨a,l,g1,by rw[jag (jaf g2 hL)];exact g2,g3,g4,g5.move mv⟩,λ_=>⟨a,g1,by show H a≠none;rw[g2];exact λz=>nomatch z⟩⟩
   |dk kvs =>
    obtain⟨a,l,g1,g2,g3,g4⟩:=f2.1;exact⟨⟨a,l,g1,by rw[jag (jaf g2 hL)];exact g2,g3,g4.move mv⟩,λ_=>⟨a,g1,by show H a≠none;rw[g2];exact λz=>nomatch z⟩⟩
   |ob o =>
    refine⟨?_,λz=>by cases z⟩;exact ORel.move mv f2.1
  ·obtain⟨a,l,g1,g2,g3,g4,g5,g6⟩:=f2;exact⟨⟨a,l,g1,by rw[jag (jaf g2 hL)];exact g2,λz=>R.t0 (z▸g4),g6.move mv⟩,λ_=>⟨a,g1,by show H a≠none;rw[g2];exact λz=>nomatch z⟩⟩
  ·obtain⟨a,l,g1,g2,g3,g4,g5,g6⟩:=f2;exact⟨⟨a,l,g1,by rw[jag (jaf g2 hL)];exact g2,λz=>R.t0 (z▸g4),g5,g6.move mv⟩,λ_=>⟨a,g1,by show H a≠none;rw[g2];exact λz=>nomatch z⟩⟩
 ow:=λi j x y v e1 e2 o1 o2 _ _=>by
  obtain⟨_,_,_,_,hy⟩:=jht e1;rcases hy with⟨z,rfl,_⟩ | ⟨kvs,rfl,_⟩ | ⟨ds,rfl,_⟩
  ·cases o1
  ·cases o1
  ·cases o1
 len:=by rw[jvb,js9]
section
variable {X:Cx} {elt tg iter:Expr} {ifs:List Expr} {scope:Eo} {cl:List (Str×Addr)} {pos:Pos} {N:List Str} {fr:List (Option Nat)} {wi:TI} {v:DTI} {g:TG} {gd:DTG} {tt:TT} {cc:DTT} {te:TE} {we:DT}
def jgq (δ:Sl):Prop:=∀(i:Nat) (x:SV),δ[i]?=some (some x)->x.isOwn=false
theorem jvd (fr:List (Option Nat)) (δ:Sl):jgq (jcq fr δ):=λi x e=>by
 obtain⟨_,_,_,_,hy⟩:=jht e;rcases hy with⟨z,rfl,_⟩ | ⟨kvs,rfl,_⟩ | ⟨ds,rfl,_⟩<;>rfl
def jih (v:DTG):Prop:=∀d δ Q,jgq δ->v d δ Q->v d δ λδ'=>jgq δ'/\Q δ'
theorem jnq (i:Nat):jih (jac i):=λd δ Q h q=>⟨λj x e=>by
 rcases jaq e with⟨_,rfl⟩ | ⟨_,e'⟩
 ·rfl
 ·exact h j x e',q⟩
theorem jsv (hc:X.calm=true) (S:CompSc X N scope cl fr) (hi:DI X tg iter wi v) (hg:∀s H fp,DG (jaw X N scope cl s H fp) tg g gd) (ht:∀s H fp,DIf (jaw X N scope cl s H fp) ifs tt cc)
  (he:∀s H fp,DE (jaw X N scope cl s H fp) elt te we) (hno:jih gd) (hs:∀x,Ec iter X.env x=pure x:=by intro _;rfl) :
  DF X (.ListComp elt [⟨tg,iter,ifs,0⟩] scope pos) (jqs fr wi g tt te) (jat fr v gd cc we):=by
 refine⟨jx1 hc S hi.pi (λs H fp=>(hg s H fp).pg) (λs H fp=>(ht s H fp).pf) (λs H fp=>(he s H fp).pe) hs,λC H B σ δ n Q Q' R q k=>hi.sd C H B σ δ n _ _ R q λJ ds H1 n1 R1 k1 hJ q1=>λL hL=>?_⟩;have sg:=(hg X.s₀ X.H₀ []).sd;have st:=(ht X.s₀ X.H₀ []).sd;have se:=(he X.s₀ X.H₀ []).sd;have ok:=hJ (fzOf H1 B) (jg7 H1 B);have hLt:L≠C.t:=λz=>R1.ba _ R1.bt (z▸hL);refine⟨λi m ys τ H=>m=ds.length - i/\i<=ds.length/\ys.length<=i/\∃δ' n' acc,Rel ⟨C.t,C.l,C.ns,H1,B,fzOf H1 B⟩ H (λb=>B b\/b=L) τ δ' n'/\jgq δ'/\H L=some (.lst ys)/\RdXs H (λb=>B b\/b=L) ys acc/\jbe gd cc we Q (ds.drop i) acc δ' n',
  ⟨ds.length,by simp,A3 _,A3 _,jcq fr δ,n1,[],jua R1 hL,jvd fr δ,jaj,.nil,by simpa using q1⟩,?_⟩
 rintro i m ys τ H2 ⟨rfl,hi,hys,δ2,n2,acc,R2,no2,hL2,rd2,q2⟩
 have hfz:∀b o,fzOf H1 B b=some o->H2 b=some o:=λb o e=>(R2.fz b o e).1;by_cases hlt:i < ds.length
 ·rw[Fb hlt]at q2;refine .inr ⟨ok.go i H2 hfz hlt,Bn (Gq hys hlt) ok.le,λx H' hy=>?_⟩;obtain⟨sm,rd⟩:=ok.yld i H2 x H' ds[i] hfz (Ag hlt) hy;have R3:=R2.same sm;refine sg _ H' _ τ δ2 n2 x ds[i] _ _ R3 (rd _ (λb o e=>(R2.fz b o e).2) R2.ba) (hno _ _ _ no2 q2) λτ3 δ3 R4 ⟨no3,q4⟩=>?_;refine st _ H' _ τ3 δ3 n2 _ _ R4 q4 λb H4 n4 R5 k5 q5=>?_;have hL4:H4 L=some (.lst ys):=k5 _ _ (sm _ _ hL2) hLt;have rd4:RdXs H4 (λb=>B b\/b=L) ys acc:=(rd2.keep λb o e _=>sm b o e).kp k5 R4.bt;cases b with
  |false =>
   rw[if_neg An]at q5 ⊢;exact⟨ds.length - (i+1),by omega,rfl,hlt,by omega,δ3,n4,acc,R5,no3,hL4,rd4,q5⟩
  |true =>
   rw[if_pos rfl]at q5 ⊢;refine se _ H4 _ τ3 δ3 n4 _ _ R5 q5 λu y H5 n5 R6 k6 r6 q6=>?_;cases y with
   |d y =>
    have hL5:H5 L=some (.lst ys):=k6 _ _ hL4 hLt;refine⟨hL5,ds.length - (i+1),by omega,rfl,hlt,by rw[Ap,A2];omega,δ3,n5,acc++[y],R6.mut (.inr rfl) hL λj z e o=>absurd (no3 j z e) (by rw[o];exact λq=>nomatch q),no3,jaj,?_,q6⟩;refine RdXs.keep (λb o e n=>?_) ((rd4.kp k6 R5.bt).append (.cons r6 .nil));rw[jag λ(z:b=L)=>n (.inr z)];exact e
   |tp=>exact q6.elim
   |dk _=>exact q6.elim
   |ln _=>exact q6.elim
   |ob _=>exact q6.elim
 ·have e:i=ds.length:=by omega
  subst e;rw[List.drop_length]at q2;refine .inl ⟨ok.stop H2 hfz,k L ys acc H2 n2 (R1.step R2.tp R2.kp) (k1.trans R2.kp) (R1.was k1 hL) hL2 (A9 hys ok.le) rd2 q2⟩
end
abbrev DTGs:=List Ab->Sl->(Sl->Prop)->Prop
def j4w (g:TGs) (v:DTGs):Prop:=∀(C:Ctx) (H:Hp) (B:Addr->Prop) (σ:St) (δ:Sl) (n:Int) (xs:List V) (ds:List Ab) (Q:Sl->Prop) (Q':St->Hp->Prop),Rel C H B σ δ n->RdXs H B xs ds->v ds δ Q ->
 (∀σ' δ',Rel C H B σ' δ' n->Q δ'->Q' σ' H)->g xs σ H Q'
structure DGs (X:Cx) (ts:List Expr) (g:TGs) (v:DTGs):Prop where
 pg:PGs X ts g
 sd:j4w g v
def ja0:DTGs:=λds δ Q=>match ds with
 |[]=>Q δ
 |_=>False
def jah (v:DTG) (r:DTGs):DTGs:=λds δ Q=>match ds with
 |d::ds=>v d δ λδ'=>r ds δ' Q
 |[]=>False
def jbb (n:Nat) (r:DTGs):DTG:=λd δ Q=>match d with
 |.tuple ds=>ds.length=n/\r ds δ Q
 |_=>False
theorem jn4:∀ds δ Q,jgq δ->ja0 ds δ Q->ja0 ds δ λδ'=>jgq δ'/\Q δ':=λds δ Q h q=>by
 cases ds with
 |nil=>exact⟨h,q⟩
 |cons _ _=>exact q
theorem jgg {v:DTG} {r:DTGs} (mono:∀d δ (Q Q':Sl->Prop),(∀δ',Q δ'->Q' δ')->v d δ Q->v d δ Q') (hv:jih v) (hr:∀ds δ Q,jgq δ->r ds δ Q->r ds δ λδ'=>jgq δ'/\Q δ'):∀ds δ Q,jgq δ->jah v r ds δ Q->jah v r ds δ λδ'=>jgq δ'/\Q δ':=λds δ Q h q=>by
 cases ds with
 |nil=>exact q
 |cons d ds=>exact mono d δ _ _ (λδ' z=>hr ds δ' Q z.1 z.2) (hv d δ _ h q)
theorem j09 {n:Nat} {r:DTGs} (hr:∀ds δ Q,jgq δ->r ds δ Q->r ds δ λδ'=>jgq δ'/\Q δ'):jih (jbb n r):=λd δ Q h q=>by
 unfold jbb at q ⊢
 split at q
 ·exact⟨q.1,hr _ _ _ h q.2⟩
 ·exact q.elim
theorem jyh (i j n:Nat):jih (jbb n (jah (jac i) (jah (jac j) ja0))) :=
 j09 (jgg (λ_ _ _ _ h q=>h _ q) (jnq i) (jgg (λ_ _ _ _ h q=>h _ q) (jnq j) jn4))
section
variable {X:Cx} {pos:Pos}
theorem j12:DGs X [] gNil ja0:=⟨jxz,λC H B σ δ n xs ds Q Q' R r q k=>by
 cases r with
 |nil=>exact⟨rfl,k σ δ R q⟩
 |cons _ _=>exact q.elim⟩
end
section
variable {X:Cx} {pos:Pos}
theorem jyr {e:Expr} {es:List Expr} {t:TG} {u:TGs} {v:DTG} {r:DTGs} (h1:DG X e t v) (h2:DGs X es u r)
  (hs:(Dr (e::es) X.env).map (·.2)=assign e X.env::(Dr es X.env).map (·.2):=by rfl):DGs X (e::es) (j15 t u) (jah v r):=⟨juk h1.pg h2.pg hs,λC H B σ δ n xs ds Q Q' R rr q k=>by
 cases rr with
 |nil=>exact q.elim
 |cons r1 r2=>exact⟨_,_,rfl,h1.sd C H B σ δ n _ _ _ _ R r1 q λσ' δ' R' q'=>h2.sd C H B σ' δ' n _ _ _ _ R' r2 q' k⟩⟩
theorem j3u {es:List Expr} {k:Nat} {t:TGs} {n:Nat} {r:DTGs} (h:DGs X es t r) (hc:X.calm=true:=by rfl)
  (hn:(Dr es X.env).length=n:=by rfl) (hst:(Dr es X.env).findIdx? (·.1)=none:=by rfl):DG X (.Tuple es k pos) (gTup X.K n t) (jbb n r):=⟨j0r hc h.pg hn hst,λC H B σ δ n' x d Q Q' R rr q k=>by
 unfold jbb at q
 split at q
 ·rename_i ds;cases rr with
  |@tup ay ys _ e1 e2 e3 e4=>exact⟨ay,ys,rfl,SqT.of e1,by rw[e4.len];exact q.1,h.sd C H B σ δ n' _ _ _ _ R e4 q.2 k⟩
 ·exact q.elim⟩
def jxa:List Ab->Option (List Str)
 |[]=>some []
 |.str b::r=>(jxa r).map (b::·)
 |_::_=>none
def j4y (w w':DT):DT:=λδ n Q=>w δ n λx n1=>match x with
 |.d (.str z)=>w' δ n1 λy n2=>match y with
  |.d (.list ds)=>match jxa ds with
   |some ys=>(ys.map (·.length)).sum+ys.length*z.length<=16777216/\Q (.d (.str (Txt.join z ys))) n2
   |none=>False
  |.d (.tuple ds)=>match jxa ds with
   |some ys=>(ys.map (·.length)).sum+ys.length*z.length<=16777216/\Q (.d (.str (Txt.join z ys))) n2
   |none=>False
  |_=>False
 |_=>False
def sPut (i:Nat) (wj w:DT):DST:=λδ n K=>match δ[i]? with
 |some (some (.own ds))=>w δ n λx n1=>wj δ n1 λj n2=>match x,j with
  |.d d,.d (.int k)=>match ixN ds.length k with
   |some m=>K.nx (δ.set i (some (.own (ds.set m d)))) n2
   |none=>False
  |_,_=>False
 |_=>False
theorem j25 {i:Nat} {x:Str} {xp sp:Pos} {j e:Expr} {tj te:TE} {wj we:DT} (hN:X.N[i]?=some x) (hj:DE X j tj wj) (he:DE X e te we) (hv:Vis X.env.scope x:=by first | exact Du rfl | exact Cw (Du rfl) | exact Cw (Cw rfl)) (hd:(x==("__debug__":Str))=false:=by decide)
  (hcd:(x==("__classdict__":Str))=false:=by decide)
  (ha:∀v,assign (.Subscript (.Name x xp) j sp) X.env v=(do
   let ov <-holding [v] (eval (.Name x xp) X.env)
   let iv <-holding [v,ov] (eval j X.env)
   standAt sp
   holding [v,ov,iv] (setItem ov iv v)
   release [v,ov,iv] []):=by intro _;rfl)
  (hs:swapsWithSole [.Subscript (.Name x xp) j sp] e pos.line X.env=pure false:=by rfl) (hw:swappedStores [.Subscript (.Name x xp) j sp] e X.env=pure none:=by rfl)
  (h1:(Dr [.Subscript (.Name x xp) j sp] X.env).map (·.2)=[assign (.Subscript (.Name x xp) j sp) X.env]:=by rfl) :
  DS X (.Assign [.Subscript (.Name x xp) j sp] e pos) (tAsg te (gSub (tVar i) tj j0g)) (sPut i wj we) :=
 ⟨jl1 he.pe (jon (jf5 hN hv hd hcd) hj.pe jg0 ha) hs hw h1,λC H B σ δ n K D R q E=>by
  unfold sPut at q
  split at q
  ·rename_i ds ei;refine he.sd C H B σ δ n _ _ R q λu y H1 n1 R1 k1 r1 q1=>?_;obtain⟨v,hv,a,xs,rfl,e2,e3,e4,e5,e6⟩:=R1.sl i _ ei;refine⟨_,hv,hj.sd C H1 B σ δ n1 _ _ R1 q1 λw z H2 n2 R2 k2 r2 q2=>?_⟩
   split at q2
   ·rename_i d k
    split at q2
    ·rename_i m em;cases(show RdX H2 B w (.int k)from r2);have hat:a≠C.t:=λz=>R.t0 (z▸e4);have e2':=k2 _ _ e2 hat;have r1':RdX H2 B u d:=r1.kp k2 R1.bt;refine⟨a,xs,k,m,rfl,rfl,e2',by rw[e6.len];exact em,?_⟩;refine E.nx _ _ _ _ _ (R2.mutOwn ei rfl hv e3 e4 ?_ rfl) q2;refine⟨a,xs.set m u,rfl,jaj,e3,e4,by rw[De];exact e5,?_⟩;refine RdXs.keep (λb o e n=>?_) (RdXs.set m (e6.kp k2 R1.bt) r1');rw[jag λ(z:b=a)=>n (z▸e3)];exact e
    ·exact q2.elim
   ·exact q2.elim
  ·exact q.elim⟩
end
structure Has (P:Bm) (w:B3) (K:Aj) (mg:Str->Option Ah) (base:Heap) (k:Nat) (x:Str) (ps:List Str) (S:DSp):Prop where
 ex:∃(f:Addr) (fd:C1),FnOk P w K mg base CX0 k f fd ps (spOf S)/\Binds K fd ps []/\mg x=some (.ref f)/\Cz K (.ref f)=true
section
variable {P:Bm} {w:B3} {K:Aj} {mg:Str->Option Ah} {base:Heap}
theorem Has.mk' {k:Nat} {x qual:Str} {st:Stmt} {ps:List Str} {S:DSp} {f:Addr} {fd:C1} (F:Fun K x qual st f fd) (m:mg x=some (.ref f)) (b:Binds K fd ps []) (h:FnOk P w K mg base CX0 k f fd ps (spOf S)):Has P w K mg base k x ps S:=⟨f,fd,h,b,m,F.kp⟩
end
theorem jyz {X:Cx} {e:Expr} {es:List Expr} {pos p:Pos} {tR:TA} {wR:DTA} {k:Nat} {ps:List Str} {S:DSp} {x:Str} (h:Has X.prog X.w X.K X.mg X.base k x ps S) (hr:Room k X.A) (hg:Gl X x)
  (ha:DA X (e::es) tR wR) (hdb:(x==("__debug__":Str))=false:=by decide) (he:Ax (e::es) X.env=(false,eval e X.env)::Ax es X.env:=by rfl) (hpl:(D9 pos (Ax es X.env)).any (·.1)=false:=by rfl) :
  DE X (.Call (.Name x p) (e::es) [] pos) (jne (spOf S) [] E0 tR) (jad S wR):=by
 obtain⟨f,fd,h1,h2,h3,h4⟩:=h.ex;exact j2h h1 hr hg h3 h4 h2 ha hdb he hpl
theorem jpz {cl cells:List (Str×Addr)} (h:∀y∈cl,cells.lookup y.1=some y.2):∀x c,cl.lookup x=some c->cells.lookup x=some c:=λx c e=>h _ (jdy e)
def jak:DSp:=λws n Q=>match ws with
 |[.tp,.d (.int many)]=>(n < 2 ^ 40/\0 < many/\many < 1073741824)/\∀r:Int,0<=r->r < many->Q (.d (.int r)) (n+1)
 |_=>False
section
variable {P:Bm} {w:B3} {K:Aj} {mg:Str->Option Ah} {base:Heap}
theorem ju7 {k:Nat} {f:Addr} {fd:C1} {ps:List Str} (h:FnOk P w K mg base CX0 k f fd ps jvw):FnOk P w K mg base CX0 k f fd ps (spOf jak):=h.imp λvs H Q E hs=>by
 obtain⟨t,l,ns,B,ws,n,Q0,T,bt,ba,r,q,kk⟩:=hs;unfold jak at q
 split at q
 ·rename_i many;cases r with
  |cons r1 r2 =>
   cases r2 with
   |cons r3 r4 =>
    cases r4;cases(show _=V.ref t from r1);cases(show RdX H B _ (.int many)from r3);exact⟨t,l,ns,n,many,rfl,T,q.1.1,q.1.2.1,q.1.2.2,λr H' h0 h1 T' k'=>kk _ _ (q.2 r h0 h1) _ H' T' k' (.int r)⟩
 ·exact q.elim
def spLaw (K:Aj):Sp:=λvs H Q _=>∃(a:Addr) (ns:List Int),vs=[.ref a]/\SqL K H a (ns.map V.int)/\ns.length<=63/\∀H',Q (.bl true) H'
def lawEnds:DEnds:={ nx:=λ_ _=>False,rt:=λw _=>w=.d (.bool true)}
theorem jxp {H:Hp} {t:Addr} {l:TL} {ns:List Int} {a:V} {k:Nat} (T:Tp H t l ns 0):Rel ⟨t,l,ns,H,λb=>b=t,λ_=>none⟩ H (λb=>b=t) (some a::some (.ref t)::Dc k none) (none::some (.w .tp)::Dc k none) 0 where
 tp:=T
 kp:=Kp.refl _ _
 t0:=by
  obtain⟨_,_,h,_⟩:=T.ob;show H t≠none;rw[h];exact λz=>nomatch z
 l0:=by
  show H l.s≠none;rw[T.ls];exact λz=>nomatch z
 g0:=λe=>by
  show H l.g≠none;rw[T.ag e];exact λz=>nomatch z
 fz:=λb o e=>nomatch e
 bt:=rfl
 b0:=λ_ z=>z
 ba:=λb z=>by
  obtain⟨_,_,h,_⟩:=T.ob;rw[z,h];exact λz=>nomatch z
 a0:=λb z=>by
  obtain⟨_,_,h,_⟩:=T.ob;show H b≠none;rw[show b=t from z,h];exact λz=>nomatch z
 sl:=λi x e=>by
  rcases i with _ | _ | i
  ·cases e
  ·cases e;exact⟨_,rfl,rfl,λz=>by cases z⟩
  ·have e':(Dc k (none:Option SV))[i]?=some (some x):=e;rw[Ee]at e'
   split at e'
   ·cases e'
   ·cases e'
 ow:=λi j x y v e1 e2 o1 o2 f1 f2=>by
  rcases i with _ | _ | i
  ·cases e1
  ·cases e1;cases o1
  ·have e':(Dc k (none:Option SV))[i]?=some (some x):=e1;rw[Ee]at e'
   split at e'
   ·cases e'
   ·cases e'
 len:=by simp
theorem j1g {f fT:Addr} {fd fdT:C1} {st:Stmt} {N:List Str} {k:Nat} {W:DST} (F:Fun K "law" "law" st f fd) (Sc:FnScope N ["_law_script"] (jao st))
  (GT:FnOk P w K mg base CX0 1 fT fdT ["_law_script"] (jlp K)) (bT:Binds K fdT ["_law_script"] []) (mT:mg "_law_tape"=some (.ref fT)) (kT:Cz K (.ref fT)=true)
  (hN:∀v,start N [v]=some v::none::Dc (N.length - 2) none)
  (hW:W (none::some (.w .tp)::Dc (N.length - 2) none) 0 lawEnds)
  (hbody:∀(cdv:Ah) (A:B8) (outer:List Env) (s:Ak) (H:Hp) (E:XK),Room k (A.deeper (Ep "law" (jao st) s.heap.objs.size f cdv)) ->
   ∃s0 rest T,jbp st=s0::rest/\PS (cxOf CX0 P w K mg base N "law" (jao st) f cdv A outer s H E).nox s0 (tAsg (jne (jlp K) [] E0 (jb2 (tVar 0) tNil)) (jgw 1))/\DSs (cxOf CX0 P w K mg base N "law" (jao st) f cdv A outer s H E).nox rest T W) :
  FnOk P w K mg base CX0 (k+1) f fd ["_law_script"] (spLaw K):=by
 refine F.ok Sc (λvs H Q E h=>?_) (λcdv A outer s H vs Q E hr h=>?_)
 ·obtain⟨a,ns,rfl,_⟩:=h;rfl
 ·obtain⟨a,ns,rfl,hS,hl,kk⟩:=h;obtain⟨s0,rest,T,e,p0,d⟩:=hbody cdv A outer s H E hr;rw[e];refine⟨_,jbg p0 d.ps,?_⟩;rw[hN];refine⟨_,rfl,a,ns,rfl,hS,hl,λt l H1 T1 _=>?_⟩;refine d.sd ⟨t,l,ns,H1,λb=>b=t,λ_=>none⟩ H1 (λb=>b=t) _ _ 0 lawEnds _ (jxp (a:=.ref a) (k:=N.length - 2) T1) hW ⟨?_,?_,?_,?_,λ_ _ _ _ _ _ _ _ _ _ _ _ _ z=>z.elim⟩
  ·exact λ_ _ _ _ _ _ z=>z.elim
  ·intro H B σ δ n v w R r z;have z:w=.d (.bool true):=z;subst z;cases(show RdX H B v (.bool true)from r);exact kk H
  ·exact λ_ _ _ _ _ _ z=>z.elim
  ·exact λ_ _ _ _ _ _ z=>z.elim
end
section
variable {X:Cx} {elt tg iter:Expr} {ifs:List Expr} {scope:Eo} {cl:List (Str×Addr)} {cpos pos pos':Pos} {N:List Str} {fr:List (Option Nat)} {wi:TI} {v:DTI} {g:TG} {gd:DTG} {tt:TT} {cc:DTT} {te:TE} {we:DT} {i:Nat} {x:Str}
theorem jxe {t:TE} {w:DTF} (h:SndF t w):SndS (tAsg t (jgw i)) (sOwn i w):=λC H B σ δ n K D R q E =>
 h C H B σ δ n _ _ R q λa xs ds H1 n1 R1 k1 h0 h1 h2 h3 q1=>by
  refine E.nx _ _ _ _ _ (R.own R1 k1 h0 (by rw[h1];exact λz=>nomatch z) rfl ?_) q1;exact⟨a,xs,rfl,h1,.inr rfl,R.h0 h0,h2,h3⟩
theorem jxd {t:TE} {w:DT} (h:Snd t w):SndS (tAsg t (jgw i)) (sSet i w):=λC H B σ δ n K D R q E =>
 h C H B σ δ n _ _ R q λv x H1 n1 R1 _ r1 q1=>by
  cases x with
  |d d=>exact E.nx _ _ _ _ _ (R1.set r1 rfl) q1
  |tp=>exact E.nx _ _ _ _ _ (R1.set r1 rfl) q1
  |dk _=>exact q1.elim
  |ln _=>exact q1.elim
  |ob _=>exact E.nx _ _ _ _ _ (R1.set r1 rfl) q1
theorem jz6 (hN:X.N.Nodup) (hix:X.N[i]?=some x) (hx:X.env.scope.names.lookup x=some .local) (hc:X.calm=true) (S:CompSc X N scope cl fr) (hi:DI X tg iter wi v) (hg:∀s H fp,DG (jaw X N scope cl s H fp) tg g gd) (ht:∀s H fp,DIf (jaw X N scope cl s H fp) ifs tt cc)
  (he:∀s H fp,DE (jaw X N scope cl s H fp) elt te we) (hno:jih gd) (hs:∀x,Ec iter X.env x=pure x:=by intro _;rfl)
  (hsw:F2 (.ListComp elt [⟨tg,iter,ifs,0⟩] scope cpos) (some (.Name x pos')) pos.line X.env=pure true:=by rfl) :
  DS X (.Assign [.Name x pos'] (.ListComp elt [⟨tg,iter,ifs,0⟩] scope cpos) pos) (tAsg (jqs fr wi g tt te) (jgw i)) (sOwn i (jat fr v gd cc we)) :=
 ⟨jjf hN hix hx hc S hi.pi (λs H fp=>(hg s H fp).pg) (λs H fp=>(ht s H fp).pf) (λs H fp=>(he s H fp).pe) hs hsw,jxe (jsv (pos:=cpos) hc S hi hg ht he hno hs).sd⟩
theorem jz5 (hN:X.N.Nodup) (hix:X.N[i]?=some x) (hx:X.env.scope.names.lookup x=some .local) (hc:X.calm=true) (S:CompSc X N scope cl fr) (hi:DI X tg iter wi v) (hg:∀s H fp,DG (jaw X N scope cl s H fp) tg g gd) (ht:∀s H fp,DIf (jaw X N scope cl s H fp) ifs tt cc)
  (he:∀s H fp,DE (jaw X N scope cl s H fp) elt te we) (hno:jih gd) (hs:∀x,Ec iter X.env x=pure x:=by intro _;rfl)
  (hsw:F2 (.ListComp elt [⟨tg,iter,ifs,0⟩] scope cpos) (some (.Name x pos')) pos.line X.env=pure true:=by rfl) :
  DS X (.Assign [.Name x pos'] (.ListComp elt [⟨tg,iter,ifs,0⟩] scope cpos) pos) (tAsg (jqs fr wi g tt te) (jgw i)) (sSet i (wOf (jat fr v gd cc we))) :=
 ⟨jjf hN hix hx hc S hi.pi (λs H fp=>(hg s H fp).pg) (λs H fp=>(ht s H fp).pf) (λs H fp=>(he s H fp).pe) hs hsw,jxd (jsv (pos:=cpos) hc S hi hg ht he hno hs).d.sd⟩
end
section
variable {X:Cx} {tg a b c e:Expr} {ta tb tc te:TE} {wa wb wc we:DT} {pos p:Pos} {K:Aj}
theorem j4g (ha:DE X a ta wa) (hb:DE X b tb wb) (hK:X.K=K:=by rfl) (hs:jk8 b:=by exact λ_ _=>rfl):DE X (.Subscript a b pos) (tOp (rIx K) ta tb) (w2 wa wb gIx):=by subst hK;exact d_ix ha hb hs
def rIsi (K:Aj) (T:String):List V->Hp->VK->Prop:=λxs H Q=>∃x t b,xs=[x,.ty T]/\TyOf K H x t/\PySem.W.kitOne K t (.type T)=some b/\Q (.bl b) H
theorem j2f {T:String} {x:Str} {p p2:Pos} (hT:T="int"\/T="bool"\/T="str"\/T="tuple"\/T="list") (hg:Gl X "isinstance") (hm:X.mg "isinstance"=none) (hg2:Gl X x) (hm2:X.mg x=none) (hv:By x=some (.type T)) (ha:DE X a ta wa) (hK:X.K=K:=by rfl) (hn:x≠"__name__":=by decide) (hdb:(x==("__debug__":Str))=false:=by decide)
  (he:Ax [a,.Name x p2] X.env=(false,eval a X.env)::Ax [.Name x p2] X.env:=by rfl) (he2:Ax [.Name x p2] X.env=(false,eval (.Name x p2) X.env)::Ax [] X.env:=by rfl) (hpl:(D9 pos (Ax [.Name x p2] X.env)).any (·.1)=false:=by rfl) :
  DE X (.Call (.Name "isinstance" p) [a,.Name x p2] [] pos) (tCB (rIsi K T) (jb2 ta (jb2 (tC (.ty T)) tNil))) (wIsi T wa):=by subst hK;exact j4h hT hg hm hg2 hm2 hv ha hn hdb he he2 hpl
def rEqK (K:Aj):R2:=λx y H Q=>rEq x y H Q\/juc x y H Q\/jom K x y H Q
theorem jr8 (hu:X.A.units < cLine) (hK:X.K=K:=by rfl):OpR X (Bk .Eq) (rEqK K):=by subst hK;exact j03 hu
theorem jng:SndO (rEqK K) gEq:=jzz
theorem jv9 (hK:X.K=K:=by rfl):OpR X (Bk .In) (rIn K false):=by subst hK;exact jr5
theorem jr2 (hK:X.K=K:=by rfl):OpR X (Bk .NotIn) (rIn K true):=by subst hK;exact jl5
def jxq (K:Aj):List V->Hp->VK->Prop:=λxs H Q=>(∃z,xs=[.str z]/\z.length<=Ay/\Q (.int z.length) H)\/∃p ys,xs=[.ref p]/\(SqL K H p ys\/SqT K H p ys)/\Q (.int ys.length) H
theorem jmo (hK:X.K=K:=by rfl):CallR X (.builtin "len") (jxq K):=by subst hK;exact jtb
theorem jog:SndB (jxq K) gLen:=jxf
def jnm (K:Aj):List V->Hp->VK->Prop:=λxs H Q=>∃p ys,xs=[.ref p]/\((SqL K H p ys/\∀l,H l=none->Q (.ref l) (upd H l (.tup ys)))\/(SqT K H p ys/\Q (.ref p) H))
theorem jhu (hK:X.K=K:=by rfl):CallR X (.type "tuple") (jnm K):=by subst hK;exact jku
theorem jjd:SndB (jnm K) jdc:=jq5
def jrj (K:Aj):List V->Hp->VK->Prop:=λxs H Q=>∃p ys,xs=[.ref p]/\(SqL K H p ys\/SqT K H p ys)/\∀l,H l=none->Q (.ref l) (upd H l (.lst ys))
theorem jjq (hK:X.K=K:=by rfl):CallR X (.type "list") (jrj K):=by subst hK;exact jmn
theorem jq8:SndB (jrj K) ji3:=jt1
theorem jyp (ha:DE X a ta wa) (hK:X.K=K:=by rfl):DI X tg a (jyq K ta) (je0 wa):=by subst hK;exact j1x ha
theorem j1w (ha:DE X a ta wa) (hK:X.K=K:=by rfl):DI X tg a (iTup K ta) (ja4 wa):=by subst hK;exact j3r ha
theorem j13 {es:List Expr} {k:Nat} {t:TGs} {n:Nat} {r:DTGs} (h:DGs X es t r) (hc:X.calm=true:=by rfl) (hK:X.K=K:=by rfl)
  (hn:(Dr es X.env).length=n:=by rfl) (hst:(Dr es X.env).findIdx? (·.1)=none:=by rfl):DG X (.Tuple es k pos) (gTup K n t) (jbb n r):=by subst hK;exact j3u h hc hn hst
end
end DL
namespace KS
open PySem PySem.W PyProof.Rows
def run {α:Type} (c:Nat->Nat->Bool):KasT α->α
 |.ret a=>a
 |.ask i j k=>run c (k (c i j))
theorem jdw {α β:Type} (c:Nat->Nat->Bool) (f:α->KasT β):∀t:KasT α,run c (t.bind f)=run c (f (run c t))
 |.ret _=>rfl
 |.ask i j k=>jdw c f (k (c i j))
def Wi {α:Type} (n:Nat) (P:α->Prop):KasT α->Prop
 |.ret a=>P a
 |.ask i j k=>i < n/\j < n/\∀b,Wi n P (k b)
theorem Wi.bind {α β:Type} {n:Nat} {P:α->Prop} {R:β->Prop} {f:α->KasT β} (hf:∀a,P a->Wi n R (f a)):∀{t:KasT α},Wi n P t->Wi n R (t.bind f)
 |.ret a,h=>hf a h
 |.ask i j k,h=>⟨h.1,h.2.1,λb=>Wi.bind hf (h.2.2 b)⟩
theorem Wi.out {α:Type} {n:Nat} {P:α->Prop} (c:Nat->Nat->Bool):∀{t:KasT α},Wi n P t->P (run c t)
 |.ret a,h=>h
 |.ask i j k,h=>Wi.out c (t:=k (c i j)) (h.2.2 (c i j))
theorem wp_run {α:Type} {n:Nat} {P:α->Prop} {cmp:Nat->Nat->(Bool->Ak->Prop)->Ak->Prop} {c:Nat->Nat->Bool} {St:Ak->Prop} {Q:α->Ak->Prop}
  (hc:∀i j C s,i < n->j < n->St s->(∀s',St s'->C (c i j) s')->cmp i j C s):∀(t:KasT α) (s:Ak),Wi n P t->St s->(∀s',St s'->Q (run c t) s')->t.kasWp cmp Q s
 |.ret a,s,_,hs,h=>h s hs
 |.ask i j k,s,w,hs,h=>hc i j _ s w.1 w.2.1 hs λs' hs'=>wp_run hc (k (c i j)) s' (w.2.2 _) hs' h
def Lo (n:Nat) (p:Array Nat):Prop:=∀i,p.getD i 0 < n
theorem jdb (p:Array Nat) (i:Nat):p.getD i 0=(p[i]?).getD 0:=by simp
theorem j1c {n:Nat} {p:Array Nat} (hn:0 < n) (h:∀x∈p,x < n):Lo n p:=λi=>by
 rw[jdb];cases e:p[i]? with
 |none=>exact hn
 |some x=>exact h x (Array.mem_of_getElem? e)
def Pm (n:Nat) (p:Array Nat):Prop:=p.Perm (Da (B4 n))
theorem Pm.size {n:Nat} {p:Array Nat} (h:Pm n p):p.size=n:=by rw[Array.Perm.size_eq h];simp
theorem Pm.lo {n:Nat} {p:Array Nat} (hn:0 < n) (h:Pm n p):Lo n p:=j1c hn λx hx=>by
 have:x∈Da (B4 n):=(Array.Perm.mem_iff h).mp hx;simpa using this
theorem Pm.rev {n:Nat} {p:Array Nat} (h:Pm n p) (i j:Nat):Pm n (Eb p i j):=(mirror_perm p i j _).trans h
theorem Pm.bub {n:Nat} {p:Array Nat} (h:Pm n p) (i j:Nat):Pm n (bubble p i j):=(bubble_perm p i j).trans h
section
variable {n:Nat} (hn:0 < n)
include hn
theorem jqg {p:Array Nat} (h:Lo n p):∀f m,Wi n (λ_=>True) (kas_asc p f m)
 |0,m=>trivial
 |f+1,m=>⟨h _,h _,λb=>by
  cases b with
  |true=>exact trivial
  |false=>exact jqg h f (m+1)⟩
theorem jj3:∀f (p:Array Nat) m q,Pm n p->Wi n (λr=>Pm n r.1) (kas_desc f p m q)
 |0,p,m,q,h=>h
 |f+1,p,m,q,h=>⟨h.lo hn _,h.lo hn _,λb=>by
  cases b with
  |true =>
   show Wi n _ (if q > 0 then _ else _)
   split
   ·exact jj3 f _ _ _ (h.rev _ _)
   ·exact jj3 f _ _ _ h
  |false=>exact⟨h.lo hn _,h.lo hn _,λd=>by
    cases d with
    |true=>exact h
    |false=>exact jj3 f _ _ _ h⟩⟩
theorem jn5 (m nrem:Nat) {p:Array Nat} (h:Pm n p):Wi n (λr=>Pm n r.2) (kas_tail3 m nrem p):=by
 unfold kas_tail3;refine Wi.bind (P:=λ_=>True) (λa _=>?_) (jqg hn ((h.rev 0 m).lo hn) _ _);show Pm n (Eb p 0 m);exact h.rev _ _
theorem jg4 (m nrem:Nat) {p:Array Nat} (h:Pm n p):Wi n (λr=>Pm n r.2) (kas_descPart m nrem p) :=
 Wi.bind (λr hr=>by
  show Wi n _ (if r.2.2 > 0 then _ else _)
  split
  ·exact jn5 hn _ _ (Pm.rev hr _ _)
  ·exact jn5 hn _ _ hr) (jj3 hn _ p _ _ h)
theorem jtq (nrem:Nat) {p:Array Nat} (h:Pm n p):Wi n (λr=>Pm n r.2) (kas_count nrem p) :=
 Wi.bind (λm _=>by
  show Wi n _ (if (m==nrem)=true then _ else if m > 1 then _ else _)
  split
  ·exact h
  ·split
   ·exact⟨h.lo hn _,h.lo hn _,λb=>by
     cases b with
     |true=>exact h
     |false=>exact jg4 hn _ _ (h.rev _ _)⟩
   ·exact jg4 hn _ _ h) (jqg hn (h.lo hn) _ _)
theorem jj2 {p:Array Nat} (h:Lo n p) (k:Nat):∀f l r,Wi n (λ_=>True) (kas_place p k f l r)
 |0,l,r=>trivial
 |f+1,l,r=>by
  show Wi n _ (if l ≥ r then _ else _)
  split
  ·exact trivial
  ·exact⟨h _,h _,λb=>by
    cases b with
    |true=>exact jj2 h k f _ _
    |false=>exact jj2 h k f _ _⟩
theorem jvq:∀f (p:Array Nat) k,Pm n p->Wi n (Pm n) (kas_bin f p k)
 |0,p,k,h=>h
 |f+1,p,k,h=>Wi.bind (λl _=>jvq f _ _ (h.bub _ _)) (jj2 hn (h.lo hn) k _ _ _)
theorem wi_sort:Wi n (Pm n) (kas_sort n) :=
 Wi.bind (λr hr=>by
  show Wi n _ (if r.1 < n then _ else _)
  split
  ·exact jvq hn _ _ _ hr
  ·exact hr) (jtq hn n (Array.Perm.refl _))
end
structure Ord (lt:Nat->Nat->Bool):Prop where
 asym:∀i j,lt i j=true->lt j i=false
 ltr:∀i j k,lt j i=false->lt k j=false->lt k i=false
section
variable {lt:Nat->Nat->Bool} (O:Ord lt)
def g (p:Array Nat) (i:Nat):Nat:=p.getD i 0
def SP (lt:Nat->Nat->Bool) (p:Array Nat) (n:Nat):Prop:=∀i j,i < j->j < n->lt (g p j) (g p i)=false
def DP (lt:Nat->Nat->Bool) (p:Array Nat) (n:Nat):Prop:=∀i j,i < j->j < n->lt (g p i) (g p j)=false
def Sim (lt:Nat->Nat->Bool) (x y:Nat):Prop:=lt x y=false/\lt y x=false
include O
theorem irr (i:Nat):lt i i=false:=by
 cases e:lt i i with
 |false=>rfl
 |true=>exact(O.asym i i e).symm.trans e |>.symm▸rfl
theorem Sim.eq {a b x y:Nat} (h1:Sim lt a x) (h2:Sim lt b y):lt a b=lt x y:=by
 cases e:lt x y with
 |false=>exact O.ltr _ _ _ h2.2 (O.ltr _ _ _ e h1.1)
 |true =>
  cases e2:lt a b with
  |true=>rfl
  |false =>
   have:lt x y=false:=O.ltr _ _ _ h2.1 (O.ltr _ _ _ e2 h1.2);rw[this]at e;cases e
theorem SP.snoc {p:Array Nat} {n:Nat} (h:SP lt p n) (h1:1<=n) (e:lt (g p n) (g p (n - 1))=false):SP lt p (n+1):=λi j hij hj=>by
 by_cases q:j < n
 ·exact h i j hij q
 ·have:j=n:=by omega
  subst this;by_cases r:i=j - 1
  ·subst r;exact e
  ·exact O.ltr _ _ _ (h i (j - 1) (by omega) (by omega)) e
theorem jtg {p:Array Nat}:∀f n,1<=n->SP lt p n->n<=run lt (kas_asc p f n)/\run lt (kas_asc p f n)<=n+f/\SP lt p (run lt (kas_asc p f n))/\(run lt (kas_asc p f n)=n+f\/lt (g p (run lt (kas_asc p f n))) (g p (run lt (kas_asc p f n) - 1))=true)
 |0,n,h1,h=>⟨Al _,Al _,h,.inl rfl⟩
 |f+1,n,h1,h=>by
  have e:run lt (kas_asc p (f+1) n)=run lt (if lt (g p n) (g p (n - 1))=true then .ret n else kas_asc p f (n+1)):=rfl;rw[e];cases q:lt (g p n) (g p (n - 1))with
  |true=>exact⟨Al _,Nat.le_add_right _ _,h,.inr q⟩
  |false =>
   rw[if_neg An];obtain⟨a1,a2,a3,a4⟩:=jtg f (n+1) (by omega) (SP.snoc O h h1 q);exact⟨by omega,by omega,a3,a4.imp (λz=>by omega) id⟩
omit O
theorem jrg {p:Array Nat} {i j:Nat} (hj:j<=p.size) (k:Nat):g (Eb p i j) k=if i<=k/\k < j then g p (i+j - 1 - k)else g p k:=by
 unfold g Eb;rw[jdb,jdb,jdb,getElem?_mirror hj _ (by omega)];by_cases h:i<=k/\k < j
 ·rw[if_pos h];by_cases q:(i<=k/\k < i+(j - i) / 2)\/(j - (j - i) / 2<=k/\k < j)
  ·rw[if_pos q]
  ·rw[if_neg q];have:i+j - 1 - k=k:=by omega
   rw[this]
 ·rw[if_neg h,if_neg (by omega)]
include O
theorem jnk {p:Array Nat} {i j:Nat} (hj:j<=p.size) (h:∀a b,i<=a->a < j->i<=b->b < j->Sim lt (g p a) (g p b)) (k:Nat):Sim lt (g (Eb p i j) k) (g p k):=by
 rw[jrg hj]
 split
 ·rename_i q;exact h _ _ (by omega) (by omega) q.1 q.2
 ·exact⟨irr O _,irr O _⟩
theorem DP.sim {p p':Array Nat} {n:Nat} (h:DP lt p n) (s:∀k,Sim lt (g p' k) (g p k)):DP lt p' n:=λi j hij hj=>(Sim.eq O (s i) (s j)).trans (h i j hij hj)
theorem DP.snoc {p:Array Nat} {n:Nat} (h:DP lt p n) (h1:1<=n) (e:lt (g p (n - 1)) (g p n)=false):DP lt p (n+1):=λi j hij hj=>by
 by_cases q:j < n
 ·exact h i j hij q
 ·have:j=n:=by omega
  subst this;by_cases r:i=j - 1
  ·subst r;exact e
  ·exact O.ltr _ _ _ e (h i (j - 1) (by omega) (by omega))
omit O
def jzd (lt:Nat->Nat->Bool) (sz n f:Nat) (r:Array Nat×Nat×Nat):Prop :=
 r.1.size=sz/\n<=r.2.1/\r.2.1<=n+f/\r.2.2+1<=r.2.1/\DP lt r.1 r.2.1/\(∀a b,r.2.1 - (r.2.2+1)<=a->a < r.2.1->r.2.1 - (r.2.2+1)<=b->b < r.2.1->Sim lt (g r.1 a) (g r.1 b))
def CntP (lt:Nat->Nat->Bool) (sz nrem:Nat) (r:Nat×Array Nat):Prop:=r.2.size=sz/\1<=r.1/\r.1<=nrem/\SP lt r.2 r.1
def PlP (lt:Nat->Nat->Bool) (p:Array Nat) (k m:Nat):Prop:=m<=k/\(∀i,i < m->lt (g p k) (g p i)=false)/\(∀i,m<=i->i < k->lt (g p k) (g p i)=true)
include O
theorem jkq:∀f (p:Array Nat) n q,q+1<=n->n+f<=p.size->DP lt p n->(∀a b,n - (q+1)<=a->a < n->n - (q+1)<=b->b < n->Sim lt (g p a) (g p b)) ->
  jzd lt p.size n f (run lt (kas_desc f p n q))
 |0,p,n,q,h1,h2,h3,h4=>⟨rfl,Al _,Al _,h1,h3,h4⟩
 |f+1,p,n,q,h1,h2,h3,h4=>by
  have one:∀(p':Array Nat) (m:Nat) (a b:Nat),m+1 - (0+1)<=a->a < m+1->m+1 - (0+1)<=b->b < m+1->Sim lt (g p' a) (g p' b):=λp' m a b ha ha' hb hb'=>by
   have e1:a=m:=by omega
   have e2:b=m:=by omega
   rw[e1,e2];exact⟨irr O _,irr O _⟩
  show jzd lt p.size n (f+1) (run lt (if lt (g p n) (g p (n - 1))=true then(if q > 0 then kas_desc f (Eb p (n - (q+1)) n) (n+1) 0 else kas_desc f p (n+1) 0)else .ask (p.getD (n - 1) 0) (p.getD n 0) λd=>if d=true then .ret (p,n,q)else kas_desc f p (n+1) (q+1)));cases c1:lt (g p n) (g p (n - 1))with
  |true =>
   rw[if_pos rfl];by_cases hq:q > 0
   ·rw[if_pos hq];have sim:=jnk O (p:=p) (i:=n - (q+1)) (j:=n) (by omega) h4;have hd:DP lt (Eb p (n - (q+1)) n) (n+1):=DP.sim O (DP.snoc O h3 (by omega) (O.asym _ _ c1)) sim;have hs:(Eb p (n - (q+1)) n).size=p.size:=mirror_size _ _ _ _;obtain⟨a1,a2,a3,a4,a5,a6⟩:=jkq f (Eb p (n - (q+1)) n) (n+1) 0 (by omega) (by rw[hs];omega) hd (one _ n);exact⟨a1.trans hs,by omega,by omega,a4,a5,a6⟩
   ·rw[if_neg hq];obtain⟨a1,a2,a3,a4,a5,a6⟩:=jkq f p (n+1) 0 (by omega) (by omega) (DP.snoc O h3 (by omega) (O.asym _ _ c1)) (one _ n);exact⟨a1,by omega,by omega,a4,a5,a6⟩
  |false =>
   rw[if_neg An];show jzd lt p.size n (f+1) (run lt (if lt (g p (n - 1)) (g p n)=true then .ret (p,n,q)else kas_desc f p (n+1) (q+1)));cases c2:lt (g p (n - 1)) (g p n)with
   |true=>exact⟨rfl,Al _,by show n<=n+(f+1);omega,h1,h3,h4⟩
   |false =>
    rw[if_neg An];have s1:Sim lt (g p n) (g p (n - 1)):=⟨c1,c2⟩;have tr:∀{x y z:Nat},Sim lt x y->Sim lt y z->Sim lt x z:=λh h'=>⟨O.ltr _ _ _ h'.1 h.1,O.ltr _ _ _ h.2 h'.2⟩;obtain⟨a1,a2,a3,a4,a5,a6⟩:=jkq f p (n+1) (q+1) (by omega) (by omega) (DP.snoc O h3 (by omega) c2) (λa b ha ha' hb hb'=>by
     have key:∀x,n+1 - (q+1+1)<=x->x < n+1->Sim lt (g p x) (g p (n - 1)):=λx hx hx'=>by
      by_cases e:x=n
      ·rw[e];exact s1
      ·exact h4 x (n - 1) (by omega) (by omega) (by omega) (by omega)
     have kb:=key b hb hb';exact tr (key a ha ha') ⟨kb.2,kb.1⟩)
    exact⟨a1,by omega,by omega,a4,a5,a6⟩
theorem joe {p:Array Nat} {n nrem:Nat} (h1:1<=n) (hn:n<=nrem) (hz:nrem<=p.size) (h:DP lt p n):CntP lt p.size nrem (run lt (kas_tail3 n nrem p)):=by
 unfold kas_tail3;rw[jdw];have hs:(Eb p 0 n).size=p.size:=mirror_size _ _ _ _;have sp:SP lt (Eb p 0 n) n:=λi j hij hj=>by
  rw[jrg (by omega),jrg (by omega),if_pos ⟨A3 _,hj⟩,if_pos ⟨A3 _,by omega⟩];exact h _ _ (by omega) (by omega)
 obtain⟨a1,a2,a3,_⟩:=jtg O (p:=Eb p 0 n) (nrem - n) n h1 sp;exact⟨hs,by show 1<=run lt (kas_asc (Eb p 0 n) (nrem - n) n);omega,by show run lt (kas_asc (Eb p 0 n) (nrem - n) n)<=nrem;omega,a3⟩
theorem jhr {p:Array Nat} {n nrem:Nat} (h1:1<=n) (hn:n+1<=nrem) (hz:nrem<=p.size) (h:DP lt p (n+1)):CntP lt p.size nrem (run lt (kas_descPart n nrem p)):=by
 unfold kas_descPart;rw[jdw];obtain⟨a1,a2,a3,a4,a5,a6⟩:=jkq O (nrem - (n+1)) p (n+1) 0 (by omega) (by omega) h (λa b ha ha' hb hb'=>by
  have e1:a=n:=by omega
  have e2:b=n:=by omega
  rw[e1,e2];exact⟨irr O _,irr O _⟩)
 generalize run lt (kas_desc (nrem - (n+1)) p (n+1) 0)=r at a1 a2 a3 a4 a5 a6;by_cases hq:r.2.2 > 0
 ·rw[if_pos hq];have hs:(Eb r.1 (r.2.1 - (r.2.2+1)) r.2.1).size=r.1.size:=mirror_size _ _ _ _;obtain⟨b1,b2⟩:=joe O (p:=Eb r.1 (r.2.1 - (r.2.2+1)) r.2.1) (n:=r.2.1) (nrem:=nrem) (by omega) (by omega) (by rw[hs];omega) (DP.sim O a5 (jnk O (by omega) a6));exact⟨b1.trans (hs.trans a1),b2⟩
 ·rw[if_neg hq];obtain⟨b1,b2⟩:=joe O (p:=r.1) (n:=r.2.1) (nrem:=nrem) (by omega) (by omega) (by omega) a5;exact⟨b1.trans a1,b2⟩
theorem ju8 {p:Array Nat} {nrem:Nat} (h1:1<=nrem) (hz:nrem<=p.size):CntP lt p.size nrem (run lt (kas_count nrem p)):=by
 unfold kas_count;rw[jdw];obtain⟨a1,a2,a3,a4⟩:=jtg O (p:=p) (nrem - 1) 1 (Al _) (λi j hij hj=>by omega);generalize run lt (kas_asc p (nrem - 1) 1)=m at a1 a2 a3 a4;by_cases q:(m==nrem)=true
 ·rw[if_pos q];exact⟨rfl,a1,by show m<=nrem;omega,a3⟩
 ·rw[if_neg q];have hm:m≠nrem:=λz=>q (by rw[z];exact beq_self_eq_true _);have a4:lt (g p m) (g p (m - 1))=true:=a4.resolve_left (by omega);by_cases hm1:m > 1
  ·rw[if_pos hm1];show CntP lt p.size nrem (run lt (if lt (g p 0) (g p (m - 1))=true then .ret (m,p)else kas_descPart m nrem (Eb p 0 m)));cases c:lt (g p 0) (g p (m - 1))with
   |true=>exact⟨rfl,a1,by show m<=nrem;omega,a3⟩
   |false =>
    rw[if_neg An];have hs:(Eb p 0 m).size=p.size:=mirror_size _ _ _ _;have up:∀a b,a < m->b < m->lt (g p b) (g p a)=false:=λa b ha hb=>by
     have le0:lt (g p a) (g p 0)=false:=by
      by_cases z:a=0
      ·rw[z];exact irr O _
      ·exact a3 0 a (by omega) ha
     have leb:lt (g p (m - 1)) (g p b)=false:=by
      by_cases z:b=m - 1
      ·rw[z];exact irr O _
      ·exact a3 b (m - 1) (by omega) (by omega)
     have l1:lt (g p b) (g p 0)=false:=by
      by_cases z:b=0
      ·rw[z];exact irr O _
      ·exact a3 0 b (by omega) hb
     have l2:lt (g p 0) (g p a)=false:=O.ltr _ _ _ (by
      by_cases z:a=m - 1
      ·rw[z];exact irr O _
      ·exact a3 a (m - 1) (by omega) (by omega)) c
     -- b <= m-1 <= 0 <= a
     exact O.ltr _ _ _ l2 l1
    have all:∀a b,0<=a->a < m->0<=b->b < m->Sim lt (g p a) (g p b):=λa b _ ha _ hb=>⟨up b a hb ha,up a b ha hb⟩;have sim:=jnk O (p:=p) (i:=0) (j:=m) (by omega) all;have dp:DP lt p (m+1):=DP.snoc O (λi j hij hj=>up j i hj (by omega)) a1 (O.asym _ _ a4);obtain⟨b1,b2⟩:=jhr O (p:=Eb p 0 m) (n:=m) (nrem:=nrem) a1 (by omega) (by rw[hs];omega) (DP.sim O dp sim);exact⟨b1.trans hs,b2⟩
  ·rw[if_neg hm1];have e:m=1:=by omega
   subst e;exact jhr O (p:=p) (Al _) (by omega) hz (DP.snoc O (λi j hij hj=>by omega) (Al _) (O.asym _ _ a4))
theorem jka {p:Array Nat} {k:Nat} (h:SP lt p k):∀f l r,l<=r->r<=k->r - l<=f->(∀i,i < l->lt (g p k) (g p i)=false)->(∀i,r<=i->i < k->lt (g p k) (g p i)=true) ->
  PlP lt p k (run lt (kas_place p k f l r))
 |0,l,r,hlr,hr,hf,h1,h2=>by
  have e:l=r:=by omega
  subst e;exact⟨hr,h1,h2⟩
 |f+1,l,r,hlr,hr,hf,h1,h2=>by
  show PlP lt p k (run lt (if l ≥ r then .ret l else .ask (p.getD k 0) (p.getD ((l+r) / 2) 0) λc=>if c=true then kas_place p k f l ((l+r) / 2)else kas_place p k f ((l+r) / 2+1) r));by_cases q:l ≥ r
  ·rw[if_pos q];have e:l=r:=by omega
   subst e;exact⟨hr,h1,h2⟩
  ·rw[if_neg q];show PlP lt p k (run lt (if lt (g p k) (g p ((l+r) / 2))=true then kas_place p k f l ((l+r) / 2)else kas_place p k f ((l+r) / 2+1) r));cases c:lt (g p k) (g p ((l+r) / 2))with
   |true =>
    rw[if_pos rfl];refine jka h f l ((l+r) / 2) (by omega) (by omega) (by omega) h1 λi hi hik=>?_;by_cases e:i=(l+r) / 2
    ·rw[e];exact c
    ·cases z:lt (g p k) (g p i)with
     |true=>rfl
     |false =>
      have:=O.ltr _ _ _ (h ((l+r) / 2) i (by omega) hik) z;rw[this]at c;cases c
   |false =>
    rw[if_neg An];refine jka h f ((l+r) / 2+1) r (by omega) hr (by omega) (λi hi=>?_) h2;by_cases e:i=(l+r) / 2
    ·rw[e];exact c
    ·exact O.ltr _ _ _ (h i ((l+r) / 2) (by omega) (by omega)) c
omit O
theorem jwl {p:Array Nat} {k l:Nat} (hk:k < p.size) (hl:l<=k) (i:Nat):g (bubble p k (k - l)) i=if i=l then g p k else if l < i/\i<=k then g p (i - 1)else g p i:=by
 unfold g;rw[jdb,getElem?_bubble hk _ (by omega),jdb,jdb,jdb];have e:k - (k - l)=l:=by omega
 rw[e];by_cases h1:i=l
 ·rw[if_pos h1,if_pos h1]
 ·rw[if_neg h1,if_neg h1];by_cases h2:l < i/\i<=k
  ·rw[if_pos h2,if_pos h2]
  ·rw[if_neg h2,if_neg h2]
include O
theorem jwo:∀f (p:Array Nat) k,1<=k->k+f<=p.size->SP lt p k->SP lt (run lt (kas_bin f p k)) (k+f)
 |0,p,k,h1,hz,h=>h
 |f+1,p,k,h1,hz,h=>by
  show SP lt (run lt ((kas_place p k k 0 k).bind λl=>kas_bin f (bubble p k (k - l)) (k+1))) (k+(f+1));rw[jdw];obtain⟨b1,b2,b3⟩:=jka O h k 0 k (A3 _) (Al _) (by omega) (λi hi=>by omega) (λi hi hi'=>by omega);generalize run lt (kas_place p k k 0 k)=l at b1 b2 b3;have sp:SP lt (bubble p k (k - l)) (k+1):=λi j hij hj=>by
   rw[jwl (by omega) b1,jwl (by omega) b1];by_cases e1:j=l
   ·rw[if_pos e1,if_neg (by omega),if_neg (by omega)];exact b2 i (by omega)
   ·rw[if_neg e1];by_cases e2:l < j/\j<=k
    ·rw[if_pos e2];by_cases e3:i=l
     ·rw[if_pos e3];exact O.asym _ _ (b3 (j - 1) (by omega) (by omega))
     ·rw[if_neg e3];by_cases e4:l < i/\i<=k
      ·rw[if_pos e4];exact h (i - 1) (j - 1) (by omega) (by omega)
      ·rw[if_neg e4];exact h i (j - 1) (by omega) (by omega)
    ·rw[if_neg e2,if_neg (by omega),if_neg (by omega)];exact h i j hij (by omega)
  have:=jwo f (bubble p k (k - l)) (k+1) (by omega) (by rw[bubble_size];omega) sp;have e:k+1+f=k+(f+1):=by omega
  rwa [e]at this
theorem sort_ok {n:Nat} (h1:1<=n):SP lt (run lt (kas_sort n)) n:=by
 unfold kas_sort;rw[jdw];obtain⟨a1,a2,a3,a4⟩:=ju8 O (p:=Da (B4 n)) (nrem:=n) h1 (by simp);generalize run lt (kas_count n (Da (B4 n)))=r at a1 a2 a3 a4;have hs:r.2.size=n:=by rw[a1];simp
 by_cases q:r.1 < n
 ·rw[if_pos q];have e:max r.1 1=r.1:=by omega
  rw[e];have:=jwo O (n - r.1) r.2 r.1 a2 (by omega) a4;have e2:r.1+(n - r.1)=n:=by omega
  rwa [e2]at this
 ·rw[if_neg q];have e:r.1=n:=by omega
  rw[e]at a4;exact a4
end
end KS
namespace KS
open PySem PySem.W PySem.Calls PyProof.Rows
section
variable {prog:Bm} {w:B3} {A:B8} {E:Ah->Ak->Prop} {s:Ak} {a:Addr} {vs:List Ah}
theorem ls_sort {n:Nat} {P:PySem.Fin->Ak->Prop} (ho:s.heap.get? a=some (C7 "list" vs.toArray n)) (h2:2<=vs.length) (h64:vs.length < 64)
  (h:∀e1 h',h'.get? a=some (C7 "list" #[] e1)->(∀b o,b≠a->s.heap.get? b=some o->h'.get? b=some o) ->
   Az (Ba prog w) A (keyKind' vs.toArray) (λκ s'=>(kas_sort vs.length).kasWp (kas_ask prog w A κ vs)
    (λp s''=>s''.heap.get? a=some (C7 "list" #[] e1)/\∀h3 c,Dd a s''.heap h3->h3.get? a=some (C7 "list" (Da (p.toList.map λi=>vs.getD i Bf)) c)->P (.done (.ret .none)) {s'' with heap:=h3}) s') (λ_ _=>False) {s with heap:=h'}) :
  Az (Ba prog w) A (D4.«list.sort» ⟨[.ref a],[]⟩) P E s:=by
 have ha:a < s.heap.objs.size:=Ao ho;have s1:=Be s.heap a (Cq λ_=>(#[]:Array Ah));obtain⟨e1,ho1⟩:∃e1,(s.heap.update a (Cq λ_=>(#[]:Array Ah))).get? a=some (C7 "list" #[] e1):=⟨_,get?_update_seq ho λ_=>#[]⟩;have ask:=h e1 (((s.heap.update a (Cq λ_=>(#[]:Array Ah))).push (C7 "tuple" vs.toArray 0)).push (C7 "list" #[] 0)) (Ad _ (Ad _ ho1))
  λb o hb e=>Ad _ (Ad _ ((s1.2 b hb).trans e))
 rw[list_sort_plain];refine Aa (listItems_at ho rfl ?_);refine Aa (listUpdate_at ho rfl ?_ (by rw[Av,Fh];omega) (A3 _));refine Aa (seqEpoch_at ho1 rfl ?_);refine Aa (wpAny_newTuple ?_ (by show vs.length<=_;rw[Fh];omega));refine Aa (wpAny_newList ?_ (A3 _));refine C6 ?_;show Az (Ba prog w) A _ P E {s with heap:=((s.heap.update a (Cq λ_=>(#[]:Array Ah))).push (C7 "tuple" vs.toArray 0)).push (C7 "list" #[] 0)};dsimp only;have hn2:¬vs.toArray.size < 2:=by rw[Av];omega
 rw[if_neg hn2,if_neg hn2];refine Aa (Dq ask (λκ s0 hk=>?_) λ_ _ x=>x.elim);refine Aa (Dq (kat_run (Q:=λst' s'=>∃p:Array Nat,p.size=vs.length/\arrOf st'=p.map (kas_item (vs.toArray.zip vs.toArray))/\failedOf st'=none/\s'.heap.get? a=some (C7 "list" #[] e1)/\∀h3 c,Dd a s'.heap h3->h3.get? a=some (C7 "list" (Da (p.toList.map λi=>vs.getD i Bf)) c)->P (.done (.ret .none)) {s' with heap:=h3})
  rfl h2 h64 (λp' st' s' a1 a2 a3 a4=>⟨p',a1,a2,a3,a4⟩) hk) ?_ λ_ _ e=>e)
 rintro⟨⟨⟩,st'⟩ s' ⟨p,hp,har,hf,na,k⟩
 dsimp only;have hout:=kat_snds rfl har;have hsz:(Da (p.toList.map λi=>vs.getD i Bf)).size=vs.length:=by rw[Av,Ae,Co,hp]
 rw[hout];have s2:=Be s'.heap a (Cq λ_=>Da (p.toList.map λi=>vs.getD i Bf));obtain⟨c2,hc2⟩:∃c2,(s'.heap.update a (Cq λ_=>Da (p.toList.map λi=>vs.getD i Bf))).get? a=some (C7 "list" (Da (p.toList.map λi=>vs.getD i Bf)) c2):=⟨_,get?_update_seq na λ_=>Da (p.toList.map λi=>vs.getD i Bf)⟩;refine Aa (seqEpoch_at na rfl ?_);refine Aa (listUpdate_at na rfl ?_ (A3 _) (A9 (Nat.le_of_eq hsz) (by rw[Fh];omega)));rw[hf];simp only[bne_self_eq_false,B9,if_false];exact Ai (k _ c2 s2 hc2)
theorem ls_short {n:Nat} {P:PySem.Fin->Ak->Prop} (ho:s.heap.get? a=some (C7 "list" vs.toArray n)) (h2:vs.length < 2)
  (h:∀h' c,h'.get? a=some (C7 "list" vs.toArray c)->(∀b o,b≠a->s.heap.get? b=some o->h'.get? b=some o)->P (.done (.ret .none)) {s with heap:=h'}) :
  Az (Ba prog w) A (D4.«list.sort» ⟨[.ref a],[]⟩) P E s:=by
 have ha:a < s.heap.objs.size:=Ao ho;have s1:=Be s.heap a (Cq λ_=>(#[]:Array Ah));obtain⟨e1,ho1⟩:∃e1,(s.heap.update a (Cq λ_=>(#[]:Array Ah))).get? a=some (C7 "list" #[] e1):=⟨_,get?_update_seq ho λ_=>#[]⟩;have ho6:(((s.heap.update a (Cq λ_=>(#[]:Array Ah))).push (C7 "tuple" vs.toArray 0)).push (C7 "list" #[] 0)).get? a=some (C7 "list" #[] e1):=Ad _ (Ad _ ho1);rw[list_sort_plain];refine Aa (listItems_at ho rfl ?_);refine Aa (listUpdate_at ho rfl ?_ (by rw[Av,Fh];omega) (A3 _));refine Aa (seqEpoch_at ho1 rfl ?_);refine Aa (wpAny_newTuple ?_ (by show vs.length<=_;rw[Fh];omega));refine Aa (wpAny_newList ?_ (A3 _));refine C6 ?_;show Az (Ba prog w) A _ P E {s with heap:=((s.heap.update a (Cq λ_=>(#[]:Array Ah))).push (C7 "tuple" vs.toArray 0)).push (C7 "list" #[] 0)};dsimp only;have hn2:vs.toArray.size < 2:=by rw[Av];omega
 rw[if_pos hn2,if_pos hn2];refine Aa (Ai ?_);rw[StateT.run_pure];refine Aa (Ai ?_);dsimp only;refine Aa (seqEpoch_at ho6 rfl ?_);refine Aa (listUpdate_at ho6 rfl ?_ (hsz2:=by rw[Array.size_map];show(pairsOf vs).size<=_;rw[pairsOf_size,Fh];omega));simp only[bne_self_eq_false,B9,if_false];have e:(arrOf (SortSt.mk' general' (vs.toArray.zip vs.toArray) #[] 7 none)).map (·.2)=vs.toArray:=by
  show(vs.toArray.zip vs.toArray).map (·.2)=vs.toArray;apply Array.toList_inj.mp;simp only[Array.toList_map,Array.toList_zip];exact List.map_snd_zip (Al _)
 have s2:=Be (((s.heap.update a (Cq λ_=>(#[]:Array Ah))).push (C7 "tuple" vs.toArray 0)).push (C7 "list" #[] 0)) a (Cq λ_=>(arrOf (SortSt.mk' general' (vs.toArray.zip vs.toArray) #[] 7 none)).map (·.2));refine Ai (h _ _ (by rw[e];exact get?_update_seq ho6 λ_=>vs.toArray) λb o hb q=>(s2.2 b hb).trans (Ad _ (Ad _ ((s1.2 b hb).trans q))))
theorem sorted_of {r:Ah} {Q:Ah->Ak->Prop} {R:List Ah->Ak->Prop} (hcol:Az (Ba prog w) A.in1 (collect r) R E s)
  (h:∀vs s1,R vs s1->vs.length<=Ay/\Az (Ba prog w) A.in1.in1 (D4.«list.sort» ⟨[.ref s1.heap.objs.size],[]⟩) (λf s2=>f=.done (.ret .none)/\Q (.ref s1.heap.objs.size) s2) E {s1 with heap:=s1.heap.push (C7 "list" vs.toArray 0)}) :
  Az (Ba prog w) A (call (.builtin "sorted") [r]) Q E s:=by
 refine Calls.call_function_entry kind_sorted plain_sorted entry_sorted (args_sorted1 _) ?_;unfold D4.«sorted»;refine Aa (m:=checkCount "sorted" 1 1 _) (Ai ?_);refine Aa (Dq hcol (λvs s1 hr=>?_) λ_ _ e=>e);obtain⟨hl,hs⟩:=h vs s1 hr;refine Aa (wpAny_newList ?_ hl);have hoL:(s1.heap.push (C7 "list" vs.toArray 0)).get? s1.heap.objs.size=some (C7 "list" vs.toArray 0):=As _ rfl;refine Aa (C6 (Bv (s:={ s1 with heap:=s1.heap.push (C7 "list" vs.toArray 0)}) slot_list_sort ⟨_,hoL,rfl⟩ entry_list_sort ?body (args_list_sort _)))
 case body =>
  refine Dq hs (λf s2 hf=>?_) λ_ _ e=>e;obtain⟨rfl,hq⟩:=hf;exact⟨_,rfl,Ai ⟨_,rfl,hq⟩⟩
def ltK (ks:List Str) (i j:Nat):Bool:=decide ((ks.getD i ⟨#[]⟩).cps.toList < (ks.getD j ⟨#[]⟩).cps.toList)
theorem lt_asym' (x y:List Nat) (h:x < y):¬y < x:=λz=>List.lt_irrefl x (List.lt_trans h z)
theorem ordK (ks:List Str):Ord (ltK ks) where
 asym:=λi j h=>by
  unfold ltK at h ⊢;exact decide_eq_false (lt_asym' _ _ (of_decide_eq_true h))
 ltr:=λi j k h1 h2=>by
  unfold ltK at h1 h2 ⊢;have h1:=of_decide_eq_false h1;have h2:=of_decide_eq_false h2;refine decide_eq_false λz=>?_;have l1:=Ft.mp h1;have l2:=Ft.mp h2;exact absurd z (Ft.mpr (List.le_trans l1 l2))
end
end KS
namespace L2
open PySem PySem.Spec PyProof.Rows PySem.W
theorem j3f {ks:List Str} {p:Array Nat} {n:Nat} (hz:p.size=n) (h:KS.SP (KS.ltK ks) p n):(p.toList.map λi=>ks.getD i ⟨#[]⟩).Pairwise (λa b=>¬b.cps.toList < a.cps.toList):=by
 rw[List.pairwise_iff_getElem];intro i j hi hj hij;rw[Ae,Co,hz]at hi hj;have:=h i j hij hj;unfold KS.ltK KS.g at this;have e1:p.getD i 0=p[i]:=by simp[hz,hi]
 have e2:p.getD j 0=p[j]:=by simp[hz,hj]
 rw[e1,e2]at this;simp only[List.getElem_map,Array.getElem_toList];exact of_decide_eq_false this
def TxOk (vs:List Ah) (ks:List Str):Prop:=vs.length=ks.length/\∀(j:Nat) v,vs[j]?=some v->∃k t,ks[j]?=some k/\v=.str k t
theorem jl2 {vs:List Ah} {ks:List Str} (h:TxOk vs ks):∀(idx:List Nat),(∀i∈idx,i < ks.length)->Vals ((idx.map λi=>ks.getD i ⟨#[]⟩).map V.str) (idx.map λi=>vs.getD i Bf)
 |[],_=>.nil
 |i::r,hi=>by
  have h1:=hi i Au;have h2:i < vs.length:=by rw[h.1];exact h1
  obtain⟨k,t,e1,e2⟩:=h.2 i vs[i] (Ag h2);refine .cons ⟨t,?_⟩ (jl2 h r λj hj=>hi j (Aw _ hj));simp[h2,e1,e2]
theorem jrv {ks:List Str} {idx:List Nat} (h:idx.Perm (B4 ks.length)):(idx.map λi=>ks.getD i ⟨#[]⟩).Perm ks:=by
 have h1:=h.map λi=>ks.getD i (⟨#[]⟩:Str);have h2:(B4 ks.length).map (λi=>ks.getD i (⟨#[]⟩:Str))=ks:=by
  apply List.ext_getElem (by simp);intro i h1 h2;simp[h2]
 rw[h2]at h1;exact h1
end L2
namespace L2
open PySem PySem.Spec PyProof.Rows
section
variable {prog:Bm} {w:B3} {A:B8} {E:Ah->Ak->Prop} {s:Ak}
theorem jbd {it t:Addr} {i:Nat} {items:Array Ah} {x:Ah} {Q:Ah->Ak->Prop} (hit:s.heap.IsTupleIter it t i) (ht:s.heap.IsTuple t items) (hx:items[i]?=some x)
  (hQ:∀h',h'.IsTupleIter it t (i+1)->Dd it s.heap h'->Q x {s with heap:=h'}):Az (Ba prog w) A (Bs (.ref it)) Q E s:=by
 obtain⟨o,ho,hc,hd⟩:=id hit;obtain⟨ol,hol,_,nl,hdl⟩:=ht;unfold Bs;refine Aa (Bh (name:=Cg "__next__") hit.typeIs Fc
  (Bv Fc hit.typeIs F.entry_tuple_iterator_next ?_ (F.args_tuple_iterator_next_1 _)))
 show Az _ _ (field (.ref it) 0>>=_) _ _ s;refine Aa (B1 ho hd (x:=.ref t) rfl ?_);show Az _ _ (if (Bw t==Bf)=true then _ else _) _ _ s;rw[if_neg (show ¬((Bw t==Bf)=true)from An)];show Az _ _ (field (.ref it) 1>>=_) _ _ s;refine Aa (B1 ho hd (x:=.int i 0) rfl ?_);show Az _ _ (seqItems? (.ref t)>>=_) _ _ s;refine Aa (Ca hol hdl ?_);simp only[Bz,hx];refine Aa (Dg ho hd (by simp) (Ai ⟨x,rfl,Ai (hQ _ ?_ (Be ..))⟩));exact⟨_,Bq _ ho (Dh (B7 hd _)),(Es ..).trans hc,by
  rw[B7 hd];simp[Cr]⟩
theorem jcv {it t:Addr} {i:Nat} {items:Array Ah} {Q:Ah->Ak->Prop} (hh:A.handled=none) (hit:s.heap.IsTupleIter it t i) (ht:s.heap.IsTuple t items) (hx:items[i]?=none)
  (hE:∀h' e,Heap.ExtBut it s.heap h'->(∃o,h'.get? e=some o/\o.cls=.type "StopIteration")->E (.ref e) {s with heap:=h'}) :
  Az (Ba prog w) A (Bs (.ref it)) Q E s:=by
 obtain⟨o,ho,hc,hd⟩:=id hit;obtain⟨ol,hol,_,nl,hdl⟩:=ht;unfold Bs;refine Aa (Bh (name:=Cg "__next__") hit.typeIs Fc
  (Bv Fc hit.typeIs F.entry_tuple_iterator_next ?_ (F.args_tuple_iterator_next_1 _)))
 show Az _ _ (field (.ref it) 0>>=_) _ _ s;refine Aa (B1 ho hd (x:=.ref t) rfl ?_);show Az _ _ (if (Bw t==Bf)=true then _ else _) _ _ s;rw[if_neg (show ¬((Bw t==Bf)=true)from An)];show Az _ _ (field (.ref it) 1>>=_) _ _ s;refine Aa (B1 ho hd (x:=.int i 0) rfl ?_);show Az _ _ (seqItems? (.ref t)>>=_) _ _ s;refine Aa (Ca hol hdl ?_);simp only[Bz,hx];refine Aa (F0 (Aa (Dg ho hd (by simp) ?_)));show Az _ _ (newExc (.type "StopIteration") []>>=_) _ _ _;refine Aa ?_;simp only[newExc,newTuple];refine Aa (Bg ?_ (by size_fits));refine Aa (m:=Ek _ _) (wpAny_of_eq (a:=Bf) (by first | rfl | (simp only[Ek];rfl)) ?_);refine Bg ?_ (by size_fits);simp only[raiseNew];refine Aa (wpAny_handled ?_)
 first | rw[show A.in1.handled=none from hh] | rw[hh]
 refine Aa (Ai (wpAny_throw ?_));exact hE _ _ (((Be ..).extBut.push _).push _) ⟨_,As _ rfl,rfl⟩
theorem jqe {z TI TO i1 i2 l1 l2:Addr} {k:Nat} {xs ys:Array Ah} {x y a b:Ah} {Q:Ah->Ak->Prop} (D:Ga z TI TO i1 i2 l1 l2)
  (hz:Ed s.heap z TI TO .none) (hTI:Ck s.heap TI (.ref i1) (.ref i2)) (hTO:Ck s.heap TO a b)
  (h1:s.heap.IsTupleIter i1 l1 k) (h2:s.heap.IsTupleIter i2 l2 k) (hl1:s.heap.IsTuple l1 xs) (hl2:s.heap.IsTuple l2 ys) (hx:xs[k]?=some x) (hy:ys[k]?=some y)
  (hQ:∀h',Ed h' z TI TO (Cr s.heap.objs.size)->Ck h' TO x y->h'.IsTupleIter i1 l1 (k+1)->h'.IsTupleIter i2 l2 (k+1)->Ck h' s.heap.objs.size x y->h'.objs.size=s.heap.objs.size+1 ->
   (∀c o,c≠z->c≠TO->c≠i1->c≠i2->s.heap.get? c=some o->h'.get? c=some o)->Q (.ref s.heap.objs.size) {s with heap:=h'}) :
  Az (Ba prog w) A (D4.«zip.__next__» ⟨[.ref z],[]⟩) (λfin s'=>∃v,fin=.done (.ret v)/\Q v s') E s:=by
 show Az _ _ (field (.ref z) 2>>=_) _ _ _;refine Aa (B1 hz rfl (x:=.bool false) rfl ?_);show Az _ _ (field (.ref z) 3>>=_) _ _ _;refine Aa (B1 hz rfl (x:=.ref TI) rfl ?_);refine Aa (Ca hTI rfl ?_);show Az _ _ (Br (.ref z)>>=_) _ _ _;refine Aa ?_;unfold Br;refine Aa (B1 hz rfl (x:=.none) rfl (Ai ?_));simp only[if_true];refine Aa (F0 ?_);refine Aa (B1 hz rfl (x:=.ref TO) rfl ?_);refine Aa (Cy hz (by simp) λg1 hz1 s1=>?_)
 replace hz1:Ed g1 z TI TO .ellipsis:=hz1
 refine Aa ?_;simp only[List.zipIdx_cons,List.zipIdx_nil,List.forIn_cons,List.forIn_nil];refine Aa (Aa (Fw ?_));show Az _ _ (Bs (.ref i1)>>=_) _ _ _;refine Aa (jbd (h1.extBut s1.extBut D.i1z) (hl1.extBut s1.extBut D.l1z) hx λg2 t2 s2=>Ai ?_);have p2:Ck g2 TO a b:=s2.extBut _ _ D.TOi1 (s1.extBut _ _ D.TOz hTO);refine Aa (Ca p2 rfl ?_);refine Aa (Fg p2 λg3 p3 s3=>?_)
 replace p3:Ck g3 TO x b:=p3
 refine Aa (wpAny_letGo (Ai ?_));refine Aa (Aa (Fw ?_));show Az _ _ (Bs (.ref i2)>>=_) _ _ _;refine Aa (jbd (((h2.extBut s1.extBut D.i2z).extBut s2.extBut D.i12.symm).extBut s3.extBut D.TOi2.symm)
  (((hl2.extBut s1.extBut D.l2z).extBut s2.extBut D.l2i1).extBut s3.extBut D.l2TO) hy λg4 t4 s4=>Ai ?_)
 have p4:Ck g4 TO x b:=s4.extBut _ _ D.TOi2 p3;refine Aa (Ca p4 rfl ?_);refine Aa (Fg p4 λg5 p5 s5=>?_)
 replace p5:Ck g5 TO x y:=p5
 refine Aa (wpAny_letGo (Ai (Ai ?_)));refine Aa (Ca p5 rfl ?_);refine Aa (wpAny_newTuple ?_);have sz:g5.objs.size=s.heap.objs.size:=by rw[s5.1,s4.1,s3.1,s2.1,s1.1]
 have z5:Ed g5 z TI TO .ellipsis:=s5.extBut _ _ D.TOz.symm (s4.extBut _ _ D.i2z.symm (s3.extBut _ _ D.TOz.symm (s2.extBut _ _ D.i1z.symm hz1)));have k5:∀c o,c≠z->c≠TO->c≠i1->c≠i2->s.heap.get? c=some o->g5.get? c=some o:=λc o c1 c2 c3 c4 e =>
  s5.extBut _ _ c2 (s4.extBut _ _ c4 (s3.extBut _ _ c2 (s2.extBut _ _ c3 (s1.extBut _ _ c1 e))))
 have u1:g5.IsTupleIter i1 l1 (k+1):=((t2.extBut s3.extBut D.TOi1.symm).extBut s4.extBut D.i12).extBut s5.extBut D.TOi1.symm;have u2:g5.IsTupleIter i2 l2 (k+1):=t4.extBut s5.extBut D.TOi2.symm;have zlt:z < g5.objs.size:=Ao z5;show Az _ _ (Df (.ref z) (.ref g5.objs.size)>>=_) _ _ _;refine Aa ?_;unfold Df;have z6:Ed (g5.push {cls:=.type "tuple",data:=.seq #[x,y]}) z TI TO .ellipsis:=Ad _ z5;refine Aa (Cy z6 (by simp) λg7 z7 s7=>?_)
 replace z7:Ed g7 z TI TO (Cr g5.objs.size):=z7
 refine Cy z7 (by simp) λg8 z8 s8=>?_
 replace z8:Ed g8 z TI TO (Cr g5.objs.size):=z8
 have up:∀c o,c≠z->g5.get? c=some o->g8.get? c=some o:=λc o c1 e=>s8.extBut _ _ c1 (s7.extBut _ _ c1 (Ad _ e));have T8:Ck g8 g5.objs.size x y:=s8.extBut _ _ (D5 zlt) (s7.extBut _ _ (D5 zlt) (As _ rfl));have e8:g8.objs.size=g5.objs.size+1:=by rw[s8.1,s7.1,Bx]
 rw[sz]at z8 T8 e8;refine Ai ⟨_,rfl,?_⟩;show Q (.ref g5.objs.size) _;rw[sz];exact hQ g8 z8 (up _ _ D.TOz p5) (u1.at λo e=>up _ o D.i1z e) (u2.at λo e=>up _ o D.i2z e) T8 e8 λc o c1 c2 c3 c4 e=>up c o c1 (k5 c o c1 c2 c3 c4 e)
theorem jto {z TI TO i1 i2 l1 l2:Addr} {k:Nat} {xs:Array Ah} {Q:Fin->Ak->Prop} (hh:A.handled=none) (D:Ga z TI TO i1 i2 l1 l2)
  (hz:Ed s.heap z TI TO .none) (hTI:Ck s.heap TI (.ref i1) (.ref i2)) (h1:s.heap.IsTupleIter i1 l1 k) (hl1:s.heap.IsTuple l1 xs) (hx:xs[k]?=none)
  (hE:∀h' e,(∀c o,c≠z->c≠i1->s.heap.get? c=some o->h'.get? c=some o)->(∃o,h'.get? e=some o/\o.cls=.type "StopIteration")->E (.ref e) {s with heap:=h'}) :
  Az (Ba prog w) A (D4.«zip.__next__» ⟨[.ref z],[]⟩) Q E s:=by
 show Az _ _ (field (.ref z) 2>>=_) _ _ _;refine Aa (B1 hz rfl (x:=.bool false) rfl ?_);show Az _ _ (field (.ref z) 3>>=_) _ _ _;refine Aa (B1 hz rfl (x:=.ref TI) rfl ?_);refine Aa (Ca hTI rfl ?_);show Az _ _ (Br (.ref z)>>=_) _ _ _;refine Aa ?_;unfold Br;refine Aa (B1 hz rfl (x:=.none) rfl (Ai ?_));simp only[if_true];refine Aa (F0 ?_);refine Aa (B1 hz rfl (x:=.ref TO) rfl ?_);refine Aa (Cy hz (by simp) λg1 hz1 s1=>?_)
 replace hz1:Ed g1 z TI TO .ellipsis:=hz1
 refine Aa ?_;simp only[List.zipIdx_cons,List.zipIdx_nil,List.forIn_cons,List.forIn_nil];refine Aa (Aa (Fw ?_));show Az _ _ (Bs (.ref i1)>>=_) _ _ _;refine Aa (jcv hh (h1.extBut s1.extBut D.i1z) (hl1.extBut s1.extBut D.l1z) hx λg2 e s2 he=>?_);obtain⟨oe,hoe,hce⟩:=he;have z2:Ed g2 z TI TO .ellipsis:=s2 _ _ D.i1z.symm hz1;have hez:e≠z:=λx=>by subst x;rw[z2]at hoe;cases hoe;simp at hce
 refine Cy z2 (by simp) λg3 _ s3=>hE g3 e (λc o c1 c3 x=>s3.extBut _ _ c1 (s2 _ _ c3 (s1.extBut _ _ c1 x))) ⟨oe,s3.extBut _ _ hez hoe,hce⟩
theorem jd3 {z TI TO i1 i2 l1 l2:Addr} {k:Nat} {xs ys:Array Ah} {x y a b:Ah} {Q:Option Ah->Ak->Prop} (D:Ga z TI TO i1 i2 l1 l2)
  (hz:Ed s.heap z TI TO .none) (hTI:Ck s.heap TI (.ref i1) (.ref i2)) (hTO:Ck s.heap TO a b)
  (h1:s.heap.IsTupleIter i1 l1 k) (h2:s.heap.IsTupleIter i2 l2 k) (hl1:s.heap.IsTuple l1 xs) (hl2:s.heap.IsTuple l2 ys) (hx:xs[k]?=some x) (hy:ys[k]?=some y)
  (hQ:∀h',Ed h' z TI TO (Cr s.heap.objs.size)->Ck h' TO x y->h'.IsTupleIter i1 l1 (k+1)->h'.IsTupleIter i2 l2 (k+1)->Ck h' s.heap.objs.size x y->h'.objs.size=s.heap.objs.size+1 ->
   (∀c o,c≠z->c≠TO->c≠i1->c≠i2->s.heap.get? c=some o->h'.get? c=some o)->Q (some (.ref s.heap.objs.size)) {s with heap:=h'}) :
  Az (Ba prog w) A (D2 (.ref z)) Q E s:=by
 have hT:s.TypeIs (.ref z) "zip":=⟨_,hz,rfl⟩;unfold D2;exact Aa (D0 (Bh (name:=Cg "__next__") hT D8
  (Bv D8 hT F.entry_zip_next
   (jqe D hz hTI hTO h1 h2 hl1 hl2 hx hy λh' a1 a2 a3 a4 a5 a6 a7=>Ai (hQ h' a1 a2 a3 a4 a5 a6 a7)) (F.args_zip_next_1 _))))
theorem jck {z TI TO i1 i2 l1 l2:Addr} {k:Nat} {xs:Array Ah} {Q:Option Ah->Ak->Prop} (hh:A.handled=none) (D:Ga z TI TO i1 i2 l1 l2)
  (hz:Ed s.heap z TI TO .none) (hTI:Ck s.heap TI (.ref i1) (.ref i2)) (h1:s.heap.IsTupleIter i1 l1 k) (hl1:s.heap.IsTuple l1 xs) (hx:xs[k]?=none)
  (hQ:∀h',(∀c o,c≠z->c≠i1->s.heap.get? c=some o->h'.get? c=some o)->Q none {s with heap:=h'}):Az (Ba prog w) A (D2 (.ref z)) Q E s:=by
 have hT:s.TypeIs (.ref z) "zip":=⟨_,hz,rfl⟩;unfold D2;refine Aa (D0 (Bh (name:=Cg "__next__") hT D8
  (Bv D8 hT F.entry_zip_next (jto hh D hz hTI h1 hl1 hx λh' e hk he=>?_) (F.args_zip_next_1 _))))
 obtain⟨o,ho,hc⟩:=he;refine Aa (Fo (T:="StopIteration") (b:=true) ⟨o,ho,hc⟩ isSubtype_stop ?_);exact Ai (hQ _ hk)
end
abbrev zt1 (h:Heap) (l1:Addr):Heap:=h.push {cls:=.type "tuple_iterator",data:=.fields #[.ref l1,.int 0 0]}
abbrev zt2 (h:Heap) (l1 l2:Addr):Heap:=(zt1 h l1).push {cls:=.type "tuple_iterator",data:=.fields #[.ref l2,.int 0 0]}
abbrev zt3 (h:Heap) (l1 l2:Addr):Heap:=(zt2 h l1 l2).push {cls:=.type "tuple",data:=.seq #[.ref h.objs.size,.ref (zt1 h l1).objs.size]}
abbrev zt4 (h:Heap) (l1 l2:Addr):Heap:=(zt3 h l1 l2).push {cls:=.type "tuple",data:=.seq #[.none,.none]}
abbrev zt5 (h:Heap) (l1 l2:Addr):Heap:=(zt4 h l1 l2).push {cls:=.type "zip",data:=.fields #[.none,.bool false,.bool false,.ref (zt2 h l1 l2).objs.size,.ref (zt3 h l1 l2).objs.size]}
theorem jiu (l1 l2:Addr) (xs ys:Array Ah) :
  Meets (D4.«zip.__new__» ⟨[.type "zip",.ref l1,.ref l2],[]⟩) (λ_ R s=>s.heap.IsTuple l1 xs/\s.heap.IsTuple l2 ys /\
   R (.ok (.ret (.ref (zt4 s.heap l1 l2).objs.size))) {s with heap:=zt5 s.heap l1 l2}) :=
 .of_wp λprog w A R s h=>by
  obtain⟨hp,g,d,tk,os⟩:=s;obtain⟨hl1,hl2,h⟩:=h;have hsub:=sub_zip;have hL1:Heap.IsTuple (Shared.heap ⟨hp,g,d,tk,os⟩) l1 xs:=hl1;have hL2:Heap.IsTuple (Shared.heap ⟨hp.push {cls:=.type "tuple_iterator",data:=.fields #[.ref l1,.int 0 0]},g,d,tk,os⟩) l2 ys:=Heap.IsTuple.push hl2 _
  wp_walk using F1 hL1,F1 hL2
  exact⟨_,rfl,h⟩
section
variable {prog:Bm} {w:B3} {A:B8} {E:Ah->Ak->Prop} {s:Ak}
theorem jmj {l1 l2:Addr} {xs ys:Array Ah} {Q:Ah->Ak->Prop} (hl1:s.heap.IsTuple l1 xs) (hl2:s.heap.IsTuple l2 ys)
  (h:∀h',Ed h' (s.heap.objs.size+4) (s.heap.objs.size+2) (s.heap.objs.size+3) .none->Ck h' (s.heap.objs.size+2) (.ref s.heap.objs.size) (.ref (s.heap.objs.size+1)) ->
   Ck h' (s.heap.objs.size+3) .none .none->h'.IsTupleIter s.heap.objs.size l1 0->h'.IsTupleIter (s.heap.objs.size+1) l2 0 ->
   (∀c o,s.heap.get? c=some o->h'.get? c=some o)->Q (.ref (s.heap.objs.size+4)) {s with heap:=h'}) :
  Az (Ba prog w) A (call (.type "zip") [.ref l1,.ref l2]) Q E s:=by
 refine callType_new F.called_zip (by decide) (F.typeCall_zip_2 _ _) (F.newCall_zip_2 _ _) (λobj=>F.args_object_init_3 obj _ _) F.entry_zip_new
  (jiu l1 l2 xs ys) ⟨hl1,hl2,?_⟩
 have z1:(zt1 s.heap l1).objs.size=s.heap.objs.size+1:=Bx ..;have z2:(zt2 s.heap l1 l2).objs.size=s.heap.objs.size+2:=by rw[Bx,z1]
 have z3:(zt3 s.heap l1 l2).objs.size=s.heap.objs.size+3:=by rw[Bx,z2]
 have z4:(zt4 s.heap l1 l2).objs.size=s.heap.objs.size+4:=by rw[Bx,z3]
 have g5:(zt5 s.heap l1 l2).get? (zt4 s.heap l1 l2).objs.size=some _:=As _ rfl;have g4:(zt5 s.heap l1 l2).get? (zt3 s.heap l1 l2).objs.size=some _:=Ad _ (As _ rfl);have g3:(zt5 s.heap l1 l2).get? (zt2 s.heap l1 l2).objs.size=some _:=Ad _ (Ad _ (As _ rfl));have g2:(zt5 s.heap l1 l2).get? (zt1 s.heap l1).objs.size=some _:=Ad _ (Ad _ (Ad _ (As _ rfl)));have g1:(zt5 s.heap l1 l2).get? s.heap.objs.size=some _:=Ad _ (Ad _ (Ad _ (Ad _ (As _ rfl))));show _/\_;rw[z2,z3,z4]at g5;rw[z1,z2]at g3;rw[z3]at g4;rw[z1]at g2;rw[z4];exact⟨⟨_,g5,rfl⟩,h _ g5 g3 g4 ⟨_,g1,rfl,rfl⟩ ⟨_,g2,rfl,rfl⟩ λc o x =>
  Ad _ (Ad _ (Ad _ (Ad _ (Ad _ x))))⟩
end
def Itz (K:Aj) (a b:Addr):It :=
 ⟨λi H=>∃xs ys x y,SqT K H a xs/\SqT K H b ys/\xs[i]?=some x/\ys[i]?=some y,
  λi H v H'=>∃T x y,v=.ref T/\H T=none/\H'=upd H T (.tup [x,y])/\(∀xs,SqT K H a xs->xs[i]?=some x)/\∀ys,SqT K H b ys->ys[i]?=some y,
  λi H=>∃xs,SqT K H a xs/\xs.length<=i⟩
theorem Inv.many {X:Cx} {pins:List (Addr×Obj)} {σ:St} {H:Hp} {s:Ak} {h':Heap} {t':Nat} {fp:List Addr} {a:Addr} {o:HO} (I:Inv X pins σ H s) (hf:∀b∈fp,FpOk X pins H b) (k:∀b u,b∉fp->s.heap.get? b=some u->h'.get? b=some u)
  (ha:s.heap.objs.size<=a) (new:ObjOk X.prog X.w (upd H a o) h' a o):Inv X pins σ (upd H a o) {s with heap:=h',toks:=t'}:=by
 have hn:H a=none:=I.hok.fresh ha;have nf:∀b u,H b=some u->b∉fp:=λb u e z=>by rw[(hf b z).1]at e;cases e
 refine I.call' (s':={ s with heap:=h',toks:=t'}) (ch:=fp) rfl ⟨λb u q _ _ z=>k b u z q,λb u q _ _ z=>⟨u.slots,k b u z q⟩,λb u q n _=>?_,λb u q z=>⟨u,k b u z q⟩,λb xs q=>?_,λb u xs q=>?_,λb ps q=>⟨#[],?_⟩⟩ (λb u e=>?_) I.bare (λb hb=>?_)
 ·rw[jag (Bc (Bn (Ao q) ha))];exact n
 ·rw[jag (jaf q hn)];exact q
 ·rw[jag (jaf q hn)];exact q
 ·rw[jag (jaf q hn),q];simp
 ·by_cases z:b=a
  ·subst z;rw[jaj]at e;cases e;exact new
  ·rw[jag z]at e;refine(I.hok b u e).stay (λc v hc q=>k c v ?_ q) (λc q=>?_) λc ys q=>?_
   ·rcases hc with z | z
    ·rw[z];exact nf b u e
    ·exact nf c _ z
   ·rw[jag (jaf q hn)];exact q
   ·rw[jag (jaf q hn)];exact q
 ·obtain⟨f0,f1,f2,f3,f4,f5⟩:=hf b hb;exact⟨f3,f1,f4,f5⟩
theorem Inv.many0 {X:Cx} {pins:List (Addr×Obj)} {σ:St} {H:Hp} {s:Ak} {h':Heap} {t':Nat} {fp:List Addr} (I:Inv X pins σ H s) (hf:∀b∈fp,FpOk X pins H b) (k:∀b u,b∉fp->s.heap.get? b=some u->h'.get? b=some u):Inv X pins σ H {s with heap:=h',toks:=t'}:=by
 have nf:∀b u,H b=some u->b∉fp:=λb u e z=>by rw[(hf b z).1]at e;cases e
 refine I.call' (s':={ s with heap:=h',toks:=t'}) (ch:=fp) rfl ⟨λb u q _ _ z=>k b u z q,λb u q _ _ z=>⟨u.slots,k b u z q⟩,λb u q n _=>n,λb u q z=>⟨u,k b u z q⟩,λb xs q=>q,λb u xs q=>q,λb ps q=>⟨#[],by rw[q];simp⟩⟩ (λb u e=>?_) I.bare (λb hb=>?_)
 ·refine(I.hok b u e).stay (λc v hc q=>k c v ?_ q) (λc q=>q) λc ys q=>q;rcases hc with z | z
  ·rw[z];exact nf b u e
  ·exact nf c _ z
 ·obtain⟨f0,f1,f2,f3,f4,f5⟩:=hf b hb;exact⟨f3,f1,f4,f5⟩
theorem jtt {P:Bm} {w:B3} {K:Aj} {elts:List Expr} {kk:Nat} {pos:Pos} {a b z TI TO i1 i2:Addr} (D:Ga z TI TO i1 i2 a b):Turn P w K (.Tuple elts kk pos) (Itz K a b) [z,TI,TO,i1,i2] z
  (λi h=>Ed h z TI TO .none/\Ck h TI (.ref i1) (.ref i2)/\(∃x y,Ck h TO x y)/\h.IsTupleIter i1 a i/\h.IsTupleIter i2 b i) where
 mem:=by simp
 obj:=λi h st c hc=>by
  obtain⟨hz,hI,⟨x,y,hO⟩,⟨o1,e1,c1,d1⟩,⟨o2,e2,c2,d2⟩⟩:=st;simp only[Am,Ar,or_false]at hc;rcases hc with rfl | rfl | rfl | rfl | rfl
  ·exact⟨_,hz,λv q=>by have q':Data.fields _=Fv v:=q;cases q'⟩
  ·exact⟨_,hI,λv q=>by have q':Data.seq _ _=Fv v:=q;cases q'⟩
  ·exact⟨_,hO,λv q=>by have q':Data.seq _ _=Fv v:=q;cases q'⟩
  ·exact⟨o1,e1,λv q=>by rw[d1]at q;cases q⟩
  ·exact⟨o2,e2,λv q=>by rw[d2]at q;cases q⟩
 keep:=λi h h' st k=>by
  obtain⟨hz,hI,⟨x,y,hO⟩,h1,h2⟩:=st;exact⟨k z (by simp) _ hz,k TI (by simp) _ hI,⟨x,y,k TO (by simp) _ hO⟩,h1.at λo e=>k i1 (by simp) o e,h2.at λo e=>k i2 (by simp) o e⟩
 item:=by
  intro X hP hw hK hc i pins s σ H E I hf st hg;subst hP hw hK;obtain⟨hz,hI,⟨x0,y0,hO⟩,h1,h2⟩:=st;obtain⟨xs,ys,x,y,qa,qb,ex,ey⟩:=hg;obtain⟨its,rv,p,_⟩:=I.tuple qa;obtain⟨jts,rw',p',_⟩:=I.tuple qb;obtain⟨u,hu,ru⟩:=rv.get ex;obtain⟨u',hu',ru'⟩:=rw'.get ey;refine jd3 D hz hI hO h1 h2 (show s.heap.IsTuple a its.toArray from p) (show s.heap.IsTuple b jts.toArray from p') (x:=u) (y:=u') (by simpa using hu) (by simpa using hu') λh' a1 a2 a3 a4 a5 a6 a7=>⟨_,rfl,?_⟩;refine Gv (s:={ s with heap:=h'}) a1 λh'' b1 b2=>?_;have T:h''.get? s.heap.objs.size=some {cls:=.type "tuple",data:=.seq #[u,u']}:=b2.extBut _ _ (D5 (Ao hz)) a5;have Tn:H s.heap.objs.size=none:=I.hok.fresh (Al _);have kp:∀c o,c∉[z,TI,TO,i1,i2]->s.heap.get? c=some o->h''.get? c=some o:=λc o hc e=>by
   simp only[Am,Ar,or_false,not_or]at hc;exact b2.extBut _ _ hc.1 (a7 c o hc.1 hc.2.2.1 hc.2.2.2.1 hc.2.2.2.2 e)
  refine⟨.ref s.heap.objs.size,upd H s.heap.objs.size (.tup [x,y]),I.many (t':=s.toks) hf kp (Al _) ⟨by show 2<=Ay;decide,[u,u'],.cons ru (.cons ru' .nil),_,T,rfl,⟨_,rfl⟩,rfl⟩,rfl,⟨_,x,y,rfl,Tn,rfl,λzs q=>by rw[I.tuple_inj q qa];exact ex,λzs q=>by rw[I.tuple_inj q qb];exact ey⟩,
   ⟨b1,b2.extBut _ _ D.TIz (a7 _ _ D.TIz D.TITO D.TIi1 D.TIi2 hI),⟨_,_,b2.extBut _ _ D.TOz a2⟩,a3.extBut b2.extBut D.i1z,a4.extBut b2.extBut D.i2z⟩,λc hc=>?_⟩
  have hlt:c < s.heap.objs.size:=by
   simp only[Am,Ar,or_false]at hc;rcases hc with rfl | rfl | rfl | rfl | rfl
   ·exact Ao hz
   ·exact Ao hI
   ·exact Ao hO
   ·obtain⟨_,e,_⟩:=h1;exact Ao e
   ·obtain⟨_,e,_⟩:=h2;exact Ao e
  rw[jag (Bc hlt)];exact(hf c hc).1
 done:=by
  intro X hP hw hK hc i pins s σ H E I hf st hg;subst hP hw hK;obtain⟨hz,hI,_,h1,h2⟩:=st;obtain⟨xs,hq,hx⟩:=hg;obtain⟨its,rv,p,_⟩:=I.tuple hq;have hl:=rv.length;refine jck (I.ok.hd hc) D hz hI h1 (show s.heap.IsTuple a its.toArray from p) (by simp;omega) λh' k=>⟨rfl,I.many0 (t':=s.toks) hf λc o hc e=>?_⟩;simp only[Am,Ar,or_false,not_or]at hc;exact k c o hc.1 hc.2.2.2.1 e
 self:=λ_ _ _ _ _ st h=>Fn st.1 h
def iZip (K:Aj) (ta:TA):TI:=λσ H R=>ta σ H λvs H1=>∃a b,vs=[.ref a,.ref b]/\(∃xs,SqT K H1 a xs)/\(∃ys,SqT K H1 b ys)/\R (Itz K a b) H1
theorem jtd:By "zip"=some (.type "zip"):=by decide +kernel
theorem j0o {X:Cx} {elts:List Expr} {kk:Nat} {tpos:Pos} {e1 e2:Expr} {ta:TA} {p pos:Pos} (hg:Gl X "zip") (hm:X.mg "zip"=none) (ha:PA X [e1,e2] ta) (hs:Ax [e1,e2] X.env=[(false,eval e1 X.env),(false,eval e2 X.env)]:=by rfl) (hs2:Ax [e2] X.env=[(false,eval e2 X.env)]:=by rfl) :
  PI X (.Tuple elts kk tpos) (.Call (.Name "zip" p) [e1,e2] [] pos) (iZip X.K ta):=by
 intro pins s σ H R I h;refine Call_ (jhk I hg hm jtd (Dj (thn (ha pos pins s σ H _ I h) λus s1 ⟨vs,H1,I1,r1,q1⟩=>?_) (by rw[hs,hs2]) (by rw[hs2];rfl)));obtain⟨a,b,e,⟨xs,qa⟩,⟨ys,qb⟩,q⟩:=q1;subst e;cases r1 with
 |cons r rr =>
  cases rr with
  |cons r' rr =>
   cases rr;cases r;cases r';obtain⟨its,rv,pp,_⟩:=I1.tuple qa;obtain⟨jts,rw',pp',_⟩:=I1.tuple qb;have la:a < s1.heap.objs.size:=by obtain⟨_,e,_⟩:=id pp;exact Ao e
   have lb:b < s1.heap.objs.size:=by obtain⟨_,e,_⟩:=id pp';exact Ao e
   refine jmj (show s1.heap.IsTuple a its.toArray from pp) (show s1.heap.IsTuple b jts.toArray from pp') λh' a1 a2 a3 a4 a5 a6=>Fn (s:={ s1 with heap:=h'}) a1 ?_;refine⟨_,_,_,_,H1,rfl,I1.kept (t':=s1.toks) a6,jtt (zipApart_new la lb),⟨a1,a2,⟨_,_,a3⟩,a4,a5⟩,λc hc=>?_,q⟩;have hlt:s1.heap.objs.size<=c:=by
    simp only[Am,Ar,or_false]at hc;rcases hc with rfl | rfl | rfl | rfl | rfl<;>omega
   exact I1.fpOk hlt (I1.hok.fresh hlt)
end L2
namespace DL
open PySem L2 Nb
def valD (kvs:List (Key×Ab)) (k:Key):Option Ab:=(kvs.find? λkv=>decide (kv.1=k)).map (·.2)
section
variable {X:Cx} {a b c e o i f:Expr} {ta tb te td ty tx:TE} {wa wb we wd' wy wx:DT} {pos p:Pos} {K:Aj}
def jzh (wd wy wx:DT):DT:=λδ n Q=>wd δ n λx n1=>match x with
 |.dk kvs=>wy δ n1 λy n2=>wx δ n2 λz n3=>match y,z with
  |.d (.str k),.d z=>Q (.d ((valD kvs (.inr k)).getD z)) n3
  |_,_=>False
 |_=>False
end
section
variable {X:Cx} {a b c e o i f:Expr} {ta tb te td ty tx:TE} {wa wb we wd' wy wx:DT} {pos p:Pos} {K:Aj}
theorem jnl {H:Hp} {B:Addr->Prop}:∀{ys:List Str},(∀y∈ys,y.length<=1000)->RdXs H B (ys.map V.str) (ys.map .str)
 |[],_=>.nil
 |y::r,h=>.cons (.str _ (jdv (h y Au))) (jnl λz hz=>h z (Aw _ hz))
def gInt:List Wv->Int->DQ->Prop:=λxs n Q=>match xs with
 |[.d (.int i)]=>Q (.d (.int i)) n
 |[.d (.bool b)]=>Q (.d (.int (if b then 1 else 0))) n
 |_=>False
def zipD (xs ys:List Ab):List Ab:=List.zipWith (λx y=>.tuple [x,y]) xs ys
def ji2 (w w':DT):DTI:=λδ n Q=>w δ n λx n1=>w' δ n1 λy n2=>match x,y with
 |.d (.tuple xs),.d (.tuple ys)=>xs.length=ys.length/\Q (zipD xs ys) n2
 |_,_=>False
theorem j3q {elts:List Expr} {kk:Nat} {tpos:Pos} (hg:Gl X "zip") (hm:X.mg "zip"=none) (ha:DE X a ta wa) (hb:DE X b tb wb) (hK:X.K=K:=by rfl) (hs:Ax [a,b] X.env=[(false,eval a X.env),(false,eval b X.env)]:=by rfl) (hs2:Ax [b] X.env=[(false,eval b X.env)]:=by rfl)
  (he1:Ax [a,b] X.env=(false,eval a X.env)::Ax [b] X.env:=by rfl) (he2:Ax [b] X.env=(false,eval b X.env)::Ax [] X.env:=by rfl) :
  DI X (.Tuple elts kk tpos) (.Call (.Name "zip" p) [a,b] [] pos) (iZip K (jb2 ta (jb2 tb tNil))) (ji2 wa wb):=by
 subst hK;refine⟨j0o hg hm (jas ha.pe (jas hb.pe jbm he2) he1) hs hs2,λC H B σ δ n Q Q' R q k=>ha.sd C H B σ δ n _ _ R q λv x H1 n1 R1 k1 r1 q1=>hb.sd C H1 B σ δ n1 _ _ R1 q1 λu y H2 n2 R2 k2 r2 q2=>?_⟩;have r1':=r1.kp k2 R1.bt
 split at q2
 ·rename_i xs ys;cases(show RdX H2 B v (.tuple xs)from r1')with
  |@tup aa vs _ e1 e2 e3 e4 =>
   cases(show RdX H2 B u (.tuple ys)from r2)with
   |@tup ab ws _ f1 f2 f3 f4 =>
    refine⟨aa,ab,rfl,⟨vs,SqT.of e1⟩,⟨ws,SqT.of f1⟩,k _ (zipD xs ys) H2 n2 R2 (k1.trans k2) (λfz th=>?_) q2.2⟩;have za:fz aa=some (.tup vs):=th.2 _ _ e1 e2;have zb:fz ab=some (.tup ws):=th.2 _ _ f1 f2;have lz:(zipD xs ys).length=xs.length:=by unfold zipD;rw[List.length_zipWith,q2.1,Nat.min_self]
    refine⟨by rw[lz,<-e4.len];exact e3,λi H hH hi=>?_,λH hH=>?_,λi H x H' d hH hd hy=>?_⟩
    ·rw[lz]at hi;have h1:i < vs.length:=by rw[e4.len];exact hi
     have h2:i < ws.length:=by rw[f4.len,<-q2.1];exact hi
     exact⟨vs,ws,vs[i],ws[i],SqT.of (hH _ _ za),SqT.of (hH _ _ zb),Ag h1,Ag h2⟩
    ·exact⟨vs,SqT.of (hH _ _ za),by rw[lz,e4.len];exact Al _⟩
    ·obtain⟨T,x1,y1,rfl,hT,rfl,hx,hy⟩:=hy;refine⟨λb o e=>by rw[jag (jaf e hT)];exact e,λB' hB hBa=>?_⟩;have hi:i < xs.length:=by rw[<-lz];exact(A6.mp hd).1
     have hi2:i < ys.length:=by rw[<-q2.1];exact hi
     have ed:d=.tuple [xs[i],ys[i]]:=by
      unfold zipD at hd;rw[List.getElem?_zipWith,Ag hi,Ag hi2]at hd;exact(Bj hd).symm
     subst ed;obtain⟨u1,hu1,ru1⟩:=e4.getD (Ag hi);obtain⟨u2,hu2,ru2⟩:=f4.getD (Ag hi2);have t1:=hx _ (SqT.of (hH _ _ za));have t2:=hy _ (SqT.of (hH _ _ zb));rw[hu1]at t1;rw[hu2]at t2;cases t1;cases t2;have mv:∀b o,H2 b=some o->¬B b->upd H T (.tup [x1,y1]) b=some o/\¬B' b:=λb o e ne=>by
      have:=hH _ _ (th.2 _ _ e ne);exact⟨by rw[jag (jaf this hT)];exact this,hB _ _ (th.2 _ _ e ne)⟩
     exact .tup jaj (λz=>hBa T z hT) (by show 2<=Ay;decide) (.cons (ru1.move mv) (.cons (ru2.move mv) .nil))
 ·exact q2.elim
end
end DL
namespace L2
open PySem PySem.Spec PyProof.Rows PySem.SeqAt
end L2
namespace DL
open PySem L2 Nb
section
variable {X:Cx} {K:Aj}
def rXX (K:Aj) (f:Ab->Ab->Option Bool):R2:=λx y H Q=>∃d e b,RdD K H x d/\RdD K H y e/\d.canLay0=true/\e.canLay0=true/\d.depth<=20/\e.depth<=20/\f d e=some b/\Q (.bl b) H
theorem j02 (hu:X.A.units+64 < cLine) (hK:X.K=K:=by rfl):OpR X (Bk .Eq) (rXX K λd e=>some (Cn d e)):=by
 subst hK;intro pins s σ H x y v u Q I rx ry h;obtain⟨d,e,b,h1,h2,h3,h4,h5,h6,h7,q⟩:=h;cases h7;obtain⟨as,r1⟩:=RdD.reads I h1 rx;obtain⟨bs,r2⟩:=RdD.reads I h2 ry;exact SeqAt.compareEq_reads r1 r2 h3 h4 (by omega) ⟨.bl _,H,I,rfl,q⟩
theorem j01 (hu:X.A.units+64 < cLine) (hK:X.K=K:=by rfl):OpR X (Bk .NotEq) (rXX K λd e=>some (!Cn d e)):=by
 subst hK;intro pins s σ H x y v u Q I rx ry h;obtain⟨d,e,b,h1,h2,h3,h4,h5,h6,h7,q⟩:=h;cases h7;obtain⟨as,r1⟩:=RdD.reads I h1 rx;obtain⟨bs,r2⟩:=RdD.reads I h2 ry;exact SeqAt.compareNe_reads r1 r2 h3 h4 (by omega) ⟨.bl _,H,I,rfl,q⟩
def gXX (f:Ab->Ab->Option Bool):Wv->Wv->Int->DQ->Prop:=λx y n Q=>match x,y with
 |.d d,.d e=>d.canLay0=true/\e.canLay0=true/\d.depth<=20/\e.depth<=20/\∃b,f d e=some b/\Q (.d (.bool b)) n
 |_,_=>False
theorem jvz {f:Ab->Ab->Option Bool}:SndO (rXX K f) (gXX f):=λC H B σ δ n x y p q Q Q' R rx ry h1 k=>by
 unfold gXX at h1
 split at h1
 ·rename_i d e;obtain⟨a1,a2,a3,a4,b,a5,a6⟩:=h1;exact⟨d,e,b,RdX.rd rx,RdX.rd ry,a1,a2,a3,a4,a5,k _ _ H n R (Kp.refl _ _) (wd (.bl b)) a6⟩
 ·exact h1.elim
end
end DL
namespace L2
open PySem PySem.Spec PyProof.Rows PySem.W
section
variable {prog:Bm} {w:B3} {A:B8} {E:Ah->Ak->Prop} {s:Ak}
theorem jq2 {src:Source} {n:Nat} {Q:Nat->Ak->Prop} (hn:n≠0) (h:∀i dr,i < n->Q i {s with drawn:=dr}):Az (Ba prog w) A (choose src n) Q E s :=
 λ_ _ _=>⟨hn,h _ _ (Nat.mod_lt _ (Nat.pos_of_ne_zero hn))⟩
theorem jhm {α:Type}:∀(l:List α) (i:Nat) (h:i < l.length),(l[i]::l.eraseIdx i).Perm l
 |x::r,0,_=>List.Perm.refl _
 |x::r,i+1,h=>(List.Perm.swap x (r[i]'(Nat.lt_of_succ_lt_succ h)) (r.eraseIdx i)).trans ((jhm r i (Nat.lt_of_succ_lt_succ h)).cons x)
theorem jqz {α:Type}:∀(n:Nat) (xs:List α) (s:Ak) {Q:List α->Ak->Prop},xs.length=n->(∀ys dr,ys.Perm xs->Q ys {s with drawn:=dr})->Az (Ba prog w) A (drawOrder n xs) Q E s
 |0,xs,s,Q,hl,h=>by
  cases Gc hl;exact Ai (h [] s.drawn (List.Perm.refl _))
 |n+1,[],s,Q,hl,h=>by cases hl
 |n+1,x::r,s,Q,hl,h=>by
  unfold drawOrder;refine Aa (jq2 (by simp) λi dr hi=>?_);rw[Ag hi];dsimp only;refine Aa (jqz n _ _ (by rw[List.length_eraseIdx_of_lt hi];simp at hl ⊢;omega) λys dr' hp=>Ai (h _ dr' ?_));exact(hp.cons _).trans (jhm _ _ hi)
theorem jqu {α:Type} (next:Nat->Nat):∀(fuel k:Nat) (left:List α) (out:Array α),left.length=fuel->(pickOrder.go next fuel k left out).toList.Perm (out.toList++left)
 |0,k,left,out,hl=>by
  cases Gc hl;simp[pickOrder.go]
 |fuel+1,k,left,out,hl=>by
  have hi:next k % left.length < left.length:=Nat.mod_lt _ (by omega)
  unfold pickOrder.go;rw[Ag hi];dsimp only;refine(jqu next fuel (k+1) _ _ (by rw[List.length_eraseIdx_of_lt hi];omega)).trans ?_;rw[Array.toList_push,Bo];exact List.Perm.append_left _ (jhm _ _ hi)
theorem jpn {α:Type} (next:Nat->Nat) (xs:Array α):(pickOrder next xs).toList.Perm xs.toList:=by
 have:=jqu next xs.size 0 xs.toList #[] (by simp)
 simpa[pickOrder]using this
def byTx (w:B3):Bool:=w.params.followText "set-order"
theorem jj6 {Q:Bool->Ak->Prop} (h:Q (byTx w) s):Az (Ba prog w) A setsByText Q E s:=by
 unfold setsByText;exact Aa (wpAny_askSetting (Ai h))
structure SetTb (w:B3) (h:Heap) (a:Addr) (es:Array (Int×Ah)) (ep:Nat) (t:Em):Prop where
 obj:∃o,h.get? a=some o/\o.ExactSet/\o.data=.set es ep t
 fits:t.fits es.size=true
 led:t.led=!byTx w
 plain:t.plain=true->es.size=0
theorem SetTb.move {h h':Heap} {a:Addr} {es:Array (Int×Ah)} {ep:Nat} {t:Em} (x:SetTb w h a es ep t) (k:∀o,h.get? a=some o->h'.get? a=some o):SetTb w h' a es ep t :=
 ⟨let⟨o,e,r⟩:=x.obj;⟨o,k o e,r⟩,x.fits,x.led,x.plain⟩
theorem SetTb.typeIs {a:Addr} {es:Array (Int×Ah)} {ep:Nat} {t:Em} (x:SetTb w s.heap a es ep t):s.TypeIs (.ref a) "set":=let⟨o,e,r,_⟩:=x.obj;⟨o,e,r.1⟩
theorem SetTb.lt {h:Heap} {a:Addr} {es:Array (Int×Ah)} {ep:Nat} {t:Em} (x:SetTb w h a es ep t):a < h.objs.size:=let⟨_,e,_⟩:=x.obj;Ao e
theorem jx5 (t:Em) (n:Nat):(t.orStandIn n).led=t.led:=by
 unfold SetTable.orStandIn
 split<;>rfl
theorem jyj (t:Em) (es:Array (Int×Ah)) (h:Int) (x:Ah):(layNew t es h x).2.1.led=t.led:=by
 unfold layNew
 split
 ·exact jx5 _ _
 ·rfl
theorem jpt {t t':Em} {hs:Array Int} {n:Nat} {ord:Array Nat} (h:t.relaid hs n=some (t',ord)):t'.led=t.led/\t'.plain=t.plain:=by
 unfold SetTable.relaid SetTable.laid at h;cases hc:SetTable.layClean (SetTable.sizeAbove n - 1) hs with
 |none=>rw[hc]at h;cases h
 |some ow =>
  rw[hc]at h;cases h;exact⟨rfl,rfl⟩
theorem jlz (t:Em) (es:Array (Int×Ah)) (n:Nat):(relayAll t es n).2.1.led=t.led/\((relayAll t es n).2.1.plain=true->t.plain=true):=by
 unfold relayAll
 split
 ·rename_i t' ord he;obtain⟨h1,h2⟩:=jpt he;dsimp only
  split
  ·exact⟨h1,λz=>h2▸z⟩
  ·exact⟨rfl,λz=>by simp[SetTable.standIn]at z⟩
 ·exact⟨rfl,λz=>by simp[SetTable.standIn]at z⟩
def txOf (v:Ah):Str:=match v with
 |.str k _=>k
 |_=>⟨#[]⟩
def ksOf (es:Array (Int×Ah)):List Str:=es.toList.map λe=>txOf e.2
def TxEs (w:B3) (es:Array (Int×Ah)):Prop:=∀e∈es.toList,∃k t,e.2=.str k t/\e.1=hashStr w k
theorem TxEs.elems {es:Array (Int×Ah)} (h:TxEs w es):ElemsOf (Dn prog w) es.toList:=λe he=>by
 obtain⟨k,t,e1,e2⟩:=h e he;refine⟨⟨k,?_,e2⟩,by rw[e1];rfl⟩;rw[e1];simp[Dn,Value.isStrOf]
def jic (w:B3) (h:Heap) (a:Addr) (seen:List Str):Prop:=∃es ep t,SetTb w h a es ep t/\TxEs w es/\(ksOf es).Nodup/\(∀k,k∈ksOf es↔k∈seen)/\es.size<=seen.length
end
theorem je2:entryFor table "set.update.loop"=some D4.«set.update.loop»:=entryFor_of_tree (by kernel_rfl)
theorem jci:plainId "set.update.loop"=true:=by decide +kernel
section
variable {prog:Bm} {w:B3} {A:B8} {E:Ah->Ak->Prop} {s:Ak}
theorem jw6 {es es':Array (Int×Ah)} {seen:List Str} {k:Str} {tk:Tok} (hx:TxEs w es) (nd:(ksOf es).Nodup) (hm:∀k,k∈ksOf es↔k∈seen) (hl:es.size<=seen.length) (hk:k∉ksOf es)
  (p:es'.toList.Perm (es.toList++[(hashStr w k,.str k tk)])):TxEs w es'/\(ksOf es').Nodup/\(∀k',k'∈ksOf es'↔k'∈seen++[k])/\es'.size<=(seen++[k]).length/\es'.size=es.size+1:=by
 have pk:(ksOf es').Perm (ksOf es++[k]):=by
  have:=p.map λe=>txOf e.2;rw[Cc]at this;exact this
 have hz:es'.size=es.size+1:=by
  have:=p.length_eq;simpa using this
 refine⟨λe he=>?_,pk.nodup_iff.mpr ?_,λk'=>?_,by rw[hz,Ap];exact Nat.succ_le_succ hl,hz⟩
 ·rcases A8.mp (p.mem_iff.mp he)with h | h
  ·exact hx e h
  ·rw[Bd]at h;subst h;exact⟨k,tk,rfl,rfl⟩
 ·rw[List.nodup_append];exact⟨nd,Gu _ _,λa ha b hb e=>hk (by rw[Bd]at hb;rw[<-hb,<-e];exact ha)⟩
 ·rw[pk.mem_iff,A8,A8,hm k']
theorem jqt {es es':Array (Int×Ah)} (hx:TxEs w es) (nd:(ksOf es).Nodup) (p:es'.toList.Perm es.toList):TxEs w es'/\(ksOf es').Nodup/\(∀k',k'∈ksOf es'↔k'∈ksOf es)/\es'.size=es.size:=by
 have pk:(ksOf es').Perm (ksOf es):=List.Perm.map (λe:Int×Ah=>txOf e.2) p;exact⟨λe he=>hx e (p.mem_iff.mp he),pk.nodup_iff.mpr nd,λk'=>pk.mem_iff,by have:=p.length_eq;simpa using this⟩
theorem jzt {a:Addr} {k:Str} {tk:Tok} {seen:List Str} {Q:Bool->Ak->Prop} (hS:jic w s.heap a seen) (hb:seen.length < 1000)
  (h:∀b h',Dd a s.heap h'->jic w h' a (seen++[k])->Q b {s with heap:=h'}):Az (Ba prog w) A (setAddHashed a (.str k tk) (hashStr w k)) Q E s:=by
 obtain⟨es,ep,t,T,hx,nd,hm,hl⟩:=hS;obtain⟨o,ho,hex,hd⟩:=T.obj;have hel:ElemsOf (Dn prog w) es.toList:=hx.elems;have hsz:es.size < scanBound:=by unfold scanBound;omega
 have hkey:(Dn prog w).is k (.str k tk)=true:=by simp[Dn,Value.isStrOf]
 unfold setAddHashed setAddHashedIn;refine C6 (Aa (E2 ho hd T.fits ?_));dsimp only;rw[byScan_of (knd:=Dn prog w) (x:=.str k tk) rfl hsz hel];simp only[↓reduceIte];unfold setAddByScan;refine Aa (Aa (F0 (Aa (wpAny_setScan_of (knd:=Dn prog w) (k:=k) hkey ho hd T.fits hel ?_))));cases hr:es.toList.findIdx? (λe=>(Dn prog w).is k e.2)with
 |some j =>
  dsimp only;obtain⟨hj,hpj,_⟩:=List.findIdx?_eq_some_iff_getElem.mp hr;have hk:k∈ksOf es:=by
   obtain⟨u,hu⟩:=Value.isStrOf_shape hpj;exact Ce.mpr ⟨es.toList[j],F6 hj,by rw[hu];rfl⟩
  refine Ai (Ai (h _ s.heap (Heap.SameBut.refl a s.heap) ⟨es,ep,t,T,hx,nd,λk'=>?_,by rw[Ap];omega⟩));rw[hm k',A8,Bd];exact⟨.inl,λz=>z.elim id λe=>e▸(hm k).mp hk⟩
 |none =>
  dsimp only;have hk:k∉ksOf es:=λz=>by
   obtain⟨e,he,e2⟩:=Ce.mp z;obtain⟨k',t',e3,_⟩:=hx e he;have q:=List.findIdx?_eq_none_iff.mp hr e he;rw[e3]at e2 q;have e2:k'=k:=e2;subst e2;simp[Dn,Value.isStrOf]at q
  have hgw:∀(b:Bool) {s₁:Ak} {Q':Unit->Ak->Prop},Q' () s₁->Az (Ba prog w) A (match b with | true=>rule "set.scan.the-table-gave-way" | false=>pure ()) Q' E s₁ :=
   λb s₁ Q' hq=>by cases b with
    |true=>exact F0 hq
    |false=>exact Ai hq
  have hp:=layNew_perm t es (hashStr w k) (.str k tk);have hf:=layNew_fits t es (hashStr w k) (.str k tk);have hle:=jyj t es (hashStr w k) (.str k tk);have eh:(Dn prog w).hash k=hashStr w k:=rfl
  try rw[eh]
  generalize layNew t es (hashStr w k) (.str k tk)=L at hp hf hle ⊢;obtain⟨es1,t1,wd,gave⟩:=L;dsimp only at hp hf hle ⊢;rw[Array.toList_push]at hp;obtain⟨x1,n1,m1,l1,z1⟩:=jw6 hx nd hm hl hk hp;refine Aa (hgw _ ?_)
  split
  ·refine Aa ?_;rw[hashByValue_scannable 8 rfl];refine Ai ?_;have hpl:({t1 with plain:=false}:Em).plain=false:=rfl;have hft:({t1 with plain:=false}:Em).fits es1.size=true:=SetTable.fits_plain_off hf;have hld:({t1 with plain:=false}:Em).led=t.led:=hle;simp only[plainKind,B9,↓reduceIte];generalize({t1 with plain:=false}:Em)=t2 at hpl hft hld ⊢;have hb1:es1.size < scanBound:=by unfold scanBound;omega
   refine Aa (wpAny_storeSet_of ho hd ?_ (fits_of_scanBound hb1));have g1:(s.heap.update a (Ea es1 t2)).get? a=some {o with data:=.set es1 (ep+1) t2}:=by
    have:=Bq (Ea es1 t2) ho (by rw[putSet_of es1 t2 hd];rfl);rw[putSet_of es1 t2 hd]at this;exact this
   have sb1:=Be s.heap a (Ea es1 t2)
   split
   ·have hp2:=relayAll_perm t2 es1 (D6 es1.size);have hf2:=relayAll_fits t2 es1 (D6 es1.size);obtain⟨hl2,hq2⟩:=jlz t2 es1 (D6 es1.size);generalize relayAll t2 es1 (D6 es1.size)=R at hp2 hf2 hl2 hq2 ⊢;obtain⟨es2,t3,gave2⟩:=R;dsimp only at hp2 hf2 hl2 hq2 ⊢;obtain⟨x2,n2,m2,z2⟩:=jqt x1 n1 hp2;refine Aa (hgw _ ?_);refine Aa (wpAny_storeSet_of g1 rfl ?_ (fits_of_scanBound (by rw[z2];exact hb1)));have g2:((s.heap.update a (Ea es1 t2)).update a (Ea es2 t3)).get? a=some {o with data:=.set es2 (ep+1+1) t3}:=by
     have:=Bq (Ea es2 t3) g1 (by rw[putSet_of es2 t3 rfl];rfl);rw[putSet_of es2 t3 rfl]at this;exact this
    refine Ai (Ai (h _ _ (sb1.trans (Be _ a _)) ⟨es2,ep+1+1,t3,⟨⟨_,g2,hex,rfl⟩,hf2,by rw[hl2,hld];exact T.led,λz=>?_⟩,x2,n2,λk'=>(m2 k').trans (m1 k'),by rw[z2];exact l1⟩));have:=hq2 z;rw[hpl]at this;cases this
   ·refine Ai (Ai (h _ _ sb1 ⟨es1,ep+1,t2,⟨⟨_,g1,hex,rfl⟩,hft,by rw[hld];exact T.led,λz=>?_⟩,x1,n1,m1,l1⟩));rw[hpl]at z;cases z
  ·rename_i hpl0;have hpl:t1.plain=false:=by simpa using hpl0
   have hft:=hf;have hld:=hle;refine Aa (Ai ?_);simp only[↓reduceIte];clear hf hle hpl0;generalize t1=t2 at hpl hft hld ⊢;have hb1:es1.size < scanBound:=by unfold scanBound;omega
   refine Aa (wpAny_storeSet_of ho hd ?_ (fits_of_scanBound hb1));have g1:(s.heap.update a (Ea es1 t2)).get? a=some {o with data:=.set es1 (ep+1) t2}:=by
    have:=Bq (Ea es1 t2) ho (by rw[putSet_of es1 t2 hd];rfl);rw[putSet_of es1 t2 hd]at this;exact this
   have sb1:=Be s.heap a (Ea es1 t2)
   split
   ·have hp2:=relayAll_perm t2 es1 (D6 es1.size);have hf2:=relayAll_fits t2 es1 (D6 es1.size);obtain⟨hl2,hq2⟩:=jlz t2 es1 (D6 es1.size);generalize relayAll t2 es1 (D6 es1.size)=R at hp2 hf2 hl2 hq2 ⊢;obtain⟨es2,t3,gave2⟩:=R;dsimp only at hp2 hf2 hl2 hq2 ⊢;obtain⟨x2,n2,m2,z2⟩:=jqt x1 n1 hp2;refine Aa (hgw _ ?_);refine Aa (wpAny_storeSet_of g1 rfl ?_ (fits_of_scanBound (by rw[z2];exact hb1)));have g2:((s.heap.update a (Ea es1 t2)).update a (Ea es2 t3)).get? a=some {o with data:=.set es2 (ep+1+1) t3}:=by
     have:=Bq (Ea es2 t3) g1 (by rw[putSet_of es2 t3 rfl];rfl);rw[putSet_of es2 t3 rfl]at this;exact this
    refine Ai (Ai (h _ _ (sb1.trans (Be _ a _)) ⟨es2,ep+1+1,t3,⟨⟨_,g2,hex,rfl⟩,hf2,by rw[hl2,hld];exact T.led,λz=>?_⟩,x2,n2,λk'=>(m2 k').trans (m1 k'),by rw[z2];exact l1⟩));have:=hq2 z;rw[hpl]at this;cases this
   ·refine Ai (Ai (h _ _ sb1 ⟨es1,ep+1,t2,⟨⟨_,g1,hex,rfl⟩,hft,by rw[hld];exact T.led,λz=>?_⟩,x1,n1,m1,l1⟩));rw[hpl]at z;cases z
def SeqV (ks:List Str) (i:Nat) (v:Ah):Prop:=∃k t,ks[i]?=some k/\v=.str k t
theorem jw7 {R:Result->Ak->Prop} {I:Addr} {fp wr:List Addr} {G:Array GenState->Array GenState->Prop} {n:Nat} {St:Nat->Ak->Prop} {ks:List Str} (W:WalksS prog w A.in1 I fp wr G n (SeqV ks) St) (S:Addr) (hSf:S∉fp) (hn:ks.length=n) (hb:n < 64) :
  ∀(m i:Nat) (s:Ak),n - i=m->i<=n->St i s->jic w s.heap S (ks.take i) ->
   (∀s',Moved (S::wr) G s s'->jic w s'.heap S ks->R (.ok (.ret .none)) s')->F9 (Ba prog w) A (.builtin "set.update.loop" ⟨[.ref S,.ref I],[]⟩) R s:=by
 have hSw:S∉wr:=λh=>hSf (W.sub _ h);have hsub:∀b∈wr,b∈S::wr:=λb hb=>Aw _ hb;have mv:∀{h h':Heap} {seen:List Str},(∀o,h.get? S=some o->h'.get? S=some o)->jic w h S seen->jic w h' S seen:=λk x=>by
  obtain⟨es,ep,t,T,r⟩:=x;exact⟨es,ep,t,T.move k,r⟩
 intro m
 induction m with
 |zero =>
  intro i s hk hi hst hS hR;have hin:i=n:=by omega
  subst hin;refine Fx je2 ?_;rw[Eu jci _];show Az _ A.in1 (D2 (.ref I)>>=_) _ _ s;refine Aa (W.done s _ _ hst λs' hm=>?_);show Az _ A.in1 (ret Bf) _ _ s';rw[<-hn,List.take_length]at hS;exact Ai (hR s' (hm.mono hsub) (mv (λo e=>hm.heap S _ hSw e) hS))
 |succ m ih =>
  intro i s hk hi hst hS hR;have hlt:i < n:=by omega
  refine Fx je2 ?_;rw[Eu jci _];show Az _ A.in1 (D2 (.ref I)>>=_) _ _ s;refine Aa (W.item i s _ _ hlt hst λv s' hP hst' hm=>?_);obtain⟨k,t,hk1,rfl⟩:=hP;have hS':=mv (λo e=>hm.heap S _ hSw e) hS;show Az _ A.in1 (holding [F3 k t] (setAdd S (.str k t))>>=_) _ _ s';refine Aa (C6 ?_);unfold setAdd;refine C6 ?_;refine Aa (wpAny_pyHash_str ?_);refine jzt (s:={ s' with toks:=s'.toks+1}) hS' (by rw[Dv];omega) λb h' hsb hS2=>?_;have et:ks.take i++[k]=ks.take (i+1):=by
   rw[List.take_add_one,hk1];rfl
  rw[et]at hS2;refine Ai ⟨plainId_quiet jci _,ih (i+1) _ (by omega) hlt (W.frame _ s' _ _ hst' (Nat.le_succ _) λb hb o e=>?_) hS2 λs'' hm'' hS''=>?_⟩
  ·rw[hsb.2 b (λh:b=S=>hSf (by rw[<-h];exact hb))];exact e
  ·refine hR s'' (Moved.trans W.gtrans ((hm.mono hsub).then_heap (Nat.le_succ _) λb o hb e=>?_) hm'') hS'';rw[hsb.2 b (λh:b=S=>hb (by rw[h];exact Au))];exact e
end
theorem slot_setit_next:Slot "set_iterator" "__next__" "set_iterator.__next__":=Slot.of (owner:="set_iterator") (n:="__next__") (by rw[typeLookup_type,builtinLookup_eq_fast];kernel_rfl)
 (by decide +kernel) (by decide +kernel) (by decide +kernel) (by first | exact .inl (by decide +kernel) | exact .inr (by decide +kernel)) (by rw[Fi];kernel_rfl)
theorem ja2:entryFor table "set_iterator.__next__"=some D4.«set_iterator.__next__»:=entryFor_of_tree (by kernel_rfl)
theorem ja5 (a:Ah):argsOk "set_iterator.__next__" ⟨[a],[]⟩:=by unfold argsOk;kernel_rfl
theorem jc8:Slot "set_iterator" "__iter__" "set_iterator.__iter__":=Slot.of (owner:="set_iterator") (n:="__iter__") (by rw[typeLookup_type,builtinLookup_eq_fast];kernel_rfl)
 (by decide +kernel) (by decide +kernel) (by decide +kernel) (by first | exact .inl (by decide +kernel) | exact .inr (by decide +kernel)) (by rw[Fi];kernel_rfl)
theorem jgx:entryFor table "set_iterator.__iter__"=some D4.«dict_keyiterator.__iter__»:=by exact entryFor_alias (id':="dict_keyiterator.__iter__") (by kernel_rfl) rfl (by decide +kernel) (by kernel_rfl)
theorem jh4 (a:Ah):argsOk "set_iterator.__iter__" ⟨[a],[]⟩:=by unfold argsOk;kernel_rfl
theorem jhq:entryFor table "set.__iter__"=some D4.«frozenset.__iter__»:=by exact entryFor_alias (id':="frozenset.__iter__") (by kernel_rfl) rfl (by decide +kernel) (by kernel_rfl)
def SetIt (h:Heap) (I:Addr) (first:Ah) (i:Nat) (a:Addr) (n ep:Nat):Prop:=∃o,h.get? I=some o/\o.cls=.type "set_iterator"/\o.data=.fields #[first,.int i 0,.ref a,.int n 0,.int ep 0]
section
variable {prog:Bm} {w:B3} {A:B8} {E:Ah->Ak->Prop} {s:Ak} {I a T:Addr} {n ep i j:Nat} {es:Array (Int×Ah)} {t:Em} {first:Ah}
theorem SetIt.typeIs (x:SetIt s.heap I first i a n ep):s.TypeIs (.ref I) "set_iterator":=let⟨o,e,c,_⟩:=x;⟨o,e,c⟩
theorem SetIt.move {h h':Heap} (x:SetIt h I first i a n ep) (k:∀o,h.get? I=some o->h'.get? I=some o):SetIt h' I first i a n ep:=let⟨o,e,r⟩:=x;⟨o,k o e,r⟩
theorem jbr {Q:Ah->Ak->Prop} (hit:SetIt s.heap I first i a n ep) (h:Q (.ref I) s):Az (Ba prog w) A (pyIter (.ref I)) Q E s:=by
 refine wpAny_pyIter_slot hit.typeIs jc8 (Bv jc8 hit.typeIs jgx ?_ (jh4 _));show Az _ _ (ret (.ref I)) _ _ s;exact Ai ⟨_,rfl,"set_iterator",_,hit.typeIs,slot_setit_next.lookup,h⟩
theorem jqw {pl:Array Ah} {x:Int×Ah} {Q:Option Ah->Ak->Prop} (hit:SetIt s.heap I (.ref T) i a n ep) (hs:SetTb w s.heap a es ep t) (hn:es.size=n) (hT:s.heap.IsTuple T pl) (hp:pl[i]?=some (.int j 0)) (hx:es[j]?=some x)
  (hQ:∀h',SetIt h' I (.ref T) (i+1) a n ep->Dd I s.heap h'->Q (some x.2) {s with heap:=h'}):Az (Ba prog w) A (D2 (.ref I)) Q E s:=by
 obtain⟨o,ho,hc,hd⟩:=id hit;obtain⟨oa,hoa,_,hda⟩:=hs.obj;obtain⟨ol,hol,_,nl,hdl⟩:=hT;unfold D2;refine Aa (D0 (Bh (name:=Cg "__next__") hit.typeIs slot_setit_next (Bv slot_setit_next hit.typeIs ja2 ?_ (ja5 _))));refine Aa (Ai ?_);refine Aa (F8 ho hd ?_);dsimp only;refine Aa (Dw hoa hda hs.fits ?_);rw[if_neg (by rw[hn];simp)];refine Aa (Ca hol hdl ?_);simp only[Bz,hp];refine Aa ?_;unfold setNextDrawn;refine Aa (E2 hoa hda hs.fits ?_);simp only[Bz,bne_self_eq_false,B9,if_false,hx];refine Ai ?_;refine Aa (Dg ho hd (by simp) (Ai ⟨x.2,rfl,Ai (hQ _ ?_ (Be ..))⟩));exact⟨_,Bq _ ho (Dh (B7 hd _)),(Es ..).trans hc,by
  rw[B7 hd];simp[Cr]⟩
theorem jq0 {pl:Array Ah} {Q:Option Ah->Ak->Prop} (hh:A.handled=none) (hit:SetIt s.heap I (.ref T) i a n ep) (hs:SetTb w s.heap a es ep t) (hn:es.size=n) (hT:s.heap.IsTuple T pl) (hp:pl[i]?=none)
  (hQ:∀h',Heap.ExtBut I s.heap h'->Q none {s with heap:=h'}):Az (Ba prog w) A (D2 (.ref I)) Q E s:=by
 obtain⟨ol,hol,_,nl,hdl⟩:=hT;obtain⟨o,ho,hc,hd⟩:=id hit;obtain⟨oa,hoa,_,hda⟩:=hs.obj;unfold D2;refine Aa (D0 (Bh (name:=Cg "__next__") hit.typeIs slot_setit_next (Bv slot_setit_next hit.typeIs ja2 ?_ (ja5 _))));refine Aa (Ai ?_);refine Aa (F8 ho hd ?_);dsimp only;refine Aa (Dw hoa hda hs.fits ?_);rw[if_neg (by rw[hn];simp)];refine Aa (Ca hol hdl ?_);simp only[Bz,hp];refine Aa (Dg ho hd (by simp) ?_);have ho2:=Bq (Obj.mapFields (·.setIfInBounds 0 (Cr 0))) ho (Dh (B7 hd _));have hd2:=B7 hd (·.setIfInBounds 0 (Cr 0));refine Aa (Dg ho2 hd2 (by simp) ?_);refine Aa ?_;simp only[newExc,newTuple];refine Aa (Bg ?_ (by size_fits));refine Aa (m:=Ek _ _) (wpAny_of_eq (a:=Bf) (by first | rfl | (simp only[Ek];rfl)) ?_);refine Bg ?_ (by size_fits);simp only[raiseNew];refine Aa (wpAny_handled ?_)
 first | rw[show A.in1.handled=none from hh] | rw[hh]
 refine Aa (Ai (wpAny_throw ?_));refine Aa (Fo (T:="StopIteration") (b:=true) ⟨_,As _ rfl,rfl⟩ isSubtype_stop ?_);exact Ai (hQ _ (((((Be ..).trans (Be ..)).extBut).push _).push _))
def jf3 (w:B3) (a:Addr) (ep:Nat) (es:Array (Int×Ah)):Array (Int×Ah):=pickOrder (w.params.setOrder a ep) es
theorem jll {Q:Option (Ah×Nat)->Ak->Prop} {k:Nat} (hb:byTx w=true) (hs:SetTb w s.heap a es ep t) (h:Q (((jf3 w a ep es)[i]?).map λe=>(e.2,k)) s):Az (Ba prog w) A (setNext a k i ep) Q E s:=by
 obtain⟨oa,hoa,_,hda⟩:=hs.obj;unfold setNext;refine Aa (E2 hoa hda hs.fits ?_);dsimp only;refine Aa (jj6 ?_);rw[hb];simp only[↓reduceIte,bne_self_eq_false,B9,if_false];refine Aa ?_;unfold setWalk;refine Aa (E2 hoa hda hs.fits ?_);dsimp only;refine Aa (jj6 ?_);rw[hb];simp only[↓reduceIte];refine Aa (wpAny_askSetting (Ai (Ai h)))
theorem jqx {x:Int×Ah} {Q:Option Ah->Ak->Prop} (hb:byTx w=true) (hit:SetIt s.heap I (.int 0 0) i a n ep) (hs:SetTb w s.heap a es ep t) (hn:es.size=n) (hx:(jf3 w a ep es)[i]?=some x)
  (hQ:∀h',SetIt h' I (.int 0 0) (i+1) a n ep->Dd I s.heap h'->Q (some x.2) {s with heap:=h'}):Az (Ba prog w) A (D2 (.ref I)) Q E s:=by
 obtain⟨o,ho,hc,hd⟩:=id hit;obtain⟨oa,hoa,_,hda⟩:=hs.obj;unfold D2;refine Aa (D0 (Bh (name:=Cg "__next__") hit.typeIs slot_setit_next (Bv slot_setit_next hit.typeIs ja2 ?_ (ja5 _))));refine Aa (Ai ?_);refine Aa (F8 ho hd ?_);dsimp only;refine Aa (Dw hoa hda hs.fits ?_);rw[if_neg (by rw[hn];simp)];refine Aa (jll hb hs ?_);simp only[Bz,hx,Option.map_some];refine Aa (Dg ho hd (by simp) ?_);have ho2:=Bq (Obj.mapFields (·.setIfInBounds 0 (Cr ((0:Int).toNat:Nat)))) ho (Dh (B7 hd _));have hd2:=B7 hd (·.setIfInBounds 0 (Cr ((0:Int).toNat:Nat)));refine Aa (Dg ho2 hd2 (by simp) (Ai ⟨x.2,rfl,Ai (hQ _ ?_ ((Be ..).trans (Be ..)))⟩));exact⟨_,Bq _ ho2 (Dh (B7 hd2 _)),(Es ..).trans ((Es ..).trans hc),by
  rw[B7 hd2];simp[Cr]⟩
theorem jq1 {Q:Option Ah->Ak->Prop} (hh:A.handled=none) (hb:byTx w=true) (hit:SetIt s.heap I (.int 0 0) i a n ep) (hs:SetTb w s.heap a es ep t) (hn:es.size=n) (hx:(jf3 w a ep es)[i]?=none)
  (hQ:∀h',Heap.ExtBut I s.heap h'->Q none {s with heap:=h'}):Az (Ba prog w) A (D2 (.ref I)) Q E s:=by
 obtain⟨o,ho,hc,hd⟩:=id hit;obtain⟨oa,hoa,_,hda⟩:=hs.obj;unfold D2;refine Aa (D0 (Bh (name:=Cg "__next__") hit.typeIs slot_setit_next (Bv slot_setit_next hit.typeIs ja2 ?_ (ja5 _))));refine Aa (Ai ?_);refine Aa (F8 ho hd ?_);dsimp only;refine Aa (Dw hoa hda hs.fits ?_);rw[if_neg (by rw[hn];simp)];refine Aa (jll hb hs ?_);simp only[Bz,hx,Option.map_none];refine Aa (Dg ho hd (by simp) ?_);refine Aa ?_;simp only[newExc,newTuple];refine Aa (Bg ?_ (by size_fits));refine Aa (m:=Ek _ _) (wpAny_of_eq (a:=Bf) (by first | rfl | (simp only[Ek];rfl)) ?_);refine Bg ?_ (by size_fits);simp only[raiseNew];refine Aa (wpAny_handled ?_)
 first | rw[show A.in1.handled=none from hh] | rw[hh]
 refine Aa (Ai (wpAny_throw ?_));refine Aa (Fo (T:="StopIteration") (b:=true) ⟨_,As _ rfl,rfl⟩ isSubtype_stop ?_);exact Ai (hQ _ (((Be ..).extBut.push _).push _))
theorem jlk {Q:Option (Ah×Nat)->Ak->Prop} {k:Nat} (hb:byTx w=false) (h1:es.size<=1) (hs:SetTb w s.heap a es ep t)
  (h:Q (match es[D7 t.place k]?,t.place[D7 t.place k]? with
   |some (_,x),some j=>some (x,j+1)
   |_,_=>none) s):Az (Ba prog w) A (setNext a k i ep) Q E s:=by
 obtain⟨oa,hoa,_,hda⟩:=hs.obj;have hl:t.led=true:=by rw[hs.led,hb];rfl
 unfold setNext;refine Aa (E2 hoa hda hs.fits ?_);dsimp only;refine Aa (jj6 ?_);rw[hb];simp only[B9,↓reduceIte];have hd:(!t.plain&&decide (es.size > 1))=false:=by
  have:decide (es.size > 1)=false:=decide_eq_false (by omega);rw[this,Fz]
 split
 ·rename_i z;have z':(!t.plain&&decide (es.size > 1))=true:=z;rw[hd]at z';cases z'
 ·refine Aa (wpAny_of_eq (a:=()) ?_ (Ai h));show(if (!t.led&&!es.isEmpty)=true then unsupported "set:maker-not-led" else pure ())=pure ();rw[hl];rfl
theorem jmw {j:Nat}:D7 #[j] 0=0/\D7 #[j] (j+1)=1:=by
 constructor
 ·simp[D7,SetTable.below.go]
 ·simp[D7,SetTable.below.go]
theorem jqv {x:Int×Ah} {Q:Option Ah->Ak->Prop} (hb:byTx w=false) (hp:t.place=#[j]) (he:es=#[x]) (hit:SetIt s.heap I (.int 0 0) 0 a 1 ep) (hs:SetTb w s.heap a es ep t)
  (hQ:∀h',SetIt h' I (.int ((j+1:Nat):Int) 0) 1 a 1 ep->Dd I s.heap h'->Q (some x.2) {s with heap:=h'}):Az (Ba prog w) A (D2 (.ref I)) Q E s:=by
 have hn:es.size=1:=by rw[he];rfl
 obtain⟨o,ho,hc,hd⟩:=id hit;obtain⟨oa,hoa,_,hda⟩:=hs.obj;unfold D2;refine Aa (D0 (Bh (name:=Cg "__next__") hit.typeIs slot_setit_next (Bv slot_setit_next hit.typeIs ja2 ?_ (ja5 _))));refine Aa (Ai ?_);refine Aa (F8 ho hd ?_);dsimp only;refine Aa (Dw hoa hda hs.fits ?_);rw[if_neg (by rw[hn];simp)];refine Aa (jlk hb (by omega) hs ?_);have b1:D7 t.place (0:Int).toNat=0:=by rw[hp];exact jmw.1
 rw[b1,hp,he];show Az _ _ (setField (.ref I) 0 (Cr ((j+1:Nat):Int))>>=_) _ _ _;refine Aa (Dg ho hd (by simp) ?_);have ho2:=Bq (Obj.mapFields (·.setIfInBounds 0 (Cr ((j+1:Nat):Int)))) ho (Dh (B7 hd _));have hd2:=B7 hd (·.setIfInBounds 0 (Cr ((j+1:Nat):Int)));refine Aa (Dg ho2 hd2 (by simp) (Ai ⟨x.2,rfl,Ai (hQ _ ?_ ((Be ..).trans (Be ..)))⟩));exact⟨_,Bq _ ho2 (Dh (B7 hd2 _)),(Es ..).trans ((Es ..).trans hc),by
  rw[B7 hd2];simp[Cr]⟩
theorem jlm {k:Nat} {Q:Option Ah->Ak->Prop} (hh:A.handled=none) (hb:byTx w=false) (h1:es.size<=1) (hk:es[D7 t.place k]?=none) (hit:SetIt s.heap I (.int (k:Int) 0) i a n ep) (hs:SetTb w s.heap a es ep t) (hn:es.size=n)
  (hQ:∀h',Heap.ExtBut I s.heap h'->Q none {s with heap:=h'}):Az (Ba prog w) A (D2 (.ref I)) Q E s:=by
 obtain⟨o,ho,hc,hd⟩:=id hit;obtain⟨oa,hoa,_,hda⟩:=hs.obj;unfold D2;refine Aa (D0 (Bh (name:=Cg "__next__") hit.typeIs slot_setit_next (Bv slot_setit_next hit.typeIs ja2 ?_ (ja5 _))));refine Aa (Ai ?_);refine Aa (F8 ho hd ?_);dsimp only;refine Aa (Dw hoa hda hs.fits ?_);rw[if_neg (by rw[hn];simp)];refine Aa (jlk hb h1 hs ?_);rw[Bz,hk];dsimp only;refine Aa (Dg ho hd (by simp) ?_);refine Aa ?_;simp only[newExc,newTuple];refine Aa (Bg ?_ (by size_fits));refine Aa (m:=Ek _ _) (wpAny_of_eq (a:=Bf) (by first | rfl | (simp only[Ek];rfl)) ?_);refine Bg ?_ (by size_fits);simp only[raiseNew];refine Aa (wpAny_handled ?_)
 first | rw[show A.in1.handled=none from hh] | rw[hh]
 refine Aa (Ai (wpAny_throw ?_));refine Aa (Fo (T:="StopIteration") (b:=true) ⟨_,As _ rfl,rfl⟩ isSubtype_stop ?_);exact Ai (hQ _ (((Be ..).extBut.push _).push _))
end
section
variable {prog:Bm} {w:B3} {A:B8} {E:Ah->Ak->Prop} {s:Ak} {a:Addr} {ep:Nat} {es:Array (Int×Ah)} {t:Em}
def jmx (vs:List (Int×Ah)) (i:Nat) (v:Ah):Prop:=∃e,vs[i]?=some e/\v=e.2
structure SetWk (prog:Bm) (w:B3) (sz:Nat) (h':Heap) (a I:Addr) (vs:List (Int×Ah)):Prop where
 above:sz<=I
 walk:∃(fp:List Addr) (St:Nat->Heap->Prop),(∀b∈fp,b=a\/sz<=b)/\(∀b∈fp,b < h'.objs.size)/\(∀A:B8,A.handled=none->Walks prog w A I fp [I] vs.length (jmx vs) St)/\St 0 h'
theorem jys {α:Type} {xs:Array α} {j:Nat} {d:α} (h:j < xs.size):xs[j]?=some (xs.getD j d):=by
 simp[h]
theorem jp5 {ys:List Nat} {n:Nat} (hp:ys.Perm (B4 n)) (hn:es.size=n):(ys.map λj=>es.getD j (0,Bf)).Perm es.toList:=by
 have h1:=hp.map λj=>es.getD j ((0:Int),Bf);have h2:(B4 n).map (λj=>es.getD j ((0:Int),Bf))=es.toList:=by
  apply List.ext_getElem (by simp[hn]);intro i h1 h2;simp at h2;simp[h2]
 rw[h2]at h1;exact h1
theorem jwt {I T:Addr} {ys:List Nat} {n:Nat} (hne:a≠I) (hTI:T≠I) (hp:ys.Perm (B4 n)) (hn:es.size=n) (A:B8) (hh:A.handled=none) :
  Walks prog w A I [I,a,T] [I] (ys.map λj=>es.getD j (0,Bf)).length (jmx (ys.map λj=>es.getD j (0,Bf)))
   (λi h=>SetIt h I (.ref T) i a n ep/\SetTb w h a es ep t/\h.IsTuple T (ys.map λ(j:Nat)=>Value.int (j:Int) 0).toArray) where
 sub:=λb hb=>by simp at hb;simp[hb]
 frame:=λ_ _ _ st hk=>⟨st.1.move λo e=>hk I (by simp) o e,st.2.1.move λo e=>hk a (by simp) o e,let⟨o,e,r⟩:=st.2.2;⟨o,hk T (by simp) o e,r⟩⟩
 item:=λi s Q E hi st hQ=>by
  rw[Ae]at hi;have hj:ys[i] < es.size:=by rw[hn];exact Dy.mp (hp.mem_iff.mp (F6 hi))
  refine jqw (j:=ys[i]) st.1 st.2.1 hn st.2.2 (by simp[hi]) (jys (d:=(0,Bf)) hj) λh' hit' hs'=>?_;refine hQ _ h' s.toks ⟨_,by rw[A7,Ag hi];rfl,rfl⟩ ⟨hit',st.2.1.move λo e=>(hs'.2 a hne).trans e,let⟨o,e,r⟩:=st.2.2;⟨o,(hs'.2 T hTI).trans e,r⟩⟩ λb o hb e=>hs'.extBut b o (λh=>hb (by simp[h])) e
 done:=λs Q E st hQ=>jq0 hh st.1 st.2.1 hn st.2.2 (by simp) λh' he'=>hQ h' s.toks λb o hb e=>he' b o (λh=>hb (by simp[h])) e
 self:=λ_ _ _ _ st hQ=>jbr st.1 hQ
theorem jwu {I:Addr} {n:Nat} (hb:byTx w=true) (hne:a≠I) (hn:es.size=n) (A:B8) (hh:A.handled=none) :
  Walks prog w A I [I,a] [I] (jf3 w a ep es).toList.length (jmx (jf3 w a ep es).toList) (λi h=>SetIt h I (.int 0 0) i a n ep/\SetTb w h a es ep t) where
 sub:=λb hb=>by simp at hb;simp[hb]
 frame:=λ_ _ _ st hk=>⟨st.1.move λo e=>hk I (by simp) o e,st.2.move λo e=>hk a (by simp) o e⟩
 item:=λi s Q E hi st hQ=>by
  rw[Co]at hi;have hx:(jf3 w a ep es)[i]?=some (jf3 w a ep es)[i]:=E5 hi;refine jqx hb st.1 st.2 hn hx λh' hit' hs'=>?_;exact hQ _ h' s.toks ⟨_,by rw[Array.getElem?_toList];exact hx,rfl⟩ ⟨hit',st.2.move λo e=>(hs'.2 a hne).trans e⟩ λb o hb e=>hs'.extBut b o (λh=>hb (by simp[h])) e
 done:=λs Q E st hQ=>jq1 hh hb st.1 st.2 hn (by simp) λh' he'=>hQ h' s.toks λb o hb e=>he' b o (λh=>hb (by simp[h])) e
 self:=λ_ _ _ _ st hQ=>jbr st.1 hQ
theorem jww {I:Addr} (hb:byTx w=false) (hn:es.size=0) (A:B8) (hh:A.handled=none) :
  Walks prog w A I [I,a] [I] ([]:List (Int×Ah)).length (jmx []) (λ_ h=>SetIt h I (.int ((0:Nat):Int) 0) 0 a 0 ep/\SetTb w h a es ep t) where
 sub:=λb hb=>by simp at hb;simp[hb]
 frame:=λ_ _ _ st hk=>⟨st.1.move λo e=>hk I (by simp) o e,st.2.move λo e=>hk a (by simp) o e⟩
 item:=λi s Q E hi st hQ=>by simp at hi
 done:=λs Q E st hQ=>jlm (k:=0) hh hb (by omega) (by rw[Array.getElem?_eq_none];omega) st.1 st.2 hn λh' he'=>hQ h' s.toks λb o hb e=>he' b o (λh=>hb (by simp[h])) e
 self:=λ_ _ _ _ st hQ=>jbr st.1 hQ
theorem jwv {I:Addr} {x:Int×Ah} {j:Nat} (hb:byTx w=false) (hne:a≠I) (he:es=#[x]) (hp:t.place=#[j]) (A:B8) (hh:A.handled=none) :
  Walks prog w A I [I,a] [I] [x].length (jmx [x]) (λi h=>((i=0/\SetIt h I (.int 0 0) 0 a 1 ep)\/(i=1/\SetIt h I (.int ((j+1:Nat):Int) 0) 1 a 1 ep))/\SetTb w h a es ep t) where
 sub:=λb hb=>by simp at hb;simp[hb]
 frame:=λ_ _ _ st hk=>⟨st.1.imp (λz=>⟨z.1,z.2.move λo e=>hk I (by simp) o e⟩) (λz=>⟨z.1,z.2.move λo e=>hk I (by simp) o e⟩),st.2.move λo e=>hk a (by simp) o e⟩
 item:=λi s Q E hi st hQ=>by
  have hi0:i=0:=by simpa using hi
  subst hi0;rcases st.1 with⟨_,z⟩ | ⟨z,_⟩
  ·refine jqv hb hp he z st.2 λh' hit' hs'=>?_;exact hQ _ h' s.toks ⟨x,rfl,rfl⟩ ⟨.inr ⟨rfl,hit'⟩,st.2.move λo e=>(hs'.2 a hne).trans e⟩ λb o hb e=>hs'.extBut b o (λh=>hb (by simp[h])) e
  ·cases z
 done:=λs Q E st hQ=>by
  rcases st.1 with⟨z,_⟩ | ⟨_,z⟩
  ·cases z
  ·refine jlm (k:=j+1) hh hb (by rw[he];exact Al 1) ?_ z st.2 (by rw[he];rfl) λh' he'=>hQ h' s.toks λb o hb e=>he' b o (λh=>hb (by simp[h])) e;rw[hp,jmw.2,he];rfl
 self:=λi s Q E st hQ=>by
  rcases st.1 with⟨_,z⟩ | ⟨_,z⟩
  ·exact jbr z hQ
  ·exact jbr z hQ
theorem jw8 {Q:Ah->Ak->Prop} (hs:SetTb w s.heap a es ep t) (h64:es.size < 64)
  (h:∀(h':Heap) (dr:Drawn) (I:Addr) (vs:List (Int×Ah)),vs.Perm es.toList->(∀b o,s.heap.get? b=some o->h'.get? b=some o)->SetWk prog w s.heap.objs.size h' a I vs->Q (.ref I) {s with heap:=h',drawn:=dr}) :
  Az (Ba prog w) A (pyIter (.ref a)) Q E s:=by
 obtain⟨oa,hoa,hex,hda⟩:=hs.obj;have hlt:=hs.lt;refine wpAny_pyIter_slot hs.typeIs F.slot_set_iter (Bv F.slot_set_iter hs.typeIs jhq ?_ (F.args_set_iter_1 _));refine Aa (Ai ?_);refine Aa (Aa (Dw hoa hda hs.fits (Ai ?_)));refine Aa ?_;unfold setDrawn;refine Aa (E2 hoa hda hs.fits ?_);dsimp only;refine Aa (jj6 ?_);refine Ai ?_
 split
 ·rename_i hd;refine Aa (jqz es.size (B4 es.size) s (by simp) λys dr hp=>?_);have hly:ys.length=es.size:=by rw[hp.length_eq,List.length_range]
  refine Aa (wpAny_newTuple ?_ (by rw[Ae,hly,Fh];omega));have hoa1:=Ad ({cls:=.type "tuple",data:=.seq (ys.map λ(i:Nat)=>Cr i).toArray}:Obj) hoa;refine Aa (wpAny_setEpoch_of hoa1 hda hs.fits ?_);refine Aa (Bg (Ai ⟨_,rfl,"set_iterator",_,⟨_,As _ rfl,rfl⟩,slot_setit_next.lookup,?_⟩));have hT:(s.heap.push ({cls:=.type "tuple",data:=.seq (ys.map λ(i:Nat)=>Cr i).toArray}:Obj)).get? s.heap.objs.size=some {cls:=.type "tuple",data:=.seq (ys.map λ(i:Nat)=>Cr i).toArray}:=As _ rfl;refine h _ dr _ (ys.map λj=>es.getD j (0,Bf)) (jp5 hp rfl) (λb o e=>Ad _ (Ad _ e)) ⟨by rw[Bx];exact Nat.le_succ _,[_,a,s.heap.objs.size],_,λb hb=>?_,λb hb=>?_,λA hh=>jwt (t:=t) (ep:=ep) (T:=s.heap.objs.size) (by rw[Bx];exact Bc (Et hlt)) (by rw[Bx];exact Bc (Gb _)) hp rfl A hh,⟨⟨_,As _ rfl,rfl,rfl⟩,hs.move λo e=>Ad _ (Ad _ e),⟨_,Ad _ hT,rfl,_,rfl⟩⟩⟩
  ·simp only[Am,Ar,or_false]at hb;rcases hb with rfl | rfl | rfl
   ·rw[Bx];exact .inr (Nat.le_succ _)
   ·exact .inl rfl
   ·exact .inr (Al _)
  ·simp only[Am,Ar,or_false]at hb;rw[Bx,Bx];rcases hb with rfl | rfl | rfl
   ·rw[Bx];exact Gb _
   ·exact Et (Et hlt)
   ·exact Et (Gb _)
 ·rename_i hd;refine Aa (Ai ?_);refine Aa (wpAny_setEpoch_of hoa hda hs.fits ?_);refine Aa (Bg (Ai ⟨_,rfl,"set_iterator",_,⟨_,As _ rfl,rfl⟩,slot_setit_next.lookup,?_⟩));have hit:SetIt (s.heap.push {cls:=.type "set_iterator",data:=.fields #[Cr 0,Cr 0,.ref a,Cr es.size,Cr ep]}) s.heap.objs.size (.int 0 0) 0 a es.size ep:=⟨_,As _ rfl,rfl,rfl⟩;have hst:SetTb w (s.heap.push {cls:=.type "set_iterator",data:=.fields #[Cr 0,Cr 0,.ref a,Cr es.size,Cr ep]}) a es ep t:=hs.move λo e=>Ad _ e;have kp:∀b o,s.heap.get? b=some o->(s.heap.push {cls:=.type "set_iterator",data:=.fields #[Cr 0,Cr 0,.ref a,Cr es.size,Cr ep]}).get? b=some o:=λb o e=>Ad _ e;have f1:∀b∈[s.heap.objs.size,a],b=a\/s.heap.objs.size<=b:=λb hb=>by
   simp only[Am,Ar,or_false]at hb;rcases hb with rfl | rfl
   ·exact .inr (Al _)
   ·exact .inl rfl
  have f2:∀b∈[s.heap.objs.size,a],b < (s.heap.push {cls:=.type "set_iterator",data:=.fields #[Cr 0,Cr 0,.ref a,Cr es.size,Cr ep]}).objs.size:=λb hb=>by
   simp only[Am,Ar,or_false]at hb;rw[Bx];rcases hb with rfl | rfl
   ·exact Gb _
   ·exact Et hlt
  have hne:a≠s.heap.objs.size:=Bc hlt;cases hb:byTx w with
  |true=>exact h _ s.drawn _ (jf3 w a ep es).toList (jpn _ _) kp ⟨Al _,[s.heap.objs.size,a],_,f1,f2,λA hh=>jwu (t:=t) hb hne rfl A hh,⟨hit,hst⟩⟩
  |false =>
   have hd0:¬((!byTx w&&(!t.plain&&decide (es.size > 1)))=true):=hd;have hd':(!byTx w&&(!t.plain&&decide (es.size > 1)))=false:=by simpa using hd0
   have h1:es.size<=1:=by
    rw[hb]at hd';by_cases hz:es.size<=1
    ·exact hz
    ·have hg:decide (es.size > 1)=true:=decide_eq_true (by omega);rw[hg]at hd';have hpl:t.plain=true:=by simpa using hd'
     have:=hs.plain hpl;omega
   by_cases h0:es.size=0
   ·have e0:es.toList=[]:=Gc (by simpa using h0);refine h _ s.drawn _ [] (by rw[e0]) kp ⟨Al _,[s.heap.objs.size,a],_,f1,f2,λA hh=>jww (t:=t) (ep:=ep) hb h0 A hh,⟨?_,hst⟩⟩;rw[h0]at hit ⊢;exact hit
   ·have h1':es.size=1:=by omega
    obtain⟨x,hx⟩:∃x,es=#[x]:=by
     have:es.toList.length=1:=by simpa using h1'
     obtain⟨x,hx⟩:=List.length_eq_one_iff.mp this;exact⟨x,Array.toList_inj.mp hx⟩
    have hps:t.place.size=1:=by
     have:=hs.fits;simp only[SetTable.fits,A4,beq_iff_eq]at this;rw[this.1,h1']
    obtain⟨j,hj⟩:∃j,t.place=#[j]:=by
     have:t.place.toList.length=1:=by simpa using hps
     obtain⟨x,hx⟩:=List.length_eq_one_iff.mp this;exact⟨x,Array.toList_inj.mp hx⟩
    refine h _ s.drawn _ [x] (by rw[hx]) kp ⟨Al _,[s.heap.objs.size,a],_,f1,f2,λA hh=>jwv (t:=t) (ep:=ep) hb hne hx hj A hh,⟨.inl ⟨rfl,?_⟩,hst⟩⟩;rw[h1']at hit ⊢;exact hit
end
theorem jkp:entryFor table "proto.collect"=some D4.«proto.collect»:=entryFor_of_tree (by kernel_rfl)
theorem jp4:entryFor table "list.__iadd__"=some D4.«list.__iadd__»:=entryFor_of_tree (by kernel_rfl)
section
variable {prog:Bm} {w:B3} {A:B8} {E:Ah->Ak->Prop} {s:Ak} {a:Addr} {ep:Nat} {es:Array (Int×Ah)} {t:Em}
theorem jw9 {Q:Bool->Ak->Prop} (hT:s.TypeIs (.ref a) "set") (h:Q false s):Az (Ba prog w) A (Builtin.List.listLengthHint (.ref a)) Q E s:=by
 unfold Builtin.List.listLengthHint;refine Aa (wpAny_specialOf hT F.slot_set_len.lookup ?_);generalize hid:("set.__len__":String)=id0
 wp_delta
 rw[show splitId id0=some ("set","__len__")from by subst hid;decide +kernel];subst hid;refine Aa (Fo (T:="set") (b:=true) hT (by rw[Fi];kernel_rfl) ?_);refine wpAny_ite_split (λhab=>absurd hab (by decide)) (λ_=>?_);refine wpAny_ite_split (λ_=>?_) (λhab=>absurd (by decide +kernel) hab);refine Aa (F7 hT ?_);exact Ai h
theorem jqy {R:Result->Ak->Prop} (hh:A.handled=none) (hs:SetTb w s.heap a es ep t) (h64:es.size < 64) (S:Addr) (hSa:S≠a) (res:Ah) (hS:s.heap.get? S=some {cls:=.type "list",data:=.seq #[]})
  (hR:∀h' tk dr (vs:List (Int×Ah)) acc c,vs.Perm es.toList->(∀b o,b≠S->s.heap.get? b=some o->h'.get? b=some o)->h'.get? S=some {cls:=.type "list",dict:=none,data:=.seq acc c,slots:=#[]}->ItemsOf (jmx vs) acc vs.length->R (.ok (.ret res)) {s with heap:=h',toks:=tk,drawn:=dr}) :
  Az (Ba prog w) A.in1 (Dk (.ref S) (.ref a) res)
   (λfin s'=>match fin with | .done f=>R (.ok f) s' | .again c'=>c'.quiet=true/\F9 (Ba prog w) A c' R s') (λe s'=>R (.error e) s') s:=by
 unfold Dk;refine Aa (F7 (T:="set") hs.typeIs ?_);have h1:Gf (.ref S) (.ref a)=false:=by simp[Gf,hSa]
 have h2:(Dx "set"==Dx "list")=false:=by decide
 have h3:(Dx "set"==Dx "tuple")=false:=by decide
 simp only[h1,h2,h3,Bool.or_false,B9,if_false];refine Aa (jw8 (A:=A.in1) hs h64 λh' dr I vs hp hk hw=>?_);obtain⟨hI,fp,St,hf1,hf2,W,st⟩:=hw;have hSlt:S < s.heap.objs.size:=Ao hS;have hSf:S∉fp:=λhm=>(hf1 S hm).elim hSa λz=>Er _ (Bn hSlt z);have hS1:=hk S _ hS;have hlen:vs.length=es.size:=by rw[hp.length_eq,Co]
 have key:∀(h:Heap) (c₁ tk:Nat),St 0 h->(∀b o,b≠S->s.heap.get? b=some o->h.get? b=some o) ->
   h.get? S=some {cls:=.type "list",data:=.seq #[] c₁}->F9 (Ba prog w) A (.builtin "list.extend.loop" ⟨[.ref S,.ref I,res],[]⟩) R {s with heap:=h,toks:=tk,drawn:=dr}:=by
  intro h c₁ tk hst hk2 hS₁;refine codeAny_extend_loopS (W A.in1 hh).toS (by rw[hlen,Fh];omega) S hSf res vs.length 0 _ #[] c₁ rfl (A3 _) hst hS₁ (ItemsOf.nil _) λs' acc' c' hm hS' hacc=>?_;rw[Moved.eq_with hm];refine hR s'.heap s'.toks dr vs acc' c' hp (λb o hb e=>hm.heap b o (λhmem=>?_) (hk2 b o hb e)) hS' hacc;rcases Am.mp hmem with e' | hmem
  ·exact hb e'
  ·have hbI:=Bd.mp hmem;exact absurd (Ao e) (by rw[hbI];exact Nat.not_lt.mpr hI)
 refine Aa (C6 (jw9 (s:={ s with heap:=h',drawn:=dr}) (hs.move λo e=>hk a o e).typeIs ?_));refine wpAny_ite_split (λ_=>?_) (λ_=>Ai ⟨plainId_quiet PySem.F.plain_extend_loop _,key _ 0 _ st (λb o _ e=>hk b o e) hS1⟩);refine Aa (F0 ?_);refine Aa ?_;show Az _ _ (updateSeq S (·.push .none)>>=λ_=>updateSeq S (·.pop)) _ _ _;refine Aa (wpAny_updateSeq hS1 rfl ?_);have hS₂:=Bq (Cq (·.push Bf)) hS1 rfl;refine wpAny_updateSeq (hz:=by seq_fits) hS₂ rfl ?_;have hS₃:=Bq (Cq (·.pop)) hS₂ rfl;refine Ai ⟨plainId_quiet PySem.F.plain_extend_loop _,key _ _ _ ?_ (λb o hb e=>?_) hS₃⟩
 ·refine(W A hh).frame 0 _ _ st λb hb o e=>?_;have hbS:b≠S:=λh=>hSf (h▸hb);exact(Dp _ _ (Ne.symm hbS)).trans ((Dp _ _ (Ne.symm hbS)).trans e)
 ·exact(Dp _ _ (Ne.symm hb)).trans ((Dp _ _ (Ne.symm hb)).trans (hk b o e))
theorem jox {vs:List (Int×Ah)} {acc:Array Ah} (h:ItemsOf (jmx vs) acc vs.length):acc.toList=vs.map (·.2):=by
 apply List.ext_getElem?;intro i;by_cases hi:i < vs.length
 ·have hi2:i < acc.size:=by rw[h.1];exact hi
  obtain⟨e,e1,e2⟩:=h.2 i acc[i] (E5 hi2);rw[A7,e1,Array.getElem?_toList,E5 hi2,e2];rfl
 ·rw[List.getElem?_eq_none (by rw[Co,h.1];omega),List.getElem?_eq_none (by rw[Ae];omega)]
theorem jpo {R:List Ah->Ak->Prop} (hh:A.handled=none) (hs:SetTb w s.heap a es ep t) (h64:es.size < 64)
  (h:∀(h':Heap) (tk:Nat) (dr:Drawn) (vs:List (Int×Ah)),vs.Perm es.toList->(∀b o,s.heap.get? b=some o->h'.get? b=some o)->R (vs.map (·.2)) {s with heap:=h',toks:=tk,drawn:=dr}) :
  Az (Ba prog w) A (collect (.ref a)) R E s:=by
 unfold collect;refine Aa (wpAny_runValue (Fx jkp ?_));rw[Eu PySem.F.plain_proto_collect _];show Az _ A.in1 (newList []>>=λl=>again (.builtin "list.__iadd__" ⟨[l,.ref a],[]⟩)) _ _ s;refine Aa (Bg ?_);refine Ai ⟨plainId_quiet PySem.F.plain_list_iadd _,Fx jp4 ?_⟩;rw[Eu PySem.F.plain_list_iadd _];have hS₁:(s.heap.push {cls:=.type "list",data:=.seq ([]:List Ah).toArray}).get? s.heap.objs.size=some {cls:=.type "list",data:=.seq #[]}:=As _ rfl;show Az _ A.in1 (Dk (.ref s.heap.objs.size) (.ref a) (.ref s.heap.objs.size)) _ _ _;have key:=jqy (prog:=prog) (A:=A) (s:={ s with heap:=s.heap.push {cls:=.type "list",data:=.seq ([]:List Ah).toArray}})
  (R:=λ(q:Result) (s':Ak)=>∃(h':Heap) (tk:Nat) (dr:Drawn) (vs:List (Int×Ah)) (acc':Array Ah) (c':Nat),q=.ok (.ret (.ref s.heap.objs.size))/\s'={ s with heap:=h',toks:=tk,drawn:=dr}/\vs.Perm es.toList /\
   (∀b o,s.heap.get? b=some o->h'.get? b=some o)/\h'.get? s.heap.objs.size=some {cls:=.type "list",dict:=none,data:=.seq acc' c',slots:=#[]}/\ItemsOf (jmx vs) acc' vs.length)
  hh (hs.move λo e=>Ad _ e) h64 s.heap.objs.size (D5 hs.lt) (.ref s.heap.objs.size) hS₁
  (λh' tk dr vs acc' c' hp hk hS' hacc=>⟨h',tk,dr,vs,acc',c',rfl,rfl,hp,λb o e=>hk b o (Bc (Ao e)) (Ad _ e),hS',hacc⟩)
 refine Dq key (λfin s' x=>?_) λe s' x=>?_
 ·cases fin with
  |done f =>
   obtain⟨h',tk,dr,vs,acc',c',e,rfl,hp,hk,hS',hacc⟩:=x;cases e;show Az _ A (load s.heap.objs.size>>=_) _ _ _;refine Aa (wpAny_load hS' ?_);refine Ai ?_;rw[jox hacc];exact h h' tk dr vs hp hk
  |again c₁ =>
   refine⟨x.1,codeAny_mono x.2 λq s₂ y=>?_⟩;obtain⟨h',tk,dr,vs,acc',c',rfl,rfl,hp,hk,hS',hacc⟩:=y;show Az _ A (load s.heap.objs.size>>=_) _ _ _;refine Aa (wpAny_load hS' ?_);refine Ai ?_;rw[jox hacc];exact h h' tk dr vs hp hk
 ·obtain⟨_,_,_,_,_,_,z,_⟩:=x;cases z
end
def set0 (w:B3):Obj:={ cls:=.type "set",dict:=none,data:=.set #[] 0 (.fresh 0 0 (!byTx w))}
section
variable {prog:Bm} {w:B3} {A:B8} {E:Ah->Ak->Prop} {s:Ak}
theorem jxo {h:Heap} {a:Addr} (e:h.get? a=some (set0 w)):jic w h a [] :=
 ⟨#[],0,.fresh 0 0 (!byTx w),⟨⟨_,e,⟨rfl,rfl,rfl⟩,rfl⟩,rfl,rfl,λ_=>rfl⟩,λe he=>by simp at he,List.Pairwise.nil,λk=>by simp[ksOf],Al _⟩
theorem jzs (a:Ah) {Q₁:Ah->Ak->Prop} (h:Q₁ (.ref s.heap.objs.size) {s with heap:=s.heap.push (set0 w)}) :
  F9 (Ba prog w) A (.call (.builtin "set.__new__") ⟨[.type "set",a],[]⟩) (wants Q₁ E) s:=by
 refine codeAny_of_tree ?_;show Az _ A.in1 (do checkBuiltinCall "set.__new__" ⟨[.type "set",a],[]⟩;again (.builtin "set.__new__" ⟨[.type "set",a],[]⟩)) _ _ s;refine Aa (wpAny_of_eq (F.newCall_set_1 a) (Ai ⟨plainId_quiet F.plain_set_new _,Fx F.entry_set_new ?_⟩));rw[Eu F.plain_set_new _];unfold D4.«set.__new__» Builtin.Frozenset.newClass;have hsub:=sub_set_self;obtain⟨hp,g,d,tk,os⟩:=s;dsimp only
 wp_walk
 refine wpAny_askSetting (Ai ?_);dsimp only;simp only[newObj];exact Aa (wpAny_alloc (Ai (Ai h)))
structure TxSrc (prog:Bm) (w:B3) (T:String) (x:Addr) (ks:List Str) (OK:Heap->Prop):Prop where
 type:∀s:Ak,OK s.heap->s.TypeIs (.ref x) T
 there:∀h:Heap,OK h->x < h.objs.size
 keep:∀h h':Heap,OK h->(∀o,h.get? x=some o->h'.get? x=some o)->OK h'
 notSet:isSubtype (.type T) (.type "set")=pure false
 notFrozen:isSubtype (.type T) (.type "frozenset")=pure false
 notDict:(Dx T==Dx "dict")=false
 iter:∀s:Ak,OK s.heap->∃(oI:Obj) (St:Nat->Heap->Prop),
  (∀(A:B8) (E:Ah->Ak->Prop) (Q:Ah->Ak->Prop),Q (.ref s.heap.objs.size) {s with heap:=s.heap.push oI}->Az (Ba prog w) A (pyIter (.ref x)) Q E s) /\
  (∀A:B8,A.handled=none->Walks prog w A s.heap.objs.size [s.heap.objs.size,x] [s.heap.objs.size] ks.length (SeqV ks) St)/\St 0 (s.heap.push oI)
set_option maxHeartbeats 3200000 in
theorem jmm {T:String} {x:Addr} {ks:List Str} {OK:Heap->Prop} {Q:Ah->Ak->Prop} (K:TxSrc prog w T x ks OK) (hh:A.handled=none) (hok:OK s.heap) (h64:ks.length < 64)
  (h:∀(h':Heap) (tk:Nat),jic w h' s.heap.objs.size ks->(∀b o,b < s.heap.objs.size->s.heap.get? b=some o->h'.get? b=some o)->Q (.ref s.heap.objs.size) {s with heap:=h',toks:=tk}) :
  Az (Ba prog w) A (call (.type "set") [.ref x]) Q E s:=by
 obtain⟨c,tl,hmro⟩:=F.called_set.mro;have hmade:=F.called_set.made;have hsub:=F.called_set.sub;refine wpAny_call (codeAny_of_tree ?_);show Az _ _ (callAny (.type "set") _) _ _ _;refine Ai ⟨Code.quiet_builtin _ (by decide +kernel),Fx F.entry_type_call ?_⟩;rw[Around.under_plain (weight_type_call_type "set" [.ref x] []) rfl];have h1:=F.called_set.notType;have h2:=F.called_set.canCreate;have hct:=F.typeCall_set_1 (.ref x)
 repeat (any_goals (first | assumption | wp_step))
 refine codeAny_mono (jzs (.ref x) (E:=E) (Q₁:=λobj s₁=>obj=.ref s.heap.objs.size/\s₁={ s with heap:=s.heap.push (set0 w)}) ⟨rfl,rfl⟩) λr s₁ hr=>?_;cases r with
 |error e=>exact hr
 |ok fl =>
  cases fl with
  |ret obj =>
   obtain⟨rfl,rfl⟩:=hr;have hS:(s.heap.push (set0 w)).get? s.heap.objs.size=some (set0 w):=As _ rfl;have hT:Shared.TypeIs {s with heap:=s.heap.push (set0 w)} (.ref s.heap.objs.size) "set":=⟨_,hS,rfl⟩;have hli:=F.called_set.init.lookup;have hbi:=F.called_set.init.bind (.ref s.heap.objs.size)
   repeat (any_goals (first | assumption | wp_step))
   refine codeAny_mono (codeAny_call_builtin (R:=wants (λr s₂=>r=.none/\∃h' tk,s₂={ s with heap:=h',toks:=tk}/\jic w h' s.heap.objs.size ks /\
     (∀b o,b < s.heap.objs.size->s.heap.get? b=some o->h'.get? b=some o)) E) F.called_set.init.plain F.entry_set_init (check_set_init_1 hT ?_)) λr₂ s₂ hr₂=>?_
   ·have hok1:OK (s.heap.push (set0 w)):=K.keep _ _ hok λo e=>Ad _ e;have hTx:Shared.TypeIs {s with heap:=s.heap.push (set0 w)} (.ref x) T:=K.type {s with heap:=s.heap.push (set0 w)} hok1;have hsls:=K.notSet;have hslf:=K.notFrozen;have hne:=K.notDict;unfold D4.«set.__init__» noKeywords Builtin.Frozenset.updateFrom;generalize hPI:pyIter=PI
    wp_walk
    subst hPI;have hh3:A.in1.in1.in1.handled=none:=by simp[hh]
    obtain⟨oI,St,hit,W,st⟩:=K.iter {s with heap:=s.heap.push (set0 w)} hok1;refine hit _ _ _ ?_;refine Aa (wpAny_runValue ?_);have hxS:x < s.heap.objs.size:=K.there _ hok;have hSf:s.heap.objs.size∉[(s.heap.push (set0 w)).objs.size,x]:=by
     rw[Bx];simp only[Am,Bd,Ar,or_false,not_or];exact⟨Bc (Gb _),D5 hxS⟩
    refine jw7 (W _ hh3).toS s.heap.objs.size hSf rfl h64 (ks.length - 0) 0 _ (by omega) (A3 _) st (jxo (Ad _ hS)) ?_;intro s' hm hS';obtain⟨h',g',d',tk',os'⟩:=s';have eg:g'=s.gens:=hm.gens;have ed:d'=s.drawn:=hm.drawn;have eo:os'=s.os:=hm.os;subst eg;subst ed;subst eo;show Az _ _ _ _ _ _;refine Ai ?_;show Az _ _ (ret Bf) _ _ _;refine Ai ⟨rfl,h',tk',rfl,hS',λb o hb e=>?_⟩;have hb1:b≠s.heap.objs.size:=Bc hb;have hb2:b≠(s.heap.push (set0 w)).objs.size:=by
     rw[Bx];exact Bc (Et hb)
    exact hm.heap b o (by simp only[Am,Bd,Ar,or_false,not_or];exact⟨hb1,hb2⟩) (Ad _ (Ad _ e))
   ·cases r₂ with
    |error e=>exact hr₂
    |ok fl₂ =>
     cases fl₂ with
     |ret r =>
      obtain⟨rfl,h',tk,rfl,hS',hk'⟩:=hr₂
      repeat (any_goals (first | assumption | wp_step))
      exact h _ _ hS' hk'
     |_=>exact hr₂.elim
  |_=>exact hr.elim
theorem jtz {x:Addr} {ks:List Str} {items:Array Ah} (hk:∀i v,items[i]?=some v->SeqV ks i v) (hl:items.size=ks.length):TxSrc prog w "list" x ks (λh=>h.IsList x items) where
 type:=λs h=>h.typeIs
 there:=λh hl=>let⟨_,e,_⟩:=hl;Ao e
 keep:=λh h' hl k=>let⟨o,e,r⟩:=hl;⟨o,k o e,r⟩
 notSet:=by rw[Fi];kernel_rfl
 notFrozen:=by rw[Fi];kernel_rfl
 notDict:=by decide
 iter:=λs hok=>⟨_,(λi h=>h.IsListIter s.heap.objs.size x i/\h.IsList x items),(λA E Q hq=>wpAny_pyIter_list hok hq),(λA hh=>by
  have W:=Walks.list (prog:=prog) (w:=w) hh s.heap.objs.size x (Bc (let⟨_,e,_⟩:=hok;Ao e)) items;refine⟨W.sub,W.frame,λi s Q E hi st hQ=>W.item i s Q E (by rw[hl];exact hi) st λv h' tk hv a b=>hQ v h' tk (hk i v hv) a b,?_,W.self⟩;rw[<-hl];exact W.done),⟨⟨_,As _ rfl,rfl,rfl⟩,hok.push _⟩⟩
theorem jq4 {x:Addr} {ks:List Str} {items:Array Ah} (hk:∀i v,items[i]?=some v->SeqV ks i v) (hl:items.size=ks.length):TxSrc prog w "tuple" x ks (λh=>h.IsTuple x items) where
 type:=λs h=>h.typeIs
 there:=λh hl=>let⟨_,e,_⟩:=hl;Ao e
 keep:=λh h' hl k=>let⟨o,e,r⟩:=hl;⟨o,k o e,r⟩
 notSet:=by rw[Fi];kernel_rfl
 notFrozen:=by rw[Fi];kernel_rfl
 notDict:=by decide
 iter:=λs hok=>⟨_,(λi h=>h.IsTupleIter s.heap.objs.size x i/\h.IsTuple x items),(λA E Q hq=>F1 hok hq),(λA hh=>by
  have W:=Walks.tuple (prog:=prog) (w:=w) hh s.heap.objs.size x (Bc (let⟨_,e,_⟩:=hok;Ao e)) items;refine⟨W.sub,W.frame,λi s Q E hi st hQ=>W.item i s Q E (by rw[hl];exact hi) st λv h' tk hv a b=>hQ v h' tk (hk i v hv) a b,?_,W.self⟩;rw[<-hl];exact W.done),⟨⟨_,As _ rfl,rfl,rfl⟩,hok.push _⟩⟩
end
def setO (w:B3) (v:Addr) (ks:List Str):HO:=.ext λh=>jic w h v ks
def jri (w:B3):List V->Hp->VK->Prop:=λxs H Q=>∃(a:Addr) (ks:List Str),xs=[.ref a]/\(H a=some (.lst (ks.map V.str))\/H a=some (.tup (ks.map V.str)))/\ks.length < 64/\∀v,H v=none->Q (.ref v) (upd H v (setO w v ks))
theorem jre {ks:List Str} {vs:List Ah} (h:Vals (ks.map V.str) vs) (i:Nat) (v:Ah) (e:vs.toArray[i]?=some v):SeqV ks i v:=by
 have e':vs[i]?=some v:=by simpa using e
 have hl:=h.length;rw[Ae]at hl;have hi:i < ks.length:=by rw[hl];exact(A6.mp e').1
 obtain⟨u,hu,ru⟩:=h.get (show(ks.map V.str)[i]?=some (V.str ks[i]) by rw[A7,Ag hi];rfl);rw[e']at hu;cases hu;obtain⟨t,ht⟩:=ru;exact⟨ks[i],t,Ag hi,ht⟩
theorem jrc {ks:List Str} {vs:List Ah} (h:Vals (ks.map V.str) vs):vs.toArray.size=ks.length:=by
 have hl:=h.length;rw[Ae]at hl;rw[Av,<-hl]
theorem jp8 {X:Cx} (hh:X.A.handled=none):CallR X (.type "set") (jri X.w):=by
 intro pins s σ H xs us Q I r h;obtain⟨a,ks,rfl,ha,h64,q⟩:=h;obtain⟨u,rfl,ru⟩:=jin r;cases(show u=Bw a from ru);have fin:∀(h':Heap) (tk:Nat),jic X.w h' s.heap.objs.size ks->(∀b o,b < s.heap.objs.size->s.heap.get? b=some o->h'.get? b=some o)->EP X pins σ Q (.ref s.heap.objs.size) {s with heap:=h',toks:=tk}:=λh' tk hS hk=>by
  have hob:∃o,h'.get? s.heap.objs.size=some o:=by
   obtain⟨es,ep,t,T,_⟩:=hS;obtain⟨o,e,_⟩:=T.obj;exact⟨o,e⟩
  refine⟨.ref s.heap.objs.size,_,I.laid (t':=tk) (o:=setO X.w s.heap.objs.size ks) (λb o e=>hk b o (Ao e) e) (Al _) ⟨hS,hob,λh1 h2 q k=>?_⟩,rfl,q _ (I.hok.fresh (Al _))⟩;obtain⟨es,ep,t,T,r⟩:=q;exact⟨es,ep,t,T.move λo e=>k _ e,r⟩
 rcases ha with ha | ha
 ·obtain⟨hl,vs,c,hv,hL⟩:=I.hok a _ ha;exact jmm (jtz (jre hv) (jrc hv)) hh ⟨_,hL,rfl,_,rfl⟩ h64 fin
 ·obtain⟨hl,vs,hv,o,ho,hc,⟨n,hd⟩,_⟩:=I.hok a _ ha;exact jmm (jq4 (jre hv) (jrc hv)) hh ⟨o,ho,hc,n,hd⟩ h64 fin
theorem Inv.drew {X:Cx} {pins:List (Addr×Obj)} {σ:St} {H:Hp} {s:Ak} (I:Inv X pins σ H s) (dr:Drawn):Inv X pins σ H {s with drawn:=dr}:=⟨I.ok,I.os,I.bare,I.base,I.loc,I.cell,I.free,I.freeC,I.pin,I.hok,I.len⟩
theorem jpp {X:Cx} {pins:List (Addr×Obj)} {σ:St} {H:Hp} {s:Ak} {h':Heap} {tk:Nat} {vs:List Ah} {ks:List Str} {Q:VK} (I:Inv X pins σ H s) (hkp:∀b o,s.heap.get? b=some o->h'.get? b=some o) (hT:TxOk vs ks) (h64:ks.length < 64)
  (q:∀(D:Addr) (ys:List Str),ys.Perm ks->ys.Pairwise (λa b=>¬b.cps.toList < a.cps.toList)->H D=none->Q (.ref D) (upd H D (.lst (ys.map V.str)))) :
  vs.length<=Ay/\Az (Ba X.prog X.w) X.A.in1.in1 (D4.«list.sort» ⟨[.ref h'.objs.size],[]⟩) (λf s2=>f=.done (.ret .none)/\EP X pins σ Q (.ref h'.objs.size) s2) X.xe {s with heap:=h'.push (C7 "list" vs.toArray 0),toks:=tk}:=by
 have hl:=hT.1;refine⟨by rw[hl];exact jdv (by omega),?_⟩;have hoL:(h'.push (C7 "list" vs.toArray 0)).get? h'.objs.size=some (C7 "list" vs.toArray 0):=As _ rfl;have hs':∀b o,s.heap.get? b=some o->b≠h'.objs.size:=λb o e=>Bc (Ao (hkp b o e));have fin:∀(idx:List Nat) (h3:Heap) (c:Nat),idx.Perm (B4 ks.length)->(idx.map λi=>ks.getD i ⟨#[]⟩).Pairwise (λa b=>¬b.cps.toList < a.cps.toList) ->
   (∀b o,b≠h'.objs.size->(h'.push (C7 "list" vs.toArray 0)).get? b=some o->h3.get? b=some o)->h3.get? h'.objs.size=some (C7 "list" (Da (idx.map λi=>vs.getD i Bf)) c)->EP X pins σ Q (.ref h'.objs.size) {s with heap:=h3,toks:=tk}:=λidx h3 c hp hw k3 hL=>by
  have I1:Inv X pins σ H {s with heap:=h',toks:=tk}:=I.kept hkp;have hn:H h'.objs.size=none:=I1.hok.fresh (Al _);refine⟨.ref h'.objs.size,_,I1.laid (t':=tk) (h':=h3) (o:=.lst ((idx.map λi=>ks.getD i ⟨#[]⟩).map V.str)) (λb o e=>k3 b o (Bc (Ao e)) (Ad _ e)) (Al _) ⟨?_,_,c,jl2 hT idx (λi hi=>Dy.mp (hp.mem_iff.mp hi)),hL⟩,rfl,q _ _ (jrv hp) hw hn⟩;rw[Ae,Ae,hp.length_eq,List.length_range];exact jdv (by omega)
 by_cases h2:2<=vs.length
 ·refine KS.ls_sort (s:={ s with heap:=h'.push (C7 "list" vs.toArray 0),toks:=tk}) hoL h2 (by omega) λe1 h4 ha4 k4=>?_;refine kas_kind (s:={ s with heap:=h4,toks:=tk}) (T:=Dx "str") h2 (λf hf=>?_) rfl rfl ?_
  ·obtain⟨j,hj⟩:=List.mem_iff_getElem?.mp hf;obtain⟨k,t,_,rfl⟩:=hT.2 j f hj;exact .now
  ·have hn:0 < vs.length:=by omega
   have hwi:=KS.wi_sort hn;refine KS.wp_run (n:=vs.length) (P:=KS.Pm vs.length) (c:=KS.ltK ks) (St:=λs'=>s'={ s with heap:=h4,toks:=tk}) (λi j C s' hi hj hs hC=>?_) _ _ hwi rfl λs' hs'=>?_
   ·subst hs;obtain⟨k1,t1,a1,a2⟩:=hT.2 i vs[i] (Ag hi);obtain⟨k2,t2,b1,b2⟩:=hT.2 j vs[j] (Ag hj);unfold kas_ask;have g1:vs.getD i Bf=.str k1 t1:=by simp[hi,a2]
    have g2:vs.getD j Bf=.str k2 t2:=by simp[hj,b2]
    rw[g1,g2];have c1:ks.getD i ⟨#[]⟩=k1:=by simp[a1]
    have c2:ks.getD j ⟨#[]⟩=k2:=by simp[b1]
    have:=hC _ rfl;unfold KS.ltK at this;rw[c1,c2]at this;exact kas_lt_str this
   ·subst hs';refine⟨ha4,λh3 c sb hL3=>⟨rfl,?_⟩⟩;have hpm:KS.Pm vs.length (KS.run (KS.ltK ks) (kas_sort vs.length)):=KS.Wi.out _ hwi;have hsp:=KS.sort_ok (KS.ordK ks) (n:=vs.length) hn;have hsz:=hpm.size;have hidx:(KS.run (KS.ltK ks) (kas_sort vs.length)).toList.Perm (B4 vs.length):=by
     have:=Array.perm_iff_toList_perm.mp hpm;simpa using this
    refine fin _ h3 c (by rw[<-hl];exact hidx) (j3f hsz hsp) (λb o hb e=>(sb.2 b hb).trans (k4 b o hb e)) hL3
 ·refine KS.ls_short (s:={ s with heap:=h'.push (C7 "list" vs.toArray 0),toks:=tk}) hoL (by omega) λh4 c ha4 k4=>⟨rfl,?_⟩;have el:vs=(B4 ks.length).map λi=>vs.getD i Bf:=by
   apply List.ext_getElem (by simp[hl]);intro i h1 h2;simp[h1]
  have ha5:h4.get? h'.objs.size=some (C7 "list" (Da ((B4 ks.length).map λi=>vs.getD i Bf)) c):=by rw[<-el];exact ha4
  refine fin (B4 ks.length) h4 c (List.Perm.refl _) ?_ k4 ha5;have:(B4 ks.length).length<=1:=by simp;omega
  match hr:B4 ks.length,this with
  |[],_=>exact .nil
  |[i],_=>exact Gu _ _
def jj8 (w:B3):List V->Hp->VK->Prop:=λxs H Q=>∃(v:Addr) (ks:List Str),xs=[.ref v]/\H v=some (setO w v ks)/\ks.length < 64 /\
 ∀(D:Addr) (ys:List Str),ys.Nodup->(∀k,k∈ys↔k∈ks)->ys.Pairwise (λa b=>¬b.cps.toList < a.cps.toList)->H D=none->Q (.ref D) (upd H D (.lst (ys.map V.str)))
theorem jw0 {w:B3} {es vs:List (Int×Ah)} (h:∀e∈es,∃k t,e.2=.str k t/\e.1=hashStr w k) (p:vs.Perm es):TxOk (vs.map (·.2)) (vs.map λe=>txOf e.2):=by
 refine⟨by rw[Ae,Ae],λj v hj=>?_⟩;rw[A7]at hj;cases e:vs[j]? with
 |none=>rw[e]at hj;cases hj
 |some x =>
  rw[e]at hj;obtain⟨k,t,e1,_⟩:=h x (p.mem_iff.mp (B5 e));have hv:x.2=v:=Bj hj;refine⟨k,t,?_,hv▸e1⟩;rw[A7,e];show some (txOf x.2)=some k;rw[e1];rfl
theorem jml {X:Cx} (hh:X.A.handled=none):CallR X (.builtin "sorted") (jj8 X.w):=by
 intro pins s σ H xs us Q I r h;obtain⟨v,ks,rfl,hv,h64,q⟩:=h;obtain⟨u,rfl,ru⟩:=jin r;cases(show u=Bw v from ru);obtain⟨es,ep,t,T,hx,nd,hm,hl⟩:=(I.hok v _ hv).1;have h64':es.size < 64:=Gq hl h64;refine KS.sorted_of (R:=λvs s1=>∃(h':Heap) (tk:Nat) (dr:Drawn) (ys:List Str),s1={ s with heap:=h',toks:=tk,drawn:=dr}/\(∀b o,s.heap.get? b=some o->h'.get? b=some o)/\TxOk vs ys/\ys.Nodup/\(∀k,k∈ys↔k∈ks)/\ys.length < 64)
  (jpo hh T h64' λh' tk dr vs hp hk=>?_) ?_
 ·have pk:(vs.map λe=>txOf e.2).Perm (ksOf es):=List.Perm.map (λe:Int×Ah=>txOf e.2) hp;exact⟨h',tk,dr,vs.map λe=>txOf e.2,rfl,hk,jw0 hx hp,pk.nodup_iff.mpr nd,λk=>pk.mem_iff.trans (hm k),by rw[Ae,hp.length_eq,Co];exact h64'⟩
 rintro vs s1 ⟨h',tk,dr,ys,rfl,hkp,hT,nd',hm',h64'⟩
 exact jpp (s:={ s with drawn:=dr}) (I.drew dr) hkp hT h64' λD zs hp hw hD=>q D zs (hp.nodup_iff.mpr nd') (λk=>hp.mem_iff.trans (hm' k)) hw hD
end L2
namespace DL
open PySem L2 Nb
section
variable {X:Cx} {o:Expr} {td:TE} {wd':DT} {pos p p2 ip:Pos} {W:B3}
def upT (ys:List Str):Prop:=ys.Pairwise λa b=>¬b.cps.toList < a.cps.toList
def jcp (w:DT):DTF:=λδ n Q=>w δ n λx n1=>∃ks:List Str,(x=.d (.list (ks.map .str))\/x=.d (.tuple (ks.map .str)))/\ks.length < 64/\(∀k∈ks,k.length<=1000) /\
 ∀ys:List Str,ys.Nodup->(∀k,k∈ys↔k∈ks)->upT ys->Q (ys.map .str) n1
theorem jwd {α:Type}:∀{xs ys:List α},xs.Nodup->(∀x∈xs,x∈ys)->xs.length<=ys.length
 |[],_,_,_=>A3 _
 |x::xs,ys,nd,h=>by
  obtain⟨h1,h2⟩:=Fp.mp nd;obtain⟨l,r,e⟩:=List.append_of_mem (h x Au);have:=jwd (ys:=l++r) h2 λz hz=>by
   have hm:=h z (Aw _ hz);rw[e]at hm;rcases A8.mp hm with q | q
   ·exact D3 _ q
   ·rcases Am.mp q with q | q
    ·exact absurd (q▸hz) h1
    ·exact Bb _ q
  rw[e];simp only[A1,Ap]at this ⊢;omega
theorem jee {H:Hp} {B:Addr->Prop}:∀{xs:List V} {ks:List Str},RdXs H B xs (ks.map .str)->xs=ks.map V.str
 |[],[],_=>rfl
 |_::_,[],h=>nomatch h
 |[],_::_,h=>nomatch h
 |x::xs,k::ks,.cons h t=>by
  cases h;rw[jee t];rfl
theorem jsu (hh:X.A.handled=none) (hg:Gl X "sorted") (hm:X.mg "sorted"=none) (hg2:Gl X "set") (hm2:X.mg "set"=none) (ho:DE X o td wd') (hW:X.w=W:=by rfl) (hv:By "sorted"=some (.builtin "sorted"):=by decide +kernel) (hv2:By "set"=some (.type "set"):=by decide +kernel)
  (he2:Ax [o] X.env=(false,eval o X.env)::Ax [] X.env:=by rfl) (hpl2:(D9 ip (Ax [] X.env)).any (·.1)=false:=by rfl)
  (he':Ax [Expr.Call (.Name "set" p2) [o] [] ip] X.env=(false,eval (Expr.Call (.Name "set" p2) [o] [] ip) X.env)::Ax [] X.env:=by rfl) (hpl:(D9 pos (Ax [] X.env)).any (·.1)=false:=by rfl) :
  DF X (.Call (.Name "sorted" p) [.Call (.Name "set" p2) [o] [] ip] [] pos) (tCB (jj8 W) (jb2 (tCB (jri W) (jb2 td tNil)) tNil)) (jcp wd'):=by
 subst hW;refine⟨jdx (jml hh) hg hm hv (jas (jhe (jp8 hh) hg2 hm2 hv2 (jas ho.pe jbm he2) (by decide) (by decide) he2 hpl2) jbm he') (by decide) (by decide) he' hpl,λC H B σ δ n Q Q' R q k =>
  ho.sd C H B σ δ n _ _ R q λv x H1 n1 R1 k1 r1 q1=>?_⟩
 obtain⟨ks,hx,h64,hk,kq⟩:=q1;have key:∀a:Addr,v=.ref a->(H1 a=some (.lst (ks.map V.str))\/H1 a=some (.tup (ks.map V.str)))->tCB (jj8 X.w) (jb2 (λσ H Q=>jri X.w [v] H Q) tNil) σ H1 Q':=λa ea ha=>by
  subst ea;refine⟨a,ks,rfl,ha,h64,λu hu=>⟨u,ks,rfl,jaj,h64,λD ys nd hm hw hD=>?_⟩⟩;have R2:=R1.new (o:=setO X.w u ks) hu;have hD1:H1 D=none:=by
   cases e:H1 D with
   |none=>rfl
   |some ob =>
    have:upd H1 u (setO X.w u ks) D=some ob:=by rw[jag (jaf e hu)];exact e
    rw[hD]at this;cases this
  have hy:∀y∈ys,y.length<=1000:=λy hy=>hk y ((hm y).mp hy);refine k D _ _ _ n1 (R2.new hD) ((k1.trans (Kp.new hu)).trans (Kp.new hD)) (R1.was k1 hD1) jaj ?_ (jnl hy) (kq ys nd hm hw);rw[Ae];have:ys.length<=ks.length:=jwd nd λy hy=>(hm y).mp hy;exact jdv (by omega)
 rcases hx with rfl | rfl
 ·cases(show RdX H1 B v (.list (ks.map .str))from r1)with
  |@lst a xs _ e1 e2 e3 e4=>exact key a rfl (.inl (by rw[e1,jee e4]))
 ·cases(show RdX H1 B v (.tuple (ks.map .str))from r1)with
  |@tup a xs _ e1 e2 e3 e4=>exact key a rfl (.inr (by rw[e1,jee e4]))
variable {a:Expr} {ta:TE} {wa:DT} {K:Aj}
end
section
variable {X:Cx} {a b c e o i f:Expr} {ta tb te td ty tx:TE} {wa wb we wd' wy wx:DT} {pos p:Pos} {K:Aj}
def jfa (i:Nat):DT:=λδ n Q=>match δ[i]? with
 |some (some (.own ds))=>Q (.ln ds) n
 |some (some (.w x))=>Q x n
 |_=>False
theorem j2e (i:Nat) {x:Str} {p:Pos} (hN:X.N[i]?=some x:=by rfl) (hv:Vis X.env.scope x:=by first | exact Du rfl | exact Cw (Du rfl) | exact Cw (Cw rfl)) (hd:(x==("__debug__":Str))=false:=by decide)
  (hcd:(x==("__classdict__":Str))=false:=by decide):DE X (.Name x p) (tVar i) (jfa i):=⟨jf5 hN hv hd hcd,λC H B σ δ n Q Q' R h k=>by
 unfold jfa at h
 split at h
 ·rename_i ds e;obtain⟨v,h1,a,xs,rfl,g2,g3,g4,g5,g6⟩:=R.sl i _ e;exact⟨_,h1,k _ (.ln ds) H n R (Kp.refl _ _) ⟨a,xs,rfl,g2,λz=>R.t0 (z▸g4),g5,g6⟩ h⟩
 ·rename_i x e;obtain⟨v,h1,h2⟩:=R.sl i _ e;exact⟨v,h1,k v x H n R (Kp.refl _ _) h2.1 h⟩
 ·exact h.elim⟩
def gIxL:Wv->Wv->Int->DQ->Prop:=λx y n Q=>match x with
 |.ln ds=>match y with
  |.d (.int i)=>match atI ds i with
   |some d=>Q (.d d) n
   |none=>False
  |_=>False
 |x=>gIx x y n Q
theorem jxg:SndO (rIx K) gIxL:=λC H B σ δ n x y p q Q Q' R rx ry h1 k=>by
 cases p with
 |ln ds =>
  unfold gIxL at h1;dsimp only at h1
  split at h1
  ·rename_i i
   split at h1
   ·rename_i d e;cases(show RdX H B y (.int i)from ry);obtain⟨ay,ys,rfl,e1,e2,e3,e4⟩:=rx;obtain⟨v,f1,f2⟩:=jtf e4 e;exact .inl ⟨ay,ys,i,v,rfl,rfl,SqL.of e1,f1,k _ _ H n R (Kp.refl _ _) (wd f2) h1⟩
   ·exact h1.elim
  ·exact h1.elim
 |d _=>exact jlr C H B σ δ n x y _ q Q Q' R rx ry h1 k
 |tp=>exact jlr C H B σ δ n x y _ q Q Q' R rx ry h1 k
 |dk _=>exact jlr C H B σ δ n x y _ q Q Q' R rx ry h1 k
 |ob _=>exact jlr C H B σ δ n x y _ q Q Q' R rx ry h1 k
theorem j4f (ha:DE X a ta wa) (hb:DE X b tb wb) (hK:X.K=K:=by rfl) (hs:jk8 b:=by exact λ_ _=>rfl):DE X (.Subscript a b pos) (tOp (rIx K) ta tb) (w2 wa wb gIxL):=by
 subst hK;exact⟨jgp jsl ha.pe hb.pe hs,jlq jxg ha.sd hb.sd⟩
def gInL (neg:Bool):Wv->Wv->Int->DQ->Prop:=λx y n Q=>match y with
 |.ln ds=>match x with
  |.d a=>jhp a=true/\ds.all jhp=true/\Q (.d (.bool (if neg then !inD a ds else inD a ds))) n
  |_=>False
 |y=>gIn neg x y n Q
theorem jxh {neg:Bool}:SndO (rIn K neg) (gInL neg):=λC H B σ δ n x y p q Q Q' R rx ry h1 k=>by
 cases q with
 |ln ds =>
  unfold gInL at h1;dsimp only at h1
  split at h1
  ·rename_i da;obtain⟨f1,f2,q⟩:=h1;have rx:RdX H B x da:=rx;obtain⟨ay,ys,rfl,e1,e2,e3,e4⟩:=ry;refine⟨ay,ys,rfl,.inl (SqL.of e1),jho rx f1,je1 e4 f2,?_⟩;rw[jmg rx e4];exact k _ _ H n R (Kp.refl _ _) (wd (.bl _)) q
  ·exact h1.elim
 |d _=>exact jls C H B σ δ n x y p _ Q Q' R rx ry h1 k
 |tp=>exact jls C H B σ δ n x y p _ Q Q' R rx ry h1 k
 |dk _=>exact jls C H B σ δ n x y p _ Q Q' R rx ry h1 k
 |ob _=>exact jls C H B σ δ n x y p _ Q Q' R rx ry h1 k
def jfn:List Wv->Int->DQ->Prop:=λxs n Q=>match xs with
 |[.ln ds]=>Q (.d (.int ds.length)) n
 |xs=>gLen xs n Q
theorem jt2:SndB (jxq K) jfn:=λC H B σ δ n vs xs Q Q' R r h k=>by
 unfold jfn at h
 split at h
 ·rename_i ds;cases r with
  |cons r1 r2 =>
   cases r2;obtain⟨ay,ys,rfl,e1,e2,e3,e4⟩:=r1;refine .inr ⟨ay,ys,rfl,.inl (SqL.of e1),?_⟩;rw[e4.len];exact k _ _ H n R (Kp.refl _ _) (wd (.int _)) h
 ·exact jog C H B σ δ n vs xs Q Q' R r h k
def gEqL:Wv->Wv->Int->DQ->Prop:=λx y n Q=>match x,y with
 |.ln ds,.d (.list [])=>Q (.d (.bool ds.isEmpty)) n
 |x,y=>gEq x y n Q
theorem jxj:SndO (rEqK K) gEqL:=λC H B σ δ n x y p q Q Q' R rx ry h1 k=>by
 unfold gEqL at h1
 split at h1
 ·rename_i ds;obtain⟨ax,xs,rfl,e1,e2,e3,e4⟩:=rx;cases(show RdX H B y (.list [])from ry)with
  |@lst ay ys _ f1 f2 f3 f4 =>
   cases f4;refine .inr (.inr ⟨ax,ay,xs,rfl,rfl,SqL.of e1,SqL.of f1,?_⟩);have:xs.isEmpty=ds.isEmpty:=by cases e4<;>rfl
   rw[this];exact k _ _ H n R (Kp.refl _ _) (wd (.bl _)) h1
 ·exact jng C H B σ δ n x y p q Q Q' R rx ry h1 k
def lsOf:Wv->Option (List Ab)
 |.ln ds=>some ds
 |.d (.list ds)=>some ds
 |_=>none
def gCat:Wv->Wv->Int->DQ->Prop:=λx y n Q=>match lsOf x,lsOf y with
 |some i,some j=>i.length+j.length<=Ay/\Q (.d (.list (i++j))) n
 |_,_=>False
theorem jwf {H:Hp} {B:Addr->Prop} {t:Addr} {v:V} {x:Wv} {ds:List Ab} (h:WRel H B t v x) (e:lsOf x=some ds):∃a xs,v=.ref a/\H a=some (.lst xs)/\xs.length<=Ay/\RdXs H B xs ds:=by
 cases x with
 |ln es =>
  cases e;obtain⟨a,xs,h1,h2,h3,h4,h5⟩:=h;exact⟨a,xs,h1,h2,h4,h5⟩
 |d y =>
  cases y with
  |list es =>
   cases e;cases(show RdX H B v (.list ds)from h)with
   |@lst a xs _ e1 e2 e3 e4=>exact⟨a,xs,rfl,e1,e3,e4⟩
  |_=>cases e
 |tp=>cases e
 |dk _=>cases e
 |ob _=>cases e
theorem jxk:SndO rCat gCat:=λC H B σ δ n x y p q Q Q' R rx ry h1 k=>by
 unfold gCat at h1
 split at h1
 ·rename_i i j ei ej;obtain⟨ax,xs,rfl,e1,e3,e4⟩:=jwf rx ei;obtain⟨ay,ys,rfl,f1,f3,f4⟩:=jwf ry ej;obtain⟨hl,q⟩:=h1;have hl':xs.length+ys.length<=Ay:=by rw[e4.len,f4.len];exact hl
  refine⟨ax,ay,xs,ys,rfl,rfl,e1,f1,hl',λpn hp=>?_⟩;refine k _ _ _ n (R.new hp) (Kp.new hp) (wd (show RdX _ B _ (.list (i++j))from .lst jaj (R.nb hp) (by rw[Ap];exact hl') ?_)) q;exact((e4.append f4).fresh hp).less λb z=>.inl z
 ·exact h1.elim
theorem j4j (ha:DE X a ta wa) (hb:DE X b tb wb):DE X (.BinOp a .Add b pos) (tOp rCat ta tb) (w2 wa wb gCat):=d_op jwb jxk ha hb
end
section
variable {X:Cx} {a b c e o i f:Expr} {ta tb te td ty tx:TE} {wa wb we wd' wy wx:DT} {pos p:Pos} {K:Aj}
def sUnp (w:DT) (g:DTG):DST:=λδ n K=>w δ n λx n1=>match x with
 |.d d=>g d δ λδ'=>K.nx δ' n1
 |_=>False
theorem j22 {tg:Expr} {g:TG} {gd:DTG} (he:DE X e te we) (hg:DG X tg g gd) (hs:swapsWithSole [tg] e pos.line X.env=pure false:=by rfl) (hw:swappedStores [tg] e X.env=pure none:=by rfl)
  (h1:(Dr [tg] X.env).map (·.2)=[assign tg X.env]:=by rfl):DS X (.Assign [tg] e pos) (tAsg te g) (sUnp we gd):=⟨jl1 he.pe hg.pg hs hw h1,λC H B σ δ n K D R q E =>
 he.sd C H B σ δ n _ _ R q λv x H1 n1 R1 k1 r1 q1=>by
  cases x with
  |d d=>exact hg.sd C H1 B σ δ n1 v d _ _ R1 r1 q1 λσ' δ' R' q'=>E.nx _ _ _ _ _ R' q'
  |tp=>exact q1.elim
  |dk _=>exact q1.elim
  |ln _=>exact q1.elim
  |ob _=>exact q1.elim⟩
def sqOf:Wv->Option (List Ab)
 |.ln ds=>some ds
 |.d (.list ds)=>some ds
 |.d (.tuple ds)=>some ds
 |_=>none
theorem jzv {H:Hp} {B:Addr->Prop} {t:Addr} {v:V} {x:Wv} {ds:List Ab} (h:WRel H B t v x) (e:sqOf x=some ds):∃a xs,v=.ref a/\(SqL K H a xs\/SqT K H a xs)/\xs.length<=Ay/\RdXs H B xs ds:=by
 cases x with
 |ln es =>
  cases e;obtain⟨a,xs,h1,h2,h3,h4,h5⟩:=h;exact⟨a,xs,h1,.inl (SqL.of h2),h4,h5⟩
 |d y =>
  cases y with
  |list es =>
   cases e;cases(show RdX H B v (.list ds)from h)with
   |@lst a xs _ e1 e2 e3 e4=>exact⟨a,xs,rfl,.inl (SqL.of e1),e3,e4⟩
  |tuple es =>
   cases e;cases(show RdX H B v (.tuple ds)from h)with
   |@tup a xs _ e1 e2 e3 e4=>exact⟨a,xs,rfl,.inr (SqT.of e1),e3,e4⟩
  |_=>cases e
 |tp=>cases e
 |dk _=>cases e
 |ob _=>cases e
def jdd (w:DT):DTF:=λδ n Q=>w δ n λx n1=>match sqOf x with
 |some ds=>Q ds n1
 |none=>False
theorem ju5 (hg:Gl X "list") (hm:X.mg "list"=none) (ho:DE X o td wd') (hK:X.K=K:=by rfl) (he:Ax [o] X.env=(false,eval o X.env)::Ax [] X.env:=by rfl) (hpl:(D9 pos (Ax [] X.env)).any (·.1)=false:=by rfl) :
  DF X (.Call (.Name "list" p) [o] [] pos) (tCB (jrj K) (jb2 td tNil)) (jdd wd') :=
 ⟨jhe (jjq hK) hg hm jny (jas ho.pe jbm he) (by decide) (by decide) he hpl,λC H B σ δ n Q Q' R q k=>ho.sd C H B σ δ n _ _ R q λv x H1 n1 R1 k1 r1 q1=>by
  split at q1
  ·rename_i ds ex;obtain⟨a,xs,rfl,h1,h2,h3⟩:=jzv (K:=K) r1 ex;refine⟨a,xs,rfl,h1,λl hl=>?_⟩;exact k l xs ds _ n1 (R1.new hl) (k1.trans (Kp.new hl)) (R1.was k1 hl) jaj h2 (h3.fresh hl) q1
  ·exact q1.elim⟩
def jbs:List Wv->Int->DQ->Prop:=λxs n Q=>match xs with
 |[.ln ds]=>Q (.d (.tuple ds)) n
 |xs=>jdc xs n Q
theorem jpq:SndB (jnm K) jbs:=λC H B σ δ n vs xs Q Q' R r h k=>by
 unfold jbs at h
 split at h
 ·rename_i ds;cases r with
  |cons r1 r2 =>
   cases r2;obtain⟨ay,ys,rfl,e1,e2,e3,e4⟩:=r1;refine⟨ay,ys,rfl,.inl ⟨SqL.of e1,λl hl=>?_⟩⟩;refine k _ _ _ n (R.new hl) (Kp.new hl) (wd (show RdX _ B _ (.tuple ds)from .tup jaj (R.nb hl) e3 ?_)) h;exact(e4.fresh hl).less λb z=>.inl z
 ·exact jjd C H B σ δ n vs xs Q Q' R r h k
def sExt (i:Nat) (w:DT):DST:=λδ n K=>match δ[i]? with
 |some (some (.own ds))=>w δ n λx n1=>match x with
  |.d (.list es)=>(ds.length < 1000000/\es.length < 1000000)/\K.nx (δ.set i (some (.own (ds++es)))) n1
  |_=>False
 |_=>False
theorem jg1 {n m:Nat} (h:n < 1000000) (h':m < 1000000):n+m<=Ay:=by
 have:2000000<=Ay:=by decide
 omega
theorem j3b {i:Nat} {x:Str} {xp ap cp:Pos} (hN:X.N[i]?=some x) (he:DE X e te we) (hv:Vis X.env.scope x:=by first | exact Du rfl | exact Cw (Du rfl) | exact Cw (Cw rfl)) (hd:(x==("__debug__":Str))=false:=by decide)
  (hcd:(x==("__classdict__":Str))=false:=by decide)
  (hbase:attributeBase (.Name x xp) "extend" X.env (eval (.Name x xp) X.env)=eval (.Name x xp) X.env:=by rfl)
  (hfew:((D9 cp (Ax [e] X.env)).all (λx=>!x.1)&&(backToKw cp (keywordEach [] X.env)).all (λx=>x.1.isSome)
   && decide ([e].length+([]:List Keyword).length+(if ([]:List Keyword).isEmpty then 0 else 1) < 30))=true:=by rfl)
  (hline:(ap.endLine==cp.line)=true:=by rfl) (hs:Ax [e] X.env=[(false,eval e X.env)]:=by rfl) (hplain:(D9 cp (Ax [] X.env)).any (·.1)=false:=by rfl)
  (hsw:F2 (.Call (.Attribute (.Name x xp) "extend" ap) [e] [] cp) none pos.line X.env=pure false:=by rfl) :
  DS X (.Expr (.Call (.Attribute (.Name x xp) "extend" ap) [e] [] cp) pos) (jtx (tBM X.K "list" jrl (tVar i) (jb2 te tNil))) (sExt i we) :=
 ⟨jno (jx3 Gt PySem.F.slot_list_extend PySem.F.type_list_extend jsd (jf5 hN hv hd hcd) (jas he.pe jbm hs) hbase hfew hline hs hplain) hsw,λC H B σ δ n K D R q E=>by
  unfold sExt at q
  split at q
  ·rename_i ds ei;obtain⟨v,hv,a,xs,rfl,e2,e3,e4,e5,e6⟩:=R.sl i _ ei;refine⟨_,hv,.inl ⟨rfl,_,SqL.of e2⟩,he.sd C H B σ δ n _ _ R q λu y H1 n1 R1 k1 r1 q1=>?_⟩
   split at q1
   ·rename_i es;have hat:a≠C.t:=λz=>R.t0 (z▸e4);have e2':=k1 _ _ e2 hat;cases(show RdX H1 B u (.list es)from r1)with
    |@lst b zs _ f1 f2 f3 f4 =>
     have hl:xs.length+zs.length<=Ay:=by rw[e6.len,f4.len];exact jg1 q1.1.1 q1.1.2
     refine⟨a,b,xs,zs,rfl,rfl,e2',f1,hl,?_⟩;refine E.nx _ _ _ _ _ (R1.mutOwn ei rfl hv e3 e4 ?_ rfl) q1.2;refine⟨a,xs++zs,rfl,jaj,e3,e4,by rw[Ap];exact hl,?_⟩;refine RdXs.keep (λb o e n=>?_) ((e6.kp k1 R.bt).append f4);rw[jag λ(z:b=a)=>n (z▸e3)];exact e
   ·exact q1.elim
  ·exact q.elim⟩
def occB (i j:Str):Bool:=!(Gj j i 0 j.length 1).isEmpty
def gInS (neg:Bool):Wv->Wv->Int->DQ->Prop:=λx y n Q=>match x,y with
 |.d (.str i),.d (.str j)=>Q (.d (.bool (if neg then !occB i j else occB i j))) n
 |_,_=>False
def rInS:R2:=λx y H Q=>∃i j,x=.str i/\y=.str j/\Q (.bl (!(!(Gj j i 0 j.length 1).isEmpty))) H
theorem jr1:OpR X (Bk .NotIn) rInS:=jl4
theorem jpr:SndO rInS (gInS true):=λC H B σ δ n x y p q Q Q' R rx ry h1 k=>by
 unfold gInS at h1
 split at h1
 ·rename_i i j;cases(show RdX H B x (.str i)from rx);cases(show RdX H B y (.str j)from ry);exact⟨i,j,rfl,rfl,k _ _ H n R (Kp.refl _ _) (wd (.bl _)) h1⟩
 ·exact h1.elim
theorem jzb (H:Hp) (B:Addr->Prop):RdXs H B jvm jk4:=.cons .non (.cons .non (.cons .non (.cons (.int _) (.cons (.int _) (.cons (.int _) (.cons (.int _) .nil))))))
def wTp3 (i:Nat):DT:=λδ n Q=>match δ[i]? with
 |some (some (.w .tp))=>Q (.ln jk4) n
 |_=>False
theorem j36 (i:Nat) {x:Str} {ix:Int} {p p2:Pos} {jj} (hK:X.K=K:=by rfl) (hN:X.N[i]?=some x:=by rfl) (hv:Vis X.env.scope x:=by first | exact Du rfl | exact Cw (Du rfl) | exact Cw (Cw rfl)) (hd:(x==("__debug__":Str))=false:=by decide)
  (hcd:(x==("__classdict__":Str))=false:=by decide):DE X (.Subscript (.Name x p) (.Constant (.int 3) jj p2) pos) (tOp (rIx K) (tVar i) (tC (.int 3))) (wTp3 i):=by
 subst hK;refine⟨jgp jsl (jf5 hN hv hd hcd) jau (λ_ _=>rfl),λC H B σ δ n Q Q' R h k=>?_⟩;unfold wTp3 at h
 split at h
 ·rename_i e;obtain⟨v,h1,h2⟩:=R.sl i _ e;cases(show v=.ref C.t from h2.1);obtain⟨a,b,ho,_⟩:=R.tp.ob;refine⟨_,h1,.inl ⟨C.t,_,3,.ref C.l.g,rfl,rfl,SqL.of ho,jbc (j:=3) rfl,k _ (.ln jk4) H n R (Kp.refl _ _) ⟨C.l.g,jvm,rfl,R.tp.ag rfl,R.tp.gne,by decide,jzb _ _⟩ h⟩⟩
 ·exact h.elim
end
end DL
namespace L2
open PySem PySem.Spec PyProof.Rows
end L2
namespace DL
open PySem L2 Nb
end DL
namespace HT
open PySem PyProof.Rows
open PySem.SeqAt
open PySem.AutoSeq1 (wpAny_loadPart')
open PySem.MeetsSeq PySem.MeetsSeq2 PySem.MeetsSeq3
section
variable {prog:Bm} {w:B3} {A:B8} {E:Ah->Ak->Prop} {s:Ak}
theorem getItem_tuple_whole {t sl:Addr} {items:Array Ah} {vl vu:Ah} {lo hi:Option Int} {Q:Ah->Ak->Prop} (ht:IsTup s.heap t items) (hs:s.heap.IsSliceOf sl vl vu .none) (pl:IsPart vl lo) (pu:IsPart vu hi)
  (h0:sIx items.size 0 lo=0) (h1:sIx items.size items.size hi=items.size) (h:Q (.ref t) s):Az (Ba prog w) A (getItem (.ref t) (.ref sl)) Q E s:=by
 obtain⟨os,hos,hcs,hds⟩:=id hs;have hTs:s.TypeIs (.ref sl) "slice":=⟨os,hos,hcs⟩;unfold getItem
 try with_reducible refine C6 ?_
 first | refine Aa (Ai ?_) | skip
 refine Aa (wpAny_sequenceKey ht.typeIs (by decide) ?_);refine Aa (Bh (name:=Cg "__getitem__") ht.typeIs Cp
  (Bv Cp ht.typeIs entry_tuple_getitem ?_ (args_tuple_getitem _ _)))
 show Az _ _ (F5 (.ref t)>>=_) _ _ s;refine Aa (tupleItemsOf_ ht ?_);refine Aa (F7 hTs ?_);rw[if_pos (by decide)];refine Aa (jcu hs pl pu ?_);have hyes:(((sIx items.size 0 lo:Nat):Int)==0&&(1:Int)==1&&(sIx items.size items.size hi - sIx items.size 0 lo)==items.size)=true:=by
  rw[h0,h1];simp
 show Az _ _ (if (((sIx items.size 0 lo:Nat):Int)==0&&(1:Int)==1&&(sIx items.size items.size hi - sIx items.size 0 lo)==items.size)=true then _ else _) _ _ s;rw[if_pos hyes];unfold Builtin.Tuple.tupleIsExact;refine Aa (Aa (F7 ht.typeIs (Ai ?_)));rw[if_pos (by decide)];exact Aa (F0 (Ai ⟨_,rfl,Ai h⟩))
end
end HT
namespace L2
open PySem PySem.Spec PyProof.Rows
def rSlW (K:Aj):V->Option Int->Option Int->Hp->VK->Prop:=λx lo hi H Q=>∃a xs,x=.ref a/\SqT K H a xs/\HT.sIx xs.length 0 lo=0/\HT.sIx xs.length xs.length hi=xs.length/\Q (.ref a) H
theorem jt6 {X:Cx}:SlR X (rSlW X.K):=by
 intro pins s σ H x v vl vu lo hi sl Q I rx hs pl pu h;obtain⟨a,xs,rfl,hx,h0,h1,q⟩:=h;cases rx;obtain⟨its,r,ht,hz⟩:=I.tuple hx;have hlen:its.toArray.size=xs.length:=by rw[Av];exact r.length.symm
 refine⟨"tuple",_,PyProof.Rows.slot_tuple_getitem.lookup,ht.typeIs,?_⟩;exact HT.getItem_tuple_whole ht hs pl pu (by rw[hlen];exact h0) (by rw[hlen];exact h1) ⟨.ref a,H,I,rfl,q⟩
end L2
namespace DL
open PySem L2 Nb
section
variable {X:Cx} {e:Expr} {te:TE} {we:DT} {pos p2:Pos} {K:Aj} {lo hi:Option Expr}
abbrev DTO:=Sl->Int->(Option Int->Int->Prop)->Prop
def jaz:DTO:=λ_ n Q=>Q none n
def jay (w:DT):DTO:=λδ n Q=>w δ n λx n1=>match x with
 |.d (.int i)=>Q (some i) n1
 |_=>False
def j4v (t:TO) (w:DTO):Prop:=∀(C:Ctx) (H:Hp) (B:Addr->Prop) (σ:St) (δ:Sl) (n:Int) (Q:Option Int->Int->Prop) (Q':Option Int->Hp->Prop),Rel C H B σ δ n->w δ n Q ->
 (∀o H' n',Rel C H' B σ δ n'->Kp C.t H H'->Q o n'->Q' o H')->t σ H Q'
structure DOp (X:Cx) (o:Option Expr) (t:TO) (w:DTO):Prop where
 po:PO X o t
 sd:j4v t w
theorem j07:DOp X none jqr jaz:=⟨jrt,λC H B σ δ n Q Q' R q k=>k none H n R (Kp.refl _ _) q⟩
theorem j06 (h:DE X e te we):DOp X (some e) (jzn te) (jay we):=⟨jrs h.pe,λC H B σ δ n Q Q' R q k=>h.sd C H B σ δ n _ _ R q λv x H1 n1 R1 k1 r1 q1=>by
 split at q1
 ·rename_i i;cases(show RdX H1 B v (.int i)from r1);exact⟨i,rfl,k (some i) H1 n1 R1 k1 q1⟩
 ·exact q1.elim⟩
def cutD (xs:List Ab) (lo hi:Option Int):List Ab:=(xs.drop (HT.sIx xs.length 0 lo)).take (HT.sIx xs.length xs.length hi - HT.sIx xs.length 0 lo)
def jap (w:DT) (l u:DTO):DT:=λδ n Q=>w δ n λx n1=>l δ n1 λa n2=>u δ n2 λb n3=>match x with
 |.d (.tuple ds)=>Q (.d (.tuple (cutD ds a b))) n3
 |_=>False
def rSlA (K:Aj):V->Option Int->Option Int->Hp->VK->Prop:=λx lo hi H Q=>rSlT K x lo hi H Q\/rSlW K x lo hi H Q
theorem jyw {tl th:TO} {wl wh:DTO} (he:DE X e te we) (hl:DOp X lo tl wl) (hh:DOp X hi th wh) (hK:X.K=K:=by rfl):DE X (.Subscript e (.Slice lo hi none p2) pos) (tSl (rSlA K) te tl th) (jap we wl wh):=by
 subst hK;refine⟨joo (sl_tup.or jt6) he.pe hl.po hh.po,λC H B σ δ n Q Q' R q k=>he.sd C H B σ δ n _ _ R q λv x H1 n1 R1 k1 r1 q1 =>
  hl.sd C H1 B σ δ n1 _ _ R1 q1 λa H2 n2 R2 k2 q2=>hh.sd C H2 B σ δ n2 _ _ R2 q2 λb H3 n3 R3 k3 q3=>?_⟩
 split at q3
 ·rename_i ds;have r3:RdX H3 B v (.tuple ds):=(r1.kp k2 R1.bt).kp k3 R2.bt;cases r3 with
  |@tup aa xs _ e1 e2 e3 e4 =>
   have kk:=(k1.trans k2).trans k3;by_cases hw:HT.sIx xs.length 0 a=0/\HT.sIx xs.length xs.length b=xs.length
   ·refine .inr ⟨aa,xs,rfl,SqT.of e1,hw.1,hw.2,k _ _ H3 n3 R3 kk (wd (show RdX H3 B _ (.tuple ds)from .tup e1 e2 e3 e4)) ?_⟩;have:cutD ds a b=ds:=by
     unfold cutD;rw[<-e4.len,hw.1,hw.2,List.drop_zero,Nat.sub_zero,e4.len,List.take_length]
    rw[this]at q3;exact q3
   ·refine .inl ⟨aa,xs,rfl,SqT.of e1,hw,λp hp=>?_⟩;refine k _ _ _ n3 (R3.new hp) (kk.trans (Kp.new hp)) (wd (show RdX _ B _ (.tuple (cutD ds a b))from .tup jaj (R3.nb hp) (A9 (jej xs a b) e3) ?_)) q3;unfold cutD cutV;rw[<-e4.len];exact(((e4.drop _).take _).fresh hp).less λb z=>.inl z
 ·exact q3.elim
end
end DL
namespace Nb
open PySem L2
section
variable {X:Cx}
theorem jyt (S it:Addr) (mine:Array Ah) (n:Nat) {o:Obj} (items:Array Ah) (n2:Nat) (hc:o.cls=.type "tuple") (hd:o.data=.seq items n2)
  (hlong:¬(!mine.isEmpty&&Dz (mine.size+items.size))=true) (hz1:mine.size<=Ay) (hz2:mine.size+items.size<=Ay+1) (hz3:items.size<=Ay) :
  Meets (D4.«list.extend» ⟨[.ref S,.ref it],[]⟩) (λ_ R s=>s.heap.get? S=some {cls:=.type "list",data:=.seq mine n}/\s.heap.get? it=some o/\R (.ok (.ret Bf)) {s with heap:=s.heap.update S (Cq λx=>x++items),toks:=s.toks}):=λprog w A R s h=>by
 obtain⟨hS,ho,hR⟩:=h;show Az _ A.in1 (Dk (.ref S) (.ref it) .none) _ _ s;unfold Dk;refine Aa (F7 ⟨o,ho,hc⟩ ?_);have h1:(Gf (.ref S) (.ref it) || Dx "tuple"==Dx "list" || Dx "tuple"==Dx "tuple")=true:=by simp
 simp only[h1,if_true];refine Aa ?_;unfold Builtin.List.listItems;refine Aa (Ca ho hd (Ai ?_));refine Aa ?_;refine Aa (Ca hS rfl (Ai ?_));simp only[hlong];show Az _ A.in1 (updateSeq S (·++items)>>=λ_=>ret Bf) _ _ s;refine Aa (wpAny_updateSeq hS rfl ?_ hz1 (by rw[Array.size_append];exact hz2));exact Ai hR
def jol:V->List V->Hp->VK->Prop:=λx vs H Q=>∃l b xs zs,x=.ref l/\vs=[.ref b]/\H l=some (.lst xs)/\H b=some (.tup zs)/\xs.length+zs.length<=Ay/\Q .non (upd H l (.lst (xs++zs)))
theorem jpx:MtM X "list.extend" jol:=by
 intro pins s σ H x vs v us Q I rx rv h;obtain⟨l,b,xs,zs,rfl,rfl,hH,hB,hz,q⟩:=h;cases rx;obtain⟨u,rfl,ru⟩:=rv.one;cases ru;obtain⟨z,its,n,r,hl,e⟩:=I.lstM hH;obtain⟨its2,r2,⟨o2,e2,c2,n2,d2⟩,z2⟩:=I.tuple (SqT.of hB);have hl2:=r2.length;have hsz:its.toArray.size+its2.toArray.size<=Ay:=by rw[Av,Av];omega
 have hlong:¬(!its.toArray.isEmpty&&Dz (its.toArray.size+its2.toArray.size))=true:=by
  rw[jor hsz,Fz];exact An
 refine call_meets F.slot_list_extend ⟨_,e,rfl⟩ F.entry_list_extend (F.args_list_extend_2 _ _)
  (jyt l b its.toArray n its2.toArray n2 c2 d2 hlong (by rw[Av];omega) (by omega) (by rw[Av];omega)) ⟨e,e2,?_⟩
 refine⟨.non,_,I.lset (its':=its++its2) hH e (by simp) (r.append r2) ?_,rfl,q⟩;rw[Ap];omega
end
end Nb
namespace DL
open PySem L2 Nb
section
variable {X:Cx} {tg a b c e o i f:Expr} {ta tb te td ty tx:TE} {wa wb we wd' wy wx:DT} {pos p:Pos} {K:Aj}
def jps (i:Nat) (w:DT):DST:=λδ n K=>match δ[i]? with
 |some (some (.own ds))=>w δ n λx n1=>match x with
  |.d (.tuple es)=>(ds.length < 1000000/\es.length < 1000000)/\K.nx (δ.set i (some (.own (ds++es)))) n1
  |_=>False
 |_=>False
theorem jz7 {i:Nat} {x:Str} {xp ap cp:Pos} (hN:X.N[i]?=some x) (he:DE X e te we) (hv:Vis X.env.scope x:=by first | exact Du rfl | exact Cw (Du rfl) | exact Cw (Cw rfl)) (hd:(x==("__debug__":Str))=false:=by decide)
  (hcd:(x==("__classdict__":Str))=false:=by decide)
  (hbase:attributeBase (.Name x xp) "extend" X.env (eval (.Name x xp) X.env)=eval (.Name x xp) X.env:=by rfl)
  (hfew:((D9 cp (Ax [e] X.env)).all (λx=>!x.1)&&(backToKw cp (keywordEach [] X.env)).all (λx=>x.1.isSome)
   && decide ([e].length+([]:List Keyword).length+(if ([]:List Keyword).isEmpty then 0 else 1) < 30))=true:=by rfl)
  (hline:(ap.endLine==cp.line)=true:=by rfl) (hs:Ax [e] X.env=[(false,eval e X.env)]:=by rfl) (hplain:(D9 cp (Ax [] X.env)).any (·.1)=false:=by rfl)
  (hsw:F2 (.Call (.Attribute (.Name x xp) "extend" ap) [e] [] cp) none pos.line X.env=pure false:=by rfl) :
  DS X (.Expr (.Call (.Attribute (.Name x xp) "extend" ap) [e] [] cp) pos) (jtx (tBM X.K "list" jol (tVar i) (jb2 te tNil))) (jps i we) :=
 ⟨jno (jx3 Gt PySem.F.slot_list_extend PySem.F.type_list_extend jpx (jf5 hN hv hd hcd) (jas he.pe jbm hs) hbase hfew hline hs hplain) hsw,λC H B σ δ n K D R q E=>by
  unfold jps at q
  split at q
  ·rename_i ds ei;obtain⟨v,hv,a,xs,rfl,e2,e3,e4,e5,e6⟩:=R.sl i _ ei;refine⟨_,hv,.inl ⟨rfl,_,SqL.of e2⟩,he.sd C H B σ δ n _ _ R q λu y H1 n1 R1 k1 r1 q1=>?_⟩
   split at q1
   ·rename_i es;have hat:a≠C.t:=λz=>R.t0 (z▸e4);have e2':=k1 _ _ e2 hat;cases(show RdX H1 B u (.tuple es)from r1)with
    |@tup b zs _ f1 f2 f3 f4 =>
     have hl:xs.length+zs.length<=Ay:=by rw[e6.len,f4.len];exact jg1 q1.1.1 q1.1.2
     refine⟨a,b,xs,zs,rfl,rfl,e2',f1,hl,?_⟩;refine E.nx _ _ _ _ _ (R1.mutOwn ei rfl hv e3 e4 ?_ rfl) q1.2;refine⟨a,xs++zs,rfl,jaj,e3,e4,by rw[Ap];exact hl,?_⟩;refine RdXs.keep (λb o e n=>?_) ((e6.kp k1 R.bt).append f4);rw[jag λ(z:b=a)=>n (z▸e3)];exact e
   ·exact q1.elim
  ·exact q.elim⟩
def wInG (hs:List Str) (w:DT):DT:=λδ n Q=>w δ n λx n1=>match x with
 |.d a=>jhp a=true/\Q (.d (.bool (inD a (hs.map .str)))) n1
 |_=>False
theorem jxi {q:Addr} {hs:List Str} (hl:∀h∈hs,h.length<=1000) (hq:∀H,SqT K H q (hs.map V.str)) (h:Snd ta wa):Snd (tOp (rIn K false) ta (tC (.ref q))) (wInG hs wa):=λC H B σ δ n Q Q' R z k =>
 h C H B σ δ n _ _ R z λv x H1 n1 R1 k1 r1 q1=>by
  split at q1
  ·rename_i da;have r1:RdX H1 B v da:=r1;have rs:RdXs H1 B (hs.map V.str) (hs.map .str):=jnl hl;refine⟨q,_,rfl,.inr (hq H1),jho r1 q1.1,je1 rs ?_,k _ _ H1 n1 R1 k1 (wd (.bl _)) ?_⟩
   ·rw[E4];exact Bt.mpr λ_ _=>rfl
   ·rw[jmg r1 rs];exact q1.2
  ·exact q1.elim
theorem j4q {q:Addr} {hs:List Str} {x:Str} {xp:Pos} (ha:DE X a ta wa) (hg:Gl X x) (hm:X.mg x=some (.ref q)) (hq:∀H,SqT K H q (hs.map V.str)) (hl:∀h∈hs,h.length<=1000:=by decide +kernel) (hK:X.K=K:=by rfl) (hd:(x==("__debug__":Str))=false:=by decide)
  (hmk:D1 .In (Expr.Name x xp)=false:=by with_unfolding_all rfl):DC X (.Compare a [.In] [.Name x xp] pos) (jnd (tOp (rIn K false) ta (tC (.ref q)))) (cT (wInG hs wa)) :=
 ⟨jfd (jv9 hK) ha.pe (jrx hg hm rfl hd) hmk,jgz (jxi hl hq ha.sd)⟩
end
section
variable {X:Cx} {e:Expr} {es:List Expr} {pos p:Pos} {tR:TA} {wR:DTA} {te:TE} {we:DT}
theorem RdXs.rev {H:Hp} {B:Addr->Prop}:∀{vs:List V} {ds:List Ab},RdXs H B vs ds->RdXs H B vs.reverse ds.reverse
 |_,_,.nil=>.nil
 |_,_,.cons h r=>by
  rw[Fy,Fy];exact(RdXs.rev r).append (.cons h .nil)
end
end DL
namespace Nb
open PySem L2
end Nb
namespace DL
open PySem L2 Nb
section
variable {X:Cx} {a b c e o i f:Expr} {ta tb te ty:TE} {wa wb we wy:DT} {pos p xp:Pos} {K:Aj} {D:List (Str×Str)} {q:Addr} {x:Str}
def wInT (D:List (Str×Str)) (w:DT):DT:=λδ n Q=>w δ n λx n1=>match x with
 |.d (.str k)=>Q (.d (.bool (PyProof.Rows.KTD.datumAt k D).isSome)) n1
 |_=>False
theorem juw {n:Nat} (h:n<=1000):n<=Ay:=A9 h (by decide)
def rStr:List V->Hp->VK->Prop:=λxs H Q=>(∃i,xs=[.int i]/\i.natAbs.log2 < 1920/\Q (.str (toString i)) H)\/∃x,xs=[.str x]/\Q (.str x) H
theorem jta:CallR X (.type "str") rStr:=by
 intro pins s σ H xs us Q I r h;rcases h with h | ⟨x,rfl,q⟩
 ·exact jmk pins s σ H xs us Q I r h
 ·obtain⟨u,rfl,t,rfl⟩:=jin r;exact PySem.P.str_of_str ⟨.str _,H,I,⟨_,rfl⟩,q⟩
def gStr:List Wv->Int->DQ->Prop:=λxs n Q=>match xs with
 |[.d (.int i)]=>(i.natAbs.log2 < 1920/\(Cg (toString i)).length<=1000)/\Q (.d (.str (toString i))) n
 |[.d (.str x)]=>Q (.d (.str x)) n
 |_=>False
theorem jxc:SndB rStr gStr:=λC H B σ δ n vs xs Q Q' R r h k=>by
 unfold gStr at h
 split at h
 ·rename_i i;cases r with
  |cons r1 r2 =>
   cases r2;cases(show RdX H B _ (.int i)from r1);exact .inl ⟨i,rfl,h.1.1,k _ _ H n R (Kp.refl _ _) (wd (.str _ (juw h.1.2))) h.2⟩
 ·rename_i x;cases r with
  |cons r1 r2 =>
   cases r2;have r1':RdX H B _ (.str x):=r1;cases r1' with
   |str _ hx=>exact .inr ⟨x,rfl,k _ _ H n R (Kp.refl _ _) (wd (.str _ hx)) h⟩
 ·exact h.elim
end
end DL
namespace L2
open PySem PySem.Spec PyProof.Rows PySem.SeqAt PySem.W
end L2
namespace L2
open PySem PySem.Spec PyProof.Rows
end L2
namespace L2
open PySem PySem.Spec PyProof.Rows PySem.W
end L2
namespace L2
open PySem PySem.Spec PyProof.Rows
end L2
namespace L2
open PySem PySem.Spec PyProof.Rows PySem.SeqAt PySem.W
end L2
namespace DL
open PySem L2 Nb
end DL
namespace L2
open PySem PySem.Spec PyProof.Rows PySem.SeqAt PySem.W
end L2
namespace DL
open PySem L2 Nb
end DL
namespace HT
open PySem PyProof.Rows
section
variable {prog:Bm} {w:B3} {A:B8} {E:Ah->Ak->Prop} {s:Ak}
theorem jqa (n:Nat):C9 none none (-1) (n:Int)=((n:Int) - 1,-1):=by
 unfold C9;simp
theorem jpv (n:Nat):Ci ((n:Int) - 1) (-1) (-1)=n:=by
 unfold Ci;simp only[show ¬((-1:Int) > 0) by decide,if_false];by_cases h:n=0
 ·subst h;rfl
 ·have h1:(-1:Int) < (n:Int) - 1:=by omega
  have h2:((n:Int) - 1 - -1 - 1) / - -1+1=(n:Int):=by simp;try omega
  have h3:((n:Int) - 1 > -1):=by omega
  simp only[h3,if_true];rw[h2];exact Bz n
theorem jgo {sl:Addr} {t:Tok} {n:Nat} {Q:Int×Int×Nat->Ak->Prop} (hs:s.heap.IsSliceOf sl .none .none (.int (-1) t)) (h:Q ((n:Int) - 1,-1,n) s) :
  Az (Ba prog w) A (Ei (.ref sl) (pure (n:Int))) Q E s:=by
 obtain⟨os,hos,hcs,hds⟩:=id hs;unfold Ei Builtin.Slice.sliceFields;refine Aa (Aa (B1 hos hds (x:=.none) rfl (Aa (B1 hos hds (x:=.none) rfl (Aa (B1 hos hds (x:=.int (-1) t) rfl (Ai ?_)))))));refine Aa (slicePart_int ?_);show Az _ _ (if ((-1:Int)==0)=true then _ else _) _ _ s;rw[if_neg (by decide)];refine Aa (slicePart_none (Aa (slicePart_none (Aa (Ai ?_)))));show Az _ _ (match C9 none none (-1) (n:Int)with | (lo,hi)=>pure (lo,(-1:Int),Ci lo hi (-1))) _ _ s;rw[jqa n];show Az _ _ (pure ((n:Int) - 1,(-1:Int),Ci ((n:Int) - 1) (-1) (-1))) _ _ s;rw[jpv];exact Ai h
theorem jui (xs:Array Ah):((B4 xs.size).filterMap λ(m:Nat)=>xs[((xs.size:Int) - 1+(m:Int)*(-1)).toNat]?).toArray=xs.toList.reverse.toArray:=by
 congr 1
 have e:∀m∈B4 xs.size,xs[((xs.size:Int) - 1+(m:Int)*(-1)).toNat]?=some (xs.getD (xs.size - 1 - m) Bf):=λm hm=>by
  have hm:=Dy.mp hm;have e1:((xs.size:Int) - 1+(m:Int)*(-1)).toNat=xs.size - 1 - m:=by omega
  have e2:xs.size - 1 - m < xs.size:=by omega
  rw[e1,E5 e2];simp[e2]
 have fm:∀l:List Nat,(∀m∈l,m∈B4 xs.size)->(l.filterMap λ(m:Nat)=>xs[((xs.size:Int) - 1+(m:Int)*(-1)).toNat]?)=l.map λm=>xs.getD (xs.size - 1 - m) Bf:=by
  intro l
  induction l with
  |nil=>intro _;rfl
  |cons m r ih =>
   intro hm;rw[Gh,e m (hm m Au),Bi,ih λk hk=>hm k (Aw _ hk)]
 rw[fm _ λm hm=>hm];apply List.ext_getElem
 ·simp
 ·intro i h1 h2;simp at h1;have:xs.size - 1 - i < xs.size:=by omega
  simp[List.getElem_reverse,this]
theorem getItem_tuple_rev {t sl:Addr} {items:Array Ah} {tk:Tok} {Q:Ah->Ak->Prop} (ht:IsTup s.heap t items) (hs:s.heap.IsSliceOf sl .none .none (.int (-1) tk))
  (h:Q (.ref s.heap.objs.size) {s with heap:=s.heap.push {cls:=.type "tuple",data:=.seq items.toList.reverse.toArray}}) (hsz:items.size<=Ay):Az (Ba prog w) A (getItem (.ref t) (.ref sl)) Q E s:=by
 have htake:sizeOk (.seq items.toList.reverse.toArray):=by
  show items.toList.reverse.toArray.size<=Ay;rw[Av,Ff,Co];exact hsz
 obtain⟨os,hos,hcs,hds⟩:=id hs;have hTs:s.TypeIs (.ref sl) "slice":=⟨os,hos,hcs⟩;unfold getItem
 try with_reducible refine C6 ?_
 first | refine Aa (Ai ?_) | skip
 refine Aa (wpAny_sequenceKey ht.typeIs (by decide) ?_);refine Aa (Bh (name:=Cg "__getitem__") ht.typeIs Cp
  (Bv Cp ht.typeIs entry_tuple_getitem ?_ (args_tuple_getitem _ _)))
 show Az _ _ (F5 (.ref t)>>=_) _ _ s;refine Aa (tupleItemsOf_ ht ?_);refine Aa (F7 hTs ?_);rw[if_pos (by decide)];refine Aa (jgo hs ?_);have hno:¬(((items.size:Int) - 1==0&&(-1:Int)==1&&items.size==items.size)=true):=by
  intro q;rw[A4,A4]at q;exact absurd q.1.2 (by decide)
 show Az _ _ (if ((items.size:Int) - 1==0&&(-1:Int)==1&&items.size==items.size)=true then _ else _) _ _ s;rw[if_neg hno,jui]
 first
  |exact Aa (m:=Cm _) (Bg (Ai ⟨_,rfl,Ai h⟩) htake)
  |exact Aa (m:=Cm _) (Bg (Aa (Ai (Ai ⟨_,rfl,Ai h⟩))) htake)
  |exact Aa (Aa (m:=Cm _) (Bg (Ai (Ai ⟨_,rfl,Ai h⟩)) htake))
  |exact Aa (Aa (m:=Cm _) (Bg (Ai ⟨_,rfl,Ai h⟩) htake))
end
end HT
namespace L2
open PySem PySem.Spec PyProof.Rows
section
variable {X:Cx} {e st:Expr} {te ts:TE} {pos p2:Pos}
def jzm (K:Aj) (te ts:TE):TE:=λσ H Q=>te σ H λx H1=>ts σ H1 λy H2=>∃a xs,x=.ref a/\y=.int (-1)/\SqT K H2 a xs/\∀p,H2 p=none->Q (.ref p) (upd H2 p (.tup xs.reverse))
theorem j0v (he:PE X e te) (hs:PE X st ts) (hev:evalPart (some st) X.env=eval st X.env:=by rfl):PE X (.Subscript e (.Slice none none (some st) p2) pos) (jzm X.K te ts):=by
 intro pins s σ H Q I h;refine Subscript_ (thn (he pins s σ H _ I h) λv s1 ⟨x,H1,I1,r1,q1⟩=>?_);refine wpAny_Slice ?_;rw[evalPart_none];refine Ai (Ai ?_);rw[hev];refine thn (hs pins s1 σ H1 _ I1 q1) λvs s3 ⟨y,H3,I3,ry,a,xs,ex,ey,hx,q⟩=>?_;subst ex;subst ey;cases r1;obtain⟨tk,rfl⟩:=ry;have I4:Inv X pins σ H3 {s3 with heap:=s3.heap.push {cls:=.type "slice",data:=.fields #[.none,.none,.int (-1) tk]}}:=I3.kept (t':=s3.toks) λb ob q=>Ad _ q;obtain⟨its,r,ht,hz⟩:=I4.tuple hx;have hlen:its.toArray.size=xs.length:=by rw[Av];exact r.length.symm
 show Az (Ba X.prog X.w) X.A (subscriptTail e (.Slice none none (some st) p2) (.ref a) (.ref s3.heap.objs.size)) (EP X pins σ Q) X.xe {s3 with heap:=s3.heap.push {cls:=.type "slice",data:=.fields #[.none,.none,.int (-1) tk]}};refine tail_any (ops:=[.ref a,.ref s3.heap.objs.size]) ht.typeIs PyProof.Rows.slot_tuple_getitem.lookup (HT.getItem_tuple_rev ht (Heap.IsSliceOf.new ..) ?_ (by rw[hlen];exact hz)) (by with_unfolding_all rfl);refine⟨.ref _,_,I4.laid (t':=s3.toks) (o:=.tup xs.reverse) (λb ob q=>Ad _ q) (Al _) ?_,rfl,q _ (I4.hok.fresh (Al _))⟩;exact⟨by rw[Ff];exact hz,its.reverse,r.reverse,IsTupP.new _ _⟩
end
end L2
namespace DL
open PySem L2 Nb
section
variable {X:Cx} {a b c e o i f:Expr} {ta tb te td ty tx:TE} {wa wb we wd' wy wx:DT} {pos p p2 p3 p4:Pos} {K:Aj}
def wRev (w:DT):DT:=λδ n Q=>w δ n λx n1=>match x with
 |.d (.tuple ds)=>Q (.d (.tuple ds.reverse)) n1
 |_=>False
theorem j39 {jj} (he:DE X e te we) (hK:X.K=K:=by rfl):DE X (.Subscript e (.Slice none none (some (.UnaryOp .USub (.Constant (.int 1) jj p3) p4)) p2) pos) (jzm K te (tUn (rU λi=>.int (-i)) (tC (.int 1)))) (wRev we):=by
 subst hK;refine⟨j0v he.pe (j0s jvs jau),λC H B σ δ n Q Q' R q k=>he.sd C H B σ δ n _ _ R q λv x H1 n1 R1 k1 r1 q1=>?_⟩
 split at q1
 ·rename_i ds;cases(show RdX H1 B v (.tuple ds)from r1)with
  |@tup ay ys _ e1 e2 e3 e4 =>
   refine⟨1,rfl,ay,ys,rfl,rfl,SqT.of e1,λp hp=>k _ _ _ n1 (R1.new hp) (k1.trans (Kp.new hp)) (wd (show RdX _ B _ (.tuple ds.reverse)from .tup jaj (R1.nb hp) (by rw[Ff];exact e3) ?_)) q1⟩;exact((RdXs.rev e4).fresh hp).less λb z=>.inl z
 ·exact q1.elim
end
end DL
namespace L2
open PySem PySem.Spec PyProof.Rows PySem.SeqAt
section
variable {X:Cx} {K:Aj}
def rT0 (K:Aj) (neg:Bool):R2:=λx y H Q=>∃a b xs,x=.ref a/\y=.ref b/\SqT K H a xs/\SqT K H b []/\Q (.bl (if neg then !xs.isEmpty else xs.isEmpty)) H
theorem jx9 (hu:X.A.units < cLine) (hK:X.K=K:=by rfl):OpR X (Bk .Eq) (rT0 K false):=by
 subst hK;intro pins s σ H x y v u Q I rx ry h;obtain⟨a,b,xs,rfl,rfl,ha,hb,q⟩:=h;cases(show v=Bw a from rx);cases(show u=Bw b from ry);obtain⟨its,r1,p1,_⟩:=I.tuple ha;obtain⟨its2,r2,p2,_⟩:=I.tuple hb;have e2:its2=[]:=Vals.zero r2;subst e2;refine eq_tupleAt (e:=λ_=>true) p1 p2 hu (λj h1 h2=>absurd h2 (by simp)) ⟨.bl xs.isEmpty,H,I,?_,q⟩;cases r1<;>simp[RelV]
theorem jx8 (hu:X.A.units < cLine) (hK:X.K=K:=by rfl):OpR X (Bk .NotEq) (rT0 K true):=by
 subst hK;intro pins s σ H x y v u Q I rx ry h;obtain⟨a,b,xs,rfl,rfl,ha,hb,q⟩:=h;cases(show v=Bw a from rx);cases(show u=Bw b from ry);obtain⟨its,r1,p1,_⟩:=I.tuple ha;obtain⟨its2,r2,p2,_⟩:=I.tuple hb;have e2:its2=[]:=Vals.zero r2;subst e2;refine RcNeAt.tuples (e:=λ_=>true) p1 p2 hu (λj h1 h2=>absurd h2 (by simp)) X.prog X.w X.xe _ ⟨.bl (!xs.isEmpty),H,I,?_,q⟩;cases r1<;>simp[RelV]
end
end L2
namespace DL
open PySem L2 Nb
section
variable {X:Cx} {K:Aj}
def gT0 (neg:Bool):Wv->Wv->Int->DQ->Prop:=λx y n Q=>match x,y with
 |.d (.tuple ds),.d (.tuple [])=>Q (.d (.bool (if neg then !ds.isEmpty else ds.isEmpty))) n
 |_,_=>False
theorem jv0 {neg:Bool}:SndO (rT0 K neg) (gT0 neg):=λC H B σ δ n x y p q Q Q' R rx ry h1 k=>by
 unfold gT0 at h1
 split at h1
 ·rename_i ds;cases(show RdX H B x (.tuple ds)from rx)with
  |@tup ax xs _ e1 e2 e3 e4 =>
   cases(show RdX H B y (.tuple [])from ry)with
   |@tup ay ys _ f1 f2 f3 f4 =>
    cases f4;have:xs.isEmpty=ds.isEmpty:=by cases e4<;>rfl
    refine⟨ax,ay,xs,rfl,rfl,SqT.of e1,SqT.of f1,?_⟩;rw[this];exact k _ _ H n R (Kp.refl _ _) (wd (.bl _)) h1
 ·exact h1.elim
end
end DL
namespace L2
open PySem PySem.Spec PyProof.Rows
section
variable {prog:Bm} {w:B3} {A:B8} {E:Ah->Ak->Prop} {s:Ak}
theorem jqf {z TI TO i1 i2 l1 l2:Addr} {k:Nat} {xs ys:Array Ah} {x a b:Ah} {Q:Fin->Ak->Prop} (hh:A.handled=none) (D:Ga z TI TO i1 i2 l1 l2)
  (hz:Ed s.heap z TI TO .none) (hTI:Ck s.heap TI (.ref i1) (.ref i2)) (hTO:Ck s.heap TO a b)
  (h1:s.heap.IsTupleIter i1 l1 k) (h2:s.heap.IsTupleIter i2 l2 k) (hl1:s.heap.IsTuple l1 xs) (hl2:s.heap.IsTuple l2 ys) (hx:xs[k]?=some x) (hy:ys[k]?=none)
  (hE:∀h' e,(∀c o,c≠z->c≠TO->c≠i1->c≠i2->s.heap.get? c=some o->h'.get? c=some o)->(∃o,h'.get? e=some o/\o.cls=.type "StopIteration")->E (.ref e) {s with heap:=h'}) :
  Az (Ba prog w) A (D4.«zip.__next__» ⟨[.ref z],[]⟩) Q E s:=by
 show Az _ _ (field (.ref z) 2>>=_) _ _ _;refine Aa (B1 hz rfl (x:=.bool false) rfl ?_);show Az _ _ (field (.ref z) 3>>=_) _ _ _;refine Aa (B1 hz rfl (x:=.ref TI) rfl ?_);refine Aa (Ca hTI rfl ?_);show Az _ _ (Br (.ref z)>>=_) _ _ _;refine Aa ?_;unfold Br;refine Aa (B1 hz rfl (x:=.none) rfl (Ai ?_));simp only[if_true];refine Aa (F0 ?_);refine Aa (B1 hz rfl (x:=.ref TO) rfl ?_);refine Aa (Cy hz (by simp) λg1 hz1 s1=>?_)
 replace hz1:Ed g1 z TI TO .ellipsis:=hz1
 refine Aa ?_;simp only[List.zipIdx_cons,List.zipIdx_nil,List.forIn_cons,List.forIn_nil];refine Aa (Aa (Fw ?_));show Az _ _ (Bs (.ref i1)>>=_) _ _ _;refine Aa (jbd (h1.extBut s1.extBut D.i1z) (hl1.extBut s1.extBut D.l1z) hx λg2 t2 s2=>Ai ?_);have p2:Ck g2 TO a b:=s2.extBut _ _ D.TOi1 (s1.extBut _ _ D.TOz hTO);refine Aa (Ca p2 rfl ?_);refine Aa (Fg p2 λg3 p3 s3=>?_)
 replace p3:Ck g3 TO x b:=p3
 refine Aa (wpAny_letGo (Ai ?_));refine Aa (Aa (Fw ?_));show Az _ _ (Bs (.ref i2)>>=_) _ _ _;refine Aa (jcv hh (((h2.extBut s1.extBut D.i2z).extBut s2.extBut D.i12.symm).extBut s3.extBut D.TOi2.symm)
  (((hl2.extBut s1.extBut D.l2z).extBut s2.extBut D.l2i1).extBut s3.extBut D.l2TO) hy λg4 e s4 he=>?_)
 obtain⟨oe,hoe,hce⟩:=he;have z4:Ed g4 z TI TO .ellipsis:=s4 _ _ D.i2z.symm (s3.extBut _ _ D.TOz.symm (s2.extBut _ _ D.i1z.symm hz1));have hez:e≠z:=λx=>by subst x;rw[z4]at hoe;cases hoe;simp at hce
 refine Cy z4 (by simp) λg5 _ s5=>hE g5 e (λc o c1 c2 c3 c4 x=>s5.extBut _ _ c1 (s4 _ _ c4 (s3.extBut _ _ c2 (s2.extBut _ _ c3 (s1.extBut _ _ c1 x))))) ⟨oe,s5.extBut _ _ hez hoe,hce⟩
theorem jit {z TI TO i1 i2 l1 l2:Addr} {k:Nat} {xs ys:Array Ah} {x a b:Ah} {Q:Option Ah->Ak->Prop} (hh:A.handled=none) (D:Ga z TI TO i1 i2 l1 l2)
  (hz:Ed s.heap z TI TO .none) (hTI:Ck s.heap TI (.ref i1) (.ref i2)) (hTO:Ck s.heap TO a b)
  (h1:s.heap.IsTupleIter i1 l1 k) (h2:s.heap.IsTupleIter i2 l2 k) (hl1:s.heap.IsTuple l1 xs) (hl2:s.heap.IsTuple l2 ys) (hx:xs[k]?=some x) (hy:ys[k]?=none)
  (hQ:∀h',(∀c o,c≠z->c≠TO->c≠i1->c≠i2->s.heap.get? c=some o->h'.get? c=some o)->Q none {s with heap:=h'}):Az (Ba prog w) A (D2 (.ref z)) Q E s:=by
 have hT:s.TypeIs (.ref z) "zip":=⟨_,hz,rfl⟩;unfold D2;refine Aa (D0 (Bh (name:=Cg "__next__") hT D8
  (Bv D8 hT F.entry_zip_next (jqf hh D hz hTI hTO h1 h2 hl1 hl2 hx hy λh' e hk he=>?_) (F.args_zip_next_1 _))))
 obtain⟨o,ho,hc⟩:=he;refine Aa (Fo (T:="StopIteration") (b:=true) ⟨o,ho,hc⟩ isSubtype_stop ?_);exact Ai (hQ _ hk)
end
def Itz2 (K:Aj) (a b:Addr):It :=
 ⟨λi H=>∃xs ys x y,SqT K H a xs/\SqT K H b ys/\xs[i]?=some x/\ys[i]?=some y,
  λi H v H'=>∃T x y,v=.ref T/\H T=none/\H'=upd H T (.tup [x,y])/\(∀xs,SqT K H a xs->xs[i]?=some x)/\∀ys,SqT K H b ys->ys[i]?=some y,
  λi H=>(∃xs,SqT K H a xs/\xs.length<=i)\/∃xs ys x,SqT K H a xs/\SqT K H b ys/\xs[i]?=some x/\ys.length<=i⟩
theorem jql {P:Bm} {w:B3} {K:Aj} {elts:List Expr} {kk:Nat} {pos:Pos} {a b z TI TO i1 i2:Addr} (D:Ga z TI TO i1 i2 a b):Turn P w K (.Tuple elts kk pos) (Itz2 K a b) [z,TI,TO,i1,i2] z
  (λi h=>Ed h z TI TO .none/\Ck h TI (.ref i1) (.ref i2)/\(∃x y,Ck h TO x y)/\h.IsTupleIter i1 a i/\h.IsTupleIter i2 b i) where
 mem:=by simp
 obj:=λi h st c hc=>by
  obtain⟨hz,hI,⟨x,y,hO⟩,⟨o1,e1,c1,d1⟩,⟨o2,e2,c2,d2⟩⟩:=st;simp only[Am,Ar,or_false]at hc;rcases hc with rfl | rfl | rfl | rfl | rfl
  ·exact⟨_,hz,λv q=>by have q':Data.fields _=Fv v:=q;cases q'⟩
  ·exact⟨_,hI,λv q=>by have q':Data.seq _ _=Fv v:=q;cases q'⟩
  ·exact⟨_,hO,λv q=>by have q':Data.seq _ _=Fv v:=q;cases q'⟩
  ·exact⟨o1,e1,λv q=>by rw[d1]at q;cases q⟩
  ·exact⟨o2,e2,λv q=>by rw[d2]at q;cases q⟩
 keep:=λi h h' st k=>by
  obtain⟨hz,hI,⟨x,y,hO⟩,h1,h2⟩:=st;exact⟨k z (by simp) _ hz,k TI (by simp) _ hI,⟨x,y,k TO (by simp) _ hO⟩,h1.at λo e=>k i1 (by simp) o e,h2.at λo e=>k i2 (by simp) o e⟩
 item:=by
  intro X hP hw hK hc i pins s σ H E I hf st hg;subst hP hw hK;obtain⟨hz,hI,⟨x0,y0,hO⟩,h1,h2⟩:=st;obtain⟨xs,ys,x,y,qa,qb,ex,ey⟩:=hg;obtain⟨its,rv,p,_⟩:=I.tuple qa;obtain⟨jts,rw',p',_⟩:=I.tuple qb;obtain⟨u,hu,ru⟩:=rv.get ex;obtain⟨u',hu',ru'⟩:=rw'.get ey;refine jd3 D hz hI hO h1 h2 (show s.heap.IsTuple a its.toArray from p) (show s.heap.IsTuple b jts.toArray from p') (x:=u) (y:=u') (by simpa using hu) (by simpa using hu') λh' a1 a2 a3 a4 a5 a6 a7=>⟨_,rfl,?_⟩;refine Gv (s:={ s with heap:=h'}) a1 λh'' b1 b2=>?_;have T:h''.get? s.heap.objs.size=some {cls:=.type "tuple",data:=.seq #[u,u']}:=b2.extBut _ _ (D5 (Ao hz)) a5;have Tn:H s.heap.objs.size=none:=I.hok.fresh (Al _);have kp:∀c o,c∉[z,TI,TO,i1,i2]->s.heap.get? c=some o->h''.get? c=some o:=λc o hc e=>by
   simp only[Am,Ar,or_false,not_or]at hc;exact b2.extBut _ _ hc.1 (a7 c o hc.1 hc.2.2.1 hc.2.2.2.1 hc.2.2.2.2 e)
  refine⟨.ref s.heap.objs.size,upd H s.heap.objs.size (.tup [x,y]),I.many (t':=s.toks) hf kp (Al _) ⟨by show 2<=Ay;decide,[u,u'],.cons ru (.cons ru' .nil),_,T,rfl,⟨_,rfl⟩,rfl⟩,rfl,⟨_,x,y,rfl,Tn,rfl,λzs q=>by rw[I.tuple_inj q qa];exact ex,λzs q=>by rw[I.tuple_inj q qb];exact ey⟩,
   ⟨b1,b2.extBut _ _ D.TIz (a7 _ _ D.TIz D.TITO D.TIi1 D.TIi2 hI),⟨_,_,b2.extBut _ _ D.TOz a2⟩,a3.extBut b2.extBut D.i1z,a4.extBut b2.extBut D.i2z⟩,λc hc=>?_⟩
  have hlt:c < s.heap.objs.size:=by
   simp only[Am,Ar,or_false]at hc;rcases hc with rfl | rfl | rfl | rfl | rfl
   ·exact Ao hz
   ·exact Ao hI
   ·exact Ao hO
   ·obtain⟨_,e,_⟩:=h1;exact Ao e
   ·obtain⟨_,e,_⟩:=h2;exact Ao e
  rw[jag (Bc hlt)];exact(hf c hc).1
 done:=by
  intro X hP hw hK hc i pins s σ H E I hf st hg;subst hP hw hK;obtain⟨hz,hI,⟨x0,y0,hO⟩,h1,h2⟩:=st;rcases hg with⟨xs,hq,hx⟩ | ⟨xs,ys,x,qa,qb,ex,ey⟩
  ·obtain⟨its,rv,p,_⟩:=I.tuple hq;have hl:=rv.length;refine jck (I.ok.hd hc) D hz hI h1 (show s.heap.IsTuple a its.toArray from p) (by simp;omega) λh' k=>⟨rfl,I.many0 (t':=s.toks) hf λc o hc e=>?_⟩;simp only[Am,Ar,or_false,not_or]at hc;exact k c o hc.1 hc.2.2.2.1 e
  ·obtain⟨its,rv,p,_⟩:=I.tuple qa;obtain⟨jts,rw',p',_⟩:=I.tuple qb;have hl:=rw'.length;obtain⟨u,hu,ru⟩:=rv.get ex;refine jit (I.ok.hd hc) D hz hI hO h1 h2 (show s.heap.IsTuple a its.toArray from p) (show s.heap.IsTuple b jts.toArray from p') (x:=u) (by simpa using hu) (by simp;omega) λh' k=>⟨rfl,I.many0 (t':=s.toks) hf λc o hc e=>?_⟩;simp only[Am,Ar,or_false,not_or]at hc;exact k c o hc.1 hc.2.2.1 hc.2.2.2.1 hc.2.2.2.2 e
 self:=λ_ _ _ _ _ st h=>Fn st.1 h
def j1z (K:Aj) (ta:TA):TI:=λσ H R=>ta σ H λvs H1=>∃a b,vs=[.ref a,.ref b]/\(∃xs,SqT K H1 a xs)/\(∃ys,SqT K H1 b ys)/\R (Itz2 K a b) H1
theorem jxx {X:Cx} {elts:List Expr} {kk:Nat} {tpos:Pos} {e1 e2:Expr} {ta:TA} {p pos:Pos} (hg:Gl X "zip") (hm:X.mg "zip"=none) (ha:PA X [e1,e2] ta) (hs:Ax [e1,e2] X.env=[(false,eval e1 X.env),(false,eval e2 X.env)]:=by rfl) (hs2:Ax [e2] X.env=[(false,eval e2 X.env)]:=by rfl) :
  PI X (.Tuple elts kk tpos) (.Call (.Name "zip" p) [e1,e2] [] pos) (j1z X.K ta):=by
 intro pins s σ H R I h;refine Call_ (jhk I hg hm jtd (Dj (thn (ha pos pins s σ H _ I h) λus s1 ⟨vs,H1,I1,r1,q1⟩=>?_) (by rw[hs,hs2]) (by rw[hs2];rfl)));obtain⟨a,b,e,⟨xs,qa⟩,⟨ys,qb⟩,q⟩:=q1;subst e;cases r1 with
 |cons r rr =>
  cases rr with
  |cons r' rr =>
   cases rr;cases r;cases r';obtain⟨its,rv,pp,_⟩:=I1.tuple qa;obtain⟨jts,rw',pp',_⟩:=I1.tuple qb;have la:a < s1.heap.objs.size:=by obtain⟨_,e,_⟩:=id pp;exact Ao e
   have lb:b < s1.heap.objs.size:=by obtain⟨_,e,_⟩:=id pp';exact Ao e
   refine jmj (show s1.heap.IsTuple a its.toArray from pp) (show s1.heap.IsTuple b jts.toArray from pp') λh' a1 a2 a3 a4 a5 a6=>Fn (s:={ s1 with heap:=h'}) a1 ?_;refine⟨_,_,_,_,H1,rfl,I1.kept (t':=s1.toks) a6,jql (zipApart_new la lb),⟨a1,a2,⟨_,_,a3⟩,a4,a5⟩,λc hc=>?_,q⟩;have hlt:s1.heap.objs.size<=c:=by
    simp only[Am,Ar,or_false]at hc;rcases hc with rfl | rfl | rfl | rfl | rfl<;>omega
   exact I1.fpOk hlt (I1.hok.fresh hlt)
end L2
namespace DL
open PySem L2 Nb
section
variable {X:Cx} {a b:Expr} {ta tb:TE} {wa wb:DT} {pos p:Pos} {K:Aj}
def jsq (w w':DT):DTI:=λδ n Q=>w δ n λx n1=>w' δ n1 λy n2=>match x,y with
 |.d (.tuple xs),.d (.tuple ys)=>ys.length<=xs.length/\Q (zipD xs ys) n2
 |_,_=>False
theorem j1v {elts:List Expr} {kk:Nat} {tpos:Pos} (hg:Gl X "zip") (hm:X.mg "zip"=none) (ha:DE X a ta wa) (hb:DE X b tb wb) (hK:X.K=K:=by rfl) (hs:Ax [a,b] X.env=[(false,eval a X.env),(false,eval b X.env)]:=by rfl) (hs2:Ax [b] X.env=[(false,eval b X.env)]:=by rfl)
  (he1:Ax [a,b] X.env=(false,eval a X.env)::Ax [b] X.env:=by rfl) (he2:Ax [b] X.env=(false,eval b X.env)::Ax [] X.env:=by rfl) :
  DI X (.Tuple elts kk tpos) (.Call (.Name "zip" p) [a,b] [] pos) (j1z K (jb2 ta (jb2 tb tNil))) (jsq wa wb):=by
 subst hK;refine⟨jxx hg hm (jas ha.pe (jas hb.pe jbm he2) he1) hs hs2,λC H B σ δ n Q Q' R q k=>ha.sd C H B σ δ n _ _ R q λv x H1 n1 R1 k1 r1 q1=>hb.sd C H1 B σ δ n1 _ _ R1 q1 λu y H2 n2 R2 k2 r2 q2=>?_⟩;have r1':=r1.kp k2 R1.bt
 split at q2
 ·rename_i xs ys;cases(show RdX H2 B v (.tuple xs)from r1')with
  |@tup aa vs _ e1 e2 e3 e4 =>
   cases(show RdX H2 B u (.tuple ys)from r2)with
   |@tup ab ws _ f1 f2 f3 f4 =>
    refine⟨aa,ab,rfl,⟨vs,SqT.of e1⟩,⟨ws,SqT.of f1⟩,k _ (zipD xs ys) H2 n2 R2 (k1.trans k2) (λfz th=>?_) q2.2⟩;have za:fz aa=some (.tup vs):=th.2 _ _ e1 e2;have zb:fz ab=some (.tup ws):=th.2 _ _ f1 f2;have lz:(zipD xs ys).length=ys.length:=by unfold zipD;rw[List.length_zipWith];have:=q2.1;omega
    have le:=q2.1;have l1:=e4.len;have l2:=f4.len;refine⟨by rw[lz,<-f4.len];exact f3,λi H hH hi=>?_,λH hH=>?_,λi H x H' d hH hd hy=>?_⟩
    ·rw[lz]at hi;have h1:i < vs.length:=by omega
     have h2:i < ws.length:=by omega
     exact⟨vs,ws,vs[i],ws[i],SqT.of (hH _ _ za),SqT.of (hH _ _ zb),Ag h1,Ag h2⟩
    ·by_cases hq:vs.length<=ws.length
     ·exact .inl ⟨vs,SqT.of (hH _ _ za),by rw[lz];omega⟩
     ·have hq':ws.length < vs.length:=by omega
      exact .inr ⟨vs,ws,vs[ws.length],SqT.of (hH _ _ za),SqT.of (hH _ _ zb),by rw[lz,<-l2];exact Ag hq',by rw[lz,l2];exact Al _⟩
    ·obtain⟨T,x1,y1,rfl,hT,rfl,hx,hy⟩:=hy;refine⟨λb o e=>by rw[jag (jaf e hT)];exact e,λB' hB hBa=>?_⟩;have hi2:i < ys.length:=by rw[<-lz];exact(A6.mp hd).1
     have hi:i < xs.length:=by omega
     have ed:d=.tuple [xs[i],ys[i]]:=by
      unfold zipD at hd;rw[List.getElem?_zipWith,Ag hi,Ag hi2]at hd;exact(Bj hd).symm
     subst ed;obtain⟨u1,hu1,ru1⟩:=e4.getD (Ag hi);obtain⟨u2,hu2,ru2⟩:=f4.getD (Ag hi2);have t1:=hx _ (SqT.of (hH _ _ za));have t2:=hy _ (SqT.of (hH _ _ zb));rw[hu1]at t1;rw[hu2]at t2;cases t1;cases t2;have mv:∀b o,H2 b=some o->¬B b->upd H T (.tup [x1,y1]) b=some o/\¬B' b:=λb o e ne=>by
      have:=hH _ _ (th.2 _ _ e ne);exact⟨by rw[jag (jaf this hT)];exact this,hB _ _ (th.2 _ _ e ne)⟩
     exact .tup jaj (λz=>hBa T z hT) (by show 2<=Ay;decide) (.cons (ru1.move mv) (.cons (ru2.move mv) .nil))
 ·exact q2.elim
end
end DL
namespace L2
open PySem PySem.Spec PyProof.Rows
def jxr (K:Aj):R2:=λx y H Q=>∃a b ys,x=.ref a/\y=.ref b/\SqT K H a []/\SqT K H b ys/\Q (.ref b) H
theorem jyb {X:Cx}:OpR X (El .Add) (jxr X.K):=by
 intro pins s σ H x y v u Q I rx ry h;obtain⟨a,b,ys,rfl,rfl,ha,hb,q0⟩:=h;cases(show v=Bw a from rx);cases(show u=Bw b from ry);obtain⟨its,r1,p1,_⟩:=I.tuple ha;obtain⟨its2,r2,p2,_⟩:=I.tuple hb;obtain⟨⟨cls,dd,data,sl⟩,ho,hc,n,hd⟩:=id p1;obtain⟨⟨cls2,dd2,data2,sl2⟩,ho2,hc2,n2,hd2⟩:=id p2;simp only at hc hd hc2 hd2;subst hc hd hc2 hd2;have hi:its=[]:=r1.nil_iff.mpr rfl;exact concat_meets ⟨_,ho,rfl⟩ ⟨_,ho2,rfl⟩ noFill_tuple_add seq_tuple_add Fs Fl (E8 _ _)
  (tuple_addW0 a b its.toArray its2.toArray n n2 dd dd2 sl sl2 (by simp[hi])) ⟨ho,ho2,⟨.ref b,H,I,rfl,q0⟩⟩
end L2
namespace DL
open PySem L2 Nb
section
variable {X:Cx} {a b:Expr} {ta tb:TE} {wa wb:DT} {pos p:Pos} {K:Aj}
def jbt:Wv->Wv->Int->DQ->Prop:=λx y n Q=>match x,y with
 |.d (.tuple []),.d (.tuple j)=>Q (.d (.tuple j)) n
 |x,y=>gAdd x y n Q
theorem jt4:SndO (λx y H Q=>jud K x y H Q\/jxr K x y H Q) jbt:=λC H B σ δ n x y p q Q Q' R rx ry h1 k=>by
 unfold jbt at h1
 split at h1
 ·rename_i j;cases(show RdX H B x (.tuple [])from rx)with
  |@tup ax xs _ e1 e2 e3 e4 =>
   cases(show RdX H B y (.tuple j)from ry)with
   |@tup ay ys _ f1 f2 f3 f4 =>
    cases e4;exact .inr ⟨ax,ay,ys,rfl,rfl,SqT.of e1,SqT.of f1,k _ _ H n R (Kp.refl _ _) (wd (show RdX H B _ (.tuple j)from .tup f1 f2 f3 f4)) h1⟩
 ·exact .inl (jt5 C H B σ δ n x y _ _ Q Q' R rx ry h1 k)
theorem j2j (ha:DE X a ta wa) (hb:DE X b tb wb) (hK:X.K=K:=by rfl):DE X (.BinOp a .Add b pos) (tOp (λx y H Q=>jud K x y H Q\/jxr K x y H Q) ta tb) (w2 wa wb jbt):=by
 subst hK;exact d_op (op_addA.or jyb) jt4 ha hb
end
end DL
namespace L2
open PySem PySem.Spec PyProof.Rows
end L2
namespace DL
open PySem L2 Nb
end DL
namespace L2
open PySem PySem.Spec PyProof.Rows
end L2
namespace DL
open PySem L2 Nb
end DL
namespace L2
open PySem PySem.Spec PyProof.Rows
end L2
namespace DL
open PySem L2 Nb
end DL
namespace L2
open PySem PySem.Spec PyProof.Rows
end L2
namespace DL
open PySem L2 Nb
theorem j2i {X:Cx} {a b:Expr} {ta tb:TE} {wa wb:DT} {pos:Pos} (ha:DE X a ta wa) (hb:DE X b tb wb):DE X (.BinOp a .Add b pos) (tOp (rI0 λi j=>.int (i+j)) ta tb) (w2 wa wb (gI0 λi j=>.int (i+j))):=d_op op_add (jq7 λ_ _ _ _=>.int _) ha hb
end DL
namespace L2
open PySem PySem.Spec PyProof.Rows
end L2
namespace DL
open PySem L2 Nb
end DL
namespace L2
open PySem PySem.Spec PyProof.Rows
end L2
namespace DL
open PySem L2 Nb
end DL
namespace L2
open PySem PySem.Spec
end L2
namespace L2
open PySem PySem.Spec PyProof.Rows
theorem jny:By "list"=some (.type "list"):=by decide +kernel
end L2
namespace DL
open PySem L2 Nb
end DL
namespace L2
open PySem PySem.Spec
end L2
namespace DL
open PySem L2 Nb
end DL
namespace Nb
open PySem L2 DL
def spJ (g:Ab->Bool):DSp:=λws n Q=>match ws with
 |[.d d]=>Q (.d (.bool (g d))) n
 |_=>False
theorem jbo {g:Ab->Bool} {ws:List Wv} {n:Int} {Q:DQ} (h:spJ g ws n Q):ws.length=1:=by
 unfold spJ at h
 split at h
 ·rfl
 ·exact h.elim
def okS (c:Nat):Bool:=!decide ([c] < ("a":Str).cps.toList)&&!decide (("z":Str).cps.toList < [c])
def letB (k:Int):Ab->Bool
 |.str x=>decide ((1:Int)<=(x.length:Int))&&(decide ((x.length:Int)<=k)&&x.cps.toList.all okS)
 |_=>false
def jb0:DSp:=λws n Q=>match ws with
 |[.d d,.d (.int k)]=>Q (.d (.bool (letB k d))) n
 |_=>False
def jc6:Ab->Bool
 |.int _=>true
 |_=>false
def jbv (lo hi:Int):Ab->Bool
 |.int i=>decide (lo<=i)&&decide (i<=hi)
 |_=>false
abbrev numB:Ab->Bool:=jbv 0 99
def jan (d:Ab):Bool:=letB 8 d || numB d
def rowB:Ab->Bool
 |.tuple ds=>decide ((1:Int)<=(ds.length:Int))&&(decide ((ds.length:Int)<=4)&&ds.all jan)
 |_=>false
def ageB (d:Ab):Bool:=jda d || jbv 1 20 d
def jcb:Ab->Bool
 |.tuple [a,b]=>rowB a&&ageB b
 |_=>false
theorem jhs {w:DT} {Q:List Ab->Int->Prop} {rest:Sl} (P:Ab->Prop) (f:Ab->Ab) (h:∀d n Q',P d->Q' (.d (f d)) n->w (some (.w (.d d))::rest) n Q'):∀(items acc:List Ab) (x:Option SV) (n:Int),(∀d∈items,P d)->Q (acc++items.map f) n->jbe (jac 0) cYes w Q items acc (x::rest) n
 |[],acc,x,n,hP,q=>by
  rw[Cf,Bu]at q;exact q
 |d::r,acc,x,n,hP,q=>by
  simp only[jbe,jac,cYes,if_true,Bp];refine h d n _ (hP d Au) ?_;refine jhs P f h r (acc++[f d]) _ n (λe he=>hP e (Aw _ he)) ?_;rw[Bo];exact q
theorem jb6 {c:DTT} {w:DT} {Q:List Ab->Int->Prop} {rest:Sl} (P:Ab->Prop) (p:Ab->Bool) (f:Ab->Ab) (hp:∀d n Q',P d->Q' (p d) n->c (some (.w (.d d))::rest) n Q') (h:∀d n Q',P d->Q' (.d (f d)) n->w (some (.w (.d d))::rest) n Q') :
  ∀(items acc:List Ab) (x:Option SV) (n:Int),(∀d∈items,P d)->Q (acc++(items.filter p).map f) n->jbe (jac 0) c w Q items acc (x::rest) n
 |[],acc,x,n,hP,q=>by
  rw[List.filter_nil,Cf,Bu]at q;exact q
 |d::r,acc,x,n,hP,q=>by
  simp only[jbe,jac,Bp];refine hp d n _ (hP d Au) ?_;cases e:p d with
  |true =>
   rw[if_pos rfl];refine h d n _ (hP d Au) ?_;refine jb6 P p f hp h r (acc++[f d]) _ n (λe he=>hP e (Aw _ he)) ?_;rw[List.filter_cons_of_pos e]at q;rw[Bo];exact q
  |false =>
   rw[if_neg An];refine jb6 P p f hp h r acc _ n (λe he=>hP e (Aw _ he)) ?_;rw[List.filter_cons_of_neg (by rw[e];exact An)]at q;exact q
def isCh (d:Ab):Prop:=∃c:Nat,d=.str ⟨#[c]⟩
theorem jva (x:Str):∀d∈jcx x,isCh d:=λd hd=>by
 obtain⟨c,_,rfl⟩:=Ce.mp hd;exact⟨c,rfl⟩
def okD:Ab->Bool
 |.str y=>!decide (y.cps.toList < ("a":Str).cps.toList)&&!decide (("z":Str).cps.toList < y.cps.toList)
 |_=>false
theorem jye (x:Str):(jcx x).all okD=x.cps.toList.all okS:=by
 unfold jcx;rw[E4];rfl
theorem jfq {α:Type} (f:α->Bool):∀l:List α,jbn (l.map λa=>.bool (f a))=some (l.map f)
 |[]=>rfl
 |a::r=>by
  show(jbn (r.map λa=>.bool (f a))).map _=_;rw[jfq f r];rfl
theorem jwp {α:Type} (f:α->Bool) (l:List α):(l.map f).all id=l.all f:=by
 rw[E4];rfl
theorem jf8 {α β:Type} (p:α->Bool) (f:α->β) (l:List α):((l.filter p).map f).isEmpty=l.all λa=>!p a:=by
 induction l with
 |nil=>rfl
 |cons a r ih =>
  cases e:p a with
  |true=>rw[List.filter_cons_of_pos e,Dt,e];rfl
  |false=>rw[List.filter_cons_of_neg (by rw[e];exact An),Dt,e,ih];rfl
theorem jo5 {α:Type} {xs:List α} {r:Int} (h0:0<=r) (h1:r < xs.length):∃v,atI xs r=some v/\v∈xs:=by
 obtain⟨j,rfl⟩:=Cs h0;have hj:j < xs.length:=by omega
 exact⟨xs[j],jbc (Ag hj),F6 hj⟩
end Nb
namespace DL
open PySem L2 Nb
theorem j05 (c:Nat):occB ⟨#[c]⟩ "abcdefghijklmnopqrstuvwxyz"=okS c:=by
 by_cases h:c < 128
 ·exact(show ∀c < 128,occB ⟨#[c]⟩ "abcdefghijklmnopqrstuvwxyz"=okS c by decide +kernel) c h
 ·have h1:okS c=false:=by
   unfold okS;have:decide (("z":Str).cps.toList < [c])=true:=by
    refine decide_eq_true ?_;rw[show("z":Str).cps.toList=[122] by decide +kernel];exact List.Lex.rel (by omega)
   rw[this];simp
  rw[h1];unfold occB;rw[PySem.W.occ_nil_of_no]
  ·rfl
  ·intro i hi;cases e:Builtin.Str.subAt "abcdefghijklmnopqrstuvwxyz" ⟨#[c]⟩ i with
   |false=>rfl
   |true =>
    have hm:c∈("abcdefghijklmnopqrstuvwxyz":Str).cps:=by
     have e1:=beq_iff_eq.mp e;have:c∈(⟨#[c]⟩:Str).cps:=by simp
     rw[<-e1]at this;obtain⟨k,hk,e2⟩:=Array.mem_extract_iff_getElem.mp this;rw[<-e2];exact Array.getElem_mem _
    have:=Array.all_eq_true_iff_forall_mem.mp (show("abcdefghijklmnopqrstuvwxyz":Str).cps.all (λc=>decide (c < 128))=true by decide +kernel) c hm;exact absurd (of_decide_eq_true this) h
section
variable {X:Cx} {K:Aj}
structure SmlA (d:Ab):Prop where
 lay:Cb d=true
 dep:Cu d<=20
 shw:Ej d=true
 len:d.shown.length<=Ay
def jv2 (K:Aj):List V->Hp->VK->Prop:=λxs H Q=>∃x d,xs=[x]/\RdD K H x d/\SmlA d/\Q (.str d.shown) H
theorem jp7 (hg:X.A.guards=some []) (hu:X.A.units+64 < cLine) (hK:X.K=K:=by rfl):CallR X (.builtin "repr") (jv2 K):=by
 subst hK;intro pins s σ H xs us Q I r h;obtain⟨x,d,rfl,hd,hs,q⟩:=h;obtain⟨u,rfl,ru⟩:=jin r;have hsh:=hs.shw;have hln:=hs.len;cases hd with
 |non =>
  cases(show u=Bf from ru);exact P.repr_of_none ⟨.str _,H,I.tok _,⟨_,rfl⟩,q⟩
 |bl b =>
  cases(show u=Value.bool b from ru);exact P.repr_of_bool ⟨.str _,H,I.tok _,⟨_,rfl⟩,by cases b<;>exact q⟩
 |int i =>
  obtain⟨t,rfl⟩:=(show ∃t,u=Value.int i t from ru);exact P.repr_of_int (of_decide_eq_true hsh) ⟨.str _,H,I.tok _,⟨_,rfl⟩,q⟩
 |str y =>
  obtain⟨t,rfl⟩:=(show ∃t,u=F3 y t from ru);exact P.repr_of_str ⟨.str _,H,I.tok _,⟨_,rfl⟩,q⟩ hln
 |@lst a _ _ h1 h2 =>
  cases(show u=Bw a from ru);obtain⟨as,hr⟩:=RdD.reads I (RdD.lst h1 h2) (show RelV (.ref a) (Bw a)from rfl);have hdp:=hs.dep;refine repr_of_reads' hr hsh (PyData.noDict_hsm (PyData.hasDict_of_canLay _ hs.lay)) hg (by omega) (λ_ _ e=>e) (λh' u tk hk=>?_) hln;exact⟨.str _,H,I.kept hk,⟨u,rfl⟩,q⟩
 |@tup a _ _ h1 h2 =>
  cases(show u=Bw a from ru);obtain⟨as,hr⟩:=RdD.reads I (RdD.tup h1 h2) (show RelV (.ref a) (Bw a)from rfl);have hdp:=hs.dep;refine repr_of_reads' hr hsh (PyData.noDict_hsm (PyData.hasDict_of_canLay _ hs.lay)) hg (by omega) (λ_ _ e=>e) (λh' u tk hk=>?_) hln;exact⟨.str _,H,I.kept hk,⟨u,rfl⟩,q⟩
def joy:List Wv->Int->DQ->Prop:=λxs n Q=>match xs with
 |[.d d]=>SmlA d/\Q (.d (.str d.shown)) n
 |_=>False
theorem jq6:SndB (jv2 K) joy:=λC H B σ δ n vs xs Q Q' R r h k=>by
 unfold joy at h
 split at h
 ·rename_i d;cases r with
  |cons r1 r2 =>
   cases r2;have r1:RdX H B _ d:=r1;exact⟨_,d,rfl,r1.rd,h.1,k _ _ H n R (Kp.refl _ _) (wd (show RdX H B _ (.str _)from .str _ h.1.len)) h.2⟩
 ·exact h.elim
end
end DL
namespace L2
open PySem PySem.Spec PyProof.Rows
end L2
namespace DL
open PySem L2 Nb
end DL
namespace L2
open PySem PySem.Spec PyProof.Rows
section
variable {prog:Bm} {w:B3} {A:B8} {E:Ah->Ak->Prop} {s:Ak}
theorem jpc {z TI TO i1 i2 l1 l2:Addr} {k:Nat} {xs ys:Array Ah} {x y a b:Ah} {Q:Ah->Ak->Prop} (D:Ga z TI TO i1 i2 l1 l2)
  (hz:Ed s.heap z TI TO .none) (hTI:Ck s.heap TI (.ref i1) (.ref i2)) (hTO:Ck s.heap TO a b)
  (h1:s.heap.IsTupleIter i1 l1 k) (h2:s.heap.IsListIter i2 l2 k) (hl1:s.heap.IsTuple l1 xs) (hl2:s.heap.IsList l2 ys) (hx:xs[k]?=some x) (hy:ys[k]?=some y)
  (hQ:∀h',Ed h' z TI TO (Cr s.heap.objs.size)->Ck h' TO x y->h'.IsTupleIter i1 l1 (k+1)->h'.IsListIter i2 l2 (k+1)->Ck h' s.heap.objs.size x y->h'.objs.size=s.heap.objs.size+1 ->
   (∀c o,c≠z->c≠TO->c≠i1->c≠i2->s.heap.get? c=some o->h'.get? c=some o)->Q (.ref s.heap.objs.size) {s with heap:=h'}) :
  Az (Ba prog w) A (D4.«zip.__next__» ⟨[.ref z],[]⟩) (λfin s'=>∃v,fin=.done (.ret v)/\Q v s') E s:=by
 show Az _ _ (field (.ref z) 2>>=_) _ _ _;refine Aa (B1 hz rfl (x:=.bool false) rfl ?_);show Az _ _ (field (.ref z) 3>>=_) _ _ _;refine Aa (B1 hz rfl (x:=.ref TI) rfl ?_);refine Aa (Ca hTI rfl ?_);show Az _ _ (Br (.ref z)>>=_) _ _ _;refine Aa ?_;unfold Br;refine Aa (B1 hz rfl (x:=.none) rfl (Ai ?_));simp only[if_true];refine Aa (F0 ?_);refine Aa (B1 hz rfl (x:=.ref TO) rfl ?_);refine Aa (Cy hz (by simp) λg1 hz1 s1=>?_)
 replace hz1:Ed g1 z TI TO .ellipsis:=hz1
 refine Aa ?_;simp only[List.zipIdx_cons,List.zipIdx_nil,List.forIn_cons,List.forIn_nil];refine Aa (Aa (Fw ?_));show Az _ _ (Bs (.ref i1)>>=_) _ _ _;refine Aa (jbd (h1.extBut s1.extBut D.i1z) (hl1.extBut s1.extBut D.l1z) hx λg2 t2 s2=>Ai ?_);have p2:Ck g2 TO a b:=s2.extBut _ _ D.TOi1 (s1.extBut _ _ D.TOz hTO);refine Aa (Ca p2 rfl ?_);refine Aa (Fg p2 λg3 p3 s3=>?_)
 replace p3:Ck g3 TO x b:=p3
 refine Aa (wpAny_letGo (Ai ?_));refine Aa (Aa (Fw ?_));show Az _ _ (Bs (.ref i2)>>=_) _ _ _;refine Aa (wpAny_nextOf_list_item (((h2.extBut s1.extBut D.i2z).extBut s2.extBut D.i12.symm).extBut s3.extBut D.TOi2.symm)
  (((hl2.extBut s1.extBut D.l2z).extBut s2.extBut D.l2i1).extBut s3.extBut D.l2TO) hy λg4 t4 s4=>Ai ?_)
 have p4:Ck g4 TO x b:=s4.extBut _ _ D.TOi2 p3;refine Aa (Ca p4 rfl ?_);refine Aa (Fg p4 λg5 p5 s5=>?_)
 replace p5:Ck g5 TO x y:=p5
 refine Aa (wpAny_letGo (Ai (Ai ?_)));refine Aa (Ca p5 rfl ?_);refine Aa (wpAny_newTuple ?_);have sz:g5.objs.size=s.heap.objs.size:=by rw[s5.1,s4.1,s3.1,s2.1,s1.1]
 have z5:Ed g5 z TI TO .ellipsis:=s5.extBut _ _ D.TOz.symm (s4.extBut _ _ D.i2z.symm (s3.extBut _ _ D.TOz.symm (s2.extBut _ _ D.i1z.symm hz1)));have k5:∀c o,c≠z->c≠TO->c≠i1->c≠i2->s.heap.get? c=some o->g5.get? c=some o:=λc o c1 c2 c3 c4 e =>
  s5.extBut _ _ c2 (s4.extBut _ _ c4 (s3.extBut _ _ c2 (s2.extBut _ _ c3 (s1.extBut _ _ c1 e))))
 have u1:g5.IsTupleIter i1 l1 (k+1):=((t2.extBut s3.extBut D.TOi1.symm).extBut s4.extBut D.i12).extBut s5.extBut D.TOi1.symm;have u2:g5.IsListIter i2 l2 (k+1):=t4.extBut s5.extBut D.TOi2.symm;have zlt:z < g5.objs.size:=Ao z5;show Az _ _ (Df (.ref z) (.ref g5.objs.size)>>=_) _ _ _;refine Aa ?_;unfold Df;have z6:Ed (g5.push {cls:=.type "tuple",data:=.seq #[x,y]}) z TI TO .ellipsis:=Ad _ z5;refine Aa (Cy z6 (by simp) λg7 z7 s7=>?_)
 replace z7:Ed g7 z TI TO (Cr g5.objs.size):=z7
 refine Cy z7 (by simp) λg8 z8 s8=>?_
 replace z8:Ed g8 z TI TO (Cr g5.objs.size):=z8
 have up:∀c o,c≠z->g5.get? c=some o->g8.get? c=some o:=λc o c1 e=>s8.extBut _ _ c1 (s7.extBut _ _ c1 (Ad _ e));have T8:Ck g8 g5.objs.size x y:=s8.extBut _ _ (D5 zlt) (s7.extBut _ _ (D5 zlt) (As _ rfl));have e8:g8.objs.size=g5.objs.size+1:=by rw[s8.1,s7.1,Bx]
 rw[sz]at z8 T8 e8;refine Ai ⟨_,rfl,?_⟩;show Q (.ref g5.objs.size) _;rw[sz];exact hQ g8 z8 (up _ _ D.TOz p5) (u1.at λo e=>up _ o D.i1z e) (u2.at λo e=>up _ o D.i2z e) T8 e8 λc o c1 c2 c3 c4 e=>up c o c1 (k5 c o c1 c2 c3 c4 e)
theorem jhg {z TI TO i1 i2 l1 l2:Addr} {k:Nat} {xs ys:Array Ah} {x y a b:Ah} {Q:Option Ah->Ak->Prop} (D:Ga z TI TO i1 i2 l1 l2)
  (hz:Ed s.heap z TI TO .none) (hTI:Ck s.heap TI (.ref i1) (.ref i2)) (hTO:Ck s.heap TO a b)
  (h1:s.heap.IsTupleIter i1 l1 k) (h2:s.heap.IsListIter i2 l2 k) (hl1:s.heap.IsTuple l1 xs) (hl2:s.heap.IsList l2 ys) (hx:xs[k]?=some x) (hy:ys[k]?=some y)
  (hQ:∀h',Ed h' z TI TO (Cr s.heap.objs.size)->Ck h' TO x y->h'.IsTupleIter i1 l1 (k+1)->h'.IsListIter i2 l2 (k+1)->Ck h' s.heap.objs.size x y->h'.objs.size=s.heap.objs.size+1 ->
   (∀c o,c≠z->c≠TO->c≠i1->c≠i2->s.heap.get? c=some o->h'.get? c=some o)->Q (some (.ref s.heap.objs.size)) {s with heap:=h'}) :
  Az (Ba prog w) A (D2 (.ref z)) Q E s:=by
 have hT:s.TypeIs (.ref z) "zip":=⟨_,hz,rfl⟩;unfold D2;exact Aa (D0 (Bh (name:=Cg "__next__") hT D8
  (Bv D8 hT F.entry_zip_next
   (jpc D hz hTI hTO h1 h2 hl1 hl2 hx hy λh' a1 a2 a3 a4 a5 a6 a7=>Ai (hQ h' a1 a2 a3 a4 a5 a6 a7)) (F.args_zip_next_1 _))))
end
abbrev zs2 (h:Heap) (l1 l2:Addr):Heap:=(zt1 h l1).push {cls:=.type "list_iterator",data:=.fields #[.ref l2,.int 0 0]}
abbrev zs3 (h:Heap) (l1 l2:Addr):Heap:=(zs2 h l1 l2).push {cls:=.type "tuple",data:=.seq #[.ref h.objs.size,.ref (zt1 h l1).objs.size]}
abbrev zs4 (h:Heap) (l1 l2:Addr):Heap:=(zs3 h l1 l2).push {cls:=.type "tuple",data:=.seq #[.none,.none]}
abbrev zs5 (h:Heap) (l1 l2:Addr):Heap:=(zs4 h l1 l2).push {cls:=.type "zip",data:=.fields #[.none,.bool false,.bool false,.ref (zs2 h l1 l2).objs.size,.ref (zs3 h l1 l2).objs.size]}
theorem jhi (l1 l2:Addr) (xs ys:Array Ah) :
  Meets (D4.«zip.__new__» ⟨[.type "zip",.ref l1,.ref l2],[]⟩) (λ_ R s=>s.heap.IsTuple l1 xs/\s.heap.IsList l2 ys /\
   R (.ok (.ret (.ref (zs4 s.heap l1 l2).objs.size))) {s with heap:=zs5 s.heap l1 l2}) :=
 .of_wp λprog w A R s h=>by
  obtain⟨hp,g,d,tk,os⟩:=s;obtain⟨hl1,hl2,h⟩:=h;have hsub:=sub_zip;have hL1:Heap.IsTuple (Shared.heap ⟨hp,g,d,tk,os⟩) l1 xs:=hl1;have hL2:Heap.IsList (Shared.heap ⟨hp.push {cls:=.type "tuple_iterator",data:=.fields #[.ref l1,.int 0 0]},g,d,tk,os⟩) l2 ys:=Heap.IsList.push hl2 _
  wp_walk using F1 hL1,wpAny_pyIter_list hL2
  exact⟨_,rfl,h⟩
section
variable {prog:Bm} {w:B3} {A:B8} {E:Ah->Ak->Prop} {s:Ak}
theorem jp6 {l1 l2:Addr} {xs ys:Array Ah} {Q:Ah->Ak->Prop} (hl1:s.heap.IsTuple l1 xs) (hl2:s.heap.IsList l2 ys)
  (h:∀h',Ed h' (s.heap.objs.size+4) (s.heap.objs.size+2) (s.heap.objs.size+3) .none->Ck h' (s.heap.objs.size+2) (.ref s.heap.objs.size) (.ref (s.heap.objs.size+1)) ->
   Ck h' (s.heap.objs.size+3) .none .none->h'.IsTupleIter s.heap.objs.size l1 0->h'.IsListIter (s.heap.objs.size+1) l2 0 ->
   (∀c o,s.heap.get? c=some o->h'.get? c=some o)->Q (.ref (s.heap.objs.size+4)) {s with heap:=h'}) :
  Az (Ba prog w) A (call (.type "zip") [.ref l1,.ref l2]) Q E s:=by
 refine callType_new F.called_zip (by decide) (F.typeCall_zip_2 _ _) (F.newCall_zip_2 _ _) (λobj=>F.args_object_init_3 obj _ _) F.entry_zip_new
  (jhi l1 l2 xs ys) ⟨hl1,hl2,?_⟩
 have z1:(zt1 s.heap l1).objs.size=s.heap.objs.size+1:=Bx ..;have z2:(zs2 s.heap l1 l2).objs.size=s.heap.objs.size+2:=by rw[Bx,z1]
 have z3:(zs3 s.heap l1 l2).objs.size=s.heap.objs.size+3:=by rw[Bx,z2]
 have z4:(zs4 s.heap l1 l2).objs.size=s.heap.objs.size+4:=by rw[Bx,z3]
 have g5:(zs5 s.heap l1 l2).get? (zs4 s.heap l1 l2).objs.size=some _:=As _ rfl;have g4:(zs5 s.heap l1 l2).get? (zs3 s.heap l1 l2).objs.size=some _:=Ad _ (As _ rfl);have g3:(zs5 s.heap l1 l2).get? (zs2 s.heap l1 l2).objs.size=some _:=Ad _ (Ad _ (As _ rfl));have g2:(zs5 s.heap l1 l2).get? (zt1 s.heap l1).objs.size=some _:=Ad _ (Ad _ (Ad _ (As _ rfl)));have g1:(zs5 s.heap l1 l2).get? s.heap.objs.size=some _:=Ad _ (Ad _ (Ad _ (Ad _ (As _ rfl))));show _/\_;rw[z2,z3,z4]at g5;rw[z1,z2]at g3;rw[z3]at g4;rw[z1]at g2;rw[z4];exact⟨⟨_,g5,rfl⟩,h _ g5 g3 g4 ⟨_,g1,rfl,rfl⟩ ⟨_,g2,rfl,rfl⟩ λc o x =>
  Ad _ (Ad _ (Ad _ (Ad _ (Ad _ x))))⟩
end
def ItzS (K:Aj) (a b:Addr):It :=
 ⟨λi H=>∃xs ys x y,SqT K H a xs/\SqL K H b ys/\xs[i]?=some x/\ys[i]?=some y,
  λi H v H'=>∃T x y,v=.ref T/\H T=none/\H'=upd H T (.tup [x,y])/\(∀xs,SqT K H a xs->xs[i]?=some x)/\∀ys,SqL K H b ys->ys[i]?=some y,
  λi H=>∃xs,SqT K H a xs/\xs.length<=i⟩
theorem jqk {P:Bm} {w:B3} {K:Aj} {elts:List Expr} {kk:Nat} {pos:Pos} {a b z TI TO i1 i2:Addr} (D:Ga z TI TO i1 i2 a b):Turn P w K (.Tuple elts kk pos) (ItzS K a b) [z,TI,TO,i1,i2] z
  (λi h=>Ed h z TI TO .none/\Ck h TI (.ref i1) (.ref i2)/\(∃x y,Ck h TO x y)/\h.IsTupleIter i1 a i/\h.IsListIter i2 b i) where
 mem:=by simp
 obj:=λi h st c hc=>by
  obtain⟨hz,hI,⟨x,y,hO⟩,⟨o1,e1,c1,d1⟩,⟨o2,e2,c2,d2⟩⟩:=st;simp only[Am,Ar,or_false]at hc;rcases hc with rfl | rfl | rfl | rfl | rfl
  ·exact⟨_,hz,λv q=>by have q':Data.fields _=Fv v:=q;cases q'⟩
  ·exact⟨_,hI,λv q=>by have q':Data.seq _ _=Fv v:=q;cases q'⟩
  ·exact⟨_,hO,λv q=>by have q':Data.seq _ _=Fv v:=q;cases q'⟩
  ·exact⟨o1,e1,λv q=>by rw[d1]at q;cases q⟩
  ·exact⟨o2,e2,λv q=>by rw[d2]at q;cases q⟩
 keep:=λi h h' st k=>by
  obtain⟨hz,hI,⟨x,y,hO⟩,h1,h2⟩:=st;exact⟨k z (by simp) _ hz,k TI (by simp) _ hI,⟨x,y,k TO (by simp) _ hO⟩,h1.at λo e=>k i1 (by simp) o e,h2.at λo e=>k i2 (by simp) o e⟩
 item:=by
  intro X hP hw hK hc i pins s σ H E I hf st hg;subst hP hw hK;obtain⟨hz,hI,⟨x0,y0,hO⟩,h1,h2⟩:=st;obtain⟨xs,ys,x,y,qa,qb,ex,ey⟩:=hg;obtain⟨its,rv,p,_⟩:=I.tuple qa;obtain⟨jts,rw',p',_⟩:=I.list qb;obtain⟨u,hu,ru⟩:=rv.get ex;obtain⟨u',hu',ru'⟩:=rw'.get ey;refine jhg D hz hI hO h1 h2 (show s.heap.IsTuple a its.toArray from p) p'.isList (x:=u) (y:=u') (by simpa using hu) (by simpa using hu') λh' a1 a2 a3 a4 a5 a6 a7=>⟨_,rfl,?_⟩;refine Gv (s:={ s with heap:=h'}) a1 λh'' b1 b2=>?_;have T:h''.get? s.heap.objs.size=some {cls:=.type "tuple",data:=.seq #[u,u']}:=b2.extBut _ _ (D5 (Ao hz)) a5;have Tn:H s.heap.objs.size=none:=I.hok.fresh (Al _);have kp:∀c o,c∉[z,TI,TO,i1,i2]->s.heap.get? c=some o->h''.get? c=some o:=λc o hc e=>by
   simp only[Am,Ar,or_false,not_or]at hc;exact b2.extBut _ _ hc.1 (a7 c o hc.1 hc.2.2.1 hc.2.2.2.1 hc.2.2.2.2 e)
  refine⟨.ref s.heap.objs.size,upd H s.heap.objs.size (.tup [x,y]),I.many (t':=s.toks) hf kp (Al _) ⟨by show 2<=Ay;decide,[u,u'],.cons ru (.cons ru' .nil),_,T,rfl,⟨_,rfl⟩,rfl⟩,rfl,⟨_,x,y,rfl,Tn,rfl,λzs q=>by rw[I.tuple_inj q qa];exact ex,λzs q=>by rw[I.list_inj q qb];exact ey⟩,
   ⟨b1,b2.extBut _ _ D.TIz (a7 _ _ D.TIz D.TITO D.TIi1 D.TIi2 hI),⟨_,_,b2.extBut _ _ D.TOz a2⟩,a3.extBut b2.extBut D.i1z,a4.extBut b2.extBut D.i2z⟩,λc hc=>?_⟩
  have hlt:c < s.heap.objs.size:=by
   simp only[Am,Ar,or_false]at hc;rcases hc with rfl | rfl | rfl | rfl | rfl
   ·exact Ao hz
   ·exact Ao hI
   ·exact Ao hO
   ·obtain⟨_,e,_⟩:=h1;exact Ao e
   ·obtain⟨_,e,_⟩:=h2;exact Ao e
  rw[jag (Bc hlt)];exact(hf c hc).1
 done:=by
  intro X hP hw hK hc i pins s σ H E I hf st hg;subst hP hw hK;obtain⟨hz,hI,_,h1,h2⟩:=st;obtain⟨xs,hq,hx⟩:=hg;obtain⟨its,rv,p,_⟩:=I.tuple hq;have hl:=rv.length;refine jck (I.ok.hd hc) D hz hI h1 (show s.heap.IsTuple a its.toArray from p) (by simp;omega) λh' k=>⟨rfl,I.many0 (t':=s.toks) hf λc o hc e=>?_⟩;simp only[Am,Ar,or_false,not_or]at hc;exact k c o hc.1 hc.2.2.2.1 e
 self:=λ_ _ _ _ _ st h=>Fn st.1 h
def j1y (K:Aj) (ta:TA):TI:=λσ H R=>ta σ H λvs H1=>∃a b,vs=[.ref a,.ref b]/\(∃xs,SqT K H1 a xs)/\(∃ys,SqL K H1 b ys)/\R (ItzS K a b) H1
theorem jxw {X:Cx} {elts:List Expr} {kk:Nat} {tpos:Pos} {e1 e2:Expr} {ta:TA} {p pos:Pos} (hg:Gl X "zip") (hm:X.mg "zip"=none) (ha:PA X [e1,e2] ta) (hs:Ax [e1,e2] X.env=[(false,eval e1 X.env),(false,eval e2 X.env)]:=by rfl) (hs2:Ax [e2] X.env=[(false,eval e2 X.env)]:=by rfl) :
  PI X (.Tuple elts kk tpos) (.Call (.Name "zip" p) [e1,e2] [] pos) (j1y X.K ta):=by
 intro pins s σ H R I h;refine Call_ (jhk I hg hm jtd (Dj (thn (ha pos pins s σ H _ I h) λus s1 ⟨vs,H1,I1,r1,q1⟩=>?_) (by rw[hs,hs2]) (by rw[hs2];rfl)));obtain⟨a,b,e,⟨xs,qa⟩,⟨ys,qb⟩,q⟩:=q1;subst e;cases r1 with
 |cons r rr =>
  cases rr with
  |cons r' rr =>
   cases rr;cases r;cases r';obtain⟨its,rv,pp,_⟩:=I1.tuple qa;obtain⟨jts,rw',pp',_⟩:=I1.list qb;have la:a < s1.heap.objs.size:=by obtain⟨_,e,_⟩:=id pp;exact Ao e
   have lb:b < s1.heap.objs.size:=by obtain⟨_,e,_⟩:=pp'.isList;exact Ao e
   refine jp6 (show s1.heap.IsTuple a its.toArray from pp) pp'.isList λh' a1 a2 a3 a4 a5 a6=>Fn (s:={ s1 with heap:=h'}) a1 ?_;refine⟨_,_,_,_,H1,rfl,I1.kept (t':=s1.toks) a6,jqk (zipApart_new la lb),⟨a1,a2,⟨_,_,a3⟩,a4,a5⟩,λc hc=>?_,q⟩;have hlt:s1.heap.objs.size<=c:=by
    simp only[Am,Ar,or_false]at hc;rcases hc with rfl | rfl | rfl | rfl | rfl<;>omega
   exact I1.fpOk hlt (I1.hok.fresh hlt)
end L2
namespace DL
open PySem L2 Nb
section
variable {X:Cx} {a b:Expr} {ta tb:TE} {wa wb:DT} {pos p:Pos} {K:Aj}
def jsp (w w':DT):DTI:=λδ n Q=>w δ n λx n1=>w' δ n1 λy n2=>match x,y with
 |.d (.tuple xs),.d (.list ys)=>xs.length=ys.length/\Q (zipD xs ys) n2
 |_,_=>False
theorem j1u {elts:List Expr} {kk:Nat} {tpos:Pos} (hg:Gl X "zip") (hm:X.mg "zip"=none) (ha:DE X a ta wa) (hb:DE X b tb wb) (hK:X.K=K:=by rfl) (hs:Ax [a,b] X.env=[(false,eval a X.env),(false,eval b X.env)]:=by rfl) (hs2:Ax [b] X.env=[(false,eval b X.env)]:=by rfl)
  (he1:Ax [a,b] X.env=(false,eval a X.env)::Ax [b] X.env:=by rfl) (he2:Ax [b] X.env=(false,eval b X.env)::Ax [] X.env:=by rfl) :
  DI X (.Tuple elts kk tpos) (.Call (.Name "zip" p) [a,b] [] pos) (j1y K (jb2 ta (jb2 tb tNil))) (jsp wa wb):=by
 subst hK;refine⟨jxw hg hm (jas ha.pe (jas hb.pe jbm he2) he1) hs hs2,λC H B σ δ n Q Q' R q k=>ha.sd C H B σ δ n _ _ R q λv x H1 n1 R1 k1 r1 q1=>hb.sd C H1 B σ δ n1 _ _ R1 q1 λu y H2 n2 R2 k2 r2 q2=>?_⟩;have r1':=r1.kp k2 R1.bt
 split at q2
 ·rename_i xs ys;cases(show RdX H2 B v (.tuple xs)from r1')with
  |@tup aa vs _ e1 e2 e3 e4 =>
   cases(show RdX H2 B u (.list ys)from r2)with
   |@lst ab ws _ f1 f2 f3 f4 =>
    refine⟨aa,ab,rfl,⟨vs,SqT.of e1⟩,⟨ws,SqL.of f1⟩,k _ (zipD xs ys) H2 n2 R2 (k1.trans k2) (λfz th=>?_) q2.2⟩;have za:fz aa=some (.tup vs):=th.2 _ _ e1 e2;have zb:fz ab=some (.lst ws):=th.2 _ _ f1 f2;have lz:(zipD xs ys).length=xs.length:=by unfold zipD;rw[List.length_zipWith,q2.1,Nat.min_self]
    refine⟨by rw[lz,<-e4.len];exact e3,λi H hH hi=>?_,λH hH=>?_,λi H x H' d hH hd hy=>?_⟩
    ·rw[lz]at hi;have h1:i < vs.length:=by rw[e4.len];exact hi
     have h2:i < ws.length:=by rw[f4.len,<-q2.1];exact hi
     exact⟨vs,ws,vs[i],ws[i],SqT.of (hH _ _ za),SqL.of (hH _ _ zb),Ag h1,Ag h2⟩
    ·exact⟨vs,SqT.of (hH _ _ za),by rw[lz,e4.len];exact Al _⟩
    ·obtain⟨T,x1,y1,rfl,hT,rfl,hx,hy⟩:=hy;refine⟨λb o e=>by rw[jag (jaf e hT)];exact e,λB' hB hBa=>?_⟩;have hi:i < xs.length:=by rw[<-lz];exact(A6.mp hd).1
     have hi2:i < ys.length:=by rw[<-q2.1];exact hi
     have ed:d=.tuple [xs[i],ys[i]]:=by
      unfold zipD at hd;rw[List.getElem?_zipWith,Ag hi,Ag hi2]at hd;exact(Bj hd).symm
     subst ed;obtain⟨u1,hu1,ru1⟩:=e4.getD (Ag hi);obtain⟨u2,hu2,ru2⟩:=f4.getD (Ag hi2);have t1:=hx _ (SqT.of (hH _ _ za));have t2:=hy _ (SqL.of (hH _ _ zb));rw[hu1]at t1;rw[hu2]at t2;cases t1;cases t2;have mv:∀b o,H2 b=some o->¬B b->upd H T (.tup [x1,y1]) b=some o/\¬B' b:=λb o e ne=>by
      have:=hH _ _ (th.2 _ _ e ne);exact⟨by rw[jag (jaf this hT)];exact this,hB _ _ (th.2 _ _ e ne)⟩
     exact .tup jaj (λz=>hBa T z hT) (by show 2<=Ay;decide) (.cons (ru1.move mv) (.cons (ru2.move mv) .nil))
 ·exact q2.elim
end
end DL
namespace Nb
open PySem L2 DL
theorem jco (d:Ab):isiB "int" d=match d with | .int _=>true | .bool _=>true | _=>false:=by cases d<;>rfl
theorem jby (d:Ab):isiB "bool" d=match d with | .bool _=>true | _=>false:=by cases d<;>rfl
theorem jcn (d:Ab):isiB "str" d=match d with | .str _=>true | _=>false:=by cases d<;>rfl
theorem jbf (d:Ab):isiB "tuple" d=match d with | .tuple _=>true | _=>false:=by cases d<;>rfl
theorem jbx (d:Ab):isiB "list" d=match d with | .list _=>true | _=>false:=by cases d<;>rfl
theorem jfv {W:DST} {g:Ab->Bool} {N:List Str} (h:∀d n K,K.rt (.d (.bool (g d))) n->W (jam N [.d d]) n K):∀ws n Q,spJ g ws n Q->W (jam N ws) n {nx:=λ_ n=>Q (.d .none) n,rt:=Q}:=λws n Q q=>by
 unfold spJ at q
 split at q
 ·exact h _ n _ q
 ·exact q.elim
theorem ifb {b:Bool} {A B:Prop} (h1:b=true->A) (h2:b=false->B):if b=true then A else B:=by
 cases b with
 |true=>rw[if_pos rfl];exact h1 rfl
 |false=>rw[if_neg An];exact h2 rfl
theorem jrz {a b:Bool} {A:Prop} {F:Bool->Prop} (h:F (a || b)) (hA:F b->A):if a=true then F true else A:=by
 cases a with
 |true=>exact h
 |false=>exact hA h
theorem jvl {a b:Bool} {A:Prop} {F:Bool->Prop} (h:F (a&&b)) (hA:a=true->F b->A):if a=true then A else F false:=by
 cases a with
 |true=>exact hA rfl h
 |false=>exact h
theorem jji {lo hi:Int} {d:Ab} {n:Int} {Q:DQ} (k:Q (.d (.bool (jbv lo hi d))) n) :
  if jc6 d=true then(gCmp (λi j=>decide (i<=j)) (λi j=>!decide (j < i)) (.d (.int lo)) (.d d) n λz n3=>jjb z (gCmp (λi j=>decide (i<=j)) (λi j=>!decide (j < i)) (.d d) (.d (.int hi)) n3 Q) (Q (.d (.bool false)) n3))else Q (.d (.bool false)) n:=by
 cases d with
 |int i =>
  simp only[jc6,if_true,gCmp,jbu];simp only[jbv]at k;refine ifb (λe=>?_) (λe=>?_)
  ·rw[e]at k;exact k
  ·rw[e]at k;exact k
 |_=>exact k
theorem jux {Q:DQ} {n:Int} (x:Str) (h:Q (.d (.bool (x.cps.toList.all okS))) n):jbe (jac 0) cYes (ja3 gLe gLe (wC (.str "a")) (wVar 0) (wC (.str "z")))
  (λds n1=>match jbn ds with | some bs=>Q (.d (.bool (bs.all id))) n1 | none=>False) (jcx x) [] [none] n:=by
 refine jhs isCh (λd=>.bool (okD d)) ?_ _ _ _ _ (jva x) ?_
 ·rintro d n Q' ⟨c,rfl⟩ k
  simp only[wVar,jzh,jcp,gXX,jbb,jah,ja0,wC,w2,cT,ja3,jbu,cAnd,cOr,cNot,wAnd,wOr,wNot,aNil,jaa,wTup,fLst,wOf,jad,wB,jai,sSeq,sRet,sIf,sSet,sOwn,sFrz,sApp,sFor,gI,gI0,wNeg,gAdd,gCmp,gEq,gNe,gIsN,gIn,gIx,gLen,wIsi,j3v,gAll,jdc,ji3,je0,ja4,jfm,ja1,jat,jcq,cYes,jac,jba,Fm,B6,Cj,Bp,C5,Bi,Cf,Ef,jco,jby,jcn,jbf,jbx];refine ifb (λe=>?_) (λe=>?_)
  ·simp only[okD,e,Di]at k;exact k
  ·simp only[okD,e,Bool.false_and]at k;exact k
 ·show match jbn ((jcx x).map λd=>.bool (okD d))with | some bs=>Q (.d (.bool (bs.all id))) n | none=>False
  simp only[jfq,jwp,jye];exact h
theorem jt8 {Q:DQ} {n:Int} (ds:List Ab) (h:Q (.d (.bool (ds.all jan))) n):jbe (jac 0) cYes (jad (spJ jan) (jaa (wVar 0) aNil))
  (λds n1=>match jbn ds with | some bs=>Q (.d (.bool (bs.all id))) n1 | none=>False) ds [] [none] n:=by
 refine jhs (λ_=>True) (λd=>.bool (jan d)) ?_ _ _ _ _ (λ_ _=>trivial) ?_
 ·exact λd n Q' _ k=>k
 ·show match jbn (ds.map λd=>.bool (jan d))with | some bs=>Q (.d (.bool (bs.all id))) n | none=>False
  simp only[jfq,jwp];exact h
theorem ju6 {n many:Int} {Q:DQ} (h:n < 2 ^ 40) (h0:0 < many) (h1:many < 1073741824) (k:∀r:Int,0<=r->r < many->Q (.d (.int r)) (n+1)):jak [.tp,.d (.int many)] n Q:=⟨⟨h,h0,h1⟩,k⟩
theorem jb5 {ds:List Ab} {r:Int} {n:Int} {Q:DQ} (h0:0<=r) (h1:r < (ds.length:Int)) (k:∀d∈ds,Q (.d d) n):gIx (.d (.list ds)) (.d (.int r)) n Q:=by
 obtain⟨v,hv,hm⟩:=jo5 h0 h1;show match atI ds r with | some d=>Q (.d d) n | none=>False
 simp only[hv];exact k v hm
theorem js7 {w:DT} {Q:List Ab->Int->Prop} {rest:Sl} (c:Nat) (h:∀d n Q',n+(c:Int) < 2 ^ 39->(∀y n',n'<=n+(c:Int)->Q' (.d y) n')->w (some (.w (.d d))::rest) n Q') :
  ∀(items acc:List Ab) (x:Option SV) (n:Int),n+(c:Int)*(items.length:Int) < 2 ^ 39->(∀ds n',n'<=n+(c:Int)*(items.length:Int)->Q ds n')->jbe (jac 0) cYes w Q items acc (x::rest) n
 |[],acc,x,n,hn,q=>q acc n (by simp)
 |d::r,acc,x,n,hn,q=>by
  simp only[jbe,jac,cYes,if_true,Bp];rw[A1]at hn q;have e:(c:Int)*((r.length+1:Nat):Int)=(c:Int)*(r.length:Int)+c:=by rw[Int.natCast_add,Int.mul_add];simp
  rw[e]at hn q;have hc:0<=(c:Int)*(r.length:Int):=Int.mul_nonneg (Gr _) (Gr _);refine h d n _ (by omega) λy n' hn'=>?_;exact js7 c h r (acc++[y]) _ n' (by omega) λds n'' h''=>q ds n'' (by omega)
theorem ja9 (n:Nat):(rngD 0 n).length=n:=by unfold rngD;simp
theorem jfo {w:DT} {Q:List Ab->Int->Prop} {rest:Sl} (P:Ab->Prop) (c:Nat) (h:∀d n Q',n+(c:Int) < 2 ^ 39->(∀y n',P y->n'<=n+(c:Int)->Q' (.d y) n')->w (some (.w (.d d))::rest) n Q') :
  ∀(items acc:List Ab) (x:Option SV) (n:Int),n+(c:Int)*(items.length:Int) < 2 ^ 39->(∀ds n',ds.length=items.length->(∀d∈ds,P d)->n'<=n+(c:Int)*(items.length:Int)->Q (acc++ds) n')->jbe (jac 0) cYes w Q items acc (x::rest) n
 |[],acc,x,n,hn,q=>by
  have:=q [] n rfl (by simp) (by simp);rwa [Bu]at this
 |d::r,acc,x,n,hn,q=>by
  simp only[jbe,jac,cYes,if_true,Bp];rw[A1]at hn q;have e:(c:Int)*((r.length+1:Nat):Int)=(c:Int)*(r.length:Int)+c:=by rw[Int.natCast_add,Int.mul_add];simp
  rw[e]at hn q;have hc:0<=(c:Int)*(r.length:Int):=Int.mul_nonneg (Gr _) (Gr _);refine h d n _ (by omega) λy n' hy hn'=>?_;refine jfo P c h r (acc++[y]) _ n' (by omega) λds n'' hl hds h''=>?_;rw[Bo];refine q (y::ds) n'' (by rw[A1,hl]) (λd hd=>?_) (by omega);rcases Am.mp hd with rfl | z
  ·exact hy
  ·exact hds d z
theorem eq_str (a:Ab) (h:Str):eqD a (.str h)=some (jcw h a):=by cases a<;>rfl
theorem eq_int (i j:Int):eqD (.int i) (.int j)=some (decide (i=j)):=rfl
theorem at0 {α:Type} (a:α) (r:List α):atI (a::r) 0=some a:=jbc (j:=0) rfl
theorem at1 {α:Type} (a b:α) (r:List α):atI (a::b::r) 1=some b:=jbc (j:=1) rfl
section
variable {δ:Sl} {n:Int} {Q:DQ} {K:DEnds} {W V:DST} {i j:Nat} {a b d:Ab} {r ds:List Ab} {h:Str}
theorem jae (h:W δ n {K with nx:=λδ n=>V δ n K}):sSeq W V δ n K:=h
theorem jab {x:Wv} (e:δ[i]?=some (some (.w x))) (k:Q x n):wVar i δ n Q:=by unfold wVar;rw[e];exact k
theorem ix_i {m:Nat} (e:δ[i]?=some (some (.w (.d (.tuple ds))))) (e2:ds[m]?=some a) (k:Q (.d a) n):w2 (wVar i) (wC (.int (m:Int))) gIx δ n Q:=by
 unfold w2;refine jab e ?_;unfold wC gIx;simp only[jbc e2];exact k
theorem jcc (e:δ[i]?=some (some (.w (.d (.tuple (a::r)))))) (k:Q (.d a) n):w2 (wVar i) (wC (.int 0)) gIx δ n Q:=ix_i (m:=0) e rfl k
theorem jgv (e:δ[i]?=some (some (.w (.d (.tuple (a::b::r)))))) (k:Q (.d b) n):w2 (wVar i) (wC (.int 1)) gIx δ n Q:=ix_i (m:=1) e rfl k
theorem j33 (e:δ[i]?=some (some (.w (.d (.tuple (a::r)))))) (k:Q (.d (.bool (jcw h a))) n):w2 (w2 (wVar i) (wC (.int 0)) gIx) (wC (.str h)) gEq δ n Q:=by
 show w2 (wVar i) (wC (.int 0)) gIx δ n λx n1=>wC (.str h) δ n1 λy n2=>gEq x y n2 Q;refine jcc e ?_;unfold wC gEq;simp only[eq_str];exact k
theorem if_i {c:DTT} (k:c δ n λb n1=>if b=true then W δ n1 K else V δ n1 K):sIf c W V δ n K:=k
end
end Nb
namespace DL
open PySem L2 Nb
end DL
namespace Nb
structure Lin {α:Type} (lt:α->α->Bool):Prop where
 asym:∀a b,lt a b=true->lt b a=false
 ntr:∀a b c,lt b a=false->lt c b=false->lt c a=false
 tot:∀a b,lt a b=false->lt b a=false->a=b
section
variable {α:Type} {lt:α->α->Bool}
theorem Lin.irr (L:Lin lt) (a:α):lt a a=false:=by
 cases e:lt a a with
 |false=>rfl
 |true=>have:=L.asym a a e;rw[e]at this;exact this
theorem Lin.tr1 (L:Lin lt) {a b c:α} (h1:lt a b=true) (h2:lt c b=false):lt a c=true:=by
 cases e:lt a c with
 |true=>rfl
 |false=>have:=L.ntr b c a h2 e;rw[h1]at this;cases this
variable [DecidableEq α]
end
end Nb
namespace Nb
open PySem L2 DL
abbrev Vl:=Sum Int Str
def vlt:Vl->Vl->Bool
 |.inl i,.inl j=>decide (i < j)
 |.inl _,.inr _=>true
 |.inr _,.inl _=>false
 |.inr x,.inr y=>decide (x.cps.toList < y.cps.toList)
theorem jzu {x y:Str} (h:x.cps.toList=y.cps.toList):x=y:=by
 cases x;cases y
 congr
 exact Array.toList_inj.mp h
theorem vlin:Lin vlt where
 asym:=λa b h=>by
  cases a<;>cases b<;>simp only[vlt,decide_eq_true_eq,decide_eq_false_iff_not,B9]at h ⊢
  ·omega
  ·exact KS.lt_asym' _ _ h
 ntr:=λa b c h g=>by
  cases a<;>cases b<;>cases c<;>simp only[vlt,decide_eq_false_iff_not,Bool.true_eq_false]at h g ⊢
  ·omega
  ·exact λz=>absurd z (Ft.mpr (List.le_trans (Ft.mp h) (Ft.mp g)))
 tot:=λa b h g=>by
  cases a<;>cases b<;>simp only[vlt,decide_eq_false_iff_not,Bool.true_eq_false]at h g
  ·congr 1;omega
  ·congr 1
   exact jzu (List.le_antisymm (Ft.mp g) (Ft.mp h))
theorem jxb (x y:Str):(x==y)=decide (x=y):=by
 by_cases h:x=y
 ·subst h;simp
 ·rw[decide_eq_false h];exact beq_eq_false_iff_ne.mpr h
section
variable {δ:Sl} {n:Int} {Q:DQ} {K:DEnds} {W V:DST} {i j:Nat} {a b d:Ab} {r ds:List Ab}
theorem w2_i {wa wb:DT} {g:Wv->Wv->Int->DQ->Prop} (k:wa δ n λx n1=>wb δ n1 λy n2=>g x y n2 Q):w2 wa wb g δ n Q:=k
theorem jlx {w:DT} {x:Ab} (h:∀Q:DQ,Q (.d x) n->w δ n Q) (k:K.nx (δ.set i (some (.w (.d x)))) n):sSet i w δ n K:=h _ k
theorem jef (k:K.nx (δ.set i (some (.own []))) n):sOwn i (fLst aNil) δ n K:=⟨A3 _,k⟩
theorem g0_i (k:Q (.d a) n):gIx (.d (.tuple (a::r))) (.d (.int 0)) n Q:=by
 show(match atI (a::r) 0 with | some d=>Q (.d d) n | none=>False);rw[at0];exact k
theorem g1_i (k:Q (.d b) n):gIx (.d (.tuple (a::b::r))) (.d (.int 1)) n Q:=by
 show(match atI (a::b::r) 1 with | some d=>Q (.d d) n | none=>False);rw[at1];exact k
theorem g2_i {c:Ab} (k:Q (.d c) n):gIx (.d (.tuple (a::b::c::r))) (.d (.int 2)) n Q:=by
 show(match atI (a::b::c::r) 2 with | some d=>Q (.d d) n | none=>False);rw[show atI (a::b::c::r) 2=some c from jbc (j:=2) rfl];exact k
theorem c_i {c:Ab} (k:Q (.d c) n):wC c δ n Q:=k
theorem b1_i {w:DT} {g:List Wv->Int->DQ->Prop} (k:w δ n λx n1=>g [x] n1 Q):wB g (jaa w aNil) δ n Q:=k
theorem c1_i {w:DT} {S:DSp} (k:w δ n λx n1=>S [x] n1 Q):jad S (jaa w aNil) δ n Q:=k
theorem c2_i {w w':DT} {S:DSp} (k:w δ n λx n1=>w' δ n1 λy n2=>S [x,y] n2 Q):jad S (jaa w (jaa w' aNil)) δ n Q:=k
theorem c3_i {w w' w'':DT} {S:DSp} (k:w δ n λx n1=>w' δ n1 λy n2=>w'' δ n2 λz n3=>S [x,y,z] n3 Q):jad S (jaa w (jaa w' (jaa w'' aNil))) δ n Q:=k
theorem of_i {w:DTF} (k:w δ n λds n1=>Q (.d (.list ds)) n1):wOf w δ n Q:=k
theorem jek {fr:List (Option Nat)} {w e:DT} {g:DTG} {c:DTT} {Q:List Ab->Int->Prop} (hw:∀Q:DQ,Q (.d (.tuple ds)) n->w δ n Q) (k:jbe g c e Q ds [] (jcq fr δ) n):jat fr (ja4 w) g c e δ n Q:=by
 unfold jat ja4;exact hw _ k
theorem jff (e:δ[i]?=some (some (.w (.d (.tuple ds))))) (k:Q (.d (.int ds.length)) n):wB gLen (jaa (wVar i) aNil) δ n Q:=b1_i (jab e k)
theorem jv5 (e:δ[j]?=some (some (.w (.d (.tuple ds))))) (k:K.nx (δ.set i (some (.own ds))) n):sOwn i (jdd (wVar j)) δ n K:=by
 unfold sOwn jdd;exact jab e k
theorem jal {w:DT} (k:w δ n K.rt):sRet w δ n K:=k
theorem jhn (e:δ[i]?=some (some (.own ds))) (k:W (δ.set i (some (.w (.d (.list ds))))) n K):sFrz i W δ n K:=by
 unfold sFrz;rw[e];exact k
theorem jmf (e:δ[i]?=some (some (.w (.d (.tuple ds))))) (k:Q (.d (.bool true)) n):wIsi "tuple" (wVar i) δ n Q:=by
 unfold wIsi;refine jab e ?_;show Q (.d (.bool (isiB "tuple" (.tuple ds)))) n;rw[jbf];exact k
theorem ct_b {w:DT} {k:Bool} {Q:Bool->Int->Prop} (hw:∀Q':DQ,Q' (.d (.bool k)) n->w δ n Q') (q:Q k n):cT w δ n Q:=hw _ q
theorem if_n {C:DTT} (hc:∀Q:Bool->Int->Prop,Q false n->C δ n Q) (hF:V δ n K):sIf C W V δ n K:=hc _ (by show if false=true then _ else _;rw[if_neg An];exact hF)
theorem if_y {C:DTT} (hc:∀Q:Bool->Int->Prop,Q true n->C δ n Q) (hT:W δ n K):sIf C W V δ n K:=hc _ (by show if true=true then _ else _;rw[if_pos rfl];exact hT)
theorem js3 {A B:DTT} {Q:Bool->Int->Prop} (ha:∀Q:Bool->Int->Prop,Q false n->A δ n Q) (hb:B δ n Q):cOr A B δ n Q:=ha _ (by show if false=true then _ else _;rw[if_neg An];exact hb)
theorem jy0 {A B:DTT} {Q:Bool->Int->Prop} (ha:∀Q:Bool->Int->Prop,Q true n->A δ n Q) (k:Q true n):cOr A B δ n Q:=ha _ (by show if true=true then _ else _;rw[if_pos rfl];exact k)
theorem jax {A:DTT} {k:Bool} {Q:Bool->Int->Prop} (ha:∀Q:Bool->Int->Prop,Q k n->A δ n Q) (q:Q (!k) n):cNot A δ n Q:=ha _ q
end
theorem jbh {g:DTG} {W:DST} {K:DEnds} (I:List Ab->Sl->Int->Prop) (h0:∀δ n,I [] δ n->K.nx δ n)
  (h1:∀d r δ n (N:Sl->Int->Prop),I (d::r) δ n->(∀δ n,I r δ n->N δ n)->g d δ λδ'=>W δ' n {K with nx:=N,ct:=N,bk:=K.nx}):∀ds δ n,I ds δ n->forD g W K ds δ n
 |[],δ,n,h=>h0 δ n h
 |d::r,δ,n,h=>h1 d r δ n (forD g W K r) h (jbh I h0 h1 r)
theorem fil0 (l:List Ab):l.filter (λ_=>false)=[]:=List.filter_eq_nil_iff.mpr λ_ _ h=>nomatch h
theorem jze {n:Int} {Q:DQ} (k:Q (.d (.bool false)) n):gXX (λd e=>some (!Cn d e)) (.d (.list [])) (.d (.list [])) n Q :=
 Af rfl ⟨rfl,by decide,by decide,false,rfl,k⟩
section
variable {δ:Sl} {n m:Int} {Q:DQ} {K:DEnds} {W V:DST} {i j:Nat} {ds:List Ab}
theorem ja6 {w:DT} (e0:δ[0]?=some (some (.w .tp))) (hw:∀Q:DQ,Q (.d (.int m)) n->w δ n Q) (h:n < 2 ^ 40) (h0:0 < m) (h1:m < 1073741824) (k:∀r:Int,0<=r->r < m->Q (.d (.int r)) (n+1)):jad jak (jaa (wVar 0) (jaa w aNil)) δ n Q :=
 c2_i (jab e0 (hw _ (ju6 h h0 h1 k)))
theorem jd5 (e0:δ[0]?=some (some (.w .tp))) (h:n < 2 ^ 40) (h0:0 < m) (h1:m < 1073741824) (k:∀r:Int,0<=r->r < m->Q (.d (.int r)) (n+1)):jad jak (jaa (wVar 0) (jaa (wC (.int m)) aNil)) δ n Q:=ja6 e0 (λQ q=>c_i q) h h0 h1 k
theorem jlw (e0:δ[0]?=some (some (.w .tp))) (h:n < 2 ^ 40) (h0:0 < m) (h1:m < 1073741824) (k:∀r:Int,0<=r->r < m->K.nx (δ.set i (some (.w (.d (.int r))))) (n+1)):sSet i (jad jak (jaa (wVar 0) (jaa (wC (.int m)) aNil))) δ n K:=jd5 e0 h h0 h1 k
theorem jnv {r:Int} (h0:0<=r) (h1:r < (ds.length:Int)) (k:∀d∈ds,Q (.d d) n):gIxL (.ln ds) (.d (.int r)) n Q:=by
 obtain⟨v,hv,hm⟩:=jo5 h0 h1;show(match atI ds r with | some d=>Q (.d d) n | none=>False);rw[hv];exact k v hm
theorem jbq {r:Int} (h0:0<=r) (h1:r < (ds.length:Int)) (k:∀d∈ds,Q (.d d) n):gIxL (.d (.list ds)) (.d (.int r)) n Q:=jb5 h0 h1 k
theorem jl7 (e:δ[i]?=some (some (.own ds))) (k:Q (.ln ds) n):jfa i δ n Q:=by
 unfold jfa;rw[e];exact k
theorem jvk {w:DT} {x:Ab} {es:List Ab} (e:δ[i]?=some (some (.own es))) (hw:∀Q:DQ,Q (.d x) m->w δ n Q) (hl:es.length < 1000000) (k:K.nx (δ.set i (some (.own (es++[x])))) m):sApp i w δ n K:=by
 unfold sApp;rw[e];exact hw _ (Af hl k)
theorem jk3 {w:DT} {es:List Ab} (e:δ[i]?=some (some (.own es))) (k:w δ n λx n1=>match x with
  |.d d=>es.length < 1000000/\K.nx (δ.set i (some (.own (es++[d])))) n1
  |_=>False):sApp i w δ n K:=by
 unfold sApp;rw[e];exact k
theorem ja8 {w w':DT} (k:w δ n λx n1=>w' δ n1 λy n2=>match jba [x,y]with
  |some ds=>ds.length<=1000/\Q (.d (.tuple ds)) n2
  |none=>False):wTup (jaa w (jaa w' aNil)) δ n Q:=k
theorem jg6 {w w' w'':DT} (k:w δ n λx n1=>w' δ n1 λy n2=>w'' δ n2 λz n3=>match jba [x,y,z]with
  |some ds=>ds.length<=1000/\Q (.d (.tuple ds)) n3
  |none=>False):wTup (jaa w (jaa w' (jaa w'' aNil))) δ n Q:=k
theorem jg5 (k:Q (.d (.tuple ds)) n):jbs [.d (.list ds)] n Q:=k
theorem iflt {a b:Int} (e:δ[i]?=some (some (.w (.d (.int a))))) (hT:a < b->W δ n K) (hF:¬a < b->V δ n K):sIf (cT (w2 (wVar i) (wC (.int b)) gLt)) W V δ n K:=by
 refine if_i (w2_i (jab e (c_i ?_)));show if decide (a < b)=true then _ else _
 by_cases h:a < b
 ·rw[if_pos (decide_eq_true h)];exact hT h
 ·rw[if_neg (by simpa using h)];exact hF h
end
section
variable {δ:Sl} {n m:Int} {Q:DQ} {K:DEnds} {W V:DST} {i j:Nat} {ds:List Ab}
theorem j2x {w w' w'' v:DT} (k:w δ n λx n1=>w' δ n1 λy n2=>w'' δ n2 λz n3=>v δ n3 λu n4=>match jba [x,y,z,u]with
  |some ds=>ds.length<=1000/\Q (.d (.tuple ds)) n4
  |none=>False):wTup (jaa w (jaa w' (jaa w'' (jaa v aNil)))) δ n Q:=k
theorem jc9 (k:Q (.d (.list [])) n):wOf (fLst aNil) δ n Q:=Af (A3 _) k
theorem eqLn (k:Q (.d (.bool ds.isEmpty)) n):gEqL (.ln ds) (.d (.list [])) n Q:=k
theorem eqLi {a b:Int} (k:Q (.d (.bool (decide (a=b)))) n):gEqL (.d (.int a)) (.d (.int b)) n Q:=k
theorem ifeq {a b:Int} (e:δ[i]?=some (some (.w (.d (.int a))))) (hT:a=b->W δ n K) (hF:¬a=b->V δ n K):sIf (cT (w2 (wVar i) (wC (.int b)) gEqL)) W V δ n K:=by
 refine if_i (w2_i (jab e (c_i ?_)));show if decide (a=b)=true then _ else _
 by_cases h:a=b
 ·rw[if_pos (decide_eq_true h)];exact hT h
 ·rw[if_neg (by simpa using h)];exact hF h
theorem ifgt {a b:Int} (e:δ[i]?=some (some (.w (.d (.int a))))) (hT:b < a->W δ n K) (hF:¬b < a->V δ n K):sIf (cT (w2 (wVar i) (wC (.int b)) gGt)) W V δ n K:=by
 refine if_i (w2_i (jab e (c_i ?_)));show if decide (b < a)=true then _ else _
 by_cases h:b < a
 ·rw[if_pos (decide_eq_true h)];exact hT h
 ·rw[if_neg (by simpa using h)];exact hF h
end
theorem jmh (hs:List Str):(hs.map C4).all jhp=true:=by
 rw[Bt];intro d hd;obtain⟨x,_,rfl⟩:=Ce.mp hd;rfl
theorem jv1 {δ:Sl} {n m:Int} {K:DEnds} {W:DST} {g:DTG} {L:List Ab} {wl:DT} {M:Nat} (e:δ[0]?=some (some (.w .tp))) (hl:∀Q:DQ,Q (.d (.list L)) n->wl δ n Q) (hn:n < 2 ^ 40) (hm:m=L.length) (h0:0 < m) (h1:m < 1000) (hL:∀d∈L,∃j:Nat,j<=M/\d=.int j) (hM:M<=1000) (k:∀j:Nat,j<=M->forD g W K (rngD 0 j) δ (n+1)) :
  sFor (ja1 (w2 wl (jad jak (jaa (wVar 0) (jaa (wC (.int m)) aNil))) gIxL)) g W δ n K:=by
 unfold sFor ja1;refine w2_i (hl _ (jd5 e hn h0 (by omega) λr r0 r1=>jbq r0 (by omega) λd hd=>?_));obtain⟨j,hj,rfl⟩:=hL d hd;refine Af ⟨by omega,by omega⟩ ?_;rw[Bz];exact k j hj
theorem j1f {ds:List Ab} {n:Int} {Q:DQ} (k:Q (.d (.int ds.length)) n):jfn [.ln ds] n Q:=k
theorem gN_i {n:Int} {Q:DQ} {i:Nat} {x:Ab} {xs:List Ab} (h:xs[i]?=some x) (k:Q (.d x) n):gIx (.d (.tuple xs)) (.d (.int (i:Nat))) n Q:=by
 show(match atI xs ((i:Nat):Int)with | some d=>Q (.d d) n | none=>False);rw[jbc h];exact k
theorem js2 (xs:List Ab) {p:Nat} (hp:p<=xs.length):cutD xs none (some (p:Int))=xs.take p:=by
 unfold cutD;rw[HT.sIx_nat];show(xs.drop 0).take (min p xs.length - 0)=_;rw[List.drop_zero,Nat.sub_zero,Nat.min_eq_left hp]
def jeq:DSp:=λws n Q=>match ws with
 |[.d d,.d (.int k)]=>Q (.d (.bool (letB k d))) n
 |_=>False
def j3n (bare named:List Ab):Ab->Bool
 |.tuple [.str x]=>inD (.str x) bare
 |.tuple [.str x,b]=>(decide (x="is")&&jan b) || (inD (.str x) named&&letB 4 b)
 |_=>false
def txD:Ab->Str
 |.str x=>x
 |_=>⟨#[]⟩
def jly:List Ab->Bool
 |a::b::r=>decide ((txD a).cps.toList < (txD b).cps.toList)&&jly (b::r)
 |_=>true
abbrev B30:Int:=1000000000000000000000000000000
inductive Th:Nat->Nat->Ab->Prop
 |non {L k:Nat}:Th L k .none
 |bool {L k:Nat} (b:Bool):Th L k (.bool b)
 |int {L k:Nat} (i:Int):-(B30+(L:Int))<=i->i<=B30+(L:Int)->Th L k (.int i)
 |str {L k:Nat} (x:Str):x.length<=60->Eg x=true->Th L k (.str x)
 |list {L k:Nat} {ds:List Ab}:ds.length<=L->(∀d∈ds,Th L k d)->Th L (k+1) (.list ds)
 |tuple {L k:Nat} {ds:List Ab}:ds.length<=L->(∀d∈ds,Th L k d)->Th L (k+1) (.tuple ds)
mutual
def thB (L:Nat):Nat->Ab->Bool
 |_,.none=>true
 |_,.bool _=>true
 |_,.int i=>decide (-(B30+(L:Int))<=i)&&decide (i<=B30+(L:Int))
 |_,.str x=>decide (x.length<=60)&&Eg x
 |k,.list ds=>decide (0 < k)&&(decide (ds.length<=L)&&jg8 L (k - 1) ds)
 |k,.tuple ds=>decide (0 < k)&&(decide (ds.length<=L)&&jg8 L (k - 1) ds)
 |_,.dict _=>false
def jg8 (L:Nat):Nat->List Ab->Bool
 |_,[]=>true
 |k,d::r=>thB L k d&&jg8 L k r
end
mutual
theorem jvv (L:Nat):∀(d:Ab) (k:Nat),thB L k d=true->Th L k d
 |.none,_,_=>.non
 |.bool b,_,_=>.bool b
 |.int i,_,h=>by
  rw[thB,A4]at h;exact .int i (of_decide_eq_true h.1) (of_decide_eq_true h.2)
 |.str x,_,h=>by
  rw[thB,A4]at h;exact .str x (of_decide_eq_true h.1) h.2
 |.list ds,k,h=>by
  rw[thB,A4,A4]at h;have h0:=of_decide_eq_true h.1;have:=Th.list (of_decide_eq_true h.2.1) (jj4 L ds (k - 1) h.2.2);rw[show k - 1+1=k by omega]at this;exact this
 |.tuple ds,k,h=>by
  rw[thB,A4,A4]at h;have h0:=of_decide_eq_true h.1;have:=Th.tuple (of_decide_eq_true h.2.1) (jj4 L ds (k - 1) h.2.2);rw[show k - 1+1=k by omega]at this;exact this
 |.dict _,_,h=>by rw[thB]at h;cases h
theorem jj4 (L:Nat):∀(ds:List Ab) (k:Nat),jg8 L k ds=true->∀d∈ds,Th L k d
 |[],_,_,d,hd=>by simp at hd
 |a::r,k,h,d,hd=>by
  rw[jg8,A4]at h;exact(Am.mp hd).elim (λe=>e▸jvv L a k h.1) λhd=>jj4 L r k h.2 d hd
end
theorem jio {L k:Nat} {d:Ab} (h:thB L k d=true):Th L k d:=jvv L d k h
theorem jzl {L k:Nat} {ds:List Ab} (h:jg8 L k ds=true):∀d∈ds,Th L k d:=jj4 L ds k h
theorem Th.mono {L k:Nat} {d:Ab} (h:Th L k d):∀{L' k':Nat},L<=L'->k<=k'->Th L' k' d:=by
 induction h with
 |non=>exact λ_ _=>.non
 |bool b=>exact λ_ _=>.bool b
 |int i h1 h2=>exact λa _=>.int i (by omega) (by omega)
 |str x h1 h2=>exact λ_ _=>.str x h1 h2
 |list h1 _ ih =>
  intro L' k' a b;obtain⟨j,rfl⟩:∃j,k'=j+1:=⟨k' - 1,by omega⟩;exact .list (by omega) λd hd=>ih d hd a (by omega)
 |tuple h1 _ ih =>
  intro L' k' a b;obtain⟨j,rfl⟩:∃j,k'=j+1:=⟨k' - 1,by omega⟩;exact .tuple (by omega) λd hd=>ih d hd a (by omega)
theorem th2 {L k:Nat} {a b:Ab} (ha:Th L k a) (hb:Th L k b) (hL:2<=L):Th L (k+1) (.tuple [a,b]):=.tuple hL λd hd=>by
 rcases Am.mp hd with rfl | hd
 ·exact ha
 ·rw[Bd.mp hd];exact hb
theorem th3 {L k:Nat} {a b c:Ab} (ha:Th L k a) (hb:Th L k b) (hc:Th L k c) (hL:3<=L):Th L (k+1) (.tuple [a,b,c]):=.tuple hL λd hd=>by
 rcases Am.mp hd with rfl | hd
 ·exact ha
 ·rcases Am.mp hd with rfl | hd
  ·exact hb
  ·rw[Bd.mp hd];exact hc
def jbl (ks:List Str):Ab:=.tuple (ks.map .str)
def jtr:List Ab:=[.str "a",.int 0,.int 1,.str "ab",.str "go",.int 99]
inductive Fe where
 |any | word | num | isv (d:Ab) | bind (k:Str) | as (k:Str) | nx (k:Str)
def Fe.hd:Fe->Str
 |.any=>"any"
 |.word=>"word"
 |.num=>"number"
 |.isv _=>"is"
 |.bind _=>"bind"
 |.as _=>"as"
 |.nx _=>"next"
def Fe.tl:Fe->List Ab
 |.any=>[]
 |.word=>[]
 |.num=>[]
 |.isv d=>[d]
 |.bind k=>[.str k]
 |.as k=>[.str k]
 |.nx k=>[.str k]
def Fe.d (f:Fe):Ab:=.tuple (.str f.hd::f.tl)
def okK (k:Str):Prop:=letB 4 (.str k)=true/\Eg k=true
def isV (d:Ab):Bool:=jan d&&thB 60 0 d
def Fe.ok:Fe->Prop
 |.isv d=>isV d=true
 |.bind k=>okK k
 |.as k=>okK k
 |.nx k=>okK k
 |_=>True
def Fe.bd:Fe->Option Str
 |.bind k=>some k
 |_=>none
def Fe.us:Fe->Option Str
 |.as k=>some k
 |.nx k=>some k
 |_=>none
def bndE (fs:List Fe):List Str:=fs.filterMap Fe.bd
def Fe.pt:Fe->Bool
 |.nx _=>false
 |_=>true
def Fe.tm:Fe->Bool
 |.isv _=>true
 |.as _=>true
 |.nx _=>true
 |_=>false
def Fe.te:Fe->Bool
 |.isv _=>true
 |.as _=>true
 |_=>false
def okFs (fs:List Fe):Prop:=fs.length<=4/\∀f∈fs,f.ok
def rF:List Str->List Fe->Prop
 |_,[]=>True
 |ks,f::r=>(∀k,f.us=some k->k∈ks)/\rF (ks++f.bd.toList) r
inductive Ac where
 |lay (fs:List Fe) (age:Ab) | take (fs:List Fe) | read (fs:List Fe) | look (fs:List Fe) (b:Nat) | same (f g:Fe) (b:Nat) | go (b:Nat)
def fsD (fs:List Fe):Ab:=.tuple (fs.map Fe.d)
def Ac.d:Ac->Ab
 |.lay fs age=>.tuple [.str "lay",fsD fs,age]
 |.take fs=>.tuple [.str "take",fsD fs]
 |.read fs=>.tuple [.str "read",fsD fs]
 |.look fs b=>.tuple [.str "look",fsD fs,.int b]
 |.same f g b=>.tuple [.str "same",f.d,g.d,.int b]
 |.go b=>.tuple [.str "go",.int b]
def Ac.bs:Ac->List Str
 |.take fs=>bndE fs
 |.read fs=>bndE fs
 |.look fs _=>bndE fs
 |_=>[]
def Ac.fs:Ac->List Fe
 |.lay fs _=>fs
 |.take fs=>fs
 |.read fs=>fs
 |.look fs _=>fs
 |.same f g _=>[f,g]
 |.go _=>[]
def Ac.to:Ac->Option Nat
 |.look _ b=>some b
 |.same _ _ b=>some b
 |.go b=>some b
 |_=>none
def Ac.right (wants:List (List Str)) (ks:List Str) (a:Ac):Prop:=rF ks a.fs/\∀b,a.to=some b->∃w,wants[b]?=some w/\∀k∈w,k∈ks
def juq (d:Ab):Prop:=d=.none\/∃i:Int,d=.int i/\1<=i/\i<=20
def patO (fs:List Fe):Prop:=1<=fs.length/\∀f∈fs,f.pt=true
def Ac.pat:Ac->Prop
 |.take fs=>patO fs
 |.read fs=>patO fs
 |.look fs _=>patO fs
 |.lay fs age=>(∀f∈fs,f.tm=true)/\juq age/\1<=fs.length
 |.same f g _=>f.te=true/\g.te=true
 |.go _=>True
def okA (a:Ac):Prop:=okFs a.fs/\a.pat
abbrev Bl:=List Str×List Ac
def blD (b:Bl):Ab:=.tuple [jbl b.1,.tuple (b.2.map Ac.d)]
def prD (bs:List Bl):Ab:=.tuple (bs.map blD)
def kn (w:List Str) (as:List Ac) (p:Nat):List Str:=w++(as.take p).flatMap Ac.bs
def okB (b:Bl):Prop:=b.1.length<=4/\(∀k∈b.1,okK k)/\b.2.length<=8/\(∀a∈b.2,okA a)/\b.1.Nodup/\upT b.1
def riB (wants:List (List Str)) (b:Bl):Prop:=∀(p:Nat) (a:Ac),b.2[p]?=some a->a.right wants (kn b.1 b.2 p)
def jdm:DSp:=λws n Q=>ws=[.tp]/\n < 2 ^ 39/\∀v∈jtr,Q (.d v) (n+1)
def jie:DSp:=λws n Q=>ws=[.tp]/\n < 2 ^ 39/\∀m:Nat,1<=m->m<=4->Q (.d (.int m)) (n+1)
def jo7:DSp:=λws n Q=>∃ks:List Str,ws=[.tp,.ln (ks.map .str)]/\ks.length<=1000/\(∀k∈ks,okK k)/\n+9 < 2 ^ 39/\∀(fs:List Fe) (n':Int),1<=fs.length->okFs fs->(∀f∈fs,f.tm=true)->rF ks fs->n'<=n+9->Q (.d (fsD fs)) n'
def jif:DSp:=λws n Q=>∃ks:List Str,ws=[.tp,.ln (ks.map .str)]/\ks.length<=1000/\(∀k∈ks,okK k)/\n+2 < 2 ^ 39/\∀(f:Fe) (n':Int),f.ok->f.te=true->(∀k,f.us=some k->k∈ks)->n'<=n+2->Q (.d f.d) n'
def jjy:DSp:=λws n Q=>∃(ks:List Str) (os:List Nat) (wants:List (List Str)),ws=[.tp,.ln (ks.map .str),.d (.list (os.map λb=>.int (b:Nat)))]/\ks.length<=1000/\(∀k∈ks,okK k)/\0 < os.length/\os.length<=1000 /\
 (∀b∈os,∃w,wants[b]?=some w/\∀k∈w,k∈ks)/\n+11 < 2 ^ 39/\∀(a:Ac) (n':Int),okA a->a.right wants ks->n'<=n+11->Q (.d (.tuple [a.d,.list (a.bs.map .str)])) n'
def okG (bs:List Bl):Prop:=1<=bs.length/\bs.length<=6/\∀b∈bs,okB b/\riB (bs.map (·.1)) b
def jo8:DSp:=λws n Q=>∃(ks:List Str) (v:Wv),ws=[.tp,v]/\lsOf v=some (ks.map .str)/\ks.length<=1000/\(∀k∈ks,okK k)/\n+9 < 2 ^ 39/\∀(fs:List Fe) (n':Int),1<=fs.length->okFs fs->(∀f∈fs,f.pt=true)->rF ks fs->n'<=n+9->Q (.d (.tuple [fsD fs,.list ((bndE fs).map .str)])) n'
def fst0 (bs:List Bl):Prop:=∃w,bs.map (·.1)=[]::w
def jo6:DSp:=λws n Q=>ws=[.tp]/\n+600 < 2 ^ 39/\∀(bs:List Bl) (n':Int),okG bs->fst0 bs->n'<=n+600->Q (.d (prD bs)) n'
abbrev Pg:=List (List Bl)
def pgD (ps:Pg):Ab:=.tuple (ps.map prD)
def okPg (ps:Pg):Prop:=ps.length<=5/\∀P∈ps,okG P
abbrev Nt:=List Ab×Ab
def ntD (q:Nt):Ab:=.tuple [.tuple q.1,q.2]
def nsD (ns:List Nt):Ab:=.tuple (ns.map ntD)
def okRw (row:List Ab):Prop:=(row.length<=4/\1<=row.length)/\∀d∈row,isV d=true
def okQ (q:Nt):Prop:=okRw q.1/\juq q.2
def okNs (m:Nat) (ns:List Nt):Prop:=ns.length<=m/\∀q∈ns,okQ q
def wfB (b:Bl):Prop:=b.1.length<=4/\(∀k∈b.1,okK k)/\b.2.length<=8/\∀a∈b.2,okA a
def okPs (ps:Pg):Prop:=ps.length<=5/\∀P∈ps,1<=P.length/\P.length<=6/\∀b∈P,wfB b
def Kno (l ys:List Str):Prop:=ys.Nodup/\upT ys/\∀k,k∈ys↔k∈l
def kS (l:List Str):List Str:=by classical exact if h:∃ys,Kno l ys then h.choose else[]
def nvB:Ab->Bool
 |.tuple [x,v]=>letB 4 x&&jan v
 |_=>false
def fstP:Ab->Ab
 |.tuple (x::_)=>x
 |_=>.none
def strP:Ab->List Nat
 |.str x=>x.cps.toList
 |_=>[]
def risP:List Ab->Bool
 |a::b::r=>decide (strP (fstP a) < strP (fstP b))&&risP (b::r)
 |_=>true
def nmsB:Ab->Bool
 |.tuple ds=>ds.all nvB&&risP ds
 |_=>false
def prsB:List Str->List Ab->Bool
 |[],[]=>true
 |y::ys,.tuple [.str x,v]::ds=>decide (x=y)&&(jan v&&prsB ys ds)
 |_,_=>false
def nmB (ys:List Str):Ab->Bool
 |.tuple ds=>prsB ys ds
 |_=>false
abbrev H3:=Ab×Ab×Ab
def h3D (h:H3):Ab:=.tuple [h.1,h.2.1,h.2.2]
def is3:Ab->Bool
 |.tuple [_,_,_]=>true
 |_=>false
def hfB:Ab->Bool
 |.tuple ds=>ds.all is3
 |_=>false
def jjm:Ab->Bool
 |.tuple _=>true
 |_=>false
def sfB:Ab->Bool
 |.tuple [a,b]=>hfB a&&jjm b
 |_=>false
def plcB (P:List Bl) (a b:Ab):Bool:=jbv 0 ((P.length:Int) - 1) a&&(match a with
 |.int i=>jbv 0 (((P[i.toNat]?).map λbl=>bl.2.length).getD 0:Nat) b
 |_=>false)
def knwB (P:List Bl) (h:H3):Bool:=match h.1,h.2.1 with
 |.int i,.int p=>match P[i.toNat]? with
  |some b=>nmB (kS (kn b.1 b.2 p.toNat)) h.2.2
  |none=>false
 |_,_=>false
def plH (q:List Bl×H3):Bool:=plcB q.1 q.2.1 q.2.2.1
def knH (q:List Bl×H3):Bool:=knwB q.1 q.2
def fltT (ps:Pg) (T:List H3) (ns:List Ab):Ab :=
 if T.length=ps.length then
  if (ps.zip T).all plH=true then
   if (ps.zip T).all knH=true then
    if ns.all jcb=true then .none else .str "notes"
   else .str "names"
  else .str "place"
 else .str "hands"
abbrev okT (d:Ab):Prop:=∃L k,Th L k d/\L<=300/\k<=18
def Flt (ps:Pg) (d r:Ab):Prop:=(sfB d=false/\r=.str "form")\/∃T ns,d=.tuple [.tuple (T.map h3D),.tuple ns]/\r=fltT ps T ns
def jqc:DSp:=λws n Q=>∃(d:Ab) (k:Int),ws=[.d d,.d (.int k)]/\Q (.d (.bool (jbv 0 k d))) n
def jtk:DSp:=λws n Q=>∃(P:List Bl) (h:H3),ws=[.d (prD P),.d (h3D h)]/\Q (.d (.bool (plH (P,h)))) n
def jfz:DSp:=λws n Q=>∃fs:List Fe,ws=[.d (fsD fs)]/\okFs fs/\∀ys:List Str,ys.length<=4->(∀k,k∈ys↔k∈bndE fs)->Q (.d (jbl ys)) n
def jvp:DSp:=λws n Q=>∃(P:List Bl) (i p:Nat) (b:Bl),ws=[.d (prD P),.d (.int i),.d (.int p)]/\P[i]?=some b/\wfB b/\p<=b.2.length/\(Kno (kn b.1 b.2 p) (kS (kn b.1 b.2 p))->Q (.d (jbl (kS (kn b.1 b.2 p)))) n)
def jdz:DSp:=λws n Q=>∃(P:List Bl) (i p:Nat) (b:Bl),ws=[.d (prD P),.d (.int i),.d (.int p)]/\P[i]?=some b/\wfB b/\p<=b.2.length/\(Kno (kn b.1 b.2 p) (kS (kn b.1 b.2 p))->Q (.d (.list ((kS (kn b.1 b.2 p)).map .str))) n)
def jtl:DSp:=λws n Q=>∃(P:List Bl) (h:H3),ws=[.d (prD P),.d (h3D h)]/\(∀b∈P,wfB b)/\plH (P,h)=true/\okT h.2.2/\Q (.d (.bool (knH (P,h)))) n
def jdn:DSp:=λws n Q=>∃(ps:Pg) (d:Ab),ws=[.d (pgD ps),.d d]/\okPs ps/\okT d/\∀r,Flt ps d r->Q (.d r) n
def jg3:DSp:=jdn
def jdl:DSp:=jqc
def jig:DSp:=λws n Q=>∃d,ws=[.d d]/\okT d/\Q (.d (.bool (jcb d))) n
def jmz:DSp:=λws n Q=>∃(d:Ab) (ys:List Str),ws=[.d d,.d (.list (ys.map .str))]/\ys.length<=100/\okT d/\Q (.d (.bool (nmB ys d))) n
def jqd:DSp:=λws n Q=>ws=[.tp]/\n < 2 ^ 39/\∀v∈jk4,Q (.d v) (n+1)
def jfy:DSp:=λws n Q=>∃m:Nat,ws=[.tp,.d (.int m)]/\m<=12/\n+100 < 2 ^ 39/\∀(ns:List Nt) (n':Int),okNs m ns->n'<=n+100->Q (.d (nsD ns)) n'
def jmy:DSp:=λws n Q=>ws=[.tp]/\n+4200 < 2 ^ 39/\∀(ps:Pg) (ns:List Nt) (n':Int),okPg ps->(∀P∈ps,fst0 P)->okNs 12 ns->n'<=n+4200->Q (.d (.tuple [pgD ps,nsD ns])) n'
abbrev Hn:=Nat×Nat×List (Str×Ab)
def prD2 (p:Str×Ab):Ab:=.tuple [.str p.1,p.2]
def hn3 (h:Hn):H3:=(.int h.1,.int h.2.1,.tuple (h.2.2.map prD2))
def okHn (P:List Bl) (h:Hn):Prop:=∃b,P[h.1]?=some b/\h.2.1<=b.2.length/\h.2.2.map (·.1)=kS (kn b.1 b.2 h.2.1)/\h.2.2.length<=40/\∀q∈h.2.2,okK q.1/\isV q.2=true
def okHs (ps:Pg) (hs:List Hn):Prop:=hs.length=ps.length/\∀(i:Nat) (P:List Bl) (h:Hn),ps[i]?=some P->hs[i]?=some h->okHn P h
def stD (hs:List Hn) (ns:List Nt):Ab:=.tuple [.tuple ((hs.map hn3).map h3D),nsD ns]
def jid:DSp:=λws n Q=>∃ps:Pg,ws=[.tp,.d (pgD ps)]/\okPs ps/\n+400 < 2 ^ 39/\∀(hs:List Hn) (ns:List Nt) (n':Int),okHs ps hs->okNs 6 ns->n'<=n+400->Q (.d (stD hs ns)) n'
def jcs:DSp:=λws n Q=>ws=[.tp]/\n < 2 ^ 39/\∀d,Th 9 1 d->A5 d<=140->Q (.d d) (n+1)
def je8:Nat->DSp
 |0=>λ_ _ _=>False
 |t+1=>λws n Q=>∃(d:Ab) (m L k w:Nat),ws=[.tp,.d d,.d (.int m)]/\m<=t/\Th L k d/\9<=L/\L<=100/\A5 d<=w/\n+3*(m:Int)+3 < 2 ^ 39/\∀(d':Ab) (n':Int),Th (L+100) (k+1) d'->A5 d'<=2*w+300->n'<=n+3*(m:Int)+3->Q (.d d') n'
def jm0:DSp:=λws n Q=>∃q:Nt,ws=[.tp,.d (ntD q)]/\okQ q/\n+4 < 2 ^ 39/\∀(d:Ab) (n':Int),Th 20 3 d->A5 d<=1000->n'<=n+4->Q (.d d) n'
def jo9:DSp:=λws n Q=>∃(P:List Bl) (h:Hn) (w:Nat),ws=[.tp,.d (prD P),.d (h3D (hn3 h)),.d (.int w)]/\P.length<=6/\(∀b∈P,b.2.length<=8)/\okHn P h/\n+4 < 2 ^ 39/\∀(d:Ab) (n':Int),Th 50 4 d->A5 d<=4000->n'<=n+4->Q (.d d) n'
def jk7:DSp:=λws n Q=>∃(ps:Pg) (hs:List Hn) (ns:List Nt),ws=[.tp,.d (pgD ps),.d (stD hs ns)]/\okPs ps/\okHs ps hs/\okNs 6 ns/\n+10 < 2 ^ 39/\∀(d:Ab) (n':Int),Th 60 6 d->A5 d<=40000->n'<=n+10->Q (.d d) n'
def okDt (d:Ab):Prop:=(∃L k,Th L k d/\L<=300/\k<=12)/\A5 d<=100000
def jjx:DSp:=λws n Q=>∃(ps:Pg) (d:Ab),ws=[.d (pgD ps),.d d]/\okPs ps/\okDt d/\Q (.d (.bool true)) n
abbrev jfw:DST:=(sRet (wAnd (wIsi "int" (wVar 0)) (wNot (wIsi "bool" (wVar 0)))))
abbrev jdf:DST:=(sSeq (sIf (cNot (cT (wIsi "str" (wVar 0)))) (sRet (wC (.bool false))) jai) (sRet (wAnd (ja3 gLe gLe (wC (.int (1))) (wB gLen (jaa (wVar 0) aNil)) (wVar 1)) (wB gAll (jaa (wOf (jat [none] (jfm (wVar 0)) (jac 0) cYes (ja3 gLe gLe (wC (.str "a")) (wVar 0) (wC (.str "z"))))) aNil)))))
abbrev jti:DST:=(sRet (jad jb0 (jaa (wVar 0) (jaa (wC (.int (8))) aNil))))
abbrev jep:DST:=(sRet (wAnd (jad (spJ jc6) (jaa (wVar 0) aNil)) (ja3 gLe gLe (wC (.int (0))) (wVar 0) (wC (.int (99))))))
abbrev jfx:DST:=(sRet (wOr (jad (spJ (letB 8)) (jaa (wVar 0) aNil)) (jad (spJ numB) (jaa (wVar 0) aNil))))
abbrev jtj:DST:=(sRet (jad jb0 (jaa (wVar 0) (jaa (wC (.int (4))) aNil))))
abbrev jk5:DST:=(sSeq (sIf (cNot (cT (wIsi "tuple" (wVar 0)))) (sRet (wC (.bool false))) jai) (sRet (wAnd (ja3 gLe gLe (wC (.int (1))) (wB gLen (jaa (wVar 0) aNil)) (wC (.int (4)))) (wB gAll (jaa (wOf (jat [none] (ja4 (wVar 0)) (jac 0) cYes (jad (spJ jan) (jaa (wVar 0) aNil)))) aNil)))))
abbrev jk6:DST:=(sRet (wOr (w2 (wVar 0) (wC .none) (gIsN false)) (wAnd (jad (spJ jc6) (jaa (wVar 0) aNil)) (ja3 gLe gLe (wC (.int (1))) (wVar 0) (wC (.int (20)))))))
abbrev jh8:DST:=(sRet (wAnd (wIsi "tuple" (wVar 0)) (wAnd (w2 (wB gLen (jaa (wVar 0) aNil)) (wC (.int (2))) gEq) (wAnd (jad (spJ rowB) (jaa (w2 (wVar 0) (wC (.int (0))) gIx) aNil)) (jad (spJ ageB) (jaa (w2 (wVar 0) (wC (.int (1))) gIx) aNil))))))
abbrev jzc:DST:=(sRet (wB jdc (jaa (wOf (jcp (wOf (jat [none] (ja4 (wVar 0)) (jac 0) (cT (w2 (w2 (wVar 0) (wC (.int (0))) gIx) (wC (.str "bind")) gEq)) (w2 (wVar 0) (wC (.int (1))) gIx))))) aNil)))
abbrev Zb:List Str:=["take","read","look"]
abbrev jjr:DST:=(sSeq (sSet 3 (w2 (w2 (wVar 0) (wVar 1) gIx) (wC (.int (0))) gIx)) (sSeq (sSet 4 (w2 (w2 (wVar 0) (wVar 1) gIx) (wC (.int (1))) gIx)) (sSeq (sOwn 5 (jdd (wVar 3))) (sSeq (sFor (ja4 (jap (wVar 4) jaz (jay (wVar 2)))) (jac 6) (sIf (cT (wInG Zb (w2 (wVar 6) (wC (.int (0))) gIx))) (jps 5 (jad jfz (jaa (w2 (wVar 6) (wC (.int (1))) gIx) aNil))) jai)) (sFrz 5 (sRet (wB jdc (jaa (wOf (jcp (wVar 5))) aNil))))))))
abbrev jcy:DST:=(sRet (wAnd (wIsi "tuple" (wVar 0)) (wAnd (w2 (wB gLen (jaa (wVar 0) aNil)) (wC (.int (2))) gEq) (wAnd (jad (spJ (letB 4)) (jaa (w2 (wVar 0) (wC (.int (0))) gIx) aNil)) (jad (spJ jan) (jaa (w2 (wVar 0) (wC (.int (1))) gIx) aNil))))))
abbrev jjs:DST:=(sSeq (sIf (cOr (cNot (cT (wIsi "tuple" (wVar 0)))) (cNot (cT (wB gAll (jaa (wOf (jat [none] (ja4 (wVar 0)) (jac 0) cYes (jad (spJ nvB) (jaa (wVar 0) aNil)))) aNil))))) (sRet (wC (.bool false))) jai) (sRet (wB gAll (jaa (wOf (jat [none,none] (jsq (wVar 0) (jap (wVar 0) (jay (wC (.int (1)))) jaz)) (jbb 2 (jah (jac 0) (jah (jac 1) ja0))) cYes (w2 (w2 (wVar 0) (wC (.int (0))) gIx) (w2 (wVar 1) (wC (.int (0))) gIx) gLt))) aNil))))
abbrev jc0:DST:=(sRet (wAnd (wIsi "tuple" (wVar 0)) (wB gAll (jaa (wOf (jat [none] (ja4 (wVar 0)) (jac 0) cYes (wAnd (wIsi "tuple" (wVar 0)) (w2 (wB gLen (jaa (wVar 0) aNil)) (wC (.int (3))) gEq)))) aNil))))
abbrev jcz:DST:=(sSeq (sIf (cOr (cNot (cT (wIsi "tuple" (wVar 0)))) (cT (w2 (wB gLen (jaa (wVar 0) aNil)) (wC (.int (2))) gNe))) (sRet (wC (.bool false))) jai) (sRet (wAnd (jad (spJ hfB) (jaa (w2 (wVar 0) (wC (.int (0))) gIx) aNil)) (wIsi "tuple" (w2 (wVar 0) (wC (.int (1))) gIx)))))
abbrev jh6:DST:=(sRet (wAnd (jad (spJ jc6) (jaa (wVar 0) aNil)) (ja3 gLe gLe (wC (.int (0))) (wVar 0) (wVar 1))))
abbrev jh7:DST:=(sRet (wAnd (jad jqc (jaa (w2 (wVar 1) (wC (.int (0))) gIx) (jaa (w2 (wB gLen (jaa (wVar 0) aNil)) (wC (.int (1))) (gI0 λi j=>.int (i - j))) aNil))) (jad jqc (jaa (w2 (wVar 1) (wC (.int (1))) gIx) (jaa (wB gLen (jaa (w2 (w2 (wVar 0) (w2 (wVar 1) (wC (.int (0))) gIx) gIx) (wC (.int (1))) gIx) aNil)) aNil)))))
abbrev jcd:DST:=(sSeq (sIf (cNot (cT (jad (spJ nmsB) (jaa (w2 (wVar 1) (wC (.int (2))) gIx) aNil)))) (sRet (wC (.bool false))) jai) (sRet (w2 (wB jdc (jaa (wOf (jat [none] (ja4 (w2 (wVar 1) (wC (.int (2))) gIx)) (jac 0) cYes (w2 (wVar 0) (wC (.int (0))) gIx))) aNil)) (jad jvp (jaa (wVar 0) (jaa (w2 (wVar 1) (wC (.int (0))) gIx) (jaa (w2 (wVar 1) (wC (.int (1))) gIx) aNil)))) (gXX λd e=>some (Cn d e)))))
abbrev jjt:DST:=(sSeq (sIf (cNot (cT (jad (spJ sfB) (jaa (wVar 1) aNil)))) (sRet (wC (.str "form"))) jai) (sSeq (sSet 2 (w2 (wVar 1) (wC (.int (0))) gIx)) (sSeq (sIf (cT (w2 (wB gLen (jaa (wVar 2) aNil)) (wB gLen (jaa (wVar 0) aNil)) gNe)) (sRet (wC (.str "hands"))) jai) (sSeq (sIf (cNot (cT (wB gAll (jaa (wOf (jat [none,none] (ji2 (wVar 0) (wVar 2)) (jbb 2 (jah (jac 0) (jah (jac 1) ja0))) cYes (jad jtk (jaa (wVar 0) (jaa (wVar 1) aNil))))) aNil)))) (sRet (wC (.str "place"))) jai) (sSeq (sIf (cNot (cT (wB gAll (jaa (wOf (jat [none,none] (ji2 (wVar 0) (wVar 2)) (jbb 2 (jah (jac 0) (jah (jac 1) ja0))) cYes (jad jtl (jaa (wVar 0) (jaa (wVar 1) aNil))))) aNil)))) (sRet (wC (.str "names"))) jai) (sSeq (sIf (cNot (cT (wB gAll (jaa (wOf (jat [none] (ja4 (w2 (wVar 1) (wC (.int (1))) gIx)) (jac 0) cYes (jad (spJ jcb) (jaa (wVar 0) aNil)))) aNil)))) (sRet (wC (.str "notes"))) jai) (sRet (wC .none))))))))
abbrev jga:DST:=(sRet (w2 (wOf (fLst (jaa (wC (.str "a")) (jaa (wC (.int (0))) (jaa (wC (.str "a")) (jaa (wC (.int (1))) (jaa (wC (.str "ab")) (jaa (wC (.str "go")) (jaa (wC (.int (99))) (jaa (wC (.int (0))) aNil)))))))))) (jad jak (jaa (wVar 0) (jaa (wC (.int (8))) aNil))) gIx))
abbrev jia:DST:=(sRet (w2 (wOf (fLst (jaa (wC (.int (1))) (jaa (wC (.int (2))) (jaa (wC (.int (2))) (jaa (wC (.int (2))) (jaa (wC (.int (1))) (jaa (wC (.int (3))) (jaa (wC (.int (4))) aNil))))))))) (jad jak (jaa (wVar 0) (jaa (wC (.int (7))) aNil))) gIx))
abbrev jjv:DST:=(sRet (w2 (wTp3 0) (jad jak (jaa (wVar 0) (jaa (wB jfn (jaa (wTp3 0) aNil)) aNil))) gIxL))
abbrev jd8:DST:=(sSeq (sOwn 2 (fLst aNil)) (sSeq (sOwn 3 (fLst aNil)) (sSeq (sFor (ja1 (jad jie (jaa (wVar 0) aNil))) (jac 4) (sSeq (sSet 5 (jad jak (jaa (wVar 0) (jaa (wC (.int (9))) aNil)))) (sSeq (sSet 6 (w2 (wVar 1) (jfa 3) gCat)) (sIf (cT (w2 (wVar 5) (wC (.int (3))) gLt)) (sApp 2 (wTup (jaa (wC (.str "is")) (jaa (jad jdm (jaa (wVar 0) aNil)) aNil)))) (sIf (cT (w2 (wVar 5) (wC (.int (6))) gLt)) (sApp 2 (w2 (wOf (fLst (jaa (wTup (jaa (wC (.str "any")) aNil)) (jaa (wTup (jaa (wC (.str "word")) aNil)) (jaa (wTup (jaa (wC (.str "number")) aNil)) aNil))))) (w2 (wVar 5) (wC (.int (3))) (gI0 λi j=>.int (i - j))) gIxL)) (sIf (cOr (cT (w2 (wVar 5) (wC (.int (8))) gLt)) (cT (w2 (wVar 6) (wOf (fLst aNil)) gEqL))) (sSeq (sSet 7 (w2 (wOf (fLst (jaa (wC (.str "n")) (jaa (wC (.str "nm")) (jaa (wC (.str "go")) (jaa (wC (.str "m")) (jaa (wC (.str "x")) (jaa (wC (.str "nn")) aNil)))))))) (jad jak (jaa (wVar 0) (jaa (wC (.int (6))) aNil))) gIxL)) (sSeq (sApp 3 (wVar 7)) (sApp 2 (wTup (jaa (wC (.str "bind")) (jaa (wVar 7) aNil)))))) (sApp 2 (wTup (jaa (wC (.str "as")) (jaa (w2 (wVar 6) (jad jak (jaa (wVar 0) (jaa (wB jfn (jaa (wVar 6) aNil)) aNil))) gIxL) aNil)))))))))) (sFrz 2 (sFrz 3 (sRet (wTup (jaa (wB jbs (jaa (wVar 2) aNil)) (jaa (wVar 3) aNil)))))))))
abbrev jdg:DST:=(sSeq (sOwn 2 (fLst aNil)) (sSeq (sFor (ja1 (jad jie (jaa (wVar 0) aNil))) (jac 3) (sSeq (sSet 4 (jad jak (jaa (wVar 0) (jaa (wC (.int (6))) aNil)))) (sIf (cOr (cT (w2 (wVar 4) (wC (.int (3))) gLt)) (cT (w2 (wVar 1) (wOf (fLst aNil)) gEqL))) (sApp 2 (wTup (jaa (wC (.str "is")) (jaa (jad jdm (jaa (wVar 0) aNil)) aNil)))) (sApp 2 (wTup (jaa (w2 (wOf (fLst (jaa (wC (.str "as")) (jaa (wC (.str "as")) (jaa (wC (.str "next")) aNil))))) (w2 (wVar 4) (wC (.int (3))) (gI0 λi j=>.int (i - j))) gIxL) (jaa (w2 (wVar 1) (jad jak (jaa (wVar 0) (jaa (wB jfn (jaa (wVar 1) aNil)) aNil))) gIxL) aNil))))))) (sFrz 2 (sRet (wB jbs (jaa (wVar 2) aNil))))))
abbrev jh9:DST:=(sSeq (sIf (cOr (cT (w2 (wVar 1) (wOf (fLst aNil)) gEqL)) (cT (w2 (jad jak (jaa (wVar 0) (jaa (wC (.int (2))) aNil))) (wC (.int (0))) gEqL))) (sRet (wTup (jaa (wC (.str "is")) (jaa (jad jdm (jaa (wVar 0) aNil)) aNil)))) jai) (sRet (wTup (jaa (wC (.str "as")) (jaa (w2 (wVar 1) (jad jak (jaa (wVar 0) (jaa (wB jfn (jaa (wVar 1) aNil)) aNil))) gIxL) aNil)))))
abbrev jjw:DST:=(sSeq (sSet 3 (jad jak (jaa (wVar 0) (jaa (wC (.int (12))) aNil)))) (sSeq (sIf (cT (w2 (wVar 3) (wC (.int (4))) gLt)) (sRet (wTup (jaa (wTup (jaa (wC (.str "lay")) (jaa (jad jo7 (jaa (wVar 0) (jaa (wVar 1) aNil))) (jaa (jad jqd (jaa (wVar 0) aNil)) aNil)))) (jaa (wOf (fLst aNil)) aNil)))) jai) (sSeq (sSet 4 (w2 (wVar 2) (jad jak (jaa (wVar 0) (jaa (wB jfn (jaa (wVar 2) aNil)) aNil))) gIxL)) (sSeq (sIf (cT (w2 (wVar 3) (wC (.int (10))) gEqL)) (sRet (wTup (jaa (wTup (jaa (wC (.str "same")) (jaa (jad jif (jaa (wVar 0) (jaa (wVar 1) aNil))) (jaa (jad jif (jaa (wVar 0) (jaa (wVar 1) aNil))) (jaa (wVar 4) aNil))))) (jaa (wOf (fLst aNil)) aNil)))) jai) (sSeq (sIf (cT (w2 (wVar 3) (wC (.int (11))) gEqL)) (sRet (wTup (jaa (wTup (jaa (wC (.str "go")) (jaa (wVar 4) aNil))) (jaa (wOf (fLst aNil)) aNil)))) jai) (sSeq (sUnp (jad jo8 (jaa (wVar 0) (jaa (wVar 1) aNil))) (jbb 2 (jah (jac 5) (jah (jac 6) ja0)))) (sSeq (sIf (cT (w2 (wVar 3) (wC (.int (7))) gGt)) (sRet (wTup (jaa (wTup (jaa (wC (.str "look")) (jaa (wVar 5) (jaa (wVar 4) aNil)))) (jaa (wVar 6) aNil)))) jai) (sRet (wTup (jaa (wTup (jaa (w2 (wOf (fLst (jaa (wC (.str "take")) (jaa (wC (.str "take")) (jaa (wC (.str "take")) (jaa (wC (.str "read")) aNil)))))) (w2 (wVar 3) (wC (.int (4))) (gI0 λi j=>.int (i - j))) gIxL) (jaa (wVar 5) aNil))) (jaa (wVar 6) aNil)))))))))))
abbrev jd7:DST:=(sSeq (sOwn 1 (fLst (jaa (wTup aNil) aNil))) (sSeq (sFor (ja1 (w2 (wOf (fLst (jaa (wC (.int (0))) (jaa (wC (.int (1))) (jaa (wC (.int (2))) (jaa (wC (.int (1))) (jaa (wC (.int (0))) (jaa (wC (.int (2))) (jaa (wC (.int (5))) aNil))))))))) (jad jak (jaa (wVar 0) (jaa (wC (.int (7))) aNil))) gIxL)) (jac 2) (sApp 1 (w2 (wOf (fLst (jaa (wTup aNil) (jaa (wTup (jaa (wC (.str "n")) aNil)) (jaa (wTup (jaa (wC (.str "go")) (jaa (wC (.str "n")) aNil))) (jaa (wTup (jaa (wC (.str "nm")) aNil)) (jaa (wTup aNil) aNil))))))) (jad jak (jaa (wVar 0) (jaa (wC (.int (5))) aNil))) gIxL))) (sSeq (sOwn 3 (fLst aNil)) (sFrz 1 (sSeq (sFor (je0 (wVar 1)) (jac 4) (sSeq (sOwn 5 (jdd (wVar 4))) (sSeq (sOwn 6 (fLst aNil)) (sSeq (sFor (ja1 (w2 (wOf (fLst (jaa (wC (.int (2))) (jaa (wC (.int (3))) (jaa (wC (.int (1))) (jaa (wC (.int (4))) (jaa (wC (.int (2))) (jaa (wC (.int (0))) (jaa (wC (.int (3))) (jaa (wC (.int (8))) aNil)))))))))) (jad jak (jaa (wVar 0) (jaa (wC (.int (8))) aNil))) gIxL)) (jac 2) (sSeq (sSet 8 (wOf (jat [none,some 5,some 1] (ja1 (wB jfn (jaa (wVar 1) aNil))) (jac 0) (cT (w2 (wOf (jat [none,some 1] (ja4 (w2 (wVar 2) (wVar 0) gIxL)) (jac 0) (cT (w2 (wVar 0) (wVar 1) (gInL true))) (wVar 0))) (wOf (fLst aNil)) gEqL)) (wVar 0)))) (sSeq (sUnp (jad jjy (jaa (wVar 0) (jaa (jfa 5) (jaa (wVar 8) aNil)))) (jbb 2 (jah (jac 9) (jah (jac 10) ja0)))) (sSeq (sApp 6 (wVar 9)) (sFor (je0 (wVar 10)) (jac 7) (sIf (cT (w2 (wVar 7) (jfa 5) (gInL true))) (sApp 5 (wVar 7)) jai)))))) (sFrz 6 (sApp 3 (wTup (jaa (wVar 4) (jaa (wB jbs (jaa (wVar 6) aNil)) aNil))))))))) (sFrz 3 (sRet (wB jbs (jaa (wVar 3) aNil)))))))))
abbrev jgd:DST:=(sSeq (sOwn 2 (fLst aNil)) (sSeq (sFor (ja1 (jad jak (jaa (wVar 0) (jaa (w2 (wVar 1) (wC (.int (1))) (gI0 λi j=>.int (i+j))) aNil)))) (jac 3) (sSeq (sSet 4 (wB jbs (jaa (wOf (jat [none,some 0] (ja1 (jad jie (jaa (wVar 0) aNil))) (jac 0) cYes (jad jdm (jaa (wVar 1) aNil)))) aNil))) (sApp 2 (wTup (jaa (wVar 4) (jaa (jad jqd (jaa (wVar 0) aNil)) aNil)))))) (sFrz 2 (sRet (wB jbs (jaa (wVar 2) aNil))))))
abbrev jib:DST:=(sSeq (sOwn 1 (jat [none,some 0] (ja1 (w2 (wOf (fLst (jaa (wC (.int (2))) (jaa (wC (.int (1))) (jaa (wC (.int (2))) (jaa (wC (.int (3))) (jaa (wC (.int (2))) (jaa (wC (.int (1))) (jaa (wC (.int (0))) (jaa (wC (.int (5))) aNil)))))))))) (jad jak (jaa (wVar 0) (jaa (wC (.int (8))) aNil))) gIxL)) (jac 0) cYes (jad jo6 (jaa (wVar 1) aNil)))) (sSeq (sIf (cAnd (cT (w2 (wB jfn (jaa (jfa 1) aNil)) (wC (.int (2))) gEqL)) (cT (w2 (jad jak (jaa (wVar 0) (jaa (wC (.int (4))) aNil))) (wC (.int (0))) gEqL))) (sPut 1 (wC (.int (1))) (w2 (jfa 1) (wC (.int (0))) gIxL)) jai) (sFrz 1 (sRet (wTup (jaa (wB jbs (jaa (wVar 1) aNil)) (jaa (jad jfy (jaa (wVar 0) (jaa (w2 (wOf (fLst (jaa (wC (.int (4))) (jaa (wC (.int (3))) (jaa (wC (.int (6))) (jaa (wC (.int (12))) aNil)))))) (jad jak (jaa (wVar 0) (jaa (wC (.int (4))) aNil))) gIxL) aNil))) aNil)))))))
abbrev jge:DST:=(sSeq (sOwn 3 (jdd (w2 (w2 (wVar 0) (wVar 1) gIx) (wC (.int (0))) gIx))) (sSeq (sFor (ja4 (jap (w2 (w2 (wVar 0) (wVar 1) gIx) (wC (.int (1))) gIx) jaz (jay (wVar 2)))) (jac 4) (sIf (cT (w2 (w2 (wVar 4) (wC (.int (0))) gIx) (wTup (jaa (wC (.str "take")) (jaa (wC (.str "read")) (jaa (wC (.str "look")) aNil)))) (gIn false))) (sExt 3 (wOf (jat [none] (ja4 (w2 (wVar 4) (wC (.int (1))) gIx)) (jac 0) (cT (w2 (w2 (wVar 0) (wC (.int (0))) gIx) (wC (.str "bind")) gEq)) (w2 (wVar 0) (wC (.int (1))) gIx)))) jai)) (sFrz 3 (sRet (wOf (jcp (wVar 3)))))))
abbrev jgc:DST:=(sSeq (sOwn 2 (fLst aNil)) (sSeq (sFor (ja4 (wVar 1)) (jac 3) (sSeq (sSet 4 (jad jak (jaa (wVar 0) (jaa (wB gLen (jaa (wVar 3) aNil)) aNil)))) (sSeq (sSet 5 (jad jak (jaa (wVar 0) (jaa (w2 (wB gLen (jaa (w2 (w2 (wVar 3) (wVar 4) gIx) (wC (.int (1))) gIx) aNil)) (wC (.int (1))) (gI0 λi j=>.int (i+j))) aNil)))) (sSeq (sSet 6 (wB jdc (jaa (wOf (jat [none,some 0] (je0 (jad jdz (jaa (wVar 3) (jaa (wVar 4) (jaa (wVar 5) aNil))))) (jac 0) cYes (wTup (jaa (wVar 0) (jaa (jad jdm (jaa (wVar 1) aNil)) aNil))))) aNil))) (sApp 2 (wTup (jaa (wVar 4) (jaa (wVar 5) (jaa (wVar 6) aNil))))))))) (sFrz 2 (sRet (wTup (jaa (wB jdc (jaa (wVar 2) aNil)) (jaa (jad jfy (jaa (wVar 0) (jaa (wC (.int (6))) aNil))) aNil)))))))
abbrev jgb:DST:=(sRet (wAnd (wIsi "int" (wVar 0)) (wAnd (wNot (wIsi "bool" (wVar 0))) (ja3 gLe gLe (wC (.int (0))) (wVar 0) (wVar 1)))))
abbrev jdi:DST:=(sSeq (sIf (cOr (cNot (cT (wIsi "str" (wVar 0)))) (cNot (cT (ja3 gLe gLe (wC (.int (1))) (wB gLen (jaa (wVar 0) aNil)) (wVar 1))))) (sRet (wC (.bool false))) jai) (sRet (w2 (wOf (jat [none] (jfm (wVar 0)) (jac 0) (cT (w2 (wVar 0) (wC (.str "abcdefghijklmnopqrstuvwxyz")) (gInS true))) (wVar 0))) (wOf (fLst aNil)) gEq)))
abbrev jdh:DST:=(sRet (wOr (jad jeq (jaa (wVar 0) (jaa (wC (.int (8))) aNil))) (jad jdl (jaa (wVar 0) (jaa (wC (.int (99))) aNil)))))
abbrev jd9:DST:=(sSeq (sIf (cOr (cNot (cT (wIsi "tuple" (wVar 0)))) (cT (w2 (wB gLen (jaa (wVar 0) aNil)) (wC (.int (2))) gNe))) (sRet (wC (.bool false))) jai) (sSeq (sUnp (wVar 0) (jbb 2 (jah (jac 1) (jah (jac 2) ja0)))) (sSeq (sIf (cOr (cNot (cT (wIsi "tuple" (wVar 1)))) (cOr (cNot (cT (ja3 gLe gLe (wC (.int (1))) (wB gLen (jaa (wVar 1) aNil)) (wC (.int (4)))))) (cT (w2 (wOf (jat [none] (ja4 (wVar 1)) (jac 0) (cNot (cT (jad (spJ jan) (jaa (wVar 0) aNil)))) (wVar 0))) (wOf (fLst aNil)) (gXX λd e=>some (!Cn d e)))))) (sRet (wC (.bool false))) jai) (sRet (wOr (w2 (wVar 2) (wC .none) (gIsN false)) (wAnd (jad jdl (jaa (wVar 2) (jaa (wC (.int (20))) aNil))) (w2 (wVar 2) (wC (.int (0))) gGt)))))))
abbrev jc1:DST:=(sSeq (sIf (cOr (cNot (cT (wIsi "tuple" (wVar 0)))) (cT (w2 (wB gLen (jaa (wVar 0) aNil)) (wB gLen (jaa (wVar 1) aNil)) gNe))) (sRet (wC (.bool false))) jai) (sSeq (sFor (jsp (wVar 0) (wVar 1)) (jbb 2 (jah (jac 2) (jah (jac 3) ja0))) (sSeq (sIf (cOr (cNot (cT (wIsi "tuple" (wVar 2)))) (cOr (cT (w2 (wB gLen (jaa (wVar 2) aNil)) (wC (.int (2))) gNe)) (cOr (cNot (cT (wIsi "str" (w2 (wVar 2) (wC (.int (0))) gIx)))) (cT (w2 (w2 (wVar 2) (wC (.int (0))) gIx) (wVar 3) gNe))))) (sRet (wC (.bool false))) jai) (sIf (cNot (cT (jad (spJ jan) (jaa (w2 (wVar 2) (wC (.int (1))) gIx) aNil)))) (sRet (wC (.bool false))) jai))) (sRet (wC (.bool true)))))
abbrev jgf:DST:=(sSeq (sIf (cOr (cNot (cT (wIsi "tuple" (wVar 1)))) (cT (w2 (wB gLen (jaa (wVar 1) aNil)) (wC (.int (2))) gNe))) (sRet (wC (.str "form"))) jai) (sSeq (sUnp (wVar 1) (jbb 2 (jah (jac 2) (jah (jac 3) ja0)))) (sSeq (sIf (cOr (cNot (cT (wIsi "tuple" (wVar 2)))) (cNot (cT (wIsi "tuple" (wVar 3))))) (sRet (wC (.str "form"))) jai) (sSeq (sIf (cT (w2 (wOf (jat [none] (ja4 (wVar 2)) (jac 0) (cOr (cNot (cT (wIsi "tuple" (wVar 0)))) (cT (w2 (wB gLen (jaa (wVar 0) aNil)) (wC (.int (3))) gNe))) (wVar 0))) (wOf (fLst aNil)) (gXX λd e=>some (!Cn d e)))) (sRet (wC (.str "form"))) jai) (sSeq (sIf (cT (w2 (wB gLen (jaa (wVar 2) aNil)) (wB gLen (jaa (wVar 0) aNil)) gNe)) (sRet (wC (.str "hands"))) jai) (sSeq (sFor (ji2 (wVar 0) (wVar 2)) (jbb 2 (jah (jac 5) (jah (jac 4) ja0))) (sIf (cOr (cNot (cT (jad jdl (jaa (w2 (wVar 4) (wC (.int (0))) gIx) (jaa (w2 (wB gLen (jaa (wVar 5) aNil)) (wC (.int (1))) (gI0 λi j=>.int (i - j))) aNil))))) (cNot (cT (jad jdl (jaa (w2 (wVar 4) (wC (.int (1))) gIx) (jaa (wB gLen (jaa (w2 (w2 (wVar 5) (w2 (wVar 4) (wC (.int (0))) gIx) gIx) (wC (.int (1))) gIx) aNil)) aNil)))))) (sRet (wC (.str "place"))) jai)) (sSeq (sFor (ji2 (wVar 0) (wVar 2)) (jbb 2 (jah (jac 5) (jah (jac 4) ja0))) (sIf (cNot (cT (jad jmz (jaa (w2 (wVar 4) (wC (.int (2))) gIx) (jaa (jad jdz (jaa (wVar 5) (jaa (w2 (wVar 4) (wC (.int (0))) gIx) (jaa (w2 (wVar 4) (wC (.int (1))) gIx) aNil)))) aNil))))) (sRet (wC (.str "names"))) jai)) (sRet (wIf (cT (w2 (wOf (jat [none] (ja4 (wVar 3)) (jac 0) (cNot (cT (jad jig (jaa (wVar 0) aNil)))) (wVar 0))) (wOf (fLst aNil)) (gXX λd e=>some (!Cn d e)))) (wC (.str "notes")) (wC .none))))))))))
abbrev jju:DST:=(sSeq (sSet 1 (wOf (fLst (jaa (wC .none) (jaa (wC (.bool true)) (jaa (wC (.bool false)) (jaa (wNeg (wC (.int (1)))) (jaa (wC (.int (0))) (jaa (wC (.int (1))) (jaa (wC (.int (100))) (jaa (w2 (wC (.int (10))) (wC (.int (30))) (gI CPow λi j=>.int (i ^ j.toNat))) (jaa (wC (.str "")) (jaa (wC (.str "a")) (jaa (wC (.str "A")) (jaa (wC (.str "abcdefghi")) (jaa (wC (.str "a1")) (jaa (wTup aNil) (jaa (wOf (fLst aNil)) (jaa (wTup (jaa (wC (.str "a")) aNil)) (jaa (wOf (fLst (jaa (wC (.str "a")) aNil))) aNil)))))))))))))))))))) (sRet (w2 (wVar 1) (jad jak (jaa (wVar 0) (jaa (wC (.int (17))) aNil))) gIx)))
abbrev jcr (Sf:DSp):DST:=(sSeq (sIf (cAnd (cT (wIsi "tuple" (wVar 1))) (cAnd (cT (w2 (wVar 1) (wTup aNil) (gT0 true))) (cAnd (cT (w2 (wVar 2) (wC (.int (0))) gGt)) (cT (w2 (jad jak (jaa (wVar 0) (jaa (wC (.int (5))) aNil))) (wC (.int (0))) gGt))))) (sSeq (sSet 3 (jad jak (jaa (wVar 0) (jaa (wB gLen (jaa (wVar 1) aNil)) aNil)))) (sRet (w2 (w2 (jap (wVar 1) jaz (jay (wVar 3))) (wTup (jaa (jad Sf (jaa (wVar 0) (jaa (w2 (wVar 1) (wVar 3) gIx) (jaa (w2 (wVar 2) (wC (.int (1))) (gI0 λi j=>.int (i - j))) aNil)))) aNil)) jbt) (jap (wVar 1) (jay (w2 (wVar 3) (wC (.int (1))) (gI0 λi j=>.int (i+j)))) jaz) jbt))) jai) (sSeq (sIf (cT (wIsi "tuple" (wVar 1))) (sSeq (sSet 4 (wOf (fLst (jaa (wB ji3 (jaa (wVar 1) aNil)) (jaa (w2 (wVar 1) (jap (wVar 1) jaz (jay (wC (.int (1))))) jbt) (jaa (jap (wVar 1) jaz (jay (wNeg (wC (.int (1)))))) (jaa (jap (wVar 1) (jay (wC (.int (1)))) jaz) (jaa (wRev (wVar 1)) (jaa (w2 (wVar 1) (wTup (jaa (wC (.int (0))) aNil)) jbt) aNil))))))))) (sRet (w2 (wVar 4) (jad jak (jaa (wVar 0) (jaa (wC (.int (6))) aNil))) gIx))) jai) (sSeq (sIf (cAnd (cT (wIsi "int" (wVar 1))) (cNot (cT (wIsi "bool" (wVar 1))))) (sRet (w2 (wOf (fLst (jaa (w2 (wVar 1) (wC (.int (1))) (gI0 λi j=>.int (i+j))) (jaa (w2 (wVar 1) (wC (.int (1))) (gI0 λi j=>.int (i - j))) (jaa (w2 (wVar 1) (wC (.int (0))) gGt) (jaa (wB gStr (jaa (wVar 1) aNil)) (jaa (wC .none) (jaa (w2 (wVar 1) (wC (.int (100))) (gI0 λi j=>.int (i+j))) aNil)))))))) (jad jak (jaa (wVar 0) (jaa (wC (.int (6))) aNil))) gIx)) jai) (sRet (jad jcs (jaa (wVar 0) aNil))))))
abbrev jdj:DST:=(sSeq (sUnp (wVar 1) (jbb 2 (jah (jac 2) (jah (jac 3) ja0)))) (sSeq (sSet 4 (jad jak (jaa (wVar 0) (jaa (wC (.int (4))) aNil)))) (sSeq (sIf (cT (w2 (wVar 4) (wC (.int (0))) gEq)) (sRet (wTup (jaa (wVar 2) (jaa (w2 (wOf (fLst (jaa (wC (.int (0))) (jaa (wC (.int (21))) (jaa (wC (.bool true)) (jaa (wNeg (wC (.int (1)))) (jaa (wC (.str "1")) (jaa (wC (.int (30))) aNil)))))))) (jad jak (jaa (wVar 0) (jaa (wC (.int (6))) aNil))) gIx) aNil)))) jai) (sSeq (sIf (cT (w2 (wVar 4) (wC (.int (1))) gEq)) (sRet (wTup (jaa (w2 (wOf (fLst (jaa (wTup aNil) (jaa (w2 (wVar 2) (wTup (jaa (wC (.str "a")) (jaa (wC (.str "a")) (jaa (wC (.str "a")) (jaa (wC (.str "a")) aNil))))) jbt) (jaa (wB ji3 (jaa (wVar 2) aNil)) (jaa (wC (.str "a")) aNil)))))) (jad jak (jaa (wVar 0) (jaa (wC (.int (4))) aNil))) gIx) (jaa (wVar 3) aNil)))) jai) (sSeq (sIf (cT (w2 (wVar 4) (wC (.int (2))) gEq)) (sRet (wTup (jaa (w2 (jap (wVar 2) jaz (jay (wNeg (wC (.int (1)))))) (wTup (jaa (jad jcs (jaa (wVar 0) aNil)) aNil)) jbt) (jaa (wVar 3) aNil)))) jai) (sRet (w2 (wOf (fLst (jaa (wOf (fLst (jaa (wVar 2) (jaa (wVar 3) aNil)))) (jaa (wTup (jaa (wVar 2) (jaa (wVar 3) (jaa (wVar 3) aNil)))) (jaa (wVar 2) (jaa (wTup (jaa (wVar 3) (jaa (wVar 2) aNil))) aNil)))))) (jad jak (jaa (wVar 0) (jaa (wC (.int (4))) aNil))) gIx)))))))
abbrev jdk:DST:=(sSeq (sUnp (wVar 2) (jbb 3 (jah (jac 4) (jah (jac 5) (jah (jac 6) ja0))))) (sSeq (sIf (cT (w2 (wVar 3) (wC (.int (1))) gEq)) (sRet (wTup (jaa (w2 (wOf (fLst (jaa (wB gLen (jaa (wVar 1) aNil)) (jaa (wNeg (wC (.int (1)))) (jaa (w2 (wVar 4) (wC (.int (0))) gGt) (jaa (wB gStr (jaa (wVar 4) aNil)) aNil)))))) (jad jak (jaa (wVar 0) (jaa (wC (.int (4))) aNil))) gIx) (jaa (wVar 5) (jaa (wVar 6) aNil))))) jai) (sSeq (sIf (cT (w2 (wVar 3) (wC (.int (2))) gEq)) (sRet (wTup (jaa (wVar 4) (jaa (w2 (wOf (fLst (jaa (w2 (wB gLen (jaa (w2 (w2 (wVar 1) (wVar 4) gIx) (wC (.int (1))) gIx) aNil)) (wC (.int (1))) (gI0 λi j=>.int (i+j))) (jaa (wNeg (wC (.int (1)))) (jaa (w2 (wVar 5) (wC (.int (0))) gGt) (jaa (wC .none) aNil)))))) (jad jak (jaa (wVar 0) (jaa (wC (.int (4))) aNil))) gIx) (jaa (wVar 6) aNil))))) jai) (sSeq (sIf (cT (w2 (wVar 3) (wC (.int (3))) gEq)) (sSeq (sSet 7 (wOf (fLst (jaa (jap (wVar 6) (jay (wC (.int (1)))) jaz) (jaa (jap (wVar 6) jaz (jay (wNeg (wC (.int (1)))))) (jaa (w2 (wVar 6) (wTup (jaa (wTup (jaa (wC (.str "zz")) (jaa (wC (.int (0))) aNil))) aNil)) jbt) (jaa (wRev (wVar 6)) (jaa (wB ji3 (jaa (wVar 6) aNil)) (jaa (w2 (wVar 6) (jap (wVar 6) jaz (jay (wC (.int (1))))) jbt) aNil))))))))) (sRet (wTup (jaa (wVar 4) (jaa (wVar 5) (jaa (w2 (wVar 7) (jad jak (jaa (wVar 0) (jaa (wC (.int (6))) aNil))) gIx) aNil)))))) jai) (sSeq (sIf (cAnd (cT (w2 (wVar 3) (wC (.int (4))) gEq)) (cT (w2 (wVar 6) (wTup aNil) (gT0 true)))) (sSeq (sSet 8 (jad jak (jaa (wVar 0) (jaa (wB gLen (jaa (wVar 6) aNil)) aNil)))) (sSeq (sUnp (w2 (wVar 6) (wVar 8) gIx) (jbb 2 (jah (jac 9) (jah (jac 10) ja0)))) (sSeq (sSet 11 (w2 (wOf (fLst (jaa (wTup (jaa (wVar 9) (jaa (jad jcs (jaa (wVar 0) aNil)) aNil))) (jaa (wTup (jaa (wC (.str "zz")) (jaa (wVar 10) aNil))) (jaa (wOf (fLst (jaa (wVar 9) (jaa (wVar 10) aNil)))) (jaa (wTup (jaa (wVar 9) (jaa (wVar 10) (jaa (wVar 10) aNil)))) aNil)))))) (jad jak (jaa (wVar 0) (jaa (wC (.int (4))) aNil))) gIx)) (sRet (wTup (jaa (wVar 4) (jaa (wVar 5) (jaa (w2 (w2 (jap (wVar 6) jaz (jay (wVar 8))) (wTup (jaa (wVar 11) aNil)) jbt) (jap (wVar 6) (jay (w2 (wVar 8) (wC (.int (1))) (gI0 λi j=>.int (i+j)))) jaz) jbt) aNil)))))))) jai) (sRet (wTup (jaa (wVar 4) (jaa (jad jak (jaa (wVar 0) (jaa (w2 (wB gLen (jaa (w2 (w2 (wVar 1) (wVar 4) gIx) (wC (.int (1))) gIx) aNil)) (wC (.int (1))) (gI0 λi j=>.int (i+j))) aNil))) (jaa (wVar 6) aNil))))))))))
abbrev jd6:DST:=(sSeq (sUnp (wVar 2) (jbb 2 (jah (jac 3) (jah (jac 4) ja0)))) (sSeq (sSet 5 (jad jak (jaa (wVar 0) (jaa (wC (.int (9))) aNil)))) (sSeq (sIf (cOr (cT (w2 (wVar 5) (wC (.int (0))) gEq)) (cAnd (cT (w2 (wVar 3) (wTup aNil) (gT0 false))) (cT (w2 (wVar 5) (wC (.int (6))) gLt)))) (sRet (w2 (wOf (fLst (jaa (wTup (jaa (w2 (wVar 3) (wTup (jaa (wTup (jaa (wC (.int (0))) (jaa (wC (.int (0))) (jaa (wTup aNil) aNil)))) aNil)) jbt) (jaa (wVar 4) aNil))) (jaa (wTup (jaa (jap (wVar 3) jaz (jay (wNeg (wC (.int (1)))))) (jaa (wVar 4) aNil))) (jaa (wTup (jaa (w2 (wVar 3) (jap (wVar 3) jaz (jay (wC (.int (1))))) jbt) (jaa (wVar 4) aNil))) aNil))))) (jad jak (jaa (wVar 0) (jaa (wC (.int (3))) aNil))) gIx)) jai) (sSeq (sIf (cT (w2 (wVar 5) (wC (.int (6))) gLt)) (sSeq (sSet 6 (jad jak (jaa (wVar 0) (jaa (wB gLen (jaa (wVar 3) aNil)) aNil)))) (sSeq (sSet 7 (jad jo9 (jaa (wVar 0) (jaa (w2 (wVar 1) (wVar 6) gIx) (jaa (w2 (wVar 3) (wVar 6) gIx) (jaa (wVar 5) aNil)))))) (sRet (wTup (jaa (w2 (w2 (jap (wVar 3) jaz (jay (wVar 6))) (wTup (jaa (wVar 7) aNil)) jbt) (jap (wVar 3) (jay (w2 (wVar 6) (wC (.int (1))) (gI0 λi j=>.int (i+j)))) jaz) jbt) (jaa (wVar 4) aNil)))))) jai) (sSeq (sIf (cT (w2 (wVar 4) (wTup aNil) (gT0 false))) (sRet (wTup (jaa (wVar 3) (jaa (wTup (jaa (jad jm0 (jaa (wVar 0) (jaa (wTup (jaa (wTup (jaa (wC (.str "a")) (jaa (wC (.int (0))) aNil))) (jaa (wC .none) aNil))) aNil))) aNil)) aNil)))) jai) (sSeq (sSet 6 (jad jak (jaa (wVar 0) (jaa (wB gLen (jaa (wVar 4) aNil)) aNil)))) (sRet (wTup (jaa (wVar 3) (jaa (w2 (w2 (jap (wVar 4) jaz (jay (wVar 6))) (wTup (jaa (jad jm0 (jaa (wVar 0) (jaa (w2 (wVar 4) (wVar 6) gIx) aNil))) aNil)) jbt) (jap (wVar 4) (jay (w2 (wVar 6) (wC (.int (1))) (gI0 λi j=>.int (i+j)))) jaz) jbt) aNil))))))))))
abbrev jce:DST:=(sSeq (sSet 2 (wB joy (jaa (wVar 1) aNil))) (sSeq (sSet 3 (jad jdn (jaa (wVar 0) (jaa (wVar 1) aNil)))) (sSeq (sSet 4 (jad jg3 (jaa (wVar 0) (jaa (wVar 1) aNil)))) (sSeq (sIf (cT (w2 (wB joy (jaa (wVar 1) aNil)) (wVar 2) gNe)) (sRet (wC (.bool false))) jai) (sRet (wIf (cT (w2 (wVar 4) (wC .none) (gIsN false))) (w2 (wVar 3) (wC .none) (gIsN false)) (wAnd (wIsi "str" (wVar 3)) (w2 (wVar 3) (wVar 4) gEq))))))))
abbrev j2s:DST:=(sSeq (sSet 2 (w2 (jad jmy (jaa (wVar 1) aNil)) (wC (.int (0))) gIx)) (sSeq (sSet 3 (w2 (jad jmy (jaa (wVar 1) aNil)) (wC (.int (0))) gIx)) (sSeq (sFor (ja1 (wC (.int (4)))) (jac 4) (sSeq (sSet 5 (jad jid (jaa (wVar 1) (jaa (wVar 2) aNil)))) (sSeq (sIf (cT (w2 (jad jdn (jaa (wVar 2) (jaa (wVar 5) aNil))) (wC .none) (gIsN true))) (sRet (wC (.bool false))) jai) (sSeq (sSet 6 (jad jk7 (jaa (wVar 1) (jaa (wVar 2) (jaa (wVar 5) aNil))))) (sSeq (sSet 7 (wOf (fLst (jaa (wVar 5) (jaa (wVar 6) (jaa (jad (je8 6) (jaa (wVar 1) (jaa (wVar 6) (jaa (wC (.int (4))) aNil)))) (jaa (jad (je8 6) (jaa (wVar 1) (jaa (wVar 5) (jaa (wC (.int (5))) aNil)))) (jaa (jad jcs (jaa (wVar 1) aNil)) aNil)))))))) (sSeq (sSet 7 (w2 (wVar 7) (wOf (fLst (jaa (jad jid (jaa (wVar 1) (jaa (wVar 3) aNil))) (jaa (wB ji3 (jaa (wVar 5) aNil)) (jaa (w2 (wVar 5) (wTup (jaa (wTup aNil) aNil)) jbt) (jaa (wTup (jaa (w2 (wVar 5) (wC (.int (1))) gIx) (jaa (w2 (wVar 5) (wC (.int (0))) gIx) aNil))) aNil)))))) gCat)) (sIf (cT (w2 (wOf (jat [none,some 2] (je0 (wVar 7)) (jac 0) (cNot (cT (jad jjx (jaa (wVar 1) (jaa (wVar 0) aNil))))) (wVar 0))) (wOf (fLst aNil)) (gXX λd e=>some (!Cn d e)))) (sRet (wC (.bool false))) jai))))))) (sRet (wAnd (w2 (jad jdn (jaa (wTup aNil) (jaa (wTup (jaa (wTup aNil) (jaa (wTup aNil) aNil))) aNil))) (wC .none) (gIsN false)) (w2 (jad jdn (jaa (wTup aNil) (jaa (wTup aNil) aNil))) (wC (.str "form")) gEq))))))
theorem jl9:∀ws n Q,spJ jc6 ws n Q->ws.length=1:=λ_ _ _ h=>jbo h
abbrev Zd:List Str:=["thing"]
theorem jkw:∀ws n Q,spJ jc6 ws n Q->jfw (jam Zd ws) n {nx:=λ_ n=>Q (.d .none) n,rt:=Q}:=jfv λd n K k=>by
 show jfw [some (.w (.d d))] n K;unfold jfw;cases d<;>(simp only[wVar,jbb,jah,ja0,jap,jaz,jay,wC,w2,cT,ja3,jbu,cOr,cNot,wAnd,wOr,wNot,aNil,jaa,wOf,jad,wB,jai,sSeq,sRet,sIf,gCmp,gEq,gIsN,gIx,gLen,wIsi,gAll,ja4,jfm,jat,jcq,cYes,jac,jba,Fm,B6,Cj,Bp,C5,Bi,Cf,Ef,jco,jby,jcn,jbf,jbx];simpa[jc6]using k)
theorem jiv:∀ws n Q,jb0 ws n Q->ws.length=2:=λws n Q h=>by
 unfold jb0 at h
 split at h
 ·rfl
 ·exact h.elim
theorem jhx:∀ws n Q,jb0 ws n Q->jdf (jam ["thing","longest"] ws) n {nx:=λ_ n=>Q (.d .none) n,rt:=Q}:=λws n Q h=>by
 unfold jb0 at h
 split at h
 ·rename_i d k;show jdf [some (.w (.d d)),some (.w (.d (.int k)))] n _;unfold jdf;cases d with
  |str x =>
   simp only[wVar,jbb,jah,ja0,jap,jaz,jay,wC,w2,cT,ja3,jbu,cOr,cNot,wAnd,wOr,wNot,aNil,jaa,wOf,jad,wB,jai,sSeq,sRet,sIf,gCmp,gEq,gIsN,gIx,gLen,wIsi,gAll,ja4,jfm,jat,jcq,cYes,jac,jba,Fm,B6,Cj,Bp,C5,Bi,Cf,Ef,jco,jby,jcn,jbf,jbx];simp only[Bool.not_true,B9,if_false];simp only[letB]at h;refine ifb (λe1=>?_) (λe1=>?_)
   ·refine ifb (λe2=>?_) (λe2=>?_)
    ·rw[e1,e2,Di,Di]at h;exact jux x h
    ·rw[e1,e2]at h;exact h
   ·rw[e1]at h;exact h
  |_=>simp only[wVar,jbb,jah,ja0,jap,jaz,jay,wC,w2,cT,ja3,jbu,cOr,cNot,wAnd,wOr,wNot,aNil,jaa,wOf,jad,wB,jai,sSeq,sRet,sIf,gCmp,gEq,gIsN,gIx,gLen,wIsi,gAll,ja4,jfm,jat,jcq,cYes,jac,jba,Fm,B6,Cj,Bp,C5,Bi,Cf,Ef,jco,jby,jcn,jbf,jbx];exact h
 ·exact h.elim
theorem jnr:∀ws n Q,spJ (letB 8) ws n Q->ws.length=1:=λ_ _ _ h=>jbo h
theorem jmp:∀ws n Q,spJ (letB 8) ws n Q->jti (jam Zd ws) n {nx:=λ_ n=>Q (.d .none) n,rt:=Q}:=jfv λd n K k=>k
theorem jnt:∀ws n Q,spJ (letB 4) ws n Q->ws.length=1:=λ_ _ _ h=>jbo h
theorem jmr:∀ws n Q,spJ (letB 4) ws n Q->jtj (jam Zd ws) n {nx:=λ_ n=>Q (.d .none) n,rt:=Q}:=jfv λd n K k=>k
theorem jkj:∀ws n Q,spJ numB ws n Q->ws.length=1:=λ_ _ _ h=>jbo h
theorem ji7:∀ws n Q,spJ numB ws n Q->jep (jam Zd ws) n {nx:=λ_ n=>Q (.d .none) n,rt:=Q}:=jfv λd n K k=>by
 show jep [some (.w (.d d))] n K;unfold jep;simp only[sRet,wAnd,jad,jaa,aNil,wVar,B6,spJ,jbu,ja3,wC];exact jji k
theorem jma:∀ws n Q,spJ jan ws n Q->ws.length=1:=λ_ _ _ h=>jbo h
theorem jkx:∀ws n Q,spJ jan ws n Q->jfx (jam Zd ws) n {nx:=λ_ n=>Q (.d .none) n,rt:=Q}:=jfv λd n K k=>by
 show jfx [some (.w (.d d))] n K;unfold jfx;simp only[wVar,jbb,jah,ja0,jap,jaz,jay,wC,w2,cT,ja3,jbu,cOr,cNot,wAnd,wOr,wNot,aNil,jaa,wOf,jad,wB,jai,sSeq,sRet,sIf,gCmp,gEq,gIsN,gIx,gLen,wIsi,gAll,ja4,jfm,jat,jcq,cYes,jac,jba,Fm,B6,Cj,Bp,C5,Bi,Cf,Ef,jco,jby,jcn,jbf,jbx,spJ];exact jrz (F:=λb=>K.rt (.d (.bool b)) n) k id
theorem jp0:∀ws n Q,spJ rowB ws n Q->ws.length=1:=λ_ _ _ h=>jbo h
theorem jnz:∀ws n Q,spJ rowB ws n Q->jk5 (jam Zd ws) n {nx:=λ_ n=>Q (.d .none) n,rt:=Q}:=jfv λd n K k=>by
 show jk5 [some (.w (.d d))] n K;unfold jk5;cases d with
 |tuple ds =>
  simp only[rowB]at k;simp only[wVar,jbb,jah,ja0,jap,jaz,jay,wC,w2,cT,ja3,jbu,cOr,cNot,wAnd,wOr,wNot,aNil,jaa,wOf,jad,wB,jai,sSeq,sRet,sIf,gCmp,gEq,gIsN,gIx,gLen,wIsi,gAll,ja4,jfm,jat,jcq,cYes,jac,jba,Fm,B6,Cj,Bp,C5,Bi,Cf,Ef,jco,jby,jcn,jbf,jbx];simp only[Bool.not_true,B9,if_false];refine ifb (λe1=>?_) (λe1=>?_)
  ·refine ifb (λe2=>?_) (λe2=>?_)
   ·rw[e1,e2,Di,Di]at k;exact jt8 ds k
   ·rw[e1,e2]at k;exact k
  ·rw[e1]at k;exact k
 |_=>simp only[wVar,jbb,jah,ja0,jap,jaz,jay,wC,w2,cT,ja3,jbu,cOr,cNot,wAnd,wOr,wNot,aNil,jaa,wOf,jad,wB,jai,sSeq,sRet,sIf,gCmp,gEq,gIsN,gIx,gLen,wIsi,gAll,ja4,jfm,jat,jcq,cYes,jac,jba,Fm,B6,Cj,Bp,C5,Bi,Cf,Ef,jco,jby,jcn,jbf,jbx];exact k
theorem jp1:∀ws n Q,spJ ageB ws n Q->ws.length=1:=λ_ _ _ h=>jbo h
theorem jn0:∀ws n Q,spJ ageB ws n Q->jk6 (jam Zd ws) n {nx:=λ_ n=>Q (.d .none) n,rt:=Q}:=jfv λd n K k=>by
 show jk6 [some (.w (.d d))] n K;unfold jk6;simp only[sRet,wOr,w2,wAnd,jad,jaa,aNil,wVar,B6,spJ,jbu,ja3,wC,gIsN,B9,if_false];exact jrz (F:=λb=>K.rt (.d (.bool b)) n) k jji
theorem jns:∀ws n Q,spJ jcb ws n Q->ws.length=1:=λ_ _ _ h=>jbo h
theorem jmq:∀ws n Q,spJ jcb ws n Q->jh8 (jam Zd ws) n {nx:=λ_ n=>Q (.d .none) n,rt:=Q}:=jfv λd n K k=>by
 show jh8 [some (.w (.d d))] n K;unfold jh8;cases d with
 |tuple ds =>
  simp only[wVar,jbb,jah,ja0,jap,jaz,jay,wC,w2,cT,ja3,jbu,cOr,cNot,wAnd,wOr,wNot,aNil,jaa,wOf,jad,wB,jai,sSeq,sRet,sIf,gCmp,gEq,gIsN,gIx,gLen,wIsi,gAll,ja4,jfm,jat,jcq,cYes,jac,jba,Fm,B6,Cj,Bp,C5,Bi,Cf,Ef,jco,jby,jcn,jbf,jbx,spJ,eqD];rcases ds with _ | ⟨a,_ | ⟨b,_ | ⟨c,r⟩⟩⟩
  ·exact k
  ·exact k
  ·show if rowB a=true then K.rt (.d (.bool (ageB b))) n else K.rt (.d (.bool false)) n
   exact jvl (F:=λb=>K.rt (.d (.bool b)) n) k λ_ z=>z
  ·have e:decide (((a::b::c::r).length:Int)=2)=false:=decide_eq_false (by simp only[A1];omega);simp only[if_true,e,B9,if_false];exact k
 |_=>simp only[wVar,jbb,jah,ja0,jap,jaz,jay,wC,w2,cT,ja3,jbu,cOr,cNot,wAnd,wOr,wNot,aNil,jaa,wOf,jad,wB,jai,sSeq,sRet,sIf,gCmp,gEq,gIsN,gIx,gLen,wIsi,gAll,ja4,jfm,jat,jcq,cYes,jac,jba,Fm,B6,Cj,Bp,C5,Bi,Cf,Ef,jco,jby,jcn,jbf,jbx];exact k
section
variable {δ:Sl} {n:Int} {Q:DQ} {K:DEnds} {W V:DST} {i j:Nat} {ds:List Ab}
theorem jb9 {u v:DT} {a b:Bool} (hu:∀Q:DQ,Q (.d (.bool a)) n->u δ n Q) (hv:a=true->∀Q:DQ,Q (.d (.bool b)) n->v δ n Q) (k:Q (.d (.bool (a&&b))) n):wAnd u v δ n Q:=by
 refine hu _ ?_;cases a with
 |true=>exact hv rfl _ k
 |false=>exact k
theorem or_v {u v:DT} {a b:Bool} (hu:∀Q:DQ,Q (.d (.bool a)) n->u δ n Q) (hv:a=false->∀Q:DQ,Q (.d (.bool b)) n->v δ n Q) (k:Q (.d (.bool (a || b))) n):wOr u v δ n Q:=by
 refine hu _ ?_;cases a with
 |false=>exact hv rfl _ k
 |true=>exact k
theorem c_or {u v:DTT} {a b:Bool} {Q:Bool->Int->Prop} (hu:∀Q:Bool->Int->Prop,Q a n->u δ n Q) (hv:a=false->∀Q:Bool->Int->Prop,Q b n->v δ n Q) (k:Q (a || b) n):cOr u v δ n Q:=by
 refine hu _ ?_;cases a with
 |false=>exact hv rfl _ k
 |true=>exact k
theorem jhv {u v:DTT} {a b:Bool} {Q:Bool->Int->Prop} (hu:∀Q:Bool->Int->Prop,Q a n->u δ n Q) (hv:a=true->∀Q:Bool->Int->Prop,Q b n->v δ n Q) (k:Q (a&&b) n):cAnd u v δ n Q:=by
 refine hu _ ?_;cases a with
 |true=>exact hv rfl _ k
 |false=>exact k
theorem if_b {C:DTT} {b:Bool} (hc:∀Q:Bool->Int->Prop,Q b n->C δ n Q) (hT:b=true->W δ n K) (hF:b=false->V δ n K):sIf C W V δ n K:=by
 refine hc _ ?_;cases b with
 |true=>exact hT rfl
 |false=>exact hF rfl
theorem j1_i {w:DT} {g:Ab->Bool} {d:Ab} (hw:∀Q:DQ,Q (.d d) n->w δ n Q):∀Q:DQ,Q (.d (.bool (g d))) n->jad (spJ g) (jaa w aNil) δ n Q:=λQ q=>c1_i (hw _ q)
end
section
variable {δ:Sl} {n:Int} {Q:DQ} {K:DEnds} {W V:DST} {i j:Nat} {ds:List Ab}
theorem jfl {T:String} {w:DT} {d:Ab} (hw:∀Q:DQ,Q (.d d) n->w δ n Q):∀Q:DQ,Q (.d (.bool (isiB T d))) n->wIsi T w δ n Q:=λQ q=>hw _ q
end
section
variable {δ:Sl} {n:Int} {i:Nat} {ds:List Ab}
theorem nt_i (e:δ[i]?=some (some (.w (.d (.tuple ds))))):∀Q:Bool->Int->Prop,Q false n->cNot (cT (wIsi "tuple" (wVar i))) δ n Q:=λQ q=>jax (k:=true) (λQ q=>ct_b (λQ q=>jmf e q) q) q
end
def slt (x y:Str):Bool:=decide (x.cps.toList < y.cps.toList)
theorem slin:Lin slt where
 asym:=λa b h=>vlin.asym (.inr a) (.inr b) h
 ntr:=λa b c h g=>vlin.ntr (.inr a) (.inr b) (.inr c) h g
 tot:=λa b h g=>Sum.inr.inj (vlin.tot (.inr a) (.inr b) h g)
theorem joj:∀ks:List Str,jly (ks.map .str)=true↔ks.Pairwise λa b=>slt a b=true
 |[]=>⟨λ_=>.nil,λ_=>rfl⟩
 |[_]=>⟨λ_=>Gu _ _,λ_=>rfl⟩
 |a::b::r=>by
  have ih:=joj (b::r);have e:jly ((a::b::r).map .str)=(slt a b&&jly ((b::r).map .str)):=rfl;rw[e,A4,ih,Gm (a:=a)];refine⟨λh=>⟨λc hc=>?_,h.2⟩,λh=>⟨h.1 b Au,h.2⟩⟩;rcases Am.mp hc with rfl | hc
  ·exact h.1
  ·exact slin.tr1 h.1 (slin.asym _ _ ((Gm.mp h.2).1 c hc))
theorem jvt:∀{xs ys:List Str},(xs.Pairwise λa b=>slt a b=true)->(ys.Pairwise λa b=>slt a b=true)->(∀k,k∈xs↔k∈ys)->xs=ys
 |[],[],_,_,_=>rfl
 |[],y::ys,_,_,h=>absurd ((h y).mpr Au) (by simp)
 |x::xs,[],_,_,h=>absurd ((h x).mp Au) (by simp)
 |a::as,b::bs,h,g,m=>by
  obtain⟨h1,h2⟩:=Gm.mp h;obtain⟨g1,g2⟩:=Gm.mp g;have e:a=b:=by
   rcases Am.mp ((m a).mp Au)with e | ma
   ·exact e
   ·rcases Am.mp ((m b).mpr Au)with e | mb
    ·exact e.symm
    ·have:=slin.asym _ _ (h1 b mb);rw[g1 a ma]at this;cases this
  subst e;rw[jvt h2 g2 λk=>⟨λhk=>?_,λhk=>?_⟩]
  ·rcases Am.mp ((m k).mp (Aw _ hk))with e | q
   ·subst e;have:=slin.irr k;rw[h1 k hk]at this;cases this
   ·exact q
  ·rcases Am.mp ((m k).mpr (Aw _ hk))with e | q
   ·subst e;have:=slin.irr k;rw[g1 k hk]at this;cases this
   ·exact q
theorem joz:∀a b:List Str,F4 (a.map .str) (b.map .str)=decide (a=b)
 |[],[]=>by simp[F4]
 |[],_::_=>by simp[F4]
 |_::_,[]=>by simp[F4]
 |x::a,y::b=>by
  rw[Bi,Bi,F4,joz a b,Cn,jxb];by_cases h1:x=y<;>by_cases h2:a=b<;>simp[h1,h2]
theorem Th.lay {L k:Nat} {d:Ab} (h:Th L k d):Cb d=true/\Cu d<=k:=by
 have key:∀{k:Nat} (ds:List Ab),(∀d∈ds,Cb d=true/\Cu d<=k)->En ds=true/\Fj ds<=k:=by
  intro k ds
  induction ds with
  |nil=>exact λ_=>⟨rfl,A3 _⟩
  |cons x r ih =>
   intro h;obtain⟨a1,a2⟩:=ih λd hd=>h d (Aw _ hd);obtain⟨b1,b2⟩:=h x Au;exact⟨by rw[En,a1,b1];rfl,by rw[Fj];omega⟩
 induction h with
 |non=>exact⟨rfl,A3 _⟩
 |bool b=>exact⟨rfl,A3 _⟩
 |int i _ _=>exact⟨rfl,A3 _⟩
 |str x _ h=>exact⟨by rw[Cb];exact h,A3 _⟩
 |list _ _ ih =>
  obtain⟨a1,a2⟩:=key _ ih;exact⟨by rw[Cb];exact a1,by rw[Cu];omega⟩
 |tuple _ _ ih =>
  obtain⟨a1,a2⟩:=key _ ih;exact⟨by rw[Cb];exact a1,by rw[Cu];omega⟩
theorem jyk {k:Nat} (ds:List Ab) (h:∀d∈ds,Cb d=true/\Cu d<=k):Cb (.list ds)=true/\Cu (.list ds)<=k+1:=by
 have:En ds=true/\Fj ds<=k:=by
  induction ds with
  |nil=>exact⟨rfl,A3 _⟩
  |cons x r ih =>
   obtain⟨a1,a2⟩:=ih λd hd=>h d (Aw _ hd);obtain⟨b1,b2⟩:=h x Au;exact⟨by rw[En,a1,b1];rfl,by rw[Fj];omega⟩
 exact⟨by rw[Cb];exact this.1,by rw[Cu];omega⟩
theorem jsh {s:Str} {k:Int} (h:letB k (.str s)=true):(s.length:Int)<=k:=by
 unfold letB at h;simp only[A4,decide_eq_true_eq]at h;exact h.2.1
theorem Th.mem {L k:Nat} {ds:List Ab} (h:Th L k (.tuple ds)):∀d∈ds,Th L (k - 1) d:=by
 cases h with
 |tuple h1 h2=>exact h2
theorem jyu (l:List Ab):Cn (.list l) (.list [])=l.isEmpty:=by
 cases l<;>simp[Cn,F4]
theorem j3m {Q:DQ} {n:Int} {l:List Ab} (h:Cb (.list l)=true/\Cu (.list l)<=20) (k:Q (.d (.bool (!l.isEmpty))) n):gXX (λd e=>some (!Cn d e)) (.d (.list l)) (.d (.list [])) n Q :=
 ⟨h.1,rfl,h.2,by decide,_,rfl,by rw[jyu];exact k⟩
theorem jus (p:Ab->Bool) (ds:List Ab):(ds.filter λd=>!p d).isEmpty=ds.all p:=by
 have:=jf8 (λd=>!p d) id ds;rw[Eh]at this;rw[this]
 congr 1
 funext a
 exact Bool.not_not _
theorem j2a {Q:DQ} {n:Int} {x:Str} (k:Q (.d (.bool true)) n):gEq (.d (.str x)) (.d (.str x)) n Q:=by
 show Q (.d (.bool (decide (x=x)))) n;rw[decide_eq_true rfl];exact k
theorem jet {P:Ab->Prop} {l:List Ab} {x:Ab} (h:∀d∈l,P d) (hx:P x):∀d∈l++[x],P d:=λd hd=>(A8.mp hd).elim (h d) λz=>by rw[Bd.mp z];exact hx
theorem jr9 (s:String):Eg (Cg s)=true:=by
 rw[Str.ofString_eq_toList];unfold Eg;simp only[List.all_toArray,E4,Bt,Function.comp_apply,decide_eq_true_eq];intro c _;have:=c.valid;show c.val.toNat < 1114112;rcases this with h | h
 ·have:c.val.toNat < 55296:=h;omega
 ·exact h.2
theorem jcl {i:Int} (h:i.natAbs < 10 ^ 40):(Cg (toString i)).length<=60:=by
 rw[ofString_length];have:=int_text_length_le10 (a:=i) (k:=40) (by decide) h;omega
theorem jkf {i:Int} (h:i.natAbs < 10 ^ 40):i.natAbs.log2 < 1920:=by
 by_cases h0:i.natAbs=0
 ·rw[h0];decide
 ·exact(Nat.log2_lt h0).mpr (Nat.lt_trans h (by decide +kernel))
theorem jde {Q:DQ} {n:Int} {i j:List Ab} (h:i.length+j.length<=1000) (k:Q (.d (.tuple (i++j))) n):jbt (.d (.tuple i)) (.d (.tuple j)) n Q:=by
 cases i with
 |nil=>exact k
 |cons a r=>exact Af (.inl (λz=>nomatch z)) ⟨jrb h,k⟩
theorem jcm {ds:List Ab} {a b:Option Int} {x:Ab} (h:x∈cutD ds a b):x∈ds:=List.mem_of_mem_drop (Ez h)
theorem jnu (ds:List Ab) (j:Nat):(cutD ds none (some (j:Int))).length<=min j ds.length:=by
 unfold cutD;rw[HT.sIx_nat,HT.sIx_none,Dv];omega
theorem jsk (ds:List Ab) (j:Nat):(cutD ds (some (j:Int)) none).length<=ds.length - j:=by
 unfold cutD;rw[HT.sIx_nat,HT.sIx_none,Dv];omega
theorem j2u (ds:List Ab) (j:Nat):(cutD ds (some (j:Int)) (some ((j:Int)+1))).length<=1:=by
 unfold cutD;rw[show((j:Int)+1)=((j+1:Nat):Int) by omega,HT.sIx_nat,HT.sIx_nat,Dv];omega
theorem jjl (ds:List Ab) (j:Nat):(cutD ds (some ((j:Int)+1)) none).length<=ds.length - (j+1):=by
 rw[show((j:Int)+1)=((j+1:Nat):Int) by omega];exact jsk ds (j+1)
section
variable {δ:Sl} {n:Int} {Q:DQ} {ds:List Ab} {j:Int}
theorem jp3 {a b c d:DT} {Q:List Ab->Int->Prop} (k:a δ n λx n1=>b δ n1 λy n2=>c δ n2 λz n3=>d δ n3 λu n4=>match jba [x,y,z,u]with
  |some ds=>ds.length<=1000/\Q ds n4
  |none=>False):fLst (jaa a (jaa b (jaa c (jaa d aNil)))) δ n Q:=k
theorem j19 {a b:DT} {Q:List Ab->Int->Prop} (k:a δ n λx n1=>b δ n1 λy n2=>match jba [x,y]with
  |some ds=>ds.length<=1000/\Q ds n2
  |none=>False):fLst (jaa a (jaa b aNil)) δ n Q:=k
theorem jm5 {w:DT} (k:w δ n λx n1=>match jba [x]with
  |some ds=>ds.length<=1000/\Q (.d (.tuple ds)) n1
  |none=>False):wTup (jaa w aNil) δ n Q:=k
theorem j0f {i:Nat} (e:δ[i]?=some (some (.w (.d (.tuple ds))))) (k:Q (.d (.tuple ds.reverse)) n):wRev (wVar i) δ n Q:=by
 unfold wRev;exact jab e k
theorem juv {i:Nat} (e:δ[i]?=some (some (.w (.d (.tuple ds))))) (k:Q (.d (.list ds)) n):wB ji3 (jaa (wVar i) aNil) δ n Q:=b1_i (jab e k)
end
theorem jiw:∀ws n Q,jdm ws n Q->ws.length=1:=λws n Q h=>by obtain⟨rfl,_⟩:=h;rfl
abbrev Ze:List Str:=["_law_tape_here"]
theorem jhy:∀ws n Q,jdm ws n Q->jga (jam Ze ws) n {nx:=λ_ n=>Q (.d .none) n,rt:=Q}:=λws n Q h=>by
 obtain⟨rfl,hn,k⟩:=h;show jga [some (.w .tp)] n _;refine jal (w2_i (of_i (Af (by decide) ?_)));dsimp only;refine jd5 (m:=8) rfl (by omega) (by decide) (by decide) λr h0 h1=>jb5 (ds:=[.str "a",.int 0,.str "a",.int 1,.str "ab",.str "go",.int 99,.int 0]) h0 h1 λd hd=>k d ?_;simp only[Am,Ar,or_false]at hd;rcases hd with rfl | rfl | rfl | rfl | rfl | rfl | rfl | rfl<;>simp[jtr]
theorem jkl:∀ws n Q,jie ws n Q->ws.length=1:=λws n Q h=>by obtain⟨rfl,_⟩:=h;rfl
theorem ji9:∀ws n Q,jie ws n Q->jia (jam Ze ws) n {nx:=λ_ n=>Q (.d .none) n,rt:=Q}:=λws n Q h=>by
 obtain⟨rfl,hn,k⟩:=h;show jia [some (.w .tp)] n _;refine jal (w2_i (of_i (Af (by decide) ?_)));dsimp only;refine jd5 (m:=7) rfl (by omega) (by decide) (by decide) λr h0 h1=>jb5 (ds:=[.int 1,.int 2,.int 2,.int 2,.int 1,.int 3,.int 4]) h0 h1 λd hd=>?_;simp only[Am,Ar,or_false]at hd;rcases hd with rfl | rfl | rfl | rfl | rfl | rfl | rfl
 ·exact k 1 (by decide) (by decide)
 ·exact k 2 (by decide) (by decide)
 ·exact k 2 (by decide) (by decide)
 ·exact k 2 (by decide) (by decide)
 ·exact k 1 (by decide) (by decide)
 ·exact k 3 (by decide) (by decide)
 ·exact k 4 (by decide) (by decide)
theorem j0d {δ:Sl} {n:Int} {K:DEnds} {W:DST} {g:DTG} (e:δ[0]?=some (some (.w .tp))) (hn:n < 2 ^ 39) (k:∀m:Nat,1<=m->m<=4->forD g W K (rngD 0 m) δ (n+1)):sFor (ja1 (jad jie (jaa (wVar 0) aNil))) g W δ n K:=by
 unfold sFor ja1;refine c1_i (jab e (Af rfl ⟨hn,λm h1 h4=>?_⟩));refine Af ⟨by omega,by omega⟩ ?_;rw[Bz];exact k m h1 h4
theorem jnx {c:DTT} {w:DT} {Q:List Ab->Int->Prop} {rest:Sl} (g:Fe->Option Ab) (hno:∀(f:Fe) (n:Int) (Q':Bool->Int->Prop),g f=none->Q' false n->c (some (.w (.d f.d))::rest) n Q')
  (hyes:∀(f:Fe) (n:Int) (Q':Bool->Int->Prop) (y:Ab),g f=some y->Q' true n->c (some (.w (.d f.d))::rest) n Q') (hw:∀(f:Fe) (n:Int) (Q':DQ) (y:Ab),g f=some y->Q' (.d y) n->w (some (.w (.d f.d))::rest) n Q') :
  ∀(fs:List Fe) (acc:List Ab) (x:Option SV) (n:Int),Q (acc++fs.filterMap g) n->jbe (jac 0) c w Q (fs.map Fe.d) acc (x::rest) n
 |[],acc,x,n,q=>by
  rw[List.filterMap_nil,Bu]at q;exact q
 |f::r,acc,x,n,q=>by
  rw[Bi];simp only[jbe,jac,Bp];cases e:g f with
  |none =>
   refine hno f n _ e ?_;rw[if_neg An];refine jnx g hno hyes hw r acc _ n ?_;rw[List.filterMap_cons_none e]at q;exact q
  |some y =>
   refine hyes f n _ y e ?_;rw[if_pos rfl];refine hw f n _ y e ?_;refine jnx g hno hyes hw r (acc++[y]) _ n ?_;rw[List.filterMap_cons_some e]at q;rw[Bo];exact q
def strO (o:Option Str):Option Ab:=o.map .str
theorem jty (g:Fe->Option Str) (fs:List Fe):fs.filterMap (λf=>strO (g f))=(fs.filterMap g).map .str:=by
 rw[List.map_filterMap];rfl
theorem j4s (f:Fe):jcw "bind" (.str f.hd)=f.bd.isSome:=by
 cases f with
 |any=>exact(show jcw "bind" (.str "any")=false by decide +kernel)
 |word=>exact(show jcw "bind" (.str "word")=false by decide +kernel)
 |num=>exact(show jcw "bind" (.str "number")=false by decide +kernel)
 |isv _=>exact(show jcw "bind" (.str "is")=false by decide +kernel)
 |bind _=>exact(show jcw "bind" (.str "bind")=true by decide +kernel)
 |as _=>exact(show jcw "bind" (.str "as")=false by decide +kernel)
 |nx _=>exact(show jcw "bind" (.str "next")=false by decide +kernel)
theorem j4r {f:Fe} {k:Str} (h:f.bd=some k):f.d=.tuple [.str f.hd,.str k]:=by
 cases f<;>cases h;rfl
theorem jln {o:Option Str} {y:Ab} (h:strO o=some y):∃k,o=some k/\y=.str k:=by
 cases o with
 |none=>cases h
 |some k=>cases h;exact⟨k,rfl,rfl⟩
theorem jq3 {o:Option Str} (h:strO o=none):o=none:=by
 cases o with
 |none=>rfl
 |some k=>cases h
theorem jsa {fs:List Fe} (h:okFs fs):∀k∈bndE fs,okK k:=λk hk=>by
 obtain⟨f,hf,e⟩:=List.mem_filterMap.mp hk;have:=h.2 f hf;cases f<;>cases e;exact this
theorem jkg {fs:List Fe} (h:okFs fs):(bndE fs).length<=4:=A9 (List.length_filterMap_le _ _) h.1
theorem j1o {δ:Sl} {n:Int} {Q:DQ} {a b:Ab} (e:δ[0]?=some (some (.w (.d (.tuple [a,b]))))) (k:Q (.d b) n):w2 (wVar 0) (wC (.int 1)) gIx δ n Q:=jgv (r:=[]) e k
theorem jwn {f:Fe} {rest:Sl} {n:Int} {Q':Bool->Int->Prop} (k:Q' f.bd.isSome n):cT (w2 (w2 (wVar 0) (wC (.int 0)) gIx) (wC (.str "bind")) gEq) (some (.w (.d f.d))::rest) n Q':=by
 refine j33 (i:=0) (a:=.str f.hd) (r:=f.tl) rfl ?_;show Q' (jcw "bind" (.str f.hd)) n;rw[j4s];exact k
theorem jjp {Q:List Ab->Int->Prop} (fs:List Fe) (n:Int) (k:Q ((bndE fs).map .str) n) :
  jbe (jac 0) (cT (w2 (w2 (wVar 0) (wC (.int 0)) gIx) (wC (.str "bind")) gEq)) (w2 (wVar 0) (wC (.int 1)) gIx) Q (fs.map Fe.d) [] [none] n:=by
 refine jnx (λf=>strO f.bd) (λf n Q' e q=>jwn ?_) (λf n Q' y e q=>jwn ?_) (λf n Q' y e q=>?_) fs [] none n ?_
 ·rw[jq3 e];exact q
 ·obtain⟨x,e1,_⟩:=jln e;rw[e1];exact q
 ·obtain⟨x,e1,rfl⟩:=jln e;exact j1o (by rw[j4r e1];rfl) q
 ·rw[jty];exact k
theorem j1q {δ:Sl} {n:Int} {hs:List Str} {w:DT} {s:Str} {b:Bool} {Q:Bool->Int->Prop} (hw:∀Q:DQ,Q (.d (.str s)) n->w δ n Q) (e:inD (.str s) (hs.map .str)=b) (q:Q b n):cT (wInG hs w) δ n Q:=hw _ (Af rfl (by show Q (inD (.str s) (hs.map .str)) n;rw[e];exact q))
theorem jy7 {a:Ac} (h:okFs a.fs):(∀k∈a.bs,okK k)/\a.bs.length<=4:=by
 cases a with
 |take fs=>exact⟨jsa h,jkg h⟩
 |read fs=>exact⟨jsa h,jkg h⟩
 |look fs b=>exact⟨jsa h,jkg h⟩
 |lay fs b=>exact⟨λk hk=>by simp[Ac.bs]at hk,by simp[Ac.bs]⟩
 |same f g b=>exact⟨λk hk=>by simp[Ac.bs]at hk,by simp[Ac.bs]⟩
 |go b=>exact⟨λk hk=>by simp[Ac.bs]at hk,by simp[Ac.bs]⟩
theorem jhf:∀{ys ks:List Str},ys.Nodup->(∀k∈ys,k∈ks)->ys.length<=ks.length
 |[],_,_,_=>A3 _
 |y::ys,ks,h,hs=>by
  obtain⟨h1,h2⟩:=Fp.mp h;have hm:=hs y Au;have:=jhf (ks:=ks.erase y) h2 λk hk=>(List.mem_erase_of_ne (λ(e:k=y)=>h1 (e▸hk))).mpr (hs k (Aw _ hk));rw[List.length_erase_of_mem hm]at this;have:=List.length_pos_of_mem hm;rw[A1];omega
structure KnI (w:List Str) (dn:List Ac) (L:List Str):Prop where
 mem:∀k,k∈L↔k∈w++dn.flatMap Ac.bs
 len:L.length<=4+4*dn.length
 ok:∀k∈L,okK k
theorem KnI.first {w:List Str} (h:w.length<=4) (ok:∀k∈w,okK k):KnI w [] w:=⟨λk=>by simp,by simpa using h,ok⟩
theorem KnI.skip {w L:List Str} {dn:List Ac} {a:Ac} (I:KnI w dn L) (e:a.bs=[]):KnI w (dn++[a]) L :=
 ⟨λk=>by rw[I.mem k,List.flatMap_append];simp[e],by rw[Ap,A2];have:=I.len;omega,I.ok⟩
theorem KnI.more {w L ys:List Str} {dn:List Ac} {a:Ac} (I:KnI w dn L) (h:∀k,k∈ys↔k∈a.bs) (hl:ys.length<=4) (ok:okFs a.fs):KnI w (dn++[a]) (L++ys) :=
 ⟨λk=>by rw[A8,I.mem k,h k,List.flatMap_append,<-Bo];simp[or_assoc],by rw[Ap,Ap,A2];have:=I.len;omega,λk hk=>by
  rcases A8.mp hk with z | z
  ·exact I.ok k z
  ·exact(jy7 ok).1 k ((h k).mp z)⟩
theorem jlb {v:Ab} (h:v∈jtr):isV v=true:=by
 simp only[jtr,Am,Ar,or_false]at h;rcases h with rfl | rfl | rfl | rfl | rfl | rfl<;>decide +kernel
theorem j4n {v:Wv} {a b:List Ab} {n:Int} {Q:DQ} (hv:lsOf v=some a) (hl:a.length+b.length<=Ay) (q:Q (.d (.list (a++b))) n):gCat v (.ln b) n Q:=by
 unfold gCat;rw[hv];exact⟨hl,q⟩
theorem j4t {δ:Sl} {n:Int} {Q:DQ} (e0:δ[0]?=some (some (.w .tp))) (h:n < 2 ^ 39) (k:∀v∈jk4,Q (.d v) (n+1)):w2 (wTp3 0) (jad jak (jaa (wVar 0) (jaa (wB jfn (jaa (wTp3 0) aNil)) aNil))) gIxL δ n Q:=by
 have ht:∀(n:Int) (Q:DQ),Q (.ln jk4) n->wTp3 0 δ n Q:=λn Q q=>by unfold wTp3;rw[e0];exact q
 exact w2_i (ht _ _ (ja6 (m:=7) e0 (λQ q=>b1_i (ht _ _ q)) (by omega) (by decide) (by decide) λr h0 h1=>jnv h0 h1 k))
theorem jvj (f:Fe) (r:List Fe):bndE (f::r)=f.bd.toList++bndE r:=by cases f<;>rfl
theorem jvi (fs:List Fe) (f:Fe):bndE (fs++[f])=bndE fs++f.bd.toList:=by
 unfold bndE;rw[List.filterMap_append];cases f<;>rfl
theorem jnn:∀{fs:List Fe} {ks:List Str} {f:Fe},rF ks fs->(∀k,f.us=some k->k∈ks++bndE fs)->rF ks (fs++[f])
 |[],ks,f,_,h=>⟨λk hk=>by simpa[bndE]using h k hk,trivial⟩
 |g::r,ks,f,h1,h2=>⟨h1.1,jnn h1.2 λk hk=>by
  have:=h2 k hk;rw[jvj,<-Bo]at this;exact this⟩
theorem jkd {f:Ab} {ks:List Str} (h:f∈ks.map .str):∃s∈ks,f=.str s:=by
 obtain⟨s,hs,rfl⟩:=Ce.mp h;exact⟨s,hs,rfl⟩
def PatI (kv:Wv) (ks:List Str) (n0:Int) (ds:List Ab) (δ:Sl) (n:Int):Prop:=∃(fs:List Fe) (x y z u:Option SV),δ=[some (.w .tp),some (.w kv),some (.own (fs.map Fe.d)),some (.own ((bndE fs).map .str)),x,y,z,u]/\1<=fs.length+ds.length/\fs.length+ds.length<=4/\(∀f∈fs,f.ok/\f.pt=true)/\rF ks fs/\n+2*(ds.length:Int)<=n0+9
theorem jgt:∀ws n Q,jo8 ws n Q->ws.length=2:=λws n Q h=>by obtain⟨_,_,rfl,_⟩:=h;rfl
theorem jft:∀ws n Q,jo8 ws n Q->jd8 (jam ["_law_tape_here","_law_known_here","_law_fields","_law_bound","_law_k","_law_way","_law_some","_law_name"] ws) n {nx:=λ_ n=>Q (.d .none) n,rt:=Q}:=λws n0 Q h=>by
 obtain⟨ks,kv,rfl,hkv,hks,hok,hn0,k⟩:=h;show jd8 [some (.w .tp),some (.w kv),none,none,none,none,none,none] n0 _;refine jae (jef ?_);dsimp only[A0];refine jae (jef ?_);dsimp only[A0];refine jae (j0d rfl (by omega) λm h1 h4=>?_);refine jbh (PatI kv ks n0) (λδ n I=>?_) (λd r δ n N I kN=>?_) _ _ _ ⟨[],none,none,none,none,rfl,by rw[ja9];simpa using h1,by rw[ja9];simpa using h4,λf hf=>(by simp at hf),trivial,by rw[ja9];omega⟩
 ·obtain⟨fs,x,y,z,u,rfl,hf1,hf,hfo,hr,hn⟩:=I;dsimp only;refine jhn rfl ?_;dsimp only[A0];refine jhn rfl ?_;dsimp only[A0];exact jal (ja8 (b1_i (jab rfl (jg5 (jab rfl (Af (show 2<=1000 by decide) (k fs n (by simpa using hf1) ⟨by simpa using hf,λf z=>(hfo f z).1⟩ (λf z=>(hfo f z).2) hr (by simpa using hn))))))))
 ·obtain⟨fs,x,y,z,u,rfl,hf1,hf,hfo,hr,hn⟩:=I;rw[A1]at hf1 hf hn;dsimp only[jac,A0];have hfl:(fs.map Fe.d).length < 1000000:=by rw[Ae];omega
  have hbl:(bndE fs).length<=4:=A9 (List.length_filterMap_le _ _) (by omega);have hbo:∀s∈ks++bndE fs,okK s:=λs hs=>(A8.mp hs).elim (hok s) λz=>jsa (fs:=fs) ⟨by omega,λf z=>(hfo f z).1⟩ s z;have nxt:∀(f:Fe) (n':Int) (y z u:Option SV) (B:List Ab),f.ok/\f.pt=true->(∀k,f.us=some k->k∈ks++bndE fs)->n'<=n+2->B=(bndE fs).map .str++f.bd.toList.map .str->N [some (.w .tp),some (.w kv),some (.own (fs.map Fe.d++[f.d])),some (.own B),some (.w (.d d)),y,z,u] n':=λf n' y z u B fo fu hn' hB =>
   kN _ _ ⟨fs++[f],some (.w (.d d)),y,z,u,by rw[hB,Cc,jvi,Cc];rfl,by rw[Ap,A2];omega,by rw[Ap,A2];omega,λg hg=>(A8.mp hg).elim (hfo g) λz=>by rw[Bd]at z;subst z;exact fo,jnn hr fu,by omega⟩
  have nxtN:∀(f:Fe) (n':Int) (y z u:Option SV),f.bd=none->f.ok/\f.pt=true->(∀k,f.us=some k->k∈ks++bndE fs)->n'<=n+2->N [some (.w .tp),some (.w kv),some (.own (fs.map Fe.d++[f.d])),some (.own ((bndE fs).map .str)),some (.w (.d d)),y,z,u] n':=λf n' y z u fb fo fu hn' =>
   nxt f n' y z u _ fo fu hn' (by rw[fb];exact(Bu _).symm)
  refine jae (jlw (m:=9) rfl (by omega) (by decide) (by decide) λw w0 w1=>?_);dsimp only[A0];refine jae (jlx (x:=.list (ks.map .str++(bndE fs).map .str)) (λQ q=>w2_i (jab rfl (jl7 rfl (j4n hkv (jg1 (by rw[Ae];omega) (by rw[Ae];omega)) q)))) ?_);dsimp only[A0];refine iflt rfl (λhw=>?_) (λhw=>?_)
  ·refine jk3 rfl (ja8 (c_i (c1_i (jab rfl (Af rfl ⟨by omega,λv hv=>?_⟩)))));exact Af (show 2<=1000 by decide) (Af hfl (nxtN (.isv v) _ _ _ _ rfl ⟨jlb hv,rfl⟩ (λk hk=>by cases hk) (by omega)))
  ·refine iflt rfl (λhw6=>?_) (λhw6=>?_)
   ·refine jk3 rfl (w2_i (of_i (Af (by decide) (Af (by decide) (Af (by decide) (Af (by decide) ?_))))));dsimp only;refine w2_i (jab rfl (c_i ?_));dsimp only[gI0];refine jbq (ds:=[.tuple [.str "any"],.tuple [.str "word"],.tuple [.str "number"]]) (r:=w - 3) (by omega) (show w - 3 < 3 by omega) λf hf'=>?_;simp only[Am,Ar,or_false]at hf';rcases hf' with rfl | rfl | rfl
    ·exact Af hfl (nxtN .any _ _ _ _ rfl ⟨trivial,rfl⟩ (λk hk=>by cases hk) (by omega))
    ·exact Af hfl (nxtN .word _ _ _ _ rfl ⟨trivial,rfl⟩ (λk hk=>by cases hk) (by omega))
    ·exact Af hfl (nxtN .num _ _ _ _ rfl ⟨trivial,rfl⟩ (λk hk=>by cases hk) (by omega))
   ·have bind:∀(K:DEnds) (L:List Ab),(∀δ n,N δ n->K.nx δ n)->sSeq (sSet 7 (w2 (wOf (fLst (jaa (wC (.str "n")) (jaa (wC (.str "nm")) (jaa (wC (.str "go")) (jaa (wC (.str "m")) (jaa (wC (.str "x")) (jaa (wC (.str "nn")) aNil)))))))) (jad jak (jaa (wVar 0) (jaa (wC (.int (6))) aNil))) gIxL)) (sSeq (sApp 3 (wVar 7)) (sApp 2 (wTup (jaa (wC (.str "bind")) (jaa (wVar 7) aNil)))))
      [some (.w .tp),some (.w kv),some (.own (fs.map Fe.d)),some (.own ((bndE fs).map .str)),some (.w (.d d)),some (.w (.d (.int w))),some (.w (.d (.list L))),u] (n+1) K:=λK L hK=>by
     refine jae (show w2 _ _ _ _ _ _ from w2_i (of_i (Af (by decide) ?_)));dsimp only;refine jd5 (m:=6) rfl (by omega) (by decide) (by decide) λr r0 r1=>jbq (ds:=[.str "n",.str "nm",.str "go",.str "m",.str "x",.str "nn"]) r0 r1 λf hf'=>?_;have:∃s:Str,f=.str s/\okK s:=by
      simp only[Am,Ar,or_false]at hf';rcases hf' with rfl | rfl | rfl | rfl | rfl | rfl<;>exact⟨_,rfl,by decide +kernel,by decide +kernel⟩
     obtain⟨s,rfl,so⟩:=this;dsimp only[A0];refine jae (jvk rfl (λQ q=>jab rfl q) (by rw[Ae];omega) ?_);dsimp only[A0];refine jvk (x:=.tuple [.str "bind",.str s]) rfl (λQ q=>ja8 (c_i (jab rfl (Af (show 2<=1000 by decide) q)))) hfl (hK _ _ ?_);exact nxt (.bind s) (n+1+1) _ _ _ _ ⟨so,rfl⟩ (λk hk=>by cases hk) (by omega) rfl
    by_cases hw8:w < 8
    ·refine if_y (λQ q=>jy0 (λQ q=>ct_b (k:=true) (λQ q=>w2_i (jab rfl (c_i ?_))) q) q) (bind _ _ λ_ _ z=>z);show Q (.d (.bool (decide (w < 8)))) _;rw[decide_eq_true hw8];exact q
    ·have hmem:∀f∈ks.map C4++(bndE fs).map C4,∃s∈ks++bndE fs,f=.str s:=λf hf=>jkd (by rw[Cc];exact hf);have hlen:(ks.map C4++(bndE fs).map C4).length<=2000:=by rw[Ap,Ae,Ae];omega
     generalize(ks.map C4++(bndE fs).map C4)=L at hmem hlen;cases L with
     |nil =>
      refine if_y (λQ q=>js3 (λQ q=>ct_b (k:=false) (λQ q=>w2_i (jab rfl (c_i ?_))) q) (ct_b (k:=true) (λQ q=>w2_i (jab rfl (of_i (Af (A3 _) q)))) q)) (bind _ _ λ_ _ z=>z);show Q (.d (.bool (decide (w < 8)))) _;rw[decide_eq_false hw8];exact q
     |cons a l =>
      refine if_n (λQ q=>js3 (λQ q=>ct_b (k:=false) (λQ q=>w2_i (jab rfl (c_i ?_))) q) (ct_b (k:=false) (λQ q=>w2_i (jab rfl (of_i (Af (A3 _) q)))) q)) ?_
      ·show Q (.d (.bool (decide (w < 8)))) _;rw[decide_eq_false hw8];exact q
      ·refine jk3 rfl (ja8 (c_i (w2_i (jab rfl ?_))));refine ja6 (m:=(a::l).length) rfl (λQ q=>b1_i (jab rfl q)) (by omega) (by rw[A1];omega) (by omega) λr r0 r1=>jbq r0 r1 λf hf'=>?_;obtain⟨s,hs,rfl⟩:=hmem f hf';exact Af (show 2<=1000 by decide) (Af hfl (nxtN (.as s) _ _ _ _ rfl ⟨hbo s hs,rfl⟩ (λk hk=>by cases hk;exact hs) (by omega)))
theorem jwr {v:Ab} (h:v∈jk4):juq v:=by
 simp only[jk4,Am,Ar,or_false]at h;rcases h with rfl | rfl | rfl | rfl | rfl | rfl | rfl<;>first | exact .inl rfl | exact .inr ⟨_,rfl,by decide,by decide⟩
theorem jmd:∀ws n Q,jqd ws n Q->ws.length=1:=λws n Q h=>by obtain⟨rfl,_⟩:=h;rfl
theorem jk1:∀ws n Q,jqd ws n Q->jjv (jam Ze ws) n {nx:=λ_ n=>Q (.d .none) n,rt:=Q}:=λws n Q h=>by
 obtain⟨rfl,hn,k⟩:=h;show jjv [some (.w .tp)] n _;exact jal (j4t rfl hn k)
theorem j2m {δ:Sl} {n:Int} {Q:DQ} (e0:δ[0]?=some (some (.w .tp))) (h:n < 2 ^ 39) (k:∀v∈jk4,Q (.d v) (n+1)):jad jqd (jaa (wVar 0) aNil) δ n Q:=c1_i (jab e0 ⟨rfl,h,k⟩)
def TemI (ks:List Str) (n0:Int) (ds:List Ab) (δ:Sl) (n:Int):Prop:=∃(fs:List Fe) (x y:Option SV),δ=[some (.w .tp),some (.w (.ln (ks.map .str))),some (.own (fs.map Fe.d)),x,y]/\fs.length+ds.length<=4/\1<=fs.length+ds.length/\(∀f∈fs,f.ok/\f.tm=true)/\rF ks fs/\n+2*(ds.length:Int)<=n0+9
theorem jfg:∀ws n Q,jo7 ws n Q->ws.length=2:=λws n Q h=>by obtain⟨_,rfl,_⟩:=h;rfl
theorem je3:∀ws n Q,jo7 ws n Q->jdg (jam ["_law_tape_here","_law_known_here","_law_fields","_law_k","_law_way"] ws) n {nx:=λ_ n=>Q (.d .none) n,rt:=Q}:=λws n0 Q h=>by
 obtain⟨ks,rfl,hks,hok,hn0,k⟩:=h;show jdg [some (.w .tp),some (.w (.ln (ks.map .str))),none,none,none] n0 _;refine jae (jef ?_);dsimp only[A0];refine jae (j0d rfl (by omega) λm h1 h4=>?_);refine jbh (TemI ks n0) (λδ n I=>?_) (λd r δ n N I kN=>?_) _ _ _ ⟨[],none,none,rfl,by rw[ja9];simpa using h4,by rw[ja9];simpa using h1,λf hf=>(by simp at hf),trivial,by rw[ja9];omega⟩
 ·obtain⟨fs,x,y,rfl,hf,hf1,hfo,hr,hn⟩:=I;dsimp only;refine jhn rfl ?_;dsimp only[A0];exact jal (b1_i (jab rfl (jg5 (k fs n (by simpa using hf1) ⟨by simpa using hf,λf z=>(hfo f z).1⟩ (λf z=>(hfo f z).2) hr (by simpa using hn)))))
 ·obtain⟨fs,x,y,rfl,hf,hf1,hfo,hr,hn⟩:=I;rw[A1]at hf hf1 hn;dsimp only[jac,A0];have hfl:(fs.map Fe.d).length < 1000000:=by rw[Ae];omega
  have nxt:∀(f:Fe) (n':Int) (y:Option SV),f.ok/\f.tm=true->(∀k,f.us=some k->k∈ks)->n'<=n+2->N [some (.w .tp),some (.w (.ln (ks.map .str))),some (.own (fs.map Fe.d++[f.d])),some (.w (.d d)),y] n':=λf n' y fo fu hn' =>
   kN _ _ ⟨fs++[f],some (.w (.d d)),y,by rw[Cc];rfl,by rw[Ap,A2];omega,by rw[Ap,A2];omega,λg hg=>(A8.mp hg).elim (hfo g) λz=>by rw[Bd]at z;subst z;exact fo,jnn hr λk hk=>D3 _ (fu k hk),by omega⟩
  refine jae (jlw (m:=6) rfl (by omega) (by decide) (by decide) λw w0 w1=>?_);dsimp only[A0];have isv:∀K:DEnds,(∀δ n,N δ n->K.nx δ n)->sApp 2 (wTup (jaa (wC (.str "is")) (jaa (jad jdm (jaa (wVar 0) aNil)) aNil))) [some (.w .tp),some (.w (.ln (ks.map .str))),some (.own (fs.map Fe.d)),some (.w (.d d)),some (.w (.d (.int w)))] (n+1) K:=λK hK =>
   jk3 rfl (ja8 (c_i (c1_i (jab rfl (Af rfl ⟨by omega,λv hv=>Af (show 2<=1000 by decide) (Af hfl (hK _ _ (nxt (.isv v) _ _ ⟨jlb hv,rfl⟩ (λk hk=>by cases hk) (by omega))))⟩)))))
  by_cases hw3:w < 3
  ·refine if_y (λQ q=>jy0 (λQ q=>ct_b (k:=true) (λQ q=>w2_i (jab rfl (c_i ?_))) q) q) (isv _ λ_ _ z=>z);show Q (.d (.bool (decide (w < 3)))) _;rw[decide_eq_true hw3];exact q
  ·have ct3:∀Q:DQ,Q (.d (.bool false)) (n+1)->w2 (wVar 4) (wC (.int 3)) gLt [some (.w .tp),some (.w (.ln (ks.map .str))),some (.own (fs.map Fe.d)),some (.w (.d d)),some (.w (.d (.int w)))] (n+1) Q:=λQ q=>w2_i (jab rfl (c_i (by
    show Q (.d (.bool (decide (w < 3)))) _;rw[decide_eq_false hw3];exact q)))
   cases ks with
   |nil=>exact if_y (λQ q=>js3 (λQ q=>ct_b (k:=false) ct3 q) (ct_b (k:=true) (λQ q=>w2_i (jab rfl (jc9 (eqLn q)))) q)) (isv _ λ_ _ z=>z)
   |cons a l =>
    refine if_n (λQ q=>js3 (λQ q=>ct_b (k:=false) ct3 q) (ct_b (k:=false) (λQ q=>w2_i (jab rfl (jc9 (eqLn q)))) q)) ?_;refine jk3 rfl (ja8 (w2_i (of_i (Af (by decide) ?_))));dsimp only;refine w2_i (jab rfl (c_i ?_));dsimp only[gI0];refine jbq (ds:=[.str "as",.str "as",.str "next"]) (r:=w - 3) (by omega) (show w - 3 < 3 by omega) λf hf'=>?_;refine w2_i (jab rfl ?_);have hl:((a::l).map C4).length<=1000:=by rw[Ae];exact hks
    refine ja6 (m:=((a::l).map C4).length) rfl (λQ q=>b1_i (jab rfl q)) (by omega) (by rw[Ae,A1];omega) (by omega) λr r0 r1=>jnv r0 r1 λf' hf''=>?_;obtain⟨s,hs,rfl⟩:=jkd hf'';simp only[Am,Ar,or_false]at hf';rcases hf' with rfl | rfl | rfl
    ·exact Af (show 2<=1000 by decide) (Af hfl (nxt (.as s) _ _ ⟨hok s hs,rfl⟩ (λk hk=>by cases hk;exact hs) (by omega)))
    ·exact Af (show 2<=1000 by decide) (Af hfl (nxt (.as s) _ _ ⟨hok s hs,rfl⟩ (λk hk=>by cases hk;exact hs) (by omega)))
    ·exact Af (show 2<=1000 by decide) (Af hfl (nxt (.nx s) _ _ ⟨hok s hs,rfl⟩ (λk hk=>by cases hk;exact hs) (by omega)))
theorem jkk:∀ws n Q,jif ws n Q->ws.length=2:=λws n Q h=>by obtain⟨_,rfl,_⟩:=h;rfl
abbrev Zf:List Str:=["_law_tape_here","_law_known_here"]
theorem ji8:∀ws n Q,jif ws n Q->jh9 (jam Zf ws) n {nx:=λ_ n=>Q (.d .none) n,rt:=Q}:=λws n Q h=>by
 obtain⟨ks,rfl,hks,hok,hn0,k⟩:=h;show jh9 [some (.w .tp),some (.w (.ln (ks.map .str)))] n _;have isv:∀n',n'<=n+1->sRet (wTup (jaa (wC (.str "is")) (jaa (jad jdm (jaa (wVar 0) aNil)) aNil))) [some (.w .tp),some (.w (.ln (ks.map .str)))] n' {nx:=λ_ n=>Q (.d .none) n,rt:=Q}:=λn' hn' =>
  jal (ja8 (c_i (c1_i (jab rfl (Af rfl ⟨by omega,λv hv=>Af (show 2<=1000 by decide) (k (.isv v) _ (jlb hv) rfl (λk hk=>by cases hk) (by omega))⟩)))))
 cases ks with
 |nil=>exact jae (if_y (λQ q=>jy0 (λQ q=>ct_b (k:=true) (λQ q=>w2_i (jab rfl (jc9 (eqLn q)))) q) q) (isv n (by omega)))
 |cons a l =>
  refine jae (if_i (js3 (λQ q=>ct_b (k:=false) (λQ q=>w2_i (jab rfl (jc9 (eqLn q)))) q) ?_));refine w2_i (jd5 (m:=2) rfl (by omega) (by decide) (by decide) λr r0 r1=>c_i (eqLi ?_));show if decide (r=0)=true then _ else _
  by_cases h:r=0
  ·rw[if_pos (decide_eq_true h)];exact isv (n+1) (by omega)
  ·rw[if_neg (by simpa using h)];dsimp only[jai];refine jal (ja8 (c_i (w2_i (jab rfl ?_))));have hl:((a::l).map C4).length<=1000:=by rw[Ae];exact hks
   refine ja6 (m:=((a::l).map C4).length) rfl (λQ q=>b1_i (jab rfl q)) (by omega) (by rw[Ae,A1];omega) (by omega) λr r0 r1=>jnv r0 r1 λf' hf''=>?_;obtain⟨s,hs,rfl⟩:=jkd hf'';exact Af (show 2<=1000 by decide) (k (.as s) _ (hok s hs) rfl (λk hk=>by cases hk;exact hs) (by omega))
theorem jme:∀ws n Q,jjy ws n Q->ws.length=3:=λws n Q h=>by obtain⟨_,_,_,rfl,_⟩:=h;rfl
theorem jk2:∀ws n Q,jjy ws n Q->jjw (jam ["_law_tape_here","_law_known_here","_law_open_ones","_law_way","_law_block","_law_pattern_here","_law_bound"] ws) n {nx:=λ_ n=>Q (.d .none) n,rt:=Q}:=λws n Q h=>by
 obtain⟨ks,os,wants,rfl,hks,hok,ho,ho',hop,hn0,k⟩:=h;show jjw [some (.w .tp),some (.w (.ln (ks.map .str))),some (.w (.d (.list (os.map λb=>.int (b:Nat))))),none,none,none,none] n _;refine jae (jlw (m:=12) rfl (by omega) (by decide) (by decide) λw w0 w1=>?_);dsimp only[A0];refine jae (iflt rfl (λhw=>?_) (λhw=>?_))
 ·refine jal (ja8 (jg6 (c_i (c2_i (jab rfl (jab rfl (C2 ks ⟨rfl,hks,hok,by omega,λfs n' hf1 hfs htm hrf hn'=>?_⟩)))))));refine j2m rfl (by omega) λv hv=>?_;exact Af (show 3<=1000 by decide) (jc9 (Af (show 2<=1000 by decide) (k (.lay fs v) _ ⟨hfs,htm,jwr hv,hf1⟩ ⟨hrf,λb hb=>by cases hb⟩ (by omega))))
 dsimp only[jai];refine jae (show sSet 4 _ _ _ _ from w2_i (jab rfl ?_));refine ja6 (m:=(os.map λb:Nat=>PyData.int (b:Nat)).length) rfl (λQ q=>b1_i (jab rfl q)) (by omega) (by rw[Ae];omega) (by rw[Ae];omega) λr r0 r1=>jbq r0 r1 λb hb=>?_;obtain⟨b,hbo,rfl⟩:=Ce.mp hb;have hto:=hop b hbo;dsimp only[A0];refine jae (ifeq rfl (λh10=>?_) (λh10=>?_))
 ·refine jal (ja8 (j2x (c_i (c2_i (jab rfl (jab rfl (C2 ks ⟨rfl,hks,hok,by omega,λf n' fo fb fu hn'=>?_⟩)))))));refine c2_i (jab rfl (jab rfl (C2 ks ⟨rfl,hks,hok,by omega,λg n'' go gb gu hn''=>?_⟩)));refine jab rfl (Af (show 4<=1000 by decide) (jc9 (Af (show 2<=1000 by decide) (k (.same f g b) _ ⟨⟨show 2<=4 by decide,λe he=>?_⟩,fb,gb⟩ ⟨⟨fu,λk hk=>D3 _ (gu k hk),trivial⟩,λb' hb'=>by cases hb';exact hto⟩ (by omega)))));simp only[Ac.fs,Am,Ar,or_false]at he;rcases he with rfl | rfl
  ·exact fo
  ·exact go
 dsimp only[jai];refine jae (ifeq rfl (λh11=>?_) (λh11=>?_))
 ·exact jal (ja8 (ja8 (c_i (jab rfl (Af (show 2<=1000 by decide) (jc9 (Af (show 2<=1000 by decide) (k (.go b) _ ⟨⟨show 0<=4 by decide,λe he=>by simp[Ac.fs]at he⟩,trivial⟩ ⟨trivial,λb' hb'=>by cases hb';exact hto⟩ (by omega)))))))))
 dsimp only[jai];refine jae ?_;unfold sUnp;refine c2_i (jab rfl (jab rfl (C2 ks ⟨.ln (ks.map .str),rfl,rfl,hks,hok,by omega,λfs n' hf1 hfs hpt hrf hn'=>?_⟩)));refine Af rfl ?_;dsimp only[jah,ja0,jac,A0];refine jae (ifgt rfl (λh7=>?_) (λh7=>?_))
 ·exact jal (ja8 (jg6 (c_i (jab rfl (jab rfl (Af (show 3<=1000 by decide) (jab rfl (Af (show 2<=1000 by decide) (k (.look fs b) _ ⟨hfs,hf1,hpt⟩ ⟨hrf,λb' hb'=>by cases hb';exact hto⟩ (by omega))))))))))
 dsimp only[jai];refine jal (ja8 (ja8 (w2_i (of_i (Af (by decide) ?_)))));dsimp only;refine w2_i (jab rfl (c_i ?_));dsimp only[gI0];refine jbq (ds:=[.str "take",.str "take",.str "take",.str "read"]) (r:=w - 4) (by omega) (show w - 4 < 4 by omega) λf hf'=>?_;simp only[Am,Ar,or_false]at hf';rcases hf' with rfl | rfl | rfl | rfl
 ·exact jab rfl (Af (show 2<=1000 by decide) (jab rfl (Af (show 2<=1000 by decide) (k (.take fs) _ ⟨hfs,hf1,hpt⟩ ⟨hrf,λb' hb'=>by cases hb'⟩ (by omega)))))
 ·exact jab rfl (Af (show 2<=1000 by decide) (jab rfl (Af (show 2<=1000 by decide) (k (.take fs) _ ⟨hfs,hf1,hpt⟩ ⟨hrf,λb' hb'=>by cases hb'⟩ (by omega)))))
 ·exact jab rfl (Af (show 2<=1000 by decide) (jab rfl (Af (show 2<=1000 by decide) (k (.take fs) _ ⟨hfs,hf1,hpt⟩ ⟨hrf,λb' hb'=>by cases hb'⟩ (by omega)))))
 ·exact jab rfl (Af (show 2<=1000 by decide) (jab rfl (Af (show 2<=1000 by decide) (k (.read fs) _ ⟨hfs,hf1,hpt⟩ ⟨hrf,λb' hb'=>by cases hb'⟩ (by omega)))))
def jgj:List (List Str):=[[],["n"],["go","n"],["nm"]]
theorem jkn (x:Str):∀hs:List Str,inD (.str x) (hs.map .str)=decide (x∈hs)
 |[]=>rfl
 |y::r=>by
  rw[Bi];show(eqF (.str y) (.str x) || inD (.str x) (r.map .str))=_;rw[jkn x r];show(decide (y=x) || decide (x∈r))=_;by_cases e:y=x
  ·subst e;simp
  ·have:¬x=y:=λz=>e z.symm;simp[e,this]
theorem jws {w:List Str} (h:w∈jgj):w.length<=4/\(∀k∈w,okK k)/\w.Nodup/\upT w:=by
 have key:∀w∈jgj,w.length<=4/\(∀k∈w,letB 4 (.str k)=true/\Eg k=true)/\w.Nodup/\w.Pairwise λa b=>¬b.cps.toList < a.cps.toList:=by decide +kernel
 exact key w h
theorem js5 {Q:List Ab->Int->Prop} {n:Int} (ss ks:List Str) (k:Q ((ss.map C4).filter λx=>!inD x (ks.map .str)) n) :
  jbe (jac 0) (cT (w2 (wVar 0) (wVar 1) (gInL true))) (wVar 0) Q (ss.map .str) [] [none,some (.w (.ln (ks.map .str)))] n:=by
 refine jb6 (λd=>∃s:Str,d=.str s) (λx=>!inD x (ks.map .str)) id (λd n Q' hd q=>?_) (λd n Q' hd q=>jab rfl q) _ [] none n (λd hd=>?_) ?_
 ·obtain⟨s,rfl⟩:=hd;exact ct_b (k:=!inD (.str s) (ks.map .str)) (λQ q=>w2_i (jab rfl (jab rfl (Af rfl ⟨jmh ks,q⟩)))) q
 ·obtain⟨s,_,rfl⟩:=Ce.mp hd;exact⟨s,rfl⟩
 ·rw[Ct,Eh];exact k
theorem juu (ss ks:List Str):((ss.map C4).filter λx=>!inD x (ks.map .str)).isEmpty=decide (∀k∈ss,k∈ks):=by
 rw[Fq,List.isEmpty_iff,List.filter_eq_nil_iff,decide_eq_true_iff]
 constructor
 ·intro h k hk;have:=h (.str k) (Ce.mpr ⟨k,hk,rfl⟩);rw[jkn]at this;simpa using this
 ·intro h d hd;obtain⟨k,hk,rfl⟩:=Ce.mp hd;rw[jkn,decide_eq_true (h k hk)];simp
def juo (ws:List (List Str)) (ks:List Str):Ab->Bool
 |.int j=>decide (∀k∈ws.getD j.toNat [],k∈ks)
 |_=>false
def jl3 (ws:List (List Str)) (ks:List Str):List Nat:=(B4 ws.length).filter λb=>decide (∀k∈ws.getD b [],k∈ks)
theorem jun (ws:List (List Str)) (ks:List Str):(rngD 0 ws.length).filter (juo ws ks)=(jl3 ws ks).map λb=>.int (b:Nat):=by
 unfold rngD jl3;rw[List.filter_map];have e:(λi:Nat=>PyData.int (0+(i:Int)))=λb=>.int (b:Nat):=funext λi=>by rw[Int.zero_add]
 rw[e];rfl
theorem js4 {Q:List Ab->Int->Prop} {n:Int} (ws:List (List Str)) (ks:List Str) (k:Q ((jl3 ws ks).map λb=>.int (b:Nat)) n) :
  jbe (jac 0) (cT (w2 (wOf (jat [none,some 1] (ja4 (w2 (wVar 2) (wVar 0) gIxL)) (jac 0) (cT (w2 (wVar 0) (wVar 1) (gInL true))) (wVar 0))) (wOf (fLst aNil)) gEqL)) (wVar 0) Q (rngD 0 ws.length) [] [none,some (.w (.ln (ks.map .str))),some (.w (.d (.list (ws.map jbl))))] n:=by
 refine jb6 (λd=>∃j:Nat,j < ws.length/\d=.int j) (juo ws ks) id (λd n Q' hd q=>?_) (λd n Q' hd q=>jab rfl q) _ [] none n (λd hd=>?_) ?_
 ·obtain⟨j,hj,rfl⟩:=hd;have hg:(ws.map jbl)[j]?=some (.tuple (ws[j].map .str)):=by rw[A7,Ag hj];rfl
  refine ct_b (k:=juo ws ks (.int j)) (λQ q=>w2_i (of_i (jek (ds:=ws[j].map .str) (λQ q=>w2_i (jab rfl (jab rfl ?_))) (js5 ws[j] ks (jc9 ?_))))) q
  ·show(match atI (ws.map jbl) (j:Int)with | some d=>Q (.d d) n | none=>False);rw[jbc hg];exact q
  ·have eo:juo ws ks (.int j)=((ws[j].map C4).filter λx=>!inD x (ks.map .str)).isEmpty:=by
    rw[juu];show decide (∀k∈ws.getD (j:Int).toNat [],k∈ks)=_;rw[Bz,List.getD_eq_getElem?_getD,Ag hj,Option.getD_some]
   rw[eo]at q;exact q
 ·unfold rngD at hd;obtain⟨j,hj,rfl⟩:=Ce.mp hd;exact⟨j,Dy.mp hj,by rw[Int.zero_add]⟩
 ·rw[Ct,Eh,jun];exact k
theorem jr0 {ws w0:List (List Str)} {ks:List Str} (h:ws=[]::w0):0 < (jl3 ws ks).length :=
 List.length_pos_of_mem (a:=0) (Ge.mpr ⟨Dy.mpr (by rw[h];simp),by subst h;simp⟩)
theorem jx6 {ws:List (List Str)} {ks:List Str} {b:Nat} (h:b∈jl3 ws ks):∃w,ws[b]?=some w/\∀k∈w,k∈ks:=by
 obtain⟨h1,h2⟩:=Ge.mp h;have hj:=Dy.mp h1;refine⟨ws[b],Ag hj,?_⟩;have:=of_decide_eq_true h2;rw[List.getD_eq_getElem?_getD,Ag hj,Option.getD_some]at this;exact this
theorem jrk:∀{fs:List Fe} {ks ks':List Str},(∀k∈ks,k∈ks')->rF ks fs->rF ks' fs
 |[],_,_,_,_=>trivial
 |f::r,ks,ks',h,z=>⟨λk hk=>h k (z.1 k hk),jrk (λk hk=>(A8.mp hk).elim (λq=>D3 _ (h k q)) λq=>Bb _ q) z.2⟩
theorem Ac.right_mono {ws:List (List Str)} {ks ks':List Str} {a:Ac} (h:∀k∈ks,k∈ks') (z:a.right ws ks):a.right ws ks' :=
 ⟨jrk h z.1,λb hb=>by obtain⟨w,h1,h2⟩:=z.2 b hb;exact⟨w,h1,λk hk=>h k (h2 k hk)⟩⟩
theorem jt9 {ws:List (List Str)} {w ks:List Str} {as:List Ac} {a:Ac} (h:riB ws (w,as)) (hk:∀k∈ks,k∈w++as.flatMap Ac.bs) (ha:a.right ws ks):riB ws (w,as++[a]):=λp b hb=>by
 dsimp only at hb ⊢;by_cases hp:p < as.length
 ·rw[E9 hp]at hb;have:=h p b hb;unfold kn at this ⊢;rw[List.take_append_of_le_length (Nat.le_of_lt hp)];exact this
 ·rw[Gn (by omega)]at hb;have e0:p - as.length=0:=by
   by_cases e:p - as.length=0
   ·exact e
   ·rw[List.getElem?_eq_none (by rw[A2];omega)]at hb;cases hb
  rw[e0]at hb;cases hb;have ep:p=as.length:=by omega
  subst ep;refine Ac.right_mono (λk z=>?_) ha;unfold kn;rw[List.take_append_of_le_length (Al _),List.take_length];exact hk k z
structure ActO (ws:List (List Str)) (want ks:List Str) (acts:List Ac):Prop where
 mem:∀k,k∈ks↔k∈want++acts.flatMap Ac.bs
 ok:∀k∈ks,okK k
 fs:∀a∈acts,okA a
 ri:riB ws (want,acts)
def ActI (ws:List (List Str)) (bl:List Ab) (want:List Str) (nb:Int) (ds:List Ab) (δ:Sl) (n:Int):Prop:=∃(ks:List Str) (acts:List Ac) (x2 x7 x8 x9 x10:Option SV),
 δ=[some (.w .tp),some (.w (.d (.list (ws.map jbl)))),x2,some (.own bl),some (.w (.d (jbl want))),some (.own (ks.map .str)),some (.own (acts.map Ac.d)),x7,x8,x9,x10]/\ActO ws want ks acts/\ks.length+4*ds.length<=40/\acts.length+ds.length<=8/\n+11*(ds.length:Int)<=nb+89
theorem jvo {ws w0:List (List Str)} {bl r:List Ab} {want:List Str} {d:Ab} {ks:List Str} {acts:List Ac} {nb n:Int} {x7 x8 x9 x10:Option SV} {K:DEnds} (hw0:ws=[]::w0) (hwl:ws.length<=6) (hnb:nb+89 < 2 ^ 39) (O:ActO ws want ks acts) (hk:ks.length+4*(r.length+1)<=40) (ha:acts.length+(r.length+1)<=8) (hn:n+11*((r.length:Int)+1)<=nb+89)
  (kN:∀δ n,ActI ws bl want nb r δ n->K.nx δ n) :
  sSeq (sSet 8 (wOf (jat [none,some 5,some 1] (ja1 (wB jfn (jaa (wVar 1) aNil))) (jac 0) (cT (w2 (wOf (jat [none,some 1] (ja4 (w2 (wVar 2) (wVar 0) gIxL)) (jac 0) (cT (w2 (wVar 0) (wVar 1) (gInL true))) (wVar 0))) (wOf (fLst aNil)) gEqL)) (wVar 0)))) (sSeq (sUnp (jad jjy (jaa (wVar 0) (jaa (jfa 5) (jaa (wVar 8) aNil)))) (jbb 2 (jah (jac 9) (jah (jac 10) ja0)))) (sSeq (sApp 6 (wVar 9)) (sFor (je0 (wVar 10)) (jac 7) (sIf (cT (w2 (wVar 7) (jfa 5) (gInL true))) (sApp 5 (wVar 7)) jai))))
   [some (.w .tp),some (.w (.d (.list (ws.map jbl)))),some (.w (.d d)),some (.own bl),some (.w (.d (jbl want))),some (.own (ks.map .str)),some (.own (acts.map Ac.d)),x7,x8,x9,x10] n K:=by
 refine jae (show sSet 8 _ _ _ _ from of_i ?_);unfold jat ja1;refine b1_i (jab rfl ?_);refine Af ⟨by omega,by rw[Ae];omega⟩ ?_;rw[Bz,Ae];refine js4 ws ks ?_;dsimp only[A0];refine jae ?_;unfold sUnp;have ol:(jl3 ws ks).length<=6:=A9 (List.length_filter_le _ _) (by rw[List.length_range];exact hwl);refine c3_i (jab rfl (jl7 rfl (jab rfl ?_)));refine C2 ks (C2 (jl3 ws ks) (C2 ws ⟨rfl,by omega,O.ok,jr0 hw0,by omega,λb hb=>jx6 hb,by omega,λact n' hfs hri hn'=>?_⟩));refine Af rfl ?_;dsimp only[jah,ja0,jac,A0];refine jae (jvk rfl (λQ q=>jab rfl q) (by rw[Ae];omega) ?_);dsimp only[A0];unfold sFor je0;refine jab rfl ?_;dsimp only;have hbs:=jy7 hfs.1;refine jbh (λds δ n''=>∃(ks' dn bs':List Str) (x7:Option SV),ds=bs'.map .str/\dn++bs'=act.bs/\(∀k,k∈ks'↔k∈ks++dn)/\n''=n'/\δ=[some (.w .tp),some (.w (.d (.list (ws.map jbl)))),some (.w (.d d)),some (.own bl),some (.w (.d (jbl want))),some (.own (ks'.map .str)),some (.own (acts.map Ac.d++[act.d])),x7,some (.w (.d (.list ((jl3 ws ks).map λb=>.int (b:Nat))))),some (.w (.d act.d)),some (.w (.d (.list (act.bs.map .str))))]/\ks'.length+bs'.length<=ks.length+4)
  (λδ n'' I=>?_) (λe r' δ n'' N I kN'=>?_) _ _ _ ⟨ks,[],act.bs,x7,rfl,rfl,λk=>by simp,rfl,rfl,by have:=hbs.2;omega⟩
 ·obtain⟨ks',dn,bs',x7,e,hdn,hm,rfl,rfl,hk'⟩:=I;cases Fd.mp e.symm;rw[Bu]at hdn;subst hdn;have hm':∀k,k∈ks'↔k∈want++(acts++[act]).flatMap Ac.bs:=λk=>by
   rw[hm k,A8,O.mem k,List.flatMap_append,<-Bo,A8 (s:=want++acts.flatMap Ac.bs)];simp
  refine kN _ _ ⟨ks',acts++[act],_,_,_,_,_,by rw[Cc];rfl,⟨hm',λk z=>?_,λa z=>?_,jt9 O.ri (λk z=>(O.mem k).mp z) hri⟩,by omega,by rw[Ap,A2];omega,by omega⟩
  ·exact(A8.mp ((hm k).mp z)).elim (O.ok k) (hbs.1 k)
  ·rcases A8.mp z with z | z
   ·exact O.fs a z
   ·rw[Bd]at z;subst z;exact hfs
 ·obtain⟨ks',dn,bs',x7,e',hdn,hm,rfl,rfl,hk'⟩:=I;obtain⟨s,bs'',rfl,rfl,rfl⟩:=E1.mp e'.symm;rw[A1]at hk';dsimp only[jac,A0];have hdn':(dn++[s])++bs''=act.bs:=by rw[Bo];exact hdn
  refine if_i (w2_i (jab rfl (jl7 rfl (Af rfl ⟨jmh ks',?_⟩))));refine ifb (λz=>?_) (λz=>?_)
  ·refine jvk rfl (λQ q=>jab rfl q) (by rw[Ae];omega) (kN' _ _ ⟨ks'++[s],dn++[s],bs'',some (.w (.d (.str s))),rfl,hdn',λk=>?_,rfl,?_,by rw[Ap,A2];omega⟩)
   ·rw[A8,hm k,<-Bo,A8 (s:=ks++dn)]
   ·rw[Cc];rfl
  ·have hs:s∈ks':=by
    have z':(!inD (.str s) (ks'.map .str))=false:=z;rw[jkn]at z';simpa using z'
   refine kN' _ _ ⟨ks',dn++[s],bs'',some (.w (.d (.str s))),rfl,hdn',λk=>?_,rfl,rfl,by omega⟩;rw[<-Bo,A8 (s:=ks++dn),Bd,<-hm k];exact⟨.inl,λq=>q.elim id λe=>e▸hs⟩
def WanI (n0:Int) (ds:List Ab) (δ:Sl) (n:Int):Prop:=∃(more:List (List Str)) (x2:Option SV),δ=[some (.w .tp),some (.own (([]::more).map jbl)),x2,none,none,none,none,none,none,none,none]/\more.length+ds.length<=5/\(∀w∈more,w∈jgj)/\n+(ds.length:Int)<=n0+6
def BlkI (ws:List (List Str)) (n0:Int) (ds:List Ab) (δ:Sl) (n:Int):Prop:=∃(bl:List Bl) (re:List (List Str)) (x2 x4 x5 x6 x7 x8 x9 x10:Option SV),
 δ=[some (.w .tp),some (.w (.d (.list (ws.map jbl)))),x2,some (.own (bl.map blD)),x4,x5,x6,x7,x8,x9,x10]/\ds=re.map jbl/\bl.map (·.1)++re=ws/\(∀b∈bl,okB b/\riB ws b)/\n+90*(ds.length:Int)<=n0+600
theorem jgs:∀ws n Q,jo6 ws n Q->ws.length=1:=λws n Q h=>by obtain⟨rfl,_⟩:=h;rfl
theorem jvh {ws w0 re:List (List Str)} {bl:List Bl} {want:List Str} {n0 n:Int} {x2 x5 x6 x7 x8 x9 x10:Option SV} {K:DEnds} (hw:∀w∈ws,w∈jgj) (hw0:ws=[]::w0) (hwl:ws.length<=6) (hn0:n0+600 < 2 ^ 39) (hb:bl.map (·.1)++want::re=ws) (hbo:∀b∈bl,okB b/\riB ws b) (hn:n+90*((re.length:Int)+1)<=n0+600)
  (kN:∀δ n,BlkI ws n0 (re.map jbl) δ n->K.nx δ n) :
  sSeq (sOwn 5 (jdd (wVar 4))) (sSeq (sOwn 6 (fLst aNil)) (sSeq (sFor (ja1 (w2 (wOf (fLst (jaa (wC (.int (2))) (jaa (wC (.int (3))) (jaa (wC (.int (1))) (jaa (wC (.int (4))) (jaa (wC (.int (2))) (jaa (wC (.int (0))) (jaa (wC (.int (3))) (jaa (wC (.int (8))) aNil)))))))))) (jad jak (jaa (wVar 0) (jaa (wC (.int (8))) aNil))) gIxL)) (jac 2) (sSeq (sSet 8 (wOf (jat [none,some 5,some 1] (ja1 (wB jfn (jaa (wVar 1) aNil))) (jac 0) (cT (w2 (wOf (jat [none,some 1] (ja4 (w2 (wVar 2) (wVar 0) gIxL)) (jac 0) (cT (w2 (wVar 0) (wVar 1) (gInL true))) (wVar 0))) (wOf (fLst aNil)) gEqL)) (wVar 0)))) (sSeq (sUnp (jad jjy (jaa (wVar 0) (jaa (jfa 5) (jaa (wVar 8) aNil)))) (jbb 2 (jah (jac 9) (jah (jac 10) ja0)))) (sSeq (sApp 6 (wVar 9)) (sFor (je0 (wVar 10)) (jac 7) (sIf (cT (w2 (wVar 7) (jfa 5) (gInL true))) (sApp 5 (wVar 7)) jai)))))) (sFrz 6 (sApp 3 (wTup (jaa (wVar 4) (jaa (wB jbs (jaa (wVar 6) aNil)) aNil)))))))
   [some (.w .tp),some (.w (.d (.list (ws.map jbl)))),x2,some (.own (bl.map blD)),some (.w (.d (jbl want))),x5,x6,x7,x8,x9,x10] n K:=by
 obtain⟨hss,hso,hnd,hup⟩:=jws (hw want (by rw[<-hb];exact Bb _ Au));have hbl:bl.length+(re.length+1)<=6:=by rw[<-hb,Ap,Ae,A1]at hwl;exact hwl
 refine jae (jv5 (ds:=want.map .str) rfl ?_);dsimp only[A0];refine jae (jef ?_);dsimp only[A0];refine jae (jv1 (L:=[.int 2,.int 3,.int 1,.int 4,.int 2,.int 0,.int 3,.int 8]) (M:=8) rfl (λQ q=>of_i (Af (by decide) q)) (by omega) rfl (by decide) (by decide) (λd hd=>?_) (by decide) λj hj=>?_)
 ·simp only[Am,Ar,or_false]at hd;rcases hd with rfl | rfl | rfl | rfl | rfl | rfl | rfl | rfl
  ·exact⟨2,by decide,rfl⟩
  ·exact⟨3,by decide,rfl⟩
  ·exact⟨1,by decide,rfl⟩
  ·exact⟨4,by decide,rfl⟩
  ·exact⟨2,by decide,rfl⟩
  ·exact⟨0,by decide,rfl⟩
  ·exact⟨3,by decide,rfl⟩
  ·exact⟨8,by decide,rfl⟩
 refine jbh (ActI ws (bl.map blD) want n) (λδ n' I=>?_) (λd r' δ n' N I kN'=>?_) _ _ _ ⟨want,[],_,_,_,_,_,rfl,⟨λk=>by simp,hso,λa ha=>by simp at ha,λp a ha=>by simp at ha⟩,by rw[ja9];omega,by rw[ja9];simpa using hj,by rw[ja9];omega⟩
 ·obtain⟨ks,acts,y2,y7,y8,y9,y10,rfl,O,_,ha,hn'⟩:=I;dsimp only;refine jhn rfl ?_;dsimp only[A0];refine jk3 rfl (ja8 (jab rfl (b1_i (jab rfl (jg5 ?_)))));have ha':acts.length<=8:=by simpa using ha
  refine Af (show 2<=1000 by decide) (Af (by rw[Ae];omega) (kN _ _ ⟨bl++[(want,acts)],re,_,_,_,_,_,_,_,_,by rw[Cc];rfl,rfl,by rw[Cc,Bo];exact hb,λb z=>?_,?_⟩))
  ·rcases A8.mp z with z | z
   ·exact hbo b z
   ·rw[Bd]at z;subst z;exact⟨⟨hss,hso,ha',O.fs,hnd,hup⟩,O.ri⟩
  ·have h0:n'<=n+89:=by simpa using hn'
   rw[Ae];omega
 ·obtain⟨ks,acts,y2,y7,y8,y9,y10,rfl,O,hk,ha,hn'⟩:=I;rw[A1]at hk ha hn';dsimp only[jac,A0];exact jvo hw0 hwl (by omega) O hk ha (by omega) kN'
theorem jfs:∀ws n Q,jo6 ws n Q->jd7 (jam ["_law_tape_here","_law_wants","_law_k","_law_blocks","_law_want","_law_known_here","_law_acts","_law_name","_law_open_ones","_law_act_here","_law_bound"] ws) n {nx:=λ_ n=>Q (.d .none) n,rt:=Q}:=λws n0 Q h=>by
 obtain⟨rfl,hn0,k⟩:=h;show jd7 [some (.w .tp),none,none,none,none,none,none,none,none,none,none] n0 _;refine jae (show sOwn 1 _ _ _ _ from Af (A3 _) (Af (by decide) ?_));dsimp only[A0];refine jae (jv1 (L:=[.int 0,.int 1,.int 2,.int 1,.int 0,.int 2,.int 5]) (M:=5) rfl (λQ q=>of_i (Af (by decide) q)) (by omega) rfl (by decide) (by decide) (λd hd=>?_) (by decide) λj hj=>?_)
 ·simp only[Am,Ar,or_false]at hd;rcases hd with rfl | rfl | rfl | rfl | rfl | rfl | rfl
  ·exact⟨0,by decide,rfl⟩
  ·exact⟨1,by decide,rfl⟩
  ·exact⟨2,by decide,rfl⟩
  ·exact⟨1,by decide,rfl⟩
  ·exact⟨0,by decide,rfl⟩
  ·exact⟨2,by decide,rfl⟩
  ·exact⟨5,by decide,rfl⟩
 refine jbh (WanI n0) (λδ n I=>?_) (λd r δ n N I kN=>?_) _ _ _ ⟨[],none,rfl,by rw[ja9];simpa using hj,λd hd=>by simp at hd,by rw[ja9];omega⟩
 ·obtain⟨more,x2,rfl,hl,hm,hn⟩:=I;dsimp only;refine jae (jef ?_);dsimp only[A0];refine jhn rfl ?_;dsimp only[A0];refine jae ?_;unfold sFor je0;refine jab rfl ?_;dsimp only;have hw:∀w∈([]:List Str)::more,w∈jgj:=λd hd=>by
   rcases Am.mp hd with rfl | z
   ·simp[jgj]
   ·exact hm d z
  have hwl:(([]:List Str)::more).length<=6:=by rw[A1];simp at hl;omega
  refine jbh (BlkI ([]::more) n0) (λδ n' I=>?_) (λd r δ n' N I kN=>?_) _ _ _ ⟨[],[]::more,_,_,_,_,_,_,_,_,rfl,rfl,rfl,λb hb=>by simp at hb,?_⟩
  ·obtain⟨bl,re,y2,y4,y5,y6,y7,y8,y9,y10,rfl,er,hb,hbo,hn'⟩:=I;cases Fd.mp er.symm;rw[Bu]at hb;dsimp only;refine jhn rfl ?_;dsimp only[A0];refine jal (b1_i (jab rfl (jg5 (k bl n' ⟨by have:=congrArg List.length hb;simp at this;omega,?_,λb z=>⟨(hbo b z).1,by rw[hb];exact(hbo b z).2⟩⟩ ⟨more,hb⟩ (by simpa using hn')))));rw[<-hb,Ae]at hwl;exact hwl
  ·obtain⟨bl,re,y2,y4,y5,y6,y7,y8,y9,y10,rfl,er,hb,hbo,hn'⟩:=I;obtain⟨want,re,rfl,rfl,rfl⟩:=E1.mp er.symm;rw[A1,Ae]at hn';dsimp only[jac,A0];exact jvh hw rfl hwl hn0 hb hbo (by omega) kN
  ·have h1:n<=n0+6:=by simpa using hn
   have h2:(((([]:List Str)::more).map jbl).length:Int)<=6:=by rw[Ae];omega
   omega
 ·obtain⟨more,x2,rfl,hl,hm,hn⟩:=I;rw[A1]at hl hn;dsimp only[jac,A0];refine jk3 rfl (w2_i (of_i (Af (by decide) (Af (by decide) (Af (by decide) (Af (by decide) (Af (by decide) (Af (by decide) ?_))))))));dsimp only;refine jd5 (m:=5) rfl (by omega) (by decide) (by decide) λq q0 q1=>jbq (ds:=[jbl [],jbl ["n"],jbl ["go","n"],jbl ["nm"],jbl []]) q0 q1 λw hw=>?_;have:∃v∈jgj,w=jbl v:=by
   simp only[Am,Ar,or_false]at hw;rcases hw with rfl | rfl | rfl | rfl | rfl
   ·exact⟨[],by simp[jgj],rfl⟩
   ·exact⟨["n"],by simp[jgj],rfl⟩
   ·exact⟨["go","n"],by simp[jgj],rfl⟩
   ·exact⟨["nm"],by simp[jgj],rfl⟩
   ·exact⟨[],by simp[jgj],rfl⟩
  obtain⟨v,hv,rfl⟩:=this;refine Af (by rw[Ae,A1];omega) (kN _ _ ⟨more++[v],some (.w (.d d)),?_,by rw[Ap,A2];omega,λe he=>?_,by omega⟩)
  ·rw[show([]::(more++[v]):List (List Str))=([]::more)++[v]from rfl,Cc];rfl
  rcases A8.mp he with z | z
  ·exact hm e z
  ·rw[Bd]at z;subst z;exact hv
theorem jou {α:Type} {f:α->Ab} {P:α->Prop}:∀{ds:List Ab},(∀d∈ds,∃x,P x/\d=f x)->∃xs:List α,ds=xs.map f/\∀x∈xs,P x
 |[],_=>⟨[],rfl,λx hx=>by simp at hx⟩
 |d::r,h=>by
  obtain⟨x,hx,rfl⟩:=h d Au;obtain⟨xs,rfl,hxs⟩:=jou λe he=>h e (Aw _ he);exact⟨x::xs,rfl,λy hy=>(Am.mp hy).elim (λe=>e▸hx) (hxs y)⟩
theorem jiz:∀ws n Q,jfy ws n Q->ws.length=2:=λws n Q h=>by obtain⟨_,rfl,_⟩:=h;rfl
def NotI (m:Nat) (n0:Int) (ds:List Ab) (δ:Sl) (n:Int):Prop:=∃(ns:List Nt) (x y:Option SV),δ=[some (.w .tp),some (.w (.d (.int m))),some (.own (ns.map ntD)),x,y]/\ns.length+ds.length<=m/\(∀q∈ns,okQ q)/\n+6*(ds.length:Int)<=n0+100
theorem jh1:∀ws n Q,jfy ws n Q->jgd (jam ["_law_tape_here","_law_most","_law_found","_law_k","_law_row"] ws) n {nx:=λ_ n=>Q (.d .none) n,rt:=Q}:=λws n0 Q h=>by
 obtain⟨m,rfl,hm,hn0,k⟩:=h;show jgd [some (.w .tp),some (.w (.d (.int m))),none,none,none] n0 _;refine jae (jef ?_);dsimp only[A0];refine jae ?_;unfold sFor ja1;refine ja6 (m:=(m:Int)+1) rfl (λQ q=>w2_i (jab rfl (c_i q))) (by omega) (by omega) (by omega) λr r0 r1=>?_;refine Af ⟨by omega,by omega⟩ ?_;have hr:r.toNat<=m:=by omega
 refine jbh (NotI m n0) (λδ n I=>?_) (λd r' δ n N I kN=>?_) _ _ _ ⟨[],none,none,rfl,by rw[ja9];simpa using hr,λd hd=>by simp at hd,by rw[ja9];omega⟩
 ·obtain⟨ns,x,y,rfl,hl,hns,hn⟩:=I;dsimp only;refine jhn rfl ?_;dsimp only[A0];exact jal (b1_i (jab rfl (jg5 (k ns n ⟨by simpa using hl,hns⟩ (by simpa using hn)))))
 ·obtain⟨ns,x,y,rfl,hl,hns,hn⟩:=I;rw[A1]at hl hn;dsimp only[jac,A0];refine jae (show sSet 4 _ _ _ _ from b1_i (of_i ?_));unfold jat;dsimp only;refine c1_i (jab rfl (Af rfl ⟨by omega,λs s1 s4=>?_⟩));refine Af ⟨by omega,by omega⟩ ?_;rw[Bz];refine jfo (λv=>isV v=true) 1 (λd n Q' hn q=>c1_i (jab rfl (Af rfl ⟨by omega,λv hv=>q v _ (jlb hv) (by omega)⟩))) _ [] none _ (by rw[ja9];omega) λrow n' hrl hrow hn'=>?_;rw[ja9]at hrl hn';rw[Ct];refine jg5 ?_;dsimp only[A0];refine jk3 rfl (ja8 (jab rfl (j2m rfl (by omega) λv hv=>?_)));refine Af (show 2<=1000 by decide) (Af (by rw[Ae];omega) (kN _ _ ⟨ns++[(row,v)],_,_,by rw[Cc];rfl,by rw[Ap,A2];omega,λe he=>?_,by omega⟩));rcases A8.mp he with z | z
  ·exact hns e z
  ·rw[Bd]at z;subst z;exact⟨⟨⟨by show row.length<=4;omega,by show 1<=row.length;omega⟩,hrow⟩,jwr hv⟩
theorem jkm:∀ws n Q,jmy ws n Q->ws.length=1:=λws n Q h=>by obtain⟨rfl,_⟩:=h;rfl
theorem jja:∀ws n Q,jmy ws n Q->jib (jam ["_law_tape_here","_law_programs"] ws) n {nx:=λ_ n=>Q (.d .none) n,rt:=Q}:=λws n0 Q h=>by
 obtain⟨rfl,hn0,k⟩:=h;show jib [some (.w .tp),none] n0 _;refine jae (show sOwn 1 _ _ _ _ from ?_);unfold sOwn jat ja1;refine w2_i (of_i (Af (by decide) ?_));dsimp only;refine jd5 (m:=8) rfl (by omega) (by decide) (by decide) λq q0 q1=>jbq (ds:=[.int 2,.int 1,.int 2,.int 3,.int 2,.int 1,.int 0,.int 5]) q0 q1 λd hd=>?_;have hj:∃j:Nat,j<=5/\d=.int j:=by
  simp only[Am,Ar,or_false]at hd;rcases hd with rfl | rfl | rfl | rfl | rfl | rfl | rfl | rfl
  ·exact⟨2,by decide,rfl⟩
  ·exact⟨1,by decide,rfl⟩
  ·exact⟨2,by decide,rfl⟩
  ·exact⟨3,by decide,rfl⟩
  ·exact⟨2,by decide,rfl⟩
  ·exact⟨1,by decide,rfl⟩
  ·exact⟨0,by decide,rfl⟩
  ·exact⟨5,by decide,rfl⟩
 obtain⟨j,hj,rfl⟩:=hj;refine Af ⟨by omega,by omega⟩ ?_;rw[Bz];refine jfo (λd=>∃P,(okG P/\fst0 P)/\d=prD P) 600 (λd n Q' hn q=>c1_i (jab rfl (Af rfl ⟨by omega,λP n' hP hP' hn'=>q (prD P) n' ⟨P,⟨hP,hP'⟩,rfl⟩ (by omega)⟩))) _ [] none _ (by rw[ja9];omega) λds n1 hpl hps0 hn1=>?_;rw[ja9]at hpl hn1;rw[Ct];obtain⟨ps,rfl,hps⟩:=jou hps0;clear hps0;rw[Ae]at hpl;dsimp only[A0];have rest:∀(ps':Pg) (n2:Int),ps'.length<=5->(∀P∈ps',okG P/\fst0 P)->n2<=n1+1->sFrz 1 (sRet (wTup (jaa (wB jbs (jaa (wVar 1) aNil)) (jaa (jad jfy (jaa (wVar 0) (jaa (w2 (wOf (fLst (jaa (wC (.int (4))) (jaa (wC (.int (3))) (jaa (wC (.int (6))) (jaa (wC (.int (12))) aNil)))))) (jad jak (jaa (wVar 0) (jaa (wC (.int (4))) aNil))) gIxL) aNil))) aNil)))) [some (.w .tp),some (.own (ps'.map prD))] n2 {nx:=λ_ n=>Q (.d .none) n,rt:=Q}:=λps' n2 hl' hp' hn2=>by
  refine jhn rfl ?_;dsimp only[A0];refine jal (ja8 (b1_i (jab rfl (jg5 (c2_i (jab rfl (w2_i (of_i (Af (by decide) ?_)))))))));dsimp only;refine jd5 (m:=4) rfl (by omega) (by decide) (by decide) λr r0 r1=>jbq (ds:=[.int 4,.int 3,.int 6,.int 12]) r0 r1 λd hd=>?_;have hm:∃m:Nat,m<=12/\d=.int m:=by
   simp only[Am,Ar,or_false]at hd;rcases hd with rfl | rfl | rfl | rfl
   ·exact⟨4,by decide,rfl⟩
   ·exact⟨3,by decide,rfl⟩
   ·exact⟨6,by decide,rfl⟩
   ·exact⟨12,by decide,rfl⟩
  obtain⟨m,hm,rfl⟩:=hm;exact C2 m ⟨rfl,hm,by omega,λns n' hns hn'=>Af (show 2<=1000 by decide) (k ps' _ n' ⟨hl',λP hP=>(hp' P hP).1⟩ (λP hP=>(hp' P hP).2) ⟨A9 hns.1 hm,hns.2⟩ (by omega))⟩
 refine jae (if_i ?_);refine(show cT _ _ _ _ from w2_i (b1_i (jl7 rfl (j1f (c_i (eqLi ?_))))));rw[Ae];show if decide ((ps.length:Int)=2)=true then _ else _
 by_cases h2:(ps.length:Int)=2
 ·rw[if_pos (decide_eq_true h2)];refine w2_i (jd5 (m:=4) rfl (by omega) (by decide) (by decide) λq q0 q1=>c_i (eqLi ?_));show if decide (q=0)=true then _ else _
  by_cases hq:q=0
  ·rw[if_pos (decide_eq_true hq)];have hl2:ps.length=2:=by omega
   obtain⟨P,P',rfl⟩:∃P P',ps=[P,P']:=by
    match ps,hl2 with
    |[P,P'],_=>exact⟨P,P',rfl⟩
   refine(show sPut 1 _ _ _ _ _ from w2_i (jl7 rfl (c_i ?_)));refine(show gIxL (.ln [prD P,prD P']) (.d (.int 0)) _ _ from ?_);refine rest [P,P] _ (show 2<=5 by decide) (λR hR=>?_) (by omega);simp only[Am,Ar,or_false,or_self]at hR;subst hR;exact hps _ Au
  ·rw[if_neg (by simpa using hq)];exact rest ps _ (by omega) hps (by omega)
 ·rw[if_neg (by simpa using h2)];exact rest ps _ (by omega) hps (by omega)
theorem jkb {k:Str} (h:okK k):k.length<=4:=by
 have:=jsh h.1;omega
theorem Kno.up {l ys:List Str} (h:Kno l ys):ys.Pairwise λa b=>slt a b=true:=(h.1.and h.2.1).imp λ{a b} h=>by
 cases e:slt a b with
 |true=>rfl
 |false=>exact absurd (slin.tot a b e (decide_eq_false h.2)) h.1
theorem jym {l ys:List Str} (h:Kno l ys):kS l=ys:=by
 have e:∃ys,Kno l ys:=⟨ys,h⟩;unfold kS;rw[dif_pos e];exact jvt e.choose_spec.up h.up λk=>(e.choose_spec.2.2 k).trans (h.2.2 k).symm
theorem jwg {l ys:List Str} {G:List Str->Prop} (h:Kno l ys) (k:Kno l (kS l)->G (kS l)):G ys:=by
 have e:=jym h;rw[e]at k;exact k h
theorem jsi:∀ws n Q,jfz ws n Q->ws.length=1:=λws n Q h=>by obtain⟨_,rfl,_⟩:=h;rfl
theorem jp9:∀ws n Q,jfz ws n Q->jzc (jam ["pattern"] ws) n {nx:=λ_ n=>Q (.d .none) n,rt:=Q}:=λws n Q h=>by
 obtain⟨fs,rfl,ok,k⟩:=h;refine jjp fs n ?_;exact⟨bndE fs,.inl rfl,Gq (jkg ok) (by decide),λx hx=>A9 (jkb (jsa ok x hx)) (by decide),λys a b c=>k ys (A9 (jhf a λz hz=>(b z).mp hz) (jkg ok)) b⟩
theorem jl8:∀ws n Q,jvp ws n Q->ws.length=3:=λws n Q h=>by obtain⟨_,_,_,_,rfl,_⟩:=h;rfl
theorem jkv:∀ws n Q,jvp ws n Q->jjr (jam ["program","block","place","wanted","acts","known","act"] ws) n {nx:=λ_ n=>Q (.d .none) n,rt:=Q}:=λws n Q h=>by
 obtain⟨bs,i,p,⟨w,as⟩,rfl,hi,⟨hb1,hb2,hb3,hb4⟩,hp,k⟩:=h;dsimp only at hb1 hb2 hb3 hb4 hp k;have hi':(bs.map blD)[i]?=some (blD (w,as)):=by rw[A7,hi];rfl
 show jjr [some (.w (.d (.tuple (bs.map blD)))),some (.w (.d (.int i))),some (.w (.d (.int p))),none,none,none,none] n _;refine jae (jlx (x:=.tuple (w.map .str)) (λQ q=>w2_i (w2_i (jab rfl (jab rfl (gN_i hi' (c_i (g0_i q))))))) ?_);dsimp only[A0];refine jae (jlx (x:=.tuple (as.map Ac.d)) (λQ q=>w2_i (w2_i (jab rfl (jab rfl (gN_i hi' (c_i (g1_i q))))))) ?_);dsimp only[A0];refine jae (jv5 rfl ?_);dsimp only[A0];refine jae ?_;unfold sFor ja4 jap;refine jab rfl ?_;dsimp only[jaz,jay];refine jab rfl ?_;dsimp only;rw[js2 _ (by rw[Ae];exact hp),<-List.map_take];refine jbh (λds δ n'=>∃(dn re:List Ac) (L:List Str) (x:Option SV),ds=re.map Ac.d/\dn++re=as.take p/\n'=n/\δ=[some (.w (.d (.tuple (bs.map blD)))),some (.w (.d (.int i))),some (.w (.d (.int p))),some (.w (.d (.tuple (w.map .str)))),some (.w (.d (.tuple (as.map Ac.d)))),some (.own (L.map .str)),x]/\KnI w dn L) (λδ n' I=>?_) (λd r δ n' N I kN=>?_) _ _ _
  ⟨[],as.take p,w,none,rfl,rfl,rfl,rfl,KnI.first hb1 hb2⟩
 ·obtain⟨dn,re,L,x,e,hdn,rfl,rfl,I⟩:=I;cases Fd.mp e.symm;rw[Bu]at hdn;subst hdn;dsimp only;refine jhn rfl ?_;dsimp only[A0];have hl:(as.take p).length<=8:=A9 (List.length_take_le _ _) (by omega);have hI:=I.len;refine jal (b1_i (of_i (show jcp _ _ _ _ from jab rfl ?_)));exact C2 L ⟨.inl rfl,by omega,λx hx=>A9 (jkb (I.ok x hx)) (by decide),λys a b c=>jwg (G:=λys=>Q (.d (jbl ys)) _) ⟨a,c,λz=>(b z).trans (I.mem z)⟩ k⟩
 ·obtain⟨dn,re,L,x,e,hdn,rfl,rfl,I⟩:=I;obtain⟨a,re,rfl,rfl,rfl⟩:=E1.mp e.symm;dsimp only[jac,A0];have ha:okFs a.fs:=(hb4 a (Ez (i:=p) (by rw[<-hdn];exact Bb _ Au))).1;have hlen:L.length<=36:=by
   have h1:dn.length+(re.length+1)=(as.take p).length:=by rw[<-hdn,Ap,A1]
   have h3:=I.len;have h4:(as.take p).length<=as.length:=List.length_take_le' _ _;omega
  have hdn':(dn++[a])++re=as.take p:=by rw[Bo];exact hdn
  have nxt:∀L',KnI w (dn++[a]) L'->N [some (.w (.d (.tuple (bs.map blD)))),some (.w (.d (.int i))),some (.w (.d (.int p))),some (.w (.d (.tuple (w.map .str)))),some (.w (.d (.tuple (as.map Ac.d)))),some (.own (L'.map .str)),some (.w (.d a.d))] n':=λL' I'=>kN _ _ ⟨dn++[a],re,L',_,rfl,hdn',rfl,rfl,I'⟩;have get:∀(K:DEnds) (hK:∀δ n,N δ n->K.nx δ n) (s:Str) (fs:List Fe) (r:List Ab),a.d=.tuple (.str s::fsD fs::r)->inD (.str s) ((Zb:List Str).map .str)=true->a.bs=bndE fs->a.fs=fs->sIf (cT (wInG Zb (w2 (wVar 6) (wC (.int (0))) gIx))) (jps 5 (jad jfz (jaa (w2 (wVar 6) (wC (.int (1))) gIx) aNil))) jai
    [some (.w (.d (.tuple (bs.map blD)))),some (.w (.d (.int i))),some (.w (.d (.int p))),some (.w (.d (.tuple (w.map .str)))),some (.w (.d (.tuple (as.map Ac.d)))),some (.own (L.map .str)),some (.w (.d a.d))] n' K:=λK hK s fs r e1 e2 e3 e4=>by
   rw[e1]at nxt ⊢;refine if_y (λQ q=>j1q (s:=s) (λQ q=>jcc rfl q) e2 q) ?_;refine(show jps 5 _ _ _ _ from c1_i (jgv rfl (C2 fs ⟨rfl,e4▸ha,λys hl hys=>Af ⟨by rw[Ae];omega,by rw[Ae];omega⟩ ?_⟩)));have:=nxt (L++ys) (I.more (λk=>by rw[e3];exact hys k) hl ha);rw[Cc]at this;exact hK _ _ this
  have skip:∀(K:DEnds) (hK:∀δ n,N δ n->K.nx δ n) (s:Str) (r:List Ab),a.d=.tuple (.str s::r)->inD (.str s) ((Zb:List Str).map .str)=false->a.bs=[]->sIf (cT (wInG Zb (w2 (wVar 6) (wC (.int (0))) gIx))) (jps 5 (jad jfz (jaa (w2 (wVar 6) (wC (.int (1))) gIx) aNil))) jai
    [some (.w (.d (.tuple (bs.map blD)))),some (.w (.d (.int i))),some (.w (.d (.int p))),some (.w (.d (.tuple (w.map .str)))),some (.w (.d (.tuple (as.map Ac.d)))),some (.own (L.map .str)),some (.w (.d a.d))] n' K:=λK hK s r e1 e2 e3=>by
   rw[e1]at nxt ⊢;refine if_n (λQ q=>j1q (s:=s) (λQ q=>jcc rfl q) e2 q) (hK _ _ (nxt L (I.skip e3)))
  cases a with
  |lay fs age=>exact skip _ (λ_ _ z=>z) "lay" [fsD fs,age] rfl (by decide +kernel) rfl
  |take fs=>exact get _ (λ_ _ z=>z) "take" fs [] rfl (by decide +kernel) rfl rfl
  |read fs=>exact get _ (λ_ _ z=>z) "read" fs [] rfl (by decide +kernel) rfl rfl
  |look fs b=>exact get _ (λ_ _ z=>z) "look" fs [.int b] rfl (by decide +kernel) rfl rfl
  |same f g b=>exact skip _ (λ_ _ z=>z) "same" [f.d,g.d,.int b] rfl (by decide +kernel) rfl
  |go b=>exact skip _ (λ_ _ z=>z) "go" [.int b] rfl (by decide +kernel) rfl
section
variable {δ:Sl} {n:Int} {K:DEnds} {i:Nat} {s a b c:Str} {r:List Ab} {k:Bool} {Q:Bool->Int->Prop}
theorem j1r (e:δ[i]?=some (some (.w (.d (.tuple (.str s::r)))))) (h:inD (.str s) [.str a,.str b,.str c]=k) (q:Q k n):cT (w2 (w2 (wVar i) (wC (.int 0)) gIx) (wTup (jaa (wC (.str a)) (jaa (wC (.str b)) (jaa (wC (.str c)) aNil)))) (gIn false)) δ n Q:=by
 refine w2_i (jcc e ?_);show 3<=1000/\jhp (.str s)=true/\_/\Q (inD (.str s) [.str a,.str b,.str c]) n;exact⟨by decide,rfl,rfl,by rw[h];exact q⟩
end
theorem j32 {δ:Sl} {n:Int} {K:DEnds} {i:Nat} {w:DT} {es:List Ab} (e:δ[i]?=some (some (.own es))) (k:w δ n λx n1=>match x with
  |.d (.list fs)=>(es.length < 1000000/\fs.length < 1000000)/\K.nx (δ.set i (some (.own (es++fs)))) n1
  |_=>False):sExt i w δ n K:=by
 unfold sExt;rw[e];exact k
theorem ji0:∀ws n Q,jdz ws n Q->ws.length=3:=λws n Q h=>by obtain⟨_,_,_,_,rfl,_⟩:=h;rfl
theorem jh2:∀ws n Q,jdz ws n Q->jge (jam ["_law_program_here","_law_block","_law_place","_law_found","_law_act_here"] ws) n {nx:=λ_ n=>Q (.d .none) n,rt:=Q}:=λws n Q h=>by
 obtain⟨bs,i,p,⟨w,as⟩,rfl,hi,⟨hb1,hb2,hb3,hb4⟩,hp,k⟩:=h;dsimp only at hb1 hb2 hb3 hb4 hp k;have hi':(bs.map blD)[i]?=some (blD (w,as)):=by rw[A7,hi];rfl
 show jge [some (.w (.d (.tuple (bs.map blD)))),some (.w (.d (.int i))),some (.w (.d (.int p))),none,none] n _;refine jae (show sOwn 3 (jdd _) _ _ _ from w2_i (w2_i (jab rfl (jab rfl (gN_i hi' (c_i (g0_i ?_)))))));dsimp only[jbl,A0];refine jae ?_;unfold sFor ja4 jap;refine w2_i (w2_i (jab rfl (jab rfl (gN_i hi' (c_i (g1_i ?_))))));dsimp only[jaz,jay];refine jab rfl ?_;dsimp only;rw[js2 _ (by rw[Ae];exact hp),<-List.map_take];refine jbh (λds δ n'=>∃(dn re:List Ac) (L:List Str) (x:Option SV),ds=re.map Ac.d/\dn++re=as.take p/\n'=n/\δ=[some (.w (.d (.tuple (bs.map blD)))),some (.w (.d (.int i))),some (.w (.d (.int p))),some (.own (L.map .str)),x]/\KnI w dn L) (λδ n' I=>?_) (λd r δ n' N I kN=>?_) _ _ _
  ⟨[],as.take p,w,none,rfl,rfl,rfl,rfl,KnI.first hb1 hb2⟩
 ·obtain⟨dn,re,L,x,e,hdn,rfl,rfl,I⟩:=I;cases Fd.mp e.symm;rw[Bu]at hdn;subst hdn;dsimp only;refine jhn rfl ?_;dsimp only[A0];have hl:(as.take p).length<=8:=A9 (List.length_take_le _ _) (by omega);have hI:=I.len;refine jal (of_i (show jcp _ _ _ _ from jab rfl ?_));exact C2 L ⟨.inl rfl,by omega,λx hx=>A9 (jkb (I.ok x hx)) (by decide),λys a b c=>jwg (G:=λys=>Q (.d (.list (ys.map .str))) _) ⟨a,c,λz=>(b z).trans (I.mem z)⟩ k⟩
 ·obtain⟨dn,re,L,x,e,hdn,rfl,rfl,I⟩:=I;obtain⟨a,re,rfl,rfl,rfl⟩:=E1.mp e.symm;dsimp only[jac,A0];have ha:okFs a.fs:=(hb4 a (Ez (i:=p) (by rw[<-hdn];exact Bb _ Au))).1;have hlen:L.length<=36:=by
   have h1:dn.length+(re.length+1)=(as.take p).length:=by rw[<-hdn,Ap,A1]
   have h3:=I.len;have h4:(as.take p).length<=as.length:=List.length_take_le' _ _;omega
  have hdn':(dn++[a])++re=as.take p:=by rw[Bo];exact hdn
  have nxt:∀L',KnI w (dn++[a]) L'->N [some (.w (.d (.tuple (bs.map blD)))),some (.w (.d (.int i))),some (.w (.d (.int p))),some (.own (L'.map .str)),some (.w (.d a.d))] n':=λL' I'=>kN _ _ ⟨dn++[a],re,L',_,rfl,hdn',rfl,rfl,I'⟩;have get:∀(K:DEnds) (hK:∀δ n,N δ n->K.nx δ n) (s:Str) (fs:List Fe) (r:List Ab),a.d=.tuple (.str s::fsD fs::r)->inD (.str s) [.str "take",.str "read",.str "look"]=true->a.bs=bndE fs->a.fs=fs->sIf (cT (w2 (w2 (wVar 4) (wC (.int (0))) gIx) (wTup (jaa (wC (.str "take")) (jaa (wC (.str "read")) (jaa (wC (.str "look")) aNil)))) (gIn false))) (sExt 3 (wOf (jat [none] (ja4 (w2 (wVar 4) (wC (.int (1))) gIx)) (jac 0) (cT (w2 (w2 (wVar 0) (wC (.int (0))) gIx) (wC (.str "bind")) gEq)) (w2 (wVar 0) (wC (.int (1))) gIx)))) jai
    [some (.w (.d (.tuple (bs.map blD)))),some (.w (.d (.int i))),some (.w (.d (.int p))),some (.own (L.map .str)),some (.w (.d a.d))] n' K:=λK hK s fs r e1 e2 e3 e4=>by
   rw[e1]at nxt ⊢;refine if_y (λQ q=>j1r rfl e2 q) ?_;have hb:(bndE fs).length<=4:=jkg (e4▸ha);refine j32 rfl (of_i (jek (ds:=fs.map Fe.d) (λQ q=>jgv rfl q) (jjp fs n' ?_)));refine Af ⟨by rw[Ae];omega,by rw[Ae];omega⟩ ?_;have:=nxt (L++bndE fs) (I.more (λk=>by rw[e3]) hb ha);rw[Cc]at this;exact hK _ _ this
  have skip:∀(K:DEnds) (hK:∀δ n,N δ n->K.nx δ n) (s:Str) (r:List Ab),a.d=.tuple (.str s::r)->inD (.str s) [.str "take",.str "read",.str "look"]=false->a.bs=[]->sIf (cT (w2 (w2 (wVar 4) (wC (.int (0))) gIx) (wTup (jaa (wC (.str "take")) (jaa (wC (.str "read")) (jaa (wC (.str "look")) aNil)))) (gIn false))) (sExt 3 (wOf (jat [none] (ja4 (w2 (wVar 4) (wC (.int (1))) gIx)) (jac 0) (cT (w2 (w2 (wVar 0) (wC (.int (0))) gIx) (wC (.str "bind")) gEq)) (w2 (wVar 0) (wC (.int (1))) gIx)))) jai
    [some (.w (.d (.tuple (bs.map blD)))),some (.w (.d (.int i))),some (.w (.d (.int p))),some (.own (L.map .str)),some (.w (.d a.d))] n' K:=λK hK s r e1 e2 e3=>by
   rw[e1]at nxt ⊢;refine if_n (λQ q=>j1r rfl e2 q) (hK _ _ (nxt L (I.skip e3)))
  cases a with
  |lay fs age=>exact skip _ (λ_ _ z=>z) "lay" [fsD fs,age] rfl (by decide +kernel) rfl
  |take fs=>exact get _ (λ_ _ z=>z) "take" fs [] rfl (by decide +kernel) rfl rfl
  |read fs=>exact get _ (λ_ _ z=>z) "read" fs [] rfl (by decide +kernel) rfl rfl
  |look fs b=>exact get _ (λ_ _ z=>z) "look" fs [.int b] rfl (by decide +kernel) rfl rfl
  |same f g b=>exact skip _ (λ_ _ z=>z) "same" [f.d,g.d,.int b] rfl (by decide +kernel) rfl
  |go b=>exact skip _ (λ_ _ z=>z) "go" [.int b] rfl (by decide +kernel) rfl
theorem jy2 {α:Type} {w:DT} {Q:List Ab->Int->Prop} {rest:Sl} (f g:α->Ab):∀(xs:List α) (acc:List Ab) (x:Option SV) (n:Int),(∀a∈xs,∀(n:Int) (Q':DQ),Q' (.d (g a)) n->w (some (.w (.d (f a)))::rest) n Q')->Q (acc++xs.map g) n->jbe (jac 0) cYes w Q (xs.map f) acc (x::rest) n
 |[],acc,x,n,_,q=>by rw[Cf,Bu]at q;exact q
 |a::r,acc,x,n,h,q=>by
  simp only[Bi,jbe,jac,cYes,if_true,Bp];refine h a Au n _ (jy2 f g r (acc++[g a]) _ n (λb hb=>h b (Aw _ hb)) ?_);rw[Bo];exact q
theorem jhw {α:Type} (g:α->Bool):∀l:List α,jbn (l.map λf=>.bool (g f))=some (l.map g)
 |[]=>rfl
 |f::l=>by
  rw[Bi,Bi,jbn,jhw g l];rfl
theorem jth {α:Type} {δ:Sl} {n:Int} {Q:DQ} {rest:Sl} {w:DT} {F:DTF} (f:α->Ab) (g:α->Bool) (xs:List α) (hF:∀Q:List Ab->Int->Prop,jbe (jac 0) cYes w Q (xs.map f) [] (none::rest) n->F δ n Q) (h:∀a∈xs,∀(n:Int) (Q':DQ),Q' (.d (.bool (g a))) n->w (some (.w (.d (f a)))::rest) n Q') (q:Q (.d (.bool (xs.all g))) n):wB gAll (jaa (wOf F) aNil) δ n Q:=by
 refine b1_i (of_i (hF _ (jy2 f (λa=>.bool (g a)) xs [] none n h ?_)));rw[Ct];show(match jbn (xs.map λc=>.bool (g c))with | some bs=>Q (.d (.bool (bs.all id))) n | none=>False);rw[jhw];show Q (.d (.bool ((xs.map g).all id))) n;rw[E4];exact q
theorem jkt {δ:Sl} {n:Int} {Q:DQ} {w:DT} {lo k hi:Int} {wl wh:DT} (hl:∀Q:DQ,Q (.d (.int lo)) n->wl δ n Q) (hw:∀Q:DQ,Q (.d (.int k)) n->w δ n Q) (hh:∀Q:DQ,Q (.d (.int hi)) n->wh δ n Q) (q:Q (.d (.bool (decide (lo<=k)&&decide (k<=hi)))) n):ja3 gLe gLe wl w wh δ n Q:=by
 unfold ja3;refine hl _ (hw _ ?_);show jjb (.d (.bool (decide (lo<=k)))) _ _;cases h:decide (lo<=k)with
 |true=>rw[h]at q;exact hh _ q
 |false=>rw[h]at q;exact q
theorem js6 {α:Type} {c:DTT} {w:DT} {Q:List Ab->Int->Prop} {rest:Sl} (f g:α->Ab) (p:α->Bool):∀(xs:List α) (acc:List Ab) (x:Option SV) (n:Int),(∀a∈xs,∀(n:Int) (Q':Bool->Int->Prop),Q' (p a) n->c (some (.w (.d (f a)))::rest) n Q')->(∀a∈xs,∀(n:Int) (Q':DQ),Q' (.d (g a)) n->w (some (.w (.d (f a)))::rest) n Q')->Q (acc++(xs.filter p).map g) n->jbe (jac 0) c w Q (xs.map f) acc (x::rest) n
 |[],acc,x,n,_,_,q=>by rw[List.filter_nil,Cf,Bu]at q;exact q
 |a::r,acc,x,n,hp,h,q=>by
  simp only[Bi,jbe,jac,Bp];refine hp a Au n _ ?_;cases e:p a with
  |true =>
   simp only[if_true];refine h a Au n _ (js6 f g p r (acc++[g a]) _ n (λb hb=>hp b (Aw _ hb)) (λb hb=>h b (Aw _ hb)) ?_);rw[List.filter_cons,if_pos e,Bi]at q;rw[Bo];exact q
  |false =>
   simp only[B9,if_false];refine js6 f g p r acc _ n (λb hb=>hp b (Aw _ hb)) (λb hb=>h b (Aw _ hb)) ?_;rw[List.filter_cons,if_neg (by rw[e];exact An)]at q;exact q
theorem j1b {δ:Sl} {n:Int} {Q:Bool->Int->Prop} {w:DT} {ds:List Ab} (hw:∀Q:DQ,Q (.d (.tuple ds)) n->w δ n Q) (q:Q (!ds.isEmpty) n):cT (w2 w (wTup aNil) (gT0 true)) δ n Q :=
 ct_b (k:=!ds.isEmpty) (λQ q=>w2_i (hw _ (show wTup aNil _ _ _ from Af (A3 _) (by cases ds<;>exact q)))) q
theorem jov {n:Int} {Q:DQ} {ds:List Ab} (k:Q (.d (.int ds.length)) n):gLen [.d (.tuple ds)] n Q:=k
theorem jtp {u:DTT} {v w:DT} {δ:Sl} {n:Int} {Q:DQ} {b:Bool} (hu:∀Q:Bool->Int->Prop,Q b n->u δ n Q) (k:if b=true then v δ n Q else w δ n Q):wIf u v w δ n Q:=hu _ k
theorem addI {i j n:Int} {Q:DQ} (k:Q (.d (.int (i+j))) n):gI0 (λi j=>.int (i+j)) (.d (.int i)) (.d (.int j)) n Q:=k
theorem subI {a b n:Int} {Q:DQ} (k:Q (.d (.int (a - b))) n):gI0 (λi j=>.int (i - j)) (.d (.int a)) (.d (.int b)) n Q:=k
theorem len2 {ds:List Ab} (h:ds.length=2):∃a b,ds=[a,b]:=by
 match ds,h with
 |[a,b],_=>exact⟨a,b,rfl⟩
theorem jd4 {δ:Sl} {n:Int} {i:Nat} {ds:List Ab} {k:Int} (e:δ[i]?=some (some (.w (.d (.tuple ds))))):∀Q:Bool->Int->Prop,Q (!decide ((ds.length:Int)=k)) n->cT (w2 (wB gLen (jaa (wVar i) aNil)) (wC (.int k)) gNe) δ n Q:=λQ q=>ct_b (k:=!decide ((ds.length:Int)=k)) (λQ q=>w2_i (jff e (c_i q))) q
theorem jn7 {g:Ab->Bool} (h:∀ds,g (.tuple ds)=true->ds.length=2) {ds:List Ab} (h2:ds.length≠2):g (.tuple ds)=false:=by
 cases e:g (.tuple ds)with
 |false=>rfl
 |true=>exact absurd (h ds e) h2
theorem jwc:∀ds,nvB (.tuple ds)=true->ds.length=2:=λds h=>by
 rcases ds with _ | ⟨a,_ | ⟨b,_ | ⟨c,r⟩⟩⟩
 ·cases h
 ·cases h
 ·rfl
 ·cases h
theorem jew:∀ws n Q,spJ nvB ws n Q->ws.length=1:=λ_ _ _ h=>jbo h
theorem jel:∀ws n Q,spJ nvB ws n Q->jcy (jam Zd ws) n {nx:=λ_ n=>Q (.d .none) n,rt:=Q}:=jfv λd n K q=>by
 show jcy [some (.w (.d d))] n K;refine jal ?_;cases d with
 |tuple ds =>
  refine jb9 (a:=true) (b:=nvB (.tuple ds)) (λQ q=>jmf rfl q) (λ_ Q q=>?_) q;by_cases h2:ds.length=2
  ·obtain⟨a,b,rfl⟩:=len2 h2;refine jb9 (a:=true) (b:=letB 4 a&&jan b) (λQ q=>w2_i (jff (ds:=[a,b]) rfl (c_i q))) (λ_ Q q=>?_) q;exact jb9 (a:=letB 4 a) (b:=jan b) (λQ q=>j1_i (g:=letB 4) (λQ q=>jcc rfl q) Q q) (λ_ Q q=>j1_i (g:=jan) (λQ q=>jgv rfl q) Q q) q
  ·rw[jn7 jwc h2]at q;exact jb9 (a:=false) (b:=true) (λQ q=>w2_i (jff rfl (c_i (show Q (.d (.bool (decide ((ds.length:Int)=2)))) n by rw[decide_eq_false (by omega)];exact q)))) (λz=>nomatch z) q
 |_=>exact jb9 (a:=false) (b:=false) (λQ q=>q) (λz=>nomatch z) q
theorem jyg {d:Ab} (h:nvB d=true):∃(x:Str) (v:Ab),d=.tuple [.str x,v]/\letB 4 (.str x)=true/\jan v=true:=by
 cases d with
 |tuple ds =>
  obtain⟨a,b,rfl⟩:=len2 (jwc ds h);have h:(letB 4 a&&jan b)=true:=h;rw[A4]at h;cases a with
  |str x=>exact⟨x,b,rfl,h.1,h.2⟩
  |_=>cases h.1
 |_=>cases h
theorem jok {Q:List Ab->Int->Prop} {n:Int}:∀(ds acc:List Ab) (x y:Option SV),(∀d∈ds,nvB d=true)->(∀bs:List Bool,bs.all id=risP ds->Q (acc++bs.map .bool) n) ->
  jbe (jbb 2 (jah (jac 0) (jah (jac 1) ja0))) cYes (w2 (w2 (wVar 0) (wC (.int (0))) gIx) (w2 (wVar 1) (wC (.int (0))) gIx) gLt) Q (zipD ds (ds.drop 1)) acc [x,y] n
 |[],acc,x,y,_,q=>by
  have:=q [] rfl;rw[Cf,Bu]at this;exact this
 |[a],acc,x,y,_,q=>by
  have:=q [] rfl;rw[Cf,Bu]at this;exact this
 |a::b::r,acc,x,y,h,q=>by
  obtain⟨s,v,rfl,_⟩:=jyg (h a Au);obtain⟨t,u,rfl,_⟩:=jyg (h b (Aw _ Au));refine Af rfl ?_;dsimp only[jah,ja0,jac,A0,cYes];rw[if_pos rfl];refine w2_i (jcc rfl (jcc rfl ?_));show jbe _ _ _ _ _ (acc++[.bool (decide (s.cps.toList < t.cps.toList))]) _ n;refine jok (.tuple [.str t,u]::r) _ _ _ (λd hd=>h d (Aw _ hd)) λbs hb=>?_;have:=q (decide (s.cps.toList < t.cps.toList)::bs) (by rw[Dt,hb];rfl);rw[Bi]at this;rw[Bo];exact this
theorem jmb:∀ws n Q,spJ nmsB ws n Q->ws.length=1:=λ_ _ _ h=>jbo h
theorem jo4:∀bs:List Bool,jbn (bs.map .bool)=some bs
 |[]=>rfl
 |b::r=>by rw[Bi,jbn,jo4 r];rfl
theorem jky:∀ws n Q,spJ nmsB ws n Q->jjs (jam Zd ws) n {nx:=λ_ n=>Q (.d .none) n,rt:=Q}:=jfv λd n K q=>by
 show jjs [some (.w (.d d))] n K;cases d with
 |tuple ds =>
  have q:K.rt (.d (.bool (ds.all nvB&&risP ds))) n:=q;have ha:∀Q:Bool->Int->Prop,Q (!ds.all nvB) n->cNot (cT (wB gAll (jaa (wOf (jat [none] (ja4 (wVar 0)) (jac 0) cYes (jad (spJ nvB) (jaa (wVar 0) aNil)))) aNil))) [some (.w (.d (.tuple ds)))] n Q:=λQ q=>jax (k:=ds.all nvB) (λQ q=>ct_b (k:=ds.all nvB) (λQ q=>jth (w:=jad (spJ nvB) (jaa (wVar 0) aNil)) id nvB ds (rest:=[]) (λQ q=>jek (ds:=ds) (λQ q=>jab rfl q) (by rw[Eh]at q;exact q)) (λd hd n Q' q=>j1_i (g:=nvB) (λQ q=>jab rfl q) Q' q) q) q) q;cases hb:ds.all nvB with
  |false =>
   rw[hb]at q ha;exact jae (if_y (λQ q=>c_or (a:=false) (b:=true) (nt_i rfl) (λ_ Q q=>ha Q q) q) (jal (c_i q)))
  |true =>
   rw[hb,Di]at q;rw[hb]at ha;refine jae (if_n (λQ q=>c_or (a:=false) (b:=false) (nt_i rfl) (λ_ Q q=>ha Q q) q) ?_);dsimp only[jai];refine jal (b1_i (of_i ?_));unfold jat jsq jap jay jaz;refine jab rfl (jab rfl (c_i ?_));have ec:cutD ds (some 1) none=ds.drop 1:=by
    unfold cutD;rw[show(1:Int)=((1:Nat):Int)from rfl,HT.sIx_nat,HT.sIx_none];cases ds with
    |nil=>rfl
    |cons a r=>simp
   dsimp only;rw[ec];refine Af (by rw[E3];omega) ?_;show jbe _ _ _ _ _ [] [none,none] n;refine jok ds [] none none (λd hd=>Bt.mp hb d hd) λbs hbs=>?_;rw[Ct];show(match jbn (bs.map .bool)with | some bs=>K.rt (.d (.bool (bs.all id))) n | none=>False);rw[jo4];show K.rt (.d (.bool (bs.all id))) n;rw[hbs];exact q
 |_=>exact jae (if_y (λQ q=>c_or (a:=true) (b:=true) (λQ q=>jax (k:=false) (λQ q=>ct_b (k:=false) (λQ q=>q) q) q) (λz=>nomatch z) q) (jal (c_i q)))
theorem jnw (ds:List Ab):is3 (.tuple ds)=decide ((ds.length:Int)=3):=by
 rcases ds with _ | ⟨a,_ | ⟨b,_ | ⟨c,_ | ⟨d,r⟩⟩⟩⟩
 ·rfl
 ·rfl
 ·rfl
 ·rfl
 ·exact(decide_eq_false (by simp only[A1];omega)).symm
theorem jey:∀ws n Q,spJ hfB ws n Q->ws.length=1:=λ_ _ _ h=>jbo h
theorem jen:∀ws n Q,spJ hfB ws n Q->jc0 (jam Zd ws) n {nx:=λ_ n=>Q (.d .none) n,rt:=Q}:=jfv λd n K q=>by
 show jc0 [some (.w (.d d))] n K;refine jal ?_;cases d with
 |tuple ds =>
  refine jb9 (a:=true) (b:=ds.all is3) (λQ q=>jmf rfl q) (λ_ Q q=>?_) q;refine jth (w:=wAnd (wIsi "tuple" (wVar 0)) (w2 (wB gLen (jaa (wVar 0) aNil)) (wC (.int (3))) gEq)) id is3 ds (rest:=[]) (λQ q=>jek (ds:=ds) (λQ q=>jab rfl q) (by rw[Eh]at q;exact q)) (λd hd n Q' q=>?_) q;cases d with
  |tuple es =>
   rw[jnw]at q;exact jb9 (a:=true) (b:=decide ((es.length:Int)=3)) (λQ q=>jmf rfl q) (λ_ Q q=>w2_i (jff (ds:=es) rfl (c_i q))) q
  |_=>exact jb9 (a:=false) (b:=false) (λQ q=>q) (λz=>nomatch z) q
 |_=>exact jb9 (a:=false) (b:=false) (λQ q=>q) (λz=>nomatch z) q
theorem jrd:∀ds,sfB (.tuple ds)=true->ds.length=2:=λds h=>by
 rcases ds with _ | ⟨a,_ | ⟨b,_ | ⟨c,r⟩⟩⟩
 ·cases h
 ·cases h
 ·rfl
 ·cases h
theorem jyn {d:Ab}:isiB "tuple" d=jjm d:=by cases d<;>rfl
theorem jex:∀ws n Q,spJ sfB ws n Q->ws.length=1:=λ_ _ _ h=>jbo h
theorem jem:∀ws n Q,spJ sfB ws n Q->jcz (jam Zd ws) n {nx:=λ_ n=>Q (.d .none) n,rt:=Q}:=jfv λd n K q=>by
 show jcz [some (.w (.d d))] n K;cases d with
 |tuple ds =>
  by_cases h2:ds.length=2
  ·obtain⟨a,b,rfl⟩:=len2 h2;have q:K.rt (.d (.bool (hfB a&&jjm b))) n:=q;refine jae (if_n (λQ q=>c_or (a:=false) (b:=false) (nt_i rfl) (λ_ Q q=>jd4 (ds:=[a,b]) rfl Q q) q) ?_);dsimp only[jai];exact jal (jb9 (a:=hfB a) (b:=jjm b) (λQ q=>j1_i (g:=hfB) (λQ q=>jcc rfl q) Q q) (λ_ Q q=>(show w2 _ _ _ _ _ _ from jgv rfl (by rw[<-jyn]at q;exact q))) q)
  ·rw[jn7 jrd h2]at q;have e2:decide ((ds.length:Int)=2)=false:=decide_eq_false (by omega);exact jae (if_y (λQ q=>c_or (a:=false) (b:=true) (nt_i rfl) (λ_ Q q=>jd4 rfl Q (by rw[e2];exact q)) q) (jal (c_i q)))
 |_=>exact jae (if_y (λQ q=>c_or (a:=true) (b:=true) (λQ q=>jax (k:=false) (λQ q=>ct_b (k:=false) (λQ q=>q) q) q) (λz=>nomatch z) q) (jal (c_i q)))
theorem jev:∀ws n Q,jqc ws n Q->ws.length=2:=λws n Q h=>by obtain⟨_,_,rfl,_⟩:=h;rfl
theorem ji5:∀ws n Q,jqc ws n Q->jh6 (jam ["thing","most"] ws) n {nx:=λ_ n=>Q (.d .none) n,rt:=Q}:=λws n Q h=>by
 obtain⟨d,k,rfl,q⟩:=h;show jh6 [some (.w (.d d)),some (.w (.d (.int k)))] n _;refine jal ?_;cases d with
 |int i=>exact jb9 (a:=true) (b:=jbv 0 k (.int i)) (λQ q=>j1_i (g:=jc6) (d:=.int i) (λQ q=>jab rfl q) Q q) (λ_ Q q=>jkt (λQ q=>c_i q) (λQ q=>jab rfl q) (λQ q=>jab rfl q) q) q
 |_=>exact jb9 (a:=false) (b:=false) (λQ q=>(show jad (spJ jc6) _ _ _ _ from q)) (λz=>nomatch z) q
theorem jki:∀ws n Q,jtk ws n Q->ws.length=2:=λws n Q h=>by obtain⟨_,_,rfl,_⟩:=h;rfl
theorem ji6:∀ws n Q,jtk ws n Q->jh7 (jam ["program","hand"] ws) n {nx:=λ_ n=>Q (.d .none) n,rt:=Q}:=λws n Q h=>by
 obtain⟨P,⟨a,b,c⟩,rfl,q⟩:=h;show jh7 [some (.w (.d (prD P))),some (.w (.d (.tuple [a,b,c])))] n _;have q:Q (.d (.bool (plcB P a b))) n:=q;unfold plcB at q;refine jal (jb9 (a:=jbv 0 ((P.length:Int) - 1) a) (λQ q=>c2_i (jcc rfl (w2_i (jff rfl (c_i (subI ⟨a,_,rfl,by rw[Ae];exact q⟩)))))) (λh1 Q q=>?_) q);cases a with
 |int i =>
  have hi:(decide ((0:Int)<=i)&&decide (i<=(P.length:Int) - 1))=true:=h1;rw[A4]at hi;have i0:=of_decide_eq_true hi.1;have i1:=of_decide_eq_true hi.2;obtain⟨m,rfl⟩:=Cs i0;have hm:m < P.length:=by omega
  have q:Q (.d (.bool (jbv 0 (((P[m]?).map λbl=>bl.2.length).getD 0:Nat) b))) n:=q;rw[Ag hm]at q;have hP:(P.map blD)[m]?=some (blD P[m]):=by rw[A7,Ag hm];rfl
  refine c2_i (jgv rfl (b1_i (w2_i (w2_i (jab rfl (jcc rfl (gN_i (i:=m) hP (c_i (g1_i (jov ⟨b,_,rfl,?_⟩))))))))));rw[Ae];exact q
 |_=>cases h1
theorem j0n {P:List Bl} {h:H3} (hp:plH (P,h)=true):∃(i p:Nat) (b:Bl),h=(.int i,.int p,h.2.2)/\P[i]?=some b/\p<=b.2.length:=by
 obtain⟨a,c,e⟩:=h;have hp:plcB P a c=true:=hp;unfold plcB at hp;rw[A4]at hp;cases a with
 |int i =>
  have hi:(decide ((0:Int)<=i)&&decide (i<=(P.length:Int) - 1))=true:=hp.1;rw[A4]at hi;have i0:=of_decide_eq_true hi.1;have i1:=of_decide_eq_true hi.2;obtain⟨m,rfl⟩:=Cs i0;have hm:m < P.length:=by omega
  have h2:jbv 0 (((P[m]?).map λbl=>bl.2.length).getD 0:Nat) c=true:=hp.2;rw[Ag hm]at h2;cases c with
  |int j =>
   have hj:(decide ((0:Int)<=j)&&decide (j<=(P[m].2.length:Int)))=true:=h2;rw[A4]at hj;have j0:=of_decide_eq_true hj.1;have j1:=of_decide_eq_true hj.2;obtain⟨p,rfl⟩:=Cs j0;exact⟨m,p,P[m],rfl,Ag hm,by omega⟩
  |_=>cases h2
 |_=>cases hp.1
theorem j3o {b:Bl} (h:wfB b) (p:Nat):∀k∈kn b.1 b.2 p,okK k:=λk hk=>by
 rcases A8.mp hk with z | z
 ·exact h.2.1 k z
 ·obtain⟨a,ha,hk⟩:=List.mem_flatMap.mp z;exact(jy7 (h.2.2.2 a (Ez ha)).1).1 k hk
theorem jyl {b:Bl} (h:wfB b) (p:Nat):(∀k∈kS (kn b.1 b.2 p),okK k)/\(kS (kn b.1 b.2 p)).Pairwise λa b=>slt a b=true:=by
 by_cases e:∃ys,Kno (kn b.1 b.2 p) ys
 ·obtain⟨ys,hy⟩:=e;rw[jym hy];exact⟨λk hk=>j3o h p k ((hy.2.2 k).mp hk),hy.up⟩
 ·have:kS (kn b.1 b.2 p)=[]:=by unfold kS;rw[dif_neg e]
  rw[this];exact Af (λk hk=>nomatch hk) List.Pairwise.nil
theorem jtu {L k:Nat} {x:Str} (h:Th L k (.str x)):Eg x=true:=by cases h;assumption
theorem jrp:∀{ys:List Str} {ds:List Ab},prsB ys ds=true->∃L:List (Str×Ab),ds=L.map prD2/\L.map (·.1)=ys/\∀q∈L,jan q.2=true
 |[],[],_=>⟨[],rfl,rfl,λq hq=>nomatch hq⟩
 |[],d::ds,h=>by cases h
 |y::ys,[],h=>by cases h
 |y::ys,d::ds,h=>by
  unfold prsB at h
  split at h
  ·rename_i e;cases e
  ·rename_i y' ys' x v ds' e1 e2;cases e1;cases e2;rw[A4,A4]at h;obtain⟨L,rfl,e,hL⟩:=jrp h.2.2;have hx:=of_decide_eq_true h.1;exact⟨(x,v)::L,rfl,by rw[Bi,e,hx],λq hq=>(Am.mp hq).elim (λz=>z▸h.2.1) (hL q)⟩
  ·cases h
theorem jrq:∀(L:List (Str×Ab)) (ys:List Str),(∀q∈L,jan q.2=true)->prsB ys (L.map prD2)=decide (L.map (·.1)=ys)
 |[],[],_=>rfl
 |[],y::ys,_=>rfl
 | (x,v)::L,[],_=>rfl
 | (x,v)::L,y::ys,h=>by
  have ih:=jrq L ys λq hq=>h q (Aw _ hq);show(decide (x=y)&&(jan v&&prsB ys (L.map prD2)))=decide (x::L.map (·.1)=y::ys);rw[ih,h (x,v) Au,Di];by_cases e1:x=y
  ·by_cases e2:L.map (·.1)=ys
   ·rw[decide_eq_true e1,decide_eq_true e2,decide_eq_true (by rw[e1,e2])];rfl
   ·rw[decide_eq_false e2,decide_eq_false (λz=>e2 (Dl z).2),Fz]
  ·rw[decide_eq_false e1,decide_eq_false (λz=>e1 (Dl z).1)];rfl
theorem j0e:∀L:List (Str×Ab),risP (L.map prD2)=jly ((L.map (·.1)).map .str)
 |[]=>rfl
 |[_]=>rfl
 |a::b::L=>by
  have ih:=j0e (b::L);show(decide (a.1.cps.toList < b.1.cps.toList)&&risP ((b::L).map prD2))=_;rw[ih];rfl
theorem j3k {ds:List Ab} (h:ds.all nvB=true):∃L:List (Str×Ab),ds=L.map prD2/\∀q∈L,letB 4 (.str q.1)=true/\jan q.2=true:=jou (f:=prD2) (P:=λq=>letB 4 (.str q.1)=true/\jan q.2=true) λd hd=>by
 obtain⟨x,v,rfl,h1,h2⟩:=jyg (Bt.mp h d hd);exact⟨(x,v),⟨h1,h2⟩,rfl⟩
theorem j1a {b:Bl} (wf:wfB b) {p:Nat} {d:Ab} (h:nmB (kS (kn b.1 b.2 p)) d=true):nmsB d=true:=by
 obtain⟨h1,h2⟩:=jyl wf p;cases d with
 |tuple ds =>
  obtain⟨L,rfl,e,hv⟩:=jrp h;show((L.map prD2).all nvB&&risP (L.map prD2))=true;rw[j0e,e,(joj _).mpr h2,Bool.and_true,E4];refine Bt.mpr λq hq=>?_;show(letB 4 (.str q.1)&&jan q.2)=true;rw[hv q hq,(h1 q.1 (by rw[<-e];exact Gg hq)).1];rfl
 |_=>cases h
theorem jeg:∀ws n Q,jtl ws n Q->ws.length=2:=λws n Q h=>by obtain⟨_,_,rfl,_⟩:=h;rfl
theorem jow {ks:List Str} (h:∀k∈ks,Eg k=true):Cb (jbl ks)=true/\Cu (jbl ks)<=20:=by
 have:En (ks.map .str)=true/\Fj (ks.map .str)<=0:=by
  induction ks with
  |nil=>exact⟨rfl,Al _⟩
  |cons k r ih =>
   obtain⟨a1,a2⟩:=ih λx hx=>h x (Aw _ hx);rw[Bi];refine⟨?_,?_⟩
   ·rw[En,a1,Cb,h k Au];rfl
   ·rw[Fj,Cu];omega
 refine⟨?_,?_⟩
 ·show Cb (.tuple (ks.map .str))=true;rw[Cb];exact this.1
 ·show Cu (.tuple (ks.map .str))<=20;rw[Cu];omega
theorem jd1:∀ws n Q,jtl ws n Q->jcd (jam ["program","hand"] ws) n {nx:=λ_ n=>Q (.d .none) n,rt:=Q}:=λws n Q h=>by
 obtain⟨P,h3,rfl,wf,hp,ok,q⟩:=h;obtain⟨i,p,b,e3,hb,hpl⟩:=j0n hp;obtain⟨a0,b0,c⟩:=h3;cases e3;have wb:=wf b (B5 hb);have ek:knH (P,(.int i,.int p,c))=nmB (kS (kn b.1 b.2 p)) c:=by
  show(match P[i]? with | some b=>nmB (kS (kn b.1 b.2 p)) c | none=>false)=_;rw[hb]
 rw[ek]at q;show jcd [some (.w (.d (prD P))),some (.w (.d (.tuple [.int i,.int p,c])))] n _;have hn:∀Q:Bool->Int->Prop,Q (!nmsB c) n->cNot (cT (jad (spJ nmsB) (jaa (w2 (wVar 1) (wC (.int (2))) gIx) aNil))) [some (.w (.d (prD P))),some (.w (.d (.tuple [.int i,.int p,c])))] n Q:=λQ q=>jax (k:=nmsB c) (λQ q=>ct_b (k:=nmsB c) (λQ q=>j1_i (g:=nmsB) (λQ q=>w2_i (jab rfl (c_i (g2_i q)))) Q q) q) q;cases hc:nmsB c with
 |false =>
  rw[hc]at hn;have:nmB (kS (kn b.1 b.2 p)) c=false:=by
   cases e:nmB (kS (kn b.1 b.2 p)) c with
   |false=>rfl
   |true=>rw[j1a wb e]at hc;cases hc
  rw[this]at q;exact jae (if_y hn (jal (c_i q)))
 |true =>
  rw[hc]at hn;refine jae (if_n hn ?_);dsimp only[jai];cases c with
  |tuple ds =>
   have hc:(ds.all nvB&&risP ds)=true:=hc;rw[A4]at hc;obtain⟨L,rfl,hL⟩:=j3k hc.1;have q:Q (.d (.bool (prsB (kS (kn b.1 b.2 p)) (L.map prD2)))) n:=q;rw[jrq L _ λq hq=>(hL q hq).2]at q;have sn:∀k∈L.map (·.1),Eg k=true:=λk hk=>by
    obtain⟨r,hr,rfl⟩:=Ce.mp hk;obtain⟨Lw,kk,hT,_,_⟩:=ok;have h1:=hT.mem (prD2 r) (Gg hr);have h2:=Th.mem (ds:=[.str r.1,r.2]) h1 (.str r.1) Au;exact jtu h2
   refine jal (w2_i (b1_i (of_i (jek (ds:=L.map prD2) (λQ q=>w2_i (jab rfl (c_i (g2_i q)))) ?_))));show jbe _ _ _ _ _ _ [none] n;refine jy2 prD2 (λq=>.str q.1) L [] none n (λq _ n Q' k=>jcc rfl k) ?_;rw[Ct];refine c3_i (jab rfl (jcc rfl (jgv rfl ⟨P,i,p,b,rfl,hb,wb,hpl,λhK=>?_⟩)));have l1:=jow sn;have l2:=jow λk hk=>((jyl wb p).1 k hk).2;have em:(L.map λq=>C4 q.1)=(L.map (·.1)).map .str:=by rw[List.map_map];rfl
   rw[em];refine⟨l1.1,l2.1,l1.2,l2.2,_,rfl,?_⟩;show Q (.d (.bool (Cn (.tuple ((L.map (·.1)).map .str)) (.tuple ((kS (kn b.1 b.2 p)).map .str))))) n;rw[Cn,joz];exact q
  |_=>cases hc
theorem j2l {α β:Type} {w:DT} {Q:List Ab->Int->Prop} (f:α->Ab) (g:β->Ab) (p:α×β->Bool):∀(xs:List α) (ys:List β) (acc:List Ab) (x y:Option SV) (n:Int),(∀q∈xs.zip ys,∀(n:Int) (Q':DQ),Q' (.d (.bool (p q))) n->w [some (.w (.d (f q.1))),some (.w (.d (g q.2)))] n Q')->Q (acc++(xs.zip ys).map λq=>.bool (p q)) n->jbe (jbb 2 (jah (jac 0) (jah (jac 1) ja0))) cYes w Q (zipD (xs.map f) (ys.map g)) acc [x,y] n
 |[],ys,acc,x,y,n,_,q=>by
  rw[List.zip_nil_left,Cf,Bu]at q;cases ys<;>exact q
 |a::xs,[],acc,x,y,n,_,q=>by
  rw[List.zip_nil_right,Cf,Bu]at q;exact q
 |a::xs,b::ys,acc,x,y,n,h,q=>by
  rw[Gk]at h q;refine Af rfl ?_;dsimp only[jah,ja0,jac,A0,cYes];rw[if_pos rfl];refine h (a,b) Au n _ ?_;refine j2l f g p xs ys _ _ _ n (λr hr=>h r (Aw _ hr)) ?_;rw[Bo];exact q
theorem jwq {α β:Type} {δ:Sl} {n:Int} {Q:DQ} {w:DT} {i j:Nat} (f:α->Ab) (g:β->Ab) (p:α×β->Bool) (xs:List α) (ys:List β) (hl:xs.length=ys.length) (e1:δ[i]?=some (some (.w (.d (.tuple (xs.map f)))))) (e2:δ[j]?=some (some (.w (.d (.tuple (ys.map g)))))) (h:∀q∈xs.zip ys,∀(n:Int) (Q':DQ),Q' (.d (.bool (p q))) n->w [some (.w (.d (f q.1))),some (.w (.d (g q.2)))] n Q') (q:Q (.d (.bool ((xs.zip ys).all p))) n) :
  wB gAll (jaa (wOf (jat [none,none] (ji2 (wVar i) (wVar j)) (jbb 2 (jah (jac 0) (jah (jac 1) ja0))) cYes w)) aNil) δ n Q:=by
 refine b1_i (of_i ?_);unfold jat ji2;refine jab e1 (jab e2 ?_);dsimp only;refine Af (by rw[Ae,Ae];exact hl) ?_;show jbe _ _ _ _ _ [] [none,none] n;refine j2l f g p xs ys [] none none n h ?_;rw[Ct];show(match jbn ((xs.zip ys).map λc=>.bool (p c))with | some bs=>Q (.d (.bool (bs.all id))) n | none=>False);rw[jhw];show Q (.d (.bool (((xs.zip ys).map p).all id))) n;rw[E4];exact q
theorem jz3 {d:Ab} (h:sfB d=true):∃(T:List H3) (ns:List Ab),d=.tuple [.tuple (T.map h3D),.tuple ns]:=by
 cases d with
 |tuple ds =>
  obtain⟨a,b,rfl⟩:=len2 (jrd ds h);have h:(hfB a&&jjm b)=true:=h;rw[A4]at h;cases a with
  |tuple hs =>
   cases b with
   |tuple ns =>
    obtain⟨T,rfl,_⟩:=jou (f:=h3D) (P:=λ_=>True) (ds:=hs) λx hx=>by
     have:=Bt.mp (show hs.all is3=true from h.1) x hx;cases x with
     |tuple es =>
      rw[jnw]at this;have:=of_decide_eq_true this
      match es,this with
      |[a,b,c],_=>exact⟨(a,b,c),trivial,rfl⟩
     |_=>cases this
    exact⟨T,ns,rfl⟩
   |_=>cases h.2
  |_=>cases h.1
 |_=>cases h
theorem j04 {T:List H3} {ns:List Ab} (h:okT (.tuple [.tuple (T.map h3D),.tuple ns])):(∀t∈T,okT t.2.2)/\∀x∈ns,okT x:=by
 obtain⟨L,k,hT,hL,hk⟩:=h;have h1:=hT.mem (.tuple (T.map h3D)) (by simp);have h2:=hT.mem (.tuple ns) (by simp);refine⟨λt ht=>?_,λx hx=>⟨L,k - 1 - 1,h2.mem x hx,hL,by omega⟩⟩;have h3:=h1.mem (h3D t) (Gg ht);exact⟨L,k - 1 - 1 - 1,Th.mem (ds:=[t.1,t.2.1,t.2.2]) h3 t.2.2 (by simp),hL,by omega⟩
theorem jkc {α β:Type} {xs:List α} {ys:List β} {q:α×β} (h:q∈xs.zip ys):q.1∈xs/\q.2∈ys:=⟨(Gd h).1,(Gd h).2⟩
theorem sf_y (T:List H3) (ns:List Ab):sfB (.tuple [.tuple (T.map h3D),.tuple ns])=true:=by
 show((T.map h3D).all is3&&true)=true;rw[Bool.and_true,E4];exact Bt.mpr λ_ _=>rfl
theorem jf7:∀ws n Q,jdn ws n Q->ws.length=2:=λws n Q h=>by obtain⟨_,_,rfl,_⟩:=h;rfl
theorem jkz:∀ws n Q,jdn ws n Q->jjt (jam ["programs","thing","hands"] ws) n {nx:=λ_ n=>Q (.d .none) n,rt:=Q}:=λws n Q h=>by
 obtain⟨ps,d,rfl,okp,ok,k⟩:=h;show jjt [some (.w (.d (.tuple (ps.map prD)))),some (.w (.d d)),none] n _;have hs:∀Q:Bool->Int->Prop,Q (!sfB d) n->cNot (cT (jad (spJ sfB) (jaa (wVar 1) aNil))) [some (.w (.d (.tuple (ps.map prD)))),some (.w (.d d)),none] n Q:=λQ q=>jax (k:=sfB d) (λQ q=>ct_b (k:=sfB d) (λQ q=>j1_i (g:=sfB) (λQ q=>jab rfl q) Q q) q) q;cases hf:sfB d with
 |false =>
  rw[hf]at hs;exact jae (if_y hs (jal (c_i (k _ (.inl ⟨hf,rfl⟩)))))
 |true =>
  rw[hf]at hs;obtain⟨T,ns,rfl⟩:=jz3 hf;refine jae (if_n hs ?_);dsimp only[jai];refine jae (jlx (x:=.tuple (T.map h3D)) (λQ q=>jcc rfl q) ?_);dsimp only[A0];obtain⟨okh,okn⟩:=j04 ok;have fin:∀r,r=fltT ps T ns->Q (.d r) n:=λr e=>k r (.inr ⟨T,ns,rfl,e⟩);have hl:∀Q:Bool->Int->Prop,Q (!decide (T.length=ps.length)) n->cT (w2 (wB gLen (jaa (wVar 2) aNil)) (wB gLen (jaa (wVar 0) aNil)) gNe) [some (.w (.d (.tuple (ps.map prD)))),some (.w (.d (.tuple [.tuple (T.map h3D),.tuple ns]))),some (.w (.d (.tuple (T.map h3D))))] n Q:=λQ q=>ct_b (k:=!decide (T.length=ps.length)) (λQ q=>w2_i (jff rfl (jff rfl (show Q (.d (.bool (!decide (((T.map h3D).length:Int)=((ps.map prD).length:Int))))) n by rw[Ae,Ae,show decide ((T.length:Int)=(ps.length:Int))=decide (T.length=ps.length)from decide_eq_decide.mpr (by omega)];exact q)))) q;by_cases h1:T.length=ps.length
  ·rw[decide_eq_true h1]at hl;refine jae (if_n hl ?_);dsimp only[jai];have h2:∀Q:Bool->Int->Prop,Q (!(ps.zip T).all plH) n->cNot (cT (wB gAll (jaa (wOf (jat [none,none] (ji2 (wVar 0) (wVar 2)) (jbb 2 (jah (jac 0) (jah (jac 1) ja0))) cYes (jad jtk (jaa (wVar 0) (jaa (wVar 1) aNil))))) aNil))) [some (.w (.d (.tuple (ps.map prD)))),some (.w (.d (.tuple [.tuple (T.map h3D),.tuple ns]))),some (.w (.d (.tuple (T.map h3D))))] n Q:=λQ q=>jax (k:=(ps.zip T).all plH) (λQ q=>ct_b (k:=(ps.zip T).all plH) (λQ q=>jwq prD h3D plH ps T h1.symm rfl rfl (λr _ n Q' q=>c2_i (jab rfl (jab rfl ⟨r.1,r.2,rfl,q⟩))) q) q) q;cases hp:(ps.zip T).all plH with
   |false =>
    rw[hp]at h2;exact jae (if_y h2 (jal (c_i (fin _ (by unfold fltT;rw[if_pos h1,hp];rfl)))))
   |true =>
    rw[hp]at h2;refine jae (if_n h2 ?_);dsimp only[jai];have h3:∀Q:Bool->Int->Prop,Q (!(ps.zip T).all knH) n->cNot (cT (wB gAll (jaa (wOf (jat [none,none] (ji2 (wVar 0) (wVar 2)) (jbb 2 (jah (jac 0) (jah (jac 1) ja0))) cYes (jad jtl (jaa (wVar 0) (jaa (wVar 1) aNil))))) aNil))) [some (.w (.d (.tuple (ps.map prD)))),some (.w (.d (.tuple [.tuple (T.map h3D),.tuple ns]))),some (.w (.d (.tuple (T.map h3D))))] n Q:=λQ q=>jax (k:=(ps.zip T).all knH) (λQ q=>ct_b (k:=(ps.zip T).all knH) (λQ q=>jwq prD h3D knH ps T h1.symm rfl rfl (λr hr n Q' q=>c2_i (jab rfl (jab rfl ⟨r.1,r.2,rfl,(okp.2 r.1 (jkc hr).1).2.2,Bt.mp hp r hr,okh r.2 (jkc hr).2,q⟩))) q) q) q;cases hk:(ps.zip T).all knH with
    |false =>
     rw[hk]at h3;exact jae (if_y h3 (jal (c_i (fin _ (by unfold fltT;rw[if_pos h1,hp,hk];rfl)))))
    |true =>
     rw[hk]at h3;refine jae (if_n h3 ?_);dsimp only[jai];have h4:∀Q:Bool->Int->Prop,Q (!ns.all jcb) n->cNot (cT (wB gAll (jaa (wOf (jat [none] (ja4 (w2 (wVar 1) (wC (.int (1))) gIx)) (jac 0) cYes (jad (spJ jcb) (jaa (wVar 0) aNil)))) aNil))) [some (.w (.d (.tuple (ps.map prD)))),some (.w (.d (.tuple [.tuple (T.map h3D),.tuple ns]))),some (.w (.d (.tuple (T.map h3D))))] n Q:=λQ q=>jax (k:=ns.all jcb) (λQ q=>ct_b (k:=ns.all jcb) (λQ q=>jth (w:=jad (spJ jcb) (jaa (wVar 0) aNil)) id jcb ns (rest:=[]) (λQ q=>jek (ds:=ns) (λQ q=>jgv rfl q) (by rw[Eh]at q;exact q)) (λd hd n Q' q=>j1_i (g:=jcb) (λQ q=>jab rfl q) Q' q) q) q) q;cases hn:ns.all jcb with
     |false =>
      rw[hn]at h4;exact jae (if_y h4 (jal (c_i (fin _ (by unfold fltT;rw[if_pos h1,hp,hk,hn];rfl)))))
     |true =>
      rw[hn]at h4;refine jae (if_n h4 ?_);dsimp only[jai];exact jal (c_i (fin _ (by unfold fltT;rw[if_pos h1,hp,hk,hn];rfl)))
  ·rw[decide_eq_false h1]at hl;exact jae (if_y hl (jal (c_i (fin _ (by unfold fltT;rw[if_neg h1])))))
theorem jix:∀ws n Q,jdl ws n Q->ws.length=2:=jev
abbrev Zg:List Str:=["_law_thing","_law_most"]
theorem jhz:∀ws n Q,jdl ws n Q->jgb (jam Zg ws) n {nx:=λ_ n=>Q (.d .none) n,rt:=Q}:=λws n Q h=>by
 obtain⟨d,hi,rfl,q⟩:=h;show jgb [some (.w (.d d)),some (.w (.d (.int hi)))] n _;refine jal ?_;have nb:∀(d:Ab) (b:Bool),isiB "bool" d=b->∀Q:DQ,Q (.d (.bool (!b))) n->wNot (wIsi "bool" (wVar 0)) [some (.w (.d d)),some (.w (.d (.int hi)))] n Q:=λd b e Q q=>by
  subst e;exact q
 cases d with
 |int j =>
  refine jb9 (a:=true) (b:=jbv 0 hi (.int j)) (λQ q=>jfl (d:=.int j) (λQ q=>jab rfl q) Q q) (λ_ Q q=>?_) q;refine jb9 (a:=true) (b:=jbv 0 hi (.int j)) (λQ q=>nb _ false rfl Q q) (λ_ Q q=>?_) q;exact jkt (λQ q=>c_i q) (λQ q=>jab rfl q) (λQ q=>jab rfl q) q
 |bool j =>
  refine jb9 (a:=true) (b:=false) (λQ q=>jfl (d:=.bool j) (λQ q=>jab rfl q) Q q) (λ_ Q q=>?_) q;exact jb9 (a:=false) (b:=false) (λQ q=>nb _ true rfl Q q) (λz=>nomatch z) q
 |_=>exact jb9 (a:=false) (b:=false) (λQ q=>q) (λz=>nomatch z) q
theorem jz2 {ws:List Wv} {n:Int} {Q:DQ} (h:jeq ws n Q):∃(d:Ab) (k:Int),ws=[.d d,.d (.int k)]/\Q (.d (.bool (letB k d))) n:=by
 unfold jeq at h
 split at h
 ·exact⟨_,_,rfl,h⟩
 ·exact h.elim
theorem j1e {δ:Sl} {n:Int} {Q:DQ} {i:Nat} {x:Str} (e:δ[i]?=some (some (.w (.d (.str x))))) (k:Q (.d (.int x.length)) n):wB gLen (jaa (wVar i) aNil) δ n Q:=b1_i (jab e k)
theorem jfi:∀ws n Q,jeq ws n Q->ws.length=2:=λws n Q h=>by obtain⟨_,_,rfl,_⟩:=jz2 h;rfl
theorem je5:∀ws n Q,jeq ws n Q->jdi (jam Zg ws) n {nx:=λ_ n=>Q (.d .none) n,rt:=Q}:=λws n Q h=>by
 obtain⟨d,k,rfl,q⟩:=jz2 h;show jdi [some (.w (.d d)),some (.w (.d (.int k)))] n _;cases d with
 |str x =>
  have q:Q (.d (.bool (decide ((1:Int)<=(x.length:Int))&&(decide ((x.length:Int)<=k)&&x.cps.toList.all okS)))) n:=q;rw[<-Bool.and_assoc]at q;have hc:∀Q:Bool->Int->Prop,Q (!(decide ((1:Int)<=(x.length:Int))&&decide ((x.length:Int)<=k))) n->cNot (cT (ja3 gLe gLe (wC (.int (1))) (wB gLen (jaa (wVar 0) aNil)) (wVar 1))) [some (.w (.d (.str x))),some (.w (.d (.int k)))] n Q:=λQ q=>jax (k:=decide ((1:Int)<=(x.length:Int))&&decide ((x.length:Int)<=k)) (λQ q=>ct_b (λQ q=>jkt (λQ q=>c_i q) (λQ q=>j1e rfl q) (λQ q=>jab rfl q) q) q) q;have hs:∀Q:Bool->Int->Prop,Q false n->cNot (cT (wIsi "str" (wVar 0))) [some (.w (.d (.str x))),some (.w (.d (.int k)))] n Q:=λQ q=>jax (k:=true) (λQ q=>ct_b (k:=true) (λQ q=>jfl (d:=.str x) (λQ q=>jab rfl q) Q q) q) q;cases hb:(decide ((1:Int)<=(x.length:Int))&&decide ((x.length:Int)<=k))with
  |false =>
   rw[hb]at q hc;exact jae (if_y (λQ q=>c_or (a:=false) (b:=true) hs (λ_ Q q=>hc Q q) q) (jal (c_i q)))
  |true =>
   rw[hb,Di]at q;rw[hb]at hc;refine jae (if_n (λQ q=>c_or (a:=false) (b:=false) hs (λ_ Q q=>hc Q q) q) ?_);dsimp only[jai];refine jal (w2_i (of_i ?_));unfold jat jfm;refine jab rfl ?_;show jbe _ _ _ _ (jcx x) [] [none] n;unfold jcx;refine js6 (λc=>.str ⟨#[c]⟩) (λc=>.str ⟨#[c]⟩) (λc=>!okS c) x.cps.toList [] none n (λc _ n Q' q=>ct_b (k:=!okS c) (λQ q=>w2_i (jab rfl (c_i ?_))) q) (λc _ n Q' q=>jab rfl q) ?_
   ·show Q (.d (.bool (!occB ⟨#[c]⟩ "abcdefghijklmnopqrstuvwxyz"))) n;rw[j05];exact q
   ·rw[Ct];refine jc9 ?_;show Q (.d (.bool ((x.cps.toList.filter λc=>!okS c).map λc=>C4 ⟨#[c]⟩).isEmpty)) n;rw[jf8];have:(x.cps.toList.all λa=>!!okS a)=x.cps.toList.all okS:=by congr 1;funext c;exact Bool.not_not _
    rw[this];exact q
 |_=>exact jae (if_y (λQ q=>c_or (a:=true) (b:=true) (λQ q=>jax (k:=false) (λQ q=>ct_b (k:=false) (λQ q=>q) q) q) (λz=>nomatch z) q) (jal (c_i q)))
theorem jfh:∀ws n Q,spJ jan ws n Q->ws.length=1:=λ_ _ _ h=>jbo h
theorem je4:∀ws n Q,spJ jan ws n Q->jdh (jam ["_law_thing"] ws) n {nx:=λ_ n=>Q (.d .none) n,rt:=Q}:=jfv λd n K q=>by
 show jdh [some (.w (.d d))] n K;exact jal (or_v (a:=letB 8 d) (b:=numB d) (λQ q=>c2_i (jab rfl (c_i (show jeq _ _ _ from q)))) (λ_ Q q=>c2_i (jab rfl (c_i ⟨d,99,rfl,q⟩))) q)
theorem jnp {ds:List Ab} (h:okT (.tuple ds)):∀d∈ds,okT d:=λd hd=>by
 obtain⟨L,k,hT,hL,hk⟩:=h;exact⟨L,k - 1,hT.mem d hd,hL,by omega⟩
theorem jp2 {ds:List Ab} {p:Ab->Bool} (h:okT (.tuple ds)):Cb (.list (ds.filter p))=true/\Cu (.list (ds.filter p))<=20:=by
 obtain⟨L,k,hT,hL,hk⟩:=h;have:=jyk (k:=k) (ds.filter p) λx hx=>by
  have:=(hT.mem x (Ge.mp hx).1).lay;exact⟨this.1,by omega⟩
 exact⟨this.1,by omega⟩
theorem jur:∀ds,jcb (.tuple ds)=true->ds.length=2:=λds h=>by
 rcases ds with _ | ⟨a,_ | ⟨b,_ | ⟨c,r⟩⟩⟩
 ·cases h
 ·cases h
 ·rfl
 ·cases h
theorem jn2 {δ:Sl} {n:Int} {w:DT} {c:DTT} {ds:List Ab} {g:Ab->Bool} {fr:List (Option Nat)} (ok:okT (.tuple ds)) (hw:∀Q:DQ,Q (.d (.tuple ds)) n->w δ n Q) (hf:jcq fr δ=[none]) (hc:∀x∈ds,∀(n:Int) (Q:Bool->Int->Prop),Q (!g x) n->c [some (.w (.d x))] n Q):∀Q:Bool->Int->Prop,Q (!ds.all g) n->cT (w2 (wOf (jat fr (ja4 w) (jac 0) c (wVar 0))) (wOf (fLst aNil)) (gXX λd e=>some (!Cn d e))) δ n Q:=λQ q=>by
 refine ct_b (k:=!ds.all g) (λQ q=>w2_i (of_i (jek (ds:=ds) hw ?_))) q;rw[hf];have:=js6 (c:=c) (w:=wVar 0) (Q:=λl n=>wOf (fLst aNil) δ n λy n2=>gXX (λd e=>some (!Cn d e)) (.d (.list l)) y n2 Q) (rest:=[]) id id (λd=>!g d) ds [] none n hc (λx _ n Q' q=>jab rfl q) (by
  rw[Ct,Eh];refine jc9 (j3m (jp2 ok) ?_);rw[jus];exact q)
 rw[Eh]at this;exact this
theorem jvn (b:Ab):ageB b=(jda b || (jbv 0 20 b&&(match b with | .int i=>decide ((0:Int) < i) | _=>false))):=by
 cases b with
 |int i =>
  show(false || (decide ((1:Int)<=i)&&decide (i<=20)))=(false || ((decide ((0:Int)<=i)&&decide (i<=20))&&decide ((0:Int) < i)));by_cases h:(0:Int) < i
  ·rw[decide_eq_true h,decide_eq_true (show(1:Int)<=i by omega),decide_eq_true (show(0:Int)<=i by omega)];simp
  ·rw[decide_eq_false h,decide_eq_false (show ¬(1:Int)<=i by omega)];simp
 |_=>rfl
theorem jgu:∀ws n Q,jig ws n Q->ws.length=1:=λws n Q h=>by obtain⟨_,rfl,_⟩:=h;rfl
theorem jfu:∀ws n Q,jig ws n Q->jd9 (jam ["_law_thing","_law_row","_law_age_here"] ws) n {nx:=λ_ n=>Q (.d .none) n,rt:=Q}:=λws n Q h=>by
 obtain⟨d,rfl,ok,q⟩:=h;show jd9 [some (.w (.d d)),none,none] n _;cases d with
 |tuple ds =>
  by_cases h2:ds.length=2
  ·obtain⟨a,b,rfl⟩:=len2 h2;have q:Q (.d (.bool (rowB a&&ageB b))) n:=q;refine jae (if_n (λQ q=>c_or (a:=false) (b:=false) (nt_i rfl) (λ_ Q q=>jd4 (ds:=[a,b]) rfl Q q) q) ?_);dsimp only[jai];refine jae (show sUnp _ _ _ _ _ from jab rfl (Af rfl ?_));dsimp only[jah,ja0,jac,A0];have last:Q (.d (.bool (ageB b))) n->sRet (wOr (w2 (wVar 2) (wC .none) (gIsN false)) (wAnd (jad jdl (jaa (wVar 2) (jaa (wC (.int (20))) aNil))) (w2 (wVar 2) (wC (.int (0))) gGt))) [some (.w (.d (.tuple [a,b]))),some (.w (.d a)),some (.w (.d b))] n {nx:=λ_ n=>Q (.d .none) n,rt:=Q}:=λq=>by
    rw[jvn]at q;refine jal (or_v (a:=jda b) (λQ q=>w2_i (jab rfl (c_i q))) (λ_ Q q=>?_) q);refine jb9 (a:=jbv 0 20 b) (λQ q=>c2_i (jab rfl (c_i ⟨b,20,rfl,q⟩))) (λh Q q=>?_) q;cases b with
    |int i=>exact w2_i (jab rfl (c_i q))
    |_=>cases h
   cases a with
   |tuple es =>
    have oke:=jnp ok (.tuple es) (by simp);have hc:∀Q:Bool->Int->Prop,Q (!(decide ((1:Int)<=(es.length:Int))&&decide ((es.length:Int)<=4))) n->cNot (cT (ja3 gLe gLe (wC (.int (1))) (wB gLen (jaa (wVar 1) aNil)) (wC (.int (4))))) [some (.w (.d (.tuple [.tuple es,b]))),some (.w (.d (.tuple es))),some (.w (.d b))] n Q:=λQ q=>jax (k:=decide ((1:Int)<=(es.length:Int))&&decide ((es.length:Int)<=4)) (λQ q=>ct_b (λQ q=>jkt (λQ q=>c_i q) (λQ q=>jff rfl q) (λQ q=>c_i q) q) q) q;have hv:∀Q:Bool->Int->Prop,Q (!es.all jan) n->cT (w2 (wOf (jat [none] (ja4 (wVar 1)) (jac 0) (cNot (cT (jad (spJ jan) (jaa (wVar 0) aNil)))) (wVar 0))) (wOf (fLst aNil)) (gXX λd e=>some (!Cn d e))) [some (.w (.d (.tuple [.tuple es,b]))),some (.w (.d (.tuple es))),some (.w (.d b))] n Q:=jn2 oke (λQ q=>jab rfl q) rfl λx _ n Q q=>jax (k:=jan x) (λQ q=>ct_b (k:=jan x) (λQ q=>j1_i (g:=jan) (λQ q=>jab rfl q) Q q) q) q;have q:Q (.d (.bool ((decide ((1:Int)<=(es.length:Int))&&(decide ((es.length:Int)<=4)&&es.all jan))&&ageB b))) n:=q;rw[<-Bool.and_assoc (decide ((1:Int)<=(es.length:Int)))]at q;cases hb:(decide ((1:Int)<=(es.length:Int))&&decide ((es.length:Int)<=4))with
    |false =>
     rw[hb]at q hc;exact jae (if_y (λQ q=>c_or (a:=false) (b:=true) (nt_i rfl) (λ_ Q q=>c_or (a:=true) (b:=true) hc (λz=>nomatch z) q) q) (jal (c_i q)))
    |true =>
     rw[hb,Di]at q;rw[hb]at hc;cases ha:es.all jan with
     |false =>
      rw[ha]at q hv;exact jae (if_y (λQ q=>c_or (a:=false) (b:=true) (nt_i rfl) (λ_ Q q=>c_or (a:=false) (b:=true) hc (λ_ Q q=>hv Q q) q) q) (jal (c_i q)))
     |true =>
      rw[ha,Di]at q;rw[ha]at hv;refine jae (if_n (λQ q=>c_or (a:=false) (b:=false) (nt_i rfl) (λ_ Q q=>c_or (a:=false) (b:=false) hc (λ_ Q q=>hv Q q) q) q) ?_);dsimp only[jai];exact last q
   |_=>exact jae (if_y (λQ q=>c_or (a:=true) (b:=true) (λQ q=>jax (k:=false) (λQ q=>ct_b (k:=false) (λQ q=>q) q) q) (λz=>nomatch z) q) (jal (c_i q)))
  ·rw[jn7 jur h2]at q;have e2:decide ((ds.length:Int)=2)=false:=decide_eq_false (by omega);exact jae (if_y (λQ q=>c_or (a:=false) (b:=true) (nt_i rfl) (λ_ Q q=>jd4 rfl Q (by rw[e2];exact q)) q) (jal (c_i q)))
 |_=>exact jae (if_y (λQ q=>c_or (a:=true) (b:=true) (λQ q=>jax (k:=false) (λQ q=>ct_b (k:=false) (λQ q=>q) q) q) (λz=>nomatch z) q) (jal (c_i q)))
theorem forZ {α β:Type} {G:DTG} {W:DST} {K:DEnds} {Z:Prop} {n:Int} (f:α->Ab) (g:β->Ab) (p:α×β->Bool) (I:Sl->Prop):∀(xs:List α) (ys:List β),
  (∀q∈xs.zip ys,∀(δ:Sl) (N:Sl->Int->Prop),I δ->(p q=true->∀δ',I δ'->N δ' n)->(p q=false->Z)->G (.tuple [f q.1,g q.2]) δ λδ'=>W δ' n {K with nx:=N,ct:=N,bk:=K.nx}) ->
  (∀δ,I δ->(xs.zip ys).all p=true->K.nx δ n)->((xs.zip ys).all p=false->Z)->∀δ,I δ->forD G W K (zipD (xs.map f) (ys.map g)) δ n
 |[],ys,_,e,_,δ,i=>by
  have:zipD (([]:List α).map f) (ys.map g)=[]:=by cases ys<;>rfl
  rw[this];exact e δ i (by rw[List.zip_nil_left];rfl)
 |a::xs,[],_,e,_,δ,i=>e δ i (by rw[List.zip_nil_right];rfl)
 |a::xs,b::ys,h,e,no,δ,i=>by
  rw[Gk]at h no;rw[Gk]at e;refine h (a,b) Au δ _ i (λhp δ' i'=>?_) λhp=>no (by rw[Dt,hp];rfl);exact forZ f g p I xs ys (λq hq=>h q (Aw _ hq)) (λδ i ha=>e δ i (by rw[Dt,hp,ha];rfl)) (λha=>no (by rw[Dt,ha,Fz])) δ' i'
def pvB (q:Ab×Str):Bool:=match q.1 with
 |.tuple [.str x,v]=>decide (x=q.2)&&jan v
 |_=>false
theorem juh (y:Str) (ys:List Str) (d:Ab) (ds:List Ab):prsB (y::ys) (d::ds)=(pvB (d,y)&&prsB ys ds):=by
 cases d with
 |tuple es =>
  rcases es with _ | ⟨a,_ | ⟨b,_ | ⟨c,r⟩⟩⟩
  ·rfl
  ·cases a<;>rfl
  ·cases a with
   |str x=>exact(Bool.and_assoc _ _ _).symm
   |_=>rfl
  ·cases a<;>rfl
 |_=>rfl
theorem jro:∀(ys:List Str) (ds:List Ab),ds.length=ys.length->prsB ys ds=(ds.zip ys).all pvB
 |[],[],_=>rfl
 |[],_::_,h=>by cases h
 |_::_,[],h=>by cases h
 |y::ys,d::ds,h=>by
  rw[juh,Gk,Dt,jro ys ds (by simpa using h)]
theorem jxs:∀{ys:List Str} {ds:List Ab},prsB ys ds=true->ds.length=ys.length:=λ{ys ds} h=>by
 obtain⟨L,rfl,e,_⟩:=jrp h;rw[<-e,Ae,Ae]
theorem jez:∀ws n Q,jmz ws n Q->ws.length=2:=λws n Q h=>by obtain⟨_,_,rfl,_⟩:=h;rfl
theorem jss {x y:Str} {n:Int} {Q:DQ} (k:Q (.d (.bool (!decide (x=y)))) n):gNe (.d (.str x)) (.d (.str y)) n Q:=k
theorem jeo:∀ws n Q,jmz ws n Q->jc1 (jam ["_law_thing","_law_known_here","_law_one","_law_name"] ws) n {nx:=λ_ n=>Q (.d .none) n,rt:=Q}:=λws n Q h=>by
 obtain⟨d,ys,rfl,hy,ok,q⟩:=h;show jc1 [some (.w (.d d)),some (.w (.d (.list (ys.map .str)))),none,none] n _;cases d with
 |tuple ds =>
  have q:Q (.d (.bool (prsB ys ds))) n:=q;have hl:∀Q:Bool->Int->Prop,Q (!decide (ds.length=ys.length)) n->cT (w2 (wB gLen (jaa (wVar 0) aNil)) (wB gLen (jaa (wVar 1) aNil)) gNe) [some (.w (.d (.tuple ds))),some (.w (.d (.list (ys.map .str)))),none,none] n Q:=λQ q=>ct_b (k:=!decide (ds.length=ys.length)) (λQ q=>w2_i (jff rfl (b1_i (jab rfl (show Q (.d (.bool (!decide ((ds.length:Int)=((ys.map C4).length:Int))))) n by rw[Ae,show decide ((ds.length:Int)=(ys.length:Int))=decide (ds.length=ys.length)from decide_eq_decide.mpr (by omega)];exact q))))) q;by_cases h1:ds.length=ys.length
  ·rw[decide_eq_true h1]at hl;refine jae (if_n (λQ q=>c_or (a:=false) (b:=false) (nt_i rfl) (λ_ Q q=>hl Q q) q) ?_);dsimp only[jai];refine jae ?_;unfold sFor jsp;refine jab rfl (jab rfl ?_);dsimp only;refine Af (by rw[Ae];exact h1) ?_;rw[jro ys ds h1]at q;rw[show zipD ds (ys.map .str)=zipD (ds.map id) (ys.map .str) by rw[Eh]];refine forZ (Z:=Q (.d (.bool false)) n) id .str pvB (λδ=>∃x y,δ=[some (.w (.d (.tuple ds))),some (.w (.d (.list (ys.map .str)))),x,y]) ds ys (λr hr δ N I yes no=>?_) (λδ I h=>?_) (λh=>by rw[h]at q;exact q) _ ⟨none,none,rfl⟩
   ·obtain⟨x,y,rfl⟩:=I;obtain⟨a,z⟩:=r;refine Af rfl ?_;dsimp only[jah,ja0,jac,A0];show sSeq _ _ [some (.w (.d (.tuple ds))),some (.w (.d (.list (ys.map .str)))),some (.w (.d a)),some (.w (.d (.str z)))] n _;have quit:pvB (a,z)=false->sRet (wC (.bool false)) [some (.w (.d (.tuple ds))),some (.w (.d (.list (ys.map .str)))),some (.w (.d a)),some (.w (.d (.str z)))] n {nx:=N,rt:=Q,ct:=N,bk:=N}:=λe=>jal (c_i (no e));cases a with
    |tuple es =>
     by_cases h2:es.length=2
     ·obtain⟨u,v,rfl⟩:=len2 h2;have hisi:∀b,isiB "str" u=b->∀Q:Bool->Int->Prop,Q (!b) n->cNot (cT (wIsi "str" (w2 (wVar 2) (wC (.int (0))) gIx))) [some (.w (.d (.tuple ds))),some (.w (.d (.list (ys.map .str)))),some (.w (.d (.tuple [u,v]))),some (.w (.d (.str z)))] n Q:=λb e Q q=>jax (k:=b) (λQ q=>ct_b (k:=b) (λQ q=>jfl (d:=u) (λQ q=>jcc rfl q) Q (by rw[e];exact q)) q) q;cases u with
      |str x =>
       have hx:∀Q:Bool->Int->Prop,Q (!decide (x=z)) n->cT (w2 (w2 (wVar 2) (wC (.int (0))) gIx) (wVar 3) gNe) [some (.w (.d (.tuple ds))),some (.w (.d (.list (ys.map .str)))),some (.w (.d (.tuple [.str x,v]))),some (.w (.d (.str z)))] n Q:=λQ q=>ct_b (k:=!decide (x=z)) (λQ q=>w2_i (jcc rfl (jab rfl (jss q)))) q;have hc:∀Q:Bool->Int->Prop,Q (!decide (x=z)) n->cOr (cNot (cT (wIsi "tuple" (wVar 2)))) (cOr (cT (w2 (wB gLen (jaa (wVar 2) aNil)) (wC (.int (2))) gNe)) (cOr (cNot (cT (wIsi "str" (w2 (wVar 2) (wC (.int (0))) gIx)))) (cT (w2 (w2 (wVar 2) (wC (.int (0))) gIx) (wVar 3) gNe)))) [some (.w (.d (.tuple ds))),some (.w (.d (.list (ys.map .str)))),some (.w (.d (.tuple [.str x,v]))),some (.w (.d (.str z)))] n Q:=λQ q=>c_or (a:=false) (b:=!decide (x=z)) (nt_i rfl) (λ_ Q q=>c_or (a:=false) (b:=!decide (x=z)) (λQ q=>jd4 (ds:=[.str x,v]) rfl Q q) (λ_ Q q=>c_or (a:=false) (b:=!decide (x=z)) (λQ q=>jax (k:=true) (λQ q=>ct_b (k:=true) (λQ q=>jfl (d:=.str x) (λQ q=>jcc rfl q) Q q) q) q) (λ_ Q q=>hx Q q) q) q) q;have hv:∀Q:Bool->Int->Prop,Q (!jan v) n->cNot (cT (jad (spJ jan) (jaa (w2 (wVar 2) (wC (.int (1))) gIx) aNil))) [some (.w (.d (.tuple ds))),some (.w (.d (.list (ys.map .str)))),some (.w (.d (.tuple [.str x,v]))),some (.w (.d (.str z)))] n Q:=λQ q=>jax (k:=jan v) (λQ q=>ct_b (k:=jan v) (λQ q=>j1_i (g:=jan) (λQ q=>jgv rfl q) Q q) q) q;have ep:pvB (.tuple [.str x,v],z)=(decide (x=z)&&jan v):=rfl;by_cases e1:x=z
       ·rw[decide_eq_true e1]at hc ep;refine jae (if_n hc ?_);dsimp only[jai];cases e2:jan v with
        |true =>
         rw[e2]at hv ep;exact if_n hv (yes ep _ ⟨_,_,rfl⟩)
        |false =>
         rw[e2]at hv ep;exact if_y hv (jal (c_i (no ep)))
       ·rw[decide_eq_false e1]at hc ep;exact jae (if_y hc (jal (c_i (no ep))))
      |_=>exact jae (if_y (λQ q=>c_or (a:=false) (b:=true) (nt_i rfl) (λ_ Q q=>c_or (a:=false) (b:=true) (λQ q=>jd4 (ds:=[_,v]) rfl Q q) (λ_ Q q=>c_or (a:=true) (b:=true) (hisi false rfl) (λz=>nomatch z) q) q) q) (jal (c_i (no rfl))))
     ·have e2:decide ((es.length:Int)=2)=false:=decide_eq_false (by omega);have ep:pvB (.tuple es,z)=false:=by
       unfold pvB;dsimp only
       split
       ·rename_i h;cases h;exact absurd rfl h2
       ·rfl
      exact jae (if_y (λQ q=>c_or (a:=false) (b:=true) (nt_i rfl) (λ_ Q q=>c_or (a:=true) (b:=true) (λQ q=>jd4 rfl Q (by rw[e2];exact q)) (λz=>nomatch z) q) q) (jal (c_i (no ep))))
    |_=>exact jae (if_y (λQ q=>c_or (a:=true) (b:=true) (λQ q=>jax (k:=false) (λQ q=>ct_b (k:=false) (λQ q=>q) q) q) (λz=>nomatch z) q) (jal (c_i (no rfl))))
   ·obtain⟨x,y,rfl⟩:=I;rw[h]at q;dsimp only;exact jal (c_i q)
  ·rw[decide_eq_false h1]at hl;have:prsB ys ds=false:=by
    cases e:prsB ys ds with
    |false=>rfl
    |true=>exact absurd (jxs e) h1
   rw[this]at q;exact jae (if_y (λQ q=>c_or (a:=false) (b:=true) (nt_i rfl) (λ_ Q q=>hl Q q) q) (jal (c_i q)))
 |_=>exact jae (if_y (λQ q=>c_or (a:=true) (b:=true) (λQ q=>jax (k:=false) (λQ q=>ct_b (k:=false) (λQ q=>q) q) q) (λz=>nomatch z) q) (jal (c_i q)))
theorem jxn {a b:Ab} (h:(hfB a&&jjm b)=false):sfB (.tuple [a,b])=false:=h
theorem ji1:∀ws n Q,jg3 ws n Q->ws.length=2:=jf7
theorem jxt {P:List Bl} {a b c:Ab} {x0 x1 x2 x3:Option SV} {n:Int}:∀Q:Bool->Int->Prop,Q (!plcB P a b) n->cOr (cNot (cT (jad jdl (jaa (w2 (wVar 4) (wC (.int (0))) gIx) (jaa (w2 (wB gLen (jaa (wVar 5) aNil)) (wC (.int (1))) (gI0 λi j=>.int (i - j))) aNil))))) (cNot (cT (jad jdl (jaa (w2 (wVar 4) (wC (.int (1))) gIx) (jaa (wB gLen (jaa (w2 (w2 (wVar 5) (w2 (wVar 4) (wC (.int (0))) gIx) gIx) (wC (.int (1))) gIx) aNil)) aNil))))) [x0,x1,x2,x3,some (.w (.d (.tuple [a,b,c]))),some (.w (.d (prD P)))] n Q:=λQ q=>by
 have h1:∀Q:Bool->Int->Prop,Q (!jbv 0 ((P.length:Int) - 1) a) n->cNot (cT (jad jdl (jaa (w2 (wVar 4) (wC (.int (0))) gIx) (jaa (w2 (wB gLen (jaa (wVar 5) aNil)) (wC (.int (1))) (gI0 λi j=>.int (i - j))) aNil)))) [x0,x1,x2,x3,some (.w (.d (.tuple [a,b,c]))),some (.w (.d (prD P)))] n Q:=λQ q=>jax (k:=jbv 0 ((P.length:Int) - 1) a) (λQ q=>ct_b (k:=jbv 0 ((P.length:Int) - 1) a) (λQ q=>c2_i (jcc rfl (w2_i (jff rfl (c_i (subI ⟨a,_,rfl,by rw[Ae];exact q⟩)))))) q) q;unfold plcB at q;cases hn:jbv 0 ((P.length:Int) - 1) a with
 |false =>
  rw[hn]at q h1;exact c_or (a:=true) (b:=true) h1 (λz=>nomatch z) q
 |true =>
  rw[hn,Di]at q;rw[hn]at h1;cases a with
  |int i =>
   have hi:(decide ((0:Int)<=i)&&decide (i<=(P.length:Int) - 1))=true:=hn;rw[A4]at hi;have i0:=of_decide_eq_true hi.1;have i1:=of_decide_eq_true hi.2;obtain⟨m,rfl⟩:=Cs i0;have hm:m < P.length:=by omega
   have q:Q (!jbv 0 (((P[m]?).map λbl=>bl.2.length).getD 0:Nat) b) n:=q;rw[Ag hm]at q;have hP:(P.map blD)[m]?=some (blD P[m]):=by rw[A7,Ag hm];rfl
   refine c_or (a:=false) (b:=!jbv 0 (P[m].2.length:Nat) b) h1 (λ_ Q q=>jax (k:=jbv 0 (P[m].2.length:Nat) b) (λQ q=>ct_b (k:=jbv 0 (P[m].2.length:Nat) b) (λQ q=>?_) q) q) q;refine c2_i (jgv rfl (b1_i (w2_i (w2_i (jab rfl (jcc rfl (gN_i (i:=m) hP (c_i (g1_i (jov ⟨b,_,rfl,?_⟩))))))))));rw[Ae];exact q
  |_=>cases hn
theorem j1h {b:Bl} (h:wfB b) (p:Nat):(kn b.1 b.2 p).length<=36:=by
 have key:∀as:List Ac,(∀a∈as,okA a)->(as.flatMap Ac.bs).length<=4*as.length:=by
  intro as
  induction as with
  |nil=>exact λ_=>A3 _
  |cons a r ih =>
   intro ok;have h1:=ih λx hx=>ok x (Aw _ hx);have h2:a.bs.length<=4:=by
    have:=(ok a Au).1;cases a with
    |take fs=>exact jkg (fs:=fs) this
    |read fs=>exact jkg (fs:=fs) this
    |look fs _=>exact jkg (fs:=fs) this
    |_=>exact A3 _
   rw[List.flatMap_cons,Ap,A1];omega
 unfold kn;rw[Ap];have h1:=key (b.2.take p) λa ha=>h.2.2.2 a (Ez ha);have h2:(b.2.take p).length<=b.2.length:=List.length_take_le' _ _;have h3:=h.2.2.1;have h4:=h.1;omega
theorem jwh {b:Bl} (h:wfB b) (p:Nat):(kS (kn b.1 b.2 p)).length<=36:=by
 by_cases e:∃ys,Kno (kn b.1 b.2 p) ys
 ·obtain⟨ys,hy⟩:=e;rw[jym hy];exact A9 (jhf hy.1 λk hk=>(hy.2.2 k).mp hk) (j1h h p)
 ·have:kS (kn b.1 b.2 p)=[]:=by unfold kS;rw[dif_neg e]
  rw[this];exact A3 _
theorem jyi {P:List Bl} {h:H3} {x0 x1 x2 x3:Option SV} {n:Int} (wf:∀b∈P,wfB b) (hp:plH (P,h)=true) (ok:okT h.2.2):∀Q:Bool->Int->Prop,Q (!knH (P,h)) n->cNot (cT (jad jmz (jaa (w2 (wVar 4) (wC (.int (2))) gIx) (jaa (jad jdz (jaa (wVar 5) (jaa (w2 (wVar 4) (wC (.int (0))) gIx) (jaa (w2 (wVar 4) (wC (.int (1))) gIx) aNil)))) aNil)))) [x0,x1,x2,x3,some (.w (.d (h3D h))),some (.w (.d (prD P)))] n Q:=λQ q=>by
 obtain⟨i,p,b,e3,hb,hpl⟩:=j0n hp;obtain⟨a0,b0,c⟩:=h;cases e3;have wb:=wf b (B5 hb);have ek:knH (P,(.int i,.int p,c))=nmB (kS (kn b.1 b.2 p)) c:=by
  show(match P[i]? with | some b=>nmB (kS (kn b.1 b.2 p)) c | none=>false)=_;rw[hb]
 rw[ek]at q;refine jax (k:=nmB (kS (kn b.1 b.2 p)) c) (λQ q=>ct_b (k:=nmB (kS (kn b.1 b.2 p)) c) (λQ q=>?_) q) q;refine c2_i (w2_i (jab rfl (c_i (g2_i (c3_i (jab rfl (jcc rfl (jgv rfl ⟨P,i,p,b,rfl,hb,wb,hpl,λhK=>?_⟩))))))));exact⟨c,kS (kn b.1 b.2 p),rfl,A9 (jwh wb p) (by decide),ok,q⟩
theorem jh3:∀ws n Q,jg3 ws n Q->jgf (jam ["_law_programs","_law_thing","_law_hands","_law_notes_here","_law_hand","_law_program_here"] ws) n {nx:=λ_ n=>Q (.d .none) n,rt:=Q}:=λws n Q h=>by
 obtain⟨ps,d,rfl,okp,ok,k⟩:=h;show jgf [some (.w (.d (pgD ps))),some (.w (.d d)),none,none,none,none] n _;cases d with
 |tuple ds =>
  by_cases h2:ds.length=2
  ·obtain⟨a,b,rfl⟩:=len2 h2;refine jae (if_n (λQ q=>c_or (a:=false) (b:=false) (nt_i rfl) (λ_ Q q=>jd4 (ds:=[a,b]) rfl Q q) q) ?_);dsimp only[jai];refine jae (show sUnp _ _ _ _ _ from jab rfl (Af rfl ?_));dsimp only[jah,ja0,jac,A0];cases a with
   |tuple hs =>
    cases b with
    |tuple ns =>
     refine jae (if_n (λQ q=>c_or (a:=false) (b:=false) (nt_i rfl) (λ_ Q q=>nt_i rfl Q q) q) ?_);dsimp only[jai];have okh:=jnp ok (.tuple hs) (by simp);have okn:=jnp ok (.tuple ns) (by simp);have hv:∀Q:Bool->Int->Prop,Q (!hs.all is3) n->cT (w2 (wOf (jat [none] (ja4 (wVar 2)) (jac 0) (cOr (cNot (cT (wIsi "tuple" (wVar 0)))) (cT (w2 (wB gLen (jaa (wVar 0) aNil)) (wC (.int (3))) gNe))) (wVar 0))) (wOf (fLst aNil)) (gXX λd e=>some (!Cn d e))) [some (.w (.d (pgD ps))),some (.w (.d (.tuple [.tuple hs,.tuple ns]))),some (.w (.d (.tuple hs))),some (.w (.d (.tuple ns))),none,none] n Q:=jn2 okh (λQ q=>jab rfl q) rfl λx _ n Q q=>by
      cases x with
      |tuple es =>
       refine c_or (a:=false) (b:=!is3 (.tuple es)) (nt_i rfl) (λ_ Q q=>jd4 rfl Q ?_) q;rw[jnw]at q;exact q
      |_=>exact c_or (a:=true) (b:=true) (λQ q=>jax (k:=false) (λQ q=>ct_b (k:=false) (λQ q=>q) q) q) (λz=>nomatch z) q
     cases ha:hs.all is3 with
     |false =>
      rw[ha]at hv;exact jae (if_y hv (jal (c_i (k _ (.inl ⟨jxn (show(hs.all is3&&true)=false by rw[ha];rfl),rfl⟩)))))
     |true =>
      rw[ha]at hv;refine jae (if_n hv ?_);dsimp only[jai];obtain⟨T,ns',e⟩:=jz3 (show sfB (.tuple [.tuple hs,.tuple ns])=true by show(hs.all is3&&true)=true;rw[ha];rfl);cases e;obtain⟨oh,on⟩:=j04 ok;have fin:∀r,r=fltT ps T ns->Q (.d r) n:=λr e=>k r (.inr ⟨T,ns,rfl,e⟩);have hl:∀Q:Bool->Int->Prop,Q (!decide (T.length=ps.length)) n->cT (w2 (wB gLen (jaa (wVar 2) aNil)) (wB gLen (jaa (wVar 0) aNil)) gNe) [some (.w (.d (pgD ps))),some (.w (.d (.tuple [.tuple (T.map h3D),.tuple ns]))),some (.w (.d (.tuple (T.map h3D)))),some (.w (.d (.tuple ns))),none,none] n Q:=λQ q=>ct_b (k:=!decide (T.length=ps.length)) (λQ q=>w2_i (jff rfl (jff rfl (show Q (.d (.bool (!decide (((T.map h3D).length:Int)=((ps.map prD).length:Int))))) n by rw[Ae,Ae,show decide ((T.length:Int)=(ps.length:Int))=decide (T.length=ps.length)from decide_eq_decide.mpr (by omega)];exact q)))) q;by_cases h1:T.length=ps.length
      ·rw[decide_eq_true h1]at hl;refine jae (if_n hl ?_);dsimp only[jai];refine jae ?_;unfold sFor ji2;refine jab rfl (jab rfl ?_);dsimp only[pgD];refine Af (by rw[Ae,Ae];exact h1.symm) ?_;refine forZ (Z:=Q (.d (.str "place")) n) prD h3D plH (λδ=>∃x y,δ=[some (.w (.d (pgD ps))),some (.w (.d (.tuple [.tuple (T.map h3D),.tuple ns]))),some (.w (.d (.tuple (T.map h3D)))),some (.w (.d (.tuple ns))),x,y]) ps T (λr hr δ N I yes no=>?_) (λδ I hall=>?_) (λh=>fin _ (by unfold fltT;rw[if_pos h1,h];rfl)) _ ⟨none,none,rfl⟩
       ·obtain⟨x,y,rfl⟩:=I;obtain⟨P,h⟩:=r;refine Af rfl ?_;dsimp only[jah,ja0,jac,A0];obtain⟨a,b,c⟩:=h;have hc:=jxt (P:=P) (a:=a) (b:=b) (c:=c) (x0:=some (.w (.d (pgD ps)))) (x1:=some (.w (.d (.tuple [.tuple (T.map h3D),.tuple ns])))) (x2:=some (.w (.d (.tuple (T.map h3D))))) (x3:=some (.w (.d (.tuple ns)))) (n:=n);cases e:plH (P,(a,b,c))with
        |true =>
         rw[show plcB P a b=true from e]at hc;exact if_n hc (yes e _ ⟨_,_,rfl⟩)
        |false =>
         rw[show plcB P a b=false from e]at hc;exact if_y hc (jal (c_i (no e)))
       ·obtain⟨x,y,rfl⟩:=I;dsimp only;refine jae ?_;refine jab rfl (jab rfl ?_);dsimp only[pgD];refine Af (by rw[Ae,Ae];exact h1.symm) ?_;refine forZ (Z:=Q (.d (.str "names")) n) prD h3D knH (λδ=>∃x y,δ=[some (.w (.d (pgD ps))),some (.w (.d (.tuple [.tuple (T.map h3D),.tuple ns]))),some (.w (.d (.tuple (T.map h3D)))),some (.w (.d (.tuple ns))),x,y]) ps T (λr hr δ N I yes no=>?_) (λδ I hk=>?_) (λh=>fin _ (by unfold fltT;rw[if_pos h1,hall,h];rfl)) _ ⟨x,y,rfl⟩
        ·obtain⟨x,y,rfl⟩:=I;obtain⟨P,h⟩:=r;refine Af rfl ?_;dsimp only[jah,ja0,jac,A0];have hc:=jyi (P:=P) (h:=h) (x0:=some (.w (.d (pgD ps)))) (x1:=some (.w (.d (.tuple [.tuple (T.map h3D),.tuple ns])))) (x2:=some (.w (.d (.tuple (T.map h3D))))) (x3:=some (.w (.d (.tuple ns)))) (n:=n) (okp.2 P (jkc hr).1).2.2 (Bt.mp hall _ hr) (oh h (jkc hr).2);cases e:knH (P,h)with
         |true =>
          rw[e]at hc;exact if_n hc (yes e _ ⟨_,_,rfl⟩)
         |false =>
          rw[e]at hc;exact if_y hc (jal (c_i (no e)))
        ·obtain⟨x,y,rfl⟩:=I;dsimp only;have hn:∀Q:Bool->Int->Prop,Q (!ns.all jcb) n->cT (w2 (wOf (jat [none] (ja4 (wVar 3)) (jac 0) (cNot (cT (jad jig (jaa (wVar 0) aNil)))) (wVar 0))) (wOf (fLst aNil)) (gXX λd e=>some (!Cn d e))) [some (.w (.d (pgD ps))),some (.w (.d (.tuple [.tuple (T.map h3D),.tuple ns]))),some (.w (.d (.tuple (T.map h3D)))),some (.w (.d (.tuple ns))),x,y] n Q:=jn2 okn (λQ q=>jab rfl q) rfl λx hx n Q q=>jax (k:=jcb x) (λQ q=>ct_b (k:=jcb x) (λQ q=>c1_i (jab rfl ⟨x,rfl,on x hx,q⟩)) q) q;refine jal ?_;cases hnn:ns.all jcb with
         |false =>
          rw[hnn]at hn;exact jtp (b:=true) hn (by rw[if_pos rfl];exact c_i (fin _ (by unfold fltT;rw[if_pos h1,hall,hk,hnn];rfl)))
         |true =>
          rw[hnn]at hn;exact jtp (b:=false) hn (by rw[if_neg An];exact c_i (fin _ (by unfold fltT;rw[if_pos h1,hall,hk,hnn];rfl)))
      ·rw[decide_eq_false h1]at hl;exact jae (if_y hl (jal (c_i (fin _ (by unfold fltT;rw[if_neg h1])))))
    |_=>exact jae (if_y (λQ q=>c_or (a:=false) (b:=true) (nt_i rfl) (λ_ Q q=>jax (k:=false) (λQ q=>ct_b (k:=false) (λQ q=>q) q) q) q) (jal (c_i (k _ (.inl ⟨jxn (Fz _),rfl⟩)))))
   |_=>exact jae (if_y (λQ q=>c_or (a:=true) (b:=true) (λQ q=>jax (k:=false) (λQ q=>ct_b (k:=false) (λQ q=>q) q) q) (λz=>nomatch z) q) (jal (c_i (k _ (.inl ⟨jxn rfl,rfl⟩)))))
  ·have e2:decide ((ds.length:Int)=2)=false:=decide_eq_false (by omega);exact jae (if_y (λQ q=>c_or (a:=false) (b:=true) (nt_i rfl) (λ_ Q q=>jd4 rfl Q (by rw[e2];exact q)) q) (jal (c_i (k _ (.inl ⟨jn7 jrd h2,rfl⟩)))))
 |_=>exact jae (if_y (λQ q=>c_or (a:=true) (b:=true) (λQ q=>jax (k:=false) (λQ q=>ct_b (k:=false) (λQ q=>q) q) q) (λz=>nomatch z) q) (jal (c_i (k _ (.inl ⟨rfl,rfl⟩)))))
theorem jiy:∀ws n Q,jid ws n Q->ws.length=2:=λws n Q h=>by obtain⟨_,rfl,_⟩:=h;rfl
theorem jjo {Q:List Ab->Int->Prop}:∀(ys:List Str) (acc:List Ab) (x:Option SV) (n:Int),n+(ys.length:Int) < 2 ^ 39->(∀L:List (Str×Ab),L.map (·.1)=ys->(∀q∈L,isV q.2=true)->Q (acc++L.map prD2) (n+(ys.length:Int))) ->
  jbe (jac 0) cYes (wTup (jaa (wVar 0) (jaa (jad jdm (jaa (wVar 1) aNil)) aNil))) Q (ys.map .str) acc [x,some (.w .tp)] n
 |[],acc,x,n,_,k=>by
  have:=k [] rfl λq hq=>nomatch hq
  rw[Cf,Bu]at this;rw[show n+(([]:List Str).length:Int)=n by simp]at this;exact this
 |y::ys,acc,x,n,hn,k=>by
  rw[A1]at hn k;simp only[Bi,jbe,jac,cYes,if_true,Bp];refine ja8 (jab rfl (c1_i (jab rfl (Af rfl ⟨by omega,λv hv=>Af (show 2<=1000 by decide) ?_⟩))));refine jjo ys _ _ (n+1) (by omega) λL e hL=>?_;have:=k ((y,v)::L) (by rw[Bi,e]) λq hq=>(Am.mp hq).elim (λz=>z▸jlb hv) (hL q);rw[Bo];rw[show n+1+(ys.length:Int)=n+((ys.length+1:Nat):Int) by omega];exact this
def StI (ps:Pg) (n0:Int) (ds:List Ab) (δ:Sl) (n:Int):Prop:=∃(hs:List Hn) (re:Pg) (x4 x5 x6 x7:Option SV),δ=[some (.w .tp),some (.w (.d (pgD ps))),some (.own ((hs.map hn3).map h3D)),x4,x5,x6,x7]/\ds=re.map prD/\re=ps.drop hs.length/\hs.length<=ps.length /\
 (∀(i:Nat) (P:List Bl) (h:Hn),ps[i]?=some P->hs[i]?=some h->okHn P h)/\n+42*(ds.length:Int)<=n0+210
theorem jh0:∀ws n Q,jid ws n Q->jgc (jam ["_law_tape_here","_law_programs","_law_hands","_law_program_here","_law_block","_law_place","_law_names"] ws) n {nx:=λ_ n=>Q (.d .none) n,rt:=Q}:=λws n0 Q h=>by
 obtain⟨ps,rfl,⟨hpl,hps⟩,hn0,k⟩:=h;show jgc [some (.w .tp),some (.w (.d (pgD ps))),none,none,none,none,none] n0 _;refine jae (jef ?_);dsimp only[A0];refine jae ?_;unfold sFor ja4;refine jab rfl ?_;dsimp only[pgD];refine jbh (StI ps n0) (λδ n I=>?_) (λd r δ n N I kN=>?_) _ _ _ ⟨[],ps,none,none,none,none,rfl,rfl,rfl,A3 _,λi P h _ hi=>by simp at hi,by rw[Ae];omega⟩
 ·obtain⟨hs,re,x4,x5,x6,x7,rfl,er,hre,hle,hok,hn⟩:=I;have e0:=Fd.mp er.symm;rw[e0]at hre;have hlen:ps.length<=hs.length:=List.drop_eq_nil_iff.mp hre.symm;dsimp only;refine jhn rfl ?_;dsimp only[A0];refine jal (ja8 (b1_i (jab rfl (c2_i (jab rfl (c_i (C2 6 ⟨rfl,by decide,by simp at hn;omega,λns n' hns hn'=>?_⟩)))))));exact Af (show 2<=1000 by decide) (k hs ns n' ⟨by omega,hok⟩ hns (by simp at hn;omega))
 ·obtain⟨hs,re,x4,x5,x6,x7,rfl,er,hre,hle,hok,hn⟩:=I;obtain⟨P,re',rfl,rfl,rfl⟩:=E1.mp er.symm;rw[A1,Ae]at hn;have hlt:hs.length < ps.length:=by
   have:=congrArg List.length hre;rw[A1,E3]at this;omega
  have hcons:=Fb hlt;rw[<-hre]at hcons;obtain⟨hP,hre'⟩:=Dl hcons;have hPg:ps[hs.length]?=some P:=by rw[Ag hlt,hP]
  obtain⟨g1,g2,g3⟩:=hps P (B5 hPg);dsimp only[jac,A0];refine jae (show sSet 4 _ _ _ _ from ja6 (m:=(P.map blD).length) rfl (λQ q=>b1_i (jab rfl q)) (by omega) (by rw[Ae];omega) (by rw[Ae];omega) λr r0 r1=>?_);rw[Ae]at r1;obtain⟨b,hb⟩:∃b:Nat,r=(b:Int):=⟨r.toNat,by omega⟩;subst hb;have hbl:b < P.length:=by omega
  obtain⟨bl,hbl'⟩:∃bl:Bl,P[b]?=some bl:=⟨P[b],Ag hbl⟩;obtain⟨w,as⟩:=bl;have hi':(P.map blD)[b]?=some (blD (w,as)):=by rw[A7,hbl'];rfl
  have ob:=g3 (w,as) (B5 hbl');have has:as.length<=8:=ob.2.2.1;dsimp only[A0];refine jae (show sSet 5 _ _ _ _ from ja6 (m:=((as.map Ac.d).length:Int)+1) rfl (λQ q=>w2_i (b1_i (w2_i (w2_i (jab rfl (jab rfl (gN_i hi' (c_i (g1_i ?_)))))))) ) (by omega) (by omega) (by rw[Ae];omega) λr r0' r1'=>?_)
  ·exact addI q
  rw[Ae]at r1';obtain⟨p,hp⟩:∃p:Nat,r=(p:Int):=⟨r.toNat,by omega⟩;subst hp;dsimp only[A0];refine jae (show sSet 6 _ _ _ _ from b1_i (of_i ?_));unfold jat je0;dsimp only;refine c3_i (jab rfl (jab rfl (jab rfl (C2 P ⟨b,p,(w,as),rfl,hbl',ob,by show p<=as.length;omega,λhK=>?_⟩))));dsimp only;have hkl:=jwh ob p;have hko:=(jyl ob p).1;dsimp only at hkl hko;refine jjo _ [] none _ (by omega) λL eL hL=>?_;have hLl:L.length<=36:=by rw[<-Ae (f:=(·.1)),eL];exact hkl
  rw[Ct];dsimp only[jdc,A0];refine jk3 rfl (jg6 (jab rfl (jab rfl (jab rfl ?_))));refine Af (show 3<=1000 by decide) (Af (by rw[Ae,Ae];omega) (kN _ _ ⟨hs++[(b,p,L)],re',_,_,_,_,by rw[Cc,Cc];rfl,rfl,by rw[Ap,A2];exact hre',by rw[Ap,A2];omega,λi P' h hP' hi=>?_,by rw[Ae];omega⟩));by_cases z:i < hs.length
  ·rw[E9 z]at hi;exact hok i P' h hP' hi
  ·rw[Gn (by omega)]at hi;have z':i - hs.length=0:=by
    have:=(A6.mp hi).1;rw[A2]at this;omega
   rw[z']at hi;cases hi;have z':i=hs.length:=by omega
   subst z';rw[hPg]at hP';cases hP';refine⟨(w,as),hbl',by show p<=as.length;omega,eL,by show L.length<=40;omega,λq hq=>⟨hko q.1 (by rw[<-eL];exact Gg hq),hL q hq⟩⟩
theorem jca:∀a b:List Ab,Aq (a++b)=Aq a+Aq b
 |[],b=>by rw[Ct,Aq,Nat.zero_add]
 |x::a,b=>by rw[List.cons_append,Aq,Aq,jca a b];omega
theorem jwy (ds:List Ab) (k:Nat):Aq (ds.take k)<=Aq ds:=by
 have:=jca (ds.take k) (ds.drop k);rw[List.take_append_drop]at this;omega
theorem jwz (ds:List Ab) (k:Nat):Aq (ds.drop k)<=Aq ds:=by
 have:=jca (ds.take k) (ds.drop k);rw[List.take_append_drop]at this;omega
theorem jqh:∀ds:List Ab,Aq ds.reverse=Aq ds
 |[]=>rfl
 |x::r=>by
  rw[Fy,jca,jqh r,Aq,Aq,Aq];omega
theorem jvr:∀{ds:List Ab} {d:Ab},d∈ds->A5 d+1<=Aq ds
 |x::r,d,h=>by
  rw[Aq];rcases Am.mp h with rfl | h
  ·omega
  ·have:=jvr h;omega
theorem jer (ds:List Ab) (a b:Option Int):Aq (cutD ds a b)<=Aq ds:=by
 unfold cutD;exact A9 (jwy _ _) (jwz _ _)
theorem jk9 (x:Ab):Aq [x]=A5 x+1:=rfl
theorem jbk (ds:List Ab):A5 (.tuple ds)=Aq ds:=by rw[A5]
theorem jwx (ds:List Ab):A5 (.list ds)=Aq ds:=by rw[A5]
theorem j2k (xs:List Ab) {p:Nat} (hp:p<=xs.length):cutD xs (some (p:Int)) none=xs.drop p:=by
 unfold cutD;rw[HT.sIx_nat,HT.sIx_none,Nat.min_eq_left hp];exact List.take_of_length_le (by rw[E3];exact Al _)
theorem jn6 (ds:List Ab) {j:Nat} {x y:Ab} (h:ds[j]?=some x):Aq ((cutD ds none (some (j:Int))++[y])++cutD ds (some ((j:Int)+1)) none)+A5 x=Aq ds+A5 y:=by
 have hj:=(A6.mp h).1;rw[show((j:Int)+1)=((j+1:Nat):Int) by omega,js2 ds (by omega),j2k ds (by omega),jca,jca,jk9];have e:ds=ds.take j++(x::ds.drop (j+1)):=by
  have:=List.take_append_drop j ds;rw[Fb hj,(A6.mp h).2]at this;exact this.symm
 have:Aq ds=Aq (ds.take j)+(A5 x+1+Aq (ds.drop (j+1))):=by
  rw[<-Aq,<-jca,<-e]
 omega
theorem jkh (ds:List Ab) {j:Nat} {y:Ab} (h:j < ds.length):((cutD ds none (some (j:Int))++[y])++cutD ds (some ((j:Int)+1)) none).length<=ds.length:=by
 have t1:=jnu ds j;have t3:=jjl ds j;rw[Ap,Ap,A2];omega
theorem jke {P:Ab->Prop} {ds:List Ab} {j:Int} {y:Ab} (h:∀x∈ds,P x) (hy:P y):∀x∈(cutD ds none (some j)++[y])++cutD ds (some (j+1)) none,P x:=λx hx=>(A8.mp hx).elim (λhx=>jet (λz hz=>h z (jcm hz)) hy x hx) λhx=>h x (jcm hx)
section
variable {δ:Sl} {n:Int} {Q:DQ} {ds:List Ab} {j:Int} {i l:Nat}
theorem j2y (e1:δ[i]?=some (some (.w (.d (.tuple ds))))) (e2:δ[l]?=some (some (.w (.d (.int j))))) (k:Q (.d (.tuple (cutD ds none (some j)))) n):jap (wVar i) jaz (jay (wVar l)) δ n Q:=by
 unfold jap jaz jay;exact jab e1 (jab e2 k)
theorem j3w (e1:δ[i]?=some (some (.w (.d (.tuple ds))))) (e2:δ[l]?=some (some (.w (.d (.int j))))) (k:Q (.d (.tuple (cutD ds (some (j+1)) none))) n):jap (wVar i) (jay (w2 (wVar l) (wC (.int (1))) (gI0 λi j=>.int (i+j)))) jaz δ n Q:=by
 unfold jap jaz jay;exact jab e1 (w2_i (jab e2 (c_i k)))
theorem hd_i (e1:δ[i]?=some (some (.w (.d (.tuple ds))))) (k:Q (.d (.tuple (cutD ds none (some 1)))) n):jap (wVar i) jaz (jay (wC (.int (1)))) δ n Q:=by
 unfold jap jaz jay;exact jab e1 (c_i k)
theorem tl_i (e1:δ[i]?=some (some (.w (.d (.tuple ds))))) (k:Q (.d (.tuple (cutD ds (some 1) none))) n):jap (wVar i) (jay (wC (.int (1)))) jaz δ n Q:=by
 unfold jap jaz jay;exact jab e1 (c_i k)
theorem bl_i (e1:δ[i]?=some (some (.w (.d (.tuple ds))))) (k:Q (.d (.tuple (cutD ds none (some (-1))))) n):jap (wVar i) jaz (jay (wNeg (wC (.int (1))))) δ n Q:=by
 unfold jap jaz jay wNeg;exact jab e1 (c_i k)
theorem jue {w:DT} {R:Ab->Int->Prop} (e1:δ[i]?=some (some (.w (.d (.tuple ds))))) (e2:δ[l]?=some (some (.w (.d (.int j))))) (hl:ds.length<=400) (hj:0<=j) (hw:∀Q:DQ,(∀y n',R y n'->Q (.d y) n')->w δ n Q) (k:∀y n',R y n'->Q (.d (.tuple ((cutD ds none (some j)++[y])++cutD ds (some (j+1)) none))) n') :
  w2 (w2 (jap (wVar i) jaz (jay (wVar l))) (wTup (jaa w aNil)) jbt) (jap (wVar i) (jay (w2 (wVar l) (wC (.int (1))) (gI0 λi j=>.int (i+j)))) jaz) jbt δ n Q:=by
 obtain⟨m,rfl⟩:=Cs hj;have t1:=jnu ds m;have t3:=jjl ds m;refine w2_i (w2_i (j2y e1 e2 (jm5 (hw _ λy n' hy=>?_))));refine Af (show 1<=1000 by decide) (jde (by simp only[A2];omega) (j3w e1 e2 (jde (by rw[Ap,A2];omega) (k y n' hy))))
theorem j18 {a b c d e f:DT} {Q:List Ab->Int->Prop} (k:a δ n λx n1=>b δ n1 λy n2=>c δ n2 λz n3=>d δ n3 λu n4=>e δ n4 λv n5=>f δ n5 λw n6=>match jba [x,y,z,u,v,w]with
  |some ds=>ds.length<=1000/\Q ds n6
  |none=>False):fLst (jaa a (jaa b (jaa c (jaa d (jaa e (jaa f aNil)))))) δ n Q:=k
theorem j30 {a b c:DT} {Q:List Ab->Int->Prop} (k:a δ n λx n1=>b δ n1 λy n2=>c δ n2 λz n3=>match jba [x,y,z]with
  |some ds=>ds.length<=1000/\Q ds n3
  |none=>False):fLst (jaa a (jaa b (jaa c aNil))) δ n Q:=k
end
theorem jbw (ds:List Ab) (a b:Option Int):(cutD ds a b).length<=ds.length:=by
 unfold cutD;rw[Dv,E3];omega
def oddD:List Ab:=[.none,.bool true,.bool false,.int (-1),.int 0,.int 1,.int 100,.int (10 ^ 30),.str "",.str "a",.str "A",.str "abcdefghi",.str "a1",.tuple [],.list [],.tuple [.str "a"],.list [.str "a"]]
theorem jmc:∀ws n Q,jcs ws n Q->ws.length=1:=λws n Q h=>by obtain⟨rfl,_⟩:=h;rfl
theorem jk0:∀ws n Q,jcs ws n Q->jju (jam ["_law_tape_here","_law_some"] ws) n {nx:=λ_ n=>Q (.d .none) n,rt:=Q}:=λws n Q h=>by
 obtain⟨rfl,hn,k⟩:=h;show jju [some (.w .tp),none] n _;have a1:jg8 9 1 oddD=true:=by decide +kernel
 have a2:oddD.all (λd=>decide (A5 d<=140))=true:=by decide +kernel
 refine jae (jlx (x:=.list oddD) (λQ q=>of_i ?_) ?_)
 ·exact Af ⟨by decide,by decide,by decide⟩ (Af (by decide) (Af (by decide) (Af (by decide) (Af (by decide) (Af (by decide) q)))))
 dsimp only[A0];have l1:(oddD.length:Int)=17:=rfl;generalize oddD=A at a1 a2 l1;refine jal (w2_i (jab rfl ?_));exact ja6 (m:=17) rfl (λQ q=>c_i q) (by omega) (by omega) (by omega) λr r0 r1=>jb5 r0 (by omega) λd hd=>k d (jzl a1 d hd) (of_decide_eq_true (Bt.mp a2 d hd))
theorem jn3 {i:Int} {L:Nat} (hL:L<=400) (h1:-(B30+(L:Int))<=i) (h2:i<=B30+(L:Int)):i.natAbs < 10 ^ 40:=by
 have e:(10:Nat) ^ 40=10000000000000000000000000000000000000000:=by decide +kernel
 rw[e];unfold B30 at h1 h2;omega
theorem j2v {i:Int} (h:i.natAbs < 10 ^ 40):A5 (.int i)<=140:=by
 rw[A5]
 split
 ·exact A3 _
 ·rename_i h0;have h0:i.natAbs≠0:=by
   intro z;have:i=0:=by omega
   rw[this]at h0;exact h0 rfl
  have:=(Nat.log2_lt h0).mpr (Nat.lt_trans h (show(10:Nat) ^ 40 < 2 ^ 139 by decide +kernel));omega
theorem jzf {x:Str} (h:x.length<=60):A5 (.str x)<=60:=by
 rw[A5];exact h
theorem jhj:∀d ws n Q,je8 d ws n Q->ws.length=3:=λt ws n Q h=>by
 cases t with
 |zero=>exact h.elim
 |succ t=>obtain⟨_,_,_,_,_,rfl,_⟩:=h;rfl
abbrev jyv:DST:=(sSeq (sIf (cT (wIsi "tuple" (wVar 1))) (sSeq (sSet 4 (wOf (fLst (jaa (wB ji3 (jaa (wVar 1) aNil)) (jaa (w2 (wVar 1) (jap (wVar 1) jaz (jay (wC (.int (1))))) jbt) (jaa (jap (wVar 1) jaz (jay (wNeg (wC (.int (1)))))) (jaa (jap (wVar 1) (jay (wC (.int (1)))) jaz) (jaa (wRev (wVar 1)) (jaa (w2 (wVar 1) (wTup (jaa (wC (.int (0))) aNil)) jbt) aNil))))))))) (sRet (w2 (wVar 4) (jad jak (jaa (wVar 0) (jaa (wC (.int (6))) aNil))) gIx))) jai) (sSeq (sIf (cAnd (cT (wIsi "int" (wVar 1))) (cNot (cT (wIsi "bool" (wVar 1))))) (sRet (w2 (wOf (fLst (jaa (w2 (wVar 1) (wC (.int (1))) (gI0 λi j=>.int (i+j))) (jaa (w2 (wVar 1) (wC (.int (1))) (gI0 λi j=>.int (i - j))) (jaa (w2 (wVar 1) (wC (.int (0))) gGt) (jaa (wB gStr (jaa (wVar 1) aNil)) (jaa (wC .none) (jaa (w2 (wVar 1) (wC (.int (100))) (gI0 λi j=>.int (i+j))) aNil)))))))) (jad jak (jaa (wVar 0) (jaa (wC (.int (6))) aNil))) gIx)) jai) (sRet (jad jcs (jaa (wVar 0) aNil)))))
theorem jsw {d dm:Ab} {L kk w:Nat} {n:Int} {x3 x4:Option SV} {Q:DQ} (hT:Th L kk d) (hL9:9<=L) (hL:L<=100) (hw:A5 d<=w) (hn:n < 2 ^ 39)
  (k:∀d':Ab,Th (L+100) (kk+1) d'->A5 d'<=2*w+300->Q (.d d') (n+1)) :
  jyv [some (.w .tp),some (.w (.d d)),some (.w (.d dm)),x3,x4] n {nx:=λ_ n=>Q (.d .none) n,rt:=Q}:=by
 have odd:sRet (jad jcs (jaa (wVar 0) aNil)) [some (.w .tp),some (.w (.d d)),some (.w (.d dm)),x3,x4] n {nx:=λ_ n=>Q (.d .none) n,rt:=Q} :=
  jal (c1_i (jab rfl ⟨rfl,hn,λe he hw=>k e (he.mono (by omega) (by omega)) (by omega)⟩))
 unfold jyv;cases hT with
 |@tuple kk ds hl hm =>
  have hm':∀x∈ds,Th (L+100) (kk+1) x:=λx hx=>(hm x hx).mono (by omega) (by omega);have mk:∀xs:List Ab,xs.length<=L+100->(∀x∈xs,Th (L+100) (kk+1) x)->Th (L+100) (kk+1+1) (.tuple xs):=λxs h1 h2=>.tuple h1 h2;have hw:Aq ds<=w:=by rw[jbk]at hw;exact hw
  have c1:=jbw ds none (some 1);have c2:=jbw ds none (some (-1));have c3:=jbw ds (some 1) none;have w1:=jer ds none (some 1);have w2:=jer ds none (some (-1));have w3:=jer ds (some 1) none;have mA:∀{a b:Option Int},∀x∈cutD ds a b,Th (L+100) (kk+1) x:=λx hx=>hm' x (jcm hx);refine jae (if_y (λQ q=>ct_b (k:=true) (λQ q=>jmf rfl q) q) ?_);refine jae (show sSet 4 _ _ _ _ from of_i (j18 ?_));refine juv rfl (w2_i (jab rfl (hd_i rfl (jde (by omega) ?_))));refine bl_i rfl (tl_i rfl (j0f rfl ?_));refine w2_i (jab rfl (jm5 (c_i (Af (show 1<=1000 by decide) (jde (by simp only[A2];omega) ?_)))));refine Af (show 6<=1000 by decide) ?_;dsimp only[A0];have qA:=k (.list ds) (.list (by omega) hm') (by rw[jwx];omega);have qB:=k _ (mk (ds++cutD ds none (some 1)) (by rw[Ap];omega) λx hx=>(A8.mp hx).elim (hm' x) (mA x)) (by rw[jbk,jca];omega);have qC:=k _ (mk (cutD ds none (some (-1))) (by omega) mA) (by rw[jbk];omega);have qD:=k _ (mk (cutD ds (some 1) none) (by omega) mA) (by rw[jbk];omega);have qE:=k _ (mk ds.reverse (by rw[Ff];omega) λx hx=>hm' x (List.mem_reverse.mp hx)) (by rw[jbk,jqh];omega);have qF:=k _ (mk (ds++[.int 0]) (by rw[Ap,A2];omega) (jet hm' (.int 0 (by unfold B30;omega) (by unfold B30;omega)))) (by rw[jbk,jca,jk9];have:A5 (.int 0)=0:=rfl;omega);generalize Ex (ds++cutD ds none (some 1))=B at qB;generalize Ex (cutD ds none (some (-1)))=C at qC;generalize Ex (cutD ds (some 1) none)=D at qD;generalize Ex (ds++[.int 0])=F at qF;refine jal (w2_i (jab rfl (ja6 (m:=6) rfl (λQ q=>c_i q) (by omega) (by decide) (by decide) λr r0 r1=>?_)));refine jb5 (ds:=[.list ds,B,C,D,.tuple ds.reverse,F]) r0 r1 λf hf=>?_;simp only[Am,Ar,or_false]at hf;rcases hf with rfl | rfl | rfl | rfl | rfl | rfl
  ·exact qA
  ·exact qB
  ·exact qC
  ·exact qD
  ·exact qE
  ·exact qF
 |int i h1 h2 =>
  have ha:=jn3 (by omega) h1 h2;refine jae (if_n (λQ q=>ct_b (k:=false) (λQ q=>jfl (d:=.int i) (λQ q=>jab rfl q) Q q) q) ?_);dsimp only[jai];refine jae (if_y (λQ q=>jhv (a:=true) (b:=true) (λQ q=>ct_b (λQ q=>jfl (d:=.int i) (λQ q=>jab rfl q) Q q) q) (λ_ Q q=>jax (k:=false) (λQ q=>ct_b (k:=false) (λQ q=>jfl (d:=.int i) (λQ q=>jab rfl q) Q q) q) q) q) ?_);have wi:∀j:Int,-(B30+300)<=j->j<=B30+300->A5 (.int j)<=140:=λj z1 z2=>j2v (jn3 (L:=300) (by decide) z1 z2);refine jal (w2_i (of_i (Af ⟨jkf ha,A9 (jcl ha) (by decide)⟩ (Af (Nat.le_of_ble_eq_true rfl) ?_))));refine ja6 (m:=6) rfl (λQ q=>c_i q) (by omega) (by decide) (by decide) λr r0 r1=>?_;refine jb5 (ds:=[.int (i+1),.int (i - 1),.bool (decide (i > 0)),.str (toString i),.none,.int (i+100)]) r0 r1 λf hf=>?_;simp only[Am,Ar,or_false]at hf;rcases hf with rfl | rfl | rfl | rfl | rfl | rfl
  ·exact k _ (.int _ (by omega) (by omega)) (by have:=wi (i+1) (by omega) (by omega);omega)
  ·exact k _ (.int _ (by omega) (by omega)) (by have:=wi (i - 1) (by omega) (by omega);omega)
  ·exact k _ (.bool _) (A3 _)
  ·exact k _ (.str _ (jcl ha) (jr9 _)) (by have:=jzf (jcl ha);omega)
  ·exact k _ .non (A3 _)
  ·exact k _ (.int _ (by omega) (by omega)) (by have:=wi (i+100) (by omega) (by omega);omega)
 |bool b =>
  refine jae (if_n (λQ q=>ct_b (k:=false) (λQ q=>jfl (d:=.bool b) (λQ q=>jab rfl q) Q q) q) ?_);dsimp only[jai];refine jae (if_n (λQ q=>jhv (a:=true) (b:=false) (λQ q=>ct_b (λQ q=>jfl (d:=.bool b) (λQ q=>jab rfl q) Q q) q) (λ_ Q q=>jax (k:=true) (λQ q=>ct_b (k:=true) (λQ q=>jfl (d:=.bool b) (λQ q=>jab rfl q) Q q) q) q) q) ?_);exact odd
 |_ =>
  refine jae (if_n (λQ q=>ct_b (k:=false) (λQ q=>q) q) ?_);dsimp only[jai];refine jae (if_n (λQ q=>jhv (a:=false) (b:=true) (λQ q=>ct_b (k:=false) (λQ q=>q) q) (λz=>nomatch z) q) ?_);exact odd
theorem jgy:∀d ws n Q,je8 (d+1) ws n Q->jcr (je8 d) (jam ["_law_tape_here","_law_thing","_law_deep","_law_k","_law_some"] ws) n {nx:=λ_ n=>Q (.d .none) n,rt:=Q}:=λt ws n Q h=>by
 obtain⟨d,m,L,kk,w,rfl,hm,hT,hL9,hL,hw,hn,k⟩:=h;show jcr (je8 t) [some (.w .tp),some (.w (.d d)),some (.w (.d (.int m))),none,none] n _;have rest:∀(n1:Int),n1<=n+1->jyv [some (.w .tp),some (.w (.d d)),some (.w (.d (.int m))),none,none] n1 {nx:=λ_ n=>Q (.d .none) n,rt:=Q}:=λn1 h1=>jsw hT hL9 hL hw (by omega) λd' a b=>k d' _ a b (by omega);have non:∀b,isiB "tuple" d=b->∀Q:Bool->Int->Prop,Q b n->cT (wIsi "tuple" (wVar 1)) [some (.w .tp),some (.w (.d d)),some (.w (.d (.int m))),none,none] n Q:=λb e Q q=>ct_b (k:=b) (λQ q=>jfl (d:=d) (λQ q=>jab rfl q) Q (by rw[e];exact q)) q;have away:isiB "tuple" d=false->jcr (je8 t) [some (.w .tp),some (.w (.d d)),some (.w (.d (.int m))),none,none] n {nx:=λ_ n=>Q (.d .none) n,rt:=Q}:=λe=>by
  refine jae (if_n (λQ q=>jhv (a:=false) (b:=true) (non false e) (λz=>nomatch z) q) ?_);exact rest n (by omega)
 cases d with
 |tuple ds =>
  have hT':=hT;have hl:ds.length<=L/\1<=kk:=by cases hT with | tuple h1 h2=>exact⟨h1,by omega⟩
  have hmm:=hT.mem;have ne:∀Q:Bool->Int->Prop,Q (!ds.isEmpty) n->cT (w2 (wVar 1) (wTup aNil) (gT0 true)) [some (.w .tp),some (.w (.d (.tuple ds))),some (.w (.d (.int m))),none,none] n Q:=λQ q=>j1b (λQ q=>jab rfl q) q;by_cases he:ds=[]
  ·subst he;refine jae (if_n (λQ q=>jhv (a:=true) (b:=false) (non true rfl) (λ_ Q q=>jhv (a:=false) (b:=true) ne (λz=>nomatch z) q) q) ?_);exact rest n (by omega)
  ·have e1:ds.isEmpty=false:=by cases ds with
    |nil=>exact absurd rfl he
    |cons _ _=>rfl
   rw[e1]at ne;have hlp:0 < ds.length:=List.length_pos_iff.mpr he;have gt:∀Q:Bool->Int->Prop,Q (decide ((m:Int) > 0)) n->cT (w2 (wVar 2) (wC (.int (0))) gGt) [some (.w .tp),some (.w (.d (.tuple ds))),some (.w (.d (.int m))),none,none] n Q:=λQ q=>ct_b (λQ q=>w2_i (jab rfl (c_i q))) q;by_cases h0:m=0
   ·rw[decide_eq_false (show ¬(m:Int) > 0 by omega)]at gt;refine jae (if_n (λQ q=>jhv (a:=true) (b:=false) (non true rfl) (λ_ Q q=>jhv (a:=true) (b:=false) ne (λ_ Q q=>jhv (a:=false) (b:=true) gt (λz=>nomatch z) q) q) q) ?_);exact rest n (by omega)
   ·rw[decide_eq_true (show(m:Int) > 0 by omega)]at gt;refine jae ?_;have drw:∀Q:Bool->Int->Prop,(∀b,Q b (n+1))->cT (w2 (jad jak (jaa (wVar 0) (jaa (wC (.int (5))) aNil))) (wC (.int (0))) gGt) [some (.w .tp),some (.w (.d (.tuple ds))),some (.w (.d (.int m))),none,none] n Q:=λQ q=>w2_i (ja6 (m:=5) rfl (λQ q=>c_i q) (by omega) (by decide) (by decide) λr r0 r1=>c_i (q (decide (r > 0))));have all:∀Q:Bool->Int->Prop,(∀b,Q b (n+1))->cAnd (cT (wIsi "tuple" (wVar 1))) (cAnd (cT (w2 (wVar 1) (wTup aNil) (gT0 true))) (cAnd (cT (w2 (wVar 2) (wC (.int (0))) gGt)) (cT (w2 (jad jak (jaa (wVar 0) (jaa (wC (.int (5))) aNil))) (wC (.int (0))) gGt)))) [some (.w .tp),some (.w (.d (.tuple ds))),some (.w (.d (.int m))),none,none] n Q:=λQ q =>
     non true rfl _ (by
      rw[if_pos rfl];refine ne _ ?_;rw[Bool.not_false,if_pos rfl];refine gt _ ?_;rw[if_pos rfl];exact drw _ q)
    refine all _ λb=>?_;cases b with
    |false =>
     rw[if_neg An];exact rest (n+1) (by omega)
    |true =>
     rw[if_pos rfl];refine jae (ja6 (m:=(ds.length:Int)) rfl (λQ q=>b1_i (jab rfl (show Q _ _ from q))) (by omega) (by omega) (by omega) λr r0 r1=>?_);obtain⟨j,rfl⟩:∃j:Nat,r=j:=⟨r.toNat,by omega⟩;have hj:j < ds.length:=by omega
     have hx:ds[j]?=some ds[j]:=Ag hj;generalize ds[j]=x at hx;have xm:x∈ds:=B5 hx;dsimp only[A0];refine jal ?_;obtain⟨s,rfl⟩:∃s,m=s+1:=⟨m - 1,by omega⟩;obtain⟨u,rfl⟩:∃u,t=u+1:=⟨t - 1,by omega⟩;refine jue (j:=(j:Int)) (ds:=ds) (R:=λe n2=>Th (L+100) kk e/\A5 e<=2*A5 x+300/\n2<=n+3*((s+1:Nat):Int)+3) rfl rfl (by omega) (by omega) (λQ q=>?_) λe n2 he=>?_
     ·refine c3_i (jab rfl (w2_i (jab rfl (jab rfl (gN_i hx (w2_i (jab rfl (c_i (subI ?_)))))))));refine⟨x,s,L,kk - 1,A5 x,by rw[show((s+1:Nat):Int) - 1=(s:Int) by omega],by omega,hmm x xm,hL9,hL,Al _,by omega,λe n2 h1 h2 h3=>q e n2 ⟨by rw[show kk - 1+1=kk by omega]at h1;exact h1,h2,by omega⟩⟩
     ·obtain⟨e1,e2,e3⟩:=he;have wp:=jn6 ds (y:=e) hx;have wm:=jvr xm;rw[jbk]at hw;refine k _ n2 (.tuple (A9 (jkh ds hj) (by omega)) (jke (λz hz=>(hmm z hz).mono (by omega) (by omega)) e1)) (by rw[jbk];omega) e3
 |_=>exact away rfl
def TW (L k w:Nat) (d:Ab):Prop:=Th L k d/\A5 d<=w
theorem TW.mono {L k w L' k' w':Nat} {d:Ab} (h:TW L k w d) (h1:L<=L') (h2:k<=k') (h3:w<=w'):TW L' k' w' d:=⟨h.1.mono h1 h2,A9 h.2 h3⟩
theorem jjc {L k w:Nat}:∀{ds:List Ab},(∀x∈ds,TW L k w x)->Aq ds<=(w+1)*ds.length
 |[],_=>A3 _
 |d::r,h=>by
  have h1:=jjc λx hx=>h x (Aw _ hx);have h2:=(h d Au).2;rw[Aq,A1,Nat.mul_succ];omega
theorem jes {L k w m:Nat} {ds:List Ab} (h:∀x∈ds,TW L k w x) (hl:ds.length<=m) (hm:m<=L):TW L (k+1) ((w+1)*m) (.tuple ds) :=
 ⟨.tuple (by omega) λx hx=>(h x hx).1,by rw[jbk];exact A9 (jjc h) (Fk _ hl)⟩
theorem job {L k w m:Nat} {ds:List Ab} (h:∀x∈ds,TW L k w x) (hl:ds.length<=m) (hm:m<=L):TW L (k+1) ((w+1)*m) (.list ds) :=
 ⟨.list (by omega) λx hx=>(h x hx).1,by rw[jwx];exact A9 (jjc h) (Fk _ hl)⟩
theorem mem2 {P:Ab->Prop} {a b:Ab} (ha:P a) (hb:P b):∀x∈[a,b],P x:=λx hx=>by
 rcases Am.mp hx with rfl | hx
 ·exact ha
 ·rw[Bd.mp hx];exact hb
theorem mem3 {P:Ab->Prop} {a b c:Ab} (ha:P a) (hb:P b) (hc:P c):∀x∈[a,b,c],P x:=λx hx=>by
 rcases Am.mp hx with rfl | hx
 ·exact ha
 ·exact mem2 hb hc x hx
theorem tw2 {L k w:Nat} {a b:Ab} (ha:TW L k w a) (hb:TW L k w b) (hL:2<=L):TW L (k+1) ((w+1)*2) (.tuple [a,b]):=jes (mem2 ha hb) (Al 2) hL
theorem tw3 {L k w:Nat} {a b c:Ab} (ha:TW L k w a) (hb:TW L k w b) (hc:TW L k w c) (hL:3<=L):TW L (k+1) ((w+1)*3) (.tuple [a,b,c]):=jes (mem3 ha hb hc) (Al 3) hL
theorem jzg {i:Int} {m:Nat} (h:i.natAbs < 2 ^ m):A5 (.int i)<=m:=by
 rw[A5]
 split
 ·exact A3 _
 ·rename_i h0;have h0:i.natAbs≠0:=by
   intro z;have:i=0:=by omega
   rw[this]at h0;exact h0 rfl
  exact(Nat.log2_lt h0).mpr h
theorem jc7 {i:Int} {L k:Nat} (h0:-1000<=i) (h1:i<=1000):TW L k 10 (.int i):=⟨.int i (by unfold B30;omega) (by unfold B30;omega),jzg (m:=10) (by show i.natAbs < 1024;omega)⟩
theorem tw_V {d:Ab} (h:isV d=true) {L k:Nat}:TW L k 10 d:=by
 unfold isV at h;rw[A4]at h;cases d with
 |str x =>
  have:=h.2;rw[thB,A4]at this;have h8:letB 8 (.str x)=true:=by
   have:=h.1;unfold jan at this;rcases Bool.or_eq_true_iff.mp this with z | z
   ·exact z
   ·cases z
  have h8:=jsh h8;refine⟨.str x (of_decide_eq_true this.1) this.2,?_⟩;rw[A5];show x.length<=10;omega
 |int i =>
  have hi:(decide ((0:Int)<=i)&&decide (i<=99))=true:=h.1;rw[A4]at hi;have i0:=of_decide_eq_true hi.1;have i1:=of_decide_eq_true hi.2;exact jc7 (by omega) (by omega)
 |_=>cases h.1
theorem jvu {d:Ab} (h:juq d) {L k:Nat}:TW L k 10 d:=by
 rcases h with rfl | ⟨i,rfl,h1,h2⟩
 ·exact⟨.non,A3 _⟩
 ·exact jc7 (by omega) (by omega)
theorem jm4 (b:Bool) {L k w:Nat}:TW L k w (.bool b):=⟨.bool b,A3 _⟩
theorem jzk {L k w:Nat}:TW L k w .none:=⟨.non,A3 _⟩
theorem jqj {x:Str} (h:okK x) {L k:Nat}:TW L k 10 (.str x):=by
 have:=jkb h;refine⟨.str x (by omega) h.2,?_⟩;rw[A5];show x.length<=10;omega
theorem jmi {δ:Sl} {n w c:Int} {i:Nat} (e:δ[i]?=some (some (.w (.d (.int w))))):∀Q:Bool->Int->Prop,Q (decide (w=c)) n->cT (w2 (wVar i) (wC (.int c)) gEq) δ n Q:=λQ q=>ct_b (λQ q=>w2_i (jab e (c_i q))) q
theorem j1d {δ:Sl} {n w c:Int} {i:Nat} (e:δ[i]?=some (some (.w (.d (.int w))))):∀Q:Bool->Int->Prop,Q (decide (w < c)) n->cT (w2 (wVar i) (wC (.int c)) gLt) δ n Q:=λQ q=>ct_b (λQ q=>w2_i (jab e (c_i q))) q
theorem jfj:∀ws n Q,jm0 ws n Q->ws.length=2:=λws n Q h=>by obtain⟨_,rfl,_⟩:=h;rfl
theorem je6:∀ws n Q,jm0 ws n Q->jdj (jam ["_law_tape_here","_law_note","_law_row","_law_age_here","_law_way"] ws) n {nx:=λ_ n=>Q (.d .none) n,rt:=Q}:=λws n Q h=>by
 obtain⟨⟨row,age⟩,rfl,⟨⟨⟨rl4,rl1⟩,rv⟩,oa⟩,hn,k⟩:=h;dsimp only at rl4 rl1 rv oa;show jdj [some (.w .tp),some (.w (.d (.tuple [.tuple row,age]))),none,none,none] n _;refine jae (show sUnp _ _ _ _ _ from jab rfl (Af rfl ?_));dsimp only[jah,ja0,jac,A0];refine jae (jlw (m:=4) rfl (by omega) (by decide) (by decide) λw w0 w1=>?_);dsimp only[A0];have ti:∀x∈row,TW 20 0 10 x:=λx hx=>tw_V (rv x hx);have tr:TW 20 1 ((10+1)*4) (.tuple row):=jes ti rl4 (by decide);have ta:TW 20 0 10 age:=jvu oa;have fin:∀(d:Ab) (n':Int),TW 20 3 1000 d->n'<=n+4->Q (.d d) n':=λd n' h1 h2=>k d n' h1.1 h1.2 h2;refine jae (if_b (b:=decide (w=0)) (λQ q=>jmi rfl Q q) (λ_=>?_) λ_=>?_)
 ·refine jal (ja8 (jab rfl (w2_i (of_i (Af (Nat.le_of_ble_eq_true rfl) ?_)))));refine ja6 (m:=6) rfl (λQ q=>c_i q) (by omega) (by decide) (by decide) λr r0 r1=>?_;refine jb5 (ds:=[.int 0,.int 21,.bool true,.int (-1),.str "1",.int 30]) r0 r1 λf hf=>Af (show 2<=1000 by decide) (fin _ _ ?_ (by omega));have tf:TW 20 1 10 f:=by
   simp only[Am,Ar,or_false]at hf;rcases hf with rfl | rfl | rfl | rfl | rfl | rfl
   ·exact jc7 (by decide) (by decide)
   ·exact jc7 (by decide) (by decide)
   ·exact jm4 _
   ·exact jc7 (by decide) (by decide)
   ·exact⟨jio (by decide +kernel),by decide +kernel⟩
   ·exact jc7 (by decide) (by decide)
  exact(tw2 tr (tf.mono (by decide) (by decide) (by decide)) (by decide)).mono (by decide) (by decide) (by decide)
 dsimp only[jai];refine jae (if_b (b:=decide (w=1)) (λQ q=>jmi rfl Q q) (λ_=>?_) λ_=>?_)
 ·refine jal (ja8 (w2_i (of_i (jp3 ?_))));refine Af (A3 _) (w2_i (jab rfl (Af (show 4<=1000 by decide) (jde (by show row.length+4<=1000;omega) ?_))));refine juv rfl (c_i (Af (show 4<=1000 by decide) ?_));have t2:TW 20 2 ((10+1)*8) (.tuple (row++[.str "a",.str "a",.str "a",.str "a"])):=(jes (k:=1) (λx hx=>(A8.mp hx).elim (λz=>(ti x z).mono (by decide) (by decide) (by decide)) λz=>by
   have:x=.str "a":=by
    simp only[Am,Ar,or_false,or_self]at z;exact z
   rw[this];exact⟨jio (by decide +kernel),by decide +kernel⟩) (by rw[Ap];show row.length+4<=8;omega) (by decide))
  have t3:TW 20 1 ((10+1)*4) (.list row):=job ti rl4 (by decide);generalize Ex (row++[.str "a",.str "a",.str "a",.str "a"])=A at t2;refine ja6 (m:=4) rfl (λQ q=>c_i q) (by omega) (by decide) (by decide) λr r0 r1=>?_;refine jb5 (ds:=[.tuple [],A,.list row,.str "a"]) r0 r1 λf hf=>jab rfl (Af (show 2<=1000 by decide) (fin _ _ ?_ (by omega)));have tf:TW 20 2 ((10+1)*8) f:=by
   simp only[Am,Ar,or_false]at hf;rcases hf with rfl | rfl | rfl | rfl
   ·exact⟨jio (by decide +kernel),by decide +kernel⟩
   ·exact t2
   ·exact t3.mono (by decide) (by decide) (by decide)
   ·exact⟨jio (by decide +kernel),by decide +kernel⟩
  refine⟨th2 tf.1 (ta.1.mono (by decide) (by decide)) (by decide),?_⟩;have a1:=tf.2;have a2:=ta.2;rw[jbk,Aq,Aq,Aq];omega
 dsimp only[jai];refine jae (if_b (b:=decide (w=2)) (λQ q=>jmi rfl Q q) (λ_=>?_) λ_=>?_)
 ·have c1:=jbw row none (some (-1));have c2:=jer row none (some (-1));refine jal (ja8 (w2_i (bl_i rfl (jm5 (c1_i (jab rfl ⟨rfl,by omega,λo ho hw=>Af (show 1<=1000 by decide) (jde (by simp only[A2];omega) (jab rfl (Af (show 2<=1000 by decide) (fin _ _ ?_ (by omega)))))⟩))))));have t2:TW 20 2 ((140+1)*5) (.tuple (cutD row none (some (-1))++[o])):=jes (k:=1) (jet (λx hx=>(ti x (jcm hx)).mono (by decide) (by decide) (by decide)) ⟨ho.mono (by decide) (by decide),hw⟩) (by rw[Ap,A2];omega) (by decide);show TW 20 3 1000 (.tuple [.tuple (cutD row none (some (-1))++[o]),age]);refine⟨th2 t2.1 (ta.1.mono (by decide) (by decide)) (by decide),?_⟩;have a1:=t2.2;have a2:=ta.2;rw[jbk,Aq,Aq,Aq];omega
 dsimp only[jai];refine jal (w2_i (of_i (jp3 ?_)));refine of_i (j19 (jab rfl (jab rfl (Af (show 2<=1000 by decide) ?_))));refine jg6 (jab rfl (jab rfl (jab rfl (Af (show 3<=1000 by decide) ?_))));refine jab rfl (ja8 (jab rfl (jab rfl (Af (show 2<=1000 by decide) (Af (show 4<=1000 by decide) ?_)))));refine ja6 (m:=4) rfl (λQ q=>c_i q) (by omega) (by decide) (by decide) λr r0 r1=>?_;refine jb5 (ds:=[.list [.tuple row,age],.tuple [.tuple row,age,age],.tuple row,.tuple [age,.tuple row]]) r0 r1 λf hf=>fin _ _ ?_ (by omega);have ta':TW 20 1 ((10+1)*4) age:=ta.mono (by decide) (by decide) (by decide);simp only[Am,Ar,or_false]at hf;rcases hf with rfl | rfl | rfl | rfl
 ·exact(job (mem2 tr ta') (Al 2) (by decide)).mono (by decide) (by decide) (by decide)
 ·exact(tw3 tr ta' ta' (by decide)).mono (by decide) (by decide) (by decide)
 ·exact tr.mono (by decide) (by decide) (by decide)
 ·exact(tw2 ta' tr (by decide)).mono (by decide) (by decide) (by decide)
theorem jfk:∀ws n Q,jo9 ws n Q->ws.length=4:=λws n Q h=>by obtain⟨_,_,_,rfl,_⟩:=h;rfl
theorem jn9 {L:List (Str×Ab)} (h:∀q∈L,okK q.1/\isV q.2=true):∀x∈L.map prD2,TW 50 1 22 x:=λx hx=>by
 obtain⟨q,hq,rfl⟩:=Ce.mp hx;exact tw2 (w:=10) (jqj (h q hq).1) (tw_V (h q hq).2) (by decide)
theorem j2z:(10:Nat) ^ 40=10000000000000000000000000000000000000000:=by decide +kernel
theorem je7:∀ws n Q,jo9 ws n Q->jdk (jam ["_law_tape_here","_law_program_here","_law_hand","_law_way","_law_block","_law_place","_law_names","_law_some","_law_at","_law_name","_law_value_here","_law_pair"] ws) n {nx:=λ_ n=>Q (.d .none) n,rt:=Q}:=λws n Q h=>by
 obtain⟨P,⟨i,p,L⟩,w,rfl,hPl,hPb,⟨b,hb,hp,hk,hL,hq⟩,hn,k⟩:=h;dsimp only at hb hp hk hL hq;have bl:=hPb b (B5 hb);have hi6:i < P.length:=(A6.mp hb).1;have hi':(P.map blD)[i]?=some (blD b):=by rw[A7,hb];rfl
 have tp:=jn9 hq;have lp:(L.map prD2).length<=40:=by rw[Ae];exact hL
 have ep:∀x∈L.map prD2,∃y v,x=.tuple [.str y,v]/\TW 50 1 10 (.str y)/\TW 50 1 10 v:=λx hx=>by
  obtain⟨q,hq',rfl⟩:=Ce.mp hx;exact⟨q.1,q.2,rfl,jqj (hq q hq').1,tw_V (hq q hq').2⟩
 show jdk [some (.w .tp),some (.w (.d (.tuple (P.map blD)))),some (.w (.d (.tuple [.int i,.int p,.tuple (L.map prD2)]))),some (.w (.d (.int w))),none,none,none,none,none,none,none,none] n _;generalize L.map prD2=ds at tp lp ep;refine jae (show sUnp _ _ _ _ _ from jab rfl (Af rfl ?_));dsimp only[jah,ja0,jac,A0];have wa:=jjc tp;have wa:Aq ds<=920:=by
  have:=Fk (22+1) lp;omega
 have th:∀x∈ds,Th 50 2 x:=λx hx=>(tp x hx).1.mono (by decide) (by decide);have tn:TW 50 3 3000 (.tuple ds):=⟨.tuple (by omega) th,by rw[jbk];omega⟩;have t_i:TW 50 3 200 (.int (i:Int)):=(jc7 (L:=50) (k:=3) (by omega) (by omega)).mono (Al _) (Al _) (by decide);have t_p:TW 50 3 200 (.int (p:Int)):=(jc7 (L:=50) (k:=3) (by omega) (by omega)).mono (Al _) (Al _) (by decide);have fin:∀(a b c:Ab) (n':Int),TW 50 3 200 a->TW 50 3 200 b->TW 50 3 3000 c->n'<=n+4->Q (.d (.tuple [a,b,c])) n':=λa b c n' ha hb hc h=>k _ n' (th3 ha.1 hb.1 hc.1 (by decide)) (by
  have:=ha.2;have:=hb.2;have:=hc.2;rw[jbk,Aq,Aq,Aq,Aq];omega) h
 have ti:∀{j:Int},-1000<=j->j<=1000->TW 50 3 200 (.int j):=λh1 h2=>(jc7 (L:=50) (k:=3) h1 h2).mono (Al _) (Al _) (by decide);refine jae (if_b (b:=decide ((w:Int)=1)) (λQ q=>jmi rfl Q q) (λ_=>?_) λ_=>?_)
 ·refine jal (jg6 (w2_i (of_i (jp3 ?_))));have ha:(i:Int).natAbs < 10 ^ 40:=by rw[j2z];omega
  refine jff rfl (Af ⟨jkf ha,A9 (jcl ha) (by decide)⟩ (Af (show 4<=1000 by decide) ?_));refine ja6 (m:=4) rfl (λQ q=>c_i q) (by omega) (by decide) (by decide) λr r0 r1=>?_;refine jb5 (ds:=[.int ((P.map blD).length:Nat),.int (-1),.bool (decide ((i:Int) > 0)),.str (toString (i:Int))]) r0 r1 λf hf=>jab rfl (jab rfl (Af (show 3<=1000 by decide) (fin _ _ _ _ ?_ t_p tn (by omega))));simp only[Am,Ar,or_false]at hf;rcases hf with rfl | rfl | rfl | rfl
  ·exact ti (by rw[Ae];omega) (by rw[Ae];omega)
  ·exact ti (by decide) (by decide)
  ·exact jm4 _
  ·exact⟨.str _ (jcl ha) (jr9 _),A9 (jzf (jcl ha)) (by decide)⟩
 dsimp only[jai];refine jae (if_b (b:=decide ((w:Int)=2)) (λQ q=>jmi rfl Q q) (λ_=>?_) λ_=>?_)
 ·refine jal (jg6 (jab rfl (w2_i (of_i (jp3 ?_)))));refine w2_i (b1_i (w2_i (w2_i (jab rfl (jab rfl (gN_i hi' (c_i (g1_i (jov (c_i (addI ?_)))))))))));refine Af (show 4<=1000 by decide) ?_;refine ja6 (m:=4) rfl (λQ q=>c_i q) (by omega) (by decide) (by decide) λr r0 r1=>?_;refine jb5 (ds:=[.int (((b.2.map Ac.d).length:Nat)+1),.int (-1),.bool (decide ((p:Int) > 0)),.none]) r0 r1 λf hf=>jab rfl (Af (show 3<=1000 by decide) (fin _ _ _ _ t_i ?_ tn (by omega)));simp only[Am,Ar,or_false]at hf;rcases hf with rfl | rfl | rfl | rfl
  ·exact ti (by rw[Ae];omega) (by rw[Ae];omega)
  ·exact ti (by decide) (by decide)
  ·exact jm4 _
  ·exact jzk
 dsimp only[jai];have mA:∀{a b:Option Int},∀x∈cutD ds a b,Th 50 2 x:=λx hx=>th x (jcm hx);refine jae (if_b (b:=decide ((w:Int)=3)) (λQ q=>jmi rfl Q q) (λ_=>?_) λ_=>?_)
 ·have c1:=jbw ds none (some 1);have c2:=jbw ds none (some (-1));have c3:=jbw ds (some 1) none;have w1:=jer ds none (some 1);have w2:=jer ds none (some (-1));have w3:=jer ds (some 1) none;refine jae (show sSet 7 _ _ _ _ from of_i (j18 ?_));refine tl_i rfl (bl_i rfl ?_);refine w2_i (jab rfl (jm5 (ja8 (c_i (c_i (Af (show 2<=1000 by decide) (Af (show 1<=1000 by decide) (jde (by show ds.length+1<=1000;omega) ?_))))))));refine j0f rfl (juv rfl (w2_i (jab rfl (hd_i rfl (jde (by omega) ?_)))));refine Af (show 6<=1000 by decide) ?_;dsimp only[A0];have qA:TW 50 3 3000 (.tuple (cutD ds (some 1) none)):=⟨.tuple (by omega) mA,by rw[jbk];omega⟩;have qB:TW 50 3 3000 (.tuple (cutD ds none (some (-1)))):=⟨.tuple (by omega) mA,by rw[jbk];omega⟩;have qC:TW 50 3 3000 (.tuple (ds++[.tuple [.str "zz",.int 0]])):=⟨.tuple (by rw[Ap,A2];omega) (jet th (jio (by decide +kernel))),by
   rw[jbk,jca,jk9];have:A5 (.tuple [.str "zz",.int 0])<=10:=by decide +kernel
   omega⟩
  have qD:TW 50 3 3000 (.tuple ds.reverse):=⟨.tuple (by rw[Ff];omega) λx hx=>th x (List.mem_reverse.mp hx),by rw[jbk,jqh];omega⟩;have qE:TW 50 3 3000 (.list ds):=⟨.list (by omega) th,by rw[jwx];omega⟩;have qF:TW 50 3 3000 (.tuple (ds++cutD ds none (some 1))):=⟨.tuple (by rw[Ap];have:=jnu ds 1;have:=show(cutD ds none (some 1)).length<=min 1 ds.length from this;omega) λx hx=>(A8.mp hx).elim (th x) (mA x),by rw[jbk,jca];omega⟩;generalize Ex (cutD ds (some 1) none)=A at qA;generalize Ex (cutD ds none (some (-1)))=B at qB;generalize Ex (ds++cutD ds none (some 1))=F at qF;refine jal (jg6 (jab rfl (jab rfl (w2_i (jab rfl ?_)))));refine ja6 (m:=6) rfl (λQ q=>c_i q) (by omega) (by decide) (by decide) λr r0 r1=>?_;refine jb5 (ds:=[A,B,.tuple (ds++[.tuple [.str "zz",.int 0]]),.tuple ds.reverse,.list ds,F]) r0 r1 λf hf=>?_;refine Af (show 3<=1000 by decide) (fin _ _ f (n+1) t_i t_p ?_ (by omega));simp only[Am,Ar,or_false]at hf;rcases hf with rfl | rfl | rfl | rfl | rfl | rfl
  ·exact qA
  ·exact qB
  ·exact qC
  ·exact qD
  ·exact qE
  ·exact qF
 dsimp only[jai];have last:sRet (wTup (jaa (wVar 4) (jaa (jad jak (jaa (wVar 0) (jaa (w2 (wB gLen (jaa (w2 (w2 (wVar 1) (wVar 4) gIx) (wC (.int (1))) gIx) aNil)) (wC (.int (1))) (gI0 λi j=>.int (i+j))) aNil))) (jaa (wVar 6) aNil)))) [some (.w .tp),some (.w (.d (.tuple (P.map blD)))),some (.w (.d (.tuple [.int i,.int p,.tuple ds]))),some (.w (.d (.int w))),some (.w (.d (.int i))),some (.w (.d (.int p))),some (.w (.d (.tuple ds))),none,none,none,none,none] n {nx:=λ_ n=>Q (.d .none) n,rt:=Q}:=by
  refine jal (jg6 (jab rfl (ja6 (m:=((b.2.map Ac.d).length:Int)+1) rfl (λQ q=>w2_i (b1_i (w2_i (w2_i (jab rfl (jab rfl (gN_i hi' (c_i (g1_i (jov (c_i (addI q))))))))))) ) (by omega) (by omega) (by rw[Ae];omega) λr r0 r1=>?_)));rw[Ae]at r1;exact jab rfl (Af (show 3<=1000 by decide) (fin _ _ _ _ t_i (ti (by omega) (by omega)) tn (by omega)))
 have ne:∀Q:Bool->Int->Prop,Q (!ds.isEmpty) n->cT (w2 (wVar 6) (wTup aNil) (gT0 true)) [some (.w .tp),some (.w (.d (.tuple (P.map blD)))),some (.w (.d (.tuple [.int i,.int p,.tuple ds]))),some (.w (.d (.int w))),some (.w (.d (.int i))),some (.w (.d (.int p))),some (.w (.d (.tuple ds))),none,none,none,none,none] n Q:=λQ q=>j1b (λQ q=>jab rfl q) q;refine jae (if_b (b:=decide ((w:Int)=4)&&!ds.isEmpty) (λQ q=>jhv (a:=decide ((w:Int)=4)) (b:=!ds.isEmpty) (λQ q=>jmi rfl Q q) (λ_ Q q=>ne Q q) q) (λe=>?_) λ_=>?_)
 ·have he:0 < ds.length:=by
   rw[A4]at e;cases ds with
   |nil=>cases e.2
   |cons _ _=>exact Nat.succ_pos _
  refine jae (ja6 (m:=(ds.length:Int)) rfl (λQ q=>b1_i (jab rfl (show Q _ _ from q))) (by omega) (by omega) (by omega) λr r0 r1=>?_);obtain⟨j,rfl⟩:∃j:Nat,r=j:=⟨r.toNat,by omega⟩;have hj:j < ds.length:=by omega
  have hx:ds[j]?=some ds[j]:=Ag hj;generalize ds[j]=x at hx;have xm:x∈ds:=B5 hx;obtain⟨y,v,rfl,ty,tv⟩:=ep x xm;dsimp only[A0];refine jae (show sUnp _ _ _ _ _ from w2_i (jab rfl (jab rfl (gN_i hx (Af rfl ?_)))));dsimp only[jah,ja0,jac,A0];refine jae (show sSet 11 _ _ _ _ from w2_i (of_i (jp3 ?_)));refine ja8 (jab rfl (c1_i (jab rfl ⟨rfl,by omega,λo ho hw=>Af (show 2<=1000 by decide) ?_⟩)));refine ja8 (c_i (jab rfl (Af (show 2<=1000 by decide) ?_)));refine of_i (j19 (jab rfl (jab rfl (Af (show 2<=1000 by decide) ?_))));refine jg6 (jab rfl (jab rfl (jab rfl (Af (show 3<=1000 by decide) (Af (show 4<=1000 by decide) ?_)))));refine ja6 (m:=4) rfl (λQ q=>c_i q) (by omega) (by decide) (by decide) λr r0' r1'=>?_;refine jb5 (ds:=[.tuple [.str y,o],.tuple [.str "zz",v],.list [.str y,v],.tuple [.str y,v,v]]) r0' r1' λf hf=>?_;have ty':TW 50 1 140 (.str y):=ty.mono (Al _) (Al _) (by decide);have tv':TW 50 1 140 v:=tv.mono (Al _) (Al _) (by decide);have to':TW 50 1 140 o:=⟨ho.mono (by decide) (by decide),hw⟩;have tf:TW 50 2 500 f:=by
   simp only[Am,Ar,or_false]at hf;rcases hf with rfl | rfl | rfl | rfl
   ·exact(tw2 ty' to' (by decide)).mono (by decide) (by decide) (by decide)
   ·exact(tw2 ⟨jio (by decide +kernel),by decide +kernel⟩ tv' (by decide)).mono (by decide) (by decide) (by decide)
   ·exact(job (mem2 ty' tv') (Al 2) (by decide)).mono (by decide) (by decide) (by decide)
   ·exact(tw3 ty' tv' tv' (by decide)).mono (by decide) (by decide) (by decide)
  dsimp only[A0];refine jal (jg6 (jab rfl (jab rfl (jue (j:=(j:Int)) (ds:=ds) (R:=λe m=>e=f/\m=n+1+1+1) rfl rfl (by omega) (by omega) (λQ q=>jab rfl (q _ _ ⟨rfl,by omega⟩)) λe m he=>?_))));obtain⟨rfl,rfl⟩:=he;refine Af (show 3<=1000 by decide) (fin _ _ _ _ t_i t_p ?_ (by omega));have wp:=jn6 ds (y:=e) hx;exact⟨.tuple (A9 (jkh ds hj) (by omega)) (jke th tf.1),by rw[jbk];have:=tf.2;omega⟩
 ·dsimp only[jai];exact last
theorem jgr:∀ws n Q,jk7 ws n Q->ws.length=3:=λws n Q h=>by obtain⟨_,_,_,rfl,_⟩:=h;rfl
theorem jw2 {P:List Bl} {h:Hn} (hPl:P.length<=6) (hPb:∀b∈P,b.2.length<=8) (ok:okHn P h):TW 50 3 1000 (h3D (hn3 h)):=by
 obtain⟨i,p,L⟩:=h;obtain⟨b,hb,hp,hk,hL,hq⟩:=ok;dsimp only at hb hp hk hL hq;have bl:=hPb b (B5 hb);have hi6:i < P.length:=(A6.mp hb).1;have tn:TW 50 2 ((22+1)*40) (.tuple (L.map prD2)):=jes (jn9 hq) (by rw[Ae];exact hL) (by decide);have t_i:TW 50 2 10 (.int (i:Int)):=jc7 (by omega) (by omega);have t_p:TW 50 2 10 (.int (p:Int)):=jc7 (by omega) (by omega);refine⟨th3 t_i.1 t_p.1 tn.1 (by decide),?_⟩;have:=t_i.2;have:=t_p.2;have:=tn.2;show A5 (.tuple [.int i,.int p,.tuple (L.map prD2)])<=1000;rw[jbk,Aq,Aq,Aq,Aq];omega
theorem jw1 {q:Nt} (ok:okQ q):TW 20 2 100 (ntD q):=by
 obtain⟨row,age⟩:=q;obtain⟨⟨⟨rl4,rl1⟩,rv⟩,oa⟩:=ok;have tr:TW 20 1 ((10+1)*4) (.tuple row):=jes (λx hx=>tw_V (rv x hx)) rl4 (by decide);have ta:TW 20 1 ((10+1)*4) age:=(jvu (L:=20) (k:=1) oa).mono (Al _) (Al _) (by decide);exact(tw2 tr ta (by decide)).mono (by decide) (by decide) (by decide)
theorem joa {m:Nat} {ns:List Nt} (h:okNs m ns):∀x∈ns.map ntD,TW 20 2 100 x:=λx hx=>by
 obtain⟨q,hq,rfl⟩:=Ce.mp hx;exact jw1 (h.2 q hq)
theorem joc {ps:Pg} {hs:List Hn} (okp:okPs ps) (okh:okHs ps hs):∀x∈(hs.map hn3).map h3D,TW 50 3 1000 x:=λx hx=>by
 obtain⟨y,hy,rfl⟩:=Ce.mp hx;obtain⟨h,hh,rfl⟩:=Ce.mp hy;obtain⟨i,hi,e⟩:=List.getElem_of_mem hh;have hip:i < ps.length:=by rw[<-okh.1];exact hi
 have h1:hs[i]?=some h:=by rw[Ag hi,e]
 have h2:ps[i]?=some ps[i]:=Ag hip;have hP:=okp.2 ps[i] (B5 h2);exact jw2 hP.2.1 (λb hb=>(hP.2.2 b hb).2.2.1) (okh.2 i _ _ h2 h1)
theorem c4_i {f:DSp} {w1 w2 w3 w4:DT} {δ:Sl} {n:Int} {Q:DQ} (k:w1 δ n λx1 n1=>w2 δ n1 λx2 n2=>w3 δ n2 λx3 n3=>w4 δ n3 λx4 n4=>f [x1,x2,x3,x4] n4 Q):jad f (jaa w1 (jaa w2 (jaa w3 (jaa w4 aNil)))) δ n Q:=k
theorem j1p {δ:Sl} {n:Int} {i:Nat} {ds:List Ab} (e:δ[i]?=some (some (.w (.d (.tuple ds))))):∀Q:Bool->Int->Prop,Q ds.isEmpty n->cT (w2 (wVar i) (wTup aNil) (gT0 false)) δ n Q:=λQ q=>ct_b (k:=ds.isEmpty) (λQ q=>w2_i (jab e (show wTup aNil _ _ _ from Af (A3 _) (by cases ds<;>exact q)))) q
theorem jfr:∀ws n Q,jk7 ws n Q->jd6 (jam ["_law_tape_here","_law_programs","_law_stand_here","_law_hands","_law_notes_here","_law_way","_law_at","_law_bad"] ws) n {nx:=λ_ n=>Q (.d .none) n,rt:=Q}:=λws n Q h=>by
 obtain⟨ps,hs,ns,rfl,okp,okh,okn,hn,k⟩:=h;show jd6 [some (.w .tp),some (.w (.d (.tuple (ps.map prD)))),some (.w (.d (.tuple [.tuple ((hs.map hn3).map h3D),.tuple (ns.map ntD)]))),none,none,none,none,none] n _;have th:=joc okp okh;have tn:=joa okn;have lh:((hs.map hn3).map h3D).length<=5:=by rw[Ae,Ae,okh.1];exact okp.1
 have ln:(ns.map ntD).length<=6:=by rw[Ae];exact okn.1
 have gh:∀j:Nat,j < ((hs.map hn3).map h3D).length->∃(h:Hn) (P:List Bl),((hs.map hn3).map h3D)[j]?=some (h3D (hn3 h))/\(ps.map prD)[j]?=some (prD P)/\okHn P h/\P.length<=6/\∀b∈P,b.2.length<=8:=λj hj=>by
  rw[Ae,Ae]at hj;have hip:j < ps.length:=by rw[<-okh.1];exact hj
  have h1:hs[j]?=some hs[j]:=Ag hj;have h2:ps[j]?=some ps[j]:=Ag hip;have hP:=okp.2 ps[j] (B5 h2);exact⟨hs[j],ps[j],by rw[A7,A7,h1];rfl,by rw[A7,h2];rfl,okh.2 j _ _ h2 h1,hP.2.1,λb hb=>(hP.2.2 b hb).2.2.1⟩
 have gn:∀j:Nat,j < (ns.map ntD).length->∃q:Nt,(ns.map ntD)[j]?=some (ntD q)/\okQ q:=λj hj=>by
  rw[Ae]at hj;have h1:ns[j]?=some ns[j]:=Ag hj;exact⟨ns[j],by rw[A7,h1];rfl,okn.2 _ (B5 h1)⟩
 generalize(hs.map hn3).map h3D=ds at th lh gh;generalize ns.map ntD=es at tn ln gn;have wh:Aq ds<=5005:=by
  have:=jjc th;have:=Fk (1000+1) lh;omega
 have wn:Aq es<=606:=by
  have:=jjc tn;have:=Fk (100+1) ln;omega
 have th':∀x∈ds,Th 60 4 x:=λx hx=>(th x hx).1.mono (by decide) (by decide);have tn':∀x∈es,Th 60 4 x:=λx hx=>(tn x hx).1.mono (by decide) (by decide);have tH:TW 60 5 20000 (.tuple ds):=⟨.tuple (by omega) th',by rw[jbk];omega⟩;have tN:TW 60 5 19000 (.tuple es):=⟨.tuple (by omega) tn',by rw[jbk];omega⟩;have two:∀a b:Ab,TW 60 5 20000 a->TW 60 5 19000 b->TW 60 6 40000 (.tuple [a,b]):=λa b ha hb=>⟨th2 ha.1 hb.1 (by decide),by
  have:=ha.2;have:=hb.2;rw[jbk,Aq,Aq,Aq];omega⟩
 have fin:∀(d:Ab) (n':Int),TW 60 6 40000 d->n'<=n+10->Q (.d d) n':=λd n' h1 h2=>k d n' h1.1 h1.2 h2;refine jae (show sUnp _ _ _ _ _ from jab rfl (Af rfl ?_));dsimp only[jah,ja0,jac,A0];refine jae (jlw (m:=9) rfl (by omega) (by decide) (by decide) λw w0 w1=>?_);dsimp only[A0];obtain⟨w,rfl⟩:=Cs w0;refine jae (if_b (b:=decide ((w:Int)=0) || (ds.isEmpty&&decide ((w:Int) < 6))) (λQ q=>c_or (a:=decide ((w:Int)=0)) (b:=ds.isEmpty&&decide ((w:Int) < 6)) (λQ q=>jmi rfl Q q) (λ_ Q q=>jhv (a:=ds.isEmpty) (b:=decide ((w:Int) < 6)) (λQ q=>j1p rfl Q q) (λ_ Q q=>j1d rfl Q q) q) q) (λ_=>?_) λe0=>?_)
 ·have c1:=jbw ds none (some 1);have c2:=jbw ds none (some (-1));have w1:=jer ds none (some 1);have w2:=jer ds none (some (-1));refine jal (w2_i (of_i (j30 ?_)));refine ja8 (w2_i (jab rfl (jm5 (jg6 (c_i (c_i (Af (A3 _) (Af (show 3<=1000 by decide) (Af (show 1<=1000 by decide) (jde (by show ds.length+1<=1000;omega) (jab rfl (Af (show 2<=1000 by decide) ?_))))))))))));refine ja8 (bl_i rfl (jab rfl (Af (show 2<=1000 by decide) ?_)));refine ja8 (w2_i (jab rfl (hd_i rfl (jde (by omega) (jab rfl (Af (show 2<=1000 by decide) (Af (show 3<=1000 by decide) ?_)))))));have qA:=two _ (.tuple es) (show TW 60 5 20000 (.tuple (ds++[.tuple [.int 0,.int 0,.tuple []]]))from⟨.tuple (by rw[Ap,A2];omega) (jet th' (jio (by decide +kernel))),by
   rw[jbk,jca,jk9];have:A5 (.tuple [.int 0,.int 0,.tuple []])<=10:=by decide +kernel
   omega⟩) tN
  have qB:=two _ (.tuple es) (show TW 60 5 20000 (.tuple (cutD ds none (some (-1))))from⟨.tuple (by omega) λx hx=>th' x (jcm hx),by rw[jbk];omega⟩) tN;have qC:=two _ (.tuple es) (show TW 60 5 20000 (.tuple (ds++cutD ds none (some 1)))from⟨.tuple (by rw[Ap];omega) λx hx=>(A8.mp hx).elim (th' x) λz=>th' x (jcm z),by rw[jbk,jca];omega⟩) tN;refine ja6 (m:=3) rfl (λQ q=>c_i q) (by omega) (by decide) (by decide) λr r0 r1=>?_;refine jb5 (ds:=[.tuple [.tuple (ds++[.tuple [.int 0,.int 0,.tuple []]]),.tuple es],.tuple [.tuple (cutD ds none (some (-1))),.tuple es],.tuple [.tuple (ds++cutD ds none (some 1)),.tuple es]]) r0 r1 λf hf=>?_;refine fin f (n+1+1) ?_ (by omega);simp only[Am,Ar,or_false]at hf;rcases hf with rfl | rfl | rfl
  ·exact qA
  ·exact qB
  ·exact qC
 dsimp only[jai];refine jae (if_b (b:=decide ((w:Int) < 6)) (λQ q=>j1d rfl Q q) (λe=>?_) λ_=>?_)
 ·have he:0 < ds.length:=by
   cases ds with
   |nil =>
    rw[e]at e0;have:(decide ((w:Int)=0) || (true&&true))=false:=e0;rw[Bool.and_self,Bool.or_true]at this;cases this
   |cons _ _=>exact Nat.succ_pos _
  refine jae (ja6 (m:=(ds.length:Int)) rfl (λQ q=>b1_i (jab rfl (show Q _ _ from q))) (by omega) (by omega) (by omega) λr r0 r1=>?_);obtain⟨j,rfl⟩:∃j:Nat,r=j:=⟨r.toNat,by omega⟩;have hj:j < ds.length:=by omega
  obtain⟨h,P,hx,hP,ok,hPl,hPb⟩:=gh j hj;dsimp only[A0];refine jae (show sSet 7 _ _ _ _ from c4_i (jab rfl (w2_i (jab rfl (jab rfl (gN_i hP (w2_i (jab rfl (jab rfl (gN_i hx (jab rfl ?_)))))))))));refine⟨P,h,w,rfl,hPl,hPb,ok,by omega,λf n' tf wf hn'=>?_⟩;dsimp only[A0];refine jal (ja8 (jue (j:=(j:Int)) (ds:=ds) (R:=λe m=>e=f/\m=n') rfl rfl (by omega) (by omega) (λQ q=>jab rfl (q _ _ ⟨rfl,rfl⟩)) λe m he=>jab rfl (Af (show 2<=1000 by decide) (fin _ _ (two _ _ ?_ tN) (by obtain⟨rfl,rfl⟩:=he;omega)))));obtain⟨rfl,rfl⟩:=he;have wp:=jn6 ds (y:=e) hx;exact⟨.tuple (A9 (jkh ds hj) (by omega)) (jke th' (tf.mono (by decide) (Al _))),by rw[jbk];omega⟩
 dsimp only[jai];refine jae (if_b (b:=es.isEmpty) (λQ q=>j1p rfl Q q) (λe=>?_) λe=>?_)
 ·refine jal (ja8 (jab rfl (jm5 (c2_i (jab rfl (ja8 (ja8 (c_i (c_i (Af (show 2<=1000 by decide) (c_i (Af (show 2<=1000 by decide) ?_))))))))))));refine⟨([.str "a",.int 0],.none),rfl,⟨⟨⟨by decide,by decide⟩,λd hd=>?_⟩,.inl rfl⟩,by omega,λf n' tf wf hn'=>Af (show 1<=1000 by decide) (Af (show 2<=1000 by decide) (fin _ _ (two _ _ tH ?_) (by omega)))⟩
  ·simp only[Am,Ar,or_false]at hd;rcases hd with rfl | rfl<;>decide +kernel
  ·show TW 60 5 19000 (.tuple [f]);exact⟨.tuple (show 1<=60 by decide) (λx hx=>by rw[Bd.mp hx];exact tf.mono (by decide) (by decide)),by rw[jbk,jk9];omega⟩
 dsimp only[jai];have he:0 < es.length:=by
  cases es with
  |nil=>cases e
  |cons _ _=>exact Nat.succ_pos _
 refine jae (ja6 (m:=(es.length:Int)) rfl (λQ q=>b1_i (jab rfl (show Q _ _ from q))) (by omega) (by omega) (by omega) λr r0 r1=>?_);obtain⟨j,rfl⟩:∃j:Nat,r=j:=⟨r.toNat,by omega⟩;have hj:j < es.length:=by omega
 obtain⟨q,hx,ok⟩:=gn j hj;dsimp only[A0];refine jal (ja8 (jab rfl (jue (j:=(j:Int)) (ds:=es) (R:=λe m=>Th 20 3 e/\A5 e<=1000/\m<=n+1+1+4) rfl rfl (by omega) (by omega) (λQ k=>c2_i (jab rfl (w2_i (jab rfl (jab rfl (gN_i hx ⟨q,rfl,ok,by omega,λf n' tf wf hn'=>k _ _ ⟨tf,wf,hn'⟩⟩)))))) λe m he=>Af (show 2<=1000 by decide) (fin _ _ (two _ _ tH ?_) (by obtain⟨_,_,h⟩:=he;omega)))));obtain⟨tf,wf,_⟩:=he;have wp:=jn6 es (y:=e) hx;exact⟨.tuple (A9 (jkh es hj) (by omega)) (jke tn' (tf.mono (by decide) (by decide))),by rw[jbk];omega⟩
theorem jw3 {L k:Nat} {d:Ab} (h:Th L k d) (hL:L<=400):Ej d=true/\Ey 60 d=true:=by
 have key:∀ds:List Ab,(∀d∈ds,Ej d=true/\Ey 60 d=true)->PyData.showableAll ds=true/\PyData.intsShortAll 60 ds=true:=by
  intro ds
  induction ds with
  |nil=>exact λ_=>⟨rfl,rfl⟩
  |cons x r ih =>
   intro h;obtain⟨a1,a2⟩:=ih λd hd=>h d (Aw _ hd);obtain⟨b1,b2⟩:=h x Au;exact⟨by rw[PyData.showableAll,a1,b1];rfl,by rw[PyData.intsShortAll,a2,b2];rfl⟩
 induction h with
 |non=>exact⟨rfl,rfl⟩
 |bool b=>exact⟨rfl,rfl⟩
 |int i h1 h2 =>
  have ha:=jn3 hL h1 h2;exact⟨by rw[Ej];exact decide_eq_true (jkf ha),by rw[Ey];exact decide_eq_true (show(PyData.shown (.int i)).length<=60 by rw[PyData.shown];exact jcl ha)⟩
 |str x _ _=>exact⟨rfl,rfl⟩
 |list _ _ ih =>
  obtain⟨a1,a2⟩:=key _ ih;exact⟨by rw[Ej];exact a1,by rw[Ey];exact a2⟩
 |tuple _ _ ih =>
  obtain⟨a1,a2⟩:=key _ ih;exact⟨by rw[Ej];exact a1,by rw[Ey];exact a2⟩
theorem jz1 {d:Ab} (h:okDt d):SmlA d:=by
 obtain⟨⟨L,k,hT,hL,hk⟩,hw⟩:=h;obtain⟨a1,a2⟩:=hT.lay;obtain⟨b1,b2⟩:=jw3 hT (by omega);refine⟨a1,by omega,b1,?_⟩;have:=PyData.shown_le 60 (by decide) d (PyData.leavesShort_of_canLay0 60 d a1 b2);have h2:Ay=16777216:=by decide
 rw[h2];omega
theorem jwi:∀{T T':List H3},T.map h3D=T'.map h3D->T=T'
 |[],[],_=>rfl
 |[],_::_,h=>nomatch h
 |_::_,[],h=>nomatch h
 | (a,b,c)::T,(a',b',c')::T',h=>by
  have h:=Dl h;have e:=Dl (PyData.tuple.inj h.1);have e2:=Dl e.2;have e3:=Dl e2.2;dsimp only at e e2 e3;rw[jwi h.2,e.1,e2.1,e3.1]
theorem jko {ps:Pg} {d r r':Ab} (h:Flt ps d r) (h':Flt ps d r'):r=r':=by
 rcases h with⟨h1,rfl⟩ | ⟨T,ns,rfl,rfl⟩
 ·rcases h' with⟨h1',rfl⟩ | ⟨T,ns,rfl,rfl⟩
  ·rfl
  ·rw[sf_y]at h1;cases h1
 ·rcases h' with⟨h1',rfl⟩ | ⟨T',ns',e,rfl⟩
  ·rw[sf_y]at h1';cases h1'
  ·have e:=Dl (PyData.tuple.inj e);have e1:=jwi (PyData.tuple.inj e.1);have e2:=PyData.tuple.inj (Dl e.2).1;rw[e1,e2]
theorem j17 {ps:Pg} {d r:Ab} (h:Flt ps d r):r=.none\/∃s,r=.str s:=by
 rcases h with⟨_,rfl⟩ | ⟨T,ns,_,rfl⟩
 ·exact .inr ⟨_,rfl⟩
 ·unfold fltT
  split
  ·split
   ·split
    ·split
     ·exact .inl rfl
     ·exact .inr ⟨_,rfl⟩
    ·exact .inr ⟨_,rfl⟩
   ·exact .inr ⟨_,rfl⟩
  ·exact .inr ⟨_,rfl⟩
theorem jeh:∀ws n Q,jjx ws n Q->ws.length=2:=λws n Q h=>by obtain⟨_,_,rfl,_⟩:=h;rfl
theorem jd2:∀ws n Q,jjx ws n Q->jce (jam ["_law_programs","_law_thing","_law_kept","_law_found","_law_due"] ws) n {nx:=λ_ n=>Q (.d .none) n,rt:=Q}:=λws n Q h=>by
 obtain⟨ps,d,rfl,okp,okd,q⟩:=h;show jce [some (.w (.d (pgD ps))),some (.w (.d d)),none,none,none] n _;have sm:=jz1 okd;have ok:okT d:=by
  obtain⟨⟨L,k,hT,hL,hk⟩,_⟩:=okd;exact⟨L,k,hT,hL,by omega⟩
 refine jae (show sSet 2 _ _ _ _ from b1_i (jab rfl (Af sm ?_)));dsimp only[A0];refine jae (show sSet 3 _ _ _ _ from c2_i (jab rfl (jab rfl ⟨ps,d,rfl,okp,ok,λr hr=>?_⟩)));dsimp only[A0];refine jae (show sSet 4 _ _ _ _ from c2_i (jab rfl (jab rfl ⟨ps,d,rfl,okp,ok,λr' hr'=>?_⟩)));dsimp only[A0];cases jko hr hr';refine jae (if_n (λQ q=>ct_b (k:=false) (λQ q=>w2_i (b1_i (jab rfl (Af sm (jab rfl (jss (by rw[decide_eq_true rfl];exact q))))))) q) ?_);dsimp only[jai];refine jal ?_;rcases j17 hr with rfl | ⟨s,rfl⟩
 ·refine jtp (b:=true) (λQ q=>ct_b (k:=true) (λQ q=>w2_i (jab rfl (c_i q))) q) ?_;rw[if_pos rfl];exact w2_i (jab rfl (c_i q))
 ·refine jtp (b:=false) (λQ q=>ct_b (k:=false) (λQ q=>w2_i (jab rfl (c_i q))) q) ?_;rw[if_neg An];exact jb9 (a:=true) (b:=true) (λQ q=>jfl (d:=.str s) (λQ q=>jab rfl q) Q q) (λ_ Q q=>w2_i (jab rfl (jab rfl (j2a q)))) q
theorem jsb {ps:Pg} (h:okPg ps):okPs ps:=⟨h.1,λP hP=>by
 obtain⟨a,b,c⟩:=h.2 P hP;exact⟨a,b,λx hx=>by
  obtain⟨o1,o2,o3,o4,_,_⟩:=(c x hx).1;exact⟨o1,o2,o3,o4⟩⟩⟩
theorem v_of {d:Ab} (h:isV d=true):jan d=true:=by
 unfold isV at h;rw[A4]at h;exact h.1
theorem j08 {q:Nt} (ok:okQ q):jcb (ntD q)=true:=by
 obtain⟨row,age⟩:=q;obtain⟨⟨⟨h4,h1⟩,hv⟩,oa⟩:=ok;dsimp only at h4 h1 hv oa;show((decide ((1:Int)<=(row.length:Int))&&(decide ((row.length:Int)<=4)&&row.all jan))&&ageB age)=true;rw[decide_eq_true (show(1:Int)<=(row.length:Int) by omega),decide_eq_true (show(row.length:Int)<=4 by omega),Bt.mpr λx hx=>v_of (hv x hx)];rcases oa with rfl | ⟨i,rfl,h1,h2⟩
 ·rfl
 ·show(decide ((1:Int)<=i)&&decide (i<=20))=true;rw[decide_eq_true h1,decide_eq_true h2];rfl
theorem j11 {P:List Bl} {h:Hn} (ok:okHn P h):plH (P,hn3 h)=true/\knH (P,hn3 h)=true:=by
 obtain⟨i,p,L⟩:=h;obtain⟨b,hb,hp,hk,hL,hq⟩:=ok;dsimp only at hb hp hk hL hq;have hi:i < P.length:=(A6.mp hb).1;refine⟨?_,?_⟩
 ·show((decide ((0:Int)<=(i:Int))&&decide ((i:Int)<=(P.length:Int) - 1))&&jbv 0 (((P[i]?).map λbl=>bl.2.length).getD 0:Nat) (.int p))=true;rw[hb,decide_eq_true (show(0:Int)<=(i:Int) by omega),decide_eq_true (show(i:Int)<=(P.length:Int) - 1 by omega)];show(decide ((0:Int)<=(p:Int))&&decide ((p:Int)<=(b.2.length:Int)))=true;rw[decide_eq_true (show(0:Int)<=(p:Int) by omega),decide_eq_true (show(p:Int)<=(b.2.length:Int) by omega)];rfl
 ·show(match P[i]? with | some b=>nmB (kS (kn b.1 b.2 p)) (.tuple (L.map prD2)) | none=>false)=true;rw[hb];show prsB (kS (kn b.1 b.2 p)) (L.map prD2)=true;rw[jrq L _ λq hq'=>v_of (hq q hq').2];exact decide_eq_true hk
theorem j3y {ps:Pg} {hs:List Hn} {ns:List Nt} (okh:okHs ps hs) (okn:okNs 6 ns) {r:Ab} (h:Flt ps (stD hs ns) r):r=.none:=by
 refine jko h (.inr ⟨hs.map hn3,ns.map ntD,rfl,?_⟩);have hz:∀q∈ps.zip (hs.map hn3),plH q=true/\knH q=true:=λq hq=>by
  obtain⟨i,hi,e⟩:=List.getElem_of_mem hq;have h2:=Ag hi;rw[e]at h2;obtain⟨P,t⟩:=q;rw[List.getElem?_zip_eq_some]at h2;obtain⟨g1,g2⟩:=h2;rw[A7]at g2;obtain⟨h,g3,rfl⟩:=Option.map_eq_some_iff.mp g2;exact j11 (okh.2 i P h g1 g3)
 unfold fltT;rw[if_pos (by rw[Ae];exact okh.1),if_pos (Bt.mpr λq hq=>(hz q hq).1),if_pos (Bt.mpr λq hq=>(hz q hq).2),if_pos (Bt.mpr λx hx=>by
  obtain⟨q,hq,rfl⟩:=Ce.mp hx;exact j08 (okn.2 q hq))]
theorem jn8 {ps:Pg} {hs:List Hn} {ns:List Nt} (okp:okPs ps) (okh:okHs ps hs) (okn:okNs 6 ns):TW 60 5 20000 (.tuple ((hs.map hn3).map h3D))/\TW 60 5 19000 (.tuple (ns.map ntD)):=by
 have th:=joc okp okh;have tn:=joa okn;have lh:((hs.map hn3).map h3D).length<=5:=by rw[Ae,Ae,okh.1];exact okp.1
 have ln:(ns.map ntD).length<=6:=by rw[Ae];exact okn.1
 exact⟨(jes (λx hx=>(th x hx).mono (L':=60) (k':=4) (by decide) (by decide) (Al _)) lh (by decide)).mono (Al _) (Al _) (by decide),(jes (λx hx=>(tn x hx).mono (L':=60) (k':=4) (by decide) (by decide) (Al _)) ln (by decide)).mono (Al _) (Al _) (by decide)⟩
theorem jqi {L k a b:Nat} {x y:Ab} (hL:2<=L) (hx:TW L k a x) (hy:TW L k b y):TW L (k+1) (a+b+2) (.tuple [x,y]):=⟨th2 hx.1 hy.1 hL,by
 have:=hx.2;have:=hy.2;rw[jbk,Aq,Aq,Aq];omega⟩
theorem jcj {L k w:Nat} {d:Ab} (h:TW L k w d) (hL:L<=300) (hk:k<=12) (hw:w<=100000):okDt d:=⟨⟨L,k,h.1,hL,hk⟩,A9 h.2 hw⟩
theorem jst {r:Ab} (h:Flt [] (.tuple [.tuple [],.tuple []]) r):r=.none:=jko h (.inr ⟨[],[],rfl,by unfold fltT;rfl⟩)
theorem ju4 {r:Ab} (h:Flt [] (.tuple []) r):r=.str "form":=jko h (.inl ⟨rfl,rfl⟩)
theorem j3z {a b c d e:DT} {δ:Sl} {n:Int} {Q:List Ab->Int->Prop} (k:a δ n λx n1=>b δ n1 λy n2=>c δ n2 λz n3=>d δ n3 λu n4=>e δ n4 λv n5=>match jba [x,y,z,u,v]with
  |some ds=>ds.length<=1000/\Q ds n5
  |none=>False):fLst (jaa a (jaa b (jaa c (jaa d (jaa e aNil))))) δ n Q:=k
theorem jv4:okPs []:=⟨A3 _,λP hP=>nomatch hP⟩
abbrev j20:DTT:=cT (w2 (wOf (jat [none,some 2] (je0 (wVar 7)) (jac 0) (cNot (cT (jad jjx (jaa (wVar 1) (jaa (wVar 0) aNil))))) (wVar 0))) (wOf (fLst aNil)) (gXX λd e=>some (!Cn d e)))
theorem jw4 {ps:Pg} (okp:okPs ps) {X:List Ab} (hX:∀d∈X,okDt d) {x0 x1 x3 x4 x5 x6:Option SV} {n:Int}:∀Q:Bool->Int->Prop,Q false n->j20 [x0,x1,some (.w (.d (pgD ps))),x3,x4,x5,x6,some (.w (.d (.list X)))] n Q:=λQ q=>by
 refine ct_b (k:=false) (λQ q=>w2_i (of_i ?_)) q;unfold jat je0;refine jab rfl ?_;dsimp only;have:=js6 (c:=cNot (cT (jad jjx (jaa (wVar 1) (jaa (wVar 0) aNil))))) (w:=wVar 0) (Q:=λl n=>wOf (fLst aNil) [x0,x1,some (.w (.d (pgD ps))),x3,x4,x5,x6,some (.w (.d (.list X)))] n λy n2=>gXX (λd e=>some (!Cn d e)) (.d (.list l)) y n2 Q) (rest:=[some (.w (.d (pgD ps)))]) id id (λ_=>false) X [] none n (λd hd n Q' q=>jax (k:=true) (λQ q=>ct_b (k:=true) (λQ q=>c2_i (jab rfl (jab rfl ⟨ps,d,rfl,okp,hX d hd,q⟩))) q) q) (λx _ n Q' q=>jab rfl q) (by
  rw[fil0];exact jc9 (jze q))
 rw[Eh]at this;exact this
abbrev Zc:List Str:=["_law_script","_law_tape_here","_law_programs","_law_others","_law_k","_law_stand_here","_law_bad","_law_things"]
theorem jvg:j2s (none::some (.w .tp)::Dc (List.length Zc - 2) none) 0 lawEnds:=by
 show j2s [none,some (.w .tp),none,none,none,none,none,none] 0 lawEnds;refine jae (show sSet 2 _ _ _ _ from w2_i (c1_i (jab rfl ⟨rfl,by decide,λps ns n1 okg _ _ hn1=>c_i (g0_i ?_)⟩)));dsimp only[A0];refine jae (show sSet 3 _ _ _ _ from w2_i (c1_i (jab rfl ⟨rfl,by omega,λqs ms n2 okg' _ _ hn2=>c_i (g0_i ?_)⟩)));dsimp only[A0];have okp:=jsb okg;have oko:=jsb okg';refine jae ?_;unfold sFor ja1;refine c_i (Af ⟨by decide,by decide⟩ ?_);refine jbh (λds δ n=>∃x4 x5 x6 x7:Option SV,δ=[none,some (.w .tp),some (.w (.d (pgD ps))),some (.w (.d (pgD qs))),x4,x5,x6,x7]/\n+1000*(ds.length:Int)<=13000) (λδ n I=>?_) (λd r δ n N I kN=>?_) _ _ _ ⟨none,none,none,none,rfl,by rw[ja9];show n2+1000*4<=13000;omega⟩
 ·obtain⟨x4,x5,x6,x7,rfl,hn⟩:=I;dsimp only;have t1:okT (.tuple [.tuple [],.tuple []]):=⟨9,3,jio (by decide +kernel),by decide,by decide⟩;have t2:okT (.tuple []):=⟨9,3,jio (by decide +kernel),by decide,by decide⟩;refine jal (jb9 (a:=true) (b:=true) (λQ q=>?_) (λ_ Q q=>?_) (show lawEnds.rt _ _ from rfl))
  ·refine w2_i (c2_i (Af (A3 _) (ja8 (Af (A3 _) (Af (A3 _) (Af (show 2<=1000 by decide) ⟨[],.tuple [.tuple [],.tuple []],rfl,jv4,t1,λr hr=>?_⟩))))));rw[jst hr];exact c_i q
  ·refine w2_i (c2_i (Af (A3 _) (Af (A3 _) ⟨[],.tuple [],rfl,jv4,t2,λr hr=>?_⟩)));rw[ju4 hr];exact c_i (j2a q)
 ·obtain⟨x4,x5,x6,x7,rfl,hn⟩:=I;rw[A1]at hn;dsimp only[jac,A0];refine jae (show sSet 5 _ _ _ _ from c2_i (jab rfl (jab rfl ⟨ps,rfl,okp,by omega,λhs ns1 n3 okh okn hm3=>?_⟩)));dsimp only[A0];obtain⟨tH,tN⟩:=jn8 okp okh okn;have tS:TW 60 6 39002 (stD hs ns1):=jqi (by decide) tH tN;have oS:okT (stD hs ns1):=⟨60,6,tS.1,by decide,by decide⟩;refine jae (if_n (λQ q=>ct_b (k:=false) (λQ q=>w2_i (c2_i (jab rfl (jab rfl ⟨ps,stD hs ns1,rfl,okp,oS,λr hr=>?_⟩)))) q) ?_)
  ·rw[j3y okh okn hr];exact c_i q
  dsimp only[jai];refine jae (show sSet 6 _ _ _ _ from c3_i (jab rfl (jab rfl (jab rfl ⟨ps,hs,ns1,rfl,okp,okh,okn,by omega,λbad n4 tb wb hn4=>?_⟩))));dsimp only[A0];refine jae (show sSet 7 _ _ _ _ from of_i (j3z (jab rfl (jab rfl (c3_i (jab rfl (jab rfl (c_i ⟨bad,4,60,6,40000,rfl,by decide,tb,by decide,by decide,wb,by omega,λd1 n5 t1 w1 hn5=>?_⟩))))))));refine c3_i (jab rfl (jab rfl (c_i ⟨stD hs ns1,5,60,6,39002,rfl,by decide,tS.1,by decide,by decide,tS.2,by omega,λd2 n6 t2 w2 hn6=>?_⟩)));refine c1_i (jab rfl ⟨rfl,by omega,λo t3 w3=>Af (show 5<=1000 by decide) ?_⟩);dsimp only[A0];refine jae (show sSet 7 _ _ _ _ from w2_i (jab rfl (of_i (jp3 (c2_i (jab rfl (jab rfl ⟨qs,rfl,oko,by omega,λhs' ns' n8 okh' okn' hn8=>?_⟩)))))));refine juv rfl (w2_i (jab rfl (jm5 (Af (A3 _) (Af (show 1<=1000 by decide) (jde (show 3<=1000 by decide) (ja8 (jgv rfl (jcc rfl (Af (show 2<=1000 by decide) (Af (show 4<=1000 by decide) (Af (jg1 (show 5 < 1000000 by decide) (show 4 < 1000000 by decide)) ?_))))))))))));dsimp only[A0];obtain⟨tH',tN'⟩:=jn8 oko okh' okn';have tS':TW 60 6 39002 (stD hs' ns'):=jqi (by decide) tH' tN';have tNH:=jqi (by decide) tN tH;have tL:TW 60 6 ((20000+1)*2) (.list [.tuple ((hs.map hn3).map h3D),nsD ns1]):=job (mem2 tH (tN.mono (Al _) (Al _) (by decide))) (Al 2) (by decide);have tE:TW 60 6 ((20000+1)*3) (.tuple [.tuple ((hs.map hn3).map h3D),nsD ns1,.tuple []]):=tw3 tH (tN.mono (Al _) (Al _) (by decide)) ⟨jio (by decide +kernel),by decide +kernel⟩ (by decide);have hX:∀x∈[stD hs ns1,bad,d1,d2,o,stD hs' ns',.list [.tuple ((hs.map hn3).map h3D),nsD ns1],.tuple [.tuple ((hs.map hn3).map h3D),nsD ns1,.tuple []],.tuple [nsD ns1,.tuple ((hs.map hn3).map h3D)]],okDt x:=λx hx=>by
   simp only[Am,Ar,or_false]at hx;rcases hx with rfl | rfl | rfl | rfl | rfl | rfl | rfl | rfl | rfl
   ·exact jcj tS (by decide) (by decide) (by decide)
   ·exact jcj ⟨tb,wb⟩ (by decide) (by decide) (by decide)
   ·exact jcj ⟨t1,w1⟩ (by decide) (by decide) (by decide)
   ·exact jcj ⟨t2,w2⟩ (by decide) (by decide) (by decide)
   ·exact jcj ⟨t3,w3⟩ (by decide) (by decide) (by decide)
   ·exact jcj tS' (by decide) (by decide) (by decide)
   ·exact jcj tL (by decide) (by decide) (by decide)
   ·exact jcj tE (by decide) (by decide) (by decide)
   ·exact jcj tNH (by decide) (by decide) (by decide)
  exact if_n (λQ q=>jw4 okp hX Q q) (kN _ _ ⟨_,_,_,_,rfl,by omega⟩)
def top (i:Nat):Stmt:=PySem.Challenge.pw_noteboard_k19_faults_of_stands.main.body.getD i (.Pass ⟨0,0,0,0⟩)
abbrev jni:Stmt:=top 30
abbrev jnj:Stmt:=top 31
abbrev jt7:Stmt:=top 56
abbrev jz9:Stmt:=jni
abbrev j0b:Stmt:=jnj
end Nb
namespace Nb
open PySem L2
section
variable {P:Bm} {w:B3} {K:Aj} {mg:Str->Option Ah} {base:Heap}
abbrev Za:List Str:=["_law_script"]
theorem jz4:FnScope Za Za (jao jz9):=⟨rfl,rfl,rfl,by decide +kernel,rfl,by decide +kernel,by decide +kernel⟩
theorem jyc {f:Addr} {fd:C1} (F:Fun K "_law_tape" "_law_tape" jz9 f fd):FnOk P w K mg base CX0 1 f fd Za (jlp K):=by
 refine F.ok jz4 (λvs H Q E h=>?_) (λcdv A outer s H vs Q E hr h=>?_)
 ·obtain⟨a,ns,rfl,_⟩:=h;rfl
 ·obtain⟨a,ns,rfl,hS,hl,k⟩:=h;refine⟨_,jfe (jl0 (jrw (jas (joo jxm (pv 0) jrt (jrs jau)) (jas jau (jas jau (jas (jrw (jas jop (jas jop (jas jop (jas jau (jas jau (jas jau (jas jau jbm)))))))) jbm)))))),?_⟩;refine⟨_,rfl,_,rfl,a,_,rfl,hS,λp hp=>⟨jrb (by simp),λg hg=>⟨jrb (by simp),λq hq=>?_⟩⟩⟩;rw[j4l (by rw[Ae];exact hl)]at hg hq ⊢;have hgp:g≠p:=λz=>by rw[z,jaj]at hg;cases hg
  have hg0:H g=none:=by rw[jag hgp]at hg;exact hg
  have hqg:q≠g:=λz=>by rw[z,jaj]at hq;cases hq
  rw[jag hqg]at hq;have hqp:q≠p:=λz=>by rw[z,jaj]at hq;cases hq
  have hq0:H q=none:=by rw[jag hqp]at hq;exact hq
  refine k q ⟨p,g⟩ _ ⟨⟨0,0,jaj,Int.le_refl _,Int.le_refl _⟩,by rw[jag hqp.symm,jag hgp.symm,jaj],hl,(λz=>by rw[jag hqg.symm,jaj];rfl),hqg.symm⟩ λb o e=>?_;rw[jag (jaf e hq0),jag (jaf e hg0),jag (jaf e hp)];exact e
abbrev Zh:List Str:=["_law_tape_here","_law_many"]
theorem scDraw:FnScope ["_law_tape_here","_law_many","_law_found","_law_spot","_law_cell","_law_mixed"] Zh (jao j0b):=⟨rfl,rfl,rfl,by decide +kernel,rfl,by decide +kernel,by decide +kernel⟩
theorem ju3 {R:Prop} {G:Int->Prop} (use:(∀c,G c)->R) (fin:∀c,G c):R:=use fin
theorem j3t {R G:Prop} (use:G->R) (fin:G):R:=use fin
theorem jyd {f:Addr} {fd:C1} (F:Fun K "_law_draw" "_law_draw" j0b f fd) (zl:mg "len"=none):FnOk P w K mg base CX0 1 f fd Zh jvw:=by
 refine F.ok scDraw (λvs H Q E h=>?_) (λcdv A outer s H vs Q E hr h=>?_)
 ·obtain⟨t,l,ns,n,many,rfl,_⟩:=h;rfl
 ·obtain⟨t,l,ns,n,many,rfl,T,hn,hm0,hm1,k⟩:=h;obtain⟨a,b,ht,ha0,ha1⟩:=T.ob;have ntl:=T.ne;have hl:=T.ls;have hlen:=T.len;refine⟨_,jbg (jug (jfd op_gt (jgp ix_list (pv 0) jau (λ_ _=>rfl)) jau (jl6 _))
    (jbg (jf4 (i:=2) scDraw.nd rfl (Du rfl) (jb3 jf6 (jgp ix_list (pv 0) jau (λ_ _=>rfl)) (pv 1)))
     (jbg (jl1 (jb3 jr7 (jgp ix_list (pv 0) jau (λ_ _=>rfl)) (pv 1)) (jon (pv 0) jau jg0))
     (jfe (jl0 (pv 2))))) jj9)
   (jbg (jf4 (i:=3) scDraw.nd rfl (Du rfl) (jgp ix_list (pv 0) jau (λ_ _=>rfl)))
   (jbg (jl1 (jb3 op_add (pv 3) jau) (jon (pv 0) jau jg0))
   (jbg (jf4 (i:=4) scDraw.nd rfl (Du rfl) jau)
   (jbg (jug (jfd op_gt (jdx jb7 (by rfl) zl PySem.boot_len (jas (jgp ix_list (pv 0) jau (λ_ _=>rfl)) jbm)) jau (jl6 _))
    (jfe (jf4 (i:=4) scDraw.nd rfl (Du rfl) (jgp ix_list (jgp ix_list (pv 0) jau (λ_ _=>rfl))
     (jb3 jf6 (pv 3) (jdx jb7 (by rfl) zl PySem.boot_len (jas (jgp ix_list (pv 0) jau (λ_ _=>rfl)) jbm))) (λ_ _=>rfl)))) jj9)
   (jbg (jug (PW.pt (jv3 (jfd j3j (pv 4) (jb3 jv6 jau jau) (jl6 _))
     (jrn (jfd op_lt (pv 3) (jdx jb7 (by rfl) zl PySem.boot_len (jas (jgp ix_list (pv 0) jau (λ_ _=>rfl)) jbm)) (jl6 _)))))
    (jbg (jl1 (jb3 jr7 (pv 4) (pv 1)) (jon (pv 0) jau jg0)) (jfe (jl0 (jb3 jf6 (pv 4) (pv 1))))) jj9)
   (jbg (jf4 (i:=5) scDraw.nd rfl (Du rfl) (jb3 jf6 (jb3 jjh (jb3 op_add (jb3 op_add (jb3 jf6 (pv 4) jau) (jb3 jjh (jb3 jjh jau (pv 3)) (pv 3))) jau) jau) jau))
   (jfe (jl0 (jb3 jf6 (jb3 jf6 (jb3 jjh (jb3 jf6 (jb3 op_add (jb3 jjh (pv 5) jau) (jb3 jjh (pv 3) jau)) jau) jau) jau) (pv 1)))))))))),?_⟩
  -- tape[2] > 0
  refine⟨_,rfl,t,_,2,_,rfl,rfl,SqL.of ht,jbc (j:=2) rfl,_,_,rfl,rfl,_,rfl,?_⟩;refine ite2 (λ_=>?_) (λ_=>?_)
  ·-- found=tape[2] % many;tape[2]=tape[2] // many;return found
   refine⟨_,rfl,t,_,2,_,rfl,rfl,SqL.of ht,jbc (j:=2) rfl,_,rfl,_,_,rfl,rfl,hm0,?_⟩;refine⟨_,rfl,t,_,2,_,rfl,rfl,SqL.of ht,jbc (j:=2) rfl,_,rfl,_,_,rfl,rfl,⟨hm0,hm1⟩,?_⟩;refine⟨_,rfl,t,_,2,2,rfl,rfl,ht,rfl,?_⟩;refine⟨_,rfl,?_⟩;refine k _ _ (Int.emod_nonneg _ (by omega)) (Gs _ hm0) ⟨⟨a,b / many,jaj,ha0,by omega⟩,by rw[jag ntl.symm];exact hl,hlen,(λz=>by rw[jag T.gne];exact T.ag z),T.gne⟩ Kp.tape
  ·-- spot=tape[1];tape[1]=spot+1;cell=0
   refine⟨_,rfl,t,_,1,_,rfl,rfl,SqL.of ht,jbc (j:=1) rfl,?_⟩;refine⟨_,rfl,_,_,rfl,rfl,_,rfl,t,_,1,1,rfl,rfl,ht,rfl,?_⟩;have ht1:∀o,upd H t o t=some o:=λo=>jaj;have hl1:∀o,upd H t o l.s=some (.lst (ns.map V.int)):=λo=>by rw[jag ntl.symm];exact hl
   generalize hH1:upd H t (.lst (((.ref l.s::.int a::.int b::exOf l:List V)).set 1 (.int (a+1))))=H1;have g1:H1 t=some (.lst (.ref l.s::.int (a+1)::.int b::exOf l)):=by rw[<-hH1];exact jaj
   have g2:H1 l.s=some (.lst (ns.map V.int)):=by rw[<-hH1];exact hl1 _
   have g3:Kp t H H1:=by rw[<-hH1];exact Kp.tape
   have g4:jqn=true->H1 l.g=some (.lst jvm):=λz=>by rw[<-hH1,jag T.gne];exact T.ag z
   refine⟨_,rfl,t,_,0,_,rfl,rfl,SqL.of g1,jbc (j:=0) rfl,l.s,_,rfl,.inl (SqL.of g2),_,_,rfl,rfl,_,rfl,?_⟩;apply ju3
   case use =>
    intro fin;refine ite2 (λhp=>?_) (λ_=>?_)
    ·have hpos:(0:Int) < ((ns.map V.int).length:Int):=of_decide_eq_true hp;obtain⟨v,hv,hm⟩:=jy8 (xs:=ns.map V.int) (r:=a % ((ns.map V.int).length:Int)) (Int.emod_nonneg _ (by omega)) (Gs _ hpos);obtain⟨c,_,rfl⟩:=Ce.mp hm;refine⟨_,rfl,t,_,0,_,rfl,rfl,SqL.of g1,jbc (j:=0) rfl,_,rfl,_,rfl,t,_,0,_,rfl,rfl,SqL.of g1,jbc (j:=0) rfl,l.s,_,rfl,.inl (SqL.of g2),_,_,rfl,rfl,hpos,l.s,_,_,.int c,rfl,rfl,SqL.of g2,hv,?_⟩;exact fin c
    ·exact fin 0
   case fin =>
    intro c;refine⟨_,rfl,_,_,rfl,rfl,⟨by decide,by decide,by decide⟩,_,_,rfl,rfl,_,rfl,?_⟩;apply j3t
    case use =>
     intro fin;refine ite2 (λ_=>?_) (λ_=>?_)
     ·refine⟨_,rfl,_,rfl,t,_,0,_,rfl,rfl,SqL.of g1,jbc (j:=0) rfl,l.s,_,rfl,.inl (SqL.of g2),_,_,rfl,rfl,_,rfl,?_⟩;refine ite2 (λ_=>?_) (λ_=>fin);refine⟨_,rfl,_,rfl,_,_,rfl,rfl,⟨hm0,hm1⟩,_,rfl,t,_,2,2,rfl,rfl,g1,rfl,_,rfl,_,rfl,_,_,rfl,rfl,hm0,?_⟩;exact k _ _ (Int.emod_nonneg _ (by omega)) (Gs _ hm0) ⟨⟨a+1,_,jaj,by omega,by omega⟩,by rw[jag ntl.symm];exact g2,hlen,(λz=>by rw[jag T.gne];exact g4 z),T.gne⟩ (g3.trans Kp.tape)
     ·exact iteF fin
    case fin =>
     refine⟨_,rfl,_,_,rfl,rfl,(by show(0:Int) < 999331;decide),_,rfl,_,_,rfl,rfl,.inl ⟨by decide,by decide⟩,_,rfl,_,_,rfl,rfl,.inl ⟨by omega,by omega⟩,_,_,rfl,rfl,_,_,rfl,rfl,_,_,rfl,rfl,.inr ⟨by decide,by decide⟩,_,_,rfl,rfl,(by show(0:Int) < 999961;decide),?_⟩;refine⟨_,rfl,_,_,rfl,rfl,.inr ⟨by decide,by decide⟩,_,rfl,_,_,rfl,rfl,.inr ⟨by decide,by decide⟩,_,_,rfl,rfl,_,_,rfl,rfl,(by show(0:Int) < 999953;decide),_,_,rfl,rfl,.inr ⟨by decide,by decide⟩,_,_,rfl,rfl,(by show(0:Int) < 524287;decide),_,rfl,_,_,rfl,rfl,hm0,?_⟩;exact k _ _ (Int.emod_nonneg _ (by omega)) (Gs _ hm0) ⟨⟨a+1,b,g1,by omega,by omega⟩,g2,hlen,g4,T.gne⟩ g3
end
end Nb
namespace Nb
open PySem L2 DL
theorem ls1 {α:Type} {us:List α} (h:us.length=1):∃a,us=[a]:=match us,h with | [a],_=>⟨a,rfl⟩
theorem ls2 {α:Type} {us:List α} (h:us.length=2):∃a b,us=[a,b]:=match us,h with | [a,b],_=>⟨a,b,rfl⟩
theorem ls3 {α:Type} {us:List α} (h:us.length=3):∃a b c,us=[a,b,c]:=match us,h with | [a,b,c],_=>⟨a,b,c,rfl⟩
theorem ls4 {α:Type} {us:List α} (h:us.length=4):∃a b c d,us=[a,b,c,d]:=match us,h with | [a,b,c,d],_=>⟨a,b,c,d,rfl⟩
theorem ls5 {α:Type} {us:List α} (h:us.length=5):∃a b c d e,us=[a,b,c,d,e]:=match us,h with | [a,b,c,d,e],_=>⟨a,b,c,d,e,rfl⟩
theorem scM {N ps:List Str} {S:Eo} (h1:S.kind=.function:=by rfl) (h2:S.isCoroutine=false:=by rfl) (h3:S.isGenerator=false:=by rfl) (h4:N.Nodup:=by decide +kernel) (h5:N.take ps.length=ps:=by rfl) (h6:∀x∈ps,S.names.lookup x=some .local\/S.names.lookup x=some .cell:=by decide +kernel) (h7:∀y∈S.names,y.2≠.free:=by decide +kernel):FnScope N ps S:=⟨h1,h2,h3,h4,h5,h6,h7⟩
theorem d_cA {X:Cx} {e:Expr} {es:List Expr} {pos p:Pos} {tR:TA} {wR:DTA} {k k':Nat} {ps:List Str} {S:DSp} {x:Str} (h:Has X.prog X.w X.K X.mg X.base k x ps S) (hr:Room k' X.A) (ha:DA X (e::es) tR wR) (hk:k<=k') (hg:Gl X x) (hdb:(x==("__debug__":Str))=false) (he:Ax (e::es) X.env=(false,eval e X.env)::Ax es X.env) (hpl:(D9 pos (Ax es X.env)).any (·.1)=false):DE X (.Call (.Name x p) (e::es) [] pos) (jne (spOf S) [] E0 tR) (jad S wR):=jyz h (hr.mono hk) hg ha hdb he hpl
def isL:NameKind->Bool
 |.local=>true
 |_=>false
def isF:NameKind->Bool
 |.free=>true
 |_=>false
def cFr (sc:Eo):List Str:=(sc.names.filter λy=>isF y.2).map (·.1)
def cN (sc:Eo):List Str:=((sc.names.drop 1).filter λy=>isL y.2).map (·.1)++cFr sc
def cCl (sc:Eo) (cells:List (Str×Addr)):List (Str×Addr):=(cFr sc).reverse.map λx=>(x,(cells.lookup x).getD 0)
def cRl (sc:Eo):List (Str×NameKind):=sc.names.map λy=>(y.1,bif isF y.2 then .cell else y.2)
inductive Frs (X:Cx) (sc:Eo):List (Option Nat)->List Str->Prop
 |nil:Frs X sc [] []
 |own {f:List (Option Nat)} {x:Str} {N:List Str} (h:Frs X sc f N):Frs X sc (none::f) (x::N)
 |free {f:List (Option Nat)} {x:Str} {N:List Str} {i:Nat} (h1:X.N[i]?=some x) (h2:Vis X.env.scope x) (h3:X.env.kindOf x=some .cell\/X.env.kindOf x=some .free) (h4:(cRl sc).lookup x=some .cell\/(cRl sc).lookup x=some .free) (h5:(cCl sc X.env.cells).lookup x=X.env.cells.lookup x) (h:Frs X sc f N):Frs X sc (some i::f) (x::N)
theorem Frs.len {X:Cx} {sc:Eo} {f:List (Option Nat)} {N:List Str} (h:Frs X sc f N):f.length=N.length:=by
 induction h with
 |nil=>rfl
 |own _ ih=>rw[A1,A1,ih]
 |free _ _ _ _ _ _ ih=>rw[A1,A1,ih]
theorem j4m {X:Cx} {sc:Eo} {f:List (Option Nat)} (h1:closureFor sc X.env=pure (cCl sc X.env.cells)) (h2:sc.kind=.function) (h3:∀y∈sc.names,y.2≠.cell) (h4:∀y∈sc.names,y.2=.local->sc.names.lookup y.1=some .local) (h5:((cFr sc).all λx=>(X.env.cells.lookup x).isSome)=true) (h6:(relabel sc X.env).names=cRl sc) (h7:∀y∈cRl sc,(y.2=.cell\/y.2=.free)->y.1∈(cFr sc).reverse) (h8:Frs X sc f (cN sc)):CompSc X (cN sc) sc (cCl sc X.env.cells) f:=by
 refine⟨h1,h2,h3,h4,jpz λy hy=>?_,ju9 _ _ h6 (show(cCl sc X.env.cells).map (·.1)=(cFr sc).reverse by unfold cCl;rw[List.map_map];exact List.map_id' _) h7,h8.len,?_⟩
 ·obtain⟨x,hx,rfl⟩:=Ce.mp hy;obtain⟨c,hc⟩:=Option.isSome_iff_exists.mp (Bt.mp h5 x (List.mem_reverse.mp hx));show X.env.cells.lookup x=some ((X.env.cells.lookup x).getD 0);rw[hc];rfl
 ·intro j i h;rw[h6];clear h1 h2 h3 h4 h5 h6 h7;generalize cN sc=N at h8 ⊢
  induction h8 generalizing j with
  |nil=>cases h
  |own _ ih=>cases j with
   |zero=>cases h
   |succ j=>exact ih j h
  |free a b c d e _ ih=>cases j with
   |zero=>cases h;exact⟨_,rfl,a,b,c,d,e⟩
   |succ j=>exact ih j h
theorem gFr {X:Cx} {sc:Eo} {f:List (Option Nat)} {N:List Str} (h:Frs X sc f N):Frs X sc f N:=h
theorem kC {X:Cx} {N:List Str} {sc:Eo} {cl:List (Str×Addr)} {s:Ak} {H:Hp} {fp:List Addr} {K:Aj} (h:X.K=K):(jaw X N sc cl s H fp).K=K:=h
theorem nC {X:Cx} {N:List Str} {sc:Eo} {cl:List (Str×Addr)} {s:Ak} {H:Hp} {fp:List Addr} (h:N.Nodup):(jaw X N sc cl s H fp).N.Nodup:=h
def zL:List Str:=["all","bool","int","isinstance","len","list","range","repr","set","sorted","str","tuple","zip"]
theorem zU {mg:Str->Option Ah} {x:Str} (z:∀x∈zL,mg x=none) (h:x∈zL):mg x=none:=z x h
theorem j2o:By "set"=some (.type "set"):=by decide +kernel
theorem jte:By "sorted"=some (.builtin "sorted"):=by decide +kernel
section
variable {P:Bm} {w:B3} {K:Aj} {mg:Str->Option Ah} {base:Heap} {fa:Addr} {fd:C1}
theorem gDE {X:Cx} {e:Expr} {t:TE} {w:DT} (h:DE X e t w):DE X e t w:=h
theorem gDA {X:Cx} {e:List Expr} {t:TA} {w:DTA} (h:DA X e t w):DA X e t w:=h
theorem gDS {X:Cx} {e:Stmt} {t:TS} {w:DST} (h:DS X e t w):DS X e t w:=h
theorem gDSs {X:Cx} {e:List Stmt} {t:TS} {w:DST} (h:DSs X e t w):DSs X e t w:=h
theorem gDC {X:Cx} {e:Expr} {t:TT} {w:DTT} (h:DC X e t w):DC X e t w:=h
theorem gDF {X:Cx} {e:Expr} {t:TE} {w:DTF} (h:DF X e t w):DF X e t w:=h
theorem gDI {X:Cx} {g e:Expr} {t:TI} {w:DTI} (h:DI X g e t w):DI X g e t w:=h
theorem j3d {X:Cx} {b rest:List Stmt} {st:Stmt} {T:TS} {W:DST} (e:b=st::rest) (h:DSs X (st::rest) T W):DSs X b T W:=e▸h
theorem bnd {x:Str} {st:Stmt} {ps:List Str} (F:Fun K x x st fa fd) (h:∀(kV doc pm:Ah) (an:Option Addr) (cdv ct:Ah) (us:List Ah),us.length=ps.length->bindArgs (Ew x x (jei st) (jbp st) (jao st) .none kV doc pm an cdv ct) ⟨us,[]⟩=pure (ps.zip us):=by
 intro _ _ _ _ _ _ us hl
 first
  |obtain⟨_,rfl⟩:=ls1 hl;rfl
  |obtain⟨_,_,rfl⟩:=ls2 hl;rfl
  |obtain⟨_,_,_,rfl⟩:=ls3 hl;rfl
  |obtain⟨_,_,_,_,rfl⟩:=ls4 hl;rfl
  |obtain⟨_,_,_,_,_,rfl⟩:=ls5 hl;rfl):Binds K fd ps []:=F.binds h
def Bnd (x:Str) (st:Stmt) (ps:List Str):Prop:=∀{K:Aj} {fa:Addr} {fd:C1},Fun K x x st fa fd->Binds K fd ps []
def Wire (P:Bm) (w:B3) (K:Aj) (mg:Str->Option Ah) (base:Heap) (k:Nat) (x:Str) (i:Nat) (fa:Addr) (N:List Str) (b:List Stmt) (W:DST):Prop:=N.Nodup->∀(cdv:Ah) (A:B8) (outer:List Env) (s:Ak) (H:Hp) (E:XK),Room k (A.deeper (Ep x (jao (top i)) s.heap.objs.size fa cdv))->∃T,DSs (cxOf CX0 P w K mg base N x (jao (top i)) fa cdv A outer s H E).nox b T W
theorem auD {k:Nat} {x:Str} {i:Nat} {N:List Str} {b:List Stmt} {W:DST} (h:N.Nodup->∀(cdv:Ah) (A:B8) (outer:List Env) (s:Ak) (H:Hp) (E:XK),Room k (A.deeper (Ep x (jao (top i)) s.heap.objs.size fa cdv))->∃T,DSs (cxOf CX0 P w K mg base N x (jao (top i)) fa cdv A outer s H E).nox b T W:=by
 intro nd cdv A outer s H E hr;apply C2;apply j3d (by exact rfl)
 repeat' first
  |with_reducible first | exact j2q | exact jy6 | exact j2p | exact jwm | exact PySem.boot_len | exact jny | exact PyProof.Rows.boot_range | exact jy5 | exact j2o | exact jte | exact j2n | exact jvf
  |with_reducible first | apply Room.units | apply Room.units0 | apply Room.hd | apply Room.gd
  |exact rfl
  |exact Du rfl
  |exact Cw (Du rfl)
  |exact Cw (Cw rfl)
  |exact Cw rfl
  | (with_reducible apply gDE;with_reducible first | apply j34 | apply j4i | apply d_cA | apply j35 | apply j4g | apply j38 | apply jks (jmo ?_) jog ?_ ?_ ?_ ?_ ?_ ?_ ?_ ?_ | apply j2f | apply j4k | apply jyw | apply d_bl | apply j2j | apply j4f | apply j4d | apply j2i | apply j4e | apply jks (jtc ?_) jxl ?_ ?_ ?_ ?_ ?_ ?_ ?_ ?_ | apply j37 | apply jks (jmo ?_) jt2 ?_ ?_ ?_ ?_ ?_ ?_ ?_ ?_ | apply jg2 (jhu ?_) jpq ?_ ?_ ?_ ?_ ?_ ?_ ?_ ?_ | apply jyy joq joh joq joh ?_ ?_ ?_ ?_ | apply js1 (jr8 ?_ ?_) jng | apply j2g | apply j2e | apply jg2 (jhu ?_) jjd ?_ ?_ ?_ ?_ ?_ ?_ ?_ ?_ | apply d_or | apply js1 jv8 jq9 | apply js1 jwa jvy | apply jg2 (jjq ?_) jq8 ?_ ?_ ?_ ?_ ?_ ?_ ?_ ?_ | apply j4c | apply j36 | apply j4j | apply jyx | apply j39 | apply jg2 jta jxc ?_ ?_ ?_ ?_ ?_ ?_ ?_ ?_ | apply jks (jp7 ?_ ?_ ?_) jq6 ?_ ?_ ?_ ?_ ?_ ?_ ?_ ?_ | apply j4a | apply js1 jv7 jvx | apply js1 (j02 ?_ ?_) jvz | apply j4b | apply DF.d)
  | (with_reducible apply gDA;with_reducible first | apply j2r | apply j4u)
  | ((with_reducible apply gDS);first | ((with_reducible apply jz5);case hx=>exact rfl) | ((with_reducible apply jz6);case hx=>exact rfl) | with_reducible first | apply j24 | apply s_if | apply j23 | apply j3a | apply j3c | apply j26 | apply j22 | apply jz7 | apply j25 | apply j3b)
  | (with_reducible apply gDSs;with_reducible first | apply j29 | apply jz8 | apply j28 | apply j27)
  | ((with_reducible apply gDC);first | (with_reducible apply DCW.cc;with_reducible first | apply cw_and | apply cw_or) | with_reducible first | apply j4p | apply jfp (jr8 ?_ ?_) jng | apply jfp j3i jzy | apply jfp (jr8 ?_ ?_) jxj | apply jfp jv7 jvx | apply jfp (j01 ?_ ?_) jvz | apply jfp jwa jvy | apply jfp (jr2 ?_) jxh | apply jfp (jx8 ?_ ?_) jv0 | apply jfp (jx9 ?_ ?_) jv0 | apply jy4 joq joh joq joh ?_ ?_ ?_ ?_ | apply j4q | apply jfp (jv9 ?_) jls | apply jfp jr1 jpr | apply jfp jv8 jq9 | apply jfp jx7 jt0 | apply j4o)
  | (with_reducible apply gDF;with_reducible first | apply j31 | apply jsv | apply jsu | apply ju5)
  | (with_reducible apply gDI;with_reducible first | apply ju0 | apply j3q | apply j1v | apply j1u | apply j1w | apply jyp | apply j3s)
  |with_reducible first | apply j14 | apply jyr | apply j07 | apply j06 | apply jnq | apply cw_or | apply cw_or1 | apply j13 | apply j12 | apply j1t | apply j1s | apply cw_and | apply cw_and1 | apply jyh | apply j4m
  |assumption
  |with_reducible first | apply kC | apply nC
  | ((with_reducible apply gFr);first | apply Frs.nil | apply Frs.own | apply Frs.free)
  |exact jl6 _
  |exact λ_ _=>rfl
  |exact λ_=>rfl
  |exact zU (by assumption) (by decide +kernel)
  |exact PassesOwn.never
  |exact⟨rfl,rfl,rfl,rfl⟩
  |with_unfolding_all rfl
  |decide
  |decide +kernel
  |omega
  |exact Cw (Cw (Du rfl))
  |exact Cw (Cw (Cw (Du rfl)))
  |exact Cw (Cw (Cw (Cw rfl)))
  |intro(_:Ak) _ _
  |exact(0:Int)):Wire P w K mg base k x i fa N b W:=h
theorem hasD {i p:Nat} {N:List Str} {S:DSp} {W:DST} (k:Nat) (x:Str) (F:Fun K x x (top i) fa fd/\mg x=some (.ref fa)) (len:∀ws n Q,S ws n Q->ws.length=p) (body:∀ws n Q,S ws n Q->W (jam N ws) n {nx:=λ_ n=>Q (.d .none) n,rt:=Q}) (hp:(N.take p).length=p:=by rfl) (Sc:FnScope N (N.take p) (jao (top i)):=by exact scM) (b:Bnd x (top i) (N.take p):=by intro _ _ _ F;exact bnd F)
  (h:Wire P w K mg base k x i fa N (jbp (top i)) W:=by exact auD):Has P w K mg base (k+1) x (N.take p) S :=
 Has.mk' F.1 F.2 (b F.1) (Fun.okD F.1 Sc (λws n Q q=>by rw[hp];exact len ws n Q q) λcdv A outer s H E hr=>(h Sc.nd cdv A outer s H E hr).elim λT d=>⟨T,W,d,body⟩)
theorem hasR {i p:Nat} {N:List Str} {S:Nat->DSp} {W:DSp->DST} (c0:Nat) (x:Str) (F:Fun K x x (top i) fa fd/\mg x=some (.ref fa)) (len:∀d ws n Q,S d ws n Q->ws.length=p) (z:∀ws n Q,¬S 0 ws n Q) (body:∀d ws n Q,S (d+1) ws n Q->W (S d) (jam N ws) n {nx:=λ_ n=>Q (.d .none) n,rt:=Q}) (D:Nat) (hp:(N.take p).length=p:=by rfl) (Sc:FnScope N (N.take p) (jao (top i)):=by exact scM) (b:Bnd x (top i) (N.take p):=by intro _ _ _ F;exact bnd F)
  (h:∀k d:Nat,c0<=k->Has P w K mg base k x (N.take p) (S d)->Wire P w K mg base k x i fa N (jbp (top i)) (W (S d)):=by intro k d hk hS;exact auD):Has P w K mg base (c0+D) x (N.take p) (S D):=by
 induction D with
 |zero=>exact Has.mk' F.1 F.2 (b F.1) ⟨λvs H Q E h=>(by obtain⟨_,_,_,_,_,_,_,_,_,_,_,q,_⟩:=h;exact absurd q (z _ _ _)),λA outer s H args us vs Q E hr he hb hv h=>(by obtain⟨_,_,_,_,_,_,_,_,_,_,_,q,_⟩:=h;exact absurd q (z _ _ _))⟩
 |succ d ih=>exact Has.mk' F.1 F.2 (b F.1) (Fun.okD F.1 Sc (λws n Q q=>by rw[hp];exact len (d+1) ws n Q q) λcdv A outer s H E hr=>(h (c0+d) d (Nat.le_add_right _ _) ih Sc.nd cdv A outer s H E hr).elim λT e=>⟨T,W (S d),e,body d⟩)
theorem okL {fT:Addr} {fdT:C1} {i:Nat} {N:List Str} {W:DST} {s0:Stmt} {rest:List Stmt} (k:Nat) (F:Fun K "law" "law" (top i) fa fd) (GT:FnOk P w K mg base CX0 1 fT fdT Za (jlp K)) (bT:Binds K fdT Za []) (mT:mg "_law_tape"=some (.ref fT)) (kT:Cz K (.ref fT)=true) (hW:W (none::some (.w .tp)::Dc (N.length - 2) none) 0 lawEnds) (e:jbp (top i)=s0::rest) (h0:N.Nodup->∀(cdv:Ah) (A:B8) (outer:List Env) (s:Ak) (H:Hp) (E:XK),Room k (A.deeper (Ep "law" (jao (top i)) s.heap.objs.size fa cdv))->PS (cxOf CX0 P w K mg base N "law" (jao (top i)) fa cdv A outer s H E).nox s0 (tAsg (jne (jlp K) [] E0 (jb2 (tVar 0) tNil)) (jgw 1))) (hN:∀v,start N [v]=some v::none::Dc (N.length - 2) none:=by intro _;rfl) (Sc:FnScope N Za (jao (top i)):=by exact scM)
  (h:Wire P w K mg base k "law" i fa N rest W:=by exact auD):FnOk P w K mg base CX0 (k+1) fa fd Za (DL.spLaw K) :=
 j1g F Sc GT bT mT kT hN hW λcdv A outer s H E hr=>(h Sc.nd cdv A outer s H E hr).elim λT d=>⟨s0,rest,T,e,h0 Sc.nd cdv A outer s H E hr,d⟩
end
abbrev oT (t:String) (d:Data):Obj:=⟨.type t,none,d,#[]⟩
structure Ds where
 i:Nat
 x:Str
 t:Nat
 l:Nat
 n:Nat
 r:Nat
 b:Bool
 v:Nat
 m:Nat
abbrev Ds.c (d:Ds):Nat:=if d.b then d.r+5 else d.r+3
abbrev Ds.f (d:Ds):Nat:=if d.b then d.r+6 else d.r+4
abbrev mOd (m:Nat):Ah:=[(.str "noteboard.values" 187),(.str "noteboard.patterns" 260),(.str "noteboard.programs" 268),(.str "noteboard.stands" 287),(.str "law_noteboard_k19_faults_of_stands" 343)].getD m .none
abbrev fdO (d:Ds):C1:=Ew d.x d.x (jei (top d.i)) (jbp (top d.i)) (jao (top d.i)) .none .none .none (mOd d.m) none (.ref d.c) .none
abbrev oF (d:Ds):Obj:=oT "function" (.func (fdO d))
abbrev oC (d:Ds):Obj:=oT "code" (.fields #[.str d.x d.t,.str d.x (d.t+1),.str "/claim/cut.py" (d.t+2),.int d.l 0,.int d.n 0,.int 0 0,.int 0 0,.int 3 0,.ref d.r,.bool true,.int 181 0,.ref (d.r+1),.none,if d.b then .ref (d.r+2)else .none,if d.b then .ref (d.r+3)else .none,.ref (if d.b then d.r+4 else d.r+2),.int d.v 0,.int d.l 0,.str "/claim/cut.py" (d.v+1)])
abbrev eN (P:Params) (x:Str) (t:Nat) (v:Ah):DictEntry:=⟨PyData.keyHash P x,.str x t,v⟩
abbrev en (P:Params) (d:Ds):DictEntry:=eN P d.x (d.v+2) (.ref d.f)
def dL:List Ds:=[⟨6,"is_whole",199,7,1,15,true,203,0⟩,⟨7,"is_letters",206,9,2,22,false,209,0⟩,⟨8,"is_word",212,13,1,27,true,216,0⟩,⟨9,"is_number",219,15,1,34,true,223,0⟩,⟨10,"is_value",226,17,1,41,true,230,0⟩,⟨11,"is_name",233,19,1,48,true,237,0⟩,⟨12,"is_row",240,21,1,55,false,243,0⟩,⟨13,"is_age",246,25,1,60,true,250,0⟩,⟨14,"is_note",253,27,1,67,true,257,0⟩,⟨16,"binds",262,30,1,74,false,265,1⟩,⟨19,"known_at",274,34,3,80,true,284,2⟩,⟨21,"is_named_value",289,43,1,87,true,293,3⟩,⟨22,"is_names",296,45,1,94,false,299,3⟩,⟨23,"has_hands_form",302,49,1,99,false,305,3⟩,⟨24,"has_stand_form",308,51,1,104,true,312,3⟩,⟨25,"is_within",315,55,2,111,true,320,3⟩,⟨26,"is_placed",323,57,2,118,true,328,3⟩,⟨27,"has_known_names",331,59,2,125,false,334,3⟩,⟨28,"fault_of",337,63,2,130,false,340,3⟩,⟨30,"_law_tape",345,77,1,135,true,349,4⟩,⟨31,"_law_draw",352,79,2,142,true,361,4⟩,⟨32,"_law_value",364,94,1,149,true,368,4⟩,⟨33,"_law_size",371,96,1,156,true,375,4⟩,⟨34,"_law_age",378,98,1,163,true,382,4⟩,⟨35,"_law_pattern",385,100,2,170,true,396,4⟩,⟨36,"_law_template",399,117,2,177,true,407,4⟩,⟨37,"_law_term",410,126,2,184,true,415,4⟩,⟨38,"_law_act",418,130,3,191,true,428,4⟩,⟨39,"_law_program",431,143,1,198,false,434,4⟩,⟨40,"_law_notes",437,160,2,203,false,440,4⟩,⟨41,"_law_plan",443,166,1,208,false,446,4⟩,⟨42,"_law_known",449,171,3,213,false,452,4⟩,⟨43,"_law_stand",455,177,2,218,false,458,4⟩,⟨44,"_law_up_to",461,185,2,223,true,466,4⟩,⟨45,"_law_is_small",469,187,2,230,false,472,4⟩,⟨46,"_law_is_value",475,191,1,235,true,479,4⟩,⟨47,"_law_is_note",482,193,1,242,false,485,4⟩,⟨48,"_law_are_names",488,200,2,247,true,495,4⟩,⟨49,"_law_fault",498,209,2,254,false,501,4⟩,⟨50,"_law_odd",504,226,1,259,true,509,4⟩,⟨51,"_law_deeper",512,229,3,266,true,520,4⟩,⟨52,"_law_bad_note",523,239,2,273,true,531,4⟩,⟨53,"_law_bad_hand",534,249,4,280,true,549,4⟩,⟨54,"_law_spoiled",552,264,3,287,true,563,4⟩,⟨55,"_law_told_right",566,277,2,294,true,574,4⟩,⟨56,"law",577,284,1,301,false,580,4⟩]
def KK (P:Params):Aj:=let e:=eN P
 (3,oT "dict" (.dict ([e "__name__" 165 (.str "law_noteboard_k19_faults_of_stands" 343),e "__doc__" 166 .none,e "__package__" 167 .none,e "__loader__" 168 (.builtin "__main__.__loader__#opaque"),e "__spec__" 169 .none,e "__annotations__" 170 (.ref 6),e "__builtins__" 171 (.ref 4),e "__file__" 173 (.str "/claim/cut.py" 172),e "__cached__" 174 .none,e "LONGEST_WORD" 190 (.int 8 189),e "LONGEST_NAME" 192 (.int 4 191),e "LONGEST_ROW" 194 (.int 4 193),e "GREATEST_NUMBER" 196 (.int 99 195),e "GREATEST_AGE" 198 (.int 20 197)]++((dL.drop 0).take 10).map (en P)++[e "GETTING" 273 (.ref 79)]++((dL.drop 10).take 36).map (en P)).toArray 61))::(dL.flatMap λd=>[(d.c,oC d),(d.f,oF d)])++[(79,oT "tuple" (.seq #[(.str "take" 270),(.str "read" 271),(.str "look" 272)] 0))]
def aS:List Addr:=3::(dL.flatMap λd=>[d.c,d.f])++[79]
abbrev pp:Bm:=PySem.Challenge.pw_noteboard_k19_faults_of_stands
abbrev qq:Bm:=PySem.W.view pp [56]
def lO:List Str:=(["LONGEST_WORD","LONGEST_NAME","LONGEST_ROW","GREATEST_NUMBER","GREATEST_AGE","is_whole","is_letters","is_word","is_number","is_value","is_name","is_row","is_age","is_note","binds","GETTING","known_at","is_named_value","is_names","has_hands_form","has_stand_form","is_within","is_placed","has_known_names","fault_of","_law_tape","_law_draw","_law_value","_law_size","_law_age","_law_pattern","_law_template","_law_term","_law_act","_law_program","_law_notes","_law_plan","_law_known","_law_stand","_law_up_to","_law_is_small","_law_is_value","_law_is_note","_law_are_names","_law_fault","_law_odd","_law_deeper","_law_bad_note","_law_bad_hand","_law_spoiled","_law_told_right"]:List String).map Cg
abbrev xT:Ak->Bool:=λs=>PySem.W.xlAt qq [] s&&PySem.W.recOk (PySem.W.RowW.records PySem.Challenge.rw_noteboard_k19_faults_of_stands.row.toRowW) s
theorem aK:∀P,aS=(KK P).map (·.1):=λP=>by kernel_rfl
abbrev hK:PySem.W.Hook:=PySem.W.kHook KK aS aK
theorem left_:PySem.W.LeftO pp qq lO xT hK.obs hK.val 3000:=λw=>by kernel_rfl
def j2d (s:Stmt):Pos:=match s with
 |.FunctionDef _ _ _ _ _ _ _ _ _ p=>p
 |_=>⟨0,0,0,0⟩
def dW:DefRec:=⟨"law",jei jt7,jbp jt7,jao jt7,j2d jt7⟩
theorem said_:PySem.Challenge.rw_noteboard_k19_faults_of_stands.wellSaid=true:=by kernel_rfl
theorem fnE (P:Params):(dL.map λd=>(PySem.W.nsIn (KK P) Dm d.x,(KK P).lookup d.f,PySem.W.codeIn (KK P) (.ref d.c) d.x))=dL.map λd=>(some (some (.ref d.f)),some (oF d),true):=by kernel_rfl
theorem jwe {α β:Type} {f g:α->β} {l:List α} (h:l.map f=l.map g) {j:Nat} {a:α} (e:l[j]?=some a):f a=g a:=by
 have:=congrArg (λl=>l[j]?) h;simp only[A7,e,Option.map_some]at this;exact Bj this
theorem zE (P:Params):(zL.map λx=>PySem.W.nsIn (KK P) Dm x)=zL.map λ_=>some none:=by kernel_rfl
section
variable {P:Params} {h:Heap} {mg:Str->Option Ah} (X:(KK P).In h) (G:h.Ns Dm mg)
include X G
theorem fnK (j:Nat) (d:Ds) (e:dL[j]?=some d):(Fun (KK P) d.x d.x (top d.i) d.f (fdO d)/\mg d.x=some (.ref d.f))/\Cz (KK P) (.ref d.f)=true:=by
 have q:=jwe (fnE P) e;obtain⟨q1,q2⟩:=Prod.mk.inj q;obtain⟨q2,q3⟩:=Prod.mk.inj q2;have k:Cz (KK P) (.ref d.f)=true:=by
  unfold Cz;simp only[q2]
 exact⟨⟨j16 q2 q3 k,E7 X G q1⟩,k⟩
theorem zK (x:Str) (h:x∈zL):mg x=none:=by
 obtain⟨j,e⟩:=List.mem_iff_getElem?.mp h;exact PySem.W.mg_none_of X G (jwe (zE P) e)
end
abbrev pR:Bm:=PySem.W.OpenLaw.prog PySem.Challenge.rw_noteboard_k19_faults_of_stands
structure Cv where
 P:Bm
 w:B3
 K:Aj
 mg:Str->Option Ah
 base:Heap
abbrev jar (c:Cv):Prop:=Has c.P c.w c.K c.mg c.base 1 "_law_draw" Zh jak
abbrev jd0 (c:Cv):Prop:=Has c.P c.w c.K c.mg c.base 1 "is_whole" Zd (spJ jc6)
abbrev jdo (c:Cv):Prop:=Has c.P c.w c.K c.mg c.base 1 "is_letters" ["thing","longest"] jb0
abbrev jm1 (c:Cv):Prop:=Has c.P c.w c.K c.mg c.base 2 "is_word" Zd (spJ (letB 8))
abbrev jik (c:Cv):Prop:=Has c.P c.w c.K c.mg c.base 2 "is_number" Zd (spJ numB)
abbrev jf0 (c:Cv):Prop:=Has c.P c.w c.K c.mg c.base 3 "is_value" Zd (spJ jan)
abbrev jm3 (c:Cv):Prop:=Has c.P c.w c.K c.mg c.base 2 "is_name" Zd (spJ (letB 4))
abbrev jpa (c:Cv):Prop:=Has c.P c.w c.K c.mg c.base 4 "is_row" Zd (spJ rowB)
abbrev jpb (c:Cv):Prop:=Has c.P c.w c.K c.mg c.base 2 "is_age" Zd (spJ ageB)
abbrev jm2 (c:Cv):Prop:=Has c.P c.w c.K c.mg c.base 5 "is_note" Zd (spJ jcb)
abbrev jtn (c:Cv):Prop:=Has c.P c.w c.K c.mg c.base 1 "binds" ["pattern"] jfz
abbrev jjz (c:Cv):Prop:=Has c.P c.w c.K c.mg c.base 2 "known_at" ["program","block","place"] jvp
abbrev jc2 (c:Cv):Prop:=Has c.P c.w c.K c.mg c.base 4 "is_named_value" Zd (spJ nvB)
abbrev jj0 (c:Cv):Prop:=Has c.P c.w c.K c.mg c.base 5 "is_names" Zd (spJ nmsB)
abbrev jc4 (c:Cv):Prop:=Has c.P c.w c.K c.mg c.base 1 "has_hands_form" Zd (spJ hfB)
abbrev jc3 (c:Cv):Prop:=Has c.P c.w c.K c.mg c.base 2 "has_stand_form" Zd (spJ sfB)
abbrev jii (c:Cv):Prop:=Has c.P c.w c.K c.mg c.base 2 "is_within" ["thing","most"] jqc
abbrev jij (c:Cv):Prop:=Has c.P c.w c.K c.mg c.base 3 "is_placed" ["program","hand"] jtk
abbrev jcf (c:Cv):Prop:=Has c.P c.w c.K c.mg c.base 6 "has_known_names" ["program","hand"] jtl
abbrev jf1 (c:Cv):Prop:=Has c.P c.w c.K c.mg c.base 7 "fault_of" ["programs","thing"] jdn
abbrev jbj (c:Cv):Prop:=Has c.P c.w c.K c.mg c.base 2 "_law_value" Ze jdm
abbrev jct (c:Cv):Prop:=Has c.P c.w c.K c.mg c.base 2 "_law_size" Ze jie
abbrev jf2 (c:Cv):Prop:=Has c.P c.w c.K c.mg c.base 2 "_law_age" Ze jqd
abbrev jec (c:Cv):Prop:=Has c.P c.w c.K c.mg c.base 3 "_law_pattern" Zf jo8
abbrev jdp (c:Cv):Prop:=Has c.P c.w c.K c.mg c.base 3 "_law_template" Zf jo7
abbrev jil (c:Cv):Prop:=Has c.P c.w c.K c.mg c.base 3 "_law_term" Zf jif
abbrev jj1 (c:Cv):Prop:=Has c.P c.w c.K c.mg c.base 4 "_law_act" ["_law_tape_here","_law_known_here","_law_open_ones"] jjy
abbrev jeb (c:Cv):Prop:=Has c.P c.w c.K c.mg c.base 5 "_law_program" Ze jo6
abbrev jdq (c:Cv):Prop:=Has c.P c.w c.K c.mg c.base 3 "_law_notes" ["_law_tape_here","_law_most"] jfy
abbrev jim (c:Cv):Prop:=Has c.P c.w c.K c.mg c.base 6 "_law_plan" Ze jmy
abbrev jdr (c:Cv):Prop:=Has c.P c.w c.K c.mg c.base 1 "_law_known" ["_law_program_here","_law_block","_law_place"] jdz
abbrev jgh (c:Cv):Prop:=Has c.P c.w c.K c.mg c.base 4 "_law_stand" ["_law_tape_here","_law_programs"] jid
abbrev jb8 (c:Cv):Prop:=Has c.P c.w c.K c.mg c.base 1 "_law_up_to" Zg jdl
abbrev jds (c:Cv):Prop:=Has c.P c.w c.K c.mg c.base 1 "_law_is_small" Zg jeq
abbrev jb1 (c:Cv):Prop:=Has c.P c.w c.K c.mg c.base 2 "_law_is_value" ["_law_thing"] (spJ jan)
abbrev jed (c:Cv):Prop:=Has c.P c.w c.K c.mg c.base 3 "_law_is_note" ["_law_thing"] jig
abbrev jc5 (c:Cv):Prop:=Has c.P c.w c.K c.mg c.base 3 "_law_are_names" ["_law_thing","_law_known_here"] jmz
abbrev jgi (c:Cv):Prop:=Has c.P c.w c.K c.mg c.base 4 "_law_fault" ["_law_programs","_law_thing"] jg3
abbrev jch (c:Cv):Prop:=Has c.P c.w c.K c.mg c.base 2 "_law_odd" Ze jcs
abbrev je9 (c:Cv):Prop:=Has c.P c.w c.K c.mg c.base 9 "_law_deeper" ["_law_tape_here","_law_thing","_law_deep"] (je8 6)
abbrev jdt (c:Cv):Prop:=Has c.P c.w c.K c.mg c.base 3 "_law_bad_note" ["_law_tape_here","_law_note"] jm0
abbrev jdu (c:Cv):Prop:=Has c.P c.w c.K c.mg c.base 3 "_law_bad_hand" ["_law_tape_here","_law_program_here","_law_hand","_law_way"] jo9
abbrev jea (c:Cv):Prop:=Has c.P c.w c.K c.mg c.base 4 "_law_spoiled" ["_law_tape_here","_law_programs","_law_stand_here"] jk7
abbrev jcg (c:Cv):Prop:=Has c.P c.w c.K c.mg c.base 8 "_law_told_right" ["_law_programs","_law_thing"] jjx
section
variable {c:Cv} (F:∀(j:Nat) (d:Ds),dL[j]?=some d->(Fun c.K d.x d.x (top d.i) d.f (fdO d)/\c.mg d.x=some (.ref d.f))/\Cz c.K (.ref d.f)=true) (z:∀x∈zL,c.mg x=none) (u0:c.mg "GREATEST_AGE"=some (.int 20 197)) (u1:c.mg "GREATEST_NUMBER"=some (.int 99 195)) (u2:c.mg "LONGEST_NAME"=some (.int 4 191)) (u3:c.mg "LONGEST_ROW"=some (.int 4 193)) (u4:c.mg "LONGEST_WORD"=some (.int 8 189)) (u5:c.mg "GETTING"=some (.ref 79)) (u6:∀H,SqT c.K H 79 ((Zb:List Str).map V.str))
include F z u0 u1 u2 u3 u4 u5 u6
theorem jnc:jar c:=Has.mk' (F 20 _ rfl).1.1 (F 20 _ rfl).1.2 (bnd (F 20 _ rfl).1.1) (ju7 (jyd (F 20 _ rfl).1.1 (zU z (by decide +kernel))))
theorem jpg:jd0 c:=hasD (i:=6) 0 "is_whole" (F 0 _ rfl).1 jl9 jkw
theorem jlc:jdo c:=hasD (i:=7) 0 "is_letters" (F 1 _ rfl).1 jiv jhx
theorem jqo (h0:jdo c):jm1 c:=hasD (i:=8) 1 "is_word" (F 2 _ rfl).1 jnr jmp
theorem jm8 (h0:jd0 c):jik c:=hasD (i:=9) 1 "is_number" (F 3 _ rfl).1 jkj ji7
theorem jph (h0:jik c) (h1:jm1 c):jf0 c:=hasD (i:=10) 2 "is_value" (F 4 _ rfl).1 jma jkx
theorem jqq (h0:jdo c):jm3 c:=hasD (i:=11) 1 "is_name" (F 5 _ rfl).1 jnt jmr
theorem jtv (h0:jf0 c):jpa c:=hasD (i:=12) 3 "is_row" (F 6 _ rfl).1 jp0 jnz
theorem jtw (h0:jd0 c):jpb c:=hasD (i:=13) 1 "is_age" (F 7 _ rfl).1 jp1 jn0
theorem jqp (h0:jpb c) (h1:jpa c):jm2 c:=hasD (i:=14) 4 "is_note" (F 8 _ rfl).1 jns jmq
theorem jw5:jtn c:=hasD (i:=16) 0 "binds" (F 9 _ rfl).1 jsi jp9
theorem jpf (h0:jtn c):jjz c:=hasD (i:=19) 1 "known_at" (F 10 _ rfl).1 jl8 jkv
theorem jgk (h0:jm3 c) (h1:jf0 c):jc2 c:=hasD (i:=21) 3 "is_named_value" (F 11 _ rfl).1 jew jel
theorem jpi (h0:jc2 c):jj0 c:=hasD (i:=22) 4 "is_names" (F 12 _ rfl).1 jmb jky
theorem jgm:jc4 c:=hasD (i:=23) 0 "has_hands_form" (F 13 _ rfl).1 jey jen
theorem jgl (h0:jc4 c):jc3 c:=hasD (i:=24) 1 "has_stand_form" (F 14 _ rfl).1 jex jem
theorem jm6 (h0:jd0 c):jii c:=hasD (i:=25) 1 "is_within" (F 15 _ rfl).1 jev ji5
theorem jm7 (h0:jii c):jij c:=hasD (i:=26) 2 "is_placed" (F 16 _ rfl).1 jki ji6
theorem jfb (h0:jj0 c) (h1:jjz c):jcf c:=hasD (i:=27) 5 "has_known_names" (F 17 _ rfl).1 jeg jd1
theorem jpj (h0:jcf c) (h1:jc3 c) (h2:jm2 c) (h3:jij c):jf1 c:=hasD (i:=28) 6 "fault_of" (F 18 _ rfl).1 jf7 jkz
theorem jld (h0:jar c):jbj c:=hasD (i:=32) 1 "_law_value" (F 21 _ rfl).1 jiw jhy
theorem jna (h0:jar c):jct c:=hasD (i:=33) 1 "_law_size" (F 22 _ rfl).1 jkl ji9
theorem jpl (h0:jar c):jf2 c:=hasD (i:=34) 1 "_law_age" (F 23 _ rfl).1 jmd jk1
theorem jir (h0:jar c) (h1:jct c) (h2:jbj c):jec c:=hasD (i:=35) 2 "_law_pattern" (F 24 _ rfl).1 jgt jft
theorem jg9 (h0:jar c) (h1:jct c) (h2:jbj c):jdp c:=hasD (i:=36) 2 "_law_template" (F 25 _ rfl).1 jfg je3
theorem jm9 (h0:jar c) (h1:jbj c):jil c:=hasD (i:=37) 2 "_law_term" (F 26 _ rfl).1 jkk ji8
theorem jpm (h0:jf2 c) (h1:jar c) (h2:jec c) (h3:jdp c) (h4:jil c):jj1 c:=hasD (i:=38) 3 "_law_act" (F 27 _ rfl).1 jme jk2
theorem jiq (h0:jj1 c) (h1:jar c):jeb c:=hasD (i:=39) 4 "_law_program" (F 28 _ rfl).1 jgs jfs
theorem jlg (h0:jf2 c) (h1:jar c) (h2:jct c) (h3:jbj c):jdq c:=hasD (i:=40) 2 "_law_notes" (F 29 _ rfl).1 jiz jh1
theorem jnb (h0:jar c) (h1:jdq c) (h2:jeb c):jim c:=hasD (i:=41) 5 "_law_plan" (F 30 _ rfl).1 jkm jja
theorem jlh:jdr c:=hasD (i:=42) 0 "_law_known" (F 31 _ rfl).1 ji0 jh2
theorem jlf (h0:jar c) (h1:jdr c) (h2:jdq c) (h3:jbj c):jgh c:=hasD (i:=43) 3 "_law_stand" (F 32 _ rfl).1 jiy jh0
theorem jle:jb8 c:=hasD (i:=44) 0 "_law_up_to" (F 33 _ rfl).1 jix jhz
theorem jhb:jds c:=hasD (i:=45) 0 "_law_is_small" (F 34 _ rfl).1 jfi je5
theorem jha (h0:jds c) (h1:jb8 c):jb1 c:=hasD (i:=46) 1 "_law_is_value" (F 35 _ rfl).1 jfh je4
theorem jis (h0:jb1 c) (h1:jb8 c):jed c:=hasD (i:=47) 2 "_law_is_note" (F 36 _ rfl).1 jgu jfu
theorem jgn (h0:jb1 c):jc5 c:=hasD (i:=48) 2 "_law_are_names" (F 37 _ rfl).1 jez jeo
theorem jli (h0:jc5 c) (h1:jed c) (h2:jdr c) (h3:jb8 c):jgi c:=hasD (i:=49) 3 "_law_fault" (F 38 _ rfl).1 ji1 jh3
theorem jpk (h0:jar c):jch c:=hasD (i:=50) 1 "_law_odd" (F 39 _ rfl).1 jmc jk0
theorem jj5 (h0:jar c) (h1:jch c):je9 c:=hasR (S:=je8) (i:=51) 3 "_law_deeper" (F 40 _ rfl).1 jhj (λ_ _ _ h=>h) jgy 6
theorem jhc (h0:jar c) (h1:jch c):jdt c:=hasD (i:=52) 2 "_law_bad_note" (F 41 _ rfl).1 jfj je6
theorem jhd (h0:jar c) (h1:jch c):jdu c:=hasD (i:=53) 2 "_law_bad_hand" (F 42 _ rfl).1 jfk je7
theorem jip (h0:jdu c) (h1:jdt c) (h2:jar c):jea c:=hasD (i:=54) 3 "_law_spoiled" (F 43 _ rfl).1 jgr jfr
theorem jfc (h0:jgi c) (h1:jf1 c):jcg c:=hasD (i:=55) 7 "_law_told_right" (F 44 _ rfl).1 jeh jd2
theorem j21 (h0:je9 c) (h1:jch c) (h2:jim c) (h3:jea c) (h4:jgh c) (h5:jcg c) (h6:jf1 c):FnOk c.P c.w c.K c.mg c.base CX0 10 (Ds.f ⟨56,"law",577,284,1,301,false,580,4⟩) (fdO ⟨56,"law",577,284,1,301,false,580,4⟩) Za (DL.spLaw c.K):=by
 have bT:=bnd (ps:=Za) (F 19 _ rfl).1.1;have GT:=jyc (P:=c.P) (w:=c.w) (mg:=c.mg) (base:=c.base) (F 19 _ rfl).1.1;exact okL (i:=56) (N:=Zc) 9 (F 45 _ rfl).1.1 GT bT (F 19 _ rfl).1.2 (F 19 _ rfl).2 jvg rfl λnd cdv A outer s H E hr=>jf4 (i:=1) nd rfl (Du rfl) (jry GT (hr.mono (by decide)) rfl (F 19 _ rfl).1.2 (F 19 _ rfl).2 bT .nil j0z (jas (pv 0) jbm))
end
theorem jy9 (c:Cv) (F:∀(j:Nat) (d:Ds),dL[j]?=some d->(Fun c.K d.x d.x (top d.i) d.f (fdO d)/\c.mg d.x=some (.ref d.f))/\Cz c.K (.ref d.f)=true) (z:∀x∈zL,c.mg x=none) (u0:c.mg "GREATEST_AGE"=some (.int 20 197)) (u1:c.mg "GREATEST_NUMBER"=some (.int 99 195)) (u2:c.mg "LONGEST_NAME"=some (.int 4 191)) (u3:c.mg "LONGEST_ROW"=some (.int 4 193)) (u4:c.mg "LONGEST_WORD"=some (.int 8 189)) (u5:c.mg "GETTING"=some (.ref 79)) (u6:∀H,SqT c.K H 79 ((Zb:List Str).map V.str)):FnOk c.P c.w c.K c.mg c.base CX0 10 (Ds.f ⟨56,"law",577,284,1,301,false,580,4⟩) (fdO ⟨56,"law",577,284,1,301,false,580,4⟩) Za (DL.spLaw c.K):=by
 have a__law_draw:=jnc F z u0 u1 u2 u3 u4 u5 u6;have a_is_whole:=jpg F z u0 u1 u2 u3 u4 u5 u6;have a_is_letters:=jlc F z u0 u1 u2 u3 u4 u5 u6;have a_is_word:=jqo F z u0 u1 u2 u3 u4 u5 u6 a_is_letters;have a_is_number:=jm8 F z u0 u1 u2 u3 u4 u5 u6 a_is_whole;have a_is_value:=jph F z u0 u1 u2 u3 u4 u5 u6 a_is_number a_is_word;have a_is_name:=jqq F z u0 u1 u2 u3 u4 u5 u6 a_is_letters;have a_is_row:=jtv F z u0 u1 u2 u3 u4 u5 u6 a_is_value;have a_is_age:=jtw F z u0 u1 u2 u3 u4 u5 u6 a_is_whole;have a_is_note:=jqp F z u0 u1 u2 u3 u4 u5 u6 a_is_age a_is_row;have a_binds:=jw5 F z u0 u1 u2 u3 u4 u5 u6;have a_known_at:=jpf F z u0 u1 u2 u3 u4 u5 u6 a_binds;have a_is_named_value:=jgk F z u0 u1 u2 u3 u4 u5 u6 a_is_name a_is_value;have a_is_names:=jpi F z u0 u1 u2 u3 u4 u5 u6 a_is_named_value;have a_has_hands_form:=jgm F z u0 u1 u2 u3 u4 u5 u6;have a_has_stand_form:=jgl F z u0 u1 u2 u3 u4 u5 u6 a_has_hands_form;have a_is_within:=jm6 F z u0 u1 u2 u3 u4 u5 u6 a_is_whole;have a_is_placed:=jm7 F z u0 u1 u2 u3 u4 u5 u6 a_is_within;have a_has_known_names:=jfb F z u0 u1 u2 u3 u4 u5 u6 a_is_names a_known_at;have a_fault_of:=jpj F z u0 u1 u2 u3 u4 u5 u6 a_has_known_names a_has_stand_form a_is_note a_is_placed;have a__law_value:=jld F z u0 u1 u2 u3 u4 u5 u6 a__law_draw;have a__law_size:=jna F z u0 u1 u2 u3 u4 u5 u6 a__law_draw;have a__law_age:=jpl F z u0 u1 u2 u3 u4 u5 u6 a__law_draw;have a__law_pattern:=jir F z u0 u1 u2 u3 u4 u5 u6 a__law_draw a__law_size a__law_value;have a__law_template:=jg9 F z u0 u1 u2 u3 u4 u5 u6 a__law_draw a__law_size a__law_value;have a__law_term:=jm9 F z u0 u1 u2 u3 u4 u5 u6 a__law_draw a__law_value;have a__law_act:=jpm F z u0 u1 u2 u3 u4 u5 u6 a__law_age a__law_draw a__law_pattern a__law_template a__law_term;have a__law_program:=jiq F z u0 u1 u2 u3 u4 u5 u6 a__law_act a__law_draw;have a__law_notes:=jlg F z u0 u1 u2 u3 u4 u5 u6 a__law_age a__law_draw a__law_size a__law_value;have a__law_plan:=jnb F z u0 u1 u2 u3 u4 u5 u6 a__law_draw a__law_notes a__law_program;have a__law_known:=jlh F z u0 u1 u2 u3 u4 u5 u6;have a__law_stand:=jlf F z u0 u1 u2 u3 u4 u5 u6 a__law_draw a__law_known a__law_notes a__law_value;have a__law_up_to:=jle F z u0 u1 u2 u3 u4 u5 u6;have a__law_is_small:=jhb F z u0 u1 u2 u3 u4 u5 u6;have a__law_is_value:=jha F z u0 u1 u2 u3 u4 u5 u6 a__law_is_small a__law_up_to;have a__law_is_note:=jis F z u0 u1 u2 u3 u4 u5 u6 a__law_is_value a__law_up_to;have a__law_are_names:=jgn F z u0 u1 u2 u3 u4 u5 u6 a__law_is_value;have a__law_fault:=jli F z u0 u1 u2 u3 u4 u5 u6 a__law_are_names a__law_is_note a__law_known a__law_up_to;have a__law_odd:=jpk F z u0 u1 u2 u3 u4 u5 u6 a__law_draw;have a__law_deeper:=jj5 F z u0 u1 u2 u3 u4 u5 u6 a__law_draw a__law_odd;have a__law_bad_note:=jhc F z u0 u1 u2 u3 u4 u5 u6 a__law_draw a__law_odd;have a__law_bad_hand:=jhd F z u0 u1 u2 u3 u4 u5 u6 a__law_draw a__law_odd;have a__law_spoiled:=jip F z u0 u1 u2 u3 u4 u5 u6 a__law_bad_hand a__law_bad_note a__law_draw;have a__law_told_right:=jfc F z u0 u1 u2 u3 u4 u5 u6 a__law_fault a_fault_of;exact j21 F z u0 u1 u2 u3 u4 u5 u6 a__law_deeper a__law_odd a__law_plan a__law_spoiled a__law_stand a__law_told_right a_fault_of
theorem all_K (w:B3) (mg:Str->Option Ah) (fa:Addr) (h:Heap) (X:(KK w.params).In h) (G:h.Ns Dm mg) (hfa:mg "law"=some (.ref fa)) :
  ∃fd:C1,(∀(s:Ak) (u:Ah),BindsTo s fd ⟨[u],[]⟩ [("_law_script",u)])/\∀base:Heap,(KK w.params).In base->base.Ns Dm mg->FnOk pR w (KK w.params) mg base CX0 10 fa fd Za (DL.spLaw (KK w.params)):=by
 have e:=hfa.symm.trans (fnK X G 45 ⟨56,"law",577,284,1,301,false,580,4⟩ rfl).1.2;cases e;exact⟨fdO ⟨56,"law",577,284,1,301,false,580,4⟩,λs v=>.of_eq rfl,λbase _ _=>jy9 ⟨pR,w,KK w.params,mg,base⟩ (λj d e=>fnK X G j d e) (zK X G) (E7 X G (by kernel_rfl)) (E7 X G (by kernel_rfl)) (E7 X G (by kernel_rfl)) (E7 X G (by kernel_rfl)) (E7 X G (by kernel_rfl)) (E7 X G (by kernel_rfl)) (λH=>.inr ⟨_,_,_,(show(KK w.params).lookup 79=some (oT "tuple" (.seq #[(.str "take" 270),(.str "read" 271),(.str "look" 272)] 0)) by kernel_rfl),rfl,rfl,show 3<=Ay by decide,(.cons ⟨_,rfl⟩ (.cons ⟨_,rfl⟩ (.cons ⟨_,rfl⟩ .nil)))⟩)⟩
theorem walk {l:PySem.W.OpenLaw} {q:Bm} {loose:List Str} {XP:(Str->Option Ah)->Heap->Prop} {YP:B3->Heap->Prop} {d:DefRec} {K:Params->Aj} (hn:l.most=some 63) (hdf:d.params.defaults=[])
  (hY:∀(w:B3) (h:Heap),YP w h->(K w.params).In h)
  (F:∀(w:B3) (mg:Str->Option Ah) (fa:Addr) (h:Heap),(K w.params).In h->h.Ns Dm mg->mg d.name=some (.ref fa) ->
   ∃fd:C1,(∀(s:Ak) (u:Ah),BindsTo s fd ⟨[u],[]⟩ [("_law_script",u)])/\∀base:Heap,(K w.params).In base->base.Ns Dm mg->FnOk l.prog w (K w.params) mg base CX0 10 fa fd Za (DL.spLaw (K w.params))) :
  PySem.W.WalkO q loose XP YP l.row.toRowW d [] (λf vs=>PySem.call f vs) :=
 L2.walk_of (n:=63) (k:=10) (x:="_law_script") (CX:=λ_=>CX0) (sp:=λw=>DL.spLaw (K w.params)) hn (by decide) hdf ⟨rfl,by decide,by decide,rfl⟩ hY F (λ_ _ a ns hl _ hS=>⟨a,ns,rfl,hS,hl,λ_=>rfl⟩) λ_ _ _ _ _ z=>z
end Nb
open PySem PySem.W PyProof.Rows
set_option maxRecDepth 100000 in
set_option maxHeartbeats 0 in
theorem PySem.Challenge.cw_noteboard_k19_faults_of_stands_holds : PySem.Challenge.rw_noteboard_k19_faults_of_stands.Holds := by
 refine holds_law Nb.said_ λsaid=>?_;refine holds_open (q:=Nb.qq) (loose:=Nb.lO) (Xt:=Nb.xT) (XP:=XL Nb.qq []) (Yf:=Hook.obs Nb.hK) (Ya:=Hook.val Nb.hK) (YP:=Hook.says Nb.hK) (d:=Nb.dW) (kwd:=[]) (N:=3000) Nb.left_ (Hook.of Nb.hK) (Hook.keeps Nb.hK) (λs e=>xl_of s (Bool.and_eq_true_iff.mp e).1) XL.keeps (by kernel_rfl) (by kernel_rfl) (by kernel_rfl) (λs e=>recFacts_of (Bool.and_eq_true_iff.mp e).2) (by kernel_rfl) said (by decide +kernel) ⟨rfl,rfl,rfl,rfl,rfl,by decide +kernel⟩ ?hw ?hc
 (case hw=>w_witness2)
 exact Nb.walk (l:=PySem.Challenge.rw_noteboard_k19_faults_of_stands) (by kernel_rfl) (by kernel_rfl) (λw h Y=>kIn_of Y) Nb.all_K
