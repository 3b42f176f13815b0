import PyProof.Rows.All
import Wide.All
import OpenK.AllK
import Wide.FinOn
import Lean
import PyProof.EqAt
import PyProof.EqKinds
import PyProof.TupleCall
import PyProof.AttrMissHeap
import PyProof.Rows.RegFStrParts
import PySem.Challenge.RW_noteboard_k31_lives_and_what_lies
set_option Elab.async false
set_option linter.all false
set_option maxRecDepth 100000
open PySem renaming PyData -> Aa, wpAny_bind -> Ad, Value -> Ai, Shared -> Am, sizeLine -> Ap, starEach -> Au, wpAny_pure -> Av, wpAny -> A3, model -> Bc, Program -> Bg, bootBuiltins -> Bv, World -> Bw, compareOp -> Bz, wpAny_field -> B6, Around -> Cb, FuncData -> Ce, wpAny_callSpecial?_slot -> Cj, wpAny_holding -> Cm, IsPair -> Cr, behindInMarks -> Cz, wpAny_seqItems -> C0, wpAny_mono -> C1, mainGlobals -> C2, wpAny_call_entry -> C7, backTo -> C8, wpAny_newObj_type -> Dd, assignEach -> Dh, wpAny_pyIter_tuple -> Dn, foldedSetIterable -> Dt, binaryOp -> Du, Scope -> D9, wpAny_setField_rec -> Eb, wpAny_truthy_bool -> Eh, mem_of_lookup -> El, sysModules -> Es, sizeLine_eq -> Et, swapsWith -> Ex, rawInt -> Ey, wpAny_Call_Name_kw -> E7, sliceBounds -> Fo, wpAny_passesOwn -> Fw
open List renaming length_map -> Ab, getElem?_eq_getElem -> Af, length_append -> Ak, set -> An, length_cons -> Ao, getElem?_eq_some_iff -> Aq, mem_cons -> Ar, length_singleton -> As, not_mem_nil -> Ax, mem_cons_self -> Ay, mem_cons_of_mem -> Az, getElem?_map -> A0, range -> A1, size_toArray -> A2, mem_of_getElem? -> A7, replicate -> A9, mem_append_right -> Ba, map_append -> Bb, mem_append -> Bd, map_cons -> Be, mem_map -> Bf, mem_singleton -> Bh, nil_append -> Bi, append_assoc -> Bk, append_nil -> Bo, mem_range -> Br, getElem?_append_right -> Bt, mem_filter -> Bu, length_range -> Bx, find?_cons -> By, findIdx?_eq_some_iff_getElem -> B1, filter_cons -> B5, map_congr_left -> B7, getElem?_append_left -> B9, getElem?_set_ne -> Cg, length_set -> Ci, getElem_mem -> Ck, mem_iff_getElem? -> Cp, length_filter_le -> Cq, nodup_cons -> Cs, map_map -> Ct, toArray -> C5, any_cons -> C6, replicate_succ -> Dc, take_of_length_le -> De, length_take -> Dj, mem_append_left -> Do, filter_congr -> Dp, filter_eq_self -> Dv, length_drop -> Dw, getElem?_replicate -> Dx, drop_zero -> Dy, not_lt -> D4, findIdx?_cons -> D5, of_mem_zip -> D7, map_nil -> Ei, ext_getElem -> Ej, drop_eq_getElem_cons -> Eo, getElem?_set_self' -> E1, flatten_cons -> E6, length_replicate -> Fc, getElem_inj -> Ff, any_eq_true -> Fg, all_eq_true -> Fh, take_append_of_le_length -> Fk, map_eq_cons_iff -> Fl, set_cons_zero -> Fq, mem_filterMap -> Fs, filter_append -> Ft, findIdx?_eq_none_iff -> F0
open Bool renaming false_ne_true -> Ae, and_eq_true -> Cw, false_eq_true -> C4, eq_iff_iff -> Fm
open PySem.Heap renaming get?_push_of_some -> Ag, lt_size -> Aw, get?_push_size -> A8, get?_update_other -> Df, SameBut -> Dg, get?_update_self -> Dl, size_push -> Dz
open PySem.W renaming Frag -> Ah, keepIn -> Cf, kia_one -> Cn, kas_rev -> Dr, fnOf -> Ee
open And renaming intro -> Aj
open Nat renaming le_refl -> Al, le_trans -> A4, lt_of_lt_of_le -> Bj, ne_of_lt -> Bm, zero_le -> Bn, le_of_lt -> D6, lt_irrefl -> Ea, ne_of_gt -> En, min_eq_left -> Fn, lt_of_lt_of_eq -> Fx
open PySem.Value renaming ref -> A5, none -> B3, type -> E9
open Option.some renaming inj -> A6
open Int renaming toNat_natCast -> Bp, eq_ofNat_of_zero_le -> E5, natCast_nonneg -> Fy, emod_lt_of_pos -> Fz
open PySem.Builtin.SmallTypes renaming ownedTupleIsFree -> Bq, nextOf -> Bs, ownedTupleHandOut -> Fv
open Array renaming getElem?_eq_getElem -> B4, length_toList -> Er, getElem?_eq_some_iff -> Fp
open PySem.Obj renaming mapSeq -> B8
open PySem.Heap.SameBut renaming update -> Ca
open Or renaming inr -> Cc, inl -> Da
open PyProof.Rows renaming callWith_type1 -> Co, seqObj -> Cu, slot_tuple_getitem -> Dk, envOfC -> Dm
open Sum renaming inr -> Cy
open Option renaming isSome_iff_exists -> C3
open PySem.PyData renaming str -> C9, eqv -> D1, intsShort -> Eg, showable -> Eu, shown -> E2, depth -> E3, canLay0 -> E4, int -> E8, weight -> Fb
open PySem.Str renaming ofString -> Di
open PySem.F renaming slot_zip_next -> Dq, args_tuple_add_2 -> Em, slot_tuple_iterator_next -> Ep, entry_tuple_add -> Ew, slot_tuple_add -> Ez, plain_extend_loop -> Fu
open PySem.Builtin.List renaming listExtendWith -> D0, listTooLong -> Ed
open Exists renaming intro -> D3
open PySem.Builtin.Slice renaming slicePlaces -> D8, sliceAdjust -> Fj
open PySem.Builtin.Tuple renaming tupleExact -> Ec
open True renaming intro -> Ef
open PySem.AutoSeq1 renaming wpAny_loadPart' -> Ek
open PySem.Around renaming under_plainId -> Fi
noncomputable section
namespace L2
open PySem PySem.Spec PyProof.Rows
abbrev Key:=Sum Int Str
def jmb:Key->Ai->Bool
 |.inl k,v=>Value.isInt k v
 |.inr x,v=>Value.isStrOf x v
def keyH (w:Bw):Key->Int
 |.inl k=>hashInt k
 |.inr x=>hashStr w x
theorem ja1:∀{k:Key} {v:Ai},jmb k v=true->(∃i t,k=Sum.inl i/\v=Value.int i t)\/(∃x t,k=Cy x/\v=Value.str x t)
 |.inl i,v,h=>by
  obtain⟨t,e⟩:=Value.isInt_shape (k:=i) (v:=v) h;exact .inl ⟨i,t,rfl,e⟩
 |.inr x,v,h=>by
  obtain⟨t,e⟩:=Value.isStrOf_shape (x:=x) (v:=v) h;exact .inr ⟨x,t,rfl,e⟩
theorem jrq (i:Int) (t:Tok):jmb (.inl i) (.int i t)=true:=by simp[jmb,Value.isInt]
theorem jrp (x:Str) (t:Tok):jmb (.inr x) (.str x t)=true:=by simp[jmb,Value.isStrOf]
theorem j1p (a b:Int):decide ((Sum.inl a:Key)=Sum.inl b)=(a==b):=by
 by_cases e:a=b
 ·subst e;simp
 ·have h:¬(Sum.inl a:Key)=Sum.inl b:=λq=>e (Sum.inl.inj q);rw[decide_eq_false h];exact(beq_eq_false_iff_ne.mpr e).symm
theorem j1m (a b:Str):decide ((Cy a:Key)=Cy b)=decide (a=b):=by
 by_cases e:a=b
 ·subst e;simp
 ·have h:¬(Cy a:Key)=Cy b:=λq=>e (Sum.inr.inj q);rw[decide_eq_false h,decide_eq_false e]
theorem j1o (a:Int) (b:Str):decide ((Sum.inl a:Key)=Cy b)=false:=decide_eq_false (λq=>nomatch q)
theorem j1n (a:Str) (b:Int):decide ((Cy a:Key)=Sum.inl b)=false:=decide_eq_false (λq=>nomatch q)
def ja6 (prog:Bg) (w:Bw):PySem.KeyKind prog w Key where
 is:=jmb
 hash:=keyH w
 inj:=λv a b ha hb=>by
  rcases ja1 ha with⟨i,t,rfl,rfl⟩ | ⟨x,t,rfl,rfl⟩
  ·rcases ja1 hb with⟨j,u,rfl,e⟩ | ⟨y,u,rfl,e⟩
   ·injection e with e1 _;rw[e1]
   ·exact nomatch e
  ·rcases ja1 hb with⟨j,u,rfl,e⟩ | ⟨y,u,rfl,e⟩
   ·exact nomatch e
   ·injection e with e1 _;rw[e1]
 byValue:=λk v h=>by
  rcases ja1 h with⟨i,t,rfl,rfl⟩ | ⟨x,t,rfl,rfl⟩<;>rfl
 pyHash:=λhv h=>by
  rcases ja1 hv with⟨i,t,rfl,rfl⟩ | ⟨x,t,rfl,rfl⟩
  ·exact wpAny_pyHash_int h
  ·exact wpAny_pyHash_str h
 eqBool:=λhu hv h=>by
  rcases ja1 hu with⟨i,t,rfl,rfl⟩ | ⟨x,t,rfl,rfl⟩
  ·rcases ja1 hv with⟨j,u,rfl,rfl⟩ | ⟨y,u,rfl,rfl⟩
   ·rw[j1p]at h;exact wpAny_eqBool_int h
   ·rw[j1o]at h;exact SeqAt.EqAt.int_str i t y u _ _ _ _ h
  ·rcases ja1 hv with⟨j,u,rfl,rfl⟩ | ⟨y,u,rfl,rfl⟩
   ·rw[j1n]at h;exact SeqAt.EqAt.str_int x t j u _ _ _ _ h
   ·rw[j1m]at h;exact wpAny_eqBool_str h
 «strs»:=λk x t v h=>by
  rcases ja1 h with⟨i,u,rfl,e⟩ | ⟨y,u,rfl,e⟩
  ·exact nomatch e
  ·injection e with e1 _;subst e1;cases v<;>rfl
theorem jl8 (prog:Bg) (w:Bw) (i:Int) (t:Tok):(ja6 prog w).is (.inl i) (.int i t)=true:=jrq i t
theorem jl7 (prog:Bg) (w:Bw) (x:Str) (t:Tok):(ja6 prog w).is (.inr x) (.str x t)=true:=jrp x t
inductive V where
 |non | bl (b:Bool) | int (i:Int) | str (x:Str) | byt (b:Array UInt8) | flt (b:UInt64) | ref (a:Addr) | ty (n:String)
 deriving DecidableEq
def RelV:V->Ai->Prop
 |.non,u=>u=B3
 |.bl b,u=>u=Value.bool b
 |.int i,u=>∃t,u=Value.int i t
 |.str x,u=>∃t,u=Value.str x t
 |.byt b,u=>∃t,u=Value.bytes b t
 |.flt b,u=>∃t,u=Value.float b t
 |.ref a,u=>u=A5 a
 |.ty n,u=>u=E9 n
abbrev Vals:List V->List Ai->Prop:=Paired RelV
theorem Vals.length {xs:List V} {us:List Ai} (r:Vals xs us):xs.length=us.length:=Paired.length r
theorem Vals.get:∀{xs:List V} {us:List Ai} {i:Nat} {x:V},Vals xs us->xs[i]?=some x->∃u,us[i]?=some u/\RelV x u
 |_,_,_,_,.nil,e=>by simp at e
 |_,_,0,_,.cons r _,e=>by simp at e;subst e;exact⟨_,rfl,r⟩
 |_,_,i+1,x,.cons _ t,e=>by
  obtain⟨u,h1,h2⟩:=Vals.get (i:=i) (x:=x) t (by simpa using e);exact⟨u,by simpa using h1,h2⟩
theorem Vals.set {x:V} {u:Ai} (r:RelV x u):∀{xs:List V} {us:List Ai} (i:Nat),Vals xs us->Vals (xs.set i x) (us.set i u)
 |_,_,_,.nil=>.nil
 |_,_,0,.cons _ t=>.cons r t
 |_,_,i+1,.cons q t=>.cons q (Vals.set r i t)
theorem Vals.append:∀{xs ys:List V} {us ws:List Ai},Vals xs us->Vals ys ws->Vals (xs++ys) (us++ws)
 |_,_,_,_,.nil,s=>s
 |_,_,_,_,.cons r t,s=>.cons r (Vals.append t s)
theorem Vals.take:∀{xs:List V} {us:List Ai} (n:Nat),Vals xs us->Vals (xs.take n) (us.take n)
 |_,_,0,_=>.nil
 |_,_,_+1,.nil=>.nil
 |_,_,n+1,.cons r t=>.cons r (Vals.take n t)
theorem Vals.drop:∀{xs:List V} {us:List Ai} (n:Nat),Vals xs us->Vals (xs.drop n) (us.drop n)
 |_,_,0,r=>r
 |_,_,_+1,.nil=>.nil
 |_,_,n+1,.cons _ t=>Vals.drop n t
def RelO:Option V->Option Ai->Prop
 |some v,some u=>RelV v u
 |none,none=>True
 |_,_=>False
def KV {κ:Type}:List (κ×V)->List (κ×Ai)->Prop:=Paired λ(p:κ×V) (q:κ×Ai)=>p.1=q.1/\RelV p.2 q.2
def kV:Key->V
 |.inl i=>.int i
 |.inr x=>.str x
inductive HO where
 |lst (xs:List V)
 |tup (xs:List V)
 |dK (kvs:List (Key×V)) | dT (kvs:List (List Key×V))
 |set (S:Int->Bool) (n:Nat)
 |ins (C dx:Addr) (fs:List (Str×V))
 |own (x:Addr)
 |xd (fs:List (Str×V))
 |met (f x:Addr)
 |rng (lo hi:Int)
 |frz (o:Obj) (u:HO)
 |tbl (ps:Array Ai)
 |ext (φ:Heap->Prop)
abbrev Hp:=Addr->Option HO
def upd (H:Hp) (a:Addr) (o:HO):Hp:=λb=>if b=a then some o else H b
theorem jah {H:Hp} {a:Addr} {o:HO}:upd H a o a=some o:=by unfold upd;rw[if_pos rfl]
theorem jag {H:Hp} {a b:Addr} {o:HO} (h:b≠a):upd H a o b=H b:=by unfold upd;rw[if_neg h]
theorem jpv {H:Hp} {a:Addr} {o u:HO}:upd (upd H a o) a u=upd H a u:=by
 funext b;unfold upd;split<;>rfl
theorem j1a {H:Hp} {a b:Addr} {o u:HO} (h:H a=some o) (h':H b=some u) (d:o≠u):a≠b:=by
 intro e;subst e;rw[h]at h';exact d (A6 h')
theorem jad {H:Hp} {a b:Addr} {o:HO} (h:H a=some o) (h':H b=none):a≠b:=by
 intro e;subst e;rw[h]at h';cases h'
def IsTupP (h:Heap) (a:Addr) (items:Array Ai):Prop:=∃o,h.get? a=some o/\o.cls=.type "tuple"/\(∃n,o.data=.seq items n)/\o.dict=none
theorem IsTupP.tup {h:Heap} {a:Addr} {items:Array Ai} (x:IsTupP h a items):IsTup h a items:=let⟨o,e,c,d,_⟩:=x;⟨o,e,c,d⟩
theorem IsTupP.lt {h:Heap} {a:Addr} {items:Array Ai} (x:IsTupP h a items):a < h.objs.size:=let⟨_,e,_⟩:=x;Aw e
theorem IsTupP.new (h:Heap) (items:Array Ai):IsTupP (h.push {cls:=.type "tuple",data:=.seq items}) h.objs.size items:=⟨_,A8 _ rfl,rfl,⟨_,rfl⟩,rfl⟩
section
variable (P:Bg) (w:Bw)
def ObjOk (H:Hp) (h:Heap) (a:Addr):HO->Prop
 |.lst xs=>xs.length<=Ap/\∃(its:List Ai) (n:Nat),Vals xs its/\h.get? a=some {cls:=.type "list",data:=.seq its.toArray n}
 |.tup xs=>xs.length<=Ap/\∃its:List Ai,Vals xs its/\IsTupP h a its.toArray
 |.dK kvs=>kvs.length<=Ap/\(a==Es)=false/\∃vs,KV kvs vs/\h.DictOf (ja6 P w) a vs
 |.dT kvs=>kvs.length<=Ap/\(a==Es)=false/\∃xs:List (List Key×Addr×Ai),
   Paired (λ(p:List Key×V) (q:List Key×Addr×Ai)=>p.1=q.1/\H q.2.1=some (.tup (p.1.map kV))/\RelV p.2 q.2.2) kvs xs /\
   ∃o es ep,h.get? a=some o/\o.ExactDict/\o.data=.dict es ep/\es.toList=xs.map (entryOfKey (tupleKind (ja6 P w)))/\(xs.map (·.1)).Nodup
 |.set S n=>h.SetOf (intKind P w) a S n
 |.ins C dx fs=>H dx=some (.own a)/\fs.length<=1000/\dx≠a/\h.get? a=some (PySem.W.instObj C dx) /\
   ∃mA,h.Ns1 dx mA/\(∀f,RelO (fs.lookup f) (mA f))/\PySem.Within mA (fs.map (·.1))
 |.own _=>∃o,h.get? a=some o
 |.xd fs=>∃mA,h.Ns1 a mA/\∀f,RelO (fs.lookup f) (mA f)
 |.rng lo hi=>∃t u v,h.get? a=some {cls:=.type "range",data:=.fields #[.int lo t,.int hi u,.int 1 v]}
 |.frz o u=>h.get? a=some o/\ObjOk H h a u
 |.tbl ps=>h.get? a=some {cls:=.none,data:=.fields ps}
 |.met f x=>h.get? a=some (PySem.W.methodObj (.ref f) (.ref x))
 |.ext φ=>φ h/\(∃o,h.get? a=some o)/\∀h1 h2:Heap,φ h1->(∀o,h1.get? a=some o->h2.get? a=some o)->φ h2
def HOk (H:Hp) (h:Heap):Prop:=∀a o,H a=some o->ObjOk P w H h a o
end
section
variable {P:Bg} {w:Bw} {H H':Hp} {h h':Heap} {a:Addr} {o:HO}
theorem ObjOk.lt (x:ObjOk P w H h a o):a < h.objs.size:=by
 cases o with
 |lst xs=>obtain⟨_,_,_,_,e⟩:=x;exact Aw e
 |tup xs=>obtain⟨_,_,_,p⟩:=x;exact p.lt
 |dK kvs=>obtain⟨_,_,_,_,o,_,_,e,_⟩:=x;exact Aw e
 |dT kvs=>obtain⟨_,_,_,_,o,_,_,e,_⟩:=x;exact Aw e
 |set S n=>obtain⟨o,_,_,_,e,_⟩:=x;exact Aw e
 |ins C dx fs=>obtain⟨_,_,_,e,_⟩:=x;exact Aw e
 |own y=>obtain⟨_,e⟩:=x;exact Aw e
 |xd fs=>obtain⟨_,⟨_,_,_,e,_⟩,_⟩:=x;exact Aw e
 |rng lo hi=>obtain⟨_,_,_,e⟩:=x;exact Aw e
 |frz ob u=>obtain⟨e,_⟩:=x;exact Aw e
 |tbl ps=>exact Aw (show h.get? a=some _ from x)
 |met f y=>exact Aw (show h.get? a=some _ from x)
 |ext φ=>obtain⟨_,⟨_,e⟩,_⟩:=x;exact Aw e
theorem Paired.mapP {α β:Type} {F G:α->β->Prop}:∀{l₁:List α} {l₂:List β},Paired F l₁ l₂->(∀a b,F a b->G a b)->Paired G l₁ l₂
 |_,_,.nil,_=>.nil
 |_,_,.cons r t,f=>.cons (f _ _ r) (Paired.mapP t f)
theorem ObjOk.stay (x:ObjOk P w H h a o) (k:∀b u,(b=a\/H b=some (.own a))->h.get? b=some u->h'.get? b=some u)
  (ho:∀b,H b=some (.own a)->H' b=some (.own a)) (ht:∀b xs,H b=some (.tup xs)->H' b=some (.tup xs)):ObjOk P w H' h' a o:=by
 induction o with
 |lst xs=>obtain⟨z,its,n,r,e⟩:=x;exact⟨z,its,n,r,k _ _ (.inl rfl) e⟩
 |tup xs=>obtain⟨z,its,r,ob,e,c⟩:=x;exact⟨z,its,r,ob,k _ _ (.inl rfl) e,c⟩
 |dK kvs=>obtain⟨z,y,vs,r,ob,es,ep,e,c⟩:=x;exact⟨z,y,vs,r,ob,es,ep,k _ _ (.inl rfl) e,c⟩
 |dT kvs =>
  obtain⟨z,y,xs,r,ob,es,ep,e,c⟩:=x;exact⟨z,y,xs,Paired.mapP r λp q z=>⟨z.1,ht _ _ z.2.1,z.2.2⟩,ob,es,ep,k _ _ (.inl rfl) e,c⟩
 |set S n=>obtain⟨ob,es,ep,t,e,c⟩:=x;exact⟨ob,es,ep,t,k _ _ (.inl rfl) e,c⟩
 |ins C dx fs =>
  obtain⟨d,z,ne,e,mA,⟨od,es,ep,e2,c⟩,r⟩:=x;exact⟨ho _ d,z,ne,k _ _ (.inl rfl) e,mA,⟨od,es,ep,k _ _ (.inr d) e2,c⟩,r⟩
 |own y=>obtain⟨ob,e⟩:=x;exact⟨ob,k _ _ (.inl rfl) e⟩
 |xd fs=>obtain⟨mA,⟨od,es,ep,e,c⟩,r⟩:=x;exact⟨mA,⟨od,es,ep,k _ _ (.inl rfl) e,c⟩,r⟩
 |rng lo hi=>obtain⟨t,u,v,e⟩:=x;exact⟨t,u,v,k _ _ (.inl rfl) e⟩
 |frz ob u ih=>obtain⟨e,q⟩:=x;exact⟨k _ _ (.inl rfl) e,ih q⟩
 |tbl ps =>
  have e:h.get? a=some {cls:=.none,data:=.fields ps}:=x;show h'.get? a=some {cls:=.none,data:=.fields ps};exact k a _ (.inl rfl) e
 |met f y =>
  have e:h.get? a=some (PySem.W.methodObj (.ref f) (.ref y)):=x;show h'.get? a=some (PySem.W.methodObj (.ref f) (.ref y));exact k a _ (.inl rfl) e
 |ext φ=>obtain⟨p,⟨o,e⟩,st⟩:=x;exact⟨st _ _ p λo q=>k _ _ (.inl rfl) q,⟨o,k _ _ (.inl rfl) e⟩,st⟩
theorem HOk.lt (x:HOk P w H h) (e:H a=some o):a < h.objs.size:=(x a o e).lt
theorem HOk.fresh (x:HOk P w H h) (e:h.objs.size<=a):H a=none:=by
 cases q:H a with
 |none=>rfl
 |some u=>exact absurd (Bj (x.lt q) e) (Ea _)
theorem HOk.kept (x:HOk P w H h) (k:∀b u,h.get? b=some u->h'.get? b=some u):HOk P w H h':=λa o e =>
 (x a o e).stay (λb u _ q=>k b u q) (λ_ q=>q) λ_ _ q=>q
theorem HOk.laid (x:HOk P w H h) (k:∀b u,h.get? b=some u->h'.get? b=some u) (hp:h.objs.size<=a) (new:ObjOk P w (upd H a o) h' a o):HOk P w (upd H a o) h':=λb u e=>by
 have hn:=x.fresh hp;by_cases hb:b=a
 ·subst hb;rw[jah]at e;cases e;exact new
 ·rw[jag hb]at e;exact(x b u e).stay (λc v _ q=>k c v q) (λc q=>by rw[jag (jad q hn)];exact q) λc xs q=>by rw[jag (jad q hn)];exact q
end
def Rd (H:Hp) (a:Addr) (u:HO):Prop:=H a=some u\/∃o,H a=some (.frz o u)
theorem Rd.ok {P:Bg} {w:Bw} {H:Hp} {h:Heap} {a:Addr} {u:HO} (r:Rd H a u) (x:HOk P w H h):ObjOk P w H h a u:=by
 rcases r with r | ⟨o,r⟩
 ·exact x a u r
 ·obtain⟨_,q⟩:=x a _ r;exact q
def Mut:Option HO->Prop
 |some (.lst _)=>True
 |some (.dK _)=>True
 |some (.dT _)=>True
 |some (.set _ _)=>True
 |some (.ins _ _ _)=>True
 |some (.ext _)=>True
 |_=>False
section
variable {P:Bg} {w:Bw} {H:Hp} {h h':Heap} {x e:Addr} {o':HO}
theorem HOk.write (ok:HOk P w H h) (mu:Mut (H x)) (he:e=x\/H e=some (.own x)) (k:∀b u,b≠e->h.get? b=some u->h'.get? b=some u) (heo:∃u,h'.get? e=some u)
  (new:ObjOk P w (upd H x o') h' x o'):HOk P w (upd H x o') h':=λb u q=>by
 have nown:∀c y,H c=some (.own y)->c≠x:=λc y r z=>by subst z;rw[r]at mu;exact mu
 have ntup:∀c xs,H c=some (.tup xs)->c≠x:=λc xs r z=>by subst z;rw[r]at mu;exact mu
 by_cases hb:b=x
 ·subst hb;rw[jah]at q;cases q;exact new
 ·rw[jag hb]at q;by_cases hbe:b=e
  ·have q':H b=some (.own x):=by
    rcases he with z | z
    ·exact absurd (hbe.trans z) hb
    ·rw[hbe];exact z
   rw[q]at q';cases q';obtain⟨v,hv⟩:=heo;exact⟨v,by rw[hbe];exact hv⟩
  ·refine(ok b u q).stay (λc v hc r=>k c v ?_ r) (λc r=>by rw[jag (nown c b r)];exact r) λc xs r=>by rw[jag (ntup c xs r)];exact r
   rcases hc with rfl | hc
   ·exact hbe
   ·rintro rfl
    rcases he with z | z
    ·exact nown c b hc z
    ·rw[hc]at z;cases z;exact hb rfl
end
structure Un (fs ex:List Addr) (H H':Hp) (h h':Heap):Prop where
 keep:∀b o,h.get? b=some o->H b=none->b∉fs->b∉ex->h'.get? b=some o
 slot:∀b o,h.get? b=some o->H b=none->b∈fs->b∉ex->∃sl,h'.get? b=some {o with slots:=sl}
 free:∀b o,h.get? b=some o->H b=none->b∉ex->H' b=none
 there:∀b o,h.get? b=some o->b∉ex->∃o',h'.get? b=some o'
 tups:∀b xs,H b=some (.tup xs)->H' b=some (.tup xs)
 frzs:∀b o u,H b=some (.frz o u)->H' b=some (.frz o u)
 tbls:∀b ps,H b=some (.tbl ps)->∃more,H' b=some (.tbl (ps++more))
section
variable {fs fs' ex ex':List Addr} {H H1 H2:Hp} {h h1 h2 h':Heap} {a x e:Addr} {o:HO}
theorem Un.any (u:Un fs ex H H1 h h1) {b:Addr} {ob:Obj} (q:h.get? b=some ob) (n:H b=none) (hx:b∉ex):∃sl,h1.get? b=some {ob with slots:=sl}:=by
 by_cases hb:b∈fs
 ·exact u.slot b ob q n hb hx
 ·exact⟨ob.slots,u.keep b ob q n hb hx⟩
theorem Un.kept (k:∀b u,h.get? b=some u->h'.get? b=some u):Un fs ex H H h h' :=
 ⟨λb ob q _ _ _=>k b ob q,λb ob q _ _ _=>⟨ob.slots,k b ob q⟩,λ_ _ _ n _=>n,λb ob q _=>⟨ob,k b ob q⟩,λ_ _ q=>q,λ_ _ _ q=>q,λ_ ps q=>⟨#[],by rw[q];simp⟩⟩
theorem Un.refl:Un fs ex H H h h:=Un.kept λ_ _ q=>q
theorem Un.laid (k:∀b u,h.get? b=some u->h'.get? b=some u) (hp:h.objs.size<=a) (hn:H a=none):Un fs ex H (upd H a o) h h' where
 keep:=λb u q _ _ _=>k b u q
 slot:=λb u q _ _ _=>⟨u.slots,k b u q⟩
 free:=λb u q n _=>by rw[jag (Bm (Bj (Aw q) hp))];exact n
 there:=λb u q _=>⟨u,k b u q⟩
 tups:=λb xs q=>by rw[jag (jad q hn)];exact q
 frzs:=λb u xs q=>by rw[jag (jad q hn)];exact q
 tbls:=λb ps q=>⟨#[],by rw[jag (jad q hn),q];simp⟩
theorem Un.write (mu:Mut (H x)) (he:e=x\/H e=some (.own x)) (k:∀b u,b≠e->h.get? b=some u->h'.get? b=some u) (heo:∃u,h'.get? e=some u):Un fs ex H (upd H x o) h h':=by
 have hx:∀b,H b=none->b≠x:=λb n z=>by subst z;rw[n]at mu;exact mu
 have hb:∀b,H b=none->b≠e:=λb n z=>by
  subst z;rcases he with r | r
  ·exact hx b n r
  ·rw[n]at r;cases r
 have hm:∀b u,H b=some u->¬Mut (some u)->b≠x:=λb u q nm z=>by subst z;rw[q]at mu;exact nm mu
 refine⟨λb u q n _ _=>k b u (hb b n) q,λb u q n _ _=>⟨u.slots,k b u (hb b n) q⟩,λb u q n _=>by rw[jag (hx b n)];exact n,λb u q _=>?_,
  λb xs q=>by rw[jag (hm b _ q λz=>z)];exact q,λb u xs q=>by rw[jag (hm b _ q λz=>z)];exact q,λb ps q=>⟨#[],by rw[jag (hm b _ q λz=>z),q];simp⟩⟩
 by_cases hbe:b=e
 ·subst hbe;exact heo
 ·exact⟨u,k b u hbe q⟩
end
def trk (h:Heap) (H:Hp):List Addr:=(A1 h.objs.size).filter λa=>(H a).isSome
def hidT (h:Heap) (H:Hp):Heap:=PySem.W.hideAll h (trk h H)
theorem jrz (h:Heap) (H:Hp):(hidT h H).objs.size=h.objs.size:=PySem.W.hideAll_size _ _
theorem juh {h:Heap} {H:Hp} {b:Addr} {o:Obj} (e:h.get? b=some o) (n:H b=none):(hidT h H).get? b=some o :=
 PySem.W.hideAll_get _ e λhm=>by
  have q:(H b).isSome=true:=(Bu.mp hm).2;rw[n]at q;simp at q
theorem jxu {h:Heap} {H:Hp} {b:Addr} {o:Obj} (e:(hidT h H).get? b=some o):h.get? b=some o/\H b=none:=by
 have e':h.get? b=some o:=PySem.W.of_hideAll (trk h H) e;refine⟨e',?_⟩;cases q:H b with
 |none=>rfl
 |some x =>
  have hm:b∈trk h H:=Bu.mpr ⟨Br.mpr (Aw e'),by simp[q]⟩;have z:(hidT h H).get? b=none:=PySem.W.hideAll_none (trk h H) hm;rw[z]at e;cases e
def jyy (g h:Heap) (L:Addr):List (Addr×Obj):=(A1 h.objs.size).filterMap λa=>if a=L\/(g.get? a).isSome=true then none else(h.get? a).map λo=>(a,o)
def rest (g h:Heap) (L d:Addr):List (Addr×Obj):=(jyy g h L).filter λp=>decide (p.1≠d)
structure Mod (K:Ah) (mg:Str->Option Ai) (base:Heap):Prop where
 kin:K.In base
 glob:base.Ns C2 mg
 blt:∃mb,base.Ns builtinsNs mb/\∀x:Str,x≠"__name__"->mb x=Bv x
 nolimit:base.NoLimit
structure Cx where
 prog:Bg
 w:Bw
 K:Ah
 mg:Str->Option Ai
 base:Heap
 A:Cb
 N:List Str
 s₀:Am
 H₀:Hp
 env:Env
 outer:List Env
 stack:List Env
 ex:List Addr
 fn:Str->Bool
 calm:Bool
 pn:List (Addr×Obj)
 xe:Ai->Am->Prop
def frs (l:List Env):List Addr:=l.filterMap (·.frame)
abbrev Cx.fs (X:Cx):List Addr:=frs X.outer
def Vis (sc:D9) (x:Str):Prop:=sc.names.lookup x=some .local\/sc.names.lookup x=some .cell\/sc.names.lookup x=some .free
def Loc (sc:D9) (x:Str):Prop:=sc.names.lookup x=some .local\/sc.names.lookup x=some .cell
def Look (env:Env) (h:Heap) (m:Str->Option Ai) (x:Str) (u:Ai):Prop :=
 (env.kindOf x=some .local/\m x=some u)\/((env.kindOf x=some .cell\/env.kindOf x=some .free)/\∃c,env.cells.lookup x=some c/\h.IsCell c (some u))
structure Cx.Ok (X:Cx):Prop where
 mod:Mod X.K X.mg X.base
 kind:X.env.scope.kind=.function
 glob:X.env.globals=C2
 blt:X.env.builtins=builtinsNs
 above:X.s₀.heap.objs.size<=X.env.locals
 inj:∀x y c,X.env.cells.lookup x=some c->X.env.cells.lookup y=some c->x=y
 has:∀x,(X.env.kindOf x=some .cell\/X.env.kindOf x=some .free)->∃c,X.env.cells.lookup x=some c
 cab:∀x c,X.fn x=true->X.env.cells.lookup x=some c->X.s₀.heap.objs.size<=c
 hd:X.calm=true->X.A.handled=none
 frames:X.A.frames=some X.stack
 stk:X.stack=X.outer\/(X.stack=X.env::X.outer/\X.env.frame=some X.env.locals)
 exf:∀b∈X.ex,b≠X.env.locals/\∀x c,X.env.cells.lookup x=some c->c≠b
 bs:∀b o,X.base.get? b=some o->X.s₀.heap.get? b=some o/\X.H₀ b=none
 bsz:X.base.objs.size<=X.s₀.heap.objs.size
 noex:∀b o,X.base.get? b=some o->b∉X.ex
 exfs:∀b∈X.ex,b∉X.fs
 funs:X.s₀.heap.FunFrames X.base X.outer
 frf:∀b∈X.fs,X.H₀ b=none
structure Inv (X:Cx) (pins:List (Addr×Obj)) (σ:List (Option V)) (H:Hp) (s:Am):Prop where
 ok:X.Ok
 os:s.os=X.s₀.os
 bare:AllBare s.gens
 base:Un X.fs X.ex X.H₀ H X.s₀.heap s.heap
 loc:∃m,s.heap.Ns X.env.locals m/\∀(i:Nat) (x:Str) (v:V),X.N[i]?=some x->σ[i]?=some (some v)->Vis X.env.scope x->∃u,RelV v u/\Look X.env s.heap m x u
 cell:∀x c,X.env.cells.lookup x=some c->∃v,s.heap.IsCell c v
 free:H X.env.locals=none
 freeC:∀x c,X.env.cells.lookup x=some c->H c=none
 pin:∀p∈X.pn++pins,s.heap.get? p.1=some p.2/\H p.1=none/\p.1≠X.env.locals/\p.1∉X.fs/\∀v,p.2.data≠.cell v
 hok:HOk X.prog X.w H s.heap
 len:σ.length=X.N.length
section
variable {X:Cx} {pins:List (Addr×Obj)} {σ:List (Option V)} {H H':Hp} {s:Am} {h':Heap}
theorem Cx.Ok.nofr (ok:X.Ok) {b:Addr} {o:Obj} (e:X.base.get? b=some o):b∉X.fs:=λhb=>by
 have:=(ok.funs.mem hb).1;rw[e]at this;cases this
theorem Inv.bs (I:Inv X pins σ H s):∀b o,X.base.get? b=some o->s.heap.get? b=some o/\H b=none:=λb o e =>
 ⟨I.base.keep b o (I.ok.bs b o e).1 (I.ok.bs b o e).2 (I.ok.nofr e) (I.ok.noex b o e),I.base.free b o (I.ok.bs b o e).1 (I.ok.bs b o e).2 (I.ok.noex b o e)⟩
theorem Inv.bk (I:Inv X pins σ H s):∀b o,X.base.get? b=some o->s.heap.get? b=some o:=λb o e=>(I.bs b o e).1
theorem Inv.mod (I:Inv X pins σ H s):Mod X.K X.mg X.base:=I.ok.mod
theorem Inv.kIn (I:Inv X pins σ H s):X.K.In s.heap:=I.ok.mod.kin.keeps I.bk
theorem Inv.lt (I:Inv X pins σ H s):X.env.locals < s.heap.objs.size:=let⟨_,hn,_⟩:=I.loc;hn.lt
theorem Inv.sz (I:Inv X pins σ H s):X.s₀.heap.objs.size<=s.heap.objs.size:=A4 I.ok.above (D6 I.lt)
theorem Inv.nofs (I:Inv X pins σ H s) {a:Addr} (h:s.heap.objs.size<=a):a∉X.fs:=λhb=>by
 obtain⟨_,o,ho,_⟩:=I.ok.funs.mem hb;exact absurd (Bj (Aw ho) (A4 I.sz h)) (Ea _)
theorem Inv.cne (I:Inv X pins σ H s):∀x c,X.env.cells.lookup x=some c->c≠X.env.locals:=λx c e z=>by
 obtain⟨v,o,ho,hd⟩:=I.cell x c e;obtain⟨m,⟨o',es,ep,ho',hd',_⟩,_⟩:=I.loc;rw[z,ho']at ho;cases ho;rw[hd']at hd;cases hd
theorem Inv.funs (I:Inv X pins σ H s):s.heap.FunFrames X.base X.outer:=by
 have all:∀(l:List Env),(∀b∈frs l,b∈X.fs)->X.s₀.heap.FunFrames X.base l->s.heap.FunFrames X.base l:=by
  intro l
  induction l with
  |nil=>intro _ _;trivial
  |cons env r ih =>
   intro hs hl;obtain⟨hk,⟨L,o,hf,hn,ho,hd⟩,hr⟩:=hl;have hL:L∈X.fs:=hs L (by unfold frs;rw[List.filterMap_cons,hf];exact Ay);obtain⟨sl,e⟩:=I.base.slot L o ho (I.ok.frf L hL) hL λz=>I.ok.exfs L z hL;exact⟨hk,⟨L,_,hf,hn,e,hd⟩,ih (λb hb=>hs b (by unfold frs;rw[List.filterMap_cons,hf];exact Az _ hb)) hr⟩
 exact all X.outer (λ_ hb=>hb) I.ok.funs
theorem Inv.stack (I:Inv X pins σ H s):s.heap.FunFrames X.base X.stack:=by
 rcases I.ok.stk with e | ⟨e,hf⟩
 ·rw[e];exact I.funs
 ·rw[e];obtain⟨m,hn,_⟩:=I.loc;refine .cons (by rw[I.ok.kind];decide) hf hn ?_ I.funs;exact Heap.get?_none_of_le (A4 I.ok.bsz I.ok.above)
theorem Inv.stkSub (I:Inv X pins σ H s):∀b∈frs X.stack,b∈X.env.locals::X.fs:=λb hb=>by
 rcases I.ok.stk with e | ⟨e,hf⟩
 ·rw[e]at hb;exact Az _ hb
 ·rw[e]at hb;unfold frs at hb;rw[List.filterMap_cons,hf]at hb;exact hb
theorem Inv.stkFree (I:Inv X pins σ H s):∀b∈frs X.stack,H b=none:=λb hb=>by
 rcases Ar.mp (I.stkSub b hb)with e | hb
 ·rw[e];exact I.free
 ·obtain⟨_,o,ho,_⟩:=I.ok.funs.mem hb;exact I.base.free b o ho (I.ok.frf b hb) λz=>I.ok.exfs b z hb
theorem Inv.step {g':Array GenState} {t':Nat} {d':Drawn} {ch:List Addr} (I:Inv X pins σ H s)
  (hch:∀b∈ch,(b∈X.ex\/X.s₀.heap.objs.size<=b)/\b≠X.env.locals/\(∀x c,X.env.cells.lookup x=some c->c≠b)/\∀p∈X.pn++pins,p.1≠b)
  (keep:∀b o,b≠X.env.locals->b∉X.fs->b∉ch->s.heap.get? b=some o->H b=none->h'.get? b=some o)
  (slot:∀b o,b≠X.env.locals->b∈X.fs->b∉ch->s.heap.get? b=some o->H b=none->∃sl,h'.get? b=some {o with slots:=sl}) (free:∀b o,b∉ch->s.heap.get? b=some o->H b=none->H' b=none)
  (there:∀b o,b∉ch->s.heap.get? b=some o->∃o',h'.get? b=some o')
  (tups:∀b xs,H b=some (.tup xs)->H' b=some (.tup xs)) (frzs:∀b o u,H b=some (.frz o u)->H' b=some (.frz o u)) (tbls:∀b ps,H b=some (.tbl ps)->∃more,H' b=some (.tbl (ps++more)))
  (ns:∀m,s.heap.Ns X.env.locals m->h'.Ns X.env.locals m) (hok:HOk X.prog X.w H' h') (hg:AllBare g') :
  Inv X pins σ H' {s with heap:=h',gens:=g',drawn:=d',toks:=t'}:=by
 have neL:∀b o,X.s₀.heap.get? b=some o->b≠X.env.locals:=λb o e=>Bm (Bj (Aw e) I.ok.above);have neC:∀b o,X.s₀.heap.get? b=some o->b∉X.ex->b∉ch:=λb o e hx hb=>by
  rcases(hch b hb).1 with z | z
  ·exact hx z
  ·exact absurd (Bj (Aw e) z) (Ea _)
 have cellK:∀x c,X.env.cells.lookup x=some c->∀v,s.heap.IsCell c v->h'.IsCell c v:=λx c e v ⟨o,ho,hd⟩=>by
  have nch:c∉ch:=λz=>(hch c z).2.2.1 x c e rfl;by_cases hc:c∈X.fs
  ·obtain⟨sl,q⟩:=slot c o (I.cne x c e) hc nch ho (I.freeC x c e);exact⟨_,q,hd⟩
  ·exact⟨o,keep c o (I.cne x c e) hc nch ho (I.freeC x c e),hd⟩
 refine⟨I.ok,I.os,hg,⟨λb o e n hb hx=>?_,λb o e n hb hx=>?_,λb o e n hx=>?_,λb o e hx=>?_,λb xs e=>tups b xs (I.base.tups b xs e),λb o xs e=>frzs b o xs (I.base.frzs b o xs e),λb ps e=>?_⟩,?_,λx c e=>?_,?_,λx c e=>?_,λp hp=>?_,hok,I.len⟩
 ·exact keep b o (neL b o e) hb (neC b o e hx) (I.base.keep b o e n hb hx) (I.base.free b o e n hx)
 ·obtain⟨sl,e1⟩:=I.base.slot b o e n hb hx;obtain⟨sl',e2⟩:=slot b _ (neL b o e) hb (neC b o e hx) e1 (I.base.free b o e n hx);exact⟨sl',e2⟩
 ·obtain⟨o',e1⟩:=I.base.there b o e hx;exact free b o' (neC b o e hx) e1 (I.base.free b o e n hx)
 ·obtain⟨o',e1⟩:=I.base.there b o e hx;exact there b o' (neC b o e hx) e1
 ·obtain⟨m1,e1⟩:=I.base.tbls b ps e;obtain⟨m2,e2⟩:=tbls b _ e1;exact⟨m1++m2,by rw[e2,Array.append_assoc]⟩
 ·obtain⟨m,hn,hl⟩:=I.loc;refine⟨m,ns m hn,λi x v e1 e2 e3=>?_⟩;obtain⟨u,r,l⟩:=hl i x v e1 e2 e3;refine⟨u,r,?_⟩;rcases l with l | ⟨k,c,e,z⟩
  ·exact .inl l
  ·exact .inr ⟨k,c,e,cellK x c e _ z⟩
 ·obtain⟨v,z⟩:=I.cell x c e;exact⟨v,cellK x c e v z⟩
 ·obtain⟨m,⟨o,_,_,ho,_⟩,_⟩:=I.loc;exact free _ o (λz=>(hch _ z).2.1 rfl) ho I.free
 ·obtain⟨v,o,ho,hd⟩:=I.cell x c e;exact free c o (λz=>(hch c z).2.2.1 x c e rfl) ho (I.freeC x c e)
 ·obtain⟨e,n,ne,nf,d⟩:=I.pin p hp;have nch:p.1∉ch:=λz=>(hch p.1 z).2.2.2 p hp rfl;exact⟨keep p.1 p.2 ne nf nch e n,free p.1 p.2 nch e n,ne,nf,d⟩
theorem Inv.un {t':Nat} (I:Inv X pins σ H s) (u:Un X.fs [] H H' s.heap h') (hok:HOk X.prog X.w H' h'):Inv X pins σ H' {s with heap:=h',toks:=t'}:=by
 obtain⟨m,⟨o,es,ep,ho,r⟩,_⟩:=id I.loc;obtain⟨sl,hL⟩:=u.any ho I.free (by simp);exact I.step (g':=s.gens) (d':=s.drawn) (ch:=[]) (λ_ z=>nomatch z) (λb o _ hb _ e n=>u.keep b o e n hb (by simp)) (λb o _ hb _ e n=>u.slot b o e n hb (by simp)) (λb o _ e n=>u.free b o e n (by simp)) (λb o _ e=>u.there b o e (by simp)) u.tups u.frzs u.tbls (λm' hm=>by
  obtain⟨o',es',ep',ho',r'⟩:=hm;rw[ho]at ho';cases ho';exact⟨_,es',ep',hL,r'⟩) hok I.bare
theorem Inv.call {g':Array GenState} {t':Nat} {d':Drawn} {ch:List Addr} (I:Inv X pins σ H s) (u:Un (frs X.stack) ch H H' s.heap h') (hok:HOk X.prog X.w H' h') (hg:AllBare g')
  (hch:∀b∈ch,(b∈X.ex\/X.s₀.heap.objs.size<=b)/\b≠X.env.locals/\(∀x c,X.env.cells.lookup x=some c->c≠b)/\∀p∈X.pn++pins,p.1≠b) :
  Inv X pins σ H' {s with heap:=h',gens:=g',drawn:=d',toks:=t'}:=by
 obtain⟨m,⟨o,es,ep,ho,r⟩,_⟩:=id I.loc;obtain⟨sl,hL⟩:=u.any ho I.free λz=>(hch _ z).2.1 rfl;exact I.step (ch:=ch) hch (λb o hL hb hc e n=>u.keep b o e n (λz=>(Ar.mp (I.stkSub b z)).elim hL hb) hc) (λb o _ _ hc e n=>u.any e n hc) (λb o hc e n=>u.free b o e n hc) (λb o hc e=>u.there b o e hc) u.tups u.frzs u.tbls (λm' hm=>by
  obtain⟨o',es',ep',ho',r'⟩:=hm;rw[ho]at ho';cases ho';exact⟨_,es',ep',hL,r'⟩) hok hg
theorem Inv.turned {t':Nat} {it:Addr} (I:Inv X pins σ H s) (k:∀b o,b≠it->s.heap.get? b=some o->h'.get? b=some o) (hn:H it=none) (hL:it≠X.env.locals)
  (h1:it∈X.ex\/X.s₀.heap.objs.size<=it) (h2:∀x c,X.env.cells.lookup x=some c->c≠it) (h3:∀p∈X.pn++pins,p.1≠it):Inv X pins σ H {s with heap:=h',toks:=t'}:=by
 have nit:∀b u,H b=some u->b≠it:=λb u e z=>by rw[z,hn]at e;cases e
 refine I.step (g':=s.gens) (d':=s.drawn) (ch:=[it]) (λb hb=>?_) (λb o _ _ hc e _=>k b o (λz=>hc (by simp[z])) e) (λb o _ _ hc e _=>⟨o.slots,k b o (λz=>hc (by simp[z])) e⟩) (λ_ _ _ _ n=>n)
  (λb o hc e=>⟨o,k b o (λz=>hc (by simp[z])) e⟩) (λ_ _ e=>e) (λ_ _ _ e=>e) (λb ps e=>⟨#[],by rw[e];simp⟩) (λm hm=>?_) (λb u e=>?_) I.bare
 ·have e:b=it:=by simpa using hb
  subst e;exact⟨h1,hL,h2,h3⟩
 ·obtain⟨o,es,ep,ho,r⟩:=hm;exact⟨o,es,ep,k _ o (Ne.symm hL) ho,r⟩
 ·refine(I.hok b u e).stay (λc v hc q=>k c v ?_ q) (λ_ q=>q) λ_ _ q=>q;rcases hc with z | z
  ·rw[z];exact nit b u e
  ·exact nit c _ z
theorem Inv.tok (I:Inv X pins σ H s) (t:Nat):Inv X pins σ H {s with toks:=t}:=I.un (h':=s.heap) (t':=t) Un.refl I.hok
theorem Inv.kept {t':Nat} (I:Inv X pins σ H s) (k:∀b u,s.heap.get? b=some u->h'.get? b=some u):Inv X pins σ H {s with heap:=h',toks:=t'}:=I.un (Un.kept k) (I.hok.kept k)
theorem Inv.laid {a:Addr} {o:HO} {t':Nat} (I:Inv X pins σ H s) (k:∀b u,s.heap.get? b=some u->h'.get? b=some u) (hp:s.heap.objs.size<=a) (new:ObjOk X.prog X.w (upd H a o) h' a o) :
  Inv X pins σ (upd H a o) {s with heap:=h',toks:=t'}:=I.un (Un.laid k hp (I.hok.fresh hp)) (I.hok.laid k hp new)
theorem Inv.write {x e:Addr} {o:HO} {t':Nat} (I:Inv X pins σ H s) (mu:Mut (H x)) (he:e=x\/H e=some (.own x)) (k:∀b u,b≠e->s.heap.get? b=some u->h'.get? b=some u) (heo:∃u,h'.get? e=some u)
  (new:ObjOk X.prog X.w (upd H x o) h' x o):Inv X pins σ (upd H x o) {s with heap:=h',toks:=t'}:=I.un (Un.write mu he k heo) (I.hok.write mu he k heo new)
theorem Inv.pins_of {pins':List (Addr×Obj)} (I:Inv X pins σ H s) (h:∀p∈pins',s.heap.get? p.1=some p.2/\H p.1=none/\p.1≠X.env.locals/\p.1∉X.fs/\∀v,p.2.data≠.cell v):Inv X pins' σ H s :=
 ⟨I.ok,I.os,I.bare,I.base,I.loc,I.cell,I.free,I.freeC,λp hp=>(Bd.mp hp).elim (λz=>I.pin p (Do _ z)) (h p),I.hok,I.len⟩
theorem jnm {N:List Str} (hN:N.Nodup) {i j:Nat} {x:Str} (a:N[i]?=some x) (b:N[j]?=some x):i=j:=by
 obtain⟨h1,e1⟩:=Aq.mp a;obtain⟨h2,e2⟩:=Aq.mp b;exact(Ff hN).mp (e1.trans e2.symm)
theorem jj4 {M:Model} {A:Cb} {E:Ai->Am->Prop} {i:Nat} {x:Str} {v:V} {u:Ai} {Q:Unit->Am->Prop} (I:Inv X pins σ H s) (hN:X.N.Nodup) (hi:X.N[i]?=some x) (hx:Loc X.env.scope x) (r:RelV v u)
  (h:∀s',Inv X pins (σ.set i (some v)) H s'->(∃a,Dg a s.heap s'.heap/\(a=X.env.locals\/X.env.cells.lookup x=some a))->Q () s') (hf:X.fn x=true\/X.env.scope.names.lookup x=some .local:=by first | exact .inl rfl | exact .inr rfl | assumption):A3 M A (storeName X.env x u) Q E s:=by
 obtain⟨m,hn,hl⟩:=id I.loc;have hcls:(X.env.scope.kind==.class || (X.env.scope.kind==.module&&X.env.locals != X.env.globals))=false:=by rw[I.ok.kind];rfl
 have hiσ:i < σ.length:=by rw[I.len];exact(Aq.mp hi).1
 have cne:=I.cne;have tracked:∀{a:Addr} {h':Heap},(∃o,s.heap.get? a=some o/\H a=none)->Dg a s.heap h'->HOk X.prog X.w H h':=λ{a h'} ha hs b ob e=>by
  obtain⟨_,_,hfree⟩:=ha;refine(I.hok b ob e).stay (λc w' hc q=>(hs.2 c ?_).trans q) (λ_ q=>q) λ_ _ q=>q
  rintro rfl
  rcases hc with rfl | hc
  ·rw[hfree]at e;cases e
  ·rw[hfree]at hc;cases hc
 rcases hx with hk | hk
 ·refine wpAny_storeName_local hk hn (λh' hn' hs=>?_) hcls;obtain⟨oL,_,_,hoL,_⟩:=id hn;refine h _ ⟨I.ok,I.os,I.bare,⟨λb o e n hb hx=>?_,λb o e n hb hx=>?_,I.base.free,λb o e hx=>?_,I.base.tups,I.base.frzs,I.base.tbls⟩,⟨_,hn',λj y v' e1 e2 e3=>?_⟩,λy c e=>?_,I.free,I.freeC,λp hp=>?_,tracked ⟨oL,hoL,I.free⟩ hs,by simpa using I.len⟩ ⟨_,hs,.inl rfl⟩
  ·exact(hs.2 b (Bm (Bj (Aw e) I.ok.above))).trans (I.base.keep b o e n hb hx)
  ·obtain⟨sl,e1⟩:=I.base.slot b o e n hb hx;exact⟨sl,(hs.2 b (Bm (Bj (Aw e) I.ok.above))).trans e1⟩
  ·obtain⟨o',e1⟩:=I.base.there b o e hx;exact⟨o',(hs.2 b (Bm (Bj (Aw e) I.ok.above))).trans e1⟩
  ·by_cases hj:j=i
   ·subst hj;rw[hi]at e1;cases e1;rw[List.getElem?_set_self hiσ]at e2;cases e2;exact⟨u,r,.inl ⟨hk,by simp⟩⟩
   ·rw[Cg (Ne.symm hj)]at e2;obtain⟨u',r',q⟩:=hl j y v' e1 e2 e3;refine⟨u',r',?_⟩;rcases q with⟨k,e⟩ | ⟨k,c,e,z⟩
    ·refine .inl ⟨k,?_⟩;have:y≠x:=λe=>hj (jnm hN e1 (e▸hi));simp[this,e]
    ·exact .inr ⟨k,c,e,z.sameBut hs (cne y c e)⟩
  ·obtain⟨w',z⟩:=I.cell y c e;exact⟨w',z.sameBut hs (cne y c e)⟩
  ·obtain⟨e,n,ne,nf,d⟩:=I.pin p hp;exact⟨(hs.2 p.1 ne).trans e,n,ne,nf,d⟩
 ·have hfn:X.fn x=true:=by
   rcases hf with z | z
   ·exact z
   ·rw[z]at hk;cases hk
  obtain⟨c,hc⟩:=I.ok.has x (.inl hk);obtain⟨w',z⟩:=I.cell x c hc;refine wpAny_storeName_cell I.ok.kind hk hc z (λh' hc' hs=>?_);obtain⟨oc,hoc,hocd⟩:=id z;refine h {s with heap:=h'} ⟨I.ok,I.os,I.bare,⟨λb o e n hb hx=>?_,λb o e n hb hx=>?_,I.base.free,λb o e hx=>?_,I.base.tups,I.base.frzs,I.base.tbls⟩,⟨m,hn.sameBut hs (Ne.symm (cne x c hc)),λj y v' e1 e2 e3=>?_⟩,λy c' e=>?_,I.free,I.freeC,λp hp=>?_,tracked ⟨oc,hoc,I.freeC x c hc⟩ hs,by simpa using I.len⟩ ⟨c,hs,.inr hc⟩
  ·exact(hs.2 b (Bm (Bj (Aw e) (I.ok.cab x c hfn hc)))).trans (I.base.keep b o e n hb hx)
  ·obtain⟨sl,e1⟩:=I.base.slot b o e n hb hx;exact⟨sl,(hs.2 b (Bm (Bj (Aw e) (I.ok.cab x c hfn hc)))).trans e1⟩
  ·obtain⟨o',e1⟩:=I.base.there b o e hx;exact⟨o',(hs.2 b (Bm (Bj (Aw e) (I.ok.cab x c hfn hc)))).trans e1⟩
  ·by_cases hj:j=i
   ·subst hj;rw[hi]at e1;cases e1;rw[List.getElem?_set_self hiσ]at e2;cases e2;exact⟨u,r,.inr ⟨.inl hk,c,hc,hc'⟩⟩
   ·rw[Cg (Ne.symm hj)]at e2;obtain⟨u',r',q⟩:=hl j y v' e1 e2 e3;refine⟨u',r',?_⟩;rcases q with q | ⟨k,c',e,z'⟩
    ·exact .inl q
    ·refine .inr ⟨k,c',e,z'.sameBut hs ?_⟩
     rintro rfl
     exact hj (jnm hN e1 (I.ok.inj _ _ _ e hc▸hi))
  ·by_cases hcc:c'=c
   ·subst hcc;exact⟨_,hc'⟩
   ·obtain⟨w2,z2⟩:=I.cell y c' e;exact⟨w2,z2.sameBut hs hcc⟩
  ·obtain⟨e,n,ne,nf,d⟩:=I.pin p hp;refine⟨(hs.2 p.1 ?_).trans e,n,ne,nf,d⟩;intro q;rw[q,hoc]at e;have q':oc=p.2:=A6 e;exact d w' (by rw[<-q'];exact hocd)
theorem jm1 {M:Model} {A:Cb} {E:Ai->Am->Prop} {i:Nat} {x:Str} {v:V} {u:Ai} {Q:Unit->Am->Prop} (I:Inv X pins σ H s) (hN:X.N.Nodup) (hi:X.N[i]?=some x) (hx:Loc X.env.scope x) (r:RelV v u)
  (h:∀s',Inv X pins (σ.set i (some v)) H s'->Q () s') (hf:X.fn x=true\/X.env.scope.names.lookup x=some .local:=by first | exact .inl rfl | exact .inr rfl | assumption):A3 M A (storeName X.env x u) Q E s :=
 jj4 I hN hi hx r (λs' I' _=>h s' I') hf
theorem Inv.call' {s':Am} {ch:List Addr} (I:Inv X pins σ H s) (ho:s'.os=s.os) (u:Un (frs X.stack) ch H H' s.heap s'.heap) (hok:HOk X.prog X.w H' s'.heap) (hg:AllBare s'.gens)
  (hch:∀b∈ch,(b∈X.ex\/X.s₀.heap.objs.size<=b)/\b≠X.env.locals/\(∀x c,X.env.cells.lookup x=some c->c≠b)/\∀p∈X.pn++pins,p.1≠b):Inv X pins σ H' s':=by
 obtain⟨h',g',d',t',o'⟩:=s';have e:o'=s.os:=ho;subst e;exact I.call (g':=g') (t':=t') (d':=d') u hok hg hch
end
abbrev XK:=Ai->Option Addr->Hp->Prop
abbrev St:=List (Option V)
abbrev VK:=V->Hp->Prop
abbrev TE:=St->Hp->VK->Prop
abbrev TT:=St->Hp->(Bool->Hp->Prop)->Prop
abbrev TA:=St->Hp->(List V->Hp->Prop)->Prop
structure Ends where
 nx:St->Hp->Prop
 rt:VK
 bk:St->Hp->Prop:=λ_ _=>False
 ct:St->Hp->Prop:=λ_ _=>False
abbrev TS:=Ends->St->Hp->Prop
def EP (X:Cx) (pins:List (Addr×Obj)) (σ:St) (Q:VK) (u:Ai) (s':Am):Prop:=∃v H',Inv X pins σ H' s'/\RelV v u/\Q v H'
def TP (X:Cx) (pins:List (Addr×Obj)) (σ:St) (Q:Bool->Hp->Prop) (b:Bool) (s':Am):Prop:=∃H',Inv X pins σ H' s'/\Q b H'
def AP (X:Cx) (pins:List (Addr×Obj)) (σ:St) (Q:List V->Hp->Prop) (us:List Ai) (s':Am):Prop:=∃vs H',Inv X pins σ H' s'/\Vals vs us/\Q vs H'
def SP (X:Cx) (pins:List (Addr×Obj)) (D:Ends) (f:Flow) (s':Am):Prop :=
 match f with
 |.next=>∃σ' H',Inv X pins σ' H' s'/\D.nx σ' H'
 |.brk=>∃σ' H',Inv X pins σ' H' s'/\D.bk σ' H'
 |.cont=>∃σ' H',Inv X pins σ' H' s'/\D.ct σ' H'
 |.ret u=>∃v σ' H',Inv X pins σ' H' s'/\RelV v u/\D.rt v H'
def PE (X:Cx) (e:Expr) (t:TE):Prop :=
 ∀(pins:List (Addr×Obj)) (s:Am) (σ:St) (H:Hp) (Q:VK),Inv X pins σ H s->t σ H Q->A3 (Bc X.prog X.w) X.A (eval e X.env) (EP X pins σ Q) X.xe s
def PT (X:Cx) (e:Expr) (t:TT):Prop :=
 ∀(pins:List (Addr×Obj)) (s:Am) (σ:St) (H:Hp) (Q:Bool->Hp->Prop),Inv X pins σ H s->t σ H Q->A3 (Bc X.prog X.w) X.A (isTrue e X.env (eval e X.env)) (TP X pins σ Q) X.xe s
def PW (X:Cx) (e:Expr) (t:TT):Prop :=
 ∀(whole:Sem Ai) (pins:List (Addr×Obj)) (s:Am) (σ:St) (H:Hp) (Q:Bool->Hp->Prop),Inv X pins σ H s->t σ H Q->A3 (Bc X.prog X.w) X.A (isTrue e X.env whole) (TP X pins σ Q) X.xe s
theorem PW.pt {X:Cx} {e:Expr} {t:TT} (h:PW X e t):PT X e t:=h _
def PA (X:Cx) (es:List Expr) (t:TA):Prop :=
 ∀(pos:Pos) (pins:List (Addr×Obj)) (s:Am) (σ:St) (H:Hp) (Q:List V->Hp->Prop),Inv X pins σ H s->t σ H Q->A3 (Bc X.prog X.w) X.A (spliced (C8 pos (Au es X.env))) (AP X pins σ Q) X.xe s
def PS (X:Cx) (st:Stmt) (t:TS):Prop :=
 ∀(pins:List (Addr×Obj)) (s:Am) (σ:St) (H:Hp) (D:Ends),Inv X pins σ H s->t D σ H->A3 (Bc X.prog X.w) X.A (exec st X.env) (SP X pins D) X.xe s
def PSs (X:Cx) (st:List Stmt) (t:TS):Prop :=
 ∀(pins:List (Addr×Obj)) (s:Am) (σ:St) (H:Hp) (D:Ends),Inv X pins σ H s->t D σ H->A3 (Bc X.prog X.w) X.A (execs st X.env) (SP X pins D) X.xe s
theorem thn {α:Type} {t:Sem α} {Q Q':α->Am->Prop} {M:Model} {A:Cb} {E:Ai->Am->Prop} {s:Am} (h:A3 M A t Q E s) (hQ:∀a s,Q a s->Q' a s):A3 M A t Q' E s:=C1 h hQ λ_ _ x=>x
section
variable {X:Cx}
theorem bin {a b:Expr} {ta tb:TE} (ha:PE X a ta) (hb:PE X b tb) {pins:List (Addr×Obj)} {s:Am} {σ:St} {H:Hp} {R:V->V->Hp->Prop} (I:Inv X pins σ H s) (h:ta σ H λx H1=>tb σ H1 λy H2=>R x y H2)
  {α:Type} {Q:α->Am->Prop} {f:Ai->Ai->Sem α}
  (hf:∀v u s2 x y H2,Inv X pins σ H2 s2->RelV x v->RelV y u->R x y H2->A3 (Bc X.prog X.w) X.A (f v u) Q X.xe s2) :
  A3 (Bc X.prog X.w) X.A (eval a X.env) (λv s₁=>A3 (Bc X.prog X.w) X.A (eval b X.env) (λu s₂=>A3 (Bc X.prog X.w) X.A (f v u) Q X.xe s₂) X.xe s₁) X.xe s:=by
 refine thn (ha pins s σ H _ I h) λv s1 ⟨x,H1,I1,r1,q1⟩=>?_;refine thn (hb pins s1 σ H1 _ I1 q1) λu s2 ⟨y,H2,I2,r2,q2⟩=>?_;exact hf v u s2 x y H2 I2 r1 r2 q2
def tVar (i:Nat):TE:=λσ H Q=>∃v,σ[i]?=some (some v)/\Q v H
def tC (v:V):TE:=λ_ H Q=>Q v H
theorem jdw {i:Nat} {x:Str} {pos:Pos} (hN:X.N[i]?=some x) (hv:Vis X.env.scope x) (hd:(x==("__debug__":Str))=false:=by decide) (hcd:(x==("__classdict__":Str))=false:=by decide):PE X (.Name x pos) (tVar i):=by
 intro pins s σ H Q I h;obtain⟨v,e,h⟩:=h;obtain⟨m,hn,hl⟩:=I.loc;obtain⟨u,r,l⟩:=hl i x v hN e hv;have fin:EP X pins σ Q u s:=⟨v,H,I,r,h⟩;rcases l with⟨hk,hm⟩ | ⟨hk,c,hc,hcell⟩
 ·exact wpAny_Name (wpAny_loadName_local I.ok.kind hk hn hm fin) hd
 ·rcases hk with hk | hk
  ·exact wpAny_Name (wpAny_loadName_cell I.ok.kind hk hc hcell fin) hd
  ·exact wpAny_Name (wpAny_loadName_free I.ok.kind hk hc hcell fin hcd) hd
theorem jaw {i j pos}:PE X (.Constant (.int i) j pos) (tC (.int i)):=λ_ _ _ H _ I h=>wpAny_Constant_int ⟨.int i,H,I.tok _,⟨_,rfl⟩,h⟩
theorem j3z {b j pos}:PE X (.Constant (.bool b) j pos) (tC (.bl b)):=λ_ _ _ H _ I h=>Constant_bool ⟨.bl b,H,I,rfl,h⟩
theorem jng {j pos}:PE X (.Constant .none j pos) (tC .non):=λ_ _ _ H _ I h=>Constant_none ⟨.non,H,I,rfl,h⟩
theorem j0o {x j pos}:PE X (.Constant (.str x) j pos) (tC (.str x)):=λ_ _ _ H _ I h=>Calls.Constant_str ⟨.str x,H,I.tok _,⟨_,rfl⟩,h⟩
def Gl (X:Cx) (x:Str):Prop:=X.env.kindOf x=some .globalImplicit
theorem jx0 {E:Ai->Am->Prop} {pins:List (Addr×Obj)} {s:Am} {σ:St} {H:Hp} {x:Str} {u:Ai} {pos:Pos} {Q:Ai->Am->Prop} (I:Inv X pins σ H s) (hg:Gl X x) (hm:X.mg x=some u) (h:Q u s)
  (hd:(x==("__debug__":Str))=false:=by decide):A3 (Bc X.prog X.w) X.A (eval (.Name x pos) X.env) Q E s :=
 Calls.Name_function_global I.ok.kind hg (Calls.loadGlobal_global (by rw[I.ok.glob];exact I.mod.glob.keeps I.bk) hm h) hd
theorem je1 {E:Ai->Am->Prop} {pins:List (Addr×Obj)} {s:Am} {σ:St} {H:Hp} {x:Str} {u:Ai} {pos:Pos} {Q:Ai->Am->Prop} (I:Inv X pins σ H s) (hg:Gl X x) (hm:X.mg x=none) (hv:Bv x=some u) (h:Q u s)
  (hn:x≠"__name__":=by decide) (hd:(x==("__debug__":Str))=false:=by decide):A3 (Bc X.prog X.w) X.A (eval (.Name x pos) X.env) Q E s:=by
 obtain⟨mb,h1,h2⟩:=I.mod.blt;exact Calls.Name_function_global I.ok.kind hg (Calls.loadGlobal_builtin (by rw[I.ok.glob];exact I.mod.glob.keeps I.bk) hm (by rw[I.ok.blt];exact h1.keeps I.bk) ((h2 x hn).trans hv) h) hd
theorem jq1 {x:Str} {v:V} {u:Ai} {pos:Pos} (hg:Gl X x) (hm:X.mg x=none) (hv:Bv x=some u) (r:RelV v u) (hn:x≠"__name__":=by decide) (hd:(x==("__debug__":Str))=false:=by decide):PE X (.Name x pos) (tC v) :=
 λ_ _ _ H _ I h=>je1 I hg hm hv ⟨v,H,I,r,h⟩ hn hd
variable {a b:Expr} {ta tb:TE} {pos:Pos}
def PC (X:Cx) (op:CmpOp) (a b:Expr) (t:TE):Prop :=
 ∀(pins:List (Addr×Obj)) (s:Am) (σ:St) (H:Hp) (Q:VK),Inv X pins σ H s->t σ H Q ->
  A3 (Bc X.prog X.w) X.A (eval a X.env) (λv s₁=>A3 (Bc X.prog X.w) X.A (eval b X.env) (λu s₂=>A3 (Bc X.prog X.w) X.A (Bz op v u) (EP X pins σ Q) X.xe s₂) X.xe s₁) X.xe s
theorem jnn (b:Expr) {op:CmpOp} (h:op≠.In) (h2:op≠.NotIn):Cz op b=false:=by
 have e1:(op==CmpOp.In)=false:=by cases op<;>first | rfl | exact absurd rfl h
 have e2:(op==CmpOp.NotIn)=false:=by cases op<;>first | rfl | exact absurd rfl h2
 cases b<;>simp[Cz,e1,e2]
def tB (t:TE):TT:=λσ H Q=>t σ H λx H1=>∃c,x=.bl c/\Q c H1
theorem j0r {op:CmpOp} {t:TE} (h:PC X op a b t) (h1:Cz op b=false:=by first | exact jnn _ (by decide) (by decide) | rfl):PE X (.Compare a [op] [b] pos) t:=λpins s σ H Q I hw=>wpAny_Compare1 (h pins s σ H Q I hw) h1
theorem j5l {op:CmpOp} {t:TE} (h:PC X op a b t) (h1:Cz op b=false:=by first | exact jnn _ (by decide) (by decide) | rfl):PT X (.Compare a [op] [b] pos) (tB t):=by
 intro pins s σ H Q I hw;refine wpAny_isTrue_Compare1 (thn (h pins s σ H _ I hw) λv s1 h1=>thn h1 λu s2 h2=>thn h2 λc s3 ⟨x,H1,I1,r1,q1⟩=>?_) h1;obtain⟨d,rfl,q⟩:=q1;cases r1;exact Eh ⟨H1,I1,q⟩
theorem j0i {e:Expr} {t:TE} (h:PE X e t) (he:∀whole,isTrue e X.env whole=(do let v <-whole;standAt e.pos;holding [v] (truthy v)):=by intro _;rfl):PT X e (tB t):=by
 intro pins s σ H Q I hw;refine isTrue_plain (thn (h pins s σ H _ I hw) λv s1 ⟨x,H1,I1,r1,q1⟩=>?_) (he _);obtain⟨d,rfl,q⟩:=q1;cases r1;exact Eh ⟨H1,I1,q⟩
variable {tA tB':TT} {rest:List Expr}
def tAnd (t u:TT):TT:=λσ H Q=>t σ H λc H1=>if c=true then u σ H1 Q else Q false H1
def tOr (t u:TT):TT:=λσ H Q=>t σ H λc H1=>if c=true then Q true H1 else u σ H1 Q
def tNot (t:TT):TT:=λσ H Q=>t σ H λc H1=>Q (!c) H1
theorem jqt (ha:PT X a tA):PW X (.BoolOp .And [a] pos) tA:=by
 intro wh pins s σ H Q I h;refine isTrue_and (thn (ha pins s σ H Q I h) λc s1 e=>?_);cases c with
 |true=>exact isTrue_and_nil e
 |false=>exact e
theorem j0h (ha:PT X a tA):PW X (.BoolOp .Or [a] pos) tA:=by
 intro wh pins s σ H Q I h;refine isTrue_or (thn (ha pins s σ H Q I h) λc s1 e=>?_);cases c with
 |false=>exact isTrue_or_nil e
 |true=>exact e
theorem jvu (ha:PT X a tA) (hb:PW X (.BoolOp .And (b::rest) pos) tB'):PW X (.BoolOp .And (a::b::rest) pos) (tAnd tA tB'):=by
 intro wh pins s σ H Q I h;refine isTrue_and (thn (ha pins s σ H _ I h) λc s1 ⟨H1,I1,q1⟩=>?_);cases c with
 |true=>exact hb wh pins s1 σ H1 Q I1 q1
 |false=>exact⟨H1,I1,q1⟩
theorem j3s (ha:PT X a tA) (hb:PW X (.BoolOp .Or (b::rest) pos) tB'):PW X (.BoolOp .Or (a::b::rest) pos) (tOr tA tB'):=by
 intro wh pins s σ H Q I h;refine isTrue_or (thn (ha pins s σ H _ I h) λc s1 ⟨H1,I1,q1⟩=>?_);cases c with
 |true=>exact⟨H1,I1,q1⟩
 |false=>exact hb wh pins s1 σ H1 Q I1 q1
theorem j0j (ha:PT X a tA):PT X (.UnaryOp .Not a pos) (tNot tA):=by
 intro pins s σ H Q I h;exact isTrue_not (ha pins s σ H (λc H1=>Q (!c) H1) I h)
def jze (ta tb:TE):TE:=λσ H Q=>ta σ H λx H1=>∃c,x=.bl c/\if c=true then tb σ H1 Q else Q (.bl false) H1
def tOrV (ta tb:TE):TE:=λσ H Q=>ta σ H λx H1=>∃c,x=.bl c/\if c=true then Q (.bl true) H1 else tb σ H1 Q
theorem j0q {op} {t:TE} (h:PE X a t):PE X (.BoolOp op [a] pos) t:=λpins s σ H Q I hw=>BoolOp_one (h pins s σ H Q I hw)
theorem j0t (ha:PE X a ta) (hb:PE X (.BoolOp .And (b::rest) pos) tb):PE X (.BoolOp .And (a::b::rest) pos) (jze ta tb):=by
 intro pins s σ H Q I h;refine BoolOp_and (thn (ha pins s σ H _ I h) λv s1 ⟨x,H1,I1,r1,q1⟩=>?_);obtain⟨c,rfl,q1⟩:=q1;cases r1;refine Eh ?_;cases c with
 |true=>exact hb pins s1 σ H1 Q I1 q1
 |false=>exact⟨.bl false,H1,I1,rfl,q1⟩
theorem j3x (ha:PE X a ta) (hb:PE X (.BoolOp .Or (b::rest) pos) tb):PE X (.BoolOp .Or (a::b::rest) pos) (tOrV ta tb):=by
 intro pins s σ H Q I h;refine BoolOp_or (thn (ha pins s σ H _ I h) λv s1 ⟨x,H1,I1,r1,q1⟩=>?_);obtain⟨c,rfl,q1⟩:=q1;cases r1;refine Eh ?_;cases c with
 |false=>exact hb pins s1 σ H1 Q I1 q1
 |true=>exact⟨.bl true,H1,I1,rfl,q1⟩
def tIf (t:TT) (ta tb:TE):TE:=λσ H Q=>t σ H λc H1=>if c=true then ta σ H1 Q else tb σ H1 Q
theorem jtu {c:Expr} (hc:PT X c tA) (ha:PE X a ta) (hb:PE X b tb):PE X (.IfExp c a b pos) (tIf tA ta tb):=by
 intro pins s σ H Q I h;refine wpAny_IfExp (thn (hc pins s σ H _ I h) λd s1 ⟨H1,I1,q1⟩=>?_);cases d with
 |true=>exact ha pins s1 σ H1 Q I1 q1
 |false=>exact hb pins s1 σ H1 Q I1 q1
end
def SqL (K:Ah) (H:Hp) (a:Addr) (xs:List V):Prop :=
 Rd H a (.lst xs) \/
  ∃(o:Obj) (its:Array Ai) (n:Nat),K.lookup a=some o/\o.cls=.type "list"/\o.dict=none/\o.data=.seq its n/\its.size<=Ap/\Vals xs its.toList
def SqT (K:Ah) (H:Hp) (a:Addr) (xs:List V):Prop :=
 Rd H a (.tup xs) \/
  ∃(o:Obj) (its:Array Ai) (n:Nat),K.lookup a=some o/\o.cls=.type "tuple"/\o.data=.seq its n/\its.size<=Ap/\Vals xs its.toList
def absV:Ai->Option V
 |.none=>some .non
 |.bool b=>some (.bl b)
 |.int i _=>some (.int i)
 |.str x _=>some (.str x)
 |.bytes b _=>some (.byt b)
 |.float b _=>some (.flt b)
 |.ref a=>some (.ref a)
 |.type n=>some (.ty n)
 |_=>none
theorem RelV.abs {x:V} {u:Ai} (r:RelV x u):absV u=some x:=by
 cases x with
 |non=>cases r;rfl
 |bl _=>cases r;rfl
 |int _=>obtain⟨t,rfl⟩:=r;rfl
 |str _=>obtain⟨t,rfl⟩:=r;rfl
 |byt _=>obtain⟨t,rfl⟩:=r;rfl
 |flt _=>obtain⟨t,rfl⟩:=r;rfl
 |ref _=>cases r;rfl
 |ty _=>cases r;rfl
theorem RelV.inj {x y:V} {u:Ai} (r:RelV x u) (q:RelV y u):x=y:=A6 (r.abs.symm.trans q.abs)
theorem Vals.inj:∀{xs ys:List V} {us:List Ai},Vals xs us->Vals ys us->xs=ys
 |_,_,_,.nil,.nil=>rfl
 |_,_,_,.cons r t,.cons r' t'=>by rw[r.inj r',Vals.inj t t']
section
variable {X:Cx} {pins:List (Addr×Obj)} {σ:St} {H:Hp} {s:Am} {a:Addr} {xs ys:List V}
theorem SqL.of {K:Ah} (h:H a=some (.lst xs)):SqL K H a xs:=.inl (.inl h)
theorem SqT.of {K:Ah} (h:H a=some (.tup xs)):SqT K H a xs:=.inl (.inl h)
theorem Inv.list (I:Inv X pins σ H s) (h:SqL X.K H a xs):∃its:List Ai,Vals xs its/\PlainL s.heap a its.toArray/\xs.length<=Ap:=by
 rcases h with h | ⟨o,its,n,hk,hc,hd,hs,hz,r⟩
 ·obtain⟨z,its,n,r,e⟩:=h.ok I.hok;exact⟨its,r,⟨_,n,e,rfl,rfl,rfl⟩,z⟩
 ·refine⟨its.toList,r,⟨o,n,I.kIn a o hk,hc,hd,by simpa using hs⟩,?_⟩;have e:=r.length;simp only[Er]at e;omega
theorem Inv.tuple (I:Inv X pins σ H s) (h:SqT X.K H a xs):∃its:List Ai,Vals xs its/\IsTup s.heap a its.toArray/\xs.length<=Ap:=by
 rcases h with h | ⟨o,its,n,hk,hc,hs,hz,r⟩
 ·obtain⟨z,its,r,p⟩:=h.ok I.hok;exact⟨its,r,p.tup,z⟩
 ·refine⟨its.toList,r,⟨o,I.kIn a o hk,hc,n,by simpa using hs⟩,?_⟩;have e:=r.length;simp only[Er]at e;omega
theorem Inv.list_inj (I:Inv X pins σ H s) (h:SqL X.K H a xs) (h':SqL X.K H a ys):xs=ys:=by
 obtain⟨its,r,⟨o,n,e,_,_,d⟩,_⟩:=I.list h;obtain⟨its',r',⟨o',n',e',_,_,d'⟩,_⟩:=I.list h';rw[e]at e';cases e';rw[d]at d';injection d' with d1 _;have:its=its':=by simpa using congrArg Array.toList d1
 subst this;exact r.inj r'
theorem Inv.tuple_inj (I:Inv X pins σ H s) (h:SqT X.K H a xs) (h':SqT X.K H a ys):xs=ys:=by
 obtain⟨its,r,⟨o,e,_,n,d⟩,_⟩:=I.tuple h;obtain⟨its',r',⟨o',e',_,n',d'⟩,_⟩:=I.tuple h';rw[e]at e';cases e';rw[d]at d';injection d' with d1 _;have:its=its':=by simpa using congrArg Array.toList d1
 subst this;exact r.inj r'
end
abbrev Cx.wish (X:Cx) (E:Ai->Am->Prop):Cx:={ X with xe:=E}
abbrev Cx.nox (X:Cx):Cx:=X.wish λ_ _=>False
theorem Cx.Ok.wish {X:Cx} (ok:X.Ok) (E:Ai->Am->Prop):(X.wish E).Ok :=
 ⟨ok.mod,ok.kind,ok.glob,ok.blt,ok.above,ok.inj,ok.has,ok.cab,ok.hd,ok.frames,ok.stk,ok.exf,ok.bs,ok.bsz,ok.noex,ok.exfs,ok.funs,ok.frf⟩
theorem Cx.Ok.unwish {X:Cx} {E:Ai->Am->Prop} (ok:(X.wish E).Ok):X.Ok :=
 ⟨ok.mod,ok.kind,ok.glob,ok.blt,ok.above,ok.inj,ok.has,ok.cab,ok.hd,ok.frames,ok.stk,ok.exf,ok.bs,ok.bsz,ok.noex,ok.exfs,ok.funs,ok.frf⟩
section
variable {X:Cx} {pins:List (Addr×Obj)} {σ:St} {H:Hp} {s:Am} {E:Ai->Am->Prop}
theorem Inv.wish (I:Inv X pins σ H s) (E:Ai->Am->Prop):Inv (X.wish E) pins σ H s:=⟨I.ok.wish E,I.os,I.bare,I.base,I.loc,I.cell,I.free,I.freeC,I.pin,I.hok,I.len⟩
theorem Inv.unwish (I:Inv (X.wish E) pins σ H s):Inv X pins σ H s:=⟨I.ok.unwish,I.os,I.bare,I.base,I.loc,I.cell,I.free,I.freeC,I.pin,I.hok,I.len⟩
theorem SP.unwish {D:Ends} {f:Flow} {s':Am} (h:SP (X.wish E) pins D f s'):SP X pins D f s':=by
 cases f with
 |next=>obtain⟨σ',H',I,q⟩:=h;exact⟨σ',H',I.unwish,q⟩
 |brk=>obtain⟨σ',H',I,q⟩:=h;exact⟨σ',H',I.unwish,q⟩
 |cont=>obtain⟨σ',H',I,q⟩:=h;exact⟨σ',H',I.unwish,q⟩
 |ret u=>obtain⟨v,σ',H',I,r,q⟩:=h;exact⟨v,σ',H',I.unwish,r,q⟩
theorem PSs.nox {st:List Stmt} {t:TS} (h:PSs X.nox st t):PSs X st t:=λpins s σ H D I hw =>
 C1 (h pins s σ H D (I.wish _) hw) (λ_ _ q=>q.unwish) λ_ _ z=>False.elim z
end
section
variable {X:Cx} {st:Stmt} {rest:List Stmt} {t u:TS} {e:Expr} {te:TE} {pos:Pos}
def jzb:TS:=λD σ H=>D.nx σ H
def tSeq (t u:TS):TS:=λD σ H=>t {D with nx:=u D} σ H
theorem jix:PSs X [] jzb:=λ_ _ σ H _ I h=>wpAny_execs_nil ⟨σ,H,I,h⟩
theorem ja9 (h1:PS X st t) (h2:PSs X rest u):PSs X (st::rest) (tSeq t u):=by
 intro pins s σ H D I h;refine wpAny_execs_cons (thn (h1 pins s σ H {D with nx:=u D} I h) λf s1 q=>?_);cases f with
 |next =>
  obtain⟨σ',H',I',q⟩:=q;exact h2 pins s1 σ' H' D I' q
 |ret v=>exact q
 |brk=>exact q
 |cont=>exact q
theorem jeg (h1:PS X st t):PSs X [st] t:=by
 intro pins s σ H D I h;refine wpAny_execs_cons (thn (h1 pins s σ H D I h) λf s1 q=>?_);cases f with
 |next=>exact wpAny_execs_nil q
 |ret v=>exact q
 |brk=>exact q
 |cont=>exact q
theorem Inv.quiet {pins:List (Addr×Obj)} {σ:St} {H:Hp} {s:Am} (I:Inv X pins σ H s):interactive X.env=false:=by simp[interactive,I.ok.kind]
def jzc (te:TE):TS:=λD σ H=>te σ H λ_ H1=>D.nx σ H1
theorem jxd (he:PE X e te) (hs:Ex e none pos.line X.env=pure false:=by rfl):PS X (.Expr e pos) (jzc te):=by
 intro pins s σ H D I h;exact wpAny_Expr_any (thn (he pins s σ H _ I h) λv s1 ⟨x,H1,I1,r1,q1⟩=>⟨σ,H1,I1,q1⟩) I.quiet hs
def tRet (te:TE):TS:=λD σ H=>te σ H D.rt
theorem jh1 (he:PE X e te):PS X (.Return (some e) pos) (tRet te):=by
 intro pins s σ H D I h;exact wpAny_Return_some (thn (he pins s σ H _ I h) λv s1 ⟨x,H1,I1,r1,q1⟩=>⟨x,σ,H1,I1,r1,q1⟩)
def tIfS (c:TT) (t u:TS):TS:=λD σ H=>c σ H λb H1=>if b=true then t D σ H1 else u D σ H1
theorem jto {c:Expr} {a b:List Stmt} {tc:TT} (hc:PT X c tc) (ha:PSs X a t) (hb:PSs X b u):PS X (.If c a b pos) (tIfS tc t u):=by
 intro pins s σ H D I h;refine wpAny_If (thn (hc pins s σ H _ I h) λd s1 ⟨H1,I1,q1⟩=>?_);cases d with
 |true=>exact ha pins s1 σ H1 D I1 q1
 |false=>exact hb pins s1 σ H1 D I1 q1
end
abbrev TG:=V->St->Hp->(St->Hp->Prop)->Prop
abbrev TGs:=List V->St->Hp->(St->Hp->Prop)->Prop
def PG (X:Cx) (target:Expr) (t:TG):Prop :=
 ∀(pins:List (Addr×Obj)) (s:Am) (σ:St) (H:Hp) (v:V) (u:Ai) (Q:St->Hp->Prop),Inv X pins σ H s->RelV v u->t v σ H Q ->
  A3 (Bc X.prog X.w) X.A (assign target X.env u) (λ_ s'=>∃σ' H',Inv X pins σ' H' s'/\Q σ' H') X.xe s
def PGs (X:Cx) (ts:List Expr) (t:TGs):Prop :=
 ∀(pins:List (Addr×Obj)) (s:Am) (σ:St) (H:Hp) (vs:List V) (us:List Ai) (Q:St->Hp->Prop),Inv X pins σ H s->Vals vs us->t vs σ H Q ->
  A3 (Bc X.prog X.w) X.A (assignInOrder ((Dh ts X.env).map (·.2)) us) (λ_ s'=>∃σ' H',Inv X pins σ' H' s'/\Q σ' H') X.xe s
abbrev TSet:=V->V->V->Hp->(Hp->Prop)->Prop
def PSet (X:Cx) (t:TSet):Prop :=
 ∀(pins:List (Addr×Obj)) (s:Am) (σ:St) (H:Hp) (o i v:V) (ov iv u:Ai) (Q:Hp->Prop),Inv X pins σ H s->RelV o ov->RelV i iv->RelV v u->t o i v H Q ->
  A3 (Bc X.prog X.w) X.A (setItem ov iv u) (λ_ s'=>∃H',Inv X pins σ H' s'/\Q H') X.xe s
section
variable {X:Cx} {pos:Pos}
def jem (i:Nat):TG:=λv σ H Q=>Q (σ.set i (some v)) H
theorem jxj {i:Nat} {x:Str} (hN:X.N.Nodup) (hi:X.N[i]?=some x) (hx:Loc X.env.scope x) (hf:X.fn x=true\/X.env.scope.names.lookup x=some .local:=by first | exact .inl rfl | exact .inr rfl | assumption):PG X (.Name x pos) (jem i):=by
 intro pins s σ H v u Q I r h;exact wpAny_assign_Name (jm1 I hN hi hx r (λs' I'=>⟨_,H,I',h⟩) hf)
def gNil:TGs:=λvs σ H Q=>vs=[]/\Q σ H
def j19 (t:TG) (u:TGs):TGs:=λvs σ H Q=>∃v r,vs=v::r/\t v σ H λσ' H'=>u r σ' H' Q
theorem jxi:PGs X [] gNil:=by
 intro pins s σ H vs us Q I r h;obtain⟨e,h⟩:=h;subst e;cases r;exact assignInOrder_nil ⟨σ,H,I,h⟩
theorem jtr {e:Expr} {es:List Expr} {t:TG} {u:TGs} (h1:PG X e t) (h2:PGs X es u)
  (hs:(Dh (e::es) X.env).map (·.2)=assign e X.env::(Dh es X.env).map (·.2):=by rfl):PGs X (e::es) (j19 t u):=by
 intro pins s σ H vs us Q I r h;obtain⟨v,vr,e1,h⟩:=h;subst e1;cases r with
 |cons r rr =>
  rw[hs];refine assignInOrder_cons (thn (h1 pins s σ H _ _ _ I r h) λ_ s1 ⟨σ1,H1,I1,q1⟩=>?_);exact h2 pins s1 σ1 H1 _ _ Q I1 rr q1
def gTup (K:Ah) (n:Nat) (t:TGs):TG:=λv σ H Q=>∃a xs,v=.ref a/\SqT K H a xs/\xs.length=n/\t xs σ H Q
theorem j0n {es:List Expr} {k:Nat} {t:TGs} {n:Nat} (hc:X.calm=true) (h:PGs X es t)
  (hn:(Dh es X.env).length=n:=by rfl) (hst:(Dh es X.env).findIdx? (·.1)=none:=by rfl):PG X (.Tuple es k pos) (gTup X.K n t):=by
 intro pins s σ H v u Q I r hw;obtain⟨a,xs,e1,hq,hl,hw⟩:=hw;subst e1;cases r;obtain⟨its,rv,ht,hz⟩:=I.tuple hq;refine assign_Tuple_tuple (I.ok.hd hc) ht (by simp[hn,<-hl,rv.length]) hst λh' hx=>?_;have I1:Inv X pins σ H {s with heap:=h'}:=I.kept (t':=s.toks) λb o e=>hx b o (Bm (Aw e)) e;exact h pins _ σ H xs _ Q I1 (by simpa using rv) hw
def gSub (to ti:TE) (t:TSet):TG:=λv σ H Q=>to σ H λo H1=>ti σ H1 λi H2=>t o i v H2 λH3=>Q σ H3
theorem jnf {o i:Expr} {to ti:TE} {t:TSet} (ho:PE X o to) (hi:PE X i ti) (hs:PSet X t)
  (ha:∀v,assign (.Subscript o i pos) X.env v=(do
   let ov <-holding [v] (eval o X.env)
   let iv <-holding [v,ov] (eval i X.env)
   standAt pos
   holding [v,ov,iv] (setItem ov iv v)
   release [v,ov,iv] []):=by intro _;rfl):PG X (.Subscript o i pos) (gSub to ti t):=by
 intro pins s σ H v u Q I r h;rw[ha];refine Ad (Cm (thn (ho pins s σ H _ I h) λov s1 ⟨x,H1,I1,r1,q1⟩=>?_));refine Ad (Cm (thn (hi pins s1 σ H1 _ I1 q1) λiv s2 ⟨y,H2,I2,r2,q2⟩=>?_));refine Ad (wpAny_standAt (Ad (Cm (thn (hs pins s2 σ H2 x y v ov iv u _ I2 r1 r2 r q2) λ_ s3 ⟨H3,I3,q3⟩=>?_))));exact wpAny_release ⟨σ,H3,I3,q3⟩
def tAsg (te:TE) (g:TG):TS:=λD σ H=>te σ H λx H1=>g x σ H1 D.nx
theorem jkb {tg e:Expr} {te:TE} {g:TG} (he:PE X e te) (hg:PG X tg g) (hs:swapsWithSole [tg] e pos.line X.env=pure false:=by rfl) (hw:swappedStores [tg] e X.env=pure none:=by rfl)
  (h1:(Dh [tg] X.env).map (·.2)=[assign tg X.env]:=by rfl):PS X (.Assign [tg] e pos) (tAsg te g):=by
 intro pins s σ H D I h;refine wpAny_Assign_stores (thn (he pins s σ H _ I h) λv s1 ⟨x,H1,I1,r1,q1⟩=>?_) hs hw;rw[h1];exact thn (hg pins s1 σ H1 x v _ I1 r1 q1) λ_ s2 q=>q
theorem jdv {i:Nat} {x:Str} {e:Expr} {te:TE} {pos':Pos} (hN:X.N.Nodup) (hi:X.N[i]?=some x) (hx:Loc X.env.scope x) (he:PE X e te) (hs:Ex e (some (.Name x pos')) pos.line X.env=pure false:=by rfl) (hf:X.fn x=true\/X.env.scope.names.lookup x=some .local:=by first | exact .inl rfl | exact .inr rfl | assumption) :
  PS X (.Assign [.Name x pos'] e pos) (tAsg te (jem i)):=by
 intro pins s σ H D I h;refine wpAny_Assign_Name (thn (he pins s σ H _ I h) λv s1 ⟨y,H1,I1,r1,q1⟩=>?_) hs;exact jm1 I1 hN hi hx r1 (λs2 I2=>⟨_,H1,I2,q1⟩) hf
end
structure It where
 go:Nat->Hp->Prop
 yld:Nat->Hp->V->Hp->Prop
 stop:Nat->Hp->Prop
def FpOk (X:Cx) (pins:List (Addr×Obj)) (H:Hp) (b:Addr):Prop :=
 H b=none/\b≠X.env.locals/\b∉X.fs/\(b∈X.ex\/X.s₀.heap.objs.size<=b)/\(∀x c,X.env.cells.lookup x=some c->c≠b)/\∀p∈X.pn++pins,p.1≠b
theorem Inv.fpOk {X:Cx} {pins:List (Addr×Obj)} {σ:St} {H H':Hp} {s:Am} {b:Addr} (I:Inv X pins σ H s) (hb:s.heap.objs.size<=b) (hn:H' b=none):FpOk X pins H' b:=by
 refine⟨hn,En (Bj I.lt hb),I.nofs hb,.inr (A4 I.sz hb),λx c e z=>?_,λp hp z=>?_⟩
 ·obtain⟨v,q⟩:=I.cell x c e;exact absurd (Bj q.lt (by rw[z];exact hb)) (Ea _)
 ·exact absurd (Bj (Aw (I.pin p hp).1) (by rw[z];exact hb)) (Ea _)
structure Turn (P:Bg) (w:Bw) (K:Ah) (tg:Expr) (J:It) (fp:List Addr) (it:Addr) (tn:Nat->Heap->Prop):Prop where
 mem:it∈fp
 obj:∀i h,tn i h->∀b∈fp,∃o,h.get? b=some o/\∀v,o.data≠.cell v
 keep:∀i h h',tn i h->(∀b∈fp,∀o,h.get? b=some o->h'.get? b=some o)->tn i h'
 item:∀(X:Cx),X.prog=P->X.w=w->X.K=K->X.calm=true->∀(i:Nat) (pins:List (Addr×Obj)) (s:Am) (σ:St) (H:Hp) (E:Ai->Am->Prop),Inv X pins σ H s->(∀b∈fp,FpOk X pins H b)->tn i s.heap->J.go i H ->
  A3 (Bc P w) X.A (pyNext (.ref it)) (λr s1=>∃u,r=some u /\
   A3 (Bc P w) X.A (letOwnedTupleGo tg (.ref it) u) (λ_ s2=>∃x H',Inv X pins σ H' s2/\RelV x u/\J.yld i H x H'/\tn (i+1) s2.heap/\∀b∈fp,H' b=none) E s1) E s
 done:∀(X:Cx),X.prog=P->X.w=w->X.K=K->X.calm=true->∀(i:Nat) (pins:List (Addr×Obj)) (s:Am) (σ:St) (H:Hp) (E:Ai->Am->Prop),Inv X pins σ H s->(∀b∈fp,FpOk X pins H b)->tn i s.heap->J.stop i H ->
  A3 (Bc P w) X.A (pyNext (.ref it)) (λr s1=>r=none/\Inv X pins σ H s1) E s
 self:∀(A:Cb) (i:Nat) (s:Am) (Q:Ai->Am->Prop) (E:Ai->Am->Prop),tn i s.heap->Q (.ref it) s->A3 (Bc P w) A (pyIter (.ref it)) Q E s
abbrev TI:=St->Hp->(It->Hp->Prop)->Prop
def PIE (X:Cx) (pins:List (Addr×Obj)) (σ:St) (tg:Expr) (R:It->Hp->Prop) (itv:Ai) (s2:Am):Prop :=
 ∃(it:Addr) (fp:List Addr) (tn:Nat->Heap->Prop) (J:It) (H':Hp),itv=.ref it/\Inv X pins σ H' s2/\Turn X.prog X.w X.K tg J fp it tn/\tn 0 s2.heap/\(∀b∈fp,FpOk X pins H' b)/\R J H'
def PI (X:Cx) (tg iter:Expr) (wi:TI):Prop :=
 ∀(pins:List (Addr×Obj)) (s:Am) (σ:St) (H:Hp) (R:It->Hp->Prop),Inv X pins σ H s->wi σ H R ->
  A3 (Bc X.prog X.w) X.A (eval iter X.env) (λv s1=>A3 (Bc X.prog X.w) X.A (pyIter v) (PIE X pins σ tg R) X.xe s1) X.xe s
theorem jx9 {M:Model} {A:Cb} {E:Ai->Am->Prop} {s:Am} {tg:Expr} {it:Addr} {u:Ai} {o:Obj} {n:String} {vs:Array Ai} {Q:Unit->Am->Prop} (ho:s.heap.get? it=some o) (hc:o.cls=.type n) (hd:o.data=.fields vs)
  (hn:["enumerate","zip","dict_itemiterator","dict_reverseitemiterator","odict_iterator","itertools.zip_longest","itertools.pairwise"].contains n=false) (hQ:Q () s):A3 M A (letOwnedTupleGo tg (.ref it) u) Q E s:=by
 unfold letOwnedTupleGo;cases tg<;>first
  |exact Av hQ
  | (cases u<;>first
    |exact Av hQ
    | (refine Ad (wpAny_load ho ?_)
       rw[hc,hd];show A3 M A (if (["enumerate","zip","dict_itemiterator","dict_reverseitemiterator","odict_iterator","itertools.zip_longest","itertools.pairwise"].contains n&&vs[0]?==some (Ey _))=true then _ else _) Q E s;rw[if_neg (by intro h;rw[hn,Bool.false_and]at h;cases h)];exact Av hQ))
def Itl (K:Ah) (a:Addr):It :=
 ⟨λi H=>∃xs x,SqL K H a xs/\xs[i]?=some x,λi H x H'=>H'=H/\∀xs,SqL K H a xs->xs[i]?=some x,λi H=>∃xs,SqL K H a xs/\xs.length<=i⟩
def Itt (K:Ah) (a:Addr):It :=
 ⟨λi H=>∃xs x,SqT K H a xs/\xs[i]?=some x,λi H x H'=>H'=H/\∀xs,SqT K H a xs->xs[i]?=some x,λi H=>∃xs,SqT K H a xs/\xs.length<=i⟩
def Itr (lo:Int) (n:Nat):It:=⟨λi _=>i < n,λi H x H'=>H'=H/\x=.int (lo+i),λi _=>n<=i⟩
theorem jpw {P:Bg} {w:Bw} {K:Ah} {tg:Expr} (a it:Addr):Turn P w K tg (Itl K a) [it] it (λi h=>h.IsListIter it a i) where
 mem:=by simp
 obj:=λi h st b hb=>by
  have e:b=it:=by simpa using hb
  subst e;obtain⟨o,e,c,d⟩:=st;exact⟨o,e,λv z=>by rw[d]at z;cases z⟩
 keep:=λi h h' st k=>st.at λo e=>k it (by simp) o e
 item:=by
  intro X hP hw hK hc i pins s σ H E I hf st hg;subst hP hw hK;obtain⟨xs,x,hq,hx⟩:=hg;obtain⟨its,rv,p,hz⟩:=I.list hq;obtain⟨u,hu,ru⟩:=rv.get hx;obtain⟨f0,f1,f2,f3,f4,f5⟩:=hf it (by simp);refine wpAny_pyNext_list_item st p.isList (x:=u) (by simpa using hu) λh' st' sb=>?_;have I1:Inv X pins σ H {s with heap:=h'}:=I.turned (t':=s.toks) (λb o hb e=>(sb.2 b hb).trans e) f0 f1 f3 f4 f5;obtain⟨o,e,c,d⟩:=id st';exact⟨u,rfl,jx9 (s:={ s with heap:=h'}) e c d (by decide) ⟨x,H,I1,ru,⟨rfl,λys hy=>by rw[I.list_inj hy hq];exact hx⟩,st',λb hb=>(hf b hb).1⟩⟩
 done:=by
  intro X hP hw hK hc i pins s σ H E I hf st hg;subst hP hw hK;obtain⟨xs,hq,hx⟩:=hg;obtain⟨its,rv,p,hz⟩:=I.list hq;obtain⟨f0,f1,f2,f3,f4,f5⟩:=hf it (by simp);have hl:=rv.length;exact wpAny_pyNext_list_end (I.ok.hd hc) st p.isList (by simp;omega) λh' eb=>⟨rfl,I.turned (t':=s.toks) (λb o hb e=>eb b o hb e) f0 f1 f3 f4 f5⟩
 self:=λ_ _ _ _ _ st h=>wpAny_pyIter_listiter st h
theorem jol {P:Bg} {w:Bw} {K:Ah} {tg:Expr} (a it:Addr):Turn P w K tg (Itt K a) [it] it (λi h=>h.IsTupleIter it a i) where
 mem:=by simp
 obj:=λi h st b hb=>by
  have e:b=it:=by simpa using hb
  subst e;obtain⟨o,e,c,d⟩:=st;exact⟨o,e,λv z=>by rw[d]at z;cases z⟩
 keep:=λi h h' st k=>st.at λo e=>k it (by simp) o e
 item:=by
  intro X hP hw hK hc i pins s σ H E I hf st hg;subst hP hw hK;obtain⟨xs,x,hq,hx⟩:=hg;obtain⟨its,rv,p,hz⟩:=I.tuple hq;obtain⟨u,hu,ru⟩:=rv.get hx;obtain⟨f0,f1,f2,f3,f4,f5⟩:=hf it (by simp);refine wpAny_pyNext_tuple_item st (show s.heap.IsTuple a its.toArray from p) (x:=u) (by simpa using hu) λh' st' sb=>?_;have I1:Inv X pins σ H {s with heap:=h'}:=I.turned (t':=s.toks) (λb o hb e=>(sb.2 b hb).trans e) f0 f1 f3 f4 f5;obtain⟨o,e,c,d⟩:=id st';exact⟨u,rfl,jx9 (s:={ s with heap:=h'}) e c d (by decide) ⟨x,H,I1,ru,⟨rfl,λys hy=>by rw[I.tuple_inj hy hq];exact hx⟩,st',λb hb=>(hf b hb).1⟩⟩
 done:=by
  intro X hP hw hK hc i pins s σ H E I hf st hg;subst hP hw hK;obtain⟨xs,hq,hx⟩:=hg;obtain⟨its,rv,p,hz⟩:=I.tuple hq;obtain⟨f0,f1,f2,f3,f4,f5⟩:=hf it (by simp);have hl:=rv.length;exact wpAny_pyNext_tuple_end (I.ok.hd hc) st (show s.heap.IsTuple a its.toArray from p) (by simp;omega) λh' eb=>⟨rfl,I.turned (t':=s.toks) (λb o hb e=>eb b o hb e) f0 f1 f3 f4 f5⟩
 self:=λ_ _ _ _ _ st h=>wpAny_pyIter_tupleiter st h
theorem jom {P:Bg} {w:Bw} {K:Ah} {tg:Expr} (it:Addr) (lo:Int) (n:Nat):Turn P w K tg (Itr lo n) [it] it (λi h=>IsRangeIter h it (lo+(i:Nat)*1) ((n:Int) - (i:Nat)) 1) where
 mem:=by simp
 obj:=λi h st b hb=>by
  have e:b=it:=by simpa using hb
  subst e;exact⟨_,st,λv z=>by
   have z':Data.fields _=Data.cell v:=z;cases z'⟩
 keep:=λi h h' st k=>k it (by simp) _ st
 item:=by
  intro X hP hw hK hc i pins s σ H E I hf st hg;subst hP hw hK;obtain⟨f0,f1,f2,f3,f4,f5⟩:=hf it (by simp);have W:=Walks.range (prog:=X.prog) (w:=X.w) (I.ok.hd hc) it lo 1 n;refine W.item i s _ _ hg st λv h' tk hv st' kk=>?_;obtain⟨t,rfl⟩:=hv;have I1:Inv X pins σ H {s with heap:=h',toks:=tk}:=I.turned (λb o hb e=>kk b o (by simpa using hb) e) f0 f1 f3 f4 f5;refine⟨_,rfl,jx9 (s:={ s with heap:=h',toks:=tk}) (n:="range_iterator") st' rfl rfl (by decide) ⟨.int (lo+i),H,I1,⟨t,?_⟩,⟨rfl,rfl⟩,st',λb hb=>(hf b hb).1⟩⟩;rw[Int.mul_one]
 done:=by
  intro X hP hw hK hc i pins s σ H E I hf st hg;subst hP hw hK;obtain⟨f0,f1,f2,f3,f4,f5⟩:=hf it (by simp);exact wpAny_pyNext_range_end (I.ok.hd hc) st (by have:n<=i:=hg;omega) λh' eb=>⟨rfl,I.turned (t':=s.toks) (λb o hb e=>eb b o hb e) f0 f1 f3 f4 f5⟩
 self:=λ_ _ _ _ _ st h=>wpAny_pyIter_rangeiter st h
section
variable {X:Cx} {tg:Expr}
def jx6 (K:Ah) (tl:TE):TI:=λσ H R=>tl σ H λx H1=>∃a,x=.ref a/\(∃xs,SqL K H1 a xs)/\R (Itl K a) H1
def iTup (K:Ah) (tl:TE):TI:=λσ H R=>tl σ H λx H1=>∃a,x=.ref a/\(∃xs,SqT K H1 a xs)/\R (Itt K a) H1
theorem jxh {l:Expr} {tl:TE} (hl:PE X l tl):PI X tg l (jx6 X.K tl):=by
 intro pins s σ H R I h;refine thn (hl pins s σ H _ I h) λv s1 ⟨x,H1,I1,r1,q1⟩=>?_;obtain⟨a,e,⟨xs,hq⟩,q⟩:=q1;subst e;cases r1;obtain⟨its,rv,p,hz⟩:=I1.list hq;refine wpAny_pyIter_list p.isList ?_;refine⟨s1.heap.objs.size,[s1.heap.objs.size],_,_,H1,rfl,I1.kept (t':=s1.toks) λb o e=>Ag _ e,jpw a _,⟨_,A8 _ rfl,rfl,rfl⟩,λb hb=>?_,q⟩;have e:b=s1.heap.objs.size:=by simpa using hb
 subst e;exact I1.fpOk (Al _) (I1.hok.fresh (Al _))
theorem j0m {l:Expr} {tl:TE} (hl:PE X l tl):PI X tg l (iTup X.K tl):=by
 intro pins s σ H R I h;refine thn (hl pins s σ H _ I h) λv s1 ⟨x,H1,I1,r1,q1⟩=>?_;obtain⟨a,e,⟨xs,hq⟩,q⟩:=q1;subst e;cases r1;obtain⟨its,rv,p,hz⟩:=I1.tuple hq;refine Dn (show s1.heap.IsTuple a its.toArray from p) ?_;refine⟨s1.heap.objs.size,[s1.heap.objs.size],_,_,H1,rfl,I1.kept (t':=s1.toks) λb o e=>Ag _ e,jol a _,⟨_,A8 _ rfl,rfl,rfl⟩,λb hb=>?_,q⟩;have e:b=s1.heap.objs.size:=by simpa using hb
 subst e;exact I1.fpOk (Al _) (I1.hok.fresh (Al _))
theorem jtm {pins:List (Addr×Obj)} {σ:St} {H:Hp} {s:Am} {R:It->Hp->Prop} {E:Ai->Am->Prop} {lo hi:Int} {t u v:Tok} {tk:Nat} (I:Inv X pins σ H s) (h1:-(2 ^ 62)<=lo) (h2:lo < 2 ^ 62) (h3:-(2 ^ 62)<=hi) (h4:hi < 2 ^ 62)
  (q:R (Itr lo (hi - lo).toNat) H):A3 (Bc X.prog X.w) X.A (pyIter (.ref s.heap.objs.size)) (PIE X pins σ tg R) E {s with heap:=s.heap.push {cls:=.type "range",data:=.fields #[.int lo t,.int hi u,.int 1 v]},toks:=tk}:=by
 refine wpAny_pyIter_range (IsRange.new ..) (small_one h1 h2 h3 h4) ?_;have I1:Inv X pins σ H {s with heap:=s.heap.push {cls:=.type "range",data:=.fields #[.int lo t,.int hi u,.int 1 v]},toks:=tk}:=I.kept λb o e=>Ag _ e;refine⟨(s.heap.push {cls:=.type "range",data:=.fields #[.int lo t,.int hi u,.int 1 v]}).objs.size,[(s.heap.push {cls:=.type "range",data:=.fields #[.int lo t,.int hi u,.int 1 v]}).objs.size],_,_,H,rfl,
  I1.kept (t':=tk) λb o e=>Ag _ e,jom _ lo (hi - lo).toNat,?_,λb hb=>?_,q⟩
 ·have e1:lo+((0:Nat):Int)*1=lo:=by simp
  have e2:(((hi - lo).toNat:Nat):Int) - ((0:Nat):Int)=Builtin.Range.rangeSize lo hi 1:=by rw[rangeSize_one];split<;>omega
  show IsRangeIter _ _ (lo+((0:Nat):Int)*1) ((((hi - lo).toNat:Nat):Int) - ((0:Nat):Int)) 1;rw[e1,e2];exact A8 _ rfl
 ·have e:b=(s.heap.push {cls:=.type "range",data:=.fields #[.int lo t,.int hi u,.int 1 v]}).objs.size:=by simpa using hb
  subst e;exact I1.fpOk (Al _) (I1.hok.fresh (Al _))
def j11 (ta:TA):TI:=λσ H R=>ta σ H λvs H1=>∃j:Int,vs=[.int j]/\-(2 ^ 62)<=j/\j < 2 ^ 62/\R (Itr 0 j.toNat) H1
theorem jqz {a:Expr} {ta:TA} {p pos:Pos} (hg:Gl X "range") (hm:X.mg "range"=none) (ha:PA X [a] ta) (hs:Au [a] X.env=[(false,eval a X.env)]:=by rfl):PI X tg (.Call (.Name "range" p) [a] [] pos) (j11 ta):=by
 intro pins s σ H R I h;refine Call_ (je1 I hg hm boot_range (Co (thn (ha pos pins s σ H _ I h) λus s1 ⟨vs,H1,I1,r1,q1⟩=>?_) hs rfl));obtain⟨j,e,q1,q2,q⟩:=q1;subst e;cases r1 with
 |cons r rr =>
  cases rr;obtain⟨t,rfl⟩:=r;exact call_range_1 (jtm I1 (by omega) (by omega) q1 q2 (by simpa using q))
def tFor (wi:TI) (g:TG) (tb:TS):TS:=λD σ H=>wi σ H λJ H1=>∃W:Nat->Nat->St->Hp->Prop,(∃m,W 0 m σ H1)/\∀i m σ H,W i m σ H ->
 (J.stop i H/\D.nx σ H)\/(J.go i H/\∃N:St->Hp->Prop,(∀σ' H',N σ' H'->∃m',m' < m/\W (i+1) m' σ' H')/\∀x H',J.yld i H x H'->g x σ H' λσ2 H2=>tb {D with nx:=N,ct:=N,bk:=D.nx} σ2 H2)
def jh2 (fp:List Addr) (h:Heap):List (Addr×Obj):=fp.filterMap λb=>(h.get? b).map λo=>(b,o)
theorem jbs {fp:List Addr} {h:Heap} {b:Addr} {o:Obj} (hb:b∈fp) (e:h.get? b=some o):(b,o)∈jh2 fp h:=Fs.mpr ⟨b,hb,by rw[e];rfl⟩
theorem jrc {fp:List Addr} {h:Heap} {p:Addr×Obj} (hp:p∈jh2 fp h):p.1∈fp/\h.get? p.1=some p.2:=by
 obtain⟨b,hb,e⟩:=Fs.mp hp;cases q:h.get? b with
 |none=>rw[q]at e;cases e
 |some o =>
  rw[q]at e;have e':(b,o)=p:=A6 e;subst e';exact⟨hb,q⟩
theorem Inv.pinned {pins:List (Addr×Obj)} {σ:St} {H:Hp} {s:Am} {fp:List Addr} (I:Inv X pins σ H s) (hf:∀b∈fp,FpOk X pins H b) (ho:∀b∈fp,∃o,s.heap.get? b=some o/\∀v,o.data≠.cell v):Inv X (pins++jh2 fp s.heap) σ H s :=
 I.pins_of λp hp=>(Bd.mp hp).elim (λz=>I.pin p (Ba _ z)) λz=>by
  obtain⟨hb,e⟩:=jrc z;obtain⟨f0,f1,f2,_⟩:=hf p.1 hb;obtain⟨o,e',d⟩:=ho p.1 hb;rw[e]at e';cases e';exact⟨e,f0,f1,f2,d⟩
theorem Inv.unpinned {pins pl:List (Addr×Obj)} {σ:St} {H:Hp} {s:Am} (I:Inv X (pins++pl) σ H s):Inv X pins σ H s:=I.pins_of λp hp=>I.pin p (Ba _ (Do _ hp))
theorem j0k {iter:Expr} {body:List Stmt} {wi:TI} {g:TG} {tb:TS} {pos:Pos} (hp:PassesOwn (Bc X.prog X.w) X.A X.env X.xe) (hc:X.calm=true) (hi:PI X tg iter wi) (hg:PG X tg g) (hb:PSs X body tb)
  (hs:∀x,Dt iter X.env x=pure x:=by intro _;rfl):PS X (.For tg iter body [] pos) (tFor wi g tb):=by
 intro pins s σ H D I h;refine wpAny_For (thn (hi pins s σ H _ I h) λv s1 h1=>thn h1 λitv s2 h2=>?_) hs;obtain⟨it,fp,tn,J,H2,e,I2,T,st2,f2,W,⟨m0,w0⟩,turn⟩:=h2;subst e
 -- what stays true of the iterator's objects through the loop
 have stat:∀{H':Hp},(∀b∈fp,H' b=none)->∀b∈fp,FpOk X pins H' b:=λhn b hb=>⟨hn b hb,(f2 b hb).2⟩;refine codeAny_forLoop_any (λn s'=>∃i σ' H',Inv X pins σ' H' s'/\tn i s'.heap/\(∀b∈fp,H' b=none)/\W i n σ' H') ?_ m0 ⟨0,σ,H2,I2,st2,λb hb=>(f2 b hb).1,w0⟩
 rintro n s3 ⟨i,σ3,H3,I3,st3,fr3,w3⟩
 rcases turn i n σ3 H3 w3 with⟨stop,qn⟩ | ⟨go,N,hN,step⟩
 ·refine Fw hp (thn (T.done X rfl rfl rfl hc i pins s3 σ3 H3 X.xe I3 (stat fr3) st3 stop) λr s4 ⟨hr,I4⟩=>?_);subst hr;exact wpAny_execs_nil ⟨σ3,H3,I4,qn⟩
 ·refine Fw hp (thn (T.item X rfl rfl rfl hc i pins s3 σ3 H3 X.xe I3 (stat fr3) st3 go) λr s4 ⟨u,hr,h4⟩=>?_);subst hr;refine Fw hp (thn h4 λ_ s5 ⟨x,H5,I5,r5,y5,st5,fr5⟩=>?_);have I5':=I5.pinned (stat fr5) (T.obj _ _ st5);refine Fw hp (thn (hg _ s5 σ3 H5 x u _ I5' r5 (step x H5 y5)) λ_ s6 ⟨σ6,H6,I6,q6⟩=>?_);refine Fw hp (thn (hb _ s6 σ6 H6 _ I6 q6) λf s7 q7=>?_);have again:∀{σ7:St} {H7:Hp},Inv X (pins++jh2 fp s5.heap) σ7 H7 s7->N σ7 H7->∃m,m < n/\∃i σ' H',Inv X pins σ' H' s7/\tn i s7.heap/\(∀b∈fp,H' b=none)/\W i m σ' H':=λ{σ7 H7} I7 n7=>by
   obtain⟨m',hm,w7⟩:=hN σ7 H7 n7;refine⟨m',hm,i+1,σ7,H7,I7.unpinned,T.keep _ _ _ st5 λb hb o e=>(I7.pin (b,o) (Ba _ (Ba _ (jbs hb e)))).1,λb hb=>?_,w7⟩;obtain⟨o,e,d⟩:=T.obj _ _ st5 b hb;exact(I7.pin (b,o) (Ba _ (Ba _ (jbs hb e)))).2.1
  cases f with
  |next=>obtain⟨σ7,H7,I7,n7⟩:=q7;exact again I7 n7
  |cont=>obtain⟨σ7,H7,I7,n7⟩:=q7;exact again I7 n7
  |brk=>obtain⟨σ7,H7,I7,q7⟩:=q7;exact⟨σ7,H7,I7.unpinned,q7⟩
  |ret v=>obtain⟨x7,σ7,H7,I7,r7,q7⟩:=q7;exact⟨x7,σ7,H7,I7.unpinned,r7,q7⟩
end
abbrev R2:=V->V->Hp->VK->Prop
def OpR (X:Cx) (f:Ai->Ai->Sem Ai) (r:R2):Prop :=
 ∀(pins:List (Addr×Obj)) (s:Am) (σ:St) (H:Hp) (x y:V) (v u:Ai) (Q:VK),Inv X pins σ H s->RelV x v->RelV y u->r x y H Q ->
  A3 (Bc X.prog X.w) X.A (f v u) (EP X pins σ Q) X.xe s
def UnR (X:Cx) (f:Ai->Sem Ai) (r:V->Hp->VK->Prop):Prop :=
 ∀(pins:List (Addr×Obj)) (s:Am) (σ:St) (H:Hp) (x:V) (v:Ai) (Q:VK),Inv X pins σ H s->RelV x v->r x H Q ->
  A3 (Bc X.prog X.w) X.A (f v) (EP X pins σ Q) X.xe s
def CallR (X:Cx) (f:Ai) (r:List V->Hp->VK->Prop):Prop :=
 ∀(pins:List (Addr×Obj)) (s:Am) (σ:St) (H:Hp) (xs:List V) (us:List Ai) (Q:VK),Inv X pins σ H s->Vals xs us->r xs H Q ->
  A3 (Bc X.prog X.w) X.A (call f us) (EP X pins σ Q) X.xe s
def TruR (X:Cx) (r:V->Hp->(Bool->Hp->Prop)->Prop):Prop :=
 ∀(pins:List (Addr×Obj)) (s:Am) (σ:St) (H:Hp) (x:V) (v:Ai) (Q:Bool->Hp->Prop),Inv X pins σ H s->RelV x v->r x H Q ->
  A3 (Bc X.prog X.w) X.A (truthy v) (TP X pins σ Q) X.xe s
def tOp (r:R2) (ta tb:TE):TE:=λσ H Q=>ta σ H λx H1=>tb σ H1 λy H2=>r x y H2 Q
def tUn (r:V->Hp->VK->Prop) (ta:TE):TE:=λσ H Q=>ta σ H λx H1=>r x H1 Q
def rI (C:Int->Int->Prop) (g:Int->Int->V):R2:=λx y H Q=>∃i j,x=.int i/\y=.int j/\C i j/\Q (g i j) H
def rI0 (g:Int->Int->V):R2:=λx y H Q=>∃i j,x=.int i/\y=.int j/\Q (g i j) H
def rU (g:Int->V):V->Hp->VK->Prop:=λx H Q=>∃i,x=.int i/\Q (g i) H
section
variable {X:Cx} {a b c:Expr} {ta tb tc:TE} {pos:Pos}
theorem binT (ha:PE X a ta) (hb:PE X b tb) {pins:List (Addr×Obj)} {s:Am} {σ:St} {H:Hp} {R:V->V->Hp->Prop} (I:Inv X pins σ H s)
  (h:ta σ H λx H1=>tb σ H1 λy H2=>R x y H2) {Q:Ai->Am->Prop} {f:Ai->Ai->Sem Ai}
  (hf:∀v u s2 x y H2,Inv X pins σ H2 s2->RelV x v->RelV y u->R x y H2->A3 (Bc X.prog X.w) X.A (f v u) Q X.xe s2) :
  A3 (Bc X.prog X.w) X.A (eval a X.env) (λv s₁=>A3 (Bc X.prog X.w) X.A (eval b X.env) (λu s₂=>A3 (Bc X.prog X.w) X.A (f v u) Q X.xe s₂) X.xe s₁) X.xe s:=by
 refine thn (ha pins s σ H _ I h) λv s1 ⟨x,H1,I1,r1,q1⟩=>?_;refine thn (hb pins s1 σ H1 _ I1 q1) λu s2 ⟨y,H2,I2,r2,q2⟩=>?_;exact hf v u s2 x y H2 I2 r1 r2 q2
theorem jbq {op:Operator} {r:R2} (ho:OpR X (Du op) r) (ha:PE X a ta) (hb:PE X b tb):PE X (.BinOp a op b pos) (tOp r ta tb):=by
 intro pins s σ H Q I h;exact wpAny_BinOp (binT ha hb I h λv u s2 x y H2 I2 rx ry q=>ho pins s2 σ H2 x y v u Q I2 rx ry q)
theorem j3w {op:UnaryOp} {r:V->Hp->VK->Prop} (ho:UnR X (unaryOp op) r) (ha:PE X a ta):PE X (.UnaryOp op a pos) (tUn r ta):=by
 intro pins s σ H Q I h;exact UnaryOp_ (thn (ha pins s σ H _ I h) λv s1 ⟨x,H1,I1,r1,q1⟩=>ho pins s1 σ H1 x v Q I1 r1 q1)
theorem opI {f:Ai->Ai->Sem Ai} {C:Int->Int->Prop} {g:Int->Int->Int}
  (rule:∀(i j:Int) (t u:Tok) (s:Am) (Q:Ai->Am->Prop) (E:Ai->Am->Prop),C i j->Q (.int (g i j) s.toks) {s with toks:=s.toks+1}->A3 (Bc X.prog X.w) X.A (f (.int i t) (.int j u)) Q E s) :
  OpR X f (rI C λi j=>.int (g i j)):=by
 intro pins s σ H x y v u Q I rx ry h;obtain⟨i,j,rfl,rfl,hc,q⟩:=h;obtain⟨t,rfl⟩:=rx;obtain⟨t',rfl⟩:=ry;exact rule i j t t' s _ _ hc ⟨.int (g i j),H,I.tok _,⟨_,rfl⟩,q⟩
theorem opI0 {f:Ai->Ai->Sem Ai} {g:Int->Int->Int}
  (rule:∀(i j:Int) (t u:Tok) (s:Am) (Q:Ai->Am->Prop) (E:Ai->Am->Prop),Q (.int (g i j) s.toks) {s with toks:=s.toks+1}->A3 (Bc X.prog X.w) X.A (f (.int i t) (.int j u)) Q E s) :
  OpR X f (rI0 λi j=>.int (g i j)):=by
 intro pins s σ H x y v u Q I rx ry h;obtain⟨i,j,rfl,rfl,q⟩:=h;obtain⟨t,rfl⟩:=rx;obtain⟨t',rfl⟩:=ry;exact rule i j t t' s _ _ ⟨.int (g i j),H,I.tok _,⟨_,rfl⟩,q⟩
theorem opB0 {f:Ai->Ai->Sem Ai} {g:Int->Int->Bool}
  (rule:∀(i j:Int) (t u:Tok) (s:Am) (Q:Ai->Am->Prop) (E:Ai->Am->Prop),Q (.bool (g i j)) s->A3 (Bc X.prog X.w) X.A (f (.int i t) (.int j u)) Q E s) :
  OpR X f (rI0 λi j=>.bl (g i j)):=by
 intro pins s σ H x y v u Q I rx ry h;obtain⟨i,j,rfl,rfl,q⟩:=h;obtain⟨t,rfl⟩:=rx;obtain⟨t',rfl⟩:=ry;exact rule i j t t' s _ _ ⟨.bl (g i j),H,I,rfl,q⟩
def CDiv (i j:Int):Prop:=0 < j/\j < 1073741824
def CPow (i j:Int):Prop:=0<=j/\j<=1000000/\i.natAbs < 2 ^ 64
def CMul (i j:Int):Prop:=(-(2 ^ 64) < i/\i < 2 ^ 64)\/(-(2 ^ 64) < j/\j < 2 ^ 64)
theorem CMul.ok {i j:Int} (h:CMul i j):IntMulOk i j:=by
 rcases h with⟨h1,h2⟩ | ⟨h1,h2⟩
 ·exact .of_left (intBits_le_64 h1 h2)
 ·exact .of_right (intBits_le_64 h1 h2)
theorem op_add:OpR X (Du .Add) (rI0 λi j=>.int (i+j)):=opI0 λ_ _ _ _ _ _ _ q=>add_int q
theorem j0w:OpR X (Du .Sub) (rI0 λi j=>.int (i - j)):=opI0 λ_ _ _ _ _ _ _ q=>sub_int q
theorem jh3:OpR X (Du .Mult) (rI CMul λi j=>.int (i*j)):=opI λ_ _ _ _ _ _ _ hc q=>mul_int q hc.ok
theorem jra:OpR X (Du .FloorDiv) (rI CDiv λi j=>.int (i / j)):=opI λi j _ _ _ _ _ hc q=>by
 have h1:(0:Int) < j:=hc.1;have h2:j < 1073741824:=hc.2;exact floordiv_int (by omega) (by rw[Int.fdiv_eq_ediv_of_nonneg i (by omega)];exact q) (.inl (PyProof.noPylong_small (by omega)))
theorem jdx:OpR X (Du .Mod) (rI (λ_ j=>0 < j) λi j=>.int (i % j)):=opI λi j _ _ _ _ _ hc q=>by
 have h1:(0:Int) < j:=hc;exact mod_int' (by omega) (by rw[Int.fmod_eq_emod_of_nonneg i (by omega)];exact q)
theorem j0y:OpR X (Du .Pow) (rI CPow λi j=>.int (i ^ j.toNat)):=opI λ_ _ _ _ _ _ _ hc q=>pow_int_small hc.1 hc.2.1 hc.2.2 q
theorem unI {f:Ai->Sem Ai} {g:Int->Int}
  (rule:∀(i:Int) (t:Tok) (s:Am) (Q:Ai->Am->Prop) (E:Ai->Am->Prop),Q (.int (g i) s.toks) {s with toks:=s.toks+1}->A3 (Bc X.prog X.w) X.A (f (.int i t)) Q E s) :
  UnR X f (rU λi=>.int (g i)):=by
 intro pins s σ H x v Q I rx h;obtain⟨i,rfl,q⟩:=h;obtain⟨t,rfl⟩:=rx;exact rule i t s _ _ ⟨.int (g i),H,I.tok _,⟨_,rfl⟩,q⟩
theorem jy5:UnR X (unaryOp .USub) (rU λi=>.int (-i)):=unI λ_ _ _ _ _ q=>neg_int q
end
def scal:V->V->Bool
 |.non,.non=>true | .non,.int _=>true | .int _,.non=>true | .non,.bl _=>true | .bl _,.non=>true | .non,.str _=>true | .str _,.non=>true
 |.int _,.int _=>true | .bl _,.bl _=>true | .str _,.str _=>true | .byt _,.byt _=>true
 |.int _,.str _=>true | .str _,.int _=>true | .bl _,.str _=>true | .str _,.bl _=>true
 |_,_=>false
def rEq:R2:=λx y H Q=>scal x y=true/\Q (.bl (decide (x=y))) H
def rNe:R2:=λx y H Q=>scal x y=true/\Q (.bl (!decide (x=y))) H
theorem jsa {i j:Int}:decide (V.int i=V.int j)=(i==j):=by
 rw[Fm];simp
theorem jwf {i j:Bool}:decide (V.bl i=V.bl j)=(i==j):=by
 rw[Fm];simp
theorem jr9 {i j:Str}:decide (V.str i=V.str j)=(i==j):=by
 rw[Fm];simp
theorem jsb {i j:Array UInt8}:decide (V.byt i=V.byt j)=(i.toList==j.toList):=by
 rw[Fm];cases i;cases j;simp
section
variable {X:Cx} {a b c:Expr} {ta tb tc:TE} {pos:Pos}
theorem jax {pins:List (Addr×Obj)} {σ:St} {H:Hp} {s:Am} {Q:VK} {k k':Bool} (I:Inv X pins σ H s) (q:Q (.bl k) H) (e:k=k'):EP X pins σ Q (.bool k') s:=by
 subst e;exact⟨.bl k,H,I,rfl,q⟩
theorem op_eq:OpR X (Bz .Eq) rEq:=by
 intro pins s σ H x y v u Q I rx ry h;obtain⟨hs,q⟩:=h;cases x with
 |non =>
  cases rx;cases y with
  |non=>cases ry;exact PySem.EqNone.eq_none_none (jax I q (by simp))
  |bl j=>cases ry;exact PySem.EqNone.eq_none_bool (jax I q (by simp))
  |int j=>obtain⟨t',rfl⟩:=ry;exact PySem.EqNone.eq_none_int (jax I q (by simp))
  |str j=>obtain⟨t',rfl⟩:=ry;exact PySem.EqNone.eq_none_str (jax I q (by simp))
  |_=>exact absurd (show false=true from hs) Ae
 |bl i =>
  cases rx;cases y with
  |non=>cases ry;exact PySem.EqNone.eq_bool_none (jax I q (by simp))
  |bl j=>cases ry;exact eq_bool (jax I q jwf)
  |str j=>obtain⟨t',rfl⟩:=ry;exact PySem.EqMixed.eq_bool_str (jax I q (by simp))
  |_=>exact absurd (show false=true from hs) Ae
 |int i =>
  obtain⟨t,rfl⟩:=rx;cases y with
  |non=>cases ry;exact PySem.EqNone.eq_int_none (jax I q (by simp))
  |int j=>obtain⟨t',rfl⟩:=ry;exact eq_int (jax I q jsa)
  |str j=>obtain⟨t',rfl⟩:=ry;exact PySem.EqMixed.eq_int_str (jax I q (by simp))
  |_=>exact absurd (show false=true from hs) Ae
 |str i =>
  obtain⟨t,rfl⟩:=rx;cases y with
  |non=>cases ry;exact PySem.EqNone.eq_str_none (jax I q (by simp))
  |bl j=>cases ry;exact PySem.EqMixed.eq_str_bool (jax I q (by simp))
  |int j=>obtain⟨t',rfl⟩:=ry;exact PySem.EqMixed.eq_str_int (jax I q (by simp))
  |str j=>obtain⟨t',rfl⟩:=ry;exact eq_str (jax I q jr9)
  |_=>exact absurd (show false=true from hs) Ae
 |byt i =>
  obtain⟨t,rfl⟩:=rx;cases y with
  |byt j=>obtain⟨t',rfl⟩:=ry;exact PySem.W.eq_bytes (jax I q jsb)
  |_=>exact absurd (show false=true from hs) Ae
 |_=>cases y<;>exact absurd (show false=true from hs) Ae
theorem j31:OpR X (Bz .NotEq) rNe:=by
 intro pins s σ H x y v u Q I rx ry h;obtain⟨hs,q⟩:=h;cases x with
 |non =>
  cases rx;cases y with
  |non=>cases ry;exact PySem.EqNone.ne_none_none (jax I q (by simp))
  |bl j=>cases ry;exact PySem.EqNone.ne_none_bool (jax I q (by simp))
  |int j=>obtain⟨t',rfl⟩:=ry;exact PySem.EqNone.ne_none_int (jax I q (by simp))
  |str j=>obtain⟨t',rfl⟩:=ry;exact PySem.EqNone.ne_none_str (jax I q (by simp))
  |_=>exact absurd (show false=true from hs) Ae
 |bl i =>
  cases rx;cases y with
  |non=>cases ry;exact PySem.EqNone.ne_bool_none (jax I q (by simp))
  |bl j=>cases ry;exact ne_bool (jax I q (congrArg not jwf))
  |str j=>obtain⟨t',rfl⟩:=ry;exact PySem.EqMixed.ne_bool_str (jax I q (by simp))
  |_=>exact absurd (show false=true from hs) Ae
 |int i =>
  obtain⟨t,rfl⟩:=rx;cases y with
  |non=>cases ry;exact PySem.EqNone.ne_int_none (jax I q (by simp))
  |int j=>obtain⟨t',rfl⟩:=ry;exact ne_int (jax I q (congrArg not jsa))
  |str j=>obtain⟨t',rfl⟩:=ry;exact PySem.EqMixed.ne_int_str (jax I q (by simp))
  |_=>exact absurd (show false=true from hs) Ae
 |str i =>
  obtain⟨t,rfl⟩:=rx;cases y with
  |non=>cases ry;exact PySem.EqNone.ne_str_none (jax I q (by simp))
  |bl j=>cases ry;exact PySem.EqMixed.ne_str_bool (jax I q (by simp))
  |int j=>obtain⟨t',rfl⟩:=ry;exact PySem.EqMixed.ne_str_int (jax I q (by simp))
  |str j=>obtain⟨t',rfl⟩:=ry;exact ne_str (jax I q (congrArg not jr9))
  |_=>exact absurd (show false=true from hs) Ae
 |byt i =>
  obtain⟨t,rfl⟩:=rx;cases y with
  |byt j=>obtain⟨t',rfl⟩:=ry;exact PySem.W.ne_bytes (jax I q (congrArg not jsb))
  |_=>exact absurd (show false=true from hs) Ae
 |_=>cases y<;>exact absurd (show false=true from hs) Ae
theorem op_lt:OpR X (Bz .Lt) (rI0 λi j=>.bl (decide (i < j))):=opB0 λ_ _ _ _ _ _ _ q=>lt_int q
theorem op_gt:OpR X (Bz .Gt) (rI0 λi j=>.bl (decide (j < i))):=opB0 λ_ _ _ _ _ _ _ q=>gt_int q
theorem op_ge:OpR X (Bz .GtE) (rI0 λi j=>.bl (decide (j<=i))):=opB0 λ_ _ _ _ _ _ _ q=>ge_int q
theorem jq6:OpR X (Bz .Lt) (λx y H Q=>∃i j,x=.str i/\y=.str j/\Q (.bl (decide (i.cps.toList < j.cps.toList))) H):=by
 intro pins s σ H x y v u Q I rx ry h;obtain⟨i,j,rfl,rfl,q⟩:=h;obtain⟨t,rfl⟩:=rx;obtain⟨t',rfl⟩:=ry;exact lt_str (jax I q rfl)
theorem jvz:OpR X (Bz .Is) (λx y H Q=>y=.non/\Q (.bl (decide (x=.non))) H):=by
 intro pins s σ H x y v u Q I rx ry h;obtain⟨rfl,q⟩:=h;cases ry;refine is_none_gen (jax I q ?_);cases x<;>first
  | (cases rx;rfl)
  | (obtain⟨t,rfl⟩:=rx;rfl)
theorem jq5:OpR X (Bz .IsNot) (λx y H Q=>y=.non/\Q (.bl (!decide (x=.non))) H):=by
 intro pins s σ H x y v u Q I rx ry h;obtain⟨rfl,q⟩:=h;cases ry;refine isnot_none_gen (jax I q ?_);cases x<;>first
  | (cases rx;rfl)
  | (obtain⟨t,rfl⟩:=rx;rfl)
theorem OpR.or {f:Ai->Ai->Sem Ai} {r r':R2} (h:OpR X f r) (h':OpR X f r'):OpR X f (λx y H Q=>r x y H Q\/r' x y H Q):=by
 intro pins s σ H x y v u Q I rx ry q;rcases q with q | q
 ·exact h pins s σ H x y v u Q I rx ry q
 ·exact h' pins s σ H x y v u Q I rx ry q
theorem jke (b:Expr) {op:CmpOp} (h:op≠.In:=by decide) (h2:op≠.NotIn:=by decide):Cz op b=false:=by
 have e1:(op==CmpOp.In)=false:=by cases op<;>first | rfl | exact absurd rfl h
 have e2:(op==CmpOp.NotIn)=false:=by cases op<;>first | rfl | exact absurd rfl h2
 cases b<;>simp[Cz,e1,e2]
theorem jxm {op:CmpOp} {r:R2} (ho:OpR X (Bz op) r) (ha:PE X a ta) (hb:PE X b tb) (hm:Cz op b=false):PE X (.Compare a [op] [b] pos) (tOp r ta tb):=by
 intro pins s σ H Q I h;exact wpAny_Compare1 (binT ha hb I h λv u s2 x y H2 I2 rx ry q=>ho pins s2 σ H2 x y v u Q I2 rx ry q) hm
def jp0 (t:TE):TT:=λσ H Q=>t σ H λx H'=>∃k,x=.bl k/\Q k H'
theorem jef {op:CmpOp} {r:R2} (ho:OpR X (Bz op) r) (ha:PE X a ta) (hb:PE X b tb) (hm:Cz op b=false):PT X (.Compare a [op] [b] pos) (jp0 (tOp r ta tb)):=by
 intro pins s σ H Q I h;refine wpAny_isTrue_Compare1 (thn (ha pins s σ H _ I h) λv s1 ⟨x,H1,I1,r1,q1⟩=>thn (hb pins s1 σ H1 _ I1 q1) λu s2 ⟨y,H2,I2,r2,q2⟩ =>
  thn (ho pins s2 σ H2 x y v u _ I2 r1 r2 q2) λc s3 ⟨z,H3,I3,r3,k,e,q3⟩=>?_) hm
 subst e;cases r3;exact Eh ⟨H3,I3,q3⟩
def TruV (K:Ah) (x:V) (H:Hp) (k:Bool):Prop :=
 match x with
 |.non=>k=false
 |.bl b=>k=b
 |.int i=>k=(i != 0)
 |.str y=>y.length<=Ap/\k=((y.length:Int) != 0)
 |.byt y=>y.size<=Ap/\k=((y.size:Int) != 0)
 |.ref p=>(∃xs,SqL K H p xs/\k=!xs.isEmpty)\/(∃xs,SqT K H p xs/\k=!xs.isEmpty)\/∃kvs,H p=some (.dK kvs)/\k=!kvs.isEmpty
 |_=>False
theorem jo3 {κ:Type} {kvs:List (κ×V)} {vs:List (κ×Ai)} (r:KV kvs vs):(!vs.isEmpty)=!kvs.isEmpty:=by
 cases r<;>rfl
theorem jh6 {xs:List V} {its:List Ai} (r:Vals xs its):(!its.toArray.isEmpty)=!xs.isEmpty:=by
 cases r<;>simp
theorem jf8:(Ap:Nat) < 2 ^ 63:=by rw[Et];decide
theorem jve:TruR X (λx H Q=>∃k,TruV X.K x H k/\Q k H):=by
 intro pins s σ H x v Q I rx h;obtain⟨k,e,q⟩:=h;have hl:=jf8;have hs:Ap=16777216:=Et;cases x with
 |non =>
  cases rx;have e':k=false:=e;subst e';exact truthy_none ⟨H,I,q⟩
 |bl b =>
  cases rx;have e':k=b:=e;subst e';exact Eh ⟨H,I,q⟩
 |int i =>
  obtain⟨t,rfl⟩:=rx;have e':k=(i != 0):=e;subst e';exact PySem.P.truthy_int ⟨H,I,q⟩
 |str y =>
  obtain⟨t,rfl⟩:=rx;obtain⟨hy,e'⟩:y.length<=Ap/\k=((y.length:Int) != 0):=e;subst e';exact PySem.P.truthy_str (by omega) ⟨H,I.tok _,q⟩
 |byt y =>
  obtain⟨t,rfl⟩:=rx;obtain⟨hy,e'⟩:y.size<=Ap/\k=((y.size:Int) != 0):=e;subst e';exact PySem.W.truthy_bytes (by omega) ⟨H,I.tok _,q⟩
 |ref p =>
  cases rx;have e':(∃xs,SqL X.K H p xs/\k=!xs.isEmpty)\/(∃xs,SqT X.K H p xs/\k=!xs.isEmpty)\/∃kvs,H p=some (.dK kvs)/\k=!kvs.isEmpty:=e;rcases e' with⟨xs,hx,e'⟩ | ⟨xs,hx,e'⟩ | ⟨kvs,hx,e'⟩
  ·subst e';obtain⟨its,r,pl,hz⟩:=I.list hx;have hlen:=r.length;exact wpAny_truthy_list pl.isList (by simp only[A2];omega) ⟨H,I.tok _,by rw[jh6 r];exact q⟩
  ·subst e';obtain⟨its,r,pl,hz⟩:=I.tuple hx;have hlen:=r.length;exact truthy_tuple pl (by simp only[A2];omega) ⟨H,I.tok _,by rw[jh6 r];exact q⟩
  ·subst e';obtain⟨hz,hS,vs,r,m⟩:kvs.length<=Ap/\(p==Es)=false/\∃vs,KV kvs vs/\s.heap.DictOf (ja6 X.prog X.w) p vs:=I.hok p _ hx;have hlen:kvs.length=vs.length:=Paired.length r;exact wpAny_truthy_dict hS m (by omega) ⟨H,I.tok _,by rw[jo3 r];exact q⟩
 |_=>exact(show False from e).elim
theorem op_add_str:OpR X (Du .Add) (λx y H Q=>∃i j,x=.str i/\y=.str j/\i.length+j.length<=Ap/\Q (.str (i++j)) H):=by
 intro pins s σ H x y v u Q I rx ry h;obtain⟨i,j,rfl,rfl,hz,q⟩:=h;obtain⟨t,rfl⟩:=rx;obtain⟨t',rfl⟩:=ry;exact add_str (λt' tk=>⟨.str (i++j),H,I.tok _,⟨_,rfl⟩,q⟩) hz
theorem jio {x:V} {us:List Ai} (r:Vals [x] us):∃u,us=[u]/\RelV x u:=by
 cases r with
 |cons r1 r2=>cases r2;exact⟨_,rfl,r1⟩
theorem jy4 {x y:V} {us:List Ai} (r:Vals [x,y] us):∃u w',us=[u,w']/\RelV x u/\RelV y w':=by
 cases r with
 |cons r1 r2 =>
  cases r2 with
  |cons r3 r4=>cases r4;exact⟨_,_,rfl,r1,r3⟩
end
structure ObjM (h:Heap) (x dx C:Addr) (mA:Str->Option Ai):Prop where
 obj:h.get? x=some (PySem.W.instObj C dx)
 ns:h.Ns1 dx mA
 ne:dx≠x
theorem jrg {h:Heap} {dx:Addr} {mA:Str->Option Ai} (n:h.Ns1 dx mA):∃od,h.get? dx=some od/\∀name,PySem.W.lookIn name od=some (mA name):=by
 obtain⟨o,es,ep,ho,hd,hk,_,hm⟩:=n;refine⟨o,ho,λname=>?_⟩;have e:=hm name;unfold nsFind findBy at e;rw[<-Array.find?_toList]at e;unfold PySem.W.lookIn;rw[hd];dsimp only
 split
 ·rename_i y q;rw[q]at e;exact congrArg some e
 ·rename_i q;rw[q]at e;have a:es.toList.any (·.refKey)=false:=by
   rw[List.any_eq_false];intro y hy;obtain⟨z,t,hkey⟩:=hk y (Array.mem_toList_iff.mp hy);simp[DictEntry.refKey,hkey]
  have a':¬es.toList.any (·.refKey)=true:=by rw[a];exact Ae
  rw[if_neg a'];exact congrArg some e
theorem ObjM.look {h:Heap} {x dx C:Addr} {mA:Str->Option Ai} (I:ObjM h x dx C mA):∃od,PySem.W.InstAt h x (PySem.W.instObj C dx) C (some od)/\∀name,PySem.W.lookIn name od=some (mA name) :=
 let⟨od,ho,hl⟩:=jrg I.ns
 ⟨od,⟨I.obj,rfl,rfl,ho⟩,hl⟩
theorem RelO.some_of {v:V} {o:Option Ai} (r:RelO (some v) o):∃u,o=some u/\RelV v u:=by
 cases o with
 |none=>exact(show False from r).elim
 |some u=>exact⟨u,rfl,r⟩
section
variable {P:Bg} {w:Bw} {H H':Hp} {h h':Heap} {a C dx:Addr} {fs fs':List (Str×V)}
theorem jx2 (hok:HOk P w H h) (e:H a=some (.ins C dx fs)):∃mA,ObjM h a dx C mA/\(∀f,RelO (fs.lookup f) (mA f))/\PySem.Within mA (fs.map (·.1))/\fs.length<=1000/\H dx=some (.own a):=by
 obtain⟨d,z,ne,ob,mA,n,r,q⟩:=(show ObjOk P w H h a (.ins C dx fs)from hok a _ e);exact⟨mA,⟨ob,n,ne⟩,r,q,z,d⟩
end
structure Cls (K:Ah) (C:Addr):Prop where
 pg:PySem.W.plainGet K C Str.empty=true
 hd:PySem.W.hasDictIn K C=true
 po:PySem.W.plainOver K C=true
 sa:PySem.W.findIn K (.ref C) "__setattr__"=some (some (.builtin "object.__setattr__"))
theorem Cls.get {K:Ah} {C:Addr} (c:Cls K C) (f:Str):PySem.W.plainGet K C f=true:=c.pg
section
variable {X:Cx} {pins:List (Addr×Obj)} {σ:St} {H:Hp} {s:Am} {A:Cb} {E:Ai->Am->Prop} {Q:Ai->Am->Prop} {c:Ai} {b:Bool}
inductive TyOf (K:Ah) (H:Hp):V->Ai->Prop where
 |non:TyOf K H .non (.type "NoneType")
 |bl (x:Bool):TyOf K H (.bl x) (.type "bool")
 |int (i:Int):TyOf K H (.int i) (.type "int")
 |str (x:Str):TyOf K H (.str x) (.type "str")
 |flt (x:UInt64):TyOf K H (.flt x) (.type "float")
 |lst {a:Addr} {xs:List V} (e:H a=some (.lst xs)):TyOf K H (.ref a) (.type "list")
 |frz {a:Addr} {o:Obj} {xs:List V} (e:H a=some (.frz o (.lst xs))):TyOf K H (.ref a) (.type "list")
 |tup {a:Addr} {xs:List V} (e:H a=some (.tup xs)):TyOf K H (.ref a) (.type "tuple")
 |dK {a:Addr} {kvs:List (Key×V)} (e:H a=some (.dK kvs)):TyOf K H (.ref a) (.type "dict")
 |dT {a:Addr} {kvs:List (List Key×V)} (e:H a=some (.dT kvs)):TyOf K H (.ref a) (.type "dict")
 |ins {a C dx:Addr} {fs:List (Str×V)} (e:H a=some (.ins C dx fs)) (cl:Cls K C) (ha:PySem.W.findIn K (.ref C) "__class__"=some (some (.builtin "object.__class__")))
   (hn:PySem.W.specialIn K (.builtin "object.__class__") "__get__"=some (some (.builtin "getset_descriptor.__get__"))) (htk:PySem.W.takesIn K (.builtin "object.__class__")=some true)
   (hm:PySem.W.mroIn K C (.type "object")=some true):TyOf K H (.ref a) (.ref C)
theorem jru {x:V} {u t:Ai} (I:Inv X pins σ H s) (rx:RelV x u) (ty:TyOf X.K H x t) (e:PySem.W.kitOne X.K t c=some b) (h:∀tk,Q (.bool b) {s with toks:=tk}) :
  A3 (Bc X.prog X.w) A (call (.builtin "isinstance") [u,c]) Q E s:=by
 cases ty with
 |non=>cases(show u=B3 from rx);exact Cn PySem.W.kitx_none I.kIn Ef e (λz=>nomatch z) h
 |bl y=>cases(show u=Value.bool y from rx);exact Cn PySem.W.kitx_bool I.kIn Ef e (λz=>nomatch z) h
 |int i=>obtain⟨t,q⟩:=(show ∃t,u=Value.int i t from rx);cases q;exact Cn PySem.W.kitx_int I.kIn Ef e (λz=>nomatch z) h
 |str y=>obtain⟨t,q⟩:=(show ∃t,u=Value.str y t from rx);cases q;exact Cn PySem.W.kitx_str I.kIn Ef e (λz=>nomatch z) h
 |flt y=>obtain⟨t,q⟩:=(show ∃t,u=Value.float y t from rx);cases q;exact Cn PySem.W.kitx_float I.kIn Ef e (λz=>nomatch z) h
 |@lst a xs ea =>
  cases(show u=A5 a from rx);obtain⟨_,_,n,_,h1⟩:=(show ObjOk X.prog X.w H s.heap a (.lst xs)from I.hok a _ ea);exact Cn PySem.W.kitx_list I.kIn ⟨_,h1,rfl⟩ e (λz=>nomatch z) h
 |@frz a ob xs ea =>
  cases(show u=A5 a from rx);obtain⟨_,_,_,n,_,h1⟩:=(show ObjOk X.prog X.w H s.heap a (.frz ob (.lst xs))from I.hok a _ ea);exact Cn PySem.W.kitx_list I.kIn ⟨_,h1,rfl⟩ e (λz=>nomatch z) h
 |@tup a xs ea =>
  cases(show u=A5 a from rx);obtain⟨_,_,_,p⟩:=(show ObjOk X.prog X.w H s.heap a (.tup xs)from I.hok a _ ea);obtain⟨o,h1,h2,_⟩:=p;exact Cn PySem.W.kitx_tuple I.kIn ⟨o,h1,h2⟩ e (λz=>nomatch z) h
 |@dK a kvs ea =>
  cases(show u=A5 a from rx);obtain⟨_,_,vs,_,p⟩:=(show ObjOk X.prog X.w H s.heap a (.dK kvs)from I.hok a _ ea);obtain⟨o,es,ep,h1,h2,_⟩:=p;exact Cn PySem.W.kitx_dict I.kIn ⟨o,h1,h2.1⟩ e (λz=>nomatch z) h
 |@dT a kvs ea =>
  cases(show u=A5 a from rx);obtain⟨_,_,xs,_,o,es,ep,h1,h2,_⟩:=(show ObjOk X.prog X.w H s.heap a (.dT kvs)from I.hok a _ ea);exact Cn PySem.W.kitx_dict I.kIn ⟨o,h1,h2.1⟩ e (λz=>nomatch z) h
 |@ins a C dx fs ea cl ha hn htk hm =>
  cases(show u=A5 a from rx);obtain⟨mA,O,_⟩:=jx2 I.hok ea;obtain⟨od,J,_⟩:=O.look;exact Cn (PySem.W.kitx_own (cl.get _) cl.hd ha hn htk hm) I.kIn J e (λz=>nomatch z) h
end
structure Room (k:Nat) (A:Cb):Prop where
 hd:A.handled=none
 dp:A.depth+3*k+5 < recursionLimit
 un:A.units+16*k+200 < cLine
 gd:A.guards=some []
theorem Room.mono {j k:Nat} {A:Cb} (r:Room k A) (h:j<=k):Room j A:=⟨r.hd,by have:=r.dp;omega,by have:=r.un;omega,r.gd⟩
theorem Room.deeper {k:Nat} {A:Cb} (r:Room (k+1) A) (env:Env):Room k (A.deeper env) :=
 ⟨r.hd,by have:=r.dp;show A.depth+1+3*k+5 < _;omega,by have:=r.un;show A.units+3+16*k+200 < _;omega,r.gd⟩
theorem Room.depth {k:Nat} {A:Cb} (r:Room k A):A.depth < recursionLimit:=by have:=r.dp;omega
theorem Room.units {k:Nat} {A:Cb} (r:Room k A):A.units+64 < cLine:=by have:=r.un;omega
theorem Room.units0 {k:Nat} {A:Cb} (r:Room k A):A.units < cLine:=by have:=r.un;omega
def tNil:TA:=λ_ H Q=>Q [] H
def jbu (ta:TE) (tr:TA):TA:=λσ H Q=>ta σ H λx H1=>tr σ H1 λxs H2=>Q (x::xs) H2
section
variable {X:Cx} {e:Expr} {es:List Expr} {te:TE} {t:TA} {pos:Pos}
theorem jbc:PA X [] tNil:=λ_ _ _ _ H Q I h=>Calls.spliced_nil ⟨[],H,I,.nil,h⟩
theorem jaq (ha:PE X e te) (hr:PA X es t) (hs:Au (e::es) X.env=(false,eval e X.env)::Au es X.env:=by rfl):PA X (e::es) (jbu te t):=by
 intro pos pins s σ H Q I h;rw[hs];show A3 _ _ (spliced ((false,eval e X.env)::C8 pos (Au es X.env))) _ _ s;refine Calls.spliced_cons (thn (ha pins s σ H _ I h) λu s1 ⟨x,H1,I1,r1,q1⟩=>?_);exact thn (hr pos pins s1 σ H1 _ I1 q1) λus s2 ⟨xs,H2,I2,r2,q2⟩=>⟨x::xs,H2,I2,.cons r1 r2,q2⟩
def tTup (t:TA):TE:=λσ H Q=>t σ H λxs H1=>xs.length<=Ap/\∀p,H1 p=none->Q (.ref p) (upd H1 p (.tup xs))
def tLst (t:TA):TE:=λσ H Q=>t σ H λxs H1=>xs.length<=Ap/\∀p,H1 p=none->Q (.ref p) (upd H1 p (.lst xs))
theorem jvy {x1} (h:PA X es t):PE X (.Tuple es x1 pos) (tTup t):=by
 intro pins s σ H Q I hq;refine wpAny_Tuple_spliced (thn (h pos pins s σ H _ I hq) λus s1 ⟨xs,H1,I1,r,z,q⟩=>⟨by rw[<-r.length];exact z,?_⟩);have hf:H1 s1.heap.objs.size=none:=I1.hok.fresh (Al _);refine⟨.ref s1.heap.objs.size,upd H1 s1.heap.objs.size (.tup xs),I1.laid (t':=s1.toks) (λb u e=>Ag _ e) (Al _) ?_,rfl,q _ hf⟩;exact⟨z,us,r,IsTupP.new _ _⟩
theorem jq0 (h:PA X es t):PE X (.List es pos) (tLst t):=by
 intro pins s σ H Q I hq;refine wpAny_List_spliced (thn (h pos pins s σ H _ I hq) λus s1 ⟨xs,H1,I1,r,z,q⟩=>⟨by rw[<-r.length];exact z,?_⟩);have hf:H1 s1.heap.objs.size=none:=I1.hok.fresh (Al _);refine⟨.ref s1.heap.objs.size,upd H1 s1.heap.objs.size (.lst xs),I1.laid (t':=s1.toks) (λb u e=>Ag _ e) (Al _) ?_,rfl,q _ hf⟩;exact⟨z,us,0,r,A8 _ rfl⟩
end
abbrev Sp:=List V->Hp->VK->XK->Prop
abbrev CXT:=List Env->Hp->Am->XK->Ai->Am->Prop
structure Env0 (P:Bg) (w:Bw) (K:Ah) (mg:Str->Option Ai) (base:Heap) (A:Cb) (outer:List Env) (s:Am) (H:Hp):Prop where
 frames:A.frames=some outer
 mod:Mod K mg base
 bs:∀b o,base.get? b=some o->s.heap.get? b=some o/\H b=none
 bsz:base.objs.size<=s.heap.objs.size
 funs:s.heap.FunFrames base outer
 frf:∀b∈frs outer,H b=none
 hok:HOk P w H s.heap
 bare:AllBare s.gens
def CE (outer:List Env) (P:Bg) (w:Bw) (H:Hp) (s:Am) (Q:VK) (u:Ai) (s':Am):Prop :=
 ∃v H',s'.os=s.os/\AllBare s'.gens/\Un (frs outer) [] H H' s.heap s'.heap/\HOk P w H' s'.heap/\RelV v u/\Q v H'
def CR (CX:CXT) (outer:List Env) (P:Bg) (w:Bw) (H:Hp) (s:Am) (Q:VK) (E:XK) (r:Result) (s':Am):Prop :=
 match r with
 |.ok (.ret u)=>CE outer P w H s Q u s'
 |.ok _=>False
 |.error e=>CX outer H s E e s'
structure FnOk (P:Bg) (w:Bw) (K:Ah) (mg:Str->Option Ai) (base:Heap) (CX:CXT) (k:Nat) (f:Addr) (fd:Ce) (ps:List Str) (sp:Sp):Prop where
 len:∀vs H Q E,sp vs H Q E->vs.length=ps.length
 run:∀(A:Cb) (outer:List Env) (s:Am) (H:Hp) (args:Args) (us:List Ai) (vs:List V) (Q:VK) (E:XK),Room k A->Env0 P w K mg base A outer s H->BindsTo s fd args (ps.zip us)->Vals vs us->sp vs H Q E ->
  codeAny (Bc P w) A (.call (.ref f) args) (CR CX outer P w H s Q E) s
theorem FnOk.imp {P:Bg} {w:Bw} {K:Ah} {mg:Str->Option Ai} {base:Heap} {CX:CXT} {k:Nat} {f:Addr} {fd:Ce} {ps:List Str} {sp sp':Sp} (F:FnOk P w K mg base CX k f fd ps sp)
  (h:∀vs H Q E,sp' vs H Q E->sp vs H Q E):FnOk P w K mg base CX k f fd ps sp' :=
 ⟨λvs H Q E q=>F.len vs H Q E (h _ _ _ _ q),λA outer s H args us vs Q E hr he hb hv hs=>F.run A outer s H args us vs Q E hr he hb hv (h _ _ _ _ hs)⟩
section
variable {X:Cx} {pins:List (Addr×Obj)} {σ:St} {H:Hp} {s s':Am}
theorem Inv.env0 (I:Inv X pins σ H s):Env0 X.prog X.w X.K X.mg X.base X.A X.stack s H :=
 ⟨I.ok.frames,I.ok.mod,I.bs,A4 I.ok.bsz I.sz,I.stack,I.stkFree,I.hok,I.bare⟩
theorem Inv.after {Q:VK} {u:Ai} (I:Inv X pins σ H s) (h:CE X.stack X.prog X.w H s Q u s'):EP X pins σ Q u s':=by
 obtain⟨v,H',os,bare,un,hok,r,q⟩:=h;obtain⟨hh,g,d,t,os'⟩:=s';obtain rfl:os'=s.os:=os;exact⟨v,H',I.call (h':=hh) (g':=g) (d':=d) (t':=t) (ch:=[]) un hok bare (λb z=>absurd z (by simp)),r,q⟩
end
def jhe (sp:Sp) (dvs:List V) (E:XK) (t:TA):TE:=λσ H Q=>t σ H λvs H1=>sp (vs++dvs) H1 Q E
def Binds (K:Ah) (fd:Ce) (ps:List Str) (ds:List Ai):Prop :=
 ∀(s:Am) (us:List Ai),K.In s.heap->(us++ds).length=ps.length->BindsTo s fd ⟨us,[]⟩ (ps.zip (us++ds))
theorem Binds.all {K:Ah} {fd:Ce} {ps:List Str} (h:∀us:List Ai,us.length=ps.length->bindArgs fd ⟨us,[]⟩=pure (ps.zip us)):Binds K fd ps []:=λs us _ hl=>by
 rw[Bo]at hl ⊢;exact .of_eq (h us hl)
def js0 (CX:CXT) (X:Cx) (E:XK):Prop:=∀(pins:List (Addr×Obj)) (σ:St) (H:Hp) (s:Am) (e:Ai) (s':Am),Inv X pins σ H s->CX X.stack H s E e s'->X.xe e s'
section
variable {X:Cx} {CX:CXT} {k:Nat} {f C:Addr} {fd:Ce} {ps:List Str} {sp:Sp} {dvs:List V} {ds:List Ai} {E:XK} {x m:Str} {p pos apos:Pos} {e o:Expr} {es:List Expr} {ta:TE} {t:TA}
theorem jz8 {pins:List (Addr×Obj)} {σ:St} {H:Hp} {s:Am} {Q:VK} {us:List Ai} {vs:List V} (F:FnOk X.prog X.w X.K X.mg X.base CX k f fd ps sp) (hr:Room k X.A) (hb:Binds X.K fd ps ds) (hd:Vals dvs ds) (hx:js0 CX X E)
  (I:Inv X pins σ H s) (r:Vals vs us) (h:sp (vs++dvs) H Q E):A3 (Bc X.prog X.w) X.A (call (.ref f) us) (EP X pins σ Q) X.xe s:=by
 have r2:Vals (vs++dvs) (us++ds):=r.append hd;have hl:(us++ds).length=ps.length:=by rw[<-r2.length];exact F.len _ _ _ _ h
 refine wpAny_call (codeAny_mono (F.run X.A X.stack s H ⟨us,[]⟩ (us++ds) (vs++dvs) Q E hr I.env0 (hb s us I.kIn hl) r2 h) λr s' hq=>?_);cases r with
 |error e=>exact hx pins σ H s e s' I hq
 |ok fl =>
  cases fl with
  |ret u=>exact I.after hq
  |next=>exact False.elim hq
  |brk=>exact False.elim hq
  |cont=>exact False.elim hq
theorem jl5 (F:FnOk X.prog X.w X.K X.mg X.base CX k f fd ps sp) (hr:Room k X.A) (hg:Gl X x) (hm:X.mg x=some (.ref f)) (hk:Cf X.K (.ref f)=true) (hb:Binds X.K fd ps ds) (hd:Vals dvs ds) (hx:js0 CX X E)
  (ha:PA X (e::es) t) (hdb:(x==("__debug__":Str))=false:=by decide) (he:Au (e::es) X.env=(false,eval e X.env)::Au es X.env:=by rfl) (hpl:(C8 pos (Au es X.env)).any (·.1)=false:=by rfl) :
  PE X (.Call (.Name x p) (e::es) [] pos) (jhe sp dvs E t):=by
 intro pins s σ H Q I h;refine E7 (jx0 I hg hm ?_ hdb);refine PySem.W.callWith_K (h₀:=X.base) I.ok.mod.kin hk (thn (ha pos pins s σ H _ I h) λus s1 ⟨vs,H1,I1,r,q⟩=>⟨I1.kIn,?_⟩) he hpl;exact jz8 F hr hb hd hx I1 r q
end
structure FnScope (N P:List Str) (sc:D9):Prop where
 kind:sc.kind=.function
 co:sc.isCoroutine=false
 gen:sc.isGenerator=false
 nd:N.Nodup
 pre:N.take P.length=P
 par:∀x∈P,sc.names.lookup x=some .local\/sc.names.lookup x=some .cell
 nofree:∀y∈sc.names,y.2≠.free
theorem jle {kindOf:Str->Option NameKind} {x:Str}:∀{binds:List (Str×Ai)} {m:Str->Option Ai},(∀v,(x,v)∉binds)->bindL kindOf binds m x=m x
 |[],_,_=>rfl
 | (n,v)::r,m,h=>by
  unfold bindL;rw[jle λw hw=>h w (Az _ hw)]
  split
  ·have:x≠n:=by rintro rfl;exact h v Ay
   simp[this]
  ·rfl
theorem jlg {kindOf:Str->Option NameKind} {x:Str}:∀{binds:List (Str×Ai)} {m:Str->Option Ai},(∀v,(x,v)∉binds)->bindC kindOf binds m x=m x
 |[],_,_=>rfl
 | (n,v)::r,m,h=>by
  unfold bindC;rw[jlg λw hw=>h w (Az _ hw)]
  split
  ·rfl
  ·have:x≠n:=by rintro rfl;exact h v Ay
   simp[this]
theorem jlf {kindOf:Str->Option NameKind} {x:Str} {v:Ai}:∀{P:List Str} {vs:List Ai} {i:Nat} {m:Str->Option Ai},P.Nodup->P[i]?=some x->vs[i]?=some v->kindOf x=some .local ->
  bindL kindOf (P.zip vs) m x=some v
 |[],_,_,_,_,h,_,_=>by simp at h
 |_::_,[],_,_,_,_,h,_=>by simp at h
 |p::P,w::vs,0,m,nd,h1,h2,hk=>by
  simp at h1 h2;subst h1;subst h2;show bindL kindOf ((p,w)::P.zip vs) m p=_;unfold bindL;rw[jle λv hv=>(Cs.mp nd).1 (D7 hv).1,if_pos hk];simp
 |p::P,w::vs,i+1,m,nd,h1,h2,hk=>by
  show bindL kindOf ((p,w)::P.zip vs) m x=_;unfold bindL;exact jlf (i:=i) (Cs.mp nd).2 (by simpa using h1) (by simpa using h2) hk
theorem jlh {kindOf:Str->Option NameKind} {x:Str} {v:Ai}:∀{P:List Str} {vs:List Ai} {i:Nat} {m:Str->Option Ai},P.Nodup->P[i]?=some x->vs[i]?=some v->kindOf x≠some .local ->
  bindC kindOf (P.zip vs) m x=some v
 |[],_,_,_,_,h,_,_=>by simp at h
 |_::_,[],_,_,_,_,h,_=>by simp at h
 |p::P,w::vs,0,m,nd,h1,h2,hk=>by
  simp at h1 h2;subst h1;subst h2;show bindC kindOf ((p,w)::P.zip vs) m p=_;unfold bindC;rw[jlg λv hv=>(Cs.mp nd).1 (D7 hv).1,if_neg hk];simp
 |p::P,w::vs,i+1,m,nd,h1,h2,hk=>by
  show bindC kindOf ((p,w)::P.zip vs) m x=_;unfold bindC;exact jlh (i:=i) (Cs.mp nd).2 (by simpa using h1) (by simpa using h2) hk
def start (N:List Str) (vs:List V):St:=vs.map some++A9 (N.length - vs.length) none
def cxOf (CX:CXT) (P:Bg) (w:Bw) (K:Ah) (mg:Str->Option Ai) (base:Heap) (N:List Str) (qual:Str) (scope:D9) (f:Addr) (cd:Ai) (A:Cb) (outer:List Env) (s:Am) (H:Hp) (E:XK):Cx where
 prog:=P
 w:=w
 K:=K
 mg:=mg
 base:=base
 A:=A.deeper (envOfC qual scope s.heap.objs.size f cd)
 N:=N
 s₀:=s
 H₀:=H
 env:=envOfC qual scope s.heap.objs.size f cd
 outer:=outer
 stack:=envOfC qual scope s.heap.objs.size f cd::outer
 ex:=[]
 calm:=true
 fn:=λ_=>true
 pn:=[]
 xe:=λe s'=>A3 (Bc P w) (A.deeper (envOfC qual scope s.heap.objs.size f cd)) (leaving (envOfC qual scope s.heap.objs.size f cd) e) (λ_ s''=>CX outer H s E e s'') (λe' s''=>CX outer H s E e' s'') s'
theorem jn6 {sc:D9} {n:Nat} {x:Str} (h:sc.names.lookup x=some .cell):∃c,(cellsFrom n sc.names []).lookup x=some c:=by
 have q:=PySem.W.cellsFrom_some sc.names n [] (.inl h);exact C3.mp q
theorem jrv {CX:CXT} {P:Bg} {w:Bw} {K:Ah} {mg:Str->Option Ai} {base:Heap} {N ps:List Str} {qual:Str} {scope:D9} {f:Addr} {cd:Ai} {A:Cb} {outer:List Env} {s s1:Am} {H:Hp} {E:XK} {us:List Ai} {vs:List V}
  (S:FnScope N ps scope) (hd:A.handled=none) (e0:Env0 P w K mg base A outer s H) (hl:vs.length=ps.length) (r:Vals vs us)
  (x:InCallC s s.heap.objs.size (bindL (envOfC qual scope s.heap.objs.size f cd).kindOf (ps.zip us) λ_=>none) (cellsFrom (s.heap.objs.size+1) scope.names []) (bindC (envOfC qual scope s.heap.objs.size f cd).kindOf (ps.zip us) λ_=>none) s1) :
  Inv (cxOf CX P w K mg base N qual scope f cd A outer s H E) [] (start N vs) H s1:=by
 have hpl:ps.length<=N.length:=by have:=congrArg List.length S.pre;rw[Dj]at this;omega
 obtain⟨h1,tk,rfl,hk⟩:=x.done;have noA:∀b:Addr,b∉(cxOf CX P w K mg base N qual scope f cd A outer s H E).ex:=λb z=>absurd (show b∈([]:List Addr)from z) (by simp);refine⟨⟨e0.mod,S.kind,rfl,rfl,Al _,λy z c h1 h2=>?_,λy hy=>?_,λy c _ h=>?_,λ_=>hd,Around.frames_deeper e0.frames,.inr ⟨rfl,rfl⟩,λb z=>absurd z (noA b),e0.bs,e0.bsz,λb _ _=>noA b,λb z=>absurd z (noA b),e0.funs,e0.frf⟩,
  rfl,e0.bare,Un.kept hk,⟨_,x.toInCall.ns,λi y v h1 h2 h3=>?_⟩,λy c h=>⟨_,x.cell y c h⟩,e0.hok.fresh (Al _),λy c h=>?_,λp hp=>absurd (show p∈([]:List (Addr×Obj))from hp) (by simp),e0.hok.kept hk,?_⟩
 ·exact name_of_addr x.apart (El h1) (El h2)
 ·have hy:scope.names.lookup y=some .cell\/scope.names.lookup y=some .free:=hy;rcases hy with hy | hy
  ·exact jn6 hy
  ·exact absurd rfl (S.nofree _ (El hy))
 ·exact D6 (x.above y c (El h))
 ·have hi:i < vs.length:=by
   unfold start at h2;by_cases hi:i < vs.length
   ·exact hi
   ·rw[Bt (by simpa using hi)]at h2;rw[Dx]at h2
    split at h2<;>cases h2
  have ha:vs[i]?=some v:=by
   unfold start at h2;rw[B9 (by simpa using hi),A0]at h2;cases e:vs[i]? with
   |none=>rw[e]at h2;cases h2
   |some a=>rw[e]at h2;cases h2;rfl
  obtain⟨u,hu,rv⟩:=r.get ha;have hp:ps[i]?=some y:=by
   rw[<-S.pre,List.getElem?_take_of_lt (by omega)];exact h1
  have ndP:ps.Nodup:=by rw[<-S.pre];exact S.nd.sublist (List.take_sublist _ _)
  refine⟨u,rv,?_⟩;rcases S.par y (A7 hp)with k | k
  ·exact .inl ⟨k,jlf ndP hp hu k⟩
  ·obtain⟨c,e⟩:=jn6 (n:=s.heap.objs.size+1) k;refine .inr ⟨.inl k,c,e,?_⟩;have q:=x.cell y c e;rw[jlh ndP hp hu (by show scope.names.lookup y≠_;rw[k];decide)]at q;exact q
 ·exact e0.hok.fresh (D6 (x.above y c (El h)))
 ·unfold start;show _=N.length;rw[Ak,Ab,Fc];omega
theorem j4f {CX:CXT} {P:Bg} {w:Bw} {K:Ah} {mg:Str->Option Ai} {base:Heap} {k:Nat} {f:Addr} {name qual:Str} {params:Arguments} {body:List Stmt} {scope:D9} {dV kV doc pm cdv ct oc:Ai} {an od:Option Addr}
  {osl:Array (Option Ai)} {N ps:List Str} {sp:Sp} (lk:K.lookup f=some ⟨oc,od,.func (Ee name qual params body scope dV kV doc pm an cdv ct),osl⟩) (hcd:PySem.W.codeIn K cdv qual=true) (S:FnScope N ps scope)
  (len:∀vs H Q E,sp vs H Q E->vs.length=ps.length)
  (hbody:∀(A:Cb) (outer:List Env) (s:Am) (H:Hp) (vs:List V) (Q:VK) (E:XK),Room k (A.deeper (envOfC qual scope s.heap.objs.size f cdv))->sp vs H Q E ->
   ∃t,PSs (cxOf CX P w K mg base N qual scope f cdv A outer s H E) body t/\t {nx:=λ_ H'=>Q .non H',rt:=Q} (start N vs) H) :
  FnOk P w K mg base CX (k+1) f (Ee name qual params body scope dV kV doc pm an cdv ct) ps sp:=by
 refine⟨len,λA outer s H args us vs Q E hr e0 hb r hsp=>?_⟩;have hl:=len _ _ _ _ hsp;have KX:K.In s.heap:=e0.mod.kin.keeps λb o e=>(e0.bs b o e).1;have lim:s.heap.NoLimit:=e0.mod.nolimit.keeps λb o e=>(e0.bs b o e).1;have hkind:∀y∈ps.zip us,scope.names.lookup y.1=some .local\/(scope.names.lookup y.1=some .cell/\((cellsFrom (s.heap.objs.size+1) scope.names []).lookup y.1).isSome=true):=λ⟨n,v⟩ hy=>by
  rcases S.par n (D7 hy).1 with q | q
  ·exact .inl q
  ·exact .inr ⟨q,PySem.W.cellsFrom_some _ _ _ (.inl q)⟩
 refine codeAny_call_function hr.depth (KX _ _ lk) rfl S.co S.gen rfl (PySem.W.codeRec_of KX hcd) (hb _ _ _ _ ?_);refine wpAny_newFunctionEnv_cells S.kind hkind λenv he s1 x=>?_;subst he;refine⟨lim.keeps x.toInCall.keep,codeAny_func ?_⟩;obtain⟨t,ht,hq⟩:=hbody A outer s H vs Q E (hr.deeper _) hsp;have I:Inv (cxOf CX P w K mg base N qual scope f cdv A outer s H E) [] (start N vs) H s1:=jrv S hr.hd e0 hl r x;refine C1 (ht [] s1 (start N vs) H _ I hq) (λfl s' hs=>?_) λe s' hs=>hs;have fin:∀{σ':St} {H':Hp} {v:V} {u:Ai},Inv (cxOf CX P w K mg base N qual scope f cdv A outer s H E) [] σ' H' s'->RelV v u->Q v H'->CE outer P w H s Q u s' :=
  λ{σ' H' v u} J rv q=>⟨v,H',J.os,J.bare,J.base,J.hok,rv,q⟩
 cases fl with
 |ret u =>
  obtain⟨v,σ',H',J,rv,q⟩:=hs;exact fin J rv q
 |next =>
  obtain⟨σ',H',J,q⟩:=hs;exact fin (v:=V.non) (u:=B3) J rfl q
 |brk =>
  obtain⟨_,_,_,q⟩:=hs;exact False.elim q
 |cont =>
  obtain⟨_,_,_,q⟩:=hs;exact False.elim q
section
variable {X:Cx} {x:Str} {p pos:Pos} {e:Expr} {es:List Expr} {t:TA} {id T:String} {r:List V->Hp->VK->Prop}
def tCB (r:List V->Hp->VK->Prop) (t:TA):TE:=λσ H Q=>t σ H λvs H1=>r vs H1 Q
theorem jcc (hc:CallR X (.builtin id) r) (hg:Gl X x) (hm:X.mg x=none) (hv:Bv x=some (.builtin id)) (ha:PA X (e::es) t) (hn:x≠"__name__":=by decide) (hdb:(x==("__debug__":Str))=false:=by decide)
  (he:Au (e::es) X.env=(false,eval e X.env)::Au es X.env:=by rfl) (hpl:(C8 pos (Au es X.env)).any (·.1)=false:=by rfl):PE X (.Call (.Name x p) (e::es) [] pos) (tCB r t):=by
 intro pins s σ H Q I h;refine E7 (je1 I hg hm hv ?_ hn hdb);exact PyProof.Rows.callWith_builtin1 (thn (ha pos pins s σ H _ I h) λus s1 ⟨vs,H1,I1,r1,q1⟩=>hc pins s1 σ H1 vs us Q I1 r1 q1) he hpl
theorem jco (hc:CallR X (.type T) r) (hg:Gl X x) (hm:X.mg x=none) (hv:Bv x=some (.type T)) (ha:PA X (e::es) t) (hn:x≠"__name__":=by decide) (hdb:(x==("__debug__":Str))=false:=by decide)
  (he:Au (e::es) X.env=(false,eval e X.env)::Au es X.env:=by rfl) (hpl:(C8 pos (Au es X.env)).any (·.1)=false:=by rfl):PE X (.Call (.Name x p) (e::es) [] pos) (tCB r t):=by
 intro pins s σ H Q I h;refine E7 (je1 I hg hm hv ?_ hn hdb);exact Co (thn (ha pos pins s σ H _ I h) λus s1 ⟨vs,H1,I1,r1,q1⟩=>hc pins s1 σ H1 vs us Q I1 r1 q1) he hpl
end
end L2
namespace HT
open PySem PyProof.Rows
section
variable {prog:Bg} {w:Bw} {A:Cb} {E:Ai->Am->Prop} {s:Am}
theorem cat_tup {t b:Addr} {vs ws:List Ai} {Q:Ai->Am->Prop} (ht:IsTup s.heap t vs.toArray) (hb:IsTup s.heap b ws.toArray) (hv:vs≠[])
  (h1:ws=[]->Q (.ref t) s) (h2:ws≠[]->Q (.ref s.heap.objs.size) {s with heap:=s.heap.push {cls:=.type "tuple",data:=.seq (vs++ws).toArray}})
  (hsz:vs.length+ws.length<=Ap):A3 (Bc prog w) A (Du .Add (.ref t) (.ref b)) Q E s:=by
 obtain⟨⟨cls,dd,data,sl⟩,ho,hc,n,hd⟩:=id ht;obtain⟨⟨cls2,dd2,data2,sl2⟩,ho2,hc2,n2,hd2⟩:=id hb;simp only at hc hd hc2 hd2;subst hc hd hc2 hd2;have e:vs.toArray++ws.toArray=(vs++ws).toArray:=by simp
 by_cases hw:ws=[]
 ·exact concat_meets ⟨_,ho,rfl⟩ ⟨_,ho2,rfl⟩ noFill_tuple_add seq_tuple_add Ez Ew (Em _ _)
   (tuple_addW1 t b vs.toArray ws.toArray n n2 dd dd2 sl sl2 (by simpa using hv) (by simp[hw])) ⟨ho,ho2,h1 hw⟩
 ·refine concat_meets ⟨_,ho,rfl⟩ ⟨_,ho2,rfl⟩ noFill_tuple_add seq_tuple_add Ez Ew (Em _ _)
   (tuple_addW2 t b vs.toArray ws.toArray n n2 dd dd2 sl sl2 (by simpa using hv) (by simpa using hw) (by rw[A2,A2];exact hsz)) ⟨ho,ho2,?_⟩
  rw[e];exact h2 hw
def sIx (n d:Nat):Option Int->Nat
 |none=>d
 |some v=>if v < 0 then(v+(n:Int)).toNat else min v.toNat n
theorem sIx_none (n d:Nat):sIx n d none=d:=rfl
theorem sIx_nat (n d k:Nat):sIx n d (some (k:Int))=min k n:=by
 show(if (k:Int) < 0 then((k:Int)+(n:Int)).toNat else min (k:Int).toNat n)=min k n;rw[if_neg (by omega),Bp]
theorem jz5 (n d:Nat) (hd:d<=n) (o:Option Int):sIx n d o<=n:=by
 cases o with
 |none=>exact hd
 |some v =>
  show(if v < 0 then(v+(n:Int)).toNat else min v.toNat n)<=n;by_cases hv:v < 0
  ·rw[if_pos hv];omega
  ·rw[if_neg hv];exact Nat.min_le_right _ _
theorem jsl (v:Int) (n d:Nat):(if v < 0 then max (v+(n:Int)) 0 else min v (n:Int))=((sIx n d (some v):Nat):Int):=by
 show(if v < 0 then max (v+(n:Int)) 0 else min v (n:Int))=(((if v < 0 then(v+(n:Int)).toNat else min v.toNat n):Nat):Int);by_cases hv:v < 0
 ·simp only[if_pos hv];omega
 ·simp only[if_neg hv];omega
theorem jpk (lo hi:Option Int) (n:Nat):Fj lo hi 1 (n:Int)=(((sIx n 0 lo:Nat):Int),((sIx n n hi:Nat):Int)):=by
 have h1:¬((1:Int) < 0):=by omega
 unfold Fj;simp only[h1,if_false];refine Prod.ext ?_ ?_
 ·cases lo with
  |none=>rfl
  |some v=>exact jsl v n 0
 ·cases hi with
  |none=>rfl
  |some v=>exact jsl v n n
theorem joy (i j:Nat):D8 (i:Int) (j:Int) 1=j - i:=by
 unfold D8;have h1:(1:Int) > 0:=by omega
 simp only[h1,if_true,Int.ediv_one]
 split<;>omega
theorem jhy {v:Ai} {o:Option Int} {Q:Option Int->Am->Prop} (p:IsPart v o) (h:Q o s):A3 (Bc prog w) A (Builtin.Slice.slicePartIndex v) Q E s:=by
 cases p with
 |none=>exact slicePart_none h
 |int i t=>exact slicePart_int h
theorem jci {sl:Addr} {vl vu:Ai} {lo hi:Option Int} {n:Nat} {Q:Int×Int×Nat->Am->Prop} (hs:s.heap.IsSliceOf sl vl vu .none) (pl:IsPart vl lo) (pu:IsPart vu hi)
  (h:Q (((sIx n 0 lo:Nat):Int),1,sIx n n hi - sIx n 0 lo) s):A3 (Bc prog w) A (Builtin.Slice.sliceApplied (.ref sl) (pure (n:Int))) Q E s:=by
 obtain⟨os,hos,hcs,hds⟩:=id hs;unfold Builtin.Slice.sliceApplied Builtin.Slice.sliceFields;refine Ad (Ad (B6 hos hds (x:=vl) rfl (Ad (B6 hos hds (x:=vu) rfl (Ad (B6 hos hds (x:=.none) rfl (Av ?_)))))));refine Ad (slicePart_none ?_);show A3 _ _ (if ((1:Int)==0)=true then _ else _) _ _ s;rw[if_neg (by decide)];refine Ad (jhy pl (Ad (jhy pu (Ad (Av ?_)))));show A3 _ _ (match Fj lo hi 1 (n:Int)with | (lo,hi)=>pure (lo,(1:Int),D8 lo hi 1)) _ _ s;rw[jpk lo hi n];show A3 _ _ (pure (((sIx n 0 lo:Nat):Int),(1:Int),D8 ((sIx n 0 lo:Nat):Int) ((sIx n n hi:Nat):Int) 1)) _ _ s;rw[joy];exact Av h
theorem jtp (xs:Array Ai) (i k:Nat):((A1 k).filterMap λ(m:Nat)=>xs[((i:Int)+(m:Int)*1).toNat]?).toArray=((xs.toList.drop i).take k).toArray:=by
 have e:(λ(m:Nat)=>xs[((i:Int)+(m:Int)*1).toNat]?)=λm=>xs[i+m]?:=by
  funext m
  have:((i:Int)+(m:Int)*1).toNat=i+m:=by omega
  rw[this]
 rw[e];have:=pick_run xs i k;rw[List.filterMap_map]at this;have e2:((λx=>xs[x]?) ∘ λx=>i+x)=λm=>xs[i+m]?:=rfl;rw[e2]at this;rw[this]
theorem getItem_tuple_cut {t sl:Addr} {items:Array Ai} {vl vu:Ai} {lo hi:Option Int} {Q:Ai->Am->Prop} (ht:IsTup s.heap t items) (hs:s.heap.IsSliceOf sl vl vu .none) (pl:IsPart vl lo) (pu:IsPart vu hi)
  (hw:¬(sIx items.size 0 lo=0/\sIx items.size items.size hi=items.size))
  (h:Q (.ref s.heap.objs.size) {s with heap:=s.heap.push {cls:=.type "tuple",data:=.seq ((items.toList.drop (sIx items.size 0 lo)).take (sIx items.size items.size hi - sIx items.size 0 lo)).toArray}})
  (hsz:items.size<=Ap):A3 (Bc prog w) A (getItem (.ref t) (.ref sl)) Q E s:=by
 have htake:sizeOk (.seq ((items.toList.drop (sIx items.size 0 lo)).take (sIx items.size items.size hi - sIx items.size 0 lo)).toArray):=by
  show((items.toList.drop (sIx items.size 0 lo)).take (sIx items.size items.size hi - sIx items.size 0 lo)).toArray.size<=Ap;rw[A2,Dj,Dw,Er];omega
 have hj:sIx items.size items.size hi<=items.size:=jz5 _ _ (Al _) hi;obtain⟨os,hos,hcs,hds⟩:=id hs;have hTs:s.TypeIs (.ref sl) "slice":=⟨os,hos,hcs⟩;unfold getItem
 try with_reducible refine Cm ?_
 first | refine Ad (Av ?_) | skip
 refine Ad (wpAny_sequenceKey ht.typeIs (by decide) ?_);refine Ad (Cj (name:=Di "__getitem__") ht.typeIs Dk
  (C7 Dk ht.typeIs entry_tuple_getitem ?_ (args_tuple_getitem _ _)))
 show A3 _ _ (Builtin.Tuple.tupleItemsOf (.ref t)>>=_) _ _ s;refine Ad (tupleItemsOf_ ht ?_);refine Ad (wpAny_typeOf hTs ?_);rw[if_pos (by decide)];refine Ad (jci hs pl pu ?_);have hno:¬((((sIx items.size 0 lo:Nat):Int)==0&&(1:Int)==1&&(sIx items.size items.size hi - sIx items.size 0 lo)==items.size)=true):=by
  intro q;rw[Cw,Cw]at q;have q1:((sIx items.size 0 lo:Nat):Int)=0:=eq_of_beq q.1.1;have q2:sIx items.size items.size hi - sIx items.size 0 lo=items.size:=eq_of_beq q.2;exact hw ⟨by omega,by omega⟩
 show A3 _ _ (if (((sIx items.size 0 lo:Nat):Int)==0&&(1:Int)==1&&(sIx items.size items.size hi - sIx items.size 0 lo)==items.size)=true then _ else _) _ _ s;rw[if_neg hno,jtp]
 first
  |exact Ad (m:=Ec _) (Dd (Av ⟨_,rfl,Av h⟩) htake)
  |exact Ad (m:=Ec _) (Dd (Ad (Av (Av ⟨_,rfl,Av h⟩))) htake)
  |exact Ad (Ad (m:=Ec _) (Dd (Av (Av ⟨_,rfl,Av h⟩)) htake))
  |exact Ad (Ad (m:=Ec _) (Dd (Av ⟨_,rfl,Av h⟩) htake))
end
end HT
namespace L2
open PySem PySem.Spec PyProof.Rows
abbrev TO:=St->Hp->(Option Int->Hp->Prop)->Prop
def PO (X:Cx) (e:Option Expr) (t:TO):Prop :=
 ∀(pins:List (Addr×Obj)) (s:Am) (σ:St) (H:Hp) (Q:Option Int->Hp->Prop),Inv X pins σ H s->t σ H Q ->
  A3 (Bc X.prog X.w) X.A (evalPart e X.env) (λu s'=>∃o H',Inv X pins σ H' s'/\IsPart u o/\Q o H') X.xe s
def jp1:TO:=λ_ H Q=>Q none H
def jy9 (t:TE):TO:=λσ H Q=>t σ H λx H1=>∃i,x=.int i/\Q (some i) H1
section
variable {X:Cx} {e:Expr} {te:TE} {lo hi:Option Expr} {tl th:TO} {pos p2:Pos}
theorem jqy:PO X none jp1:=by
 intro pins s σ H Q I h;rw[evalPart_none];exact Av ⟨none,H,I,.none,h⟩
theorem jqx (h:PE X e te):PO X (some e) (jy9 te):=by
 intro pins s σ H Q I hw;rw[evalPart_some];refine thn (h pins s σ H _ I hw) λu s1 ⟨x,H1,I1,r1,q1⟩=>?_;obtain⟨i,rfl,q⟩:=q1;obtain⟨t,rfl⟩:=r1;exact⟨some i,H1,I1,.int i t,q⟩
def SlR (X:Cx) (r:V->Option Int->Option Int->Hp->VK->Prop):Prop :=
 ∀(pins:List (Addr×Obj)) (s:Am) (σ:St) (H:Hp) (x:V) (v vl vu:Ai) (lo hi:Option Int) (sl:Addr) (Q:VK),Inv X pins σ H s->RelV x v->s.heap.IsSliceOf sl vl vu .none->IsPart vl lo->IsPart vu hi->r x lo hi H Q ->
  ∃T id,typeLookup (.type T) "__getitem__"=pure (some (.builtin id))/\s.TypeIs v T/\A3 (Bc X.prog X.w) X.A (getItem v (.ref sl)) (EP X pins σ Q) X.xe s
theorem SlR.or {r r':V->Option Int->Option Int->Hp->VK->Prop} (h:SlR X r) (h':SlR X r'):SlR X (λx lo hi H Q=>r x lo hi H Q\/r' x lo hi H Q):=by
 intro pins s σ H x v vl vu lo hi sl Q I rx hs pl pu q;rcases q with q | q
 ·exact h pins s σ H x v vl vu lo hi sl Q I rx hs pl pu q
 ·exact h' pins s σ H x v vl vu lo hi sl Q I rx hs pl pu q
def tSl (r:V->Option Int->Option Int->Hp->VK->Prop) (te:TE) (tl th:TO):TE:=λσ H Q=>te σ H λx H1=>tl σ H1 λl H2=>th σ H2 λu H3=>r x l u H3 Q
theorem jiz {r:V->Option Int->Option Int->Hp->VK->Prop} (hr:SlR X r) (he:PE X e te) (hl:PO X lo tl) (hu:PO X hi th):PE X (.Subscript e (.Slice lo hi none p2) pos) (tSl r te tl th):=by
 intro pins s σ H Q I h;refine Subscript_ (thn (he pins s σ H _ I h) λv s1 ⟨x,H1,I1,r1,q1⟩=>?_);refine wpAny_Slice (thn (hl pins s1 σ H1 _ I1 q1) λvl s2 ⟨l,H2,I2,pl,q2⟩=>thn (hu pins s2 σ H2 _ I2 q2) λvu s3 ⟨u,H3,I3,pu,q3⟩=>?_);rw[evalPart_none];refine Av ?_;have I4:Inv X pins σ H3 {s3 with heap:=s3.heap.push {cls:=.type "slice",data:=.fields #[vl,vu,.none]}}:=I3.kept (t':=s3.toks) λb ob q=>Ag _ q;obtain⟨T,id,hT,ht,hg⟩:=hr pins {s3 with heap:=s3.heap.push {cls:=.type "slice",data:=.fields #[vl,vu,.none]}} σ H3 x v vl vu l u s3.heap.objs.size Q I4 r1 (Heap.IsSliceOf.new ..) pl pu q3;show A3 (Bc X.prog X.w) X.A (subscriptTail e (.Slice lo hi none p2) v (.ref s3.heap.objs.size)) (EP X pins σ Q) X.xe {s3 with heap:=s3.heap.push {cls:=.type "slice",data:=.fields #[vl,vu,.none]}};exact tail_any (ops:=[.ref s3.heap.objs.size,v]) ht hT hg (by with_unfolding_all rfl)
def cutV (xs:List V) (lo hi:Option Int):List V:=(xs.drop (HT.sIx xs.length 0 lo)).take (HT.sIx xs.length xs.length hi - HT.sIx xs.length 0 lo)
theorem jcf (xs:List V) (lo hi:Option Int):(cutV xs lo hi).length<=xs.length:=by
 unfold cutV;rw[Dj,Dw];omega
def rSlT (K:Ah):V->Option Int->Option Int->Hp->VK->Prop:=λx lo hi H Q=>∃a xs,x=.ref a/\SqT K H a xs /\
 ¬(HT.sIx xs.length 0 lo=0/\HT.sIx xs.length xs.length hi=xs.length)/\∀p,H p=none->Q (.ref p) (upd H p (.tup (cutV xs lo hi)))
theorem sl_tup:SlR X (rSlT X.K):=by
 intro pins s σ H x v vl vu lo hi sl Q I rx hs pl pu h;obtain⟨a,xs,rfl,hx,hw,q⟩:=h;cases rx;obtain⟨its,r,ht,hz⟩:=I.tuple hx;have hlen:its.toArray.size=xs.length:=by rw[A2];exact r.length.symm
 refine⟨"tuple",_,PyProof.Rows.slot_tuple_getitem.lookup,ht.typeIs,?_⟩;refine HT.getItem_tuple_cut ht hs pl pu (by rw[hlen];exact hw) ?_ (by rw[hlen];exact hz);rw[hlen];refine⟨.ref s.heap.objs.size,_,I.laid (t':=s.toks) (o:=.tup (cutV xs lo hi)) (λb ob q=>Ag _ q) (Al _) ?_,rfl,q _ (I.hok.fresh (Al _))⟩;exact⟨A4 (jcf xs lo hi) hz,_,(r.drop (HT.sIx xs.length 0 lo)).take (HT.sIx xs.length xs.length hi - HT.sIx xs.length 0 lo),IsTupP.new _ _⟩
def j0f (K:Ah):R2:=λx y H Q=>∃a b xs ys,x=.ref a/\y=.ref b/\SqT K H a xs/\SqT K H b ys/\xs≠[]/\xs.length+ys.length<=Ap /\
 (ys=[]->Q (.ref a) H)/\(ys≠[]->∀p,H p=none->Q (.ref p) (upd H p (.tup (xs++ys))))
theorem Vals.nil_iff {xs:List V} {us:List Ai} (r:Vals xs us):us=[]↔xs=[]:=by
 cases r with
 |nil=>simp
 |cons _ _=>simp
theorem op_catT:OpR X (Du .Add) (j0f X.K):=by
 intro pins s σ H x y v u Q I rx ry h;obtain⟨a,b,xs,ys,rfl,rfl,ha,hb,hx,hz,q1,q2⟩:=h;cases rx;cases ry;obtain⟨its,r1,p1,_⟩:=I.tuple ha;obtain⟨its2,r2,p2,_⟩:=I.tuple hb;refine HT.cat_tup p1 p2 (λz=>hx (r1.nil_iff.mp z)) (λz=>⟨.ref a,H,I,rfl,q1 (r2.nil_iff.mp z)⟩) (λz=>?_) (by rw[<-r1.length,<-r2.length];exact hz);refine⟨.ref s.heap.objs.size,_,I.laid (t':=s.toks) (o:=.tup (xs++ys)) (λb ob q=>Ag _ q) (Al _) ?_,rfl,q2 (λw=>z (r2.nil_iff.mpr w)) _ (I.hok.fresh (Al _))⟩;exact⟨by rw[Ak];exact hz,_,r1.append r2,IsTupP.new _ _⟩
end
def ixN (n:Nat) (i:Int):Option Nat:=if 0<=i then(if i < n then some i.toNat else none)else if -(n:Int)<=i then some (i+n).toNat else none
def atI {α:Type} (xs:List α) (i:Int):Option α:=(ixN xs.length i).bind λj=>xs[j]?
theorem jrt {n:Nat} {i:Int} {j:Nat} (h:ixN n i=some j):seqIndex? i n=some j/\j < n/\-(n:Int)<=i/\i < n:=by
 unfold ixN at h;by_cases h0:0<=i
 ·rw[if_pos h0]at h;by_cases h1:i < n
  ·rw[if_pos h1]at h;have e:i.toNat=j:=A6 h;exact⟨by rw[seqIndex_of h0 h1,e],by omega,by omega,h1⟩
  ·rw[if_neg h1]at h;cases h
 ·rw[if_neg h0]at h;by_cases h1:-(n:Int)<=i
  ·rw[if_pos h1]at h;have e:(i+n).toNat=j:=A6 h;exact⟨by rw[seqIndex_neg (by omega) h1,e],by omega,h1,by omega⟩
  ·rw[if_neg h1]at h;cases h
theorem jmm {α:Type} {xs:List α} {i:Int} {v:α} (h:atI xs i=some v):∃j,seqIndex? i xs.length=some j/\xs[j]?=some v/\j < xs.length/\-(xs.length:Int)<=i/\i < xs.length:=by
 unfold atI at h;cases e:ixN xs.length i with
 |none=>rw[e]at h;cases h
 |some j =>
  rw[e]at h;obtain⟨h1,h2,h3,h4⟩:=jrt e;exact⟨j,h1,h,h2,h3,h4⟩
theorem ja5 {α:Type} {xs:List α} {j:Nat} {v:α} (h:xs[j]?=some v):atI xs (j:Int)=some v:=by
 have hj:j < xs.length:=(Aq.mp h).1;have e:ixN xs.length (j:Int)=some j:=by
  unfold ixN;rw[if_pos (by omega),if_pos (by omega)];simp
 unfold atI;rw[e];exact h
def jg5 (b:Expr):Prop:=∀o i,subscripted b false o i=operate [o,i] (getItem o i)
def IxR (X:Cx) (r:R2):Prop :=
 ∀(value slice:Expr) (pins:List (Addr×Obj)) (s:Am) (σ:St) (H:Hp) (x y:V) (v u:Ai) (Q:VK),Inv X pins σ H s->RelV x v->RelV y u->r x y H Q ->
  subscripted slice false v u=operate [v,u] (getItem v u)->A3 (Bc X.prog X.w) X.A (subscriptTail value slice v u) (EP X pins σ Q) X.xe s
def MtR (X:Cx) (id:String) (r:V->List V->Hp->VK->Prop):Prop :=
 ∀(pins:List (Addr×Obj)) (s:Am) (σ:St) (H:Hp) (x:V) (xs:List V) (v:Ai) (us:List Ai) (Q:VK),Inv X pins σ H s->RelV x v->Vals xs us->r x xs H Q ->
  A3 (Bc X.prog X.w) X.A (call (.builtin id) (v::us)) (EP X pins σ Q) X.xe s
section
variable {X:Cx} {a b:Expr} {ta tb:TE} {pos:Pos}
theorem IxR.or {r r':R2} (h:IxR X r) (h':IxR X r'):IxR X (λx y H Q=>r x y H Q\/r' x y H Q):=by
 intro value slice pins s σ H x y v u Q I rx ry q hs;rcases q with q | q
 ·exact h value slice pins s σ H x y v u Q I rx ry q hs
 ·exact h' value slice pins s σ H x y v u Q I rx ry q hs
theorem jeh {r:R2} (hr:IxR X r) (ha:PE X a ta) (hb:PE X b tb) (hs:jg5 b):PE X (.Subscript a b pos) (tOp r ta tb):=by
 intro pins s σ H Q I h;exact Subscript_ (binT ha hb I h λv u s2 x y H2 I2 rx ry q=>hr a b pins s2 σ H2 x y v u Q I2 rx ry q (hs _ _))
def rIxL (K:Ah):R2:=λx y H Q=>∃p xs i v,x=.ref p/\y=.int i/\SqL K H p xs/\atI xs i=some v/\Q v H
def rIxT (K:Ah):R2:=λx y H Q=>∃p xs i v,x=.ref p/\y=.int i/\SqT K H p xs/\atI xs i=some v/\Q v H
def rIxS:R2:=λx y H Q=>∃z i c,x=.str z/\y=.int i/\z.length<=Ap/\atI z.cps.toList i=some c/\Q (.str ⟨#[c]⟩) H
theorem ix_list:IxR X (rIxL X.K):=by
 intro value slice pins s σ H x y v u Q I rx ry h hs;obtain⟨p,xs,i,z,rfl,rfl,hq,he,q⟩:=h;cases rx;obtain⟨t,rfl⟩:=ry;obtain⟨its,r,pl,hz⟩:=I.list hq;obtain⟨j,h1,h2,h3,h4,h5⟩:=jmm he;obtain⟨w,ew,rw'⟩:=r.get h2;have hl:=r.length;have hn:=jf8;have fin:EP X pins σ Q w s:=⟨z,H,I,rw',q⟩;by_cases h0:0<=i
 ·have hj:i.toNat=j:=by
   rw[seqIndex_of h0 h5]at h1;exact A6 h1
  exact item_listR pl.isList h0 (by omega) (by rw[hj];simpa using ew) fin hs
 ·have hj:(i+(its.toArray.size:Int)).toNat=j:=by
   rw[seqIndex_neg (by omega) h4]at h1;rw[A2,<-hl];exact A6 h1
  exact subscriptTail_builtinR (x:=w) pl.isList.typeIs slot_list_getitem.lookup
   (wpAny_getItem_list_neg (Q:=λr s'=>r=w/\EP X pins σ Q r s') pl.isList (by omega) (by rw[A2]<;>omega) (by omega) (by rw[hj];simpa using ew) ⟨rfl,fin⟩) hs
theorem ix_tup:IxR X (rIxT X.K):=by
 intro value slice pins s σ H x y v u Q I rx ry h hs;obtain⟨p,xs,i,z,rfl,rfl,hq,he,q⟩:=h;cases rx;obtain⟨t,rfl⟩:=ry;obtain⟨its,r,pl,hz⟩:=I.tuple hq;obtain⟨j,h1,h2,h3,h4,h5⟩:=jmm he;obtain⟨w,ew,rw'⟩:=r.get h2;have hl:=r.length;have hn:=jf8;have fin:EP X pins σ Q w s:=⟨z,H,I,rw',q⟩;exact subscriptTail_builtinR (x:=w) pl.typeIs slot_tuple_getitem.lookup
  (getItem_tuple (j:=j) (Q:=λr s'=>r=w/\EP X pins σ Q r s') pl (by omega) (by omega) (by rw[A2,<-hl];exact h1) (by simpa using ew) ⟨rfl,fin⟩) hs
theorem j1q:IxR X rIxS:=by
 intro value slice pins s σ H x y v u Q I rx ry h hs;obtain⟨z,i,c,rfl,rfl,hz,he,q⟩:=h;obtain⟨t,rfl⟩:=rx;obtain⟨t',rfl⟩:=ry;obtain⟨j,h1,h2,h3,h4,h5⟩:=jmm he;have hl:z.cps.toList.length=z.length:=by simp[Str.length]
 rw[hl]at h1 h4 h5;have hn:=jf8;exact tail_any (typeIs_str s z t) slot_str_getitem.lookup (getItem_str (c:=c) (by
  have e1:decide (i < -(2 ^ 63:Int))=false:=decide_eq_false (by omega);have e2:decide (i ≥ 2 ^ 63)=false:=decide_eq_false (by omega);rw[e1,e2,Bool.or_false]) (by rw[h1];simpa using h2) ⟨.str ⟨#[c]⟩,H,I.tok _,⟨_,rfl⟩,q⟩) hs
def rIx (K:Ah):R2:=λx y H Q=>rIxL K x y H Q\/rIxT K x y H Q\/rIxS x y H Q
theorem jnv:IxR X (rIx X.K):=ix_list.or (ix_tup.or j1q)
theorem jo1 (its:List Ai) (n j:Nat) (u:Ai):B8 (·.setIfInBounds j u) {cls:=.type "list",data:=.seq its.toArray n}={ cls:=.type "list",data:=.seq (its.set j u).toArray n}:=by
 simp[B8]
theorem Inv.lst {pins:List (Addr×Obj)} {σ:St} {H:Hp} {s:Am} {p:Addr} {xs:List V} (I:Inv X pins σ H s) (h:H p=some (.lst xs)) :
  ∃(its:List Ai) (n:Nat),Vals xs its/\s.heap.get? p=some {cls:=.type "list",data:=.seq its.toArray n}/\xs.length<=Ap:=by
 obtain⟨z,its,n,r,e⟩:=I.hok p _ h;exact⟨its,n,r,e,z⟩
theorem Inv.lstUpd {pins:List (Addr×Obj)} {σ:St} {H:Hp} {s:Am} {p:Addr} {xs ys:List V} {its its':List Ai} {n n':Nat} {f:Obj->Obj} (I:Inv X pins σ H s) (h:H p=some (.lst xs))
  (ho:s.heap.get? p=some {cls:=.type "list",data:=.seq its.toArray n}) (hf:f {cls:=.type "list",data:=.seq its.toArray n}={ cls:=.type "list",data:=.seq its'.toArray n'}) (r:Vals ys its') (hz:ys.length<=Ap) (t:Nat) :
  Inv X pins σ (upd H p (.lst ys)) {s with heap:=s.heap.update p f,toks:=t}:=by
 have e:(s.heap.update p f).get? p=some {cls:=.type "list",data:=.seq its'.toArray n'}:=by
  rw[Dl f ho (by rw[hf]<;>rfl),hf]
 refine I.write (x:=p) (e:=p) (by rw[h];trivial) (.inl rfl) (λb u hb q=>(Df _ _ (Ne.symm hb)).trans q) ⟨_,e⟩ ?_;exact⟨hz,its',n',r,e⟩
def j0c:V->V->V->Hp->(Hp->Prop)->Prop:=λo i v H Q=>∃p xs k j,o=.ref p/\i=.int k/\H p=some (.lst xs)/\ixN xs.length k=some j/\Q (upd H p (.lst (xs.set j v)))
theorem jfm:PSet X j0c:=by
 intro pins s σ H o i v ov iv u Q I ro ri rv h;obtain⟨p,xs,k,j,rfl,rfl,hp,hj,q⟩:=h;cases ro;obtain⟨t,rfl⟩:=ri;obtain⟨its,n,r,ho,hz⟩:=I.lst hp;obtain⟨h1,h2,h3,h4⟩:=jrt hj;have hl:=r.length;have hn:=jf8;have I':Inv X pins σ (upd H p (.lst (xs.set j v))) {s with heap:=s.heap.update p (B8 (·.setIfInBounds j u))} :=
  I.lstUpd hp ho (jo1 its n j u) (r.set rv j) (by rw[Ci];exact hz) s.toks
 by_cases h0:0<=k
 ·have hk:k.toNat=j:=by
   rw[seqIndex_of h0 h4]at h1;exact A6 h1
  exact PySem.W.ki_setAt ho h0 (by omega) (by rw[A2,<-hl];exact h4) (by rw[hk];exact⟨_,I',q⟩)
 ·have hk:(k+(its.toArray.size:Int)).toNat=j:=by
   rw[seqIndex_neg (by omega) h3]at h1;rw[A2,<-hl];exact A6 h1
  exact PySem.W.ki_setBack ho (by omega) (by rw[A2,<-hl];exact h3) (by omega) (by rw[hk];exact⟨_,I',q⟩)
theorem jj9 (lo hi:Option Int) (n:Nat):(Fo lo hi none n).1=((HT.sIx n 0 lo:Nat):Int)/\(Fo lo hi none n).2.1=((HT.sIx n n hi:Nat):Int)/\(Fo lo hi none n).2.2=1:=by
 refine⟨?_,?_,rfl⟩
 ·cases lo with
  |none=>simp[Fo,HT.sIx]
  |some i =>
   simp only[Fo,HT.sIx,Option.getD_none,show(1:Int) > 0 by decide,if_true];by_cases h:i < 0
   ·simp only[h,if_true]<;>omega
   ·simp only[h,if_false]<;>omega
 ·cases hi with
  |none=>simp[Fo,HT.sIx]
  |some i =>
   simp only[Fo,HT.sIx,Option.getD_none,show(1:Int) > 0 by decide,if_true];by_cases h:i < 0
   ·simp only[h,if_true]<;>omega
   ·simp only[h,if_false]<;>omega
theorem jiu (its:List Ai) (lo hi:Option Int):slicePick its.toArray lo hi none=((its.drop (HT.sIx its.length 0 lo)).take (HT.sIx its.length its.length hi - HT.sIx its.length 0 lo)).toArray:=by
 obtain⟨h1,h2,h3⟩:=jj9 lo hi its.toArray.size;unfold slicePick;rw[h1,h2,h3];simp only[sliceRange_one,pick_run,A2]<;>rfl
def rSlL (K:Ah):V->Option Int->Option Int->Hp->VK->Prop:=λx lo hi H Q=>∃a xs,x=.ref a/\SqL K H a xs/\∀p,H p=none->Q (.ref p) (upd H p (.lst (cutV xs lo hi)))
theorem jqg:SlR X (rSlL X.K):=by
 intro pins s σ H x v vl vu lo hi sl Q I rx hs pl pu h;obtain⟨a,xs,rfl,hx,q⟩:=h;cases rx;obtain⟨its,r,ht,hz⟩:=I.list hx;have hlen:=r.length;refine⟨"list",_,slot_list_getitem.lookup,ht.isList.typeIs,?_⟩;refine wpAny_getItem_list_slice ht.isList hs pl pu .none (by simp) ?_ (by rw[A2]<;>omega);rw[jiu,<-hlen];refine⟨.ref s.heap.objs.size,_,I.laid (t':=s.toks) (o:=.lst (cutV xs lo hi)) (λb ob q=>Ag _ q) (Al _) ?_,rfl,q _ (I.hok.fresh (Al _))⟩;exact⟨A4 (jcf xs lo hi) hz,_,0,(r.drop (HT.sIx xs.length 0 lo)).take (HT.sIx xs.length xs.length hi - HT.sIx xs.length 0 lo),A8 _ rfl⟩
def jfh:V->Bool
 |.non=>true
 |.bl _=>true
 |.int _=>true
 |.str _=>true
 |_=>false
def eqV:V->V->Bool
 |.non,.non=>true
 |.bl a,.bl b=>a==b
 |.bl a,.int b=>(if a then 1 else 0)==b
 |.int a,.bl b=>a==(if b then 1 else 0)
 |.int a,.int b=>a==b
 |.str a,.str b=>a==b
 |_,_=>false
theorem jwd {A:Cb} {s:Am} {y x:V} {u v:Ai} (ry:RelV y u) (rx:RelV x v) (fy:jfh y=true) (fx:jfh x=true):SeqAt.EqAt A s u v (eqV y x):=by
 cases y with
 |non =>
  cases ry;cases x with
  |non=>cases rx;exact SeqAt.EqAt.same _
  |bl b=>cases rx;exact SeqAt.EqAt.none_bool b
  |int b=>obtain⟨t,rfl⟩:=rx;exact SeqAt.EqAt.none_int b t
  |str b=>obtain⟨t,rfl⟩:=rx;exact SeqAt.EqAt.none_str b t
  |_=>exact absurd (show false=true from fx) Ae
 |bl a =>
  cases ry;cases x with
  |non=>cases rx;exact SeqAt.EqAt.bool_none a
  |bl b=>cases rx;exact SeqAt.EqAt.bool_bool a b
  |int b=>obtain⟨t,rfl⟩:=rx;exact SeqAt.EqAt.bool_int a b t
  |str b=>obtain⟨t,rfl⟩:=rx;exact SeqAt.EqAt.bool_str a b t
  |_=>exact absurd (show false=true from fx) Ae
 |int a =>
  obtain⟨t',rfl⟩:=ry;cases x with
  |non=>cases rx;exact SeqAt.EqAt.int_none a t'
  |bl b=>cases rx;exact SeqAt.EqAt.int_bool a t' b
  |int b=>obtain⟨t,rfl⟩:=rx;exact SeqAt.EqAt.int_int a t' b t
  |str b=>obtain⟨t,rfl⟩:=rx;exact SeqAt.EqAt.int_str a t' b t
  |_=>exact absurd (show false=true from fx) Ae
 |str a =>
  obtain⟨t',rfl⟩:=ry;cases x with
  |non=>cases rx;exact SeqAt.EqAt.str_none a t'
  |bl b=>cases rx;exact SeqAt.EqAt.str_bool a t' b
  |int b=>obtain⟨t,rfl⟩:=rx;exact SeqAt.EqAt.str_int a t' b t
  |str b=>obtain⟨t,rfl⟩:=rx;exact SeqAt.EqAt.str_str a t' b t
  |_=>exact absurd (show false=true from fx) Ae
 |_=>exact absurd (show false=true from fy) Ae
def eqU (x:V) (u:Ai):Bool:=match u with
 |.none=>eqV .non x
 |.bool b=>eqV (.bl b) x
 |.int i _=>eqV (.int i) x
 |.str z _=>eqV (.str z) x
 |_=>false
theorem jwc {x y:V} {u:Ai} (r:RelV y u) (f:jfh y=true):eqU x u=eqV y x:=by
 cases y with
 |non=>cases r;rfl
 |bl b=>cases r;rfl
 |int i=>obtain⟨t,rfl⟩:=r;rfl
 |str z=>obtain⟨t,rfl⟩:=r;rfl
 |_=>exact absurd (show false=true from f) Ae
theorem jgu {x:V}:∀{xs:List V} {us:List Ai},Vals xs us->xs.all jfh=true->us.any (eqU x)=xs.any λy=>eqV y x
 |_,_,.nil,_=>rfl
 |y::xs,u::us,.cons r t,f=>by
  rw[List.all_cons,Cw]at f;rw[C6,C6,jwc r f.1,jgu t f.2]
theorem jd0 {A:Cb} {s:Am} {x:V} {v:Ai} (rx:RelV x v) (fx:jfh x=true):∀{xs:List V} {us:List Ai},Vals xs us->xs.all jfh=true->∀u∈us,SeqAt.EqAt A s u v (eqU x u)
 |_,_,.nil,_=>λu hu=>by cases hu
 |y::xs,u::us,.cons r t,f=>λu' hu=>by
  rw[List.all_cons,Cw]at f;rcases Ar.mp hu with rfl | hu
  ·rw[jwc r f.1];exact jwd r rx f.1 fx
  ·exact jd0 rx fx t f.2 u' hu
def inV (x:V) (xs:List V):Bool:=xs.any λy=>eqV y x
def rIn (K:Ah) (neg:Bool):R2:=λx y H Q=>∃p xs,y=.ref p/\(SqL K H p xs\/SqT K H p xs)/\jfh x=true/\xs.all jfh=true/\Q (.bl (if neg then !inV x xs else inV x xs)) H
theorem jq7:OpR X (Bz .In) (rIn X.K false):=by
 intro pins s σ H x y v u Q I rx ry h;obtain⟨p,xs,rfl,hq,fx,fs,q⟩:=h;cases ry;rcases hq with hq | hq
 ·obtain⟨its,r,pl,hz⟩:=I.list hq;refine SeqAt.in_listAt (eqU x) pl.isList (λw hw=>jd0 rx fx r fs w (by simpa using hw)) ⟨.bl _,H,I,rfl,?_⟩;rw[show its.toArray.any (eqU x)=its.any (eqU x) by simp,jgu r fs];exact q
 ·obtain⟨its,r,pl,hz⟩:=I.tuple hq;refine SeqAt.in_tupleAt (eqU x) pl (λw hw=>jd0 rx fx r fs w (by simpa using hw)) ⟨.bl _,H,I,rfl,?_⟩;rw[show its.toArray.any (eqU x)=its.any (eqU x) by simp,jgu r fs];exact q
theorem jkd:OpR X (Bz .NotIn) (rIn X.K true):=by
 intro pins s σ H x y v u Q I rx ry h;obtain⟨p,xs,rfl,hq,fx,fs,q⟩:=h;cases ry;rcases hq with hq | hq
 ·obtain⟨its,r,pl,hz⟩:=I.list hq;refine SeqAt.notIn_listAt (eqU x) pl.isList (λw hw=>jd0 rx fx r fs w (by simpa using hw)) ⟨.bl _,H,I,rfl,?_⟩;rw[show its.toArray.any (eqU x)=its.any (eqU x) by simp,jgu r fs];exact q
 ·obtain⟨its,r,pl,hz⟩:=I.tuple hq;refine SeqAt.notIn_tupleAt (eqU x) pl (λw hw=>jd0 rx fx r fs w (by simpa using hw)) ⟨.bl _,H,I,rfl,?_⟩;rw[show its.toArray.any (eqU x)=its.any (eqU x) by simp,jgu r fs];exact q
theorem jby:CallR X (.builtin "len") (λxs H Q=>∃p ys,xs=[.ref p]/\(SqL X.K H p ys\/SqT X.K H p ys)/\Q (.int ys.length) H):=by
 intro pins s σ H xs us Q I r h;obtain⟨p,ys,rfl,hq,q⟩:=h;obtain⟨u,rfl,rx⟩:=jio r;cases rx;have hn:=jf8;rcases hq with hq | hq
 ·obtain⟨its,r',pl,hz⟩:=I.list hq;have hlen:=r'.length;exact Calls.call_len_list pl.isList (by simp only[A2]<;>omega) ⟨.int ys.length,H,I.tok _,⟨s.toks+1,by rw[A2,hlen]⟩,q⟩
 ·obtain⟨its,r',pl,hz⟩:=I.tuple hq;have hlen:=r'.length;exact len_tuple pl (by simp only[A2]<;>omega) ⟨.int ys.length,H,I.tok _,⟨s.toks+1,by rw[A2,hlen]⟩,q⟩
theorem call_len_str:CallR X (.builtin "len") (λxs H Q=>∃z,xs=[.str z]/\z.length<=Ap/\Q (.int z.length) H):=by
 intro pins s σ H xs us Q I r h;obtain⟨z,rfl,hz,q⟩:=h;obtain⟨u,rfl,t,rfl⟩:=jio r;have hn:=jf8;exact len_str (by omega) ⟨.int z.length,H,I.tok _,⟨_,rfl⟩,q⟩
theorem CallR.or {f:Ai} {r r':List V->Hp->VK->Prop} (h:CallR X f r) (h':CallR X f r'):CallR X f (λxs H Q=>r xs H Q\/r' xs H Q):=by
 intro pins s σ H xs us Q I rs q;rcases q with q | q
 ·exact h pins s σ H xs us Q I rs q
 ·exact h' pins s σ H xs us Q I rs q
theorem jlb:CallR X (.type "list") (λxs H Q=>∃p ys,xs=[.ref p]/\(SqL X.K H p ys\/SqT X.K H p ys)/\∀l,H l=none->Q (.ref l) (upd H l (.lst ys))):=by
 intro pins s σ H xs us Q I r h;obtain⟨p,ys,rfl,hq,q⟩:=h;obtain⟨u,rfl,rx⟩:=jio r;cases rx;have fin:∀(its:List Ai),Vals ys its->ys.length<=Ap->∀(h':Heap) (c':Nat),(∀b o',s.heap.get? b=some o'->h'.get? b=some o') ->
   h'.get? s.heap.objs.size=some {cls:=.type "list",dict:=none,data:=.seq its.toArray c',slots:=#[]}->EP X pins σ Q (.ref s.heap.objs.size) {s with heap:=h'}:=λits r' hz h' c' kp e =>
  ⟨.ref s.heap.objs.size,_,I.laid (t':=s.toks) kp (Al _) (show ObjOk X.prog X.w _ h' _ (.lst ys)from⟨hz,its,c',r',e⟩),rfl,q _ (I.hok.fresh (Al _))⟩
 rcases hq with hq | hq
 ·obtain⟨its,r',pl,hz⟩:=I.list hq;have hlen:=r'.length;obtain⟨o,ho,hc,n,hd⟩:=pl.isList;exact call_list_seq p (.inl rfl) ho hc hd (λh' c' kp e=>fin its r' hz h' c' kp e) (by simp only[A2]<;>omega)
 ·obtain⟨its,r',pl,hz⟩:=I.tuple hq;have hlen:=r'.length;obtain⟨o,ho,hc,n,hd⟩:=pl;exact call_list_seq p (.inr rfl) ho hc hd (λh' c' kp e=>fin its r' hz h' c' kp e) (by simp only[A2]<;>omega)
theorem jjl:CallR X (.type "tuple") (λxs H Q=>∃p ys,xs=[.ref p]/\((SqL X.K H p ys/\∀l,H l=none->Q (.ref l) (upd H l (.tup ys)))\/(SqT X.K H p ys/\Q (.ref p) H))):=by
 intro pins s σ H xs us Q I r h;obtain⟨p,ys,rfl,h⟩:=h;obtain⟨u,rfl,rx⟩:=jio r;cases rx;rcases h with⟨hq,q⟩ | ⟨hq,q⟩
 ·obtain⟨its,r',pl,hz⟩:=I.list hq;have hlen:=r'.length;refine call_tuple_list pl.isList (λh' kp=>?_) (by simp only[A2]<;>omega);have I1:Inv X pins σ H {s with heap:=h'}:=I.kept (t':=s.toks) kp;have I2:Inv X pins σ (upd H h'.objs.size (.tup ys)) {s with heap:=h'.push {cls:=.type "tuple",data:=.seq its.toArray}} :=
   I1.laid (t':=s.toks) (λb o e=>Ag _ e) (Al _) (show ObjOk X.prog X.w _ _ _ (.tup ys)from⟨hz,its,r',IsTupP.new _ _⟩)
  exact⟨.ref h'.objs.size,_,I2,rfl,q _ (I1.hok.fresh (Al _))⟩
 ·obtain⟨its,r',pl,hz⟩:=I.tuple hq;exact call_tuple_same pl ⟨.ref p,H,I,rfl,q⟩
def tyV (K:Ah) (T:String) (x:V) (H:Hp):Prop:=match x with
 |.str _=>T="str"
 |.int _=>T="int"
 |.ref p=>(T="list"/\∃xs,SqL K H p xs)\/(T="tuple"/\∃o,K.lookup p=some o/\o.cls=.type "tuple"/\o.dict=none) \/
   (T="dict"/\((∃kvs,H p=some (.dK kvs))\/∃kvs,H p=some (.dT kvs)))\/(T="set"/\∃S n,H p=some (.set S n))
 |_=>False
theorem jvd {pins:List (Addr×Obj)} {σ:St} {H:Hp} {s:Am} {T:String} {x:V} {v:Ai} (I:Inv X pins σ H s) (r:RelV x v) (ty:tyV X.K T x H) :
  s.TypeIs v T/\∀a,v=.ref a->∃ob,s.heap.get? a=some ob/\ob.dict=none:=by
 cases x with
 |str z =>
  obtain⟨t,rfl⟩:=r;cases(show T="str" from ty);exact⟨typeIs_str s z t,λ_ e=>nomatch e⟩
 |int i =>
  obtain⟨t,rfl⟩:=r;cases(show T="int" from ty);exact⟨typeIs_int s i t,λ_ e=>nomatch e⟩
 |ref p =>
  cases r;rcases ty with⟨rfl,xs,hq⟩ | ⟨rfl,o,hk,hc,hd⟩ | ⟨rfl,hk⟩ | ⟨rfl,S,n,hk⟩
  ·obtain⟨its,_,pl,_⟩:=I.list hq;refine⟨pl.isList.typeIs,λa e=>?_⟩;cases e;obtain⟨o,n,e,c,hd,_⟩:=pl;exact⟨o,e,hd⟩
  ·refine⟨⟨o,I.kIn p o hk,hc⟩,λa e=>?_⟩;cases e;exact⟨o,I.kIn _ o hk,hd⟩
  ·have z:∃o,s.heap.get? p=some o/\o.ExactDict:=by
    rcases hk with⟨kvs,hk⟩ | ⟨kvs,hk⟩
    ·obtain⟨_,_,_,_,o,_,_,e,ex,_⟩:=I.hok p _ hk;exact⟨o,e,ex⟩
    ·obtain⟨_,_,_,_,o,_,_,e,ex,_⟩:=I.hok p _ hk;exact⟨o,e,ex⟩
   obtain⟨o,e,ex⟩:=z;refine⟨⟨o,e,ex.1⟩,λa e2=>?_⟩;cases e2;exact⟨o,e,ex.2.1⟩
  ·obtain⟨o,_,_,_,e,ex,_⟩:=I.hok p _ hk;refine⟨⟨o,e,ex.1⟩,λa e2=>?_⟩;cases e2;exact⟨o,e,ex.2.1⟩
 |_=>exact False.elim ty
def tBM0 (K:Ah) (T:String) (r:V->List V->Hp->VK->Prop) (to:TE):TE:=λσ H Q=>to σ H λx H1=>tyV K T x H1/\r x [] H1 Q
def tBM (K:Ah) (T:String) (r:V->List V->Hp->VK->Prop) (to:TE) (t:TA):TE:=λσ H Q=>to σ H λx H1=>tyV K T x H1/\t σ H1 λxs H2=>r x xs H2 Q
variable {o e:Expr} {es:List Expr} {to:TE} {t:TA} {name:Str} {apos cpos:Pos} {T id:String} {r:V->List V->Hp->VK->Prop}
theorem j0s (pa:PlainAttrs T) (slot:Slot T name id) (hty:typeOf (.builtin id)=pure (.type "method_descriptor")) (hm:MtR X id r) (ho:PE X o to)
  (hbase:attributeBase o name X.env (eval o X.env)=eval o X.env:=by rfl) (hline:(apos.endLine==cpos.line)=true:=by rfl):PE X (.Call (.Attribute o name apos) [] [] cpos) (tBM0 X.K T r to):=by
 intro pins s σ H Q I h;refine wpAny_Call_method0_late hbase hline (thn (ho pins s σ H _ I h) λv s1 ⟨x,H1,I1,r1,ty,q1⟩=>?_);obtain⟨h1,h2⟩:=jvd I1 r1 ty;exact⟨T,id,pa,slot,hty,h1,h2,Calls.callWith_builtin rfl (PySem.evalArgs_none (hm pins s1 σ H1 x [] v [] Q I1 r1 .nil q1))⟩
theorem j3y (pa:PlainAttrs T) (slot:Slot T name id) (hty:typeOf (.builtin id)=pure (.type "method_descriptor")) (hm:MtR X id r) (ho:PE X o to) (ha:PA X (e::es) t)
  (hbase:attributeBase o name X.env (eval o X.env)=eval o X.env:=by rfl)
  (hfew:((C8 cpos (Au (e::es) X.env)).all (λx=>!x.1)&&(backToKw cpos (keywordEach [] X.env)).all (λx=>x.1.isSome)
   && decide ((e::es).length+([]:List Keyword).length+(if ([]:List Keyword).isEmpty then 0 else 1) < 30))=true:=by rfl)
  (hline:(apos.endLine==cpos.line)=true:=by rfl) (hs:Au (e::es) X.env=(false,eval e X.env)::Au es X.env:=by rfl) (hplain:(C8 cpos (Au es X.env)).any (·.1)=false:=by rfl) :
  PE X (.Call (.Attribute o name apos) (e::es) [] cpos) (tBM X.K T r to t):=by
 intro pins s σ H Q I h;refine wpAny_Call_method_late hbase hfew hline rfl (thn (ho pins s σ H _ I h) λv s1 ⟨x,H1,I1,r1,ty,q1⟩=>?_);obtain⟨h1,h2⟩:=jvd I1 r1 ty;refine⟨T,id,pa,slot,hty,h1,h2,?_⟩;have hA:=ha cpos pins s1 σ H1 _ I1 q1;rw[hs]at hA ⊢;refine Calls.callWith_builtin (by show(false || (C8 cpos (Au es X.env)).any (·.1))=false;rw[hplain]<;>rfl) (Calls.evalArgs_plain ?_);exact thn hA λus s2 ⟨vs,H2,I2,r2,q2⟩=>hm pins s2 σ H2 x vs v us Q I2 r1 r2 q2
end
def MtM (X:Cx) (id:String) (r:V->List V->Hp->VK->Prop):Prop :=
 ∀(pins:List (Addr×Obj)) (s:Am) (σ:St) (H:Hp) (x:V) (xs:List V) (v:Ai) (us:List Ai) (Q:VK),Inv X pins σ H s->RelV x v->Vals xs us->r x xs H Q ->
  A3 (Bc X.prog X.w) X.A (call (.builtin id) (v::us)) (EP X pins σ Q) X.xe s
theorem Vals.one:∀{x:V} {us:List Ai},Vals [x] us->∃u,us=[u]/\RelV x u
 |_,_,.cons r .nil=>⟨_,rfl,r⟩
theorem Vals.zero:∀{us:List Ai},Vals [] us->us=[]
 |_,.nil=>rfl
theorem Vals.rep {xs:List V} {us:List Ai} (h:Vals xs us):∀k:Nat,Vals (A9 k xs).flatten (A9 k us).flatten
 |0=>.nil
 |k+1=>by
  rw[Dc,Dc,E6,E6];exact Vals.append h (Vals.rep h k)
theorem jk4 (its:List Ai):∀(k:Nat) (acc:List Ai),
  List.foldl (λx1 x2=>x1++x2) acc.toArray (A9 k its.toArray)=(acc++(A9 k its).flatten).toArray
 |0,acc=>by simp
 |k+1,acc=>by
  have e:acc.toArray++its.toArray=(acc++its).toArray:=by simp
  have e2:(acc++its)++(A9 k its).flatten=acc++(A9 (k+1) its).flatten:=by
   rw[Dc,E6,Bk]
  rw[<-e2,<-jk4 its k (acc++its),<-e,Dc,List.foldl_cons]
section
variable {X:Cx} {pins:List (Addr×Obj)} {σ:St} {H:Hp} {s:Am} {l b:Addr} {xs ys zs:List V}
theorem Inv.lset {its its':List Ai} {n:Nat} {f:Array Ai->Array Ai} {t':Nat} (I:Inv X pins σ H s) (hH:H l=some (.lst xs))
  (e:s.heap.get? l=some {cls:=.type "list",data:=.seq its.toArray n}) (hf:f its.toArray=its'.toArray) (hv:Vals ys its') (hz:ys.length<=Ap) :
  Inv X pins σ (upd H l (.lst ys)) {s with heap:=s.heap.update l (B8 f),toks:=t'}:=by
 have q:=PySem.IsL.update e f;rw[hf]at q;refine I.write (x:=l) (e:=l) (by rw[hH];exact trivial) (.inl rfl) (λb' u hb hu=>(Df s.heap (B8 f) (Ne.symm hb)).trans hu) ⟨_,q⟩ ?_;exact⟨hz,its',_,hv,q⟩
theorem Inv.lnew {its:List Ai} {t':Nat} (I:Inv X pins σ H s) (hv:Vals ys its) (hz:ys.length<=Ap) :
  Inv X pins σ (upd H s.heap.objs.size (.lst ys)) {s with heap:=s.heap.push {cls:=.type "list",data:=.seq its.toArray},toks:=t'} :=
 I.laid (λ_ _ q=>Ag _ q) (Al _) ⟨hz,its,0,hv,A8 _ rfl⟩
theorem Inv.fresh (I:Inv X pins σ H s):H s.heap.objs.size=none:=I.hok.fresh (Al _)
theorem Inv.lstM (I:Inv X pins σ H s) (hH:H l=some (.lst xs)):xs.length<=Ap/\∃(its:List Ai) (n:Nat),Vals xs its/\xs.length=its.length/\s.heap.get? l=some {cls:=.type "list",data:=.seq its.toArray n}:=by
 obtain⟨z,its,n,r,e⟩:=I.hok l _ hH;exact⟨z,its,n,r,r.length,e⟩
theorem jnk {n:Nat} (h:n<=Ap):Ed n=false:=by
 unfold Ed;exact decide_eq_false (by omega)
end
section
variable {X:Cx}
def jqs:V->List V->Hp->VK->Prop:=λx vs H Q=>∃l xs y,x=.ref l/\vs=[y]/\H l=some (.lst xs)/\xs.length < Ap/\Q .non (upd H l (.lst (xs++[y])))
theorem jf4:MtM X "list.append" jqs:=by
 intro pins s σ H x vs v us Q I rx rv h;obtain⟨l,xs,y,rfl,rfl,hH,hz,q⟩:=h;cases rx;obtain⟨u,rfl,ru⟩:=rv.one;obtain⟨z,its,n,r,hl,e⟩:=I.lstM hH;refine call_meets F.slot_list_append ⟨_,e,rfl⟩ F.entry_list_append (F.args_list_append_2 _ _) (PySem.list_append l its.toArray n u (by rw[A2];omega)) ⟨e,?_⟩;refine⟨.non,_,I.lset (its':=its++[u]) hH e (by simp) (r.append (.cons ru .nil)) ?_,rfl,q⟩;rw[Ak,As];omega
def jxa:V->List V->Hp->VK->Prop:=λx vs H Q=>∃l b xs zs,x=.ref l/\vs=[.ref b]/\H l=some (.lst xs)/\H b=some (.lst zs)/\xs.length+zs.length<=Ap/\Q .non (upd H l (.lst (xs++zs)))
theorem j1b:MtM X "list.extend" jxa:=by
 intro pins s σ H x vs v us Q I rx rv h;obtain⟨l,b,xs,zs,rfl,rfl,hH,hB,hz,q⟩:=h;cases rx;obtain⟨u,rfl,ru⟩:=rv.one;cases ru;obtain⟨z,its,n,r,hl,e⟩:=I.lstM hH;obtain⟨z2,its2,n2,r2,hl2,e2⟩:=I.lstM hB;have hsz:its.toArray.size+its2.toArray.size<=Ap:=by rw[A2,A2];omega
 have hlong:¬(!its.toArray.isEmpty&&Ed (its.toArray.size+its2.toArray.size))=true:=by
  rw[jnk hsz,Bool.and_false];exact Ae
 refine call_meets F.slot_list_extend ⟨_,e,rfl⟩ F.entry_list_extend (F.args_list_extend_2 _ _)
  (AutoSeq1.list_extend_list_list_0 l its.toArray n b its2.toArray n2 hlong (by rw[A2];omega) (by omega)) ⟨e,e2,?_⟩
 refine⟨.non,_,I.lset (its':=its++its2) hH e (by simp) (r.append r2) ?_,rfl,q⟩;rw[Ak];omega
def rCat:R2:=λx y H Q=>∃l b xs zs,x=.ref l/\y=.ref b/\H l=some (.lst xs)/\H b=some (.lst zs)/\xs.length+zs.length<=Ap/\∀p,H p=none->Q (.ref p) (upd H p (.lst (xs++zs)))
theorem jrb:OpR X (Du .Add) rCat:=by
 intro pins s σ H x y v u Q I rx ry h;obtain⟨l,b,xs,zs,rfl,rfl,hH,hB,hz,q⟩:=h;cases rx;cases ry;obtain⟨z,its,n,r,hl,e⟩:=I.lstM hH;obtain⟨z2,its2,n2,r2,hl2,e2⟩:=I.lstM hB;refine PySem.P.add_list e e2 ?_ (by rw[A2,A2];omega);have ea:its.toArray++its2.toArray=(its++its2).toArray:=by simp
 rw[ea];exact⟨.ref _,_,I.lnew (t':=s.toks) (r.append r2) (by rw[Ak];omega),rfl,q _ I.fresh⟩
def rRep:R2:=λx y H Q=>∃l k xs,x=.ref l/\y=.int k/\H l=some (.lst xs)/\-(2 ^ 63)<=k/\k < 2 ^ 63/\xs.length*k.toNat<=Ap /\
 ∀p,H p=none->Q (.ref p) (upd H p (.lst (A9 k.toNat xs).flatten))
theorem jxz {α:Type} (xs:List α) (k:Nat):(A9 k xs).flatten.length=k*xs.length:=by
 induction k with
 |zero=>simp
 |succ k ih=>rw[Dc,E6,Ak,ih,Nat.succ_mul,Nat.add_comm]
theorem j0x:OpR X (Du .Mult) rRep:=by
 intro pins s σ H x y v u Q I rx ry h;obtain⟨l,k,xs,rfl,rfl,hH,h1,h2,hz,q⟩:=h;cases rx;obtain⟨t,rfl⟩:=ry;obtain⟨z,its,n,r,hl,e⟩:=I.lstM hH;have hlen:its.toArray.size*k.toNat<=Ap:=by rw[A2,<-hl];exact hz
 have hcap:¬its.toArray.size*k.toNat > (2 ^ 63 - 1) / 8:=by
  have:(Ap:Nat)<=(2 ^ 63 - 1) / 8:=by decide
  omega
 have hfit:¬(!Builtin.List.listFitsIndex k)=true:=by
  rw[fitsIndex_both h1 h2];exact Ae
 have hlong:¬Ed (its.toArray.size*k.toNat)=true:=by
  rw[jnk hlen];exact Ae
 have hnew:List.foldl (λx1 x2=>x1++x2) #[] (A9 (if its.toArray.isEmpty=true then 0 else k.toNat) its.toArray)=(A9 k.toNat its).flatten.toArray:=by
  have f0:∀m:Nat,List.foldl (λx1 x2=>x1++x2) #[] (A9 m its.toArray)=(A9 m its).flatten.toArray:=λm=>by
   have:=jk4 its m [];rw[Bi]at this;exact this
  rw[f0];cases its with
  |nil=>simp
  |cons a r'=>rw[if_neg (by simp)]
 refine wpAny_binaryOp_repeat_ref (T:="list") (U:="int") (by decide) ⟨_,e,rfl⟩ (λs'=>typeIs_int s' k t) noFill_list_mul F.fills_int_mul F.slot_int_rmul repeat_list F.slot_int_index.lookup
  (call_meets F.slot_int_rmul (typeIs_int s k t) F.entry_int_rmul (F.args_int_rmul_2 _ _) (int___rmul___int_list k t l its.toArray n)
   ⟨e,rfl,⟨_,e,rfl⟩,call_meets F.slot_list_mul ⟨_,e,rfl⟩ F.entry_list_mul (F.args_list_mul_2 _ _) (AutoListH.list___mul___list_int_3 l its.toArray n k t hfit hcap hlong) ⟨e,?_⟩⟩)
 rw[hnew];exact⟨.ref _,_,I.lnew (t':=s.toks) (r.rep k.toNat) (by rw[jxz,Nat.mul_comm];exact hz),rfl,q _ I.fresh⟩
end
section
variable {κ:Type} [DecidableEq κ]
def valV (kvs:List (κ×V)) (k:κ):Option V:=(kvs.find? λkv=>decide (kv.1=k)).map (·.2)
def putK (kvs:List (κ×V)) (k:κ) (v:V):List (κ×V) :=
 if (kvs.any λkv=>decide (kv.1=k))=true then kvs.map (λkv=>if kv.1=k then(kv.1,v)else kv)else kvs++[(k,v)]
theorem jip {p:κ×V} {r:List (κ×V)} {k:κ} (e:p.1=k):valV (p::r) k=some p.2:=by simp[valV,By,e]
theorem jiq {p:κ×V} {r:List (κ×V)} {k:κ} (e:¬p.1=k):valV (p::r) k=valV r k:=by simp[valV,By,e]
theorem jmz (k:κ):∀kvs:List (κ×V),(kvs.any λkv=>decide (kv.1=k))=(valV kvs k).isSome
 |[]=>rfl
 |p::r=>by
  rw[C6];by_cases e:p.1=k
  ·simp only[jip e,decide_eq_true e,Bool.true_or,Option.isSome_some]
  ·rw[jiq e,decide_eq_false e,Bool.false_or];exact jmz k r
theorem jdl (kvs:List (κ×V)) (k:κ) (v:V):(putK kvs k v).length<=kvs.length+1:=by
 unfold putK
 split
 ·rw[Ab];omega
 ·rw[Ak,Ao,List.length_nil];omega
theorem RelO.isSome_eq {o:Option V} {u:Option Ai} (r:RelO o u):o.isSome=u.isSome:=by
 cases o with
 |none=>cases u with
  |none=>rfl
  |some _=>exact(show False from r).elim
 |some _=>cases u with
  |none=>exact(show False from r).elim
  |some _=>rfl
theorem KV.val {kvs:List (κ×V)} {vs:List (κ×Ai)} (r:KV kvs vs) (k:κ):RelO (valV kvs k) (valueAt vs k):=by
 unfold KV at r
 induction r with
 |nil=>exact Ef
 |@cons p q ps qs h t ih =>
  obtain⟨h1,h2⟩:=h;by_cases e:p.1=k
  ·have e':q.1=k:=h1.symm.trans e;have b:valueAt (q::qs) k=some q.2:=by simp[valueAt,By,e']
   rw[jip e,b];exact h2
  ·have e':¬q.1=k:=λz=>e (h1.trans z);have b:valueAt (q::qs) k=valueAt qs k:=by simp[valueAt,By,e']
   rw[jiq e,b];exact ih
theorem KV.any {kvs:List (κ×V)} {vs:List (κ×Ai)} (r:KV kvs vs) (k:κ):(kvs.any λkv=>decide (kv.1=k))=vs.any λkv=>decide (kv.1=k):=by
 unfold KV at r
 induction r with
 |nil=>rfl
 |cons h t ih=>rw[C6,C6,ih,h.1]
theorem KV.repl {kvs:List (κ×V)} {vs:List (κ×Ai)} (r:KV kvs vs) (k:κ) {y:V} {u:Ai} (ry:RelV y u) :
  KV (kvs.map λkv=>if kv.1=k then(kv.1,y)else kv) (vs.map λkv=>if kv.1=k then(kv.1,u)else kv):=by
 unfold KV at r ⊢
 induction r with
 |nil=>exact .nil
 |@cons p q ps qs h t ih =>
  rw[Be,Be];refine .cons ?_ ih;obtain⟨h1,h2⟩:=h;by_cases e:p.1=k
  ·rw[if_pos e,if_pos (h1.symm.trans e)];exact⟨h1,ry⟩
  ·rw[if_neg e,if_neg (λz=>e (h1.trans z))];exact⟨h1,h2⟩
theorem KV.put {kvs:List (κ×V)} {vs:List (κ×Ai)} (r:KV kvs vs) (k:κ) {y:V} {u:Ai} (ry:RelV y u):KV (putK kvs k y) (stored vs k u):=by
 unfold putK stored;rw[r.any k];by_cases e:(vs.any λkv=>decide (kv.1=k))=true
 ·rw[if_pos e,if_pos e];exact r.repl k ry
 ·rw[if_neg e,if_neg e];exact Paired.snoc r ⟨rfl,ry⟩
theorem KV.length {kvs:List (κ×V)} {vs:List (κ×Ai)} (r:KV kvs vs):kvs.length=vs.length:=Paired.length r
end
theorem jrr {P:Bg} {w:Bw} {k:Key} {u:Ai} (r:RelV (kV k) u):(ja6 P w).is k u=true:=by
 cases k with
 |inl i=>obtain⟨t,e⟩:=(show ∃t,u=Value.int i t from r);subst e;exact jl8 P w i t
 |inr x=>obtain⟨t,e⟩:=(show ∃t,u=Value.str x t from r);subst e;exact jl7 P w x t
theorem jkv {P:Bg} {w:Bw}:∀{ks:List Key} {us:List Ai},Vals (ks.map kV) us->ItemsAre (ja6 P w) ks us
 |[],_,r=>by rw[Ei]at r;cases r;exact .nil
 |k::ks,_,r=>by
  rw[Be]at r;cases r with
  |cons h t=>exact .cons (jrr h) (jkv t)
abbrev KT (H:Hp):List (List Key×V)->List (List Key×Addr×Ai)->Prop:=Paired λp q=>p.1=q.1/\H q.2.1=some (.tup (p.1.map kV))/\RelV p.2 q.2.2
theorem KT.val {H:Hp} {kvs:List (List Key×V)} {xs:List (List Key×Addr×Ai)} (r:KT H kvs xs) (k:List Key):RelO (valV kvs k) ((atKey xs k).map (·.2)):=by
 induction r with
 |nil=>exact Ef
 |@cons p q ps qs h t ih =>
  obtain⟨h1,_,h2⟩:=h;by_cases e:p.1=k
  ·have e':q.1=k:=h1.symm.trans e;have b:atKey (q::qs) k=some q.2:=by simp[atKey,By,e']
   rw[jip e,b];exact h2
  ·have e':¬q.1=k:=λz=>e (h1.trans z);have b:atKey (q::qs) k=atKey qs k:=by simp[atKey,By,e']
   rw[jiq e,b];exact ih
theorem KT.repl {H:Hp} {kvs:List (List Key×V)} {xs:List (List Key×Addr×Ai)} (r:KT H kvs xs) (k:List Key) {y:V} {u:Ai} (ry:RelV y u) :
  KT H (kvs.map λkv=>if kv.1=k then(kv.1,y)else kv) (xs.map (putAt k u)):=by
 induction r with
 |nil=>exact .nil
 |@cons p q ps qs h t ih =>
  rw[Be,Be];refine .cons ?_ ih;obtain⟨h1,h2,h3⟩:=h;unfold putAt;by_cases e:p.1=k
  ·rw[if_pos e,if_pos (h1.symm.trans e)];exact⟨h1,h2,ry⟩
  ·rw[if_neg e,if_neg (λz=>e (h1.trans z))];exact⟨h1,h2,h3⟩
theorem KT.put {H:Hp} {kvs:List (List Key×V)} {xs:List (List Key×Addr×Ai)} (r:KT H kvs xs) (k:List Key) {b:Addr} {y:V} {u:Ai} (hb:H b=some (.tup (k.map kV))) (ry:RelV y u) :
  KT H (putK kvs k y) (storedH xs k b u):=by
 have e:(kvs.any λkv=>decide (kv.1=k))=(atKey xs k).isSome:=by
  rw[jmz,(r.val k).isSome_eq,Option.isSome_map]
 unfold putK storedH;rw[e];by_cases q:(atKey xs k).isSome=true
 ·rw[if_pos q,if_pos q];exact r.repl k ry
 ·rw[if_neg q,if_neg q];exact Paired.snoc r ⟨rfl,hb,ry⟩
theorem KT.keeps {H H':Hp} {kvs:List (List Key×V)} {xs:List (List Key×Addr×Ai)} (r:KT H kvs xs) (ht:∀b ys,H b=some (.tup ys)->H' b=some (.tup ys)):KT H' kvs xs :=
 Paired.mapP r λ_ _ z=>⟨z.1,ht _ _ z.2.1,z.2.2⟩
section
variable {P:Bg} {w:Bw} {H:Hp} {h:Heap} {a:Addr}
theorem j0b {u:HO} (ok:HOk P w H h) (e:Rd H a u):ObjOk P w H h a u:=e.ok ok
theorem jup {kvs:List (Key×V)} (ok:HOk P w H h) (e:Rd H a (.dK kvs)):kvs.length<=Ap/\(a==Es)=false/\∃vs,KV kvs vs/\h.DictOf (ja6 P w) a vs :=
 show ObjOk P w H h a (.dK kvs)from j0b ok e
theorem j2h {kvs:List (Key×V)} (ok:HOk P w H h) (e:H a=some (.dK kvs)):kvs.length<=Ap/\(a==Es)=false/\∃vs,KV kvs vs/\h.DictOf (ja6 P w) a vs:=jup ok (.inl e)
theorem jnu {ks:List Key} (ok:HOk P w H h) (e:H a=some (.tup (ks.map kV))):(tupleKind (ja6 P w)).is h ks a:=by
 obtain⟨_,its,r,o,h1,h2,⟨n,h3⟩,_⟩:=(show ObjOk P w H h a (.tup (ks.map kV))from ok a _ e);exact⟨o,its.toArray,n,h1,h2,h3,by simpa using jkv r⟩
theorem jun {kvs:List (List Key×V)} (ok:HOk P w H h) (e:Rd H a (.dT kvs)):kvs.length<=Ap/\(a==Es)=false /\
  ∃xs,KT H kvs xs/\h.DictOfH (tupleKind (ja6 P w)) a xs:=by
 obtain⟨z,y,xs,r,o,es,ep,h1,h2,h3,h4,h5⟩:=(show ObjOk P w H h a (.dT kvs)from j0b ok e);refine⟨z,y,xs,r,o,es,ep,h1,h2,h3,h4,λx hx=>?_,h5⟩;have all:∀{l:List (List Key×V)} {m:List (List Key×Addr×Ai)},KT H l m->∀x∈m,(tupleKind (ja6 P w)).is h x.1 x.2.1:=by
  intro l m q
  induction q with
  |nil=>intro x hx;exact nomatch hx
  |@cons p q ps qs hq t ih =>
   intro x hx;rcases Ar.mp hx with e | hx
   ·subst e;exact jnu ok (by rw[<-hq.1];exact hq.2.1)
   ·exact ih x hx
 exact all r x hx
theorem j4m {kvs:List (List Key×V)} (ok:HOk P w H h) (e:H a=some (.dT kvs)):kvs.length<=Ap/\(a==Es)=false /\
  ∃xs,KT H kvs xs/\h.DictOfH (tupleKind (ja6 P w)) a xs:=jun ok (.inl e)
end
def DGet (H:Hp) (a:Addr) (y:V) (r:Option V):Prop :=
 (∃kvs k,Rd H a (.dK kvs)/\y=kV k/\r=valV kvs k)\/∃kvs k b,Rd H a (.dT kvs)/\y=.ref b/\H b=some (.tup (k.map kV))/\r=valV kvs k
def DPut (H:Hp) (a:Addr) (y v:V) (H':Hp):Prop :=
 (∃kvs k,H a=some (.dK kvs)/\y=kV k/\kvs.length < Ap/\H'=upd H a (.dK (putK kvs k v))) \/
 ∃kvs k b,H a=some (.dT kvs)/\y=.ref b/\H b=some (.tup (k.map kV))/\kvs.length < Ap/\H'=upd H a (.dT (putK kvs k v))
theorem DPut.k {H:Hp} {a:Addr} {kvs:List (Key×V)} {k:Key} {v:V} (e:H a=some (.dK kvs)) (hl:kvs.length < Ap):DPut H a (kV k) v (upd H a (.dK (putK kvs k v))):=.inl ⟨kvs,k,e,rfl,hl,rfl⟩
section
variable {X:Cx} {pins:List (Addr×Obj)} {σ:St} {H:Hp} {s:Am} {a:Addr} {y v:V} {u r:Ai} {o:Option V} {A:Cb} {E:Ai->Am->Prop}
theorem Inv.big (I:Inv X pins σ H s):Es < s.heap.objs.size:=by
 have h:C2 < s.heap.objs.size:=(I.mod.glob.keeps I.bk).lt;exact Nat.lt_trans (by decide) h
theorem jse {Q:Ai->Am->Prop} (hu:A.units+1 < cLine) (I:Inv X pins σ H s) (g:DGet H a y (some v)) (ry:RelV y u) (h:∀w' s',Inv X pins σ H s'->RelV v w'->Q w' s') :
  A3 (Bc X.prog X.w) A (getItem (.ref a) u) Q E s:=by
 rcases g with⟨kvs,k,e,ey,l⟩ | ⟨kvs,k,b,e,ey,eb,l⟩
 ·subst ey;obtain⟨z,hd,vs,rel,dd⟩:=jup I.hok e;obtain⟨w',hw,rw'⟩:=RelO.some_of (v:=v) (o:=valueAt vs k) (by rw[l];exact rel.val k);exact wpAny_getItem_of (jrr ry) dd.mapOf hw (h w' _ (I.tok _) rw')
 ·subst ey;cases(show u=A5 b from ry);obtain⟨z,hd,xs,rel,dd⟩:=jun I.hok e;obtain⟨w',hw,rw'⟩:=RelO.some_of (v:=v) (o:=(atKey xs k).map (·.2)) (by rw[l];exact rel.val k);obtain⟨p,hp,hp2⟩:=Option.map_eq_some_iff.mp hw;refine wpAny_getItem_heap (tupleKind_room_in1 hu) (jnu I.hok eb) dd hp ?_;rw[hp2];exact h w' _ (I.tok _) rw'
theorem d_in {Q:Ai->Am->Prop} (hu:A.units+1 < cLine) (I:Inv X pins σ H s) (g:DGet H a y o) (ry:RelV y u) (h:∀s',Inv X pins σ H s'->Q (.bool o.isSome) s') :
  A3 (Bc X.prog X.w) A (Bz .In u (.ref a)) Q E s:=by
 rcases g with⟨kvs,k,e,ey,l⟩ | ⟨kvs,k,b,e,ey,eb,l⟩
 ·subst ey;obtain⟨z,hd,vs,rel,dd⟩:=jup I.hok e;refine wpAny_in_of (jrr ry) hd dd.mapOf ?_;rw[<-(rel.val k).isSome_eq,<-l];exact h _ (I.tok _)
 ·subst ey;cases(show u=A5 b from ry);obtain⟨z,hd,xs,rel,dd⟩:=jun I.hok e;refine wpAny_in_heap (tupleKind_room_in1 hu) (jnu I.hok eb) hd dd ?_;have q:=(rel.val k).isSome_eq;rw[Option.isSome_map]at q;rw[<-q,<-l];exact h _ (I.tok _)
theorem jmh {h':Heap} {t':Nat} {ob:HO} (I:Inv X pins σ H s) (mu:Mut (H a)) (hs:Dg a s.heap h') (he:∃q,h'.get? a=some q) (new:ObjOk X.prog X.w (upd H a ob) h' a ob) :
  Inv X pins σ (upd H a ob) {s with heap:=h',toks:=t'} :=
 I.write (x:=a) (e:=a) mu (.inl rfl) (λb q hb z=>(hs.2 b hb).trans z) he new
theorem jwe {P:Bg} {w:Bw} {H':Hp} {h':Heap} {kvs:List (Key×V)} {vs:List (Key×Ai)} (z:kvs.length<=Ap) (hd:(a==Es)=false) (rel:KV kvs vs) (dd:h'.DictOf (ja6 P w) a vs) :
  ObjOk P w H' h' a (.dK kvs):=⟨z,hd,vs,rel,dd⟩
theorem jsd {H':Hp} {Q:Unit->Am->Prop} (hu:A.units+1 < cLine) (I:Inv X pins σ H s) (g:DPut H a y v H') (ry:RelV y u) (rv:RelV v r) (h:∀s',Inv X pins σ H' s'->Q () s') :
  A3 (Bc X.prog X.w) A (setItem (.ref a) u r) Q E s:=by
 rcases g with⟨kvs,k,e,ey,l,eH⟩ | ⟨kvs,k,b,e,ey,eb,l,eH⟩
 ·subst ey eH;obtain⟨z,hd,vs,rel,dd⟩:=j2h I.hok e;have hz:vs.length<=Ap:=by rw[<-rel.length];exact z
  have hl:(putK kvs k v).length<=Ap:=by have:=jdl kvs k v;omega
  refine wpAny_setItem_pairs (hsz:=hz) (jrr ry) dd λh' dd' hs=>h _ ?_;have he:∃q,h'.get? a=some q:=let⟨q,_,_,hq,_⟩:=dd';⟨q,hq⟩;exact jmh I (by rw[e];exact Ef) hs he (jwe hl hd (rel.put k rv) dd')
 ·subst ey eH;cases(show u=A5 b from ry);obtain⟨z,hd,xs,rel,dd⟩:=j4m I.hok e;have hz:xs.length<=Ap:=by rw[<-Paired.length rel];exact z
  have hl:(putK kvs k v).length<=Ap:=by have:=jdl kvs k v;omega
  refine wpAny_setItem_heap (hsz:=hz) (tupleKind_room_in1 hu) (jnu I.hok eb) dd λh' dd' hs=>h _ ?_;obtain⟨q,es,ep,hq,h2,h3,h4,_,h5⟩:=dd';refine jmh I (by rw[e];exact Ef) hs ⟨q,hq⟩ ⟨hl,hd,_,(rel.put k eb rv).keeps λc ys ec=>?_,q,es,ep,hq,h2,h3,h4,h5⟩;rw[jag (j1a ec e (λz=>nomatch z))];exact ec
end
def NoSl (i:Expr):Prop:=∀ov iv,subscripted i false ov iv=operate [ov,iv] (getItem ov iv)
theorem jwu {prog:Bg} {w:Bw} {A:Cb} {E:Ai->Am->Prop} {s:Am} {env:Env} {value slice:Expr} {pos:Pos} {T id:String} {Q:Ai->Am->Prop}
  (hl:typeLookup (.type T) "__getitem__"=pure (some (.builtin id))) (hs:NoSl slice)
  (h:A3 (Bc prog w) A (eval value env) (λo s₁=>A3 (Bc prog w) A (eval slice env) (λi s₂=>s₂.TypeIs o T/\A3 (Bc prog w) A (getItem o i) Q E s₂) E s₁) E s) :
  A3 (Bc prog w) A (eval (.Subscript value slice pos) env) Q E s:=by
 refine Subscript_ (C1 h (λo s₁ h₁=>C1 h₁ (λi s₂ h₂=>?_) λ_ _ x=>x) λ_ _ x=>x);obtain⟨hT,h₂⟩:=h₂;unfold subscriptTail;refine Ad ?_;rw[getitemInPython_of_ne hT.not_modules];refine Ad (wpAny_specialOf hT hl ?_);have fin:A3 (Bc prog w) A (subscripted slice false o i) (λr s₃=>A3 (Bc prog w) A (letTemporaryGo value o r>>=λ_=>pure r) Q E s₃) E s₂:=by
  rw[hs o i];exact wpAny_operating (C1 h₂ (λr s₃ h₃=>Ad (wpAny_letTemporaryGo (Av h₃))) λ_ _ x=>x)
 first
  |exact Av (Ad fin)
  |exact Ad (Av (Ad fin))
  |exact Ad fin
theorem jmg {X:Cx} {pins:List (Addr×Obj)} {σ:St} {H:Hp} {s:Am} {a:Addr} {y:V} {o:Option V} (I:Inv X pins σ H s) (g:DGet H a y o):s.TypeIs (.ref a) "dict":=by
 rcases g with⟨kvs,k,e,_,_⟩ | ⟨kvs,k,b,e,_,_,_⟩
 ·obtain⟨_,_,vs,_,dd⟩:=jup I.hok e;exact dd.typeIs
 ·obtain⟨_,_,xs,_,dd⟩:=jun I.hok e;exact dd.typeIs
def jzd (td ty:TE):TE:=λσ H Q=>td σ H λx H1=>ty σ H1 λy H2=>∃a v,x=.ref a/\DGet H2 a y (some v)/\Q v H2
def tDIn (ty td:TE):TE:=λσ H Q=>ty σ H λy H1=>td σ H1 λx H2=>∃a o,x=.ref a/\DGet H2 a y o/\Q (.bl o.isSome) H2
def jz7 (td ty tv:TE):TS:=λD σ H=>tv σ H λv H1=>td σ H1 λx H2=>ty σ H2 λy H3=>∃a H4,x=.ref a/\DPut H3 a y v H4/\D.nx σ H4
section
variable {X:Cx} {o i e value:Expr} {pos pos' tpos:Pos} {td ty tv:TE}
theorem jxk (hu:X.A.units+1 < cLine) (ho:PE X o td) (hi:PE X i ty) (hs:NoSl i):PE X (.Subscript o i pos) (jzd td ty):=by
 intro pins s σ H Q I h;refine jwu PySem.F.slot_dict_getitem.lookup hs (thn (ho pins s σ H _ I h) λu s1 ⟨x,H1,I1,rx,q1⟩=>thn (hi pins s1 σ H1 _ I1 q1) λiv s2 ⟨y,H2,I2,ry,a,v,ex,g,q2⟩=>?_);subst ex;obtain rfl:u=A5 a:=rx;exact⟨jmg I2 g,jse hu I2 g ry λw' s3 I3 rw'=>⟨v,H2,I3,rw',q2⟩⟩
theorem j0u (hu:X.A.units+1 < cLine) (hi:PE X i ty) (ho:PE X o td):PC X .In i o (tDIn ty td):=by
 intro pins s σ H Q I h;refine thn (hi pins s σ H _ I h) λiv s1 ⟨y,H1,I1,ry,q1⟩=>thn (ho pins s1 σ H1 _ I1 q1) λu s2 ⟨x,H2,I2,rx,a,ov,ex,g,q2⟩=>?_;subst ex;obtain rfl:u=A5 a:=rx;exact d_in hu I2 g ry λs3 I3=>⟨.bl ov.isSome,H2,I3,rfl,q2⟩
theorem jxe (hu:X.A.units+1 < cLine) (ho:PE X o td) (hi:PE X i ty) (hv:PE X value tv) (hs:Ex value (some (.Subscript o i pos')) pos.line X.env=pure false) :
  PS X (.Assign [.Subscript o i pos'] value pos) (jz7 td ty tv):=by
 intro pins s σ H D I h;refine wpAny_Assign_Subscript (thn (hv pins s σ H _ I h) λr s1 ⟨v,H1,I1,rv,q1⟩=>thn (ho pins s1 σ H1 _ I1 q1) λu s2 ⟨x,H2,I2,rx,q2⟩=>thn (hi pins s2 σ H2 _ I2 q2) λiv s3 ⟨y,H3,I3,ry,a,H4,ex,g,q3⟩=>?_) hs;subst ex;obtain rfl:u=A5 a:=rx;exact jsd hu I3 g ry rv λs4 I4=>⟨σ,H4,I4,q3⟩
end
theorem juq {P:Bg} {w:Bw} {H:Hp} (h:Heap) (hb:Es < h.objs.size):ObjOk P w H (h.push {cls:=.type "dict",data:=.dict #[]}) h.objs.size (.dK []) :=
 ⟨Bn _,beq_eq_false_iff_ne.mpr (Ne.symm (Bm hb)),[],.nil,Heap.DictOf.new h⟩
def jf5 (kvs more:List (Key×V)):List (Key×V):=more.foldl (λacc kv=>putK acc kv.1 kv.2) kvs
end L2
namespace Att
open PySem PySem.W PySem.Calls PyProof.Rows
theorem jge {P:Params} {h:Heap}:∀(ns:List Int) (vs:List Ai),WellAll P h vs (ns.map WData.int)->IntsAre vs ns:=by
 intro ns
 induction ns with
 |nil =>
  intro vs w;rw[Ei]at w;cases w;exact .nil
 |cons n ns ih =>
  intro vs w;rw[Be]at w;cases w with
  |cons a b =>
   cases a;exact .cons _ _ (ih _ b)
theorem jqi {l:OpenLaw} {n:Nat} (hn:l.most=some n) {P:Params} {h:Heap} {args:List WData} {vals:List Ai}
  (hpre:l.row.toRowW.claim.pre args=true) (hwl:WellAll P h vals args) :
  ∃a vs ns,vals=[A5 a]/\args=[WData.list (ns.map WData.int)]/\h.get? a=some {cls:=.type "list",data:=.seq vs.toArray}/\IntsAre vs ns/\ns.length<=n:=by
 have hsh:WShape.hasAll [] args [.list .int]=true:=(pre_splitW hpre).1;have hc:l.pre.holds [] {args:=args}=true:=(pre_splitW hpre).2;obtain⟨d,r,rfl,h1,h2⟩:=hasAllW_cons hsh;obtain rfl:=hasAllW_nil h2;obtain⟨xs,rfl,h3⟩:=hasW_list h1;obtain⟨ns,rfl⟩:=items_int h3;have hlen:ns.length<=n:=by
  unfold OpenLaw.pre at hc;have h4:(WTm.not (.lt (.lit (.int (n:Int))) (.len (.arg 0)))).holds [] {args:=[.list (ns.map .int)]}=true:=by
   have h4:=(holds_andW hc).1;rw[hn]at h4;exact h4
  have h5:=condW_of h4 (w_not (w_lt w_lit (w_len_list (w_arg rfl))));rw[Ab]at h5;refine Nat.le_of_not_lt λq=>?_;have q':(n:Int) < ((ns.length:Nat):Int):=by omega
  first
   | (rw[decide_eq_true q']at h5;exact absurd h5 (by decide))
   | (simp at h5;omega)
 cases hwl with
 |cons w1 w2 =>
  cases w2;cases w1 with
  |list ho hall=>exact⟨_,_,ns,rfl,rfl,ho,jge ns _ hall,hlen⟩
theorem jqw (l:OpenLaw) (args:List WData):l.row.toRowW.claim.post args (.bool true) args=true :=
 postW_of (r:=l.row.toRowW) (X:=(true==true))
  (show WShape.has [] (.bool true) .bool=true by first | rfl | decide | simp[WShape.has,WShape.arms,WShape.armsAll])
  (show(WTm.eq .res (.lit (.bool true))).value [] {args:=args,res:=some (.bool true),after:=args}=some (.bool (true==true))from w_eq_bool (w_res rfl) w_lit) rfl
theorem attach_call {l:OpenLaw} {n:Nat} {q:Bg} {loose:List Str} {XP:(Str->Option Ai)->Heap->Prop} {YP:Bw->Heap->Prop} {d:DefRec}
  (hn:l.most=some n) (hdf:d.params.defaults=[])
  (call:∀(w:Bw) (s₀ s₁:Am) (mg mb:Str->Option Ai) (fa:Addr) (o:Obj) (pm cd doc:Ai) (a:Addr) (vs:List Ai) (ns:List Int),
   Ground q loose [] XP w s₀ mg mb s₁.heap->YP w s₁.heap ->
   s₁.heap.get? fa=some o->o.data=.func (docDef d.name d.params d.body d.scope pm cd doc)->s₁.heap.CodeRec cd d.name->mg d.name=some (.ref fa) ->
   s₁.heap.get? a=some {cls:=.type "list",data:=.seq vs.toArray}->IntsAre vs ns->ns.length<=n->s₁.gens=#[] ->
   codeAny (Bc l.prog w) callerA (.call (.ref fa) ⟨[.ref a],[]⟩) (λr s'=>r=.ok (.ret (.bool true))/\OldK s₁.heap s'.heap/\s'.os=s₁.os/\AllBare s'.gens) s₁) :
  WalkO q loose XP YP l.row.toRowW d [] (λf vs=>PySem.call f vs):=by
 intro w s₀ s₁ mg mb G Y fa o pm cd doc dV kV ho hd hcd hD hmg hg args vals as hpre hlay hrd hwl hlo;obtain rfl:dV=.none:=Dflts.none hD hdf;obtain rfl:kV=.none:=Dflts.noKw hD;obtain⟨a,vs,ns,rfl,rfl,hobj,hints,hlen⟩:=jqi hn hpre hwl;refine enter_call (codeAny_mono (call w s₀ s₁ mg mb fa o pm cd doc a vs ns G Y ho (fd_plain hd) hcd hmg hobj hints hlen hg) λr s' hq=>?_);obtain⟨rfl,h2,h3,h4⟩:=hq;exact⟨.inl ⟨.bool true,.bool true,[],rfl,λ_=>rfl,.bool true,jqw l _,λ_=>⟨List.Pairwise.nil,λ_ hm=>(nomatch hm)⟩⟩,h2,h3,h4⟩
end Att
namespace L2
open PySem PySem.Spec PyProof.Rows
theorem jjz:∀{vs:List Ai} {ns:List Int},IntsAre vs ns->Vals (ns.map V.int) vs
 |_,_,.nil=>.nil
 |_,_,.cons n t h=>.cons ⟨t,rfl⟩ (jjz h)
def Only (H:Hp):Prop:=∀b,H b=none\/∃o xs,H b=some (.frz o (.lst xs))
theorem jt8 {P:Bg} {w:Bw} {K:Ah} {mg mb:Str->Option Ai} {CX:CXT} {k:Nat} {fa a:Addr} {fd:Ce} {x:Str} {sp:Sp} {s₁:Am} {vs:List Ai} {ns:List Int}
  (KX:K.In s₁.heap) (hns:s₁.heap.Ns C2 mg) (hb:s₁.heap.Ns builtinsNs mb) (hbb:∀x:Str,x≠"__name__"->mb x=Bv x) (hlim:s₁.heap.NoLimit) (hg:s₁.gens=#[])
  (ha:s₁.heap.get? a=some {cls:=.type "list",data:=.seq vs.toArray}) (hi:IntsAre vs ns) (hl:ns.length<=Ap) (hr:Room k callerA)
  (F:∀base:Heap,K.In base->base.Ns C2 mg->FnOk P w K mg base CX k fa fd [x] sp) (hbind:∀(s:Am) (u:Ai),BindsTo s fd ⟨[u],[]⟩ [(x,u)])
  (hsp:∀H:Hp,Only H->SqL K H a (ns.map V.int)->sp [.ref a] H (λv _=>v=.bl true) λ_ _ _=>False)
  (hCX:∀H e s',CX [] H s₁ (λ_ _ _=>False) e s'->False) :
  codeAny (Bc P w) callerA (.call (.ref fa) ⟨[.ref a],[]⟩) (λr s'=>r=.ok (.ret (.bool true))/\OldK s₁.heap s'.heap/\s'.os=s₁.os/\AllBare s'.gens) s₁:=by
 have rv:=jjz hi;have lenV:=hi.length
 -- from an abstract heap in which nothing but the script may be tracked
 have core:∀H:Hp,Only H->SqL K H a (ns.map V.int)->HOk P w H s₁.heap->(∀b,H b≠none->b=a)->(H a≠none->K.lookup a=none) ->
   codeAny (Bc P w) callerA (.call (.ref fa) ⟨[.ref a],[]⟩) (λr s'=>r=.ok (.ret (.bool true))/\OldK s₁.heap s'.heap/\s'.os=s₁.os/\AllBare s'.gens) s₁:=by
  intro H hO hS hok hA hK;have base_of:∀{b:Addr} {o:Obj},s₁.heap.get? b=some o->H b=none->(hidT s₁.heap H).get? b=some o:=λe n=>juh e n;have noA:∀{b:Addr} {o:Obj} {es:Array DictEntry} {ep:Nat},s₁.heap.get? b=some o->o.data=.dict es ep->H b=none:=λ{b o es ep} e d=>by
   cases q:H b with
   |none=>rfl
   |some u =>
    have e':b=a:=hA b (by rw[q];simp);subst e';rw[ha]at e;cases e;have d':Data.seq vs.toArray _=Data.dict es ep:=d;cases d'
  have nsK:∀{b:Addr} {m:Str->Option Ai},s₁.heap.Ns b m->(hidT s₁.heap H).Ns b m:=λ{b m} ⟨o,es,ep,e,d,r⟩=>⟨o,es,ep,base_of e (noA e d),d,r⟩;have hKb:K.In (hidT s₁.heap H):=λb o e=>base_of (KX b o e) (by
   cases q:H b with
   |none=>rfl
   |some u =>
    have e':b=a:=hA b (by rw[q];simp);subst e';rw[hK (by rw[q];simp)]at e;cases e)
  have hM:Mod K mg (hidT s₁.heap H):=⟨hKb,nsK hns,⟨mb,nsK hb,hbb⟩,let⟨mc,h1,h2⟩:=hlim;⟨mc,nsK h1,h2⟩⟩;have e0:Env0 P w K mg (hidT s₁.heap H) callerA [] s₁ H:=⟨rfl,hM,λb o e=>jxu e,Nat.le_of_eq (jrz _ _),trivial,λb hb=>absurd (show b∈([]:List Addr)from hb) (by simp),hok,.of_eq hg⟩;refine codeAny_mono ((F _ hKb (nsK hns)).run callerA [] s₁ H ⟨[.ref a],[]⟩ [.ref a] [.ref a] _ _ hr e0 (hbind s₁ (.ref a)) (.cons rfl .nil) (hsp H hO hS)) λr s' h=>?_;cases r with
  |error e=>exact(hCX H e s' h).elim
  |ok fl =>
   cases fl with
   |next=>exact False.elim h
   |brk=>exact False.elim h
   |cont=>exact False.elim h
   |ret u =>
    obtain⟨v,H',os,bare,un,hok',r',q⟩:=h;have q':v=.bl true:=q;subst q';obtain rfl:u=Value.bool true:=r';refine⟨rfl,OldK.of_keep λb o e=>?_,os,bare⟩;cases q:H b with
    |none=>exact un.keep b o e q (by intro z;exact absurd (show b∈([]:List Addr)from z) (by simp)) (by simp)
    |some u =>
     rcases hO b with z | ⟨ob,xs,z⟩
     ·rw[q]at z;cases z
     ·have z2:=un.frzs b ob _ z;obtain⟨e1,_⟩:=hok b _ z;obtain⟨e2,_⟩:=hok' b _ z2;rw[e]at e1;cases e1;exact e2
 cases hk:K.lookup a with
 |some o =>
  -- the script is one of the module's own objects
  have e:=KX a o hk;rw[ha]at e;cases e;refine core (λ_=>none) (λ_=>.inl rfl) (.inr ⟨_,vs.toArray,_,hk,rfl,rfl,rfl,by rw[A2,lenV];exact hl,by simpa using rv⟩) (λb u z=>by have z':(none:Option HO)=some u:=z;cases z') (λb z=>absurd rfl z) λz=>absurd rfl z
 |none =>
  refine core (λb=>if b=a then some (.frz {cls:=.type "list",data:=.seq vs.toArray} (.lst (ns.map V.int)))else none) (λb=>?_) (.inl (.inr ⟨{cls:=.type "list",data:=.seq vs.toArray},if_pos rfl⟩)) (λb u z=>?_) (λb z=>?_) λ_=>hk
  ·by_cases hb:b=a
   ·exact .inr ⟨_,_,if_pos hb⟩
   ·exact .inl (if_neg hb)
  ·by_cases hb:b=a
   ·have z':=(if_pos hb).symm.trans z;cases z';subst hb;exact⟨ha,by rw[Ab];exact hl,vs,_,rv,ha⟩
   ·have z':=(if_neg hb).symm.trans z;cases z'
  ·by_cases hb:b=a
   ·exact hb
   ·exact absurd (if_neg hb) z
theorem walk_of {l:PySem.W.OpenLaw} {n k:Nat} {q:Bg} {loose:List Str} {XP:(Str->Option Ai)->Heap->Prop} {YP:Bw->Heap->Prop} {d:DefRec} {K:Params->Ah} {CX:Bw->CXT} {sp:Bw->Sp} {x:Str}
  (hn:l.most=some n) (hn2:n<=Ap) (hdf:d.params.defaults=[]) (hr:Room k callerA)
  (hY:∀(w:Bw) (h:Heap),YP w h->(K w.params).In h)
  (F:∀(w:Bw) (mg:Str->Option Ai) (fa:Addr) (h:Heap),(K w.params).In h->h.Ns C2 mg->mg d.name=some (.ref fa) ->
   ∃fd:Ce,(∀(s:Am) (u:Ai),BindsTo s fd ⟨[u],[]⟩ [(x,u)]) /\
    ∀base:Heap,(K w.params).In base->base.Ns C2 mg->FnOk l.prog w (K w.params) mg base (CX w) k fa fd [x] (sp w))
  (hsp:∀(w:Bw) (H:Hp) (a:Addr) (ns:List Int),ns.length<=n->Only H->SqL (K w.params) H a (ns.map V.int)->sp w [.ref a] H (λv _=>v=.bl true) λ_ _ _=>False)
  (hCX:∀(w:Bw) (H:Hp) (s:Am) (e:Ai) (s':Am),CX w [] H s (λ_ _ _=>False) e s'->False) :
  PySem.W.WalkO q loose XP YP l.row.toRowW d [] (λf vs=>PySem.call f vs):=by
 refine Att.attach_call hn hdf λw s₀ s₁ mg mb fa o pm cd doc a vs ns G Y ho hd hcd hmg hobj hints hlen hg=>?_;have KX:=hY w _ Y;obtain⟨fd,hb,hF⟩:=F w mg fa _ KX G.T.g hmg;exact jt8 KX G.T.g G.T.b G.T.builtins G.T.nolimit hg hobj hints (A4 hlen hn2) hr hF hb (λH hO hS=>hsp w H a ns hlen hO hS) λH e s'=>hCX w H s₁ e s'
def jdo (s:Stmt):Arguments:=match s with
 |.FunctionDef _ a _ _ _ _ _ _ _ _=>a
 |_=>{ posonlyargs:=[],args:=[],vararg:=none,kwonlyargs:=[],kw_defaults:=[],kwarg:=none,defaults:=[]}
def jbe (s:Stmt):List Stmt:=match s with
 |.FunctionDef _ _ b _ _ _ _ _ _ _=>b
 |_=>[]
def jal (s:Stmt):D9:=match s with
 |.FunctionDef _ _ _ _ _ _ sc _ _ _=>sc
 |_=>{ kind:=.function,names:=[],isGenerator:=false,isCoroutine:=false}
abbrev CX0:CXT:=λ_ _ _ _ _ _=>False
abbrev E0:XK:=λ_ _ _=>False
theorem jxn {X:Cx}:js0 CX0 X E0:=λ_ _ _ _ _ _ _ h=>h.elim
structure Fun (K:Ah) (x qual:Str) (st:Stmt) (f:Addr) (fd:Ce):Prop where
 ex:∃(oc:Ai) (od:Option Addr) (kV doc pm:Ai) (an:Option Addr) (cdv ct:Ai) (osl:Array (Option Ai)),
  fd=Ee x qual (jdo st) (jbe st) (jal st) .none kV doc pm an cdv ct/\K.lookup f=some ⟨oc,od,.func fd,osl⟩/\PySem.W.codeIn K cdv qual=true
 kp:Cf K (.ref f)=true
section
variable {P:Bg} {w:Bw} {K:Ah} {mg:Str->Option Ai} {base:Heap}
theorem Fun.ok {x qual:Str} {st:Stmt} {f:Addr} {fd:Ce} {N ps:List Str} {k:Nat} {sp:Sp} (F:Fun K x qual st f fd) (S:FnScope N ps (jal st)) (len:∀vs H Q E,sp vs H Q E->vs.length=ps.length)
  (hbody:∀(cdv:Ai) (A:Cb) (outer:List Env) (s:Am) (H:Hp) (vs:List V) (Q:VK) (E:XK),Room k (A.deeper (envOfC qual (jal st) s.heap.objs.size f cdv))->sp vs H Q E ->
   ∃t,PSs (cxOf CX0 P w K mg base N qual (jal st) f cdv A outer s H E).nox (jbe st) t/\t {nx:=λ_ H'=>Q .non H',rt:=Q} (start N vs) H):FnOk P w K mg base CX0 (k+1) f fd ps sp:=by
 obtain⟨oc,od,kV,doc,pm,an,cdv,ct,osl,rfl,lk,hcd⟩:=F.ex;refine j4f lk hcd S len λA outer s H vs Q E hr hsp=>?_;obtain⟨t,h,q⟩:=hbody cdv A outer s H vs Q E hr hsp;exact⟨t,h.nox,q⟩
theorem Fun.binds {x qual:Str} {st:Stmt} {f:Addr} {fd:Ce} {ps:List Str} (F:Fun K x qual st f fd)
  (h:∀(kV doc pm:Ai) (an:Option Addr) (cdv ct:Ai) (us:List Ai),us.length=ps.length->bindArgs (Ee x qual (jdo st) (jbe st) (jal st) .none kV doc pm an cdv ct) ⟨us,[]⟩=pure (ps.zip us)):Binds K fd ps []:=by
 obtain⟨oc,od,kV,doc,pm,an,cdv,ct,osl,rfl,lk,hcd⟩:=F.ex;exact .all (h kV doc pm an cdv ct)
theorem j2a {x qual:Str} {st:Stmt} {f:Addr} {oc:Ai} {od an:Option Addr} {osl:Array (Option Ai)} {kV doc pm cdv ct:Ai} (l:K.lookup f=some ⟨oc,od,.func (Ee x qual (jdo st) (jbe st) (jal st) .none kV doc pm an cdv ct),osl⟩)
  (c:PySem.W.codeIn K cdv qual=true) (k:Cf K (.ref f)=true):Fun K x qual st f (Ee x qual (jdo st) (jbe st) (jal st) .none kV doc pm an cdv ct):=⟨⟨oc,od,kV,doc,pm,an,cdv,ct,osl,rfl,l,c⟩,k⟩
end
theorem jj6 {n:Nat} (h:n<=1000):n < Ap:=Nat.lt_of_le_of_lt h (by decide)
section
variable {X:Cx}
theorem pv (i:Nat) {x:Str} {pos:Pos} (hN:X.N[i]?=some x:=by rfl) (hv:Vis X.env.scope x:=by first | exact Da rfl | exact Cc (Da rfl) | exact Cc (Cc rfl)) (hd:(x==("__debug__":Str))=false:=by decide)
  (hcd:(x==("__classdict__":Str))=false:=by decide):PE X (.Name x pos) (tVar i):=jdw hN hv hd hcd
end
theorem iteF {A B:Prop} (h:B):if false=true then A else B:=by
 rw[if_neg Ae];exact h
theorem ite2 {c A B:Prop} [Decidable c] (h1:c->A) (h2:¬c->B):if c then A else B:=by
 by_cases h:c
 ·rw[if_pos h];exact h1 h
 ·rw[if_neg h];exact h2 h
def Same (H H':Hp):Prop:=∀b o,H b=some o->H' b=some o
end L2
set_option maxHeartbeats 4000000
set_option maxHeartbeats 4000000
namespace Nb
open PySem L2
def jpy:Bool:=true
def ju5:List V:=[.non,.non,.non,.int 1,.int 2,.int 3,.int 20]
def jju:List Aa:=[.none,.none,.none,.int 1,.int 2,.int 3,.int 20]
end Nb
namespace L2
open PySem PySem.Spec PyProof.Rows
section
variable {prog:Bg} {w:Bw} {A:Cb} {R:Result->Am->Prop} {s:Am}
theorem je3 {elt target iter:Expr} {ifs:List Expr} {scope:D9} {pos:Pos} {it acc:Ai} {env:Env} (I:Nat->Am->Prop)
  (turn:∀n s,I n s->A3 (Bc prog w) A (pyNext it) (λr s₁=>match r with
   |none=>R (.ok .next) s₁
   |some v=>A3 (Bc prog w) A (letOwnedTupleGo target it v) (λ_ s₁'=>A3 (Bc prog w) A (assign target env v) (λ_ s₂ =>
     A3 (Bc prog w) A (forIn ifs true λc r=>if r=true then do let ok <-isTrue c env (eval c env);pure (ForInStep.yield ok)else pure (ForInStep.yield r)) (λok s₃ =>
      if ok=true then A3 (Bc prog w) A (eval elt env) (λx s₄ =>
       A3 (Bc prog w) A (call (.builtin "list.append") [acc,x]) (λ_ s₅=>∃m,m < n/\I m s₅) (λ_ _=>False) s₄) (λ_ _=>False) s₃
      else ∃m,m < n/\I m s₃) (λ_ _=>False) s₂) (λ_ _=>False) s₁') (λ_ _=>False) s₁) (λ_ _=>False) s)
  (n:Nat) (h:I n s):codeAny (Bc prog w) A (.compLoop (.ListComp elt [⟨target,iter,ifs,0⟩] scope pos) 0 it acc env) R s:=by
 refine codeAny_loop rfl I (λn s hI=>?_) n h;show A3 _ A ((compTurn (.ListComp elt [⟨target,iter,ifs,0⟩] scope pos) 0 it acc env).onRaise (λx=>do noteFrame x env;theTreesLotGoes x)) _ _ s;refine wpAny_noted ?_;rw[compTurn_list];refine Ad (wpAny_standAt (Ad (C1 (turn n s hI) (λr s₁ h₁=>?_) λ_ _ f=>f.elim)));cases r with
 |none=>exact Av h₁
 |some v =>
  refine Ad (C1 h₁ (λ_ s₁' h₁'=>?_) λ_ _ f=>f.elim);refine Ad (C1 h₁' (λ_ s₂ h₂=>Ad (C1 h₂ (λok s₃ h₃=>?_) λ_ _ f=>f.elim)) λ_ _ f=>f.elim);cases ok with
  |false=>exact Av ⟨rfl,h₃⟩
  |true =>
   exact Ad (Ad (C1 h₃ (λx s₄ h₄=>Ad (C1 h₄ (λ_ s₅ h₅=>Av (Av ⟨rfl,h₅⟩)) λ_ _ f=>f.elim)) λ_ _ f=>f.elim))
end
def jay (X:Cx) (N:List Str) (scope:D9) (cl:List (Str×Addr)) (s:Am) (H:Hp) (fp:List Addr):Cx :=
 { X with N:=N,s₀:=s,H₀:=H,env:=compEnvC scope cl s.heap.objs.size X.env,outer:=X.stack,ex:=fp,fn:=λ_=>false,pn:=[],xe:=λ_ _=>False}
structure CompSc (X:Cx) (N:List Str) (scope:D9) (cl:List (Str×Addr)) (fr:List (Option Nat)):Prop where
 clos:closureFor scope X.env=pure cl
 kind:scope.kind=.function
 nocell:∀y∈scope.names,y.2≠.cell
 names:∀y∈scope.names,y.2=.local->scope.names.lookup y.1=some .local
 sub:∀x c,cl.lookup x=some c->X.env.cells.lookup x=some c
 has:∀x,((relabel scope X.env).names.lookup x=some .cell\/(relabel scope X.env).names.lookup x=some .free)->∃c,cl.lookup x=some c
 len:fr.length=N.length
 fre:∀(j i:Nat),fr[j]?=some (some i)->∃x,N[j]?=some x/\X.N[i]?=some x/\Vis X.env.scope x/\(X.env.kindOf x=some .cell\/X.env.kindOf x=some .free) /\
  ((relabel scope X.env).names.lookup x=some .cell\/(relabel scope X.env).names.lookup x=some .free)/\cl.lookup x=X.env.cells.lookup x
theorem jc3 {κ:Type}:∀{l:List (Str×κ)} {x:Str} {k:κ},l.lookup x=some k->(x,k)∈l
 |[],_,_,h=>nomatch h
 | (y,k')::r,x,k,h=>by
  rw[List.lookup_cons]at h;cases e:x==y with
  |true =>
   rw[e]at h;have e':x=y:=by simpa using e
   have h':k'=k:=A6 h;rw[e',h'];exact Ay
  |false =>
   rw[e]at h;exact Az _ (jc3 h)
theorem jh5 {κ:Type}:∀{l:List (Str×κ)} {x:Str},x∈l.map (·.1)->∃k,l.lookup x=some k
 |[],_,h=>absurd h (by simp)
 | (y,k')::r,x,h=>by
  rw[List.lookup_cons];cases e:x==y with
  |true=>exact⟨k',rfl⟩
  |false =>
   have ne:¬x=y:=λz=>by rw[z]at e;simp at e
   have h':x∈y::r.map (·.1):=h;rcases Ar.mp h' with z | z
   ·exact absurd z ne
   ·exact jh5 z
theorem juv {X:Cx} {scope:D9} {cl:List (Str×Addr)} (nm:List (Str×NameKind)) (ks:List Str) (hrel:(relabel scope X.env).names=nm) (hks:cl.map (·.1)=ks) (h3:∀y∈nm,(y.2=.cell\/y.2=.free)->y.1∈ks) :
  ∀x,((relabel scope X.env).names.lookup x=some .cell\/(relabel scope X.env).names.lookup x=some .free)->∃c,cl.lookup x=some c:=by
 intro x h;rw[hrel]at h;refine jh5 ?_;rw[hks];rcases h with h | h
 ·exact h3 _ (jc3 h) (.inl rfl)
 ·exact h3 _ (jc3 h) (.inr rfl)
def capt (fr:List (Option Nat)) (σ:St):St:=fr.map λo=>o.bind λi=>(σ[i]?).bind id
theorem jux {fr:List (Option Nat)} {σ:St} {j:Nat} {v:V} (h:(capt fr σ)[j]?=some (some v)):∃i,fr[j]?=some (some i)/\σ[i]?=some (some v):=by
 unfold capt at h;rw[A0]at h;cases e:fr[j]? with
 |none=>rw[e]at h;cases h
 |some o =>
  rw[e]at h;cases o with
  |none=>cases h
  |some i =>
   refine⟨i,rfl,?_⟩;have h':(σ[i]?).bind id=some v:=A6 h;cases e2:σ[i]? with
   |none=>rw[e2]at h';cases h'
   |some o2 =>
    rw[e2]at h';have h2:o2=some v:=h';rw[h2]
def PIf (X:Cx) (ifs:List Expr) (tt:TT):Prop :=
 ∀(pins:List (Addr×Obj)) (s:Am) (σ:St) (H:Hp) (Q:Bool->Hp->Prop),Inv X pins σ H s->tt σ H Q ->
  A3 (Bc X.prog X.w) X.A (forIn ifs true λc r=>if r=true then do let ok <-isTrue c X.env (eval c X.env);pure (ForInStep.yield ok)else pure (ForInStep.yield r)) (TP X pins σ Q) X.xe s
def jza:TT:=λ_ H Q=>Q true H
theorem jxg {X:Cx}:PIf X [] jza:=λ_ _ _ H _ I h=>wpAny_tests_nil ⟨H,I,h⟩
theorem jxf {X:Cx} {c:Expr} {tt:TT} (h:PT X c tt):PIf X [c] tt:=λpins s σ H Q I q=>wpAny_tests_one (h pins s σ H Q I q)
def jp2 (fr:List (Option Nat)) (wi:TI) (g:TG) (tt:TT) (te:TE):TE:=λσ H Q=>wi σ H λJ H1=>∀D,H1 D=none ->
 ∃W:Nat->Nat->List V->St->Hp->Prop,(∃m,W 0 m [] (capt fr σ) (upd H1 D (.lst [])))/\∀i m ys τ H,W i m ys τ H ->
  ((J.stop i H/\Q (.ref D) H)\/(J.go i H/\ys.length < Ap/\∀x H',J.yld i H x H'->g x τ H' λτ2 H2=>tt τ2 H2 λb H3 =>
   if b=true then te τ2 H3 (λy H4=>H4 D=some (.lst ys)/\∃m',m' < m/\W (i+1) m' (ys++[y]) τ2 (upd H4 D (.lst (ys++[y]))))else ∃m',m' < m/\W (i+1) m' ys τ2 H3))
section
variable {X:Cx} {N:List Str} {scope:D9} {cl:List (Str×Addr)} {fr:List (Option Nat)} {pins:List (Addr×Obj)} {σ:St} {H:Hp} {s:Am} {fp:List Addr}
theorem jyp (S:CompSc X N scope cl fr) (I:Inv X pins σ H s) (hf:∀b∈fp,FpOk X pins H b) (hlt:∀b∈fp,b < s.heap.objs.size):(jay X N scope cl s H fp).Ok where
 mod:=I.ok.mod
 kind:=S.kind
 glob:=I.ok.glob
 blt:=I.ok.blt
 above:=Al _
 inj:=λx y c a b=>I.ok.inj x y c (S.sub x c a) (S.sub y c b)
 has:=λx h=>S.has x h
 cab:=λx c h=>nomatch h
 hd:=I.ok.hd
 frames:=I.ok.frames
 stk:=.inl rfl
 exf:=λb hb=>⟨Bm (hlt b hb),λx c e=>(hf b hb).2.2.2.2.1 x c (S.sub x c e)⟩
 bs:=I.bs
 bsz:=A4 I.ok.bsz I.sz
 noex:=λb o e hb=>by
  rcases(hf b hb).2.2.2.1 with z | z
  ·exact I.ok.noex b o e z
  ·exact absurd (Bj (Aw (I.ok.bs b o e).1) z) (Ea _)
 exfs:=λb hb z=>by
  rcases Ar.mp (I.stkSub b z)with e | e
  ·exact(hf b hb).2.1 e
  ·exact(hf b hb).2.2.1 e
 funs:=I.stack
 frf:=I.stkFree
theorem jh8 {h₁:Heap} {t':Nat} (S:CompSc X N scope cl fr) (I:Inv X pins σ H s) (hf:∀b∈fp,FpOk X pins H b) (hlt:∀b∈fp,b < s.heap.objs.size)
  {ob:Obj} (hsb:Dg s.heap.objs.size (s.heap.push ob) h₁) {m:Str->Option Ai} (hn:h₁.Ns s.heap.objs.size m) :
  Inv (jay X N scope cl s H fp) [] (capt fr σ) H {s with heap:=h₁,toks:=t'}:=by
 have old:∀b o,s.heap.get? b=some o->h₁.get? b=some o:=λb o e=>(hsb.2 b (Bm (Aw e))).trans (Ag _ e);refine⟨jyp S I hf hlt,rfl,I.bare,Un.kept old,⟨m,hn,λj x v e1 e2 e3=>?_⟩,λx c e=>?_,I.fresh,λx c e=>I.freeC x c (S.sub x c e),λp hp=>?_,I.hok.kept old,?_⟩
 ·obtain⟨i,f1,f2⟩:=jux e2;obtain⟨y,g1,g2,g3,g4,g5,g6⟩:=S.fre j i f1;have e1':N[j]?=some x:=e1;rw[g1]at e1';have exy:y=x:=A6 e1';subst exy;obtain⟨m0,hn0,hl⟩:=I.loc;obtain⟨u,r,l⟩:=hl i y v g2 f2 g3;refine⟨u,r,.inr ⟨g5,?_⟩⟩;rcases l with⟨k,_⟩ | ⟨k,c,e,z⟩
  ·rcases g4 with q | q
   ·rw[q]at k;cases k
   ·rw[q]at k;cases k
  ·exact⟨c,g6.trans e,z.keeps old⟩
 ·obtain⟨v,z⟩:=I.cell x c (S.sub x c e);exact⟨v,z.keeps old⟩
 ·exact absurd hp (by simp[jay])
 ·show(capt fr σ).length=N.length;unfold capt;rw[Ab,S.len]
theorem jn4 {H':Hp} {τ:St} {s0 s':Am} {h':Heap} (I:Inv X pins σ H s0) (hf:∀b∈fp,FpOk X pins H b) (I':Inv (jay X N scope cl s0 H fp) [] τ H' s') (hs:Dg s0.heap.objs.size s'.heap h') :
  Inv X pins σ H' {s' with heap:=h'}:=by
 have hC:H' s0.heap.objs.size=none:=I'.free;have u:Un (frs X.stack) fp H H' s0.heap s'.heap:=I'.base;have ne:∀b o,s0.heap.get? b=some o->b≠s0.heap.objs.size:=λb o e=>Bm (Aw e);have hok':HOk X.prog X.w H' h':=λb o e=>by
  have q:ObjOk X.prog X.w H' s'.heap b o:=I'.hok b o e;refine q.stay (λc v hc z=>(hs.2 c ?_).trans z) (λ_ z=>z) λ_ _ z=>z
  rintro rfl
  rcases hc with z | z
  ·rw[<-z,hC]at e;cases e
  ·rw[hC]at z;cases z
 refine I.call' (s':={ s' with heap:=h'}) (ch:=fp) I'.os ?_ hok' I'.bare λb hb=>?_
 ·refine⟨λb o e n h1 h2=>(hs.2 b (ne b o e)).trans (u.keep b o e n h1 h2),λb o e n h1 h2=>?_,u.free,λb o e h2=>?_,u.tups,u.frzs,u.tbls⟩
  ·obtain⟨sl,z⟩:=u.slot b o e n h1 h2;exact⟨sl,(hs.2 b (ne b o e)).trans z⟩
  ·obtain⟨o',z⟩:=u.there b o e h2;exact⟨o',(hs.2 b (ne b o e)).trans z⟩
 ·obtain⟨_,f1,_,f3,f4,f5⟩:=hf b hb;exact⟨f3,f1,f4,f5⟩
end
theorem jxl {X:Cx} {elt tg iter:Expr} {ifs:List Expr} {scope:D9} {cl:List (Str×Addr)} {pos:Pos} {N:List Str} {fr:List (Option Nat)} {wi:TI} {g:TG} {tt:TT} {te:TE}
  (hc:X.calm=true) (S:CompSc X N scope cl fr) (hi:PI X tg iter wi) (hg:∀s H fp,PG (jay X N scope cl s H fp) tg g) (ht:∀s H fp,PIf (jay X N scope cl s H fp) ifs tt)
  (he:∀s H fp,PE (jay X N scope cl s H fp) elt te) (hs:∀x,Dt iter X.env x=pure x:=by intro _;rfl) :
  PE X (.ListComp elt [⟨tg,iter,ifs,0⟩] scope pos) (jp2 fr wi g tt te):=by
 intro pins s σ H Q I h;rw[eval_ListComp];refine wpAny_comprehension_free (use:=none) (cl:=cl) rfl hs S.clos S.kind S.names (thn (hi pins s σ H _ I h) λv s1 h1=>thn h1 λitv s2 h2=>?_);obtain⟨it,fp,tn,J,H2,e,I2,T,st2,f2,q⟩:=h2;subst e;refine Dd (wpAny_newFunctionEnv S.nocell (by intro y hy;simp at hy) (λh₁ hn hsb=>?_) S.kind);dsimp only at hn hsb ⊢;obtain⟨W,⟨m0,w0⟩,turn⟩:=q s2.heap.objs.size I2.fresh
 -- the state with the new list
 have I3:Inv X pins σ (upd H2 s2.heap.objs.size (.lst [])) {s2 with heap:=s2.heap.push {cls:=.type "list",dict:=none,data:=.seq ([]:List Ai).toArray}}:=I2.lnew (its:=[]) (t':=s2.toks) .nil (Bn _);have key:∀s3:Am,s3={ s2 with heap:=s2.heap.push {cls:=.type "list",dict:=none,data:=.seq ([]:List Ai).toArray}}->Inv X pins σ (upd H2 s2.heap.objs.size (.lst [])) s3 ->
   ∀(ob:Obj) (mm:Str->Option Ai),Dg s3.heap.objs.size (s3.heap.push ob) h₁->h₁.Ns s3.heap.objs.size mm ->
   codeAny (Bc X.prog X.w) X.A (.compStart (.ListComp elt [⟨tg,iter,ifs,0⟩] scope pos) 0 (.ref it) (.ref s2.heap.objs.size) (compEnvC scope cl s3.heap.objs.size X.env))
    (compPost (Bc X.prog X.w) X.A X.xe none (EP X pins σ Q) (.ref s2.heap.objs.size) s3.heap.objs.size) {s3 with heap:=h₁,toks:=s3.toks+([]:List (Str×Ai)).length}:=?key
 ·exact key _ rfl I3 _ _ hsb hn
 clear I3 hn hsb;intro s3 hs3 I3 ob mm hsb hn;have hfp:∀b∈fp,∃o,s2.heap.get? b=some o:=λb hb=>let⟨o,e,_⟩:=T.obj _ _ st2 b hb;⟨o,e⟩;have up:∀b o,s2.heap.get? b=some o->s3.heap.get? b=some o:=λb o e=>by rw[hs3];exact Ag _ e
 have f3:∀b∈fp,FpOk X pins (upd H2 s2.heap.objs.size (.lst [])) b:=λb hb=>by
  obtain⟨o,e⟩:=hfp b hb;obtain⟨g0,gr⟩:=f2 b hb;exact⟨by rw[jag (Bm (Aw e))];exact g0,gr⟩
 have hlt:∀b∈fp,b < s3.heap.objs.size:=λb hb=>let⟨o,e⟩:=hfp b hb;Aw (up b o e);generalize hH3:upd H2 s2.heap.objs.size (.lst [])=H3 at I3 f3 w0;have I4:=jh8 (t':=s3.toks+([]:List (Str×Ai)).length) S I3 f3 hlt hsb hn;have st4:tn 0 h₁:=T.keep _ _ _ st2 λb hb o e=>(hsb.2 b (Bm (Aw (up b o e)))).trans (Ag _ (up b o e));have stat:∀{H':Hp},(∀b∈fp,H' b=none)->∀b∈fp,FpOk (jay X N scope cl s3 H3 fp) [] H' b:=λhn b hb=>by
  obtain⟨_,k1,k2,k3,k4,k5⟩:=f3 b hb;refine⟨hn b hb,Bm (hlt b hb),λz=>?_,.inl hb,λx c e=>k4 x c (S.sub x c e),λp hp=>absurd hp (by simp[jay])⟩;rcases Ar.mp (I3.stkSub b z)with e | e
  ·exact k1 e
  ·exact k2 e
 have loop:codeAny (Bc X.prog X.w) X.A (.compLoop (.ListComp elt [⟨tg,iter,ifs,0⟩] scope pos) 0 (.ref it) (.ref s2.heap.objs.size) (compEnvC scope cl s3.heap.objs.size X.env))
   (compPost (Bc X.prog X.w) X.A X.xe none (EP X pins σ Q) (.ref s2.heap.objs.size) s3.heap.objs.size) {s3 with heap:=h₁,toks:=s3.toks+([]:List (Str×Ai)).length}:=by
  refine je3 (λn s'=>∃i ys τ Hc,Inv (jay X N scope cl s3 H3 fp) [] τ Hc s'/\tn i s'.heap/\(∀b∈fp,Hc b=none)/\W i n ys τ Hc) ?_ m0 ⟨0,[],capt fr σ,H3,I4,st4,λb hb=>(f3 b hb).1,w0⟩
  rintro n s5 ⟨i,ys,τ,Hc,I5,st5,fr5,w5⟩
  rcases turn i n ys τ Hc w5 with⟨stop,qn⟩ | ⟨go,hz,step⟩
  ·refine thn (T.done (jay X N scope cl s3 H3 fp) rfl rfl rfl hc i [] s5 τ Hc (λ_ _=>False) I5 (stat fr5) st5 stop) λr s6 ⟨hr,I6⟩=>?_;subst hr;obtain⟨mm,hm,_⟩:=I6.loc;exact⟨mm,hm,λh' hs'=>⟨.ref s2.heap.objs.size,Hc,jn4 I3 f3 I6 hs',rfl,qn⟩⟩
  ·refine thn (T.item (jay X N scope cl s3 H3 fp) rfl rfl rfl hc i [] s5 τ Hc (λ_ _=>False) I5 (stat fr5) st5 go) λr s6 ⟨u,hr,h6⟩=>?_;subst hr;refine thn h6 λ_ s7 ⟨x,H7,I7,r7,y7,st7,fr7⟩=>?_;have I7':=I7.pinned (stat fr7) (T.obj _ _ st7);refine thn (hg s3 H3 fp _ s7 τ H7 x u _ I7' r7 (step x H7 y7)) λ_ s8 ⟨τ8,H8,I8,q8⟩=>?_;refine thn (ht s3 H3 fp _ s8 τ8 H8 _ I8 q8) λok s9 ⟨H9,I9,q9⟩=>?_;have keep:∀{st:Am} {τ':St} {H':Hp},Inv (jay X N scope cl s3 H3 fp) ([]++jh2 fp s7.heap) τ' H' st->tn (i+1) st.heap/\∀b∈fp,H' b=none:=λ{st τ' H'} Ix=>by
    refine⟨T.keep _ _ _ st7 λb hb o e=>(Ix.pin (b,o) (Ba _ (Ba _ (jbs hb e)))).1,λb hb=>?_⟩;obtain⟨o,e,d⟩:=T.obj _ _ st7 b hb;exact(Ix.pin (b,o) (Ba _ (Ba _ (jbs hb e)))).2.1
   cases ok with
   |false =>
    rw[if_neg Ae]at q9 ⊢;obtain⟨m',hm,w9⟩:=q9;obtain⟨k1,k2⟩:=keep I9;exact⟨m',hm,i+1,ys,τ8,H9,I9.unpinned,k1,k2,w9⟩
   |true =>
    rw[if_pos rfl]at q9 ⊢;refine thn (he s3 H3 fp _ s9 τ8 H9 _ I9 q9) λxv s10 ⟨y,H10,I10,r10,hD,m',hm,w10⟩=>?_;refine thn (jf4 _ s10 τ8 H10 (.ref s2.heap.objs.size) [y] (.ref s2.heap.objs.size) [xv] (λz H'=>∃m',m' < n/\W (i+1) m' (ys++[y]) τ8 H') I10 rfl (.cons r10 .nil) ⟨_,ys,y,rfl,rfl,hD,hz,m',hm,w10⟩) λz s11 ⟨z',H11,I11,_,m'',hm',w11⟩=>?_;obtain⟨k1,k2⟩:=keep I11;exact⟨m'',hm',i+1,ys++[y],τ8,H11,I11.unpinned,k1,k2,w11⟩
 exact codeAny_compStart_list loop (T.self _ 0 _ _ _ st4 loop)
mutual
inductive RdD (K:Ah) (H:Hp):V->Aa->Prop
 |non:RdD K H .non .none
 |bl (b:Bool):RdD K H (.bl b) (.bool b)
 |int (i:Int):RdD K H (.int i) (.int i)
 |str (x:Str):RdD K H (.str x) (.str x)
 |lst {a:Addr} {xs:List V} {ds:List Aa}:SqL K H a xs->RdAll K H xs ds->RdD K H (.ref a) (.list ds)
 |tup {a:Addr} {xs:List V} {ds:List Aa}:SqT K H a xs->RdAll K H xs ds->RdD K H (.ref a) (.tuple ds)
inductive RdAll (K:Ah) (H:Hp):List V->List Aa->Prop
 |nil:RdAll K H [] []
 |cons {x:V} {xs:List V} {d:Aa} {ds:List Aa}:RdD K H x d->RdAll K H xs ds->RdAll K H (x::xs) (d::ds)
end
section
variable {X:Cx} {pins:List (Addr×Obj)} {σ:St} {H:Hp} {s:Am}
mutual
theorem RdD.reads (I:Inv X pins σ H s):∀{v:V} {d:Aa} {u:Ai},RdD X.K H v d->RelV v u->∃as,Reads s.heap u d as
 |_,_,u,.non,r=>by
  cases(show u=B3 from r);exact⟨_,.none⟩
 |_,_,u,.bl b,r=>by
  cases(show u=Value.bool b from r);exact⟨_,.bool b⟩
 |_,_,u,.int i,r=>by
  obtain⟨t,rfl⟩:=(show ∃t,u=Value.int i t from r);exact⟨_,.int i t⟩
 |_,_,u,.str x,r=>by
  obtain⟨t,rfl⟩:=(show ∃t,u=Value.str x t from r);exact⟨_,.str x t⟩
 |_,_,u,.lst (a:=a) h1 h2,r=>by
  cases(show u=A5 a from r);obtain⟨its,rv,⟨o,n,e,c,_,d⟩,_⟩:=I.list h1;obtain⟨as,ha⟩:=RdAll.reads I h2 rv;exact⟨_,.list e c d (by simpa using ha)⟩
 |_,_,u,.tup (a:=a) h1 h2,r=>by
  cases(show u=A5 a from r);obtain⟨its,rv,⟨o,e,c,n,d⟩,_⟩:=I.tuple h1;obtain⟨as,ha⟩:=RdAll.reads I h2 rv;exact⟨_,.tuple e c d (by simpa using ha)⟩
theorem RdAll.reads (I:Inv X pins σ H s):∀{vs:List V} {ds:List Aa} {us:List Ai},RdAll X.K H vs ds->Vals vs us->∃as,ReadsAll s.heap us ds as
 |_,_,_,.nil,.nil=>⟨_,.nil⟩
 |_,_,_,.cons h1 h2,.cons r1 r2=>by
  obtain⟨as,ha⟩:=RdD.reads I h1 r1;obtain⟨bs,hb⟩:=RdAll.reads I h2 r2;exact⟨_,.cons ha hb⟩
end
end
def Small (d:Aa):Prop:=E4 d=true/\E3 d<=20/\Fb d<=2 ^ 20/\Eg 13 d=true/\Eu d=true
theorem Small.len {d:Aa} (h:Small d):d.shown.length<=Ap:=by
 have hl:PyData.layable0 d=true:=by
  unfold PyData.layable0;rw[h.1,decide_eq_true (show E3 d<=64 by have:=h.2.1;omega),decide_eq_true h.2.2.1];rfl
 have:=shown_le13 hl h.2.2.2.1;rw[Et];omega
theorem Small.noDict {d:Aa} (h:Small d):d.hasDict=false:=PyData.hasDict_of_canLay d h.1
theorem jsp {X:Cx} (hg:X.A.guards=some []) (hu:X.A.units+64 < cLine):CallR X (.builtin "repr") (λxs H Q=>∃a d,xs=[.ref a]/\RdD X.K H (.ref a) d/\Small d/\Q (.str d.shown) H):=by
 intro pins s σ H xs us Q I r h;obtain⟨a,d,rfl,hd,hs,q⟩:=h;obtain⟨u,rfl,ru⟩:=jio r;cases(show u=A5 a from ru);obtain⟨as,hr⟩:=RdD.reads I hd (show RelV (.ref a) (A5 a)from rfl);have hdp:=hs.2.1;refine repr_of_reads' hr hs.2.2.2.2 (PyData.noDict_hsm hs.noDict) hg (by omega) (λ_ _ e=>e) (λh' u tk hk=>?_) hs.len;exact⟨.str d.shown,H,I.kept hk,⟨u,rfl⟩,q⟩
def jnc (K:Ah):R2:=λx y H Q=>∃a b xs,x=.ref a/\y=.ref b/\SqL K H a xs/\SqL K H b []/\Q (.bl xs.isEmpty) H
theorem jty {X:Cx} (hu:X.A.units < cLine):OpR X (Bz .Eq) (jnc X.K):=by
 intro pins s σ H x y v u Q I rx ry h;obtain⟨a,b,xs,rfl,rfl,ha,hb,q⟩:=h;cases(show v=A5 a from rx);cases(show u=A5 b from ry);obtain⟨its,r1,p1,_⟩:=I.list ha;obtain⟨its2,r2,p2,_⟩:=I.list hb;have e2:its2=[]:=Vals.zero r2;subst e2;cases r1 with
 |nil=>exact PySem.SeqAt.eq_listAt (e:=λ_=>true) p1.isList p2.isList rfl hu (λj h1=>absurd h1 (by simp)) ⟨.bl true,H,I,(by rfl),q⟩
 |cons r1 r3=>exact PySem.SeqAt.eq_list_lengthsAt p1.isList p2.isList (by simp) hu ⟨.bl false,H,I,rfl,q⟩
def j0g (K:Ah):R2:=λx y H Q=>∃a b xs ys,x=.ref a/\y=.ref b/\SqT K H a xs/\SqT K H b ys/\ys≠[]/\xs.length+ys.length<=Ap /\
 (xs=[]->Q (.ref b) H)/\(xs≠[]->∀p,H p=none->Q (.ref p) (upd H p (.tup (xs++ys))))
theorem op_catA {X:Cx}:OpR X (Du .Add) (j0g X.K):=by
 intro pins s σ H x y v u Q I rx ry h;obtain⟨a,b,xs,ys,rfl,rfl,ha,hb,hy,hz,q0,q2⟩:=h;by_cases hx:xs=[]
 ·cases(show v=A5 a from rx);cases(show u=A5 b from ry);obtain⟨its,r1,p1,_⟩:=I.tuple ha;obtain⟨its2,r2,p2,_⟩:=I.tuple hb;obtain⟨⟨cls,dd,data,sl⟩,ho,hc,n,hd⟩:=id p1;obtain⟨⟨cls2,dd2,data2,sl2⟩,ho2,hc2,n2,hd2⟩:=id p2;simp only at hc hd hc2 hd2;subst hc hd hc2 hd2;have hi:its=[]:=r1.nil_iff.mpr hx;exact concat_meets ⟨_,ho,rfl⟩ ⟨_,ho2,rfl⟩ noFill_tuple_add seq_tuple_add Ez Ew (Em _ _)
   (tuple_addW0 a b its.toArray its2.toArray n n2 dd dd2 sl sl2 (by simp[hi])) ⟨ho,ho2,⟨.ref b,H,I,rfl,q0 hx⟩⟩
 ·exact op_catT pins s σ H (.ref a) (.ref b) v u Q I rx ry ⟨a,b,xs,ys,rfl,rfl,ha,hb,hx,hz,λe=>absurd e hy,λ_=>q2 hx⟩
theorem jn7 {X:Cx} {T:String}:CallR X (.builtin "isinstance") (λxs H Q=>∃x t b,xs=[x,.ty T]/\TyOf X.K H x t/\PySem.W.kitOne X.K t (.type T)=some b/\Q (.bl b) H):=by
 intro pins s σ H xs us Q I r h;obtain⟨x,t,b,rfl,ty,e,q⟩:=h;obtain⟨u,u',rfl,ru,ru'⟩:=jy4 r;cases(show u'=E9 T from ru');exact jru I ru ty e λtk=>⟨.bl b,H,I.tok tk,rfl,q⟩
section
variable {prog:Bg} {w:Bw} {A:Cb} {E:Ai->Am->Prop} {s:Am}
theorem jdb:entryFor table "dict.update.loop"=some Builtin.«dict.update.loop»:=entryFor_of_tree (by kernel_rfl)
theorem jbk:plainId "dict.update.loop"=true:=by decide +kernel
theorem jro:typeLookup (.type "tuple") "keys"=pure none:=by rw[typeLookup_type,builtinLookup_eq_fast];kernel_rfl
theorem joz {a:Addr} {its:List Ai} {Q:List Ai->Am->Prop} (p:IsTup s.heap a its.toArray) (h:Q its s):A3 (Bc prog w) A (Builtin.Dict.pairItems (.ref a)) Q E s:=by
 obtain⟨o,ho,hc,n,hd⟩:=id p;unfold Builtin.Dict.pairItems;refine Ad (wpAny_typeOf (show s.TypeIs (.ref a) "tuple" from⟨o,ho,hc⟩) ?_);rw[if_pos (by decide)];refine Ad (C0 ho hd (Av ?_));simpa using h
set_option maxRecDepth 8000 in
theorem jjf {a:Addr} {o:Obj} {xs:Array Ai} {k:Nat} {name:Str} {Q:Option Ai->Am->Prop}
  (hx:s.heap.get? a=some o) (hc:o.cls=.type "tuple") (hdat:o.data=.seq xs k) (hd:o.dict=none) (hmiss:typeLookup (.type "tuple") name=pure none) (hname:(["__module__","__name__","__qualname__","__doc__","__annotations__"]:List Str).contains name=false) (hA:A.handled=none)
  (h:∀h' tk e,Heap.NewExcOf s.heap h' e "AttributeError"->Q none {s with heap:=h',toks:=tk}) (hsz:name.length+100<=Ap:=by size_fits) :
  A3 (Bc prog w) A (getAttr? (.ref a) name) Q E s:=by
 obtain⟨c,dct,dat,sl⟩:=o;simp only at hc hdat hd;subst hc hdat hd;obtain⟨hp,g,d,tk,os⟩:=s;have hT:∀tk',(⟨hp,g,d,tk',os⟩:Am).TypeIs (.ref a) "tuple":=λ_=>⟨_,hx,rfl⟩;have f1:=sub_AttributeError;have f3:=F.slot_tuple_getattribute.lookup;have f4:=F.slot_tuple_getattribute.bind (.ref a);have f5:=am_tuple_getattr_none;unfold getAttr? getAttrBy? getAttrBy
 repeat (any_goals (first | assumption | exact hT _ | ((with_reducible show A3 _ _ (call (Value.builtin "tuple.__getattribute__") _ _) _ _ _);refine call_meets F.slot_tuple_getattribute (hT _) am_entry_tuple_getattribute (F.args_tuple_getattribute_2 _ _) (meets_getattribute_miss_tuple a xs k sl name _ hmiss hname hsz) ⟨hx,hA,λh' tk' e hx'=>?_⟩) | wp_step))
 obtain⟨t',u',he⟩:=hx'.there;show A3 _ _ (getattributeRaised _ _ _ _ _ _ _) _ _ _;unfold getattributeRaised
 repeat (any_goals (first | assumption | wp_step))
 exact h _ _ _ hx'.of
end
section
variable {X:Cx} {pins:List (Addr×Obj)} {σ:St} {A:Cb} {R:Result->Am->Prop}
theorem SqT.upd {K:Ah} {H:Hp} {a d:Addr} {xs:List V} {o:HO} (h:H a=some (.tup xs)) (hd:a≠d):(L2.upd H d o) a=some (.tup xs):=by rw[jag hd];exact h
theorem js6 (hA:A.handled=none) {src d it:Addr} (ps:List (Addr×Key×V)):∀(n i:Nat) (H:Hp) (s:Am) (kvs:List (Key×V)),n+i=ps.length->Inv X pins σ H s->H d=some (.dK kvs)->kvs.length+n<=Ap ->
  H src=some (.tup (ps.map λp=>.ref p.1))->(∀p∈ps,H p.1=some (.tup [kV p.2.1,p.2.2]))->s.heap.IsTupleIter it src i->FpOk X pins H it ->
  (∀H' s',Inv X pins σ H' s'->H'=L2.upd H d (.dK (jf5 kvs ((ps.drop i).map (·.2))))->R (.ok (.ret .none)) s') ->
  codeAny (Bc X.prog X.w) A (.builtin "dict.update.loop" ⟨[.ref d,.ref it,Ey i,.none],[]⟩) R s:=by
 intro n
 induction n with
 |zero =>
  intro i H s kvs hn I hd hz hs hp st f hR;obtain⟨its,rv,p,_⟩:=I.tuple (SqT.of (K:=X.K) hs);obtain⟨f0,f1,f2,f3,f4,f5⟩:=f;refine codeAny_builtin jdb ?_;rw[Fi jbk _];show A3 _ _ (pyNext (.ref it)>>=_) _ _ s;have hl:=rv.length;rw[Ab]at hl;refine Ad (wpAny_pyNext_tuple_end (A:=A.in1) hA st (show s.heap.IsTuple src its.toArray from p) (by simp;omega) λh' eb=>?_);show A3 _ _ (Builtin.Dict.addKeywords d []>>=_) _ _ _;refine Ad (Av (Av ?_));refine hR H _ (I.turned (t':=s.toks) (λb o hb e=>eb b o hb e) f0 f1 f3 f4 f5) ?_;have e1:ps.drop i=[]:=List.drop_eq_nil_of_le (by omega);rw[e1]
  funext b
  unfold L2.upd
  split
  ·rename_i hb;rw[hb,hd];rfl
  ·rfl
 |succ n ih =>
  intro i H s kvs hn I hd hz hs hp st f hR;obtain⟨its,rv,p,_⟩:=I.tuple (SqT.of (K:=X.K) hs);obtain⟨f0,f1,f2,f3,f4,f5⟩:=id f;have hi:i < ps.length:=by omega
  have hpi:(ps.map λp=>V.ref p.1)[i]?=some (V.ref (ps[i]).1):=by simp[hi]
  obtain⟨u,hu,ru⟩:=rv.get hpi;cases(show u=A5 (ps[i]).1 from ru);have hmem:ps[i]∈ps:=Ck hi;have hq:=hp _ hmem;refine codeAny_builtin jdb ?_;rw[Fi jbk _];show A3 _ _ (pyNext (.ref it)>>=_) _ _ s;refine Ad (wpAny_pyNext_tuple_item st (show s.heap.IsTuple src its.toArray from p) (x:=A5 (ps[i]).1) (by simpa using hu) λh1 st1 sb=>?_);have I1:Inv X pins σ H {s with heap:=h1}:=I.turned (t':=s.toks) (λb o hb e=>(sb.2 b hb).trans e) f0 f1 f3 f4 f5;obtain⟨its1,rv1,p1,_⟩:=I1.tuple (SqT.of (K:=X.K) hq);obtain⟨u1,u2,rfl,r1,r2⟩:=jy4 rv1;refine Ad (Cm ?_);refine Ad (wpAny_tryCatch (joz p1 ?_));obtain⟨z,hdS,vs,rel,dd⟩:=j2h I1.hok hd;have hz1:vs.length<=Ap:=by rw[<-rel.length];exact z
  have hl1:=jdl kvs (ps[i]).2.1 (ps[i]).2.2;refine Cm (wpAny_dictSet_pairs (hsz:=hz1) (jrr r1) dd λh2 dd2 hs2=>?_);have he2:∃q,h2.get? d=some q:=let⟨q,_,_,hq,_⟩:=dd2;⟨q,hq⟩;have I2:=jmh (t':=s.toks+1) I1 (by rw[hd];exact Ef) hs2 he2 (jwe (by omega) hdS (rel.put (ps[i]).2.1 r2) dd2);have nd:∀b xs,H b=some (.tup xs)->b≠d:=λb xs e z=>by rw[z,hd]at e;cases e
  have nit:it≠d:=λz=>by rw[z,hd]at f0;cases f0
  have hc:((i:Int)+1)=((i+1:Nat):Int):=by push_cast;rfl
  show A3 _ _ (pure (Fin.again (.builtin "dict.update.loop" ⟨[.ref d,.ref it,Ey ((i:Int)+1),.none],[]⟩))) _ _ _;refine Av ⟨plainId_quiet jbk _,?_⟩;rw[hc];refine ih (i+1) _ _ (putK kvs (ps[i]).2.1 (ps[i]).2.2) (by omega) I2 jah (by omega) (SqT.upd (K:=X.K) hs (nd _ _ hs)) (λq hq'=>SqT.upd (K:=X.K) (hp q hq') (nd _ _ (hp q hq'))) (by
   obtain⟨o,e,r⟩:=st1;exact⟨o,(hs2.2 it nit).trans e,r⟩) ⟨by rw[jag nit];exact f0,f1,f2,f3,f4,f5⟩ λH' s' I' e=>?_
  refine hR H' s' I' ?_;rw[e,jpv,Eo hi];rfl
theorem jau {n:Nat} (h:n<=1000):n<=Ap:=D6 (jj6 h)
theorem jph (hh:X.A.handled=none):CallR X (.type "dict") (λxs H Q=>∃(src:Addr) (ps:List (Addr×Key×V)),xs=[.ref src]/\H src=some (.tup (ps.map λp=>V.ref p.1))/\(∀p∈ps,H p.1=some (.tup [kV p.2.1,p.2.2]))/\ps.length<=1000 /\
  ∀l,H l=none->Q (.ref l) (L2.upd H l (.dK (jf5 [] (ps.map (·.2)))))):=by
 intro pins s σ H xs us Q I r h;obtain⟨src,ps,rfl,hs,hp,hlen,q⟩:=h;obtain⟨u,rfl,ru⟩:=jio r;cases(show u=A5 src from ru);have big:=I.big;refine callType_codes (Q₁:=λobj s₁=>obj=.ref s.heap.objs.size/\s₁={ s with heap:=s.heap.push {cls:=.type "dict",data:=.dict #[]}}) F.kt_called_dict (F.kt_typeCall_dict_1 _) F.entry_dict_init (kt_code_dict_new _ ⟨rfl,rfl⟩) ?_
 rintro obj s₁ ⟨rfl,rfl⟩
 have hfr:H s.heap.objs.size=none:=I.fresh;have I1:Inv X pins σ (L2.upd H s.heap.objs.size (.dK [])) {s with heap:=s.heap.push {cls:=.type "dict",data:=.dict #[]}}:=I.laid (t':=s.toks) (λb o e=>Ag _ e) (Al _) (juq s.heap big);have nd:∀b xs,H b=some (.tup xs)->b≠s.heap.objs.size:=λb xs e z=>by rw[z,hfr]at e;cases e
 have hs1:=SqT.upd (K:=X.K) (o:=.dK []) hs (nd _ _ hs);obtain⟨zz,its,rv,o,ho,hc,⟨n,hdat⟩,hd⟩:=(show ObjOk X.prog X.w _ _ src (.tup _)from I1.hok src _ hs1);have hnew:(s.heap.push {cls:=.type "dict",data:=.dict #[]}).DictOf (ja6 X.prog X.w) s.heap.objs.size []:=Heap.DictOf.new s.heap;refine⟨hnew.typeIs,F.args_dict_init_2 _ _,?_⟩;unfold Builtin.«dict.__init__»;refine Ad ?_;unfold Builtin.Dict.selfAndRest;refine Ad (wpAny_notOrdered_dict hnew.typeIs ?_);show A3 _ _ (pure (s.heap.objs.size,[A5 src])) _ _ _;refine Av ?_;show A3 _ _ (Builtin.Dict.updateFrom "dict.__init__" s.heap.objs.size (.ref src) [] .none) _ _ _;unfold Builtin.Dict.updateFrom;refine Ad (wpAny_typeOf (T:="tuple") ⟨o,ho,hc⟩ ?_);rw[if_pos (by decide)];refine Ad (jjf ho hc hdat hd jro (by decide +kernel) hh (λh' tk e ne=>?_));have I2:=I1.kept (t':=tk) ne.keeps;have p2:IsTup h' src its.toArray:=IsTup.keeps ⟨o,ho,hc,n,hdat⟩ ne.keeps;show A3 _ _ (rule _>>=_) _ _ _;refine Ad (wpAny_rule ?_);refine Ad (Dn (show Heap.IsTuple h' src its.toArray from p2) ?_);refine Av ⟨plainId_quiet jbk _,?_⟩;have I3:=I2.kept (t':=tk) (λb o e=>Ag {cls:=.type "tuple_iterator",data:=.fields #[.ref src,.int 0 0]} e);refine js6 (A:=X.A.in1) hh ps ps.length 0 _ _ [] (by omega) I3 jah (by simp only[List.length_nil];exact jau (by omega)) hs1 (λq hq=>SqT.upd (K:=X.K) (hp q hq) (nd _ _ (hp q hq))) ⟨_,A8 _ rfl,rfl,rfl⟩ (I2.fpOk (Al _) I2.fresh) λH' s' I' e=>?_;refine⟨rfl,.ref s.heap.objs.size,H',I',rfl,?_⟩;rw[e,jpv];exact q _ hfr
end
theorem jq8 {X:Cx}:OpR X (Bz .Gt) (λx y H Q=>∃i j,x=.str i/\y=.str j/\Q (.bl (decide (j.cps.toList < i.cps.toList))) H):=by
 intro pins s σ H x y v u Q I rx ry h;obtain⟨i,j,rfl,rfl,q⟩:=h;obtain⟨t,rfl⟩:=rx;obtain⟨t',rfl⟩:=ry;exact P.gt_str (jax I q rfl)
def tyD:Aa->String
 |.none=>"NoneType"
 |.bool _=>"bool"
 |.int _=>"int"
 |.str _=>"str"
 |.list _=>"list"
 |.tuple _=>"tuple"
 |.dict _=>"dict"
def isiB (T:String) (d:Aa):Bool:=tyD d==T || (T=="int"&&tyD d=="bool")
def jaf (h:Str):Aa->Bool
 |.str x=>decide (x=h)
 |_=>false
theorem jh0 {X:Cx} {elt tg iter:Expr} {ifs:List Expr} {scope:D9} {cl:List (Str×Addr)} {cpos pos pos':Pos} {N:List Str} {fr:List (Option Nat)} {wi:TI} {g:TG} {tt:TT} {te:TE} {i:Nat} {x:Str}
  (hN:X.N.Nodup) (hix:X.N[i]?=some x) (hx:X.env.scope.names.lookup x=some .local)
  (hc:X.calm=true) (S:CompSc X N scope cl fr) (hi:PI X tg iter wi) (hg:∀s H fp,PG (jay X N scope cl s H fp) tg g) (ht:∀s H fp,PIf (jay X N scope cl s H fp) ifs tt)
  (he:∀s H fp,PE (jay X N scope cl s H fp) elt te) (hs:∀x,Dt iter X.env x=pure x:=by intro _;rfl)
  (hsw:Ex (.ListComp elt [⟨tg,iter,ifs,0⟩] scope cpos) (some (.Name x pos')) pos.line X.env=pure true:=by rfl) :
  PS X (.Assign [.Name x pos'] (.ListComp elt [⟨tg,iter,ifs,0⟩] scope cpos) pos) (tAsg (jp2 fr wi g tt te) (jem i)):=by
 intro pins s σ H D I h;rw[exec_Assign_Name_used _ _ _ _ hsw];refine Ad (wpAny_standAt (Ad ?_));show A3 _ _ (do let _ <-comprehension (.ListComp elt [⟨tg,iter,ifs,0⟩] scope cpos) scope X.env (firstIterPos [⟨tg,iter,ifs,0⟩] cpos) (newList []) (firstAsync [⟨tg,iter,ifs,0⟩]) (firstIter [⟨tg,iter,ifs,0⟩] X.env) (some (assign (.Name x pos') X.env))) _ _ s;refine Ad ?_;have fin:∀(u:Unit) (s':Am),SP X pins D .next s'->A3 (Bc X.prog X.w) X.A (pure Flow.next) (SP X pins D) X.xe s':=λ_ s' z=>Av z
 refine thn (Q:=λ_ s'=>SP X pins D .next s') ?_ λ_ s' z=>Av (Av z);refine wpAny_comprehension_free (use:=some (assign (.Name x pos') X.env)) (cl:=cl) rfl hs S.clos S.kind S.names (thn (hi pins s σ H _ I h) λv s1 h1=>thn h1 λitv s2 h2=>?_);obtain⟨it,fp,tn,J,H2,e,I2,T,st2,f2,q⟩:=h2;subst e;refine Dd (wpAny_newFunctionEnv S.nocell (by intro y hy;simp at hy) (λh₁ hn hsb=>?_) S.kind);dsimp only at hn hsb ⊢;obtain⟨W,⟨m0,w0⟩,turn⟩:=q s2.heap.objs.size I2.fresh
 -- the state with the new list
 have I3:Inv X pins σ (upd H2 s2.heap.objs.size (.lst [])) {s2 with heap:=s2.heap.push {cls:=.type "list",dict:=none,data:=.seq ([]:List Ai).toArray}}:=I2.lnew (its:=[]) (t':=s2.toks) .nil (Bn _);have key:∀s3:Am,s3={ s2 with heap:=s2.heap.push {cls:=.type "list",dict:=none,data:=.seq ([]:List Ai).toArray}}->Inv X pins σ (upd H2 s2.heap.objs.size (.lst [])) s3 ->
   ∀(ob:Obj) (mm:Str->Option Ai),Dg s3.heap.objs.size (s3.heap.push ob) h₁->h₁.Ns s3.heap.objs.size mm ->
   codeAny (Bc X.prog X.w) X.A (.compStart (.ListComp elt [⟨tg,iter,ifs,0⟩] scope cpos) 0 (.ref it) (.ref s2.heap.objs.size) (compEnvC scope cl s3.heap.objs.size X.env))
    (compPost (Bc X.prog X.w) X.A X.xe (some (assign (.Name x pos') X.env)) (λ_ s'=>SP X pins D .next s') (.ref s2.heap.objs.size) s3.heap.objs.size) {s3 with heap:=h₁,toks:=s3.toks+([]:List (Str×Ai)).length}:=?key
 ·exact key _ rfl I3 _ _ hsb hn
 clear I3 hn hsb;intro s3 hs3 I3 ob mm hsb hn;have hfp:∀b∈fp,∃o,s2.heap.get? b=some o:=λb hb=>let⟨o,e,_⟩:=T.obj _ _ st2 b hb;⟨o,e⟩;have up:∀b o,s2.heap.get? b=some o->s3.heap.get? b=some o:=λb o e=>by rw[hs3];exact Ag _ e
 have f3:∀b∈fp,FpOk X pins (upd H2 s2.heap.objs.size (.lst [])) b:=λb hb=>by
  obtain⟨o,e⟩:=hfp b hb;obtain⟨g0,gr⟩:=f2 b hb;exact⟨by rw[jag (Bm (Aw e))];exact g0,gr⟩
 have hlt:∀b∈fp,b < s3.heap.objs.size:=λb hb=>let⟨o,e⟩:=hfp b hb;Aw (up b o e);generalize hH3:upd H2 s2.heap.objs.size (.lst [])=H3 at I3 f3 w0;have I4:=jh8 (t':=s3.toks+([]:List (Str×Ai)).length) S I3 f3 hlt hsb hn;have st4:tn 0 h₁:=T.keep _ _ _ st2 λb hb o e=>(hsb.2 b (Bm (Aw (up b o e)))).trans (Ag _ (up b o e));have stat:∀{H':Hp},(∀b∈fp,H' b=none)->∀b∈fp,FpOk (jay X N scope cl s3 H3 fp) [] H' b:=λhn b hb=>by
  obtain⟨_,k1,k2,k3,k4,k5⟩:=f3 b hb;refine⟨hn b hb,Bm (hlt b hb),λz=>?_,.inl hb,λx c e=>k4 x c (S.sub x c e),λp hp=>absurd hp (by simp[jay])⟩;rcases Ar.mp (I3.stkSub b z)with e | e
  ·exact k1 e
  ·exact k2 e
 have loop:codeAny (Bc X.prog X.w) X.A (.compLoop (.ListComp elt [⟨tg,iter,ifs,0⟩] scope cpos) 0 (.ref it) (.ref s2.heap.objs.size) (compEnvC scope cl s3.heap.objs.size X.env))
   (compPost (Bc X.prog X.w) X.A X.xe (some (assign (.Name x pos') X.env)) (λ_ s'=>SP X pins D .next s') (.ref s2.heap.objs.size) s3.heap.objs.size) {s3 with heap:=h₁,toks:=s3.toks+([]:List (Str×Ai)).length}:=by
  refine je3 (λn s'=>∃i ys τ Hc,Inv (jay X N scope cl s3 H3 fp) [] τ Hc s'/\tn i s'.heap/\(∀b∈fp,Hc b=none)/\W i n ys τ Hc) ?_ m0 ⟨0,[],capt fr σ,H3,I4,st4,λb hb=>(f3 b hb).1,w0⟩
  rintro n s5 ⟨i,ys,τ,Hc,I5,st5,fr5,w5⟩
  rcases turn i n ys τ Hc w5 with⟨stop,qn⟩ | ⟨go,hz,step⟩
  ·refine thn (T.done (jay X N scope cl s3 H3 fp) rfl rfl rfl hc i [] s5 τ Hc (λ_ _=>False) I5 (stat fr5) st5 stop) λr s6 ⟨hr,I6⟩=>?_;subst hr;obtain⟨mm,hm,_⟩:=I6.loc;have I6x:Inv X pins σ Hc s6:=jn4 I3 f3 I6 (Heap.SameBut.refl _ _);have hC:Hc s3.heap.objs.size=none:=I6.free;obtain⟨_,c1,_,c3,c4,c5⟩:=I3.fpOk (H':=Hc) (Al _) hC;show A3 (Bc X.prog X.w) X.A (assign (.Name x pos') X.env (.ref s2.heap.objs.size)) _ X.xe s6;refine wpAny_assign_Name (jj4 I6x hN hix (.inl hx) (show RelV (.ref s2.heap.objs.size) (A5 s2.heap.objs.size)from rfl) (λs7 I7 hsb=>?_) (.inr hx));obtain⟨ad,hsb,had⟩:=hsb;have hne:s3.heap.objs.size≠ad:=by
    rcases had with z | z
    ·rw[z];exact c1
    ·exact λq=>c4 x ad z q.symm
   obtain⟨oo,es,ep,ho,rr⟩:=hm;refine⟨mm,⟨oo,es,ep,(hsb.2 _ hne).trans ho,rr⟩,λh' hs'=>⟨_,Hc,?_,qn⟩⟩;have ne:∀b,b∉[s3.heap.objs.size]->b≠s3.heap.objs.size:=λb z q=>z (by rw[q];exact Bh.mpr rfl);have hok':HOk X.prog X.w Hc h':=λb o e=>by
    refine(I7.hok b o e).stay (λc v hc z=>(hs'.2 c ?_).trans z) (λ_ z=>z) λ_ _ z=>z
    rintro rfl
    rcases hc with z | z
    ·rw[<-z,hC]at e;cases e
    ·rw[hC]at z;cases z
   refine I7.call' (s':={ s7 with heap:=h'}) (ch:=[s3.heap.objs.size]) rfl ?_ hok' I7.bare λb hb=>?_
   ·exact⟨λb o e n h1 h2=>(hs'.2 b (ne b h2)).trans e,λb o e n h1 h2=>⟨o.slots,(hs'.2 b (ne b h2)).trans e⟩,λb o e n h2=>n,λb o e h2=>⟨o,(hs'.2 b (ne b h2)).trans e⟩,λ_ _ z=>z,λ_ _ _ z=>z,λb ps z=>⟨#[],by rw[Array.append_empty];exact z⟩⟩
   ·cases Bh.mp hb;exact⟨c3,c1,c4,c5⟩
  ·refine thn (T.item (jay X N scope cl s3 H3 fp) rfl rfl rfl hc i [] s5 τ Hc (λ_ _=>False) I5 (stat fr5) st5 go) λr s6 ⟨u,hr,h6⟩=>?_;subst hr;refine thn h6 λ_ s7 ⟨x,H7,I7,r7,y7,st7,fr7⟩=>?_;have I7':=I7.pinned (stat fr7) (T.obj _ _ st7);refine thn (hg s3 H3 fp _ s7 τ H7 x u _ I7' r7 (step x H7 y7)) λ_ s8 ⟨τ8,H8,I8,q8⟩=>?_;refine thn (ht s3 H3 fp _ s8 τ8 H8 _ I8 q8) λok s9 ⟨H9,I9,q9⟩=>?_;have keep:∀{st:Am} {τ':St} {H':Hp},Inv (jay X N scope cl s3 H3 fp) ([]++jh2 fp s7.heap) τ' H' st->tn (i+1) st.heap/\∀b∈fp,H' b=none:=λ{st τ' H'} Ix=>by
    refine⟨T.keep _ _ _ st7 λb hb o e=>(Ix.pin (b,o) (Ba _ (Ba _ (jbs hb e)))).1,λb hb=>?_⟩;obtain⟨o,e,d⟩:=T.obj _ _ st7 b hb;exact(Ix.pin (b,o) (Ba _ (Ba _ (jbs hb e)))).2.1
   cases ok with
   |false =>
    rw[if_neg Ae]at q9 ⊢;obtain⟨m',hm,w9⟩:=q9;obtain⟨k1,k2⟩:=keep I9;exact⟨m',hm,i+1,ys,τ8,H9,I9.unpinned,k1,k2,w9⟩
   |true =>
    rw[if_pos rfl]at q9 ⊢;refine thn (he s3 H3 fp _ s9 τ8 H9 _ I9 q9) λxv s10 ⟨y,H10,I10,r10,hD,m',hm,w10⟩=>?_;refine thn (jf4 _ s10 τ8 H10 (.ref s2.heap.objs.size) [y] (.ref s2.heap.objs.size) [xv] (λz H'=>∃m',m' < n/\W (i+1) m' (ys++[y]) τ8 H') I10 rfl (.cons r10 .nil) ⟨_,ys,y,rfl,rfl,hD,hz,m',hm,w10⟩) λz s11 ⟨z',H11,I11,_,m'',hm',w11⟩=>?_;obtain⟨k1,k2⟩:=keep I11;exact⟨m'',hm',i+1,ys++[y],τ8,H11,I11.unpinned,k1,k2,w11⟩
 exact codeAny_compStart_list loop (T.self _ 0 _ _ _ st4 loop)
end L2
set_option Elab.async false
set_option maxRecDepth 100000
namespace Nb
open PySem L2
def Kp (t:Addr) (H H':Hp):Prop:=∀b o,H b=some o->b≠t->H' b=some o
theorem Kp.refl (t:Addr) (H:Hp):Kp t H H:=λ_ _ h _=>h
theorem Kp.trans {t:Addr} {H H1 H2:Hp} (a:Kp t H H1) (b:Kp t H1 H2):Kp t H H2:=λc o h n=>b c o (a c o h n) n
theorem Kp.new {t p:Addr} {H:Hp} {o:HO} (h:H p=none):Kp t H (upd H p o):=λc o' e _=>by
 rw[jag (jad e h)];exact e
theorem Kp.tape {t:Addr} {H:Hp} {o:HO}:Kp t H (upd H t o):=λc o' e n=>by
 rw[jag n];exact e
structure TL where
 s:Addr
 g:Addr
def exOf (l:TL):List V:=if jpy=true then[.ref l.g]else[]
structure Tp (H:Hp) (t:Addr) (l:TL) (ns:List Int) (n:Int):Prop where
 ob:∃a b:Int,H t=some (.lst (.ref l.s::.int a::.int b::exOf l))/\0<=a/\a<=n
 ls:H l.s=some (.lst (ns.map V.int))
 len:ns.length<=63
 ag:jpy=true->H l.g=some (.lst ju5)
 gne:l.g≠t
theorem Tp.ne {H:Hp} {t:Addr} {l:TL} {ns:List Int} {n:Int} (T:Tp H t l ns n):t≠l.s:=by
 obtain⟨a,b,h,_⟩:=T.ob;refine j1a h T.ls λz=>?_;have z':(.ref l.s::.int a::.int b::exOf l:List V)=ns.map V.int:=HO.lst.inj z;cases ns with
 |nil=>cases z'
 |cons m r =>
  rw[Be]at z';have:=(List.cons.inj z').1;cases this
theorem Tp.other {H:Hp} {t p:Addr} {l:TL} {ns:List Int} {n:Int} {o:HO} (T:Tp H t l ns n) (h1:t≠p) (h2:l.s≠p) (h3:jpy=true->l.g≠p):Tp (upd H p o) t l ns n:=by
 obtain⟨a,b,e,h⟩:=T.ob;exact⟨⟨a,b,by rw[jag h1];exact e,h⟩,by rw[jag h2];exact T.ls,T.len,λz=>by rw[jag (h3 z)];exact T.ag z,T.gne⟩
theorem Tp.new {H:Hp} {t p:Addr} {l:TL} {ns:List Int} {n:Int} {o:HO} (T:Tp H t l ns n) (h:H p=none):Tp (upd H p o) t l ns n:=by
 obtain⟨a,b,e,_⟩:=T.ob;exact T.other (jad e h) (jad T.ls h) λz=>jad (T.ag z) h
theorem jyw {xs:List V} {r:Int} (h0:0<=r) (h1:r < xs.length):∃v,atI xs r=some v/\v∈xs:=by
 obtain⟨j,rfl⟩:=E5 h0;have hj:j < xs.length:=by omega
 exact⟨xs[j],ja5 (Af hj),Ck hj⟩
theorem small {n:Nat} (h:n<=1000):n<=Ap:=D6 (jj6 h)
theorem juz:Bv "tuple"=some (.type "tuple"):=by decide +kernel
theorem jyv:Bv "dict"=some (.type "dict"):=by decide +kernel
theorem j21:Bv "str"=some (.type "str"):=by decide +kernel
theorem jyu:Bv "repr"=some (.builtin "repr"):=by decide +kernel
theorem jss:Bv "isinstance"=some (.builtin "isinstance"):=by decide +kernel
theorem jgp:Bv "list"=some (.type "list"):=by decide +kernel
theorem j46 {xs:List V} (h:xs.length<=63):cutV xs none (some 63)=xs:=by
 unfold cutV;have e1:HT.sIx xs.length 0 none=0:=rfl;have e2:HT.sIx xs.length xs.length (some 63)=xs.length:=by
  have e:=HT.sIx_nat xs.length xs.length 63;rw[show((63:Nat):Int)=63 from rfl]at e;rw[e];omega
 rw[e1,e2,Dy,Nat.sub_zero,List.take_length]
def jj5 (K:Ah):Sp:=λvs H Q _=>∃(a:Addr) (ns:List Int),vs=[.ref a]/\SqL K H a (ns.map V.int)/\ns.length<=63 /\
 ∀(t:Addr) (l:TL) (H':Hp),Tp H' t l ns 0->(∀b o,H b=some o->H' b=some o)->Q (.ref t) H'
def jvi:Sp:=λvs H Q _=>∃(t:Addr) (l:TL) (ns:List Int) (n many:Int),vs=[.ref t,.int many]/\Tp H t l ns n/\n < 2 ^ 40/\0 < many/\many < 1073741824 /\
 ∀(r:Int) (H':Hp),0<=r->r < many->Tp H' t l ns (n+1)->Kp t H H'->Q (.int r) H'
end Nb
namespace DL
open PySem L2 Nb
abbrev D:=Aa
mutual
inductive RdX (H:Hp) (B:Addr->Prop):V->Aa->Prop
 |non:RdX H B .non .none
 |bl (b:Bool):RdX H B (.bl b) (.bool b)
 |int (i:Int):RdX H B (.int i) (.int i)
 |str (x:Str) (h:x.length<=Ap):RdX H B (.str x) (.str x)
 |lst {a:Addr} {xs:List V} {ds:List Aa}:H a=some (.lst xs)->¬B a->xs.length<=Ap->RdXs H B xs ds->RdX H B (.ref a) (.list ds)
 |tup {a:Addr} {xs:List V} {ds:List Aa}:H a=some (.tup xs)->¬B a->xs.length<=Ap->RdXs H B xs ds->RdX H B (.ref a) (.tuple ds)
inductive RdXs (H:Hp) (B:Addr->Prop):List V->List Aa->Prop
 |nil:RdXs H B [] []
 |cons {x:V} {xs:List V} {d:Aa} {ds:List Aa}:RdX H B x d->RdXs H B xs ds->RdXs H B (x::xs) (d::ds)
end
mutual
theorem RdX.move {H H':Hp} {B B':Addr->Prop} (k:∀b o,H b=some o->¬B b->H' b=some o/\¬B' b):∀{v:V} {d:Aa},RdX H B v d->RdX H' B' v d
 |_,_,.non=>.non
 |_,_,.bl b=>.bl b
 |_,_,.int i=>.int i
 |_,_,.str x h=>.str x h
 |_,_,.lst h1 h2 h3 h4=>.lst (k _ _ h1 h2).1 (k _ _ h1 h2).2 h3 (RdXs.move k h4)
 |_,_,.tup h1 h2 h3 h4=>.tup (k _ _ h1 h2).1 (k _ _ h1 h2).2 h3 (RdXs.move k h4)
theorem RdXs.move {H H':Hp} {B B':Addr->Prop} (k:∀b o,H b=some o->¬B b->H' b=some o/\¬B' b):∀{vs:List V} {ds:List Aa},RdXs H B vs ds->RdXs H' B' vs ds
 |_,_,.nil=>.nil
 |_,_,.cons h1 h2=>.cons (RdX.move k h1) (RdXs.move k h2)
end
section
variable {H H':Hp} {B B':Addr->Prop} {v:V} {d:Aa} {vs ws:List V} {ds es:List Aa} {t:Addr}
theorem RdX.kp (k:Kp t H H') (ht:B t) (h:RdX H B v d):RdX H' B v d:=h.move λb o e n=>⟨k b o e λz=>n (z▸ht),n⟩
theorem RdXs.kp (k:Kp t H H') (ht:B t) (h:RdXs H B vs ds):RdXs H' B vs ds:=h.move λb o e n=>⟨k b o e λz=>n (z▸ht),n⟩
theorem RdX.less (k:∀b,B' b->B b) (h:RdX H B v d):RdX H B' v d:=h.move λb o e n=>⟨e,λz=>n (k b z)⟩
theorem RdXs.less (k:∀b,B' b->B b) (h:RdXs H B vs ds):RdXs H B' vs ds:=h.move λb o e n=>⟨e,λz=>n (k b z)⟩
theorem RdXs.keep (k:∀b o,H b=some o->¬B b->H' b=some o) (h:RdXs H B vs ds):RdXs H' B vs ds:=h.move λb o e n=>⟨k b o e n,n⟩
theorem RdXs.len:∀{vs:List V} {ds:List Aa},RdXs H B vs ds->vs.length=ds.length
 |_,_,.nil=>rfl
 |_,_,.cons _ t=>by rw[Ao,Ao,RdXs.len t]
theorem RdXs.get:∀{vs:List V} {ds:List Aa} {i:Nat} {v:V},RdXs H B vs ds->vs[i]?=some v->∃d,ds[i]?=some d/\RdX H B v d
 |_,_,_,_,.nil,e=>by simp at e
 |_,_,0,_,.cons h _,e=>by
  simp at e;subst e;exact⟨_,rfl,h⟩
 |_,_,i+1,v,.cons _ t,e=>by
  obtain⟨d,h1,h2⟩:=RdXs.get (i:=i) (v:=v) t (by simpa using e);exact⟨d,by simpa using h1,h2⟩
theorem RdXs.getD:∀{vs:List V} {ds:List Aa} {i:Nat} {d:Aa},RdXs H B vs ds->ds[i]?=some d->∃v,vs[i]?=some v/\RdX H B v d
 |_,_,_,_,.nil,e=>by simp at e
 |_,_,0,_,.cons h _,e=>by
  simp at e;subst e;exact⟨_,rfl,h⟩
 |_,_,i+1,d,.cons _ t,e=>by
  obtain⟨v,h1,h2⟩:=RdXs.getD (i:=i) (d:=d) t (by simpa using e);exact⟨v,by simpa using h1,h2⟩
theorem RdXs.append:∀{vs ws:List V} {ds es:List Aa},RdXs H B vs ds->RdXs H B ws es->RdXs H B (vs++ws) (ds++es)
 |_,_,_,_,.nil,h=>h
 |_,_,_,_,.cons h1 h2,h=>.cons h1 (RdXs.append h2 h)
theorem RdXs.set:∀{vs:List V} {ds:List Aa} (i:Nat) {v:V} {d:Aa},RdXs H B vs ds->RdX H B v d->RdXs H B (vs.set i v) (ds.set i d)
 |_,_,_,_,_,.nil,_=>.nil
 |_,_,0,_,_,.cons _ t,h=>.cons h t
 |_,_,i+1,_,_,.cons q t,h=>.cons q (RdXs.set i t h)
theorem RdXs.take:∀{vs:List V} {ds:List Aa} (n:Nat),RdXs H B vs ds->RdXs H B (vs.take n) (ds.take n)
 |_,_,0,_=>.nil
 |_,_,_+1,.nil=>.nil
 |_,_,n+1,.cons r t=>.cons r (RdXs.take n t)
theorem RdXs.drop:∀{vs:List V} {ds:List Aa} (n:Nat),RdXs H B vs ds->RdXs H B (vs.drop n) (ds.drop n)
 |_,_,0,r=>r
 |_,_,_+1,.nil=>.nil
 |_,_,n+1,.cons _ t=>RdXs.drop n t
end
mutual
theorem RdX.rd {K:Ah} {H:Hp} {B:Addr->Prop}:∀{v:V} {d:Aa},RdX H B v d->RdD K H v d
 |_,_,.non=>.non
 |_,_,.bl b=>.bl b
 |_,_,.int i=>.int i
 |_,_,.str x h=>.str x
 |_,_,.lst h1 h2 h3 h4=>.lst (SqL.of h1) (RdXs.rd h4)
 |_,_,.tup h1 h2 h3 h4=>.tup (SqT.of h1) (RdXs.rd h4)
theorem RdXs.rd {K:Ah} {H:Hp} {B:Addr->Prop}:∀{vs:List V} {ds:List Aa},RdXs H B vs ds->RdAll K H vs ds
 |_,_,.nil=>.nil
 |_,_,.cons h1 h2=>.cons (RdX.rd h1) (RdXs.rd h2)
end
inductive Ob where
 |o | p (d:Aa) | k (m:List (Key×Aa)) | q (d:Aa) (m:List (Key×Aa))
inductive Wv where
 |d (x:Aa) | tp | dk (kvs:List (Key×Aa)) | ln (ds:List Aa) | ob (o:Ob)
def Wv.lent:Wv->Bool
 |.dk _=>true
 |.ln _=>true
 |_=>false
inductive SV where
 |w (x:Wv) | own (ds:List Aa) | odk (kvs:List (Key×Aa)) | odt (kvs:List (List Key×Aa))
abbrev Sl:=List (Option SV)
def RdK (H:Hp) (B:Addr->Prop):List (Key×V)->List (Key×Aa)->Prop:=Paired λp q=>p.1=q.1/\RdX H B p.2 q.2
theorem RdK.move {H H':Hp} {B B':Addr->Prop} (k:∀b o,H b=some o->¬B b->H' b=some o/\¬B' b) {l:List (Key×V)} {m:List (Key×Aa)} (h:RdK H B l m):RdK H' B' l m :=
 Paired.mapP h λ_ _ z=>⟨z.1,z.2.move k⟩
def RdT (H:Hp) (B:Addr->Prop):List (List Key×V)->List (List Key×Aa)->Prop:=Paired λp q=>p.1=q.1/\RdX H B p.2 q.2
theorem RdT.move {H H':Hp} {B B':Addr->Prop} (k:∀b o,H b=some o->¬B b->H' b=some o/\¬B' b) {l:List (List Key×V)} {m:List (List Key×Aa)} (h:RdT H B l m):RdT H' B' l m :=
 Paired.mapP h λ_ _ z=>⟨z.1,z.2.move k⟩
def ORel (H:Hp) (B:Addr->Prop) (v:V):Ob->Prop
 |.o=>∃a,v=.ref a
 |.p d=>∃a x y,v=.ref a/\H a=some (.tup [x,y])/\¬B a/\RdX H B x d
 |.k m=>∃a l,v=.ref a/\H a=some (.dK l)/\¬B a/\RdK H B l m
 |.q d m=>∃a x b l,v=.ref a/\H a=some (.tup [x,.ref b])/\¬B a/\RdX H B x d/\H b=some (.dK l)/\¬B b/\RdK H B l m
theorem ORel.move {H H':Hp} {B B':Addr->Prop} (k:∀b o,H b=some o->¬B b->H' b=some o/\¬B' b) {v:V} {o:Ob} (h:ORel H B v o):ORel H' B' v o:=by
 cases o with
 |o=>exact h
 |p d =>
  obtain⟨a,x,y,e,h1,h2,h3⟩:=h;exact⟨a,x,y,e,(k _ _ h1 h2).1,(k _ _ h1 h2).2,h3.move k⟩
 |k m =>
  obtain⟨a,l,e,h1,h2,h3⟩:=h;exact⟨a,l,e,(k _ _ h1 h2).1,(k _ _ h1 h2).2,h3.move k⟩
 |q d m =>
  obtain⟨a,x,b,l,e,h1,h2,h3,h4,h5,h6⟩:=h;exact⟨a,x,b,l,e,(k _ _ h1 h2).1,(k _ _ h1 h2).2,h3.move k,(k _ _ h4 h5).1,(k _ _ h4 h5).2,h6.move k⟩
def WRel (H:Hp) (B:Addr->Prop) (t:Addr) (v:V):Wv->Prop
 |.d x=>RdX H B v x
 |.tp=>v=.ref t
 |.dk kvs=>∃a l,v=.ref a/\H a=some (.dK l)/\a≠t/\RdK H B l kvs
 |.ln ds=>∃a xs,v=.ref a/\H a=some (.lst xs)/\a≠t/\xs.length<=Ap/\RdXs H B xs ds
 |.ob o=>ORel H B v o
def SRel (H0:Hp) (H:Hp) (B:Addr->Prop) (t:Addr) (v:V):SV->Prop
 |.w x=>WRel H B t v x/\(x.lent=true->∃a,v=.ref a/\H0 a≠none)
 |.own ds=>∃a xs,v=.ref a/\H a=some (.lst xs)/\B a/\H0 a=none/\xs.length<=Ap/\RdXs H B xs ds
 |.odk kvs=>∃a l,v=.ref a/\H a=some (.dK l)/\B a/\H0 a=none/\l.length<=1000/\RdK H B l kvs
 |.odt kvs=>∃a l,v=.ref a/\H a=some (.dT l)/\B a/\H0 a=none/\l.length<=1000/\RdT H B l kvs
def SV.isOwn:SV->Bool
 |.w _=>false
 |_=>true
structure Ctx where
 t:Addr
 l:TL
 ns:List Int
 H0:Hp
 B0:Addr->Prop
 fz:Hp
structure Rel (C:Ctx) (H:Hp) (B:Addr->Prop) (σ:St) (δ:Sl) (n:Int):Prop where
 tp:Tp H C.t C.l C.ns n
 kp:Kp C.t C.H0 H
 t0:C.H0 C.t≠none
 l0:C.H0 C.l.s≠none
 g0:jpy=true->C.H0 C.l.g≠none
 fz:∀b o,C.fz b=some o->H b=some o/\¬B b
 bt:B C.t
 b0:∀b,C.B0 b->B b
 ba:∀b,B b->H b≠none
 a0:∀b,C.B0 b->C.H0 b≠none
 sl:∀(i:Nat) (x:SV),δ[i]?=some (some x)->∃v,σ[i]?=some (some v)/\SRel C.H0 H B C.t v x
 ow:∀(i j:Nat) (x y:SV) (v:V),δ[i]?=some (some x)->δ[j]?=some (some y)->x.isOwn=true->y.isOwn=true->σ[i]?=some (some v)->σ[j]?=some (some v)->i=j
 len:σ.length=δ.length
theorem WRel.kp {H H':Hp} {B:Addr->Prop} {t:Addr} {v:V} {x:Wv} (k:Kp t H H') (ht:B t) (h:WRel H B t v x):WRel H' B t v x:=by
 cases x with
 |d x=>exact RdX.kp k ht h
 |tp=>exact h
 |dk kvs =>
  obtain⟨a,l,e,h1,h2,h3⟩:=h;exact⟨a,l,e,k _ _ h1 h2,h2,h3.move λb o e n=>⟨k b o e λz=>n (z▸ht),n⟩⟩
 |ln ds =>
  obtain⟨a,l,e,h1,h2,h3,h4⟩:=h;exact⟨a,l,e,k _ _ h1 h2,h2,h3,h4.kp k ht⟩
 |ob o=>exact ORel.move (λb o e n=>⟨k b o e λz=>n (z▸ht),n⟩) h
theorem WRel.less {H:Hp} {B B':Addr->Prop} {t:Addr} {v:V} {x:Wv} (k:∀b,B' b->B b) (h:WRel H B t v x):WRel H B' t v x:=by
 cases x with
 |d x=>exact RdX.less k h
 |tp=>exact h
 |dk kvs =>
  obtain⟨a,l,e,h1,h2,h3⟩:=h;exact⟨a,l,e,h1,h2,h3.move λb o e n=>⟨e,λz=>n (k b z)⟩⟩
 |ln ds =>
  obtain⟨a,l,e,h1,h2,h3,h4⟩:=h;exact⟨a,l,e,h1,h2,h3,h4.less k⟩
 |ob o=>exact ORel.move (λb o e n=>⟨e,λz=>n (k b z)⟩) h
theorem SRel.kp {H0 H H':Hp} {B:Addr->Prop} {t:Addr} {v:V} {x:SV} (k:Kp t H H') (ht:B t) (t0:H0 t≠none) (h:SRel H0 H B t v x):SRel H0 H' B t v x:=by
 cases x with
 |w x=>exact⟨h.1.kp k ht,h.2⟩
 |own ds =>
  obtain⟨a,xs,e,h1,h2,h3,h4,h5⟩:=h;exact⟨a,xs,e,k _ _ h1 (λz=>t0 (z▸h3)),h2,h3,h4,h5.kp k ht⟩
 |odk kvs =>
  obtain⟨a,l,e,h1,h2,h3,h4,h5⟩:=h;exact⟨a,l,e,k _ _ h1 (λz=>t0 (z▸h3)),h2,h3,h4,h5.move λb o e n=>⟨k b o e λz=>n (z▸ht),n⟩⟩
 |odt kvs =>
  obtain⟨a,l,e,h1,h2,h3,h4,h5⟩:=h;exact⟨a,l,e,k _ _ h1 (λz=>t0 (z▸h3)),h2,h3,h4,h5.move λb o e n=>⟨k b o e λz=>n (z▸ht),n⟩⟩
theorem Rel.step {C:Ctx} {H H':Hp} {B:Addr->Prop} {σ:St} {δ:Sl} {n n':Int} (R:Rel C H B σ δ n) (T:Tp H' C.t C.l C.ns n') (k:Kp C.t H H'):Rel C H' B σ δ n' where
 tp:=T
 kp:=R.kp.trans k
 t0:=R.t0
 l0:=R.l0
 g0:=R.g0
 fz:=λb o e=>⟨k b o (R.fz b o e).1 λz=>(R.fz b o e).2 (z▸R.bt),(R.fz b o e).2⟩
 bt:=R.bt
 b0:=R.b0
 ba:=λb hb e=>by
  by_cases z:b=C.t
  ·subst z;obtain⟨x,y,h,_⟩:=T.ob;rw[h]at e;cases e
  ·cases q:H b with
   |none=>exact R.ba b hb q
   |some o=>rw[k b o q z]at e;cases e
 a0:=R.a0
 sl:=λi x e=>by
  obtain⟨v,h1,h2⟩:=R.sl i x e;exact⟨v,h1,h2.kp k R.bt R.t0⟩
 ow:=R.ow
 len:=R.len
theorem Rel.new {C:Ctx} {H:Hp} {B:Addr->Prop} {σ:St} {δ:Sl} {n:Int} {p:Addr} {o:HO} (R:Rel C H B σ δ n) (h:H p=none):Rel C (upd H p o) B σ δ n:=R.step (R.tp.new h) (Kp.new h)
theorem Rel.nb {C:Ctx} {H:Hp} {B:Addr->Prop} {σ:St} {δ:Sl} {n:Int} {p:Addr} (R:Rel C H B σ δ n) (h:H p=none):¬B p:=λz=>R.ba p z h
theorem jao {α:Type} {l:List (Option α)} {i j:Nat} {x y:α} (h:(l.set i (some x))[j]?=some (some y)):(j=i/\y=x)\/(j≠i/\l[j]?=some (some y)):=by
 by_cases e:i=j
 ·subst e;rw[E1]at h;cases q:l[i]? with
  |none=>rw[q]at h;cases h
  |some z =>
   rw[q]at h;exact .inl ⟨rfl,(A6 (A6 h)).symm⟩
 ·rw[Cg e]at h;exact .inr ⟨λz=>e z.symm,h⟩
theorem jm7 {α:Type} {l:List (Option α)} {i:Nat} {x y:Option α} (h:(l.set i x)[i]?=some y):i < l.length:=by
 have:=(Aq.mp h).1;rwa [Ci]at this
theorem jbw {α:Type} {l:List (Option α)} {i:Nat} {x:α} (h:i < l.length):(l.set i (some x))[i]?=some (some x):=by simp[h]
theorem jba {α:Type} {l:List (Option α)} {i j:Nat} {x:α} (h:j≠i):(l.set i (some x))[j]?=l[j]?:=Cg (λz=>h z.symm)
theorem Rel.set {C:Ctx} {H:Hp} {B:Addr->Prop} {σ:St} {δ:Sl} {n:Int} {i:Nat} {v:V} {x:Wv} (R:Rel C H B σ δ n) (h:WRel H B C.t v x) (hx:x.lent=false):Rel C H B (σ.set i (some v)) (δ.set i (some (.w x))) n where
 tp:=R.tp
 kp:=R.kp
 t0:=R.t0
 l0:=R.l0
 g0:=R.g0
 fz:=R.fz
 bt:=R.bt
 b0:=R.b0
 ba:=R.ba
 a0:=R.a0
 sl:=λj y e=>by
  rcases jao e with⟨rfl,rfl⟩ | ⟨ne,e'⟩
  ·exact⟨v,jbw (by rw[R.len];exact jm7 e),h,λz=>by rw[hx]at z;cases z⟩
  ·obtain⟨u,h1,h2⟩:=R.sl j y e';exact⟨u,by rw[jba ne];exact h1,h2⟩
 ow:=λj k y z u e1 e2 o1 o2 f1 f2=>by
  rcases jao e1 with⟨rfl,rfl⟩ | ⟨ne1,e1'⟩
  ·cases o1
  ·rcases jao e2 with⟨rfl,rfl⟩ | ⟨ne2,e2'⟩
   ·cases o2
   ·rw[jba ne1]at f1;rw[jba ne2]at f2;exact R.ow j k y z u e1' e2' o1 o2 f1 f2
 len:=by rw[Ci,Ci];exact R.len
theorem Rel.mut {C:Ctx} {H:Hp} {B:Addr->Prop} {σ:St} {δ:Sl} {n:Int} {a:Addr} {o:HO} (R:Rel C H B σ δ n) (hb:B a) (h0:C.H0 a=none)
  (ho:∀(i:Nat) (x:SV),δ[i]?=some (some x)->x.isOwn=true->σ[i]?≠some (some (.ref a))):Rel C (upd H a o) B σ δ n where
 tp:=R.tp.other (λz=>R.t0 (z▸h0)) (λz=>R.l0 (z▸h0)) (λe z=>R.g0 e (z▸h0))
 kp:=λb o' e ne=>by
  rw[jag (jad e h0)];exact R.kp b o' e ne
 t0:=R.t0
 l0:=R.l0
 g0:=R.g0
 fz:=λb o' e=>⟨by rw[jag λ(z:b=a)=>(R.fz b o' e).2 (z▸hb)];exact(R.fz b o' e).1,(R.fz b o' e).2⟩
 bt:=R.bt
 b0:=R.b0
 ba:=λb hb' e=>by
  by_cases z:b=a
  ·rw[z,jah]at e;cases e
  ·rw[jag z]at e;exact R.ba b hb' e
 a0:=R.a0
 sl:=λi x e=>by
  obtain⟨v,h1,h2⟩:=R.sl i x e;have mv:∀b o',H b=some o'->¬B b->upd H a o b=some o'/\¬B b:=λb o' e n=>⟨by rw[jag λ(z:b=a)=>n (z▸hb)];exact e,n⟩;refine⟨v,h1,?_⟩;cases x with
  |w x =>
   refine⟨?_,h2.2⟩;cases x with
   |d x=>exact h2.1.move mv
   |tp=>exact h2.1
   |dk kvs =>
    obtain⟨a',l,e1,e2,e3,e4⟩:=h2.1;obtain⟨a'',f1,f2⟩:=h2.2 rfl;rw[e1]at f1;cases f1;exact⟨a',l,e1,by rw[jag λ(z:a'=a)=>f2 (z▸h0)];exact e2,e3,e4.move mv⟩
   |ln ds =>
    obtain⟨a',l,e1,e2,e3,e4,e5⟩:=h2.1;obtain⟨a'',f1,f2⟩:=h2.2 rfl;rw[e1]at f1;cases f1;exact⟨a',l,e1,by rw[jag λ(z:a'=a)=>f2 (z▸h0)];exact e2,e3,e4,e5.move mv⟩
   |ob o=>exact ORel.move mv h2.1
  |own ds =>
   obtain⟨a',xs,e1,e2,e3,e4,e5,e6⟩:=h2;have ne:a'≠a:=λz=>ho i _ e rfl (by rw[h1,e1,z]);exact⟨a',xs,e1,by rw[jag ne];exact e2,e3,e4,e5,e6.move mv⟩
  |odk kvs =>
   obtain⟨a',xs,e1,e2,e3,e4,e5,e6⟩:=h2;have ne:a'≠a:=λz=>ho i _ e rfl (by rw[h1,e1,z]);exact⟨a',xs,e1,by rw[jag ne];exact e2,e3,e4,e5,e6.move mv⟩
  |odt kvs =>
   obtain⟨a',xs,e1,e2,e3,e4,e5,e6⟩:=h2;have ne:a'≠a:=λz=>ho i _ e rfl (by rw[h1,e1,z]);exact⟨a',xs,e1,by rw[jag ne];exact e2,e3,e4,e5,e6.move mv⟩
 ow:=R.ow
 len:=R.len
theorem Rel.mutOwn {C:Ctx} {H:Hp} {B:Addr->Prop} {σ:St} {δ:Sl} {n:Int} {i:Nat} {x x':SV} {a:Addr} {o:HO} (R:Rel C H B σ δ n) (hi:δ[i]?=some (some x)) (hx:x.isOwn=true) (hσ:σ[i]?=some (some (.ref a))) (hb:B a) (h0:C.H0 a=none)
  (h:SRel C.H0 (upd H a o) B C.t (.ref a) x') (hx':x'.isOwn=true):Rel C (upd H a o) B σ (δ.set i (some x')) n:=by
 -- first the other slots: slot i is taken out
 have R1:Rel C H B σ (δ.set i none) n:={
  tp:=R.tp,kp:=R.kp,t0:=R.t0,l0:=R.l0,g0:=R.g0,fz:=R.fz,bt:=R.bt,b0:=R.b0,ba:=R.ba,a0:=R.a0
  sl:=λj y e=>by
   by_cases z:i=j
   ·subst z;rw[E1]at e;rw[hi]at e;cases e
   ·rw[Cg z]at e;exact R.sl j y e
  ow:=λj k y z u e1 e2 o1 o2 f1 f2=>by
   have g:∀{m:Nat} {w:SV},(δ.set i none)[m]?=some (some w)->δ[m]?=some (some w):=λ{m w} e=>by
    by_cases q:i=m
    ·subst q;rw[E1,hi]at e;cases e
    ·rwa [Cg q]at e
   exact R.ow j k y z u (g e1) (g e2) o1 o2 f1 f2
  len:=by rw[Ci];exact R.len}
 have R2:Rel C (upd H a o) B σ (δ.set i none) n:=R1.mut hb h0 λj y e oy f=>by
  by_cases z:i=j
  ·subst z;rw[E1,hi]at e;cases e
  ·rw[Cg z]at e;exact z (R.ow i j x y _ hi e hx oy hσ f)
 have hlt:i < δ.length:=(Aq.mp hi).1;exact{
  tp:=R2.tp,kp:=R2.kp,t0:=R2.t0,l0:=R2.l0,g0:=R2.g0,fz:=R2.fz,bt:=R2.bt,b0:=R2.b0,ba:=R2.ba,a0:=R2.a0
  sl:=λj y e=>by
   rcases jao e with⟨rfl,rfl⟩ | ⟨ne,e'⟩
   ·exact⟨_,hσ,h⟩
   ·exact R2.sl j y (by rw[Cg λz=>ne z.symm];exact e')
  ow:=λj k y z u e1 e2 o1 o2 f1 f2=>by
   rcases jao e1 with⟨rfl,rfl⟩ | ⟨ne1,e1'⟩
   ·rcases jao e2 with⟨rfl,rfl⟩ | ⟨ne2,e2'⟩
    ·rfl
    ·exact R.ow _ _ x z u hi e2' hx o2 f1 f2
   ·rcases jao e2 with⟨rfl,rfl⟩ | ⟨ne2,e2'⟩
    ·exact R.ow _ _ y x u e1' hi o1 hx f1 f2
    ·exact R.ow j k y z u e1' e2' o1 o2 f1 f2
  len:=by rw[Ci];exact R.len}
theorem Rel.own {C:Ctx} {H H':Hp} {B:Addr->Prop} {σ:St} {δ:Sl} {n n':Int} {i:Nat} {a:Addr} {x:SV} (R:Rel C H B σ δ n) (R':Rel C H' B σ δ n') (k:Kp C.t H H') (h0:H a=none) (h1:H' a≠none) (hx:x.isOwn=true)
  (h:SRel C.H0 H' (λb=>B b\/b=a) C.t (.ref a) x):Rel C H' (λb=>B b\/b=a) (σ.set i (some (.ref a))) (δ.set i (some x)) n' where
 tp:=R'.tp
 kp:=R'.kp
 t0:=R'.t0
 l0:=R'.l0
 g0:=R'.g0
 fz:=λb o e=>⟨(R'.fz b o e).1,λz=>z.elim (R'.fz b o e).2 λq=>jad (R.fz b o e).1 h0 q⟩
 bt:=.inl R.bt
 b0:=λb z=>.inl (R.b0 b z)
 ba:=λb z=>z.elim (R'.ba b) λq=>q▸h1
 a0:=R.a0
 sl:=λj y e=>by
  have hta:C.t≠a:=λz=>by
   obtain⟨_,_,q,_⟩:=R.tp.ob;rw[z,h0]at q;cases q
  have mv:∀b o',H b=some o'->¬B b->H' b=some o'/\¬(B b\/b=a):=λb o' e n=>⟨k b o' e λz=>n (z▸R.bt),λz=>z.elim n λq=>jad e h0 q⟩;rcases jao e with⟨rfl,rfl⟩ | ⟨ne,e'⟩
  ·exact⟨_,jbw (by rw[R.len];exact jm7 e),h⟩
  ·obtain⟨v,f1,f2⟩:=R.sl j y e';refine⟨v,by rw[jba ne];exact f1,?_⟩;cases y with
   |w y =>
    refine⟨?_,f2.2⟩;cases y with
    |d y=>exact f2.1.move mv
    |tp=>exact f2.1
    |dk kvs =>
     obtain⟨a',l,e1,e2,e3,e4⟩:=f2.1;exact⟨a',l,e1,k _ _ e2 e3,e3,e4.move mv⟩
    |ln ds =>
     obtain⟨a',l,e1,e2,e3,e4,e5⟩:=f2.1;exact⟨a',l,e1,k _ _ e2 e3,e3,e4,e5.move mv⟩
    |ob o=>exact ORel.move mv f2.1
   |own ds =>
    obtain⟨a',xs,e1,e2,e3,e4,e5,e6⟩:=f2;exact⟨a',xs,e1,k _ _ e2 (λz=>R.t0 (z▸e4)),.inl e3,e4,e5,e6.move mv⟩
   |odk kvs =>
    obtain⟨a',xs,e1,e2,e3,e4,e5,e6⟩:=f2;exact⟨a',xs,e1,k _ _ e2 (λz=>R.t0 (z▸e4)),.inl e3,e4,e5,e6.move mv⟩
   |odt kvs =>
    obtain⟨a',xs,e1,e2,e3,e4,e5,e6⟩:=f2;exact⟨a',xs,e1,k _ _ e2 (λz=>R.t0 (z▸e4)),.inl e3,e4,e5,e6.move mv⟩
 ow:=λj m y z u e1 e2 o1 o2 f1 f2=>by
  have out:∀{p:Nat} {w:SV},δ[p]?=some (some w)->w.isOwn=true->σ[p]?=some (some (.ref a))->False:=λ{p w} e ow f=>by
   obtain⟨v,g1,g2⟩:=R.sl p w e;rw[f]at g1;cases g1;cases w with
   |w _=>cases ow
   |own ds =>
    obtain⟨a',xs,e1,e2,_⟩:=g2;cases e1;rw[h0]at e2;cases e2
   |odk ds =>
    obtain⟨a',xs,e1,e2,_⟩:=g2;cases e1;rw[h0]at e2;cases e2
   |odt ds =>
    obtain⟨a',xs,e1,e2,_⟩:=g2;cases e1;rw[h0]at e2;cases e2
  rcases jao e1 with⟨rfl,rfl⟩ | ⟨ne1,e1'⟩
  ·rcases jao e2 with⟨rfl,rfl⟩ | ⟨ne2,e2'⟩
   ·rfl
   ·rw[jbw (by rw[R.len];exact jm7 e1)]at f1;rw[jba ne2]at f2;cases f1;exact(out e2' o2 f2).elim
  ·rcases jao e2 with⟨rfl,rfl⟩ | ⟨ne2,e2'⟩
   ·rw[jbw (by rw[R.len];exact jm7 e2)]at f2;rw[jba ne1]at f1;cases f2;exact(out e1' o1 f1).elim
   ·rw[jba ne1]at f1;rw[jba ne2]at f2;exact R.ow j m y z u e1' e2' o1 o2 f1 f2
 len:=by rw[Ci,Ci];exact R.len
theorem Rel.give {C:Ctx} {H:Hp} {B:Addr->Prop} {σ:St} {δ:Sl} {n:Int} {i:Nat} {x:SV} {y:Wv} {a:Addr} (R:Rel C H B σ δ n) (hi:δ[i]?=some (some x)) (ox:x.isOwn=true) (hv:σ[i]?=some (some (.ref a))) (e4:C.H0 a=none) (hy:WRel H (λb=>B b/\b≠a) C.t (.ref a) y) (hl:y.lent=false):Rel C H (λb=>B b/\b≠a) σ (δ.set i (some (.w y))) n:=by
 have less:∀b,(B b/\b≠a)->B b:=λb z=>z.1;exact{
  tp:=R.tp,kp:=R.kp,t0:=R.t0,l0:=R.l0,g0:=R.g0
  fz:=λb o e=>⟨(R.fz b o e).1,λz=>(R.fz b o e).2 z.1⟩
  bt:=⟨R.bt,λz=>R.t0 (z▸e4)⟩
  b0:=λb z=>⟨R.b0 b z,λq=>R.a0 b z (q▸e4)⟩
  ba:=λb z=>R.ba b z.1
  a0:=R.a0
  sl:=λj y' e=>by
   rcases jao e with⟨rfl,rfl⟩ | ⟨ne,e'⟩
   ·exact⟨_,hv,hy,λz=>by rw[hl]at z;cases z⟩
   ·obtain⟨u,f1,f2⟩:=R.sl j y' e';refine⟨u,f1,?_⟩;cases y' with
    |w y=>exact⟨f2.1.less less,f2.2⟩
    |own ds' =>
     obtain⟨a',xs',g1,g2,g3,g4,g5,g6⟩:=f2;refine⟨a',xs',g1,g2,⟨g3,λz=>?_⟩,g4,g5,g6.less less⟩;exact ne (R.ow j i _ _ _ e' hi rfl ox f1 (by rw[hv,g1,z]))
    |odk ds' =>
     obtain⟨a',xs',g1,g2,g3,g4,g5,g6⟩:=f2;refine⟨a',xs',g1,g2,⟨g3,λz=>?_⟩,g4,g5,g6.move λb o e n=>⟨e,λz=>n z.1⟩⟩;exact ne (R.ow j i _ _ _ e' hi rfl ox f1 (by rw[hv,g1,z]))
    |odt ds' =>
     obtain⟨a',xs',g1,g2,g3,g4,g5,g6⟩:=f2;refine⟨a',xs',g1,g2,⟨g3,λz=>?_⟩,g4,g5,g6.move λb o e n=>⟨e,λz=>n z.1⟩⟩;exact ne (R.ow j i _ _ _ e' hi rfl ox f1 (by rw[hv,g1,z]))
  ow:=λj k y z u e1 e2 o1 o2 f1 f2=>by
   rcases jao e1 with⟨rfl,rfl⟩ | ⟨ne1,e1'⟩
   ·cases o1
   ·rcases jao e2 with⟨rfl,rfl⟩ | ⟨ne2,e2'⟩
    ·cases o2
    ·exact R.ow j k y z u e1' e2' o1 o2 f1 f2
  len:=by rw[Ci];exact R.len}
theorem Rel.frz {C:Ctx} {H:Hp} {B:Addr->Prop} {σ:St} {δ:Sl} {n:Int} {i:Nat} {ds:List Aa} (R:Rel C H B σ δ n) (hi:δ[i]?=some (some (.own ds))):∃B',Rel C H B' σ (δ.set i (some (.w (.d (.list ds))))) n:=by
 obtain⟨v,hv,a,xs,rfl,e2,e3,e4,e5,e6⟩:=R.sl i _ hi;exact⟨_,R.give hi rfl hv e4 (show RdX H _ (.ref a) (.list ds)from .lst e2 (λz=>z.2 rfl) e5 (e6.less λb z=>z.1)) rfl⟩
theorem Rel.frzK {C:Ctx} {H:Hp} {B:Addr->Prop} {σ:St} {δ:Sl} {n:Int} {i:Nat} {m:List (Key×Aa)} (R:Rel C H B σ δ n) (hi:δ[i]?=some (some (.odk m))):∃B',Rel C H B' σ (δ.set i (some (.w (.ob (.k m))))) n:=by
 obtain⟨v,hv,a,xs,rfl,e2,e3,e4,e5,e6⟩:=R.sl i _ hi;exact⟨_,R.give hi rfl hv e4 ⟨a,xs,rfl,e2,λz=>z.2 rfl,e6.move λb o e n=>⟨e,λz=>n z.1⟩⟩ rfl⟩
abbrev DQ:=Wv->Int->Prop
abbrev DT:=Sl->Int->DQ->Prop
abbrev DTT:=Sl->Int->(Bool->Int->Prop)->Prop
abbrev DTA:=Sl->Int->(List Wv->Int->Prop)->Prop
inductive ARel (H:Hp) (B:Addr->Prop) (t:Addr):List V->List Wv->Prop
 |nil:ARel H B t [] []
 |cons {v:V} {vs:List V} {x:Wv} {xs:List Wv}:WRel H B t v x->ARel H B t vs xs->ARel H B t (v::vs) (x::xs)
theorem ARel.kp {H H':Hp} {B:Addr->Prop} {t:Addr} (k:Kp t H H') (ht:B t):∀{vs:List V} {xs:List Wv},ARel H B t vs xs->ARel H' B t vs xs
 |_,_,.nil=>.nil
 |_,_,.cons a b=>.cons (a.kp k ht) (ARel.kp k ht b)
theorem ARel.len {H:Hp} {B:Addr->Prop} {t:Addr}:∀{vs:List V} {xs:List Wv},ARel H B t vs xs->vs.length=xs.length
 |_,_,.nil=>rfl
 |_,_,.cons _ b=>by rw[Ao,Ao,ARel.len b]
def Snd (t:TE) (w:DT):Prop:=∀(C:Ctx) (H:Hp) (B:Addr->Prop) (σ:St) (δ:Sl) (n:Int) (Q:DQ) (Q':VK),Rel C H B σ δ n->w δ n Q ->
 (∀v x H' n',Rel C H' B σ δ n'->Kp C.t H H'->WRel H' B C.t v x->Q x n'->Q' v H')->t σ H Q'
def SndT (t:TT) (w:DTT):Prop:=∀(C:Ctx) (H:Hp) (B:Addr->Prop) (σ:St) (δ:Sl) (n:Int) (Q:Bool->Int->Prop) (Q':Bool->Hp->Prop),Rel C H B σ δ n->w δ n Q ->
 (∀b H' n',Rel C H' B σ δ n'->Kp C.t H H'->Q b n'->Q' b H')->t σ H Q'
def SndA (t:TA) (w:DTA):Prop:=∀(C:Ctx) (H:Hp) (B:Addr->Prop) (σ:St) (δ:Sl) (n:Int) (Q:List Wv->Int->Prop) (Q':List V->Hp->Prop),Rel C H B σ δ n->w δ n Q ->
 (∀vs xs H' n',Rel C H' B σ δ n'->Kp C.t H H'->ARel H' B C.t vs xs->Q xs n'->Q' vs H')->t σ H Q'
abbrev DTF:=Sl->Int->(List Aa->Int->Prop)->Prop
def SndF (t:TE) (w:DTF):Prop:=∀(C:Ctx) (H:Hp) (B:Addr->Prop) (σ:St) (δ:Sl) (n:Int) (Q:List Aa->Int->Prop) (Q':VK),Rel C H B σ δ n->w δ n Q ->
 (∀a xs ds H' n',Rel C H' B σ δ n'->Kp C.t H H'->H a=none->H' a=some (.lst xs)->xs.length<=Ap->RdXs H' (λb=>B b\/b=a) xs ds->Q ds n'->Q' (.ref a) H')->t σ H Q'
structure DE (X:Cx) (e:Expr) (t:TE) (w:DT):Prop where
 pe:PE X e t
 sd:Snd t w
structure DC (X:Cx) (e:Expr) (t:TT) (w:DTT):Prop where
 pt:PT X e t
 sd:SndT t w
structure DCW (X:Cx) (e:Expr) (t:TT) (w:DTT):Prop where
 pw:PW X e t
 sd:SndT t w
structure DA (X:Cx) (es:List Expr) (t:TA) (w:DTA):Prop where
 pa:PA X es t
 sd:SndA t w
structure DF (X:Cx) (e:Expr) (t:TE) (w:DTF):Prop where
 pe:PE X e t
 sd:SndF t w
variable {X:Cx} {a b c e:Expr} {ta tb tc te:TE} {wa wb wc we:DT} {pos:Pos}
def wVar (i:Nat):DT:=λδ n Q=>match δ[i]? with
 |some (some (.w x))=>Q x n
 |_=>False
theorem j4n (i:Nat) {x:Str} {p:Pos} (hN:X.N[i]?=some x:=by rfl) (hv:Vis X.env.scope x:=by first | exact Da rfl | exact Cc (Da rfl) | exact Cc (Cc rfl)) (hd:(x==("__debug__":Str))=false:=by decide)
  (hcd:(x==("__classdict__":Str))=false:=by decide):DE X (.Name x p) (tVar i) (wVar i):=⟨jdw hN hv hd hcd,λC H B σ δ n Q Q' R h k=>by
 unfold wVar at h
 split at h
 ·rename_i x e;obtain⟨v,h1,h2⟩:=R.sl i _ e;exact⟨v,h1,k v x H n R (Kp.refl _ _) h2.1 h⟩
 ·exact h.elim⟩
def wC (d:Aa):DT:=λ_ n Q=>Q (.d d) n
theorem jtf {v:V} {d:Aa} (h:∀H B,RdX H B v d):Snd (tC v) (wC d):=λC H B σ δ n Q Q' R q k=>k v (.d d) H n R (Kp.refl _ _) (h H B) q
theorem j41 {i j p}:DE X (.Constant (.int i) j p) (tC (.int i)) (wC (.int i)):=⟨jaw,jtf λ_ _=>.int i⟩
theorem d_bl {i j p}:DE X (.Constant (.bool i) j p) (tC (.bl i)) (wC (.bool i)):=⟨j3z,jtf λ_ _=>.bl i⟩
theorem j4u {j p}:DE X (.Constant .none j p) (tC .non) (wC .none):=⟨jng,jtf λ_ _=>.non⟩
theorem j4r {x j p} (h:Str.length x<=Ap:=by decide +kernel):DE X (.Constant (.str x) j p) (tC (.str x)) (wC (.str x)):=⟨j0o,jtf λ_ _=>.str x h⟩
def w2 (wa wb:DT) (g:Wv->Wv->Int->DQ->Prop):DT:=λδ n Q=>wa δ n λx n1=>wb δ n1 λy n2=>g x y n2 Q
def SndO (r:R2) (g:Wv->Wv->Int->DQ->Prop):Prop:=∀(C:Ctx) (H:Hp) (B:Addr->Prop) (σ:St) (δ:Sl) (n:Int) (x y:V) (p q:Wv) (Q:DQ) (Q':VK),Rel C H B σ δ n->WRel H B C.t x p->WRel H B C.t y q->g p q n Q ->
 (∀v x H' n',Rel C H' B σ δ n'->Kp C.t H H'->WRel H' B C.t v x->Q x n'->Q' v H')->r x y H Q'
theorem jhv {r:R2} {g:Wv->Wv->Int->DQ->Prop} (hr:SndO r g) (ha:Snd ta wa) (hb:Snd tb wb):Snd (tOp r ta tb) (w2 wa wb g):=λC H B σ δ n Q Q' R h k =>
 ha C H B σ δ n _ _ R h λv x H1 n1 R1 k1 r1 q1=>hb C H1 B σ δ n1 _ _ R1 q1 λu y H2 n2 R2 k2 r2 q2 =>
  hr C H2 B σ δ n2 v u x y Q Q' R2 (r1.kp k2 R1.bt) r2 q2 λz p H3 n3 R3 k3 r3 q3=>k z p H3 n3 R3 ((k1.trans k2).trans k3) r3 q3
theorem d_op {op:Operator} {r:R2} {g:Wv->Wv->Int->DQ->Prop} (ho:OpR X (Du op) r) (hr:SndO r g) (ha:DE X a ta wa) (hb:DE X b tb wb):DE X (.BinOp a op b pos) (tOp r ta tb) (w2 wa wb g) :=
 ⟨jbq ho ha.pe hb.pe,jhv hr ha.sd hb.sd⟩
theorem jsf {op:CmpOp} {r:R2} {g:Wv->Wv->Int->DQ->Prop} (ho:OpR X (Bz op) r) (hr:SndO r g) (ha:DE X a ta wa) (hb:DE X b tb wb) (hm:Cz op b=false):DE X (.Compare a [op] [b] pos) (tOp r ta tb) (w2 wa wb g) :=
 ⟨jxm ho ha.pe hb.pe hm,jhv hr ha.sd hb.sd⟩
def cT (w:DT):DTT:=λδ n Q=>w δ n λx n'=>match x with
 |.d (.bool k)=>Q k n'
 |_=>False
theorem wd {H:Hp} {B:Addr->Prop} {t:Addr} {v:V} {d:Aa} (h:RdX H B v d):WRel H B t v (.d d):=h
theorem jit {t:TE} {w:DT} (h:Snd t w):SndT (jp0 t) (cT w):=λC H B σ δ n Q Q' R q k =>
 h C H B σ δ n _ _ R q λv x H' n' R' k' r' q'=>by
  split at q'
  ·rename_i b;cases(show RdX H' B v (.bool b)from r');exact⟨b,rfl,k b H' n' R' k' q'⟩
  ·exact q'.elim
theorem jeq {op:CmpOp} {r:R2} {g:Wv->Wv->Int->DQ->Prop} (ho:OpR X (Bz op) r) (hr:SndO r g) (ha:DE X a ta wa) (hb:DE X b tb wb) (hm:Cz op b=false):DC X (.Compare a [op] [b] pos) (jp0 (tOp r ta tb)) (cT (w2 wa wb g)) :=
 ⟨jef ho ha.pe hb.pe hm,jit (jhv hr ha.sd hb.sd)⟩
theorem j5d {t:TE} {w:DT} (h:DE X e t w) (he:∀whole,isTrue e X.env whole=(do let v <-whole;standAt e.pos;holding [v] (truthy v)):=by intro _;rfl):DC X e (jp0 t) (cT w):=⟨j0i h.pe he,jit h.sd⟩
def jmk (x:Wv) (A B:Prop):Prop:=match x with
 |.d (.bool true)=>A
 |.d (.bool false)=>B
 |_=>False
theorem jst (b:Bool) (A B:Prop):jmk (.d (.bool b)) A B=if b=true then A else B:=by cases b<;>simp[jmk]
variable {tA tB':TT} {cA cB:DTT} {rest:List Expr}
def cAnd (u v:DTT):DTT:=λδ n Q=>u δ n λb n1=>if b=true then v δ n1 Q else Q false n1
def cOr (u v:DTT):DTT:=λδ n Q=>u δ n λb n1=>if b=true then Q true n1 else v δ n1 Q
def cNot (u:DTT):DTT:=λδ n Q=>u δ n λb n1=>Q (!b) n1
theorem cw_and1 (h:DC X a tA cA):DCW X (.BoolOp .And [a] pos) tA cA:=⟨jqt h.pt,h.sd⟩
theorem cw_or1 (h:DC X a tA cA):DCW X (.BoolOp .Or [a] pos) tA cA:=⟨j0h h.pt,h.sd⟩
theorem cw_and (h:DC X a tA cA) (h2:DCW X (.BoolOp .And (b::rest) pos) tB' cB):DCW X (.BoolOp .And (a::b::rest) pos) (tAnd tA tB') (cAnd cA cB):=⟨jvu h.pt h2.pw,λC H B σ δ n Q Q' R q k =>
 h.sd C H B σ δ n _ _ R q λb H1 n1 R1 k1 q1=>by
  cases b with
  |true =>
   rw[if_pos rfl]at q1 ⊢;exact h2.sd C H1 B σ δ n1 _ _ R1 q1 λb H2 n2 R2 k2 q2=>k b H2 n2 R2 (k1.trans k2) q2
  |false =>
   rw[if_neg Ae]at q1 ⊢;exact k false H1 n1 R1 k1 q1⟩
theorem cw_or (h:DC X a tA cA) (h2:DCW X (.BoolOp .Or (b::rest) pos) tB' cB):DCW X (.BoolOp .Or (a::b::rest) pos) (tOr tA tB') (cOr cA cB):=⟨j3s h.pt h2.pw,λC H B σ δ n Q Q' R q k =>
 h.sd C H B σ δ n _ _ R q λb H1 n1 R1 k1 q1=>by
  cases b with
  |true =>
   rw[if_pos rfl]at q1 ⊢;exact k true H1 n1 R1 k1 q1
  |false =>
   rw[if_neg Ae]at q1 ⊢;exact h2.sd C H1 B σ δ n1 _ _ R1 q1 λb H2 n2 R2 k2 q2=>k b H2 n2 R2 (k1.trans k2) q2⟩
theorem DCW.cc (h:DCW X a tA cA):DC X a tA cA:=⟨h.pw.pt,h.sd⟩
theorem j5e (h:DC X a tA cA):DC X (.UnaryOp .Not a pos) (tNot tA) (cNot cA):=⟨j0j h.pt,λC H B σ δ n Q Q' R q k=>h.sd C H B σ δ n _ _ R q λb H1 n1 R1 k1 q1=>k (!b) H1 n1 R1 k1 q1⟩
def wAnd (u v:DT):DT:=λδ n Q=>u δ n λx n1=>jmk x (v δ n1 Q) (Q (.d (.bool false)) n1)
def wOr (u v:DT):DT:=λδ n Q=>u δ n λx n1=>jmk x (Q (.d (.bool true)) n1) (v δ n1 Q)
theorem j4t {op} (h:DE X a ta wa):DE X (.BoolOp op [a] pos) ta wa:=⟨j0q h.pe,h.sd⟩
theorem j44 (h:DE X a ta wa) (h2:DE X (.BoolOp .And (b::rest) pos) tb wb):DE X (.BoolOp .And (a::b::rest) pos) (jze ta tb) (wAnd wa wb):=⟨j0t h.pe h2.pe,λC H B σ δ n Q Q' R q k =>
 h.sd C H B σ δ n _ _ R q λv x H1 n1 R1 k1 r1 q1=>by
  unfold jmk at q1
  split at q1
  ·cases(show RdX H1 B v (.bool true)from r1);refine⟨true,rfl,?_⟩;rw[if_pos rfl];exact h2.sd C H1 B σ δ n1 _ _ R1 q1 λv x H2 n2 R2 k2 r2 q2=>k v x H2 n2 R2 (k1.trans k2) r2 q2
  ·cases(show RdX H1 B v (.bool false)from r1);refine⟨false,rfl,?_⟩;rw[if_neg Ae];exact k _ _ H1 n1 R1 k1 (wd (.bl false)) q1
  ·exact q1.elim⟩
theorem d_or (h:DE X a ta wa) (h2:DE X (.BoolOp .Or (b::rest) pos) tb wb):DE X (.BoolOp .Or (a::b::rest) pos) (tOrV ta tb) (wOr wa wb):=⟨j3x h.pe h2.pe,λC H B σ δ n Q Q' R q k =>
 h.sd C H B σ δ n _ _ R q λv x H1 n1 R1 k1 r1 q1=>by
  unfold jmk at q1
  split at q1
  ·cases(show RdX H1 B v (.bool true)from r1);refine⟨true,rfl,?_⟩;rw[if_pos rfl];exact k _ _ H1 n1 R1 k1 (wd (.bl true)) q1
  ·cases(show RdX H1 B v (.bool false)from r1);refine⟨false,rfl,?_⟩;rw[if_neg Ae];exact h2.sd C H1 B σ δ n1 _ _ R1 q1 λv x H2 n2 R2 k2 r2 q2=>k v x H2 n2 R2 (k1.trans k2) r2 q2
  ·exact q1.elim⟩
def wIf (u:DTT) (v w:DT):DT:=λδ n Q=>u δ n λb n1=>if b=true then v δ n1 Q else w δ n1 Q
theorem jyl (h:DC X c tA cA) (h1:DE X a ta wa) (h2:DE X b tb wb):DE X (.IfExp c a b pos) (tIf tA ta tb) (wIf cA wa wb):=⟨jtu h.pt h1.pe h2.pe,λC H B σ δ n Q Q' R q k =>
 h.sd C H B σ δ n _ _ R q λb H1 n1 R1 k1 q1=>by
  cases b with
  |true =>
   rw[if_pos rfl]at q1 ⊢;exact h1.sd C H1 B σ δ n1 _ _ R1 q1 λv x H2 n2 R2 k2 r2 q2=>k v x H2 n2 R2 (k1.trans k2) r2 q2
  |false =>
   rw[if_neg Ae]at q1 ⊢;exact h2.sd C H1 B σ δ n1 _ _ R1 q1 λv x H2 n2 R2 k2 r2 q2=>k v x H2 n2 R2 (k1.trans k2) r2 q2⟩
variable {es:List Expr} {tR:TA} {wR:DTA}
def aNil:DTA:=λ_ n Q=>Q [] n
def jaa (w:DT) (r:DTA):DTA:=λδ n Q=>w δ n λx n1=>r δ n1 λxs n2=>Q (x::xs) n2
theorem j5h:DA X [] tNil aNil:=⟨jbc,λC H B σ δ n Q Q' R q k=>k [] [] H n R (Kp.refl _ _) .nil q⟩
theorem j29 (h:DE X e te we) (hr:DA X es tR wR) (hs:Au (e::es) X.env=(false,eval e X.env)::Au es X.env:=by rfl):DA X (e::es) (jbu te tR) (jaa we wR):=⟨jaq h.pe hr.pa hs,λC H B σ δ n Q Q' R q k =>
 h.sd C H B σ δ n _ _ R q λv x H1 n1 R1 k1 r1 q1=>hr.sd C H1 B σ δ n1 _ _ R1 q1 λvs xs H2 n2 R2 k2 r2 q2=>k (v::vs) (x::xs) H2 n2 R2 (k1.trans k2) (.cons (r1.kp k2 R1.bt) r2) q2⟩
def jcn:List Wv->Option (List Aa)
 |[]=>some []
 |.d x::r=>(jcn r).map (x::·)
 |_::_=>none
theorem ARel.plain {H:Hp} {B:Addr->Prop} {t:Addr}:∀{vs:List V} {xs:List Wv} {ds:List Aa},ARel H B t vs xs->jcn xs=some ds->RdXs H B vs ds
 |_,_,_,.nil,h=>by
  cases h;exact .nil
 |_,_,ds,.cons (x:=x) (xs:=xs) a b,h=>by
  cases x with
  |d x =>
   have h':(jcn xs).map (x::·)=some ds:=h;cases e:jcn xs with
   |none=>rw[e]at h';cases h'
   |some es =>
    rw[e]at h';cases h';exact .cons a (ARel.plain b e)
  |tp=>cases h
  |dk _=>cases h
  |ln _=>cases h
  |ob _=>cases h
theorem RdXs.fresh {H:Hp} {B:Addr->Prop} {vs:List V} {ds:List Aa} {p:Addr} {o:HO} (h:RdXs H B vs ds) (hp:H p=none):RdXs (upd H p o) (λb=>B b\/b=p) vs ds :=
 h.move λb o' e n=>⟨by rw[jag (jad e hp)];exact e,λz=>z.elim n λq=>jad e hp q⟩
def wTup (w:DTA):DT:=λδ n Q=>w δ n λxs n1=>match jcn xs with
 |some ds=>ds.length<=1000/\Q (.d (.tuple ds)) n1
 |none=>False
theorem j4o {x1} (h:DA X es tR wR):DE X (.Tuple es x1 pos) (tTup tR) (wTup wR):=⟨jvy h.pa,λC H B σ δ n Q Q' R q k =>
 h.sd C H B σ δ n _ _ R q λvs xs H1 n1 R1 k1 r1 q1=>by
  split at q1
  ·rename_i ds e;have r:=r1.plain e;have hl:vs.length<=Ap:=by rw[r.len];exact small q1.1
   refine⟨hl,λp hp=>k _ _ _ n1 (R1.new hp) (k1.trans (Kp.new hp)) (wd (show RdX _ B (.ref p) (.tuple ds)from ?_)) q1.2⟩;exact .tup jah (R1.nb hp) hl ((r.fresh hp).less λb z=>.inl z)
  ·exact q1.elim⟩
def fLst (w:DTA):DTF:=λδ n Q=>w δ n λxs n1=>match jcn xs with
 |some ds=>ds.length<=1000/\Q ds n1
 |none=>False
theorem j4h (h:DA X es tR wR):DF X (.List es pos) (tLst tR) (fLst wR):=⟨jq0 h.pa,λC H B σ δ n Q Q' R q k =>
 h.sd C H B σ δ n _ _ R q λvs xs H1 n1 R1 k1 r1 q1=>by
  split at q1
  ·rename_i ds e;have r:=r1.plain e;have hl:vs.length<=Ap:=by rw[r.len];exact small q1.1
   have hn:∀p,H1 p=none->H p=none:=λp hp=>by
    cases q:H p with
    |none=>rfl
    |some o =>
     by_cases z:p=C.t
     ·subst z;obtain⟨_,_,h,_⟩:=R1.tp.ob;rw[h]at hp;cases hp
     ·rw[k1 p o q z]at hp;cases hp
   exact⟨hl,λp hp=>k p vs ds _ n1 (R1.new hp) (k1.trans (Kp.new hp)) (hn p hp) jah hl (r.fresh hp) q1.2⟩
  ·exact q1.elim⟩
def wOf (w:DTF):DT:=λδ n Q=>w δ n λds n1=>Q (.d (.list ds)) n1
theorem jzk {t:TE} {w:DTF} (h:SndF t w):Snd t (wOf w):=λC H B σ δ n Q Q' R q k =>
 h C H B σ δ n _ _ R q λa xs ds H' n' R' k' h0 h1 h2 h3 q'=>k _ _ H' n' R' k' (wd (show RdX H' B (.ref a) (.list ds)from .lst h1 (R.nb h0) h2 (h3.less λb z=>.inl z))) q'
theorem DF.d {w:DTF} {t:TE} (h:DF X e t w):DE X e t (wOf w):=⟨h.pe,jzk h.sd⟩
theorem Rel.was {C:Ctx} {H H1:Hp} {B:Addr->Prop} {σ:St} {δ:Sl} {n1:Int} (R1:Rel C H1 B σ δ n1) (k1:Kp C.t H H1) {p:Addr} (hp:H1 p=none):H p=none:=by
 cases q:H p with
 |none=>rfl
 |some o =>
  by_cases z:p=C.t
  ·subst z;obtain⟨_,_,h,_⟩:=R1.tp.ob;rw[h]at hp;cases hp
  ·rw[k1 p o q z]at hp;cases hp
abbrev DSp:=List Wv->Int->DQ->Prop
def spOf (S:DSp):Sp:=λvs H Q _=>∃(t:Addr) (l:TL) (ns:List Int) (B:Addr->Prop) (ws:List Wv) (n:Int) (Q0:DQ),Tp H t l ns n/\B t/\(∀b,B b->H b≠none)/\ARel H B t vs ws/\S ws n Q0 /\
 ∀w n',Q0 w n'->∀v H',Tp H' t l ns n'->Kp t H H'->WRel H' B t v w->Q v H'
section
variable {X:Cx} {e:Expr} {es:List Expr} {pos p:Pos} {tR:TA} {wR:DTA}
def jai (S:DSp) (w:DTA):DT:=λδ n Q=>w δ n λxs n1=>S xs n1 Q
theorem jte {S:DSp} {t:TA} {w:DTA} (h:SndA t w):Snd (jhe (spOf S) [] E0 t) (jai S w):=λC H B σ δ n Q Q' R q k =>
 h C H B σ δ n _ _ R q λvs xs H1 n1 R1 k1 r1 q1=>by
  refine⟨C.t,C.l,C.ns,B,xs,n1,Q,R1.tp,R1.bt,R1.ba,by rw[Bo];exact r1,q1,λw n' q2 v H' T' k' r'=>?_⟩;exact k v w H' n' (R1.step T' k') (k1.trans k') r' q2
theorem j2p {k:Nat} {f:Addr} {fd:Ce} {ps:List Str} {S:DSp} {x:Str} (F:FnOk X.prog X.w X.K X.mg X.base CX0 k f fd ps (spOf S)) (hr:Room k X.A) (hg:Gl X x) (hm:X.mg x=some (.ref f)) (hk:Cf X.K (.ref f)=true) (hb:Binds X.K fd ps [])
  (ha:DA X (e::es) tR wR) (hdb:(x==("__debug__":Str))=false:=by decide) (he:Au (e::es) X.env=(false,eval e X.env)::Au es X.env:=by rfl) (hpl:(C8 pos (Au es X.env)).any (·.1)=false:=by rfl) :
  DE X (.Call (.Name x p) (e::es) [] pos) (jhe (spOf S) [] E0 tR) (jai S wR):=⟨jl5 F hr hg hm hk hb .nil jxn ha.pa hdb he hpl,jte ha.sd⟩
def SndB (r:List V->Hp->VK->Prop) (g:List Wv->Int->DQ->Prop):Prop:=∀(C:Ctx) (H:Hp) (B:Addr->Prop) (σ:St) (δ:Sl) (n:Int) (vs:List V) (xs:List Wv) (Q:DQ) (Q':VK),Rel C H B σ δ n->ARel H B C.t vs xs->g xs n Q ->
 (∀v x H' n',Rel C H' B σ δ n'->Kp C.t H H'->WRel H' B C.t v x->Q x n'->Q' v H')->r vs H Q'
def wB (g:List Wv->Int->DQ->Prop) (w:DTA):DT:=λδ n Q=>w δ n λxs n1=>g xs n1 Q
theorem jzq {r:List V->Hp->VK->Prop} {g:List Wv->Int->DQ->Prop} {t:TA} {w:DTA} (hr:SndB r g) (h:SndA t w):Snd (tCB r t) (wB g w):=λC H B σ δ n Q Q' R q k =>
 h C H B σ δ n _ _ R q λvs xs H1 n1 R1 k1 r1 q1=>hr C H1 B σ δ n1 vs xs Q Q' R1 r1 q1 λv x H2 n2 R2 k2 r2 q2=>k v x H2 n2 R2 (k1.trans k2) r2 q2
theorem jmi {id:String} {x:Str} {r:List V->Hp->VK->Prop} {g:List Wv->Int->DQ->Prop} (hc:CallR X (.builtin id) r) (hr:SndB r g) (hg:Gl X x) (hm:X.mg x=none) (hv:Bv x=some (.builtin id)) (ha:DA X (e::es) tR wR) (hn:x≠"__name__":=by decide) (hdb:(x==("__debug__":Str))=false:=by decide)
  (he:Au (e::es) X.env=(false,eval e X.env)::Au es X.env:=by rfl) (hpl:(C8 pos (Au es X.env)).any (·.1)=false:=by rfl):DE X (.Call (.Name x p) (e::es) [] pos) (tCB r tR) (wB g wR):=⟨jcc hc hg hm hv ha.pa hn hdb he hpl,jzq hr ha.sd⟩
theorem jn3 {T:String} {x:Str} {r:List V->Hp->VK->Prop} {g:List Wv->Int->DQ->Prop} (hc:CallR X (.type T) r) (hr:SndB r g) (hg:Gl X x) (hm:X.mg x=none) (hv:Bv x=some (.type T)) (ha:DA X (e::es) tR wR) (hn:x≠"__name__":=by decide) (hdb:(x==("__debug__":Str))=false:=by decide)
  (he:Au (e::es) X.env=(false,eval e X.env)::Au es X.env:=by rfl) (hpl:(C8 pos (Au es X.env)).any (·.1)=false:=by rfl):DE X (.Call (.Name x p) (e::es) [] pos) (tCB r tR) (wB g wR):=⟨jco hc hg hm hv ha.pa hn hdb he hpl,jzq hr ha.sd⟩
end
structure DEnds where
 nx:Sl->Int->Prop
 rt:DQ
 bk:Sl->Int->Prop:=λ_ _=>False
 ct:Sl->Int->Prop:=λ_ _=>False
 rn:List Aa->Int->Prop:=λ_ _=>False
abbrev DST:=Sl->Int->DEnds->Prop
structure EndsOk (C:Ctx) (K:DEnds) (D:Ends):Prop where
 nx:∀H B σ δ n,Rel C H B σ δ n->K.nx δ n->D.nx σ H
 rt:∀H B σ δ n v w,Rel C H B σ δ n->WRel H B C.t v w->K.rt w n->D.rt v H
 bk:∀H B σ δ n,Rel C H B σ δ n->K.bk δ n->D.bk σ H
 ct:∀H B σ δ n,Rel C H B σ δ n->K.ct δ n->D.ct σ H
 rn:∀H B σ δ n a xs ds,Rel C H B σ δ n->C.H0 a=none->H a=some (.lst xs)->xs.length<=Ap->RdXs H (λb=>B b\/b=a) xs ds->K.rn ds n->D.rt (.ref a) H
def SndS (T:TS) (W:DST):Prop:=∀(C:Ctx) (H:Hp) (B:Addr->Prop) (σ:St) (δ:Sl) (n:Int) (K:DEnds) (D:Ends),Rel C H B σ δ n->W δ n K->EndsOk C K D->T D σ H
structure DS (X:Cx) (st:Stmt) (T:TS) (W:DST):Prop where
 ps:PS X st T
 sd:SndS T W
structure DSs (X:Cx) (st:List Stmt) (T:TS) (W:DST):Prop where
 ps:PSs X st T
 sd:SndS T W
section
variable {X:Cx} {st:Stmt} {rest:List Stmt} {T U:TS} {W V':DST} {e:Expr} {te:TE} {we:DT} {pos:Pos}
def jap:DST:=λδ n K=>K.nx δ n
def sSeq (W V:DST):DST:=λδ n K=>W δ n {K with nx:=λδ n=>V δ n K}
theorem j3n:DSs X [] jzb jap:=⟨jix,λC H B σ δ n K D R h E=>E.nx H B σ δ n R h⟩
theorem jz3 (h:DS X st T W) (h2:DSs X rest U V'):DSs X (st::rest) (tSeq T U) (sSeq W V'):=⟨ja9 h.ps h2.ps,λC H B σ δ n K D R q E =>
 h.sd C H B σ δ n _ _ R q ⟨λH B σ δ n R q=>h2.sd C H B σ δ n K D R q E,E.rt,E.bk,E.ct,E.rn⟩⟩
theorem j3m (h:DS X st T W):DSs X [st] T W:=⟨jeg h.ps,h.sd⟩
def sRet (w:DT):DST:=λδ n K=>w δ n K.rt
theorem j3j (h:DE X e te we):DS X (.Return (some e) pos) (tRet te) (sRet we):=⟨jh1 h.pe,λC H B σ δ n K D R q E =>
 h.sd C H B σ δ n _ _ R q λv x H' n' R' _ r' q'=>E.rt H' B σ δ n' v x R' r' q'⟩
def sIf (c:DTT) (W V:DST):DST:=λδ n K=>c δ n λb n1=>if b=true then W δ n1 K else V δ n1 K
theorem s_if {c:Expr} {a b:List Stmt} {tc:TT} {cc:DTT} (hc:DC X c tc cc) (ha:DSs X a T W) (hb:DSs X b U V'):DS X (.If c a b pos) (tIfS tc T U) (sIf cc W V'):=⟨jto hc.pt ha.ps hb.ps,λC H B σ δ n K D R q E =>
 hc.sd C H B σ δ n _ _ R q λb H1 n1 R1 _ q1=>by
  cases b with
  |true =>
   rw[if_pos rfl]at q1 ⊢;exact ha.sd C H1 B σ δ n1 K D R1 q1 E
  |false =>
   rw[if_neg Ae]at q1 ⊢;exact hb.sd C H1 B σ δ n1 K D R1 q1 E⟩
def sSet (i:Nat) (w:DT):DST:=λδ n K=>w δ n λx n1=>match x with
 |.d d=>K.nx (δ.set i (some (.w (.d d)))) n1
 |.tp=>K.nx (δ.set i (some (.w .tp))) n1
 |.dk _=>False
 |.ln _=>False
 |.ob o=>K.nx (δ.set i (some (.w (.ob o)))) n1
theorem j3i {i:Nat} {x:Str} {pos':Pos} (hN:X.N.Nodup) (hi:X.N[i]?=some x) (hx:Loc X.env.scope x) (he:DE X e te we) (hs:Ex e (some (.Name x pos')) pos.line X.env=pure false:=by rfl) (hf:X.fn x=true\/X.env.scope.names.lookup x=some .local:=by first | exact .inl rfl | exact .inr rfl | assumption) :
  DS X (.Assign [.Name x pos'] e pos) (tAsg te (jem i)) (sSet i we):=⟨jdv hN hi hx he.pe hs hf,λC H B σ δ n K D R q E =>
 he.sd C H B σ δ n _ _ R q λv x H1 n1 R1 _ r1 q1=>by
  cases x with
  |d d=>exact E.nx _ _ _ _ _ (R1.set r1 rfl) q1
  |tp=>exact E.nx _ _ _ _ _ (R1.set r1 rfl) q1
  |dk _=>exact q1.elim
  |ln _=>exact q1.elim
  |ob o=>exact E.nx _ _ _ _ _ (R1.set r1 rfl) q1⟩
def sOwn (i:Nat) (w:DTF):DST:=λδ n K=>w δ n λds n1=>K.nx (δ.set i (some (.own ds))) n1
theorem Rel.h0 {C:Ctx} {H:Hp} {B:Addr->Prop} {σ:St} {δ:Sl} {n:Int} {a:Addr} (R:Rel C H B σ δ n) (h:H a=none):C.H0 a=none:=R.was R.kp h
theorem j3l {i:Nat} {x:Str} {pos':Pos} {w:DTF} (hN:X.N.Nodup) (hi:X.N[i]?=some x) (hx:Loc X.env.scope x) (he:DF X e te w) (hs:Ex e (some (.Name x pos')) pos.line X.env=pure false:=by rfl) (hf:X.fn x=true\/X.env.scope.names.lookup x=some .local:=by first | exact .inl rfl | exact .inr rfl | assumption) :
  DS X (.Assign [.Name x pos'] e pos) (tAsg te (jem i)) (sOwn i w):=⟨jdv hN hi hx he.pe hs hf,λC H B σ δ n K D R q E =>
 he.sd C H B σ δ n _ _ R q λa xs ds H1 n1 R1 k1 h0 h1 h2 h3 q1=>by
  refine E.nx _ _ _ _ _ (R.own R1 k1 h0 (by rw[h1];exact λz=>nomatch z) rfl ?_) q1;exact⟨a,xs,rfl,h1,.inr rfl,R.h0 h0,h2,h3⟩⟩
def sFrz (i:Nat) (W:DST):DST:=λδ n K=>match δ[i]? with
 |some (some (.own ds))=>W (δ.set i (some (.w (.d (.list ds))))) n K
 |some (some (.odk m))=>W (δ.set i (some (.w (.ob (.k m))))) n K
 |_=>W δ n K
theorem j3o (i:Nat) {sts:List Stmt} (h:DSs X sts T W):DSs X sts T (sFrz i W):=⟨h.ps,λC H B σ δ n K D R q E=>by
 unfold sFrz at q
 split at q
 ·rename_i ds e;obtain⟨B',R'⟩:=R.frz e;exact h.sd C H B' σ _ n K D R' q E
 ·rename_i m e;obtain⟨B',R'⟩:=R.frzK e;exact h.sd C H B' σ _ n K D R' q E
 ·exact h.sd C H B σ δ n K D R q E⟩
def sApp (i:Nat) (w:DT):DST:=λδ n K=>match δ[i]? with
 |some (some (.own ds))=>w δ n λx n1=>match x with
  |.d d=>ds.length < 1000000/\K.nx (δ.set i (some (.own (ds++[d])))) n1
  |_=>False
 |_=>False
theorem jrf {n:Nat} (h:n < 1000000):n < Ap:=Nat.lt_trans h (by decide)
theorem j3q {i:Nat} {x:Str} {xp ap cp:Pos} (hN:X.N[i]?=some x) (he:DE X e te we) (hv:Vis X.env.scope x:=by first | exact Da rfl | exact Cc (Da rfl) | exact Cc (Cc rfl)) (hd:(x==("__debug__":Str))=false:=by decide)
  (hcd:(x==("__classdict__":Str))=false:=by decide)
  (hbase:attributeBase (.Name x xp) "append" X.env (eval (.Name x xp) X.env)=eval (.Name x xp) X.env:=by rfl)
  (hfew:((C8 cp (Au [e] X.env)).all (λx=>!x.1)&&(backToKw cp (keywordEach [] X.env)).all (λx=>x.1.isSome)
   && decide ([e].length+([]:List Keyword).length+(if ([]:List Keyword).isEmpty then 0 else 1) < 30))=true:=by rfl)
  (hline:(ap.endLine==cp.line)=true:=by rfl) (hs:Au [e] X.env=[(false,eval e X.env)]:=by rfl) (hplain:(C8 cp (Au [] X.env)).any (·.1)=false:=by rfl)
  (hsw:Ex (.Call (.Attribute (.Name x xp) "append" ap) [e] [] cp) none pos.line X.env=pure false:=by rfl) :
  DS X (.Expr (.Call (.Attribute (.Name x xp) "append" ap) [e] [] cp) pos) (jzc (tBM X.K "list" jqs (tVar i) (jbu te tNil))) (sApp i we) :=
 ⟨jxd (j3y PySem.F.plainAttrs_list PySem.F.slot_list_append PySem.F.type_list_append jf4 (jdw hN hv hd hcd) (jaq he.pe jbc hs) hbase hfew hline hs hplain) hsw,λC H B σ δ n K D R q E=>by
  unfold sApp at q
  split at q
  ·rename_i ds ei;obtain⟨v,hv,a,xs,rfl,e2,e3,e4,e5,e6⟩:=R.sl i _ ei;refine⟨_,hv,.inl ⟨rfl,_,SqL.of e2⟩,he.sd C H B σ δ n _ _ R q λu y H1 n1 R1 k1 r1 q1=>?_⟩;cases y with
   |d d =>
    have hat:a≠C.t:=λz=>R.t0 (z▸e4);have e2':=k1 _ _ e2 hat;refine⟨a,xs,u,rfl,rfl,e2',jrf (by rw[e6.len];exact q1.1),?_⟩;refine E.nx _ _ _ _ _ (R1.mutOwn ei rfl hv e3 e4 ?_ rfl) q1.2;refine⟨a,xs++[u],rfl,jah,e3,e4,?_,?_⟩
    ·rw[Ak,e6.len];exact jrf q1.1
    ·refine RdXs.keep (λb o e n=>?_) ((e6.kp k1 R.bt).append (.cons r1 .nil));rw[jag λ(z:b=a)=>n (z▸e3)];exact e
   |tp=>exact q1.elim
   |dk _=>exact q1.elim
   |ln _=>exact q1.elim
   |ob _=>exact q1.elim
  ·exact q.elim⟩
end
def jat (N:List Str) (ws:List Wv):Sl:=ws.map (λx=>some (.w x))++A9 (N.length - ws.length) none
theorem ARel.get {H:Hp} {B:Addr->Prop} {t:Addr}:∀{vs:List V} {xs:List Wv} {i:Nat} {x:Wv},ARel H B t vs xs->xs[i]?=some x->∃v,vs[i]?=some v/\WRel H B t v x
 |_,_,_,_,.nil,e=>by simp at e
 |_,_,0,_,.cons h _,e=>by
  simp at e;subst e;exact⟨_,rfl,h⟩
 |_,_,i+1,x,.cons _ r,e=>by
  obtain⟨v,h1,h2⟩:=ARel.get (i:=i) (x:=x) r (by simpa using e);exact⟨v,by simpa using h1,h2⟩
theorem jka {H:Hp} {t:Addr} {l:TL} {ns:List Int} {B:Addr->Prop} {vs:List V} {ws:List Wv} {n:Int} {N:List Str} (T:Tp H t l ns n) (bt:B t) (ba:∀b,B b->H b≠none) (r:ARel H B t vs ws):Rel ⟨t,l,ns,H,B,λ_=>none⟩ H B (L2.start N vs) (jat N ws) n where
 tp:=T
 kp:=Kp.refl _ _
 t0:=by
  obtain⟨_,_,h,_⟩:=T.ob;show H t≠none;rw[h];exact λz=>nomatch z
 l0:=by
  show H l.s≠none;rw[T.ls];exact λz=>nomatch z
 g0:=λe=>by
  show H l.g≠none;rw[T.ag e];exact λz=>nomatch z
 fz:=λb o e=>nomatch e
 bt:=bt
 b0:=λ_ z=>z
 ba:=ba
 a0:=ba
 sl:=λi x e=>by
  have hl:=r.len;unfold jat at e;rw[List.getElem?_append]at e
  split at e
  ·rename_i hi;rw[Ab]at hi;rw[A0]at e;cases q:ws[i]? with
   |none=>rw[q]at e;cases e
   |some y =>
    rw[q]at e;cases e;obtain⟨v,h1,h2⟩:=r.get q;refine⟨v,?_,h2,λz=>?_⟩
    ·unfold L2.start;rw[B9 (by rw[Ab,hl];exact hi),A0,h1];rfl
    ·cases y with
     |d _=>cases z
     |tp=>cases z
     |dk _ =>
      obtain⟨a,l',f1,f2,_⟩:=h2;exact⟨a,f1,by show H a≠none;rw[f2];exact λz=>nomatch z⟩
     |ln _ =>
      obtain⟨a,l',f1,f2,_⟩:=h2;exact⟨a,f1,by show H a≠none;rw[f2];exact λz=>nomatch z⟩
     |ob _=>cases z
  ·rw[Dx]at e
   split at e
   ·cases e
   ·cases e
 ow:=λi j x y v e1 e2 o1 o2 _ _=>by
  unfold jat at e1;rw[List.getElem?_append]at e1
  split at e1
  ·rw[A0]at e1;cases q:ws[i]? with
   |none=>rw[q]at e1;cases e1
   |some y =>
    rw[q]at e1;cases e1;cases o1
  ·rw[Dx]at e1
   split at e1
   ·cases e1
   ·cases e1
 len:=by
  unfold L2.start jat;rw[Ak,Ak,Ab,Ab,Fc,Fc,r.len]
section
variable {P:Bg} {w:Bw} {K:Ah} {mg:Str->Option Ai} {base:Heap}
theorem Fun.okD {x qual:Str} {st:Stmt} {f:Addr} {fd:Ce} {N ps:List Str} {k:Nat} {S:DSp} (F:Fun K x qual st f fd) (Sc:FnScope N ps (jal st)) (len:∀ws n Q,S ws n Q->ws.length=ps.length)
  (hbody:∀(cdv:Ai) (A:Cb) (outer:List Env) (s:Am) (H:Hp) (E:XK),Room k (A.deeper (Dm qual (jal st) s.heap.objs.size f cdv)) ->
   ∃T W,DSs (cxOf CX0 P w K mg base N qual (jal st) f cdv A outer s H E).nox (jbe st) T W/\∀ws n Q,S ws n Q->W (jat N ws) n {nx:=λ_ n=>Q (.d .none) n,rt:=Q}):FnOk P w K mg base CX0 (k+1) f fd ps (spOf S):=by
 refine F.ok Sc (λvs H Q E h=>?_) (λcdv A outer s H vs Q E hr h=>?_)
 ·obtain⟨t,l,ns,B,ws,n,Q0,_,_,_,r,q,_⟩:=h;rw[r.len];exact len ws n Q0 q
 ·obtain⟨t,l,ns,B,ws,n,Q0,T,bt,ba,r,q,kk⟩:=h;obtain⟨T',W,d,hw⟩:=hbody cdv A outer s H E hr;refine⟨T',d.ps,d.sd ⟨t,l,ns,H,B,λ_=>none⟩ H B _ _ n _ _ (jka T bt ba r) (hw ws n Q0 q) ⟨?_,?_,?_,?_,λ_ _ _ _ _ _ _ _ _ _ _ _ _ z=>z.elim⟩⟩
  ·exact λH' B' σ δ n' R' q'=>kk _ _ q' .non H' R'.tp R'.kp (show RdX H' B .non .none from .non)
  ·exact λH' B' σ δ n' v x R' r' q'=>kk _ _ q' v H' R'.tp R'.kp (r'.less R'.b0)
  ·exact λ_ _ _ _ _ _ z=>z.elim
  ·exact λ_ _ _ _ _ _ z=>z.elim
end
section
variable {X:Cx} {a b c e:Expr} {ta tb tc te:TE} {wa wb wc we:DT} {pos p:Pos}
def gI (Cd:Int->Int->Prop) (f:Int->Int->Aa):Wv->Wv->Int->DQ->Prop:=λx y n Q=>match x,y with
 |.d (.int i),.d (.int j)=>Cd i j/\Q (.d (f i j)) n
 |_,_=>False
theorem jzj {Cd:Int->Int->Prop} {g:Int->Int->V} {f:Int->Int->Aa} (h:∀i j H B,RdX H B (g i j) (f i j)):SndO (rI Cd g) (gI Cd f):=λC H B σ δ n x y p q Q Q' R rx ry h1 k=>by
 unfold gI at h1
 split at h1
 ·rename_i i j;cases(show RdX H B x (.int i)from rx);cases(show RdX H B y (.int j)from ry);exact⟨i,j,rfl,rfl,h1.1,k _ _ H n R (Kp.refl _ _) (wd (h i j H B)) h1.2⟩
 ·exact h1.elim
def gI0 (f:Int->Int->Aa):Wv->Wv->Int->DQ->Prop:=λx y n Q=>match x,y with
 |.d (.int i),.d (.int j)=>Q (.d (f i j)) n
 |_,_=>False
theorem jp6 {g:Int->Int->V} {f:Int->Int->Aa} (h:∀i j H B,RdX H B (g i j) (f i j)):SndO (rI0 g) (gI0 f):=λC H B σ δ n x y p q Q Q' R rx ry h1 k=>by
 unfold gI0 at h1
 split at h1
 ·rename_i i j;cases(show RdX H B x (.int i)from rx);cases(show RdX H B y (.int j)from ry);exact⟨i,j,rfl,rfl,k _ _ H n R (Kp.refl _ _) (wd (h i j H B)) h1⟩
 ·exact h1.elim
theorem j4q (ha:DE X a ta wa) (hb:DE X b tb wb):DE X (.BinOp a .Sub b pos) (tOp (rI0 λi j=>.int (i - j)) ta tb) (w2 wa wb (gI0 λi j=>.int (i - j))):=d_op j0w (jp6 λ_ _ _ _=>.int _) ha hb
theorem j4w (ha:DE X a ta wa) (hb:DE X b tb wb):DE X (.BinOp a .Mod b pos) (tOp (rI (λ_ j=>0 < j) λi j=>.int (i % j)) ta tb) (w2 wa wb (gI (λ_ j=>0 < j) λi j=>.int (i % j))):=d_op jdx (jzj λ_ _ _ _=>.int _) ha hb
def wNeg (w:DT):DT:=λδ n Q=>w δ n λx n1=>match x with
 |.d (.int i)=>Q (.d (.int (-i))) n1
 |_=>False
theorem j4v (ha:DE X a ta wa):DE X (.UnaryOp .USub a pos) (tUn (rU λi=>.int (-i)) ta) (wNeg wa):=⟨j3w jy5 ha.pe,λC H B σ δ n Q Q' R q k=>ha.sd C H B σ δ n _ _ R q λv x H1 n1 R1 k1 r1 q1=>by
 split at q1
 ·rename_i i;cases(show RdX H1 B v (.int i)from r1);exact⟨i,rfl,k _ _ H1 n1 R1 k1 (wd (.int _)) q1⟩
 ·exact q1.elim⟩
def gAdd:Wv->Wv->Int->DQ->Prop:=λx y n Q=>match x,y with
 |.d (.int i),.d (.int j)=>Q (.d (.int (i+j))) n
 |.d (.str i),.d (.str j)=>i.length+j.length<=Ap/\Q (.d (.str (i++j))) n
 |.d (.tuple i),.d (.tuple j)=>(i≠[]\/j≠[])/\i.length+j.length<=Ap/\Q (.d (.tuple (i++j))) n
 |.d (.list i),.d (.list j)=>i.length+j.length<=Ap/\Q (.d (.list (i++j))) n
 |_,_=>False
def jox (K:Ah):R2:=λx y H Q=>(rI0 λi j=>.int (i+j)) x y H Q\/(∃i j,x=.str i/\y=.str j/\i.length+j.length<=Ap/\Q (.str (i++j)) H)\/j0g K x y H Q\/j0f K x y H Q\/rCat x y H Q
theorem op_addA:OpR X (Du .Add) (jox X.K) :=
 op_add.or (op_add_str.or (op_catA.or (op_catT.or jrb)))
theorem jlx (i j:Str):(i++j).length=i.length+j.length:=Array.size_append
theorem jm5 {K:Ah}:SndO (jox K) gAdd:=λC H B σ δ n x y p q Q Q' R rx ry h1 k=>by
 unfold gAdd at h1
 split at h1
 ·rename_i i j;cases(show RdX H B x (.int i)from rx);cases(show RdX H B y (.int j)from ry);exact .inl ⟨i,j,rfl,rfl,k _ _ H n R (Kp.refl _ _) (wd (.int _)) h1⟩
 ·rename_i i j;cases(show RdX H B x (.str i)from rx);cases(show RdX H B y (.str j)from ry);exact .inr (.inl ⟨i,j,rfl,rfl,h1.1,k _ _ H n R (Kp.refl _ _) (wd (show RdX H B _ (.str (i++j))from .str _ (by rw[jlx];exact h1.1))) h1.2⟩)
 ·rename_i i j;cases(show RdX H B x (.tuple i)from rx)with
  |@tup ax xs _ e1 e2 e3 e4 =>
   cases(show RdX H B y (.tuple j)from ry)with
   |@tup ay ys _ f1 f2 f3 f4 =>
    obtain⟨ne,hl,q⟩:=h1;have hl':xs.length+ys.length<=Ap:=by rw[e4.len,f4.len];exact hl
    have new:∀pn,H pn=none->Q' (.ref pn) (upd H pn (.tup (xs++ys))):=λpn hp=>by
     refine k _ _ _ n (R.new hp) (Kp.new hp) (wd (show RdX _ B _ (.tuple (i++j))from .tup jah (R.nb hp) (by rw[Ak];exact hl') ?_)) q;exact((e4.append f4).fresh hp).less λb z=>.inl z
    by_cases hy:ys=[]
    ·have hx:xs≠[]:=λz=>by
      subst hy z;cases e4;cases f4;exact ne.elim (λq=>q rfl) λq=>q rfl
     refine .inr (.inr (.inr (.inl ⟨ax,ay,xs,ys,rfl,rfl,SqT.of e1,SqT.of f1,hx,hl',λ_=>?_,λ_=>new⟩)));subst hy;cases f4;rw[Bo]at q;exact k _ _ H n R (Kp.refl _ _) (wd (show RdX H B _ (.tuple i)from .tup e1 e2 e3 e4)) q
    ·refine .inr (.inr (.inl ⟨ax,ay,xs,ys,rfl,rfl,SqT.of e1,SqT.of f1,hy,hl',λz=>?_,λ_=>new⟩));subst z;cases e4;exact k _ _ H n R (Kp.refl _ _) (wd (show RdX H B _ (.tuple j)from .tup f1 f2 f3 f4)) q
 ·rename_i i j;cases(show RdX H B x (.list i)from rx)with
  |@lst ax xs _ e1 e2 e3 e4 =>
   cases(show RdX H B y (.list j)from ry)with
   |@lst ay ys _ f1 f2 f3 f4 =>
    obtain⟨hl,q⟩:=h1;have hl':xs.length+ys.length<=Ap:=by rw[e4.len,f4.len];exact hl
    refine .inr (.inr (.inr (.inr ⟨ax,ay,xs,ys,rfl,rfl,e1,f1,hl',λpn hp=>?_⟩)));refine k _ _ _ n (R.new hp) (Kp.new hp) (wd (show RdX _ B _ (.list (i++j))from .lst jah (R.nb hp) (by rw[Ak];exact hl') ?_)) q;exact((e4.append f4).fresh hp).less λb z=>.inl z
 ·exact h1.elim
theorem j45 (ha:DE X a ta wa) (hb:DE X b tb wb):DE X (.BinOp a .Add b pos) (tOp (jox X.K) ta tb) (w2 wa wb gAdd):=d_op op_addA jm5 ha hb
def gCmp (f:Int->Int->Bool) (h:List Nat->List Nat->Bool):Wv->Wv->Int->DQ->Prop:=λx y n Q=>match x,y with
 |.d (.int i),.d (.int j)=>Q (.d (.bool (f i j))) n
 |.d (.str i),.d (.str j)=>Q (.d (.bool (h i.cps.toList j.cps.toList))) n
 |_,_=>False
theorem jlz {f:Int->Int->Bool} {h:List Nat->List Nat->Bool}:SndO (λx y H Q=>(rI0 λi j=>.bl (f i j)) x y H Q\/∃i j,x=.str i/\y=.str j/\Q (.bl (h i.cps.toList j.cps.toList)) H) (gCmp f h):=λC H B σ δ n x y p q Q Q' R rx ry h1 k=>by
 unfold gCmp at h1
 split at h1
 ·rename_i i j;cases(show RdX H B x (.int i)from rx);cases(show RdX H B y (.int j)from ry);exact .inl ⟨i,j,rfl,rfl,k _ _ H n R (Kp.refl _ _) (wd (.bl _)) h1⟩
 ·rename_i i j;cases(show RdX H B x (.str i)from rx);cases(show RdX H B y (.str j)from ry);exact .inr ⟨i,j,rfl,rfl,k _ _ H n R (Kp.refl _ _) (wd (.bl _)) h1⟩
 ·exact h1.elim
theorem jq9:OpR X (Bz .GtE) (λx y H Q=>∃i j,x=.str i/\y=.str j/\Q (.bl (!decide (i.cps.toList < j.cps.toList))) H):=by
 intro pins s σ H x y v u Q I rx ry h;obtain⟨i,j,rfl,rfl,q⟩:=h;obtain⟨t,rfl⟩:=rx;obtain⟨t',rfl⟩:=ry;exact P.ge_str (jax I q rfl)
abbrev gLt:=gCmp (λi j=>decide (i < j)) (λi j=>decide (i < j))
abbrev gGt:=gCmp (λi j=>decide (j < i)) (λi j=>decide (j < i))
abbrev gGe:=gCmp (λi j=>decide (j<=i)) (λi j=>!decide (i < j))
def rLtA:R2:=λx y H Q=>(rI0 λi j=>.bl (decide (i < j))) x y H Q\/∃i j,x=.str i/\y=.str j/\Q (.bl (decide (i.cps.toList < j.cps.toList))) H
theorem j00:OpR X (Bz .Lt) rLtA:=op_lt.or jq6
def rGtA:R2:=λx y H Q=>(rI0 λi j=>.bl (decide (j < i))) x y H Q\/∃i j,x=.str i/\y=.str j/\Q (.bl (decide (j.cps.toList < i.cps.toList))) H
theorem j01:OpR X (Bz .Gt) rGtA:=op_gt.or jq8
def rGeA:R2:=λx y H Q=>(rI0 λi j=>.bl (decide (j<=i))) x y H Q\/∃i j,x=.str i/\y=.str j/\Q (.bl (!decide (i.cps.toList < j.cps.toList))) H
theorem j02:OpR X (Bz .GtE) rGeA:=op_ge.or jq9
theorem jzm:SndO rLtA gLt:=jlz (f:=λi j=>decide (i < j)) (h:=λi j=>decide (i < j))
theorem jzn:SndO rGtA gGt:=jlz (f:=λi j=>decide (j < i)) (h:=λi j=>decide (j < i))
theorem jzo:SndO rGeA gGe:=jlz (f:=λi j=>decide (j<=i)) (h:=λi j=>!decide (i < j))
def eqD:Aa->Aa->Option Bool
 |.none,.none=>some true
 |.none,.int _=>some false
 |.int _,.none=>some false
 |.none,.bool _=>some false
 |.bool _,.none=>some false
 |.none,.str _=>some false
 |.str _,.none=>some false
 |.int i,.int j=>some (decide (i=j))
 |.bool i,.bool j=>some (decide (i=j))
 |.str i,.str j=>some (decide (i=j))
 |.int _,.str _=>some false
 |.str _,.int _=>some false
 |.bool _,.str _=>some false
 |.str _,.bool _=>some false
 |.list _,.str _=>some false
 |.tuple _,.str _=>some false
 |.dict _,.str _=>some false
 |.list xs,.list []=>some xs.isEmpty
 |_,_=>none
def jtn:R2:=λx y H Q=>∃d h B,RdX H B x d/\y=.str h/\Q (.bl (jaf h d)) H
theorem jjj (x y:Str):decide (V.str x=V.str y)=decide (x=y):=by
 by_cases z:x=y
 ·rw[z,decide_eq_true rfl,decide_eq_true rfl]
 ·rw[decide_eq_false z,decide_eq_false λw=>z (V.str.inj w)]
theorem jn2 (x y:Int):decide (V.int x=V.int y)=decide (x=y):=by
 by_cases z:x=y
 ·rw[z,decide_eq_true rfl,decide_eq_true rfl]
 ·rw[decide_eq_false z,decide_eq_false λw=>z (V.int.inj w)]
theorem jsc (x y:Bool):decide (V.bl x=V.bl y)=decide (x=y):=by
 by_cases z:x=y
 ·rw[z,decide_eq_true rfl,decide_eq_true rfl]
 ·rw[decide_eq_false z,decide_eq_false λw=>z (V.bl.inj w)]
theorem jxq (hu:X.A.units < cLine):OpR X (Bz .Eq) jtn:=by
 intro pins s σ H x y v u Q I rx ry h;obtain⟨d,hh,B,hd,rfl,q⟩:=h;cases hd with
 |non=>exact op_eq pins s σ H _ _ v u Q I rx ry ⟨rfl,q⟩
 |bl b=>exact op_eq pins s σ H _ _ v u Q I rx ry ⟨rfl,q⟩
 |int i=>exact op_eq pins s σ H _ _ v u Q I rx ry ⟨rfl,q⟩
 |str x hx =>
  refine op_eq pins s σ H _ _ v u Q I rx ry ⟨rfl,?_⟩;rw[jjj];exact q
 |@lst a xs ds h1 h2 h3 h4 =>
  cases(show v=A5 a from rx);obtain⟨t,rfl⟩:=(show ∃t,u=Value.str hh t from ry);obtain⟨its,_,p,_⟩:=I.list (SqL.of (K:=X.K) h1);exact PySem.SeqAt.RcAt.list_str hh t p.isList hu _ _ _ _ ⟨.bl false,H,I,rfl,q⟩
 |@tup a xs ds h1 h2 h3 h4 =>
  cases(show v=A5 a from rx);obtain⟨t,rfl⟩:=(show ∃t,u=Value.str hh t from ry);obtain⟨its,_,p,_⟩:=I.tuple (SqT.of (K:=X.K) h1);exact PySem.SeqAt.RcAt.tuple_str hh t (show s.heap.IsTuple a its.toArray from p) hu _ _ _ _ ⟨.bl false,H,I,rfl,q⟩
def gEq:Wv->Wv->Int->DQ->Prop:=λx y n Q=>match x,y with
 |.d a,.d b=>match eqD a b with
  |some r=>Q (.d (.bool r)) n
  |none=>False
 |_,_=>False
theorem j04 (hu:X.A.units < cLine):OpR X (Bz .Eq) (λx y H Q=>rEq x y H Q\/jtn x y H Q\/jnc X.K x y H Q):=op_eq.or ((jxq hu).or (jty hu))
theorem jzp {K:Ah}:SndO (λx y H Q=>rEq x y H Q\/jtn x y H Q\/jnc K x y H Q) gEq:=λC H B σ δ n x y p q Q Q' R rx ry h1 k=>by
 unfold gEq at h1
 split at h1
 ·rename_i da db;have rx:RdX H B x da:=rx;have ry:RdX H B y db:=ry;have fin:∀r:Bool,Q (.d (.bool r)) n->Q' (.bl r) H:=λr q=>k _ _ H n R (Kp.refl _ _) (wd (.bl r)) q
  split at h1
  ·rename_i r er;have h1:=fin r h1;cases rx with
   |non=>cases ry<;>first | (cases er;done) | (cases er;exact .inl ⟨rfl,h1⟩)
   |bl i=>cases ry<;>first | (cases er;done) | (cases er;exact .inl ⟨rfl,by first | exact h1 | (rw[jsc];exact h1)⟩)
   |int i=>cases ry<;>first | (cases er;done) | (cases er;exact .inl ⟨rfl,by first | exact h1 | (rw[jn2];exact h1)⟩)
   |str i hi=>cases ry<;>first | (cases er;done) | (cases er;exact .inl ⟨rfl,by first | exact h1 | (rw[jjj];exact h1)⟩)
   |@lst ax xs ds e1 e2 e3 e4 =>
    cases ry with
    |str j hj=>cases er;exact .inr (.inl ⟨_,j,B,.lst e1 e2 e3 e4,rfl,h1⟩)
    |@lst ay ys es f1 f2 f3 f4 =>
     cases f4 with
     |nil =>
      have er:some ds.isEmpty=some r:=er;cases er;refine .inr (.inr ⟨ax,ay,xs,rfl,rfl,SqL.of e1,SqL.of f1,?_⟩);have:xs.isEmpty=ds.isEmpty:=by cases e4<;>rfl
      rw[this];exact h1
     |cons _ _=>cases er
    |_=>cases er
   |@tup ax xs ds e1 e2 e3 e4 =>
    cases ry with
    |str j hj=>cases er;exact .inr (.inl ⟨_,j,B,.tup e1 e2 e3 e4,rfl,h1⟩)
    |_=>cases er
  ·exact h1.elim
 ·exact h1.elim
def neD (a b:Aa):Option Bool:=match a,b with
 |.list _,_=>none
 |.tuple _,_=>none
 |a,b=>(eqD a b).map not
def gNe:Wv->Wv->Int->DQ->Prop:=λx y n Q=>match x,y with
 |.d a,.d b=>match neD a b with
  |some r=>Q (.d (.bool r)) n
  |none=>False
 |_,_=>False
theorem jzl:SndO rNe gNe:=λC H B σ δ n x y p q Q Q' R rx ry h1 k=>by
 unfold gNe at h1
 split at h1
 ·rename_i da db;have rx:RdX H B x da:=rx;have ry:RdX H B y db:=ry;have fin:∀r:Bool,Q (.d (.bool r)) n->Q' (.bl r) H:=λr q=>k _ _ H n R (Kp.refl _ _) (wd (.bl r)) q
  split at h1
  ·rename_i r er;have h1:=fin r h1;cases rx with
   |non=>cases ry<;>first | (cases er;done) | (cases er;exact⟨rfl,h1⟩)
   |bl i=>cases ry<;>first | (cases er;done) | (cases er;exact⟨rfl,by first | exact h1 | (rw[jsc];exact h1)⟩)
   |int i=>cases ry<;>first | (cases er;done) | (cases er;exact⟨rfl,by first | exact h1 | (rw[jn2];exact h1)⟩)
   |str i hi=>cases ry<;>first | (cases er;done) | (cases er;exact⟨rfl,by first | exact h1 | (rw[jjj];exact h1)⟩)
   |lst _ _ _ _=>cases er
   |tup _ _ _ _=>cases er
  ·exact h1.elim
 ·exact h1.elim
def jb4:Aa->Bool
 |.none=>true
 |_=>false
def gIsN (neg:Bool):Wv->Wv->Int->DQ->Prop:=λx y n Q=>match x,y with
 |.d a,.d .none=>Q (.d (.bool (if neg then !jb4 a else jb4 a))) n
 |_,_=>False
theorem jnl {H:Hp} {B:Addr->Prop} {v:V} {d:Aa} (h:RdX H B v d):decide (v=.non)=jb4 d:=by cases h<;>rfl
theorem jp7:SndO (λx y H Q=>y=.non/\Q (.bl (decide (x=.non))) H) (gIsN false):=λC H B σ δ n x y p q Q Q' R rx ry h1 k=>by
 unfold gIsN at h1
 split at h1
 ·rename_i da;cases(show RdX H B y .none from ry);exact⟨rfl,k _ _ H n R (Kp.refl _ _) (wd (show RdX H B _ (.bool (jb4 da))from by rw[jnl rx];exact .bl _)) h1⟩
 ·exact h1.elim
theorem jtc:SndO (λx y H Q=>y=.non/\Q (.bl (!decide (x=.non))) H) (gIsN true):=λC H B σ δ n x y p q Q Q' R rx ry h1 k=>by
 unfold gIsN at h1
 split at h1
 ·rename_i da;cases(show RdX H B y .none from ry);exact⟨rfl,k _ _ H n R (Kp.refl _ _) (wd (show RdX H B _ (.bool (!jb4 da))from by rw[jnl rx];exact .bl _)) h1⟩
 ·exact h1.elim
def jcs:Aa->Bool
 |.none=>true
 |.bool _=>true
 |.int _=>true
 |.str _=>true
 |_=>false
def eqF:Aa->Aa->Bool
 |.none,.none=>true
 |.bool a,.bool b=>a==b
 |.bool a,.int b=>(if a then 1 else 0)==b
 |.int a,.bool b=>a==(if b then 1 else 0)
 |.int a,.int b=>a==b
 |.str a,.str b=>a==b
 |_,_=>false
def inD (x:Aa) (ds:List Aa):Bool:=ds.any λy=>eqF y x
theorem jgk {H:Hp} {B:Addr->Prop} {v:V} {d:Aa} (h:RdX H B v d) (f:jcs d=true):jfh v=true:=by cases h<;>first | rfl | cases f
theorem jc5 {H:Hp} {B:Addr->Prop}:∀{vs:List V} {ds:List Aa},RdXs H B vs ds->ds.all jcs=true->vs.all jfh=true
 |_,_,.nil,_=>rfl
 |_,_,.cons h r,f=>by
  rw[List.all_cons,Cw]at f ⊢;exact⟨jgk h f.1,jc5 r f.2⟩
theorem j2f {H:Hp} {B:Addr->Prop} {v u:V} {d e:Aa} (h:RdX H B v d) (h2:RdX H B u e):eqV v u=eqF d e:=by cases h<;>cases h2<;>rfl
theorem jkx {H:Hp} {B:Addr->Prop} {v:V} {d:Aa} (h:RdX H B v d):∀{vs:List V} {ds:List Aa},RdXs H B vs ds->inV v vs=inD d ds
 |_,_,.nil=>rfl
 |_,_,.cons h1 r=>by
  have:=jkx h r;unfold inV inD at this ⊢;rw[C6,C6,this,j2f h1 h]
def gIn (neg:Bool):Wv->Wv->Int->DQ->Prop:=λx y n Q=>match x,y with
 |.d a,.d (.tuple ds)=>jcs a=true/\ds.all jcs=true/\Q (.d (.bool (if neg then !inD a ds else inD a ds))) n
 |.d a,.d (.list ds)=>jcs a=true/\ds.all jcs=true/\Q (.d (.bool (if neg then !inD a ds else inD a ds))) n
 |_,_=>False
theorem jfz {K:Ah} {neg:Bool}:SndO (rIn K neg) (gIn neg):=λC H B σ δ n x y p q Q Q' R rx ry h1 k=>by
 unfold gIn at h1
 split at h1
 ·rename_i da ds;obtain⟨f1,f2,q⟩:=h1;have rx:RdX H B x da:=rx;cases(show RdX H B y (.tuple ds)from ry)with
  |@tup ay ys _ e1 e2 e3 e4 =>
   refine⟨ay,ys,rfl,.inr (SqT.of e1),jgk rx f1,jc5 e4 f2,?_⟩;rw[jkx rx e4];exact k _ _ H n R (Kp.refl _ _) (wd (.bl _)) q
 ·rename_i da ds;obtain⟨f1,f2,q⟩:=h1;have rx:RdX H B x da:=rx;cases(show RdX H B y (.list ds)from ry)with
  |@lst ay ys _ e1 e2 e3 e4 =>
   refine⟨ay,ys,rfl,.inl (SqL.of e1),jgk rx f1,jc5 e4 f2,?_⟩;rw[jkx rx e4];exact k _ _ H n R (Kp.refl _ _) (wd (.bl _)) q
 ·exact h1.elim
def gIx:Wv->Wv->Int->DQ->Prop:=λx y n Q=>match x,y with
 |.d (.list ds),.d (.int i)=>match atI ds i with
  |some d=>Q (.d d) n
  |none=>False
 |.d (.tuple ds),.d (.int i)=>match atI ds i with
  |some d=>Q (.d d) n
  |none=>False
 |.d (.str z),.d (.int i)=>match atI z.cps.toList i with
  |some c=>Q (.d (.str ⟨#[c]⟩)) n
  |none=>False
 |_,_=>False
theorem jsu {H:Hp} {B:Addr->Prop} {vs:List V} {ds:List Aa} {i:Int} {d:Aa} (r:RdXs H B vs ds) (h:atI ds i=some d):∃v,atI vs i=some v/\RdX H B v d:=by
 unfold atI at h ⊢;rw[r.len];cases e:ixN ds.length i with
 |none=>rw[e]at h;cases h
 |some j =>
  rw[e]at h;exact r.getD h
theorem jhw {K:Ah}:SndO (rIx K) gIx:=λC H B σ δ n x y p q Q Q' R rx ry h1 k=>by
 unfold gIx at h1
 split at h1
 ·rename_i ds i
  split at h1
  ·rename_i d e;cases(show RdX H B y (.int i)from ry);cases(show RdX H B x (.list ds)from rx)with
   |@lst ay ys _ e1 e2 e3 e4 =>
    obtain⟨v,f1,f2⟩:=jsu e4 e;exact .inl ⟨ay,ys,i,v,rfl,rfl,SqL.of e1,f1,k _ _ H n R (Kp.refl _ _) (wd f2) h1⟩
  ·exact h1.elim
 ·rename_i ds i
  split at h1
  ·rename_i d e;cases(show RdX H B y (.int i)from ry);cases(show RdX H B x (.tuple ds)from rx)with
   |@tup ay ys _ e1 e2 e3 e4 =>
    obtain⟨v,f1,f2⟩:=jsu e4 e;exact .inr (.inl ⟨ay,ys,i,v,rfl,rfl,SqT.of e1,f1,k _ _ H n R (Kp.refl _ _) (wd f2) h1⟩)
  ·exact h1.elim
 ·rename_i z i
  split at h1
  ·rename_i c e;cases(show RdX H B y (.int i)from ry);cases(show RdX H B x (.str z)from rx)with
   |str _ hz=>exact .inr (.inr ⟨z,i,c,rfl,rfl,hz,e,k _ _ H n R (Kp.refl _ _) (wd (show RdX H B _ (.str ⟨#[c]⟩)from .str _ (by show 1<=Ap;decide))) h1⟩)
  ·exact h1.elim
 ·exact h1.elim
theorem d_ix (ha:DE X a ta wa) (hb:DE X b tb wb) (hs:jg5 b:=by exact λ_ _=>rfl):DE X (.Subscript a b pos) (tOp (rIx X.K) ta tb) (w2 wa wb gIx):=⟨jeh jnv ha.pe hb.pe hs,jhv jhw ha.sd hb.sd⟩
def gLen:List Wv->Int->DQ->Prop:=λxs n Q=>match xs with
 |[.d (.str x)]=>Q (.d (.int x.length)) n
 |[.d (.list ds)]=>Q (.d (.int ds.length)) n
 |[.d (.tuple ds)]=>Q (.d (.int ds.length)) n
 |_=>False
theorem jsq:CallR X (.builtin "len") (λxs H Q=>(∃z,xs=[.str z]/\z.length<=Ap/\Q (.int z.length) H)\/∃p ys,xs=[.ref p]/\(SqL X.K H p ys\/SqT X.K H p ys)/\Q (.int ys.length) H):=call_len_str.or jby
theorem jwz {K:Ah}:SndB (λxs H Q=>(∃z,xs=[.str z]/\z.length<=Ap/\Q (.int z.length) H)\/∃p ys,xs=[.ref p]/\(SqL K H p ys\/SqT K H p ys)/\Q (.int ys.length) H) gLen:=λC H B σ δ n vs xs Q Q' R r h k=>by
 unfold gLen at h
 split at h
 ·rename_i x;cases r with
  |cons r1 r2 =>
   cases r2;cases(show RdX H B _ (.str x)from r1)with
   |str _ hz=>exact .inl ⟨x,rfl,hz,k _ _ H n R (Kp.refl _ _) (wd (.int _)) h⟩
 ·rename_i ds;cases r with
  |cons r1 r2 =>
   cases r2;cases(show RdX H B _ (.list ds)from r1)with
   |@lst ay ys _ e1 e2 e3 e4 =>
    refine .inr ⟨ay,ys,rfl,.inl (SqL.of e1),?_⟩;rw[e4.len];exact k _ _ H n R (Kp.refl _ _) (wd (.int _)) h
 ·rename_i ds;cases r with
  |cons r1 r2 =>
   cases r2;cases(show RdX H B _ (.tuple ds)from r1)with
   |@tup ay ys _ e1 e2 e3 e4 =>
    refine .inr ⟨ay,ys,rfl,.inr (SqT.of e1),?_⟩;rw[e4.len];exact k _ _ H n R (Kp.refl _ _) (wd (.int _)) h
 ·exact h.elim
theorem jy6 {K:Ah} {H:Hp} {B:Addr->Prop} {v:V} {d:Aa} (h:RdX H B v d):TyOf K H v (.type (tyD d)):=by
 cases h with
 |non=>exact .non
 |bl b=>exact .bl b
 |int i=>exact .int i
 |str x h=>exact .str x
 |lst h1 h2 h3 h4=>exact .lst h1
 |tup h1 h2 h3 h4=>exact .tup h1
theorem j37 {K:Ah} {H:Hp} {B:Addr->Prop} {v:V} {d:Aa} (h:RdX H B v d) {T:String} (hT:T="int"\/T="bool"\/T="str"\/T="tuple"\/T="list"):PySem.W.kitOne K (.type (tyD d)) (.type T)=some (isiB T d):=by
 cases h<;>rcases hT with rfl | rfl | rfl | rfl | rfl<;>rfl
def wIsi (T:String) (w:DT):DT:=λδ n Q=>w δ n λx n1=>match x with
 |.d d=>Q (.d (.bool (isiB T d))) n1
 |_=>False
theorem j40 {T:String} {x:Str} {p p2:Pos} (hT:T="int"\/T="bool"\/T="str"\/T="tuple"\/T="list") (hg:Gl X "isinstance") (hm:X.mg "isinstance"=none) (hg2:Gl X x) (hm2:X.mg x=none) (hv:Bv x=some (.type T)) (ha:DE X a ta wa) (hn:x≠"__name__":=by decide) (hdb:(x==("__debug__":Str))=false:=by decide)
  (he:Au [a,.Name x p2] X.env=(false,eval a X.env)::Au [.Name x p2] X.env:=by rfl) (he2:Au [.Name x p2] X.env=(false,eval (.Name x p2) X.env)::Au [] X.env:=by rfl) (hpl:(C8 pos (Au [.Name x p2] X.env)).any (·.1)=false:=by rfl) :
  DE X (.Call (.Name "isinstance" p) [a,.Name x p2] [] pos) (tCB (λxs H Q=>∃x t b,xs=[x,.ty T]/\TyOf X.K H x t/\PySem.W.kitOne X.K t (.type T)=some b/\Q (.bl b) H) (jbu ta (jbu (tC (.ty T)) tNil))) (wIsi T wa) :=
 ⟨jcc (jn7 (T:=T)) hg hm jss (jaq ha.pe (jaq (jq1 (v:=.ty T) hg2 hm2 hv rfl hn hdb) jbc he2) he) (by decide) (by decide) he hpl,λC H B σ δ n Q Q' R q k=>ha.sd C H B σ δ n _ _ R q λv x H1 n1 R1 k1 r1 q1=>by
  cases x with
  |d d=>exact⟨v,_,_,rfl,jy6 r1,j37 (show RdX H1 B v d from r1) hT,k _ _ H1 n1 R1 k1 (wd (.bl _)) q1⟩
  |tp=>exact q1.elim
  |dk _=>exact q1.elim
  |ln _=>exact q1.elim
  |ob _=>exact q1.elim⟩
def juj:List Wv->Int->DQ->Prop:=λxs n Q=>match xs with
 |[.d (.list ds)]=>Small (.list ds)/\Q (.d (.str (E2 (.list ds)))) n
 |[.d (.tuple ds)]=>Small (.tuple ds)/\Q (.d (.str (E2 (.tuple ds)))) n
 |_=>False
theorem jtb {K:Ah}:SndB (λxs H Q=>∃a d,xs=[.ref a]/\RdD K H (.ref a) d/\Small d/\Q (.str d.shown) H) juj:=λC H B σ δ n vs xs Q Q' R r h k=>by
 unfold juj at h
 split at h
 ·rename_i ds;cases r with
  |cons r1 r2 =>
   cases r2;cases(show RdX H B _ (.list ds)from r1)with
   |@lst ay ys _ e1 e2 e3 e4=>exact⟨ay,_,rfl,(RdX.lst e1 e2 e3 e4).rd,h.1,k _ _ H n R (Kp.refl _ _) (wd (show RdX H B _ (.str _)from .str _ h.1.len)) h.2⟩
 ·rename_i ds;cases r with
  |cons r1 r2 =>
   cases r2;cases(show RdX H B _ (.tuple ds)from r1)with
   |@tup ay ys _ e1 e2 e3 e4=>exact⟨ay,_,rfl,(RdX.tup e1 e2 e3 e4).rd,h.1,k _ _ H n R (Kp.refl _ _) (wd (show RdX H B _ (.str _)from .str _ h.1.len)) h.2⟩
 ·exact h.elim
def jb8:List Wv->Int->DQ->Prop:=λxs n Q=>match xs with
 |[.d (.list ds)]=>Q (.d (.tuple ds)) n
 |[.d (.tuple ds)]=>Q (.d (.tuple ds)) n
 |_=>False
theorem jp3 {K:Ah}:SndB (λxs H Q=>∃p ys,xs=[.ref p]/\((SqL K H p ys/\∀l,H l=none->Q (.ref l) (upd H l (.tup ys)))\/(SqT K H p ys/\Q (.ref p) H))) jb8:=λC H B σ δ n vs xs Q Q' R r h k=>by
 unfold jb8 at h
 split at h
 ·rename_i ds;cases r with
  |cons r1 r2 =>
   cases r2;cases(show RdX H B _ (.list ds)from r1)with
   |@lst ay ys _ e1 e2 e3 e4 =>
    refine⟨ay,ys,rfl,.inl ⟨SqL.of e1,λl hl=>?_⟩⟩;exact k _ _ _ n (R.new hl) (Kp.new hl) (wd (show RdX _ B _ (.tuple ds)from .tup jah (R.nb hl) e3 ((e4.fresh hl).less λb z=>.inl z))) h
 ·rename_i ds;cases r with
  |cons r1 r2 =>
   cases r2;cases(show RdX H B _ (.tuple ds)from r1)with
   |@tup ay ys _ e1 e2 e3 e4=>exact⟨ay,ys,rfl,.inr ⟨SqT.of e1,k _ _ H n R (Kp.refl _ _) (wd (show RdX H B _ (.tuple ds)from .tup e1 e2 e3 e4)) h⟩⟩
 ·exact h.elim
end
structure ItOk (fz:Hp) (J:It) (ds:List Aa):Prop where
 le:ds.length<=Ap
 go:∀i H,(∀b o,fz b=some o->H b=some o)->i < ds.length->J.go i H
 stop:∀H,(∀b o,fz b=some o->H b=some o)->J.stop ds.length H
 yld:∀i H x H' d,(∀b o,fz b=some o->H b=some o)->ds[i]?=some d->J.yld i H x H'->Same H H'/\∀B,(∀b o,fz b=some o->¬B b)->(∀b,B b->H b≠none)->RdX H' B x d
def thaw (H:Hp) (B:Addr->Prop) (fz:Hp):Prop:=(∀b o,fz b=some o->H b=some o/\¬B b)/\∀b o,H b=some o->¬B b->fz b=some o
abbrev DTI:=Sl->Int->(List Aa->Int->Prop)->Prop
def SndI (wi:TI) (v:DTI):Prop:=∀(C:Ctx) (H:Hp) (B:Addr->Prop) (σ:St) (δ:Sl) (n:Int) (Q:List Aa->Int->Prop) (Q':It->Hp->Prop),Rel C H B σ δ n->v δ n Q ->
 (∀J ds H' n',Rel C H' B σ δ n'->Kp C.t H H'->(∀fz,thaw H' B fz->ItOk fz J ds)->Q ds n'->Q' J H')->wi σ H Q'
structure DI (X:Cx) (tg iter:Expr) (wi:TI) (v:DTI):Prop where
 pi:PI X tg iter wi
 sd:SndI wi v
section
variable {X:Cx} {tg a b c e:Expr} {ta tb te:TE} {wa wb we:DT} {pos p:Pos}
def jb5 (w:DT):DTI:=λδ n Q=>w δ n λx n1=>match x with
 |.d (.list ds)=>Q ds n1
 |_=>False
def jcl (w:DT):DTI:=λδ n Q=>w δ n λx n1=>match x with
 |.d (.tuple ds)=>Q ds n1
 |_=>False
theorem j10 (ha:DE X a ta wa):DI X tg a (jx6 X.K ta) (jb5 wa):=⟨jxh ha.pe,λC H B σ δ n Q Q' R q k=>ha.sd C H B σ δ n _ _ R q λv x H1 n1 R1 k1 r1 q1=>by
 split at q1
 ·rename_i ds;cases(show RdX H1 B v (.list ds)from r1)with
  |@lst ay ys _ e1 e2 e3 e4 =>
   refine⟨ay,rfl,⟨ys,SqL.of e1⟩,k _ ds H1 n1 R1 k1 (λfz th=>?_) q1⟩;have hfz:fz ay=some (.lst ys):=th.2 _ _ e1 e2;refine⟨by rw[<-e4.len];exact e3,λi H hH hi=>?_,λH hH=>?_,λi H x H' d hH hd hy=>?_⟩
   ·rw[<-e4.len]at hi;exact⟨ys,ys[i],SqL.of (hH _ _ hfz),Af hi⟩
   ·exact⟨ys,SqL.of (hH _ _ hfz),by rw[e4.len];exact Al _⟩
   ·obtain⟨rfl,hy⟩:=hy;refine⟨λ_ _ z=>z,λB' hB hBa=>?_⟩;obtain⟨u,hu,ru⟩:=e4.getD hd;have:=hy _ (SqL.of (hH _ _ hfz));rw[hu]at this;cases this;exact ru.move λb o e ne=>⟨hH _ _ (th.2 _ _ e ne),hB _ _ (th.2 _ _ e ne)⟩
 ·exact q1.elim⟩
theorem j4a (ha:DE X a ta wa):DI X tg a (iTup X.K ta) (jcl wa):=⟨j0m ha.pe,λC H B σ δ n Q Q' R q k=>ha.sd C H B σ δ n _ _ R q λv x H1 n1 R1 k1 r1 q1=>by
 split at q1
 ·rename_i ds;cases(show RdX H1 B v (.tuple ds)from r1)with
  |@tup ay ys _ e1 e2 e3 e4 =>
   refine⟨ay,rfl,⟨ys,SqT.of e1⟩,k _ ds H1 n1 R1 k1 (λfz th=>?_) q1⟩;have hfz:fz ay=some (.tup ys):=th.2 _ _ e1 e2;refine⟨by rw[<-e4.len];exact e3,λi H hH hi=>?_,λH hH=>?_,λi H x H' d hH hd hy=>?_⟩
   ·rw[<-e4.len]at hi;exact⟨ys,ys[i],SqT.of (hH _ _ hfz),Af hi⟩
   ·exact⟨ys,SqT.of (hH _ _ hfz),by rw[e4.len];exact Al _⟩
   ·obtain⟨rfl,hy⟩:=hy;refine⟨λ_ _ z=>z,λB' hB hBa=>?_⟩;obtain⟨u,hu,ru⟩:=e4.getD hd;have:=hy _ (SqT.of (hH _ _ hfz));rw[hu]at this;cases this;exact ru.move λb o e ne=>⟨hH _ _ (th.2 _ _ e ne),hB _ _ (th.2 _ _ e ne)⟩
 ·exact q1.elim⟩
def rngD (lo:Int) (n:Nat):List Aa:=(A1 n).map λi=>.int (lo+(i:Nat))
def jak (w:DT):DTI:=λδ n Q=>w δ n λx n1=>match x with
 |.d (.int j)=>(-(2 ^ 62)<=j/\j<=1000000)/\Q (rngD 0 j.toNat) n1
 |_=>False
theorem jua (fz:Hp) (lo:Int) (n:Nat) (hn:n<=1000000):ItOk fz (Itr lo n) (rngD lo n):=by
 have hl:(rngD lo n).length=n:=by unfold rngD;simp
 refine⟨?_,λi H hH hi=>?_,λH hH=>?_,λi H y H' d hH hd hy=>?_⟩
 ·rw[hl];exact A4 hn (by decide)
 ·rw[hl]at hi;exact hi
 ·show n<=(rngD lo n).length;rw[hl];exact Al _
 ·obtain⟨rfl,rfl⟩:=hy;refine⟨λ_ _ z=>z,λB' hB hBa=>?_⟩;unfold rngD at hd;rw[A0]at hd;cases e:(A1 n)[i]? with
  |none=>rw[e]at hd;cases hd
  |some j =>
   rw[e]at hd;have:j=i:=by
    obtain⟨h1,h2⟩:=Aq.mp e;rw[List.getElem_range]at h2;exact h2.symm
   subst this;cases hd;exact .int _
theorem jue {p:Pos} (hg:Gl X "range") (hm:X.mg "range"=none) (ha:DE X a ta wa) (hs:Au [a] X.env=[(false,eval a X.env)]:=by rfl):DI X tg (.Call (.Name "range" p) [a] [] pos) (j11 (jbu ta tNil)) (jak wa):=⟨jqz hg hm (jaq ha.pe jbc hs) hs,λC H B σ δ n Q Q' R q k=>ha.sd C H B σ δ n _ _ R q λv x H1 n1 R1 k1 r1 q1=>by
 split at q1
 ·rename_i j;cases(show RdX H1 B v (.int j)from r1);refine⟨j,rfl,q1.1.1,by have:=q1.1.2;have:(2:Int)^62=4611686018427387904:=(by decide);omega,k _ (rngD 0 j.toNat) H1 n1 R1 k1 (λfz _=>jua fz 0 j.toNat (by have:=q1.1.2;omega)) q1.2⟩
 ·exact q1.elim⟩
end
abbrev DTG:=Aa->Sl->(Sl->Prop)->Prop
def SndG (g:TG) (v:DTG):Prop:=∀(C:Ctx) (H:Hp) (B:Addr->Prop) (σ:St) (δ:Sl) (n:Int) (x:V) (d:Aa) (Q:Sl->Prop) (Q':St->Hp->Prop),Rel C H B σ δ n->RdX H B x d->v d δ Q ->
 (∀σ' δ',Rel C H B σ' δ' n->Q δ'->Q' σ' H)->g x σ H Q'
structure DG (X:Cx) (tg:Expr) (g:TG) (v:DTG):Prop where
 pg:PG X tg g
 sd:SndG g v
section
variable {X:Cx} {pos:Pos}
def jac (i:Nat):DTG:=λd δ Q=>Q (δ.set i (some (.w (.d d))))
theorem j17 {i:Nat} {x:Str} (hN:X.N.Nodup) (hi:X.N[i]?=some x) (hx:Loc X.env.scope x) (hf:X.fn x=true\/X.env.scope.names.lookup x=some .local:=by first | exact .inl rfl | exact .inr rfl | assumption):DG X (.Name x pos) (jem i) (jac i) :=
 ⟨jxj hN hi hx hf,λC H B σ δ n x d Q Q' R r q k=>k _ _ (R.set (x:=.d d) r rfl) q⟩
end
def forD (g:DTG) (W:DST) (K:DEnds):List Aa->Sl->Int->Prop
 |[],δ,n=>K.nx δ n
 |d::r,δ,n=>g d δ λδ'=>W δ' n {K with nx:=forD g W K r,ct:=forD g W K r,bk:=K.nx}
def sFor (v:DTI) (g:DTG) (W:DST):DST:=λδ n K=>v δ n λds n1=>forD g W K ds δ n1
def fzOf (H:Hp) (B:Addr->Prop):Hp:=λb=>open Classical in if B b then none else H b
theorem jfv (H:Hp) (B:Addr->Prop):thaw H B (fzOf H B):=by
 refine⟨λb o e=>?_,λb o e n=>?_⟩
 ·unfold fzOf at e
  split at e
  ·cases e
  ·rename_i h;exact⟨e,h⟩
 ·unfold fzOf;rw[if_neg n];exact e
theorem Rel.refz {C:Ctx} {H:Hp} {B:Addr->Prop} {σ:St} {δ:Sl} {n:Int} (R:Rel C H B σ δ n):Rel {C with fz:=fzOf H B} H B σ δ n :=
 ⟨R.tp,R.kp,R.t0,R.l0,R.g0,(jfv H B).1,R.bt,R.b0,R.ba,R.a0,R.sl,R.ow,R.len⟩
theorem Rel.unfz {C:Ctx} {fz:Hp} {H:Hp} {B:Addr->Prop} {σ:St} {δ:Sl} {n:Int} (R:Rel {C with fz:=fz} H B σ δ n) (h:∀b o,C.fz b=some o->fz b=some o):Rel C H B σ δ n :=
 ⟨R.tp,R.kp,R.t0,R.l0,R.g0,λb o e=>R.fz b o (h b o e),R.bt,R.b0,R.ba,R.a0,R.sl,R.ow,R.len⟩
theorem Rel.same {C:Ctx} {H H':Hp} {B:Addr->Prop} {σ:St} {δ:Sl} {n:Int} (R:Rel C H B σ δ n) (k:Same H H'):Rel C H' B σ δ n:=by
 obtain⟨a,b,e,h⟩:=R.tp.ob;exact R.step ⟨⟨a,b,k _ _ e,h⟩,k _ _ R.tp.ls,R.tp.len,λz=>k _ _ (R.tp.ag z),R.tp.gne⟩ λb o e _=>k b o e
section
variable {X:Cx} {tg iter:Expr} {body:List Stmt} {wi:TI} {v:DTI} {g:TG} {gd:DTG} {T:TS} {W:DST} {pos:Pos}
theorem j3p (hi:DI X tg iter wi v) (hg:DG X tg g gd) (hb:DSs X body T W) (hp:PassesOwn (Bc X.prog X.w) X.A X.env X.xe:=by exact PassesOwn.never) (hc:X.calm=true:=by rfl)
  (hs:∀x,Dt iter X.env x=pure x:=by intro _;rfl):DS X (.For tg iter body [] pos) (tFor wi g T) (sFor v gd W):=⟨j0k hp hc hi.pi hg.pg hb.ps hs,λC H B σ δ n K D R q E =>
 hi.sd C H B σ δ n _ _ R q λJ ds H1 n1 R1 k1 hJ q1=>by
  have ok:=hJ (fzOf H1 B) (jfv H1 B);have R1':=R1.refz;have back:∀{H B' σ δ n},Rel {C with fz:=fzOf H1 B} H B' σ δ n->Rel C H B' σ δ n:=λR=>R.unfz λb o e=>(jfv H1 B).2 b o (R1.fz b o e).1 (R1.fz b o e).2;refine⟨λi m σ H=>m=ds.length - i/\i<=ds.length/\∃B' δ n,Rel {C with fz:=fzOf H1 B} H B' σ δ n/\forD gd W K (ds.drop i) δ n,⟨ds.length,by simp,Bn _,B,δ,n1,R1',by simpa using q1⟩,?_⟩
  rintro i m σ2 H2 ⟨rfl,hi,B2,δ2,n2,R2,q2⟩
  have hfz:∀b o,fzOf H1 B b=some o->H2 b=some o:=λb o e=>(R2.fz b o e).1;by_cases hlt:i < ds.length
  ·rw[Eo hlt]at q2;refine .inr ⟨ok.go i H2 hfz hlt,λσ3 H3=>∃B' δ n,Rel {C with fz:=fzOf H1 B} H3 B' σ3 δ n/\forD gd W K (ds.drop (i+1)) δ n,λσ' H' z=>⟨ds.length - (i+1),by omega,rfl,hlt,z⟩,λx H' hy=>?_⟩;obtain⟨sm,rd⟩:=ok.yld i H2 x H' ds[i] hfz (Af hlt) hy;have R3:=R2.same sm;refine hg.sd _ H' B2 σ2 δ2 n2 x ds[i] _ _ R3 (rd B2 (λb o e=>(R2.fz b o e).2) R2.ba) q2 λσ' δ' R4 q4=>?_;refine hb.sd _ H' B2 σ' δ' n2 _ _ R4 q4 ⟨?_,?_,?_,?_,λH B σ δ n a xs ds R h0 h1 h2 h3 q=>E.rn H B σ δ n a xs ds (back R) h0 h1 h2 h3 q⟩
   ·exact λH B σ δ n R q=>⟨B,δ,n,R,q⟩
   ·exact λH B σ δ n v w R r q=>E.rt H B σ δ n v w (back R) r q
   ·exact λH B σ δ n R q=>E.nx H B σ δ n (back R) q
   ·exact λH B σ δ n R q=>⟨B,δ,n,R,q⟩
  ·have e:i=ds.length:=by omega
   subst e;rw[List.drop_length]at q2;exact .inl ⟨ok.stop H2 hfz,E.nx H2 B2 σ2 δ2 n2 (back R2) q2⟩⟩
end
def jfj (fr:List (Option Nat)) (δ:Sl):Sl:=fr.map λo=>o.bind λi=>match δ[i]? with
 |some (some (.w x))=>some (.w x)
 |some (some (.odk kvs))=>some (.w (.dk kvs))
 |some (some (.own ds))=>some (.w (.ln ds))
 |_=>none
def jbf (g:DTG) (c:DTT) (w:DT) (Q:List Aa->Int->Prop):List Aa->List Aa->Sl->Int->Prop
 |[],acc,_,n=>Q acc n
 |d::r,acc,δ,n=>g d δ λδ'=>c δ' n λb n1=>if b=true then w δ' n1 λx n2=>match x with
   |.d y=>jbf g c w Q r (acc++[y]) δ' n2
   |_=>False
  else jbf g c w Q r acc δ' n1
def ja0 (fr:List (Option Nat)) (v:DTI) (g:DTG) (c:DTT) (w:DT):DTF:=λδ n Q=>v δ n λds n1=>jbf g c w Q ds [] (jfj fr δ) n1
structure DIf (X:Cx) (ifs:List Expr) (t:TT) (c:DTT):Prop where
 pf:PIf X ifs t
 sd:SndT t c
def cYes:DTT:=λ_ n Q=>Q true n
theorem j1x {X:Cx}:DIf X [] jza cYes:=⟨jxg,λC H B σ δ n Q Q' R q k=>k true H n R (Kp.refl _ _) q⟩
theorem j1w {X:Cx} {c:Expr} {t:TT} {cc:DTT} (h:DC X c t cc):DIf X [c] t cc:=⟨jxf h.pt,h.sd⟩
theorem juw (fr:List (Option Nat)) (σ:St):(capt fr σ).length=fr.length:=by unfold capt;rw[Ab]
theorem jsm (fr:List (Option Nat)) (δ:Sl):(jfj fr δ).length=fr.length:=by unfold jfj;rw[Ab]
theorem jgn {fr:List (Option Nat)} {δ:Sl} {j:Nat} {x:SV} (h:(jfj fr δ)[j]?=some (some x)):∃i y,fr[j]?=some (some i)/\δ[i]?=some (some y)/\((∃z,x=.w z/\y=.w z)\/(∃kvs,x=.w (.dk kvs)/\y=.odk kvs)\/∃ds,x=.w (.ln ds)/\y=.own ds):=by
 unfold jfj at h;rw[A0]at h;cases e:fr[j]? with
 |none=>rw[e]at h;cases h
 |some o =>
  rw[e]at h;cases o with
  |none=>cases h
  |some i =>
   have h':=A6 h;dsimp only[Option.bind]at h'
   split at h'
   ·rename_i z ez;cases h';exact⟨i,_,rfl,ez,.inl ⟨z,rfl,rfl⟩⟩
   ·rename_i kvs ez;cases h';exact⟨i,_,rfl,ez,.inr (.inl ⟨kvs,rfl,rfl⟩)⟩
   ·rename_i ds ez;cases h';exact⟨i,_,rfl,ez,.inr (.inr ⟨ds,rfl,rfl⟩)⟩
   ·cases h'
theorem jyr {fr:List (Option Nat)} {σ:St} {j i:Nat} {v:V} (h:fr[j]?=some (some i)) (h2:σ[i]?=some (some v)):(capt fr σ)[j]?=some (some v):=by
 unfold capt;rw[A0,h];show some ((σ[i]?).bind id)=_;rw[h2];rfl
theorem jtl {C:Ctx} {H:Hp} {B:Addr->Prop} {σ:St} {δ:Sl} {n:Int} {L:Addr} {fr:List (Option Nat)} (R:Rel C H B σ δ n) (hL:H L=none) :
  Rel ⟨C.t,C.l,C.ns,H,B,fzOf H B⟩ (upd H L (.lst [])) (λb=>B b\/b=L) (capt fr σ) (jfj fr δ) n where
 tp:=R.tp.new hL
 kp:=Kp.new hL
 t0:=R.ba _ R.bt
 l0:=by
  show H C.l.s≠none;rw[R.tp.ls];exact λz=>nomatch z
 g0:=λe=>by
  show H C.l.g≠none;rw[R.tp.ag e];exact λz=>nomatch z
 fz:=λb o e=>by
  obtain⟨e1,e2⟩:=(jfv H B).1 b o e;exact⟨by rw[jag (jad e1 hL)];exact e1,λz=>z.elim e2 λq=>jad e1 hL q⟩
 bt:=.inl R.bt
 b0:=λb z=>.inl z
 ba:=λb z e=>by
  by_cases q:b=L
  ·rw[q,jah]at e;cases e
  ·rw[jag q]at e;exact R.ba b (z.resolve_right q) e
 a0:=R.ba
 sl:=λj x e=>by
  have mv:∀b o',H b=some o'->¬B b->upd H L (.lst []) b=some o'/\¬(B b\/b=L):=λb o' e n=>⟨by rw[jag (jad e hL)];exact e,λz=>z.elim n λq=>jad e hL q⟩;obtain⟨i,y,e1,e2,hy⟩:=jgn e;obtain⟨v,f1,f2⟩:=R.sl i y e2;refine⟨v,jyr e1 f1,?_⟩;rcases hy with⟨z,rfl,rfl⟩ | ⟨kvs,rfl,rfl⟩ | ⟨ds,rfl,rfl⟩
  ·cases z with
   |d d=>exact⟨f2.1.move mv,λz=>by cases z⟩
   |tp=>exact⟨f2.1,λz=>by cases z⟩
   |ln ds =>
    obtain⟨a,l,g1,g2,g3,g4,g5⟩:=f2.1;exact⟨⟨a,l,g1,by rw[jag (jad g2 hL)];exact g2,g3,g4,g5.move mv⟩,λ_=>⟨a,g1,by show H a≠none;rw[g2];exact λz=>nomatch z⟩⟩
   |dk kvs =>
    obtain⟨a,l,g1,g2,g3,g4⟩:=f2.1;exact⟨⟨a,l,g1,by rw[jag (jad g2 hL)];exact g2,g3,g4.move mv⟩,λ_=>⟨a,g1,by show H a≠none;rw[g2];exact λz=>nomatch z⟩⟩
   |ob o =>
    refine⟨?_,λz=>by cases z⟩;exact ORel.move mv f2.1
  ·obtain⟨a,l,g1,g2,g3,g4,g5,g6⟩:=f2;exact⟨⟨a,l,g1,by rw[jag (jad g2 hL)];exact g2,λz=>R.t0 (z▸g4),g6.move mv⟩,λ_=>⟨a,g1,by show H a≠none;rw[g2];exact λz=>nomatch z⟩⟩
  ·obtain⟨a,l,g1,g2,g3,g4,g5,g6⟩:=f2;exact⟨⟨a,l,g1,by rw[jag (jad g2 hL)];exact g2,λz=>R.t0 (z▸g4),g5,g6.move mv⟩,λ_=>⟨a,g1,by show H a≠none;rw[g2];exact λz=>nomatch z⟩⟩
 ow:=λi j x y v e1 e2 o1 o2 _ _=>by
  obtain⟨_,_,_,_,hy⟩:=jgn e1;rcases hy with⟨z,rfl,_⟩ | ⟨kvs,rfl,_⟩ | ⟨ds,rfl,_⟩
  ·cases o1
  ·cases o1
  ·cases o1
 len:=by rw[juw,jsm]
section
variable {X:Cx} {elt tg iter:Expr} {ifs:List Expr} {scope:D9} {cl:List (Str×Addr)} {pos:Pos} {N:List Str} {fr:List (Option Nat)} {wi:TI} {v:DTI} {g:TG} {gd:DTG} {tt:TT} {cc:DTT} {te:TE} {we:DT}
def jfb (δ:Sl):Prop:=∀(i:Nat) (x:SV),δ[i]?=some (some x)->x.isOwn=false
theorem juy (fr:List (Option Nat)) (δ:Sl):jfb (jfj fr δ):=λi x e=>by
 obtain⟨_,_,_,_,hy⟩:=jgn e;rcases hy with⟨z,rfl,_⟩ | ⟨kvs,rfl,_⟩ | ⟨ds,rfl,_⟩<;>rfl
def jg6 (v:DTG):Prop:=∀d δ Q,jfb δ->v d δ Q->v d δ λδ'=>jfb δ'/\Q δ'
theorem jl6 (i:Nat):jg6 (jac i):=λd δ Q h q=>⟨λj x e=>by
 rcases jao e with⟨_,rfl⟩ | ⟨_,e'⟩
 ·rfl
 ·exact h j x e',q⟩
theorem jr5 (hc:X.calm=true) (S:CompSc X N scope cl fr) (hi:DI X tg iter wi v) (hg:∀s H fp,DG (jay X N scope cl s H fp) tg g gd) (ht:∀s H fp,DIf (jay X N scope cl s H fp) ifs tt cc)
  (he:∀s H fp,DE (jay X N scope cl s H fp) elt te we) (hno:jg6 gd) (hs:∀x,Dt iter X.env x=pure x:=by intro _;rfl) :
  DF X (.ListComp elt [⟨tg,iter,ifs,0⟩] scope pos) (jp2 fr wi g tt te) (ja0 fr v gd cc we):=by
 refine⟨jxl hc S hi.pi (λs H fp=>(hg s H fp).pg) (λs H fp=>(ht s H fp).pf) (λs H fp=>(he s H fp).pe) hs,λC H B σ δ n Q Q' R q k=>hi.sd C H B σ δ n _ _ R q λJ ds H1 n1 R1 k1 hJ q1=>λL hL=>?_⟩;have sg:=(hg X.s₀ X.H₀ []).sd;have st:=(ht X.s₀ X.H₀ []).sd;have se:=(he X.s₀ X.H₀ []).sd;have ok:=hJ (fzOf H1 B) (jfv H1 B);have hLt:L≠C.t:=λz=>R1.ba _ R1.bt (z▸hL);refine⟨λi m ys τ H=>m=ds.length - i/\i<=ds.length/\ys.length<=i/\∃δ' n' acc,Rel ⟨C.t,C.l,C.ns,H1,B,fzOf H1 B⟩ H (λb=>B b\/b=L) τ δ' n'/\jfb δ'/\H L=some (.lst ys)/\RdXs H (λb=>B b\/b=L) ys acc/\jbf gd cc we Q (ds.drop i) acc δ' n',
  ⟨ds.length,by simp,Bn _,Bn _,jfj fr δ,n1,[],jtl R1 hL,juy fr δ,jah,.nil,by simpa using q1⟩,?_⟩
 rintro i m ys τ H2 ⟨rfl,hi,hys,δ2,n2,acc,R2,no2,hL2,rd2,q2⟩
 have hfz:∀b o,fzOf H1 B b=some o->H2 b=some o:=λb o e=>(R2.fz b o e).1;by_cases hlt:i < ds.length
 ·rw[Eo hlt]at q2;refine .inr ⟨ok.go i H2 hfz hlt,Bj (Nat.lt_of_le_of_lt hys hlt) ok.le,λx H' hy=>?_⟩;obtain⟨sm,rd⟩:=ok.yld i H2 x H' ds[i] hfz (Af hlt) hy;have R3:=R2.same sm;refine sg _ H' _ τ δ2 n2 x ds[i] _ _ R3 (rd _ (λb o e=>(R2.fz b o e).2) R2.ba) (hno _ _ _ no2 q2) λτ3 δ3 R4 ⟨no3,q4⟩=>?_;refine st _ H' _ τ3 δ3 n2 _ _ R4 q4 λb H4 n4 R5 k5 q5=>?_;have hL4:H4 L=some (.lst ys):=k5 _ _ (sm _ _ hL2) hLt;have rd4:RdXs H4 (λb=>B b\/b=L) ys acc:=(rd2.keep λb o e _=>sm b o e).kp k5 R4.bt;cases b with
  |false =>
   rw[if_neg Ae]at q5 ⊢;exact⟨ds.length - (i+1),by omega,rfl,hlt,by omega,δ3,n4,acc,R5,no3,hL4,rd4,q5⟩
  |true =>
   rw[if_pos rfl]at q5 ⊢;refine se _ H4 _ τ3 δ3 n4 _ _ R5 q5 λu y H5 n5 R6 k6 r6 q6=>?_;cases y with
   |d y =>
    have hL5:H5 L=some (.lst ys):=k6 _ _ hL4 hLt;refine⟨hL5,ds.length - (i+1),by omega,rfl,hlt,by rw[Ak,As];omega,δ3,n5,acc++[y],R6.mut (.inr rfl) hL λj z e o=>absurd (no3 j z e) (by rw[o];exact λq=>nomatch q),no3,jah,?_,q6⟩;refine RdXs.keep (λb o e n=>?_) ((rd4.kp k6 R5.bt).append (.cons r6 .nil));rw[jag λ(z:b=L)=>n (.inr z)];exact e
   |tp=>exact q6.elim
   |dk _=>exact q6.elim
   |ln _=>exact q6.elim
   |ob _=>exact q6.elim
 ·have e:i=ds.length:=by omega
  subst e;rw[List.drop_length]at q2;refine .inl ⟨ok.stop H2 hfz,k L ys acc H2 n2 (R1.step R2.tp R2.kp) (k1.trans R2.kp) (R1.was k1 hL) hL2 (A4 hys ok.le) rd2 q2⟩
end
abbrev DTGs:=List Aa->Sl->(Sl->Prop)->Prop
def j5k (g:TGs) (v:DTGs):Prop:=∀(C:Ctx) (H:Hp) (B:Addr->Prop) (σ:St) (δ:Sl) (n:Int) (xs:List V) (ds:List Aa) (Q:Sl->Prop) (Q':St->Hp->Prop),Rel C H B σ δ n->RdXs H B xs ds->v ds δ Q ->
 (∀σ' δ',Rel C H B σ' δ' n->Q δ'->Q' σ' H)->g xs σ H Q'
structure DGs (X:Cx) (ts:List Expr) (g:TGs) (v:DTGs):Prop where
 pg:PGs X ts g
 sd:j5k g v
def ja3:DTGs:=λds δ Q=>match ds with
 |[]=>Q δ
 |_=>False
def jaj (v:DTG) (r:DTGs):DTGs:=λds δ Q=>match ds with
 |d::ds=>v d δ λδ'=>r ds δ' Q
 |[]=>False
def jbj (n:Nat) (r:DTGs):DTG:=λd δ Q=>match d with
 |.tuple ds=>ds.length=n/\r ds δ Q
 |_=>False
theorem jmp:∀ds δ Q,jfb δ->ja3 ds δ Q->ja3 ds δ λδ'=>jfb δ'/\Q δ':=λds δ Q h q=>by
 cases ds with
 |nil=>exact⟨h,q⟩
 |cons _ _=>exact q
theorem je8 {v:DTG} {r:DTGs} (mono:∀d δ (Q Q':Sl->Prop),(∀δ',Q δ'->Q' δ')->v d δ Q->v d δ Q') (hv:jg6 v) (hr:∀ds δ Q,jfb δ->r ds δ Q->r ds δ λδ'=>jfb δ'/\Q δ'):∀ds δ Q,jfb δ->jaj v r ds δ Q->jaj v r ds δ λδ'=>jfb δ'/\Q δ':=λds δ Q h q=>by
 cases ds with
 |nil=>exact q
 |cons d ds=>exact mono d δ _ _ (λδ' z=>hr ds δ' Q z.1 z.2) (hv d δ _ h q)
theorem j08 {n:Nat} {r:DTGs} (hr:∀ds δ Q,jfb δ->r ds δ Q->r ds δ λδ'=>jfb δ'/\Q δ'):jg6 (jbj n r):=λd δ Q h q=>by
 unfold jbj at q ⊢
 split at q
 ·exact⟨q.1,hr _ _ _ h q.2⟩
 ·exact q.elim
theorem jxv (i j n:Nat):jg6 (jbj n (jaj (jac i) (jaj (jac j) ja3))) :=
 j08 (je8 (λ_ _ _ _ h q=>h _ q) (jl6 i) (je8 (λ_ _ _ _ h q=>h _ q) (jl6 j) jmp))
section
variable {X:Cx} {pos:Pos}
theorem j15:DGs X [] gNil ja3:=⟨jxi,λC H B σ δ n xs ds Q Q' R r q k=>by
 cases r with
 |nil=>exact⟨rfl,k σ δ R q⟩
 |cons _ _=>exact q.elim⟩
end
section
variable {X:Cx} {pos:Pos}
theorem jx7 {e:Expr} {es:List Expr} {t:TG} {u:TGs} {v:DTG} {r:DTGs} (h1:DG X e t v) (h2:DGs X es u r)
  (hs:(Dh (e::es) X.env).map (·.2)=assign e X.env::(Dh es X.env).map (·.2):=by rfl):DGs X (e::es) (j19 t u) (jaj v r):=⟨jtr h1.pg h2.pg hs,λC H B σ δ n xs ds Q Q' R rr q k=>by
 cases rr with
 |nil=>exact q.elim
 |cons r1 r2=>exact⟨_,_,rfl,h1.sd C H B σ δ n _ _ _ _ R r1 q λσ' δ' R' q'=>h2.sd C H B σ' δ' n _ _ _ _ R' r2 q' k⟩⟩
theorem j4e {es:List Expr} {k:Nat} {t:TGs} {n:Nat} {r:DTGs} (h:DGs X es t r) (hc:X.calm=true:=by rfl)
  (hn:(Dh es X.env).length=n:=by rfl) (hst:(Dh es X.env).findIdx? (·.1)=none:=by rfl):DG X (.Tuple es k pos) (gTup X.K n t) (jbj n r):=⟨j0n hc h.pg hn hst,λC H B σ δ n' x d Q Q' R rr q k=>by
 unfold jbj at q
 split at q
 ·rename_i ds;cases rr with
  |@tup ay ys _ e1 e2 e3 e4=>exact⟨ay,ys,rfl,SqT.of e1,by rw[e4.len];exact q.1,h.sd C H B σ δ n' _ _ _ _ R e4 q.2 k⟩
 ·exact q.elim⟩
def jww:List Aa->Option (List Str)
 |[]=>some []
 |.str b::r=>(jww r).map (b::·)
 |_::_=>none
def j5m (w w':DT):DT:=λδ n Q=>w δ n λx n1=>match x with
 |.d (.str z)=>w' δ n1 λy n2=>match y with
  |.d (.list ds)=>match jww ds with
   |some ys=>(ys.map (·.length)).sum+ys.length*z.length<=16777216/\Q (.d (.str (Txt.join z ys))) n2
   |none=>False
  |.d (.tuple ds)=>match jww ds with
   |some ys=>(ys.map (·.length)).sum+ys.length*z.length<=16777216/\Q (.d (.str (Txt.join z ys))) n2
   |none=>False
  |_=>False
 |_=>False
def sPut (i:Nat) (wj w:DT):DST:=λδ n K=>match δ[i]? with
 |some (some (.own ds))=>w δ n λx n1=>wj δ n1 λj n2=>match x,j with
  |.d d,.d (.int k)=>match ixN ds.length k with
   |some m=>K.nx (δ.set i (some (.own (ds.set m d)))) n2
   |none=>False
  |_,_=>False
 |_=>False
theorem j3k {i:Nat} {x:Str} {xp sp:Pos} {j e:Expr} {tj te:TE} {wj we:DT} (hN:X.N[i]?=some x) (hj:DE X j tj wj) (he:DE X e te we) (hv:Vis X.env.scope x:=by first | exact Da rfl | exact Cc (Da rfl) | exact Cc (Cc rfl)) (hd:(x==("__debug__":Str))=false:=by decide)
  (hcd:(x==("__classdict__":Str))=false:=by decide)
  (ha:∀v,assign (.Subscript (.Name x xp) j sp) X.env v=(do
   let ov <-holding [v] (eval (.Name x xp) X.env)
   let iv <-holding [v,ov] (eval j X.env)
   standAt sp
   holding [v,ov,iv] (setItem ov iv v)
   release [v,ov,iv] []):=by intro _;rfl)
  (hs:swapsWithSole [.Subscript (.Name x xp) j sp] e pos.line X.env=pure false:=by rfl) (hw:swappedStores [.Subscript (.Name x xp) j sp] e X.env=pure none:=by rfl)
  (h1:(Dh [.Subscript (.Name x xp) j sp] X.env).map (·.2)=[assign (.Subscript (.Name x xp) j sp) X.env]:=by rfl) :
  DS X (.Assign [.Subscript (.Name x xp) j sp] e pos) (tAsg te (gSub (tVar i) tj j0c)) (sPut i wj we) :=
 ⟨jkb he.pe (jnf (jdw hN hv hd hcd) hj.pe jfm ha) hs hw h1,λC H B σ δ n K D R q E=>by
  unfold sPut at q
  split at q
  ·rename_i ds ei;refine he.sd C H B σ δ n _ _ R q λu y H1 n1 R1 k1 r1 q1=>?_;obtain⟨v,hv,a,xs,rfl,e2,e3,e4,e5,e6⟩:=R1.sl i _ ei;refine⟨_,hv,hj.sd C H1 B σ δ n1 _ _ R1 q1 λw z H2 n2 R2 k2 r2 q2=>?_⟩
   split at q2
   ·rename_i d k
    split at q2
    ·rename_i m em;cases(show RdX H2 B w (.int k)from r2);have hat:a≠C.t:=λz=>R.t0 (z▸e4);have e2':=k2 _ _ e2 hat;have r1':RdX H2 B u d:=r1.kp k2 R1.bt;refine⟨a,xs,k,m,rfl,rfl,e2',by rw[e6.len];exact em,?_⟩;refine E.nx _ _ _ _ _ (R2.mutOwn ei rfl hv e3 e4 ?_ rfl) q2;refine⟨a,xs.set m u,rfl,jah,e3,e4,by rw[Ci];exact e5,?_⟩;refine RdXs.keep (λb o e n=>?_) (RdXs.set m (e6.kp k2 R1.bt) r1');rw[jag λ(z:b=a)=>n (z▸e3)];exact e
    ·exact q2.elim
   ·exact q2.elim
  ·exact q.elim⟩
end
structure Has (P:Bg) (w:Bw) (K:Ah) (mg:Str->Option Ai) (base:Heap) (k:Nat) (x:Str) (ps:List Str) (S:DSp):Prop where
 ex:∃(f:Addr) (fd:Ce),FnOk P w K mg base CX0 k f fd ps (spOf S)/\Binds K fd ps []/\mg x=some (.ref f)/\Cf K (.ref f)=true
section
variable {P:Bg} {w:Bw} {K:Ah} {mg:Str->Option Ai} {base:Heap}
theorem Has.mk' {k:Nat} {x qual:Str} {st:Stmt} {ps:List Str} {S:DSp} {f:Addr} {fd:Ce} (F:Fun K x qual st f fd) (m:mg x=some (.ref f)) (b:Binds K fd ps []) (h:FnOk P w K mg base CX0 k f fd ps (spOf S)):Has P w K mg base k x ps S:=⟨f,fd,h,b,m,F.kp⟩
end
theorem jyn {X:Cx} {e:Expr} {es:List Expr} {pos p:Pos} {tR:TA} {wR:DTA} {k:Nat} {ps:List Str} {S:DSp} {x:Str} (h:Has X.prog X.w X.K X.mg X.base k x ps S) (hr:Room k X.A) (hg:Gl X x)
  (ha:DA X (e::es) tR wR) (hdb:(x==("__debug__":Str))=false:=by decide) (he:Au (e::es) X.env=(false,eval e X.env)::Au es X.env:=by rfl) (hpl:(C8 pos (Au es X.env)).any (·.1)=false:=by rfl) :
  DE X (.Call (.Name x p) (e::es) [] pos) (jhe (spOf S) [] E0 tR) (jai S wR):=by
 obtain⟨f,fd,h1,h2,h3,h4⟩:=h.ex;exact j2p h1 hr hg h3 h4 h2 ha hdb he hpl
theorem jo2 {cl cells:List (Str×Addr)} (h:∀y∈cl,cells.lookup y.1=some y.2):∀x c,cl.lookup x=some c->cells.lookup x=some c:=λx c e=>h _ (jc3 e)
def jas:DSp:=λws n Q=>match ws with
 |[.tp,.d (.int many)]=>(n < 2 ^ 40/\0 < many/\many < 1073741824)/\∀r:Int,0<=r->r < many->Q (.d (.int r)) (n+1)
 |_=>False
section
variable {P:Bg} {w:Bw} {K:Ah} {mg:Str->Option Ai} {base:Heap}
theorem juo {k:Nat} {f:Addr} {fd:Ce} {ps:List Str} (h:FnOk P w K mg base CX0 k f fd ps jvi):FnOk P w K mg base CX0 k f fd ps (spOf jas):=h.imp λvs H Q E hs=>by
 obtain⟨t,l,ns,B,ws,n,Q0,T,bt,ba,r,q,kk⟩:=hs;unfold jas at q
 split at q
 ·rename_i many;cases r with
  |cons r1 r2 =>
   cases r2 with
   |cons r3 r4 =>
    cases r4;cases(show _=V.ref t from r1);cases(show RdX H B _ (.int many)from r3);exact⟨t,l,ns,n,many,rfl,T,q.1.1,q.1.2.1,q.1.2.2,λr H' h0 h1 T' k'=>kk _ _ (q.2 r h0 h1) _ H' T' k' (.int r)⟩
 ·exact q.elim
def spLaw (K:Ah):Sp:=λvs H Q _=>∃(a:Addr) (ns:List Int),vs=[.ref a]/\SqL K H a (ns.map V.int)/\ns.length<=63/\∀H',Q (.bl true) H'
def jgb:DEnds:={ nx:=λ_ _=>False,rt:=λw _=>w=.d (.bool true)}
theorem jw7 {H:Hp} {t:Addr} {l:TL} {ns:List Int} {a:V} {k:Nat} (T:Tp H t l ns 0):Rel ⟨t,l,ns,H,λb=>b=t,λ_=>none⟩ H (λb=>b=t) (some a::some (.ref t)::A9 k none) (none::some (.w .tp)::A9 k none) 0 where
 tp:=T
 kp:=Kp.refl _ _
 t0:=by
  obtain⟨_,_,h,_⟩:=T.ob;show H t≠none;rw[h];exact λz=>nomatch z
 l0:=by
  show H l.s≠none;rw[T.ls];exact λz=>nomatch z
 g0:=λe=>by
  show H l.g≠none;rw[T.ag e];exact λz=>nomatch z
 fz:=λb o e=>nomatch e
 bt:=rfl
 b0:=λ_ z=>z
 ba:=λb z=>by
  obtain⟨_,_,h,_⟩:=T.ob;rw[z,h];exact λz=>nomatch z
 a0:=λb z=>by
  obtain⟨_,_,h,_⟩:=T.ob;show H b≠none;rw[show b=t from z,h];exact λz=>nomatch z
 sl:=λi x e=>by
  rcases i with _ | _ | i
  ·cases e
  ·cases e;exact⟨_,rfl,rfl,λz=>by cases z⟩
  ·have e':(A9 k (none:Option SV))[i]?=some (some x):=e;rw[Dx]at e'
   split at e'
   ·cases e'
   ·cases e'
 ow:=λi j x y v e1 e2 o1 o2 f1 f2=>by
  rcases i with _ | _ | i
  ·cases e1
  ·cases e1;cases o1
  ·have e':(A9 k (none:Option SV))[i]?=some (some x):=e1;rw[Dx]at e'
   split at e'
   ·cases e'
   ·cases e'
 len:=by simp
theorem j1j {f fT:Addr} {fd fdT:Ce} {st:Stmt} {N:List Str} {k:Nat} {W:DST} (F:Fun K "law" "law" st f fd) (Sc:FnScope N ["_law_script"] (jal st))
  (GT:FnOk P w K mg base CX0 1 fT fdT ["_law_script"] (jj5 K)) (bT:Binds K fdT ["_law_script"] []) (mT:mg "_law_tape"=some (.ref fT)) (kT:Cf K (.ref fT)=true)
  (hN:∀v,start N [v]=some v::none::A9 (N.length - 2) none)
  (hW:W (none::some (.w .tp)::A9 (N.length - 2) none) 0 jgb)
  (hbody:∀(cdv:Ai) (A:Cb) (outer:List Env) (s:Am) (H:Hp) (E:XK),Room k (A.deeper (Dm "law" (jal st) s.heap.objs.size f cdv)) ->
   ∃s0 rest T,jbe st=s0::rest/\PS (cxOf CX0 P w K mg base N "law" (jal st) f cdv A outer s H E).nox s0 (tAsg (jhe (jj5 K) [] E0 (jbu (tVar 0) tNil)) (jem 1))/\DSs (cxOf CX0 P w K mg base N "law" (jal st) f cdv A outer s H E).nox rest T W) :
  FnOk P w K mg base CX0 (k+1) f fd ["_law_script"] (spLaw K):=by
 refine F.ok Sc (λvs H Q E h=>?_) (λcdv A outer s H vs Q E hr h=>?_)
 ·obtain⟨a,ns,rfl,_⟩:=h;rfl
 ·obtain⟨a,ns,rfl,hS,hl,kk⟩:=h;obtain⟨s0,rest,T,e,p0,d⟩:=hbody cdv A outer s H E hr;rw[e];refine⟨_,ja9 p0 d.ps,?_⟩;rw[hN];refine⟨_,rfl,a,ns,rfl,hS,hl,λt l H1 T1 _=>?_⟩;refine d.sd ⟨t,l,ns,H1,λb=>b=t,λ_=>none⟩ H1 (λb=>b=t) _ _ 0 jgb _ (jw7 (a:=.ref a) (k:=N.length - 2) T1) hW ⟨?_,?_,?_,?_,λ_ _ _ _ _ _ _ _ _ _ _ _ _ z=>z.elim⟩
  ·exact λ_ _ _ _ _ _ z=>z.elim
  ·intro H B σ δ n v w R r z;have z:w=.d (.bool true):=z;subst z;cases(show RdX H B v (.bool true)from r);exact kk H
  ·exact λ_ _ _ _ _ _ z=>z.elim
  ·exact λ_ _ _ _ _ _ z=>z.elim
end
section
variable {X:Cx} {elt tg iter:Expr} {ifs:List Expr} {scope:D9} {cl:List (Str×Addr)} {cpos pos pos':Pos} {N:List Str} {fr:List (Option Nat)} {wi:TI} {v:DTI} {g:TG} {gd:DTG} {tt:TT} {cc:DTT} {te:TE} {we:DT} {i:Nat} {x:Str}
theorem jwy {t:TE} {w:DTF} (h:SndF t w):SndS (tAsg t (jem i)) (sOwn i w):=λC H B σ δ n K D R q E =>
 h C H B σ δ n _ _ R q λa xs ds H1 n1 R1 k1 h0 h1 h2 h3 q1=>by
  refine E.nx _ _ _ _ _ (R.own R1 k1 h0 (by rw[h1];exact λz=>nomatch z) rfl ?_) q1;exact⟨a,xs,rfl,h1,.inr rfl,R.h0 h0,h2,h3⟩
theorem jwx {t:TE} {w:DT} (h:Snd t w):SndS (tAsg t (jem i)) (sSet i w):=λC H B σ δ n K D R q E =>
 h C H B σ δ n _ _ R q λv x H1 n1 R1 _ r1 q1=>by
  cases x with
  |d d=>exact E.nx _ _ _ _ _ (R1.set r1 rfl) q1
  |tp=>exact E.nx _ _ _ _ _ (R1.set r1 rfl) q1
  |dk _=>exact q1.elim
  |ln _=>exact q1.elim
  |ob _=>exact E.nx _ _ _ _ _ (R1.set r1 rfl) q1
theorem jz2 (hN:X.N.Nodup) (hix:X.N[i]?=some x) (hx:X.env.scope.names.lookup x=some .local) (hc:X.calm=true) (S:CompSc X N scope cl fr) (hi:DI X tg iter wi v) (hg:∀s H fp,DG (jay X N scope cl s H fp) tg g gd) (ht:∀s H fp,DIf (jay X N scope cl s H fp) ifs tt cc)
  (he:∀s H fp,DE (jay X N scope cl s H fp) elt te we) (hno:jg6 gd) (hs:∀x,Dt iter X.env x=pure x:=by intro _;rfl)
  (hsw:Ex (.ListComp elt [⟨tg,iter,ifs,0⟩] scope cpos) (some (.Name x pos')) pos.line X.env=pure true:=by rfl) :
  DS X (.Assign [.Name x pos'] (.ListComp elt [⟨tg,iter,ifs,0⟩] scope cpos) pos) (tAsg (jp2 fr wi g tt te) (jem i)) (sOwn i (ja0 fr v gd cc we)) :=
 ⟨jh0 hN hix hx hc S hi.pi (λs H fp=>(hg s H fp).pg) (λs H fp=>(ht s H fp).pf) (λs H fp=>(he s H fp).pe) hs hsw,jwy (jr5 (pos:=cpos) hc S hi hg ht he hno hs).sd⟩
theorem jzy (hN:X.N.Nodup) (hix:X.N[i]?=some x) (hx:X.env.scope.names.lookup x=some .local) (hc:X.calm=true) (S:CompSc X N scope cl fr) (hi:DI X tg iter wi v) (hg:∀s H fp,DG (jay X N scope cl s H fp) tg g gd) (ht:∀s H fp,DIf (jay X N scope cl s H fp) ifs tt cc)
  (he:∀s H fp,DE (jay X N scope cl s H fp) elt te we) (hno:jg6 gd) (hs:∀x,Dt iter X.env x=pure x:=by intro _;rfl)
  (hsw:Ex (.ListComp elt [⟨tg,iter,ifs,0⟩] scope cpos) (some (.Name x pos')) pos.line X.env=pure true:=by rfl) :
  DS X (.Assign [.Name x pos'] (.ListComp elt [⟨tg,iter,ifs,0⟩] scope cpos) pos) (tAsg (jp2 fr wi g tt te) (jem i)) (sSet i (wOf (ja0 fr v gd cc we))) :=
 ⟨jh0 hN hix hx hc S hi.pi (λs H fp=>(hg s H fp).pg) (λs H fp=>(ht s H fp).pf) (λs H fp=>(he s H fp).pe) hs hsw,jwx (jr5 (pos:=cpos) hc S hi hg ht he hno hs).d.sd⟩
end
section
variable {X:Cx} {tg a b c e:Expr} {ta tb tc te:TE} {wa wb wc we:DT} {pos p:Pos} {K:Ah}
theorem j2q (ha:DE X a ta wa) (hb:DE X b tb wb) (hK:X.K=K:=by rfl):DE X (.BinOp a .Add b pos) (tOp (jox K) ta tb) (w2 wa wb gAdd):=by subst hK;exact j45 ha hb
theorem j4z (ha:DE X a ta wa) (hb:DE X b tb wb) (hK:X.K=K:=by rfl) (hs:jg5 b:=by exact λ_ _=>rfl):DE X (.Subscript a b pos) (tOp (rIx K) ta tb) (w2 wa wb gIx):=by subst hK;exact d_ix ha hb hs
def rIsi (K:Ah) (T:String):List V->Hp->VK->Prop:=λxs H Q=>∃x t b,xs=[x,.ty T]/\TyOf K H x t/\PySem.W.kitOne K t (.type T)=some b/\Q (.bl b) H
theorem j2n {T:String} {x:Str} {p p2:Pos} (hT:T="int"\/T="bool"\/T="str"\/T="tuple"\/T="list") (hg:Gl X "isinstance") (hm:X.mg "isinstance"=none) (hg2:Gl X x) (hm2:X.mg x=none) (hv:Bv x=some (.type T)) (ha:DE X a ta wa) (hK:X.K=K:=by rfl) (hn:x≠"__name__":=by decide) (hdb:(x==("__debug__":Str))=false:=by decide)
  (he:Au [a,.Name x p2] X.env=(false,eval a X.env)::Au [.Name x p2] X.env:=by rfl) (he2:Au [.Name x p2] X.env=(false,eval (.Name x p2) X.env)::Au [] X.env:=by rfl) (hpl:(C8 pos (Au [.Name x p2] X.env)).any (·.1)=false:=by rfl) :
  DE X (.Call (.Name "isinstance" p) [a,.Name x p2] [] pos) (tCB (rIsi K T) (jbu ta (jbu (tC (.ty T)) tNil))) (wIsi T wa):=by subst hK;exact j40 hT hg hm hg2 hm2 hv ha hn hdb he he2 hpl
def rEqK (K:Ah):R2:=λx y H Q=>rEq x y H Q\/jtn x y H Q\/jnc K x y H Q
theorem jnj (hu:X.A.units < cLine) (hK:X.K=K:=by rfl):OpR X (Bz .Eq) (rEqK K):=by subst hK;exact j04 hu
theorem jly:SndO (rEqK K) gEq:=jzp
theorem jv0 (hK:X.K=K:=by rfl):OpR X (Bz .In) (rIn K false):=by subst hK;exact jq7
theorem jf1 (hK:X.K=K:=by rfl):OpR X (Bz .NotIn) (rIn K true):=by subst hK;exact jkd
def jw8 (K:Ah):List V->Hp->VK->Prop:=λxs H Q=>(∃z,xs=[.str z]/\z.length<=Ap/\Q (.int z.length) H)\/∃p ys,xs=[.ref p]/\(SqL K H p ys\/SqT K H p ys)/\Q (.int ys.length) H
theorem jlc (hK:X.K=K:=by rfl):CallR X (.builtin "len") (jw8 K):=by subst hK;exact jsq
theorem jm4:SndB (jw8 K) gLen:=jwz
def jqq (K:Ah):List V->Hp->VK->Prop:=λxs H Q=>∃a d,xs=[.ref a]/\RdD K H (.ref a) d/\Small d/\Q (.str d.shown) H
theorem jpc (hg:X.A.guards=some []) (hu:X.A.units+64 < cLine) (hK:X.K=K:=by rfl):CallR X (.builtin "repr") (jqq K):=by subst hK;exact jsp hg hu
theorem jp5:SndB (jqq K) juj:=jtb
def jl3 (K:Ah):List V->Hp->VK->Prop:=λxs H Q=>∃p ys,xs=[.ref p]/\((SqL K H p ys/\∀l,H l=none->Q (.ref l) (upd H l (.tup ys)))\/(SqT K H p ys/\Q (.ref p) H))
theorem jgo (hK:X.K=K:=by rfl):CallR X (.type "tuple") (jl3 K):=by subst hK;exact jjl
theorem jhu:SndB (jl3 K) jb8:=jp3
def jvs (K:Ah):List V->Hp->VK->Prop:=λxs H Q=>∃p ys,xs=[.ref p]/\(SqL K H p ys\/SqT K H p ys)/\∀l,H l=none->Q (.ref l) (upd H l (.lst ys))
theorem jpf (hK:X.K=K:=by rfl):CallR X (.type "list") (jvs K):=by subst hK;exact jlb
theorem jx4 (ha:DE X a ta wa) (hK:X.K=K:=by rfl):DI X tg a (jx6 K ta) (jb5 wa):=by subst hK;exact j10 ha
theorem j1z (ha:DE X a ta wa) (hK:X.K=K:=by rfl):DI X tg a (iTup K ta) (jcl wa):=by subst hK;exact j4a ha
theorem j16 {es:List Expr} {k:Nat} {t:TGs} {n:Nat} {r:DTGs} (h:DGs X es t r) (hc:X.calm=true:=by rfl) (hK:X.K=K:=by rfl)
  (hn:(Dh es X.env).length=n:=by rfl) (hst:(Dh es X.env).findIdx? (·.1)=none:=by rfl):DG X (.Tuple es k pos) (gTup K n t) (jbj n r):=by subst hK;exact j4e h hc hn hst
end
end DL
namespace KS
open PySem PySem.W PyProof.Rows
def run {α:Type} (c:Nat->Nat->Bool):KasT α->α
 |.ret a=>a
 |.ask i j k=>run c (k (c i j))
theorem jc2 {α β:Type} (c:Nat->Nat->Bool) (f:α->KasT β):∀t:KasT α,run c (t.bind f)=run c (f (run c t))
 |.ret _=>rfl
 |.ask i j k=>jc2 c f (k (c i j))
def Wi {α:Type} (n:Nat) (P:α->Prop):KasT α->Prop
 |.ret a=>P a
 |.ask i j k=>i < n/\j < n/\∀b,Wi n P (k b)
theorem Wi.bind {α β:Type} {n:Nat} {P:α->Prop} {R:β->Prop} {f:α->KasT β} (hf:∀a,P a->Wi n R (f a)):∀{t:KasT α},Wi n P t->Wi n R (t.bind f)
 |.ret a,h=>hf a h
 |.ask i j k,h=>⟨h.1,h.2.1,λb=>Wi.bind hf (h.2.2 b)⟩
theorem Wi.out {α:Type} {n:Nat} {P:α->Prop} (c:Nat->Nat->Bool):∀{t:KasT α},Wi n P t->P (run c t)
 |.ret a,h=>h
 |.ask i j k,h=>Wi.out c (t:=k (c i j)) (h.2.2 (c i j))
theorem wp_run {α:Type} {n:Nat} {P:α->Prop} {cmp:Nat->Nat->(Bool->Am->Prop)->Am->Prop} {c:Nat->Nat->Bool} {St:Am->Prop} {Q:α->Am->Prop}
  (hc:∀i j C s,i < n->j < n->St s->(∀s',St s'->C (c i j) s')->cmp i j C s):∀(t:KasT α) (s:Am),Wi n P t->St s->(∀s',St s'->Q (run c t) s')->t.kasWp cmp Q s
 |.ret a,s,_,hs,h=>h s hs
 |.ask i j k,s,w,hs,h=>hc i j _ s w.1 w.2.1 hs λs' hs'=>wp_run hc (k (c i j)) s' (w.2.2 _) hs' h
def Lo (n:Nat) (p:Array Nat):Prop:=∀i,p.getD i 0 < n
theorem jcq (p:Array Nat) (i:Nat):p.getD i 0=(p[i]?).getD 0:=by simp
theorem j1c {n:Nat} {p:Array Nat} (hn:0 < n) (h:∀x∈p,x < n):Lo n p:=λi=>by
 rw[jcq];cases e:p[i]? with
 |none=>exact hn
 |some x=>exact h x (Array.mem_of_getElem? e)
def Pm (n:Nat) (p:Array Nat):Prop:=p.Perm (C5 (A1 n))
theorem Pm.size {n:Nat} {p:Array Nat} (h:Pm n p):p.size=n:=by rw[Array.Perm.size_eq h];simp
theorem Pm.lo {n:Nat} {p:Array Nat} (hn:0 < n) (h:Pm n p):Lo n p:=j1c hn λx hx=>by
 have:x∈C5 (A1 n):=(Array.Perm.mem_iff h).mp hx;simpa using this
theorem Pm.rev {n:Nat} {p:Array Nat} (h:Pm n p) (i j:Nat):Pm n (Dr p i j):=(mirror_perm p i j _).trans h
theorem Pm.bub {n:Nat} {p:Array Nat} (h:Pm n p) (i j:Nat):Pm n (bubble p i j):=(bubble_perm p i j).trans h
section
variable {n:Nat} (hn:0 < n)
include hn
theorem jpq {p:Array Nat} (h:Lo n p):∀f m,Wi n (λ_=>True) (kas_asc p f m)
 |0,m=>trivial
 |f+1,m=>⟨h _,h _,λb=>by
  cases b with
  |true=>exact trivial
  |false=>exact jpq h f (m+1)⟩
theorem jin:∀f (p:Array Nat) m q,Pm n p->Wi n (λr=>Pm n r.1) (kas_desc f p m q)
 |0,p,m,q,h=>h
 |f+1,p,m,q,h=>⟨h.lo hn _,h.lo hn _,λb=>by
  cases b with
  |true =>
   show Wi n _ (if q > 0 then _ else _)
   split
   ·exact jin f _ _ _ (h.rev _ _)
   ·exact jin f _ _ _ h
  |false=>exact⟨h.lo hn _,h.lo hn _,λd=>by
    cases d with
    |true=>exact h
    |false=>exact jin f _ _ _ h⟩⟩
theorem jmu (m nrem:Nat) {p:Array Nat} (h:Pm n p):Wi n (λr=>Pm n r.2) (kas_tail3 m nrem p):=by
 unfold kas_tail3;refine Wi.bind (P:=λ_=>True) (λa _=>?_) (jpq hn ((h.rev 0 m).lo hn) _ _);show Pm n (Dr p 0 m);exact h.rev _ _
theorem jfs (m nrem:Nat) {p:Array Nat} (h:Pm n p):Wi n (λr=>Pm n r.2) (kas_descPart m nrem p) :=
 Wi.bind (λr hr=>by
  show Wi n _ (if r.2.2 > 0 then _ else _)
  split
  ·exact jmu hn _ _ (Pm.rev hr _ _)
  ·exact jmu hn _ _ hr) (jin hn _ p _ _ h)
theorem js4 (nrem:Nat) {p:Array Nat} (h:Pm n p):Wi n (λr=>Pm n r.2) (kas_count nrem p) :=
 Wi.bind (λm _=>by
  show Wi n _ (if (m==nrem)=true then _ else if m > 1 then _ else _)
  split
  ·exact h
  ·split
   ·exact⟨h.lo hn _,h.lo hn _,λb=>by
     cases b with
     |true=>exact h
     |false=>exact jfs hn _ _ (h.rev _ _)⟩
   ·exact jfs hn _ _ h) (jpq hn (h.lo hn) _ _)
theorem jim {p:Array Nat} (h:Lo n p) (k:Nat):∀f l r,Wi n (λ_=>True) (kas_place p k f l r)
 |0,l,r=>trivial
 |f+1,l,r=>by
  show Wi n _ (if l ≥ r then _ else _)
  split
  ·exact trivial
  ·exact⟨h _,h _,λb=>by
    cases b with
    |true=>exact jim h k f _ _
    |false=>exact jim h k f _ _⟩
theorem jvc:∀f (p:Array Nat) k,Pm n p->Wi n (Pm n) (kas_bin f p k)
 |0,p,k,h=>h
 |f+1,p,k,h=>Wi.bind (λl _=>jvc f _ _ (h.bub _ _)) (jim hn (h.lo hn) k _ _ _)
theorem wi_sort:Wi n (Pm n) (kas_sort n) :=
 Wi.bind (λr hr=>by
  show Wi n _ (if r.1 < n then _ else _)
  split
  ·exact jvc hn _ _ _ hr
  ·exact hr) (js4 hn n (Array.Perm.refl _))
end
structure Ord (lt:Nat->Nat->Bool):Prop where
 asym:∀i j,lt i j=true->lt j i=false
 ltr:∀i j k,lt j i=false->lt k j=false->lt k i=false
section
variable {lt:Nat->Nat->Bool} (O:Ord lt)
def g (p:Array Nat) (i:Nat):Nat:=p.getD i 0
def SP (lt:Nat->Nat->Bool) (p:Array Nat) (n:Nat):Prop:=∀i j,i < j->j < n->lt (g p j) (g p i)=false
def DP (lt:Nat->Nat->Bool) (p:Array Nat) (n:Nat):Prop:=∀i j,i < j->j < n->lt (g p i) (g p j)=false
def Sim (lt:Nat->Nat->Bool) (x y:Nat):Prop:=lt x y=false/\lt y x=false
include O
theorem irr (i:Nat):lt i i=false:=by
 cases e:lt i i with
 |false=>rfl
 |true=>exact(O.asym i i e).symm.trans e |>.symm▸rfl
theorem Sim.eq {a b x y:Nat} (h1:Sim lt a x) (h2:Sim lt b y):lt a b=lt x y:=by
 cases e:lt x y with
 |false=>exact O.ltr _ _ _ h2.2 (O.ltr _ _ _ e h1.1)
 |true =>
  cases e2:lt a b with
  |true=>rfl
  |false =>
   have:lt x y=false:=O.ltr _ _ _ h2.1 (O.ltr _ _ _ e2 h1.2);rw[this]at e;cases e
theorem SP.snoc {p:Array Nat} {n:Nat} (h:SP lt p n) (h1:1<=n) (e:lt (g p n) (g p (n - 1))=false):SP lt p (n+1):=λi j hij hj=>by
 by_cases q:j < n
 ·exact h i j hij q
 ·have:j=n:=by omega
  subst this;by_cases r:i=j - 1
  ·subst r;exact e
  ·exact O.ltr _ _ _ (h i (j - 1) (by omega) (by omega)) e
theorem jsv {p:Array Nat}:∀f n,1<=n->SP lt p n->n<=run lt (kas_asc p f n)/\run lt (kas_asc p f n)<=n+f/\SP lt p (run lt (kas_asc p f n))/\(run lt (kas_asc p f n)=n+f\/lt (g p (run lt (kas_asc p f n))) (g p (run lt (kas_asc p f n) - 1))=true)
 |0,n,h1,h=>⟨Al _,Al _,h,.inl rfl⟩
 |f+1,n,h1,h=>by
  have e:run lt (kas_asc p (f+1) n)=run lt (if lt (g p n) (g p (n - 1))=true then .ret n else kas_asc p f (n+1)):=rfl;rw[e];cases q:lt (g p n) (g p (n - 1))with
  |true=>exact⟨Al _,Nat.le_add_right _ _,h,.inr q⟩
  |false =>
   rw[if_neg Ae];obtain⟨a1,a2,a3,a4⟩:=jsv f (n+1) (by omega) (SP.snoc O h h1 q);exact⟨by omega,by omega,a3,a4.imp (λz=>by omega) id⟩
omit O
theorem jqm {p:Array Nat} {i j:Nat} (hj:j<=p.size) (k:Nat):g (Dr p i j) k=if i<=k/\k < j then g p (i+j - 1 - k)else g p k:=by
 unfold g Dr;rw[jcq,jcq,jcq,getElem?_mirror hj _ (by omega)];by_cases h:i<=k/\k < j
 ·rw[if_pos h];by_cases q:(i<=k/\k < i+(j - i) / 2)\/(j - (j - i) / 2<=k/\k < j)
  ·rw[if_pos q]
  ·rw[if_neg q];have:i+j - 1 - k=k:=by omega
   rw[this]
 ·rw[if_neg h,if_neg (by omega)]
include O
theorem jl2 {p:Array Nat} {i j:Nat} (hj:j<=p.size) (h:∀a b,i<=a->a < j->i<=b->b < j->Sim lt (g p a) (g p b)) (k:Nat):Sim lt (g (Dr p i j) k) (g p k):=by
 rw[jqm hj]
 split
 ·rename_i q;exact h _ _ (by omega) (by omega) q.1 q.2
 ·exact⟨irr O _,irr O _⟩
theorem DP.sim {p p':Array Nat} {n:Nat} (h:DP lt p n) (s:∀k,Sim lt (g p' k) (g p k)):DP lt p' n:=λi j hij hj=>(Sim.eq O (s i) (s j)).trans (h i j hij hj)
theorem DP.snoc {p:Array Nat} {n:Nat} (h:DP lt p n) (h1:1<=n) (e:lt (g p (n - 1)) (g p n)=false):DP lt p (n+1):=λi j hij hj=>by
 by_cases q:j < n
 ·exact h i j hij q
 ·have:j=n:=by omega
  subst this;by_cases r:i=j - 1
  ·subst r;exact e
  ·exact O.ltr _ _ _ e (h i (j - 1) (by omega) (by omega))
omit O
def jy1 (lt:Nat->Nat->Bool) (sz n f:Nat) (r:Array Nat×Nat×Nat):Prop :=
 r.1.size=sz/\n<=r.2.1/\r.2.1<=n+f/\r.2.2+1<=r.2.1/\DP lt r.1 r.2.1/\(∀a b,r.2.1 - (r.2.2+1)<=a->a < r.2.1->r.2.1 - (r.2.2+1)<=b->b < r.2.1->Sim lt (g r.1 a) (g r.1 b))
def CntP (lt:Nat->Nat->Bool) (sz nrem:Nat) (r:Nat×Array Nat):Prop:=r.2.size=sz/\1<=r.1/\r.1<=nrem/\SP lt r.2 r.1
def PlP (lt:Nat->Nat->Bool) (p:Array Nat) (k m:Nat):Prop:=m<=k/\(∀i,i < m->lt (g p k) (g p i)=false)/\(∀i,m<=i->i < k->lt (g p k) (g p i)=true)
include O
theorem jji:∀f (p:Array Nat) n q,q+1<=n->n+f<=p.size->DP lt p n->(∀a b,n - (q+1)<=a->a < n->n - (q+1)<=b->b < n->Sim lt (g p a) (g p b)) ->
  jy1 lt p.size n f (run lt (kas_desc f p n q))
 |0,p,n,q,h1,h2,h3,h4=>⟨rfl,Al _,Al _,h1,h3,h4⟩
 |f+1,p,n,q,h1,h2,h3,h4=>by
  have one:∀(p':Array Nat) (m:Nat) (a b:Nat),m+1 - (0+1)<=a->a < m+1->m+1 - (0+1)<=b->b < m+1->Sim lt (g p' a) (g p' b):=λp' m a b ha ha' hb hb'=>by
   have e1:a=m:=by omega
   have e2:b=m:=by omega
   rw[e1,e2];exact⟨irr O _,irr O _⟩
  show jy1 lt p.size n (f+1) (run lt (if lt (g p n) (g p (n - 1))=true then(if q > 0 then kas_desc f (Dr p (n - (q+1)) n) (n+1) 0 else kas_desc f p (n+1) 0)else .ask (p.getD (n - 1) 0) (p.getD n 0) λd=>if d=true then .ret (p,n,q)else kas_desc f p (n+1) (q+1)));cases c1:lt (g p n) (g p (n - 1))with
  |true =>
   rw[if_pos rfl];by_cases hq:q > 0
   ·rw[if_pos hq];have sim:=jl2 O (p:=p) (i:=n - (q+1)) (j:=n) (by omega) h4;have hd:DP lt (Dr p (n - (q+1)) n) (n+1):=DP.sim O (DP.snoc O h3 (by omega) (O.asym _ _ c1)) sim;have hs:(Dr p (n - (q+1)) n).size=p.size:=mirror_size _ _ _ _;obtain⟨a1,a2,a3,a4,a5,a6⟩:=jji f (Dr p (n - (q+1)) n) (n+1) 0 (by omega) (by rw[hs];omega) hd (one _ n);exact⟨a1.trans hs,by omega,by omega,a4,a5,a6⟩
   ·rw[if_neg hq];obtain⟨a1,a2,a3,a4,a5,a6⟩:=jji f p (n+1) 0 (by omega) (by omega) (DP.snoc O h3 (by omega) (O.asym _ _ c1)) (one _ n);exact⟨a1,by omega,by omega,a4,a5,a6⟩
  |false =>
   rw[if_neg Ae];show jy1 lt p.size n (f+1) (run lt (if lt (g p (n - 1)) (g p n)=true then .ret (p,n,q)else kas_desc f p (n+1) (q+1)));cases c2:lt (g p (n - 1)) (g p n)with
   |true=>exact⟨rfl,Al _,by show n<=n+(f+1);omega,h1,h3,h4⟩
   |false =>
    rw[if_neg Ae];have s1:Sim lt (g p n) (g p (n - 1)):=⟨c1,c2⟩;have tr:∀{x y z:Nat},Sim lt x y->Sim lt y z->Sim lt x z:=λh h'=>⟨O.ltr _ _ _ h'.1 h.1,O.ltr _ _ _ h.2 h'.2⟩;obtain⟨a1,a2,a3,a4,a5,a6⟩:=jji f p (n+1) (q+1) (by omega) (by omega) (DP.snoc O h3 (by omega) c2) (λa b ha ha' hb hb'=>by
     have key:∀x,n+1 - (q+1+1)<=x->x < n+1->Sim lt (g p x) (g p (n - 1)):=λx hx hx'=>by
      by_cases e:x=n
      ·rw[e];exact s1
      ·exact h4 x (n - 1) (by omega) (by omega) (by omega) (by omega)
     have kb:=key b hb hb';exact tr (key a ha ha') ⟨kb.2,kb.1⟩)
    exact⟨a1,by omega,by omega,a4,a5,a6⟩
theorem jm0 {p:Array Nat} {n nrem:Nat} (h1:1<=n) (hn:n<=nrem) (hz:nrem<=p.size) (h:DP lt p n):CntP lt p.size nrem (run lt (kas_tail3 n nrem p)):=by
 unfold kas_tail3;rw[jc2];have hs:(Dr p 0 n).size=p.size:=mirror_size _ _ _ _;have sp:SP lt (Dr p 0 n) n:=λi j hij hj=>by
  rw[jqm (by omega),jqm (by omega),if_pos ⟨Bn _,hj⟩,if_pos ⟨Bn _,by omega⟩];exact h _ _ (by omega) (by omega)
 obtain⟨a1,a2,a3,_⟩:=jsv O (p:=Dr p 0 n) (nrem - n) n h1 sp;exact⟨hs,by show 1<=run lt (kas_asc (Dr p 0 n) (nrem - n) n);omega,by show run lt (kas_asc (Dr p 0 n) (nrem - n) n)<=nrem;omega,a3⟩
theorem jgm {p:Array Nat} {n nrem:Nat} (h1:1<=n) (hn:n+1<=nrem) (hz:nrem<=p.size) (h:DP lt p (n+1)):CntP lt p.size nrem (run lt (kas_descPart n nrem p)):=by
 unfold kas_descPart;rw[jc2];obtain⟨a1,a2,a3,a4,a5,a6⟩:=jji O (nrem - (n+1)) p (n+1) 0 (by omega) (by omega) h (λa b ha ha' hb hb'=>by
  have e1:a=n:=by omega
  have e2:b=n:=by omega
  rw[e1,e2];exact⟨irr O _,irr O _⟩)
 generalize run lt (kas_desc (nrem - (n+1)) p (n+1) 0)=r at a1 a2 a3 a4 a5 a6;by_cases hq:r.2.2 > 0
 ·rw[if_pos hq];have hs:(Dr r.1 (r.2.1 - (r.2.2+1)) r.2.1).size=r.1.size:=mirror_size _ _ _ _;obtain⟨b1,b2⟩:=jm0 O (p:=Dr r.1 (r.2.1 - (r.2.2+1)) r.2.1) (n:=r.2.1) (nrem:=nrem) (by omega) (by omega) (by rw[hs];omega) (DP.sim O a5 (jl2 O (by omega) a6));exact⟨b1.trans (hs.trans a1),b2⟩
 ·rw[if_neg hq];obtain⟨b1,b2⟩:=jm0 O (p:=r.1) (n:=r.2.1) (nrem:=nrem) (by omega) (by omega) (by omega) a5;exact⟨b1.trans a1,b2⟩
theorem jut {p:Array Nat} {nrem:Nat} (h1:1<=nrem) (hz:nrem<=p.size):CntP lt p.size nrem (run lt (kas_count nrem p)):=by
 unfold kas_count;rw[jc2];obtain⟨a1,a2,a3,a4⟩:=jsv O (p:=p) (nrem - 1) 1 (Al _) (λi j hij hj=>by omega);generalize run lt (kas_asc p (nrem - 1) 1)=m at a1 a2 a3 a4;by_cases q:(m==nrem)=true
 ·rw[if_pos q];exact⟨rfl,a1,by show m<=nrem;omega,a3⟩
 ·rw[if_neg q];have hm:m≠nrem:=λz=>q (by rw[z];exact beq_self_eq_true _);have a4:lt (g p m) (g p (m - 1))=true:=a4.resolve_left (by omega);by_cases hm1:m > 1
  ·rw[if_pos hm1];show CntP lt p.size nrem (run lt (if lt (g p 0) (g p (m - 1))=true then .ret (m,p)else kas_descPart m nrem (Dr p 0 m)));cases c:lt (g p 0) (g p (m - 1))with
   |true=>exact⟨rfl,a1,by show m<=nrem;omega,a3⟩
   |false =>
    rw[if_neg Ae];have hs:(Dr p 0 m).size=p.size:=mirror_size _ _ _ _;have up:∀a b,a < m->b < m->lt (g p b) (g p a)=false:=λa b ha hb=>by
     have le0:lt (g p a) (g p 0)=false:=by
      by_cases z:a=0
      ·rw[z];exact irr O _
      ·exact a3 0 a (by omega) ha
     have leb:lt (g p (m - 1)) (g p b)=false:=by
      by_cases z:b=m - 1
      ·rw[z];exact irr O _
      ·exact a3 b (m - 1) (by omega) (by omega)
     have l1:lt (g p b) (g p 0)=false:=by
      by_cases z:b=0
      ·rw[z];exact irr O _
      ·exact a3 0 b (by omega) hb
     have l2:lt (g p 0) (g p a)=false:=O.ltr _ _ _ (by
      by_cases z:a=m - 1
      ·rw[z];exact irr O _
      ·exact a3 a (m - 1) (by omega) (by omega)) c
     -- b <= m-1 <= 0 <= a
     exact O.ltr _ _ _ l2 l1
    have all:∀a b,0<=a->a < m->0<=b->b < m->Sim lt (g p a) (g p b):=λa b _ ha _ hb=>⟨up b a hb ha,up a b ha hb⟩;have sim:=jl2 O (p:=p) (i:=0) (j:=m) (by omega) all;have dp:DP lt p (m+1):=DP.snoc O (λi j hij hj=>up j i hj (by omega)) a1 (O.asym _ _ a4);obtain⟨b1,b2⟩:=jgm O (p:=Dr p 0 m) (n:=m) (nrem:=nrem) a1 (by omega) (by rw[hs];omega) (DP.sim O dp sim);exact⟨b1.trans hs,b2⟩
  ·rw[if_neg hm1];have e:m=1:=by omega
   subst e;exact jgm O (p:=p) (Al _) (by omega) hz (DP.snoc O (λi j hij hj=>by omega) (Al _) (O.asym _ _ a4))
theorem jiy {p:Array Nat} {k:Nat} (h:SP lt p k):∀f l r,l<=r->r<=k->r - l<=f->(∀i,i < l->lt (g p k) (g p i)=false)->(∀i,r<=i->i < k->lt (g p k) (g p i)=true) ->
  PlP lt p k (run lt (kas_place p k f l r))
 |0,l,r,hlr,hr,hf,h1,h2=>by
  have e:l=r:=by omega
  subst e;exact⟨hr,h1,h2⟩
 |f+1,l,r,hlr,hr,hf,h1,h2=>by
  show PlP lt p k (run lt (if l ≥ r then .ret l else .ask (p.getD k 0) (p.getD ((l+r) / 2) 0) λc=>if c=true then kas_place p k f l ((l+r) / 2)else kas_place p k f ((l+r) / 2+1) r));by_cases q:l ≥ r
  ·rw[if_pos q];have e:l=r:=by omega
   subst e;exact⟨hr,h1,h2⟩
  ·rw[if_neg q];show PlP lt p k (run lt (if lt (g p k) (g p ((l+r) / 2))=true then kas_place p k f l ((l+r) / 2)else kas_place p k f ((l+r) / 2+1) r));cases c:lt (g p k) (g p ((l+r) / 2))with
   |true =>
    rw[if_pos rfl];refine jiy h f l ((l+r) / 2) (by omega) (by omega) (by omega) h1 λi hi hik=>?_;by_cases e:i=(l+r) / 2
    ·rw[e];exact c
    ·cases z:lt (g p k) (g p i)with
     |true=>rfl
     |false =>
      have:=O.ltr _ _ _ (h ((l+r) / 2) i (by omega) hik) z;rw[this]at c;cases c
   |false =>
    rw[if_neg Ae];refine jiy h f ((l+r) / 2+1) r (by omega) hr (by omega) (λi hi=>?_) h2;by_cases e:i=(l+r) / 2
    ·rw[e];exact c
    ·exact O.ltr _ _ _ (h i ((l+r) / 2) (by omega) (by omega)) c
omit O
theorem jwh {p:Array Nat} {k l:Nat} (hk:k < p.size) (hl:l<=k) (i:Nat):g (bubble p k (k - l)) i=if i=l then g p k else if l < i/\i<=k then g p (i - 1)else g p i:=by
 unfold g;rw[jcq,getElem?_bubble hk _ (by omega),jcq,jcq,jcq];have e:k - (k - l)=l:=by omega
 rw[e];by_cases h1:i=l
 ·rw[if_pos h1,if_pos h1]
 ·rw[if_neg h1,if_neg h1];by_cases h2:l < i/\i<=k
  ·rw[if_pos h2,if_pos h2]
  ·rw[if_neg h2,if_neg h2]
include O
theorem jwj:∀f (p:Array Nat) k,1<=k->k+f<=p.size->SP lt p k->SP lt (run lt (kas_bin f p k)) (k+f)
 |0,p,k,h1,hz,h=>h
 |f+1,p,k,h1,hz,h=>by
  show SP lt (run lt ((kas_place p k k 0 k).bind λl=>kas_bin f (bubble p k (k - l)) (k+1))) (k+(f+1));rw[jc2];obtain⟨b1,b2,b3⟩:=jiy O h k 0 k (Bn _) (Al _) (by omega) (λi hi=>by omega) (λi hi hi'=>by omega);generalize run lt (kas_place p k k 0 k)=l at b1 b2 b3;have sp:SP lt (bubble p k (k - l)) (k+1):=λi j hij hj=>by
   rw[jwh (by omega) b1,jwh (by omega) b1];by_cases e1:j=l
   ·rw[if_pos e1,if_neg (by omega),if_neg (by omega)];exact b2 i (by omega)
   ·rw[if_neg e1];by_cases e2:l < j/\j<=k
    ·rw[if_pos e2];by_cases e3:i=l
     ·rw[if_pos e3];exact O.asym _ _ (b3 (j - 1) (by omega) (by omega))
     ·rw[if_neg e3];by_cases e4:l < i/\i<=k
      ·rw[if_pos e4];exact h (i - 1) (j - 1) (by omega) (by omega)
      ·rw[if_neg e4];exact h i (j - 1) (by omega) (by omega)
    ·rw[if_neg e2,if_neg (by omega),if_neg (by omega)];exact h i j hij (by omega)
  have:=jwj f (bubble p k (k - l)) (k+1) (by omega) (by rw[bubble_size];omega) sp;have e:k+1+f=k+(f+1):=by omega
  rwa [e]at this
theorem sort_ok {n:Nat} (h1:1<=n):SP lt (run lt (kas_sort n)) n:=by
 unfold kas_sort;rw[jc2];obtain⟨a1,a2,a3,a4⟩:=jut O (p:=C5 (A1 n)) (nrem:=n) h1 (by simp);generalize run lt (kas_count n (C5 (A1 n)))=r at a1 a2 a3 a4;have hs:r.2.size=n:=by rw[a1];simp
 by_cases q:r.1 < n
 ·rw[if_pos q];have e:max r.1 1=r.1:=by omega
  rw[e];have:=jwj O (n - r.1) r.2 r.1 a2 (by omega) a4;have e2:r.1+(n - r.1)=n:=by omega
  rwa [e2]at this
 ·rw[if_neg q];have e:r.1=n:=by omega
  rw[e]at a4;exact a4
end
end KS
namespace KS
open PySem PySem.W PySem.Calls PyProof.Rows
section
variable {prog:Bg} {w:Bw} {A:Cb} {E:Ai->Am->Prop} {s:Am} {a:Addr} {vs:List Ai}
theorem ls_sort {n:Nat} {P:PySem.Fin->Am->Prop} (ho:s.heap.get? a=some (Cu "list" vs.toArray n)) (h2:2<=vs.length) (h64:vs.length < 64)
  (h:∀e1 h',h'.get? a=some (Cu "list" #[] e1)->(∀b o,b≠a->s.heap.get? b=some o->h'.get? b=some o) ->
   A3 (Bc prog w) A (keyKind' vs.toArray) (λκ s'=>(kas_sort vs.length).kasWp (kas_ask prog w A κ vs)
    (λp s''=>s''.heap.get? a=some (Cu "list" #[] e1)/\∀h3 c,Dg a s''.heap h3->h3.get? a=some (Cu "list" (C5 (p.toList.map λi=>vs.getD i B3)) c)->P (.done (.ret .none)) {s'' with heap:=h3}) s') (λ_ _=>False) {s with heap:=h'}) :
  A3 (Bc prog w) A (Builtin.«list.sort» ⟨[.ref a],[]⟩) P E s:=by
 have ha:a < s.heap.objs.size:=Aw ho;have s1:=Ca s.heap a (B8 λ_=>(#[]:Array Ai));obtain⟨e1,ho1⟩:∃e1,(s.heap.update a (B8 λ_=>(#[]:Array Ai))).get? a=some (Cu "list" #[] e1):=⟨_,get?_update_seq ho λ_=>#[]⟩;have ask:=h e1 (((s.heap.update a (B8 λ_=>(#[]:Array Ai))).push (Cu "tuple" vs.toArray 0)).push (Cu "list" #[] 0)) (Ag _ (Ag _ ho1))
  λb o hb e=>Ag _ (Ag _ ((s1.2 b hb).trans e))
 rw[list_sort_plain];refine Ad (listItems_at ho rfl ?_);refine Ad (listUpdate_at ho rfl ?_ (by rw[A2,Et];omega) (Bn _));refine Ad (seqEpoch_at ho1 rfl ?_);refine Ad (wpAny_newTuple ?_ (by show vs.length<=_;rw[Et];omega));refine Ad (wpAny_newList ?_ (Bn _));refine Cm ?_;show A3 (Bc prog w) A _ P E {s with heap:=((s.heap.update a (B8 λ_=>(#[]:Array Ai))).push (Cu "tuple" vs.toArray 0)).push (Cu "list" #[] 0)};dsimp only;have hn2:¬vs.toArray.size < 2:=by rw[A2];omega
 rw[if_neg hn2,if_neg hn2];refine Ad (C1 ask (λκ s0 hk=>?_) λ_ _ x=>x.elim);refine Ad (C1 (kat_run (Q:=λst' s'=>∃p:Array Nat,p.size=vs.length/\arrOf st'=p.map (kas_item (vs.toArray.zip vs.toArray))/\failedOf st'=none/\s'.heap.get? a=some (Cu "list" #[] e1)/\∀h3 c,Dg a s'.heap h3->h3.get? a=some (Cu "list" (C5 (p.toList.map λi=>vs.getD i B3)) c)->P (.done (.ret .none)) {s' with heap:=h3})
  rfl h2 h64 (λp' st' s' a1 a2 a3 a4=>⟨p',a1,a2,a3,a4⟩) hk) ?_ λ_ _ e=>e)
 rintro⟨⟨⟩,st'⟩ s' ⟨p,hp,har,hf,na,k⟩
 dsimp only;have hout:=kat_snds rfl har;have hsz:(C5 (p.toList.map λi=>vs.getD i B3)).size=vs.length:=by rw[A2,Ab,Er,hp]
 rw[hout];have s2:=Ca s'.heap a (B8 λ_=>C5 (p.toList.map λi=>vs.getD i B3));obtain⟨c2,hc2⟩:∃c2,(s'.heap.update a (B8 λ_=>C5 (p.toList.map λi=>vs.getD i B3))).get? a=some (Cu "list" (C5 (p.toList.map λi=>vs.getD i B3)) c2):=⟨_,get?_update_seq na λ_=>C5 (p.toList.map λi=>vs.getD i B3)⟩;refine Ad (seqEpoch_at na rfl ?_);refine Ad (listUpdate_at na rfl ?_ (Bn _) (A4 (Nat.le_of_eq hsz) (by rw[Et];omega)));rw[hf];simp only[bne_self_eq_false,C4,if_false];exact Av (k _ c2 s2 hc2)
theorem ls_short {n:Nat} {P:PySem.Fin->Am->Prop} (ho:s.heap.get? a=some (Cu "list" vs.toArray n)) (h2:vs.length < 2)
  (h:∀h' c,h'.get? a=some (Cu "list" vs.toArray c)->(∀b o,b≠a->s.heap.get? b=some o->h'.get? b=some o)->P (.done (.ret .none)) {s with heap:=h'}) :
  A3 (Bc prog w) A (Builtin.«list.sort» ⟨[.ref a],[]⟩) P E s:=by
 have ha:a < s.heap.objs.size:=Aw ho;have s1:=Ca s.heap a (B8 λ_=>(#[]:Array Ai));obtain⟨e1,ho1⟩:∃e1,(s.heap.update a (B8 λ_=>(#[]:Array Ai))).get? a=some (Cu "list" #[] e1):=⟨_,get?_update_seq ho λ_=>#[]⟩;have ho6:(((s.heap.update a (B8 λ_=>(#[]:Array Ai))).push (Cu "tuple" vs.toArray 0)).push (Cu "list" #[] 0)).get? a=some (Cu "list" #[] e1):=Ag _ (Ag _ ho1);rw[list_sort_plain];refine Ad (listItems_at ho rfl ?_);refine Ad (listUpdate_at ho rfl ?_ (by rw[A2,Et];omega) (Bn _));refine Ad (seqEpoch_at ho1 rfl ?_);refine Ad (wpAny_newTuple ?_ (by show vs.length<=_;rw[Et];omega));refine Ad (wpAny_newList ?_ (Bn _));refine Cm ?_;show A3 (Bc prog w) A _ P E {s with heap:=((s.heap.update a (B8 λ_=>(#[]:Array Ai))).push (Cu "tuple" vs.toArray 0)).push (Cu "list" #[] 0)};dsimp only;have hn2:vs.toArray.size < 2:=by rw[A2];omega
 rw[if_pos hn2,if_pos hn2];refine Ad (Av ?_);rw[StateT.run_pure];refine Ad (Av ?_);dsimp only;refine Ad (seqEpoch_at ho6 rfl ?_);refine Ad (listUpdate_at ho6 rfl ?_ (hsz2:=by rw[Array.size_map];show(pairsOf vs).size<=_;rw[pairsOf_size,Et];omega));simp only[bne_self_eq_false,C4,if_false];have e:(arrOf (SortSt.mk' general' (vs.toArray.zip vs.toArray) #[] 7 none)).map (·.2)=vs.toArray:=by
  show(vs.toArray.zip vs.toArray).map (·.2)=vs.toArray;apply Array.toList_inj.mp;simp only[Array.toList_map,Array.toList_zip];exact List.map_snd_zip (Al _)
 have s2:=Ca (((s.heap.update a (B8 λ_=>(#[]:Array Ai))).push (Cu "tuple" vs.toArray 0)).push (Cu "list" #[] 0)) a (B8 λ_=>(arrOf (SortSt.mk' general' (vs.toArray.zip vs.toArray) #[] 7 none)).map (·.2));refine Av (h _ _ (by rw[e];exact get?_update_seq ho6 λ_=>vs.toArray) λb o hb q=>(s2.2 b hb).trans (Ag _ (Ag _ ((s1.2 b hb).trans q))))
theorem sorted_of {r:Ai} {Q:Ai->Am->Prop} {R:List Ai->Am->Prop} (hcol:A3 (Bc prog w) A.in1 (collect r) R E s)
  (h:∀vs s1,R vs s1->vs.length<=Ap/\A3 (Bc prog w) A.in1.in1 (Builtin.«list.sort» ⟨[.ref s1.heap.objs.size],[]⟩) (λf s2=>f=.done (.ret .none)/\Q (.ref s1.heap.objs.size) s2) E {s1 with heap:=s1.heap.push (Cu "list" vs.toArray 0)}) :
  A3 (Bc prog w) A (call (.builtin "sorted") [r]) Q E s:=by
 refine Calls.call_function_entry kind_sorted plain_sorted entry_sorted (args_sorted1 _) ?_;unfold Builtin.«sorted»;refine Ad (m:=checkCount "sorted" 1 1 _) (Av ?_);refine Ad (C1 hcol (λvs s1 hr=>?_) λ_ _ e=>e);obtain⟨hl,hs⟩:=h vs s1 hr;refine Ad (wpAny_newList ?_ hl);have hoL:(s1.heap.push (Cu "list" vs.toArray 0)).get? s1.heap.objs.size=some (Cu "list" vs.toArray 0):=A8 _ rfl;refine Ad (Cm (C7 (s:={ s1 with heap:=s1.heap.push (Cu "list" vs.toArray 0)}) slot_list_sort ⟨_,hoL,rfl⟩ entry_list_sort ?body (args_list_sort _)))
 case body =>
  refine C1 hs (λf s2 hf=>?_) λ_ _ e=>e;obtain⟨rfl,hq⟩:=hf;exact⟨_,rfl,Av ⟨_,rfl,hq⟩⟩
def ItsOk (h:Heap) (as:List Addr) (ks:List Str) (xs:List Ai):Prop :=
 as.length=ks.length/\as.length=xs.length/\∀(j:Nat) (a:Addr),as[j]?=some a->∃k t x,ks[j]?=some k/\xs[j]?=some x/\h.get? a=some {cls:=.type "tuple",data:=.seq #[.str k t,x]}
def ltK (ks:List Str) (i j:Nat):Bool:=decide ((ks.getD i ⟨#[]⟩).cps.toList < (ks.getD j ⟨#[]⟩).cps.toList)
theorem jt6 (x y:List Nat) (h:x < y):¬y < x:=λz=>List.lt_irrefl x (List.lt_trans h z)
theorem ordK (ks:List Str):Ord (ltK ks) where
 asym:=λi j h=>by
  unfold ltK at h ⊢;exact decide_eq_false (jt6 _ _ (of_decide_eq_true h))
 ltr:=λi j k h1 h2=>by
  unfold ltK at h1 h2 ⊢;have h1:=of_decide_eq_false h1;have h2:=of_decide_eq_false h2;refine decide_eq_false λz=>?_;have l1:=D4.mp h1;have l2:=D4.mp h2;exact absurd z (D4.mpr (List.le_trans l1 l2))
theorem katTups {h:Heap}:∀{as:List Addr} {ks:List Str} {xs:List Ai},ItsOk h as ks xs->∃fs:List Ai,KatTups h (as.map A5) fs/\fs.length=as.length/\∀f∈fs,∃k t,f=.str k t
 |[],ks,xs,_=>⟨[],trivial,rfl,λf hf=>nomatch hf⟩
 |a::as,ks,xs,I=>by
  obtain⟨l1,l2,hp⟩:=I;obtain⟨k,t,x,e1,e2,e3⟩:=hp 0 a rfl;cases ks with
  |nil=>cases e1
  |cons k0 ks =>
   cases xs with
   |nil=>cases e2
   |cons x0 xs =>
    obtain⟨fs,f1,f2,f3⟩:=katTups (h:=h) (as:=as) (ks:=ks) (xs:=xs) ⟨by simpa using l1,by simpa using l2,λj b hb=>by
     obtain⟨k',t',x',g1,g2,g3⟩:=hp (j+1) b (by simpa using hb);exact⟨k',t',x',by simpa using g1,by simpa using g2,g3⟩⟩
    refine⟨.str k t::fs,.cons e3 rfl rfl rfl f1,by simp[f2],λf hf=>?_⟩;rcases Ar.mp hf with rfl | z
    ·exact⟨k,t,rfl⟩
    ·exact f3 f z
end
section
variable {prog:Bg} {w:Bw} {A:Cb} {E:Ai->Am->Prop} {s:Am} {a:Addr} {as:List Addr} {ks:List Str} {xs:List Ai}
theorem ask_items (hI:ItsOk s.heap as ks xs) (nd:ks.Nodup) (hx:∀x∈xs,∀(s:Am),SeqAt.EqAt A s x x true) {i j:Nat} (hi:i < as.length) (hj:j < as.length) {C:Bool->Am->Prop} (h:C (ltK ks i j) s) :
  kas_ask prog w A (tuples' true) (as.map A5) i j C s:=by
 obtain⟨l1,l2,hp⟩:=hI;obtain⟨k1,t1,x1,e1,e2,e3⟩:=hp i as[i] (Af hi);obtain⟨k2,t2,x2,f1,f2,f3⟩:=hp j as[j] (Af hj);unfold kas_ask;have g1:(as.map A5).getD i B3=.ref as[i]:=by simp[hi]
 have g2:(as.map A5).getD j B3=.ref as[j]:=by simp[hj]
 rw[g1,g2];have c1:ks.getD i ⟨#[]⟩=k1:=by simp[e1]
 have c2:ks.getD j ⟨#[]⟩=k2:=by simp[f1]
 have hc:ltK ks i j=decide (k1.cps.toList < k2.cps.toList):=by unfold ltK;rw[c1,c2]
 rw[hc]at h;refine kat_lt e3 rfl f3 rfl ?_;refine kat_cons (wpAny_eqBool_str ?_);by_cases e:k1=k2
 ·rw[decide_eq_true e];have hij:i=j:=by
   have hi':i < ks.length:=by omega
   have hj':j < ks.length:=by omega
   have q1:ks[i]=k1:=by have:=Af hi';rw[e1]at this;exact(A6 this).symm
   have q2:ks[j]=k2:=by have:=Af hj';rw[f1]at this;exact(A6 this).symm
   exact(Ff nd).mp (q1.trans (e.trans q2.symm))
  subst hij;rw[e2]at f2;cases f2;refine kat_yes (kat_cons ?_);refine hx x1 (A7 e2) s _ _ _ _ ?_;refine kat_yes (kat_nil ?_);rw[e]at h;have:decide (k2.cps.toList < k2.cps.toList)=false:=decide_eq_false (List.lt_irrefl _);rw[this]at h;exact h
 ·rw[decide_eq_false e];exact kat_no (oneLt_str h)
end
end KS
namespace L2
open PySem PySem.Spec PyProof.Rows PySem.W
def jjx (d v:Addr):HO:=.ext λh=>h.get? v=some {cls:=.type "dict_items",data:=.fields #[.ref d]}
theorem jt3 {X:Cx}:MtR X "dict.items" (λx vs H Q=>∃d kvs,x=.ref d/\vs=[]/\H d=some (.dK kvs)/\∀v,H v=none->Q (.ref v) (upd H v (jjx d v))):=by
 intro pins s σ H x xs v us Q I rx rv h;obtain⟨d,kvs,rfl,rfl,hd,q⟩:=h;cases rx;cases rv.zero;obtain⟨z,hsys,vs',rel,hD⟩:=I.hok d _ hd;refine call_meetsIn PySem.F.slot_dict_items hD.typeIs PySem.F.entry_dict_items (PySem.F.args_dict_items_1 _) (meets_dict_items (ja6 X.prog X.w) d hsys) ⟨⟨vs',hD⟩,?_⟩;have e:(s.heap.push ({cls:=.type "dict_items",data:=.fields #[.ref d]}:Obj)).get? s.heap.objs.size=some {cls:=.type "dict_items",data:=.fields #[.ref d]}:=A8 _ rfl;exact⟨.ref s.heap.objs.size,_,I.laid (t':=s.toks) (o:=jjx d s.heap.objs.size) (λb ob q=>Ag _ q) (Al _) ⟨e,⟨_,e⟩,λh1 h2 q k=>k _ q⟩,rfl,q _ (I.hok.fresh (Al _))⟩
def IxV (as:List Addr) (ks:List Str) (xv:List V) (i:Nat):Addr×Str×V:=(as.getD i 0,ks.getD i ⟨#[]⟩,xv.getD i .non)
def newH (H:Hp) (D:Addr) (l:List V) (as:List Addr) (ks:List Str) (xv:List V):Hp:=λb=>if b=D then some (.lst l)else match as.idxOf? b with
 |some j=>some (.tup [.str (ks.getD j ⟨#[]⟩),xv.getD j .non])
 |none=>H b
theorem jc4 {as:List Addr} {b:Addr} {j:Nat} (h:as.idxOf? b=some j):as[j]?=some b:=by
 unfold List.idxOf? at h;obtain⟨h1,h2,_⟩:=B1.mp h;rw[Af h1];rw[beq_iff_eq]at h2;rw[h2]
theorem jo5 {as:List Addr} {b:Addr} (h:as.idxOf? b=none):b∉as:=λhb=>by
 unfold List.idxOf? at h;rw[F0]at h;have:=h b hb;simp at this
theorem jrx {as:List Addr} (nd:as.Nodup) {j:Nat} {a:Addr} (h:as[j]?=some a):as.idxOf? a=some j:=by
 obtain⟨h1,h2⟩:=Aq.mp h;cases e:as.idxOf? a with
 |none=>exact absurd (A7 h) (jo5 e)
 |some i =>
  have e':=jc4 e;obtain⟨h3,h4⟩:=Aq.mp e';rw[(Ff nd).mp (h4.trans h2.symm)]
section
variable {X:Cx} {pins:List (Addr×Obj)} {σ:St} {H:Hp} {s:Am}
theorem jku {as:List Addr} {ks:List Str} {xv:List V} {xs:List Ai} {D:Addr} {idx:List Nat} {h3:Heap} {tk c:Nat} {Q:VK} (I:Inv X pins σ H s) (hk:∀b o,s.heap.get? b=some o->h3.get? b=some o)
  (hI:KS.ItsOk h3 as ks xs) (hx:Vals xv xs) (hup:∀a∈as,s.heap.objs.size<=a) (nd:as.Nodup) (hD:∀b o,s.heap.get? b=some o->b≠D) (hDH:H D=none) (hDa:D∉as) (hl:as.length < 64) (hidx:idx.Perm (A1 as.length))
  (hL:h3.get? D=some (Cu "list" (C5 (idx.map λi=>(as.map A5).getD i B3)) c))
  (q:∀H',Same H H'->H D=none->(∀a∈as,H a=none)->H' D=some (.lst (idx.map λi=>V.ref (IxV as ks xv i).1))->(∀i∈idx,H' (IxV as ks xv i).1=some (.tup [.str (IxV as ks xv i).2.1,(IxV as ks xv i).2.2]))->Q (.ref D) H') :
  EP X pins σ Q (.ref D) {s with heap:=h3,toks:=tk}:=by
 obtain⟨l1,l2,hp⟩:=hI;have lx:=hx.length;have old:∀{b o},H b=some o->b < s.heap.objs.size:=λe=>I.hok.lt e;have hidlt:∀i∈idx,i < as.length:=λi hi=>Br.mp (hidx.mem_iff.mp hi);have hlen:idx.length=as.length:=by rw[hidx.length_eq,Bx]
 have hsame:Same H (newH H D (idx.map λi=>V.ref (IxV as ks xv i).1) as ks xv):=λb o e=>by
  unfold newH;rw[if_neg (λz=>by rw[z,hDH]at e;cases e)];cases q:as.idxOf? b with
  |none=>exact e
  |some j =>
   have:=hup b (A7 (jc4 q));exact absurd (old e) (Nat.not_lt.mpr this)
 have hvals:Vals (idx.map λi=>V.ref (IxV as ks xv i).1) (idx.map λi=>(as.map A5).getD i B3):=by
  have:∀l:List Nat,(∀i∈l,i < as.length)->Vals (l.map λi=>V.ref (IxV as ks xv i).1) (l.map λi=>(as.map A5).getD i B3):=by
   intro l
   induction l with
   |nil=>intro _;exact .nil
   |cons i r ih =>
    intro hl;have hi:=hl i Ay;refine .cons ?_ (ih λj hj=>hl j (Az _ hj));show(as.map A5).getD i B3=A5 (as.getD i 0);simp[hi]
  exact this idx hidlt
 have hnew:HOk X.prog X.w (newH H D (idx.map λi=>V.ref (IxV as ks xv i).1) as ks xv) h3:=λb o e=>by
  by_cases hb:b=D
  ·subst hb;unfold newH at e;rw[if_pos rfl]at e;cases e;refine⟨?_,_,c,hvals,hL⟩;rw[Ab,hlen];exact jau (by omega)
  ·have e2:=e;unfold newH at e2;rw[if_neg hb]at e2;cases qi:as.idxOf? b with
   |none =>
    rw[qi]at e2;refine(I.hok b o e2).stay (λcc u _ z=>hk cc u z) (λcc z=>hsame _ _ z) λcc ys z=>hsame _ _ z
   |some j =>
    rw[qi]at e2;cases e2;obtain⟨k,t,x,g1,g2,g3⟩:=hp j b (jc4 qi);have hjl:j < xv.length:=by
     have:=(Aq.mp g2).1;omega
    have ev:RelV (xv.getD j .non) x:=by
     obtain⟨u,hu,ru⟩:=hx.get (Af hjl);rw[g2]at hu;cases hu;have:xv.getD j .non=xv[j]:=by simp[hjl]
     rw[this];exact ru
    have ek:ks.getD j ⟨#[]⟩=k:=by simp[g1]
    refine⟨by show 2<=Ap;decide,[.str k t,x],.cons (by rw[ek];exact⟨t,rfl⟩) (.cons ev .nil),?_⟩;exact⟨_,g3,rfl,⟨_,rfl⟩,rfl⟩
 refine⟨.ref D,_,I.call' (s':={ s with heap:=h3,toks:=tk}) (ch:=[]) rfl ?_ hnew I.bare (λb hb=>nomatch hb),rfl,q _ hsame hDH (λa ha=>I.hok.fresh (hup a ha)) (by unfold newH;rw[if_pos rfl]) λi hi=>?_⟩
 ·refine⟨λb o e n _ _=>hk b o e,λb o e n _ _=>⟨o.slots,hk b o e⟩,λb o e n _=>?_,λb o e _=>⟨o,hk b o e⟩,λb ys z=>hsame _ _ z,λb o' u z=>hsame _ _ z,λb ps z=>⟨#[],by rw[Array.append_empty];exact hsame _ _ z⟩⟩;have hlt:=Aw e;unfold newH;rw[if_neg (hD b o e)];cases qi:as.idxOf? b with
  |none=>exact n
  |some j=>exact absurd hlt (Nat.not_lt.mpr (hup b (A7 (jc4 qi))))
 ·have hi':=hidlt i hi;have ea:(IxV as ks xv i).1=as[i]:=by show as.getD i 0=_;simp[hi']
  have eg:as[i]?=some as[i]:=Af hi';have ne:as[i]≠D:=λz=>hDa (z▸Ck hi');rw[ea];unfold newH;rw[if_neg ne,jrx nd eg];rfl
end
def jhz:List V->Hp->VK->Prop:=λxs H Q=>∃(v d:Addr) (ks:List Str) (xv:List V),xs=[.ref v]/\H v=some (jjx d v)/\ks.length=xv.length/\H d=some (.dK ((ks.zip xv).map λp=>((Cy p.1:Key),p.2)))/\ks.length < 64/\ks.Nodup/\xv.all jfh=true /\
 ∀(D:Addr) (as:List Addr) (idx:List Nat) (H':Hp),as.length=ks.length->idx.Perm (A1 ks.length)->(idx.map λi=>ks.getD i ⟨#[]⟩).Pairwise (λa b=>¬b.cps.toList < a.cps.toList)->Same H H'->H D=none->(∀a∈as,H a=none) ->
  H' D=some (.lst (idx.map λi=>V.ref (IxV as ks xv i).1))->(∀i∈idx,H' (IxV as ks xv i).1=some (.tup [.str (IxV as ks xv i).2.1,(IxV as ks xv i).2.2]))->Q (.ref D) H'
theorem jnt {xs:List Ai}:∀{ks:List Str} {xv:List V} {vs:List (Key×Ai)},ks.length=xv.length->KV ((ks.zip xv).map λp=>((Cy p.1:Key),p.2)) vs->vs.length=ks.length/\Vals xv (vs.map (·.2))/\vs.map (·.1)=ks.map (Cy:Str->Key)
 |[],[],_,_,.nil=>⟨rfl,.nil,rfl⟩
 |k::ks,x::xv,_,hl,.cons r rr=>by
  obtain⟨h1,h2,h3⟩:=jnt (xs:=xs) (ks:=ks) (xv:=xv) (by simpa using hl) rr;refine⟨by simp[h1],.cons r.2 h2,?_⟩;rw[Be,Be,h3,<-r.1]
theorem j3t {ks:List Str} {p:Array Nat} {n:Nat} (hz:p.size=n) (h:KS.SP (KS.ltK ks) p n):(p.toList.map λi=>ks.getD i ⟨#[]⟩).Pairwise (λa b=>¬b.cps.toList < a.cps.toList):=by
 rw[List.pairwise_iff_getElem];intro i j hi hj hij;rw[Ab,Er,hz]at hi hj;have:=h i j hij hj;unfold KS.ltK KS.g at this;have e1:p.getD i 0=p[i]:=by simp[hz,hi]
 have e2:p.getD j 0=p[j]:=by simp[hz,hj]
 rw[e1,e2]at this;simp only[List.getElem_map,Array.getElem_toList];exact of_decide_eq_false this
theorem jhl {X:Cx} (hh:X.A.handled=none):CallR X (.builtin "sorted") jhz:=by
 intro pins s σ H xs us Q I r h;obtain⟨v,d,ks,xv,rfl,hv,hl,hd,h64,nd,fl,q⟩:=h;obtain⟨u,rfl,ru⟩:=jio r;cases(show u=A5 v from ru);have ov:s.heap.get? v=some {cls:=.type "dict_items",data:=.fields #[.ref d]}:=(I.hok v _ hv).1;obtain⟨z,hsys,vs',rel,hDict⟩:=I.hok d _ hd;obtain⟨ep,hat⟩:=hDict.dictAt;obtain⟨lv,hvals,hkeys⟩:=jnt (xs:=[]) hl rel;refine KS.sorted_of (R:=λvs s1=>∃(h':Heap) (tk:Nat) (as:List Addr),vs=as.map A5/\s1={ s with heap:=h',toks:=tk}/\(∀b o,s.heap.get? b=some o->h'.get? b=some o)/\as.length=vs'.length/\KdxG (ja6 X.prog X.w) vs' s.heap.objs.size h' as)
  (kdx_collect (knd:=ja6 X.prog X.w) (kvs:=vs') (ep:=ep) hh ⟨_,ov,rfl,rfl⟩ hat (by rw[lv];exact jau (by omega)) λh' tk as hk hl hG=>⟨h',tk,as,rfl,rfl,hk,hl,hG⟩) ?_
 rintro vs s1 ⟨h',tk,as,rfl,rfl,hk,hla,hG⟩
 have hlen:as.length=ks.length:=hla.trans lv;have its:KS.ItsOk h' as ks (vs'.map (·.2)):=⟨hlen,by rw[Ab,hla],λj a ha=>by
  obtain⟨key,k,x,e1,e2,e3⟩:=hG.pairs j a ha;have hk1:(vs'.map (·.1))[j]?=some k:=by rw[A0,e1];rfl
  rw[hkeys,A0]at hk1;cases eq:ks[j]? with
  |none=>rw[eq]at hk1;cases hk1
  |some k0 =>
   rw[eq]at hk1;have hk2:(Cy k0:Key)=k:=A6 hk1;subst hk2;rcases ja1 (k:=Cy k0) (v:=key) (show jmb (Cy k0) key=true from e2)with⟨i,t,z,_⟩ | ⟨y,t,z,rfl⟩
   ·cases z
   ·cases z;exact⟨k0,t,x,rfl,by rw[A0,e1];rfl,e3⟩⟩
 have hup:∀a∈as,s.heap.objs.size<=a:=λa ha=>D6 (hG.above a ha);have ndA:as.Nodup:=hG.rise.imp λh=>Bm h;have hDa:h'.objs.size∉as:=λhm=>Ea _ (hG.there hm);have hs':∀b o,s.heap.get? b=some o->b≠h'.objs.size:=λb o e=>Bm (Aw (hk b o e));have hsH:H h'.objs.size=none:=(I.hok.kept hk).fresh (Al _);refine⟨by rw[Ab,hlen];exact jau (by omega),?_⟩;have hoL:(h'.push (Cu "list" (as.map A5).toArray 0)).get? h'.objs.size=some (Cu "list" (as.map A5).toArray 0):=A8 _ rfl;have its2:∀h4:Heap,(∀b o,b≠h'.objs.size->(h'.push (Cu "list" (as.map A5).toArray 0)).get? b=some o->h4.get? b=some o)->KS.ItsOk h4 as ks (vs'.map (·.2)):=λh4 k4=>⟨its.1,its.2.1,λj a ha=>by
  obtain⟨k,t,x,e1,e2,e3⟩:=its.2.2 j a ha;exact⟨k,t,x,e1,e2,k4 a _ (λz=>hDa (z▸A7 ha)) (Ag _ e3)⟩⟩
 have keep4:∀h4:Heap,(∀b o,b≠h'.objs.size->(h'.push (Cu "list" (as.map A5).toArray 0)).get? b=some o->h4.get? b=some o)->∀b o,s.heap.get? b=some o->h4.get? b=some o:=λh4 k4 b o e =>
  k4 b o (hs' b o e) (Ag _ (hk b o e))
 by_cases h2:2<=(as.map A5).length
 ·refine KS.ls_sort (s:={ s with heap:=h'.push (Cu "list" (as.map A5).toArray 0),toks:=tk}) hoL h2 (by rw[Ab];omega) λe1 h4 ha4 k4=>?_;have its4:=its2 h4 k4;obtain⟨fs,f1,f2,f3⟩:=KS.katTups its4;rw[Ab]at h2;refine kat_kind (s:={ s with heap:=h4,toks:=tk}) (T:=E9 "str") f1 (by omega) (λf hf=>?_) rfl ?_
  ·obtain⟨k,t,rfl⟩:=f3 f hf;exact .now
  ·rw[Ab];have hn:0 < as.length:=by omega
   have hwi:=KS.wi_sort hn;refine KS.wp_run (n:=as.length) (P:=KS.Pm as.length) (c:=KS.ltK ks) (St:=λs'=>s'={ s with heap:=h4,toks:=tk}) (λi j C s' hi hj hs hC=>?_) _ _ hwi rfl λs' hs'=>?_
   ·subst hs;refine KS.ask_items its4 nd (λx hx s''=>?_) hi hj (hC _ rfl);obtain⟨j,hj⟩:=Cp.mp hx;have hjl:j < xv.length:=by
     have:=(Aq.mp hj).1;rw[Ab]at this;omega
    obtain⟨u,hu,ru⟩:=hvals.get (Af hjl);rw[hj]at hu;cases hu;have fx:jfh xv[j]=true:=Fh.mp fl _ (Ck hjl);have:=jwd (A:=X.A.in1.in1) (s:=s'') ru ru fx fx;have e1:eqV xv[j] xv[j]=true:=by
     cases ex:xv[j]<;>simp[eqV]<;>(rw[ex]at fx;cases fx)
    rw[e1]at this;exact this
   ·subst hs';refine⟨ha4,λh3 c sb hL3=>⟨rfl,?_⟩⟩;have hpm:KS.Pm as.length (KS.run (KS.ltK ks) (kas_sort as.length)):=KS.Wi.out _ hwi;have hsp:=KS.sort_ok (KS.ordK ks) (n:=as.length) hn;have hsz:=hpm.size;have hidx:(KS.run (KS.ltK ks) (kas_sort as.length)).toList.Perm (A1 as.length):=by
     have:=Array.perm_iff_toList_perm.mp hpm;simpa using this
    have k3:∀b o,b≠h'.objs.size->(h'.push (Cu "list" (as.map A5).toArray 0)).get? b=some o->h3.get? b=some o:=λb o hb e=>(sb.2 b hb).trans (k4 b o hb e);exact jku (s:=s) (tk:=tk) (xv:=xv) I (keep4 h3 k3) (its2 h3 k3) hvals hup ndA hs' hsH hDa (by omega) hidx hL3 λH' a1 a2 a3 a4 a5=>q _ as _ H' hlen (by rw[<-hlen];exact hidx) (j3t hsz hsp) a1 a2 a3 a4 a5
 ·refine KS.ls_short (s:={ s with heap:=h'.push (Cu "list" (as.map A5).toArray 0),toks:=tk}) hoL (by omega) λh4 c ha4 k4=>⟨rfl,?_⟩;rw[Ab]at h2;have el:as.map A5=(A1 as.length).map λi=>(as.map A5).getD i B3:=by
   apply Ej (by simp);intro i h1 h2;simp at h1;simp[h1]
  rw[el]at ha4;refine jku (s:=s) (tk:=tk) (xv:=xv) (idx:=A1 as.length) I (keep4 h4 k4) (its2 h4 k4) hvals hup ndA hs' hsH hDa (by omega) (List.Perm.refl _) ha4 λH' a1 a2 a3 a4 a5=>q _ as _ H' hlen (by rw[<-hlen]) ?_ a1 a2 a3 a4 a5;have:(A1 as.length).length<=1:=by simp;omega
  match hr:A1 as.length,this with
  |[],_=>exact .nil
  |[i],_=>exact List.pairwise_singleton _ _
end L2
namespace L2
open PySem PySem.Spec PyProof.Rows
section
variable {prog:Bg} {w:Bw} {A:Cb} {E:Ai->Am->Prop} {s:Am}
theorem jbh {it t:Addr} {i:Nat} {items:Array Ai} {x:Ai} {Q:Ai->Am->Prop} (hit:s.heap.IsTupleIter it t i) (ht:s.heap.IsTuple t items) (hx:items[i]?=some x)
  (hQ:∀h',h'.IsTupleIter it t (i+1)->Dg it s.heap h'->Q x {s with heap:=h'}):A3 (Bc prog w) A (Bs (.ref it)) Q E s:=by
 obtain⟨o,ho,hc,hd⟩:=id hit;obtain⟨ol,hol,_,nl,hdl⟩:=ht;unfold Bs;refine Ad (Cj (name:=Di "__next__") hit.typeIs Ep
  (C7 Ep hit.typeIs F.entry_tuple_iterator_next ?_ (F.args_tuple_iterator_next_1 _)))
 show A3 _ _ (field (.ref it) 0>>=_) _ _ s;refine Ad (B6 ho hd (x:=.ref t) rfl ?_);show A3 _ _ (if (A5 t==B3)=true then _ else _) _ _ s;rw[if_neg (show ¬((A5 t==B3)=true)from Ae)];show A3 _ _ (field (.ref it) 1>>=_) _ _ s;refine Ad (B6 ho hd (x:=.int i 0) rfl ?_);show A3 _ _ (seqItems? (.ref t)>>=_) _ _ s;refine Ad (C0 hol hdl ?_);simp only[Bp,hx];refine Ad (wpAny_setField ho hd (by simp) (Av ⟨x,rfl,Av (hQ _ ?_ (Ca ..))⟩));exact⟨_,Dl _ ho (Obj.isFreed_of_fields (Obj.data_mapFields hd _)),(Obj.cls_mapFields ..).trans hc,by
  rw[Obj.data_mapFields hd];simp[Ey]⟩
theorem jcj {it t:Addr} {i:Nat} {items:Array Ai} {Q:Ai->Am->Prop} (hh:A.handled=none) (hit:s.heap.IsTupleIter it t i) (ht:s.heap.IsTuple t items) (hx:items[i]?=none)
  (hE:∀h' e,Heap.ExtBut it s.heap h'->(∃o,h'.get? e=some o/\o.cls=.type "StopIteration")->E (.ref e) {s with heap:=h'}) :
  A3 (Bc prog w) A (Bs (.ref it)) Q E s:=by
 obtain⟨o,ho,hc,hd⟩:=id hit;obtain⟨ol,hol,_,nl,hdl⟩:=ht;unfold Bs;refine Ad (Cj (name:=Di "__next__") hit.typeIs Ep
  (C7 Ep hit.typeIs F.entry_tuple_iterator_next ?_ (F.args_tuple_iterator_next_1 _)))
 show A3 _ _ (field (.ref it) 0>>=_) _ _ s;refine Ad (B6 ho hd (x:=.ref t) rfl ?_);show A3 _ _ (if (A5 t==B3)=true then _ else _) _ _ s;rw[if_neg (show ¬((A5 t==B3)=true)from Ae)];show A3 _ _ (field (.ref it) 1>>=_) _ _ s;refine Ad (B6 ho hd (x:=.int i 0) rfl ?_);show A3 _ _ (seqItems? (.ref t)>>=_) _ _ s;refine Ad (C0 hol hdl ?_);simp only[Bp,hx];refine Ad (wpAny_rule (Ad (wpAny_setField ho hd (by simp) ?_)));show A3 _ _ (newExc (.type "StopIteration") []>>=_) _ _ _;refine Ad ?_;simp only[newExc,newTuple];refine Ad (Dd ?_ (by size_fits));refine Ad (m:=firstArgMember _ _) (wpAny_of_eq (a:=B3) (by first | rfl | (simp only[firstArgMember];rfl)) ?_);refine Dd ?_ (by size_fits);simp only[raiseNew];refine Ad (wpAny_handled ?_)
 first | rw[show A.in1.handled=none from hh] | rw[hh]
 refine Ad (Av (wpAny_throw ?_));exact hE _ _ (((Ca ..).extBut.push _).push _) ⟨_,A8 _ rfl,rfl⟩
theorem jpm {z TI TO i1 i2 l1 l2:Addr} {k:Nat} {xs ys:Array Ai} {x y a b:Ai} {Q:Ai->Am->Prop} (D:ZipApart z TI TO i1 i2 l1 l2)
  (hz:IsZip s.heap z TI TO .none) (hTI:Cr s.heap TI (.ref i1) (.ref i2)) (hTO:Cr s.heap TO a b)
  (h1:s.heap.IsTupleIter i1 l1 k) (h2:s.heap.IsTupleIter i2 l2 k) (hl1:s.heap.IsTuple l1 xs) (hl2:s.heap.IsTuple l2 ys) (hx:xs[k]?=some x) (hy:ys[k]?=some y)
  (hQ:∀h',IsZip h' z TI TO (Ey s.heap.objs.size)->Cr h' TO x y->h'.IsTupleIter i1 l1 (k+1)->h'.IsTupleIter i2 l2 (k+1)->Cr h' s.heap.objs.size x y->h'.objs.size=s.heap.objs.size+1 ->
   (∀c o,c≠z->c≠TO->c≠i1->c≠i2->s.heap.get? c=some o->h'.get? c=some o)->Q (.ref s.heap.objs.size) {s with heap:=h'}) :
  A3 (Bc prog w) A (Builtin.«zip.__next__» ⟨[.ref z],[]⟩) (λfin s'=>∃v,fin=.done (.ret v)/\Q v s') E s:=by
 show A3 _ _ (field (.ref z) 2>>=_) _ _ _;refine Ad (B6 hz rfl (x:=.bool false) rfl ?_);show A3 _ _ (field (.ref z) 3>>=_) _ _ _;refine Ad (B6 hz rfl (x:=.ref TI) rfl ?_);refine Ad (C0 hTI rfl ?_);show A3 _ _ (Bq (.ref z)>>=_) _ _ _;refine Ad ?_;unfold Bq;refine Ad (B6 hz rfl (x:=.none) rfl (Av ?_));simp only[if_true];refine Ad (wpAny_rule ?_);refine Ad (B6 hz rfl (x:=.ref TO) rfl ?_);refine Ad (Eb hz (by simp) λg1 hz1 s1=>?_)
 replace hz1:IsZip g1 z TI TO .ellipsis:=hz1
 refine Ad ?_;simp only[List.zipIdx_cons,List.zipIdx_nil,List.forIn_cons,List.forIn_nil];refine Ad (Ad (wpAny_onRaise ?_));show A3 _ _ (Bs (.ref i1)>>=_) _ _ _;refine Ad (jbh (h1.extBut s1.extBut D.i1z) (hl1.extBut s1.extBut D.l1z) hx λg2 t2 s2=>Av ?_);have p2:Cr g2 TO a b:=s2.extBut _ _ D.TOi1 (s1.extBut _ _ D.TOz hTO);refine Ad (C0 p2 rfl ?_);refine Ad (wpAny_updateSeq_pair p2 λg3 p3 s3=>?_)
 replace p3:Cr g3 TO x b:=p3
 refine Ad (wpAny_letGo (Av ?_));refine Ad (Ad (wpAny_onRaise ?_));show A3 _ _ (Bs (.ref i2)>>=_) _ _ _;refine Ad (jbh (((h2.extBut s1.extBut D.i2z).extBut s2.extBut D.i12.symm).extBut s3.extBut D.TOi2.symm)
  (((hl2.extBut s1.extBut D.l2z).extBut s2.extBut D.l2i1).extBut s3.extBut D.l2TO) hy λg4 t4 s4=>Av ?_)
 have p4:Cr g4 TO x b:=s4.extBut _ _ D.TOi2 p3;refine Ad (C0 p4 rfl ?_);refine Ad (wpAny_updateSeq_pair p4 λg5 p5 s5=>?_)
 replace p5:Cr g5 TO x y:=p5
 refine Ad (wpAny_letGo (Av (Av ?_)));refine Ad (C0 p5 rfl ?_);refine Ad (wpAny_newTuple ?_);have sz:g5.objs.size=s.heap.objs.size:=by rw[s5.1,s4.1,s3.1,s2.1,s1.1]
 have z5:IsZip g5 z TI TO .ellipsis:=s5.extBut _ _ D.TOz.symm (s4.extBut _ _ D.i2z.symm (s3.extBut _ _ D.TOz.symm (s2.extBut _ _ D.i1z.symm hz1)));have k5:∀c o,c≠z->c≠TO->c≠i1->c≠i2->s.heap.get? c=some o->g5.get? c=some o:=λc o c1 c2 c3 c4 e =>
  s5.extBut _ _ c2 (s4.extBut _ _ c4 (s3.extBut _ _ c2 (s2.extBut _ _ c3 (s1.extBut _ _ c1 e))))
 have u1:g5.IsTupleIter i1 l1 (k+1):=((t2.extBut s3.extBut D.TOi1.symm).extBut s4.extBut D.i12).extBut s5.extBut D.TOi1.symm;have u2:g5.IsTupleIter i2 l2 (k+1):=t4.extBut s5.extBut D.TOi2.symm;have zlt:z < g5.objs.size:=Aw z5;show A3 _ _ (Fv (.ref z) (.ref g5.objs.size)>>=_) _ _ _;refine Ad ?_;unfold Fv;have z6:IsZip (g5.push {cls:=.type "tuple",data:=.seq #[x,y]}) z TI TO .ellipsis:=Ag _ z5;refine Ad (Eb z6 (by simp) λg7 z7 s7=>?_)
 replace z7:IsZip g7 z TI TO (Ey g5.objs.size):=z7
 refine Eb z7 (by simp) λg8 z8 s8=>?_
 replace z8:IsZip g8 z TI TO (Ey g5.objs.size):=z8
 have up:∀c o,c≠z->g5.get? c=some o->g8.get? c=some o:=λc o c1 e=>s8.extBut _ _ c1 (s7.extBut _ _ c1 (Ag _ e));have T8:Cr g8 g5.objs.size x y:=s8.extBut _ _ (En zlt) (s7.extBut _ _ (En zlt) (A8 _ rfl));have e8:g8.objs.size=g5.objs.size+1:=by rw[s8.1,s7.1,Dz]
 rw[sz]at z8 T8 e8;refine Av ⟨_,rfl,?_⟩;show Q (.ref g5.objs.size) _;rw[sz];exact hQ g8 z8 (up _ _ D.TOz p5) (u1.at λo e=>up _ o D.i1z e) (u2.at λo e=>up _ o D.i2z e) T8 e8 λc o c1 c2 c3 c4 e=>up c o c1 (k5 c o c1 c2 c3 c4 e)
theorem js2 {z TI TO i1 i2 l1 l2:Addr} {k:Nat} {xs:Array Ai} {Q:Fin->Am->Prop} (hh:A.handled=none) (D:ZipApart z TI TO i1 i2 l1 l2)
  (hz:IsZip s.heap z TI TO .none) (hTI:Cr s.heap TI (.ref i1) (.ref i2)) (h1:s.heap.IsTupleIter i1 l1 k) (hl1:s.heap.IsTuple l1 xs) (hx:xs[k]?=none)
  (hE:∀h' e,(∀c o,c≠z->c≠i1->s.heap.get? c=some o->h'.get? c=some o)->(∃o,h'.get? e=some o/\o.cls=.type "StopIteration")->E (.ref e) {s with heap:=h'}) :
  A3 (Bc prog w) A (Builtin.«zip.__next__» ⟨[.ref z],[]⟩) Q E s:=by
 show A3 _ _ (field (.ref z) 2>>=_) _ _ _;refine Ad (B6 hz rfl (x:=.bool false) rfl ?_);show A3 _ _ (field (.ref z) 3>>=_) _ _ _;refine Ad (B6 hz rfl (x:=.ref TI) rfl ?_);refine Ad (C0 hTI rfl ?_);show A3 _ _ (Bq (.ref z)>>=_) _ _ _;refine Ad ?_;unfold Bq;refine Ad (B6 hz rfl (x:=.none) rfl (Av ?_));simp only[if_true];refine Ad (wpAny_rule ?_);refine Ad (B6 hz rfl (x:=.ref TO) rfl ?_);refine Ad (Eb hz (by simp) λg1 hz1 s1=>?_)
 replace hz1:IsZip g1 z TI TO .ellipsis:=hz1
 refine Ad ?_;simp only[List.zipIdx_cons,List.zipIdx_nil,List.forIn_cons,List.forIn_nil];refine Ad (Ad (wpAny_onRaise ?_));show A3 _ _ (Bs (.ref i1)>>=_) _ _ _;refine Ad (jcj hh (h1.extBut s1.extBut D.i1z) (hl1.extBut s1.extBut D.l1z) hx λg2 e s2 he=>?_);obtain⟨oe,hoe,hce⟩:=he;have z2:IsZip g2 z TI TO .ellipsis:=s2 _ _ D.i1z.symm hz1;have hez:e≠z:=λx=>by subst x;rw[z2]at hoe;cases hoe;simp at hce
 refine Eb z2 (by simp) λg3 _ s3=>hE g3 e (λc o c1 c3 x=>s3.extBut _ _ c1 (s2 _ _ c3 (s1.extBut _ _ c1 x))) ⟨oe,s3.extBut _ _ hez hoe,hce⟩
theorem jhf {z TI TO i1 i2 l1 l2:Addr} {k:Nat} {xs ys:Array Ai} {x y a b:Ai} {Q:Option Ai->Am->Prop} (D:ZipApart z TI TO i1 i2 l1 l2)
  (hz:IsZip s.heap z TI TO .none) (hTI:Cr s.heap TI (.ref i1) (.ref i2)) (hTO:Cr s.heap TO a b)
  (h1:s.heap.IsTupleIter i1 l1 k) (h2:s.heap.IsTupleIter i2 l2 k) (hl1:s.heap.IsTuple l1 xs) (hl2:s.heap.IsTuple l2 ys) (hx:xs[k]?=some x) (hy:ys[k]?=some y)
  (hQ:∀h',IsZip h' z TI TO (Ey s.heap.objs.size)->Cr h' TO x y->h'.IsTupleIter i1 l1 (k+1)->h'.IsTupleIter i2 l2 (k+1)->Cr h' s.heap.objs.size x y->h'.objs.size=s.heap.objs.size+1 ->
   (∀c o,c≠z->c≠TO->c≠i1->c≠i2->s.heap.get? c=some o->h'.get? c=some o)->Q (some (.ref s.heap.objs.size)) {s with heap:=h'}) :
  A3 (Bc prog w) A (pyNext (.ref z)) Q E s:=by
 have hT:s.TypeIs (.ref z) "zip":=⟨_,hz,rfl⟩;unfold pyNext;exact Ad (wpAny_attempt (Cj (name:=Di "__next__") hT Dq
  (C7 Dq hT F.entry_zip_next
   (jpm D hz hTI hTO h1 h2 hl1 hl2 hx hy λh' a1 a2 a3 a4 a5 a6 a7=>Av (hQ h' a1 a2 a3 a4 a5 a6 a7)) (F.args_zip_next_1 _))))
theorem ji0 {z TI TO i1 i2 l1 l2:Addr} {k:Nat} {xs:Array Ai} {Q:Option Ai->Am->Prop} (hh:A.handled=none) (D:ZipApart z TI TO i1 i2 l1 l2)
  (hz:IsZip s.heap z TI TO .none) (hTI:Cr s.heap TI (.ref i1) (.ref i2)) (h1:s.heap.IsTupleIter i1 l1 k) (hl1:s.heap.IsTuple l1 xs) (hx:xs[k]?=none)
  (hQ:∀h',(∀c o,c≠z->c≠i1->s.heap.get? c=some o->h'.get? c=some o)->Q none {s with heap:=h'}):A3 (Bc prog w) A (pyNext (.ref z)) Q E s:=by
 have hT:s.TypeIs (.ref z) "zip":=⟨_,hz,rfl⟩;unfold pyNext;refine Ad (wpAny_attempt (Cj (name:=Di "__next__") hT Dq
  (C7 Dq hT F.entry_zip_next (js2 hh D hz hTI h1 hl1 hx λh' e hk he=>?_) (F.args_zip_next_1 _))))
 obtain⟨o,ho,hc⟩:=he;refine Ad (wpAny_isInstance (T:="StopIteration") (b:=true) ⟨o,ho,hc⟩ isSubtype_stop ?_);exact Av (hQ _ hk)
end
abbrev zt1 (h:Heap) (l1:Addr):Heap:=h.push {cls:=.type "tuple_iterator",data:=.fields #[.ref l1,.int 0 0]}
abbrev zt2 (h:Heap) (l1 l2:Addr):Heap:=(zt1 h l1).push {cls:=.type "tuple_iterator",data:=.fields #[.ref l2,.int 0 0]}
abbrev zt3 (h:Heap) (l1 l2:Addr):Heap:=(zt2 h l1 l2).push {cls:=.type "tuple",data:=.seq #[.ref h.objs.size,.ref (zt1 h l1).objs.size]}
abbrev zt4 (h:Heap) (l1 l2:Addr):Heap:=(zt3 h l1 l2).push {cls:=.type "tuple",data:=.seq #[.none,.none]}
abbrev zt5 (h:Heap) (l1 l2:Addr):Heap:=(zt4 h l1 l2).push {cls:=.type "zip",data:=.fields #[.none,.bool false,.bool false,.ref (zt2 h l1 l2).objs.size,.ref (zt3 h l1 l2).objs.size]}
theorem jhg (l1 l2:Addr) (xs ys:Array Ai) :
  Meets (Builtin.«zip.__new__» ⟨[.type "zip",.ref l1,.ref l2],[]⟩) (λ_ R s=>s.heap.IsTuple l1 xs/\s.heap.IsTuple l2 ys /\
   R (.ok (.ret (.ref (zt4 s.heap l1 l2).objs.size))) {s with heap:=zt5 s.heap l1 l2}) :=
 .of_wp λprog w A R s h=>by
  obtain⟨hp,g,d,tk,os⟩:=s;obtain⟨hl1,hl2,h⟩:=h;have hsub:=sub_zip;have hL1:Heap.IsTuple (Shared.heap ⟨hp,g,d,tk,os⟩) l1 xs:=hl1;have hL2:Heap.IsTuple (Shared.heap ⟨hp.push {cls:=.type "tuple_iterator",data:=.fields #[.ref l1,.int 0 0]},g,d,tk,os⟩) l2 ys:=Heap.IsTuple.push hl2 _
  wp_walk using Dn hL1,Dn hL2
  exact⟨_,rfl,h⟩
section
variable {prog:Bg} {w:Bw} {A:Cb} {E:Ai->Am->Prop} {s:Am}
theorem jsn {l1 l2:Addr} {xs ys:Array Ai} {Q:Ai->Am->Prop} (hl1:s.heap.IsTuple l1 xs) (hl2:s.heap.IsTuple l2 ys)
  (h:∀h',IsZip h' (s.heap.objs.size+4) (s.heap.objs.size+2) (s.heap.objs.size+3) .none->Cr h' (s.heap.objs.size+2) (.ref s.heap.objs.size) (.ref (s.heap.objs.size+1)) ->
   Cr h' (s.heap.objs.size+3) .none .none->h'.IsTupleIter s.heap.objs.size l1 0->h'.IsTupleIter (s.heap.objs.size+1) l2 0 ->
   (∀c o,s.heap.get? c=some o->h'.get? c=some o)->Q (.ref (s.heap.objs.size+4)) {s with heap:=h'}) :
  A3 (Bc prog w) A (call (.type "zip") [.ref l1,.ref l2]) Q E s:=by
 refine callType_new F.called_zip (by decide) (F.typeCall_zip_2 _ _) (F.newCall_zip_2 _ _) (λobj=>F.args_object_init_3 obj _ _) F.entry_zip_new
  (jhg l1 l2 xs ys) ⟨hl1,hl2,?_⟩
 have z1:(zt1 s.heap l1).objs.size=s.heap.objs.size+1:=Dz ..;have z2:(zt2 s.heap l1 l2).objs.size=s.heap.objs.size+2:=by rw[Dz,z1]
 have z3:(zt3 s.heap l1 l2).objs.size=s.heap.objs.size+3:=by rw[Dz,z2]
 have z4:(zt4 s.heap l1 l2).objs.size=s.heap.objs.size+4:=by rw[Dz,z3]
 have g5:(zt5 s.heap l1 l2).get? (zt4 s.heap l1 l2).objs.size=some _:=A8 _ rfl;have g4:(zt5 s.heap l1 l2).get? (zt3 s.heap l1 l2).objs.size=some _:=Ag _ (A8 _ rfl);have g3:(zt5 s.heap l1 l2).get? (zt2 s.heap l1 l2).objs.size=some _:=Ag _ (Ag _ (A8 _ rfl));have g2:(zt5 s.heap l1 l2).get? (zt1 s.heap l1).objs.size=some _:=Ag _ (Ag _ (Ag _ (A8 _ rfl)));have g1:(zt5 s.heap l1 l2).get? s.heap.objs.size=some _:=Ag _ (Ag _ (Ag _ (Ag _ (A8 _ rfl))));show _/\_;rw[z2,z3,z4]at g5;rw[z1,z2]at g3;rw[z3]at g4;rw[z1]at g2;rw[z4];exact⟨⟨_,g5,rfl⟩,h _ g5 g3 g4 ⟨_,g1,rfl,rfl⟩ ⟨_,g2,rfl,rfl⟩ λc o x =>
  Ag _ (Ag _ (Ag _ (Ag _ (Ag _ x))))⟩
end
def Itz (K:Ah) (a b:Addr):It :=
 ⟨λi H=>∃xs ys x y,SqT K H a xs/\SqT K H b ys/\xs[i]?=some x/\ys[i]?=some y,
  λi H v H'=>∃T x y,v=.ref T/\H T=none/\H'=upd H T (.tup [x,y])/\(∀xs,SqT K H a xs->xs[i]?=some x)/\∀ys,SqT K H b ys->ys[i]?=some y,
  λi H=>∃xs,SqT K H a xs/\xs.length<=i⟩
theorem Inv.many {X:Cx} {pins:List (Addr×Obj)} {σ:St} {H:Hp} {s:Am} {h':Heap} {t':Nat} {fp:List Addr} {a:Addr} {o:HO} (I:Inv X pins σ H s) (hf:∀b∈fp,FpOk X pins H b) (k:∀b u,b∉fp->s.heap.get? b=some u->h'.get? b=some u)
  (ha:s.heap.objs.size<=a) (new:ObjOk X.prog X.w (upd H a o) h' a o):Inv X pins σ (upd H a o) {s with heap:=h',toks:=t'}:=by
 have hn:H a=none:=I.hok.fresh ha;have nf:∀b u,H b=some u->b∉fp:=λb u e z=>by rw[(hf b z).1]at e;cases e
 refine I.call' (s':={ s with heap:=h',toks:=t'}) (ch:=fp) rfl ⟨λb u q _ _ z=>k b u z q,λb u q _ _ z=>⟨u.slots,k b u z q⟩,λb u q n _=>?_,λb u q z=>⟨u,k b u z q⟩,λb xs q=>?_,λb u xs q=>?_,λb ps q=>⟨#[],?_⟩⟩ (λb u e=>?_) I.bare (λb hb=>?_)
 ·rw[jag (Bm (Bj (Aw q) ha))];exact n
 ·rw[jag (jad q hn)];exact q
 ·rw[jag (jad q hn)];exact q
 ·rw[jag (jad q hn),q];simp
 ·by_cases z:b=a
  ·subst z;rw[jah]at e;cases e;exact new
  ·rw[jag z]at e;refine(I.hok b u e).stay (λc v hc q=>k c v ?_ q) (λc q=>?_) λc ys q=>?_
   ·rcases hc with z | z
    ·rw[z];exact nf b u e
    ·exact nf c _ z
   ·rw[jag (jad q hn)];exact q
   ·rw[jag (jad q hn)];exact q
 ·obtain⟨f0,f1,f2,f3,f4,f5⟩:=hf b hb;exact⟨f3,f1,f4,f5⟩
theorem Inv.many0 {X:Cx} {pins:List (Addr×Obj)} {σ:St} {H:Hp} {s:Am} {h':Heap} {t':Nat} {fp:List Addr} (I:Inv X pins σ H s) (hf:∀b∈fp,FpOk X pins H b) (k:∀b u,b∉fp->s.heap.get? b=some u->h'.get? b=some u):Inv X pins σ H {s with heap:=h',toks:=t'}:=by
 have nf:∀b u,H b=some u->b∉fp:=λb u e z=>by rw[(hf b z).1]at e;cases e
 refine I.call' (s':={ s with heap:=h',toks:=t'}) (ch:=fp) rfl ⟨λb u q _ _ z=>k b u z q,λb u q _ _ z=>⟨u.slots,k b u z q⟩,λb u q n _=>n,λb u q z=>⟨u,k b u z q⟩,λb xs q=>q,λb u xs q=>q,λb ps q=>⟨#[],by rw[q];simp⟩⟩ (λb u e=>?_) I.bare (λb hb=>?_)
 ·refine(I.hok b u e).stay (λc v hc q=>k c v ?_ q) (λc q=>q) λc ys q=>q;rcases hc with z | z
  ·rw[z];exact nf b u e
  ·exact nf c _ z
 ·obtain⟨f0,f1,f2,f3,f4,f5⟩:=hf b hb;exact⟨f3,f1,f4,f5⟩
theorem js7 {P:Bg} {w:Bw} {K:Ah} {elts:List Expr} {kk:Nat} {pos:Pos} {a b z TI TO i1 i2:Addr} (D:ZipApart z TI TO i1 i2 a b):Turn P w K (.Tuple elts kk pos) (Itz K a b) [z,TI,TO,i1,i2] z
  (λi h=>IsZip h z TI TO .none/\Cr h TI (.ref i1) (.ref i2)/\(∃x y,Cr h TO x y)/\h.IsTupleIter i1 a i/\h.IsTupleIter i2 b i) where
 mem:=by simp
 obj:=λi h st c hc=>by
  obtain⟨hz,hI,⟨x,y,hO⟩,⟨o1,e1,c1,d1⟩,⟨o2,e2,c2,d2⟩⟩:=st;simp only[Ar,Ax,or_false]at hc;rcases hc with rfl | rfl | rfl | rfl | rfl
  ·exact⟨_,hz,λv q=>by have q':Data.fields _=Data.cell v:=q;cases q'⟩
  ·exact⟨_,hI,λv q=>by have q':Data.seq _ _=Data.cell v:=q;cases q'⟩
  ·exact⟨_,hO,λv q=>by have q':Data.seq _ _=Data.cell v:=q;cases q'⟩
  ·exact⟨o1,e1,λv q=>by rw[d1]at q;cases q⟩
  ·exact⟨o2,e2,λv q=>by rw[d2]at q;cases q⟩
 keep:=λi h h' st k=>by
  obtain⟨hz,hI,⟨x,y,hO⟩,h1,h2⟩:=st;exact⟨k z (by simp) _ hz,k TI (by simp) _ hI,⟨x,y,k TO (by simp) _ hO⟩,h1.at λo e=>k i1 (by simp) o e,h2.at λo e=>k i2 (by simp) o e⟩
 item:=by
  intro X hP hw hK hc i pins s σ H E I hf st hg;subst hP hw hK;obtain⟨hz,hI,⟨x0,y0,hO⟩,h1,h2⟩:=st;obtain⟨xs,ys,x,y,qa,qb,ex,ey⟩:=hg;obtain⟨its,rv,p,_⟩:=I.tuple qa;obtain⟨jts,rw',p',_⟩:=I.tuple qb;obtain⟨u,hu,ru⟩:=rv.get ex;obtain⟨u',hu',ru'⟩:=rw'.get ey;refine jhf D hz hI hO h1 h2 (show s.heap.IsTuple a its.toArray from p) (show s.heap.IsTuple b jts.toArray from p') (x:=u) (y:=u') (by simpa using hu) (by simpa using hu') λh' a1 a2 a3 a4 a5 a6 a7=>⟨_,rfl,?_⟩;refine wpAny_letOwnedTupleGo_zip (s:={ s with heap:=h'}) a1 λh'' b1 b2=>?_;have T:h''.get? s.heap.objs.size=some {cls:=.type "tuple",data:=.seq #[u,u']}:=b2.extBut _ _ (En (Aw hz)) a5;have Tn:H s.heap.objs.size=none:=I.hok.fresh (Al _);have kp:∀c o,c∉[z,TI,TO,i1,i2]->s.heap.get? c=some o->h''.get? c=some o:=λc o hc e=>by
   simp only[Ar,Ax,or_false,not_or]at hc;exact b2.extBut _ _ hc.1 (a7 c o hc.1 hc.2.2.1 hc.2.2.2.1 hc.2.2.2.2 e)
  refine⟨.ref s.heap.objs.size,upd H s.heap.objs.size (.tup [x,y]),I.many (t':=s.toks) hf kp (Al _) ⟨by show 2<=Ap;decide,[u,u'],.cons ru (.cons ru' .nil),_,T,rfl,⟨_,rfl⟩,rfl⟩,rfl,⟨_,x,y,rfl,Tn,rfl,λzs q=>by rw[I.tuple_inj q qa];exact ex,λzs q=>by rw[I.tuple_inj q qb];exact ey⟩,
   ⟨b1,b2.extBut _ _ D.TIz (a7 _ _ D.TIz D.TITO D.TIi1 D.TIi2 hI),⟨_,_,b2.extBut _ _ D.TOz a2⟩,a3.extBut b2.extBut D.i1z,a4.extBut b2.extBut D.i2z⟩,λc hc=>?_⟩
  have hlt:c < s.heap.objs.size:=by
   simp only[Ar,Ax,or_false]at hc;rcases hc with rfl | rfl | rfl | rfl | rfl
   ·exact Aw hz
   ·exact Aw hI
   ·exact Aw hO
   ·obtain⟨_,e,_⟩:=h1;exact Aw e
   ·obtain⟨_,e,_⟩:=h2;exact Aw e
  rw[jag (Bm hlt)];exact(hf c hc).1
 done:=by
  intro X hP hw hK hc i pins s σ H E I hf st hg;subst hP hw hK;obtain⟨hz,hI,_,h1,h2⟩:=st;obtain⟨xs,hq,hx⟩:=hg;obtain⟨its,rv,p,_⟩:=I.tuple hq;have hl:=rv.length;refine ji0 (I.ok.hd hc) D hz hI h1 (show s.heap.IsTuple a its.toArray from p) (by simp;omega) λh' k=>⟨rfl,I.many0 (t':=s.toks) hf λc o hc e=>?_⟩;simp only[Ar,Ax,or_false,not_or]at hc;exact k c o hc.1 hc.2.2.2.1 e
 self:=λ_ _ _ _ _ st h=>wpAny_pyIter_zip st.1 h
def iZip (K:Ah) (ta:TA):TI:=λσ H R=>ta σ H λvs H1=>∃a b,vs=[.ref a,.ref b]/\(∃xs,SqT K H1 a xs)/\(∃ys,SqT K H1 b ys)/\R (Itz K a b) H1
theorem jwi:Bv "zip"=some (.type "zip"):=by decide +kernel
theorem j0l {X:Cx} {elts:List Expr} {kk:Nat} {tpos:Pos} {e1 e2:Expr} {ta:TA} {p pos:Pos} (hg:Gl X "zip") (hm:X.mg "zip"=none) (ha:PA X [e1,e2] ta) (hs:Au [e1,e2] X.env=[(false,eval e1 X.env),(false,eval e2 X.env)]:=by rfl) (hs2:Au [e2] X.env=[(false,eval e2 X.env)]:=by rfl) :
  PI X (.Tuple elts kk tpos) (.Call (.Name "zip" p) [e1,e2] [] pos) (iZip X.K ta):=by
 intro pins s σ H R I h;refine Call_ (je1 I hg hm jwi (Co (thn (ha pos pins s σ H _ I h) λus s1 ⟨vs,H1,I1,r1,q1⟩=>?_) (by rw[hs,hs2]) (by rw[hs2];rfl)));obtain⟨a,b,e,⟨xs,qa⟩,⟨ys,qb⟩,q⟩:=q1;subst e;cases r1 with
 |cons r rr =>
  cases rr with
  |cons r' rr =>
   cases rr;cases r;cases r';obtain⟨its,rv,pp,_⟩:=I1.tuple qa;obtain⟨jts,rw',pp',_⟩:=I1.tuple qb;have la:a < s1.heap.objs.size:=by obtain⟨_,e,_⟩:=id pp;exact Aw e
   have lb:b < s1.heap.objs.size:=by obtain⟨_,e,_⟩:=id pp';exact Aw e
   refine jsn (show s1.heap.IsTuple a its.toArray from pp) (show s1.heap.IsTuple b jts.toArray from pp') λh' a1 a2 a3 a4 a5 a6=>wpAny_pyIter_zip (s:={ s1 with heap:=h'}) a1 ?_;refine⟨_,_,_,_,H1,rfl,I1.kept (t':=s1.toks) a6,js7 (zipApart_new la lb),⟨a1,a2,⟨_,_,a3⟩,a4,a5⟩,λc hc=>?_,q⟩;have hlt:s1.heap.objs.size<=c:=by
    simp only[Ar,Ax,or_false]at hc;rcases hc with rfl | rfl | rfl | rfl | rfl<;>omega
   exact I1.fpOk hlt (I1.hok.fresh hlt)
theorem jk7 {P:Bg} {w:Bw} {A:Cb} (hh:A.handled=none) (it t:Addr) (hne:t≠it) (xs:Array Ai):Draws P w A it [it,t] xs.size (λi v=>xs[i]?=some v) (λi h=>h.IsTupleIter it t i/\h.IsTuple t xs) where
 live:=λ_ _ z=>by obtain⟨⟨o,q,_⟩,_⟩:=z;exact⟨o,q⟩
 frame:=λ_ _ _ z k=>⟨z.1.at λo e=>k it (.head _) o e,z.2.at λo e=>k t (.tail _ (.head _)) o e⟩
 item:=λi s Q E hi z k=>jbh z.1 z.2 (x:=xs[i]) (B4 hi) λh' a b=>k _ h' s.toks (B4 hi) ⟨a,z.2.extBut b.extBut hne⟩ b
 done:=λs Q E z k=>jcj hh z.1 z.2 (by simp) k
abbrev et1 (h:Heap) (l:Addr):Heap:=h.push {cls:=.type "tuple_iterator",data:=.fields #[.ref l,.int 0 0]}
abbrev et2 (h:Heap) (l:Addr):Heap:=(et1 h l).push {cls:=.type "enumerate",data:=.fields #[.none,.bool false,.ref h.objs.size,Ey 0,.none,.none]}
theorem jf6 (l:Addr) (xs:Array Ai) (n:Nat) (dc:Option Addr) (sl:Array (Option Ai)) :
  Meets (Builtin.«enumerate.__new__» ⟨[.type "enumerate",.ref l],[]⟩) (λ_ R s=>s.heap.get? l=some {cls:=.type "tuple",dict:=dc,data:=.seq xs n,slots:=sl} /\
   R (.ok (.ret (.ref (et1 s.heap l).objs.size))) {s with heap:=et2 s.heap l}) :=
 .of_wp λP w A R s h=>by
  obtain⟨hp,g,d,tk,os⟩:=s;obtain⟨hl,h⟩:=h;have hsub:=sub_enumerate;have hT:Heap.IsTuple (Shared.heap ⟨hp,g,d,tk,os⟩) l xs:=⟨_,hl,rfl,n,rfl⟩
  wp_walk using Ek hl
  refine wpAny_stack_any λst=>Av ?_
  split
  ·rename_i c _ _ _ _ _;cases(c==E9 "enumerate")
   ·wp_walk using Ek hl,Dn hT
    exact⟨_,rfl,h⟩
   ·wp_walk using Ek hl,Dn hT
    exact⟨_,rfl,h⟩
  ·wp_walk using Ek hl,Dn hT
   exact⟨_,rfl,h⟩
section
variable {prog:Bg} {w:Bw} {A:Cb} {E:Ai->Am->Prop} {s:Am}
theorem jpg {l:Addr} {xs:Array Ai} {Q:Ai->Am->Prop} (hl:s.heap.IsTuple l xs)
  (h:∀h',IsEnum h' (s.heap.objs.size+1) s.heap.objs.size 0 .none->h'.IsTupleIter s.heap.objs.size l 0->(∀c o,s.heap.get? c=some o->h'.get? c=some o)->Q (.ref (s.heap.objs.size+1)) {s with heap:=h'}) :
  A3 (Bc prog w) A (call (.type "enumerate") [.ref l]) Q E s:=by
 obtain⟨⟨c,dc,dt,sl⟩,hl,hc,n,hd⟩:=hl;obtain rfl:c=.type "tuple":=hc;obtain rfl:dt=.seq xs n:=hd;refine callType_new F.called_enumerate (by decide) (F.typeCall_enumerate_1 _) (F.newCall_enumerate_1 _) (λo=>F.args_object_init_2 o _) F.entry_enumerate_new (jf6 l xs n dc sl) ⟨hl,?_⟩;have z1:(et1 s.heap l).objs.size=s.heap.objs.size+1:=Dz ..;have g2:(et2 s.heap l).get? (et1 s.heap l).objs.size=some _:=A8 _ rfl;have g1:(et2 s.heap l).get? s.heap.objs.size=some _:=Ag _ (A8 _ rfl);show _/\_;rw[z1]at g2 ⊢;exact⟨⟨_,g2,rfl⟩,h _ g2 ⟨_,g1,rfl,rfl⟩ λc o x=>Ag _ (Ag _ x)⟩
end
def Ite (K:Ah) (a:Addr):It :=
 ⟨λi H=>∃xs x,SqT K H a xs/\xs[i]?=some x,
  λi H v H'=>∃T x,v=.ref T/\H T=none/\H'=upd H T (.tup [.int i,x])/\∀xs,SqT K H a xs->xs[i]?=some x,
  λi H=>∃xs,SqT K H a xs/\xs.length=i⟩
theorem jpx {P:Bg} {w:Bw} {K:Ah} {elts:List Expr} {kk:Nat} {pos:Pos} {a e it:Addr} (h1:e≠it) (h2:a≠it) (h3:e≠a):Turn P w K (.Tuple elts kk pos) (Ite K a) [e,it] e
  (λi h=>(∃old,IsEnum h e it i old)/\h.IsTupleIter it a i) where
 mem:=by simp
 obj:=λi h st c hc=>by
  obtain⟨⟨x,he⟩,⟨o1,e1,c1,d1⟩⟩:=st;simp only[Ar,Ax,or_false]at hc;rcases hc with rfl | rfl
  ·exact⟨_,he,λv q=>by have q':Data.fields _=Data.cell v:=q;cases q'⟩
  ·exact⟨o1,e1,λv q=>by rw[d1]at q;cases q⟩
 keep:=λi h h' st k=>⟨st.1.imp λ_ q=>k e (by simp) _ q,st.2.at λo q=>k it (by simp) o q⟩
 item:=by
  intro X hP hw hK hc i pins s σ H E I hf st hg;subst hP hw hK;obtain⟨⟨old,he⟩,hi⟩:=st;obtain⟨xs,x,qa,ex⟩:=hg;obtain⟨its,rv,p,_⟩:=I.tuple qa;obtain⟨u,hu,ru⟩:=rv.get ex;have hlt:i < its.toArray.size:=by simpa using(Aq.mp hu).1
  have hef:e∉[it,a]:=λz=>by
   simp only[Ar,Ax,or_false]at z;exact z.elim h1 h3
  refine wpAny_pyNext_enum_itemD (jk7 (A:=X.A.in1) (I.ok.hd hc) it a h2 its.toArray) he ⟨hi,show s.heap.IsTuple a its.toArray from p⟩ hlt h1 hef λy h' tk a1 a2 a3 a4 a5 a6=>⟨_,rfl,?_⟩;obtain rfl:u=y:=by
   rw[List.getElem?_toArray,hu]at a1;cases a1;rfl
  refine wpAny_letOwnedTupleGo_enum (s:={ s with heap:=h',toks:=tk+1}) a2 λh'' b1 b2=>?_;have T:h''.get? s.heap.objs.size=some {cls:=.type "tuple",data:=.seq #[.int i tk,u]}:=b2.extBut _ _ (En (Aw he)) a4;have Tn:H s.heap.objs.size=none:=I.hok.fresh (Al _);have kp:∀c o,c∉[e,it]->s.heap.get? c=some o->h''.get? c=some o:=λc o hc e=>by
   simp only[Ar,Ax,or_false,not_or]at hc;exact b2.extBut _ _ hc.1 (a6 c o hc.1 hc.2 e)
  refine⟨.ref s.heap.objs.size,upd H s.heap.objs.size (.tup [.int i,x]),I.many (t':=tk+1) hf kp (Al _) ⟨by show 2<=Ap;decide,[.int i tk,u],.cons ⟨tk,rfl⟩ (.cons ru .nil),_,T,rfl,⟨_,rfl⟩,rfl⟩,rfl,⟨_,x,rfl,Tn,rfl,λzs q=>by rw[I.tuple_inj q qa];exact ex⟩,
   ⟨⟨u,by rw[show((i+1:Nat):Int)=(i:Int)+1 from rfl];exact b1⟩,a3.1.extBut b2.extBut h1.symm⟩,λc hc=>?_⟩
  have hlt:c < s.heap.objs.size:=by
   simp only[Ar,Ax,or_false]at hc;rcases hc with rfl | rfl
   ·exact Aw he
   ·obtain⟨_,e,_⟩:=hi;exact Aw e
  rw[jag (Bm hlt)];exact(hf c hc).1
 done:=by
  intro X hP hw hK hc i pins s σ H E I hf st hg;subst hP hw hK;obtain⟨⟨old,he⟩,hi⟩:=st;obtain⟨xs,hq,hx⟩:=hg;obtain⟨its,rv,p,_⟩:=I.tuple hq;have hl:=rv.length;have hs:its.toArray.size=i:=by simp;omega
  refine wpAny_pyNext_enum_endD (jk7 (A:=X.A.in1) (I.ok.hd hc) it a h2 its.toArray) he (by rw[hs];exact⟨hi,p⟩) λh' k=>⟨rfl,I.many0 (t':=s.toks) hf λc o hc e=>?_⟩;simp only[Ar,Ax,or_false,not_or]at hc;exact k c o hc.2 e
 self:=λ_ _ _ _ _ st h=>wpAny_pyIter_enum st.1.choose_spec h
end L2
namespace DL
open PySem L2 Nb
def valD (kvs:List (Key×Aa)) (k:Key):Option Aa:=(kvs.find? λkv=>decide (kv.1=k)).map (·.2)
def putD (kvs:List (Key×Aa)) (k:Key) (v:Aa):List (Key×Aa) :=
 if (kvs.any λkv=>decide (kv.1=k))=true then kvs.map (λkv=>if kv.1=k then(kv.1,v)else kv)else kvs++[(k,v)]
def jh4 (kvs more:List (Key×Aa)):List (Key×Aa):=more.foldl (λacc kv=>putD acc kv.1 kv.2) kvs
section
variable {H H':Hp} {B B':Addr->Prop} {l:List (Key×V)} {m:List (Key×Aa)} {v:V} {d:Aa} {t:Addr}
theorem RdK.len (h:RdK H B l m):l.length=m.length:=by
 unfold RdK at h
 induction h with
 |nil=>rfl
 |cons _ _ ih=>rw[Ao,Ao,ih]
theorem RdK.val (h:RdK H B l m) (k:Key):(valV l k=none/\valD m k=none)\/∃v d,valV l k=some v/\valD m k=some d/\RdX H B v d:=by
 unfold RdK at h
 induction h with
 |nil=>exact .inl ⟨rfl,rfl⟩
 |@cons p q ps qs r _ ih =>
  by_cases e:p.1=k
  ·have e':q.1=k:=r.1▸e;exact .inr ⟨p.2,q.2,by simp[valV,By,e],by simp[valD,By,e'],r.2⟩
  ·have e':¬q.1=k:=r.1▸e;have a1:valV (p::ps) k=valV ps k:=by simp[valV,By,e]
   have a2:valD (q::qs) k=valD qs k:=by simp[valD,By,e']
   rw[a1,a2];exact ih
theorem RdK.any (h:RdK H B l m) (k:Key):(l.any λkv=>decide (kv.1=k))=(m.any λkv=>decide (kv.1=k)):=by
 unfold RdK at h
 induction h with
 |nil=>rfl
 |cons r _ ih=>rw[C6,C6,ih,r.1]
theorem RdK.map (h:RdK H B l m) (r:RdX H B v d) (k:Key):RdK H B (l.map λkv=>if kv.1=k then(kv.1,v)else kv) (m.map λkv=>if kv.1=k then(kv.1,d)else kv):=by
 unfold RdK at h ⊢
 induction h with
 |nil=>exact .nil
 |@cons p q ps qs r' _ ih =>
  rw[Be,Be];refine .cons ?_ ih;by_cases e:p.1=k
  ·rw[if_pos e,if_pos (r'.1▸e:q.1=k)];exact⟨r'.1,r⟩
  ·rw[if_neg e,if_neg (r'.1▸e:¬q.1=k)];exact r'
theorem RdK.append {l2:List (Key×V)} {m2:List (Key×Aa)} (h:RdK H B l m) (h2:RdK H B l2 m2):RdK H B (l++l2) (m++m2):=by
 unfold RdK at h ⊢
 induction h with
 |nil=>exact h2
 |cons r' _ ih=>exact .cons r' ih
theorem RdK.put (h:RdK H B l m) (r:RdX H B v d) (k:Key):RdK H B (putK l k v) (putD m k d):=by
 unfold putK putD;rw[h.any k]
 split
 ·exact h.map r k
 ·exact h.append (.cons ⟨rfl,r⟩ .nil)
theorem RdK.merge {l2:List (Key×V)} {m2:List (Key×Aa)} (h2:RdK H B l2 m2):∀{l:List (Key×V)} {m:List (Key×Aa)},RdK H B l m->RdK H B (jf5 l l2) (jh4 m m2):=by
 unfold RdK at h2
 induction h2 with
 |nil=>intro l m h;exact h
 |@cons p q ps qs r _ ih =>
  intro l m h;show RdK H B (jf5 (putK l p.1 p.2) ps) (jh4 (putD m q.1 q.2) qs);rw[r.1];exact ih (h.put r.2 _)
theorem jne (l:List (Key×V)) (k:Key) (v:V):(putK l k v).length<=l.length+1:=by
 unfold putK
 split
 ·rw[Ab];omega
 ·rw[Ak];exact Al _
theorem jo0 (l2:List (Key×V)):∀l:List (Key×V),(jf5 l l2).length<=l.length+l2.length:=by
 induction l2 with
 |nil=>intro l;exact Al _
 |cons p r ih =>
  intro l;show(jf5 (putK l p.1 p.2) r).length<=_;have:=ih (putK l p.1 p.2);have:=jne l p.1 p.2;rw[Ao];omega
end
section
variable {X:Cx} {a b c e o i f:Expr} {ta tb te td ty tx:TE} {wa wb we wd' wy wx:DT} {pos p:Pos} {K:Ah}
def jee (i:Nat):DT:=λδ n Q=>match δ[i]? with
 |some (some (.odk kvs))=>Q (.dk kvs) n
 |some (some (.w x))=>Q x n
 |_=>False
theorem j2k (i:Nat) {x:Str} {p:Pos} (hN:X.N[i]?=some x:=by rfl) (hv:Vis X.env.scope x:=by first | exact Da rfl | exact Cc (Da rfl) | exact Cc (Cc rfl)) (hd:(x==("__debug__":Str))=false:=by decide)
  (hcd:(x==("__classdict__":Str))=false:=by decide):DE X (.Name x p) (tVar i) (jee i):=⟨jdw hN hv hd hcd,λC H B σ δ n Q Q' R h k=>by
 unfold jee at h
 split at h
 ·rename_i kvs e;obtain⟨v,h1,a,l,rfl,g2,g3,g4,g5,g6⟩:=R.sl i _ e;exact⟨_,h1,k _ (.dk kvs) H n R (Kp.refl _ _) ⟨a,l,rfl,g2,λz=>R.t0 (z▸g4),g6⟩ h⟩
 ·rename_i x e;obtain⟨v,h1,h2⟩:=R.sl i _ e;exact⟨v,h1,k v x H n R (Kp.refl _ _) h2.1 h⟩
 ·exact h.elim⟩
def jfg:Wv->Wv->Int->DQ->Prop:=λx y n Q=>match x,y with
 |.dk kvs,.d (.str k)=>match valD kvs (.inr k)with
  |some d=>Q (.d d) n
  |none=>False
 |_,_=>False
theorem j2o (hu:X.A.units+64 < cLine) (ho:DE X o td wd') (hi:DE X i ty wy) (hs:NoSl i:=by exact λ_ _=>rfl):DE X (.Subscript o i pos) (jzd td ty) (w2 wd' wy jfg):=⟨jxk (by omega) ho.pe hi.pe hs,λC H B σ δ n Q Q' R h k =>
 ho.sd C H B σ δ n _ _ R h λv x H1 n1 R1 k1 r1 q1=>hi.sd C H1 B σ δ n1 _ _ R1 q1 λu y H2 n2 R2 k2 r2 q2=>by
  have r1':=r1.kp k2 R1.bt;unfold jfg at q2
  split at q2
  ·rename_i kvs key;obtain⟨a,l,rfl,g1,g2,g3⟩:=r1';cases(show RdX H2 B u (.str key)from r2);rcases g3.val (.inr key)with⟨e1,e2⟩ | ⟨v,d,e1,e2,e3⟩
   ·rw[e2]at q2;exact q2.elim
   ·rw[e2]at q2;exact⟨a,v,rfl,.inl ⟨l,.inr key,.inl g1,rfl,e1.symm⟩,k v (.d d) H2 n2 R2 (k1.trans k2) e3 q2⟩
  ·exact q2.elim⟩
def gDIn (neg:Bool):Wv->Wv->Int->DQ->Prop:=λx y n Q=>match x,y with
 |.d (.str k),.dk kvs=>Q (.d (.bool (if neg then !(valD kvs (.inr k)).isSome else(valD kvs (.inr k)).isSome))) n
 |_,_=>False
theorem jw4 (hi:DE X i ty wy) (ho:DE X o td wd'):Snd (tDIn ty td) (w2 wy wd' (gDIn false)):=λC H B σ δ n Q Q' R h k =>
 hi.sd C H B σ δ n _ _ R h λv x H1 n1 R1 k1 r1 q1=>ho.sd C H1 B σ δ n1 _ _ R1 q1 λu y H2 n2 R2 k2 r2 q2=>by
  have r1':=r1.kp k2 R1.bt;unfold gDIn at q2
  split at q2
  ·rename_i key kvs;obtain⟨a,l,rfl,g1,g2,g3⟩:=r2;cases(show RdX H2 B v (.str key)from r1');refine⟨a,valV l (.inr key),rfl,.inl ⟨l,.inr key,.inl g1,rfl,rfl⟩,k _ _ H2 n2 R2 (k1.trans k2) (wd (.bl _)) ?_⟩;rcases g3.val (.inr key)with⟨e1,e2⟩ | ⟨v,d,e1,e2,e3⟩
   ·rw[e1];rw[e2]at q2;exact q2
   ·rw[e1];rw[e2]at q2;exact q2
  ·exact q2.elim
theorem j42 (hu:X.A.units+64 < cLine) (hi:DE X i ty wy) (ho:DE X o td wd') (hm:Cz .In o=false:=by with_unfolding_all rfl):DE X (.Compare i [.In] [o] pos) (tDIn ty td) (w2 wy wd' (gDIn false)):=⟨j0r (j0u (by omega) hi.pe ho.pe) hm,jw4 hi ho⟩
abbrev DTK:=Sl->Int->(List (Key×Aa)->Int->Prop)->Prop
def SndK (t:TE) (w:DTK):Prop:=∀(C:Ctx) (H:Hp) (B:Addr->Prop) (σ:St) (δ:Sl) (n:Int) (Q:List (Key×Aa)->Int->Prop) (Q':VK),Rel C H B σ δ n->w δ n Q ->
 (∀a l kvs H' n',Rel C H' B σ δ n'->Kp C.t H H'->H a=none->H' a=some (.dK l)->l.length<=1000->RdK H' (λb=>B b\/b=a) l kvs->Q kvs n'->Q' (.ref a) H')->t σ H Q'
structure DN (X:Cx) (e:Expr) (t:TE) (w:DTK):Prop where
 pe:PE X e t
 sd:SndK t w
def jf0:List Aa->Option (List (Key×Aa))
 |[]=>some []
 |.tuple [.str k,d]::r=>(jf0 r).map ((.inr k,d)::·)
 |_=>none
theorem jnh {H:Hp} {B:Addr->Prop}:∀{xs:List V} {ds:List Aa} {ps:List (Key×Aa)},RdXs H B xs ds->jf0 ds=some ps->∃qs:List (Addr×Key×V),xs=qs.map (λp=>V.ref p.1)/\(∀p∈qs,H p.1=some (.tup [kV p.2.1,p.2.2]))/\RdK H B (qs.map (·.2)) ps
 |_,_,ps,.nil,h=>by
  cases h;exact⟨[],rfl,λp (hp:p∈[])=>absurd hp Ax,Paired.nil⟩
 |_,_,ps,.cons (d:=d) (ds:=ds) h1 h2,h=>by
  unfold jf0 at h
  split at h
  ·rename_i e;cases e
  ·rename_i k d' r e;cases e;cases e2:jf0 ds with
   |none=>rw[e2]at h;cases h
   |some ps' =>
    rw[e2]at h;cases h;obtain⟨qs,f1,f2,f3⟩:=jnh h2 e2;cases h1 with
    |@tup a ys _ g1 g2 g3 g4 =>
     cases g4 with
     |cons c1 c2 =>
      cases c2 with
      |cons c3 c4 =>
       cases c4;cases c1;refine⟨(a,.inr k,_)::qs,by rw[f1];rfl,λp hp=>?_,.cons ⟨rfl,c3⟩ f3⟩;rcases Ar.mp hp with rfl | z
       ·exact g1
       ·exact f2 p z
  ·cases h
def jvt:List V->Hp->VK->Prop:=λxs H Q=>∃(src:Addr) (ps:List (Addr×Key×V)),xs=[.ref src]/\H src=some (.tup (ps.map λp=>V.ref p.1))/\(∀p∈ps,H p.1=some (.tup [kV p.2.1,p.2.2]))/\ps.length<=1000 /\
  ∀l,H l=none->Q (.ref l) (L2.upd H l (.dK (jf5 [] (ps.map (·.2)))))
def jkr (w:DT):DTK:=λδ n Q=>w δ n λx n1=>match x with
 |.d (.tuple ds)=>match jf0 ds with
  |some ps=>ds.length<=1000/\Q (jh4 [] ps) n1
  |none=>False
 |_=>False
theorem jv7 (hh:X.A.handled=none) (hg:Gl X "dict") (hm:X.mg "dict"=none) (he:DE X e te we) (hv:Bv "dict"=some (.type "dict"):=by decide +kernel)
  (he':Au [e] X.env=(false,eval e X.env)::Au [] X.env:=by rfl) (hpl:(C8 pos (Au [] X.env)).any (·.1)=false:=by rfl):DN X (.Call (.Name "dict" p) [e] [] pos) (tCB jvt (jbu te tNil)) (jkr we) :=
 ⟨jco (jph hh) hg hm hv (jaq he.pe jbc he') (by decide) (by decide) he' hpl,λC H B σ δ n Q Q' R q k =>
  he.sd C H B σ δ n _ _ R q λv x H1 n1 R1 k1 r1 q1=>by
   split at q1
   ·rename_i ds
    split at q1
    ·rename_i ps ep;cases(show RdX H1 B v (.tuple ds)from r1)with
     |@tup a ys _ g1 g2 g3 g4 =>
      obtain⟨qs,f1,f2,f3⟩:=jnh g4 ep;subst f1;have hl:qs.length<=1000:=by have:=g4.len;rw[Ab]at this;rw[this];exact q1.1
      refine⟨a,qs,rfl,g1,f2,hl,λl hl0=>?_⟩;refine k l _ (jh4 [] ps) _ n1 (R1.new hl0) (k1.trans (Kp.new hl0)) (R1.was k1 hl0) jah ?_ ?_ q1.2
      ·have:=jo0 (qs.map (·.2)) [];rw[Ab]at this;have z:([]:List (Key×V)).length=0:=rfl;omega
      ·refine RdK.merge ?_ .nil;exact f3.move λb o e n=>⟨by rw[jag (jad e hl0)];exact e,λz=>z.elim n λq=>jad e hl0 q⟩
    ·exact q1.elim
   ·exact q1.elim⟩
def jqj (i:Nat) (w:DTK):DST:=λδ n K=>w δ n λkvs n1=>K.nx (δ.set i (some (.odk kvs))) n1
theorem jz1 {i:Nat} {x:Str} {pos':Pos} {w:DTK} (hN:X.N.Nodup) (hi:X.N[i]?=some x) (hx:Loc X.env.scope x) (he:DN X e te w) (hs:Ex e (some (.Name x pos')) pos.line X.env=pure false:=by rfl) (hf:X.fn x=true\/X.env.scope.names.lookup x=some .local:=by first | exact .inl rfl | exact .inr rfl | assumption) :
  DS X (.Assign [.Name x pos'] e pos) (tAsg te (jem i)) (jqj i w):=⟨jdv hN hi hx he.pe hs hf,λC H B σ δ n K D R q E =>
 he.sd C H B σ δ n _ _ R q λa l kvs H1 n1 R1 k1 h0 h1 h2 h3 q1=>by
  refine E.nx _ _ _ _ _ (R.own R1 k1 h0 (by rw[h1];exact λz=>nomatch z) rfl ?_) q1;exact⟨a,l,rfl,h1,.inr rfl,R.h0 h0,h2,h3⟩⟩
def jtj (i:Nat) (wy wv:DT):DST:=λδ n K=>match δ[i]? with
 |some (some (.odk kvs))=>wv δ n λv n1=>wy δ n1 λy n2=>match v,y with
  |.d d,.d (.str k)=>kvs.length < 1000/\K.nx (δ.set i (some (.odk (putD kvs (.inr k) d)))) n2
  |_,_=>False
 |_=>False
theorem jz0 {i:Nat} {x:Str} {xp sp:Pos} {j e:Expr} {tj te:TE} {wj we:DT} (hu:X.A.units+64 < cLine) (hN:X.N[i]?=some x) (hj:DE X j tj wj) (he:DE X e te we) (hv:Vis X.env.scope x:=by first | exact Da rfl | exact Cc (Da rfl) | exact Cc (Cc rfl)) (hd:(x==("__debug__":Str))=false:=by decide)
  (hcd:(x==("__classdict__":Str))=false:=by decide) (hs:Ex e (some (.Subscript (.Name x xp) j sp)) pos.line X.env=pure false:=by rfl) :
  DS X (.Assign [.Subscript (.Name x xp) j sp] e pos) (jz7 (tVar i) tj te) (jtj i wj we) :=
 ⟨jxe (by omega) (jdw hN hv hd hcd) hj.pe he.pe hs,λC H B σ δ n K D R q E=>by
  unfold jtj at q
  split at q
  ·rename_i kvs ei;refine he.sd C H B σ δ n _ _ R q λu y H1 n1 R1 k1 r1 q1=>?_;obtain⟨v,hv,a,l,rfl,e2,e3,e4,e5,e6⟩:=R1.sl i _ ei;refine⟨_,hv,hj.sd C H1 B σ δ n1 _ _ R1 q1 λw z H2 n2 R2 k2 r2 q2=>?_⟩
   split at q2
   ·rename_i d key;cases(show RdX H2 B w (.str key)from r2);have hat:a≠C.t:=λz=>R.t0 (z▸e4);have e2':=k2 _ _ e2 hat;have r1':RdX H2 B u d:=r1.kp k2 R1.bt;have e6':RdK H2 B l kvs:=e6.move λb o e n=>⟨k2 b o e λz=>n (z▸R1.bt),n⟩;have hl:l.length < 1000:=by rw[e6'.len];exact q2.1
    refine⟨a,_,rfl,DPut.k (k:=.inr key) e2' (Bj hl (jau (Al _))),?_⟩;refine E.nx _ _ _ _ _ (R2.mutOwn ei rfl hv e3 e4 ?_ rfl) q2.2;refine⟨a,_,rfl,jah,e3,e4,?_,?_⟩
    ·have:=jne l (.inr key) u;omega
    ·exact(e6'.put r1' _).move λb o e n=>⟨by rw[jag λ(z:b=a)=>n (z▸e3)];exact e,n⟩
   ·exact q2.elim
  ·exact q.elim⟩
def j3b (i:Nat):DT:=λδ n Q=>match δ[i]? with
 |some (some (.own ds))=>Q (.d (.int ds.length)) n
 |_=>False
def jht (i:Nat) (w:DT):DT:=λδ n Q=>w δ n λx n1=>match x,δ[i]? with
 |.d a,some (some (.own ds))=>jcs a=true/\ds.all jcs=true/\Q (.d (.bool (inD a ds))) n1
 |_,_=>False
theorem jp8 {i:Nat} (h:Snd ta wa):Snd (tOp (rIn K false) ta (tVar i)) (jht i wa):=λC H B σ δ n Q Q' R q k =>
 h C H B σ δ n _ _ R q λv x H1 n1 R1 k1 r1 q1=>by
  split at q1
  ·rename_i da ds e;have r1:RdX H1 B v da:=r1;obtain⟨u,h1,a,xs,rfl,g2,g3,g4,g5,g6⟩:=R1.sl i _ e;refine⟨_,h1,a,xs,rfl,.inl (SqL.of g2),jgk r1 q1.1,jc5 g6 q1.2.1,k _ _ H1 n1 R1 k1 (wd (.bl _)) ?_⟩;rw[jkx r1 g6];exact q1.2.2
  ·exact q1.elim
theorem jyt (i:Nat) {x:Str} {xp:Pos} (ha:DE X a ta wa) (hK:X.K=K:=by rfl) (hN:X.N[i]?=some x:=by rfl) (hv:Vis X.env.scope x:=by first | exact Da rfl | exact Cc (Da rfl) | exact Cc (Cc rfl)) (hd:(x==("__debug__":Str))=false:=by decide)
  (hcd:(x==("__classdict__":Str))=false:=by decide) (hm:Cz .In (Expr.Name x xp)=false:=by with_unfolding_all rfl):DC X (.Compare a [.In] [.Name x xp] pos) (jp0 (tOp (rIn K false) ta (tVar i))) (cT (jht i wa)) :=
 ⟨jef (jv0 hK) ha.pe (jdw hN hv hd hcd) hm,jit (jp8 ha.sd)⟩
end
section
variable {X:Cx} {a b c e o i f:Expr} {ta tb te td ty tx:TE} {wa wb we wd' wy wx:DT} {pos p:Pos} {K:Ah}
def txK (ps:List (Str×Aa)):List (Key×Aa):=ps.map λp=>(Cy p.1,p.2)
def jdu (ps:List (Str×Aa)):Prop:=ps.Pairwise λa b=>¬b.1.cps.toList < a.1.cps.toList
def jc6 (w:DT):DTF:=λδ n Q=>w δ n λx n1=>match x with
 |.dk kvs=>∃ps:List (Str×Aa),kvs=txK ps/\ps.length < 64/\(ps.map (·.1)).Nodup/\(∀p∈ps,p.1.length<=1000/\jcs p.2=true)/\∀ps':List (Str×Aa),ps'.Perm ps->jdu ps'->Q (ps'.map λp=>.tuple [.str p.1,p.2]) n1
 |_=>False
theorem jvo {H:Hp} {B:Addr->Prop}:∀{l:List (Key×V)} {ps:List (Str×Aa)},RdK H B l (txK ps)->∃xv:List V,xv.length=ps.length/\l=(((ps.map (·.1)).zip xv).map λp=>((Cy p.1:Key),p.2))/\RdXs H B xv (ps.map (·.2))
 |[],[],_=>⟨[],rfl,rfl,.nil⟩
 |[],_::_,h=>nomatch h
 |_::_,[],h=>nomatch h
 |q::l,p::ps,.cons r h=>by
  obtain⟨xv,e1,e2,e3⟩:=jvo (l:=l) (ps:=ps) h;refine⟨q.2::xv,by simp[e1],?_,.cons r.2 e3⟩;rw[e2];have r1:q.1=(Cy p.1:Key):=r.1;have:q=((Cy p.1:Key),q.2):=by rw[<-r1]
  rw[this];rfl
def j0e:V->List V->Hp->VK->Prop:=λx vs H Q=>∃d kvs,x=.ref d/\vs=[]/\H d=some (.dK kvs)/\∀v,H v=none->Q (.ref v) (upd H v (jjx d v))
theorem jnx {α β:Type} {f:α->β} {l:List α} {i:Nat} {x:α} {y:β} (h:i < l.length):(l.map f).getD i y=f (l.getD i x):=by simp[h]
theorem jmf {ap ip:Pos} (hh:X.A.handled=none) (hg:Gl X "sorted") (hm:X.mg "sorted"=none) (ho:DE X o td wd') (hv:Bv "sorted"=some (.builtin "sorted"):=by decide +kernel) (hK:X.K=K:=by rfl)
  (hbase:attributeBase o "items" X.env (eval o X.env)=eval o X.env:=by rfl) (hline:(ap.endLine==ip.line)=true:=by rfl)
  (he':Au [Expr.Call (.Attribute o "items" ap) [] [] ip] X.env=(false,eval (Expr.Call (.Attribute o "items" ap) [] [] ip) X.env)::Au [] X.env:=by rfl) (hpl:(C8 pos (Au [] X.env)).any (·.1)=false:=by rfl) :
  DF X (.Call (.Name "sorted" p) [.Call (.Attribute o "items" ap) [] [] ip] [] pos) (tCB jhz (jbu (tBM0 K "dict" j0e td) tNil)) (jc6 wd'):=by
 subst hK;refine⟨jcc (jhl hh) hg hm hv (jaq (j0s PySem.F.plainAttrs_dict PySem.F.slot_dict_items PySem.F.type_dict_items jt3 ho.pe hbase hline) jbc he') (by decide) (by decide) he' hpl,λC H B σ δ n Q Q' R q k =>
  ho.sd C H B σ δ n _ _ R q λv x H1 n1 R1 k1 r1 q1=>?_⟩
 cases x with
 |d _=>exact q1.elim
 |tp=>exact q1.elim
 |ln _=>exact q1.elim
 |ob _=>exact q1.elim
 |dk kvs =>
  obtain⟨a,l,rfl,g1,g2,g3⟩:=r1;obtain⟨ps,rfl,h64,nd,hps,kq⟩:=q1;obtain⟨xv,ex1,ex2,ex3⟩:=jvo g3;refine⟨.inr (.inr (.inl ⟨rfl,.inl ⟨l,g1⟩⟩)),a,l,rfl,rfl,g1,λv hv=>?_⟩;have R2:=R1.new (o:=jjx a v) hv;have kp2:Kp C.t H1 (upd H1 v (jjx a v)):=Kp.new hv;have hne:a≠v:=jad g1 hv;refine⟨v,a,ps.map (·.1),xv,rfl,jah,by rw[Ab,ex1],by rw[jag hne,g1,ex2],by rw[Ab];exact h64,nd,jc5 ex3 ?_,λD as idx H' hla hidx hpw sm hD has hD' hit=>?_⟩
  ·rw[Fh];intro d hd;obtain⟨p,hp,rfl⟩:=Bf.mp hd;exact(hps p hp).2
  ·rw[Ab]at hla hidx;have R3:=R2.same sm;have k3:Kp C.t H H':=(k1.trans kp2).trans λb o e _=>sm b o e;have hDn:H D=none:=R1.was k1 (by
    cases q:H1 D with
    |none=>rfl
    |some o =>
     have:upd H1 v (jjx a v) D=some o:=by rw[jag (jad q hv)];exact q
     rw[hD]at this;cases this)
   have hlt:∀i∈idx,i < ps.length:=λi hi=>Br.mp (hidx.mem_iff.mp hi);have lidx:idx.length=ps.length:=by rw[hidx.length_eq,Bx]
   refine k D _ _ H' n1 R3 k3 hDn hD' (by rw[Ab,lidx];exact jau (by omega)) ?_ (kq (idx.map λi=>ps.getD i (⟨#[]⟩,.none)) ?_ ?_)
   ·rw[Ct];have key:∀m:List Nat,(∀i∈m,i∈idx)->RdXs H' (λb=>B b\/b=D) (m.map λi=>V.ref (IxV as (ps.map (·.1)) xv i).1) (m.map ((λp=>PyData.tuple [.str p.1,p.2]) ∘ λi=>ps.getD i (⟨#[]⟩,.none))):=by
     intro m
     induction m with
     |nil=>intro _;exact .nil
     |cons i r ih =>
      intro hm;have hi:=hm i Ay;have hil:=hlt i hi;refine .cons ?_ (ih λj hj=>hm j (Az _ hj));have ht:=hit i hi;have hia:i < as.length:=by rw[hla];exact hil
      have eA:(IxV as (ps.map (·.1)) xv i).1=as[i]:=by show as.getD i 0=_;simp[hia]
      have eK:(IxV as (ps.map (·.1)) xv i).2.1=ps[i].1:=by show(ps.map (·.1)).getD i ⟨#[]⟩=_;simp[hil]
      have hix:i < xv.length:=by rw[ex1];exact hil
      have eX:(IxV as (ps.map (·.1)) xv i).2.2=xv[i]:=by show xv.getD i .non=_;simp[hix]
      rw[eA,eK,eX]at ht;show RdX H' _ (.ref (IxV as (ps.map (·.1)) xv i).1) _;rw[eA];have eP:ps.getD i (⟨#[]⟩,.none)=ps[i]:=by simp[hil]
      show RdX H' _ (.ref as[i]) (.tuple [.str (ps.getD i (⟨#[]⟩,.none)).1,(ps.getD i (⟨#[]⟩,.none)).2]);rw[eP];have hAn:=has as[i] (Ck hia);have nB:¬B as[i]:=R2.nb hAn;have nD:as[i]≠D:=λz=>by rw[z,hD']at ht;cases ht
      refine .tup ht (λz=>z.elim nB nD) (by show 2<=Ap;decide) (.cons (.str _ (jau (hps ps[i] (Ck hil)).1)) (.cons ?_ .nil));obtain⟨d,f1,f2⟩:=ex3.get (Af hix);rw[A0,Af hil]at f1;cases f1;exact f2.move λb o e n=>⟨sm b o (by rw[jag (jad e hv)];exact e),λz=>z.elim n λq=>by
       have e2:upd H1 v (jjx a v) b=some o:=by rw[jag (jad e hv)];exact e
       rw[q,hD]at e2;cases e2⟩
    exact key idx λ_ h=>h
   ·have h1:=hidx.map λi=>ps.getD i ((⟨#[]⟩:Str),PyData.none);have h2:(A1 ps.length).map (λi=>ps.getD i ((⟨#[]⟩:Str),PyData.none))=ps:=by
     apply Ej (by simp);intro i h1 h2;simp[h2]
    rw[h2]at h1;exact h1
   ·unfold jdu;rw[List.pairwise_map];rw[List.pairwise_map]at hpw;refine List.Pairwise.imp_of_mem (λ{x y} hx hy h=>?_) hpw;rw[jnx (x:=((⟨#[]⟩:Str),PyData.none)) (hlt x hx),jnx (x:=((⟨#[]⟩:Str),PyData.none)) (hlt y hy)]at h;exact h
def gInt:List Wv->Int->DQ->Prop:=λxs n Q=>match xs with
 |[.d (.int i)]=>Q (.d (.int i)) n
 |[.d (.bool b)]=>Q (.d (.int (if b then 1 else 0))) n
 |_=>False
def zipD (xs ys:List Aa):List Aa:=List.zipWith (λx y=>.tuple [x,y]) xs ys
def juf (w w':DT):DTI:=λδ n Q=>w δ n λx n1=>w' δ n1 λy n2=>match x,y with
 |.d (.tuple xs),.d (.tuple ys)=>xs.length=ys.length/\Q (zipD xs ys) n2
 |_,_=>False
theorem j39 {elts:List Expr} {kk:Nat} {tpos:Pos} (hg:Gl X "zip") (hm:X.mg "zip"=none) (ha:DE X a ta wa) (hb:DE X b tb wb) (hK:X.K=K:=by rfl) (hs:Au [a,b] X.env=[(false,eval a X.env),(false,eval b X.env)]:=by rfl) (hs2:Au [b] X.env=[(false,eval b X.env)]:=by rfl)
  (he1:Au [a,b] X.env=(false,eval a X.env)::Au [b] X.env:=by rfl) (he2:Au [b] X.env=(false,eval b X.env)::Au [] X.env:=by rfl) :
  DI X (.Tuple elts kk tpos) (.Call (.Name "zip" p) [a,b] [] pos) (iZip K (jbu ta (jbu tb tNil))) (juf wa wb):=by
 subst hK;refine⟨j0l hg hm (jaq ha.pe (jaq hb.pe jbc he2) he1) hs hs2,λC H B σ δ n Q Q' R q k=>ha.sd C H B σ δ n _ _ R q λv x H1 n1 R1 k1 r1 q1=>hb.sd C H1 B σ δ n1 _ _ R1 q1 λu y H2 n2 R2 k2 r2 q2=>?_⟩;have r1':=r1.kp k2 R1.bt
 split at q2
 ·rename_i xs ys;cases(show RdX H2 B v (.tuple xs)from r1')with
  |@tup aa vs _ e1 e2 e3 e4 =>
   cases(show RdX H2 B u (.tuple ys)from r2)with
   |@tup ab ws _ f1 f2 f3 f4 =>
    refine⟨aa,ab,rfl,⟨vs,SqT.of e1⟩,⟨ws,SqT.of f1⟩,k _ (zipD xs ys) H2 n2 R2 (k1.trans k2) (λfz th=>?_) q2.2⟩;have za:fz aa=some (.tup vs):=th.2 _ _ e1 e2;have zb:fz ab=some (.tup ws):=th.2 _ _ f1 f2;have lz:(zipD xs ys).length=xs.length:=by unfold zipD;rw[List.length_zipWith,q2.1,Nat.min_self]
    refine⟨by rw[lz,<-e4.len];exact e3,λi H hH hi=>?_,λH hH=>?_,λi H x H' d hH hd hy=>?_⟩
    ·rw[lz]at hi;have h1:i < vs.length:=by rw[e4.len];exact hi
     have h2:i < ws.length:=by rw[f4.len,<-q2.1];exact hi
     exact⟨vs,ws,vs[i],ws[i],SqT.of (hH _ _ za),SqT.of (hH _ _ zb),Af h1,Af h2⟩
    ·exact⟨vs,SqT.of (hH _ _ za),by rw[lz,e4.len];exact Al _⟩
    ·obtain⟨T,x1,y1,rfl,hT,rfl,hx,hy⟩:=hy;refine⟨λb o e=>by rw[jag (jad e hT)];exact e,λB' hB hBa=>?_⟩;have hi:i < xs.length:=by rw[<-lz];exact(Aq.mp hd).1
     have hi2:i < ys.length:=by rw[<-q2.1];exact hi
     have ed:d=.tuple [xs[i],ys[i]]:=by
      unfold zipD at hd;rw[List.getElem?_zipWith,Af hi,Af hi2]at hd;exact(A6 hd).symm
     subst ed;obtain⟨u1,hu1,ru1⟩:=e4.getD (Af hi);obtain⟨u2,hu2,ru2⟩:=f4.getD (Af hi2);have t1:=hx _ (SqT.of (hH _ _ za));have t2:=hy _ (SqT.of (hH _ _ zb));rw[hu1]at t1;rw[hu2]at t2;cases t1;cases t2;have mv:∀b o,H2 b=some o->¬B b->upd H T (.tup [x1,y1]) b=some o/\¬B' b:=λb o e ne=>by
      have:=hH _ _ (th.2 _ _ e ne);exact⟨by rw[jag (jad this hT)];exact this,hB _ _ (th.2 _ _ e ne)⟩
     exact .tup jah (λz=>hBa T z hT) (by show 2<=Ap;decide) (.cons (ru1.move mv) (.cons (ru2.move mv) .nil))
 ·exact q2.elim
end
end DL
namespace L2
open PySem PySem.Spec PyProof.Rows PySem.SeqAt
end L2
namespace DL
open PySem L2 Nb
section
variable {X:Cx} {K:Ah}
def rXX (K:Ah) (f:Aa->Aa->Option Bool):R2:=λx y H Q=>∃d e b,RdD K H x d/\RdD K H y e/\d.canLay0=true/\e.canLay0=true/\d.depth<=20/\e.depth<=20/\f d e=some b/\Q (.bl b) H
theorem j03 (hu:X.A.units+64 < cLine) (hK:X.K=K:=by rfl):OpR X (Bz .Eq) (rXX K λd e=>some (D1 d e)):=by
 subst hK;intro pins s σ H x y v u Q I rx ry h;obtain⟨d,e,b,h1,h2,h3,h4,h5,h6,h7,q⟩:=h;cases h7;obtain⟨as,r1⟩:=RdD.reads I h1 rx;obtain⟨bs,r2⟩:=RdD.reads I h2 ry;exact SeqAt.compareEq_reads r1 r2 h3 h4 (by omega) ⟨.bl _,H,I,rfl,q⟩
theorem j0z (hu:X.A.units+64 < cLine) (hK:X.K=K:=by rfl):OpR X (Bz .NotEq) (rXX K λd e=>some (!D1 d e)):=by
 subst hK;intro pins s σ H x y v u Q I rx ry h;obtain⟨d,e,b,h1,h2,h3,h4,h5,h6,h7,q⟩:=h;cases h7;obtain⟨as,r1⟩:=RdD.reads I h1 rx;obtain⟨bs,r2⟩:=RdD.reads I h2 ry;exact SeqAt.compareNe_reads r1 r2 h3 h4 (by omega) ⟨.bl _,H,I,rfl,q⟩
def gXX (f:Aa->Aa->Option Bool):Wv->Wv->Int->DQ->Prop:=λx y n Q=>match x,y with
 |.d d,.d e=>d.canLay0=true/\e.canLay0=true/\d.depth<=20/\e.depth<=20/\∃b,f d e=some b/\Q (.d (.bool b)) n
 |_,_=>False
theorem jvj {f:Aa->Aa->Option Bool}:SndO (rXX K f) (gXX f):=λC H B σ δ n x y p q Q Q' R rx ry h1 k=>by
 unfold gXX at h1
 split at h1
 ·rename_i d e;obtain⟨a1,a2,a3,a4,b,a5,a6⟩:=h1;exact⟨d,e,b,RdX.rd rx,RdX.rd ry,a1,a2,a3,a4,a5,k _ _ H n R (Kp.refl _ _) (wd (.bl b)) a6⟩
 ·exact h1.elim
end
end DL
namespace L2
open PySem PySem.Spec PyProof.Rows PySem.W
end L2
namespace DL
open PySem L2 Nb
section
variable {X:Cx} {o:Expr} {td:TE} {wd':DT} {pos p p2 ip:Pos} {W:Bw}
def upT (ys:List Str):Prop:=ys.Pairwise λa b=>¬b.cps.toList < a.cps.toList
variable {a:Expr} {ta:TE} {wa:DT} {K:Ah}
end
section
variable {X:Cx} {a b c e o i f:Expr} {ta tb te td ty tx:TE} {wa wb we wd' wy wx:DT} {pos p:Pos} {K:Ah}
def jbt (i:Nat):DT:=λδ n Q=>match δ[i]? with
 |some (some (.own ds))=>Q (.ln ds) n
 |some (some (.w x))=>Q x n
 |_=>False
theorem j2l (i:Nat) {x:Str} {p:Pos} (hN:X.N[i]?=some x:=by rfl) (hv:Vis X.env.scope x:=by first | exact Da rfl | exact Cc (Da rfl) | exact Cc (Cc rfl)) (hd:(x==("__debug__":Str))=false:=by decide)
  (hcd:(x==("__classdict__":Str))=false:=by decide):DE X (.Name x p) (tVar i) (jbt i):=⟨jdw hN hv hd hcd,λC H B σ δ n Q Q' R h k=>by
 unfold jbt at h
 split at h
 ·rename_i ds e;obtain⟨v,h1,a,xs,rfl,g2,g3,g4,g5,g6⟩:=R.sl i _ e;exact⟨_,h1,k _ (.ln ds) H n R (Kp.refl _ _) ⟨a,xs,rfl,g2,λz=>R.t0 (z▸g4),g5,g6⟩ h⟩
 ·rename_i x e;obtain⟨v,h1,h2⟩:=R.sl i _ e;exact⟨v,h1,k v x H n R (Kp.refl _ _) h2.1 h⟩
 ·exact h.elim⟩
def gIxL:Wv->Wv->Int->DQ->Prop:=λx y n Q=>match x with
 |.ln ds=>match y with
  |.d (.int i)=>match atI ds i with
   |some d=>Q (.d d) n
   |none=>False
  |_=>False
 |x=>gIx x y n Q
theorem jw1:SndO (rIx K) gIxL:=λC H B σ δ n x y p q Q Q' R rx ry h1 k=>by
 cases p with
 |ln ds =>
  unfold gIxL at h1;dsimp only at h1
  split at h1
  ·rename_i i
   split at h1
   ·rename_i d e;cases(show RdX H B y (.int i)from ry);obtain⟨ay,ys,rfl,e1,e2,e3,e4⟩:=rx;obtain⟨v,f1,f2⟩:=jsu e4 e;exact .inl ⟨ay,ys,i,v,rfl,rfl,SqL.of e1,f1,k _ _ H n R (Kp.refl _ _) (wd f2) h1⟩
   ·exact h1.elim
  ·exact h1.elim
 |d _=>exact jhw C H B σ δ n x y _ q Q Q' R rx ry h1 k
 |tp=>exact jhw C H B σ δ n x y _ q Q Q' R rx ry h1 k
 |dk _=>exact jhw C H B σ δ n x y _ q Q Q' R rx ry h1 k
 |ob _=>exact jhw C H B σ δ n x y _ q Q Q' R rx ry h1 k
theorem j4y (ha:DE X a ta wa) (hb:DE X b tb wb) (hK:X.K=K:=by rfl) (hs:jg5 b:=by exact λ_ _=>rfl):DE X (.Subscript a b pos) (tOp (rIx K) ta tb) (w2 wa wb gIxL):=by
 subst hK;exact⟨jeh jnv ha.pe hb.pe hs,jhv jw1 ha.sd hb.sd⟩
def gInL (neg:Bool):Wv->Wv->Int->DQ->Prop:=λx y n Q=>match y with
 |.ln ds=>match x with
  |.d a=>jcs a=true/\ds.all jcs=true/\Q (.d (.bool (if neg then !inD a ds else inD a ds))) n
  |_=>False
 |y=>gIn neg x y n Q
theorem jw3 {neg:Bool}:SndO (rIn K neg) (gInL neg):=λC H B σ δ n x y p q Q Q' R rx ry h1 k=>by
 cases q with
 |ln ds =>
  unfold gInL at h1;dsimp only at h1
  split at h1
  ·rename_i da;obtain⟨f1,f2,q⟩:=h1;have rx:RdX H B x da:=rx;obtain⟨ay,ys,rfl,e1,e2,e3,e4⟩:=ry;refine⟨ay,ys,rfl,.inl (SqL.of e1),jgk rx f1,jc5 e4 f2,?_⟩;rw[jkx rx e4];exact k _ _ H n R (Kp.refl _ _) (wd (.bl _)) q
  ·exact h1.elim
 |d _=>exact jfz C H B σ δ n x y p _ Q Q' R rx ry h1 k
 |tp=>exact jfz C H B σ δ n x y p _ Q Q' R rx ry h1 k
 |dk _=>exact jfz C H B σ δ n x y p _ Q Q' R rx ry h1 k
 |ob _=>exact jfz C H B σ δ n x y p _ Q Q' R rx ry h1 k
def jbp:List Wv->Int->DQ->Prop:=λxs n Q=>match xs with
 |[.ln ds]=>Q (.d (.int ds.length)) n
 |xs=>gLen xs n Q
theorem jtd:SndB (jw8 K) jbp:=λC H B σ δ n vs xs Q Q' R r h k=>by
 unfold jbp at h
 split at h
 ·rename_i ds;cases r with
  |cons r1 r2 =>
   cases r2;obtain⟨ay,ys,rfl,e1,e2,e3,e4⟩:=r1;refine .inr ⟨ay,ys,rfl,.inl (SqL.of e1),?_⟩;rw[e4.len];exact k _ _ H n R (Kp.refl _ _) (wd (.int _)) h
 ·exact jm4 C H B σ δ n vs xs Q Q' R r h k
def gEqL:Wv->Wv->Int->DQ->Prop:=λx y n Q=>match x,y with
 |.ln ds,.d (.list [])=>Q (.d (.bool ds.isEmpty)) n
 |x,y=>gEq x y n Q
theorem jp9:SndO (rEqK K) gEqL:=λC H B σ δ n x y p q Q Q' R rx ry h1 k=>by
 unfold gEqL at h1
 split at h1
 ·rename_i ds;obtain⟨ax,xs,rfl,e1,e2,e3,e4⟩:=rx;cases(show RdX H B y (.list [])from ry)with
  |@lst ay ys _ f1 f2 f3 f4 =>
   cases f4;refine .inr (.inr ⟨ax,ay,xs,rfl,rfl,SqL.of e1,SqL.of f1,?_⟩);have:xs.isEmpty=ds.isEmpty:=by cases e4<;>rfl
   rw[this];exact k _ _ H n R (Kp.refl _ _) (wd (.bl _)) h1
 ·exact jly C H B σ δ n x y p q Q Q' R rx ry h1 k
def lsOf:Wv->Option (List Aa)
 |.ln ds=>some ds
 |.d (.list ds)=>some ds
 |_=>none
def gCat:Wv->Wv->Int->DQ->Prop:=λx y n Q=>match lsOf x,lsOf y with
 |some i,some j=>i.length+j.length<=Ap/\Q (.d (.list (i++j))) n
 |_,_=>False
theorem jnp {H:Hp} {B:Addr->Prop} {t:Addr} {v:V} {x:Wv} {ds:List Aa} (h:WRel H B t v x) (e:lsOf x=some ds):∃a xs,v=.ref a/\H a=some (.lst xs)/\xs.length<=Ap/\RdXs H B xs ds:=by
 cases x with
 |ln es =>
  cases e;obtain⟨a,xs,h1,h2,h3,h4,h5⟩:=h;exact⟨a,xs,h1,h2,h4,h5⟩
 |d y =>
  cases y with
  |list es =>
   cases e;cases(show RdX H B v (.list ds)from h)with
   |@lst a xs _ e1 e2 e3 e4=>exact⟨a,xs,rfl,e1,e3,e4⟩
  |_=>cases e
 |tp=>cases e
 |dk _=>cases e
 |ob _=>cases e
theorem jw5:SndO rCat gCat:=λC H B σ δ n x y p q Q Q' R rx ry h1 k=>by
 unfold gCat at h1
 split at h1
 ·rename_i i j ei ej;obtain⟨ax,xs,rfl,e1,e3,e4⟩:=jnp rx ei;obtain⟨ay,ys,rfl,f1,f3,f4⟩:=jnp ry ej;obtain⟨hl,q⟩:=h1;have hl':xs.length+ys.length<=Ap:=by rw[e4.len,f4.len];exact hl
  refine⟨ax,ay,xs,ys,rfl,rfl,e1,f1,hl',λpn hp=>?_⟩;refine k _ _ _ n (R.new hp) (Kp.new hp) (wd (show RdX _ B _ (.list (i++j))from .lst jah (R.nb hp) (by rw[Ak];exact hl') ?_)) q;exact((e4.append f4).fresh hp).less λb z=>.inl z
 ·exact h1.elim
theorem j43 (ha:DE X a ta wa) (hb:DE X b tb wb):DE X (.BinOp a .Add b pos) (tOp rCat ta tb) (w2 wa wb gCat):=d_op jrb jw5 ha hb
end
section
variable {X:Cx} {a b c e o i f:Expr} {ta tb te td ty tx:TE} {wa wb we wd' wy wx:DT} {pos p:Pos} {K:Ah}
def sUnp (w:DT) (g:DTG):DST:=λδ n K=>w δ n λx n1=>match x with
 |.d d=>g d δ λδ'=>K.nx δ' n1
 |_=>False
theorem j3h {tg:Expr} {g:TG} {gd:DTG} (he:DE X e te we) (hg:DG X tg g gd) (hs:swapsWithSole [tg] e pos.line X.env=pure false:=by rfl) (hw:swappedStores [tg] e X.env=pure none:=by rfl)
  (h1:(Dh [tg] X.env).map (·.2)=[assign tg X.env]:=by rfl):DS X (.Assign [tg] e pos) (tAsg te g) (sUnp we gd):=⟨jkb he.pe hg.pg hs hw h1,λC H B σ δ n K D R q E =>
 he.sd C H B σ δ n _ _ R q λv x H1 n1 R1 k1 r1 q1=>by
  cases x with
  |d d=>exact hg.sd C H1 B σ δ n1 v d _ _ R1 r1 q1 λσ' δ' R' q'=>E.nx _ _ _ _ _ R' q'
  |tp=>exact q1.elim
  |dk _=>exact q1.elim
  |ln _=>exact q1.elim
  |ob _=>exact q1.elim⟩
def sqOf:Wv->Option (List Aa)
 |.ln ds=>some ds
 |.d (.list ds)=>some ds
 |.d (.tuple ds)=>some ds
 |_=>none
theorem jzi {H:Hp} {B:Addr->Prop} {t:Addr} {v:V} {x:Wv} {ds:List Aa} (h:WRel H B t v x) (e:sqOf x=some ds):∃a xs,v=.ref a/\(SqL K H a xs\/SqT K H a xs)/\xs.length<=Ap/\RdXs H B xs ds:=by
 cases x with
 |ln es =>
  cases e;obtain⟨a,xs,h1,h2,h3,h4,h5⟩:=h;exact⟨a,xs,h1,.inl (SqL.of h2),h4,h5⟩
 |d y =>
  cases y with
  |list es =>
   cases e;cases(show RdX H B v (.list ds)from h)with
   |@lst a xs _ e1 e2 e3 e4=>exact⟨a,xs,rfl,.inl (SqL.of e1),e3,e4⟩
  |tuple es =>
   cases e;cases(show RdX H B v (.tuple ds)from h)with
   |@tup a xs _ e1 e2 e3 e4=>exact⟨a,xs,rfl,.inr (SqT.of e1),e3,e4⟩
  |_=>cases e
 |tp=>cases e
 |dk _=>cases e
 |ob _=>cases e
def jgl (w:DT):DTF:=λδ n Q=>w δ n λx n1=>match sqOf x with
 |some ds=>Q ds n1
 |none=>False
theorem jul (hg:Gl X "list") (hm:X.mg "list"=none) (ho:DE X o td wd') (hK:X.K=K:=by rfl) (he:Au [o] X.env=(false,eval o X.env)::Au [] X.env:=by rfl) (hpl:(C8 pos (Au [] X.env)).any (·.1)=false:=by rfl) :
  DF X (.Call (.Name "list" p) [o] [] pos) (tCB (jvs K) (jbu td tNil)) (jgl wd') :=
 ⟨jco (jpf hK) hg hm jgp (jaq ho.pe jbc he) (by decide) (by decide) he hpl,λC H B σ δ n Q Q' R q k=>ho.sd C H B σ δ n _ _ R q λv x H1 n1 R1 k1 r1 q1=>by
  split at q1
  ·rename_i ds ex;obtain⟨a,xs,rfl,h1,h2,h3⟩:=jzi (K:=K) r1 ex;refine⟨a,xs,rfl,h1,λl hl=>?_⟩;exact k l xs ds _ n1 (R1.new hl) (k1.trans (Kp.new hl)) (R1.was k1 hl) jah h2 (h3.fresh hl) q1
  ·exact q1.elim⟩
def jbi:List Wv->Int->DQ->Prop:=λxs n Q=>match xs with
 |[.ln ds]=>Q (.d (.tuple ds)) n
 |xs=>jb8 xs n Q
theorem jow:SndB (jl3 K) jbi:=λC H B σ δ n vs xs Q Q' R r h k=>by
 unfold jbi at h
 split at h
 ·rename_i ds;cases r with
  |cons r1 r2 =>
   cases r2;obtain⟨ay,ys,rfl,e1,e2,e3,e4⟩:=r1;refine⟨ay,ys,rfl,.inl ⟨SqL.of e1,λl hl=>?_⟩⟩;refine k _ _ _ n (R.new hl) (Kp.new hl) (wd (show RdX _ B _ (.tuple ds)from .tup jah (R.nb hl) e3 ?_)) h;exact(e4.fresh hl).less λb z=>.inl z
 ·exact jhu C H B σ δ n vs xs Q Q' R r h k
def sExt (i:Nat) (w:DT):DST:=λδ n K=>match δ[i]? with
 |some (some (.own ds))=>w δ n λx n1=>match x with
  |.d (.list es)=>(ds.length < 1000000/\es.length < 1000000)/\K.nx (δ.set i (some (.own (ds++es)))) n1
  |_=>False
 |_=>False
theorem jum {n m:Nat} (h:n < 1000000) (h':m < 1000000):n+m<=Ap:=by
 have:2000000<=Ap:=by decide
 omega
theorem jyz (H:Hp) (B:Addr->Prop):RdXs H B ju5 jju:=.cons .non (.cons .non (.cons .non (.cons (.int _) (.cons (.int _) (.cons (.int _) (.cons (.int _) .nil))))))
def wTp3 (i:Nat):DT:=λδ n Q=>match δ[i]? with
 |some (some (.w .tp))=>Q (.ln jju) n
 |_=>False
theorem j4p (i:Nat) {x:Str} {ix:Int} {p p2:Pos} {jj} (hK:X.K=K:=by rfl) (hN:X.N[i]?=some x:=by rfl) (hv:Vis X.env.scope x:=by first | exact Da rfl | exact Cc (Da rfl) | exact Cc (Cc rfl)) (hd:(x==("__debug__":Str))=false:=by decide)
  (hcd:(x==("__classdict__":Str))=false:=by decide):DE X (.Subscript (.Name x p) (.Constant (.int 3) jj p2) pos) (tOp (rIx K) (tVar i) (tC (.int 3))) (wTp3 i):=by
 subst hK;refine⟨jeh jnv (jdw hN hv hd hcd) jaw (λ_ _=>rfl),λC H B σ δ n Q Q' R h k=>?_⟩;unfold wTp3 at h
 split at h
 ·rename_i e;obtain⟨v,h1,h2⟩:=R.sl i _ e;cases(show v=.ref C.t from h2.1);obtain⟨a,b,ho,_⟩:=R.tp.ob;refine⟨_,h1,.inl ⟨C.t,_,3,.ref C.l.g,rfl,rfl,SqL.of ho,ja5 (j:=3) rfl,k _ (.ln jju) H n R (Kp.refl _ _) ⟨C.l.g,ju5,rfl,R.tp.ag rfl,R.tp.gne,by decide,jyz _ _⟩ h⟩⟩
 ·exact h.elim
end
end DL
namespace L2
open PySem PySem.Spec PyProof.Rows
end L2
namespace DL
open PySem L2 Nb
end DL
namespace HT
open PySem PyProof.Rows
open PySem.SeqAt
open PySem.AutoSeq1 (wpAny_loadPart')
open PySem.MeetsSeq PySem.MeetsSeq2 PySem.MeetsSeq3
section
variable {prog:Bg} {w:Bw} {A:Cb} {E:Ai->Am->Prop} {s:Am}
theorem getItem_tuple_whole {t sl:Addr} {items:Array Ai} {vl vu:Ai} {lo hi:Option Int} {Q:Ai->Am->Prop} (ht:IsTup s.heap t items) (hs:s.heap.IsSliceOf sl vl vu .none) (pl:IsPart vl lo) (pu:IsPart vu hi)
  (h0:sIx items.size 0 lo=0) (h1:sIx items.size items.size hi=items.size) (h:Q (.ref t) s):A3 (Bc prog w) A (getItem (.ref t) (.ref sl)) Q E s:=by
 obtain⟨os,hos,hcs,hds⟩:=id hs;have hTs:s.TypeIs (.ref sl) "slice":=⟨os,hos,hcs⟩;unfold getItem
 try with_reducible refine Cm ?_
 first | refine Ad (Av ?_) | skip
 refine Ad (wpAny_sequenceKey ht.typeIs (by decide) ?_);refine Ad (Cj (name:=Di "__getitem__") ht.typeIs Dk
  (C7 Dk ht.typeIs entry_tuple_getitem ?_ (args_tuple_getitem _ _)))
 show A3 _ _ (Builtin.Tuple.tupleItemsOf (.ref t)>>=_) _ _ s;refine Ad (tupleItemsOf_ ht ?_);refine Ad (wpAny_typeOf hTs ?_);rw[if_pos (by decide)];refine Ad (jci hs pl pu ?_);have hyes:(((sIx items.size 0 lo:Nat):Int)==0&&(1:Int)==1&&(sIx items.size items.size hi - sIx items.size 0 lo)==items.size)=true:=by
  rw[h0,h1];simp
 show A3 _ _ (if (((sIx items.size 0 lo:Nat):Int)==0&&(1:Int)==1&&(sIx items.size items.size hi - sIx items.size 0 lo)==items.size)=true then _ else _) _ _ s;rw[if_pos hyes];unfold Builtin.Tuple.tupleIsExact;refine Ad (Ad (wpAny_typeOf ht.typeIs (Av ?_)));rw[if_pos (by decide)];exact Ad (wpAny_rule (Av ⟨_,rfl,Av h⟩))
end
end HT
namespace L2
open PySem PySem.Spec PyProof.Rows
def rSlW (K:Ah):V->Option Int->Option Int->Hp->VK->Prop:=λx lo hi H Q=>∃a xs,x=.ref a/\SqT K H a xs/\HT.sIx xs.length 0 lo=0/\HT.sIx xs.length xs.length hi=xs.length/\Q (.ref a) H
theorem jth {X:Cx}:SlR X (rSlW X.K):=by
 intro pins s σ H x v vl vu lo hi sl Q I rx hs pl pu h;obtain⟨a,xs,rfl,hx,h0,h1,q⟩:=h;cases rx;obtain⟨its,r,ht,hz⟩:=I.tuple hx;have hlen:its.toArray.size=xs.length:=by rw[A2];exact r.length.symm
 refine⟨"tuple",_,PyProof.Rows.slot_tuple_getitem.lookup,ht.typeIs,?_⟩;exact HT.getItem_tuple_whole ht hs pl pu (by rw[hlen];exact h0) (by rw[hlen];exact h1) ⟨.ref a,H,I,rfl,q⟩
end L2
namespace DL
open PySem L2 Nb
section
variable {X:Cx} {e:Expr} {te:TE} {we:DT} {pos p2:Pos} {K:Ah} {lo hi:Option Expr}
abbrev DTO:=Sl->Int->(Option Int->Int->Prop)->Prop
def jbv:DTO:=λ_ n Q=>Q none n
def jbg (w:DT):DTO:=λδ n Q=>w δ n λx n1=>match x with
 |.d (.int i)=>Q (some i) n1
 |_=>False
def j5j (t:TO) (w:DTO):Prop:=∀(C:Ctx) (H:Hp) (B:Addr->Prop) (σ:St) (δ:Sl) (n:Int) (Q:Option Int->Int->Prop) (Q':Option Int->Hp->Prop),Rel C H B σ δ n->w δ n Q ->
 (∀o H' n',Rel C H' B σ δ n'->Kp C.t H H'->Q o n'->Q' o H')->t σ H Q'
structure DOp (X:Cx) (o:Option Expr) (t:TO) (w:DTO):Prop where
 po:PO X o t
 sd:j5j t w
theorem j06:DOp X none jp1 jbv:=⟨jqy,λC H B σ δ n Q Q' R q k=>k none H n R (Kp.refl _ _) q⟩
theorem j05 (h:DE X e te we):DOp X (some e) (jy9 te) (jbg we):=⟨jqx h.pe,λC H B σ δ n Q Q' R q k=>h.sd C H B σ δ n _ _ R q λv x H1 n1 R1 k1 r1 q1=>by
 split at q1
 ·rename_i i;cases(show RdX H1 B v (.int i)from r1);exact⟨i,rfl,k (some i) H1 n1 R1 k1 q1⟩
 ·exact q1.elim⟩
def cutD (xs:List Aa) (lo hi:Option Int):List Aa:=(xs.drop (HT.sIx xs.length 0 lo)).take (HT.sIx xs.length xs.length hi - HT.sIx xs.length 0 lo)
def jbm (w:DT) (l u:DTO):DT:=λδ n Q=>w δ n λx n1=>l δ n1 λa n2=>u δ n2 λb n3=>match x with
 |.d (.tuple ds)=>Q (.d (.tuple (cutD ds a b))) n3
 |_=>False
def rSlA (K:Ah):V->Option Int->Option Int->Hp->VK->Prop:=λx lo hi H Q=>rSlT K x lo hi H Q\/rSlW K x lo hi H Q
theorem jyj {tl th:TO} {wl wh:DTO} (he:DE X e te we) (hl:DOp X lo tl wl) (hh:DOp X hi th wh) (hK:X.K=K:=by rfl):DE X (.Subscript e (.Slice lo hi none p2) pos) (tSl (rSlA K) te tl th) (jbm we wl wh):=by
 subst hK;refine⟨jiz (sl_tup.or jth) he.pe hl.po hh.po,λC H B σ δ n Q Q' R q k=>he.sd C H B σ δ n _ _ R q λv x H1 n1 R1 k1 r1 q1 =>
  hl.sd C H1 B σ δ n1 _ _ R1 q1 λa H2 n2 R2 k2 q2=>hh.sd C H2 B σ δ n2 _ _ R2 q2 λb H3 n3 R3 k3 q3=>?_⟩
 split at q3
 ·rename_i ds;have r3:RdX H3 B v (.tuple ds):=(r1.kp k2 R1.bt).kp k3 R2.bt;cases r3 with
  |@tup aa xs _ e1 e2 e3 e4 =>
   have kk:=(k1.trans k2).trans k3;by_cases hw:HT.sIx xs.length 0 a=0/\HT.sIx xs.length xs.length b=xs.length
   ·refine .inr ⟨aa,xs,rfl,SqT.of e1,hw.1,hw.2,k _ _ H3 n3 R3 kk (wd (show RdX H3 B _ (.tuple ds)from .tup e1 e2 e3 e4)) ?_⟩;have:cutD ds a b=ds:=by
     unfold cutD;rw[<-e4.len,hw.1,hw.2,Dy,Nat.sub_zero,e4.len,List.take_length]
    rw[this]at q3;exact q3
   ·refine .inl ⟨aa,xs,rfl,SqT.of e1,hw,λp hp=>?_⟩;refine k _ _ _ n3 (R3.new hp) (kk.trans (Kp.new hp)) (wd (show RdX _ B _ (.tuple (cutD ds a b))from .tup jah (R3.nb hp) (A4 (jcf xs a b) e3) ?_)) q3;unfold cutD cutV;rw[<-e4.len];exact(((e4.drop _).take _).fresh hp).less λb z=>.inl z
 ·exact q3.elim
end
end DL
namespace Nb
open PySem L2
end Nb
namespace DL
open PySem L2 Nb
abbrev DSpN:=List Wv->Int->(List Aa->Int->Prop)->Prop
def jov (S:DSpN):Sp:=λvs H Q _=>∃(t:Addr) (l:TL) (ns:List Int) (B:Addr->Prop) (ws:List Wv) (n:Int) (Q0:List Aa->Int->Prop),Tp H t l ns n/\B t/\(∀b,B b->H b≠none)/\ARel H B t vs ws/\S ws n Q0 /\
 ∀ds n',Q0 ds n'->∀a xs H',Tp H' t l ns n'->Kp t H H'->H a=none->H' a=some (.lst xs)->xs.length<=Ap->RdXs H' (λb=>B b\/b=a) xs ds->Q (.ref a) H'
section
variable {X:Cx} {e:Expr} {es:List Expr} {pos p:Pos} {tR:TA} {wR:DTA} {te:TE} {we:DT}
def jck (S:DSpN) (w:DTA):DTF:=λδ n Q=>w δ n λxs n1=>S xs n1 Q
theorem jqa {S:DSpN} {t:TA} {w:DTA} (h:SndA t w):SndF (jhe (jov S) [] E0 t) (jck S w):=λC H B σ δ n Q Q' R q k =>
 h C H B σ δ n _ _ R q λvs xs H1 n1 R1 k1 r1 q1=>by
  refine⟨C.t,C.l,C.ns,B,xs,n1,Q,R1.tp,R1.bt,R1.ba,by rw[Bo];exact r1,q1,λds n' q2 a ys H' T' k' h0 h1 h2 h3=>?_⟩;exact k a ys ds H' n' (R1.step T' k') (k1.trans k') (R1.was k1 h0) h1 h2 h3 q2
structure HasN (P:Bg) (w:Bw) (K:Ah) (mg:Str->Option Ai) (base:Heap) (k:Nat) (x:Str) (ps:List Str) (S:DSpN):Prop where
 ex:∃(f:Addr) (fd:Ce),FnOk P w K mg base CX0 k f fd ps (jov S)/\Binds K fd ps []/\mg x=some (.ref f)/\Cf K (.ref f)=true
theorem HasN.mk' {P:Bg} {w:Bw} {K:Ah} {mg:Str->Option Ai} {base:Heap} {k:Nat} {x qual:Str} {st:Stmt} {ps:List Str} {S:DSpN} {f:Addr} {fd:Ce} (F:Fun K x qual st f fd) (m:mg x=some (.ref f)) (b:Binds K fd ps []) (h:FnOk P w K mg base CX0 k f fd ps (jov S)):HasN P w K mg base k x ps S:=⟨f,fd,h,b,m,F.kp⟩
theorem jyh {k:Nat} {ps:List Str} {S:DSpN} {x:Str} (h:HasN X.prog X.w X.K X.mg X.base k x ps S) (hr:Room k X.A) (hg:Gl X x)
  (ha:DA X (e::es) tR wR) (hdb:(x==("__debug__":Str))=false:=by decide) (he:Au (e::es) X.env=(false,eval e X.env)::Au es X.env:=by rfl) (hpl:(C8 pos (Au es X.env)).any (·.1)=false:=by rfl) :
  DF X (.Call (.Name x p) (e::es) [] pos) (jhe (jov S) [] E0 tR) (jck S wR):=by
 obtain⟨f,fd,h1,h2,h3,h4⟩:=h.ex;exact⟨jl5 h1 hr hg h3 h4 h2 .nil jxn ha.pa hdb he hpl,jqa ha.sd⟩
def jiv (w:DTF):DST:=λδ n K=>w δ n K.rn
theorem jzz {w:DTF} (h:DF X e te w):DS X (.Return (some e) pos) (tRet te) (jiv w):=⟨jh1 h.pe,λC H B σ δ n K D R q E =>
 h.sd C H B σ δ n _ _ R q λa xs ds H' n' R' k' h0 h1 h2 h3 q'=>E.rn H' B σ δ n' a xs ds R' (R.h0 h0) h1 h2 h3 q'⟩
end
section
variable {P:Bg} {w:Bw} {K:Ah} {mg:Str->Option Ai} {base:Heap}
theorem Fun.okN {x qual:Str} {st:Stmt} {f:Addr} {fd:Ce} {N ps:List Str} {k:Nat} {S:DSpN} (F:Fun K x qual st f fd) (Sc:FnScope N ps (jal st)) (len:∀ws n Q,S ws n Q->ws.length=ps.length)
  (hbody:∀(cdv:Ai) (A:Cb) (outer:List Env) (s:Am) (H:Hp) (E:XK),Room k (A.deeper (Dm qual (jal st) s.heap.objs.size f cdv)) ->
   ∃T W,DSs (cxOf CX0 P w K mg base N qual (jal st) f cdv A outer s H E).nox (jbe st) T W/\∀ws n Q,S ws n Q->W (jat N ws) n {nx:=λ_ _=>False,rt:=λ_ _=>False,rn:=Q}):FnOk P w K mg base CX0 (k+1) f fd ps (jov S):=by
 refine F.ok Sc (λvs H Q E h=>?_) (λcdv A outer s H vs Q E hr h=>?_)
 ·obtain⟨t,l,ns,B,ws,n,Q0,_,_,_,r,q,_⟩:=h;rw[r.len];exact len ws n Q0 q
 ·obtain⟨t,l,ns,B,ws,n,Q0,T,bt,ba,r,q,kk⟩:=h;obtain⟨T',W,d,hw⟩:=hbody cdv A outer s H E hr;refine⟨T',d.ps,d.sd ⟨t,l,ns,H,B,λ_=>none⟩ H B _ _ n _ _ (jka T bt ba r) (hw ws n Q0 q) ⟨?_,?_,?_,?_,?_⟩⟩
  ·exact λ_ _ _ _ _ _ z=>z.elim
  ·exact λ_ _ _ _ _ _ _ _ _ z=>z.elim
  ·exact λ_ _ _ _ _ _ z=>z.elim
  ·exact λ_ _ _ _ _ _ z=>z.elim
  ·exact λH' B' σ δ n' a xs ds R' h0 h1 h2 h3 q'=>kk _ _ q' a xs H' R'.tp R'.kp h0 h1 h2 (h3.less λb z=>z.elim (λz=>.inl (R'.b0 b z)) .inr)
end
end DL
namespace Nb
open PySem L2
end Nb
namespace DL
open PySem L2 Nb
section
variable {X:Cx} {a b c e o i f:Expr} {ta tb te ty:TE} {wa wb we wy:DT} {pos p xp:Pos} {K:Ah} {D:List (Str×Str)} {q:Addr} {x:Str}
def gStr:List Wv->Int->DQ->Prop:=λxs n Q=>match xs with
 |[.d (.int i)]=>(i.natAbs.log2 < 1920/\(Di (toString i)).length<=1000)/\Q (.d (.str (toString i))) n
 |[.d (.str x)]=>Q (.d (.str x)) n
 |_=>False
def fCat (wa wb:DT):DTF:=λδ n Q=>wa δ n λx n1=>wb δ n1 λy n2=>match lsOf x,lsOf y with
 |some i,some j=>i.length+j.length<=Ap/\Q (i++j) n2
 |_,_=>False
theorem j4i (ha:DE X a ta wa) (hb:DE X b tb wb):DF X (.BinOp a .Add b pos) (tOp rCat ta tb) (fCat wa wb):=⟨jbq jrb ha.pe hb.pe,λC H B σ δ n Q Q' R z k =>
 ha.sd C H B σ δ n _ _ R z λv x H1 n1 R1 k1 r1 q1=>hb.sd C H1 B σ δ n1 _ _ R1 q1 λu y H2 n2 R2 k2 r2 q2=>by
  have r1':=r1.kp k2 R1.bt
  split at q2
  ·rename_i i j ei ej;obtain⟨ax,xs,rfl,e1,e3,e4⟩:=jnp r1' ei;obtain⟨ay,ys,rfl,f1,f3,f4⟩:=jnp r2 ej;obtain⟨hl,q⟩:=q2;have hl':xs.length+ys.length<=Ap:=by rw[e4.len,f4.len];exact hl
   refine⟨ax,ay,xs,ys,rfl,rfl,e1,f1,hl',λpn hp=>?_⟩;refine k pn (xs++ys) (i++j) _ n2 (R2.new hp) ((k1.trans k2).trans (Kp.new hp)) (R2.was (k1.trans k2) hp) jah (by rw[Ak];exact hl') ((e4.append f4).fresh hp) q
  ·exact q2.elim⟩
def jcr:List Wv->Int->DQ->Prop:=λxs n Q=>match xs with
 |[.ln ds]=>Small (.list ds)/\Q (.d (.str (E2 (.list ds)))) n
 |xs=>juj xs n Q
theorem jp4:SndB (jqq K) jcr:=λC H B σ δ n vs xs Q Q' R r h k=>by
 unfold jcr at h
 split at h
 ·rename_i ds;cases r with
  |cons r1 r2 =>
   cases r2;obtain⟨ay,ys,rfl,e1,e2,e3,e4⟩:=r1;exact⟨ay,.list ds,rfl,.lst (SqL.of e1) (RdXs.rd e4),h.1,k _ _ H n R (Kp.refl _ _) (wd (show RdX H B _ (.str _)from .str _ h.1.len)) h.2⟩
 ·exact jp5 C H B σ δ n vs xs Q Q' R r h k
end
end DL
namespace L2
open PySem PySem.Spec PyProof.Rows PySem.SeqAt PySem.W
end L2
namespace L2
open PySem PySem.Spec PyProof.Rows
end L2
namespace L2
open PySem PySem.Spec PyProof.Rows PySem.W
end L2
namespace L2
open PySem PySem.Spec PyProof.Rows
end L2
namespace L2
open PySem PySem.Spec PyProof.Rows PySem.SeqAt PySem.W
end L2
namespace DL
open PySem L2 Nb
end DL
namespace L2
open PySem PySem.Spec PyProof.Rows PySem.SeqAt PySem.W
end L2
namespace DL
open PySem L2 Nb
end DL
namespace HT
open PySem PyProof.Rows
end HT
namespace L2
open PySem PySem.Spec PyProof.Rows
end L2
namespace DL
open PySem L2 Nb
end DL
namespace L2
open PySem PySem.Spec PyProof.Rows PySem.SeqAt
end L2
namespace DL
open PySem L2 Nb
end DL
namespace L2
open PySem PySem.Spec PyProof.Rows
end L2
namespace DL
open PySem L2 Nb
end DL
namespace L2
open PySem PySem.Spec PyProof.Rows
def jxb (K:Ah):R2:=λx y H Q=>∃a b ys,x=.ref a/\y=.ref b/\SqT K H a []/\SqT K H b ys/\Q (.ref b) H
theorem jxr {X:Cx}:OpR X (Du .Add) (jxb X.K):=by
 intro pins s σ H x y v u Q I rx ry h;obtain⟨a,b,ys,rfl,rfl,ha,hb,q0⟩:=h;cases(show v=A5 a from rx);cases(show u=A5 b from ry);obtain⟨its,r1,p1,_⟩:=I.tuple ha;obtain⟨its2,r2,p2,_⟩:=I.tuple hb;obtain⟨⟨cls,dd,data,sl⟩,ho,hc,n,hd⟩:=id p1;obtain⟨⟨cls2,dd2,data2,sl2⟩,ho2,hc2,n2,hd2⟩:=id p2;simp only at hc hd hc2 hd2;subst hc hd hc2 hd2;have hi:its=[]:=r1.nil_iff.mpr rfl;exact concat_meets ⟨_,ho,rfl⟩ ⟨_,ho2,rfl⟩ noFill_tuple_add seq_tuple_add Ez Ew (Em _ _)
  (tuple_addW0 a b its.toArray its2.toArray n n2 dd dd2 sl sl2 (by simp[hi])) ⟨ho,ho2,⟨.ref b,H,I,rfl,q0⟩⟩
end L2
namespace DL
open PySem L2 Nb
section
variable {X:Cx} {a b:Expr} {ta tb:TE} {wa wb:DT} {pos p:Pos} {K:Ah}
def jdn:Wv->Wv->Int->DQ->Prop:=λx y n Q=>match x,y with
 |.d (.tuple []),.d (.tuple j)=>Q (.d (.tuple j)) n
 |x,y=>gAdd x y n Q
theorem jtg:SndO (λx y H Q=>jox K x y H Q\/jxb K x y H Q) jdn:=λC H B σ δ n x y p q Q Q' R rx ry h1 k=>by
 unfold jdn at h1
 split at h1
 ·rename_i j;cases(show RdX H B x (.tuple [])from rx)with
  |@tup ax xs _ e1 e2 e3 e4 =>
   cases(show RdX H B y (.tuple j)from ry)with
   |@tup ay ys _ f1 f2 f3 f4 =>
    cases e4;exact .inr ⟨ax,ay,ys,rfl,rfl,SqT.of e1,SqT.of f1,k _ _ H n R (Kp.refl _ _) (wd (show RdX H B _ (.tuple j)from .tup f1 f2 f3 f4)) h1⟩
 ·exact .inl (jm5 C H B σ δ n x y _ _ Q Q' R rx ry h1 k)
theorem j2s (ha:DE X a ta wa) (hb:DE X b tb wb) (hK:X.K=K:=by rfl):DE X (.BinOp a .Add b pos) (tOp (λx y H Q=>jox K x y H Q\/jxb K x y H Q) ta tb) (w2 wa wb jdn):=by
 subst hK;exact d_op (op_addA.or jxr) jtg ha hb
end
end DL
namespace L2
open PySem PySem.Spec PyProof.Rows
end L2
namespace DL
open PySem L2 Nb
end DL
namespace L2
open PySem PySem.Spec PyProof.Rows
end L2
namespace DL
open PySem L2 Nb
end DL
namespace L2
open PySem PySem.Spec PyProof.Rows
end L2
namespace DL
open PySem L2 Nb
end DL
namespace L2
open PySem PySem.Spec PyProof.Rows
end L2
namespace DL
open PySem L2 Nb
theorem j2r {X:Cx} {a b:Expr} {ta tb:TE} {wa wb:DT} {pos:Pos} (ha:DE X a ta wa) (hb:DE X b tb wb):DE X (.BinOp a .Add b pos) (tOp (rI0 λi j=>.int (i+j)) ta tb) (w2 wa wb (gI0 λi j=>.int (i+j))):=d_op op_add (jp6 λ_ _ _ _=>.int _) ha hb
section
variable {X:Cx} {a b e o i f:Expr} {ta tb te td ty:TE} {wa wb we wd' wy:DT} {pos p p2:Pos} {K:Ah}
def gIsO (neg:Bool):Wv->Wv->Int->DQ->Prop:=λx y n Q=>(∃o,x=.ob o/\y=.d .none/\Q (.d (.bool neg)) n)\/gIsN neg x y n Q
theorem jv1 {H:Hp} {B:Addr->Prop} {t:Addr} {v:V} {o:Ob} (h:WRel H B t v (.ob o)):∃a,v=.ref a:=by
 cases o with
 |o=>exact h
 |p d=>obtain⟨a,_,_,e,_⟩:=h;exact⟨a,e⟩
 |k m=>obtain⟨a,_,e,_⟩:=h;exact⟨a,e⟩
 |q d m=>obtain⟨a,_,_,_,e,_⟩:=h;exact⟨a,e⟩
theorem jw2:SndO (λx y H Q=>y=.non/\Q (.bl (decide (x=.non))) H) (gIsO false):=λC H B σ δ n x y p q Q Q' R rx ry h1 k=>by
 rcases h1 with⟨o,rfl,rfl,h⟩ | h
 ·obtain⟨a,rfl⟩:=jv1 rx;cases(show RdX H B y .none from ry);exact⟨rfl,k _ _ H n R (Kp.refl _ _) (wd (.bl _)) h⟩
 ·exact jp7 C H B σ δ n x y p q Q Q' R rx ry h k
theorem jm3:SndO (λx y H Q=>y=.non/\Q (.bl (!decide (x=.non))) H) (gIsO true):=λC H B σ δ n x y p q Q Q' R rx ry h1 k=>by
 rcases h1 with⟨o,rfl,rfl,h⟩ | h
 ·obtain⟨a,rfl⟩:=jv1 rx;cases(show RdX H B y .none from ry);exact⟨rfl,k _ _ H n R (Kp.refl _ _) (wd (.bl _)) h⟩
 ·exact jtc C H B σ δ n x y p q Q Q' R rx ry h k
def jpt (w w':DT):DT:=λδ n Q=>w δ n λx n1=>w' δ n1 λy n2=>∃d m,x=.d d/\y=.ob (.k m)/\Q (.ob (.q d m)) n2
theorem jyk {x1} (ha:DE X a ta wa) (hb:DE X b tb wb) (he:Au [a,b] X.env=(false,eval a X.env)::Au [b] X.env:=by rfl) (he':Au [b] X.env=(false,eval b X.env)::Au [] X.env:=by rfl):DE X (.Tuple [a,b] x1 pos) (tTup (jbu ta (jbu tb tNil))) (jpt wa wb) :=
 ⟨jvy (jaq ha.pe (jaq hb.pe jbc he') he),λC H B σ δ n Q Q' R q k =>
  ha.sd C H B σ δ n _ _ R q λv x H1 n1 R1 k1 r1 q1=>hb.sd C H1 B σ δ n1 _ _ R1 q1 λu y H2 n2 R2 k2 r2 q2=>by
   obtain⟨d,m,rfl,rfl,q3⟩:=q2;have r1':RdX H2 B v d:=r1.kp k2 R1.bt;obtain⟨b,l,rfl,g1,g2,g3⟩:=r2;refine⟨small (show 2<=1000 by decide),λp hp=>k _ (.ob (.q d m)) _ n2 (R2.new hp) ((k1.trans k2).trans (Kp.new hp)) ⟨p,v,b,l,rfl,jah,R2.nb hp,?_,?_,g2,?_⟩ q3⟩
   ·exact r1'.kp (Kp.new (t:=C.t) hp) R2.bt
   ·exact Kp.new (t:=C.t) hp _ _ g1 λz=>g2 (z▸R2.bt)
   ·exact g3.move λb o e n=>⟨Kp.new (t:=C.t) hp b o e λz=>n (z▸R2.bt),n⟩⟩
def gIxO:Wv->Wv->Int->DQ->Prop:=λx y n Q=>(∃d m,x=.ob (.q d m)/\((y=.d (.int 0)/\Q (.d d) n)\/(y=.d (.int 1)/\Q (.dk m) n)))\/gIx x y n Q
theorem jw0:SndO (rIx K) gIxO:=λC H B σ δ n x y p q Q Q' R rx ry h1 k=>by
 rcases h1 with⟨d,m,rfl,h⟩ | h
 ·obtain⟨a,v,b,l,rfl,e2,e3,e4,e5,e6,e7⟩:=rx;rcases h with⟨rfl,h⟩ | ⟨rfl,h⟩
  ·cases(show RdX H B y (.int 0)from ry);exact .inr (.inl ⟨a,[v,.ref b],0,v,rfl,rfl,SqT.of e2,rfl,k _ _ H n R (Kp.refl _ _) (wd e4) h⟩)
  ·cases(show RdX H B y (.int 1)from ry);exact .inr (.inl ⟨a,[v,.ref b],1,.ref b,rfl,rfl,SqT.of e2,rfl,k _ (.dk m) H n R (Kp.refl _ _) ⟨b,l,rfl,e5,λz=>e6 (z▸R.bt),e7⟩ h⟩)
 ·exact jhw C H B σ δ n x y p q Q Q' R rx ry h k
theorem j4x (ha:DE X a ta wa) (hb:DE X b tb wb) (hK:X.K=K:=by rfl) (hs:jg5 b:=by exact λ_ _=>rfl):DE X (.Subscript a b pos) (tOp (rIx K) ta tb) (w2 wa wb gIxO):=by
 subst hK;exact⟨jeh jnv ha.pe hb.pe hs,jhv jw0 ha.sd hb.sd⟩
end
section
variable {X:Cx} {a b e o i f:Expr} {ta tb te td ty:TE} {wa wb we wd' wy:DT} {pos p p2:Pos} {K:Ah}
def jen (k:Int) (xs:List Aa):List Aa:=xs.zipIdx.map λq=>.tuple [.int (k+q.2),q.1]
theorem jb9 {k:Int} {xs:List Aa}:(jen k xs).length=xs.length:=by unfold jen;rw[Ab,List.length_zipIdx]
theorem jk6 {k:Int} {xs:List Aa} {i:Nat} {d:Aa} (h:(jen k xs)[i]?=some d):∃x,xs[i]?=some x/\d=.tuple [.int (k+i),x]:=by
 unfold jen at h;rw[A0,List.getElem?_zipIdx]at h;cases e:xs[i]? with
 |none=>rw[e]at h;cases h
 |some x =>
  rw[e]at h;refine⟨x,rfl,?_⟩;have:=A6 h;rw[<-this,Nat.zero_add]
theorem jh7 {k:Int} {x:Aa} {xs:List Aa}:jen k (x::xs)=.tuple [.int k,x]::jen (k+1) xs:=by
 refine List.ext_getElem? λi=>?_;unfold jen;cases i with
 |zero=>rw[List.zipIdx_cons,Be,List.getElem?_cons_zero,List.getElem?_cons_zero,Int.natCast_zero,Int.add_zero]
 |succ i =>
  rw[List.getElem?_cons_succ,A0,A0,List.getElem?_zipIdx,List.getElem?_zipIdx,List.getElem?_cons_succ];cases xs[i]? with
  |none=>rfl
  |some y =>
   show some (PyData.tuple [.int (k+(0+(i+1):Nat)),y])=some (.tuple [.int (k+1+(0+i:Nat)),y]);have:k+(0+(i+1):Nat)=k+1+(0+i:Nat):=by omega
   rw[this]
def jpu (w:DT):DT:=λδ n Q=>w δ n λx n1=>∃ds,x=.ln ds/\Q (.d (.bool true)) n1
theorem j2m {x:Str} (hg:Gl X "isinstance") (hm:X.mg "isinstance"=none) (hg2:Gl X x) (hm2:X.mg x=none) (hv:Bv x=some (.type "list")) (ha:DE X a ta wa) (hK:X.K=K:=by rfl) (hn:x≠"__name__":=by decide) (hdb:(x==("__debug__":Str))=false:=by decide)
  (he:Au [a,.Name x p2] X.env=(false,eval a X.env)::Au [.Name x p2] X.env:=by rfl) (he2:Au [.Name x p2] X.env=(false,eval (.Name x p2) X.env)::Au [] X.env:=by rfl) (hpl:(C8 pos (Au [.Name x p2] X.env)).any (·.1)=false:=by rfl) :
  DE X (.Call (.Name "isinstance" p) [a,.Name x p2] [] pos) (tCB (rIsi K "list") (jbu ta (jbu (tC (.ty "list")) tNil))) (jpu wa):=by
 subst hK;exact⟨jcc (jn7 (T:="list")) hg hm jss (jaq ha.pe (jaq (jq1 (v:=.ty "list") hg2 hm2 hv rfl hn hdb) jbc he2) he) (by decide) (by decide) he hpl,λC H B σ δ n Q Q' R q k=>ha.sd C H B σ δ n _ _ R q λv x H1 n1 R1 k1 r1 q1=>by
  obtain⟨ds,rfl,q⟩:=q1;obtain⟨a,xs,rfl,e1,_⟩:=r1;exact⟨_,_,true,rfl,.lst e1,rfl,k _ _ H1 n1 R1 k1 (wd (.bl _)) q⟩⟩
end
section
variable {X:Cx} {e:Expr} {te:TE} {we:DT} {pos p:Pos}
def wOfK (w:DTK):DT:=λδ n Q=>w δ n λkvs n1=>Q (.dk kvs) n1
theorem DN.d {w:DTK} (h:DN X e te w):DE X e te (wOfK w):=⟨h.pe,λC H B σ δ n Q Q' R q k =>
 h.sd C H B σ δ n _ _ R q λa l kvs H' n' R' k' h0 h1 h2 h3 q1=>by
  refine k _ (.dk kvs) H' n' R' k' ⟨a,l,rfl,h1,λz=>?_,h3.move λb o e n=>⟨e,λz=>n (.inl z)⟩⟩ q1;obtain⟨_,_,q,_⟩:=R.tp.ob;rw[<-z,h0]at q;cases q⟩
abbrev jez (w:DT):DT:=wOfK (jkr w)
theorem jym (hh:X.A.handled=none) (hg:Gl X "dict") (hm:X.mg "dict"=none) (he:DE X e te we) (he':Au [e] X.env=(false,eval e X.env)::Au [] X.env:=by rfl) (hpl:(C8 pos (Au [] X.env)).any (·.1)=false:=by rfl):DE X (.Call (.Name "dict" p) [e] [] pos) (tCB jvt (jbu te tNil)) (jez we) :=
 (jv7 hh hg hm he (by decide +kernel) he' hpl).d
end
section
variable {X:Cx} {e:Expr} {te:TE} {we:DT} {pos p2:Pos} {K:Ah}
def cTr (w:DT):DTT:=λδ n Q=>w δ n λx n1=>match x with
 |.d (.list ds)=>Q (!ds.isEmpty) n1
 |_=>False
def jcb (w:DT) (l u:DTO):DT:=λδ n Q=>w δ n λx n1=>l δ n1 λa n2=>u δ n2 λb n3=>match x with
 |.d (.list ds)=>Q (.d (.list (cutD ds a b))) n3
 |_=>False
theorem jur {lo hi:Option Expr} {tl th:TO} {wl wh:DTO} (he:DE X e te we) (hl:DOp X lo tl wl) (hh:DOp X hi th wh) (hK:X.K=K:=by rfl):DE X (.Subscript e (.Slice lo hi none p2) pos) (tSl (rSlL K) te tl th) (jcb we wl wh):=by
 subst hK;refine⟨jiz jqg he.pe hl.po hh.po,λC H B σ δ n Q Q' R q k=>he.sd C H B σ δ n _ _ R q λv x H1 n1 R1 k1 r1 q1 =>
  hl.sd C H1 B σ δ n1 _ _ R1 q1 λa H2 n2 R2 k2 q2=>hh.sd C H2 B σ δ n2 _ _ R2 q2 λb H3 n3 R3 k3 q3=>?_⟩
 split at q3
 ·rename_i ds;have r3:RdX H3 B v (.list ds):=(r1.kp k2 R1.bt).kp k3 R2.bt;cases r3 with
  |@lst aa xs _ e1 e2 e3 e4 =>
   have kk:=(k1.trans k2).trans k3;refine⟨aa,xs,rfl,SqL.of e1,λp hp=>?_⟩;refine k _ _ _ n3 (R3.new hp) (kk.trans (Kp.new hp)) (wd (show RdX _ B _ (.list (cutD ds a b))from .lst jah (R3.nb hp) (A4 (jcf xs a b) e3) ?_)) q3;unfold cutD cutV;rw[<-e4.len];exact(((e4.drop _).take _).fresh hp).less λb z=>.inl z
 ·exact q3.elim
end
end DL
namespace L2
open PySem PySem.Spec PyProof.Rows
def IteL (K:Ah) (a:Addr):It :=
 ⟨λi H=>∃xs x,SqL K H a xs/\xs[i]?=some x,
  λi H v H'=>∃T x,v=.ref T/\H T=none/\H'=upd H T (.tup [.int i,x])/\∀xs,SqL K H a xs->xs[i]?=some x,
  λi H=>∃xs,SqL K H a xs/\xs.length=i⟩
theorem jon {P:Bg} {w:Bw} {K:Ah} {elts:List Expr} {kk:Nat} {pos:Pos} {a e it:Addr} (h1:e≠it) (h2:a≠it) (h3:e≠a):Turn P w K (.Tuple elts kk pos) (IteL K a) [e,it] e
  (λi h=>(∃old,IsEnum h e it i old)/\h.IsListIter it a i) where
 mem:=by simp
 obj:=λi h st c hc=>by
  obtain⟨⟨x,he⟩,⟨o1,e1,c1,d1⟩⟩:=st;simp only[Ar,Ax,or_false]at hc;rcases hc with rfl | rfl
  ·exact⟨_,he,λv q=>by have q':Data.fields _=Data.cell v:=q;cases q'⟩
  ·exact⟨o1,e1,λv q=>by rw[d1]at q;cases q⟩
 keep:=λi h h' st k=>⟨st.1.imp λ_ q=>k e (by simp) _ q,st.2.at λo q=>k it (by simp) o q⟩
 item:=by
  intro X hP hw hK hc i pins s σ H E I hf st hg;subst hP hw hK;obtain⟨⟨old,he⟩,hi⟩:=st;obtain⟨xs,x,qa,ex⟩:=hg;obtain⟨its,rv,p,_⟩:=I.list qa;obtain⟨u,hu,ru⟩:=rv.get ex;have hlt:i < its.toArray.size:=by simpa using(Aq.mp hu).1
  have hef:e∉[it,a]:=λz=>by
   simp only[Ar,Ax,or_false]at z;exact z.elim h1 h3
  refine wpAny_pyNext_enum_itemD (Draws.list (A:=X.A.in1) (I.ok.hd hc) it a h2 its.toArray) he ⟨hi,p.isList⟩ hlt h1 hef λy h' tk a1 a2 a3 a4 a5 a6=>⟨_,rfl,?_⟩;obtain rfl:u=y:=by
   rw[List.getElem?_toArray,hu]at a1;cases a1;rfl
  refine wpAny_letOwnedTupleGo_enum (s:={ s with heap:=h',toks:=tk+1}) a2 λh'' b1 b2=>?_;have T:h''.get? s.heap.objs.size=some {cls:=.type "tuple",data:=.seq #[.int i tk,u]}:=b2.extBut _ _ (En (Aw he)) a4;have Tn:H s.heap.objs.size=none:=I.hok.fresh (Al _);have kp:∀c o,c∉[e,it]->s.heap.get? c=some o->h''.get? c=some o:=λc o hc e=>by
   simp only[Ar,Ax,or_false,not_or]at hc;exact b2.extBut _ _ hc.1 (a6 c o hc.1 hc.2 e)
  refine⟨.ref s.heap.objs.size,upd H s.heap.objs.size (.tup [.int i,x]),I.many (t':=tk+1) hf kp (Al _) ⟨by show 2<=Ap;decide,[.int i tk,u],.cons ⟨tk,rfl⟩ (.cons ru .nil),_,T,rfl,⟨_,rfl⟩,rfl⟩,rfl,⟨_,x,rfl,Tn,rfl,λzs q=>by rw[I.list_inj q qa];exact ex⟩,
   ⟨⟨u,by rw[show((i+1:Nat):Int)=(i:Int)+1 from rfl];exact b1⟩,a3.1.extBut b2.extBut h1.symm⟩,λc hc=>?_⟩
  have hlt:c < s.heap.objs.size:=by
   simp only[Ar,Ax,or_false]at hc;rcases hc with rfl | rfl
   ·exact Aw he
   ·obtain⟨_,e,_⟩:=hi;exact Aw e
  rw[jag (Bm hlt)];exact(hf c hc).1
 done:=by
  intro X hP hw hK hc i pins s σ H E I hf st hg;subst hP hw hK;obtain⟨⟨old,he⟩,hi⟩:=st;obtain⟨xs,hq,hx⟩:=hg;obtain⟨its,rv,p,_⟩:=I.list hq;have hl:=rv.length;have hs:its.toArray.size=i:=by simp;omega
  refine wpAny_pyNext_enum_endD (Draws.list (A:=X.A.in1) (I.ok.hd hc) it a h2 its.toArray) he (by rw[hs];exact⟨hi,p.isList⟩) λh' k=>⟨rfl,I.many0 (t':=s.toks) hf λc o hc e=>?_⟩;simp only[Ar,Ax,or_false,not_or]at hc;exact k c o hc.2 e
 self:=λ_ _ _ _ _ st h=>wpAny_pyIter_enum st.1.choose_spec h
def jv9 (K:Ah) (ta:TA):TI:=λσ H R=>ta σ H λvs H1=>∃a,vs=[.ref a]/\((∃xs,SqT K H1 a xs)/\R (Ite K a) H1\/(∃xs,SqL K H1 a xs)/\R (IteL K a) H1)
theorem jtq {X:Cx} {elts:List Expr} {kk:Nat} {tpos:Pos} {e1:Expr} {ta:TA} {p pos:Pos} (hg:Gl X "enumerate") (hm:X.mg "enumerate"=none) (ha:PA X [e1] ta) (hs:Au [e1] X.env=[(false,eval e1 X.env)]:=by rfl) :
  PI X (.Tuple elts kk tpos) (.Call (.Name "enumerate" p) [e1] [] pos) (jv9 X.K ta):=by
 intro pins s σ H R I h;refine Call_ (je1 I hg hm boot_enumerate (Co (thn (ha pos pins s σ H _ I h) λus s1 ⟨vs,H1,I1,r1,q1⟩=>?_) (by rw[hs];rfl) rfl));obtain⟨a,e,q⟩:=q1;subst e;cases r1 with
 |cons r rr =>
  cases rr;cases r;have fp:∀c∈[s1.heap.objs.size+1,s1.heap.objs.size],s1.heap.objs.size<=c:=λc hc=>by
   simp only[Ar,Ax,or_false]at hc;rcases hc with rfl | rfl<;>omega
  rcases q with⟨⟨xs,qa⟩,q⟩ | ⟨⟨xs,qa⟩,q⟩
  ·obtain⟨its,rv,pp,_⟩:=I1.tuple qa;have la:a < s1.heap.objs.size:=by obtain⟨_,e,_⟩:=id pp;exact Aw e
   refine jpg (show s1.heap.IsTuple a its.toArray from pp) λh' a1 a2 a3=>wpAny_pyIter_enum (s:={ s1 with heap:=h'}) a1 ?_;exact⟨_,_,_,_,H1,rfl,I1.kept (t':=s1.toks) a3,jpx (Nat.succ_ne_self _) (Bm la) (En (Nat.lt_succ_of_lt la)),⟨⟨_,a1⟩,a2⟩,λc hc=>I1.fpOk (fp c hc) (I1.hok.fresh (fp c hc)),q⟩
  ·obtain⟨its,rv,pp,_⟩:=I1.list qa;have la:a < s1.heap.objs.size:=by obtain⟨_,e,_⟩:=pp.isList;exact Aw e
   refine call_enumerate_list pp.isList λh' a1 a2 _ a3=>wpAny_pyIter_enum (s:={ s1 with heap:=h'}) a1 ?_;exact⟨_,_,_,_,H1,rfl,I1.kept (t':=s1.toks) a3,jon (Nat.succ_ne_self _) (Bm la) (En (Nat.lt_succ_of_lt la)),⟨⟨_,a1⟩,a2⟩,λc hc=>I1.fpOk (fp c hc) (I1.hok.fresh (fp c hc)),q⟩
end L2
namespace DL
open PySem L2 Nb
section
variable {X:Cx} {a:Expr} {ta:TE} {wa:DT} {pos p:Pos} {K:Ah}
def jkz (w:DT):DTI:=λδ n Q=>w δ n λx n1=>∃xs,(x=.d (.tuple xs)\/x=.d (.list xs))/\Q (jen 0 xs) n1
theorem jx5 {elts:List Expr} {kk:Nat} {tpos:Pos} (hg:Gl X "enumerate") (hm:X.mg "enumerate"=none) (ha:DE X a ta wa) (hK:X.K=K:=by rfl) (hs:Au [a] X.env=[(false,eval a X.env)]:=by rfl) (he1:Au [a] X.env=(false,eval a X.env)::Au [] X.env:=by rfl) :
  DI X (.Tuple elts kk tpos) (.Call (.Name "enumerate" p) [a] [] pos) (jv9 K (jbu ta tNil)) (jkz wa):=by
 subst hK;refine⟨jtq hg hm (jaq ha.pe jbc he1) hs,λC H B σ δ n Q Q' R q k=>ha.sd C H B σ δ n _ _ R q λv x H1 n1 R1 k1 r1 q1=>?_⟩;obtain⟨xs,rfl | rfl,q2⟩:=q1
 ·cases(show RdX H1 B v (.tuple xs)from r1)with
  |@tup aa vs _ e1 e2 e3 e4 =>
   refine⟨aa,rfl,.inl ⟨⟨vs,SqT.of e1⟩,k _ (jen 0 xs) H1 n1 R1 k1 (λfz th=>?_) q2⟩⟩;have za:fz aa=some (.tup vs):=th.2 _ _ e1 e2;refine⟨by rw[jb9,<-e4.len];exact e3,λi H hH hi=>?_,λH hH=>?_,λi H x H' d hH hd hy=>?_⟩
   ·rw[jb9]at hi;have h1:i < vs.length:=by rw[e4.len];exact hi
    exact⟨vs,vs[i],SqT.of (hH _ _ za),Af h1⟩
   ·exact⟨vs,SqT.of (hH _ _ za),by rw[jb9,e4.len]⟩
   ·obtain⟨T,x1,rfl,hT,rfl,hx⟩:=hy;refine⟨λb o e=>by rw[jag (jad e hT)];exact e,λB' hB hBa=>?_⟩;obtain⟨y,hy,rfl⟩:=jk6 hd;obtain⟨u1,hu1,ru1⟩:=e4.getD hy;have t1:=hx _ (SqT.of (hH _ _ za));rw[hu1]at t1;cases t1;have mv:∀b o,H1 b=some o->¬B b->upd H T (.tup [.int i,x1]) b=some o/\¬B' b:=λb o e ne=>by
     have:=hH _ _ (th.2 _ _ e ne);exact⟨by rw[jag (jad this hT)];exact this,hB _ _ (th.2 _ _ e ne)⟩
    rw[Int.zero_add];exact .tup jah (λz=>hBa T z hT) (by show 2<=Ap;decide) (.cons (.int _) (.cons (ru1.move mv) .nil))
 ·cases(show RdX H1 B v (.list xs)from r1)with
  |@lst aa vs _ e1 e2 e3 e4 =>
   refine⟨aa,rfl,.inr ⟨⟨vs,SqL.of e1⟩,k _ (jen 0 xs) H1 n1 R1 k1 (λfz th=>?_) q2⟩⟩;have za:fz aa=some (.lst vs):=th.2 _ _ e1 e2;refine⟨by rw[jb9,<-e4.len];exact e3,λi H hH hi=>?_,λH hH=>?_,λi H x H' d hH hd hy=>?_⟩
   ·rw[jb9]at hi;have h1:i < vs.length:=by rw[e4.len];exact hi
    exact⟨vs,vs[i],SqL.of (hH _ _ za),Af h1⟩
   ·exact⟨vs,SqL.of (hH _ _ za),by rw[jb9,e4.len]⟩
   ·obtain⟨T,x1,rfl,hT,rfl,hx⟩:=hy;refine⟨λb o e=>by rw[jag (jad e hT)];exact e,λB' hB hBa=>?_⟩;obtain⟨y,hy,rfl⟩:=jk6 hd;obtain⟨u1,hu1,ru1⟩:=e4.getD hy;have t1:=hx _ (SqL.of (hH _ _ za));rw[hu1]at t1;cases t1;have mv:∀b o,H1 b=some o->¬B b->upd H T (.tup [.int i,x1]) b=some o/\¬B' b:=λb o e ne=>by
     have:=hH _ _ (th.2 _ _ e ne);exact⟨by rw[jag (jad this hT)];exact this,hB _ _ (th.2 _ _ e ne)⟩
    rw[Int.zero_add];exact .tup jah (λz=>hBa T z hT) (by show 2<=Ap;decide) (.cons (.int _) (.cons (ru1.move mv) .nil))
end
end DL
namespace L2
open PySem PySem.Spec PyProof.Rows
def rngV (n:Nat):List V:=(A1 n).map λi=>V.int ((i:Nat):Int)
theorem jmx {f:Nat->V} {g:Nat->Ai}:∀{l:List Nat},(∀i∈l,RelV (f i) (g i))->Vals (l.map f) (l.map g)
 |[],_=>.nil
 |i::r,h=>.cons (h i Ay) (jmx λj hj=>h j (Az _ hj))
def j0d:List V->Hp->VK->Prop:=λxs H Q=>∃j:Int,xs=[.int j]/\∀D,H D=none->Q (.ref D) (upd H D (.rng 0 j))
theorem jso {X:Cx}:CallR X (.type "range") j0d:=by
 intro pins s σ H xs us Q I r h;obtain⟨j,rfl,q⟩:=h;obtain⟨u,rfl,ru⟩:=jio r;obtain⟨t,rfl⟩:=ru;refine call_range_1 ⟨.ref s.heap.objs.size,_,I.laid (t':=s.toks+1+1) (o:=.rng 0 j) (λb o e=>Ag _ e) (Al _) ⟨_,_,_,A8 _ rfl⟩,rfl,q _ I.fresh⟩
def jvr:List V->Hp->VK->Prop:=λxs H Q=>∃(a:Addr) (j:Nat),xs=[.ref a]/\H a=some (.rng 0 j)/\j<=1000/\∀D,H D=none->Q (.ref D) (upd H D (.lst (rngV j)))
theorem jpe {X:Cx} (hh:X.A.handled=none):CallR X (.type "list") jvr:=by
 intro pins s σ H xs us Q I r h;obtain⟨a,j,rfl,ha,hj,q⟩:=h;obtain⟨u,rfl,ru⟩:=jio r;cases(show u=A5 a from ru);obtain⟨t,u,v,e⟩:=I.hok a _ ha;have p62:(2:Int)^62=4611686018427387904:=by decide
 have p24:(2:Nat)^24=16777216:=by decide
 refine call_list_range (n:=j) hh e (small_one (by omega) (by omega) (by omega) (by omega)) (by rw[rangeSize_one];split<;>omega) (by omega) λh' tk acc c k hL hI=>?_;refine⟨.ref s.heap.objs.size,_,I.laid (t':=tk) (h':=h') (o:=.lst (rngV j)) k (Al _) ⟨?_,acc.toList,c,?_,by simpa using hL⟩,rfl,q _ I.fresh⟩
 ·unfold rngV;rw[Ab,Bx];exact jau (by omega)
 ·have:acc.toList=(A1 j).map λi=>acc.toList.getD i .none:=by
   apply Ej (by simp[hI.1]);intro i h1 h2;simp at h1;simp[h1]
  rw[this];refine jmx λi hi=>?_;have hi:=Br.mp hi;have hi2:i < acc.size:=by rw[hI.1];exact hi
  obtain⟨t,e⟩:=hI.2 i acc[i] (B4 hi2);refine⟨t,?_⟩;simp[hi2,e]
end L2
namespace DL
open PySem L2 Nb
section
variable {X:Cx} {a o:Expr} {ta td:TE} {wa wd':DT} {pos p p2 p3 xp:Pos} {K:Ah} {x:Str} {q:Addr} {D:List (Str×Str)}
def j34 (n:Nat):List Aa:=(A1 n).map λi=>.int ((i:Nat):Int)
theorem jqp {H:Hp} {B:Addr->Prop} {g:Nat->Int}:∀{l:List Nat},RdXs H B (l.map λi=>V.int (g i)) (l.map λi=>.int (g i))
 |[]=>.nil
 |_::_=>.cons (.int _) jqp
theorem jqk {j:Nat} (h:j<=1000):(rngV j).length<=Ap:=by
 unfold rngV;rw[Ab,Bx];exact jau h
def jr6 (w:DT):DTF:=λδ n Q=>w δ n λx n1=>∃j:Nat,x=.d (.int j)/\j<=1000/\Q (j34 j) n1
theorem jyg (hh:X.A.handled=none) (hg:Gl X "list") (hm:X.mg "list"=none) (hg2:Gl X "range") (hm2:X.mg "range"=none) (ho:DE X o td wd')
  (he':Au [o] X.env=(false,eval o X.env)::Au [] X.env:=by rfl) (hpl:(C8 p3 (Au [] X.env)).any (·.1)=false:=by rfl)
  (he2:Au [.Call (.Name "range" p2) [o] [] p3] X.env=(false,eval (.Call (.Name "range" p2) [o] [] p3) X.env)::Au [] X.env:=by rfl) (hpl2:(C8 pos (Au [] X.env)).any (·.1)=false:=by rfl) :
  DF X (.Call (.Name "list" p) [.Call (.Name "range" p2) [o] [] p3] [] pos) (tCB jvr (jbu (tCB j0d (jbu td tNil)) tNil)) (jr6 wd'):=by
 refine⟨jco (jpe hh) hg hm jgp (jaq (jco jso hg2 hm2 PyProof.Rows.boot_range (jaq ho.pe jbc he') (by decide) (by decide) he' hpl) jbc he2) (by decide) (by decide) he2 hpl2,λC H B σ δ n Q Q' R q k =>
  ho.sd C H B σ δ n _ _ R q λv x H1 n1 R1 k1 r1 q1=>?_⟩
 obtain⟨j,rfl,hj,kq⟩:=q1;cases(show RdX H1 B v (.int j)from r1);refine⟨j,rfl,λD hD=>⟨D,j,rfl,jah,hj,λD2 hD2=>?_⟩⟩;have k2:=k1.trans (Kp.new (o:=.rng 0 (j:Int)) hD);have R2:=R1.new (o:=.rng 0 (j:Int)) hD;exact k D2 _ _ _ n1 (R2.new hD2) (k2.trans (Kp.new hD2)) (R2.was k2 hD2) jah (jqk hj) jqp kq
end
end DL
namespace L2
open PySem PySem.Spec
abbrev IsZ (h:Heap) (z TI TO:Addr) (f0:Ai) (f:Bool):Prop :=
 h.get? z=some {cls:=.type "zip",dict:=none,data:=.fields #[f0,.bool f,.bool false,.ref TI,.ref TO],slots:=#[]}
section
variable {prog:Bg} {w:Bw} {A:Cb} {E:Ai->Am->Prop} {s:Am}
theorem jlm {a:Addr} {Q:Option Obj->Am->Prop} (h:Q (s.heap.get? a) s):A3 (Bc prog w) A (loadIfAlive a) Q E s:=λΓ p _=>by
 unfold loadIfAlive;rw[Sem.wp_loadIfAlive];exact h
theorem jmt {z TI TO T:Addr} {f:Bool} {oT:Obj} {Q:Bool->Am->Prop} (hz:IsZ s.heap z TI TO (Ey T) f) (hT:s.heap.get? T=some oT)
  (hQ:∀h',IsZ h' z TI TO (Ey T) true->Dg z s.heap h'->Q false {s with heap:=h'}):A3 (Bc prog w) A (Bq (.ref z)) Q E s:=by
 unfold Bq;refine Ad (B6 hz rfl (x:=Ey T) rfl ?_);show A3 _ _ (loadIfAlive (Int.toNat (T:Int))>>=_) _ _ _;refine Ad (jlm ?_);rw[Bp,hT];simp only[Option.isNone,C4,if_false];refine Ad (B6 hz rfl (x:=.bool f) rfl ?_);cases f with
 |true =>
  simp only[bne_self_eq_false,C4,if_false];exact Av (hQ s.heap hz ⟨rfl,λ_ _=>rfl⟩)
 |false =>
  rw[if_pos (by decide)];refine Ad (Eb hz (by simp) λg1 z1 s1=>?_);exact Av (hQ g1 z1 s1)
theorem jpn {z TI TO i1 i2 l1 l2 T:Addr} {k:Nat} {f:Bool} {xs ys:Array Ai} {x y:Ai} {oT:Obj} {Q:Ai->Am->Prop} (D:ZipApart z TI TO i1 i2 l1 l2)
  (hz:IsZ s.heap z TI TO (Ey T) f) (hT:s.heap.get? T=some oT) (hTI:Cr s.heap TI (.ref i1) (.ref i2))
  (h1:s.heap.IsListIter i1 l1 k) (h2:s.heap.IsListIter i2 l2 k) (hl1:s.heap.IsList l1 xs) (hl2:s.heap.IsList l2 ys) (hx:xs[k]?=some x) (hy:ys[k]?=some y)
  (hQ:∀h',IsZ h' z TI TO (Ey T) true->h'.IsListIter i1 l1 (k+1)->h'.IsListIter i2 l2 (k+1)->Cr h' s.heap.objs.size x y->h'.objs.size=s.heap.objs.size+1 ->
   (∀c o,c≠z->c≠TO->c≠i1->c≠i2->s.heap.get? c=some o->h'.get? c=some o)->Cr h' TO x y\/(∀o,s.heap.get? TO=some o->h'.get? TO=some o)->Q (.ref s.heap.objs.size) {s with heap:=h'}) :
  A3 (Bc prog w) A (Builtin.«zip.__next__» ⟨[.ref z],[]⟩) (λfin s'=>∃v,fin=.done (.ret v)/\Q v s') E s:=by
 show A3 _ _ (field (.ref z) 2>>=_) _ _ _;refine Ad (B6 hz rfl (x:=.bool false) rfl ?_);show A3 _ _ (field (.ref z) 3>>=_) _ _ _;refine Ad (B6 hz rfl (x:=.ref TI) rfl ?_);refine Ad (C0 hTI rfl ?_);show A3 _ _ (Bq (.ref z)>>=_) _ _ _;refine Ad (jmt hz hT λg1 z1 s1=>?_);simp only[C4,if_false];refine Ad ?_;simp only[<-Array.forIn_toList,List.forIn_cons,List.forIn_nil];refine Ad (Ad (Cm ?_));show A3 _ _ (Bs (.ref i1)>>=_) _ _ _;refine Ad (wpAny_nextOf_list_item (h1.extBut s1.extBut D.i1z) (hl1.extBut s1.extBut D.l1z) hx λg2 t2 s2=>Av (Av ?_));refine Ad (Ad (Cm ?_));show A3 _ _ (Bs (.ref i2)>>=_) _ _ _;refine Ad (wpAny_nextOf_list_item ((h2.extBut s1.extBut D.i2z).extBut s2.extBut D.i12.symm) ((hl2.extBut s1.extBut D.l2z).extBut s2.extBut D.l2i1) hy λg3 t3 s3=>Av (Av (Av ?_)));have sz:g3.objs.size=s.heap.objs.size:=by rw[s3.1,s2.1,s1.1]
 dsimp only;refine Ad (wpAny_newTuple (hsz:=by show 2<=Ap;decide) ?_);have z3:IsZ g3 z TI TO (Ey T) true:=s3.extBut _ _ D.i2z.symm (s2.extBut _ _ D.i1z.symm z1);have kp:∀c o,c≠z->c≠i1->c≠i2->s.heap.get? c=some o->(g3.push {cls:=.type "tuple",data:=.seq #[x,y]}).get? c=some o:=λc o c1 c3 c4 e =>
  Ag _ (s3.extBut _ _ c4 (s2.extBut _ _ c3 (s1.extBut _ _ c1 e)))
 have tp:Cr (g3.push {cls:=.type "tuple",data:=.seq #[x,y]}) g3.objs.size x y:=A8 _ rfl;refine Av ⟨_,rfl,?_⟩;show Q (.ref g3.objs.size) _;rw[sz]at tp ⊢;exact hQ _ (Ag _ z3) ((t2.extBut s3.extBut D.i12).at λo e=>Ag _ e) (t3.at λo e=>Ag _ e) tp (by rw[Dz,sz]) (λc o c1 _ c3 c4 e=>kp c o c1 c3 c4 e) (.inr λo e=>kp _ o D.TOz D.TOi1 D.TOi2 e)
theorem js3 {z TI TO i1 i2 l1 l2 T:Addr} {k:Nat} {f:Bool} {xs:Array Ai} {oT:Obj} {Q:Fin->Am->Prop} (hh:A.handled=none) (D:ZipApart z TI TO i1 i2 l1 l2)
  (hz:IsZ s.heap z TI TO (Ey T) f) (hT:s.heap.get? T=some oT) (hTI:Cr s.heap TI (.ref i1) (.ref i2))
  (h1:s.heap.IsListIter i1 l1 k) (hl1:s.heap.IsList l1 xs) (hx:xs[k]?=none)
  (hE:∀h' e,(∀c o,c≠z->c≠i1->s.heap.get? c=some o->h'.get? c=some o)->(∃o,h'.get? e=some o/\o.cls=.type "StopIteration")->E (.ref e) {s with heap:=h'}) :
  A3 (Bc prog w) A (Builtin.«zip.__next__» ⟨[.ref z],[]⟩) Q E s:=by
 show A3 _ _ (field (.ref z) 2>>=_) _ _ _;refine Ad (B6 hz rfl (x:=.bool false) rfl ?_);show A3 _ _ (field (.ref z) 3>>=_) _ _ _;refine Ad (B6 hz rfl (x:=.ref TI) rfl ?_);refine Ad (C0 hTI rfl ?_);show A3 _ _ (Bq (.ref z)>>=_) _ _ _;refine Ad (jmt hz hT λg1 z1 s1=>?_);simp only[C4,if_false];refine Ad ?_;simp only[<-Array.forIn_toList,List.forIn_cons,List.forIn_nil];refine Ad (Ad (Cm ?_));show A3 _ _ (Bs (.ref i1)>>=_) _ _ _;refine Ad (wpAny_nextOf_list_end hh (h1.extBut s1.extBut D.i1z) (hl1.extBut s1.extBut D.l1z) hx λg2 e s2 he=>?_);exact hE g2 e (λc o c1 c3 x=>s2 _ _ c3 (s1.extBut _ _ c1 x)) he
structure ZSt (n:Nat) (h0:Heap) (l1 l2:Addr) (xs ys:Array Ai) (i:Nat) (h:Heap):Prop where
 sz:h.objs.size=n+6+i
 zp:(i=0/\IsZip h (n+4) (n+2) (n+3) .none)\/(0 < i/\∃f,IsZ h (n+4) (n+2) (n+3) (Ey ((n+6:Nat):Int)) f)
 ti:Cr h (n+2) (.ref n) (.ref (n+1))
 to:∃a b,Cr h (n+3) a b
 j1:h.IsListIter n l1 i
 j2:h.IsListIter (n+1) l2 i
 pr:∀j,j < i->∀x y,xs[j]?=some x->ys[j]?=some y->Cr h (n+6+j) x y
 old:∀b o,h0.get? b=some o->h.get? b=some o
variable {n:Nat} {h0:Heap} {l1 l2:Addr} {xs ys:Array Ai}
theorem jd1 {h:Heap} {a:Nat} {o:Obj} (e:h.get? a=some o):@LT.lt Nat _ a h.objs.size:=Aw e
theorem ZSt.frame {i:Nat} {h h':Heap} (z:ZSt n h0 l1 l2 xs ys i h) (h0n:@Eq Nat h0.objs.size n) (e:h'.objs.size=h.objs.size) (k:∀b o,b≠n+5->h.get? b=some o->h'.get? b=some o):ZSt n h0 l1 l2 xs ys i h':=by
 refine⟨e.trans z.sz,?_,k _ _ (by omega) z.ti,?_,z.j1.at λo q=>k _ o (by omega) q,z.j2.at λo q=>k _ o (by omega) q,λj hj x y hx hy=>k _ _ (by omega) (z.pr j hj x y hx hy),λb o q=>?_⟩
 ·rcases z.zp with⟨a,b⟩ | ⟨a,f,b⟩
  ·exact .inl ⟨a,k _ _ (by omega) b⟩
  ·exact .inr ⟨a,f,k _ _ (by omega) b⟩
 ·obtain⟨a,b,q⟩:=z.to;exact⟨a,b,k _ _ (by omega) q⟩
 ·have:=jd1 q;exact k b o (by omega) (z.old b o q)
theorem jms (h1:l1 < n) (h2:l2 < n):ZipApart (n+4) (n+2) (n+3) n (n+1) l1 l2:=PyProof.Rows.zipApart_new h1 h2
theorem jwo {i:Nat} {x y:Ai} {Q:Option Ai->Am->Prop} (z:ZSt n h0 l1 l2 xs ys i s.heap) (h0n:@Eq Nat h0.objs.size n) (hl1:h0.IsList l1 xs) (hl2:h0.IsList l2 ys) (hx:xs[i]?=some x) (hy:ys[i]?=some y)
  (hQ:∀h',ZSt n h0 l1 l2 xs ys (i+1) h'->(∀o,s.heap.get? (n+5)=some o->h'.get? (n+5)=some o)->Q (some (.ref (n+6+i))) {s with heap:=h'}) :
  A3 (Bc prog w) A (pyNext (.ref (n+4))) Q E s:=by
 have p1:l1 < n:=by obtain⟨o,e,_⟩:=id hl1;have:=jd1 e;exact Fx this h0n
 have p2:l2 < n:=by obtain⟨o,e,_⟩:=id hl2;have:=jd1 e;exact Fx this h0n
 have D:=jms p1 p2;have m1:s.heap.IsList l1 xs:=hl1.at λo e=>z.old _ o e;have m2:s.heap.IsList l2 ys:=hl2.at λo e=>z.old _ o e;obtain⟨a,b,hTO⟩:=z.to;have hsz:=z.sz;have fin:∀h',(∃f,IsZ h' (n+4) (n+2) (n+3) (Ey ((n+6:Nat):Int)) f)->(∃a b,Cr h' (n+3) a b)->h'.IsListIter n l1 (i+1)->h'.IsListIter (n+1) l2 (i+1)->Cr h' (n+6+i) x y->h'.objs.size=n+6+i+1 ->
   (∀c o,c≠n+4->c≠n+3->c≠n->c≠n+1->s.heap.get? c=some o->h'.get? c=some o)->Q (some (.ref (n+6+i))) {s with heap:=h'}:=λh' a1 a2 a3 a4 a5 a6 a7=>by
  refine hQ h' ⟨a6,.inr ⟨by omega,a1⟩,a7 _ _ (by omega) (by omega) (by omega) (by omega) z.ti,a2,a3,a4,λj hj x' y' hx' hy'=>?_,λb o q=>?_⟩ λo q=>a7 _ o (by omega) (by omega) (by omega) (by omega) q
  ·by_cases e:j=i
   ·subst e;rw[hx]at hx';rw[hy]at hy';cases hx';cases hy';exact a5
   ·exact a7 _ _ (by omega) (by omega) (by omega) (by omega) (z.pr j (by omega) x' y' hx' hy')
  ·have:=jd1 q;exact a7 b o (by omega) (by omega) (by omega) (by omega) (z.old b o q)
 rcases z.zp with⟨e,hz⟩ | ⟨e,f,hz⟩
 ·subst e;refine wpAny_pyNext_zip_item D hz z.ti hTO z.j1 z.j2 m1 m2 hx hy λh' a1 a2 a3 a4 a5 a6 a7=>?_;rw[hsz]at a1 a5 a6 ⊢;exact fin h' ⟨false,a1⟩ ⟨_,_,a2⟩ a3 a4 a5 a6 a7
 ·have hT:s.TypeIs (.ref (n+4)) "zip":=⟨_,hz,rfl⟩;obtain⟨x0,e0⟩:∃x0,xs[0]?=some x0:=by
   have:=(Fp.mp hx).1;exact⟨xs[0],B4 (by omega)⟩
  obtain⟨y0,g0⟩:∃y0,ys[0]?=some y0:=by
   have:=(Fp.mp hy).1;exact⟨ys[0],B4 (by omega)⟩
  have hp0:Cr s.heap (n+6) x0 y0:=z.pr 0 e x0 y0 e0 g0;unfold pyNext;refine Ad (wpAny_attempt (Cj (name:=Di "__next__") hT Dq
   (C7 Dq hT F.entry_zip_next (jpn D hz hp0 z.ti z.j1 z.j2 m1 m2 hx hy λh' a1 a3 a4 a5 a6 a7 a8=>Av ?_) (F.args_zip_next_1 _))))
  rw[hsz]at a5 a6 ⊢;refine fin h' ⟨true,a1⟩ ?_ a3 a4 a5 a6 a7;rcases a8 with a8 | a8
  ·exact⟨_,_,a8⟩
  ·exact⟨_,_,a8 _ hTO⟩
theorem jy3 {Q:Option Ai->Am->Prop} (hh:A.handled=none) (z:ZSt n h0 l1 l2 xs ys xs.size s.heap) (hle:xs.size=ys.size) (h0n:@Eq Nat h0.objs.size n) (hl1:h0.IsList l1 xs) (hl2:h0.IsList l2 ys)
  (hQ:∀h',(∀c o,c≠n+4->c≠n+3->c≠n->c≠n+1->s.heap.get? c=some o->h'.get? c=some o)->Q none {s with heap:=h'}) :
  A3 (Bc prog w) A (pyNext (.ref (n+4))) Q E s:=by
 have p1:l1 < n:=by obtain⟨o,e,_⟩:=id hl1;have:=jd1 e;exact Fx this h0n
 have p2:l2 < n:=by obtain⟨o,e,_⟩:=id hl2;have:=jd1 e;exact Fx this h0n
 have D:=jms p1 p2;have m1:s.heap.IsList l1 xs:=hl1.at λo e=>z.old _ o e;have m2:s.heap.IsList l2 ys:=hl2.at λo e=>z.old _ o e;obtain⟨a,b,hTO⟩:=z.to;have hx:xs[xs.size]?=none:=Array.getElem?_eq_none (Al _);rcases z.zp with⟨e,hz⟩ | ⟨e,f,hz⟩
 ·exact wpAny_pyNext_zip_end hh D hz z.ti hTO z.j1 z.j2 m1 m2 (.inl hx) hQ
 ·have hT:s.TypeIs (.ref (n+4)) "zip":=⟨_,hz,rfl⟩;have hp0:Cr s.heap (n+6) xs[0] ys[0]:=z.pr 0 e _ _ (B4 e) (B4 (by omega));unfold pyNext;refine Ad (wpAny_attempt (Cj (name:=Di "__next__") hT Dq
   (C7 Dq hT F.entry_zip_next (js3 hh D hz hp0 z.ti z.j1 m1 hx λh' e hk he=>?_) (F.args_zip_next_1 _))))
  obtain⟨o,ho,hc⟩:=he;refine Ad (wpAny_isInstance (T:="StopIteration") (b:=true) ⟨o,ho,hc⟩ isSubtype_stop ?_);exact Av (hQ _ λc o c1 _ c3 _ q=>hk c o c1 c3 q)
abbrev lsZ (n i c:Nat):Obj:={ cls:=.type "list",dict:=none,data:=.seq ((List.range' (n+6) i).map A5).toArray c,slots:=#[]}
theorem jwn {R:Result->Am->Prop} {res:Ai} (hh:A.handled=none) (hle:xs.size=ys.size) (hz:xs.size<=Ap) (h0n:@Eq Nat h0.objs.size n) (hl1:h0.IsList l1 xs) (hl2:h0.IsList l2 ys) :
  ∀(k i:Nat) (s:Am) (c:Nat),xs.size - i=k->i<=xs.size->ZSt n h0 l1 l2 xs ys i s.heap->s.heap.get? (n+5)=some (lsZ n i c) ->
  (∀(h':Heap) (c':Nat),(∀b o,h0.get? b=some o->h'.get? b=some o)->(∀j x y,xs[j]?=some x->ys[j]?=some y->Cr h' (n+6+j) x y)->h'.get? (n+5)=some (lsZ n xs.size c')->R (.ok (.ret res)) {s with heap:=h'}) ->
  codeAny (Bc prog w) A (.builtin "list.extend.loop" ⟨[.ref (n+5),.ref (n+4),res],[]⟩) R s:=by
 intro k
 induction k with
 |zero =>
  intro i s c hk hi st hS hR;have hin:i=xs.size:=by omega
  subst hin;refine codeAny_builtin F.entry_extend_loop ?_;rw[Fi Fu _];show A3 _ A.in1 (pyNext (.ref (n+4))>>=_) _ _ s;refine Ad (jy3 hh st hle h0n hl1 hl2 λh' hk=>?_);refine Av (hR h' c (λb o q=>?_) (λj x y hx hy=>?_) (hk _ _ (by omega) (by omega) (by omega) (by omega) hS))
  ·have:=jd1 q;exact hk b o (by omega) (by omega) (by omega) (by omega) (st.old b o q)
  ·exact hk _ _ (by omega) (by omega) (by omega) (by omega) (st.pr j (Fp.mp hx).1 x y hx hy)
 |succ k ih =>
  intro i s c hk hi st hS hR;have hlt:i < xs.size:=by omega
  refine codeAny_builtin F.entry_extend_loop ?_;rw[Fi Fu _];show A3 _ A.in1 (pyNext (.ref (n+4))>>=_) _ _ s;refine Ad (jwo st h0n hl1 hl2 (B4 hlt) (B4 (by omega)) λh' st' hk'=>?_);have hS':=hk' _ hS;show A3 _ A.in1 (updateSeq (n+5) (·.push (.ref (n+6+i)))>>=_) _ _ _;have hl:((List.range' (n+6) i).map A5).toArray.size=i:=by simp
  obtain⟨c2,e2⟩:∃c2,(h'.update (n+5) (B8 (·.push (.ref (n+6+i))))).get? (n+5)=some (lsZ n (i+1) c2):=by
   rw[Dl _ hS' rfl];rw[show lsZ n (i+1)=λc2=>lsZ n (i+1) c2 from rfl];unfold lsZ;rw[List.range'_1_concat,Bb,Be,Ei,<-List.push_toArray];exact⟨_,rfl⟩
  refine Ad (wpAny_updateSeq hS' rfl (Av ⟨plainId_quiet Fu _,ih (i+1) _ c2 (by omega) hlt (st'.frame h0n ?_ λb o hb q=>?_) e2 λh'' c' b1 b2 b3=>hR h'' c' b1 b2 b3⟩) (by rw[hl];omega) (by rw[Array.size_push,hl];omega))
  ·exact(Ca ..).1
  ·exact(Df _ _ (Ne.symm hb)).trans q
theorem jok:typeLookup (.type "zip") "__len__"=pure none:=by rw[typeLookup_type,builtinLookup_eq_fast];kernel_rfl
theorem jll:typeLookup (.type "zip") "__length_hint__"=pure none:=by rw[typeLookup_type,builtinLookup_eq_fast];kernel_rfl
theorem jy2 {R:Result->Am->Prop} {res:Ai} {c:Nat} (hh:A.handled=none) (hle:xs.size=ys.size) (hz:xs.size<=Ap) (h0n:@Eq Nat h0.objs.size n) (hl1:h0.IsList l1 xs) (hl2:h0.IsList l2 ys)
  (st:ZSt n h0 l1 l2 xs ys 0 s.heap) (hS:s.heap.get? (n+5)=some {cls:=.type "list",data:=.seq #[] c})
  (hR:∀(h':Heap) (c':Nat),(∀b o,h0.get? b=some o->h'.get? b=some o)->(∀j x y,xs[j]?=some x->ys[j]?=some y->Cr h' (n+6+j) x y)->h'.get? (n+5)=some (lsZ n xs.size c')->R (.ok (.ret res)) {s with heap:=h'}) :
  A3 (Bc prog w) A.in1 (D0 (.ref (n+5)) (.ref (n+4)) res)
   (λfin s'=>match fin with | .done f=>R (.ok f) s' | .again c'=>c'.quiet=true/\codeAny (Bc prog w) A c' R s') (λe s'=>R (.error e) s') s:=by
 have hzz:IsZip s.heap (n+4) (n+2) (n+3) .none:=st.zp.elim (λz=>z.2) λz=>absurd z.1 (Ea 0);have hT:s.TypeIs (.ref (n+4)) "zip":=⟨_,hzz,rfl⟩;unfold D0;refine Ad (wpAny_typeOf hT ?_);have h1:Builtin.List.listSameRef (.ref (n+5)) (.ref (n+4))=false:=by simp[Builtin.List.listSameRef]
 have h2:(E9 "zip"==E9 "list")=false:=by decide
 have h3:(E9 "zip"==E9 "tuple")=false:=by decide
 simp only[h1,h2,h3,Bool.or_false,C4,if_false];refine Ad (wpAny_pyIter_zip hzz ?_);refine Ad (Cm ?_);unfold Builtin.List.listLengthHint;refine Ad (wpAny_specialOf hT jok ?_);show A3 _ A.in1 (specialOf (A5 (n+4)) (Di "__length_hint__")>>=_) _ _ _;refine Ad (wpAny_specialOf hT jll ?_);refine Av ?_;show A3 _ A.in1 (rule "list.extend.makes-room">>=λ_=>Builtin.List.listTouch (.ref (n+5))>>=λ_ =>
  again (.builtin "list.extend.loop" ⟨[.ref (n+5),.ref (n+4),res],[]⟩)) _ _ _
 refine Ad (wpAny_rule ?_);refine Ad ?_;show A3 _ A.in1 (updateSeq (n+5) (·.push .none)>>=λ_=>updateSeq (n+5) (·.pop)) _ _ _;refine Ad (wpAny_updateSeq hS rfl ?_);have hS₂:=Dl (B8 (·.push B3)) hS rfl;refine wpAny_updateSeq (hz:=by seq_fits) hS₂ rfl ?_;have hS₃:=Dl (B8 (·.pop)) hS₂ rfl;refine Av ⟨plainId_quiet Fu _,jwn hh hle hz h0n hl1 hl2 xs.size 0 _ _ rfl (Bn _) (st.frame h0n ?_ λb o hb q=>?_) hS₃ λh' c' b1 b2 b3=>hR h' c' b1 b2 b3⟩
 ·exact(Ca ..).1.trans (Ca ..).1
 ·exact(Df _ _ (Ne.symm hb)).trans ((Df _ _ (Ne.symm hb)).trans q)
theorem jpd {Q:Ai->Am->Prop} (hh:A.handled=none) (hle:xs.size=ys.size) (hz:xs.size<=Ap) (hl1:s.heap.IsList l1 xs) (hl2:s.heap.IsList l2 ys)
  (hQ:∀(h':Heap) (c:Nat),(∀b o,s.heap.get? b=some o->h'.get? b=some o)->(∀j x y,xs[j]?=some x->ys[j]?=some y->Cr h' (s.heap.objs.size+6+j) x y)->h'.get? (s.heap.objs.size+5)=some (lsZ s.heap.objs.size xs.size c)->Q (.ref (s.heap.objs.size+5)) {s with heap:=h'}) :
  A3 (Bc prog w) A (call (.type "zip") [.ref l1,.ref l2]) (λu s1=>A3 (Bc prog w) A (call (.type "list") [u]) Q E s1) E s:=by
 refine call_zip_2 hl1 hl2 λh' a1 a2 a3 a4 a5 a6 a7=>?_;refine callType_codes (Q₁:=λobj s₁=>obj=.ref h'.objs.size/\s₁={ s with heap:=h'.push {cls:=.type "list",data:=.seq #[]}}) F.called_list (F.typeCall_list_1 _) F.entry_list_init
  (code_list_new _ ⟨rfl,rfl⟩) λobj s₁ q1=>?_
 obtain⟨rfl,rfl⟩:=q1;have hS:(h'.push {cls:=.type "list",data:=.seq #[]}).get? h'.objs.size=some {cls:=.type "list",data:=.seq #[]}:=A8 _ rfl;rw[a6]at hS ⊢;refine⟨⟨_,hS,rfl⟩,F.args_list_init_2 _ _,?_⟩;show A3 _ A.in1.in1 (do let old <-Builtin.List.listItems (.ref (s.heap.objs.size+5));Builtin.List.listUpdate (.ref (s.heap.objs.size+5)) (λ_=>#[]);letGo old.toList.reverse;D0 (.ref (s.heap.objs.size+5)) (.ref (s.heap.objs.size+4)) .none) _ _ _;refine Ad ?_;unfold Builtin.List.listItems;refine Ad (C0 hS rfl (Av ?_));show A3 _ A.in1.in1 (updateSeq (s.heap.objs.size+5) (λ_=>#[])>>=λ_=>letGo (#[]:Array Ai).toList.reverse>>=λ_=>D0 (.ref (s.heap.objs.size+5)) (.ref (s.heap.objs.size+4)) .none) _ _ _;refine Ad (wpAny_updateSeq hS rfl ?_);have hS₂:=Dl (B8 (λ_=>(#[]:Array Ai))) hS rfl;have up:∀b o,b≠s.heap.objs.size+5->h'.get? b=some o->((h'.push {cls:=.type "list",data:=.seq #[]}).update (s.heap.objs.size+5) (B8 (λ_=>(#[]:Array Ai)))).get? b=some o:=λb o hb q =>
  (Df _ _ (Ne.symm hb)).trans (Ag _ q)
 refine Ad (wpAny_letGo ?_);refine jy2 (A:=A.in1) (h0:=s.heap) hh hle hz rfl hl1 hl2 ⟨?_,.inl ⟨rfl,up _ _ (by omega) a1⟩,up _ _ (by omega) a2,⟨_,_,up _ _ (by omega) a3⟩,a4.at λo q=>up _ o (by omega) q,a5.at λo q=>up _ o (by omega) q,λj hj=>absurd hj (Nat.not_lt_zero _),λb o q=>?_⟩ hS₂ λh'' c' b1 b2 b3=>⟨rfl,hQ h'' c' b1 b2 b3⟩
 ·show Array.size _=_;rw[(Ca ..).1,Dz,a6]
 ·have:=jd1 q;exact up b o (by omega) (a7 b o q)
end
end L2
namespace L2
open PySem PySem.Spec PyProof.Rows
def newZ (H:Hp) (n:Nat) (xv yv:List V):Hp:=λ(b:Nat)=>if b=n+5 then some (.lst ((List.range' (n+6) xv.length).map V.ref))else if n+6<=b/\b < n+6+xv.length then some (.tup [xv.getD (b - (n+6)) .non,yv.getD (b - (n+6)) .non])else H b
def ZOut (H:Hp) (xv yv:List V) (Q:VK):Prop:=∀(D:Addr) (as:List Addr) (H':Hp),as.length=xv.length->Same H H'->H D=none->(∀a∈as,H a=none/\a≠D)->H' D=some (.lst (as.map V.ref)) ->
 (∀(i:Nat) a x y,as[i]?=some a->xv[i]?=some x->yv[i]?=some y->H' a=some (.tup [x,y]))->Q (.ref D) H'
theorem jjy:∀l:List Nat,Vals (l.map V.ref) (l.map A5)
 |[]=>.nil
 |_::l=>.cons rfl (jjy l)
theorem jq2 {X:Cx} {pins:List (Addr×Obj)} {σ:St} {H:Hp} {s:Am} {xv yv:List V} {us ws:List Ai} {h3:Heap} {tk c:Nat} {Q:VK} (I:Inv X pins σ H s) (hk:∀b o,s.heap.get? b=some o->h3.get? b=some o)
  (hx:Vals xv us) (hy:Vals yv ws) (hl:xv.length=yv.length) (hz:xv.length<=Ap) (hp:∀j x y,us.toArray[j]?=some x->ws.toArray[j]?=some y->Cr h3 (s.heap.objs.size+6+j) x y)
  (hL:h3.get? (s.heap.objs.size+5)=some (lsZ s.heap.objs.size us.toArray.size c)) (q:ZOut H xv yv Q):EP X pins σ Q (.ref (s.heap.objs.size+5)) {s with heap:=h3,toks:=tk}:=by
 have lx:=hx.length;have ly:=hy.length;have old:∀{b:Nat} {o},H b=some o->@LT.lt Nat _ b s.heap.objs.size:=λe=>I.hok.lt e;have e5:newZ H s.heap.objs.size xv yv (s.heap.objs.size+5)=some (.lst ((List.range' (s.heap.objs.size+6) xv.length).map V.ref)):=by unfold newZ;rw[if_pos rfl]
 have e6:∀j,j < xv.length->newZ H s.heap.objs.size xv yv (s.heap.objs.size+6+j)=some (.tup [xv.getD j .non,yv.getD j .non]):=λj hj=>by
  unfold newZ;rw[if_neg (by omega),if_pos (by omega),Nat.add_sub_cancel_left]
 have eo:∀b:Nat,b < s.heap.objs.size->newZ H s.heap.objs.size xv yv b=H b:=λb hb=>by
  unfold newZ;rw[if_neg (by omega),if_neg (by omega)]
 have hsame:Same H (newZ H s.heap.objs.size xv yv):=λb o e=>(eo b (old e)).trans e;have hnew:HOk X.prog X.w (newZ H s.heap.objs.size xv yv) h3:=λ(b:Nat) o e=>by
  by_cases hb:b=s.heap.objs.size+5
  ·subst hb;rw[e5]at e;cases e;refine⟨by simpa using hz,_,c,jjy _,?_⟩;rw[lx];exact hL
  ·by_cases hc:s.heap.objs.size+6<=b/\b < s.heap.objs.size+6+xv.length
   ·obtain⟨j,rfl⟩:∃j,b=s.heap.objs.size+6+j:=⟨b - (s.heap.objs.size+6),by omega⟩;have hj:j < xv.length:=by omega
    rw[e6 j hj]at e;cases e;obtain⟨u,hu,ru⟩:=hx.get (Af hj);obtain⟨v,hv,rv⟩:=hy.get (Af (show j < yv.length by omega));have g:=hp j u v (by simpa using hu) (by simpa using hv);have x1:xv.getD j .non=xv[j]:=by simp[hj]
    have y1:yv.getD j .non=yv[j]:=by simp[show j < yv.length by omega]
    rw[x1,y1];exact⟨by show 2<=Ap;decide,[u,v],.cons ru (.cons rv .nil),⟨_,g,rfl,⟨_,rfl⟩,rfl⟩⟩
   ·have e2:H b=some o:=by
     unfold newZ at e;rw[if_neg hb,if_neg hc]at e;exact e
    exact(I.hok b o e2).stay (λcc u _ z=>hk cc u z) (λcc z=>hsame _ _ z) λcc ys z=>hsame _ _ z
 refine⟨.ref (s.heap.objs.size+5),_,I.call' (s':={ s with heap:=h3,toks:=tk}) (ch:=[]) rfl ?_ hnew I.bare (λb hb=>nomatch hb),rfl,q (s.heap.objs.size+5) (List.range' (s.heap.objs.size+6) xv.length) _ (by simp) hsame (I.hok.fresh (by omega)) (λa ha=>?_) e5 λi a x y ha hxi hyi=>?_⟩
 ·refine⟨λb o e n _ _=>hk b o e,λb o e n _ _=>⟨o.slots,hk b o e⟩,λ(b:Nat) o e n _=>(eo b (jd1 e)).trans n,λb o e _=>⟨o,hk b o e⟩,λb ys z=>hsame _ _ z,λb o' u z=>hsame _ _ z,λb ps z=>⟨#[],by rw[Array.append_empty];exact hsame _ _ z⟩⟩
 ·obtain⟨h1,_⟩:=List.mem_range'_1.mp ha;exact⟨I.hok.fresh (A4 (Nat.le_add_right _ _) h1),λz=>by rw[z]at h1;exact absurd h1 (by show ¬(s.heap.objs.size+6<=s.heap.objs.size+5);omega)⟩
 ·obtain⟨hi,e⟩:=Aq.mp ha;rw[List.getElem_range',Nat.one_mul]at e;subst e;rw[List.length_range']at hi;rw[e6 i hi];obtain⟨h1,g1⟩:=Aq.mp hxi;obtain⟨h2,g2⟩:=Aq.mp hyi;rw[<-g1,<-g2];simp[h1,h2]
def jvf (K:Ah) (ta:TA):TE:=λσ H Q=>ta σ H λvs H1=>∃a b xs ys,vs=[.ref a,.ref b]/\SqL K H1 a xs/\SqL K H1 b ys/\xs.length=ys.length/\xs.length<=Ap/\ZOut H1 xs ys Q
theorem jgp:Bv "list"=some (.type "list"):=by decide +kernel
theorem jtt {X:Cx} {e1 e2:Expr} {ta:TA} {p p' pos pos':Pos} (hh:X.A.handled=none) (hgz:Gl X "zip") (hmz:X.mg "zip"=none) (hg:Gl X "list") (hm:X.mg "list"=none) (ha:PA X [e1,e2] ta)
  (hs:Au [e1,e2] X.env=[(false,eval e1 X.env),(false,eval e2 X.env)]:=by rfl) (hs2:Au [e2] X.env=[(false,eval e2 X.env)]:=by rfl)
  (he:Au [Expr.Call (.Name "zip" p') [e1,e2] [] pos'] X.env=(false,eval (Expr.Call (.Name "zip" p') [e1,e2] [] pos') X.env)::Au [] X.env:=by rfl) (hpl:(C8 pos (Au [] X.env)).any (·.1)=false:=by rfl) :
  PE X (.Call (.Name "list" p) [.Call (.Name "zip" p') [e1,e2] [] pos'] [] pos) (jvf X.K ta):=by
 intro pins s σ H Q I h;refine E7 (je1 I hg hm jgp ?_);refine Co ?_ he hpl;rw[he];show A3 _ _ (spliced ((false,eval (Expr.Call (.Name "zip" p') [e1,e2] [] pos') X.env)::C8 pos (Au [] X.env))) _ _ s;refine Calls.spliced_cons (E7 (je1 I hgz hmz jwi (Co (thn (ha pos' pins s σ H _ I h) λus s1 ⟨vs,H1,I1,r1,q1⟩=>?_) (by rw[hs,hs2]) (by rw[hs2];rfl))));obtain⟨a,b,xs,ys,e,qa,qb,hl,hz,q⟩:=q1;subst e;cases r1 with
 |cons r rr =>
  cases rr with
  |cons r' rr =>
   cases rr;cases r;cases r';obtain⟨its,rv,pp,_⟩:=I1.list qa;obtain⟨jts,rw',pp',_⟩:=I1.list qb;have l1:=rv.length;have l2:=rw'.length;refine thn (jpd (s:=s1) (E:=X.xe) hh (xs:=its.toArray) (ys:=jts.toArray) (by simp;omega) (by simp;omega) pp.isList pp'.isList λh' c b1 b2 b3=>jq2 (tk:=s1.toks) I1 b1 rv rw' hl hz b2 b3 q) λu s2 hq=>?_;exact Calls.spliced_nil hq
end L2
namespace DL
open PySem L2 Nb
section
variable {X:Cx} {a b:Expr} {rest:List Expr} {ta tb:TE} {wa wb:DT} {pos p:Pos} {K:Ah}
def fRep (wa wb:DT):DTF:=λδ n Q=>wa δ n λx n1=>wb δ n1 λy n2=>∃(d:Aa) (k:Nat),x=.d (.list [d])/\y=.d (.int k)/\k<=1000/\Q (A9 k d) n2
theorem jvq {H:Hp} {B:Addr->Prop} {x:V} {d:Aa} (h:RdX H B x d):∀k:Nat,RdXs H B (A9 k x) (A9 k d)
 |0=>.nil
 |k+1=>.cons h (jvq h k)
theorem jqn {α:Type} (x:α):∀k:Nat,(A9 k [x]).flatten=A9 k x
 |0=>rfl
 |k+1=>by rw[Dc,E6,jqn x k,Dc];rfl
theorem j4g (ha:DE X a ta wa) (hb:DE X b tb wb):DF X (.BinOp a .Mult b pos) (tOp rRep ta tb) (fRep wa wb):=⟨jbq j0x ha.pe hb.pe,λC H B σ δ n Q Q' R z k =>
 ha.sd C H B σ δ n _ _ R z λv x H1 n1 R1 k1 r1 q1=>hb.sd C H1 B σ δ n1 _ _ R1 q1 λu y H2 n2 R2 k2 r2 q2=>by
  obtain⟨d,m,rfl,rfl,hm,kq⟩:=q2;cases(show RdX H2 B u (.int m)from r2);cases(show RdX H2 B v (.list [d])from r1.kp k2 R1.bt)with
  |@lst l xs _ e1 e2 e3 e4 =>
   cases e4 with
   |cons h1 h2 =>
    cases h2;refine⟨l,m,_,rfl,rfl,e1,by omega,?_,?_,λD hD=>?_⟩
    ·have:(2:Int)^63=9223372036854775808:=by decide
     omega
    ·rw[As,Nat.one_mul];exact jau (by omega)
    ·rw[Bp,jqn];refine k D _ _ _ n2 (R2.new hD) ((k1.trans k2).trans (Kp.new hD)) (R2.was (k1.trans k2) hD) jah ?_ ((jvq h1 m).fresh hD) kq;rw[Fc];exact jau (by omega)⟩
def tOrN (ta tb:TE):TE:=λσ H Q=>ta σ H λx H1=>(x=.non/\tb σ H1 Q)\/∃i:Int,x=.int i/\if i=0 then tb σ H1 Q else Q (.int i) H1
theorem j0p (ha:PE X a ta) (hb:PE X (.BoolOp .Or (b::rest) pos) tb):PE X (.BoolOp .Or (a::b::rest) pos) (tOrN ta tb):=by
 intro pins s σ H Q I h;refine PyProof.Rows.BoolOp_or (thn (ha pins s σ H _ I h) λv s1 ⟨x,H1,I1,r1,q1⟩=>?_);rcases q1 with⟨rfl,q1⟩ | ⟨i,rfl,q1⟩
 ·refine thn (jve pins s1 σ H1 .non v (λc H2=>c=false/\H2=H1) I1 r1 ⟨false,rfl,rfl,rfl⟩) λc s2 ⟨H2,I2,e1,e2⟩=>?_;subst e1 e2;exact hb pins s2 σ _ Q I2 q1
 ·refine thn (jve pins s1 σ H1 (.int i) v (λc H2=>c=(i != 0)/\H2=H1) I1 r1 ⟨i != 0,rfl,rfl,rfl⟩) λc s2 ⟨H2,I2,e1,e2⟩=>?_;subst e1 e2;by_cases z:i=0
  ·subst z;rw[if_pos rfl]at q1;exact hb pins s2 σ _ Q I2 q1
  ·rw[if_neg z]at q1;have:(i != 0)=true:=by simp[z]
   rw[this];exact⟨.int i,_,I2,r1,q1⟩
def wOrN (wa wb:DT):DT:=λδ n Q=>wa δ n λx n1=>(x=.d .none/\wb δ n1 Q)\/∃i:Int,x=.d (.int i)/\if i=0 then wb δ n1 Q else Q x n1
theorem j4s (h:DE X a ta wa) (h2:DE X (.BoolOp .Or (b::rest) pos) tb wb):DE X (.BoolOp .Or (a::b::rest) pos) (tOrN ta tb) (wOrN wa wb):=⟨j0p h.pe h2.pe,λC H B σ δ n Q Q' R q k =>
 h.sd C H B σ δ n _ _ R q λv x H1 n1 R1 k1 r1 q1=>by
  rcases q1 with⟨rfl,q1⟩ | ⟨i,rfl,q1⟩
  ·cases(show RdX H1 B v .none from r1);exact .inl ⟨rfl,h2.sd C H1 B σ δ n1 Q _ R1 q1 λv x H2 n2 R2 k2 r2 q2=>k v x H2 n2 R2 (k1.trans k2) r2 q2⟩
  ·cases(show RdX H1 B v (.int i)from r1);refine .inr ⟨i,rfl,?_⟩;by_cases z:i=0
   ·rw[if_pos z]at q1 ⊢;exact h2.sd C H1 B σ δ n1 Q _ R1 q1 λv x H2 n2 R2 k2 r2 q2=>k v x H2 n2 R2 (k1.trans k2) r2 q2
   ·rw[if_neg z]at q1 ⊢;exact k _ _ H1 n1 R1 k1 r1 q1⟩
def jnz (w:DTA):DTF:=λδ n Q=>w δ n λxs n1=>∃as bs,xs=[.d (.list as),.d (.list bs)]/\as.length=bs.length/\Q (zipD as bs) n1
theorem jvp {H1 H':Hp} {B B':Addr->Prop} (mv:∀{v d},RdX H1 B v d->RdX H' B' v d):∀(ads:List Addr) (us ws:List V) (as bs:List Aa),RdXs H1 B us as->RdXs H1 B ws bs->ads.length=us.length->us.length=ws.length->(∀a∈ads,¬B' a) ->
  (∀(i:Nat) a x y,ads[i]?=some a->us[i]?=some x->ws[i]?=some y->H' a=some (.tup [x,y]))->RdXs H' B' (ads.map V.ref) (zipD as bs)
 |[],_,_,_,_,.nil,.nil,_,_,_,_=>.nil
 |a::ads,u::us,v::ws,_::as,_::bs,.cons r rr,.cons t tt,h1,h2,nb,hit=>.cons (.tup (hit 0 a u v rfl rfl rfl) (nb a Ay) (by show 2<=Ap;decide) (.cons (mv r) (.cons (mv t) .nil)))
   (jvp mv ads us ws as bs rr tt (Nat.succ.inj h1) (Nat.succ.inj h2) (λb hb=>nb b (Az _ hb)) λi b x y e1 e2 e3=>hit (i+1) b x y e1 e2 e3)
 |[],_::_,_,_,_,_,_,h1,_,_,_=>nomatch h1
 |_::_,[],_,_,_,_,_,h1,_,_,_=>nomatch h1
 |_::_,_::_,[],_,_,_,_,_,h2,_,_=>nomatch h2
theorem jqo {H:Hp} {B:Addr->Prop} {v:V} {as:List Aa} (h:RdX H B v (.list as)):∃a us,v=.ref a/\H a=some (.lst us)/\us.length<=Ap/\RdXs H B us as:=by
 cases h with
 |lst f1 f2 f3 f4=>exact⟨_,_,rfl,f1,f3,f4⟩
theorem jyf {e1 e2:Expr} {p' pos':Pos} {tR:TA} {wR:DTA} (ha:DA X [e1,e2] tR wR) (hh:X.A.handled=none) (hgz:Gl X "zip") (hmz:X.mg "zip"=none) (hg:Gl X "list") (hm:X.mg "list"=none) (hK:X.K=K)
  (hs:Au [e1,e2] X.env=[(false,eval e1 X.env),(false,eval e2 X.env)]:=by rfl) (hs2:Au [e2] X.env=[(false,eval e2 X.env)]:=by rfl)
  (he:Au [Expr.Call (.Name "zip" p') [e1,e2] [] pos'] X.env=(false,eval (Expr.Call (.Name "zip" p') [e1,e2] [] pos') X.env)::Au [] X.env:=by rfl) (hpl:(C8 pos (Au [] X.env)).any (·.1)=false:=by rfl) :
  DF X (.Call (.Name "list" p) [.Call (.Name "zip" p') [e1,e2] [] pos'] [] pos) (jvf K tR) (jnz wR):=by
 subst hK;refine⟨jtt hh hgz hmz hg hm ha.pa hs hs2 he hpl,λC H B σ δ n Q Q' R q k=>ha.sd C H B σ δ n _ _ R q λvs xs H1 n1 R1 k1 r1 q1=>?_⟩;obtain⟨as,bs,rfl,hl,kq⟩:=q1;cases r1 with
 |cons r rr =>
  cases rr with
  |cons r' rr =>
   cases rr;obtain⟨aa,us,rfl,f1,f3,f4⟩:=jqo r;obtain⟨ab,ws,rfl,g1,g3,g4⟩:=jqo r';have lu:=f4.len;have lw:=g4.len;refine⟨aa,ab,us,ws,rfl,SqL.of f1,SqL.of g1,by omega,f3,λD ads H' hla sm hD had hD' hit=>?_⟩;have k3:Kp C.t H H':=k1.trans λb o e _=>sm b o e;refine k D _ _ H' n1 (R1.same sm) k3 (R1.was k1 hD) hD' (by rw[Ab,hla];exact f3) ?_ kq;have mv:∀{v d},RdX H1 B v d->RdX H' (λb=>B b\/b=D) v d:=λh=>h.move λb o e nb=>⟨sm b o e,λz=>z.elim nb λz=>by subst z;rw[hD]at e;cases e⟩;exact jvp mv ads us ws as bs f4 g4 hla (by omega) (λa ha z=>z.elim (R1.nb (had a ha).1) (had a ha).2) hit
end
end DL
namespace Nb
open PySem L2 DL
theorem jbx {c:DTT} {w:DT} {Q:List Aa->Int->Prop} {rest:Sl} (P:Aa->Prop) (p:Aa->Bool) (f:Aa->Aa) (hp:∀d n Q',P d->Q' (p d) n->c (some (.w (.d d))::rest) n Q') (h:∀d n Q',P d->Q' (.d (f d)) n->w (some (.w (.d d))::rest) n Q') :
  ∀(items acc:List Aa) (x:Option SV) (n:Int),(∀d∈items,P d)->Q (acc++(items.filter p).map f) n->jbf (jac 0) c w Q items acc (x::rest) n
 |[],acc,x,n,hP,q=>by
  rw[List.filter_nil,Ei,Bo]at q;exact q
 |d::r,acc,x,n,hP,q=>by
  simp only[jbf,jac,Fq];refine hp d n _ (hP d Ay) ?_;cases e:p d with
  |true =>
   rw[if_pos rfl];refine h d n _ (hP d Ay) ?_;refine jbx P p f hp h r (acc++[f d]) _ n (λe he=>hP e (Az _ he)) ?_;rw[List.filter_cons_of_pos e]at q;rw[Bk];exact q
  |false =>
   rw[if_neg Ae];refine jbx P p f hp h r acc _ n (λe he=>hP e (Az _ he)) ?_;rw[List.filter_cons_of_neg (by rw[e];exact Ae)]at q;exact q
def okD:Aa->Bool
 |.str y=>!decide (y.cps.toList < ("a":Str).cps.toList)&&!decide (("z":Str).cps.toList < y.cps.toList)
 |_=>false
theorem jn8 {α:Type} {xs:List α} {r:Int} (h0:0<=r) (h1:r < xs.length):∃v,atI xs r=some v/\v∈xs:=by
 obtain⟨j,rfl⟩:=E5 h0;have hj:j < xs.length:=by omega
 exact⟨xs[j],ja5 (Af hj),Ck hj⟩
theorem jel (d:Aa):isiB "str" d=match d with | .str _=>true | _=>false:=by cases d<;>rfl
theorem ifb {b:Bool} {A B:Prop} (h1:b=true->A) (h2:b=false->B):if b=true then A else B:=by
 cases b with
 |true=>rw[if_pos rfl];exact h1 rfl
 |false=>rw[if_neg Ae];exact h2 rfl
theorem jn1 {n many:Int} {Q:DQ} (h:n < 2 ^ 40) (h0:0 < many) (h1:many < 1073741824) (k:∀r:Int,0<=r->r < many->Q (.d (.int r)) (n+1)):jas [.tp,.d (.int many)] n Q:=⟨⟨h,h0,h1⟩,k⟩
theorem jrs {ds:List Aa} {r:Int} {n:Int} {Q:DQ} (h0:0<=r) (h1:r < (ds.length:Int)) (k:∀d∈ds,Q (.d d) n):gIx (.d (.list ds)) (.d (.int r)) n Q:=by
 obtain⟨v,hv,hm⟩:=jn8 h0 h1;show match atI ds r with | some d=>Q (.d d) n | none=>False
 simp only[hv];exact k v hm
theorem jsj {w:DT} {Q:List Aa->Int->Prop} {rest:Sl} (c:Nat) (h:∀d n Q',n+(c:Int) < 2 ^ 39->(∀y n',n'<=n+(c:Int)->Q' (.d y) n')->w (some (.w (.d d))::rest) n Q') :
  ∀(items acc:List Aa) (x:Option SV) (n:Int),n+(c:Int)*(items.length:Int) < 2 ^ 39->(∀ds n',n'<=n+(c:Int)*(items.length:Int)->Q ds n')->jbf (jac 0) cYes w Q items acc (x::rest) n
 |[],acc,x,n,hn,q=>q acc n (by simp)
 |d::r,acc,x,n,hn,q=>by
  simp only[jbf,jac,cYes,if_true,Fq];rw[Ao]at hn q;have e:(c:Int)*((r.length+1:Nat):Int)=(c:Int)*(r.length:Int)+c:=by rw[Int.natCast_add,Int.mul_add];simp
  rw[e]at hn q;have hc:0<=(c:Int)*(r.length:Int):=Int.mul_nonneg (Fy _) (Fy _);refine h d n _ (by omega) λy n' hn'=>?_;exact jsj c h r (acc++[y]) _ n' (by omega) λds n'' h''=>q ds n'' (by omega)
theorem ja4 (n:Nat):(rngD 0 n).length=n:=by unfold rngD;simp
theorem jep {w:DT} {Q:List Aa->Int->Prop} {rest:Sl} (P:Aa->Prop) (c:Nat) (h:∀d n Q',n+(c:Int) < 2 ^ 39->(∀y n',P y->n'<=n+(c:Int)->Q' (.d y) n')->w (some (.w (.d d))::rest) n Q') :
  ∀(items acc:List Aa) (x:Option SV) (n:Int),n+(c:Int)*(items.length:Int) < 2 ^ 39->(∀ds n',ds.length=items.length->(∀d∈ds,P d)->n'<=n+(c:Int)*(items.length:Int)->Q (acc++ds) n')->jbf (jac 0) cYes w Q items acc (x::rest) n
 |[],acc,x,n,hn,q=>by
  have:=q [] n rfl (by simp) (by simp);rwa [Bo]at this
 |d::r,acc,x,n,hn,q=>by
  simp only[jbf,jac,cYes,if_true,Fq];rw[Ao]at hn q;have e:(c:Int)*((r.length+1:Nat):Int)=(c:Int)*(r.length:Int)+c:=by rw[Int.natCast_add,Int.mul_add];simp
  rw[e]at hn q;have hc:0<=(c:Int)*(r.length:Int):=Int.mul_nonneg (Fy _) (Fy _);refine h d n _ (by omega) λy n' hy hn'=>?_;refine jep P c h r (acc++[y]) _ n' (by omega) λds n'' hl hds h''=>?_;rw[Bk];refine q (y::ds) n'' (by rw[Ao,hl]) (λd hd=>?_) (by omega);rcases Ar.mp hd with rfl | z
  ·exact hy
  ·exact hds d z
theorem jt9 {n:Nat} {r:Int} (h0:0<=r) (h1:r < (n:Int)):ixN n r=some r.toNat:=by
 unfold ixN;rw[if_pos h0,if_pos h1]
theorem eq_str (a:Aa) (h:Str):eqD a (.str h)=some (jaf h a):=by cases a<;>rfl
theorem eq_int (i j:Int):eqD (.int i) (.int j)=some (decide (i=j)):=rfl
theorem at0 {α:Type} (a:α) (r:List α):atI (a::r) 0=some a:=ja5 (j:=0) rfl
theorem at1 {α:Type} (a b:α) (r:List α):atI (a::b::r) 1=some b:=ja5 (j:=1) rfl
section
variable {δ:Sl} {n:Int} {Q:DQ} {K:DEnds} {W V:DST} {i j:Nat} {a b d:Aa} {r ds:List Aa} {h:Str}
theorem jae (h:W δ n {K with nx:=λδ n=>V δ n K}):sSeq W V δ n K:=h
theorem jab {x:Wv} (e:δ[i]?=some (some (.w x))) (k:Q x n):wVar i δ n Q:=by unfold wVar;rw[e];exact k
theorem ix_i {m:Nat} (e:δ[i]?=some (some (.w (.d (.tuple ds))))) (e2:ds[m]?=some a) (k:Q (.d a) n):w2 (wVar i) (wC (.int (m:Int))) gIx δ n Q:=by
 unfold w2;refine jab e ?_;unfold wC gIx;simp only[ja5 e2];exact k
theorem jkt (e:δ[i]?=some (some (.w (.d (.tuple (a::r)))))) (k:Q (.d a) n):w2 (wVar i) (wC (.int 0)) gIx δ n Q:=ix_i (m:=0) e rfl k
theorem jff (e:δ[i]?=some (some (.w (.d (.tuple (a::b::r)))))) (k:Q (.d b) n):w2 (wVar i) (wC (.int 1)) gIx δ n Q:=ix_i (m:=1) e rfl k
theorem jd4 {d:Aa} (e:δ[i]?=some (some (.w (.d d)))) (k:Q (.d (.bool (jaf h d))) n):w2 (wVar i) (wC (.str h)) gEq δ n Q:=by
 unfold w2;refine jab e ?_;unfold wC gEq;simp only[eq_str];exact k
theorem jo9 (e:δ[i]?=some (some (.w (.d (.tuple (a::r)))))) (k:Q (.d (.bool (jaf h a))) n):w2 (w2 (wVar i) (wC (.int 0)) gIx) (wC (.str h)) gEq δ n Q:=by
 show w2 (wVar i) (wC (.int 0)) gIx δ n λx n1=>wC (.str h) δ n1 λy n2=>gEq x y n2 Q;refine jkt e ?_;unfold wC gEq;simp only[eq_str];exact k
theorem if_i {c:DTT} (k:c δ n λb n1=>if b=true then W δ n1 K else V δ n1 K):sIf c W V δ n K:=k
theorem j1v {d:Aa} (e:δ[i]?=some (some (.w (.d d)))) (hT:jaf h d=true->W δ n K) (hF:jaf h d=false->V δ n K):sIf (cT (w2 (wVar i) (wC (.str h)) gEq)) W V δ n K:=by
 unfold sIf cT;exact jd4 e (ifb hT hF)
theorem j1t (e:δ[i]?=some (some (.w (.d (.tuple (a::r)))))) (hT:jaf h a=true->W δ n K) (hF:jaf h a=false->V δ n K):sIf (cT (w2 (w2 (wVar i) (wC (.int 0)) gIx) (wC (.str h)) gEq)) W V δ n K:=by
 unfold sIf cT;exact jo9 e (ifb hT hF)
theorem jo4 {d:Aa} (e:δ[i]?=some (some (.w (.d d)))) (z:jaf h d=false) (hF:V δ n K):sIf (cT (w2 (wVar i) (wC (.str h)) gEq)) W V δ n K:=j1v e (λq=>by rw[z]at q;cases q) λ_=>hF
theorem j1u {d:Aa} (e:δ[i]?=some (some (.w (.d d)))) (z:jaf h d=true) (hT:W δ n K):sIf (cT (w2 (wVar i) (wC (.str h)) gEq)) W V δ n K:=j1v e (λ_=>hT) λq=>by rw[z]at q;cases q
theorem jx3 (e:δ[i]?=some (some (.w (.d (.tuple (a::r)))))) (z:jaf h a=false) (hF:V δ n K):sIf (cT (w2 (w2 (wVar i) (wC (.int 0)) gIx) (wC (.str h)) gEq)) W V δ n K:=j1t e (λq=>by rw[z]at q;cases q) λ_=>hF
theorem j1s (e:δ[i]?=some (some (.w (.d (.tuple (a::r)))))) (z:jaf h a=true) (hT:W δ n K):sIf (cT (w2 (w2 (wVar i) (wC (.int 0)) gIx) (wC (.str h)) gEq)) W V δ n K:=j1t e (λ_=>hT) λq=>by rw[z]at q;cases q
end
theorem jjb:jaf "is" (.str "is")=true:=by decide +kernel
theorem jry:jaf "is" (.str "any")=false:=by decide +kernel
theorem jo6:jaf "is" (.str "word")=false:=by decide +kernel
theorem jk1:jaf "is" (.str "number")=false:=by decide +kernel
theorem jo7:jaf "is" (.str "bind")=false:=by decide +kernel
theorem jjc:jaf "is" (.str "as")=false:=by decide +kernel
theorem jk0:jaf "word" (.str "word")=true:=by decide +kernel
theorem jhk:jaf "word" (.str "number")=false:=by decide +kernel
theorem jo8:jaf "as" (.str "bind")=false:=by decide +kernel
theorem jug:jaf "as" (.str "as")=true:=by decide +kernel
theorem je2:jaf "bind" (.str "bind")=true:=by decide +kernel
section
variable {δ:Sl} {n:Int} {Q:DQ} {K:DEnds} {W V:DST} {i j:Nat} {a b d:Aa} {r ds:List Aa}
theorem w2_i {wa wb:DT} {g:Wv->Wv->Int->DQ->Prop} (k:wa δ n λx n1=>wb δ n1 λy n2=>g x y n2 Q):w2 wa wb g δ n Q:=k
theorem jar {w:DT} {x:Aa} (h:∀Q:DQ,Q (.d x) n->w δ n Q) (k:K.nx (δ.set i (some (.w (.d x)))) n):sSet i w δ n K:=h _ k
theorem jb3 (k:K.nx (δ.set i (some (.own []))) n):sOwn i (fLst aNil) δ n K:=⟨Bn _,k⟩
theorem g0_i (k:Q (.d a) n):gIx (.d (.tuple (a::r))) (.d (.int 0)) n Q:=by
 show(match atI (a::r) 0 with | some d=>Q (.d d) n | none=>False);rw[at0];exact k
theorem g1_i (k:Q (.d b) n):gIx (.d (.tuple (a::b::r))) (.d (.int 1)) n Q:=by
 show(match atI (a::b::r) 1 with | some d=>Q (.d d) n | none=>False);rw[at1];exact k
theorem g2_i {c:Aa} (k:Q (.d c) n):gIx (.d (.tuple (a::b::c::r))) (.d (.int 2)) n Q:=by
 show(match atI (a::b::c::r) 2 with | some d=>Q (.d d) n | none=>False);rw[show atI (a::b::c::r) 2=some c from ja5 (j:=2) rfl];exact k
theorem c_i {c:Aa} (k:Q (.d c) n):wC c δ n Q:=k
theorem b1_i {w:DT} {g:List Wv->Int->DQ->Prop} (k:w δ n λx n1=>g [x] n1 Q):wB g (jaa w aNil) δ n Q:=k
theorem c1_i {w:DT} {S:DSp} (k:w δ n λx n1=>S [x] n1 Q):jai S (jaa w aNil) δ n Q:=k
theorem c2_i {w w':DT} {S:DSp} (k:w δ n λx n1=>w' δ n1 λy n2=>S [x,y] n2 Q):jai S (jaa w (jaa w' aNil)) δ n Q:=k
theorem c3_i {w w' w'':DT} {S:DSp} (k:w δ n λx n1=>w' δ n1 λy n2=>w'' δ n2 λz n3=>S [x,y,z] n3 Q):jai S (jaa w (jaa w' (jaa w'' aNil))) δ n Q:=k
theorem of_i {w:DTF} (k:w δ n λds n1=>Q (.d (.list ds)) n1):wOf w δ n Q:=k
theorem jjk {fr:List (Option Nat)} {w e:DT} {g:DTG} {c:DTT} {Q:List Aa->Int->Prop} (hw:∀Q:DQ,Q (.d (.tuple ds)) n->w δ n Q) (k:jbf g c e Q ds [] (jfj fr δ) n):ja0 fr (jcl w) g c e δ n Q:=by
 unfold ja0 jcl;exact hw _ k
theorem j1g (e:δ[i]?=some (some (.w (.d (.tuple ds))))) (k:Q (.d (.int ds.length)) n):wB gLen (jaa (wVar i) aNil) δ n Q:=b1_i (jab e k)
theorem j0v (e:δ[j]?=some (some (.w (.d (.tuple ds))))) (k:K.nx (δ.set i (some (.own ds))) n):sOwn i (jgl (wVar j)) δ n K:=by
 unfold sOwn jgl;exact jab e k
theorem ja2 {w:DT} (k:w δ n K.rt):sRet w δ n K:=k
theorem jd3 (e:δ[i]?=some (some (.own ds))) (k:W (δ.set i (some (.w (.d (.list ds))))) n K):sFrz i W δ n K:=by
 unfold sFrz;rw[e];exact k
theorem ct_b {w:DT} {k:Bool} {Q:Bool->Int->Prop} (hw:∀Q':DQ,Q' (.d (.bool k)) n->w δ n Q') (q:Q k n):cT w δ n Q:=hw _ q
theorem if_n {C:DTT} (hc:∀Q:Bool->Int->Prop,Q false n->C δ n Q) (hF:V δ n K):sIf C W V δ n K:=hc _ (by show if false=true then _ else _;rw[if_neg Ae];exact hF)
theorem if_y {C:DTT} (hc:∀Q:Bool->Int->Prop,Q true n->C δ n Q) (hT:W δ n K):sIf C W V δ n K:=hc _ (by show if true=true then _ else _;rw[if_pos rfl];exact hT)
theorem jfi {A B:DTT} {Q:Bool->Int->Prop} (ha:∀Q:Bool->Int->Prop,Q false n->A δ n Q) (hb:B δ n Q):cOr A B δ n Q:=ha _ (by show if false=true then _ else _;rw[if_neg Ae];exact hb)
theorem jpb {A B:DTT} {Q:Bool->Int->Prop} (ha:∀Q:Bool->Int->Prop,Q true n->A δ n Q) (k:Q true n):cOr A B δ n Q:=ha _ (by show if true=true then _ else _;rw[if_pos rfl];exact k)
theorem jk9 {A B:DTT} {Q:Bool->Int->Prop} (ha:∀Q:Bool->Int->Prop,Q true n->A δ n Q) (hb:B δ n Q):cAnd A B δ n Q:=ha _ (by show if true=true then _ else _;rw[if_pos rfl];exact hb)
theorem jh9 {A:DTT} {k:Bool} {Q:Bool->Int->Prop} (ha:∀Q:Bool->Int->Prop,Q k n->A δ n Q) (q:Q (!k) n):cNot A δ n Q:=ha _ q
end
theorem jaz {g:DTG} {W:DST} {K:DEnds} (I:List Aa->Sl->Int->Prop) (h0:∀δ n,I [] δ n->K.nx δ n)
  (h1:∀d r δ n (N:Sl->Int->Prop),I (d::r) δ n->(∀δ n,I r δ n->N δ n)->g d δ λδ'=>W δ' n {K with nx:=N,ct:=N,bk:=K.nx}):∀ds δ n,I ds δ n->forD g W K ds δ n
 |[],δ,n,h=>h0 δ n h
 |d::r,δ,n,h=>h1 d r δ n (forD g W K r) h (jaz I h0 h1 r)
section
variable {δ:Sl} {n m:Int} {Q:DQ} {K:DEnds} {W V:DST} {i j:Nat} {ds:List Aa}
theorem jdc {w:DT} (e0:δ[0]?=some (some (.w .tp))) (hw:∀Q:DQ,Q (.d (.int m)) n->w δ n Q) (h:n < 2 ^ 40) (h0:0 < m) (h1:m < 1073741824) (k:∀r:Int,0<=r->r < m->Q (.d (.int r)) (n+1)):jai jas (jaa (wVar 0) (jaa w aNil)) δ n Q :=
 c2_i (jab e0 (hw _ (jn1 h h0 h1 k)))
theorem jdd (e0:δ[0]?=some (some (.w .tp))) (h:n < 2 ^ 40) (h0:0 < m) (h1:m < 1073741824) (k:∀r:Int,0<=r->r < m->Q (.d (.int r)) (n+1)):jai jas (jaa (wVar 0) (jaa (wC (.int m)) aNil)) δ n Q:=jdc e0 (λQ q=>c_i q) h h0 h1 k
theorem jqh (e0:δ[0]?=some (some (.w .tp))) (h:n < 2 ^ 40) (h0:0 < m) (h1:m < 1073741824) (k:∀r:Int,0<=r->r < m->K.nx (δ.set i (some (.w (.d (.int r))))) (n+1)):sSet i (jai jas (jaa (wVar 0) (jaa (wC (.int m)) aNil))) δ n K:=jdd e0 h h0 h1 k
theorem jmc {r:Int} (h0:0<=r) (h1:r < (ds.length:Int)) (k:∀d∈ds,Q (.d d) n):gIxL (.ln ds) (.d (.int r)) n Q:=by
 obtain⟨v,hv,hm⟩:=jn8 h0 h1;show(match atI ds r with | some d=>Q (.d d) n | none=>False);rw[hv];exact k v hm
theorem jbd {r:Int} (h0:0<=r) (h1:r < (ds.length:Int)) (k:∀d∈ds,Q (.d d) n):gIxL (.d (.list ds)) (.d (.int r)) n Q:=jrs h0 h1 k
theorem jda (e:δ[i]?=some (some (.own ds))) (k:Q (.ln ds) n):jbt i δ n Q:=by
 unfold jbt;rw[e];exact k
theorem jhs {w:DT} {x:Aa} {es:List Aa} (e:δ[i]?=some (some (.own es))) (hw:∀Q:DQ,Q (.d x) m->w δ n Q) (hl:es.length < 1000000) (k:K.nx (δ.set i (some (.own (es++[x])))) m):sApp i w δ n K:=by
 unfold sApp;rw[e];exact hw _ (Aj hl k)
theorem jgt {w:DT} {es:List Aa} (e:δ[i]?=some (some (.own es))) (k:w δ n λx n1=>match x with
  |.d d=>es.length < 1000000/\K.nx (δ.set i (some (.own (es++[d])))) n1
  |_=>False):sApp i w δ n K:=by
 unfold sApp;rw[e];exact k
theorem ja8 {w w':DT} (k:w δ n λx n1=>w' δ n1 λy n2=>match jcn [x,y]with
  |some ds=>ds.length<=1000/\Q (.d (.tuple ds)) n2
  |none=>False):wTup (jaa w (jaa w' aNil)) δ n Q:=k
theorem jfu {w w' w'':DT} (k:w δ n λx n1=>w' δ n1 λy n2=>w'' δ n2 λz n3=>match jcn [x,y,z]with
  |some ds=>ds.length<=1000/\Q (.d (.tuple ds)) n3
  |none=>False):wTup (jaa w (jaa w' (jaa w'' aNil))) δ n Q:=k
theorem je0 (k:Q (.d (.tuple ds)) n):jbi [.d (.list ds)] n Q:=k
theorem lt_i {a b:Int} (k:Q (.d (.bool (decide (a < b)))) n):gLt (.d (.int a)) (.d (.int b)) n Q:=k
theorem iflt {a b:Int} (e:δ[i]?=some (some (.w (.d (.int a))))) (hT:a < b->W δ n K) (hF:¬a < b->V δ n K):sIf (cT (w2 (wVar i) (wC (.int b)) gLt)) W V δ n K:=by
 refine if_i (w2_i (jab e (c_i ?_)));show if decide (a < b)=true then _ else _
 by_cases h:a < b
 ·rw[if_pos (decide_eq_true h)];exact hT h
 ·rw[if_neg (by simpa using h)];exact hF h
end
section
variable {δ:Sl} {n m:Int} {Q:DQ} {K:DEnds} {W V:DST} {i j:Nat} {ds:List Aa}
theorem jwq {w w' w'' v:DT} (k:w δ n λx n1=>w' δ n1 λy n2=>w'' δ n2 λz n3=>v δ n3 λu n4=>match jcn [x,y,z,u]with
  |some ds=>ds.length<=1000/\Q (.d (.tuple ds)) n4
  |none=>False):wTup (jaa w (jaa w' (jaa w'' (jaa v aNil)))) δ n Q:=k
theorem jb6 (k:Q (.d (.list [])) n):wOf (fLst aNil) δ n Q:=Aj (Bn _) k
theorem eqLn (k:Q (.d (.bool ds.isEmpty)) n):gEqL (.ln ds) (.d (.list [])) n Q:=k
theorem eqLi {a b:Int} (k:Q (.d (.bool (decide (a=b)))) n):gEqL (.d (.int a)) (.d (.int b)) n Q:=k
theorem ifeq {a b:Int} (e:δ[i]?=some (some (.w (.d (.int a))))) (hT:a=b->W δ n K) (hF:¬a=b->V δ n K):sIf (cT (w2 (wVar i) (wC (.int b)) gEqL)) W V δ n K:=by
 refine if_i (w2_i (jab e (c_i ?_)));show if decide (a=b)=true then _ else _
 by_cases h:a=b
 ·rw[if_pos (decide_eq_true h)];exact hT h
 ·rw[if_neg (by simpa using h)];exact hF h
theorem ifgt {a b:Int} (e:δ[i]?=some (some (.w (.d (.int a))))) (hT:b < a->W δ n K) (hF:¬b < a->V δ n K):sIf (cT (w2 (wVar i) (wC (.int b)) gGt)) W V δ n K:=by
 refine if_i (w2_i (jab e (c_i ?_)));show if decide (b < a)=true then _ else _
 by_cases h:b < a
 ·rw[if_pos (decide_eq_true h)];exact hT h
 ·rw[if_neg (by simpa using h)];exact hF h
end
theorem jgj (hs:List Str):(hs.map C9).all jcs=true:=by
 rw[Fh];intro d hd;obtain⟨x,_,rfl⟩:=Bf.mp hd;rfl
theorem jvm {δ:Sl} {n m:Int} {K:DEnds} {W:DST} {g:DTG} {L:List Aa} {wl:DT} {M:Nat} (e:δ[0]?=some (some (.w .tp))) (hl:∀Q:DQ,Q (.d (.list L)) n->wl δ n Q) (hn:n < 2 ^ 40) (hm:m=L.length) (h0:0 < m) (h1:m < 1000) (hL:∀d∈L,∃j:Nat,j<=M/\d=.int j) (hM:M<=1000) (k:∀j:Nat,j<=M->forD g W K (rngD 0 j) δ (n+1)) :
  sFor (jak (w2 wl (jai jas (jaa (wVar 0) (jaa (wC (.int m)) aNil))) gIxL)) g W δ n K:=by
 unfold sFor jak;refine w2_i (hl _ (jdd e hn h0 (by omega) λr r0 r1=>jbd r0 (by omega) λd hd=>?_));obtain⟨j,hj,rfl⟩:=hL d hd;refine Aj ⟨by omega,by omega⟩ ?_;rw[Bp];exact k j hj
theorem j1h {ds:List Aa} {n:Int} {Q:DQ} (k:Q (.d (.int ds.length)) n):jbp [.ln ds] n Q:=k
theorem gN_i {n:Int} {Q:DQ} {i:Nat} {x:Aa} {xs:List Aa} (h:xs[i]?=some x) (k:Q (.d x) n):gIx (.d (.tuple xs)) (.d (.int (i:Nat))) n Q:=by
 show(match atI xs ((i:Nat):Int)with | some d=>Q (.d d) n | none=>False);rw[ja5 h];exact k
theorem j2u (xs:List Aa) {p:Nat} (hp:p<=xs.length):cutD xs none (some (p:Int))=xs.take p:=by
 unfold cutD;rw[HT.sIx_nat];show(xs.drop 0).take (min p xs.length - 0)=_;rw[Dy,Nat.sub_zero,Fn hp]
abbrev Nm:=List (Str×Aa)
inductive Fd where
 |is (v:Aa) | any | word | number | bind (x:Str) | as (x:Str)
def Fd.d:Fd->Aa
 |.is v=>.tuple [.str "is",v]
 |.any=>.tuple [.str "any"]
 |.word=>.tuple [.str "word"]
 |.number=>.tuple [.str "number"]
 |.bind x=>.tuple [.str "bind",.str x]
 |.as x=>.tuple [.str "as",.str x]
abbrev okX (x:Str):Prop:=x.length<=4/\PyData.strOk x=true
def isV:Aa->Bool
 |.str x=>decide (x.length<=8)&&PyData.strOk x
 |.int i=>decide (0<=i)&&(decide (i<=99)&&(decide (Fb (.int i)<=20)&&(Eg 13 (.int i)&&Eu (.int i))))
 |_=>false
def Fd.ok:Fd->Prop
 |.is v=>isV v=true
 |.bind x=>okX x
 |.as x=>okX x
 |_=>True
def eqB (a b:Aa):Bool:=(eqD a b).getD false
theorem j2g {a b:Aa} (ha:isV a=true) (hb:isV b=true):eqD a b=some (eqB a b):=by
 cases a<;>first | cases ha | (cases b<;>first | cases hb | rfl)
theorem j2d {a:Aa} (ha:isV a=true):jcs a=true:=by cases a<;>first | cases ha | rfl
def isSt:Aa->Bool
 |.str _=>true
 |_=>false
def isIn:Aa->Bool
 |.int _=>true
 |_=>false
def look (ps:Nm) (x:Str):Option Aa:=(ps.find? λp=>decide (p.1=x)).map (·.2)
def put (ps:Nm) (x:Str) (v:Aa):Nm:=if (ps.any λp=>decide (p.1=x))=true then ps.map (λp=>if p.1=x then(p.1,v)else p)else ps++[(x,v)]
theorem j1r (a b:Str):decide ((Cy a:Key)=Cy b)=decide (a=b):=by
 by_cases z:a=b
 ·rw[z,decide_eq_true rfl,decide_eq_true rfl]
 ·rw[decide_eq_false z,decide_eq_false λw=>z (Sum.inr.inj w)]
theorem jj0 (ps:Nm) (x:Str):valD (txK ps) (.inr x)=look ps x:=by
 induction ps with
 |nil=>rfl
 |cons p r ih =>
  by_cases e:p.1=x
  ·have a1:valD (txK (p::r)) (.inr x)=some p.2:=by simp[valD,txK,By,e]
   have a2:look (p::r) x=some p.2:=by simp[look,By,e]
   rw[a1,a2]
  ·have a1:valD (txK (p::r)) (.inr x)=valD (txK r) (.inr x):=by simp[valD,txK,By,e]
   have a2:look (p::r) x=look r x:=by simp[look,By,e]
   rw[a1,a2,ih]
theorem j27 (ps:Nm) (x:Str):((txK ps).any λkv=>decide (kv.1=(Cy x:Key)))=(ps.any λp=>decide (p.1=x)):=by
 unfold txK;rw[List.any_map]
 congr 1
 funext p
 exact j1r _ _
theorem jvv (ps:Nm) (x:Str) (v:Aa):putD (txK ps) (.inr x) v=txK (put ps x v):=by
 unfold putD put;rw[j27]
 split
 ·unfold txK;rw[Ct,Ct];apply B7;intro p _;show(if (Cy p.1:Key)=Cy x then _ else _)=_;by_cases e:p.1=x
  ·rw[if_pos (congrArg Cy e)];show _=(Cy (if p.1=x then(p.1,v)else p).1,(if p.1=x then(p.1,v)else p).2);rw[if_pos e]
  ·rw[if_neg λz=>e (Sum.inr.inj z)];show _=(Cy (if p.1=x then(p.1,v)else p).1,(if p.1=x then(p.1,v)else p).2);rw[if_neg e]
 ·unfold txK;rw[Bb];rfl
theorem jf7 {ps:Nm} {x:Str} {v:Aa} (h:look ps x=some v):(x,v)∈ps:=by
 unfold look at h;cases e:ps.find? λp=>decide (p.1=x)with
 |none=>rw[e]at h;cases h
 |some p =>
  rw[e]at h;have h1:=List.find?_some e;have h2:p.1=x:=of_decide_eq_true h1;have h3:p.2=v:=A6 h;have:=List.mem_of_find?_eq_some e;rw[<-h2,<-h3];exact this
theorem jnr (ps:Nm) (x:Str):(ps.any λp=>decide (p.1=x))=(look ps x).isSome:=by
 induction ps with
 |nil=>rfl
 |cons p r ih =>
  by_cases e:p.1=x
  ·have a2:look (p::r) x=some p.2:=by simp[look,By,e]
   rw[a2,C6,decide_eq_true e];rfl
  ·have a2:look (p::r) x=look r x:=by simp[look,By,e]
   rw[a2,C6,decide_eq_false e,Bool.false_or,ih]
theorem jnd (ps:Nm) (x:Str) (v:Aa):(put ps x v).map (·.1)=if (ps.any λp=>decide (p.1=x))=true then ps.map (·.1)else ps.map (·.1)++[x]:=by
 unfold put
 split
 ·rw[Ct];apply B7;intro p _;show(if p.1=x then(p.1,v)else p).1=p.1
  split<;>rfl
 ·rw[Bb];rfl
theorem jvw {ps:Nm} {x:Str} {v:Aa} (h:(ps.map (·.1)).Nodup):((put ps x v).map (·.1)).Nodup:=by
 rw[jnd]
 split
 ·exact h
 ·rename_i e;rw[List.nodup_append];refine⟨h,by simp,λa ha b hb z=>?_⟩;have hb:b=x:=by simpa using hb
  obtain⟨p,hp,rfl⟩:=Bf.mp ha;exact e (Fg.mpr ⟨p,hp,decide_eq_true (z.trans hb)⟩)
theorem jqv (ps:Nm) (x:Str) (v:Aa):(put ps x v).length<=ps.length+1:=by
 unfold put
 split
 ·rw[Ab];omega
 ·rw[Ak];exact Al _
def okV (p:Str×Aa):Prop:=okX p.1/\isV p.2=true
theorem jqu {ps:Nm} {x:Str} {v:Aa} (h:∀p∈ps,okV p) (hx:okX x) (hv:isV v=true):∀p∈put ps x v,okV p:=by
 intro p hp;unfold put at hp
 split at hp
 ·obtain⟨q,hq,rfl⟩:=Bf.mp hp
  split
  ·exact⟨(h q hq).1,hv⟩
  ·exact h q hq
 ·rcases Bd.mp hp with hp | hp
  ·exact h p hp
  ·have:p=(x,v):=by simpa using hp
   subst this;exact⟨hx,hv⟩
def ffB (f:Fd) (v:Aa) (h bs:Nm):Bool:=match f with
 |.is w=>eqB w v
 |.any=>true
 |.word=>isSt v
 |.number=>isIn v
 |.as x=>match look h x with
  |some w=>eqB w v
  |none=>false
 |.bind x=>match look bs x with
  |some w=>eqB w v
  |none=>true
def wk:List (Fd×Aa)->Nm->List Str->Option Nm
 |[],h,_=>some h
 | (.is w,v)::r,h,hs=>if eqB w v=true then wk r h hs else none
 | (.any,_)::r,h,hs=>wk r h hs
 | (.word,v)::r,h,hs=>if isSt v=true then wk r h hs else none
 | (.number,v)::r,h,hs=>if isIn v=true then wk r h hs else none
 | (.as x,v)::r,h,hs=>match look h x with
  |some w=>if eqB w v=true then wk r h hs else none
  |none=>none
 | (.bind x,v)::r,h,hs=>if x∈hs then(match look h x with
   |some w=>if eqB w v=true then wk r h hs else none
   |none=>none)else wk r (put h x v) (hs++[x])
def jtv (p:Str×Aa):Aa:=.tuple [.str p.1,p.2]
def jbb (ps:Nm):Aa:=.tuple (ps.map jtv)
def patD (fs:List Fd):Aa:=.tuple (fs.map Fd.d)
def okN (ps:Nm):Prop:=ps.length<=40/\(ps.map (·.1)).Nodup/\∀p∈ps,okV p
def okP (fs:List Fd):Prop:=1<=fs.length/\fs.length<=4/\∀f∈fs,f.ok
def okR (row:List Aa):Prop:=row.length<=4/\∀d∈row,isV d=true
theorem tri (x y:Str) (h1:¬x.cps.toList < y.cps.toList) (h2:¬y.cps.toList < x.cps.toList):x=y:=by
 have:x.cps.toList=y.cps.toList:=List.le_antisymm (D4.mp h2) (D4.mp h1);have e:=Array.toList_inj.mp this;cases x;cases y;simp only at e;rw[e]
theorem jql {h a b:Nm} (nd:(h.map (·.1)).Nodup) (ha:a.Perm h) (hb:b.Perm h) (ra:jdu a) (rb:jdu b):a=b:=by
 refine List.Perm.eq_of_pairwise (λx y hx hy l1 l2=>?_) ra rb (ha.trans hb.symm);have e:x.1=y.1:=tri _ _ l2 l1;have hx':=ha.mem_iff.mp hx;have hy':=hb.mem_iff.mp hy;obtain⟨i,hi⟩:=Cp.mp hx';obtain⟨j,hj⟩:=Cp.mp hy';have a1:(h.map (·.1))[i]?=some x.1:=by rw[A0,hi];rfl
 have a2:(h.map (·.1))[j]?=some x.1:=by rw[A0,hj,e];rfl
 obtain⟨b1,b2⟩:=Aq.mp a1;obtain⟨c1,c2⟩:=Aq.mp a2;have:=(Ff nd).mp (b2.trans c2.symm);rw[this,hj]at hi;exact(A6 hi).symm
theorem jjw:∀(l:List (Fd×Aa)) (h:Nm) (hs:List Str) (k:Nm),(h.map (·.1)).Nodup->wk l h hs=some k->(k.map (·.1)).Nodup
 |[],h,hs,k,nd,e=>by cases e;exact nd
 | (.is w,v)::r,h,hs,k,nd,e=>by unfold wk at e;split at e;exact jjw r h hs k nd e;cases e
 | (.any,v)::r,h,hs,k,nd,e=>by unfold wk at e;exact jjw r h hs k nd e
 | (.word,v)::r,h,hs,k,nd,e=>by unfold wk at e;split at e;exact jjw r h hs k nd e;cases e
 | (.number,v)::r,h,hs,k,nd,e=>by unfold wk at e;split at e;exact jjw r h hs k nd e;cases e
 | (.as x,v)::r,h,hs,k,nd,e=>by
  unfold wk at e
  split at e
  ·split at e
   ·exact jjw r h hs k nd e
   ·cases e
  ·cases e
 | (.bind x,v)::r,h,hs,k,nd,e=>by
  unfold wk at e
  split at e
  ·split at e
   ·split at e
    ·exact jjw r h hs k nd e
    ·cases e
   ·cases e
  ·exact jjw r _ _ k (jvw nd) e
def leK (a b:Str×Aa):Bool:=decide (¬b.1.cps.toList < a.1.cps.toList)
def srtN (h:Nm):Nm:=h.mergeSort leK
theorem jm2 (h:Nm):(srtN h).Perm h:=List.mergeSort_perm h leK
theorem jvh (h:Nm):jdu (srtN h):=by
 have:=List.pairwise_mergeSort (le:=leK) (λa b c x y=>decide_eq_true (D4.mpr (List.le_trans (D4.mp (of_decide_eq_true x)) (D4.mp (of_decide_eq_true y))))) (λa b=>?_) h
 ·exact List.Pairwise.imp (λx=>of_decide_eq_true x) this
 ·rw[Bool.or_eq_true];rcases List.le_total a.1.cps.toList b.1.cps.toList with z | z
  ·exact .inl (decide_eq_true (D4.mpr z))
  ·exact .inr (decide_eq_true (D4.mpr z))
theorem jzh {h h':Nm} (nd:(h.map (·.1)).Nodup) (p:h'.Perm h) (r:jdu h'):h'=srtN h:=jql nd p (jm2 h) r (jvh h)
def wkN (fs:List Fd) (row:List Aa) (nm:Nm):Nm:=(wk (fs.zip row) nm []).getD []
def fitB (fs:List Fd) (row:List Aa) (nm:Nm):Bool:=decide (fs.length=row.length)&&(wk (fs.zip row) nm []).isSome
def jbo (ys:List Str):Aa:=.tuple (ys.map .str)
def js5:List Aa:=[.str "a",.int 0,.int 1,.str "ab",.str "go",.int 99]
inductive Fe where
 |any | word | num | isv (d:Aa) | bind (k:Str) | as (k:Str) | nx (k:Str)
def Fe.hd:Fe->Str
 |.any=>"any"
 |.word=>"word"
 |.num=>"number"
 |.isv _=>"is"
 |.bind _=>"bind"
 |.as _=>"as"
 |.nx _=>"next"
def Fe.tl:Fe->List Aa
 |.any=>[]
 |.word=>[]
 |.num=>[]
 |.isv d=>[d]
 |.bind k=>[.str k]
 |.as k=>[.str k]
 |.nx k=>[.str k]
def Fe.d (f:Fe):Aa:=.tuple (.str f.hd::f.tl)
abbrev okK (k:Str):Prop:=okX k
def Fe.ok:Fe->Prop
 |.isv d=>isV d=true
 |.bind k=>okK k
 |.as k=>okK k
 |.nx k=>okK k
 |_=>True
def Fe.bd:Fe->Option Str
 |.bind k=>some k
 |_=>none
def Fe.us:Fe->Option Str
 |.as k=>some k
 |.nx k=>some k
 |_=>none
def bndE (fs:List Fe):List Str:=fs.filterMap Fe.bd
def Fe.pt:Fe->Bool
 |.nx _=>false
 |_=>true
def Fe.tm:Fe->Bool
 |.isv _=>true
 |.as _=>true
 |.nx _=>true
 |_=>false
def Fe.te:Fe->Bool
 |.isv _=>true
 |.as _=>true
 |_=>false
def okFs (fs:List Fe):Prop:=fs.length<=4/\∀f∈fs,f.ok
def rF:List Str->List Fe->Prop
 |_,[]=>True
 |ks,f::r=>(∀k,f.us=some k->k∈ks)/\rF (ks++f.bd.toList) r
inductive Ac where
 |lay (fs:List Fe) (age:Aa) | take (fs:List Fe) | read (fs:List Fe) | look (fs:List Fe) (b:Nat) | same (f g:Fe) (b:Nat) | go (b:Nat)
def fsD (fs:List Fe):Aa:=.tuple (fs.map Fe.d)
def Ac.d:Ac->Aa
 |.lay fs age=>.tuple [.str "lay",fsD fs,age]
 |.take fs=>.tuple [.str "take",fsD fs]
 |.read fs=>.tuple [.str "read",fsD fs]
 |.look fs b=>.tuple [.str "look",fsD fs,.int b]
 |.same f g b=>.tuple [.str "same",f.d,g.d,.int b]
 |.go b=>.tuple [.str "go",.int b]
def Ac.bs:Ac->List Str
 |.take fs=>bndE fs
 |.read fs=>bndE fs
 |.look fs _=>bndE fs
 |_=>[]
def Ac.fs:Ac->List Fe
 |.lay fs _=>fs
 |.take fs=>fs
 |.read fs=>fs
 |.look fs _=>fs
 |.same f g _=>[f,g]
 |.go _=>[]
def Ac.to:Ac->Option Nat
 |.look _ b=>some b
 |.same _ _ b=>some b
 |.go b=>some b
 |_=>none
def Ac.right (wants:List (List Str)) (ks:List Str) (a:Ac):Prop:=rF ks a.fs/\∀b,a.to=some b->∃w,wants[b]?=some w/\∀k∈w,k∈ks
def jdy (d:Aa):Prop:=d=.none\/∃i:Int,d=.int i/\1<=i/\i<=20
def patO (fs:List Fe):Prop:=1<=fs.length/\∀f∈fs,f.pt=true
def Ac.pat:Ac->Prop
 |.take fs=>patO fs
 |.read fs=>patO fs
 |.look fs _=>patO fs
 |.lay fs age=>(∀f∈fs,f.tm=true)/\jdy age
 |.same f g _=>f.te=true/\g.te=true
 |.go _=>True
def okA (a:Ac):Prop:=okFs a.fs/\a.pat
abbrev Bl:=List Str×List Ac
def blD (b:Bl):Aa:=.tuple [jbo b.1,.tuple (b.2.map Ac.d)]
def prD (bs:List Bl):Aa:=.tuple (bs.map blD)
def kn (w:List Str) (as:List Ac) (p:Nat):List Str:=w++(as.take p).flatMap Ac.bs
def okB (b:Bl):Prop:=b.1.length<=4/\(∀k∈b.1,okK k)/\b.2.length<=8/\(∀a∈b.2,okA a)/\b.1.Nodup/\upT b.1
def riB (wants:List (List Str)) (b:Bl):Prop:=∀(p:Nat) (a:Ac),b.2[p]?=some a->a.right wants (kn b.1 b.2 p)
def jec:DSp:=λws n Q=>ws=[.tp]/\n < 2 ^ 39/\∀v∈js5,Q (.d v) (n+1)
def jg1:DSp:=λws n Q=>ws=[.tp]/\n < 2 ^ 39/\∀m:Nat,1<=m->m<=4->Q (.d (.int m)) (n+1)
def jof:DSp:=λws n Q=>∃ks:List Str,ws=[.tp,.ln (ks.map .str)]/\ks.length<=1000/\(∀k∈ks,okK k)/\n+9 < 2 ^ 39/\∀(fs:List Fe) (n':Int),okFs fs->(∀f∈fs,f.tm=true)->rF ks fs->n'<=n+9->Q (.d (fsD fs)) n'
def jg3:DSp:=λws n Q=>∃ks:List Str,ws=[.tp,.ln (ks.map .str)]/\ks.length<=1000/\(∀k∈ks,okK k)/\n+2 < 2 ^ 39/\∀(f:Fe) (n':Int),f.ok->f.te=true->(∀k,f.us=some k->k∈ks)->n'<=n+2->Q (.d f.d) n'
def jig:DSp:=λws n Q=>∃(ks:List Str) (os:List Nat) (wants:List (List Str)),ws=[.tp,.ln (ks.map .str),.d (.list (os.map λb=>.int (b:Nat)))]/\ks.length<=1000/\(∀k∈ks,okK k)/\0 < os.length/\os.length<=1000 /\
 (∀b∈os,∃w,wants[b]?=some w/\∀k∈w,k∈ks)/\n+11 < 2 ^ 39/\∀(a:Ac) (n':Int),okA a->a.right wants ks->n'<=n+11->Q (.d (.tuple [a.d,.list (a.bs.map .str)])) n'
def okG (bs:List Bl):Prop:=1<=bs.length/\bs.length<=6/\∀b∈bs,okB b/\riB (bs.map (·.1)) b
def joh:DSp:=λws n Q=>∃(ks:List Str) (v:Wv),ws=[.tp,v]/\lsOf v=some (ks.map .str)/\ks.length<=1000/\(∀k∈ks,okK k)/\n+9 < 2 ^ 39/\∀(fs:List Fe) (n':Int),1<=fs.length->okFs fs->(∀f∈fs,f.pt=true)->rF ks fs->n'<=n+9->Q (.d (.tuple [fsD fs,.list ((bndE fs).map .str)])) n'
def fst0 (bs:List Bl):Prop:=∃w,bs.map (·.1)=[]::w
def joc:DSp:=λws n Q=>ws=[.tp]/\n+600 < 2 ^ 39/\∀(bs:List Bl) (n':Int),okG bs->fst0 bs->n'<=n+600->Q (.d (prD bs)) n'
abbrev Hn:=Nat×Nat×Nm
def hnD (h:Hn):Aa:=.tuple [.int h.1,.int h.2.1,jbb h.2.2]
abbrev Nt:=List Aa×Aa
def ntD (q:Nt):Aa:=.tuple [.tuple q.1,q.2]
def nsD (ns:List Nt):Aa:=.tuple (ns.map ntD)
def stD (hs:List Hn) (ns:List Nt):Aa:=.tuple [.tuple (hs.map hnD),nsD ns]
abbrev Pg:=List (List Bl)
def pgD (ps:Pg):Aa:=.tuple (ps.map prD)
def okPg (ps:Pg):Prop:=ps.length<=5/\∀P∈ps,okG P
def okQ (q:Nt):Prop:=okR q.1/\jdy q.2
def okNs (m:Nat) (ns:List Nt):Prop:=ns.length<=m/\∀q∈ns,okQ q
structure okHn (b:Bl) (h:Hn):Prop where
 pl:h.2.1<=b.2.length
 nd:(h.2.2.map (·.1)).Nodup
 ok:∀p∈h.2.2,okV p
 up:jdu h.2.2
 mem:∀k,k∈h.2.2.map (·.1)↔k∈kn b.1 b.2 h.2.1
 ln:h.2.2.length<=40
theorem okHn.n {b:Bl} {h:Hn} (H:okHn b h):okN h.2.2:=⟨H.ln,H.nd,H.ok⟩
def okHs (ps:Pg) (hs:List Hn):Prop:=hs.length=ps.length/\∀(i:Nat) (P:List Bl),ps[i]?=some P->∃(h:Hn) (b:Bl),hs[i]?=some h/\P[h.1]?=some b/\okHn b h
def actO (ps:Pg) (hs:List Hn) (h:Nat):Option Ac:=ps[h]?.bind λP=>hs[h]?.bind λx=>P[x.1]?.bind λb=>b.2[x.2.1]?
def acD:Option Ac->Aa
 |none=>.none
 |some a=>a.d
def Fe.fd:Fe->Fd
 |.any=>.any
 |.word=>.word
 |.num=>.number
 |.isv d=>.is d
 |.bind k=>.bind k
 |.as k=>.as k
 |.nx _=>.any
def Ac.pf:Ac->Option (List Fd)
 |.take fs=>some (fs.map Fe.fd)
 |.read fs=>some (fs.map Fe.fd)
 |.look fs _=>some (fs.map Fe.fd)
 |_=>none
def Ac.wt:Ac->Bool
 |.take _=>true
 |.read _=>true
 |_=>false
def fstO (fs:List Fd) (nm:Nm) (ns:List Nt):Option Nat:=ns.findIdx? λq=>fitB fs q.1 nm
def nmO (hs:List Hn) (h:Nat):Nm:=(hs[h]?.map (·.2.2)).getD []
def gotO (ps:Pg) (hs:List Hn) (ns:List Nt) (h:Nat):Option Nat:=(actO ps hs h).bind λa=>a.pf.bind λfs=>fstO fs (nmO hs h) ns
def canB (ps:Pg) (hs:List Hn) (ns:List Nt) (h:Nat):Bool:=((actO ps hs h).map λa=>!a.wt || (gotO ps hs ns h).isSome).getD false
def natD:Option Nat->Aa
 |none=>.none
 |some i=>.int i
def rowO (ns:List Nt) (i:Nat):List Aa:=(ns[i]?.map (·.1)).getD []
def gotP (ps:Pg) (hs:List Hn) (ns:List Nt) (h:Nat):Option (Nat×Nm):=(actO ps hs h).bind λa=>a.pf.bind λfs=>(fstO fs (nmO hs h) ns).map λi=>(i,wkN fs (rowO ns i) (nmO hs h))
def gotW:Option (Nat×Nm)->Wv
 |none=>.d .none
 |some (i,h)=>.ob (.q (.int i) (txK h))
def fitW (fs:List Fd) (row:List Aa) (nm:Nm):Wv:=if fitB fs row nm=true then .ob (.k (txK (wkN fs row nm)))else .d .none
def okSt (ps:Pg) (hs:List Hn) (ns:List Nt):Prop:=okPg ps/\okHs ps hs/\okNs 100 ns
def nxO:Aa->Aa
 |.int i=>if i=99 then .int 0 else .int (i+1)
 |d=>d
def lkO (nm:Nm) (k:Str):Aa:=(look nm k).getD .none
def fvO (nm:Nm):Fe->Aa
 |.isv d=>d
 |.as k=>lkO nm k
 |.nx k=>nxO (lkO nm k)
 |_=>.none
def filO (fs:List Fe) (nm:Nm):List Aa:=fs.map (fvO nm)
def wtO (P:List Bl) (b:Nat):List Str:=(P[b]?.map (·.1)).getD []
def goTo (P:List Bl) (b:Nat) (nm:Nm):Hn:=(b,0,nm.filter λp=>decide (p.1∈wtO P b))
def goOn (x:Hn) (nm:Nm):Hn:=(x.1,x.2.1+1,nm)
def setH (hs:List Hn) (h:Nat) (x:Hn):List Hn:=hs.take h++x::hs.drop (h+1)
def ageO:Aa->Aa
 |.int i=>.int (i - 1)
 |d=>d
def isI1:Aa->Bool
 |.int i=>decide (i=1)
 |_=>false
def clkO (ns:List Nt):List Nt:=(ns.filter λq=>!isI1 q.2).map λq=>(q.1,ageO q.2)
def outO (ns:List Nt) (i:Nat):List Nt:=ns.take i++ns.drop (i+1)
def getO (fs:List Fe) (x:Hn) (ns:List Nt):Option (Nat×Hn):=(fstO (fs.map Fe.fd) x.2.2 ns).map λi=>(i,goOn x (srtN (wkN (fs.map Fe.fd) (rowO ns i) x.2.2)))
def actM (P:List Bl) (x:Hn) (ns:List Nt):Ac->Option (Hn×List Nt)
 |.lay fs age=>some (goOn x x.2.2,ns++[(filO fs x.2.2,age)])
 |.go b=>some (goTo P b x.2.2,ns)
 |.same f g b=>some (if eqB (fvO x.2.2 f) (fvO x.2.2 g)=true then goOn x x.2.2 else goTo P b x.2.2,ns)
 |.take fs=>(getO fs x ns).map λq=>(q.2,outO ns q.1)
 |.read fs=>(getO fs x ns).map λq=>(q.2,ns)
 |.look fs b=>match getO fs x ns with
  |some q=>some (q.2,ns)
  |none=>some (goTo P b x.2.2,ns)
def movO (ps:Pg) (hs:List Hn) (ns:List Nt) (h:Nat):Option (List Hn×List Nt):=ps[h]?.bind λP=>hs[h]?.bind λx=>(actO ps hs h).bind λa=>(actM P x ns a).map λr=>(setH hs h r.1,r.2)
def aftO (ps:Pg) (hs:List Hn) (ns:List Nt) (m:Nat):Option (List Hn×List Nt):=if m=ps.length then some (hs,clkO ns)else movO ps hs ns m
def fvOk (nm:Nm) (f:Fe):Prop:=f.ok/\f.tm=true/\∀k,f.us=some k->∃v,look nm k=some v/\isV v=true
def jcy:DSp:=λws n Q=>∃(fs:List Fe) (nm:Nm),ws=[.d (fsD fs),.dk (txK nm)]/\fs.length<=4/\(∀f∈fs,fvOk nm f)/\Q (.d (.tuple (filO fs nm))) n
def jsy:DSp:=λws n Q=>∃(f:Fe) (nm:Nm),ws=[.d f.d,.d (jbb nm)]/\fvOk nm f/\f.te=true/\okN nm/\Q (.d (fvO nm f)) n
def je7:DSp:=λws n Q=>∃(P:List Bl) (b:Nat) (nm:Nm) (w:Bl),ws=[.d (prD P),.d (jbb nm),.d (.int b)]/\P[b]?=some w/\w.1.length<=4/\okN nm/\jdu nm/\w.1.Nodup/\upT w.1/\(∀k∈w.1,k∈nm.map (·.1))/\Q (.d (hnD (goTo P b nm))) n
def jsz:DSp:=λws n Q=>∃(ps:Pg) (hs:List Hn) (ns:List Nt) (m:Nat) (r:List Hn×List Nt),ws=[.d (pgD ps),.d (stD hs ns),.d (.int m)]/\okSt ps hs ns/\m<=ps.length/\aftO ps hs ns m=some r/\Q (.d (stD r.1 r.2)) n
def jew:DSp:=jsz
def jeb:DSp:=λws n Q=>∃(ps:Pg) (hs:List Hn) (ns:List Nt) (h:Nat),ws=[.d (pgD ps),.d (stD hs ns),.d (.int h)]/\okHs ps hs/\h < ps.length/\Q (.d (acD (actO ps hs h))) n
def jmo:DSp:=λws n Q=>∃(ps:Pg) (hs:List Hn) (ns:List Nt) (h:Nat),ws=[.d (pgD ps),.d (stD hs ns),.d (.int h)]/\okSt ps hs ns/\h < ps.length/\Q (gotW (gotP ps hs ns h)) n
def jca:DSp:=λws n Q=>∃(ps:Pg) (hs:List Hn) (ns:List Nt) (h:Nat),ws=[.d (pgD ps),.d (stD hs ns),.d (.int h)]/\okSt ps hs ns/\h < ps.length/\Q (.d (.bool (canB ps hs ns h))) n
def joj:DSp:=λws n Q=>∃(fs:List Fd) (row:List Aa) (nm:Nm),ws=[.d (patD fs),.d (.tuple row),.d (jbb nm)]/\okP fs/\okR row/\okN nm/\Q (fitW fs row nm) n
def jpl:DSp:=λws n Q=>ws=[.tp]/\n < 2 ^ 39/\∀v∈jju,Q (.d v) (n+1)
def jg2:DSp:=λws n Q=>∃m:Nat,ws=[.tp,.d (.int m)]/\m<=12/\n+100 < 2 ^ 39/\∀(ns:List Nt) (n':Int),okNs m ns->n'<=n+100->Q (.d (nsD ns)) n'
def jod:DSp:=λws n Q=>ws=[.tp]/\n+4200 < 2 ^ 39/\∀(ps:Pg) (ns:List Nt) (n':Int),okPg ps->(∀P∈ps,fst0 P)->okNs 12 ns->n'<=n+4200->Q (.d (.tuple [pgD ps,nsD ns])) n'
def rdyL (ps:Pg) (hs:List Hn) (ns:List Nt):List Aa:=((A1 ps.length).filter (canB ps hs ns)).map λh=>.int (h:Nat)
abbrev Sd:=List Hn×List Nt
def sdD (s:Sd):Aa:=stD s.1 s.2
inductive Wov (ps:Pg):Sd->List Nat->Sd->Prop
 |nil {s:Sd}:Wov ps s [] s
 |cons {s t u:Sd} {m:Nat} {L:List Nat}:m<=ps.length->aftO ps s.1 s.2 m=some t->Wov ps t L u->Wov ps s (m::L) u
def intL (L:List Nat):List Aa:=L.map λi=>.int (i:Nat)
def jfr:DSpN:=λws n Q=>∃(ps:Pg) (hs:List Hn) (ns:List Nt),ws=[.d (pgD ps),.d (stD hs ns)]/\okSt ps hs ns/\Q (rdyL ps hs ns++[.int ps.length]) n
structure Wlk (ps:Pg) (s0:Sd) (L:List Nat) (S:List Sd):Prop where
 len:S.length=L.length+1
 fst:S[0]?=some s0
 ok:∀i s,S[i]?=some s->okHs ps s.1/\okNs (12+i) s.2
 st:∀i m,L[i]?=some m->m<=ps.length/\∃s t,S[i]?=some s/\S[i+1]?=some t/\aftO ps s.1 s.2 m=some t
def job:DSp:=λws n Q=>∃(ps:Pg) (s:Sd),ws=[.tp,.d (pgD ps),.d (sdD s),.d (.int 30)]/\okPg ps/\okHs ps s.1/\okNs 12 s.2/\n+62 < 2 ^ 39/\∀(L:List Nat) (S:List Sd) (n':Int),Wlk ps s L S->L.length<=30->n'<=n+62->Q (.d (.tuple [.list (intL L),.list (S.map sdD)])) n'
def hs0 (ps:Pg):List Hn:=ps.map λ_=>(0,0,[])
def jg4:DSp:=λws n Q=>∃(ps:Pg) (ns:List Nt),ws=[.d (.tuple [pgD ps,nsD ns])]/\ps.length<=5/\Q (.d (stD (hs0 ps) ns)) n
def gon (nu:List Nat) (ns:List Nt):List Nat:=((nu.zip ns).filter λp=>isI1 p.2.2).map (·.1)
def numN (nu:List Nat) (g:Option Nat):Option Nat:=g.bind (nu[·]?)
def numO (nu:List Nat) (g:Option Nat):Aa:=natD (numN nu g)
def rowA (ps:Pg) (s:Sd) (nu:List Nat) (fr m:Nat):Ac->Aa×List Nat×Nat
 |.lay fs age=>(.tuple [.str "lays",.int m,.int fr,ntD (filO fs (nmO s.1 m),age)],nu++[fr],fr+1)
 |.take _=>(.tuple [.str "takes",.int m,numO nu (gotO ps s.1 s.2 m)],nu.filter (λx=>!decide (some x=numN nu (gotO ps s.1 s.2 m))),fr)
 |.read _=>(.tuple [.str "reads",.int m,numO nu (gotO ps s.1 s.2 m)],nu,fr)
 |.look _ _=>(.tuple [.str "looks",.int m,numO nu (gotO ps s.1 s.2 m)],nu,fr)
 |.same _ _ _=>(.tuple [.str "goes",.int m],nu,fr)
 |.go _=>(.tuple [.str "goes",.int m],nu,fr)
def rowL (ps:Pg) (s:Sd) (nu:List Nat) (fr m:Nat):Aa×List Nat×Nat :=
 if m=ps.length then(.tuple [.str "clock",.tuple (intL (gon nu s.2))],nu.filter (λx=>!decide (x∈gon nu s.2)),fr)
 else match actO ps s.1 m with
  |some a=>rowA ps s nu fr m a
  |none=>(.none,nu,fr)
structure okNu (s:Sd) (nu:List Nat) (fr:Nat):Prop where
 nd:nu.Nodup
 len:nu.length=s.2.length
 lt:∀x∈nu,x < fr
inductive Lgs (ps:Pg):Sd->List Nat->Nat->List Nat->List Aa->Prop
 |nil {s:Sd} {nu:List Nat} {fr:Nat}:Lgs ps s nu fr [] []
 |cons {s t:Sd} {nu:List Nat} {fr m:Nat} {L:List Nat} {R:List Aa}:m<=ps.length->aftO ps s.1 s.2 m=some t->Lgs ps t (rowL ps s nu fr m).2.1 (rowL ps s nu fr m).2.2 L R->Lgs ps s nu fr (m::L) ((rowL ps s nu fr m).1::R)
structure okBd (ps:Pg) (s t:Sd) (nu:List Nat) (fr m:Nat):Prop where
 st:okSt ps s.1 s.2
 nu:okNu s nu fr
 le:m<=ps.length
 af:aftO ps s.1 s.2 m=some t
def jps:Aa->List Aa
 |.tuple (.str h::r)=>if h="clock" then(match r with | .tuple l::_=>l | _=>[])else if h="takes" then(r.drop 1).take 1 else[]
 |_=>[]
def okRw:Aa->Prop
 |.tuple (.str h::r)=>(h="clock"/\∃l,r=[.tuple l])\/(h="takes"/\∃a b,r=[a,b])\/(h≠"clock"/\h≠"takes")
 |_=>False
def jlj:DSp:=λws n Q=>∃row,ws=[.d row]/\okRw row/\Q (.d (.tuple (jps row))) n
def okPn (ps:Pg) (ns:List Nt) (L:List Nat) (R:List Aa):Prop:=okPg ps/\okHs ps (hs0 ps)/\okNs 12 ns/\L.length<=30/\Lgs ps (hs0 ps,ns) (A1 ns.length) ns.length L R
def jog:DSp:=λws n Q=>∃(ps:Pg) (s t:Sd) (nu:List Nat) (fr m:Nat),ws=[.d (pgD ps),.d (sdD s),.d (.list (intL nu)),.d (.int fr),.d (.int m)]/\okBd ps s t nu fr m/\Q (.d (.tuple [(rowL ps s nu fr m).1,.list (intL (rowL ps s nu fr m).2.1),.int (rowL ps s nu fr m).2.2])) n
def joi:DSp:=λws n Q=>∃(ps:Pg) (ns:List Nt) (L:List Nat) (R:List Aa),ws=[.d (.tuple [pgD ps,nsD ns]),.d (.list (intL L))]/\okPn ps ns L R/\Q (.d (.list R)) n
abbrev jli:DST:=(sSeq (sIf (cT (w2 (w2 (wVar 0) (wC (.int (0))) gIx) (wC (.str "clock")) gEq)) (sRet (w2 (wVar 0) (wC (.int (1))) gIx)) jap) (sRet (wIf (cT (w2 (w2 (wVar 0) (wC (.int (0))) gIx) (wC (.str "takes")) gEq)) (wTup (jaa (w2 (wVar 0) (wC (.int (2))) gIx) aNil)) (wTup aNil))))
abbrev je4:DST:=(sRet (w2 (wOf (fLst (jaa (wC (.str "a")) (jaa (wC (.int (0))) (jaa (wC (.str "a")) (jaa (wC (.int (1))) (jaa (wC (.str "ab")) (jaa (wC (.str "go")) (jaa (wC (.int (99))) (jaa (wC (.int (0))) aNil)))))))))) (jai jas (jaa (wVar 0) (jaa (wC (.int (8))) aNil))) gIx))
abbrev jgx:DST:=(sRet (w2 (wOf (fLst (jaa (wC (.int (1))) (jaa (wC (.int (2))) (jaa (wC (.int (2))) (jaa (wC (.int (2))) (jaa (wC (.int (1))) (jaa (wC (.int (3))) (jaa (wC (.int (4))) aNil))))))))) (jai jas (jaa (wVar 0) (jaa (wC (.int (7))) aNil))) gIx))
abbrev jie:DST:=(sRet (w2 (wTp3 0) (jai jas (jaa (wVar 0) (jaa (wB jbp (jaa (wTp3 0) aNil)) aNil))) gIxL))
abbrev jdf:DST:=(sSeq (sOwn 2 (fLst aNil)) (sSeq (sOwn 3 (fLst aNil)) (sSeq (sFor (jak (jai jg1 (jaa (wVar 0) aNil))) (jac 4) (sSeq (sSet 5 (jai jas (jaa (wVar 0) (jaa (wC (.int (9))) aNil)))) (sSeq (sSet 6 (w2 (wVar 1) (jbt 3) gCat)) (sIf (cT (w2 (wVar 5) (wC (.int (3))) gLt)) (sApp 2 (wTup (jaa (wC (.str "is")) (jaa (jai jec (jaa (wVar 0) aNil)) aNil)))) (sIf (cT (w2 (wVar 5) (wC (.int (6))) gLt)) (sApp 2 (w2 (wOf (fLst (jaa (wTup (jaa (wC (.str "any")) aNil)) (jaa (wTup (jaa (wC (.str "word")) aNil)) (jaa (wTup (jaa (wC (.str "number")) aNil)) aNil))))) (w2 (wVar 5) (wC (.int (3))) (gI0 λi j=>.int (i - j))) gIxL)) (sIf (cOr (cT (w2 (wVar 5) (wC (.int (8))) gLt)) (cT (w2 (wVar 6) (wOf (fLst aNil)) gEqL))) (sSeq (sSet 7 (w2 (wOf (fLst (jaa (wC (.str "n")) (jaa (wC (.str "nm")) (jaa (wC (.str "go")) (jaa (wC (.str "m")) aNil)))))) (jai jas (jaa (wVar 0) (jaa (wC (.int (4))) aNil))) gIxL)) (sSeq (sApp 3 (wVar 7)) (sApp 2 (wTup (jaa (wC (.str "bind")) (jaa (wVar 7) aNil)))))) (sApp 2 (wTup (jaa (wC (.str "as")) (jaa (w2 (wVar 6) (jai jas (jaa (wVar 0) (jaa (wB jbp (jaa (wVar 6) aNil)) aNil))) gIxL) aNil)))))))))) (sFrz 2 (sFrz 3 (sRet (wTup (jaa (wB jbi (jaa (wVar 2) aNil)) (jaa (wVar 3) aNil)))))))))
abbrev jcw:DST:=(sSeq (sOwn 2 (fLst aNil)) (sSeq (sFor (jak (jai jg1 (jaa (wVar 0) aNil))) (jac 3) (sSeq (sSet 4 (jai jas (jaa (wVar 0) (jaa (wC (.int (6))) aNil)))) (sIf (cOr (cT (w2 (wVar 4) (wC (.int (3))) gLt)) (cT (w2 (wVar 1) (wOf (fLst aNil)) gEqL))) (sApp 2 (wTup (jaa (wC (.str "is")) (jaa (jai jec (jaa (wVar 0) aNil)) aNil)))) (sApp 2 (wTup (jaa (w2 (wOf (fLst (jaa (wC (.str "as")) (jaa (wC (.str "as")) (jaa (wC (.str "next")) aNil))))) (w2 (wVar 4) (wC (.int (3))) (gI0 λi j=>.int (i - j))) gIxL) (jaa (w2 (wVar 1) (jai jas (jaa (wVar 0) (jaa (wB jbp (jaa (wVar 1) aNil)) aNil))) gIxL) aNil))))))) (sFrz 2 (sRet (wB jbi (jaa (wVar 2) aNil))))))
abbrev jgw:DST:=(sSeq (sIf (cOr (cT (w2 (wVar 1) (wOf (fLst aNil)) gEqL)) (cT (w2 (jai jas (jaa (wVar 0) (jaa (wC (.int (2))) aNil))) (wC (.int (0))) gEqL))) (sRet (wTup (jaa (wC (.str "is")) (jaa (jai jec (jaa (wVar 0) aNil)) aNil)))) jap) (sRet (wTup (jaa (wC (.str "as")) (jaa (w2 (wVar 1) (jai jas (jaa (wVar 0) (jaa (wB jbp (jaa (wVar 1) aNil)) aNil))) gIxL) aNil)))))
abbrev jif:DST:=(sSeq (sSet 3 (jai jas (jaa (wVar 0) (jaa (wC (.int (12))) aNil)))) (sSeq (sIf (cT (w2 (wVar 3) (wC (.int (4))) gLt)) (sRet (wTup (jaa (wTup (jaa (wC (.str "lay")) (jaa (jai jof (jaa (wVar 0) (jaa (wVar 1) aNil))) (jaa (jai jpl (jaa (wVar 0) aNil)) aNil)))) (jaa (wOf (fLst aNil)) aNil)))) jap) (sSeq (sSet 4 (w2 (wVar 2) (jai jas (jaa (wVar 0) (jaa (wB jbp (jaa (wVar 2) aNil)) aNil))) gIxL)) (sSeq (sIf (cT (w2 (wVar 3) (wC (.int (10))) gEqL)) (sRet (wTup (jaa (wTup (jaa (wC (.str "same")) (jaa (jai jg3 (jaa (wVar 0) (jaa (wVar 1) aNil))) (jaa (jai jg3 (jaa (wVar 0) (jaa (wVar 1) aNil))) (jaa (wVar 4) aNil))))) (jaa (wOf (fLst aNil)) aNil)))) jap) (sSeq (sIf (cT (w2 (wVar 3) (wC (.int (11))) gEqL)) (sRet (wTup (jaa (wTup (jaa (wC (.str "go")) (jaa (wVar 4) aNil))) (jaa (wOf (fLst aNil)) aNil)))) jap) (sSeq (sUnp (jai joh (jaa (wVar 0) (jaa (wVar 1) aNil))) (jbj 2 (jaj (jac 5) (jaj (jac 6) ja3)))) (sSeq (sIf (cT (w2 (wVar 3) (wC (.int (7))) gGt)) (sRet (wTup (jaa (wTup (jaa (wC (.str "look")) (jaa (wVar 5) (jaa (wVar 4) aNil)))) (jaa (wVar 6) aNil)))) jap) (sRet (wTup (jaa (wTup (jaa (w2 (wOf (fLst (jaa (wC (.str "take")) (jaa (wC (.str "take")) (jaa (wC (.str "take")) (jaa (wC (.str "read")) aNil)))))) (w2 (wVar 3) (wC (.int (4))) (gI0 λi j=>.int (i - j))) gIxL) (jaa (wVar 5) aNil))) (jaa (wVar 6) aNil)))))))))))
abbrev jde:DST:=(sSeq (sOwn 1 (fLst (jaa (wTup aNil) aNil))) (sSeq (sFor (jak (w2 (wOf (fLst (jaa (wC (.int (0))) (jaa (wC (.int (1))) (jaa (wC (.int (2))) (jaa (wC (.int (1))) (jaa (wC (.int (0))) (jaa (wC (.int (2))) (jaa (wC (.int (5))) aNil))))))))) (jai jas (jaa (wVar 0) (jaa (wC (.int (7))) aNil))) gIxL)) (jac 2) (sApp 1 (w2 (wOf (fLst (jaa (wTup aNil) (jaa (wTup (jaa (wC (.str "n")) aNil)) (jaa (wTup (jaa (wC (.str "go")) (jaa (wC (.str "n")) aNil))) (jaa (wTup (jaa (wC (.str "nm")) aNil)) (jaa (wTup aNil) aNil))))))) (jai jas (jaa (wVar 0) (jaa (wC (.int (5))) aNil))) gIxL))) (sSeq (sOwn 3 (fLst aNil)) (sFrz 1 (sSeq (sFor (jb5 (wVar 1)) (jac 4) (sSeq (sOwn 5 (jgl (wVar 4))) (sSeq (sOwn 6 (fLst aNil)) (sSeq (sFor (jak (w2 (wOf (fLst (jaa (wC (.int (2))) (jaa (wC (.int (3))) (jaa (wC (.int (1))) (jaa (wC (.int (4))) (jaa (wC (.int (2))) (jaa (wC (.int (0))) (jaa (wC (.int (3))) (jaa (wC (.int (8))) aNil)))))))))) (jai jas (jaa (wVar 0) (jaa (wC (.int (8))) aNil))) gIxL)) (jac 2) (sSeq (sSet 8 (wOf (ja0 [none,some 5,some 1] (jak (wB jbp (jaa (wVar 1) aNil))) (jac 0) (cT (w2 (wOf (ja0 [none,some 1] (jcl (w2 (wVar 2) (wVar 0) gIxL)) (jac 0) (cT (w2 (wVar 0) (wVar 1) (gInL true))) (wVar 0))) (wOf (fLst aNil)) gEqL)) (wVar 0)))) (sSeq (sUnp (jai jig (jaa (wVar 0) (jaa (jbt 5) (jaa (wVar 8) aNil)))) (jbj 2 (jaj (jac 9) (jaj (jac 10) ja3)))) (sSeq (sApp 6 (wVar 9)) (sFor (jb5 (wVar 10)) (jac 7) (sIf (cT (w2 (wVar 7) (jbt 5) (gInL true))) (sApp 5 (wVar 7)) jap)))))) (sFrz 6 (sApp 3 (wTup (jaa (wVar 4) (jaa (wB jbi (jaa (wVar 6) aNil)) aNil))))))))) (sFrz 3 (sRet (wB jbi (jaa (wVar 3) aNil)))))))))
abbrev je5:DST:=(sSeq (sOwn 2 (fLst aNil)) (sSeq (sFor (jak (jai jas (jaa (wVar 0) (jaa (w2 (wVar 1) (wC (.int (1))) (gI0 λi j=>.int (i+j))) aNil)))) (jac 3) (sSeq (sSet 4 (wB jbi (jaa (wOf (ja0 [none,some 0] (jak (jai jg1 (jaa (wVar 0) aNil))) (jac 0) cYes (jai jec (jaa (wVar 1) aNil)))) aNil))) (sApp 2 (wTup (jaa (wVar 4) (jaa (jai jpl (jaa (wVar 0) aNil)) aNil)))))) (sFrz 2 (sRet (wB jbi (jaa (wVar 2) aNil))))))
abbrev jgy:DST:=(sSeq (sOwn 1 (ja0 [none,some 0] (jak (w2 (wOf (fLst (jaa (wC (.int (2))) (jaa (wC (.int (1))) (jaa (wC (.int (2))) (jaa (wC (.int (3))) (jaa (wC (.int (2))) (jaa (wC (.int (1))) (jaa (wC (.int (0))) (jaa (wC (.int (5))) aNil)))))))))) (jai jas (jaa (wVar 0) (jaa (wC (.int (8))) aNil))) gIxL)) (jac 0) cYes (jai joc (jaa (wVar 1) aNil)))) (sSeq (sIf (cAnd (cT (w2 (wB jbp (jaa (jbt 1) aNil)) (wC (.int (2))) gEqL)) (cT (w2 (jai jas (jaa (wVar 0) (jaa (wC (.int (4))) aNil))) (wC (.int (0))) gEqL))) (sPut 1 (wC (.int (1))) (w2 (jbt 1) (wC (.int (0))) gIxL)) jap) (sFrz 1 (sRet (wTup (jaa (wB jbi (jaa (wVar 1) aNil)) (jaa (jai jg2 (jaa (wVar 0) (jaa (w2 (wOf (fLst (jaa (wC (.int (4))) (jaa (wC (.int (3))) (jaa (wC (.int (6))) (jaa (wC (.int (12))) aNil)))))) (jai jas (jaa (wVar 0) (jaa (wC (.int (4))) aNil))) gIxL) aNil))) aNil)))))))
abbrev jeu:DST:=(sSeq (sIf (cT (w2 (wB gLen (jaa (wVar 0) aNil)) (wB gLen (jaa (wVar 1) aNil)) gNe)) (sRet (wC .none)) jap) (sSeq (jqj 3 (jkr (wVar 2))) (sSeq (sOwn 4 (fLst aNil)) (sSeq (sFor (juf (wVar 0) (wVar 1)) (jbj 2 (jaj (jac 5) (jaj (jac 6) ja3))) (sSeq (sSet 7 (w2 (wVar 5) (wC (.int (0))) gIx)) (sSeq (sSet 8 (wC (.bool true))) (sSeq (sIf (cT (w2 (wVar 7) (wC (.str "is")) gEq)) (sSet 8 (w2 (w2 (wVar 5) (wC (.int (1))) gIx) (wVar 6) gEq)) (sIf (cT (w2 (wVar 7) (wTup (jaa (wC (.str "word")) (jaa (wC (.str "number")) aNil))) (gIn false))) (sSet 8 (w2 (wIsi "str" (wVar 6)) (w2 (wVar 7) (wC (.str "word")) gEq) gEq)) (sIf (cOr (cT (w2 (wVar 7) (wC (.str "as")) gEq)) (cAnd (cT (w2 (wVar 7) (wC (.str "bind")) gEq)) (cT (jht 4 (w2 (wVar 5) (wC (.int (1))) gIx))))) (sSet 8 (wAnd (w2 (w2 (wVar 5) (wC (.int (1))) gIx) (jee 3) (gDIn false)) (w2 (w2 (jee 3) (w2 (wVar 5) (wC (.int (1))) gIx) jfg) (wVar 6) gEq))) (sIf (cT (w2 (wVar 7) (wC (.str "bind")) gEq)) (sSeq (jtj 3 (w2 (wVar 5) (wC (.int (1))) gIx) (wVar 6)) (sApp 4 (w2 (wVar 5) (wC (.int (1))) gIx))) jap)))) (sIf (cNot (cT (wVar 8))) (sRet (wC .none)) jap))))) (sFrz 3 (sRet (wVar 3)))))))
abbrev jcx:DST:=(sSeq (sUnp (w2 (w2 (wVar 1) (wC (.int (0))) gIx) (wVar 2) gIx) (jbj 3 (jaj (jac 3) (jaj (jac 4) (jaj (jac 5) ja3))))) (sSeq (sSet 6 (w2 (w2 (w2 (wVar 0) (wVar 2) gIx) (wVar 3) gIx) (wC (.int (1))) gIx)) (sRet (wIf (cT (w2 (wVar 4) (wB gLen (jaa (wVar 6) aNil)) gLt)) (w2 (wVar 6) (wVar 4) gIx) (wC .none)))))
abbrev jic:DST:=(sSeq (sSet 3 (jai jeb (jaa (wVar 0) (jaa (wVar 1) (jaa (wVar 2) aNil))))) (sSeq (sIf (cOr (cT (w2 (wVar 3) (wC .none) (gIsO false))) (cT (w2 (w2 (wVar 3) (wC (.int (0))) gIx) (wTup (jaa (wC (.str "take")) (jaa (wC (.str "read")) (jaa (wC (.str "look")) aNil)))) (gIn true)))) (sRet (wC .none)) jap) (sSeq (sFor (jak (wB gLen (jaa (w2 (wVar 1) (wC (.int (1))) gIx) aNil))) (jac 4) (sSeq (sSet 5 (jai joj (jaa (w2 (wVar 3) (wC (.int (1))) gIx) (jaa (w2 (w2 (w2 (wVar 1) (wC (.int (1))) gIx) (wVar 4) gIx) (wC (.int (0))) gIx) (jaa (w2 (w2 (w2 (wVar 1) (wC (.int (0))) gIx) (wVar 2) gIx) (wC (.int (2))) gIx) aNil))))) (sIf (cT (w2 (wVar 5) (wC .none) (gIsO true))) (sRet (jpt (wVar 4) (wVar 5))) jap))) (sRet (wC .none)))))
abbrev jid:DST:=(sSeq (sSet 3 (jai jeb (jaa (wVar 0) (jaa (wVar 1) (jaa (wVar 2) aNil))))) (sSeq (sIf (cT (w2 (wVar 3) (wC .none) (gIsO false))) (sRet (wC (.bool false))) jap) (sRet (wOr (w2 (w2 (wVar 3) (wC (.int (0))) gIx) (wTup (jaa (wC (.str "take")) (jaa (wC (.str "read")) aNil))) (gIn true)) (w2 (jai jmo (jaa (wVar 0) (jaa (wVar 1) (jaa (wVar 2) aNil)))) (wC .none) (gIsO true))))))
abbrev jea:DST:=(sSeq (sOwn 2 (fLst aNil)) (sSeq (sFor (jcl (wVar 0)) (jbj 2 (jaj (jac 3) (jaj (jac 4) ja3))) (sSeq (sSet 5 (wIf (cT (w2 (wVar 3) (wC (.str "is")) gEq)) (wVar 4) (w2 (jee 1) (wVar 4) jfg))) (sSeq (sIf (cAnd (cT (w2 (wVar 3) (wC (.str "next")) gEq)) (cNot (cT (wIsi "str" (wVar 5))))) (sSet 5 (w2 (w2 (wVar 5) (wC (.int (1))) (gI0 λi j=>.int (i+j))) (wC (.int (100))) (gI (λ_ j=>0 < j) λi j=>.int (i % j)))) jap) (sApp 2 (wVar 5))))) (sFrz 2 (sRet (wB jb8 (jaa (wVar 2) aNil))))))
abbrev jcv:DST:=(sSeq (jqj 3 (jkr (wVar 1))) (sRet (wTup (jaa (wVar 2) (jaa (wC (.int (0))) (jaa (wB jb8 (jaa (wOf (ja0 [none,some 3] (jcl (w2 (w2 (wVar 0) (wVar 2) gIx) (wC (.int (0))) gIx)) (jac 0) cYes (wTup (jaa (wVar 0) (jaa (w2 (jee 1) (wVar 0) jfg) aNil))))) aNil)) aNil))))))
abbrev jdg:DST:=(sRet (wIf (cT (w2 (w2 (wVar 0) (wC (.int (0))) gIx) (wC (.str "is")) gEq)) (w2 (wVar 0) (wC (.int (1))) gIx) (w2 (jez (wVar 1)) (w2 (wVar 0) (wC (.int (1))) gIx) jfg)))
abbrev jgz:DST:=(sSeq (sUnp (wVar 1) (jbj 2 (jaj (jac 3) (jaj (jac 4) ja3)))) (sSeq (sIf (cT (w2 (wVar 2) (wB gLen (jaa (wVar 0) aNil)) gEq)) (sRet (wTup (jaa (wVar 3) (jaa (wB jb8 (jaa (wOf (ja0 [none,none] (jcl (wVar 4)) (jbj 2 (jaj (jac 0) (jaj (jac 1) ja3))) (cT (w2 (wVar 1) (wC (.int (1))) gNe)) (wTup (jaa (wVar 0) (jaa (wIf (cT (w2 (wVar 1) (wC .none) (gIsO false))) (wC .none) (w2 (wVar 1) (wC (.int (1))) (gI0 λi j=>.int (i - j)))) aNil))))) aNil)) aNil)))) jap) (sSeq (sSet 5 (jai jeb (jaa (wVar 0) (jaa (wVar 1) (jaa (wVar 2) aNil))))) (sSeq (sUnp (w2 (wVar 3) (wVar 2) gIxO) (jbj 3 (jaj (jac 6) (jaj (jac 7) (jaj (jac 8) ja3))))) (sSeq (sSet 9 (jai jmo (jaa (wVar 0) (jaa (wVar 1) (jaa (wVar 2) aNil))))) (sSeq (sSet 10 (wTup (jaa (wVar 6) (jaa (w2 (wVar 7) (wC (.int (1))) (gI0 λi j=>.int (i+j))) (jaa (wVar 8) aNil))))) (sSeq (sIf (cT (w2 (w2 (wVar 5) (wC (.int (0))) gIxO) (wC (.str "lay")) gEq)) (sSet 4 (w2 (wVar 4) (wTup (jaa (wTup (jaa (jai jcy (jaa (w2 (wVar 5) (wC (.int (1))) gIxO) (jaa (jez (wVar 8)) aNil))) (jaa (w2 (wVar 5) (wC (.int (2))) gIxO) aNil))) aNil)) jdn)) (sIf (cT (w2 (w2 (wVar 5) (wC (.int (0))) gIxO) (wC (.str "go")) gEq)) (sSet 10 (jai je7 (jaa (w2 (wVar 0) (wVar 2) gIxO) (jaa (wVar 8) (jaa (w2 (wVar 5) (wC (.int (1))) gIxO) aNil))))) (sIf (cT (w2 (w2 (wVar 5) (wC (.int (0))) gIxO) (wC (.str "same")) gEq)) (sIf (cT (w2 (jai jsy (jaa (w2 (wVar 5) (wC (.int (1))) gIxO) (jaa (wVar 8) aNil))) (jai jsy (jaa (w2 (wVar 5) (wC (.int (2))) gIxO) (jaa (wVar 8) aNil))) gNe)) (sSet 10 (jai je7 (jaa (w2 (wVar 0) (wVar 2) gIxO) (jaa (wVar 8) (jaa (w2 (wVar 5) (wC (.int (3))) gIxO) aNil))))) jap) (sIf (cT (w2 (wVar 9) (wC .none) (gIsO false))) (sSet 10 (jai je7 (jaa (w2 (wVar 0) (wVar 2) gIxO) (jaa (wVar 8) (jaa (w2 (wVar 5) (wC (.int (2))) gIxO) aNil))))) (sSeq (sSet 10 (wTup (jaa (wVar 6) (jaa (w2 (wVar 7) (wC (.int (1))) (gI0 λi j=>.int (i+j))) (jaa (wB jb8 (jaa (wOf (jc6 (w2 (wVar 9) (wC (.int (1))) gIxO))) aNil)) aNil))))) (sIf (cT (w2 (w2 (wVar 5) (wC (.int (0))) gIxO) (wC (.str "take")) gEq)) (sSet 4 (w2 (jbm (wVar 4) jbv (jbg (w2 (wVar 9) (wC (.int (0))) gIxO))) (jbm (wVar 4) (jbg (w2 (w2 (wVar 9) (wC (.int (0))) gIxO) (wC (.int (1))) (gI0 λi j=>.int (i+j)))) jbv) jdn)) jap)))))) (sRet (wTup (jaa (w2 (w2 (jbm (wVar 3) jbv (jbg (wVar 2))) (wTup (jaa (wVar 10) aNil)) jdn) (jbm (wVar 3) (jbg (w2 (wVar 2) (wC (.int (1))) (gI0 λi j=>.int (i+j)))) jbv) jdn) (jaa (wVar 4) aNil)))))))))))
abbrev jd9:DST:=(jiv (fCat (wOf (ja0 [none,some 0,some 1] (jak (wB gLen (jaa (wVar 0) aNil))) (jac 0) (cT (jai jca (jaa (wVar 1) (jaa (wVar 2) (jaa (wVar 0) aNil))))) (wVar 0))) (wOf (fLst (jaa (wB gLen (jaa (wVar 0) aNil)) aNil)))))
abbrev jgv:DST:=(sSeq (sOwn 4 (fLst aNil)) (sSeq (sOwn 5 (fLst (jaa (wVar 2) aNil))) (sSeq (sFor (jak (jai jas (jaa (wVar 0) (jaa (w2 (wVar 3) (wC (.int (1))) (gI0 λi j=>.int (i+j))) aNil)))) (jac 6) (sSeq (sSet 7 (wOf (jck jfr (jaa (wVar 1) (jaa (w2 (jbt 5) (wNeg (wC (.int (1)))) gIxL) aNil))))) (sSeq (sIf (cAnd (cT (w2 (wB jbp (jaa (wVar 7) aNil)) (wC (.int (1))) gGt)) (cT (w2 (jai jas (jaa (wVar 0) (jaa (wC (.int (5))) aNil))) (wC (.int (0))) gGt))) (sSet 7 (jcb (wVar 7) jbv (jbg (wNeg (wC (.int (1))))))) jap) (sSeq (sApp 4 (w2 (wVar 7) (jai jas (jaa (wVar 0) (jaa (wB jbp (jaa (wVar 7) aNil)) aNil))) gIxL)) (sApp 5 (jai jew (jaa (wVar 1) (jaa (w2 (jbt 5) (wNeg (wC (.int (1)))) gIxL) (jaa (w2 (jbt 4) (wNeg (wC (.int (1)))) gIxL) aNil))))))))) (sFrz 5 (sFrz 4 (sRet (wTup (jaa (wVar 4) (jaa (wVar 5) aNil)))))))))
abbrev je6:DST:=(sRet (wTup (jaa (wB jb8 (jaa (wOf (ja0 [none] (jcl (w2 (wVar 0) (wC (.int (0))) gIx)) (jac 0) cYes (wTup (jaa (wC (.int (0))) (jaa (wC (.int (0))) (jaa (wTup aNil) aNil)))))) aNil)) (jaa (w2 (wVar 0) (wC (.int (1))) gIx) aNil))))
abbrev jia:DST:=(sSeq (sIf (cT (w2 (wVar 4) (wB gLen (jaa (wVar 0) aNil)) gEq)) (sSeq (sSet 5 (wOf (ja0 [none,some 2,some 1] (jak (wB gLen (jaa (wVar 2) aNil))) (jac 0) (cT (w2 (w2 (w2 (w2 (wVar 2) (wC (.int (1))) gIxO) (wVar 0) gIxO) (wC (.int (1))) gIxO) (wC (.int (1))) gEq)) (w2 (wVar 1) (wVar 0) gIxO)))) (sRet (wTup (jaa (wTup (jaa (wC (.str "clock")) (jaa (wB jb8 (jaa (wVar 5) aNil)) aNil))) (jaa (wOf (ja0 [none,some 5] (jb5 (wVar 2)) (jac 0) (cT (w2 (wVar 0) (wVar 1) (gIn true))) (wVar 0))) (jaa (wVar 3) aNil)))))) jap) (sSeq (sSet 7 (jai jeb (jaa (wVar 0) (jaa (wVar 1) (jaa (wVar 4) aNil))))) (sSeq (sIf (cT (w2 (w2 (wVar 7) (wC (.int (0))) gIxO) (wC (.str "lay")) gEq)) (sSeq (sSet 8 (wTup (jaa (jai jcy (jaa (w2 (wVar 7) (wC (.int (1))) gIxO) (jaa (jez (w2 (w2 (w2 (wVar 1) (wC (.int (0))) gIxO) (wVar 4) gIxO) (wC (.int (2))) gIxO)) aNil))) (jaa (w2 (wVar 7) (wC (.int (2))) gIxO) aNil)))) (sRet (wTup (jaa (wTup (jaa (wC (.str "lays")) (jaa (wVar 4) (jaa (wVar 3) (jaa (wVar 8) aNil))))) (jaa (w2 (wVar 2) (wOf (fLst (jaa (wVar 3) aNil))) gCat) (jaa (w2 (wVar 3) (wC (.int (1))) (gI0 λi j=>.int (i+j))) aNil)))))) jap) (sSeq (sIf (cT (w2 (w2 (wVar 7) (wC (.int (0))) gIxO) (wTup (jaa (wC (.str "same")) (jaa (wC (.str "go")) aNil))) (gIn false))) (sRet (wTup (jaa (wTup (jaa (wC (.str "goes")) (jaa (wVar 4) aNil))) (jaa (wVar 2) (jaa (wVar 3) aNil))))) jap) (sSeq (sSet 9 (jai jmo (jaa (wVar 0) (jaa (wVar 1) (jaa (wVar 4) aNil))))) (sSeq (sSet 6 (wIf (cT (w2 (wVar 9) (wC .none) (gIsO false))) (wC .none) (w2 (wVar 2) (w2 (wVar 9) (wC (.int (0))) gIxO) gIxO))) (sSeq (sIf (cT (w2 (w2 (wVar 7) (wC (.int (0))) gIxO) (wC (.str "take")) gEq)) (sSet 2 (wOf (ja0 [none,some 6] (jb5 (wVar 2)) (jac 0) (cT (w2 (wVar 0) (wVar 1) gNe)) (wVar 0)))) jap) (sRet (wTup (jaa (wTup (jaa (w2 (w2 (wVar 7) (wC (.int (0))) gIxO) (wC (.str "s")) gAdd) (jaa (wVar 4) (jaa (wVar 6) aNil)))) (jaa (wVar 2) (jaa (wVar 3) aNil))))))))))))
abbrev jib:DST:=(sSeq (sUnp (wVar 0) (jbj 2 (jaj (jac 2) (jaj (jac 3) ja3)))) (sSeq (sSet 4 (jai jg4 (jaa (wVar 0) aNil))) (sSeq (sSet 5 (wOf (jr6 (wB gLen (jaa (wVar 3) aNil))))) (sSeq (sSet 6 (wB gLen (jaa (wVar 3) aNil))) (sSeq (sOwn 7 (fLst aNil)) (sSeq (sFor (jb5 (wVar 1)) (jac 8) (sSeq (sUnp (jai jog (jaa (wVar 2) (jaa (wVar 4) (jaa (wVar 5) (jaa (wVar 6) (jaa (wVar 8) aNil)))))) (jbj 3 (jaj (jac 9) (jaj (jac 5) (jaj (jac 6) ja3))))) (sSeq (sApp 7 (wVar 9)) (sSet 4 (jai jew (jaa (wVar 2) (jaa (wVar 4) (jaa (wVar 8) aNil)))))))) (sFrz 7 (sRet (wVar 7)))))))))
theorem j2j {p:Prop} [Decidable p] {A B:Prop} (h1:p->A) (h2:¬p->B):if decide p=true then A else B:=by
 by_cases z:p
 ·rw[if_pos (decide_eq_true z)];exact h1 z
 ·rw[if_neg (by rw[decide_eq_false z];exact Ae)];exact h2 z
theorem jfp:∀ps:Nm,jf0 (ps.map jtv)=some (txK ps)
 |[]=>rfl
 |p::r=>by
  show(jf0 (r.map jtv)).map _=_;rw[jfp r];rfl
theorem jxc {l:Nm} {x:Str} {v:Aa} (h:x∉l.map (·.1)):put l x v=l++[(x,v)]:=by
 unfold put;rw[if_neg λz=>by
  obtain⟨p,hp,e⟩:=Fg.mp z;exact h (Bf.mpr ⟨p,hp,of_decide_eq_true e⟩)]
theorem jfq:∀(r l:Nm),((l++r).map (·.1)).Nodup->jh4 (txK l) (txK r)=txK (l++r)
 |[],l,_=>by rw[Bo];rfl
 |p::r,l,nd=>by
  have e:l++p::r=(l++[p])++r:=by simp
  show jh4 (putD (txK l) (.inr p.1) p.2) (txK r)=_;rw[jvv,jxc,e]
  ·exact jfq r (l++[p]) (by rw[<-e];exact nd)
  ·intro z;rw[Bb,Be,List.nodup_append]at nd;exact nd.2.2 _ z _ Ay rfl
theorem jni {δ:Sl} {n:Int} {K:DEnds} {i j:Nat} {ps:Nm} (e:δ[j]?=some (some (.w (.d (jbb ps))))) (ok:okN ps) (k:K.nx (δ.set i (some (.odk (txK ps)))) n):jqj i (jkr (wVar j)) δ n K:=by
 unfold jqj jkr;refine jab e ?_;unfold jbb;simp only[jfp];refine⟨by rw[Ab];have:=ok.1;omega,?_⟩;have:=jfq ps [] (by rw[Bi];exact ok.2.1);rw[Bi]at this;rw[show([]:List (Key×Aa))=txK []from rfl,this];exact k
section
variable {δ:Sl} {n:Int} {K:DEnds} {W V:DST} {Q:DQ}
theorem jya {i j n:Int} {Q:DQ} (k:Q (.d (.bool (!decide (i=j)))) n):gNe (.d (.int i)) (.d (.int j)) n Q:=k
theorem j1y {xs ys:List Aa} (e0:δ[0]?=some (some (.w (.d (.tuple xs))))) (e1:δ[1]?=some (some (.w (.d (.tuple ys))))) (hT:xs.length≠ys.length->W δ n K) (hF:xs.length=ys.length->V δ n K) :
  sIf (cT (w2 (wB gLen (jaa (wVar 0) aNil)) (wB gLen (jaa (wVar 1) aNil)) gNe)) W V δ n K:=by
 unfold sIf cT w2 wB jaa aNil;refine jab e0 ?_;show wVar 1 δ n _;refine jab e1 ?_;dsimp only[gLen];refine jya ?_;refine ifb (λh=>hT λz=>?_) λh=>hF ?_
 ·rw[z,decide_eq_true rfl]at h;cases h
 ·by_cases z:(xs.length:Int)=(ys.length:Int)
  ·exact Int.ofNat.inj z
  ·rw[decide_eq_false z]at h;cases h
variable {xs:List Aa} {j:Nat} {a b v:Aa} {r:List Aa}
end
def Fd.hd:Fd->Str
 |.is _=>"is"
 |.any=>"any"
 |.word=>"word"
 |.number=>"number"
 |.bind _=>"bind"
 |.as _=>"as"
def Fd.tl:Fd->List Aa
 |.is v=>[v]
 |.bind x=>[.str x]
 |.as x=>[.str x]
 |_=>[]
theorem Fd.parts (g:Fd):g.d=.tuple (.str g.hd::g.tl):=by cases g<;>rfl
theorem jgf (x:Str):∀hs:List Str,inD (.str x) (hs.map .str)=decide (x∈hs)
 |[]=>by simp[inD]
 |y::r=>by
  show(eqF (.str y) (.str x) || inD (.str x) (r.map .str))=_;rw[jgf x r];have e:eqF (.str y) (.str x)=decide (x=y):=by
   show(y==x)=_;by_cases z:x=y
   ·subst z;rw[decide_eq_true rfl];exact beq_self_eq_true _
   ·rw[decide_eq_false z];exact beq_eq_false_iff_ne.mpr λw=>z w.symm
  rw[e];by_cases z:x=y
  ·subst z;simp
  ·rw[decide_eq_false z,Bool.false_or];by_cases q:x∈r
   ·rw[decide_eq_true q,decide_eq_true (Az _ q)]
   ·rw[decide_eq_false q,decide_eq_false (by simp[z,q])]
theorem jt7 {hp:Nm} (nd:(hp.map (·.1)).Nodup) {p:Str×Aa} (h:p∈hp):look hp p.1=some p.2:=by
 cases q:look hp p.1 with
 |none =>
  have a:=jnr hp p.1;rw[q]at a;have b:(hp.any λq=>decide (q.1=p.1))=true:=Fg.mpr ⟨p,h,decide_eq_true rfl⟩;rw[b]at a;cases a
 |some v =>
  have hm:=jf7 q;obtain⟨i,hi⟩:=Cp.mp h;obtain⟨j,hj⟩:=Cp.mp hm;have a1:(hp.map (·.1))[i]?=some p.1:=by rw[A0,hi];rfl
  have a2:(hp.map (·.1))[j]?=some p.1:=by rw[A0,hj];rfl
  obtain⟨b1,b2⟩:=Aq.mp a1;obtain⟨c1,c2⟩:=Aq.mp a2;have:=(Ff nd).mp (b2.trans c2.symm);rw[this,hj]at hi;have:=A6 hi;rw[<-this]
theorem jyc {δ:Sl} {n:Int} {K:DEnds} {g:DTG} {W:DST} {xs ys:List Aa} (e0:δ[0]?=some (some (.w (.d (.tuple xs))))) (e1:δ[1]?=some (some (.w (.d (.tuple ys))))) (hl:xs.length=ys.length) (k:forD g W K (zipD xs ys) δ n):sFor (juf (wVar 0) (wVar 1)) g W δ n K:=by
 unfold sFor juf;exact jab e0 (jab e1 ⟨hl,k⟩)
theorem jhh:∀ws n Q,jec ws n Q->ws.length=1:=λws n Q h=>by obtain⟨rfl,_⟩:=h;rfl
abbrev Zc:List Str:=["_law_tape_here"]
theorem jgq:∀ws n Q,jec ws n Q->je4 (jat Zc ws) n {nx:=λ_ n=>Q (.d .none) n,rt:=Q}:=λws n Q h=>by
 obtain⟨rfl,hn,k⟩:=h;show je4 [some (.w .tp)] n _;refine ja2 (w2_i (of_i (Aj (by decide) ?_)));dsimp only;refine jdd (m:=8) rfl (by omega) (by decide) (by decide) λr h0 h1=>jrs (ds:=[.str "a",.int 0,.str "a",.int 1,.str "ab",.str "go",.int 99,.int 0]) h0 h1 λd hd=>k d ?_;simp only[Ar,Ax,or_false]at hd;rcases hd with rfl | rfl | rfl | rfl | rfl | rfl | rfl | rfl<;>simp[js5]
theorem ji6:∀ws n Q,jg1 ws n Q->ws.length=1:=λws n Q h=>by obtain⟨rfl,_⟩:=h;rfl
theorem jho:∀ws n Q,jg1 ws n Q->jgx (jat Zc ws) n {nx:=λ_ n=>Q (.d .none) n,rt:=Q}:=λws n Q h=>by
 obtain⟨rfl,hn,k⟩:=h;show jgx [some (.w .tp)] n _;refine ja2 (w2_i (of_i (Aj (by decide) ?_)));dsimp only;refine jdd (m:=7) rfl (by omega) (by decide) (by decide) λr h0 h1=>jrs (ds:=[.int 1,.int 2,.int 2,.int 2,.int 1,.int 3,.int 4]) h0 h1 λd hd=>?_;simp only[Ar,Ax,or_false]at hd;rcases hd with rfl | rfl | rfl | rfl | rfl | rfl | rfl
 ·exact k 1 (by decide) (by decide)
 ·exact k 2 (by decide) (by decide)
 ·exact k 2 (by decide) (by decide)
 ·exact k 2 (by decide) (by decide)
 ·exact k 1 (by decide) (by decide)
 ·exact k 3 (by decide) (by decide)
 ·exact k 4 (by decide) (by decide)
theorem jz9 {δ:Sl} {n:Int} {K:DEnds} {W:DST} {g:DTG} (e:δ[0]?=some (some (.w .tp))) (hn:n < 2 ^ 39) (k:∀m:Nat,1<=m->m<=4->forD g W K (rngD 0 m) δ (n+1)):sFor (jak (jai jg1 (jaa (wVar 0) aNil))) g W δ n K:=by
 unfold sFor jak;refine c1_i (jab e (Aj rfl ⟨hn,λm h1 h4=>?_⟩));refine Aj ⟨by omega,by omega⟩ ?_;rw[Bp];exact k m h1 h4
theorem jtz {fs:List Fe} (h:okFs fs):∀k∈bndE fs,okK k:=λk hk=>by
 obtain⟨f,hf,e⟩:=Fs.mp hk;have:=h.2 f hf;cases f<;>cases e;exact this
theorem jxy {fs:List Fe} (h:okFs fs):(bndE fs).length<=4:=A4 (List.length_filterMap_le _ _) h.1
theorem j22 {a:Ac} (h:okFs a.fs):(∀k∈a.bs,okK k)/\a.bs.length<=4:=by
 cases a with
 |take fs=>exact⟨jtz h,jxy h⟩
 |read fs=>exact⟨jtz h,jxy h⟩
 |look fs b=>exact⟨jtz h,jxy h⟩
 |lay fs b=>exact⟨λk hk=>by simp[Ac.bs]at hk,by simp[Ac.bs]⟩
 |same f g b=>exact⟨λk hk=>by simp[Ac.bs]at hk,by simp[Ac.bs]⟩
 |go b=>exact⟨λk hk=>by simp[Ac.bs]at hk,by simp[Ac.bs]⟩
theorem jkf:∀{ys ks:List Str},ys.Nodup->(∀k∈ys,k∈ks)->ys.length<=ks.length
 |[],_,_,_=>Bn _
 |y::ys,ks,h,hs=>by
  obtain⟨h1,h2⟩:=Cs.mp h;have hm:=hs y Ay;have:=jkf (ks:=ks.erase y) h2 λk hk=>(List.mem_erase_of_ne (λ(e:k=y)=>h1 (e▸hk))).mpr (hs k (Az _ hk));rw[List.length_erase_of_mem hm]at this;have:=List.length_pos_of_mem hm;rw[Ao];omega
theorem jmy {v:Aa} (h:v∈js5):isV v=true:=by
 simp only[js5,Ar,Ax,or_false]at h;rcases h with rfl | rfl | rfl | rfl | rfl | rfl<;>decide +kernel
theorem j5c {v:Wv} {a b:List Aa} {n:Int} {Q:DQ} (hv:lsOf v=some a) (hl:a.length+b.length<=Ap) (q:Q (.d (.list (a++b))) n):gCat v (.ln b) n Q:=by
 unfold gCat;rw[hv];exact⟨hl,q⟩
theorem j5f {δ:Sl} {n:Int} {Q:DQ} (e0:δ[0]?=some (some (.w .tp))) (h:n < 2 ^ 39) (k:∀v∈jju,Q (.d v) (n+1)):w2 (wTp3 0) (jai jas (jaa (wVar 0) (jaa (wB jbp (jaa (wTp3 0) aNil)) aNil))) gIxL δ n Q:=by
 have ht:∀(n:Int) (Q:DQ),Q (.ln jju) n->wTp3 0 δ n Q:=λn Q q=>by unfold wTp3;rw[e0];exact q
 exact w2_i (ht _ _ (jdc (m:=7) e0 (λQ q=>b1_i (ht _ _ q)) (by omega) (by decide) (by decide) λr h0 h1=>jmc h0 h1 k))
theorem ju4 (f:Fe) (r:List Fe):bndE (f::r)=f.bd.toList++bndE r:=by cases f<;>rfl
theorem ju3 (fs:List Fe) (f:Fe):bndE (fs++[f])=bndE fs++f.bd.toList:=by
 unfold bndE;rw[List.filterMap_append];cases f<;>rfl
theorem jl4:∀{fs:List Fe} {ks:List Str} {f:Fe},rF ks fs->(∀k,f.us=some k->k∈ks++bndE fs)->rF ks (fs++[f])
 |[],ks,f,_,h=>⟨λk hk=>by simpa[bndE]using h k hk,trivial⟩
 |g::r,ks,f,h1,h2=>⟨h1.1,jl4 h1.2 λk hk=>by
  have:=h2 k hk;rw[ju4,<-Bk]at this;exact this⟩
theorem ji3 {f:Aa} {ks:List Str} (h:f∈ks.map .str):∃s∈ks,f=.str s:=by
 obtain⟨s,hs,rfl⟩:=Bf.mp h;exact⟨s,hs,rfl⟩
def PatI (kv:Wv) (ks:List Str) (n0:Int) (ds:List Aa) (δ:Sl) (n:Int):Prop:=∃(fs:List Fe) (x y z u:Option SV),δ=[some (.w .tp),some (.w kv),some (.own (fs.map Fe.d)),some (.own ((bndE fs).map .str)),x,y,z,u]/\1<=fs.length+ds.length/\fs.length+ds.length<=4/\(∀f∈fs,f.ok/\f.pt=true)/\rF ks fs/\n+2*(ds.length:Int)<=n0+9
theorem jfd:∀ws n Q,joh ws n Q->ws.length=2:=λws n Q h=>by obtain⟨_,_,rfl,_⟩:=h;rfl
theorem jes:∀ws n Q,joh ws n Q->jdf (jat ["_law_tape_here","_law_known","_law_fields","_law_bound","_law_k","_law_way","_law_some","_law_name"] ws) n {nx:=λ_ n=>Q (.d .none) n,rt:=Q}:=λws n0 Q h=>by
 obtain⟨ks,kv,rfl,hkv,hks,hok,hn0,k⟩:=h;show jdf [some (.w .tp),some (.w kv),none,none,none,none,none,none] n0 _;refine jae (jb3 ?_);dsimp only[An];refine jae (jb3 ?_);dsimp only[An];refine jae (jz9 rfl (by omega) λm h1 h4=>?_);refine jaz (PatI kv ks n0) (λδ n I=>?_) (λd r δ n N I kN=>?_) _ _ _ ⟨[],none,none,none,none,rfl,by rw[ja4];simpa using h1,by rw[ja4];simpa using h4,λf hf=>(by simp at hf),trivial,by rw[ja4];omega⟩
 ·obtain⟨fs,x,y,z,u,rfl,hf1,hf,hfo,hr,hn⟩:=I;dsimp only;refine jd3 rfl ?_;dsimp only[An];refine jd3 rfl ?_;dsimp only[An];exact ja2 (ja8 (b1_i (jab rfl (je0 (jab rfl (Aj (show 2<=1000 by decide) (k fs n (by simpa using hf1) ⟨by simpa using hf,λf z=>(hfo f z).1⟩ (λf z=>(hfo f z).2) hr (by simpa using hn))))))))
 ·obtain⟨fs,x,y,z,u,rfl,hf1,hf,hfo,hr,hn⟩:=I;rw[Ao]at hf1 hf hn;dsimp only[jac,An];have hfl:(fs.map Fe.d).length < 1000000:=by rw[Ab];omega
  have hbl:(bndE fs).length<=4:=A4 (List.length_filterMap_le _ _) (by omega);have hbo:∀s∈ks++bndE fs,okK s:=λs hs=>(Bd.mp hs).elim (hok s) λz=>jtz (fs:=fs) ⟨by omega,λf z=>(hfo f z).1⟩ s z;have nxt:∀(f:Fe) (n':Int) (y z u:Option SV) (B:List Aa),f.ok/\f.pt=true->(∀k,f.us=some k->k∈ks++bndE fs)->n'<=n+2->B=(bndE fs).map .str++f.bd.toList.map .str->N [some (.w .tp),some (.w kv),some (.own (fs.map Fe.d++[f.d])),some (.own B),some (.w (.d d)),y,z,u] n':=λf n' y z u B fo fu hn' hB =>
   kN _ _ ⟨fs++[f],some (.w (.d d)),y,z,u,by rw[hB,Bb,ju3,Bb];rfl,by rw[Ak,As];omega,by rw[Ak,As];omega,λg hg=>(Bd.mp hg).elim (hfo g) λz=>by rw[Bh]at z;subst z;exact fo,jl4 hr fu,by omega⟩
  have nxtN:∀(f:Fe) (n':Int) (y z u:Option SV),f.bd=none->f.ok/\f.pt=true->(∀k,f.us=some k->k∈ks++bndE fs)->n'<=n+2->N [some (.w .tp),some (.w kv),some (.own (fs.map Fe.d++[f.d])),some (.own ((bndE fs).map .str)),some (.w (.d d)),y,z,u] n':=λf n' y z u fb fo fu hn' =>
   nxt f n' y z u _ fo fu hn' (by rw[fb];exact(Bo _).symm)
  refine jae (jqh (m:=9) rfl (by omega) (by decide) (by decide) λw w0 w1=>?_);dsimp only[An];refine jae (jar (x:=.list (ks.map .str++(bndE fs).map .str)) (λQ q=>w2_i (jab rfl (jda rfl (j5c hkv (jum (by rw[Ab];omega) (by rw[Ab];omega)) q)))) ?_);dsimp only[An];refine iflt rfl (λhw=>?_) (λhw=>?_)
  ·refine jgt rfl (ja8 (c_i (c1_i (jab rfl (Aj rfl ⟨by omega,λv hv=>?_⟩)))));exact Aj (show 2<=1000 by decide) (Aj hfl (nxtN (.isv v) _ _ _ _ rfl ⟨jmy hv,rfl⟩ (λk hk=>by cases hk) (by omega)))
  ·refine iflt rfl (λhw6=>?_) (λhw6=>?_)
   ·refine jgt rfl (w2_i (of_i (Aj (by decide) (Aj (by decide) (Aj (by decide) (Aj (by decide) ?_))))));dsimp only;refine w2_i (jab rfl (c_i ?_));dsimp only[gI0];refine jbd (ds:=[.tuple [.str "any"],.tuple [.str "word"],.tuple [.str "number"]]) (r:=w - 3) (by omega) (show w - 3 < 3 by omega) λf hf'=>?_;simp only[Ar,Ax,or_false]at hf';rcases hf' with rfl | rfl | rfl
    ·exact Aj hfl (nxtN .any _ _ _ _ rfl ⟨trivial,rfl⟩ (λk hk=>by cases hk) (by omega))
    ·exact Aj hfl (nxtN .word _ _ _ _ rfl ⟨trivial,rfl⟩ (λk hk=>by cases hk) (by omega))
    ·exact Aj hfl (nxtN .num _ _ _ _ rfl ⟨trivial,rfl⟩ (λk hk=>by cases hk) (by omega))
   ·have bind:∀(K:DEnds) (L:List Aa),(∀δ n,N δ n->K.nx δ n)->sSeq (sSet 7 (w2 (wOf (fLst (jaa (wC (.str "n")) (jaa (wC (.str "nm")) (jaa (wC (.str "go")) (jaa (wC (.str "m")) aNil)))))) (jai jas (jaa (wVar 0) (jaa (wC (.int (4))) aNil))) gIxL)) (sSeq (sApp 3 (wVar 7)) (sApp 2 (wTup (jaa (wC (.str "bind")) (jaa (wVar 7) aNil)))))
      [some (.w .tp),some (.w kv),some (.own (fs.map Fe.d)),some (.own ((bndE fs).map .str)),some (.w (.d d)),some (.w (.d (.int w))),some (.w (.d (.list L))),u] (n+1) K:=λK L hK=>by
     refine jae (show w2 _ _ _ _ _ _ from w2_i (of_i (Aj (by decide) ?_)));dsimp only;refine jdd (m:=4) rfl (by omega) (by decide) (by decide) λr r0 r1=>jbd (ds:=[.str "n",.str "nm",.str "go",.str "m"]) r0 r1 λf hf'=>?_;have:∃s:Str,f=.str s/\okK s:=by
      simp only[Ar,Ax,or_false]at hf';rcases hf' with rfl | rfl | rfl | rfl<;>exact⟨_,rfl,by decide +kernel,by decide +kernel⟩
     obtain⟨s,rfl,so⟩:=this;dsimp only[An];refine jae (jhs rfl (λQ q=>jab rfl q) (by rw[Ab];omega) ?_);dsimp only[An];refine jhs (x:=.tuple [.str "bind",.str s]) rfl (λQ q=>ja8 (c_i (jab rfl (Aj (show 2<=1000 by decide) q)))) hfl (hK _ _ ?_);exact nxt (.bind s) (n+1+1) _ _ _ _ ⟨so,rfl⟩ (λk hk=>by cases hk) (by omega) rfl
    by_cases hw8:w < 8
    ·refine if_y (λQ q=>jpb (λQ q=>ct_b (k:=true) (λQ q=>w2_i (jab rfl (c_i ?_))) q) q) (bind _ _ λ_ _ z=>z);show Q (.d (.bool (decide (w < 8)))) _;rw[decide_eq_true hw8];exact q
    ·have hmem:∀f∈ks.map C9++(bndE fs).map C9,∃s∈ks++bndE fs,f=.str s:=λf hf=>ji3 (by rw[Bb];exact hf);have hlen:(ks.map C9++(bndE fs).map C9).length<=2000:=by rw[Ak,Ab,Ab];omega
     generalize(ks.map C9++(bndE fs).map C9)=L at hmem hlen;cases L with
     |nil =>
      refine if_y (λQ q=>jfi (λQ q=>ct_b (k:=false) (λQ q=>w2_i (jab rfl (c_i ?_))) q) (ct_b (k:=true) (λQ q=>w2_i (jab rfl (of_i (Aj (Bn _) q)))) q)) (bind _ _ λ_ _ z=>z);show Q (.d (.bool (decide (w < 8)))) _;rw[decide_eq_false hw8];exact q
     |cons a l =>
      refine if_n (λQ q=>jfi (λQ q=>ct_b (k:=false) (λQ q=>w2_i (jab rfl (c_i ?_))) q) (ct_b (k:=false) (λQ q=>w2_i (jab rfl (of_i (Aj (Bn _) q)))) q)) ?_
      ·show Q (.d (.bool (decide (w < 8)))) _;rw[decide_eq_false hw8];exact q
      ·refine jgt rfl (ja8 (c_i (w2_i (jab rfl ?_))));refine jdc (m:=(a::l).length) rfl (λQ q=>b1_i (jab rfl q)) (by omega) (by rw[Ao];omega) (by omega) λr r0 r1=>jbd r0 r1 λf hf'=>?_;obtain⟨s,hs,rfl⟩:=hmem f hf';exact Aj (show 2<=1000 by decide) (Aj hfl (nxtN (.as s) _ _ _ _ rfl ⟨hbo s hs,rfl⟩ (λk hk=>by cases hk;exact hs) (by omega)))
theorem jwk {v:Aa} (h:v∈jju):jdy v:=by
 simp only[jju,Ar,Ax,or_false]at h;rcases h with rfl | rfl | rfl | rfl | rfl | rfl | rfl<;>first | exact .inl rfl | exact .inr ⟨_,rfl,by decide,by decide⟩
theorem jkn:∀ws n Q,jpl ws n Q->ws.length=1:=λws n Q h=>by obtain⟨rfl,_⟩:=h;rfl
theorem jjr:∀ws n Q,jpl ws n Q->jie (jat Zc ws) n {nx:=λ_ n=>Q (.d .none) n,rt:=Q}:=λws n Q h=>by
 obtain⟨rfl,hn,k⟩:=h;show jie [some (.w .tp)] n _;exact ja2 (j5f rfl hn k)
theorem j20 {δ:Sl} {n:Int} {Q:DQ} (e0:δ[0]?=some (some (.w .tp))) (h:n < 2 ^ 39) (k:∀v∈jju,Q (.d v) (n+1)):jai jpl (jaa (wVar 0) aNil) δ n Q:=c1_i (jab e0 ⟨rfl,h,k⟩)
def TemI (ks:List Str) (n0:Int) (ds:List Aa) (δ:Sl) (n:Int):Prop:=∃(fs:List Fe) (x y:Option SV),δ=[some (.w .tp),some (.w (.ln (ks.map .str))),some (.own (fs.map Fe.d)),x,y]/\fs.length+ds.length<=4/\(∀f∈fs,f.ok/\f.tm=true)/\rF ks fs/\n+2*(ds.length:Int)<=n0+9
theorem jej:∀ws n Q,jof ws n Q->ws.length=2:=λws n Q h=>by obtain⟨_,rfl,_⟩:=h;rfl
theorem jd7:∀ws n Q,jof ws n Q->jcw (jat ["_law_tape_here","_law_known","_law_fields","_law_k","_law_way"] ws) n {nx:=λ_ n=>Q (.d .none) n,rt:=Q}:=λws n0 Q h=>by
 obtain⟨ks,rfl,hks,hok,hn0,k⟩:=h;show jcw [some (.w .tp),some (.w (.ln (ks.map .str))),none,none,none] n0 _;refine jae (jb3 ?_);dsimp only[An];refine jae (jz9 rfl (by omega) λm h1 h4=>?_);refine jaz (TemI ks n0) (λδ n I=>?_) (λd r δ n N I kN=>?_) _ _ _ ⟨[],none,none,rfl,by rw[ja4];simpa using h4,λf hf=>(by simp at hf),trivial,by rw[ja4];omega⟩
 ·obtain⟨fs,x,y,rfl,hf,hfo,hr,hn⟩:=I;dsimp only;refine jd3 rfl ?_;dsimp only[An];exact ja2 (b1_i (jab rfl (je0 (k fs n ⟨by simpa using hf,λf z=>(hfo f z).1⟩ (λf z=>(hfo f z).2) hr (by simpa using hn)))))
 ·obtain⟨fs,x,y,rfl,hf,hfo,hr,hn⟩:=I;rw[Ao]at hf hn;dsimp only[jac,An];have hfl:(fs.map Fe.d).length < 1000000:=by rw[Ab];omega
  have nxt:∀(f:Fe) (n':Int) (y:Option SV),f.ok/\f.tm=true->(∀k,f.us=some k->k∈ks)->n'<=n+2->N [some (.w .tp),some (.w (.ln (ks.map .str))),some (.own (fs.map Fe.d++[f.d])),some (.w (.d d)),y] n':=λf n' y fo fu hn' =>
   kN _ _ ⟨fs++[f],some (.w (.d d)),y,by rw[Bb];rfl,by rw[Ak,As];omega,λg hg=>(Bd.mp hg).elim (hfo g) λz=>by rw[Bh]at z;subst z;exact fo,jl4 hr λk hk=>Do _ (fu k hk),by omega⟩
  refine jae (jqh (m:=6) rfl (by omega) (by decide) (by decide) λw w0 w1=>?_);dsimp only[An];have isv:∀K:DEnds,(∀δ n,N δ n->K.nx δ n)->sApp 2 (wTup (jaa (wC (.str "is")) (jaa (jai jec (jaa (wVar 0) aNil)) aNil))) [some (.w .tp),some (.w (.ln (ks.map .str))),some (.own (fs.map Fe.d)),some (.w (.d d)),some (.w (.d (.int w)))] (n+1) K:=λK hK =>
   jgt rfl (ja8 (c_i (c1_i (jab rfl (Aj rfl ⟨by omega,λv hv=>Aj (show 2<=1000 by decide) (Aj hfl (hK _ _ (nxt (.isv v) _ _ ⟨jmy hv,rfl⟩ (λk hk=>by cases hk) (by omega))))⟩)))))
  by_cases hw3:w < 3
  ·refine if_y (λQ q=>jpb (λQ q=>ct_b (k:=true) (λQ q=>w2_i (jab rfl (c_i ?_))) q) q) (isv _ λ_ _ z=>z);show Q (.d (.bool (decide (w < 3)))) _;rw[decide_eq_true hw3];exact q
  ·have ct3:∀Q:DQ,Q (.d (.bool false)) (n+1)->w2 (wVar 4) (wC (.int 3)) gLt [some (.w .tp),some (.w (.ln (ks.map .str))),some (.own (fs.map Fe.d)),some (.w (.d d)),some (.w (.d (.int w)))] (n+1) Q:=λQ q=>w2_i (jab rfl (c_i (by
    show Q (.d (.bool (decide (w < 3)))) _;rw[decide_eq_false hw3];exact q)))
   cases ks with
   |nil=>exact if_y (λQ q=>jfi (λQ q=>ct_b (k:=false) ct3 q) (ct_b (k:=true) (λQ q=>w2_i (jab rfl (jb6 (eqLn q)))) q)) (isv _ λ_ _ z=>z)
   |cons a l =>
    refine if_n (λQ q=>jfi (λQ q=>ct_b (k:=false) ct3 q) (ct_b (k:=false) (λQ q=>w2_i (jab rfl (jb6 (eqLn q)))) q)) ?_;refine jgt rfl (ja8 (w2_i (of_i (Aj (by decide) ?_))));dsimp only;refine w2_i (jab rfl (c_i ?_));dsimp only[gI0];refine jbd (ds:=[.str "as",.str "as",.str "next"]) (r:=w - 3) (by omega) (show w - 3 < 3 by omega) λf hf'=>?_;refine w2_i (jab rfl ?_);have hl:((a::l).map C9).length<=1000:=by rw[Ab];exact hks
    refine jdc (m:=((a::l).map C9).length) rfl (λQ q=>b1_i (jab rfl q)) (by omega) (by rw[Ab,Ao];omega) (by omega) λr r0 r1=>jmc r0 r1 λf' hf''=>?_;obtain⟨s,hs,rfl⟩:=ji3 hf'';simp only[Ar,Ax,or_false]at hf';rcases hf' with rfl | rfl | rfl
    ·exact Aj (show 2<=1000 by decide) (Aj hfl (nxt (.as s) _ _ ⟨hok s hs,rfl⟩ (λk hk=>by cases hk;exact hs) (by omega)))
    ·exact Aj (show 2<=1000 by decide) (Aj hfl (nxt (.as s) _ _ ⟨hok s hs,rfl⟩ (λk hk=>by cases hk;exact hs) (by omega)))
    ·exact Aj (show 2<=1000 by decide) (Aj hfl (nxt (.nx s) _ _ ⟨hok s hs,rfl⟩ (λk hk=>by cases hk;exact hs) (by omega)))
theorem ji5:∀ws n Q,jg3 ws n Q->ws.length=2:=λws n Q h=>by obtain⟨_,rfl,_⟩:=h;rfl
abbrev Zd:List Str:=["_law_tape_here","_law_known"]
theorem jhn:∀ws n Q,jg3 ws n Q->jgw (jat Zd ws) n {nx:=λ_ n=>Q (.d .none) n,rt:=Q}:=λws n Q h=>by
 obtain⟨ks,rfl,hks,hok,hn0,k⟩:=h;show jgw [some (.w .tp),some (.w (.ln (ks.map .str)))] n _;have isv:∀n',n'<=n+1->sRet (wTup (jaa (wC (.str "is")) (jaa (jai jec (jaa (wVar 0) aNil)) aNil))) [some (.w .tp),some (.w (.ln (ks.map .str)))] n' {nx:=λ_ n=>Q (.d .none) n,rt:=Q}:=λn' hn' =>
  ja2 (ja8 (c_i (c1_i (jab rfl (Aj rfl ⟨by omega,λv hv=>Aj (show 2<=1000 by decide) (k (.isv v) _ (jmy hv) rfl (λk hk=>by cases hk) (by omega))⟩)))))
 cases ks with
 |nil=>exact jae (if_y (λQ q=>jpb (λQ q=>ct_b (k:=true) (λQ q=>w2_i (jab rfl (jb6 (eqLn q)))) q) q) (isv n (by omega)))
 |cons a l =>
  refine jae (if_i (jfi (λQ q=>ct_b (k:=false) (λQ q=>w2_i (jab rfl (jb6 (eqLn q)))) q) ?_));refine w2_i (jdd (m:=2) rfl (by omega) (by decide) (by decide) λr r0 r1=>c_i (eqLi ?_));show if decide (r=0)=true then _ else _
  by_cases h:r=0
  ·rw[if_pos (decide_eq_true h)];exact isv (n+1) (by omega)
  ·rw[if_neg (by simpa using h)];dsimp only[jap];refine ja2 (ja8 (c_i (w2_i (jab rfl ?_))));have hl:((a::l).map C9).length<=1000:=by rw[Ab];exact hks
   refine jdc (m:=((a::l).map C9).length) rfl (λQ q=>b1_i (jab rfl q)) (by omega) (by rw[Ab,Ao];omega) (by omega) λr r0 r1=>jmc r0 r1 λf' hf''=>?_;obtain⟨s,hs,rfl⟩:=ji3 hf'';exact Aj (show 2<=1000 by decide) (k (.as s) _ (hok s hs) rfl (λk hk=>by cases hk;exact hs) (by omega))
theorem jko:∀ws n Q,jig ws n Q->ws.length=3:=λws n Q h=>by obtain⟨_,_,_,rfl,_⟩:=h;rfl
theorem jjs:∀ws n Q,jig ws n Q->jif (jat ["_law_tape_here","_law_known","_law_open_ones","_law_way","_law_block","_law_pattern_here","_law_bound"] ws) n {nx:=λ_ n=>Q (.d .none) n,rt:=Q}:=λws n Q h=>by
 obtain⟨ks,os,wants,rfl,hks,hok,ho,ho',hop,hn0,k⟩:=h;show jif [some (.w .tp),some (.w (.ln (ks.map .str))),some (.w (.d (.list (os.map λb=>.int (b:Nat))))),none,none,none,none] n _;refine jae (jqh (m:=12) rfl (by omega) (by decide) (by decide) λw w0 w1=>?_);dsimp only[An];refine jae (iflt rfl (λhw=>?_) (λhw=>?_))
 ·refine ja2 (ja8 (jfu (c_i (c2_i (jab rfl (jab rfl (D3 ks ⟨rfl,hks,hok,by omega,λfs n' hfs htm hrf hn'=>?_⟩)))))));refine j20 rfl (by omega) λv hv=>?_;exact Aj (show 3<=1000 by decide) (jb6 (Aj (show 2<=1000 by decide) (k (.lay fs v) _ ⟨hfs,htm,jwk hv⟩ ⟨hrf,λb hb=>by cases hb⟩ (by omega))))
 dsimp only[jap];refine jae (show sSet 4 _ _ _ _ from w2_i (jab rfl ?_));refine jdc (m:=(os.map λb:Nat=>E8 (b:Nat)).length) rfl (λQ q=>b1_i (jab rfl q)) (by omega) (by rw[Ab];omega) (by rw[Ab];omega) λr r0 r1=>jbd r0 r1 λb hb=>?_;obtain⟨b,hbo,rfl⟩:=Bf.mp hb;have hto:=hop b hbo;dsimp only[An];refine jae (ifeq rfl (λh10=>?_) (λh10=>?_))
 ·refine ja2 (ja8 (jwq (c_i (c2_i (jab rfl (jab rfl (D3 ks ⟨rfl,hks,hok,by omega,λf n' fo fb fu hn'=>?_⟩)))))));refine c2_i (jab rfl (jab rfl (D3 ks ⟨rfl,hks,hok,by omega,λg n'' go gb gu hn''=>?_⟩)));refine jab rfl (Aj (show 4<=1000 by decide) (jb6 (Aj (show 2<=1000 by decide) (k (.same f g b) _ ⟨⟨show 2<=4 by decide,λe he=>?_⟩,fb,gb⟩ ⟨⟨fu,λk hk=>Do _ (gu k hk),trivial⟩,λb' hb'=>by cases hb';exact hto⟩ (by omega)))));simp only[Ac.fs,Ar,Ax,or_false]at he;rcases he with rfl | rfl
  ·exact fo
  ·exact go
 dsimp only[jap];refine jae (ifeq rfl (λh11=>?_) (λh11=>?_))
 ·exact ja2 (ja8 (ja8 (c_i (jab rfl (Aj (show 2<=1000 by decide) (jb6 (Aj (show 2<=1000 by decide) (k (.go b) _ ⟨⟨show 0<=4 by decide,λe he=>by simp[Ac.fs]at he⟩,trivial⟩ ⟨trivial,λb' hb'=>by cases hb';exact hto⟩ (by omega)))))))))
 dsimp only[jap];refine jae ?_;unfold sUnp;refine c2_i (jab rfl (jab rfl (D3 ks ⟨.ln (ks.map .str),rfl,rfl,hks,hok,by omega,λfs n' hf1 hfs hpt hrf hn'=>?_⟩)));refine Aj rfl ?_;dsimp only[jaj,ja3,jac,An];refine jae (ifgt rfl (λh7=>?_) (λh7=>?_))
 ·exact ja2 (ja8 (jfu (c_i (jab rfl (jab rfl (Aj (show 3<=1000 by decide) (jab rfl (Aj (show 2<=1000 by decide) (k (.look fs b) _ ⟨hfs,hf1,hpt⟩ ⟨hrf,λb' hb'=>by cases hb';exact hto⟩ (by omega))))))))))
 dsimp only[jap];refine ja2 (ja8 (ja8 (w2_i (of_i (Aj (by decide) ?_)))));dsimp only;refine w2_i (jab rfl (c_i ?_));dsimp only[gI0];refine jbd (ds:=[.str "take",.str "take",.str "take",.str "read"]) (r:=w - 4) (by omega) (show w - 4 < 4 by omega) λf hf'=>?_;simp only[Ar,Ax,or_false]at hf';rcases hf' with rfl | rfl | rfl | rfl
 ·exact jab rfl (Aj (show 2<=1000 by decide) (jab rfl (Aj (show 2<=1000 by decide) (k (.take fs) _ ⟨hfs,hf1,hpt⟩ ⟨hrf,λb' hb'=>by cases hb'⟩ (by omega)))))
 ·exact jab rfl (Aj (show 2<=1000 by decide) (jab rfl (Aj (show 2<=1000 by decide) (k (.take fs) _ ⟨hfs,hf1,hpt⟩ ⟨hrf,λb' hb'=>by cases hb'⟩ (by omega)))))
 ·exact jab rfl (Aj (show 2<=1000 by decide) (jab rfl (Aj (show 2<=1000 by decide) (k (.take fs) _ ⟨hfs,hf1,hpt⟩ ⟨hrf,λb' hb'=>by cases hb'⟩ (by omega)))))
 ·exact jab rfl (Aj (show 2<=1000 by decide) (jab rfl (Aj (show 2<=1000 by decide) (k (.read fs) _ ⟨hfs,hf1,hpt⟩ ⟨hrf,λb' hb'=>by cases hb'⟩ (by omega)))))
def jfa:List (List Str):=[[],["n"],["go","n"],["nm"]]
theorem jwp {w:List Str} (h:w∈jfa):w.length<=4/\(∀k∈w,okK k)/\w.Nodup/\upT w:=by
 have key:∀w∈jfa,w.length<=4/\(∀k∈w,k.length<=4/\PyData.strOk k=true)/\w.Nodup/\w.Pairwise λa b=>¬b.cps.toList < a.cps.toList:=by decide +kernel
 exact key w h
theorem jsh {Q:List Aa->Int->Prop} {n:Int} (ss ks:List Str) (k:Q ((ss.map C9).filter λx=>!inD x (ks.map .str)) n) :
  jbf (jac 0) (cT (w2 (wVar 0) (wVar 1) (gInL true))) (wVar 0) Q (ss.map .str) [] [none,some (.w (.ln (ks.map .str)))] n:=by
 refine jbx (λd=>∃s:Str,d=.str s) (λx=>!inD x (ks.map .str)) id (λd n Q' hd q=>?_) (λd n Q' hd q=>jab rfl q) _ [] none n (λd hd=>?_) ?_
 ·obtain⟨s,rfl⟩:=hd;exact ct_b (k:=!inD (.str s) (ks.map .str)) (λQ q=>w2_i (jab rfl (jab rfl (Aj rfl ⟨jgj ks,q⟩)))) q
 ·obtain⟨s,_,rfl⟩:=Bf.mp hd;exact⟨s,rfl⟩
 ·rw[Bi,List.map_id];exact k
theorem jt5 (ss ks:List Str):((ss.map C9).filter λx=>!inD x (ks.map .str)).isEmpty=decide (∀k∈ss,k∈ks):=by
 rw[Fm,List.isEmpty_iff,List.filter_eq_nil_iff,decide_eq_true_iff]
 constructor
 ·intro h k hk;have:=h (.str k) (Bf.mpr ⟨k,hk,rfl⟩);rw[jgf]at this;simpa using this
 ·intro h d hd;obtain⟨k,hk,rfl⟩:=Bf.mp hd;rw[jgf,decide_eq_true (h k hk)];simp
def jtx (ws:List (List Str)) (ks:List Str):Aa->Bool
 |.int j=>decide (∀k∈ws.getD j.toNat [],k∈ks)
 |_=>false
def jkc (ws:List (List Str)) (ks:List Str):List Nat:=(A1 ws.length).filter λb=>decide (∀k∈ws.getD b [],k∈ks)
theorem jtw (ws:List (List Str)) (ks:List Str):(rngD 0 ws.length).filter (jtx ws ks)=(jkc ws ks).map λb=>.int (b:Nat):=by
 unfold rngD jkc;rw[List.filter_map];have e:(λi:Nat=>E8 (0+(i:Int)))=λb=>.int (b:Nat):=funext λi=>by rw[Int.zero_add]
 rw[e];rfl
theorem jsg {Q:List Aa->Int->Prop} {n:Int} (ws:List (List Str)) (ks:List Str) (k:Q ((jkc ws ks).map λb=>.int (b:Nat)) n) :
  jbf (jac 0) (cT (w2 (wOf (ja0 [none,some 1] (jcl (w2 (wVar 2) (wVar 0) gIxL)) (jac 0) (cT (w2 (wVar 0) (wVar 1) (gInL true))) (wVar 0))) (wOf (fLst aNil)) gEqL)) (wVar 0) Q (rngD 0 ws.length) [] [none,some (.w (.ln (ks.map .str))),some (.w (.d (.list (ws.map jbo))))] n:=by
 refine jbx (λd=>∃j:Nat,j < ws.length/\d=.int j) (jtx ws ks) id (λd n Q' hd q=>?_) (λd n Q' hd q=>jab rfl q) _ [] none n (λd hd=>?_) ?_
 ·obtain⟨j,hj,rfl⟩:=hd;have hg:(ws.map jbo)[j]?=some (.tuple (ws[j].map .str)):=by rw[A0,Af hj];rfl
  refine ct_b (k:=jtx ws ks (.int j)) (λQ q=>w2_i (of_i (jjk (ds:=ws[j].map .str) (λQ q=>w2_i (jab rfl (jab rfl ?_))) (jsh ws[j] ks (jb6 ?_))))) q
  ·show(match atI (ws.map jbo) (j:Int)with | some d=>Q (.d d) n | none=>False);rw[ja5 hg];exact q
  ·have eo:jtx ws ks (.int j)=((ws[j].map C9).filter λx=>!inD x (ks.map .str)).isEmpty:=by
    rw[jt5];show decide (∀k∈ws.getD (j:Int).toNat [],k∈ks)=_;rw[Bp,List.getD_eq_getElem?_getD,Af hj,Option.getD_some]
   rw[eo]at q;exact q
 ·unfold rngD at hd;obtain⟨j,hj,rfl⟩:=Bf.mp hd;exact⟨j,Br.mp hj,by rw[Int.zero_add]⟩
 ·rw[Bi,List.map_id,jtw];exact k
theorem jq4 {ws w0:List (List Str)} {ks:List Str} (h:ws=[]::w0):0 < (jkc ws ks).length :=
 List.length_pos_of_mem (a:=0) (Bu.mpr ⟨Br.mpr (by rw[h];simp),by subst h;simp⟩)
theorem jxp {ws:List (List Str)} {ks:List Str} {b:Nat} (h:b∈jkc ws ks):∃w,ws[b]?=some w/\∀k∈w,k∈ks:=by
 obtain⟨h1,h2⟩:=Bu.mp h;have hj:=Br.mp h1;refine⟨ws[b],Af hj,?_⟩;have:=of_decide_eq_true h2;rw[List.getD_eq_getElem?_getD,Af hj,Option.getD_some]at this;exact this
theorem jqr:∀{fs:List Fe} {ks ks':List Str},(∀k∈ks,k∈ks')->rF ks fs->rF ks' fs
 |[],_,_,_,_=>trivial
 |f::r,ks,ks',h,z=>⟨λk hk=>h k (z.1 k hk),jqr (λk hk=>(Bd.mp hk).elim (λq=>Do _ (h k q)) λq=>Ba _ q) z.2⟩
theorem Ac.right_mono {ws:List (List Str)} {ks ks':List Str} {a:Ac} (h:∀k∈ks,k∈ks') (z:a.right ws ks):a.right ws ks' :=
 ⟨jqr h z.1,λb hb=>by obtain⟨w,h1,h2⟩:=z.2 b hb;exact⟨w,h1,λk hk=>h k (h2 k hk)⟩⟩
theorem jtk {ws:List (List Str)} {w ks:List Str} {as:List Ac} {a:Ac} (h:riB ws (w,as)) (hk:∀k∈ks,k∈w++as.flatMap Ac.bs) (ha:a.right ws ks):riB ws (w,as++[a]):=λp b hb=>by
 dsimp only at hb ⊢;by_cases hp:p < as.length
 ·rw[B9 hp]at hb;have:=h p b hb;unfold kn at this ⊢;rw[Fk (D6 hp)];exact this
 ·rw[Bt (by omega)]at hb;have e0:p - as.length=0:=by
   by_cases e:p - as.length=0
   ·exact e
   ·rw[List.getElem?_eq_none (by rw[As];omega)]at hb;cases hb
  rw[e0]at hb;cases hb;have ep:p=as.length:=by omega
  subst ep;refine Ac.right_mono (λk z=>?_) ha;unfold kn;rw[Fk (Al _),List.take_length];exact hk k z
structure ActO (ws:List (List Str)) (want ks:List Str) (acts:List Ac):Prop where
 mem:∀k,k∈ks↔k∈want++acts.flatMap Ac.bs
 ok:∀k∈ks,okK k
 fs:∀a∈acts,okA a
 ri:riB ws (want,acts)
def ActI (ws:List (List Str)) (bl:List Aa) (want:List Str) (nb:Int) (ds:List Aa) (δ:Sl) (n:Int):Prop:=∃(ks:List Str) (acts:List Ac) (x2 x7 x8 x9 x10:Option SV),
 δ=[some (.w .tp),some (.w (.d (.list (ws.map jbo)))),x2,some (.own bl),some (.w (.d (jbo want))),some (.own (ks.map .str)),some (.own (acts.map Ac.d)),x7,x8,x9,x10]/\ActO ws want ks acts/\ks.length+4*ds.length<=40/\acts.length+ds.length<=8/\n+11*(ds.length:Int)<=nb+89
theorem ju8 {ws w0:List (List Str)} {bl r:List Aa} {want:List Str} {d:Aa} {ks:List Str} {acts:List Ac} {nb n:Int} {x7 x8 x9 x10:Option SV} {K:DEnds} (hw0:ws=[]::w0) (hwl:ws.length<=6) (hnb:nb+89 < 2 ^ 39) (O:ActO ws want ks acts) (hk:ks.length+4*(r.length+1)<=40) (ha:acts.length+(r.length+1)<=8) (hn:n+11*((r.length:Int)+1)<=nb+89)
  (kN:∀δ n,ActI ws bl want nb r δ n->K.nx δ n) :
  sSeq (sSet 8 (wOf (ja0 [none,some 5,some 1] (jak (wB jbp (jaa (wVar 1) aNil))) (jac 0) (cT (w2 (wOf (ja0 [none,some 1] (jcl (w2 (wVar 2) (wVar 0) gIxL)) (jac 0) (cT (w2 (wVar 0) (wVar 1) (gInL true))) (wVar 0))) (wOf (fLst aNil)) gEqL)) (wVar 0)))) (sSeq (sUnp (jai jig (jaa (wVar 0) (jaa (jbt 5) (jaa (wVar 8) aNil)))) (jbj 2 (jaj (jac 9) (jaj (jac 10) ja3)))) (sSeq (sApp 6 (wVar 9)) (sFor (jb5 (wVar 10)) (jac 7) (sIf (cT (w2 (wVar 7) (jbt 5) (gInL true))) (sApp 5 (wVar 7)) jap))))
   [some (.w .tp),some (.w (.d (.list (ws.map jbo)))),some (.w (.d d)),some (.own bl),some (.w (.d (jbo want))),some (.own (ks.map .str)),some (.own (acts.map Ac.d)),x7,x8,x9,x10] n K:=by
 refine jae (show sSet 8 _ _ _ _ from of_i ?_);unfold ja0 jak;refine b1_i (jab rfl ?_);refine Aj ⟨by omega,by rw[Ab];omega⟩ ?_;rw[Bp,Ab];refine jsg ws ks ?_;dsimp only[An];refine jae ?_;unfold sUnp;have ol:(jkc ws ks).length<=6:=A4 (Cq _ _) (by rw[Bx];exact hwl);refine c3_i (jab rfl (jda rfl (jab rfl ?_)));refine D3 ks (D3 (jkc ws ks) (D3 ws ⟨rfl,by omega,O.ok,jq4 hw0,by omega,λb hb=>jxp hb,by omega,λact n' hfs hri hn'=>?_⟩));refine Aj rfl ?_;dsimp only[jaj,ja3,jac,An];refine jae (jhs rfl (λQ q=>jab rfl q) (by rw[Ab];omega) ?_);dsimp only[An];unfold sFor jb5;refine jab rfl ?_;dsimp only;have hbs:=j22 hfs.1;refine jaz (λds δ n''=>∃(ks' dn bs':List Str) (x7:Option SV),ds=bs'.map .str/\dn++bs'=act.bs/\(∀k,k∈ks'↔k∈ks++dn)/\n''=n'/\δ=[some (.w .tp),some (.w (.d (.list (ws.map jbo)))),some (.w (.d d)),some (.own bl),some (.w (.d (jbo want))),some (.own (ks'.map .str)),some (.own (acts.map Ac.d++[act.d])),x7,some (.w (.d (.list ((jkc ws ks).map λb=>.int (b:Nat))))),some (.w (.d act.d)),some (.w (.d (.list (act.bs.map .str))))]/\ks'.length+bs'.length<=ks.length+4)
  (λδ n'' I=>?_) (λe r' δ n'' N I kN'=>?_) _ _ _ ⟨ks,[],act.bs,x7,rfl,rfl,λk=>by simp,rfl,rfl,by have:=hbs.2;omega⟩
 ·obtain⟨ks',dn,bs',x7,e,hdn,hm,rfl,rfl,hk'⟩:=I;cases List.map_eq_nil_iff.mp e.symm;rw[Bo]at hdn;subst hdn;have hm':∀k,k∈ks'↔k∈want++(acts++[act]).flatMap Ac.bs:=λk=>by
   rw[hm k,Bd,O.mem k,List.flatMap_append,<-Bk,Bd (s:=want++acts.flatMap Ac.bs)];simp
  refine kN _ _ ⟨ks',acts++[act],_,_,_,_,_,by rw[Bb];rfl,⟨hm',λk z=>?_,λa z=>?_,jtk O.ri (λk z=>(O.mem k).mp z) hri⟩,by omega,by rw[Ak,As];omega,by omega⟩
  ·exact(Bd.mp ((hm k).mp z)).elim (O.ok k) (hbs.1 k)
  ·rcases Bd.mp z with z | z
   ·exact O.fs a z
   ·rw[Bh]at z;subst z;exact hfs
 ·obtain⟨ks',dn,bs',x7,e',hdn,hm,rfl,rfl,hk'⟩:=I;obtain⟨s,bs'',rfl,rfl,rfl⟩:=Fl.mp e'.symm;rw[Ao]at hk';dsimp only[jac,An];have hdn':(dn++[s])++bs''=act.bs:=by rw[Bk];exact hdn
  refine if_i (w2_i (jab rfl (jda rfl (Aj rfl ⟨jgj ks',?_⟩))));refine ifb (λz=>?_) (λz=>?_)
  ·refine jhs rfl (λQ q=>jab rfl q) (by rw[Ab];omega) (kN' _ _ ⟨ks'++[s],dn++[s],bs'',some (.w (.d (.str s))),rfl,hdn',λk=>?_,rfl,?_,by rw[Ak,As];omega⟩)
   ·rw[Bd,hm k,<-Bk,Bd (s:=ks++dn)]
   ·rw[Bb];rfl
  ·have hs:s∈ks':=by
    have z':(!inD (.str s) (ks'.map .str))=false:=z;rw[jgf]at z';simpa using z'
   refine kN' _ _ ⟨ks',dn++[s],bs'',some (.w (.d (.str s))),rfl,hdn',λk=>?_,rfl,rfl,by omega⟩;rw[<-Bk,Bd (s:=ks++dn),Bh,<-hm k];exact⟨.inl,λq=>q.elim id λe=>e▸hs⟩
def WanI (n0:Int) (ds:List Aa) (δ:Sl) (n:Int):Prop:=∃(more:List (List Str)) (x2:Option SV),δ=[some (.w .tp),some (.own (([]::more).map jbo)),x2,none,none,none,none,none,none,none,none]/\more.length+ds.length<=5/\(∀w∈more,w∈jfa)/\n+(ds.length:Int)<=n0+6
def BlkI (ws:List (List Str)) (n0:Int) (ds:List Aa) (δ:Sl) (n:Int):Prop:=∃(bl:List Bl) (re:List (List Str)) (x2 x4 x5 x6 x7 x8 x9 x10:Option SV),
 δ=[some (.w .tp),some (.w (.d (.list (ws.map jbo)))),x2,some (.own (bl.map blD)),x4,x5,x6,x7,x8,x9,x10]/\ds=re.map jbo/\bl.map (·.1)++re=ws/\(∀b∈bl,okB b/\riB ws b)/\n+90*(ds.length:Int)<=n0+600
theorem jfc:∀ws n Q,joc ws n Q->ws.length=1:=λws n Q h=>by obtain⟨rfl,_⟩:=h;rfl
theorem ju1 {ws w0 re:List (List Str)} {bl:List Bl} {want:List Str} {n0 n:Int} {x2 x5 x6 x7 x8 x9 x10:Option SV} {K:DEnds} (hw:∀w∈ws,w∈jfa) (hw0:ws=[]::w0) (hwl:ws.length<=6) (hn0:n0+600 < 2 ^ 39) (hb:bl.map (·.1)++want::re=ws) (hbo:∀b∈bl,okB b/\riB ws b) (hn:n+90*((re.length:Int)+1)<=n0+600)
  (kN:∀δ n,BlkI ws n0 (re.map jbo) δ n->K.nx δ n) :
  sSeq (sOwn 5 (jgl (wVar 4))) (sSeq (sOwn 6 (fLst aNil)) (sSeq (sFor (jak (w2 (wOf (fLst (jaa (wC (.int (2))) (jaa (wC (.int (3))) (jaa (wC (.int (1))) (jaa (wC (.int (4))) (jaa (wC (.int (2))) (jaa (wC (.int (0))) (jaa (wC (.int (3))) (jaa (wC (.int (8))) aNil)))))))))) (jai jas (jaa (wVar 0) (jaa (wC (.int (8))) aNil))) gIxL)) (jac 2) (sSeq (sSet 8 (wOf (ja0 [none,some 5,some 1] (jak (wB jbp (jaa (wVar 1) aNil))) (jac 0) (cT (w2 (wOf (ja0 [none,some 1] (jcl (w2 (wVar 2) (wVar 0) gIxL)) (jac 0) (cT (w2 (wVar 0) (wVar 1) (gInL true))) (wVar 0))) (wOf (fLst aNil)) gEqL)) (wVar 0)))) (sSeq (sUnp (jai jig (jaa (wVar 0) (jaa (jbt 5) (jaa (wVar 8) aNil)))) (jbj 2 (jaj (jac 9) (jaj (jac 10) ja3)))) (sSeq (sApp 6 (wVar 9)) (sFor (jb5 (wVar 10)) (jac 7) (sIf (cT (w2 (wVar 7) (jbt 5) (gInL true))) (sApp 5 (wVar 7)) jap)))))) (sFrz 6 (sApp 3 (wTup (jaa (wVar 4) (jaa (wB jbi (jaa (wVar 6) aNil)) aNil)))))))
   [some (.w .tp),some (.w (.d (.list (ws.map jbo)))),x2,some (.own (bl.map blD)),some (.w (.d (jbo want))),x5,x6,x7,x8,x9,x10] n K:=by
 obtain⟨hss,hso,hnd,hup⟩:=jwp (hw want (by rw[<-hb];exact Ba _ Ay));have hbl:bl.length+(re.length+1)<=6:=by rw[<-hb,Ak,Ab,Ao]at hwl;exact hwl
 refine jae (j0v (ds:=want.map .str) rfl ?_);dsimp only[An];refine jae (jb3 ?_);dsimp only[An];refine jae (jvm (L:=[.int 2,.int 3,.int 1,.int 4,.int 2,.int 0,.int 3,.int 8]) (M:=8) rfl (λQ q=>of_i (Aj (by decide) q)) (by omega) rfl (by decide) (by decide) (λd hd=>?_) (by decide) λj hj=>?_)
 ·simp only[Ar,Ax,or_false]at hd;rcases hd with rfl | rfl | rfl | rfl | rfl | rfl | rfl | rfl
  ·exact⟨2,by decide,rfl⟩
  ·exact⟨3,by decide,rfl⟩
  ·exact⟨1,by decide,rfl⟩
  ·exact⟨4,by decide,rfl⟩
  ·exact⟨2,by decide,rfl⟩
  ·exact⟨0,by decide,rfl⟩
  ·exact⟨3,by decide,rfl⟩
  ·exact⟨8,by decide,rfl⟩
 refine jaz (ActI ws (bl.map blD) want n) (λδ n' I=>?_) (λd r' δ n' N I kN'=>?_) _ _ _ ⟨want,[],_,_,_,_,_,rfl,⟨λk=>by simp,hso,λa ha=>by simp at ha,λp a ha=>by simp at ha⟩,by rw[ja4];omega,by rw[ja4];simpa using hj,by rw[ja4];omega⟩
 ·obtain⟨ks,acts,y2,y7,y8,y9,y10,rfl,O,_,ha,hn'⟩:=I;dsimp only;refine jd3 rfl ?_;dsimp only[An];refine jgt rfl (ja8 (jab rfl (b1_i (jab rfl (je0 ?_)))));have ha':acts.length<=8:=by simpa using ha
  refine Aj (show 2<=1000 by decide) (Aj (by rw[Ab];omega) (kN _ _ ⟨bl++[(want,acts)],re,_,_,_,_,_,_,_,_,by rw[Bb];rfl,rfl,by rw[Bb,Bk];exact hb,λb z=>?_,?_⟩))
  ·rcases Bd.mp z with z | z
   ·exact hbo b z
   ·rw[Bh]at z;subst z;exact⟨⟨hss,hso,ha',O.fs,hnd,hup⟩,O.ri⟩
  ·have h0:n'<=n+89:=by simpa using hn'
   rw[Ab];omega
 ·obtain⟨ks,acts,y2,y7,y8,y9,y10,rfl,O,hk,ha,hn'⟩:=I;rw[Ao]at hk ha hn';dsimp only[jac,An];exact ju8 hw0 hwl (by omega) O hk ha (by omega) kN'
theorem jer:∀ws n Q,joc ws n Q->jde (jat ["_law_tape_here","_law_wants","_law_k","_law_blocks","_law_want","_law_known","_law_acts","_law_name","_law_open_ones","_law_act_here","_law_bound"] ws) n {nx:=λ_ n=>Q (.d .none) n,rt:=Q}:=λws n0 Q h=>by
 obtain⟨rfl,hn0,k⟩:=h;show jde [some (.w .tp),none,none,none,none,none,none,none,none,none,none] n0 _;refine jae (show sOwn 1 _ _ _ _ from Aj (Bn _) (Aj (by decide) ?_));dsimp only[An];refine jae (jvm (L:=[.int 0,.int 1,.int 2,.int 1,.int 0,.int 2,.int 5]) (M:=5) rfl (λQ q=>of_i (Aj (by decide) q)) (by omega) rfl (by decide) (by decide) (λd hd=>?_) (by decide) λj hj=>?_)
 ·simp only[Ar,Ax,or_false]at hd;rcases hd with rfl | rfl | rfl | rfl | rfl | rfl | rfl
  ·exact⟨0,by decide,rfl⟩
  ·exact⟨1,by decide,rfl⟩
  ·exact⟨2,by decide,rfl⟩
  ·exact⟨1,by decide,rfl⟩
  ·exact⟨0,by decide,rfl⟩
  ·exact⟨2,by decide,rfl⟩
  ·exact⟨5,by decide,rfl⟩
 refine jaz (WanI n0) (λδ n I=>?_) (λd r δ n N I kN=>?_) _ _ _ ⟨[],none,rfl,by rw[ja4];simpa using hj,λd hd=>by simp at hd,by rw[ja4];omega⟩
 ·obtain⟨more,x2,rfl,hl,hm,hn⟩:=I;dsimp only;refine jae (jb3 ?_);dsimp only[An];refine jd3 rfl ?_;dsimp only[An];refine jae ?_;unfold sFor jb5;refine jab rfl ?_;dsimp only;have hw:∀w∈([]:List Str)::more,w∈jfa:=λd hd=>by
   rcases Ar.mp hd with rfl | z
   ·simp[jfa]
   ·exact hm d z
  have hwl:(([]:List Str)::more).length<=6:=by rw[Ao];simp at hl;omega
  refine jaz (BlkI ([]::more) n0) (λδ n' I=>?_) (λd r δ n' N I kN=>?_) _ _ _ ⟨[],[]::more,_,_,_,_,_,_,_,_,rfl,rfl,rfl,λb hb=>by simp at hb,?_⟩
  ·obtain⟨bl,re,y2,y4,y5,y6,y7,y8,y9,y10,rfl,er,hb,hbo,hn'⟩:=I;cases List.map_eq_nil_iff.mp er.symm;rw[Bo]at hb;dsimp only;refine jd3 rfl ?_;dsimp only[An];refine ja2 (b1_i (jab rfl (je0 (k bl n' ⟨by have:=congrArg List.length hb;simp at this;omega,?_,λb z=>⟨(hbo b z).1,by rw[hb];exact(hbo b z).2⟩⟩ ⟨more,hb⟩ (by simpa using hn')))));rw[<-hb,Ab]at hwl;exact hwl
  ·obtain⟨bl,re,y2,y4,y5,y6,y7,y8,y9,y10,rfl,er,hb,hbo,hn'⟩:=I;obtain⟨want,re,rfl,rfl,rfl⟩:=Fl.mp er.symm;rw[Ao,Ab]at hn';dsimp only[jac,An];exact ju1 hw rfl hwl hn0 hb hbo (by omega) kN
  ·have h1:n<=n0+6:=by simpa using hn
   have h2:(((([]:List Str)::more).map jbo).length:Int)<=6:=by rw[Ab];omega
   omega
 ·obtain⟨more,x2,rfl,hl,hm,hn⟩:=I;rw[Ao]at hl hn;dsimp only[jac,An];refine jgt rfl (w2_i (of_i (Aj (by decide) (Aj (by decide) (Aj (by decide) (Aj (by decide) (Aj (by decide) (Aj (by decide) ?_))))))));dsimp only;refine jdd (m:=5) rfl (by omega) (by decide) (by decide) λq q0 q1=>jbd (ds:=[jbo [],jbo ["n"],jbo ["go","n"],jbo ["nm"],jbo []]) q0 q1 λw hw=>?_;have:∃v∈jfa,w=jbo v:=by
   simp only[Ar,Ax,or_false]at hw;rcases hw with rfl | rfl | rfl | rfl | rfl
   ·exact⟨[],by simp[jfa],rfl⟩
   ·exact⟨["n"],by simp[jfa],rfl⟩
   ·exact⟨["go","n"],by simp[jfa],rfl⟩
   ·exact⟨["nm"],by simp[jfa],rfl⟩
   ·exact⟨[],by simp[jfa],rfl⟩
  obtain⟨v,hv,rfl⟩:=this;refine Aj (by rw[Ab,Ao];omega) (kN _ _ ⟨more++[v],some (.w (.d d)),?_,by rw[Ak,As];omega,λe he=>?_,by omega⟩)
  ·rw[show([]::(more++[v]):List (List Str))=([]::more)++[v]from rfl,Bb];rfl
  rcases Bd.mp he with z | z
  ·exact hm e z
  ·rw[Bh]at z;subst z;exact hv
section
variable {δ:Sl} {n:Int} {K:DEnds} {i:Nat} {s a b c:Str} {r:List Aa} {k:Bool} {Q:Bool->Int->Prop}
theorem jla {A B:DTT} (ha:∀Q:Bool->Int->Prop,Q false n->A δ n Q) (q:Q false n):cAnd A B δ n Q:=ha _ (by show if false=true then _ else _;rw[if_neg Ae];exact q)
end
theorem jv4 {α:Type} {f:α->Aa} {P:α->Prop}:∀{ds:List Aa},(∀d∈ds,∃x,P x/\d=f x)->∃xs:List α,ds=xs.map f/\∀x∈xs,P x
 |[],_=>⟨[],rfl,λx hx=>by simp at hx⟩
 |d::r,h=>by
  obtain⟨x,hx,rfl⟩:=h d Ay;obtain⟨xs,rfl,hxs⟩:=jv4 λe he=>h e (Az _ he);exact⟨x::xs,rfl,λy hy=>(Ar.mp hy).elim (λe=>e▸hx) (hxs y)⟩
theorem jhi:∀ws n Q,jg2 ws n Q->ws.length=2:=λws n Q h=>by obtain⟨_,rfl,_⟩:=h;rfl
def NotI (m:Nat) (n0:Int) (ds:List Aa) (δ:Sl) (n:Int):Prop:=∃(ns:List Nt) (x y:Option SV),δ=[some (.w .tp),some (.w (.d (.int m))),some (.own (ns.map ntD)),x,y]/\ns.length+ds.length<=m/\(∀q∈ns,okQ q)/\n+6*(ds.length:Int)<=n0+100
theorem jgr:∀ws n Q,jg2 ws n Q->je5 (jat ["_law_tape_here","_law_most","_law_found","_law_k","_law_row_here"] ws) n {nx:=λ_ n=>Q (.d .none) n,rt:=Q}:=λws n0 Q h=>by
 obtain⟨m,rfl,hm,hn0,k⟩:=h;show je5 [some (.w .tp),some (.w (.d (.int m))),none,none,none] n0 _;refine jae (jb3 ?_);dsimp only[An];refine jae ?_;unfold sFor jak;refine jdc (m:=(m:Int)+1) rfl (λQ q=>w2_i (jab rfl (c_i q))) (by omega) (by omega) (by omega) λr r0 r1=>?_;refine Aj ⟨by omega,by omega⟩ ?_;have hr:r.toNat<=m:=by omega
 refine jaz (NotI m n0) (λδ n I=>?_) (λd r' δ n N I kN=>?_) _ _ _ ⟨[],none,none,rfl,by rw[ja4];simpa using hr,λd hd=>by simp at hd,by rw[ja4];omega⟩
 ·obtain⟨ns,x,y,rfl,hl,hns,hn⟩:=I;dsimp only;refine jd3 rfl ?_;dsimp only[An];exact ja2 (b1_i (jab rfl (je0 (k ns n ⟨by simpa using hl,hns⟩ (by simpa using hn)))))
 ·obtain⟨ns,x,y,rfl,hl,hns,hn⟩:=I;rw[Ao]at hl hn;dsimp only[jac,An];refine jae (show sSet 4 _ _ _ _ from b1_i (of_i ?_));unfold ja0;dsimp only;refine c1_i (jab rfl (Aj rfl ⟨by omega,λs s1 s4=>?_⟩));refine Aj ⟨by omega,by omega⟩ ?_;rw[Bp];refine jep (λv=>isV v=true) 1 (λd n Q' hn q=>c1_i (jab rfl (Aj rfl ⟨by omega,λv hv=>q v _ (jmy hv) (by omega)⟩))) _ [] none _ (by rw[ja4];omega) λrow n' hrl hrow hn'=>?_;rw[ja4]at hrl hn';rw[Bi];refine je0 ?_;dsimp only[An];refine jgt rfl (ja8 (jab rfl (j20 rfl (by omega) λv hv=>?_)));refine Aj (show 2<=1000 by decide) (Aj (by rw[Ab];omega) (kN _ _ ⟨ns++[(row,v)],_,_,by rw[Bb];rfl,by rw[Ak,As];omega,λe he=>?_,by omega⟩));rcases Bd.mp he with z | z
  ·exact hns e z
  ·rw[Bh]at z;subst z;exact⟨⟨by show row.length<=4;omega,hrow⟩,jwk hv⟩
theorem ji7:∀ws n Q,jod ws n Q->ws.length=1:=λws n Q h=>by obtain⟨rfl,_⟩:=h;rfl
theorem jhp:∀ws n Q,jod ws n Q->jgy (jat ["_law_tape_here","_law_programs"] ws) n {nx:=λ_ n=>Q (.d .none) n,rt:=Q}:=λws n0 Q h=>by
 obtain⟨rfl,hn0,k⟩:=h;show jgy [some (.w .tp),none] n0 _;refine jae (show sOwn 1 _ _ _ _ from ?_);unfold sOwn ja0 jak;refine w2_i (of_i (Aj (by decide) ?_));dsimp only;refine jdd (m:=8) rfl (by omega) (by decide) (by decide) λq q0 q1=>jbd (ds:=[.int 2,.int 1,.int 2,.int 3,.int 2,.int 1,.int 0,.int 5]) q0 q1 λd hd=>?_;have hj:∃j:Nat,j<=5/\d=.int j:=by
  simp only[Ar,Ax,or_false]at hd;rcases hd with rfl | rfl | rfl | rfl | rfl | rfl | rfl | rfl
  ·exact⟨2,by decide,rfl⟩
  ·exact⟨1,by decide,rfl⟩
  ·exact⟨2,by decide,rfl⟩
  ·exact⟨3,by decide,rfl⟩
  ·exact⟨2,by decide,rfl⟩
  ·exact⟨1,by decide,rfl⟩
  ·exact⟨0,by decide,rfl⟩
  ·exact⟨5,by decide,rfl⟩
 obtain⟨j,hj,rfl⟩:=hj;refine Aj ⟨by omega,by omega⟩ ?_;rw[Bp];refine jep (λd=>∃P,(okG P/\fst0 P)/\d=prD P) 600 (λd n Q' hn q=>c1_i (jab rfl (Aj rfl ⟨by omega,λP n' hP hP' hn'=>q (prD P) n' ⟨P,⟨hP,hP'⟩,rfl⟩ (by omega)⟩))) _ [] none _ (by rw[ja4];omega) λds n1 hpl hps0 hn1=>?_;rw[ja4]at hpl hn1;rw[Bi];obtain⟨ps,rfl,hps⟩:=jv4 hps0;clear hps0;rw[Ab]at hpl;dsimp only[An];have rest:∀(ps':Pg) (n2:Int),ps'.length<=5->(∀P∈ps',okG P/\fst0 P)->n2<=n1+1->sFrz 1 (sRet (wTup (jaa (wB jbi (jaa (wVar 1) aNil)) (jaa (jai jg2 (jaa (wVar 0) (jaa (w2 (wOf (fLst (jaa (wC (.int (4))) (jaa (wC (.int (3))) (jaa (wC (.int (6))) (jaa (wC (.int (12))) aNil)))))) (jai jas (jaa (wVar 0) (jaa (wC (.int (4))) aNil))) gIxL) aNil))) aNil)))) [some (.w .tp),some (.own (ps'.map prD))] n2 {nx:=λ_ n=>Q (.d .none) n,rt:=Q}:=λps' n2 hl' hp' hn2=>by
  refine jd3 rfl ?_;dsimp only[An];refine ja2 (ja8 (b1_i (jab rfl (je0 (c2_i (jab rfl (w2_i (of_i (Aj (by decide) ?_)))))))));dsimp only;refine jdd (m:=4) rfl (by omega) (by decide) (by decide) λr r0 r1=>jbd (ds:=[.int 4,.int 3,.int 6,.int 12]) r0 r1 λd hd=>?_;have hm:∃m:Nat,m<=12/\d=.int m:=by
   simp only[Ar,Ax,or_false]at hd;rcases hd with rfl | rfl | rfl | rfl
   ·exact⟨4,by decide,rfl⟩
   ·exact⟨3,by decide,rfl⟩
   ·exact⟨6,by decide,rfl⟩
   ·exact⟨12,by decide,rfl⟩
  obtain⟨m,hm,rfl⟩:=hm;exact D3 m ⟨rfl,hm,by omega,λns n' hns hn'=>Aj (show 2<=1000 by decide) (k ps' _ n' ⟨hl',λP hP=>(hp' P hP).1⟩ (λP hP=>(hp' P hP).2) ⟨A4 hns.1 hm,hns.2⟩ (by omega))⟩
 refine jae (if_i ?_);refine(show cT _ _ _ _ from w2_i (b1_i (jda rfl (j1h (c_i (eqLi ?_))))));rw[Ab];show if decide ((ps.length:Int)=2)=true then _ else _
 by_cases h2:(ps.length:Int)=2
 ·rw[if_pos (decide_eq_true h2)];refine w2_i (jdd (m:=4) rfl (by omega) (by decide) (by decide) λq q0 q1=>c_i (eqLi ?_));show if decide (q=0)=true then _ else _
  by_cases hq:q=0
  ·rw[if_pos (decide_eq_true hq)];have hl2:ps.length=2:=by omega
   obtain⟨P,P',rfl⟩:∃P P',ps=[P,P']:=by
    match ps,hl2 with
    |[P,P'],_=>exact⟨P,P',rfl⟩
   refine(show sPut 1 _ _ _ _ _ from w2_i (jda rfl (c_i ?_)));refine(show gIxL (.ln [prD P,prD P']) (.d (.int 0)) _ _ from ?_);refine rest [P,P] _ (show 2<=5 by decide) (λR hR=>?_) (by omega);simp only[Ar,Ax,or_false,or_self]at hR;subst hR;exact hps _ Ay
  ·rw[if_neg (by simpa using hq)];exact rest ps _ (by omega) hps (by omega)
 ·rw[if_neg (by simpa using h2)];exact rest ps _ (by omega) hps (by omega)
theorem addI {i j n:Int} {Q:DQ} (k:Q (.d (.int (i+j))) n):gI0 (λi j=>.int (i+j)) (.d (.int i)) (.d (.int j)) n Q:=k
theorem j23 (as:List Ac) (h:∀a∈as,okA a):(as.flatMap Ac.bs).length<=4*as.length:=by
 induction as with
 |nil=>exact Bn _
 |cons a r ih =>
  rw[List.flatMap_cons,Ak,Ao];have:=(j22 (h a Ay).1).2;have:=ih λb hb=>h b (Az _ hb);omega
theorem j1l {b:Bl} (ob:okB b) (p:Nat):(kn b.1 b.2 p).length<=36:=by
 unfold kn;rw[Ak];have:=j23 (b.2.take p) λa ha=>ob.2.2.2.1 a (List.mem_of_mem_take ha);have:=List.length_take_le p b.2;have:=ob.1;have:=ob.2.2.1;have:=List.length_take_le' p b.2;omega
theorem jdk {δ:Sl} {n:Int} {Q:DQ} {u:DTT} {v w:DT} {b:Bool} (hu:∀Q:Bool->Int->Prop,Q b n->u δ n Q) (k:if b=true then v δ n Q else w δ n Q):wIf u v w δ n Q:=hu _ k
theorem jd5 {α:Type} {c:DTT} {w:DT} {Q:List Aa->Int->Prop} {rest:Sl} (f g:α->Aa) (p:α->Bool):∀(xs:List α) (acc:List Aa) (x:Option SV) (n:Int),(∀a∈xs,∀(n:Int) (Q':Bool->Int->Prop),Q' (p a) n->c (some (.w (.d (f a)))::rest) n Q')->(∀a∈xs,∀(n:Int) (Q':DQ),Q' (.d (g a)) n->w (some (.w (.d (f a)))::rest) n Q')->Q (acc++(xs.filter p).map g) n->jbf (jac 0) c w Q (xs.map f) acc (x::rest) n
 |[],acc,x,n,_,_,q=>by rw[List.filter_nil,Ei,Bo]at q;exact q
 |a::r,acc,x,n,hp,h,q=>by
  simp only[Be,jbf,jac,Fq];refine hp a Ay n _ ?_;cases e:p a with
  |true =>
   simp only[if_true];refine h a Ay n _ (jd5 f g p r (acc++[g a]) _ n (λb hb=>hp b (Az _ hb)) (λb hb=>h b (Az _ hb)) ?_);rw[B5,if_pos e,Be]at q;rw[Bk];exact q
  |false =>
   simp only[C4,if_false];refine jd5 f g p r acc _ n (λb hb=>hp b (Az _ hb)) (λb hb=>h b (Az _ hb)) ?_;rw[B5,if_neg (by rw[e];exact Ae)]at q;exact q
structure HandAt (ps:Pg) (hs:List Hn) (h:Nat) (P:List Bl) (xb xp:Nat) (nm:Nm) (w:List Str) (as:List Ac):Prop where
 prog:ps[h]?=some P
 hand:hs[h]?=some (xb,xp,nm)
 blk:P[xb]?=some (w,as)
 hn:okHn (w,as) (xb,xp,nm)
theorem jdm {ps:Pg} {hs:List Hn} (ok:okHs ps hs) {h:Nat} (hh:h < ps.length):∃P xb xp nm w as,HandAt ps hs h P xb xp nm w as:=by
 have hP:ps[h]?=some ps[h]:=Af hh;obtain⟨⟨xb,xp,xn⟩,⟨w,as⟩,e1,e2,e3⟩:=ok.2 h _ hP;exact⟨_,xb,xp,xn,w,as,hP,e1,e2,e3⟩
section
variable {ps:Pg} {hs:List Hn} {h:Nat} {P:List Bl} {xb xp:Nat} {nm:Nm} {w:List Str} {as:List Ac}
theorem HandAt.act (H:HandAt ps hs h P xb xp nm w as):actO ps hs h=as[xp]?:=by
 unfold actO;rw[H.prog,H.hand];show(P[xb]?.bind λb=>b.2[xp]?)=_;rw[H.blk];rfl
theorem HandAt.nms (H:HandAt ps hs h P xb xp nm w as):okN nm:=H.hn.n
theorem HandAt.nmq (H:HandAt ps hs h P xb xp nm w as):nmO hs h=nm:=by unfold nmO;rw[H.hand];rfl
theorem HandAt.ok (H:HandAt ps hs h P xb xp nm w as) (ok:okPg ps) {a:Ac} (e:actO ps hs h=some a):okA a:=by
 rw[H.act]at e;have hP:=(ok.2 P (A7 H.prog)).2.2 (w,as) (A7 H.blk);exact hP.1.2.2.2.1 a (A7 e)
theorem HandAt.hD (H:HandAt ps hs h P xb xp nm w as):(hs.map hnD)[h]?=some (.tuple [.int xb,.int xp,jbb nm]):=by rw[A0,H.hand];rfl
theorem HandAt.pD (H:HandAt ps hs h P xb xp nm w as):(ps.map prD)[h]?=some (.tuple (P.map blD)):=by rw[A0,H.prog];rfl
theorem HandAt.bD (H:HandAt ps hs h P xb xp nm w as):(P.map blD)[xb]?=some (.tuple [jbo w,.tuple (as.map Ac.d)]):=by rw[A0,H.blk];rfl
end
theorem jy0 {δ:Sl} {n:Int} {Q:DQ} {i j xp:Nat} {as:List Ac} (e4:δ[j]?=some (some (.w (.d (.int xp))))) (e5:δ[i]?=some (some (.w (.d (.tuple (as.map Ac.d)))))) (k:Q (.d (acD as[xp]?)) n):wIf (cT (w2 (wVar j) (wB gLen (jaa (wVar i) aNil)) gLt)) (w2 (wVar i) (wVar j) gIx) (wC .none) δ n Q:=by
 refine jdk (b:=decide ((xp:Int) < ((as.map Ac.d).length:Nat))) (λQ q=>ct_b (λQ q=>w2_i (jab e4 (b1_i (jab e5 (lt_i q))))) q) ?_;rw[Ab];by_cases z:(xp:Int) < (as.length:Nat)
 ·rw[if_pos (decide_eq_true z)];have zl:xp < as.length:=by omega
  have ha:(as.map Ac.d)[xp]?=some (Ac.d as[xp]):=by rw[A0,Af zl];rfl
  rw[Af zl]at k;exact w2_i (jab e5 (jab e4 (gN_i ha k)))
 ·rw[if_neg (by simpa using z)];rw[List.getElem?_eq_none (by omega)]at k;exact c_i k
theorem jkg:∀ws n Q,jeb ws n Q->ws.length=3:=λws n Q h=>by obtain⟨_,_,_,_,rfl,_⟩:=h;rfl
theorem jek:∀ws n Q,jeb ws n Q->ws.length=3:=jkg
theorem jd8:∀ws n Q,jeb ws n Q->jcx (jat ["_law_programs","_law_stand","_law_hand","_law_block","_law_place","_law_names","_law_acts"] ws) n {nx:=λ_ n=>Q (.d .none) n,rt:=Q}:=λws n Q h=>by
 obtain⟨ps,hs,ns,h,rfl,hok,hh,k⟩:=h;obtain⟨P,xb,xp,nm,w,as,H⟩:=jdm hok hh;rw[H.act]at k;show jcx [some (.w (.d (pgD ps))),some (.w (.d (stD hs ns))),some (.w (.d (.int h))),none,none,none,none] n _;refine jae ?_;unfold sUnp;refine w2_i (w2_i (jab rfl (c_i (g0_i (jab rfl (gN_i H.hD ?_))))));refine Aj rfl ?_;dsimp only[jaj,ja3,jac,An];refine jae (jar (x:=.tuple (as.map Ac.d)) (λQ q=>w2_i (w2_i (w2_i (jab rfl (jab rfl (gN_i H.pD (jab rfl (gN_i H.bD (c_i (g1_i q)))))))))) ?_);dsimp only[An];exact ja2 (jy0 rfl rfl k)
section
variable {δ:Sl} {n:Int} {K:DEnds} {a v:Aa} {r:List Aa} {x:Str} {hp:Nm} {hs:List Str} {W V:DST}
theorem jwa {b:Bool} (e:δ[8]?=some (some (.w (.d (.bool b))))) (kT:b=true->K.nx δ n) (kF:b=false->K.rt (.d .none) n):sIf (cNot (cT (wVar 8))) (sRet (wC .none)) jap δ n K:=by
 refine if_i (jh9 (k:=b) (λQ q=>ct_b (λQ q=>jab e q) q) ?_);cases b with
 |true=>exact kT rfl
 |false=>exact kF rfl
def knB (hp:Nm) (x:Str) (v:Aa):Bool:=((look hp x).map λw=>eqB w v).getD false
theorem jv6 (e5:δ[5]?=some (some (.w (.d (.tuple (a::.str x::r)))))) (e3:δ[3]?=some (some (.odk (txK hp)))) (e6:δ[6]?=some (some (.w (.d v)))) (hv:isV v=true) (hok:∀p∈hp,okV p) (k:K.nx (δ.set 8 (some (.w (.d (.bool (knB hp x v)))))) n) :
  sSet 8 (wAnd (w2 (w2 (wVar 5) (wC (.int 1)) gIx) (jee 3) (gDIn false)) (w2 (w2 (jee 3) (w2 (wVar 5) (wC (.int 1)) gIx) jfg) (wVar 6) gEq)) δ n K:=by
 unfold sSet wAnd;refine w2_i (jff e5 ?_);have pk:∀(n:Int) (Q:DQ),Q (.dk (txK hp)) n->jee 3 δ n Q:=λn Q q=>by unfold jee;rw[e3];exact q
 refine pk _ _ ?_;show jmk (.d (.bool (valD (txK hp) (.inr x)).isSome)) _ _;rw[jj0];unfold knB at k;cases q:look hp x with
 |none=>rw[q]at k;exact k
 |some w =>
  rw[q]at k;rw[Option.isSome_some,jst,if_pos rfl];refine w2_i (w2_i (pk _ _ (jff e5 ?_)));unfold jfg;simp only[jj0,q];refine jab e6 ?_;unfold gEq;simp only[j2g (hok _ (jf7 q)).2 hv];exact k
theorem j1k {l:List (Fd×Aa)} {g:Fd} (hg:g=.as x\/g=.bind x/\x∈hs):wk ((g,v)::l) hp hs=if knB hp x v=true then wk l hp hs else none:=by
 unfold knB;rcases hg with rfl | ⟨rfl,hx⟩
 ·rw[wk];cases q:look hp x with
  |none=>rw[Option.map_none,Option.getD_none,if_neg Ae]
  |some w=>rw[Option.map_some,Option.getD_some]
 ·rw[wk,if_pos hx];cases q:look hp x with
  |none=>rw[Option.map_none,Option.getD_none,if_neg Ae]
  |some w=>rw[Option.map_some,Option.getD_some]
theorem inv2 {s a b:Str} {k:Bool} {Q:Bool->Int->Prop} {i:Nat} (e:δ[i]?=some (some (.w (.d (.str s))))) (h:inD (.str s) [.str a,.str b]=k) (q:Q k n):cT (w2 (wVar i) (wTup (jaa (wC (.str a)) (jaa (wC (.str b)) aNil))) (gIn false)) δ n Q:=by
 refine w2_i (jab e ?_);show 2<=1000/\jcs (.str s)=true/\_/\Q (inD (.str s) [.str a,.str b]) n;exact⟨by decide,rfl,rfl,by rw[h];exact q⟩
theorem j25 (s:Str) (e7:δ[7]?=some (some (.w (.d (.str s))))) (h1:jaf "as" (.str s)=false) (h2:jaf "bind" (.str s)=false) (hF:V δ n K) :
  sIf (cOr (cT (w2 (wVar 7) (wC (.str "as")) gEq)) (cAnd (cT (w2 (wVar 7) (wC (.str "bind")) gEq)) (cT (jht 4 (w2 (wVar 5) (wC (.int 1)) gIx))))) W V δ n K:=by
 refine if_n (λQ q=>jfi (λQ q=>jd4 e7 ?_) (jla (λQ q=>jd4 e7 ?_) q)) hF
 ·show Q (jaf "as" (.str s)) n;rw[h1];exact q
 ·show Q (jaf "bind" (.str s)) n;rw[h2];exact q
theorem j26 (e7:δ[7]?=some (some (.w (.d (.str "bind"))))) (e5:δ[5]?=some (some (.w (.d (.tuple [.str "bind",.str x]))))) (e4:δ[4]?=some (some (.own (hs.map .str)))) (hT:x∈hs->W δ n K) (hF:x∉hs->V δ n K) :
  sIf (cOr (cT (w2 (wVar 7) (wC (.str "as")) gEq)) (cAnd (cT (w2 (wVar 7) (wC (.str "bind")) gEq)) (cT (jht 4 (w2 (wVar 5) (wC (.int 1)) gIx))))) W V δ n K:=by
 refine if_i (jfi (λQ q=>jd4 e7 ?_) (jk9 (λQ q=>jd4 e7 ?_) ?_))
 ·show Q (jaf "as" (.str "bind")) n;rw[jo8];exact q
 ·show Q (jaf "bind" (.str "bind")) n;rw[je2];exact q
 ·unfold cT jht;refine jff e5 ?_;rw[e4];refine⟨rfl,jgj hs,?_⟩;show if inD (.str x) (hs.map .str)=true then _ else _
  rw[jgf];exact j2j hT hF
end
theorem j2b {δ:Sl} {n:Int} {K:DEnds} {W:DST} {i:Nat} {kvs:List (Key×Aa)} (e:δ[i]?=some (some (.odk kvs))) (k:W (δ.set i (some (.w (.ob (.k kvs))))) n K):sFrz i W δ n K:=by
 unfold sFrz;rw[e];exact k
def resW:Option Nm->Wv
 |none=>.d .none
 |some h=>.ob (.k (txK h))
theorem jyd {fs:List Fd} {row:List Aa} {nm:Nm} (h:¬fs.length=row.length):fitW fs row nm=.d .none:=by
 unfold fitW fitB;rw[decide_eq_false h,if_neg (by rw[Bool.false_and];exact Ae)]
theorem jye {fs:List Fd} {row:List Aa} {nm:Nm} (h:fs.length=row.length):fitW fs row nm=resW (wk (fs.zip row) nm []):=by
 unfold fitW fitB wkN;rw[decide_eq_true h,Bool.true_and];cases wk (fs.zip row) nm []with
 |none=>rw[if_neg (by rw[Option.isSome_none];exact Ae)];rfl
 |some x=>rw[if_pos (show(some x).isSome=true from rfl)];rfl
theorem jkl:∀ws n Q,joj ws n Q->ws.length=3:=λws n Q h=>by obtain⟨_,_,_,rfl,_⟩:=h;rfl
theorem jjp:∀ws n Q,joj ws n Q->jeu (jat ["_law_pattern_here","_law_row_here","_law_names","_law_has","_law_mine","_law_field","_law_value_here","_law_word","_law_good"] ws) n {nx:=λ_ n=>Q (.d .none) n,rt:=Q}:=λws n Q h=>by
 obtain⟨fs,row,nm,rfl,okp,okr,okn,k⟩:=h;show jeu [some (.w (.d (patD fs))),some (.w (.d (.tuple row))),some (.w (.d (jbb nm))),none,none,none,none,none,none] n {nx:=λ_ n=>Q (.d .none) n,rt:=Q};unfold jeu;refine jae (j1y (xs:=fs.map Fd.d) (ys:=row) rfl rfl (λne=>?_) λel=>?_)
 ·show Q (.d .none) n;rw[Ab]at ne;rw[jyd ne]at k;exact k
 ·rw[Ab]at el;rw[jye el]at k;dsimp only[jap];refine jae (jni rfl okn ?_);dsimp only[An];refine jae (jb3 ?_);dsimp only[An];refine jae (jyc (xs:=fs.map Fd.d) (ys:=row) rfl rfl (by rw[Ab];exact el) ?_);refine jaz (λds δ m=>m=n/\∃(gs:List Fd) (vs:List Aa) (hp:Nm) (hs:List Str) (y z u t:Option SV),ds=zipD (gs.map Fd.d) vs/\gs.length=vs.length/\δ=[some (.w (.d (patD fs))),some (.w (.d (.tuple row))),some (.w (.d (jbb nm))),some (.odk (txK hp)),some (.own (hs.map .str)),y,z,u,t] /\
   (∀g∈gs,g.ok)/\(∀d∈vs,isV d=true)/\(hp.map (·.1)).Nodup/\(∀p∈hp,okV p)/\hp.length+gs.length<=48/\hs.length+gs.length<=48/\Q (resW (wk (gs.zip vs) hp hs)) n) ?_ ?_ _ _ _ ?_
  ·rintro δ m ⟨rfl,gs,vs,hp,hs,y,z,u,t,e,hl,rfl,gok,vok,nd,hok,l1,l2,kq⟩
   have:gs=[]:=by
    cases gs with
    |nil=>rfl
    |cons g gs=>cases vs with | nil=>cases hl | cons v vs=>cases e
   subst this;dsimp only;refine j2b rfl ?_;dsimp only[An];exact ja2 (jab rfl (show Q (.ob (.k (txK hp))) m from kq))
  ·rintro d r δ m N ⟨rfl,gs,vs,hp,hs,y,z,u,t,e,hl,rfl,gok,vok,nd,hok,l1,l2,kq⟩ hN
   cases gs with
   |nil=>cases e
   |cons g gs =>
    cases vs with
    |nil=>cases hl
    |cons v vs =>
     have e1:d=.tuple [g.d,v]:=by have:=congrArg (λl=>l.head?) e;simpa[zipD]using this
     have e2:r=zipD (gs.map Fd.d) vs:=by have:=congrArg List.tail e;simpa[zipD]using this
     subst e1 e2;rw[Ao]at l1 l2;rw[Ao,Ao]at hl;have gk:=gok g Ay;have vk:=vok v Ay;rw[List.zip_cons_cons]at kq;have no:(wk ((g,v)::gs.zip vs) hp hs=none)->Q (.d .none) m:=λw=>by rw[w]at kq;exact kq
     have go:∀(hp':Nm) (hs':List Str) (y z u t:Option SV),wk ((g,v)::gs.zip vs) hp hs=wk (gs.zip vs) hp' hs'->(hp'.map (·.1)).Nodup->(∀p∈hp',okV p)->hp'.length<=hp.length+1->hs'.length<=hs.length+1 ->
       N [some (.w (.d (patD fs))),some (.w (.d (.tuple row))),some (.w (.d (jbb nm))),some (.odk (txK hp')),some (.own (hs'.map .str)),y,z,u,t] m:=λhp' hs' y z u t hw a1 a2 a3 a4 =>
      hN _ _ ⟨rfl,gs,vs,hp',hs',y,z,u,t,rfl,by omega,rfl,λg hg=>gok g (Az _ hg),λd hd=>vok d (Az _ hd),a1,a2,by omega,by omega,by rw[<-hw];exact kq⟩
     have fin:∀(b:Bool) (y z u:Option SV) (hw:wk ((g,v)::gs.zip vs) hp hs=if b=true then wk (gs.zip vs) hp hs else none),sIf (cNot (cT (wVar 8))) (sRet (wC .none)) jap [some (.w (.d (patD fs))),some (.w (.d (.tuple row))),some (.w (.d (jbb nm))),some (.odk (txK hp)),some (.own (hs.map .str)),y,z,u,some (.w (.d (.bool b)))] m {nx:=N,ct:=N,bk:=λδ n_1=>sFrz 3 (sRet (wVar 3)) δ n_1 {nx:=λ_ n=>Q (.d .none) n,rt:=Q},rt:=Q}:=λb y z u hw =>
      jwa rfl (λz'=>go hp hs _ _ _ _ (by rw[hw,if_pos z']) nd hok (by omega) (by omega)) (λz'=>no (by rw[hw,if_neg (by rw[z'];exact Ae)]))
     refine⟨rfl,?_⟩;dsimp only[jaj,jac,ja3,An];refine jae (jar (x:=.str g.hd) (λQ q=>jkt (r:=g.tl) (by rw[Fd.parts];rfl) q) ?_);dsimp only[An];refine jae (jar (x:=.bool true) (λQ q=>c_i q) ?_);dsimp only[An];cases g with
     |any =>
      refine jae (jo4 (d:=.str "any") rfl jry (if_n (λQ q=>inv2 (s:="any") rfl (by decide +kernel) q) (j25 "any" rfl (by decide +kernel) (by decide +kernel) (jo4 (d:=.str "any") rfl (by decide +kernel) ?_))));dsimp only[jap];exact fin true _ _ _ (by rw[wk,if_pos rfl])
     |is w =>
      refine jae (j1u (d:=.str "is") rfl jjb (jar (x:=.bool (eqB w v)) (λQ q=>w2_i (jff (a:=.str "is") (b:=w) (r:=[]) rfl (jab rfl ?_))) ?_))
      ·unfold gEq;simp only[j2g (show isV w=true from gk) vk];exact q
      dsimp only[An];exact fin _ _ _ _ (by rw[wk])
     |word =>
      refine jae (jo4 (d:=.str "word") rfl jo6 (if_y (λQ q=>inv2 (s:="word") rfl (by decide +kernel) q) (jar (x:=.bool (isSt v)) (λQ q=>w2_i ?_) ?_)))
      ·unfold wIsi;refine jab rfl (jd4 (d:=.str "word") rfl ?_);rw[jk0];cases v with
       |str s=>rw[jel];exact q
       |int i=>rw[jel];exact q
       |_=>cases vk
      dsimp only[An];exact fin _ _ _ _ (by rw[wk])
     |number =>
      refine jae (jo4 (d:=.str "number") rfl jk1 (if_y (λQ q=>inv2 (s:="number") rfl (by decide +kernel) q) (jar (x:=.bool (isIn v)) (λQ q=>w2_i ?_) ?_)))
      ·unfold wIsi;refine jab rfl (jd4 (d:=.str "number") rfl ?_);rw[jhk];cases v with
       |str s=>rw[jel];exact q
       |int i=>rw[jel];exact q
       |_=>cases vk
      dsimp only[An];exact fin _ _ _ _ (by rw[wk])
     |as x =>
      refine jae (jo4 (d:=.str "as") rfl jjc (if_n (λQ q=>inv2 (s:="as") rfl (by decide +kernel) q) (if_y (λQ q=>jpb (λQ q=>jd4 (d:=.str "as") rfl ?_) q) (jv6 (a:=.str "as") (x:=x) (r:=[]) rfl rfl rfl vk hok ?_))))
      ·show Q (jaf "as" (.str "as")) m;rw[jug];exact q
      dsimp only[An];exact fin _ _ _ _ (j1k (.inl rfl))
     |bind x =>
      refine jae (jo4 (d:=.str "bind") rfl jo7 (if_n (λQ q=>inv2 (s:="bind") rfl (by decide +kernel) q) (j26 (hs:=hs) rfl rfl rfl (λhx=>jv6 (a:=.str "bind") (x:=x) (r:=[]) rfl rfl rfl vk hok ?_) λhx=>j1u (d:=.str "bind") rfl je2 ?_)))
      ·dsimp only[An];exact fin _ _ _ _ (j1k (.inr ⟨rfl,hx⟩))
      ·refine jae ?_;unfold jtj;refine(show(match some (some (SV.odk (txK hp)))with | some (some (.odk kvs))=>_ | _=>False)from ?_);refine jab rfl (jff (a:=.str "bind") (b:=.str x) (r:=[]) rfl ⟨by unfold txK;rw[Ab];omega,?_⟩);rw[jvv];dsimp only[An];refine jhs (x:=.str x) (es:=hs.map .str) rfl (λQ q=>jff (a:=.str "bind") (b:=.str x) (r:=[]) rfl q) (by rw[Ab];omega) ?_;dsimp only[An];have:=go (put hp x v) (hs++[x]) (some (.w (.d (.tuple [.str "bind",.str x])))) (some (.w (.d v))) (some (.w (.d (.str "bind")))) (some (.w (.d (.bool true)))) (by rw[wk,if_neg hx]) (jvw nd) (jqu hok gk vk) (jqv _ _ _) (by rw[Ak];exact Al _);rw[Bb]at this;exact jwa (b:=true) rfl (λ_=>this) (λz=>by cases z)
  ·exact⟨rfl,fs,row,nm,[],none,none,none,none,rfl,el,rfl,okp.2.2,okr.2,okn.2.1,okn.2.2,by have:=okp.2.1;have:=okn.1;omega,by have:=okp.2.1;simpa using A4 this (by decide),k⟩
theorem jm9 (k:Int) (m:Nat):rngD k (m+1)=.int k::rngD (k+1) m:=by
 unfold rngD;rw[List.range_succ_eq_map,Be,Ct]
 congr 1
 ·rw[show((0:Nat):Int)=0 from rfl,Int.add_zero]
 ·refine B7 λi _=>?_;show E8 (k+((i+1:Nat):Int))=.int (k+1+(i:Int));have:k+((i+1:Nat):Int)=k+1+(i:Int):=by omega
  rw[this]
theorem fd_d {f:Fe} (h:f.pt=true):(Fe.fd f).d=f.d:=by cases f<;>first | rfl | cases h
theorem jk3 {fs:List Fe} (ok:okFs fs) (h:patO fs):fsD fs=patD (fs.map Fe.fd)/\okP (fs.map Fe.fd):=by
 refine⟨?_,by rw[Ab];exact h.1,by rw[Ab];exact ok.1,λg hg=>?_⟩
 ·unfold fsD patD;rw[Ct]
  congr 1
  exact B7 λf hf=>(fd_d (h.2 f hf)).symm
 ·obtain⟨f,hf,rfl⟩:=Bf.mp hg;have:=ok.2 f hf;cases f<;>first | exact this | trivial
theorem j28 {a:Ac} (h:a.pf=none):a.wt=false/\∃s r,a.d=.tuple (.str s::r)/\inD (.str s) [.str "take",.str "read",.str "look"]=false/\inD (.str s) [.str "take",.str "read"]=false:=by
 cases a with
 |lay fs age=>exact⟨rfl,"lay",_,rfl,by decide +kernel,by decide +kernel⟩
 |same f g b=>exact⟨rfl,"same",_,rfl,by decide +kernel,by decide +kernel⟩
 |go b=>exact⟨rfl,"go",_,rfl,by decide +kernel,by decide +kernel⟩
 |take fs=>cases h
 |read fs=>cases h
 |look fs b=>cases h
theorem jwl {a:Ac} {fs:List Fd} (h:a.pf=some fs) (ok:okA a):okP fs/\∃s r,a.d=.tuple (.str s::patD fs::r)/\inD (.str s) [.str "take",.str "read",.str "look"]=true/\inD (.str s) [.str "take",.str "read"]=a.wt:=by
 cases a with
 |lay fs age=>cases h
 |same f g b=>cases h
 |go b=>cases h
 |take gs =>
  cases h;obtain⟨e,o⟩:=jk3 (fs:=gs) ok.1 ok.2;exact⟨o,"take",[],by rw[<-e];rfl,by decide +kernel,show inD (.str "take") [.str "take",.str "read"]=true by decide +kernel⟩
 |read gs =>
  cases h;obtain⟨e,o⟩:=jk3 (fs:=gs) ok.1 ok.2;exact⟨o,"read",[],by rw[<-e];rfl,by decide +kernel,show inD (.str "read") [.str "take",.str "read"]=true by decide +kernel⟩
 |look gs b =>
  cases h;obtain⟨e,o⟩:=jk3 (fs:=gs) ok.1 ok.2;exact⟨o,"look",[.int b],by rw[<-e];rfl,by decide +kernel,show inD (.str "look") [.str "take",.str "read"]=false by decide +kernel⟩
theorem jny {fs:List Fd} {nm:Nm} {q:Nt} {r:List Nt}:fstO fs nm (q::r)=if fitB fs q.1 nm=true then some 0 else(fstO fs nm r).map (·+1):=by
 unfold fstO;rw[D5]
section
variable {δ:Sl} {n:Int} {Q:DQ} {K:DEnds} {W V:DST} {i:Nat}
theorem jja {neg:Bool} {a:Aa} (k:Q (.d (.bool (if neg then !jb4 a else jb4 a))) n):gIsN neg (.d a) (.d .none) n Q:=k
theorem jgd {neg:Bool} {a:Aa} (k:Q (.d (.bool (if neg then !jb4 a else jb4 a))) n):gIsO neg (.d a) (.d .none) n Q:=.inr k
theorem jub {neg:Bool} {o:Ob} (k:Q (.d (.bool neg)) n):gIsO neg (.ob o) (.d .none) n Q:=.inl ⟨o,rfl,rfl,k⟩
theorem jv3 {s a b c:Str} {r:List Aa} {k:Bool} {Q:Bool->Int->Prop} (e:δ[i]?=some (some (.w (.d (.tuple (.str s::r)))))) (h:inD (.str s) [.str a,.str b,.str c]=k) (q:Q (!k) n):cT (w2 (w2 (wVar i) (wC (.int 0)) gIx) (wTup (jaa (wC (.str a)) (jaa (wC (.str b)) (jaa (wC (.str c)) aNil)))) (gIn true)) δ n Q:=by
 refine w2_i (jkt e ?_);show 3<=1000/\jcs (.str s)=true/\_/\Q (!inD (.str s) [.str a,.str b,.str c]) n;exact⟨by decide,rfl,rfl,by rw[h];exact q⟩
theorem j09 {s a b:Str} {r:List Aa} {k:Bool} (e:δ[i]?=some (some (.w (.d (.tuple (.str s::r)))))) (h:inD (.str s) [.str a,.str b]=k) (q:Q (.d (.bool !k)) n):w2 (w2 (wVar i) (wC (.int 0)) gIx) (wTup (jaa (wC (.str a)) (jaa (wC (.str b)) aNil))) (gIn true) δ n Q:=by
 refine w2_i (jkt e ?_);show 2<=1000/\jcs (.str s)=true/\_/\Q (.d (.bool !inD (.str s) [.str a,.str b])) n;exact⟨by decide,rfl,rfl,by rw[h];exact q⟩
theorem jt1 {ps:Pg} {hs:List Hn} {ns:List Nt} {h i j l:Nat} (e0:δ[i]?=some (some (.w (.d (pgD ps))))) (e1:δ[j]?=some (some (.w (.d (stD hs ns))))) (e2:δ[l]?=some (some (.w (.d (.int h))))) (ok:okHs ps hs) (hh:h < ps.length) (k:Q (.d (acD (actO ps hs h))) n):jai jeb (jaa (wVar i) (jaa (wVar j) (jaa (wVar l) aNil))) δ n Q :=
 c3_i (jab e0 (jab e1 (jab e2 ⟨ps,hs,ns,h,rfl,ok,hh,k⟩)))
end
theorem setw {δ:Sl} {n:Int} {K:DEnds} {i:Nat} {w:DT} {fs:List Fd} {row:List Aa} {nm:Nm} (h:∀Q:DQ,Q (fitW fs row nm) n->w δ n Q) (k:K.nx (δ.set i (some (.w (fitW fs row nm)))) n):sSet i w δ n K:=by
 refine h _ ?_
 revert k
 unfold fitW
 split<;>exact id
theorem sets {δ:Sl} {n:Int} {K:DEnds} {i:Nat} {w:DT} {o:Option (Nat×Nm)} (h:∀Q:DQ,Q (gotW o) n->w δ n Q) (k:K.nx (δ.set i (some (.w (gotW o)))) n):sSet i w δ n K:=by
 refine h _ ?_;cases o<;>exact k
theorem j4c (ps:Pg) (hs:List Hn) (ns:List Nt) (h:Nat):(gotP ps hs ns h).map (·.1)=gotO ps hs ns h:=by
 unfold gotP gotO;cases actO ps hs h with
 |none=>rfl
 |some a =>
  show((a.pf.bind _).map _)=a.pf.bind _;cases a.pf with
  |none=>rfl
  |some fs =>
   show((fstO fs (nmO hs h) ns).map _).map _=fstO fs (nmO hs h) ns;rw[Option.map_map];exact Option.map_id'
theorem jkk:∀ws n Q,jmo ws n Q->ws.length=3:=λws n Q h=>by obtain⟨_,_,_,_,rfl,_⟩:=h;rfl
theorem jjo:∀ws n Q,jmo ws n Q->jic (jat ["_law_programs","_law_stand","_law_hand","_law_act_here","_law_place","_law_has"] ws) n {nx:=λ_ n=>Q (.d .none) n,rt:=Q}:=λws n Q h=>by
 obtain⟨ps,hs,ns,h,rfl,⟨okp,okh,okn⟩,hh,k⟩:=h;obtain⟨P,xb,xp,nm,w,as,H⟩:=jdm okh hh;unfold gotP at k;rw[H.nmq]at k;show jic [some (.w (.d (pgD ps))),some (.w (.d (stD hs ns))),some (.w (.d (.int h))),none,none,none] n _;refine jae (jar (λQ q=>jt1 rfl rfl rfl okh hh q) ?_);dsimp only[An];cases ea:actO ps hs h with
 |none =>
  rw[ea]at k;exact jae (if_y (λQ q=>jpb (λQ q=>ct_b (k:=true) (λQ q=>w2_i (jab rfl (c_i (jgd q)))) q) q) (ja2 (c_i k)))
 |some a =>
  rw[ea]at k;have k:Q (gotW (a.pf.bind λfs=>(fstO fs nm ns).map λi=>(i,wkN fs (rowO ns i) nm))) n:=k;have oa:=H.ok okp ea;show sSeq _ _ [some (.w (.d (pgD ps))),some (.w (.d (stD hs ns))),some (.w (.d (.int h))),some (.w (.d a.d)),none,none] n _;cases ef:a.pf with
  |none =>
   rw[ef]at k;obtain⟨_,s,r,e,h1,_⟩:=j28 ef;rw[e];exact jae (if_y (λQ q=>jfi (λQ q=>ct_b (k:=false) (λQ q=>w2_i (jab rfl (c_i (jgd q)))) q) (jv3 rfl h1 q)) (ja2 (c_i k)))
  |some fs =>
   rw[ef]at k;have k:Q (gotW ((fstO fs nm ns).map λi=>(i,wkN fs (rowO ns i) nm))) n:=k;obtain⟨of,s,r,e,h1,_⟩:=jwl ef oa;rw[e];refine jae (if_n (λQ q=>jfi (λQ q=>ct_b (k:=false) (λQ q=>w2_i (jab rfl (c_i (jgd q)))) q) (jv3 rfl h1 q)) ?_);dsimp only[jap];refine jae ?_;unfold sFor jak;refine b1_i (w2_i (jab rfl (c_i (g1_i ?_))));refine Aj ⟨by omega,by rw[Ab];have:=okn.1;omega⟩ ?_;rw[Bp,Ab];refine jaz (λds δ m=>m=n/\∃(dn re:List Nt) (x6 x7:Option SV),ds=rngD (dn.length:Nat) re.length/\dn++re=ns/\δ=[some (.w (.d (pgD ps))),some (.w (.d (stD hs ns))),some (.w (.d (.int h))),some (.w (.d (.tuple (.str s::patD fs::r)))),x6,x7] /\
    Q (gotW ((fstO fs nm re).map λi=>(i+dn.length,wkN fs (rowO ns (i+dn.length)) nm))) n) (λδ m I=>?_) (λd r' δ m N I kN=>?_) _ _ _ ⟨rfl,[],ns,none,none,rfl,rfl,rfl,?_⟩
   ·obtain⟨rfl,dn,re,x6,x7,ed,en,rfl,kq⟩:=I;have:re=[]:=by
     cases re with
     |nil=>rfl
     |cons q re=>rw[Ao,jm9]at ed;cases ed
    subst this;exact(show Q (.d .none) m from kq)
   ·obtain⟨rfl,dn,re,x6,x7,ed,en,rfl,kq⟩:=I;cases re with
    |nil=>cases ed
    |cons q re =>
     rw[Ao,jm9]at ed;obtain⟨rfl,rfl⟩:=List.cons.inj ed;have hq:ns[dn.length]?=some q:=by rw[<-en];simp
     have oq:=okn.2 q (A7 hq);have hq':(ns.map ntD)[dn.length]?=some (.tuple [.tuple q.1,q.2]):=by rw[A0,hq];rfl
     dsimp only[jac,An];refine jae (setw (fs:=fs) (row:=q.1) (nm:=nm) (λQ q'=>?_) ?_)
     ·refine c3_i (jff rfl ?_);refine w2_i (w2_i (w2_i (jab rfl (c_i (g1_i (jab rfl (gN_i hq' (c_i (g0_i ?_)))))))));refine w2_i (w2_i (w2_i (jab rfl (c_i (g0_i (jab rfl (gN_i H.hD (c_i (g2_i ?_)))))))));exact⟨fs,q.1,nm,rfl,of,oq.1,H.nms,q'⟩
     dsimp only[An];cases eb:fitB fs q.1 nm with
     |true =>
      rw[jny,if_pos eb,Option.map_some,Nat.zero_add,show rowO ns dn.length=q.1 by unfold rowO;rw[hq];rfl]at kq;rw[show fitW fs q.1 nm=.ob (.k (txK (wkN fs q.1 nm))) by unfold fitW;rw[if_pos eb]];refine if_y (λQ q=>ct_b (k:=true) (λQ q=>w2_i (jab rfl (c_i (jub q)))) q) (ja2 (show jpt _ _ _ _ _ from jab rfl (jab rfl ⟨_,_,rfl,rfl,kq⟩)))
     |false =>
      rw[show fitW fs q.1 nm=.d .none by unfold fitW;rw[if_neg (by rw[eb];exact Ae)]];refine if_n (λQ q=>ct_b (k:=false) (λQ q=>w2_i (jab rfl (c_i (jgd q)))) q) (kN _ _ ⟨rfl,dn++[q],re,_,_,?_,by rw[Bk];exact en,rfl,?_⟩)
      ·rw[Ak,As];rw[show((dn.length+1:Nat):Int)=(dn.length:Int)+1 from rfl]
      ·rw[jny,if_neg (by rw[eb];exact Ae),Option.map_map]at kq;have:((λi=>(i+dn.length,wkN fs (rowO ns (i+dn.length)) nm)) ∘ λx=>x+1)=λi=>(i+(dn++[q]).length,wkN fs (rowO ns (i+(dn++[q]).length)) nm):=funext λx=>by
        show(x+1+dn.length,wkN fs (rowO ns (x+1+dn.length)) nm)=_;have e:x+1+dn.length=x+(dn++[q]).length:=by rw[Ak,As];omega
        rw[e]
       rw[this]at kq;exact kq
   ·exact k
theorem jwg {ps:Pg} {hs:List Hn} {ns:List Nt} {h:Nat} {a:Ac} (e:actO ps hs h=some a):canB ps hs ns h=(!a.wt || (gotO ps hs ns h).isSome):=by unfold canB;rw[e];rfl
theorem jkh:∀ws n Q,jca ws n Q->ws.length=3:=λws n Q h=>by obtain⟨_,_,_,_,rfl,_⟩:=h;rfl
theorem jkm:∀ws n Q,jca ws n Q->ws.length=3:=jkh
theorem j4b {a:Ac} (oa:okA a):∃s r,a.d=.tuple (.str s::r)/\inD (.str s) [.str "take",.str "read"]=a.wt:=by
 cases ef:a.pf with
 |none =>
  obtain⟨hw,s,r,e,_,h2⟩:=j28 ef;exact⟨s,r,e,by rw[h2,hw]⟩
 |some fs =>
  obtain⟨_,s,r,e,_,h2⟩:=jwl ef oa;exact⟨s,_,e,h2⟩
theorem jjq:∀ws n Q,jca ws n Q->jid (jat ["_law_programs","_law_stand","_law_hand","_law_act_here"] ws) n {nx:=λ_ n=>Q (.d .none) n,rt:=Q}:=λws n Q h=>by
 obtain⟨ps,hs,ns,h,rfl,ok,hh,k⟩:=h;obtain⟨P,xb,xp,nm,w,as,H⟩:=jdm ok.2.1 hh;show jid [some (.w (.d (pgD ps))),some (.w (.d (stD hs ns))),some (.w (.d (.int h))),none] n _;refine jae (jar (λQ q=>jt1 rfl rfl rfl ok.2.1 hh q) ?_);dsimp only[An];cases ea:actO ps hs h with
 |none =>
  unfold canB at k;rw[ea]at k;exact jae (if_y (λQ q=>ct_b (k:=true) (λQ q=>w2_i (jab rfl (c_i (jgd q)))) q) (ja2 (c_i k)))
 |some a =>
  rw[jwg ea]at k;obtain⟨s,r,e,h2⟩:=j4b (H.ok ok.1 ea);show sSeq _ _ [some (.w (.d (pgD ps))),some (.w (.d (stD hs ns))),some (.w (.d (.int h))),some (.w (.d a.d))] n _;rw[e];refine jae (if_n (λQ q=>ct_b (k:=false) (λQ q=>w2_i (jab rfl (c_i (jgd q)))) q) ?_);dsimp only[jap];refine ja2 (show wOr _ _ _ _ _ from j09 rfl h2 ?_);rw[jst];cases hw:a.wt with
  |false=>rw[hw]at k;exact k
  |true =>
   rw[hw]at k;rw[if_neg (by decide)];refine w2_i (c3_i (jab rfl (jab rfl (jab rfl ⟨ps,hs,ns,h,rfl,ok,hh,c_i ?_⟩))));rw[<-j4c]at k;cases eg:gotP ps hs ns h with
   |none=>rw[eg]at k;exact jgd k
   |some i=>rw[eg]at k;exact jub k
theorem juu {Q:List Aa->Int->Prop} {ps:Pg} {hs:List Hn} {ns:List Nt} {n:Int} (ok:okSt ps hs ns) (k:Q (rdyL ps hs ns) n):jbf (jac 0) (cT (jai jca (jaa (wVar 1) (jaa (wVar 2) (jaa (wVar 0) aNil))))) (wVar 0) Q (rngD 0 ps.length) [] [none,some (.w (.d (pgD ps))),some (.w (.d (stD hs ns)))] n:=by
 have e:rngD 0 ps.length=(A1 ps.length).map λh=>.int (h:Nat):=by
  unfold rngD;exact B7 λi _=>by rw[Int.zero_add]
 rw[e];refine jd5 (λh:Nat=>E8 (h:Nat)) (λh:Nat=>E8 (h:Nat)) (canB ps hs ns) _ [] none n (λh hh n Q' q=>?_) (λh hh n Q' q=>jab rfl q) (by rw[Bi];exact k);exact c3_i (jab rfl (jab rfl (jab rfl ⟨ps,hs,ns,h,rfl,ok,Br.mp hh,q⟩)))
section
variable {δ:Sl} {n:Int} {Q:DQ} {w u:DT} {ds i j:List Aa}
theorem jus (xs:List Aa) {p:Nat} (hp:p<=xs.length):cutD xs (some (p:Int)) none=xs.drop p:=by
 unfold cutD;rw[HT.sIx_nat,HT.sIx_none,Fn hp];exact De (by rw[Dw];exact Al _)
theorem jwr (k:w δ n λx n1=>match jcn [x]with
  |some ds=>ds.length<=1000/\Q (.d (.tuple ds)) n1
  |none=>False):wTup (jaa w aNil) δ n Q:=k
theorem jvk {p:Nat} (hw:∀Q:DQ,Q (.d (.tuple ds)) n->w δ n Q) (hu:∀Q:DQ,Q (.d (.int p)) n->u δ n Q) (hp:p<=ds.length) (k:Q (.d (.tuple (ds.take p))) n):jbm w jbv (jbg u) δ n Q:=by
 unfold jbm;refine hw _ ?_;dsimp only[jbv,jbg];refine hu _ ?_;dsimp only;rw[j2u _ hp];exact k
theorem jvl {p:Nat} (hw:∀Q:DQ,Q (.d (.tuple ds)) n->w δ n Q) (hu:∀Q:DQ,Q (.d (.int p)) n->u δ n Q) (hp:p<=ds.length) (k:Q (.d (.tuple (ds.drop p))) n):jbm w (jbg u) jbv δ n Q:=by
 unfold jbm;refine hw _ ?_;dsimp only[jbv,jbg];refine hu _ ?_;dsimp only;rw[jus _ hp];exact k
theorem joa (h:i.length+j.length<=1000000) (k:Q (.d (.tuple (i++j))) n):jdn (.d (.tuple i)) (.d (.tuple j)) n Q:=by
 cases i with
 |nil=>exact k
 |cons a r=>exact⟨.inl (λz=>nomatch z),A4 h (by decide),k⟩
end
theorem j2t {δ:Sl} {n:Int} {Q:Bool->Int->Prop} (q:Q true n):cYes δ n Q:=q
theorem j2y {α:Type} {w:DT} {Q:List Aa->Int->Prop} {rest:Sl} (f g:α->Aa) (xs:List α) (x:Option SV) (n:Int) (h:∀a∈xs,∀(n:Int) (Q':DQ),Q' (.d (g a)) n->w (some (.w (.d (f a)))::rest) n Q') (q:Q (xs.map g) n):jbf (jac 0) cYes w Q (xs.map f) [] (x::rest) n:=by
 refine jd5 f g (λ_=>true) xs [] x n (λa _ n Q' q=>j2t q) h ?_;rw[Bi,Dv.mpr λ_ _=>rfl];exact q
theorem j13 {ds:List Aa} {n:Int} {Q:DQ} (k:Q (.d (.tuple ds)) n):jb8 [.d (.list ds)] n Q:=k
theorem j33 {a:Aa} {n:Int} {Q:DQ} (ha:jdy a) (k:Q (.d (.bool (!isI1 a))) n):gNe (.d a) (.d (.int 1)) n Q:=by
 rcases ha with rfl | ⟨i,rfl,_⟩<;>exact k
theorem j5i:∀j:Fin 100,isV (.int ((j.val:Nat):Int))=true:=by decide +kernel
theorem V_of {i:Int} (h0:0<=i) (h1:i<=99):isV (.int i)=true:=by
 have:=j5i ⟨i.toNat,by omega⟩;rw[show((i.toNat:Nat):Int)=i by omega]at this;exact this
theorem j3a {i:Int} (h:isV (.int i)=true):0<=i/\i<=99:=by
 simp only[isV,Cw,decide_eq_true_eq]at h;exact⟨h.1,h.2.1⟩
theorem nx_V {v:Aa} (h:isV v=true):isV (nxO v)=true:=by
 cases v with
 |str x=>exact h
 |int i =>
  obtain⟨h0,h1⟩:=j3a h;show isV (if i=99 then .int 0 else .int (i+1))=true
  split
  ·exact V_of (by decide) (by decide)
  ·exact V_of (by omega) (by omega)
 |_=>cases h
theorem fv_V {nm:Nm} {f:Fe} (h:fvOk nm f):isV (fvO nm f)=true:=by
 obtain⟨ok,tm,us⟩:=h;cases f with
 |isv d=>exact ok
 |as k=>obtain⟨v,e,hv⟩:=us k rfl;show isV ((look nm k).getD .none)=true;rw[e];exact hv
 |nx k=>obtain⟨v,e,hv⟩:=us k rfl;show isV (nxO ((look nm k).getD .none))=true;rw[e];exact nx_V hv
 |_=>cases tm
theorem jme {fs:List Fd} {nm:Nm} {ns:List Nt} {i:Nat} (h:fstO fs nm ns=some i):∃q,ns[i]?=some q/\fitB fs q.1 nm=true:=by
 unfold fstO at h;rw[B1]at h;obtain⟨hl,h1,_⟩:=h;exact⟨ns[i],Af hl,h1⟩
theorem jno {ps:Pg} {hs:List Hn} {ns:List Nt} {h:Nat} {P:List Bl} {xb xp:Nat} {nm:Nm} {w:List Str} {as:List Ac} (H:HandAt ps hs h P xb xp nm w as) {a:Ac} (e:actO ps hs h=some a):movO ps hs ns h=(actM P (xb,xp,nm) ns a).map λr=>(setH hs h r.1,r.2):=by
 unfold movO;rw[H.prog,H.hand,e];rfl
theorem jbr {fs:List Fe} {x:Hn} {ns:List Nt} (e:fstO (fs.map Fe.fd) x.2.2 ns=none):getO fs x ns=none:=by unfold getO;rw[e];rfl
theorem jbl {fs:List Fe} {x:Hn} {ns:List Nt} {i:Nat} (e:fstO (fs.map Fe.fd) x.2.2 ns=some i):getO fs x ns=some (i,goOn x (srtN (wkN (fs.map Fe.fd) (rowO ns i) x.2.2))):=by unfold getO;rw[e];rfl
theorem jxo (ns:List Nt) (i:Nat):(outO ns i).map ntD=(ns.map ntD).take i++(ns.map ntD).drop (i+1):=by unfold outO;rw[Bb,List.map_take,List.map_drop]
theorem c4_i {δ:Sl} {n:Int} {Q:DQ} {w w' w'' v:DT} {S:DSp} (k:w δ n λx n1=>w' δ n1 λy n2=>w'' δ n2 λz n3=>v δ n3 λu n4=>S [x,y,z,u] n4 Q):jai S (jaa w (jaa w' (jaa w'' (jaa v aNil)))) δ n Q:=k
theorem jnq {nm:Nm} {k:Str} (h:k∈nm.map (·.1)):∃v,look nm k=some v:=by
 obtain⟨p,hp,e⟩:=Bf.mp h;have:(nm.any λp=>decide (p.1=k))=true:=Fg.mpr ⟨p,hp,decide_eq_true e⟩;rw[jnr]at this;exact C3.mp this
theorem j3c {f:Fe} (h:f.tm=true):f.bd=none:=by cases f<;>first | rfl | cases h
theorem js8 {f:Fe} (h:f.te=true):f.tm=true:=by cases f<;>first | rfl | cases h
theorem jw9:∀{fs:List Fe} {ks:List Str},rF ks fs->(∀f∈fs,f.tm=true)->∀f∈fs,∀k,f.us=some k->k∈ks
 |[],_,_,_,f,hf,_,_=>by simp at hf
 |g::r,ks,h,ht,f,hf,k,hk=>by
  rcases Ar.mp hf with rfl | hf
  ·exact h.1 k hk
  ·have h2:=h.2;rw[j3c (ht g Ay)]at h2;have:=jw9 h2 (λx hx=>ht x (Az _ hx)) f hf k hk;simpa using this
section
variable {ps:Pg} {hs:List Hn} {ns:List Nt} {h:Nat} {P:List Bl} {xb xp:Nat} {nm:Nm} {w:List Str} {as:List Ac} {n:Int} {Q:DQ}
theorem HandAt.okb (H:HandAt ps hs h P xb xp nm w as) (okp:okPg ps):okB (w,as)/\riB (P.map (·.1)) (w,as):=(okp.2 P (A7 H.prog)).2.2 (w,as) (A7 H.blk)
theorem HandAt.right (H:HandAt ps hs h P xb xp nm w as) (okp:okPg ps) {a:Ac} (e:actO ps hs h=some a):a.right (P.map (·.1)) (kn w as xp):=by
 rw[H.act]at e;exact(H.okb okp).2 xp a e
theorem HandAt.fv (H:HandAt ps hs h P xb xp nm w as) {f:Fe} (ok:f.ok) (tm:f.tm=true) (us:∀k,f.us=some k->k∈kn w as xp):fvOk nm f:=⟨ok,tm,λk hk=>by
 obtain⟨v,e⟩:=jnq ((H.hn.mem k).mpr (us k hk));exact⟨v,e,(H.hn.ok _ (jf7 e)).2⟩⟩
theorem HandAt.lay (H:HandAt ps hs h P xb xp nm w as) (okp:okPg ps) {fs:List Fe} {age:Aa} (e:actO ps hs h=some (.lay fs age)):fs.length<=4/\∀f∈fs,fvOk nm f:=by
 have oa:=H.ok okp e;have r:=(H.right okp e).1;exact⟨oa.1.1,λf hf=>H.fv (oa.1.2 f hf) (oa.2.1 f hf) (jw9 r oa.2.1 f hf)⟩
theorem HandAt.same (H:HandAt ps hs h P xb xp nm w as) (okp:okPg ps) {f g:Fe} {b:Nat} (e:actO ps hs h=some (.same f g b)):fvOk nm f/\fvOk nm g/\f.te=true/\g.te=true:=by
 have oa:=H.ok okp e;have r:=jw9 (H.right okp e).1 (λx hx=>by
  simp only[Ac.fs,Ar,Ax,or_false]at hx;rcases hx with rfl | rfl
  ·exact js8 oa.2.1
  ·exact js8 oa.2.2)
 exact⟨H.fv (oa.1.2 f (by simp[Ac.fs])) (js8 oa.2.1) (r f (by simp[Ac.fs])),H.fv (oa.1.2 g (by simp[Ac.fs])) (js8 oa.2.2) (r g (by simp[Ac.fs])),oa.2.1,oa.2.2⟩
theorem HandAt.to (H:HandAt ps hs h P xb xp nm w as) (okp:okPg ps) {a:Ac} {b:Nat} (e:actO ps hs h=some a) (hb:a.to=some b):∃bl:Bl,P[b]?=some bl/\okB bl/\∀k∈bl.1,k∈nm.map (·.1):=by
 obtain⟨wb,hwb,hk⟩:=(H.right okp e).2 b hb;rw[A0]at hwb;obtain⟨bl,hbl,rfl⟩:=Option.map_eq_some_iff.mp hwb;exact⟨bl,hbl,((okp.2 P (A7 H.prog)).2.2 bl (A7 hbl)).1,λk z=>(H.hn.mem k).mpr (hk k z)⟩
end
theorem jrj:∀ws n Q,jsz ws n Q->ws.length=3:=λws n Q h=>by obtain⟨_,_,_,_,_,rfl,_⟩:=h;rfl
theorem jvx {δ:Sl} {n:Int} {Q:DQ} {i:Nat} {x:Wv} (e:δ[i]?=some (some (.w x))) (k:Q x n):jee i δ n Q:=by unfold jee;rw[e];exact k
theorem jr8 {δ:Sl} {n:Int} {Q:DQ} {j:Nat} {ps:Nm} (e:δ[j]?=some (some (.w (.d (jbb ps))))) (ok:okN ps) (k:Q (.dk (txK ps)) n):jez (wVar j) δ n Q:=by
 unfold jez wOfK jkr;refine jab e ?_;unfold jbb;simp only[jfp];refine⟨by rw[Ab];have:=ok.1;omega,?_⟩;have:=jfq ps [] (by rw[Bi];exact ok.2.1);rw[Bi]at this;rw[show([]:List (Key×Aa))=txK []from rfl,this];exact k
theorem j07 {i:Int} (h:isV (.int i)=true):nxO (.int i)=.int ((i+1) % 100):=by
 obtain⟨h0,h1⟩:=j3a h;show(if i=99 then E8 0 else E8 (i+1))=_
 split
 ·rename_i e;subst e;rfl
 ·rw[Int.emod_eq_of_lt (by omega) (by omega)]
theorem jga:∀ws n Q,jcy ws n Q->ws.length=2:=λws n Q h=>by obtain⟨_,_,rfl,_⟩:=h;rfl
theorem jfl:∀ws n Q,jcy ws n Q->jea (jat ["_law_template_here","_law_has","_law_row_here","_law_word","_law_thing","_law_value_here"] ws) n {nx:=λ_ n=>Q (.d .none) n,rt:=Q}:=λws n Q h=>by
 obtain⟨fs,nm,rfl,hl,ok,k⟩:=h;show jea [some (.w (.d (fsD fs))),some (.w (.dk (txK nm))),none,none,none,none] n _;refine jae (jb3 ?_);dsimp only[An];refine jae ?_;unfold sFor jcl;refine jab rfl ?_;dsimp only[fsD];refine jaz (λds δ m=>m=n/\∃(dn re:List Fe) (x y z:Option SV),ds=re.map Fe.d/\dn++re=fs/\δ=[some (.w (.d (fsD fs))),some (.w (.dk (txK nm))),some (.own (dn.map (fvO nm))),x,y,z]) (λδ m I=>?_) (λd r δ m N I kN=>?_) _ _ _ ⟨rfl,[],fs,none,none,none,rfl,rfl,rfl⟩
 ·obtain⟨rfl,dn,re,x,y,z,ed,en,rfl⟩:=I;cases List.map_eq_nil_iff.mp ed.symm;rw[Bo]at en;subst en;dsimp only;refine jd3 rfl ?_;dsimp only[An];exact ja2 (b1_i (jab rfl (j13 k)))
 ·obtain⟨rfl,dn,re,x,y,z,ed,en,rfl⟩:=I;obtain⟨f,re,rfl,rfl,rfl⟩:=Fl.mp ed.symm;have hf:=ok f (by rw[<-en];exact Ba _ Ay);have hdn:dn.length < 1000000:=by
   have:=congrArg List.length en;rw[Ak]at this;omega
  have nxt:∀(x y z:Option SV),N [some (.w (.d (fsD fs))),some (.w (.dk (txK nm))),some (.own (dn.map (fvO nm)++[fvO nm f])),x,y,z] m:=λx y z =>
   kN _ _ ⟨rfl,dn++[f],re,x,y,z,rfl,by rw[Bk];exact en,by rw[Bb];rfl⟩
  obtain⟨fo,tm,us⟩:=hf;have app:∀(K:DEnds) (x y:Option SV) (v:Aa),v=fvO nm f->(∀δ n,N δ n->K.nx δ n)->sApp 2 (wVar 5) [some (.w (.d (fsD fs))),some (.w (.dk (txK nm))),some (.own (dn.map (fvO nm))),x,y,some (.w (.d v))] m K:=λK x y v e hK =>
   jhs rfl (λQ q=>jab rfl q) (by rw[Ab];exact hdn) (by subst e;exact hK _ _ (nxt _ _ _))
  have named:∀(K:DEnds) (s x:Str) (v:Aa),look nm x=some v->jaf "is" (.str s)=false->(∀δ n,N δ n->K.nx δ n)->(sSeq (sIf (cAnd (cT (w2 (wVar 3) (wC (.str "next")) gEq)) (cNot (cT (wIsi "str" (wVar 5))))) (sSet 5 (w2 (w2 (wVar 5) (wC (.int (1))) (gI0 λi j=>.int (i+j))) (wC (.int (100))) (gI (λ_ j=>0 < j) λi j=>.int (i % j)))) jap) (sApp 2 (wVar 5))) [some (.w (.d (fsD fs))),some (.w (.dk (txK nm))),some (.own (dn.map (fvO nm))),some (.w (.d (.str s))),some (.w (.d (.str x))),some (.w (.d v))] m K ->
    sSeq (sSet 5 (wIf (cT (w2 (wVar 3) (wC (.str "is")) gEq)) (wVar 4) (w2 (jee 1) (wVar 4) jfg))) (sSeq (sIf (cAnd (cT (w2 (wVar 3) (wC (.str "next")) gEq)) (cNot (cT (wIsi "str" (wVar 5))))) (sSet 5 (w2 (w2 (wVar 5) (wC (.int (1))) (gI0 λi j=>.int (i+j))) (wC (.int (100))) (gI (λ_ j=>0 < j) λi j=>.int (i % j)))) jap) (sApp 2 (wVar 5))) [some (.w (.d (fsD fs))),some (.w (.dk (txK nm))),some (.own (dn.map (fvO nm))),some (.w (.d (.str s))),some (.w (.d (.str x))),z] m K:=λK s x v e hs hK kk=>by
   refine jae (jar (x:=v) (λQ q=>jdk (b:=false) (λQ q=>ct_b (λQ q=>jd4 (d:=.str s) rfl (by rw[hs];exact q)) q) ?_) ?_)
   ·rw[if_neg Ae];refine w2_i (jvx rfl (jab rfl ?_));unfold jfg;simp only[jj0,e];exact q
   ·dsimp only[An];exact kk
  refine⟨(by cases f<;>first | rfl | cases tm),?_⟩;cases f with
  |isv d =>
   dsimp only[Fe.hd,Fe.tl,jaj,ja3,jac,An];refine jae (jar (x:=d) (λQ q=>jdk (b:=true) (λQ q=>ct_b (λQ q=>jd4 (d:=.str "is") rfl (by rw[jjb];exact q)) q) (by rw[if_pos rfl];exact jab rfl q)) ?_);dsimp only[An];refine jae (if_n (λQ q=>jla (λQ q=>jd4 (d:=.str "is") rfl (by rw[show jaf "next" (.str "is")=false by decide +kernel];exact q)) q) ?_);dsimp only[jap];exact app _ _ _ _ rfl λ_ _ z=>z
  |as x =>
   obtain⟨v,e,hv⟩:=us x rfl;dsimp only[Fe.hd,Fe.tl,jaj,ja3,jac,An];refine named _ "as" x v e jjc (λ_ _ z=>z) ?_;refine jae (if_n (λQ q=>jla (λQ q=>jd4 (d:=.str "as") rfl (by rw[show jaf "next" (.str "as")=false by decide +kernel];exact q)) q) ?_);dsimp only[jap];exact app _ _ _ _ (by show v=lkO nm x;unfold lkO;rw[e];rfl) λ_ _ z=>z
  |nx x =>
   obtain⟨v,e,hv⟩:=us x rfl;have ev:fvO nm (.nx x)=nxO v:=by show nxO (lkO nm x)=_;unfold lkO;rw[e];rfl
   dsimp only[Fe.hd,Fe.tl,jaj,ja3,jac,An];refine named _ "next" x v e (by decide +kernel) (λ_ _ z=>z) ?_;cases v with
   |str t =>
    refine jae (if_n (λQ q=>jk9 (λQ q=>jd4 (d:=.str "next") rfl (by rw[show jaf "next" (.str "next")=true by decide +kernel];exact q)) (jh9 (k:=true) (λQ q=>ct_b (k:=true) (λQ q=>show wIsi _ _ _ _ _ from jab rfl (show Q (.d (.bool (isiB "str" (.str t)))) m by rw[jel];exact q)) q) q)) ?_);dsimp only[jap];exact app _ _ _ _ (by rw[ev];rfl) λ_ _ z=>z
   |int i =>
    refine jae (if_y (λQ q=>jk9 (λQ q=>jd4 (d:=.str "next") rfl (by rw[show jaf "next" (.str "next")=true by decide +kernel];exact q)) (jh9 (k:=false) (λQ q=>ct_b (k:=false) (λQ q=>show wIsi _ _ _ _ _ from jab rfl (show Q (.d (.bool (isiB "str" (.int i)))) m by rw[jel];exact q)) q) q)) ?_);refine jar (x:=.int ((i+1) % 100)) (λQ q=>w2_i (w2_i (jab rfl (c_i (addI (c_i ⟨show(0:Int) < 100 by decide,q⟩)))))) ?_;dsimp only[An];exact app _ _ _ _ (by rw[ev,j07 hv]) λ_ _ z=>z
   |_=>cases hv
  |_=>cases tm
theorem jfe:∀ws n Q,jsy ws n Q->ws.length=2:=λws n Q h=>by obtain⟨_,_,rfl,_⟩:=h;rfl
theorem jet:∀ws n Q,jsy ws n Q->jdg (jat ["_law_term_here","_law_names"] ws) n {nx:=λ_ n=>Q (.d .none) n,rt:=Q}:=λws n Q h=>by
 obtain⟨f,nm,rfl,⟨fo,tm,us⟩,te,okn,k⟩:=h;show jdg [some (.w (.d f.d)),some (.w (.d (jbb nm)))] n _;cases f with
 |isv d=>exact ja2 (jdk (b:=true) (λQ q=>ct_b (λQ q=>jo9 (a:=.str "is") rfl (by rw[jjb];exact q)) q) (by rw[if_pos rfl];exact jff rfl k))
 |as x =>
  obtain⟨v,e,hv⟩:=us x rfl;have k:Q (.d (lkO nm x)) n:=k;unfold lkO at k;rw[e]at k;refine ja2 (jdk (b:=false) (λQ q=>ct_b (λQ q=>jo9 (a:=.str "as") rfl (by rw[jjc];exact q)) q) ?_);rw[if_neg Ae];refine w2_i (jr8 rfl okn (jff (a:=.str "as") (b:=.str x) (r:=[]) rfl ?_));unfold jfg;simp only[jj0,e];exact k
 |_=>cases te
theorem jna:∀{xs ys:List Str},xs.Nodup->ys.Nodup->(∀k,k∈xs↔k∈ys)->upT xs->upT ys->xs=ys
 |[],[],_,_,_,_,_=>rfl
 |[],y::ys,_,_,h,_,_=>by have:=(h y).mpr Ay;simp at this
 |x::xs,[],_,_,h,_,_=>by have:=(h x).mp Ay;simp at this
 |x::xs,y::ys,n1,n2,h,u1,u2=>by
  obtain⟨a1,b1⟩:=Cs.mp n1;obtain⟨a2,b2⟩:=Cs.mp n2;obtain⟨c1,d1⟩:=List.pairwise_cons.mp u1;obtain⟨c2,d2⟩:=List.pairwise_cons.mp u2;have e:x=y:=by
   rcases Ar.mp ((h x).mp Ay)with e | hx
   ·exact e
   ·rcases Ar.mp ((h y).mpr Ay)with e | hy
    ·exact e.symm
    ·exact tri _ _ (c2 x hx) (c1 y hy)
  subst e;rw[jna b1 b2 (λk=>⟨λhk=>?_,λhk=>?_⟩) d1 d2]
  ·rcases Ar.mp ((h k).mp (Az _ hk))with e | q
   ·exact absurd (e▸hk) a1
   ·exact q
  ·rcases Ar.mp ((h k).mpr (Az _ hk))with e | q
   ·exact absurd (e▸hk) a2
   ·exact q
theorem jy8 {nm:Nm} {w:List Str} (nd:(nm.map (·.1)).Nodup) (up:jdu nm) (wn:w.Nodup) (wu:upT w) (sub:∀k∈w,k∈nm.map (·.1)):nm.filter (λp=>decide (p.1∈w))=w.map λk=>(k,lkO nm k):=by
 have ek:(nm.filter λp=>decide (p.1∈w)).map (·.1)=w:=by
  refine jna ?_ wn (λk=>⟨λhk=>?_,λhk=>?_⟩) ?_ wu
  ·exact List.Nodup.sublist (List.Sublist.map _ List.filter_sublist) nd
  ·obtain⟨p,hp,rfl⟩:=Bf.mp hk;exact of_decide_eq_true (Bu.mp hp).2
  ·obtain⟨p,hp,rfl⟩:=Bf.mp (sub k hk);exact Bf.mpr ⟨p,Bu.mpr ⟨hp,decide_eq_true hk⟩,rfl⟩
  ·unfold upT;rw[List.pairwise_map];exact List.Pairwise.sublist List.filter_sublist up
 have e2:(nm.filter λp=>decide (p.1∈w))=(nm.filter λp=>decide (p.1∈w)).map λp=>(p.1,lkO nm p.1):=by
  have:(nm.filter λp=>decide (p.1∈w)).map id=(nm.filter λp=>decide (p.1∈w)).map λp=>(p.1,lkO nm p.1):=by
   refine B7 λp hp=>?_;have:=jt7 nd (Bu.mp hp).1;show p=(p.1,lkO nm p.1);unfold lkO;rw[this];rfl
  rw[List.map_id]at this;exact this
 rw[e2]
 conv=>rhs;rw[<-ek]
 rw[Ct];rfl
theorem jei:∀ws n Q,je7 ws n Q->ws.length=3:=λws n Q h=>by obtain⟨_,_,_,_,rfl,_⟩:=h;rfl
theorem jd6:∀ws n Q,je7 ws n Q->jcv (jat ["_law_program_here","_law_names","_law_block","_law_has"] ws) n {nx:=λ_ n=>Q (.d .none) n,rt:=Q}:=λws n Q h=>by
 obtain⟨P,b,nm,⟨w,as⟩,rfl,hb,hw,okn,up,wn,wu,sub,k⟩:=h;have hbD:(P.map blD)[b]?=some (.tuple [jbo w,.tuple (as.map Ac.d)]):=by rw[A0,hb];rfl
 have ew:wtO P b=w:=by unfold wtO;rw[hb];rfl
 unfold goTo at k;rw[ew,jy8 okn.2.1 up wn wu sub]at k;show jcv [some (.w (.d (prD P))),some (.w (.d (jbb nm))),some (.w (.d (.int b))),none] n _;refine jae (jni rfl okn ?_);dsimp only[An];refine ja2 (jfu (jab rfl (c_i (b1_i (of_i (jjk (ds:=w.map .str) (λQ q=>w2_i (w2_i (jab rfl (jab rfl (gN_i hbD (c_i (g0_i q)))))) ) ?_))))));show jbf _ _ _ _ _ _ [none,some (.w (.dk (txK nm)))] n;refine j2y .str (λx=>jtv (x,lkO nm x)) w none n (λx hx n Q' q=>?_) ?_
 ·obtain⟨v,e⟩:=jnq (sub x hx);refine ja8 (jab rfl (w2_i (jvx rfl (jab rfl ?_))));unfold jfg;simp only[jj0,e];unfold lkO at q;rw[e]at q;exact Aj (show 2<=1000 by decide) q
 ·refine Aj (show 3<=1000 by decide) ?_;unfold hnD jbb at k;rw[Ct]at k;exact k
theorem jn5 {Q:List Aa->Int->Prop}:∀(ns:List Nt) (acc:List Aa) (x y:Option SV) (n:Int),(∀q∈ns,jdy q.2)->Q (acc++(clkO ns).map ntD) n ->
  jbf (jbj 2 (jaj (jac 0) (jaj (jac 1) ja3))) (cT (w2 (wVar 1) (wC (.int (1))) gNe)) (wTup (jaa (wVar 0) (jaa (wIf (cT (w2 (wVar 1) (wC .none) (gIsO false))) (wC .none) (w2 (wVar 1) (wC (.int (1))) (gI0 λi j=>.int (i - j)))) aNil))) Q (ns.map ntD) acc [x,y] n
 |[],acc,x,y,n,_,q=>by
  have:clkO []=[]:=rfl;rw[this,Ei,Bo]at q;exact q
 | (row,a)::r,acc,x,y,n,h,q=>by
  have ha:jdy a:=h (row,a) Ay;have ih:=λacc x y n q=>jn5 (Q:=Q) r acc x y n (λq hq=>h q (Az _ hq)) q;rw[Be];refine(show jbj 2 _ (ntD (row,a)) [x,y] _ from⟨rfl,?_⟩);dsimp only[jaj,ja3,jac,An];refine ct_b (k:=!isI1 a) (λQ q=>w2_i (jab rfl (c_i (j33 ha q)))) ?_;show if (!isI1 a)=true then _ else _
  have e0:clkO ((row,a)::r)=(if (!isI1 a)=true then[(row,ageO a)]else[])++clkO r:=by
   unfold clkO;rw[B5];dsimp only
   split<;>rfl
  rw[e0]at q;cases hi:isI1 a with
  |true =>
   rw[hi,if_neg (by decide),Bi]at q;rw[if_neg (by decide)];exact ih _ _ _ _ q
  |false =>
   rw[hi,if_pos (by decide),Bb,<-Bk]at q;rw[if_pos (by decide)];rcases ha with rfl | ⟨i,rfl,_⟩
   ·exact ja8 (jab rfl (jdk (b:=true) (λQ q=>ct_b (k:=true) (λQ q=>w2_i (jab rfl (c_i (jgd q)))) q) (by rw[if_pos rfl];exact c_i (Aj (show 2<=1000 by decide) (ih _ _ _ _ q)))))
   ·exact ja8 (jab rfl (jdk (b:=false) (λQ q=>ct_b (k:=false) (λQ q=>w2_i (jab rfl (c_i (jgd q)))) q) (by rw[if_neg Ae];exact w2_i (jab rfl (c_i (Aj (show 2<=1000 by decide) (ih _ _ _ _ q)))))))
section
variable {δ:Sl} {n:Int} {Q:DQ} {K:DEnds} {W V:DST} {i:Nat} {s h:Str} {r:List Aa} {b c d e:Aa}
theorem ixo {x y:Wv} (k:gIx x y n Q):gIxO x y n Q:=.inr k
theorem j4j (k:Q (.d (.bool (jaf h (.str s)))) n):gEq (.d (.str s)) (.d (.str h)) n Q:=k
theorem jud (e:δ[i]?=some (some (.w (.d (.tuple (.str s::r)))))) (k:if jaf h (.str s)=true then W δ n K else V δ n K):sIf (cT (w2 (w2 (wVar i) (wC (.int 0)) gIxO) (wC (.str h)) gEq)) W V δ n K :=
 if_i (show cT _ _ _ _ from w2_i (w2_i (jab e (c_i (ixo (g0_i (c_i (j4j k))))))))
theorem juc (e:δ[i]?=some (some (.w (.d (.tuple (.str s::r)))))) (z:jaf h (.str s)=true) (k:W δ n K):sIf (cT (w2 (w2 (wVar i) (wC (.int 0)) gIxO) (wC (.str h)) gEq)) W V δ n K:=jud e (by rw[if_pos z];exact k)
theorem jd2 (e:δ[i]?=some (some (.w (.d (.tuple (.str s::r)))))) (z:jaf h (.str s)=false) (k:V δ n K):sIf (cT (w2 (w2 (wVar i) (wC (.int 0)) gIxO) (wC (.str h)) gEq)) W V δ n K:=jud e (by rw[if_neg (by rw[z];exact Ae)];exact k)
theorem ixo1 (e:δ[i]?=some (some (.w (.d (.tuple (b::c::r)))))) (k:Q (.d c) n):w2 (wVar i) (wC (.int 1)) gIxO δ n Q:=w2_i (jab e (c_i (ixo (g1_i k))))
theorem ixo2 (e:δ[i]?=some (some (.w (.d (.tuple (b::c::d::r)))))) (k:Q (.d d) n):w2 (wVar i) (wC (.int 2)) gIxO δ n Q:=w2_i (jab e (c_i (ixo (g2_i k))))
theorem ixo3 (e':δ[i]?=some (some (.w (.d (.tuple [b,c,d,e]))))) (k:Q (.d e) n):w2 (wVar i) (wC (.int 3)) gIxO δ n Q:=w2_i (jab e' (c_i (ixo k)))
theorem jx1 {m:List (Key×Aa)} (e':δ[i]?=some (some (.w (.ob (.q d m))))) (k:Q (.d d) n):w2 (wVar i) (wC (.int 0)) gIxO δ n Q:=w2_i (jab e' (c_i (.inl ⟨d,m,rfl,.inl ⟨rfl,k⟩⟩)))
theorem j38 {m:List (Key×Aa)} (e':δ[i]?=some (some (.w (.ob (.q d m))))) (k:Q (.dk m) n):w2 (wVar i) (wC (.int 1)) gIxO δ n Q:=w2_i (jab e' (c_i (.inl ⟨d,m,rfl,.inr ⟨rfl,k⟩⟩)))
theorem j32 {a b:Aa} (ha:isV a=true) (hb:isV b=true) (k:Q (.d (.bool (!eqB a b))) n):gNe (.d a) (.d b) n Q:=by
 cases a with
 |str x=>cases b with
  |str y=>exact k
  |int j=>exact k
  |_=>cases hb
 |int i=>cases b with
  |str y=>exact k
  |int j=>exact k
  |_=>cases hb
 |_=>cases ha
end
theorem jvb {fs:List Fd} {row:List Aa} {nm:Nm} (nd:(nm.map (·.1)).Nodup) (h:fitB fs row nm=true):((wkN fs row nm).map (·.1)).Nodup/\(wk (fs.zip row) nm []=some (wkN fs row nm)):=by
 unfold fitB at h;rw[Cw]at h;unfold wkN;obtain⟨x,hx⟩:=C3.mp h.2;rw[hx];exact⟨jjw _ _ _ _ nd hx,rfl⟩
theorem jpp:∀(l:List (Fd×Aa)) (h:Nm) (hs:List Str) (k:Nm),(∀p∈l,p.1.ok/\isV p.2=true)->(∀p∈h,okV p)->wk l h hs=some k->(∀p∈k,okV p)/\k.length<=h.length+l.length
 |[],h,hs,k,_,ho,e=>by cases e;exact⟨ho,Al _⟩
 | (f,v)::r,h,hs,k,hl,ho,e=>by
  have hr:∀p∈r,p.1.ok/\isV p.2=true:=λp hp=>hl p (Az _ hp);have same:wk r h hs=some k->(∀p∈k,okV p)/\k.length<=h.length+((f,v)::r).length:=λe=>by
   have:=jpp r h hs k hr ho e;exact⟨this.1,by rw[Ao];omega⟩
  cases f with
  |is w=>unfold wk at e;split at e;exact same e;cases e
  |any=>unfold wk at e;exact same e
  |word=>unfold wk at e;split at e;exact same e;cases e
  |number=>unfold wk at e;split at e;exact same e;cases e
  |as x =>
   unfold wk at e
   split at e
   ·split at e
    ·exact same e
    ·cases e
   ·cases e
  |bind x =>
   unfold wk at e
   split at e
   ·split at e
    ·split at e
     ·exact same e
     ·cases e
    ·cases e
   ·have hb:=hl _ Ay;have:=jpp r (put h x v) (hs++[x]) k hr (jqu ho hb.1 hb.2) e;have:=jqv h x v;exact⟨by have:=jpp r (put h x v) (hs++[x]) k hr (jqu ho hb.1 hb.2) e;exact this.1,by rw[Ao];omega⟩
theorem jva {fs:List Fd} {row:List Aa} (of:okP fs) (or:okR row):∀p∈fs.zip row,p.1.ok/\isV p.2=true:=λp hp=>by
 obtain⟨p1,p2⟩:=p;exact⟨of.2.2 _ (D7 hp).1,or.2 _ (D7 hp).2⟩
theorem ji8:∀ws n Q,jew ws n Q->ws.length=3:=jrj
theorem jhq:∀ws n Q,jew ws n Q->jgz (jat ["_law_programs","_law_stand","_law_mover","_law_hands","_law_notes_here","_law_act_here","_law_block","_law_place","_law_names","_law_found","_law_hand"] ws) n {nx:=λ_ n=>Q (.d .none) n,rt:=Q}:=λws n Q h=>by
 obtain⟨ps,hs,ns,m,r,rfl,⟨okp,okh,okn⟩,hm,e,k⟩:=h;show jgz [some (.w (.d (pgD ps))),some (.w (.d (stD hs ns))),some (.w (.d (.int m))),none,none,none,none,none,none,none,none] n _;refine jae ?_;unfold sUnp;refine jab rfl (Aj rfl ?_);dsimp only[jaj,ja3,jac,An];unfold aftO at e;refine jae (if_i (ct_b (k:=decide ((m:Int)=(ps.length:Nat))) (λQ q=>w2_i (jab rfl (b1_i (jab rfl ?_)))) ?_))
 ·show Q (.d (.bool (decide ((m:Int)=((ps.map prD).length:Nat))))) n;rw[Ab];exact q
 by_cases em:m=ps.length
 ·rw[if_pos em]at e;cases e;show if decide ((m:Int)=(ps.length:Nat))=true then _ else _
  rw[if_pos (decide_eq_true (by omega))];refine ja2 (ja8 (jab rfl (b1_i (of_i (jjk (ds:=ns.map ntD) (λQ q=>jab rfl q) ?_)))));show jbf _ _ _ _ _ _ [none,none] n;exact jn5 ns [] none none n (λq hq=>(okn.2 q hq).2) (Aj (show 2<=1000 by decide) k)
 rw[if_neg em]at e;show if decide ((m:Int)=(ps.length:Nat))=true then _ else _
 rw[if_neg (by rw[decide_eq_false (by omega)];exact Ae)];dsimp only[jap];have hh:m < ps.length:=by omega
 obtain⟨P,xb,xp,nm,w,as,H⟩:=jdm okh hh;have hlt:m < hs.length:=by rw[okh.1];exact hh
 have hl5:hs.length<=5:=by rw[okh.1];exact okp.1
 refine jae (jar (λQ q=>jt1 rfl rfl rfl okh hh q) ?_);dsimp only[An];cases ea:actO ps hs m with
 |none =>
  unfold movO at e;rw[H.prog,H.hand,ea]at e;cases e
 |some a =>
 rw[jno H ea]at e;have oa:=H.ok okp ea;refine jae ?_;refine w2_i (jab rfl (jab rfl (ixo (gN_i H.hD ?_))));refine Aj rfl ?_;dsimp only[jaj,ja3,jac,An];refine jae (sets (o:=gotP ps hs ns m) (λQ q=>c3_i (jab rfl (jab rfl (jab rfl ⟨ps,hs,ns,m,rfl,⟨okp,okh,okn⟩,hh,q⟩)))) ?_);dsimp only[An];refine jae (jar (x:=hnD (goOn (xb,xp,nm) nm)) (λQ q=>jfu (jab rfl (w2_i (jab rfl (c_i (addI (jab rfl (Aj (show 3<=1000 by decide) q)))))))) ?_);dsimp only[An];have fin:∀(x:Hn) (ns':List Nt) (x5 x6 x7 x8 x9:Option SV),Q (.d (stD (setH hs m x) ns')) n->sRet (wTup (jaa (w2 (w2 (jbm (wVar 3) jbv (jbg (wVar 2))) (wTup (jaa (wVar 10) aNil)) jdn) (jbm (wVar 3) (jbg (w2 (wVar 2) (wC (.int (1))) (gI0 λi j=>.int (i+j)))) jbv) jdn) (jaa (wVar 4) aNil)))
   [some (.w (.d (pgD ps))),some (.w (.d (stD hs ns))),some (.w (.d (.int m))),some (.w (.d (.tuple (hs.map hnD)))),some (.w (.d (nsD ns'))),x5,x6,x7,x8,x9,some (.w (.d (hnD x)))] n {nx:=λ_ n=>Q (.d .none) n,rt:=Q}:=λx ns' x5 x6 x7 x8 x9 q=>by
  have hd:(setH hs m x).map hnD=((hs.map hnD).take m++[hnD x])++(hs.map hnD).drop (m+1):=by
   unfold setH;rw[Bb,Be,List.map_take,List.map_drop,Bk];rfl
  unfold stD at q;rw[hd]at q;have l1:((hs.map hnD).take m).length<=5:=A4 (List.length_take_le' _ _) (by rw[Ab];exact hl5);have l2:((hs.map hnD).drop (m+1)).length<=5:=by rw[Dw,Ab];omega
  refine ja2 (ja8 (w2_i (w2_i (jvk (p:=m) (λQ q=>jab rfl q) (λQ q=>jab rfl q) (by rw[Ab];omega) (jwr (jab rfl (Aj (show 1<=1000 by decide) (joa (by rw[As];omega) ?_))))))));exact jvl (p:=m+1) (λQ q=>jab rfl q) (λQ q=>w2_i (jab rfl (c_i (addI q)))) (by rw[Ab];omega) (joa (by rw[Ak,As];omega) (jab rfl (Aj (show 2<=1000 by decide) q)))
 have toB:∀(b:Nat),a.to=some b->∀(x5 x9:Option SV) (i5:DT),(∀Q:DQ,Q (.d (.int b)) n->i5 [some (.w (.d (pgD ps))),some (.w (.d (stD hs ns))),some (.w (.d (.int m))),some (.w (.d (.tuple (hs.map hnD)))),some (.w (.d (nsD ns))),x5,some (.w (.d (.int xb))),some (.w (.d (.int xp))),some (.w (.d (jbb nm))),x9,some (.w (.d (hnD (goOn (xb,xp,nm) nm))))] n Q)->∀K:DEnds,
   (∀δ n,sRet (wTup (jaa (w2 (w2 (jbm (wVar 3) jbv (jbg (wVar 2))) (wTup (jaa (wVar 10) aNil)) jdn) (jbm (wVar 3) (jbg (w2 (wVar 2) (wC (.int (1))) (gI0 λi j=>.int (i+j)))) jbv) jdn) (jaa (wVar 4) aNil))) δ n {nx:=λ_ n=>Q (.d .none) n,rt:=Q}->K.nx δ n)->Q (.d (stD (setH hs m (goTo P b nm)) ns)) n ->
   sSet 10 (jai je7 (jaa (w2 (wVar 0) (wVar 2) gIxO) (jaa (wVar 8) (jaa i5 aNil)))) [some (.w (.d (pgD ps))),some (.w (.d (stD hs ns))),some (.w (.d (.int m))),some (.w (.d (.tuple (hs.map hnD)))),some (.w (.d (nsD ns))),x5,some (.w (.d (.int xb))),some (.w (.d (.int xp))),some (.w (.d (jbb nm))),x9,some (.w (.d (hnD (goOn (xb,xp,nm) nm))))] n K:=λb hb x5 x9 i5 h5 K hK q=>by
  obtain⟨bl,hbl,obl,sub⟩:=H.to okp ea hb;refine jar (x:=hnD (goTo P b nm)) (λQ q=>c3_i (w2_i (jab rfl (jab rfl (ixo (gN_i H.pD (jab rfl (h5 _ ⟨P,b,nm,bl,rfl,hbl,obl.1,H.nms,H.hn.up,obl.2.2.2.2.1,obl.2.2.2.2.2,sub,q⟩))))))) ) ?_;dsimp only[An];exact hK _ _ (fin _ _ _ _ _ _ _ q)
 have getY:∀(s:Str) (gs:List Fe) (r5:List Aa) (i:Nat),a.pf=some (gs.map Fe.fd)->okFs gs->patO gs->fstO (gs.map Fe.fd) nm ns=some i->∀K:DEnds,
   (∀δ n,sRet (wTup (jaa (w2 (w2 (jbm (wVar 3) jbv (jbg (wVar 2))) (wTup (jaa (wVar 10) aNil)) jdn) (jbm (wVar 3) (jbg (w2 (wVar 2) (wC (.int (1))) (gI0 λi j=>.int (i+j)))) jbv) jdn) (jaa (wVar 4) aNil))) δ n {nx:=λ_ n=>Q (.d .none) n,rt:=Q}->K.nx δ n) ->
   Q (.d (stD (setH hs m (goOn (xb,xp,nm) (srtN (wkN (gs.map Fe.fd) (rowO ns i) nm)))) (if jaf "take" (.str s)=true then outO ns i else ns))) n ->
   sIf (cT (w2 (wVar 9) (wC .none) (gIsO false))) (sSet 10 (jai je7 (jaa (w2 (wVar 0) (wVar 2) gIxO) (jaa (wVar 8) (jaa (w2 (wVar 5) (wC (.int (2))) gIxO) aNil))))) (sSeq (sSet 10 (wTup (jaa (wVar 6) (jaa (w2 (wVar 7) (wC (.int (1))) (gI0 λi j=>.int (i+j))) (jaa (wB jb8 (jaa (wOf (jc6 (w2 (wVar 9) (wC (.int (1))) gIxO))) aNil)) aNil))))) (sIf (cT (w2 (w2 (wVar 5) (wC (.int (0))) gIxO) (wC (.str "take")) gEq)) (sSet 4 (w2 (jbm (wVar 4) jbv (jbg (w2 (wVar 9) (wC (.int (0))) gIxO))) (jbm (wVar 4) (jbg (w2 (w2 (wVar 9) (wC (.int (0))) gIxO) (wC (.int (1))) (gI0 λi j=>.int (i+j)))) jbv) jdn)) jap))
    [some (.w (.d (pgD ps))),some (.w (.d (stD hs ns))),some (.w (.d (.int m))),some (.w (.d (.tuple (hs.map hnD)))),some (.w (.d (nsD ns))),some (.w (.d (.tuple (.str s::r5)))),some (.w (.d (.int xb))),some (.w (.d (.int xp))),some (.w (.d (jbb nm))),some (.w (gotW (gotP ps hs ns m))),some (.w (.d (hnD (goOn (xb,xp,nm) nm))))] n K:=λs gs r5 i hpf hof hpat ei K hK q=>by
  have eg:gotP ps hs ns m=some (i,wkN (gs.map Fe.fd) (rowO ns i) nm):=by
   unfold gotP;rw[ea,H.nmq];show(a.pf.bind _)=_;rw[hpf];show(fstO _ _ _).map _=_;rw[ei];rfl
  obtain⟨⟨row,age⟩,hq,hf⟩:=jme ei;have hi:i < ns.length:=(Aq.mp hq).1;have er:rowO ns i=row:=by unfold rowO;rw[hq];rfl
  have oq:=okn.2 _ (A7 hq);obtain⟨ep,op⟩:=jk3 hof hpat;rw[er]at q eg;obtain⟨nd,ew⟩:=jvb H.hn.nd hf;obtain⟨wo,wl⟩:=jpp _ _ _ _ (jva op oq.1) H.hn.ok ew;have wl':(wkN (gs.map Fe.fd) row nm).length < 64:=by
   have h1:=H.hn.ln;have h2:((gs.map Fe.fd).zip row).length<=4:=by rw[List.length_zip];have:=op.2.1;omega
   have h3:nm.length<=40:=h1;have h4:(wkN (gs.map Fe.fd) row nm).length<=nm.length+((gs.map Fe.fd).zip row).length:=wl;omega
  rw[eg];refine if_n (λQ q=>ct_b (k:=false) (λQ q=>w2_i (jab rfl (c_i (jub q)))) q) (jae ?_);refine jar (x:=hnD (goOn (xb,xp,nm) (srtN (wkN (gs.map Fe.fd) row nm)))) (λQ q=>?_) ?_
  ·refine jfu (jab rfl (w2_i (jab rfl (c_i (addI ?_)))));refine b1_i (of_i ?_);refine(show jc6 _ _ _ _ from j38 rfl ?_);refine⟨_,rfl,wl',nd,λp hp=>⟨A4 (wo p hp).1.1 (by decide),j2d (wo p hp).2⟩,λps' p1 r1=>?_⟩;refine Aj (show 3<=1000 by decide) ?_;rw[jzh nd p1 r1];exact q
  dsimp only[An];refine jud rfl ?_;refine ifb (λz=>?_) λz=>?_
  ·rw[if_pos z]at q;refine jar (x:=nsD (outO ns i)) (λQ q=>w2_i (jvk (p:=i) (λQ q=>jab rfl q) (λQ q=>jx1 rfl q) (by rw[Ab];omega) (jvl (p:=i+1) (λQ q=>jab rfl q) (λQ q=>w2_i (jx1 rfl (c_i (addI q)))) (by rw[Ab];omega) (joa ?_ ?_)))) ?_
   ·have:=okn.1;rw[Dj,Dw,Ab];omega
   ·unfold nsD at q;rw[jxo]at q;exact q
   ·dsimp only[An];exact hK _ _ (fin _ _ _ _ _ _ _ q)
  ·rw[if_neg (by rw[z];exact Ae)]at q;exact hK _ _ (fin _ _ _ _ _ _ _ q)
 cases a with
 |lay fs age =>
  obtain⟨hl4,hfv⟩:=H.lay okp ea;cases e;refine jae (juc (s:="lay") rfl (by decide +kernel) ?_);refine jar (x:=nsD (ns++[(filO fs nm,age)])) (λQ q=>?_) ?_
  ·refine w2_i (jab rfl (jwr (ja8 (c2_i (ixo1 rfl (jr8 rfl H.nms ⟨fs,nm,rfl,hl4,hfv,?_⟩))))));refine ixo2 rfl (Aj (show 2<=1000 by decide) (Aj (show 1<=1000 by decide) (joa (by rw[Ab,As];have:=okn.1;omega) ?_)));unfold nsD at q;rw[Bb]at q;exact q
  ·dsimp only[An];exact fin _ _ _ _ _ _ _ k
 |go b =>
  cases e;refine jae (jd2 (s:="go") rfl (by decide +kernel) (juc (s:="go") rfl (by decide +kernel) ?_));exact toB b rfl _ _ _ (λQ q=>ixo1 rfl q) _ (λ_ _ z=>z) k
 |same f g b =>
  obtain⟨hf,hg,tf,tg⟩:=H.same okp ea;cases e;refine jae (jd2 (s:="same") rfl (by decide +kernel) (jd2 (s:="same") rfl (by decide +kernel) (juc (s:="same") rfl (by decide +kernel) ?_)));refine if_i (show cT _ _ _ _ from w2_i (c2_i (ixo1 rfl (jab rfl ⟨f,nm,rfl,hf,tf,H.nms,c2_i (ixo2 rfl (jab rfl ⟨g,nm,rfl,hg,tg,H.nms,j32 (fv_V hf) (fv_V hg) ?_⟩))⟩))));have k:Q (.d (stD (setH hs m (if eqB (fvO nm f) (fvO nm g)=true then goOn (xb,xp,nm) nm else goTo P b nm)) ns)) n:=k;show if (!eqB (fvO nm f) (fvO nm g))=true then _ else _
  cases z:eqB (fvO nm f) (fvO nm g)with
  |true =>
   rw[z,if_pos rfl]at k;rw[if_neg (by decide)];exact fin _ _ _ _ _ _ _ k
  |false =>
   rw[z,if_neg Ae]at k;rw[if_pos (by decide)];exact toB b rfl _ _ _ (λQ q=>ixo3 rfl q) _ (λ_ _ z=>z) k
 |take gs =>
  have e:(((getO gs (xb,xp,nm) ns).map λq=>(q.2,outO ns q.1)).map λr=>(setH hs m r.1,r.2))=some r:=e;refine jae (jd2 (s:="take") rfl (by decide +kernel) (jd2 (s:="take") rfl (by decide +kernel) (jd2 (s:="take") rfl (by decide +kernel) ?_)));cases ei:fstO (gs.map Fe.fd) nm ns with
  |none=>rw[jbr ei]at e;cases e
  |some i =>
   rw[jbl ei]at e;cases e;exact getY "take" gs [fsD gs] i rfl oa.1 oa.2 ei _ (λ_ _ z=>z) (by rw[if_pos (by decide +kernel)];exact k)
 |read gs =>
  have e:(((getO gs (xb,xp,nm) ns).map λq=>(q.2,ns)).map λr=>(setH hs m r.1,r.2))=some r:=e;refine jae (jd2 (s:="read") rfl (by decide +kernel) (jd2 (s:="read") rfl (by decide +kernel) (jd2 (s:="read") rfl (by decide +kernel) ?_)));cases ei:fstO (gs.map Fe.fd) nm ns with
  |none=>rw[jbr ei]at e;cases e
  |some i =>
   rw[jbl ei]at e;cases e;exact getY "read" gs [fsD gs] i rfl oa.1 oa.2 ei _ (λ_ _ z=>z) (by rw[if_neg (by decide +kernel)];exact k)
 |look gs b =>
  have e:((match getO gs (xb,xp,nm) ns with | some q=>some (q.2,ns) | none=>some (goTo P b nm,ns):Option (Hn×List Nt)).map λr=>(setH hs m r.1,r.2))=some r:=e;refine jae (jd2 (s:="look") rfl (by decide +kernel) (jd2 (s:="look") rfl (by decide +kernel) (jd2 (s:="look") rfl (by decide +kernel) ?_)));cases ei:fstO (gs.map Fe.fd) nm ns with
  |none =>
   rw[jbr ei]at e;cases e;have eg:gotP ps hs ns m=none:=by
    unfold gotP;rw[ea,H.nmq];show(fstO _ _ _).map _=_;rw[ei];rfl
   rw[eg];refine if_y (λQ q=>ct_b (k:=true) (λQ q=>w2_i (jab rfl (c_i (jgd q)))) q) ?_;exact toB b rfl _ _ _ (λQ q=>ixo2 rfl q) _ (λ_ _ z=>z) k
  |some i =>
   rw[jbl ei]at e;cases e;exact getY "look" gs [fsD gs,.int b] i rfl oa.1 oa.2 ei _ (λ_ _ z=>z) (by rw[if_neg (by decide +kernel)];exact k)
def Sm (k w:Nat) (d:Aa):Prop:=E4 d=true/\E3 d<=k/\Fb d<=w/\Eg 13 d=true/\Eu d=true
theorem Sm.small {k w:Nat} {d:Aa} (h:Sm k w d) (hk:k<=20) (hw:w<=2 ^ 20):Small d:=⟨h.1,by have:=h.2.1;omega,by have:=h.2.2.1;omega,h.2.2.2⟩
theorem jqf {k w:Nat}:∀ds:List Aa,(∀d∈ds,Sm k w d)->PyData.canLayAll0 ds=true/\PyData.depthAll ds<=k/\PyData.weightAll ds<=(w+1)*ds.length/\PyData.intsShortAll 13 ds=true/\PyData.showableAll ds=true
 |[],_=>⟨rfl,Bn _,Bn _,rfl,rfl⟩
 |d::r,h=>by
  obtain⟨a1,a2,a3,a4,a5⟩:=jqf r λx hx=>h x (Az _ hx);obtain⟨b1,b2,b3,b4,b5⟩:=h d Ay;refine⟨?_,?_,?_,?_,?_⟩
  ·rw[PyData.canLayAll0,a1,b1];rfl
  ·rw[PyData.depthAll];omega
  ·rw[PyData.weightAll,Ao,Nat.mul_succ];omega
  ·rw[PyData.intsShortAll,a4,b4];rfl
  ·rw[PyData.showableAll,a5,b5];rfl
theorem jhx {k w m:Nat} {ds:List Aa} (h:∀d∈ds,Sm k w d) (hl:ds.length<=m):Sm (k+1) ((w+1)*m) (.tuple ds):=by
 obtain⟨a1,a2,a3,a4,a5⟩:=jqf ds h;have:=Nat.mul_le_mul_left (w+1) hl;refine⟨by rw[E4];exact a1,by rw[E3];omega,by rw[Fb];omega,by rw[Eg];exact a4,by rw[Eu];exact a5⟩
theorem jqe {k w m:Nat} {ds:List Aa} (h:∀d∈ds,Sm k w d) (hl:ds.length<=m):Sm (k+1) ((w+1)*m) (.list ds):=by
 obtain⟨a1,a2,a3,a4,a5⟩:=jqf ds h;have:=Nat.mul_le_mul_left (w+1) hl;refine⟨by rw[E4];exact a1,by rw[E3];omega,by rw[Fb];omega,by rw[Eg];exact a4,by rw[Eu];exact a5⟩
theorem Sm.up {k w k' w':Nat} {d:Aa} (h:Sm k w d) (hk:k<=k') (hw:w<=w'):Sm k' w' d:=⟨h.1,A4 h.2.1 hk,A4 h.2.2.1 hw,h.2.2.2⟩
theorem jm6 {d:Aa} (h:isV d=true):Sm 0 20 d:=by
 cases d with
 |str x =>
  have h:(decide (x.length<=8)&&PyData.strOk x)=true:=h;rw[Cw]at h;have h1:x.cps.size<=8:=of_decide_eq_true h.1;refine⟨?_,by rw[E3];exact Al _,?_,by rw[Eg],by rw[Eu]⟩
  ·rw[E4];exact h.2
  ·rw[Fb];omega
 |int i =>
  simp only[isV,Cw,decide_eq_true_eq]at h;exact⟨by rw[E4],by rw[E3];exact Al _,h.2.2.1,h.2.2.2.1,h.2.2.2.2⟩
 |_=>cases h
theorem jj7 {a b:Aa} {k w:Nat} (ha:Sm k w a) (hb:Sm k w b):Sm (k+1) ((w+1)*2) (.tuple [a,b]):=jhx (λd hd=>by
 simp only[Ar,Ax,or_false]at hd;rcases hd with rfl | rfl
 ·exact ha
 ·exact hb) (Al _)
theorem jzv {d:Aa} (h:jdy d):Sm 0 20 d:=by
 rcases h with rfl | ⟨i,rfl,h0,h1⟩
 ·exact⟨rfl,Al _,by decide,rfl,rfl⟩
 ·exact jm6 (V_of (by omega) (by omega))
theorem jqc {q:Nt} (h:okQ q):Sm 2 170 (ntD q):=jj7 ((jhx (k:=0) (w:=20) (m:=4) (λd hd=>jm6 (h.1.2 d hd)) h.1.1)) ((jzv h.2).up (by decide) (by decide))
theorem jzw {hs:List Hn} {h:Nat} {x:Hn} (hh:h < hs.length):setH hs h x=hs.set h x:=by
 rw[List.set_eq_take_append_cons_drop,if_pos hh];rfl
theorem okHs.put {ps:Pg} {hs:List Hn} {h:Nat} {x:Hn} {P:List Bl} {b:Bl} (ok:okHs ps hs) (hP:ps[h]?=some P) (hb:P[x.1]?=some b) (hx:okHn b x):okHs ps (setH hs h x):=by
 have hh:h < hs.length:=by rw[ok.1];exact(Aq.mp hP).1
 rw[jzw hh];refine⟨by rw[Ci];exact ok.1,λi P' hi=>?_⟩;by_cases e:h=i
 ·subst e;rw[hP]at hi;cases hi;exact⟨x,b,List.getElem?_set_self hh,hb,hx⟩
 ·obtain⟨h',b',e1,e2,e3⟩:=ok.2 i P' hi;exact⟨h',b',by rw[Cg e];exact e1,e2,e3⟩
theorem jrn {w:List Str} {as:List Ac} {p:Nat} {a:Ac} (h:as[p]?=some a):kn w as (p+1)=kn w as p++a.bs:=by
 unfold kn;rw[List.take_add_one,h,List.flatMap_append,Bk];simp
theorem jln:∀(l:List (Fd×Aa)) (h:Nm) (hs:List Str) (k:Nm),(∀x∈hs,x∈h.map (·.1))->wk l h hs=some k->∀x,x∈k.map (·.1)↔x∈h.map (·.1)\/∃p∈l,p.1=.bind x
 |[],h,hs,k,_,e,x=>by cases e;simp
 | (f,v)::r,h,hs,k,hh,e,x=>by
  have same:wk r h hs=some k->(∀y,f=.bind y->y∈h.map (·.1))->(x∈k.map (·.1)↔x∈h.map (·.1)\/∃p∈(f,v)::r,p.1=.bind x):=λe nb=>by
   rw[jln r h hs k hh e x]
   constructor
   ·rintro(q | ⟨p,hp,q⟩)
    ·exact .inl q
    ·exact .inr ⟨p,Az _ hp,q⟩
   ·rintro(q | ⟨p,hp,q⟩)
    ·exact .inl q
    ·rcases Ar.mp hp with rfl | hp
     ·exact .inl (nb x q)
     ·exact .inr ⟨p,hp,q⟩
  cases f with
  |is w=>unfold wk at e;split at e;exact same e (λy z=>by cases z);cases e
  |any=>unfold wk at e;exact same e (λy z=>by cases z)
  |word=>unfold wk at e;split at e;exact same e (λy z=>by cases z);cases e
  |number=>unfold wk at e;split at e;exact same e (λy z=>by cases z);cases e
  |as y =>
   unfold wk at e
   split at e
   ·split at e
    ·exact same e (λy z=>by cases z)
    ·cases e
   ·cases e
  |bind y =>
   unfold wk at e
   split at e
   ·rename_i hy
    split at e
    ·split at e
     ·exact same e (λz q=>by cases q;exact hh y hy)
     ·cases e
    ·cases e
   ·have pk:∀z,z∈(put h y v).map (·.1)↔z∈h.map (·.1)\/z=y:=λz=>by
     rw[jnd]
     split
     ·rename_i q;obtain⟨p,hp,q⟩:=Fg.mp q;have hy:y∈h.map (·.1):=Bf.mpr ⟨p,hp,of_decide_eq_true q⟩;exact⟨.inl,λq=>q.elim id λq=>q▸hy⟩
     ·rw[Bd,Bh]
    rw[jln r (put h y v) (hs++[y]) k (λz hz=>(pk z).mpr ((Bd.mp hz).elim (λq=>.inl (hh z q)) λq=>.inr (Bh.mp q))) e x,pk x]
    constructor
    ·rintro((q | rfl) | ⟨p,hp,q⟩)
     ·exact .inl q
     ·exact .inr ⟨_,Ay,rfl⟩
     ·exact .inr ⟨p,Az _ hp,q⟩
    ·rintro(q | ⟨p,hp,q⟩)
     ·exact .inl (.inl q)
     ·rcases Ar.mp hp with rfl | hp
      ·cases q;exact .inl (.inr rfl)
      ·exact .inr ⟨p,hp,q⟩
theorem ju2 {gs:List Fe} {row:List Aa} (hp:∀f∈gs,f.pt=true) (hl:(gs.map Fe.fd).length=row.length) (x:Str):(∃p∈(gs.map Fe.fd).zip row,p.1=.bind x)↔x∈bndE gs:=by
 unfold bndE;rw[Fs]
 constructor
 ·rintro⟨⟨a,b⟩,hp',e⟩
  obtain⟨f,hf,e'⟩:=Bf.mp (D7 hp').1;refine⟨f,hf,?_⟩;have e:a=.bind x:=e;rw[e]at e';cases f<;>first | (cases e';rfl) | cases e'
 ·rintro⟨f,hf,e⟩
  have ef:f=.bind x:=by cases f<;>first | (cases e;rfl) | cases e
  subst ef;obtain⟨i,hi⟩:=Cp.mp hf;have hil:=(Aq.mp hi).1;rw[Ab]at hl;refine⟨(.bind x,row[i]'(by omega)),Cp.mpr ⟨i,?_⟩,rfl⟩;rw[List.getElem?_zip_eq_some];exact⟨by rw[A0,hi];rfl,Af (by omega)⟩
theorem ju6 {d:Aa} (h:jdy d) (h1:isI1 d=false):jdy (ageO d):=by
 rcases h with rfl | ⟨i,rfl,h0,h2⟩
 ·exact .inl rfl
 ·have:¬i=1:=by simpa[isI1]using h1
  exact .inr ⟨i - 1,rfl,by omega,by omega⟩
theorem j2z {m:Nat} {ns:List Nt} (h:okNs m ns):okNs m (clkO ns):=by
 unfold clkO;refine⟨by rw[Ab];exact A4 (Cq _ _) h.1,λq hq=>?_⟩;obtain⟨p,hp,rfl⟩:=Bf.mp hq;obtain⟨h1,h2⟩:=Bu.mp hp;exact⟨(h.2 p h1).1,ju6 (h.2 p h1).2 (by simpa using h2)⟩
theorem ji2 {ps:Pg} {hs:List Hn} {ns:List Nt} {m M:Nat} {r:List Hn×List Nt} (okp:okPg ps) (okh:okHs ps hs) (okn:okNs M ns) (hm:m<=ps.length) (e:aftO ps hs ns m=some r):okHs ps r.1/\okNs (M+1) r.2:=by
 unfold aftO at e;by_cases em:m=ps.length
 ·rw[if_pos em]at e;cases e;have:=j2z okn;exact⟨okh,Nat.le_succ_of_le this.1,this.2⟩
 rw[if_neg em]at e;have hh:m < ps.length:=by omega
 obtain⟨P,xb,xp,nm,w,as,H⟩:=jdm okh hh;cases ea:actO ps hs m with
 |none =>
  unfold movO at e;rw[H.prog,H.hand,ea]at e;cases e
 |some a =>
 rw[jno H ea]at e;have oa:=H.ok okp ea;have ea':=ea;rw[H.act]at ea';have hxp:xp < as.length:=(Aq.mp ea').1;have okn':okNs (M+1) ns:=⟨Nat.le_succ_of_le okn.1,okn.2⟩;have on:a.bs=[]->okHs ps (setH hs m (goOn (xb,xp,nm) nm)):=λhb=>okh.put H.prog (x:=goOn (xb,xp,nm) nm) H.blk ⟨hxp,H.hn.nd,H.hn.ok,H.hn.up,λk=>by
  show k∈nm.map (·.1)↔k∈kn w as (xp+1);rw[jrn ea',hb,Bo];exact H.hn.mem k,H.hn.ln⟩
 have to:∀b,a.to=some b->okHs ps (setH hs m (goTo P b nm)):=λb hb=>by
  obtain⟨bl,hbl,obl,sub⟩:=H.to okp ea hb;have ew:wtO P b=bl.1:=by unfold wtO;rw[hbl];rfl
  refine okh.put H.prog (x:=goTo P b nm) hbl ?_;have en:(goTo P b nm).2.2=bl.1.map λk=>(k,lkO nm k):=by
   unfold goTo;rw[ew];exact jy8 H.hn.nd H.hn.up obl.2.2.2.2.1 obl.2.2.2.2.2 sub
  have ek:(goTo P b nm).2.2.map (·.1)=bl.1:=by rw[en,Ct];exact List.map_id' _
  have sl:(goTo P b nm).2.2.Sublist nm:=List.filter_sublist;refine⟨Bn _,by rw[ek];exact obl.2.2.2.2.1,λp hp=>H.hn.ok p (sl.subset hp),List.Pairwise.sublist sl H.hn.up,λk=>by rw[ek];unfold kn;show _↔k∈bl.1++(bl.2.take 0).flatMap Ac.bs;simp,A4 sl.length_le H.hn.ln⟩
 have get:∀(gs:List Fe) (i:Nat),a.pf=some (gs.map Fe.fd)->a.bs=bndE gs->okFs gs->patO gs->fstO (gs.map Fe.fd) nm ns=some i->okHs ps (setH hs m (goOn (xb,xp,nm) (srtN (wkN (gs.map Fe.fd) (rowO ns i) nm)))):=λgs i hpf hbs hof hpat ei=>by
  obtain⟨⟨row,age⟩,hq,hf⟩:=jme ei;have er:rowO ns i=row:=by unfold rowO;rw[hq];rfl
  rw[er];have oq:=okn.2 _ (A7 hq);obtain⟨ep,op⟩:=jk3 hof hpat;obtain⟨nd,ew⟩:=jvb H.hn.nd hf;obtain⟨wo,_⟩:=jpp _ _ _ _ (jva op oq.1) H.hn.ok ew;have hlen:(gs.map Fe.fd).length=row.length:=by
   unfold fitB at hf;rw[Cw]at hf;exact of_decide_eq_true hf.1
  have pm:=jm2 (wkN (gs.map Fe.fd) row nm);have pk:((srtN (wkN (gs.map Fe.fd) row nm)).map (·.1)).Perm ((wkN (gs.map Fe.fd) row nm).map (·.1)):=pm.map _;have hmem:∀k,k∈(srtN (wkN (gs.map Fe.fd) row nm)).map (·.1)↔k∈kn w as (xp+1):=λk=>by
   rw[pk.mem_iff,jln _ _ _ _ (λx hx=>by simp at hx) ew k,ju2 hpat.2 hlen,jrn ea',Bd,hbs];exact or_congr (H.hn.mem k) Iff.rfl
  have nd':=pk.nodup_iff.mpr nd;refine okh.put H.prog (x:=goOn (xb,xp,nm) _) H.blk ⟨hxp,nd',λp hp=>wo p (pm.mem_iff.mp hp),jvh _,hmem,?_⟩;have:=jkf nd' (ks:=kn w as (xp+1)) λk hk=>(hmem k).mp hk;rw[Ab]at this;have h36:=j1l (H.okb okp).1 (xp+1);exact A4 this (A4 h36 (by decide))
 cases a with
 |lay fs age =>
  cases e;obtain⟨hl4,hfv⟩:=H.lay okp ea;refine⟨on rfl,by rw[Ak,As];have:=okn.1;omega,λq hq=>?_⟩;rcases Bd.mp hq with hq | hq
  ·exact okn.2 q hq
  ·rw[Bh.mp hq];exact⟨⟨by show(filO fs nm).length<=4;unfold filO;rw[Ab];exact hl4,λd hd=>by
    obtain⟨f,hf,rfl⟩:=Bf.mp hd;exact fv_V (hfv f hf)⟩,oa.2.2⟩
 |go b=>cases e;exact⟨to b rfl,okn'⟩
 |same f g b =>
  cases e;refine⟨?_,okn'⟩;show okHs ps (setH hs m (if eqB (fvO nm f) (fvO nm g)=true then goOn (xb,xp,nm) nm else goTo P b nm))
  split
  ·exact on rfl
  ·exact to b rfl
 |take gs =>
  have e:(((getO gs (xb,xp,nm) ns).map λq=>(q.2,outO ns q.1)).map λr=>(setH hs m r.1,r.2))=some r:=e;cases ei:fstO (gs.map Fe.fd) nm ns with
  |none=>rw[jbr ei]at e;cases e
  |some i =>
   rw[jbl ei]at e;cases e;refine⟨get gs i rfl rfl oa.1 oa.2 ei,?_,λq hq=>?_⟩
   ·show(outO ns i).length<=_;unfold outO;rw[Ak,Dj,Dw];have:=okn.1;omega
   ·rcases Bd.mp hq with hq | hq
    ·exact okn.2 q (List.mem_of_mem_take hq)
    ·exact okn.2 q (List.mem_of_mem_drop hq)
 |read gs =>
  have e:(((getO gs (xb,xp,nm) ns).map λq=>(q.2,ns)).map λr=>(setH hs m r.1,r.2))=some r:=e;cases ei:fstO (gs.map Fe.fd) nm ns with
  |none=>rw[jbr ei]at e;cases e
  |some i =>
   rw[jbl ei]at e;cases e;exact⟨get gs i rfl rfl oa.1 oa.2 ei,okn'⟩
 |look gs b =>
  have e:((match getO gs (xb,xp,nm) ns with | some q=>some (q.2,ns) | none=>some (goTo P b nm,ns):Option (Hn×List Nt)).map λr=>(setH hs m r.1,r.2))=some r:=e;cases ei:fstO (gs.map Fe.fd) nm ns with
  |none =>
   rw[jbr ei]at e;cases e;exact⟨to b rfl,okn'⟩
  |some i =>
   rw[jbl ei]at e;cases e;exact⟨get gs i rfl rfl oa.1 oa.2 ei,okn'⟩
theorem jys {ps:Pg} {hs:List Hn} {ns:List Nt} {m:Nat} (okh:okHs ps hs) (hh:m < ps.length) (h:canB ps hs ns m=true):∃r,aftO ps hs ns m=some r:=by
 obtain⟨P,xb,xp,nm,w,as,H⟩:=jdm okh hh;unfold aftO;rw[if_neg (by omega)];cases ea:actO ps hs m with
 |none=>unfold canB at h;rw[ea]at h;cases h
 |some a =>
 rw[jwg ea]at h;rw[jno H ea];have eg:∀gs:List Fe,a.pf=some (gs.map Fe.fd)->gotO ps hs ns m=fstO (gs.map Fe.fd) nm ns:=λgs hpf=>by
  unfold gotO;rw[ea,H.nmq];show(a.pf.bind _)=_;rw[hpf];rfl
 have gt:∀gs:List Fe,(gotO ps hs ns m).isSome=true->a.pf=some (gs.map Fe.fd)->∃q,getO gs (xb,xp,nm) ns=some q:=λgs h1 h2=>by
  rw[eg gs h2]at h1;obtain⟨i,hi⟩:=C3.mp h1;exact⟨_,jbl hi⟩
 cases a with
 |lay fs age=>exact⟨_,rfl⟩
 |go b=>exact⟨_,rfl⟩
 |same f g b=>exact⟨_,rfl⟩
 |take gs =>
  obtain⟨q,hq⟩:=gt gs h rfl;show ∃r,(((getO gs (xb,xp,nm) ns).map λq=>(q.2,outO ns q.1)).map λr=>(setH hs m r.1,r.2))=some r;rw[hq];exact⟨_,rfl⟩
 |read gs =>
  obtain⟨q,hq⟩:=gt gs h rfl;show ∃r,(((getO gs (xb,xp,nm) ns).map λq=>(q.2,ns)).map λr=>(setH hs m r.1,r.2))=some r;rw[hq];exact⟨_,rfl⟩
 |look gs b =>
  show ∃r,((match getO gs (xb,xp,nm) ns with | some q=>some (q.2,ns) | none=>some (goTo P b nm,ns):Option (Hn×List Nt)).map λr=>(setH hs m r.1,r.2))=some r;cases getO gs (xb,xp,nm) ns with
  |none=>exact⟨_,rfl⟩
  |some q=>exact⟨_,rfl⟩
theorem cN2 {δ:Sl} {n:Int} {S:DSpN} {w w':DT} {Q:List Aa->Int->Prop} (k:w δ n λx n1=>w' δ n1 λy n2=>S [x,y] n2 Q):jck S (jaa w (jaa w' aNil)) δ n Q:=k
theorem jiw (m:Nat):rngD 0 m=(A1 m).map λj=>E8 (j:Nat):=by
 unfold rngD;exact B7 λi _=>by rw[Int.zero_add]
theorem ji1 {s:Str} {n:Int} {Q:DQ} (k:Q (.d (.bool false)) n):gNe (.d (.str s)) (.d (.str s)) n Q:=by
 show Q (.d (.bool (!jaf s (.str s)))) n;have:jaf s (.str s)=true:=by unfold jaf;exact decide_eq_true rfl
 rw[this];exact k
theorem jyo (xs:List Aa) (p:Nat):cutD xs none (some (p:Int))=xs.take p:=by
 unfold cutD;rw[HT.sIx_nat,HT.sIx_none,Dy,Nat.sub_zero];by_cases h:p<=xs.length
 ·rw[Fn h]
 ·rw[Nat.min_eq_right (by omega),De (Al _),De (by omega)]
theorem jr3 {δ:Sl} {n:Int} {K:DEnds} {W:DST} {g:DTG} {j:Int} (m:Nat) (ej:j=m) (hm:m<=1000) (k:forD g W K (rngD 0 m) δ n):sFor (jak (wC (.int j))) g W δ n K:=by
 subst ej;exact⟨⟨by omega,by omega⟩,by rw[Bp];exact k⟩
theorem jkw (L:List Nat) (m:Nat):intL (L++[m])=intL L++[.int m]:=Bb
theorem jce (L:List Nat):(intL L).length=L.length:=Ab _
theorem jy7 {ps:Pg} {hs:List Hn} {ns:List Nt} {m:Nat} (okh:okHs ps hs) (hm:m<=ps.length) (c:m=ps.length\/canB ps hs ns m=true):∃q,aftO ps hs ns m=some q:=by
 by_cases e:m=ps.length
 ·exact⟨_,by unfold aftO;rw[if_pos e]⟩
 ·exact jys okh (by omega) (c.resolve_left e)
section
variable {δ:Sl} {n:Int} {Q:DQ}
theorem drw {w:DT} {m:Int} (e1:δ[1]?=some (some (.w .tp))) (hw:∀Q:DQ,Q (.d (.int m)) n->w δ n Q) (h:n < 2 ^ 40) (h0:0 < m) (h1:m < 1073741824) (k:∀r:Int,0<=r->r < m->Q (.d (.int r)) (n+1)):jai jas (jaa (wVar 1) (jaa w aNil)) δ n Q :=
 c2_i (jab e1 (hw _ (jn1 h h0 h1 k)))
end
theorem jhj:∀ws n Q,jg4 ws n Q->ws.length=1:=λws n Q h=>by obtain⟨_,_,rfl,_⟩:=h;rfl
theorem jgs:∀ws n Q,jg4 ws n Q->je6 (jat ["_law_plan_here"] ws) n {nx:=λ_ n=>Q (.d .none) n,rt:=Q}:=λws n Q h=>by
 obtain⟨ps,ns,rfl,hp,k⟩:=h;show je6 [some (.w (.d (.tuple [pgD ps,nsD ns])))] n _;refine ja2 (ja8 (b1_i (of_i (jjk (ds:=ps.map prD) (λQ q=>w2_i (jab rfl (c_i (g0_i q)))) ?_))));show jbf _ _ _ _ _ _ [none] n;refine j2y prD (λ_=>hnD (0,0,[])) ps none n (λP hP n Q' q=>jfu (c_i (c_i (show wTup aNil _ _ _ from Aj (by decide) (Aj (show 3<=1000 by decide) q))))) ?_;refine(show jb8 _ _ _ from w2_i (jab rfl (c_i (gN_i (i:=1) rfl (Aj (show 2<=1000 by decide) ?_)))));have e:(hs0 ps).map hnD=ps.map λ_=>hnD (0,0,[]):=by unfold hs0;rw[Ct];rfl
 unfold stD at k;rw[e]at k;exact k
theorem j12 {ps:Pg} (hp:okPg ps) (hf:∀P∈ps,fst0 P):okHs ps (hs0 ps):=by
 refine⟨Ab _,λi P hi=>?_⟩;obtain⟨w,hw⟩:=hf P (A7 hi);obtain⟨b,r,rfl,hb,_⟩:=Fl.mp hw;refine⟨(0,0,[]),b,?_,rfl,Bn _,List.nodup_nil,λp hp=>(by simp at hp),List.Pairwise.nil,λk=>?_,Bn _⟩
 ·unfold hs0;rw[A0,hi];rfl
 ·show k∈([]:List Str)↔k∈kn b.1 b.2 0;unfold kn;rw[hb];simp
theorem jpo {ps:Pg} {s0:Sd} {L:List Nat} {S:List Sd} (W:Wlk ps s0 L S):∀(k i:Nat) {s t:Sd},i+k<=L.length->S[i]?=some s->S[i+k]?=some t->Wov ps s ((L.drop i).take k) t
 |0,i,s,t,h,e,e'=>by
  rw[Nat.add_zero,e]at e';cases e';rw[List.take_zero];exact .nil
 |k+1,i,s,t,h,e,e'=>by
  have hi:i < L.length:=by omega
  obtain⟨hm,s1,t1,e1,e2,ea⟩:=W.st i _ (Af hi);rw[e]at e1;cases e1;rw[Eo hi,List.take_succ_cons];exact .cons hm ea (jpo W k (i+1) (by omega) e2 (by rw[show i+1+k=i+(k+1) by omega];exact e'))
theorem juk {δ:Sl} {n:Int} {w:DT} {Q:List Aa->Int->Prop} (k:w δ n λx n1=>match jcn [x]with
  |some ds=>ds.length<=1000/\Q ds n1
  |none=>False):fLst (jaa w aNil) δ n Q:=k
theorem jf9:∀ws n Q,jfr ws n Q->ws.length=2:=λws n Q h=>by obtain⟨_,_,_,rfl,_⟩:=h;rfl
theorem jvn {ps:Pg} {hs:List Hn} {ns:List Nt}:(rdyL ps hs ns).length<=ps.length:=by
 unfold rdyL;rw[Ab];exact A4 (Cq _ _) (by rw[Bx];exact Al _)
theorem jfk:∀ws n Q,jfr ws n Q->jd9 (jat ["_law_programs","_law_stand"] ws) n {nx:=λ_ _=>False,rt:=λ_ _=>False,rn:=Q}:=λws n Q h=>by
 obtain⟨ps,hs,ns,rfl,ok,k⟩:=h;show jd9 [some (.w (.d (pgD ps))),some (.w (.d (stD hs ns)))] n _;refine(show jiv _ _ _ _ from ?_);unfold jiv fCat;refine of_i ?_;unfold ja0 jak;refine j1g (ds:=ps.map prD) rfl (Aj ⟨by omega,by rw[Ab];have:=ok.1.1;omega⟩ ?_);rw[Bp,Ab];refine juu ok ?_;refine of_i (juk (j1g (ds:=ps.map prD) rfl (Aj (show 1<=1000 by decide) ?_)));rw[Ab];refine Aj ?_ k;have h1:=jvn (ps:=ps) (hs:=hs) (ns:=ns);have:=ok.1.1;show(rdyL ps hs ns).length+1<=_;exact jau (by omega)
theorem j24 {α:Type} (l:List α) (x:α):atI (l++[x]) (-1)=some x:=by
 have e:ixN (l++[x]).length (-1)=some l.length:=by
  unfold ixN;rw[Ak,As,if_neg (by omega),if_pos (by omega)]
  congr 1
  omega
 unfold atI;rw[e];show(l++[x])[l.length]?=some x;rw[Bt (Al _),Nat.sub_self];rfl
theorem j2v (xs:List Aa):cutD xs none (some (-1))=xs.take (xs.length - 1):=by
 have e:HT.sIx xs.length xs.length (some (-1))=xs.length - 1:=by
  show(if (-1:Int) < 0 then((-1:Int)+(xs.length:Int)).toNat else min (-1:Int).toNat xs.length)=_;rw[if_pos (by decide)];omega
 unfold cutD;rw[HT.sIx_none,Dy,Nat.sub_zero,e]
section
variable {δ:Sl} {n:Int} {Q:DQ} {i:Nat}
theorem jma {xs:List Aa} {x:Aa} (e:δ[i]?=some (some (.own (xs++[x])))) (k:Q (.d x) n):w2 (jbt i) (wNeg (wC (.int (1)))) gIxL δ n Q:=by
 refine w2_i (jda e ?_);show(match atI (xs++[x]) (-1)with | some d=>Q (.d d) n | none=>False);rw[j24];exact k
theorem j14 {a b:Int} (k:Q (.d (.bool (decide (b < a)))) n):gGt (.d (.int a)) (.d (.int b)) n Q:=k
theorem jkp {ds:List Aa} (e:δ[i]?=some (some (.w (.d (.list ds))))) (k:Q (.d (.int ds.length)) n):wB jbp (jaa (wVar i) aNil) δ n Q:=b1_i (jab e k)
end
theorem Wlk.snoc {ps:Pg} {s z r:Sd} {L:List Nat} {S:List Sd} {m:Nat} (W:Wlk ps s L (S++[z])) (okp:okPg ps) (hm:m<=ps.length) (e:aftO ps z.1 z.2 m=some r):Wlk ps s (L++[m]) (S++[z]++[r]):=by
 have hS:S.length=L.length:=by have:=W.len;rw[Ak,As]at this;omega
 have hz:(S++[z])[S.length]?=some z:=by rw[Bt (Al _),Nat.sub_self];rfl
 have hr:(S++[z]++[r])[S.length+1]?=some r:=by rw[Bt (by rw[Ak,As];exact Al _),Ak,As,Nat.sub_self];rfl
 have up:∀i x,(S++[z])[i]?=some x->(S++[z]++[r])[i]?=some x:=λi x h=>by rw[B9 (Aq.mp h).1];exact h
 refine⟨?_,up _ _ W.fst,λi x h=>?_,λi k h=>?_⟩
 ·rw[Ak,W.len,As,Ak,As]
 ·by_cases hi:i < (S++[z]).length
  ·rw[B9 hi]at h;exact W.ok i x h
  ·have hl:=(Aq.mp h).1;rw[Ak,Ak,As,As]at hl;rw[Ak,As]at hi;obtain rfl:i=S.length+1:=by omega
   rw[hr]at h;cases h;obtain⟨h1,h2⟩:=W.ok _ _ hz;exact ji2 okp h1 h2 hm e
 ·by_cases hi:i < L.length
  ·rw[B9 hi]at h;obtain⟨h1,a,b,h2,h3,h4⟩:=W.st i k h;exact⟨h1,a,b,up _ _ h2,up _ _ h3,h4⟩
  ·have hl:=(Aq.mp h).1;rw[Ak,As]at hl;obtain rfl:i=S.length:=by omega
   rw[Bt (by omega),show S.length - L.length=0 by omega]at h;cases h;exact⟨hm,z,r,up _ _ hz,hr,e⟩
def MvOk (ps:Pg) (z:Sd) (ds:List Aa):Prop:=0 < ds.length/\ds.length<=6/\∀d∈ds,∃m:Nat,d=.int m/\m<=ps.length/\(m=ps.length\/canB ps z.1 z.2 m=true)
def WalI (ps:Pg) (s:Sd) (n0:Int) (l:Nat) (δ:Sl) (n:Int):Prop:=∃(L:List Nat) (S:List Sd) (z:Sd) (x6 x7:Option SV),δ=[some (.w .tp),some (.w (.d (pgD ps))),some (.w (.d (sdD s))),some (.w (.d (.int 30))),some (.own (intL L)),some (.own (S.map sdD++[sdD z])),x6,x7]/\Wlk ps s L (S++[z])/\L.length+l<=30/\n+2*(l:Int)<=n0+62
theorem jft {ps:Pg} {s z:Sd} {L:List Nat} {S:List Sd} {ds:List Aa} {n n0:Int} {l:Nat} {x6:Option SV} {K:DEnds} (okp:okPg ps) (W:Wlk ps s L (S++[z])) (hd:MvOk ps z ds) (hL:L.length+(l+1)<=30) (hn:n+1+2*(l:Int)<=n0+62) (hn0:n0+62 < 2 ^ 39) (kN:∀δ n,WalI ps s n0 l δ n->K.nx δ n) :
  sSeq (sApp 4 (w2 (wVar 7) (jai jas (jaa (wVar 0) (jaa (wB jbp (jaa (wVar 7) aNil)) aNil))) gIxL)) (sApp 5 (jai jew (jaa (wVar 1) (jaa (w2 (jbt 5) (wNeg (wC (.int (1)))) gIxL) (jaa (w2 (jbt 4) (wNeg (wC (.int (1)))) gIxL) aNil)))))
   [some (.w .tp),some (.w (.d (pgD ps))),some (.w (.d (sdD s))),some (.w (.d (.int 30))),some (.own (intL L)),some (.own (S.map sdD++[sdD z])),x6,some (.w (.d (.list ds)))] n K:=by
 obtain⟨d0,d6,dm⟩:=hd;have hS:S.length=L.length:=by have:=W.len;rw[Ak,As]at this;omega
 have hz:(S++[z])[S.length]?=some z:=by rw[Bt (Al _),Nat.sub_self];rfl
 obtain⟨ok1,ok2⟩:=W.ok _ _ hz;have ok:okSt ps z.1 z.2:=⟨okp,ok1,A4 ok2.1 (by omega),ok2.2⟩;refine jae (jgt rfl (w2_i (jab rfl (jdc (m:=(ds.length:Nat)) rfl (λQ q=>jkp rfl q) (by omega) (by omega) (by omega) λr r0 r1=>jbd r0 r1 λd hd=>?_))));obtain⟨m,rfl,hm,hc⟩:=dm d hd;obtain⟨r,er⟩:=jy7 ok1 hm hc;refine Aj (by rw[jce];omega) ?_;dsimp only[An];refine jgt rfl (c3_i (jab rfl (jma rfl (jma rfl ⟨ps,z.1,z.2,m,r,rfl,ok,hm,er,?_⟩))));refine Aj (by rw[Ak,Ab,As];omega) (kN _ _ ⟨L++[m],S++[z],r,x6,some (.w (.d (.list ds))),?_,W.snoc okp hm er,by rw[Ak,As];omega,by omega⟩);rw[jkw,Bb];rfl
theorem j35 {ps:Pg} {z:Sd} (hp:ps.length<=5):MvOk ps z (rdyL ps z.1 z.2++[.int ps.length]):=by
 have h1:=jvn (ps:=ps) (hs:=z.1) (ns:=z.2);refine⟨by rw[Ak,As];omega,by rw[Ak,As];omega,λd hd=>?_⟩;rcases Bd.mp hd with q | q
 ·unfold rdyL at q;obtain⟨m,hm,rfl⟩:=Bf.mp q;obtain⟨h2,h3⟩:=Bu.mp hm;have:=Br.mp h2;exact⟨m,rfl,by omega,.inr h3⟩
 ·rw[Bh]at q;exact⟨ps.length,q,Al _,.inl rfl⟩
theorem ji4:∀ws n Q,job ws n Q->ws.length=4:=λws n Q h=>by obtain⟨_,_,rfl,_⟩:=h;rfl
theorem jhm:∀ws n Q,job ws n Q->jgv (jat ["_law_tape_here","_law_programs","_law_stand","_law_most","_law_movers_here","_law_stands","_law_k","_law_some"] ws) n {nx:=λ_ n=>Q (.d .none) n,rt:=Q}:=λws n0 Q h=>by
 obtain⟨ps,s,rfl,okp,okh,okn,hn0,k⟩:=h;show jgv [some (.w .tp),some (.w (.d (pgD ps))),some (.w (.d (sdD s))),some (.w (.d (.int 30))),none,none,none,none] n0 _;refine jae (jb3 ?_);dsimp only[An];refine jae (show sOwn 5 _ _ _ _ from juk (jab rfl (Aj (show 1<=1000 by decide) ?_)));dsimp only[An];refine jae ?_;unfold sFor jak;refine jdc (m:=31) rfl (λQ q=>w2_i (jab rfl (c_i (addI q)))) (by omega) (by omega) (by omega) λr r0 r1=>?_;refine Aj ⟨by omega,by omega⟩ ?_;have W0:Wlk ps s [] ([]++[s]):=⟨rfl,rfl,λi x h=>by
  cases i with
  |zero=>cases h;exact⟨okh,okn⟩
  |succ i=>simp at h,λi m h=>by simp at h⟩
 refine jaz (λds δ n=>WalI ps s n0 ds.length δ n) (λδ n I=>?_) (λd t δ n N I kN=>?_) _ _ _ ⟨[],[],s,none,none,rfl,W0,by rw[ja4];show 0+_<=30;omega,by rw[ja4];omega⟩
 ·obtain⟨L,S,z,x6,x7,rfl,W,hL,hn⟩:=I;dsimp only;refine jd3 rfl ?_;dsimp only[An];refine jd3 rfl ?_;dsimp only[An];refine ja2 (ja8 (jab rfl (jab rfl (Aj (show 2<=1000 by decide) ?_))));have:=k L (S++[z]) n W (by simpa using hL) (by simpa using hn);rw[Bb]at this;exact this
 ·obtain⟨L,S,z,x6,x7,rfl,W,hL,hn⟩:=I;rw[Ao]at hL hn;dsimp only[jac,An];have hz:(S++[z])[S.length]?=some z:=by rw[Bt (Al _),Nat.sub_self];rfl
  have hS:S.length=L.length:=by have:=W.len;rw[Ak,As]at this;omega
  obtain⟨ok1,ok2⟩:=W.ok _ _ hz;refine jae (show sSet 7 _ _ _ _ from of_i (cN2 (jab rfl (jma rfl ⟨ps,z.1,z.2,rfl,⟨okp,ok1,A4 ok2.1 (by omega),ok2.2⟩,?_⟩))));dsimp only[An];have M:=j35 (z:=z) okp.1;generalize rdyL ps z.1 z.2++[.int ps.length]=ds at M;refine jae (if_i ?_);refine(show cT _ _ _ _ from w2_i (jkp rfl (c_i (j14 ?_))));refine ifb (λz1=>?_) λ_=>?_
  ·have h1:1 < ds.length:=by have:=of_decide_eq_true z1;omega
   refine w2_i (jdc (m:=5) rfl (λQ q=>c_i q) (by omega) (by omega) (by omega) λr r0 r1=>c_i (j14 ?_));refine ifb (λ_=>?_) λ_=>?_
   ·refine(show sSet 7 _ _ _ _ from ?_);unfold sSet jcb jbv jbg;refine jab rfl ?_;show(_:Prop);dsimp only[wNeg,wC];rw[j2v];dsimp only[An];refine jft okp W ⟨by rw[Dj];omega,A4 (List.length_take_le _ _) (by have:=M.2.1;omega),λd hd=>M.2.2 d (List.mem_of_mem_take hd)⟩ (by omega) (by omega) hn0 kN
   ·dsimp only[jap];exact jft okp W M (by omega) (by omega) hn0 kN
  ·dsimp only[jap];exact jft okp W M (by omega) (by omega) hn0 kN
theorem jje (x:Nat) (nu:List Nat) (q:Nt) (ns:List Nt):gon (x::nu) (q::ns)=if isI1 q.2=true then x::gon nu ns else gon nu ns:=by
 unfold gon;rw[List.zip_cons_cons,B5];dsimp only
 split<;>rfl
theorem jjd {nu:List Nat} {ns:List Nt} {x:Nat} (h:x∈gon nu ns):x∈nu:=by
 obtain⟨⟨a,b⟩,hp,rfl⟩:=Bf.mp h;exact(D7 (Bu.mp hp).1).1
theorem jsk:∀(nu:List Nat) (ns:List Nt),nu.Nodup->nu.length=ns.length->(nu.filter λx=>!decide (x∈gon nu ns)).length=(clkO ns).length
 |[],[],_,_=>rfl
 |[],_::_,_,h=>nomatch h
 |_::_,[],_,h=>nomatch h
 |x::nu,q::ns,nd,hl=>by
  obtain⟨a,b⟩:=Cs.mp nd;have ih:=jsk nu ns b (Nat.succ.inj hl);have hx:x∉gon nu ns:=λz=>a (jjd z);have ec:(clkO (q::ns)).length=(if isI1 q.2=true then 0 else 1)+(clkO ns).length:=by
   unfold clkO;rw[B5];cases isI1 q.2
   ·exact Nat.add_comm _ _
   ·exact(Nat.zero_add _).symm
  rw[jje,ec,<-ih];cases e:isI1 q.2 with
  |true =>
   rw[if_pos rfl,if_pos rfl,B5,if_neg (by simp),Nat.zero_add]
   congr 1
   refine Dp λy hy=>?_;have:y≠x:=λz=>a (z▸hy);simp[this]
  |false =>
   rw[if_neg Ae,if_neg Ae,B5,if_pos (by simp[hx]),Ao,Nat.add_comm]
theorem jdz {nu:List Nat} {i:Nat} (h:i < nu.length):numN nu (some i)=some nu[i]:=Af h
theorem jf2 {nu:List Nat} {i:Nat} (h:i < nu.length):numO nu (some i)=.int (nu[i]:Nat):=by
 unfold numO;rw[jdz h];rfl
theorem js9 {nu:List Nat} {i:Nat} (nd:nu.Nodup) (h:i < nu.length):(nu.filter λx=>!decide (some x=numN nu (some i))).length=nu.length - 1:=by
 rw[jdz h];have:(nu.filter λx=>!decide (some x=some nu[i]))=nu.erase nu[i]:=by
  rw[nd.erase_eq_filter];refine Dp λy _=>?_;by_cases z:y=nu[i]
  ·rw[<-z];simp
  ·simp[z]
 rw[this,List.length_erase_of_mem (Ck h)]
def mvT (ps:Pg) (s t:Sd) (m:Nat) (nm:Nm):Ac->Prop
 |.lay fs age=>t.2=s.2++[(filO fs nm,age)]
 |.take _=>∃i,gotO ps s.1 s.2 m=some i/\i < s.2.length/\t.2=outO s.2 i
 |.read _=>t.2=s.2/\∃i,gotO ps s.1 s.2 m=some i/\i < s.2.length
 |.look _ _=>t.2=s.2/\∀i,gotO ps s.1 s.2 m=some i->i < s.2.length
 |_=>t.2=s.2
theorem jt4 {ps:Pg} {s t:Sd} {m:Nat} (okh:okHs ps s.1) (hm:m < ps.length) (af:aftO ps s.1 s.2 m=some t):∃P xb xp nm w as a,HandAt ps s.1 m P xb xp nm w as/\actO ps s.1 m=some a/\mvT ps s t m nm a:=by
 obtain⟨P,xb,xp,nm,w,as,H⟩:=jdm okh hm;unfold aftO at af;rw[if_neg (by omega)]at af;cases ea:actO ps s.1 m with
 |none =>
  unfold movO at af;rw[H.prog,H.hand,ea]at af;cases af
 |some a =>
 refine⟨P,xb,xp,nm,w,as,a,H,rfl,?_⟩;rw[jno H ea]at af;have eg:∀gs:List Fe,a.pf=some (gs.map Fe.fd)->gotO ps s.1 s.2 m=fstO (gs.map Fe.fd) nm s.2:=λgs hpf=>by
  unfold gotO;rw[ea,H.nmq];show(a.pf.bind _)=_;rw[hpf];rfl
 have lt:∀{gs:List Fe} {i:Nat},fstO (gs.map Fe.fd) nm s.2=some i->i < s.2.length:=λh=>by
  obtain⟨q,hq,_⟩:=jme h;exact(Aq.mp hq).1
 cases a with
 |lay fs age=>cases af;rfl
 |go b=>cases af;rfl
 |same f g b=>cases af;rfl
 |take gs =>
  have af:(((getO gs (xb,xp,nm) s.2).map λq=>(q.2,outO s.2 q.1)).map λr=>(setH s.1 m r.1,r.2))=some t:=af;cases ei:fstO (gs.map Fe.fd) nm s.2 with
  |none=>rw[jbr ei]at af;cases af
  |some i=>rw[jbl ei]at af;cases af;exact⟨i,by rw[eg gs rfl,ei],lt ei,rfl⟩
 |read gs =>
  have af:(((getO gs (xb,xp,nm) s.2).map λq=>(q.2,s.2)).map λr=>(setH s.1 m r.1,r.2))=some t:=af;cases ei:fstO (gs.map Fe.fd) nm s.2 with
  |none=>rw[jbr ei]at af;cases af
  |some i=>rw[jbl ei]at af;cases af;exact⟨rfl,i,by rw[eg gs rfl,ei],lt ei⟩
 |look gs b =>
  have af:((match getO gs (xb,xp,nm) s.2 with | some q=>some (q.2,s.2) | none=>some (goTo P b nm,s.2):Option (Hn×List Nt)).map λr=>(setH s.1 m r.1,r.2))=some t:=af;refine⟨?_,λi h=>lt (by rw[<-eg gs rfl];exact h)⟩;cases ei:fstO (gs.map Fe.fd) nm s.2 with
  |none=>rw[jbr ei]at af;cases af;rfl
  |some i=>rw[jbl ei]at af;cases af;rfl
theorem jfn {ps:Pg} {s:Sd} {nu:List Nat} {fr:Nat}:rowL ps s nu fr ps.length=(.tuple [.str "clock",.tuple (intL (gon nu s.2))],nu.filter (λx=>!decide (x∈gon nu s.2)),fr):=by unfold rowL;rw[if_pos rfl]
theorem jfo {ps:Pg} {s:Sd} {nu:List Nat} {fr m:Nat} {a:Ac} (hm:m < ps.length) (ea:actO ps s.1 m=some a):rowL ps s nu fr m=rowA ps s nu fr m a:=by
 unfold rowL;rw[if_neg (by omega),ea]
theorem jm8 {ps:Pg} {s t:Sd} {nu:List Nat} {fr m:Nat} (B:okBd ps s t nu fr m):okNu t (rowL ps s nu fr m).2.1 (rowL ps s nu fr m).2.2/\(rowL ps s nu fr m).2.2<=fr+1:=by
 obtain⟨st,⟨nd,len,lt⟩,le,af⟩:=B;by_cases em:m=ps.length
 ·subst em;unfold aftO at af;rw[if_pos rfl]at af;cases af;rw[jfn];exact⟨⟨nd.filter _,jsk nu s.2 nd len,λx hx=>lt x (Bu.mp hx).1⟩,Nat.le_succ _⟩
 ·have hm:m < ps.length:=by omega
  obtain⟨P,xb,xp,nm,w,as,a,H,ea,T⟩:=jt4 st.2.1 hm af;rw[jfo hm ea];cases a with
  |lay fs age =>
   have T:t.2=s.2++[(filO fs nm,age)]:=T;refine⟨⟨?_,?_,λx hx=>?_⟩,Al _⟩
   ·exact List.nodup_append.mpr ⟨nd,Cs.mpr ⟨Ax,List.nodup_nil⟩,λx hx y hy e=>by rw[Bh.mp hy]at e;have:=lt x hx;omega⟩
   ·show(nu++[fr]).length=t.2.length;rw[T,Ak,Ak,len];rfl
   ·rcases Bd.mp hx with hx | hx
    ·exact Nat.lt_succ_of_lt (lt x hx)
    ·rw[Bh.mp hx];exact Nat.lt_succ_self _
  |take gs =>
   obtain⟨i,eg,hi,T⟩:=T;refine⟨⟨nd.filter _,?_,λx hx=>lt x (Bu.mp hx).1⟩,Nat.le_succ _⟩;show(nu.filter λx=>!decide (some x=numN nu (gotO ps s.1 s.2 m))).length=_;rw[eg,js9 nd (by omega),T];unfold outO;rw[Ak,Dj,Dw];omega
  |read gs=>exact⟨⟨nd,by rw[T.1];exact len,lt⟩,Nat.le_succ _⟩
  |look gs b=>exact⟨⟨nd,by rw[T.1];exact len,lt⟩,Nat.le_succ _⟩
  |go b=>exact⟨⟨nd,by rw[show t.2=s.2 from T];exact len,lt⟩,Nat.le_succ _⟩
  |same f g b=>exact⟨⟨nd,by rw[show t.2=s.2 from T];exact len,lt⟩,Nat.le_succ _⟩
theorem jrh {ps:Pg} {s:Sd} {nu:List Nat} {fr:Nat} {L:List Nat} {R:List Aa} (h:Lgs ps s nu fr L R):R.length=L.length:=by
 induction h with
 |nil=>rfl
 |cons _ _ _ ih=>rw[Ao,Ao,ih]
theorem j1f {ps:Pg} {s t:Sd} {L:List Nat} (h:Wov ps s L t):∀nu fr,∃R,Lgs ps s nu fr L R:=by
 induction h with
 |nil=>exact λ_ _=>⟨[],.nil⟩
 |cons a b _ ih =>
  intro nu fr;obtain⟨R,h⟩:=ih (rowL ps _ nu fr _).2.1 (rowL ps _ nu fr _).2.2;exact⟨_,.cons a b h⟩
theorem jdt {i:Nat} (h:i<=99):Sm 0 20 (.int i):=jm6 (V_of (by omega) (by omega))
theorem jqd:Sm 0 20 .none:=⟨rfl,Al _,by decide,rfl,rfl⟩
theorem jj8 {x:Str} (h:(decide (x.length<=8)&&PyData.strOk x)=true):Sm 0 20 (.str x):=jm6 h
theorem jzs {nu:List Nat} {fr:Nat} (lt:∀x∈nu,x < fr) (hf:fr<=99) (g:Option Nat):Sm 0 20 (numO nu g):=by
 unfold numO;cases e:numN nu g with
 |none=>exact jqd
 |some x =>
  cases g with
  |none=>cases e
  |some i =>
   have:=lt x (A7 e);exact jdt (by omega)
theorem jzr {ps:Pg} {s t:Sd} {nu:List Nat} {fr m:Nat} (B:okBd ps s t nu fr m) (hf:fr<=98):Sm 3 8900 (rowL ps s nu fr m).1:=by
 obtain⟨st,⟨nd,len,lt⟩,le,af⟩:=B;have h5:=st.1.1;have rw3:∀(x:Str) (g:Option Nat),(decide (x.length<=8)&&PyData.strOk x)=true->Sm 3 8900 (.tuple [.str x,.int (m:Nat),numO nu g]):=λx g hx=>(jhx (k:=0) (w:=20) (m:=3) (λd hd=>by
  simp only[Ar,Ax,or_false]at hd;rcases hd with rfl | rfl | rfl
  ·exact jj8 hx
  ·exact jdt (by omega)
  ·exact jzs lt (by omega) g) (Al _)).up (by decide) (by decide)
 by_cases em:m=ps.length
 ·subst em;rw[jfn];refine(jj7 ((jj8 (by decide +kernel)).up (Bn 1) (show 20<=2100 by decide)) (jhx (k:=0) (w:=20) (m:=100) (λd hd=>?_) ?_)).up (by decide) (by decide)
  ·obtain⟨i,hi,rfl⟩:=Bf.mp hd;have:=lt i (jjd hi);exact jdt (by omega)
  ·unfold intL gon;rw[Ab,Ab];refine A4 (Cq _ _) ?_;rw[List.length_zip];have:=st.2.2.1;omega
 ·have hm:m < ps.length:=by omega
  obtain⟨P,xb,xp,nm,w,as,a,H,ea,T⟩:=jt4 st.2.1 hm af;rw[jfo hm ea];cases a with
  |lay fs age =>
   obtain⟨hl4,hfv⟩:=H.lay st.1 ea;have oa:=H.ok st.1 ea;refine(jhx (k:=2) (w:=170) (m:=4) (λd hd=>?_) (Al _)).up (by decide) (by decide);simp only[Ar,Ax,or_false]at hd;rcases hd with rfl | rfl | rfl | rfl
   ·exact(jj8 (by decide +kernel)).up (by decide) (by decide)
   ·exact(jdt (by omega)).up (by decide) (by decide)
   ·exact(jdt (by omega)).up (by decide) (by decide)
   ·rw[H.nmq];exact jqc ⟨⟨by show(filO fs nm).length<=4;unfold filO;rw[Ab];exact hl4,λd hd=>by
     obtain⟨f,hf,rfl⟩:=Bf.mp hd;exact fv_V (hfv f hf)⟩,oa.2.2⟩
  |take gs=>exact rw3 "takes" _ (by decide +kernel)
  |read gs=>exact rw3 "reads" _ (by decide +kernel)
  |look gs b=>exact rw3 "looks" _ (by decide +kernel)
  |go b=>exact(jj7 (jj8 (by decide +kernel)) (jdt (by omega))).up (by decide) (by decide)
  |same f g b=>exact(jj7 (jj8 (by decide +kernel)) (jdt (by omega))).up (by decide) (by decide)
theorem jzt {ps:Pg} (okp:okPg ps) {s:Sd} {nu:List Nat} {fr:Nat} {L:List Nat} {R:List Aa} (h:Lgs ps s nu fr L R):okHs ps s.1->okNs (100 - L.length) s.2->L.length<=40->okNu s nu fr->fr+L.length<=98->∀d∈R,Sm 3 8900 d:=by
 induction h with
 |nil=>exact λ_ _ _ _ _ d hd=>nomatch hd
 |@cons s t nu fr m L R hm af hL ih =>
  intro okh okn hl hn hf d hd;rw[Ao]at okn hl hf;have B:okBd ps s t nu fr m:=⟨⟨okp,okh,A4 okn.1 (by omega),okn.2⟩,hn,hm,af⟩;obtain⟨k1,k2⟩:=ji2 okp okh okn hm af;obtain⟨n1,n2⟩:=jm8 B;rcases Ar.mp hd with rfl | hd
  ·exact jzr B (by omega)
  ·exact ih k1 ⟨A4 k2.1 (by omega),k2.2⟩ (by omega) n1 (by omega) d hd
theorem jv2 (s:Sd):okNu s (A1 s.2.length) s.2.length:=⟨List.nodup_range,Bx,λ_ hx=>Br.mp hx⟩
theorem jqb {ps:Pg} {ns:List Nt} {L:List Nat} {R:List Aa} (h:okPn ps ns L R):Small (.list R):=by
 obtain⟨okp,okh,okn,hl,hL⟩:=h;have h12:=okn.1;refine(jqe (k:=3) (w:=8900) (m:=30) (jzt okp hL okh ⟨by show ns.length<=_;omega,okn.2⟩ (by omega) (jv2 (hs0 ps,ns)) (by show ns.length+_<=_;omega)) ?_).small (by decide) (by decide);rw[jrh hL];exact hl
theorem j4l {a:Aa} {n:Int} {Q:DQ} (ha:jdy a) (k:Q (.d (.bool (isI1 a))) n):gEq (.d a) (.d (.int 1)) n Q:=by
 rcases ha with rfl | ⟨i,rfl,_⟩
 ·exact k
 ·exact k
theorem jmw {h:Str} {r:List Aa} (h1:h≠"clock") (h2:h≠"takes"):jps (.tuple (.str h::r))=[]:=by simp only[jps,if_neg h1,if_neg h2]
theorem jvg {h x:Str} (z:x≠h):jaf h (.str x)=false:=decide_eq_false z
theorem jl9:∀ws n Q,jlj ws n Q->ws.length=1:=λws n Q h=>by obtain⟨_,rfl,_⟩:=h;rfl
theorem jld:∀ws n Q,jlj ws n Q->jli (jat ["row"] ws) n {nx:=λ_ n=>Q (.d .none) n,rt:=Q}:=λws n Q h=>by
 obtain⟨row,rfl,ok,k⟩:=h;show jli [some (.w (.d row))] n _;cases row with
 |tuple l=>cases l with
  |nil=>exact ok.elim
  |cons d r=>cases d with
   |str h =>
    rcases ok with⟨rfl,l,rfl⟩ | ⟨rfl,a,b,rfl⟩ | ⟨h1,h2⟩
    ·have k:Q (.d (.tuple l)) n:=k;exact jae (j1s (a:=.str "clock") rfl (by decide +kernel) (ja2 (jff rfl k)))
    ·have k:Q (.d (.tuple [b])) n:=k;refine jae (jx3 (a:=.str "takes") rfl (by decide +kernel) ?_);dsimp only[jap];exact ja2 (jdk (b:=true) (λQ q=>ct_b (λQ q=>jo9 (a:=.str "takes") rfl (by rw[show jaf "takes" (.str "takes")=true by decide +kernel];exact q)) q) (by rw[if_pos rfl];exact jwr (w2_i (jab rfl (c_i (g2_i (Aj (show 1<=1000 by decide) k)))))))
    ·rw[jmw h1 h2]at k;refine jae (jx3 (a:=.str h) rfl (jvg h1) ?_);dsimp only[jap];exact ja2 (jdk (b:=false) (λQ q=>ct_b (λQ q=>jo9 (a:=.str h) rfl (by rw[jvg h2];exact q)) q) (by rw[if_neg Ae];exact(show wTup aNil _ _ _ from Aj (by decide) k)))
   |_=>exact ok.elim
 |_=>exact ok.elim
theorem jk5 (l:List Nat):(intL l).all jcs=true:=by
 rw[Fh];intro d hd;obtain⟨i,_,rfl⟩:=Bf.mp hd;rfl
theorem jmd (x:Nat):∀l:List Nat,inD (.int x) (intL l)=decide (x∈l)
 |[]=>rfl
 |y::l=>by
  show(((y:Int)==(x:Int)) || inD (.int x) (intL l))=_;rw[jmd x l];by_cases e:x=y
  ·subst e;simp
  ·have:((y:Int)==(x:Int))=false:=by simp;omega
   simp[this,e]
structure LgI (ps:Pg) (R:List Aa) (s:Sd) (nu:List Nat) (fr:Nat) (M:List Nat) (R0 R1:List Aa):Prop where
 okh:okHs ps s.1
 okn:okNs (100 - M.length) s.2
 hl:M.length<=40
 nk:okNu s nu fr
 lg:Lgs ps s nu fr M R1
 eq:R0++R1=R
theorem LgI.step {ps:Pg} {R:List Aa} {s:Sd} {nu:List Nat} {fr m:Nat} {M:List Nat} {R0 R1:List Aa} (okp:okPg ps) (I:LgI ps R s nu fr (m::M) R0 R1):∃t R2,okBd ps s t nu fr m/\LgI ps R t (rowL ps s nu fr m).2.1 (rowL ps s nu fr m).2.2 M (R0++[(rowL ps s nu fr m).1]) R2:=by
 obtain⟨okh,okn,hl,hn,lg,eq⟩:=I;rw[Ao]at okn hl;cases lg with
 |@cons _ t _ _ _ _ R2 hm af lg =>
  have B:okBd ps s t nu fr m:=⟨⟨okp,okh,A4 okn.1 (by omega),okn.2⟩,hn,hm,af⟩;obtain⟨k1,k2⟩:=ji2 okp okh okn hm af;exact⟨t,R2,B,k1,⟨A4 k2.1 (by omega),k2.2⟩,by omega,(jm8 B).1,lg,by rw[Bk];exact eq⟩
theorem LgI.lt {ps:Pg} {R:List Aa} {s:Sd} {nu:List Nat} {fr:Nat} {M:List Nat} {R0 R1:List Aa} (I:LgI ps R s nu fr M R0 R1) (h:R.length<=1000):R0.length < 1000000:=by
 have:=congrArg List.length I.eq;rw[Ak]at this;omega
theorem lgi0 {ps:Pg} {ns:List Nt} {L:List Nat} {R:List Aa} (h:okPn ps ns L R):LgI ps R (hs0 ps,ns) (A1 ns.length) ns.length L [] R:=by
 obtain⟨okp,okh,okn,hl,hL⟩:=h;have:=okn.1;exact⟨okh,⟨by show ns.length<=_;omega,okn.2⟩,by omega,jv2 (hs0 ps,ns),hL,rfl⟩
theorem jrw (a:Nat) (M:List Nat):intL (a::M)=.int a::intL M:=rfl
theorem jeo {δ:Sl} {n:Int} {ds:List Aa} {fr:List (Option Nat)} {w e:DT} {g:DTG} {c:DTT} {Q:List Aa->Int->Prop} (hw:∀Q:DQ,Q (.d (.list ds)) n->w δ n Q) (k:jbf g c e Q ds [] (jfj fr δ) n):ja0 fr (jb5 w) g c e δ n Q:=by
 unfold ja0 jb5;exact hw _ k
def pAt (ns:List Nt) (k:Nat):Bool:=((ns[k]?).map λq=>isI1 q.2).getD false
def gAt (nu:List Nat) (k:Nat):Aa:=.int ((nu[k]?).getD 0:Nat)
theorem jk2:∀(nu:List Nat) (ns:List Nt),nu.length=ns.length->((A1 nu.length).filter (pAt ns)).map (gAt nu)=intL (gon nu ns)
 |[],[],_=>rfl
 |[],_::_,h=>nomatch h
 |_::_,[],h=>nomatch h
 |x::nu,q::ns,h=>by
  have ih:=jk2 nu ns (Nat.succ.inj h);have e:((List.map Nat.succ (A1 nu.length)).filter (pAt (q::ns))).map (gAt (x::nu))=((A1 nu.length).filter (pAt ns)).map (gAt nu):=by
   rw[List.filter_map,Ct];rfl
  rw[Ao,List.range_succ_eq_map,B5,jje];show(if isI1 q.2=true then _ else _:List Nat).map (gAt (x::nu))=_
  split
  ·rw[Be,e,ih];rfl
  ·rw[e,ih]
theorem j18 {n:Int} {Q:DQ} {i:Nat} {x:Aa} {xs:List Aa} (h:xs[i]?=some x) (k:Q (.d x) n):gIxO (.d (.list xs)) (.d (.int (i:Nat))) n Q:=ixo (by
 show(match atI xs ((i:Nat):Int)with | some d=>Q (.d d) n | none=>False);rw[ja5 h];exact k)
theorem jv8 {nu:List Nat} {i:Nat} (h:i < nu.length):(intL nu)[i]?=some (.int (nu[i]:Nat)):=by unfold intL;rw[A0,Af h];rfl
theorem jns {δ:Sl} {n:Int} {Q:DQ} {i:Nat} {ds:List Aa} (e:δ[i]?=some (some (.w (.d (.list ds))))) (k:Q (.d (.int ds.length)) n):wB gLen (jaa (wVar i) aNil) δ n Q:=b1_i (jab e k)
theorem j5g {x y:Str} {n:Int} {Q:DQ} (h:x.length+y.length<=Ap) (k:Q (.d (.str (x++y))) n):gAdd (.d (.str x)) (.d (.str y)) n Q:=⟨h,k⟩
theorem jyq {Q:List Aa->Int->Prop} {y:Nat} {n:Int} (nu:List Nat) (q:Q (intL (nu.filter λx=>!decide (some x=some y))) n) :
  jbf (jac 0) (cT (w2 (wVar 0) (wVar 1) gNe)) (wVar 0) Q (intL nu) [] [none,some (.w (.d (.int y)))] n :=
 jd5 (λi:Nat=>.int i) (λi:Nat=>.int i) (λx=>!decide (some x=some y)) nu [] none n (λa _ n Q' q=>ct_b (k:=!decide (some a=some y)) (λQ q=>w2_i (jab rfl (jab rfl (show Q (.d (.bool (!decide ((a:Int)=(y:Int))))) n by
  rw[show decide ((a:Int)=(y:Int))=decide (some a=some y)from decide_eq_decide.mpr ⟨λe=>by rw[Int.ofNat.inj e],λe=>by rw[A6 e]⟩];exact q)))) q) (λa _ n Q' q=>jab rfl q) (by rw[Bi];exact q)
theorem jki:∀ws n Q,jog ws n Q->ws.length=5:=λws n Q h=>by obtain⟨_,_,_,_,_,_,rfl,_⟩:=h;rfl
theorem jjm:∀ws n Q,jog ws n Q->jia (jat ["_law_programs","_law_stand","_law_numbers","_law_fresh","_law_mover","_law_gone","_law_number","_law_act_here","_law_note","_law_found"] ws) n {nx:=λ_ n=>Q (.d .none) n,rt:=Q}:=λws n Q h=>by
 obtain⟨ps,s,t,nu,fr,m,rfl,B,k⟩:=h;have hnl:nu.length<=100:=by rw[B.nu.len];exact B.st.2.2.1
 show jia [some (.w (.d (pgD ps))),some (.w (.d (sdD s))),some (.w (.d (.list (intL nu)))),some (.w (.d (.int fr))),some (.w (.d (.int m))),none,none,none,none,none] n _;refine jae (if_i (ct_b (k:=decide ((m:Int)=(ps.length:Nat))) (λQ q=>w2_i (jab rfl (b1_i (jab rfl ?_)))) ?_))
 ·show Q (.d (.bool (decide ((m:Int)=((ps.map prD).length:Nat))))) n;rw[Ab];exact q
 by_cases em:m=ps.length
 ·subst em;rw[jfn]at k;show if decide _=true then _ else _
  rw[if_pos (decide_eq_true rfl)];refine jae (show sSet 5 _ _ _ _ from of_i ?_);unfold ja0 jak;refine jns rfl (Aj ⟨by omega,by rw[jce];omega⟩ ?_);rw[Bp,jce,jiw];show jbf _ _ _ _ _ _ [none,some (.w (.d (.list (intL nu)))),some (.w (.d (sdD s)))] n;refine jd5 (λj:Nat=>.int j) (gAt nu) (pAt s.2) (A1 nu.length) [] none n (λj hj n Q' q=>?_) (λj hj n Q' q=>?_) ?_
  ·have hj:=Br.mp hj;have hj':j < s.2.length:=by rw[<-B.nu.len];exact hj
   have hq:(s.2.map ntD)[j]?=some (.tuple [.tuple s.2[j].1,s.2[j].2]):=by rw[A0,Af hj'];rfl
   have ep:pAt s.2 j=isI1 s.2[j].2:=by unfold pAt;rw[Af hj'];rfl
   rw[ep]at q;exact ct_b (k:=isI1 s.2[j].2) (λQ q=>w2_i (w2_i (w2_i (ixo1 (b:=.tuple (s.1.map hnD)) (c:=nsD s.2) (r:=[]) rfl (jab rfl (ixo (gN_i hq (c_i (ixo (g1_i (c_i (j4l (B.st.2.2.2 _ (Ck hj')).2 q)))))))))))) q
  ·have hj:=Br.mp hj;refine w2_i (jab rfl (jab rfl (j18 (jv8 hj) ?_)));unfold gAt at q;rw[Af hj]at q;exact q
  ·rw[Bi,jk2 nu s.2 B.nu.len];dsimp only[An];refine ja2 (jfu (ja8 (c_i (b1_i (jab rfl (j13 (Aj (show 2<=1000 by decide) (of_i (jeo (ds:=intL nu) (λQ q=>jab rfl q) ?_)))))))));show jbf _ _ _ _ _ _ [none,some (.w (.d (.list (intL (gon nu s.2)))))] n;refine jd5 (λi:Nat=>.int i) (λi:Nat=>.int i) (λx=>!decide (x∈gon nu s.2)) nu [] none n (λa _ n Q' q=>ct_b (k:=!decide (a∈gon nu s.2)) (λQ q=>w2_i (jab rfl (jab rfl (Aj rfl (Aj (jk5 _) ?_))))) q) (λa _ n Q' q=>jab rfl q) ?_
   ·rw[jmd];exact q
   ·rw[Bi];exact jab rfl (Aj (show 3<=1000 by decide) k)
 ·have hm:m < ps.length:=by have:=B.le;omega
  show if decide _=true then _ else _
  rw[if_neg (by rw[decide_eq_false (by omega)];exact Ae)];dsimp only[jap];obtain⟨P,xb,xp,nm,w,as,a,H,ea,T⟩:=jt4 B.st.2.1 hm B.af;rw[jfo hm ea]at k;refine jae (jar (x:=a.d) (λQ q=>jt1 (hs:=s.1) (ns:=s.2) rfl rfl rfl B.st.2.1 hm (by rw[ea];exact q)) ?_);dsimp only[An];have go:∀(x:Str) (r:List Aa),jaf "lay" (.str x)=false->inD (.str x) [.str "same",.str "go"]=true->a.d=.tuple (.str x::r)->Q (.d (.tuple [.tuple [.str "goes",.int m],.list (intL nu),.int fr])) n->∀(V W:DST),
    (sSeq (sIf (cT (w2 (w2 (wVar 7) (wC (.int (0))) gIxO) (wC (.str "lay")) gEq)) W jap) (sSeq (sIf (cT (w2 (w2 (wVar 7) (wC (.int (0))) gIxO) (wTup (jaa (wC (.str "same")) (jaa (wC (.str "go")) aNil))) (gIn false))) (sRet (wTup (jaa (wTup (jaa (wC (.str "goes")) (jaa (wVar 4) aNil))) (jaa (wVar 2) (jaa (wVar 3) aNil))))) jap) V))
     [some (.w (.d (pgD ps))),some (.w (.d (sdD s))),some (.w (.d (.list (intL nu)))),some (.w (.d (.int fr))),some (.w (.d (.int m))),none,none,some (.w (.d a.d)),none,none] n {nx:=λ_ n=>Q (.d .none) n,rt:=Q}:=λx r h1 h2 e q V W=>by
   rw[e];refine jae (jd2 (s:=x) rfl h1 ?_);dsimp only[jap];refine jae (if_y (λQ q=>ct_b (k:=true) (λQ q=>w2_i (w2_i (jab rfl (c_i (ixo (g0_i (ja8 (c_i (c_i (Aj (show 2<=1000 by decide) (Aj rfl (Aj rfl ?_)))))))))))) q) ?_)
   ·rw[if_neg Ae,h2];exact q
   ·exact ja2 (jfu (ja8 (c_i (jab rfl (Aj (show 2<=1000 by decide) (jab rfl (jab rfl (Aj (show 3<=1000 by decide) q))))))))
  have get:∀(x:Str) (r:List Aa) (nu':List Nat),jaf "lay" (.str x)=false->inD (.str x) [.str "same",.str "go"]=false->x.length<=100->(∀i,gotO ps s.1 s.2 m=some i->i < s.2.length)->a.pf.isSome=true->a.d=.tuple (.str x::r) ->
    (if jaf "take" (.str x)=true then(∃i,gotO ps s.1 s.2 m=some i)/\nu'=nu.filter (λy=>!decide (some y=numN nu (gotO ps s.1 s.2 m)))else nu'=nu)->Q (.d (.tuple [.tuple [.str (x++"s"),.int m,numO nu (gotO ps s.1 s.2 m)],.list (intL nu'),.int fr])) n->∀(W:DST),
    (sSeq (sIf (cT (w2 (w2 (wVar 7) (wC (.int (0))) gIxO) (wC (.str "lay")) gEq)) W jap) (sSeq (sIf (cT (w2 (w2 (wVar 7) (wC (.int (0))) gIxO) (wTup (jaa (wC (.str "same")) (jaa (wC (.str "go")) aNil))) (gIn false))) (sRet (wTup (jaa (wTup (jaa (wC (.str "goes")) (jaa (wVar 4) aNil))) (jaa (wVar 2) (jaa (wVar 3) aNil))))) jap) (sSeq (sSet 9 (jai jmo (jaa (wVar 0) (jaa (wVar 1) (jaa (wVar 4) aNil))))) (sSeq (sSet 6 (wIf (cT (w2 (wVar 9) (wC .none) (gIsO false))) (wC .none) (w2 (wVar 2) (w2 (wVar 9) (wC (.int (0))) gIxO) gIxO))) (sSeq (sIf (cT (w2 (w2 (wVar 7) (wC (.int (0))) gIxO) (wC (.str "take")) gEq)) (sSet 2 (wOf (ja0 [none,some 6] (jb5 (wVar 2)) (jac 0) (cT (w2 (wVar 0) (wVar 1) gNe)) (wVar 0)))) jap) (sRet (wTup (jaa (wTup (jaa (w2 (w2 (wVar 7) (wC (.int (0))) gIxO) (wC (.str "s")) gAdd) (jaa (wVar 4) (jaa (wVar 6) aNil)))) (jaa (wVar 2) (jaa (wVar 3) aNil))))))))))
     [some (.w (.d (pgD ps))),some (.w (.d (sdD s))),some (.w (.d (.list (intL nu)))),some (.w (.d (.int fr))),some (.w (.d (.int m))),none,none,some (.w (.d a.d)),none,none] n {nx:=λ_ n=>Q (.d .none) n,rt:=Q}:=λx r nu' h1 h2 hx lt hp e hn q W=>by
   rw[e];refine jae (jd2 (s:=x) rfl h1 ?_);dsimp only[jap];refine jae (if_n (λQ q=>ct_b (k:=false) (λQ q=>w2_i (w2_i (jab rfl (c_i (ixo (g0_i (ja8 (c_i (c_i (Aj (show 2<=1000 by decide) (Aj rfl (Aj rfl ?_)))))))))))) q) ?_)
   ·rw[if_neg Ae,h2];exact q
   dsimp only[jap];refine jae (sets (o:=gotP ps s.1 s.2 m) (λQ q=>c3_i (jab rfl (jab rfl (jab rfl ⟨ps,s.1,s.2,m,rfl,B.st,hm,q⟩)))) ?_);dsimp only[An];have fin:∀(x9:Option SV),Q (.d (.tuple [.tuple [.str (x++"s"),.int m,numO nu (gotO ps s.1 s.2 m)],.list (intL nu'),.int fr])) n->sRet (wTup (jaa (wTup (jaa (w2 (w2 (wVar 7) (wC (.int (0))) gIxO) (wC (.str "s")) gAdd) (jaa (wVar 4) (jaa (wVar 6) aNil)))) (jaa (wVar 2) (jaa (wVar 3) aNil))))
     [some (.w (.d (pgD ps))),some (.w (.d (sdD s))),some (.w (.d (.list (intL nu')))),some (.w (.d (.int fr))),some (.w (.d (.int m))),none,some (.w (.d (numO nu (gotO ps s.1 s.2 m)))),some (.w (.d (.tuple (.str x::r)))),none,x9] n {nx:=λ_ n=>Q (.d .none) n,rt:=Q}:=λx9 q=>by
    refine ja2 (jfu (jfu (w2_i (w2_i (jab rfl (c_i (ixo (g0_i (c_i (j5g ?_ ?_))))))))))
    ·exact A4 (show x.length+1<=1000 by omega) (jau (Al 1000))
    ·exact jab rfl (jab rfl (Aj (show 3<=1000 by decide) (jab rfl (jab rfl (Aj (show 3<=1000 by decide) q)))))
   have eo:gotO ps s.1 s.2 m=(gotP ps s.1 s.2 m).map (·.1):=by
    unfold gotO gotP;rw[ea];show(a.pf.bind _)=((a.pf.bind _).map _);obtain⟨fs,hfs⟩:=C3.mp hp;rw[hfs];show fstO _ _ _=((fstO _ _ _).map _).map _;rw[Option.map_map];cases fstO fs (nmO s.1 m) s.2<;>rfl
   have tl:sSeq (sIf (cT (w2 (w2 (wVar 7) (wC (.int (0))) gIxO) (wC (.str "take")) gEq)) (sSet 2 (wOf (ja0 [none,some 6] (jb5 (wVar 2)) (jac 0) (cT (w2 (wVar 0) (wVar 1) gNe)) (wVar 0)))) jap) (sRet (wTup (jaa (wTup (jaa (w2 (w2 (wVar 7) (wC (.int (0))) gIxO) (wC (.str "s")) gAdd) (jaa (wVar 4) (jaa (wVar 6) aNil)))) (jaa (wVar 2) (jaa (wVar 3) aNil)))))
     [some (.w (.d (pgD ps))),some (.w (.d (sdD s))),some (.w (.d (.list (intL nu)))),some (.w (.d (.int fr))),some (.w (.d (.int m))),none,some (.w (.d (numO nu (gotO ps s.1 s.2 m)))),some (.w (.d (.tuple (.str x::r)))),none,some (.w (gotW (gotP ps s.1 s.2 m)))] n {nx:=λ_ n=>Q (.d .none) n,rt:=Q}:=by
    refine jae (jud (s:=x) rfl (ifb (λz=>?_) λz=>?_))
    ·rw[if_pos z]at hn;obtain⟨⟨i,ei⟩,hn⟩:=hn;have hi:i < nu.length:=by rw[B.nu.len];exact lt i ei
     have ed:numO nu (gotO ps s.1 s.2 m)=.int (nu[i]:Nat):=by rw[ei];exact jf2 hi
     have en:numN nu (gotO ps s.1 s.2 m)=some nu[i]:=by rw[ei];exact jdz hi
     refine jar (x:=.list (intL nu')) (λQ q=>of_i (jeo (ds:=intL nu) (λQ q=>jab rfl q) ?_)) ?_
     ·rw[hn,en]at q;rw[ed];show jbf _ _ _ _ _ _ [none,some (.w (.d (.int (nu[i]:Nat))))] n;exact jyq nu q
     ·dsimp only[An];exact fin _ q
    ·rw[if_neg (by rw[z];exact Ae)]at hn;subst hn;dsimp only[jap];exact fin _ q
   refine jae (jar (x:=numO nu (gotO ps s.1 s.2 m)) (λQ q=>?_) tl);cases eg:gotP ps s.1 s.2 m with
   |none =>
    rw[eo,eg]at q;exact jdk (b:=true) (λQ q=>ct_b (k:=true) (λQ q=>w2_i (jab rfl (c_i (jgd q)))) q) (by rw[if_pos rfl];exact c_i q)
   |some p =>
    rw[eo,eg]at q;have hi:p.1 < nu.length:=by rw[B.nu.len];exact lt p.1 (by rw[eo,eg];rfl)
    have q:Q (.d (numO nu (some p.1))) n:=q;rw[jf2 hi]at q;exact jdk (b:=false) (λQ q=>ct_b (k:=false) (λQ q=>w2_i (jab rfl (c_i (jub q)))) q) (by rw[if_neg Ae];exact w2_i (jab rfl (jx1 (d:=.int p.1) rfl (j18 (jv8 hi) q))))
  cases a with
  |lay fs age =>
   obtain⟨hl4,hfv⟩:=H.lay B.st.1 ea;have k:Q (.d (.tuple [.tuple [.str "lays",.int m,.int fr,ntD (filO fs (nmO s.1 m),age)],.list (intL (nu++[fr])),.int ((fr+1:Nat):Int)])) n:=k;rw[H.nmq,jkw]at k;refine jae (juc (s:="lay") rfl (by decide +kernel) (jae ?_));refine jar (x:=ntD (filO fs nm,age)) (λQ q=>?_) ?_
   ·refine ja8 (c2_i (ixo1 rfl ?_));have hd:∀Q:DQ,Q (.dk (txK nm)) n->jez (w2 (w2 (w2 (wVar 1) (wC (.int (0))) gIxO) (wVar 4) gIxO) (wC (.int (2))) gIxO) [some (.w (.d (pgD ps))),some (.w (.d (sdD s))),some (.w (.d (.list (intL nu)))),some (.w (.d (.int fr))),some (.w (.d (.int m))),none,none,some (.w (.d (Ac.lay fs age).d)),none,none] n Q:=λQ q=>by
     unfold jez wOfK jkr;refine w2_i (w2_i (w2_i (jab rfl (c_i (ixo (g0_i (a:=.tuple (s.1.map hnD)) (jab rfl (ixo (gN_i H.hD (c_i (ixo (g2_i ?_))))))))))));unfold jbb;simp only[jfp];refine⟨by rw[Ab];have:=H.nms.1;omega,?_⟩;have:=jfq nm [] (by rw[Bi];exact H.nms.2.1);rw[Bi]at this;rw[show([]:List (Key×Aa))=txK []from rfl,this];exact q
    exact hd _ ⟨fs,nm,rfl,hl4,hfv,ixo2 rfl (Aj (show 2<=1000 by decide) q)⟩
   ·dsimp only[An];refine ja2 (jfu (jwq (c_i (jab rfl (jab rfl (jab rfl (Aj (show 4<=1000 by decide) ?_)))))));refine w2_i (jab rfl (of_i (juk (jab rfl (Aj (show 1<=1000 by decide) (Aj ?_ ?_))))))
    ·show(intL nu).length+1<=Ap;exact A4 (by rw[jce];omega) (jau (Al 1000))
    ·exact w2_i (jab rfl (c_i (addI (Aj (show 3<=1000 by decide) k))))
  |take gs=>obtain⟨i,eg,hi,_⟩:=T;exact get "take" _ _ (by decide +kernel) (by decide +kernel) (by decide +kernel) (λj h=>by rw[eg]at h;cases h;exact hi) rfl rfl (by rw[if_pos (by decide +kernel)];exact⟨⟨i,eg⟩,rfl⟩) k _
  |read gs=>obtain⟨_,i,eg,hi⟩:=T;exact get "read" _ nu (by decide +kernel) (by decide +kernel) (by decide +kernel) (λj h=>by rw[eg]at h;cases h;exact hi) rfl rfl (by rw[if_neg (by decide +kernel)]) k _
  |look gs b=>exact get "look" _ nu (by decide +kernel) (by decide +kernel) (by decide +kernel) T.2 rfl rfl (by rw[if_neg (by decide +kernel)]) k _
  |same f g b=>exact go "same" _ (by decide +kernel) (by decide +kernel) rfl k _ _
  |go b=>exact go "go" _ (by decide +kernel) (by decide +kernel) rfl k _ _
theorem c5_i {δ:Sl} {n:Int} {Q:DQ} {w w' w'' v u:DT} {S:DSp} (k:w δ n λx n1=>w' δ n1 λy n2=>w'' δ n2 λz n3=>v δ n3 λa n4=>u δ n4 λb n5=>S [x,y,z,a,b] n5 Q):jai S (jaa w (jaa w' (jaa w'' (jaa v (jaa u aNil))))) δ n Q:=k
theorem jkj:∀ws n Q,joi ws n Q->ws.length=2:=λws n Q h=>by obtain⟨_,_,_,_,rfl,_⟩:=h;rfl
theorem jjn:∀ws n Q,joi ws n Q->jib (jat ["_law_plan_here","_law_movers_here","_law_programs","_law_notes_here","_law_stand","_law_numbers","_law_fresh","_law_rows","_law_mover","_law_row_here"] ws) n {nx:=λ_ n=>Q (.d .none) n,rt:=Q}:=λws n Q h=>by
 obtain⟨ps,ns,L,R,rfl,ok,k⟩:=h;have hR:R.length<=1000:=by rw[jrh ok.2.2.2.2];have:=ok.2.2.2.1;omega
 have okp:=ok.1;have hns:=ok.2.2.1.1;show jib [some (.w (.d (.tuple [pgD ps,nsD ns]))),some (.w (.d (.list (intL L)))),none,none,none,none,none,none,none,none] n _;refine jae (show sUnp _ _ _ _ _ from jab rfl ⟨rfl,?_⟩);dsimp only[jaj,ja3,jac,An];refine jae (jar (x:=sdD (hs0 ps,ns)) (λQ q=>c1_i (jab rfl ⟨ps,ns,rfl,okp.1,q⟩)) ?_);dsimp only[An];have hlen:∀(δ:Sl) (Q:DQ),δ[3]?=some (some (.w (.d (nsD ns))))->Q (.d (.int ns.length)) n->wB gLen (jaa (wVar 3) aNil) δ n Q:=λδ Q e q=>b1_i (jab e (show Q (.d (.int ((ns.map ntD).length:Nat))) n by rw[Ab];exact q));refine jae (jar (x:=.list (intL (A1 ns.length))) (λQ q=>of_i (show jr6 _ _ _ _ from hlen _ _ rfl ⟨ns.length,rfl,by omega,q⟩)) ?_);dsimp only[An];refine jae (jar (x:=.int ns.length) (λQ q=>hlen _ _ rfl q) ?_);dsimp only[An];refine jae (jb3 ?_);dsimp only[An];refine jae ?_;unfold sFor jb5;refine jab rfl ?_;refine jaz (λds δ m=>m=n/\∃(M:List Nat) (s:Sd) (nu:List Nat) (fr:Nat) (R0 R1:List Aa) (x8 x9:Option SV),ds=intL M/\δ=[some (.w (.d (.tuple [pgD ps,nsD ns]))),some (.w (.d (.list (intL L)))),some (.w (.d (pgD ps))),some (.w (.d (nsD ns))),some (.w (.d (sdD s))),some (.w (.d (.list (intL nu)))),some (.w (.d (.int fr))),some (.own R0),x8,x9]/\LgI ps R s nu fr M R0 R1) (λδ m I=>?_) (λd r δ m N I kN=>?_) _ _ _ ⟨rfl,L,_,_,_,[],R,none,none,rfl,rfl,lgi0 ok⟩
 ·obtain⟨rfl,M,s,nu,fr,R0,R1,x8,x9,ed,rfl,I⟩:=I;cases M with
  |nil =>
   cases I.lg;have e:=I.eq;rw[Bo]at e;dsimp only;refine jd3 rfl ?_;dsimp only[An];rw[e];exact ja2 (jab rfl k)
  |cons a M=>cases ed
 ·obtain⟨rfl,M,s,nu,fr,R0,R1,x8,x9,ed,rfl,I⟩:=I;cases M with
  |nil=>cases ed
  |cons a M =>
   obtain⟨rfl,rfl⟩:=List.cons.inj ed;obtain⟨t,R2,B,J⟩:=I.step okp;dsimp only[jac,An];refine jae (show sUnp _ _ _ _ _ from c5_i (jab rfl (jab rfl (jab rfl (jab rfl (jab rfl ⟨ps,s,t,nu,fr,a,rfl,B,⟨rfl,?_⟩⟩))))));dsimp only[jaj,ja3,jac,An];refine jae (jhs rfl (λQ q=>jab rfl q) (I.lt hR) ?_);dsimp only[An];refine jar (x:=sdD t) (λQ q=>c3_i (jab rfl (jab rfl (jab rfl ⟨ps,s.1,s.2,a,t,rfl,B.st,B.le,B.af,q⟩)))) ?_;dsimp only[An];exact kN _ _ ⟨rfl,M,t,_,_,_,R2,_,_,rfl,rfl,J⟩
section
variable {δ:Sl} {n:Int} {Q:DQ}
theorem j3g {i j:Nat} {ds:List Aa} {r:Nat} (e1:δ[i]?=some (some (.w (.d (.list ds))))) (e2:δ[j]?=some (some (.w (.d (.int r))))) (k:Q (.d (.list (ds.take r))) n):jcb (wVar i) jbv (jbg (wVar j)) δ n Q:=by
 unfold jcb jbv jbg;refine jab e1 (jab e2 ?_);dsimp only;rw[jyo];exact k
theorem ixL0 {a:Aa} {r:List Aa} (k:Q (.d a) n):gIxL (.d (.tuple (a::r))) (.d (.int 0)) n Q:=g0_i (r:=r) k
theorem jnb {ds:List Aa} (h:Small (.list ds)) (k:Q (.d (.str (E2 (.list ds)))) n):jcr [.d (.list ds)] n Q:=Aj h k
end
theorem j3v {ps:Pg} {ns:List Nt} {L:List Nat} {S:List Sd} (okp:okPg ps) (okh:okHs ps (hs0 ps)) (okn:okNs 12 ns) (hl:L.length<=30) (W:Wlk ps (hs0 ps,ns) L S):∃R,okPn ps ns L R:=by
 have hlt:L.length < S.length:=by rw[W.len];exact Nat.lt_succ_self _
 have:=jpo W L.length 0 (by omega) W.fst (by rw[Nat.zero_add];exact Af hlt);rw[Dy,De (Al _)]at this;obtain⟨R,h⟩:=j1f this (A1 ns.length) ns.length;exact⟨R,okp,okh,okn,hl,h⟩
inductive Rw
 |lay (m n:Nat) (q:Nt)
 |take (m n:Nat)
 |clk (l:List Nat)
 |rd (m:Nat) (g:Option Nat)
 |lk (m:Nat) (g:Option Nat)
 |gs (m:Nat)
def Rw.hd:Rw->Str
 |.lay _ _ _=>"lays"
 |.take _ _=>"takes"
 |.clk _=>"clock"
 |.rd _ _=>"reads"
 |.lk _ _=>"looks"
 |.gs _=>"goes"
def Rw.tl:Rw->List Aa
 |.lay m n q=>[.int m,.int n,ntD q]
 |.take m n=>[.int m,.int n]
 |.clk l=>[.tuple (intL l)]
 |.rd m g=>[.int m,natD g]
 |.lk m g=>[.int m,natD g]
 |.gs m=>[.int m]
def rwD (r:Rw):Aa:=.tuple (.str r.hd::r.tl)
def lyR:Rw->Option Nat
 |.lay _ n _=>some n
 |_=>none
def lyQ:Rw->Nt
 |.lay _ _ q=>q
 |_=>([],.none)
def goR:Rw->List Nat
 |.take _ n=>[n]
 |.clk l=>l
 |_=>[]
def ckR:Rw->Bool
 |.clk _=>true
 |_=>false
inductive Stp (ns:List Nt) (nu:List Nat) (fr:Nat):Rw->List Nt->List Nat->Nat->Prop
 |lay {m:Nat} {q:Nt}:jdy q.2->Stp ns nu fr (.lay m fr q) (ns++[q]) (nu++[fr]) (fr+1)
 |take {m i x:Nat}:i < ns.length->nu[i]?=some x->Stp ns nu fr (.take m x) (outO ns i) (nu.filter λy=>!decide (some y=some x)) fr
 |clk:Stp ns nu fr (.clk (gon nu ns)) (clkO ns) (nu.filter λy=>!decide (y∈gon nu ns)) fr
 |rd {m:Nat} {g:Option Nat}:Stp ns nu fr (.rd m g) ns nu fr
 |lk {m:Nat} {g:Option Nat}:Stp ns nu fr (.lk m g) ns nu fr
 |gs {m:Nat}:Stp ns nu fr (.gs m) ns nu fr
inductive Sts (ns0:List Nt):List Rw->List Nt->List Nat->Nat->Prop
 |nil:Sts ns0 [] ns0 (A1 ns0.length) ns0.length
 |snoc {P:List Rw} {ns ns':List Nt} {nu nu':List Nat} {fr fr':Nat} {r:Rw}:Sts ns0 P ns nu fr->Stp ns nu fr r ns' nu' fr'->Sts ns0 (P++[r]) ns' nu' fr'
def jam (P:List Rw) (n:Nat):Option Nat:=P.findIdx? λr=>decide (lyR r=some n)
def jan (P:List Rw) (n:Nat):Option Nat:=P.findIdx? λr=>decide (n∈goR r)
def clkN (P:List Rw):Nat:=(P.filter ckR).length
def agD:Aa->Nat->Aa
 |.int a,k=>.int (a - k)
 |d,_=>d
def frO (ns0:List Nt) (P:List Rw):Nat:=ns0.length+(P.filter λr=>(lyR r).isSome).length
def behA (ns0:List Nt) (P:List Rw) (n:Nat):Option Nat->Nt
 |none=>((ns0[n]?.getD ([],.none)).1,agD (ns0[n]?.getD ([],.none)).2 (clkN P))
 |some j=>((lyQ (P[j]?.getD (.gs 0))).1,agD (lyQ (P[j]?.getD (.gs 0))).2 (clkN (P.drop j)))
def beh (ns0:List Nt) (P:List Rw) (n:Nat):Nt:=behA ns0 P n (jam P n)
def lifD (P:List Rw) (n:Nat):Aa:=.tuple [natD (jam P n),natD (jan P n)]
structure okLg (ns0:List Nt) (Rs:List Rw):Prop where
 st:∃ns nu fr,Sts ns0 Rs ns nu fr
 le:Rs.length<=30
 l0:ns0.length<=12
 ag:∀q∈ns0,jdy q.2
def jex:DSpN:=λws n Q=>∃(ns0:List Nt) (Rs:List Rw),ws=[.d (.list (Rs.map rwD)),.d (.int (ns0.length:Nat))]/\okLg ns0 Rs/\Q ((A1 (frO ns0 Rs)).map (lifD Rs)) n
def jev:DSpN:=λws n Q=>∃(ns0 ns:List Nt) (Rs:List Rw) (nu:List Nat) (fr k:Nat),ws=[.d (.list (Rs.map rwD)),.d (.int (ns0.length:Nat)),.d (.int k)]/\okLg ns0 Rs/\k<=Rs.length/\Sts ns0 (Rs.take k) ns nu fr/\Q (intL nu) n
def jjv:DSp:=λws n Q=>∃(ns0:List Nt) (Rs:List Rw) (i:Nat),ws=[.d (.list (Rs.map rwD)),.d (.int i)]/\okLg ns0 Rs/\Q (.d (lifD Rs i)) n
def joe:DSp:=λws n Q=>∃(pg g:Aa) (ns0:List Nt) (Rs:List Rw) (i k:Nat),ws=[.d (.tuple [pg,nsD ns0]),.d (.list (Rs.map rwD)),.d (.tuple [natD (jam (Rs.take k) i),g]),.d (.int i),.d (.int k)]/\okLg ns0 Rs/\k<=Rs.length/\i < frO ns0 (Rs.take k)/\Q (.d (ntD (beh ns0 (Rs.take k) i))) n
def ju9:DSp:=λws n Q=>∃(pg hg:Aa) (ns0 ns:List Nt) (Rs:List Rw) (nu:List Nat) (fr k:Nat),ws=[.d (.tuple [pg,nsD ns0]),.d (.list (Rs.map rwD)),.d (.list ((A1 (frO ns0 Rs)).map (lifD Rs))),.d (.tuple [hg,nsD ns]),.d (.int k)]/\okLg ns0 Rs/\k<=Rs.length/\Sts ns0 (Rs.take k) ns nu fr/\Small (nsD ns)/\Q (.d (.bool true)) n
theorem jlw {ns0:List Nt} {P:List Rw} {ns:List Nt} {nu:List Nat} {fr:Nat} (h:Sts ns0 P ns nu fr):∀k,∃ns' nu' fr',Sts ns0 (P.take k) ns' nu' fr':=by
 induction h with
 |nil=>intro k;rw[List.take_nil];exact⟨_,_,_,.nil⟩
 |@snoc P ns ns' nu nu' fr fr' r a b ih =>
  intro k;by_cases hk:k<=P.length
  ·rw[Fk hk];exact ih k
  ·rw[De (by rw[Ak,As];omega)];exact⟨_,_,_,.snoc a b⟩
theorem jgc (P:List Rw) (r:Rw) (n:Nat):jam (P++[r]) n=(jam P n).or (if lyR r=some n then some P.length else none):=by
 unfold jam;rw[List.findIdx?_append]
 congr 1
 by_cases h:lyR r=some n<;>simp[D5,h]
theorem jgg (P:List Rw) (r:Rw) (n:Nat):jan (P++[r]) n=(jan P n).or (if n∈goR r then some P.length else none):=by
 unfold jan;rw[List.findIdx?_append]
 congr 1
 by_cases h:n∈goR r<;>simp[D5,h]
theorem jrm {P:List Rw} {n j:Nat} (h:jam P n=some j):j < P.length:=(B1.mp h).1
theorem jcp {P:List Rw} {r:Rw} {n:Nat} (h:lyR r≠some n):jam (P++[r]) n=jam P n:=by rw[jgc,if_neg h,Option.or_none]
theorem jgi {P:List Rw} {r:Rw} {n:Nat} (h:n∉goR r):jan (P++[r]) n=jan P n:=by rw[jgg,if_neg h,Option.or_none]
theorem jk8 (P:List Rw) (r:Rw):clkN (P++[r])=clkN P+if ckR r=true then 1 else 0:=by
 unfold clkN;rw[Ft,Ak];by_cases h:ckR r=true<;>simp[h]
def agQ (c:Bool) (b:Nt):Nt:=if c=true then(b.1,ageO b.2)else b
theorem ju7 (d:Aa) (k:Nat):agD d (k+1)=ageO (agD d k):=by
 cases d<;>simp only[agD,ageO]
 congr 1
 omega
theorem jn9 {d:Aa}:agD d 0=d:=by
 cases d<;>simp[agD]
theorem jsw (a:List Aa) (d:Aa) (k:Nat) (c:Bool):(a,agD d (k+if c=true then 1 else 0))=agQ c (a,agD d k):=by
 unfold agQ;cases c with
 |true=>rw[if_pos rfl,if_pos rfl,ju7]
 |false=>rw[if_neg Ae,if_neg Ae];rfl
theorem jjt {ns0:List Nt} {P:List Rw} {r:Rw} {n:Nat} (h:jam (P++[r]) n=jam P n):beh ns0 (P++[r]) n=agQ (ckR r) (beh ns0 P n):=by
 unfold beh;rw[h];cases e:jam P n with
 |none =>
  unfold behA;rw[jk8];exact jsw _ _ _ _
 |some j =>
  have hj:=jrm e;show((lyQ ((P++[r])[j]?.getD (Rw.gs 0))).1,agD (lyQ ((P++[r])[j]?.getD (Rw.gs 0))).2 (clkN (List.drop j (P++[r]))))=agQ (ckR r) ((lyQ (P[j]?.getD (Rw.gs 0))).1,agD (lyQ (P[j]?.getD (Rw.gs 0))).2 (clkN (List.drop j P)));rw[B9 hj,List.drop_append_of_le_length (D6 hj),jk8];exact jsw _ _ _ _
structure SvI (ns0:List Nt) (P:List Rw) (ns:List Nt) (nu:List Nat) (fr:Nat):Prop where
 efr:fr=frO ns0 P
 enu:nu=(A1 fr).filter λn=>(jan P n).isNone
 ens:ns=nu.map (beh ns0 P)
 l0:∀n,n < ns0.length->jam P n=none
 l1:∀n,ns0.length<=n->n < fr->∃j,jam P n=some j
 l2:∀n,fr<=n->jam P n=none
 g2:∀n,fr<=n->jan P n=none
 un:∀n (i j:Nat) r t,P[i]?=some r->P[j]?=some t->n∈goR r->n∈goR t->i=j
 le:ns0.length<=fr
theorem SvI.nd {ns0:List Nt} {P:List Rw} {ns:List Nt} {nu:List Nat} {fr:Nat} (I:SvI ns0 P ns nu fr):nu.Nodup:=by rw[I.enu];exact List.nodup_range.filter _
theorem SvI.lt {ns0:List Nt} {P:List Rw} {ns:List Nt} {nu:List Nat} {fr n:Nat} (I:SvI ns0 P ns nu fr) (h:n∈nu):n < fr/\jan P n=none:=by
 rw[I.enu]at h;obtain⟨a,b⟩:=Bu.mp h;exact⟨Br.mp a,Option.isNone_iff_eq_none.mp b⟩
theorem jjg (ns0:List Nt) (P:List Rw) (r:Rw):frO ns0 (P++[r])=frO ns0 P+if (lyR r).isSome=true then 1 else 0:=by
 unfold frO;rw[Ft,Ak,Nat.add_assoc]
 congr 2
 by_cases h:(lyR r).isSome=true<;>simp[h]
theorem jml {P:List Rw} {r t:Rw} {i:Nat} (h:(P++[r])[i]?=some t):P[i]?=some t\/(i=P.length/\t=r):=by
 by_cases hi:i < P.length
 ·rw[B9 hi]at h;exact .inl h
 ·rw[Bt (by omega)]at h;cases q:i - P.length with
  |zero=>rw[q]at h;exact .inr ⟨by omega,(A6 h).symm⟩
  |succ k=>rw[q]at h;cases h
theorem jgh {P:List Rw} {n:Nat} (h:jan P n=none) {i:Nat} {r:Rw} (e:P[i]?=some r):n∉goR r:=by
 have:=F0.mp h r (A7 e);exact of_decide_eq_false this
theorem jlo {P:List Rw} {r:Rw} (un:∀n (i j:Nat) r t,P[i]?=some r->P[j]?=some t->n∈goR r->n∈goR t->i=j) (hr:∀n∈goR r,jan P n=none) :
  ∀n (i j:Nat) a t,(P++[r])[i]?=some a->(P++[r])[j]?=some t->n∈goR a->n∈goR t->i=j:=λn i j a t h1 h2 m1 m2=>by
 rcases jml h1 with q1 | ⟨q1,e1⟩
 ·rcases jml h2 with q2 | ⟨q2,e2⟩
  ·exact un n i j a t q1 q2 m1 m2
  ·rw[e2]at m2;exact absurd m1 (jgh (hr n m2) q1)
 ·rw[e1]at m1;rcases jml h2 with q2 | ⟨q2,e2⟩
  ·exact absurd m2 (jgh (hr n m1) q2)
  ·rw[q1,q2]
theorem jr1 (b:Nat->Nt):∀nu:List Nat,gon nu (nu.map b)=nu.filter λn=>isI1 (b n).2
 |[]=>rfl
 |x::nu=>by
  rw[Be,jje,jr1 b nu,B5]
theorem jwb:∀{nu:List Nat} {i x:Nat},nu.Nodup->nu[i]?=some x->(nu.filter λy=>!decide (some y=some x))=nu.take i++nu.drop (i+1)
 |[],_,_,_,h=>by simp at h
 |y::nu,0,x,nd,h=>by
  cases h;obtain⟨a,b⟩:=Cs.mp nd;rw[B5,if_neg (by simp),List.take_zero,Bi,List.drop_succ_cons,Dy];exact Dv.mpr λz hz=>by
   have:z≠y:=λe=>a (e▸hz);simp[this]
 |y::nu,i+1,x,nd,h=>by
  obtain⟨a,b⟩:=Cs.mp nd;have hx:x∈nu:=A7 (show nu[i]?=some x from h);have:y≠x:=λe=>a (e▸hx);rw[B5,if_pos (by simp[this]),List.take_succ_cons,List.drop_succ_cons,List.cons_append,jwb b h]
theorem SvI.step {ns0:List Nt} {P:List Rw} {ns ns':List Nt} {nu nu':List Nat} {fr fr':Nat} {r:Rw} (I:SvI ns0 P ns nu fr) (h:Stp ns nu fr r ns' nu' fr'):SvI ns0 (P++[r]) ns' nu' fr':=by
 obtain⟨e1,e2,e3,l0,l1,l2,g2,un,le⟩:=I;have I:SvI ns0 P ns nu fr:=⟨e1,e2,e3,l0,l1,l2,g2,un,le⟩;have same:∀{r:Rw},lyR r=none->goR r=[]->ckR r=false->SvI ns0 (P++[r]) ns nu fr:=λ{r} h1 h2 h3=>by
  have kl:∀n,jam (P++[r]) n=jam P n:=λn=>jcp (by rw[h1];exact λz=>nomatch z);have kg:∀n,jan (P++[r]) n=jan P n:=λn=>jgi (by rw[h2];exact λz=>nomatch z);refine⟨by rw[jjg,h1];exact e1,by simp only[kg];exact e2,?_,λn hn=>(kl n).trans (l0 n hn),λn a b=>(l1 n a b).imp λj e=>(kl n).trans e,λn hn=>(kl n).trans (l2 n hn),λn hn=>(kg n).trans (g2 n hn),jlo un (by rw[h2];exact λn hn=>nomatch hn),le⟩;rw[e3];exact B7 λn _=>by rw[jjt (kl n),h3];rfl
 have out:∀{r:Rw},lyR r=none->(∀n∈goR r,n∈nu)->∀nu',nu'=nu.filter (λy=>!decide (y∈goR r))->SvI ns0 (P++[r]) (nu'.map λn=>agQ (ckR r) (beh ns0 P n)) nu' fr:=λ{r} h1 h2 nu' hn'=>by
  have kl:∀n,jam (P++[r]) n=jam P n:=λn=>jcp (by rw[h1];exact λz=>nomatch z);refine⟨by rw[jjg,h1];exact e1,?_,?_,λn hn=>(kl n).trans (l0 n hn),λn a b=>(l1 n a b).imp λj e=>(kl n).trans e,λn hn=>(kl n).trans (l2 n hn),λn hn=>?_,jlo un λn hn=>(I.lt (h2 n hn)).2,le⟩
  ·rw[hn',e2,List.filter_filter];refine Dp λn _=>?_;rw[jgg];by_cases z:n∈goR r
   ·rw[if_pos z];cases jan P n<;>simp[z]
   ·rw[if_neg z];cases jan P n<;>simp[z]
  ·exact B7 λn _=>(jjt (kl n)).symm
  ·rw[jgi λz=>absurd (I.lt (h2 n z)).1 (Nat.not_lt.mpr hn)];exact g2 n hn
 cases h with
 |@lay m q hq =>
  have kl:∀n,n≠fr->jam (P++[Rw.lay m fr q]) n=jam P n:=λn hn=>jcp (λz=>hn (A6 z).symm);have kf:jam (P++[Rw.lay m fr q]) fr=some P.length:=by rw[jgc,l2 fr (Al _),if_pos (show lyR (Rw.lay m fr q)=some fr from rfl)];rfl
  have kg:∀n,jan (P++[Rw.lay m fr q]) n=jan P n:=λn=>jgi (λz=>nomatch z);refine⟨by rw[jjg,e1];rfl,?_,?_,λn hn=>(kl n (by omega)).trans (l0 n hn),λn a b=>?_,λn hn=>(kl n (by omega)).trans (l2 n (by omega)),λn hn=>(kg n).trans (g2 n (by omega)),jlo un (λn hn=>nomatch hn),by omega⟩
  ·rw[List.range_succ,Ft];simp only[kg];rw[<-e2,B5,if_pos (by rw[g2 fr (Al _)];rfl),List.filter_nil]
  ·rw[Bb,e3]
   congr 1
   ·exact B7 λn hn=>by
     rw[jjt (kl n (Bm (I.lt hn).1))];rfl
   ·rw[Be,Ei]
    congr 1
    unfold beh;rw[kf];show q=((lyQ ((P++[Rw.lay m fr q])[P.length]?.getD (Rw.gs 0))).1,agD (lyQ ((P++[Rw.lay m fr q])[P.length]?.getD (Rw.gs 0))).2 (clkN (List.drop P.length (P++[Rw.lay m fr q]))));rw[Bt (Al _),Nat.sub_self,List.drop_left];show q=(q.1,agD q.2 0);rw[jn9]
  ·by_cases z:n=fr
   ·exact⟨_,by rw[z];exact kf⟩
   ·rw[kl n z];exact l1 n a (by omega)
 |@take m i x hi hx =>
  have hm:x∈nu:=A7 hx;have:=out (r:=.take m x) rfl (λn hn=>by rw[Bh.mp hn];exact hm) (nu.filter λy=>!decide (some y=some x)) (Dp λn _=>by simp[goR]);have e:outO ns i=(nu.filter λy=>!decide (some y=some x)).map λn=>agQ (ckR (.take m x)) (beh ns0 P n):=by
   rw[jwb I.nd hx,outO,e3,<-List.map_take,<-List.map_drop,<-Bb];rfl
  rw[e];exact this
 |clk =>
  have sub:∀n∈gon nu ns,n∈nu:=λn hn=>jjd hn;have:=out (r:=.clk (gon nu ns)) rfl sub _ rfl;have e:clkO ns=(nu.filter λy=>!decide (y∈gon nu ns)).map λn=>agQ (ckR (.clk (gon nu ns))) (beh ns0 P n):=by
   have e4:(nu.filter λy=>!decide (y∈gon nu ns))=nu.filter λn=>!isI1 (beh ns0 P n).2:=by
    refine Dp λn hn=>?_;rw[e3,jr1];by_cases z:isI1 (beh ns0 P n).2=true<;>simp[z,hn]
   rw[e4];unfold clkO;rw[e3,List.filter_map,Ct];rfl
  rw[e];exact this
 |rd=>exact same rfl rfl rfl
 |lk=>exact same rfl rfl rfl
 |gs=>exact same rfl rfl rfl
theorem jcm {ns0:List Nt} {P:List Rw} {ns:List Nt} {nu:List Nat} {fr:Nat} (h:Sts ns0 P ns nu fr):SvI ns0 P ns nu fr:=by
 induction h with
 |nil =>
  refine⟨rfl,(Dv.mpr λ_ _=>rfl).symm,?_,λ_ _=>rfl,λn a b=>absurd b (Nat.not_lt.mpr a),λ_ _=>rfl,λ_ _=>rfl,λn i j r t e=>by simp at e,Al _⟩;refine Ej (by simp) λi h1 h2=>?_;rw[List.getElem_map,List.getElem_range];show _=(((ns0[i]?.getD ([],.none)).1,agD (ns0[i]?.getD ([],.none)).2 0):Nt);rw[jn9,Af h1];rfl
 |snoc a b ih=>exact ih.step b
theorem jzf {ps:Pg} {s t:Sd} {nu:List Nat} {fr m:Nat} (B:okBd ps s t nu fr m) (ht:∀q∈t.2,okQ q):∃r,rwD r=(rowL ps s nu fr m).1/\Stp s.2 nu fr r t.2 (rowL ps s nu fr m).2.1 (rowL ps s nu fr m).2.2:=by
 obtain⟨st,⟨nd,len,lt⟩,le,af⟩:=B;by_cases em:m=ps.length
 ·subst em;unfold aftO at af;rw[if_pos rfl]at af;cases af;rw[jfn];exact⟨.clk (gon nu s.2),rfl,.clk⟩
 ·have hm:m < ps.length:=by omega
  obtain⟨P,xb,xp,nm,w,as,a,H,ea,T⟩:=jt4 st.2.1 hm af;rw[jfo hm ea];cases a with
  |lay fs age =>
   have T:t.2=s.2++[(filO fs nm,age)]:=T;refine⟨.lay m fr (filO fs (nmO s.1 m),age),rfl,?_⟩;have hq:=(ht (filO fs nm,age) (by rw[T];exact Ba _ Ay)).2;have en:nmO s.1 m=nm:=by unfold nmO;rw[H.hand];rfl
   rw[en,T];exact .lay hq
  |take gs =>
   obtain⟨i,eg,hi,T⟩:=T;have hi':i < nu.length:=by omega
   refine⟨.take m nu[i],?_,?_⟩
   ·show PyData.tuple [.str "takes",.int m,.int (nu[i]:Nat)]=.tuple [.str "takes",.int m,numO nu (gotO ps s.1 s.2 m)];rw[eg,jf2 hi']
   ·show Stp s.2 nu fr _ t.2 (nu.filter λx=>!decide (some x=numN nu (gotO ps s.1 s.2 m))) fr;rw[eg,jdz hi',T];exact .take hi (Af hi')
  |read gs=>exact⟨.rd m (numN nu (gotO ps s.1 s.2 m)),rfl,by rw[T.1];exact .rd⟩
  |look gs b=>exact⟨.lk m (numN nu (gotO ps s.1 s.2 m)),rfl,by rw[T.1];exact .lk⟩
  |go b=>exact⟨.gs m,rfl,by rw[show t.2=s.2 from T];exact .gs⟩
  |same f g b=>exact⟨.gs m,rfl,by rw[show t.2=s.2 from T];exact .gs⟩
theorem jri {ps:Pg} {R:List Aa} (okp:okPg ps) {ns0:List Nt} {s0:Sd} {S:List Sd} {L:List Nat} (W:Wlk ps s0 L S):∀(M:List Nat) (i:Nat) {s:Sd} {nu:List Nat} {fr:Nat} {R0 R1:List Aa} {P:List Rw},L.drop i=M->S[i]?=some s->LgI ps R s nu fr M R0 R1->Sts ns0 P s.2 nu fr ->
  ∃Rs:List Rw,R1=Rs.map rwD/\Rs.length=M.length/\∀k,k<=M.length->∃z nu' fr',S[i+k]?=some z/\Sts ns0 (P++Rs.take k) z.2 nu' fr'
 |[],i,s,nu,fr,R0,R1,P,eM,eS,I,st=>by
  have:R1=[]:=by cases I.lg;rfl
  refine⟨[],this,rfl,λk hk=>⟨s,nu,fr,?_,by rw[List.take_nil,Bo];exact st⟩⟩;rw[Nat.le_zero.mp hk];exact eS
 |m::M,i,s,nu,fr,R0,R1,P,eM,eS,I,st=>by
  have hi:L[i]?=some m:=by
   have:(L.drop i)[0]?=some m:=by rw[eM];rfl
   rw[List.getElem?_drop]at this;exact this
  obtain⟨_,s',t',e1,e2,e3⟩:=W.st i m hi;rw[eS]at e1;cases e1;obtain⟨t,R2,B,I2⟩:=I.step okp;have:t'=t:=A6 (e3.symm.trans B.af);subst this;obtain⟨r,er,sp⟩:=jzf B (W.ok _ _ e2).2.2;have e4:R1=(rowL ps s nu fr m).1::R2:=by
   have:=I.eq.trans I2.eq.symm;rw[Bk]at this;exact List.append_cancel_left this
  obtain⟨Rs,h1,h2,h3⟩:=jri okp W M (i+1) (by rw[<-List.drop_drop,eM];rfl) e2 I2 (.snoc st sp);refine⟨r::Rs,by rw[e4,h1,Be,er],by rw[Ao,h2,Ao],λk hk=>?_⟩;cases k with
  |zero=>exact⟨s,nu,fr,eS,by rw[List.take_zero,Bo];exact st⟩
  |succ k =>
   obtain⟨z,nu',fr',f1,f2⟩:=h3 k (by rw[Ao]at hk;omega);refine⟨z,nu',fr',by rw[<-f1];congr 1;omega,?_⟩;rw[List.take_succ_cons];rw[Bk]at f2;exact f2
theorem jxx {ps:Pg} {ns:List Nt} {L:List Nat} {R:List Aa} {S:List Sd} (ok:okPn ps ns L R) (W:Wlk ps (hs0 ps,ns) L S) :
  ∃Rs:List Rw,R=Rs.map rwD/\Rs.length=L.length/\okLg ns Rs/\∀k,k<=L.length->∃z nu fr,S[k]?=some z/\Sts ns (Rs.take k) z.2 nu fr:=by
 obtain⟨Rs,h1,h2,h3⟩:=jri ok.1 (ns0:=ns) W L 0 rfl W.fst (lgi0 ok) .nil;simp only[Bi,Nat.zero_add]at h3;refine⟨Rs,h1,h2,⟨?_,by rw[h2];exact ok.2.2.2.1,ok.2.2.1.1,λq hq=>(ok.2.2.1.2 q hq).2⟩,h3⟩;obtain⟨z,nu,fr,_,h⟩:=h3 L.length (Al _);rw[<-h2,De (Al _)]at h;exact⟨_,_,_,h⟩
theorem jkq (P:List Rw) (k n:Nat):jam (P.take k) n=(jam P n).bind λj=>if j < k then some j else none:=by
 unfold jam;rw[List.findIdx?_take];cases List.findIdx? (λr=>decide (lyR r=some n)) P with
 |none=>rfl
 |some j=>by_cases h:j < k<;>simp[Option.guard,h]
theorem jr0 (P:List Rw) (k n:Nat):jan (P.take k) n=(jan P n).bind λj=>if j < k then some j else none:=by
 unfold jan;rw[List.findIdx?_take];cases List.findIdx? (λr=>decide (n∈goR r)) P with
 |none=>rfl
 |some j=>by_cases h:j < k<;>simp[Option.guard,h]
def inL (k:Nat):Option Nat->Bool
 |none=>true
 |some j=>decide (j < k)
def inG (k:Nat):Option Nat->Bool
 |none=>true
 |some j=>!decide (j < k)
theorem j1e {ns0 ns1 ns:List Nt} {P:List Rw} {nu1 nu:List Nat} {fr1 fr k:Nat} (h1:Sts ns0 P ns1 nu1 fr1) (h:Sts ns0 (P.take k) ns nu fr) :
  nu=(((A1 (frO ns0 P)).filter λn=>inL k (jam P n)).filter λn=>inG k (jan P n))/\∀n∈nu,jam (P.take k) n=jam P n:=by
 have I1:=jcm h1;have I:=jcm h;have le:fr<=fr1:=by
  rw[I.efr,I1.efr];unfold frO;exact Nat.add_le_add_left ((List.take_sublist k P).filter _).length_le _
 have inl:∀n,n < fr1->inL k (jam P n)=decide (n < fr):=λn hn=>by
  have e:=jkq P k n;by_cases z:n < ns0.length
  ·rw[I1.l0 n z];have:=I.le;exact(decide_eq_true (by omega)).symm
  ·obtain⟨j,ej⟩:=I1.l1 n (by omega) hn;rw[ej]at e ⊢;show decide (j < k)=_;by_cases hj:j < k
   ·rw[decide_eq_true hj];refine(decide_eq_true ?_).symm;by_cases q:n < fr
    ·exact q
    ·rw[I.l2 n (by omega)]at e;have:(none:Option Nat)=some j:=e.trans (if_pos hj);cases this
   ·rw[decide_eq_false hj];refine(decide_eq_false λq=>?_).symm;obtain⟨i,ei⟩:=I.l1 n (by omega) q;rw[ei]at e;have:some i=(none:Option Nat):=e.trans (if_neg hj);cases this
 have ing:∀n,inG k (jan P n)=(jan (P.take k) n).isNone:=λn=>by
  rw[jr0];cases jan P n with
  |none=>rfl
  |some j=>by_cases hj:j < k<;>simp[inG,hj]
 refine⟨?_,λn hn=>?_⟩
 ·have e1:(A1 (frO ns0 P)).filter (λn=>inL k (jam P n))=A1 fr:=by
   rw[<-I1.efr,Dp (q:=λn=>decide (n < fr)) λn hn=>inl n (Br.mp hn)];obtain⟨d,rfl⟩:=Nat.exists_eq_add_of_le le;rw[List.range_add,Ft,Dv.mpr λn hn=>decide_eq_true (Br.mp hn),List.filter_eq_nil_iff.mpr λn hn=>?_,Bo];obtain⟨x,_,rfl⟩:=Bf.mp hn;simp
  rw[e1,I.enu];exact Dp λn _=>(ing n).symm
 ·have hl:=(I.lt hn).1;rw[jkq];cases e:jam P n with
  |none=>rfl
  |some j =>
   have:=inl n (by omega);rw[e,decide_eq_true hl]at this;exact if_pos (of_decide_eq_true this)
abbrev jsx:DST:=(sSeq (sOwn 2 (fRep (wOf (fLst (jaa (wC .none) aNil))) (wVar 1))) (sSeq (sOwn 3 (fRep (wOf (fLst (jaa (wC .none) aNil))) (wVar 1))) (sSeq (sFor (jkz (wVar 0)) (jbj 2 (jaj (jac 4) (jaj (jac 5) ja3))) (sSeq (sIf (cT (w2 (w2 (wVar 5) (wC (.int (0))) gIx) (wC (.str "lays")) gEq)) (sSeq (sApp 2 (wVar 4)) (sApp 3 (wC .none))) jap) (sFor (jcl (jai jlj (jaa (wVar 5) aNil))) (jac 6) (sPut 3 (wVar 6) (wVar 4))))) (sFrz 2 (sFrz 3 (jiv (jnz (jaa (wVar 2) (jaa (wVar 3) aNil)))))))))
abbrev jmn:DST:=(jiv (ja0 [none,none] (jkz (wOf (jck jex (jaa (jcb (wVar 0) jbv (jbg (wVar 2))) (jaa (wVar 1) aNil))))) (jbj 2 (jaj (jac 0) (jaj (jac 1) ja3))) (cT (w2 (w2 (wVar 1) (wC (.int (1))) gIx) (wC .none) (gIsN false))) (wVar 0)))
abbrev jg0:DST:=(sSeq (sSet 2 (wOf (ja0 [none,some 0,some 1] (jak (wB gLen (jaa (wVar 0) aNil))) (jac 0) (cAnd (cT (w2 (w2 (w2 (wVar 1) (wVar 0) gIx) (wC (.int (0))) gIx) (wC (.str "lays")) gEq)) (cT (w2 (w2 (w2 (wVar 1) (wVar 0) gIx) (wC (.int (2))) gIx) (wVar 2) gEq))) (wVar 0)))) (sSeq (sSet 3 (wOf (ja0 [none,some 0,some 1] (jak (wB gLen (jaa (wVar 0) aNil))) (jac 0) (cAnd (cT (w2 (w2 (w2 (wVar 1) (wVar 0) gIx) (wC (.int (0))) gIx) (wC (.str "takes")) gEq)) (cT (w2 (w2 (w2 (wVar 1) (wVar 0) gIx) (wC (.int (2))) gIx) (wVar 2) gEq))) (wVar 0)))) (sSeq (sSet 3 (w2 (wVar 3) (wOf (ja0 [none,some 0,some 1] (jak (wB gLen (jaa (wVar 0) aNil))) (jac 0) (cAnd (cT (w2 (w2 (w2 (wVar 1) (wVar 0) gIx) (wC (.int (0))) gIx) (wC (.str "clock")) gEq)) (cT (w2 (wVar 2) (w2 (w2 (wVar 1) (wVar 0) gIx) (wC (.int (1))) gIx) (gIn false)))) (wVar 0))) gCat)) (sRet (wTup (jaa (wIf (cT (w2 (wVar 2) (wOf (fLst aNil)) (gXX λd e=>some (!D1 d e)))) (w2 (wVar 2) (wC (.int (0))) gIx) (wC .none)) (jaa (wIf (cT (w2 (wVar 3) (wOf (fLst aNil)) (gXX λd e=>some (!D1 d e)))) (w2 (wVar 3) (wC (.int (0))) gIx) (wC .none)) aNil)))))))
abbrev jbz:DST:=(sSeq (sIf (cT (w2 (w2 (wVar 2) (wC (.int (0))) gIx) (wC .none) (gIsN false))) (sSeq (sUnp (w2 (w2 (wVar 0) (wC (.int (1))) gIx) (wVar 3) gIx) (jbj 2 (jaj (jac 5) (jaj (jac 6) ja3)))) (sSet 7 (wC (.int (0))))) (sSeq (sUnp (w2 (w2 (wVar 1) (w2 (wVar 2) (wC (.int (0))) gIx) gIx) (wC (.int (3))) gIx) (jbj 2 (jaj (jac 5) (jaj (jac 6) ja3)))) (sSet 7 (w2 (wVar 2) (wC (.int (0))) gIx)))) (sSeq (sSet 8 (wB gLen (jaa (wOf (ja0 [none] (jb5 (jcb (wVar 1) (jbg (wVar 7)) (jbg (wVar 4)))) (jac 0) (cT (w2 (w2 (wVar 0) (wC (.int (0))) gIx) (wC (.str "clock")) gEq)) (wVar 0))) aNil))) (sRet (wTup (jaa (wVar 5) (jaa (wIf (cT (w2 (wVar 6) (wC .none) (gIsN false))) (wC .none) (w2 (wVar 6) (wVar 8) (gI0 λi j=>.int (i - j)))) aNil))))))
abbrev jb0:DST:=(sSeq (sSet 5 (wB jbp (jaa (w2 (wVar 0) (wC (.int (1))) gIxL) aNil))) (sSeq (sSet 6 (wOf (ja0 [none,some 2,some 4] (jak (wB jbp (jaa (wVar 2) aNil))) (jac 0) (cOr (cT (w2 (wOrN (w2 (w2 (wVar 1) (wVar 0) gIxL) (wC (.int (0))) gIxL) (wC (.int (0)))) (wVar 2) gLt)) (cT (w2 (w2 (w2 (wVar 1) (wVar 0) gIxL) (wC (.int (0))) gIxL) (wC .none) (gIsN false)))) (wVar 0)))) (sSeq (sSet 6 (wOf (ja0 [none,some 2,some 4] (jb5 (wVar 6)) (jac 0) (cOr (cT (w2 (w2 (w2 (wVar 1) (wVar 0) gIxL) (wC (.int (1))) gIxL) (wC .none) (gIsN false))) (cT (w2 (w2 (w2 (wVar 1) (wVar 0) gIxL) (wC (.int (1))) gIxL) (wVar 2) gGe))) (wVar 0)))) (sSeq (sSet 7 (wB jbi (jaa (wOf (ja0 [none,some 2,some 4,some 1,some 0] (jb5 (wVar 6)) (jac 0) cYes (jai joe (jaa (wVar 4) (jaa (wVar 3) (jaa (w2 (wVar 1) (wVar 0) gIxL) (jaa (wVar 0) (jaa (wVar 2) aNil)))))))) aNil))) (sSeq (sIf (cT (w2 (wB jcr (jaa (wVar 7) aNil)) (wB jcr (jaa (w2 (wVar 3) (wC (.int (1))) gIxL) aNil)) gNe)) (sRet (wC (.bool false))) jap) (sSeq (sFor (jak (wC (.int (2)))) (jac 8) (sSeq (sOwn 9 (jck jev (jaa (wVar 1) (jaa (wVar 5) (jaa (wVar 4) aNil))))) (sSeq (sIf (cOr (cNot (cT (jpu (jbt 9)))) (cT (w2 (wB jcr (jaa (jbt 9) aNil)) (wB jcr (jaa (wVar 6) aNil)) gNe))) (sRet (wC (.bool false))) jap) (sApp 9 (wC (.int (0))))))) (sRet (wC (.bool true)))))))))
abbrev jwm:DST:=(sSeq (sSet 2 (jai jod (jaa (wVar 1) aNil))) (sSeq (sSet 3 (wB jbp (jaa (w2 (wVar 2) (wC (.int (1))) gIxL) aNil))) (sSeq (sFor (jak (wC (.int (3)))) (jac 4) (sSeq (sUnp (jai job (jaa (wVar 1) (jaa (w2 (wVar 2) (wC (.int (0))) gIxL) (jaa (jai jg4 (jaa (wVar 2) aNil)) (jaa (wC (.int (30))) aNil))))) (jbj 2 (jaj (jac 5) (jaj (jac 6) ja3)))) (sSeq (sSet 7 (jai joi (jaa (wVar 2) (jaa (wVar 5) aNil)))) (sSeq (sSet 8 (wB jcr (jaa (wVar 7) aNil))) (sSeq (sSet 9 (wOf (ja0 [none,some 7] (jak (w2 (wVar 3) (wB jbp (jaa (wOf (ja0 [none] (jb5 (wVar 7)) (jac 0) (cT (w2 (w2 (wVar 0) (wC (.int (0))) gIxL) (wC (.str "lays")) gEq)) (wVar 0))) aNil)) (gI0 λi j=>.int (i+j)))) (jac 0) cYes (jai jjv (jaa (wVar 1) (jaa (wVar 0) aNil)))))) (sSeq (sFor (jak (wC (.int (2)))) (jac 10) (sSeq (sOwn 11 (jck jex (jaa (wVar 7) (jaa (wVar 3) aNil)))) (sSeq (sIf (cOr (cNot (cT (jpu (jbt 11)))) (cT (w2 (wB jcr (jaa (jbt 11) aNil)) (wB jcr (jaa (wVar 9) aNil)) gNe))) (sRet (wC (.bool false))) jap) (sApp 11 (wTup (jaa (wC (.int (0))) (jaa (wC (.int (0))) aNil))))))) (sSeq (sFor (jcl (wTup (jaa (wC (.int (0))) (jaa (wB jbp (jaa (wVar 7) aNil)) (jaa (jai jas (jaa (wVar 1) (jaa (w2 (wB jbp (jaa (wVar 7) aNil)) (wC (.int (1))) (gI0 λi j=>.int (i+j))) aNil))) (jaa (jai jas (jaa (wVar 1) (jaa (w2 (wB jbp (jaa (wVar 7) aNil)) (wC (.int (1))) (gI0 λi j=>.int (i+j))) aNil))) aNil)))))) (jac 12) (sIf (cNot (cT (jai ju9 (jaa (wVar 2) (jaa (wVar 7) (jaa (wVar 9) (jaa (w2 (wVar 6) (wVar 12) gIxL) (jaa (wVar 12) aNil)))))))) (sRet (wC (.bool false))) jap)) (sIf (cT (w2 (wB jcr (jaa (wVar 7) aNil)) (wVar 8) gNe)) (sRet (wC (.bool false))) jap)))))))) (sRet (wAnd (w2 (wOf (jck jex (jaa (wOf (fLst aNil)) (jaa (wC (.int (0))) aNil)))) (wOf (fLst aNil)) gEqL) (w2 (wOf (jck jev (jaa (wOf (fLst aNil)) (jaa (wC (.int (2))) (jaa (wC (.int (0))) aNil))))) (wOf (fLst (jaa (wC (.int (0))) (jaa (wC (.int (1))) aNil)))) (gXX λd e=>some (D1 d e))))))))
theorem jta {ns0:List Nt} {P:List Rw} {r:Rw} {ns':List Nt} {nu':List Nat} {fr':Nat} (h:Sts ns0 (P++[r]) ns' nu' fr'):∃ns nu fr,Sts ns0 P ns nu fr/\Stp ns nu fr r ns' nu' fr':=by
 generalize e:P++[r]=T at h;cases h with
 |nil=>simp at e
 |snoc a b =>
  obtain⟨rfl,e2⟩:=List.append_inj' e rfl;cases e2;exact⟨_,_,_,a,b⟩
theorem jmv {h:Str} {r:List Aa} (h1:h≠"clock") (h2:h≠"takes"):okRw (.tuple (.str h::r))/\jps (.tuple (.str h::r))=intL []:=⟨.inr (.inr ⟨h1,h2⟩),jmw h1 h2⟩
theorem jpr (r:Rw):okRw (rwD r)/\jps (rwD r)=intL (goR r):=by
 cases r with
 |lay m n q=>exact jmv (h:="lays") (by decide +kernel) (by decide +kernel)
 |take m n =>
  refine⟨.inr (.inl ⟨rfl,_,_,rfl⟩),?_⟩;show(if ("takes":Str)="clock" then(match ([.int m,.int n]:List Aa)with | .tuple l::_=>l | _=>[])else if ("takes":Str)="takes" then(([.int m,.int n]:List Aa).drop 1).take 1 else[])=_;rw[if_neg (by decide +kernel),if_pos rfl];rfl
 |clk l =>
  refine⟨.inl ⟨rfl,_,rfl⟩,?_⟩;show(if ("clock":Str)="clock" then(match ([.tuple (intL l)]:List Aa)with | .tuple l::_=>l | _=>[])else if ("clock":Str)="takes" then(([.tuple (intL l)]:List Aa).drop 1).take 1 else[])=_;rw[if_pos rfl];rfl
 |rd m g=>exact jmv (h:="reads") (by decide +kernel) (by decide +kernel)
 |lk m g=>exact jmv (h:="looks") (by decide +kernel) (by decide +kernel)
 |gs m=>exact jmv (h:="goes") (by decide +kernel) (by decide +kernel)
theorem jzg {ns ns':List Nt} {nu nu':List Nat} {fr fr':Nat} {r:Rw} (h:Stp ns nu fr r ns' nu' fr'):(∀x∈goR r,x∈nu)/\((∃m q,r=.lay m fr q/\fr'=fr+1)\/(lyR r=none/\jaf "lays" (.str r.hd)=false/\fr'=fr)):=by
 cases h with
 |lay h=>exact⟨λx hx=>(nomatch hx),.inl ⟨_,_,rfl,rfl⟩⟩
 |take h e=>exact⟨λx hx=>by rw[Bh.mp hx];exact A7 e,.inr ⟨rfl,show jaf "lays" (.str "takes")=false by decide +kernel,rfl⟩⟩
 |clk=>exact⟨λx hx=>jjd hx,.inr ⟨rfl,show jaf "lays" (.str "clock")=false by decide +kernel,rfl⟩⟩
 |rd=>exact⟨λx hx=>(nomatch hx),.inr ⟨rfl,show jaf "lays" (.str "reads")=false by decide +kernel,rfl⟩⟩
 |lk=>exact⟨λx hx=>(nomatch hx),.inr ⟨rfl,show jaf "lays" (.str "looks")=false by decide +kernel,rfl⟩⟩
 |gs=>exact⟨λx hx=>(nomatch hx),.inr ⟨rfl,show jaf "lays" (.str "goes")=false by decide +kernel,rfl⟩⟩
def natF (f:Nat->Option Nat) (m:Nat):List Aa:=(A1 m).map λn=>natD (f n)
theorem jcd (f:Nat->Option Nat) (m:Nat):(natF f m).length=m:=by unfold natF;rw[Ab,Bx]
theorem jt2 {f:Nat->Option Nat} {m x k:Nat}:(natF f m).set x (.int k)=natF (λn=>if n=x then some k else f n) m:=by
 refine Ej (by rw[Ci,jcd,jcd]) λi h1 h2=>?_;simp only[List.getElem_set,natF,List.getElem_map,List.getElem_range];by_cases e:x=i
 ·rw[if_pos e,if_pos e.symm];rfl
 ·rw[if_neg e,if_neg (Ne.symm e)]
theorem jf3 {f:Nat->Option Nat} {m:Nat}:natF f (m+1)=natF f m++[natD (f m)]:=by unfold natF;rw[List.range_succ,Bb];rfl
theorem jb7 {f g:Nat->Option Nat} {m:Nat} (h:∀n < m,f n=g n):natF f m=natF g m:=B7 λn hn=>by rw[h n (Br.mp hn)]
theorem jre (m:Nat):A9 m PyData.none=natF (λ_=>none) m:=by
 induction m with
 |zero=>rfl
 |succ m ih=>rw[jf3,<-ih,List.replicate_succ'];rfl
theorem js1 (f g:Nat->Option Nat) (m:Nat):zipD (natF f m) (natF g m)=(A1 m).map λn=>.tuple [natD (f n),natD (g n)]:=by
 unfold zipD natF
 induction A1 m with
 |nil=>rfl
 |cons a l ih=>rw[Be,Be,Be,List.zipWith_cons_cons,ih]
theorem jyb {ns0:List Nt} {P:List Rw}:frO ns0 P<=ns0.length+P.length:=Nat.add_le_add_left (Cq _ _) _
theorem j3u {i x y:Nat} {δ:Sl} {n:Int} {K:DEnds} {wj w:DT} {ds:List Aa} (e:δ[i]?=some (some (.own ds))) (hw:∀Q:DQ,Q (.d (.int y)) n->w δ n Q) (hj:∀Q:DQ,Q (.d (.int x)) n->wj δ n Q) (hx:x < ds.length) (k:K.nx (δ.set i (some (.own (ds.set x (.int y))))) n):sPut i wj w δ n K:=by
 unfold sPut;rw[e];refine hw _ (hj _ ?_);dsimp only;rw[jt9 (by omega) (by omega)];exact k
theorem jq3 {i j m:Nat} {δ:Sl} {n:Int} {K:DEnds} (e:δ[j]?=some (some (.w (.d (.int (m:Nat)))))) (hm:m<=1000) (k:K.nx (δ.set i (some (.own (A9 m .none)))) n):sOwn i (fRep (wOf (fLst (jaa (wC .none) aNil))) (wVar j)) δ n K:=by
 unfold sOwn fRep;refine of_i (juk (c_i ?_));exact Aj (show 1<=1000 by decide) (jab e ⟨.none,m,rfl,rfl,hm,k⟩)
theorem j0a {i j:Nat} {δ:Sl} {n:Int} {K:DEnds} {as bs:List Aa} (e1:δ[i]?=some (some (.w (.d (.list as))))) (e2:δ[j]?=some (some (.w (.d (.list bs))))) (hl:as.length=bs.length) (k:K.rn (zipD as bs) n):jiv (jnz (jaa (wVar i) (jaa (wVar j) aNil))) δ n K:=by
 unfold jiv jnz;show wVar i δ n _;refine jab e1 ?_;show wVar j δ n _;exact jab e2 ⟨as,bs,rfl,hl,k⟩
theorem jrl:∀ws n Q,jex ws n Q->ws.length=2:=λws n Q h=>by obtain⟨_,_,rfl,_⟩:=h;rfl
theorem jpj:∀ws n Q,jex ws n Q->jsx (jat ["log","many","laid","gone","k","row","number"] ws) n {nx:=λ_ _=>False,rt:=λ_ _=>False,rn:=Q}:=λws n Q h=>by
 obtain⟨ns0,Rs,rfl,ok,k⟩:=h;have h30:=ok.le;have h12:=ok.l0;show jsx [some (.w (.d (.list (Rs.map rwD)))),some (.w (.d (.int (ns0.length:Nat)))),none,none,none,none,none] n _;refine jae (jq3 rfl (by omega) ?_);dsimp only[An];refine jae (jq3 rfl (by omega) ?_);dsimp only[An];rw[jre];refine jae ?_;unfold sFor jkz;refine jab rfl ⟨Rs.map rwD,.inr rfl,?_⟩;refine jaz (λds δ m=>m=n/\∃(P T:List Rw) (x4 x5 x6:Option SV),ds=jen P.length (T.map rwD)/\P++T=Rs/\δ=[some (.w (.d (.list (Rs.map rwD)))),some (.w (.d (.int (ns0.length:Nat)))),some (.own (natF (jam P) (frO ns0 P))),some (.own (natF (jan P) (frO ns0 P))),x4,x5,x6]) (λδ m I=>?_) (λd r δ m N I kN=>?_) _ _ _ ⟨rfl,[],Rs,none,none,none,rfl,rfl,rfl⟩
 ·obtain⟨rfl,P,T,x4,x5,x6,ed,eP,rfl⟩:=I;cases T with
  |cons a T=>rw[Be,jh7]at ed;cases ed
  |nil =>
   rw[Bo]at eP;subst eP;dsimp only;refine jd3 rfl ?_;dsimp only[An];refine jd3 rfl ?_;dsimp only[An];refine j0a rfl rfl (by rw[jcd,jcd]) ?_;rw[js1];exact k
 ·obtain⟨rfl,P,T,x4,x5,x6,ed,eP,rfl⟩:=I;cases T with
  |nil=>cases ed
  |cons a T =>
   rw[Be,jh7]at ed;obtain⟨rfl,rfl⟩:=List.cons.inj ed;have hP:P.length+(T.length+1)=Rs.length:=by rw[<-eP,Ak,Ao]
   obtain⟨nsF,nuF,frF,stF⟩:=ok.st;obtain⟨ns',nu',fr',st'⟩:=jlw stF (P.length+1);have eT:Rs.take (P.length+1)=P++[a]:=by rw[<-eP,show P++a::T=(P++[a])++T by simp];exact List.take_left' (by simp)
   rw[eT]at st';obtain⟨ns,nu,fr,st,sp⟩:=jta st';have I:=jcm st;have I':=jcm st';have hfr:=I.efr;have hfr':=I'.efr;have hle:frO ns0 P<=ns0.length+P.length:=jyb;obtain⟨hgo,hly⟩:=jzg sp;refine⟨rfl,?_⟩;dsimp only[jaj,ja3,jac,An];have inner:∀K:DEnds,(∀δ n,N δ n->K.nx δ n)->sFor (jcl (jai jlj (jaa (wVar 5) aNil))) (jac 6) (sPut 3 (wVar 6) (wVar 4)) [some (.w (.d (.list (Rs.map rwD)))),some (.w (.d (.int (ns0.length:Nat)))),some (.own (natF (jam (P++[a])) (frO ns0 (P++[a])))),some (.own (natF (jan P) (frO ns0 (P++[a])))),some (.w (.d (.int (P.length:Nat)))),some (.w (.d (rwD a))),x6] m K:=λK hK=>by
    unfold sFor jcl;refine c1_i (jab rfl ⟨rwD a,rfl,(jpr a).1,?_⟩);rw[(jpr a).2];refine jaz (λds δ m'=>m'=m/\∃(D E:List Nat) (x6:Option SV),ds=intL E/\D++E=goR a/\δ=[some (.w (.d (.list (Rs.map rwD)))),some (.w (.d (.int (ns0.length:Nat)))),some (.own (natF (jam (P++[a])) (frO ns0 (P++[a])))),some (.own (natF (λx=>if x∈D then some P.length else jan P x) (frO ns0 (P++[a])))),some (.w (.d (.int (P.length:Nat)))),some (.w (.d (rwD a))),x6]) (λδ m' J=>?_) (λd' r' δ m' N' J kN'=>?_) _ _ _ ⟨rfl,[],goR a,_,rfl,rfl,by rw[jb7 (g:=λx=>if x∈([]:List Nat)then some P.length else jan P x) λx _=>(if_neg Ax).symm]⟩
    ·obtain⟨rfl,D,E,x6,ed,eD,rfl⟩:=J;cases E with
     |cons b E=>cases ed
     |nil =>
      rw[Bo]at eD;refine hK _ _ (kN _ _ ⟨rfl,P++[a],T,some (.w (.d (.int (P.length:Nat)))),some (.w (.d (rwD a))),x6,by rw[Ak];rfl,by rw[<-eP];simp,?_⟩);rw[jb7 (f:=λx=>if x∈D then some P.length else jan P x) (g:=jan (P++[a])) λx _=>?_];rw[jgg,eD];by_cases hx:x∈goR a
      ·rw[if_pos hx,if_pos hx,(I.lt (hgo x hx)).2];rfl
      ·rw[if_neg hx,if_neg hx,Option.or_none]
    ·obtain⟨rfl,D,E,x6,ed,eD,rfl⟩:=J;cases E with
     |nil=>cases ed
     |cons b E =>
      rw[jrw]at ed;obtain⟨rfl,rfl⟩:=List.cons.inj ed;have hb:b < frO ns0 (P++[a]):=by
       have h1:=(I.lt (hgo b (by rw[<-eD];exact Ba _ Ay))).1;rw[<-hfr'];rcases hly with⟨_,_,_,e⟩ | ⟨_,_,e⟩<;>omega
      dsimp only[jac,An];refine j3u (x:=b) (y:=P.length) rfl (λQ q=>jab rfl q) (λQ q=>jab rfl q) (by rw[jcd];exact hb) ?_;dsimp only[An];refine kN' _ _ ⟨rfl,D++[b],E,some (.w (.d (.int (b:Nat)))),rfl,by rw[<-eD];simp,?_⟩;rw[jt2];have key:natF (λx=>if x=b then some P.length else if x∈D then some P.length else jan P x) (frO ns0 (P++[a]))=natF (λx=>if x∈D++[b]then some P.length else jan P x) (frO ns0 (P++[a])):=jb7 λx _=>by
       by_cases e:x=b
       ·rw[if_pos e,if_pos (by rw[e];simp)]
       ·rw[if_neg e];by_cases e2:x∈D
        ·rw[if_pos e2,if_pos (Do _ e2)]
        ·rw[if_neg e2,if_neg (by simp[e,e2])]
      rw[key]
   rcases hly with⟨m1,q,rfl,e1⟩ | ⟨e1,e2,e3⟩
   ·have ef:frO ns0 (P++[Rw.lay m1 fr q])=frO ns0 P+1:=by omega
    refine jae (j1s (a:=.str "lays") rfl (by decide +kernel) ?_);refine jae (jhs rfl (λQ q=>jab rfl q) (by rw[jcd];omega) ?_);dsimp only[An];refine jhs rfl (λQ q=>c_i q) (by rw[jcd];omega) ?_;dsimp only[An];have l1:natF (jam P) (frO ns0 P)++[.int (P.length:Nat)]=natF (jam (P++[Rw.lay m1 fr q])) (frO ns0 (P++[Rw.lay m1 fr q])):=by
     rw[ef,jf3]
     congr 1
     ·exact jb7 λx hx=>(jcp λz=>by have:=A6 z;omega).symm
     ·rw[jgc,<-hfr,I.l2 fr (Al _),if_pos (show lyR (Rw.lay m1 fr q)=some fr from rfl)];rfl
    have g1:natF (jan P) (frO ns0 P)++[.none]=natF (jan P) (frO ns0 (P++[Rw.lay m1 fr q])):=by
     rw[ef,jf3,<-hfr,I.g2 fr (Al _)];rfl
    have:=inner;rw[<-l1,<-g1]at this;exact this _ λδ n h=>h
   ·have ef:frO ns0 (P++[a])=frO ns0 P:=by omega
    have l1:natF (jam (P++[a])) (frO ns0 (P++[a]))=natF (jam P) (frO ns0 P):=by
     rw[ef];exact jb7 λx _=>jcp (by rw[e1];exact λz=>nomatch z)
    rw[l1,ef]at inner;refine jae (jx3 (a:=.str a.hd) rfl e2 ?_);exact inner _ λδ n h=>h
theorem okLg.take {ns0:List Nt} {Rs:List Rw} (h:okLg ns0 Rs) (k:Nat):okLg ns0 (Rs.take k):=by
 obtain⟨a,b,c,s⟩:=h.st;exact⟨jlw s k,A4 (List.length_take_le' _ _) h.le,h.l0,h.ag⟩
theorem jpa (f:Nat->Aa) (m:Nat):jen 0 ((A1 m).map f)=(A1 m).map λi=>.tuple [.int (i:Nat),f i]:=by
 unfold jen;refine Ej (by simp) λi h1 h2=>?_;simp
theorem jt0 (o:Option Nat):jb4 (natD o)=o.isNone:=by cases o<;>rfl
theorem jsi {Q:List Aa->Int->Prop} (P:List Rw):∀(l:List Nat) (acc:List Aa) (x y:Option SV) (n:Int),Q (acc++intL (l.filter λi=>(jan P i).isNone)) n ->
  jbf (jbj 2 (jaj (jac 0) (jaj (jac 1) ja3))) (cT (w2 (w2 (wVar 1) (wC (.int (1))) gIx) (wC .none) (gIsN false))) (wVar 0) Q (l.map λi=>.tuple [.int (i:Nat),lifD P i]) acc [x,y] n
 |[],acc,x,y,n,q=>by
  rw[show intL (List.filter (λi=>(jan P i).isNone) [])=[]from rfl,Bo]at q;exact q
 |i::l,acc,x,y,n,k=>by
  have ih:=λacc x y k=>jsi (Q:=Q) P l acc x y n k;refine(show jbj 2 _ (.tuple [.int (i:Nat),lifD P i]) [x,y] _ from⟨rfl,?_⟩);dsimp only[jaj,ja3,jac,An];refine ct_b (k:=(jan P i).isNone) (λQ q'=>w2_i (jff (a:=natD (jam P i)) (b:=natD (jan P i)) (r:=[]) rfl (c_i (jja (by rw[if_neg Ae,jt0];exact q'))))) ?_;rw[B5]at k;refine ifb (λz=>?_) λz=>?_
  ·rw[if_pos z]at k;exact jab rfl (ih _ _ _ (by rw[Bk];exact k))
  ·rw[if_neg (by rw[z];exact Ae)]at k;exact ih _ _ _ k
theorem jrk:∀ws n Q,jev ws n Q->ws.length=3:=λws n Q h=>by obtain⟨_,_,_,_,_,_,rfl,_⟩:=h;rfl
theorem jpi:∀ws n Q,jev ws n Q->jmn (jat ["log","many","k"] ws) n {nx:=λ_ _=>False,rt:=λ_ _=>False,rn:=Q}:=λws n Q h=>by
 obtain⟨ns0,ns,Rs,nu,fr,k,rfl,ok,hk,st,q⟩:=h;show jmn [some (.w (.d (.list (Rs.map rwD)))),some (.w (.d (.int (ns0.length:Nat)))),some (.w (.d (.int k)))] n _;have I:=jcm st;unfold jmn jiv ja0 jkz;refine of_i (cN2 (j3g rfl rfl (jab rfl ⟨ns0,Rs.take k,by rw[List.map_take],ok.take k,_,.inr rfl,?_⟩)));rw[jpa];show jbf _ _ _ _ _ _ [none,none] n;refine jsi (Rs.take k) _ [] none none n ?_;rw[<-I.efr,<-I.enu];exact q
def pA (p:Rw->Bool) (Rs:List Rw) (j:Nat):Bool:=(Rs[j]?.map p).getD false
theorem j30 {p:Rw->Bool} {Rs:List Rw} {j:Nat} (h:j < Rs.length):pA p Rs j=p Rs[j]:=by unfold pA;rw[Af h];rfl
theorem jjh (p:Rw->Bool):∀Rs:List Rw,((A1 Rs.length).filter (pA p Rs)).head?=Rs.findIdx? p
 |[]=>rfl
 |r::Rs=>by
  rw[Ao,List.range_succ_eq_map,B5,List.filter_map,D5];have e0:pA p (r::Rs) 0=p r:=rfl;have e1:(pA p (r::Rs)) ∘ Nat.succ=pA p Rs:=rfl;rw[e0,e1];by_cases h:p r=true
  ·rw[if_pos h,if_pos h];rfl
  ·rw[if_neg h,if_neg h,List.head?_map,jjh p Rs]
def tkR:Rw->Option Nat
 |.take _ n=>some n
 |_=>none
def ckL:Rw->List Nat
 |.clk l=>l
 |_=>[]
theorem jky {p q:Rw->Bool}:∀{Rs:List Rw},(∀r∈Rs,p r=q r)->Rs.findIdx? p=Rs.findIdx? q
 |[],_=>rfl
 |r::Rs,h=>by rw[D5,D5,h r Ay,jky λt ht=>h t (Az _ ht)]
theorem jr2 {n:Int} {Q:DQ} {i:Nat} {x:Aa} {xs:List Aa} (h:xs[i]?=some x) (k:Q (.d x) n):gIx (.d (.list xs)) (.d (.int (i:Nat))) n Q:=by
 show(match atI xs ((i:Nat):Int)with | some d=>Q (.d d) n | none=>False);rw[ja5 h];exact k
theorem jx8 {ns0:List Nt} {Rs:List Rw} {ns:List Nt} {nu:List Nat} {fr:Nat} (I:SvI ns0 Rs ns nu fr) (n:Nat) :
  jan Rs n=(Rs.findIdx? λr=>decide (tkR r=some n)).or (Rs.findIdx? λr=>decide (n∈ckL r)):=by
 cases e:Rs.findIdx? λr=>decide (tkR r=some n)with
 |some i =>
  obtain⟨h1,h2,_⟩:=B1.mp e;have h2:=of_decide_eq_true h2;have m1:n∈goR Rs[i]:=by
   cases q:Rs[i]with
   |take m x=>rw[q]at h2;cases h2;exact Ay
   |_=>rw[q]at h2;cases h2
  show _=some i;cases g:jan Rs n with
  |none=>exact absurd m1 (jgh g (Af h1))
  |some j =>
   obtain⟨g1,g2,_⟩:=B1.mp g;rw[I.un n j i _ _ (Af g1) (Af h1) (of_decide_eq_true g2) m1]
 |none =>
  rw[Option.none_or];have e:=F0.mp e;unfold jan;have key:∀r∈Rs,decide (n∈goR r)=decide (n∈ckL r):=λr hr=>by
   have:=e r hr;cases r with
   |take m x =>
    have:¬(some x=some n):=of_decide_eq_false this;have h:n∉[x]:=λz=>this (by rw[Bh.mp z]);rw[decide_eq_false (show n∉goR (.take m x)from h),decide_eq_false (show n∉ckL (.take m x)from λz=>nomatch z)]
   |_=>rfl
  exact jky key
theorem jds (l:List Nat) (hl:l.length<=100) (h:∀i∈l,i<=99):Small (.list (intL l)):=(jqe (k:=0) (w:=20) (m:=100) (λd hd=>by
 obtain⟨i,hi,rfl⟩:=Bf.mp hd;exact jdt (h i hi)) (by unfold intL;rw[Ab];exact hl)).small (by decide) (by decide)
section
variable {δ:Sl} {n:Int} {Q:DQ}
theorem j2e {x h:Str} (k:Q (.d (.bool (jaf h (.str x)))) n):gEq (.d (.str x)) (.d (.str h)) n Q:=k
theorem j4k {x y:Nat} (k:Q (.d (.bool (decide (x=y)))) n):gEq (.d (.int (x:Nat))) (.d (.int (y:Nat))) n Q:=by
 have:decide ((x:Int)=(y:Int))=decide (x=y):=decide_eq_decide.mpr Int.ofNat_inj;rw[<-this]at k;exact k
theorem jr4 {i:Nat} {L:List Nat} (e:δ[i]?=some (some (.w (.d (.list (intL L)))))) (hl:L.length<=100) (h:∀j∈L,j<=99) (k:Q (.d (natD L.head?)) n) :
  wIf (cT (w2 (wVar i) (wOf (fLst aNil)) (gXX λd e=>some (!D1 d e)))) (w2 (wVar i) (wC (.int (0))) gIx) (wC .none) δ n Q:=by
 have sm:=jds L hl h;have s0:=jds [] (by decide) (λ_ h=>nomatch h);cases L with
 |nil =>
  refine jdk (b:=false) (λQ q=>ct_b (k:=false) (λQ q=>w2_i (jab e (jb6 ⟨s0.1,s0.1,s0.2.1,s0.2.1,false,?_,q⟩))) q) ?_
  ·simp[D1,PyData.eqvAll,intL]
  ·rw[if_neg Ae];exact c_i k
 |cons a L =>
  refine jdk (b:=true) (λQ q=>ct_b (k:=true) (λQ q=>w2_i (jab e (jb6 ⟨sm.1,s0.1,sm.2.1,s0.2.1,true,?_,q⟩))) q) ?_
  ·simp[D1,PyData.eqvAll,intL]
  ·rw[if_pos rfl];exact w2_i (jab e (c_i (jr2 (i:=0) (x:=.int (a:Nat)) rfl k)))
theorem jw6 {i j m:Nat} {Rs:List Rw} (e1:δ[i]?=some (some (.w (.d (.list (Rs.map rwD)))))) (e2:δ[j]?=some (some (.w (.d (.int (m:Nat)))))) (hm:m < Rs.length) (k:Q (.d (rwD Rs[m])) n):w2 (wVar i) (wVar j) gIx δ n Q :=
 w2_i (jab e1 (jab e2 (jr2 (by rw[A0,Af hm];rfl) k)))
theorem jnw {i j m:Nat} {Rs:List Rw} {h:Str} (e1:δ[i]?=some (some (.w (.d (.list (Rs.map rwD)))))) (e2:δ[j]?=some (some (.w (.d (.int (m:Nat)))))) (hm:m < Rs.length) (k:Q (.d (.bool (jaf h (.str (Rs[m]).hd)))) n) :
  w2 (w2 (w2 (wVar i) (wVar j) gIx) (wC (.int (0))) gIx) (wC (.str h)) gEq δ n Q:=by
 refine w2_i (w2_i (jw6 e1 e2 hm (c_i (g0_i (r:=(Rs[m]).tl) (c_i (j2e k))))))
end
def ixs (p:Rw->Bool) (Rs:List Rw):List Nat:=(A1 Rs.length).filter (pA p Rs)
theorem jks {p:Rw->Bool} {Rs:List Rw} (h:Rs.length<=30):(ixs p Rs).length<=30/\∀j∈ixs p Rs,j<=99:=⟨A4 (Cq _ _) (by rw[Bx];exact h),λj hj=>by
 have:=Br.mp (Bu.mp hj).1;omega⟩
theorem jmj {δ:Sl} {n:Int} {Q:List Aa->Int->Prop} {Rs:List Rw} {i:Nat} {c:DTT} (p:Rw->Bool) (e0:δ[0]?=some (some (.w (.d (.list (Rs.map rwD)))))) (e1:δ[1]?=some (some (.w (.d (.int (i:Nat)))))) (hl:Rs.length<=30)
  (hc:∀j,(h:j < Rs.length)->∀(n:Int) (Q':Bool->Int->Prop),Q' (p Rs[j]) n->c [some (.w (.d (.int (j:Nat)))),some (.w (.d (.list (Rs.map rwD)))),some (.w (.d (.int (i:Nat))))] n Q') (q:Q (intL (ixs p Rs)) n) :
  ja0 [none,some 0,some 1] (jak (wB gLen (jaa (wVar 0) aNil))) (jac 0) c (wVar 0) δ n Q:=by
 unfold ja0 jak;refine jns e0 (Aj ⟨by omega,by rw[Ab];omega⟩ ?_);rw[Bp,Ab,jiw];have ec:jfj [none,some 0,some 1] δ=[none,some (.w (.d (.list (Rs.map rwD)))),some (.w (.d (.int (i:Nat))))]:=by
  simp only[jfj,Be,Ei,Option.bind,e0,e1]
 rw[ec];refine jd5 (λj:Nat=>.int j) (λj:Nat=>.int j) (pA p Rs) (A1 Rs.length) [] none n (λj hj n Q' q=>?_) (λj hj n Q' q=>?_) ?_
 ·have hj:=Br.mp hj;rw[j30 hj]at q;exact hc j hj n Q' q
 ·exact jab rfl q
 ·exact q
theorem j2x {h:Str} (num:Rw->Option Nat) (hn:∀r:Rw,(jaf h (.str r.hd)=true/\∃x:Nat,∃a t,r.tl=a::.int (x:Nat)::t/\num r=some x)\/(jaf h (.str r.hd)=false/\num r=none)) {Rs:List Rw} {i:Nat} (j:Nat) (hj:j < Rs.length) (n:Int) (Q':Bool->Int->Prop) (q:Q' (decide (num Rs[j]=some i)) n) :
  cAnd (cT (w2 (w2 (w2 (wVar 1) (wVar 0) gIx) (wC (.int (0))) gIx) (wC (.str h)) gEq)) (cT (w2 (w2 (w2 (wVar 1) (wVar 0) gIx) (wC (.int (2))) gIx) (wVar 2) gEq)) [some (.w (.d (.int (j:Nat)))),some (.w (.d (.list (Rs.map rwD)))),some (.w (.d (.int (i:Nat))))] n Q':=by
 rcases hn Rs[j]with⟨h1,x,a,t,h2,h3⟩ | ⟨h1,h2⟩
 ·rw[h3]at q;refine jk9 (λQ q=>ct_b (k:=true) (λQ q=>jnw rfl rfl hj (by rw[h1];exact q)) q) (ct_b (k:=decide (x=i)) (λQ q=>w2_i (w2_i (jw6 rfl rfl hj (c_i ?_)))) ?_)
  ·show gIx (.d (.tuple (.str (Rs[j]).hd::(Rs[j]).tl))) _ _ _;rw[h2];exact g2_i (jab rfl (j4k q))
  ·have:decide (some x=some i)=decide (x=i):=by simp
   rw[this]at q;exact q
 ·rw[h2]at q;exact jla (λQ q=>ct_b (k:=false) (λQ q=>jnw rfl rfl hj (by rw[h1];exact q)) q) q
theorem j49 {Rs:List Rw} {i:Nat} (j:Nat) (hj:j < Rs.length) (n:Int) (Q':Bool->Int->Prop) (q:Q' (decide (i∈ckL Rs[j])) n) :
  cAnd (cT (w2 (w2 (w2 (wVar 1) (wVar 0) gIx) (wC (.int (0))) gIx) (wC (.str "clock")) gEq)) (cT (w2 (wVar 2) (w2 (w2 (wVar 1) (wVar 0) gIx) (wC (.int (1))) gIx) (gIn false))) [some (.w (.d (.int (j:Nat)))),some (.w (.d (.list (Rs.map rwD)))),some (.w (.d (.int (i:Nat))))] n Q':=by
 have hn:(jaf "clock" (.str (Rs[j]).hd)=true/\∃l,(Rs[j]).tl=[.tuple (intL l)]/\ckL Rs[j]=l)\/(jaf "clock" (.str (Rs[j]).hd)=false/\ckL Rs[j]=[]):=by
  cases Rs[j]with
  |clk l=>exact .inl ⟨show jaf "clock" (.str "clock")=true by decide +kernel,l,rfl,rfl⟩
  |lay m x y=>exact .inr ⟨show jaf "clock" (.str "lays")=false by decide +kernel,rfl⟩
  |take m x=>exact .inr ⟨show jaf "clock" (.str "takes")=false by decide +kernel,rfl⟩
  |rd m g=>exact .inr ⟨show jaf "clock" (.str "reads")=false by decide +kernel,rfl⟩
  |lk m g=>exact .inr ⟨show jaf "clock" (.str "looks")=false by decide +kernel,rfl⟩
  |gs m=>exact .inr ⟨show jaf "clock" (.str "goes")=false by decide +kernel,rfl⟩
 rcases hn with⟨h1,l,h2,h3⟩ | ⟨h1,h2⟩
 ·rw[h3]at q;refine jk9 (λQ q=>ct_b (k:=true) (λQ q=>jnw rfl rfl hj (by rw[h1];exact q)) q) (ct_b (k:=decide (i∈l)) (λQ q=>w2_i (jab rfl (w2_i (jw6 rfl rfl hj (c_i ?_))))) q);show gIx (.d (.tuple (.str (Rs[j]).hd::(Rs[j]).tl))) _ _ _;rw[h2];exact g1_i ⟨rfl,jk5 l,by rw[if_neg Ae,jmd];exact q⟩
 ·rw[h2]at q;exact jla (λQ q=>ct_b (k:=false) (λQ q=>jnw rfl rfl hj (by rw[h1];exact q)) q) q
theorem j1d (r:Rw):(jaf "lays" (.str r.hd)=true/\∃x:Nat,∃a t,r.tl=a::.int (x:Nat)::t/\lyR r=some x)\/(jaf "lays" (.str r.hd)=false/\lyR r=none):=by
 cases r with
 |lay m x y=>exact .inl ⟨show jaf "lays" (.str "lays")=true by decide +kernel,x,_,_,rfl,rfl⟩
 |take m x=>exact .inr ⟨show jaf "lays" (.str "takes")=false by decide +kernel,rfl⟩
 |clk l=>exact .inr ⟨show jaf "lays" (.str "clock")=false by decide +kernel,rfl⟩
 |rd m g=>exact .inr ⟨show jaf "lays" (.str "reads")=false by decide +kernel,rfl⟩
 |lk m g=>exact .inr ⟨show jaf "lays" (.str "looks")=false by decide +kernel,rfl⟩
 |gs m=>exact .inr ⟨show jaf "lays" (.str "goes")=false by decide +kernel,rfl⟩
theorem j3d (r:Rw):(jaf "takes" (.str r.hd)=true/\∃x:Nat,∃a t,r.tl=a::.int (x:Nat)::t/\tkR r=some x)\/(jaf "takes" (.str r.hd)=false/\tkR r=none):=by
 cases r with
 |take m x=>exact .inl ⟨show jaf "takes" (.str "takes")=true by decide +kernel,x,_,_,rfl,rfl⟩
 |lay m x y=>exact .inr ⟨show jaf "takes" (.str "lays")=false by decide +kernel,rfl⟩
 |clk l=>exact .inr ⟨show jaf "takes" (.str "clock")=false by decide +kernel,rfl⟩
 |rd m g=>exact .inr ⟨show jaf "takes" (.str "reads")=false by decide +kernel,rfl⟩
 |lk m g=>exact .inr ⟨show jaf "takes" (.str "looks")=false by decide +kernel,rfl⟩
 |gs m=>exact .inr ⟨show jaf "takes" (.str "goes")=false by decide +kernel,rfl⟩
theorem ji9:∀ws n Q,jjv ws n Q->ws.length=2:=λws n Q h=>by obtain⟨_,_,_,rfl,_⟩:=h;rfl
theorem jhr:∀ws n Q,jjv ws n Q->jg0 (jat ["_law_log_here","_law_number","_law_laid","_law_gone"] ws) n {nx:=λ_ n=>Q (.d .none) n,rt:=Q}:=λws n Q h=>by
 obtain⟨ns0,Rs,i,rfl,ok,k⟩:=h;obtain⟨nsF,nuF,frF,st⟩:=ok.st;have h30:=ok.le;show jg0 [some (.w (.d (.list (Rs.map rwD)))),some (.w (.d (.int i))),none,none] n _;refine jae (jar (x:=.list (intL (ixs (λr=>decide (lyR r=some i)) Rs))) (λQ q=>of_i (jmj (i:=i) (λr=>decide (lyR r=some i)) rfl rfl h30 (j2x lyR j1d) q)) ?_);dsimp only[An];refine jae (jar (x:=.list (intL (ixs (λr=>decide (tkR r=some i)) Rs))) (λQ q=>of_i (jmj (i:=i) (λr=>decide (tkR r=some i)) rfl rfl h30 (j2x tkR j3d) q)) ?_);dsimp only[An];refine jae (jar (x:=.list (intL (ixs (λr=>decide (tkR r=some i)) Rs++ixs (λr=>decide (i∈ckL r)) Rs))) (λQ q=>w2_i (jab rfl (of_i (jmj (i:=i) (λr=>decide (i∈ckL r)) rfl rfl h30 j49 ?_)))) ?_)
 ·have a1:=(jks (p:=λr=>decide (tkR r=some i)) h30).1;have a2:=(jks (p:=λr=>decide (i∈ckL r)) h30).1;refine⟨by rw[jce,jce];exact jau (by omega),?_⟩;rw[intL,Bb]at q;exact q
 dsimp only[An];have b1:=jks (p:=λr=>decide (lyR r=some i)) h30;have b2:=jks (p:=λr=>decide (tkR r=some i)) h30;have b3:=jks (p:=λr=>decide (i∈ckL r)) h30;refine ja2 (ja8 (jr4 rfl (by omega) b1.2 (jr4 rfl (by rw[Ak];omega) (λj hj=>(Bd.mp hj).elim (b2.2 j) (b3.2 j)) (Aj (show 2<=1000 by decide) ?_))));have e1:(ixs (λr=>decide (lyR r=some i)) Rs).head?=jam Rs i:=jjh _ Rs;have e2:(ixs (λr=>decide (tkR r=some i)) Rs++ixs (λr=>decide (i∈ckL r)) Rs).head?=jan Rs i:=by
  rw[List.head?_append,jx8 (jcm st) i]
  congr 1
  ·exact jjh _ Rs
  ·exact jjh _ Rs
 rw[e1,e2];exact k
theorem j2w (xs:List Aa) {b k:Nat} (hb:b<=k) (hk:k<=xs.length):cutD xs (some (b:Int)) (some (k:Int))=(xs.take k).drop b:=by
 unfold cutD;rw[HT.sIx_nat,HT.sIx_nat,Fn hk,Fn (A4 hb hk),List.drop_take]
theorem j5b (r:Rw):jaf "clock" (.str r.hd)=ckR r:=by
 cases r with
 |clk l=>exact show jaf "clock" (.str "clock")=true by decide +kernel
 |lay m x y=>exact show jaf "clock" (.str "lays")=false by decide +kernel
 |take m x=>exact show jaf "clock" (.str "takes")=false by decide +kernel
 |rd m g=>exact show jaf "clock" (.str "reads")=false by decide +kernel
 |lk m g=>exact show jaf "clock" (.str "looks")=false by decide +kernel
 |gs m=>exact show jaf "clock" (.str "goes")=false by decide +kernel
theorem jwv {ns0:List Nt} {P:List Rw} {ns:List Nt} {nu:List Nat} {fr:Nat} (h:Sts ns0 P ns nu fr):∀r∈P,jdy (lyQ r).2:=by
 induction h with
 |nil=>exact λr hr=>nomatch hr
 |@snoc P ns ns' nu nu' fr fr' r a b ih =>
  intro t ht;rcases Bd.mp ht with ht | ht
  ·exact ih t ht
  ·rw[Bh.mp ht];cases b with
   |lay h=>exact h
   |_=>exact .inl rfl
theorem jrd {pg:Aa} {Rs:List Rw} {q:Nt} {b k:Nat} {n:Int} {Q:DQ} {x0 x2 x3 x8:Option SV} (ha:jdy q.2) (hb:b<=k) (hk:k<=Rs.length) (kq:Q (.d (ntD (q.1,agD q.2 (clkN ((Rs.take k).drop b))))) n) :
  sSeq (sSet 8 (wB gLen (jaa (wOf (ja0 [none] (jb5 (jcb (wVar 1) (jbg (wVar 7)) (jbg (wVar 4)))) (jac 0) (cT (w2 (w2 (wVar 0) (wC (.int (0))) gIx) (wC (.str "clock")) gEq)) (wVar 0))) aNil))) (sRet (wTup (jaa (wVar 5) (jaa (wIf (cT (w2 (wVar 6) (wC .none) (gIsN false))) (wC .none) (w2 (wVar 6) (wVar 8) (gI0 λi j=>.int (i - j)))) aNil))))
   [x0,some (.w (.d (.list (Rs.map rwD)))),x2,x3,some (.w (.d (.int (k:Nat)))),some (.w (.d (.tuple q.1))),some (.w (.d q.2)),some (.w (.d (.int (b:Nat)))),x8] n {nx:=λ_ n=>Q (.d .none) n,rt:=Q}:=by
 refine jae (jar (x:=.int (clkN ((Rs.take k).drop b):Nat)) (λQ q=>b1_i (of_i (jeo (ds:=((Rs.take k).drop b).map rwD) (λQ q=>?_) ?_))) ?_)
 ·unfold jcb jbg;refine jab rfl (jab rfl (jab rfl ?_));dsimp only;rw[j2w _ hb (by rw[Ab];exact hk),<-List.map_take,<-List.map_drop];exact q
 ·show jbf _ _ _ _ _ _ [none] n;refine jd5 rwD rwD ckR ((Rs.take k).drop b) [] none n (λr hr n Q' q=>?_) (λr hr n Q' q=>?_) ?_
  ·exact ct_b (k:=ckR r) (λQ q=>jo9 (a:=.str r.hd) (r:=r.tl) rfl (by rw[j5b];exact q)) q
  ·exact jab rfl q
  ·show Q (.d (.int ((([]++(List.filter ckR ((Rs.take k).drop b)).map rwD).length:Nat):Int))) n;rw[Bi,Ab];exact q
 dsimp only[An];refine ja2 (ja8 (jab rfl ?_));rcases ha with ha | ⟨a,ha,_⟩
 ·rw[ha]at kq ⊢;refine jdk (b:=true) (λQ q=>ct_b (k:=true) (λQ q=>w2_i (jab rfl (c_i (jja q)))) q) ?_;rw[if_pos rfl];exact c_i (Aj (show 2<=1000 by decide) kq)
 ·rw[ha]at kq ⊢;refine jdk (b:=false) (λQ q=>ct_b (k:=false) (λQ q=>w2_i (jab rfl (c_i (jja q)))) q) ?_;rw[if_neg Ae];exact w2_i (jab rfl (jab rfl (Aj (show 2<=1000 by decide) kq)))
theorem jc8:∀ws n Q,joe ws n Q->ws.length=5:=λws n Q h=>by obtain⟨_,_,_,_,_,_,rfl,_⟩:=h;rfl
theorem jct:∀ws n Q,joe ws n Q->jbz (jat ["_law_plan_here","_law_log_here","_law_life_here","_law_number","_law_k","_law_values","_law_age_here","_law_begin","_law_ticks"] ws) n {nx:=λ_ n=>Q (.d .none) n,rt:=Q}:=λws n Q h=>by
 obtain⟨pg,g,ns0,Rs,i,k,rfl,ok,hk,hi,q⟩:=h;obtain⟨nsF,nuF,frF,stF⟩:=ok.st;obtain⟨ns,nu,fr,st⟩:=jlw stF k;have I:=jcm st;show jbz [some (.w (.d (.tuple [pg,nsD ns0]))),some (.w (.d (.list (Rs.map rwD)))),some (.w (.d (.tuple [natD (jam (Rs.take k) i),g]))),some (.w (.d (.int i))),some (.w (.d (.int k))),none,none,none,none] n _;unfold beh at q;cases e:jam (Rs.take k) i with
 |none =>
  rw[e]at q;have hi0:i < ns0.length:=by
   by_cases z:i < ns0.length
   ·exact z
   ·obtain⟨j,ej⟩:=I.l1 i (by omega) (by rw[I.efr];exact hi);rw[e]at ej;cases ej
  refine jae (if_y (λQ q=>ct_b (k:=true) (λQ q=>w2_i (jkt (a:=.none) rfl (c_i (jja q)))) q) ?_);refine jae (show sUnp _ _ _ _ _ from w2_i (jff (b:=nsD ns0) rfl (jab rfl (gN_i (x:=ntD ns0[i]) (by rw[A0,Af hi0];rfl) ⟨rfl,?_⟩))));dsimp only[jaj,ja3,jac,An];refine jar (x:=.int ((0:Nat):Int)) (λQ q=>c_i q) ?_;dsimp only[An];refine jrd (pg:=pg) (q:=ns0[i]) (b:=0) (ok.ag _ (Ck hi0)) (Bn _) hk ?_;rw[Dy];have q:Q (.d (ntD ((ns0[i]?.getD ([],.none)).1,agD (ns0[i]?.getD ([],.none)).2 (clkN (Rs.take k))))) n:=q;rw[Af hi0]at q;exact q
 |some j =>
  rw[e]at q;obtain⟨h1,h2,_⟩:=B1.mp e;have h2:=of_decide_eq_true h2;have hjk:j < k/\j < Rs.length:=by rw[Dj]at h1;omega
  have q:Q (.d (ntD ((lyQ ((Rs.take k)[j]?.getD (.gs 0))).1,agD (lyQ ((Rs.take k)[j]?.getD (.gs 0))).2 (clkN ((Rs.take k).drop j))))) n:=q;rw[Af h1]at q;have ha:=jwv st _ (Ck h1);rw[List.getElem_take]at h2 ha q;obtain⟨m,x,er⟩:∃m x,Rs[j]=.lay m i x:=by
   cases er:Rs[j]with
   |lay m y x=>rw[er]at h2;cases h2;exact⟨m,x,rfl⟩
   |_=>rw[er]at h2;cases h2
  refine jae (if_n (λQ q=>ct_b (k:=false) (λQ q=>w2_i (jkt (a:=.int (j:Nat)) rfl (c_i (jja q)))) q) ?_);refine jae (show sUnp _ _ _ _ _ from w2_i (w2_i (jab rfl (jkt (a:=.int (j:Nat)) rfl (jr2 (x:=rwD Rs[j]) (by rw[A0,Af hjk.2];rfl) (c_i (gN_i (i:=3) (x:=ntD (lyQ Rs[j])) (by rw[er];rfl) ⟨rfl,?_⟩)))))));dsimp only[jaj,ja3,jac,An];refine jar (x:=.int (j:Nat)) (λQ q=>jkt rfl q) ?_;dsimp only[An];exact jrd (pg:=pg) (q:=lyQ Rs[j]) (b:=j) ha (D6 hjk.1) hk q
theorem cN3 {δ:Sl} {n:Int} {S:DSpN} {w w' w'':DT} {Q:List Aa->Int->Prop} (k:w δ n λx n1=>w' δ n1 λy n2=>w'' δ n2 λz n3=>S [x,y,z] n3 Q):jck S (jaa w (jaa w' (jaa w'' aNil))) δ n Q:=k
section
variable {δ:Sl} {n:Int} {Q:DQ}
theorem ixL1 {a b:Aa} {r:List Aa} (k:Q (.d b) n):gIxL (.d (.tuple (a::b::r))) (.d (.int 1)) n Q:=g1_i (a:=a) (b:=b) (r:=r) k
theorem jyi {Rs:List Rw} {i j x m:Nat} (e1:δ[i]?=some (some (.w (.d (.list ((A1 m).map (lifD Rs))))))) (e2:δ[j]?=some (some (.w (.d (.int (x:Nat)))))) (hx:x < m) (k:Q (.d (lifD Rs x)) n):w2 (wVar i) (wVar j) gIxL δ n Q :=
 w2_i (jab e1 (jab e2 (show gIx _ _ _ _ from jr2 (by rw[A0,List.getElem?_range hx];rfl) k)))
theorem jn0 {Rs:List Rw} {i j x m:Nat} (e1:δ[i]?=some (some (.w (.d (.list ((A1 m).map (lifD Rs))))))) (e2:δ[j]?=some (some (.w (.d (.int (x:Nat)))))) (hx:x < m) (k:Q (.d (natD (jam Rs x))) n):w2 (w2 (wVar i) (wVar j) gIxL) (wC (.int (0))) gIxL δ n Q :=
 w2_i (jyi e1 e2 hx (c_i (ixL0 k)))
theorem jr7 {Rs:List Rw} {i j x m:Nat} (e1:δ[i]?=some (some (.w (.d (.list ((A1 m).map (lifD Rs))))))) (e2:δ[j]?=some (some (.w (.d (.int (x:Nat)))))) (hx:x < m) (k:Q (.d (natD (jan Rs x))) n):w2 (w2 (wVar i) (wVar j) gIxL) (wC (.int (1))) gIxL δ n Q :=
 w2_i (jyi e1 e2 hx (c_i (ixL1 k)))
end
theorem j47 {Rs:List Rw} {m k:Nat} (x:Nat) (hx:x < m) (n:Int) (Q':Bool->Int->Prop) (q:Q' (inL k (jam Rs x)) n) :
  cOr (cT (w2 (wOrN (w2 (w2 (wVar 1) (wVar 0) gIxL) (wC (.int (0))) gIxL) (wC (.int (0)))) (wVar 2) gLt)) (cT (w2 (w2 (w2 (wVar 1) (wVar 0) gIxL) (wC (.int (0))) gIxL) (wC .none) (gIsN false))) [some (.w (.d (.int (x:Nat)))),some (.w (.d (.list ((A1 m).map (lifD Rs))))),some (.w (.d (.int (k:Nat))))] n Q':=by
 cases e:jam Rs x with
 |none =>
  rw[e]at q;refine(show cT _ _ _ _ from ct_b (k:=decide ((0:Int) < (k:Nat))) (λQ q=>w2_i (jn0 rfl rfl hx (.inl ⟨by rw[e];rfl,c_i (jab rfl q)⟩))) ?_);refine ifb (λz=>q) λz=>?_;exact ct_b (k:=true) (λQ q=>w2_i (jn0 rfl rfl hx (c_i (jja (by rw[e];exact q))))) q
 |some j =>
  rw[e]at q;refine(show cT _ _ _ _ from ct_b (k:=decide ((j:Int) < (k:Nat))) (λQ q=>w2_i (jn0 rfl rfl hx (.inr ⟨(j:Nat),by rw[e];rfl,?_⟩))) ?_)
  ·by_cases z:(j:Int)=0
   ·rw[if_pos z];rw[z]at q;exact c_i (jab rfl q)
   ·rw[if_neg z,e];exact jab rfl q
  ·have ed:decide ((j:Int) < (k:Nat))=decide (j < k):=decide_eq_decide.mpr Int.ofNat_lt;have q:Q' (decide (j < k)) n:=q;rw[<-ed]at q;refine ifb (λz=>by rw[z]at q;exact q) λz=>?_;rw[z]at q;exact ct_b (k:=false) (λQ q=>w2_i (jn0 rfl rfl hx (c_i (jja (by rw[e];exact q))))) q
theorem j48 {Rs:List Rw} {m k:Nat} (x:Nat) (hx:x < m) (n:Int) (Q':Bool->Int->Prop) (q:Q' (inG k (jan Rs x)) n) :
  cOr (cT (w2 (w2 (w2 (wVar 1) (wVar 0) gIxL) (wC (.int (1))) gIxL) (wC .none) (gIsN false))) (cT (w2 (w2 (w2 (wVar 1) (wVar 0) gIxL) (wC (.int (1))) gIxL) (wVar 2) gGe)) [some (.w (.d (.int (x:Nat)))),some (.w (.d (.list ((A1 m).map (lifD Rs))))),some (.w (.d (.int (k:Nat))))] n Q':=by
 cases e:jan Rs x with
 |none =>
  rw[e]at q;exact jpb (λQ q=>ct_b (k:=true) (λQ q=>w2_i (jr7 rfl rfl hx (c_i (jja (by rw[e];exact q))))) q) q
 |some j =>
  rw[e]at q;refine jfi (λQ q=>ct_b (k:=false) (λQ q=>w2_i (jr7 rfl rfl hx (c_i (jja (by rw[e];exact q))))) q) (ct_b (k:=decide ((k:Int)<=(j:Nat))) (λQ q=>w2_i (jr7 rfl rfl hx (by rw[e];exact jab rfl q))) ?_);have q:Q' (!decide (j < k)) n:=q;have ed:(!decide (j < k))=decide ((k:Int)<=(j:Nat)):=by
   by_cases z:j < k
   ·rw[decide_eq_true z,decide_eq_false (by omega)];rfl
   ·rw[decide_eq_false z,decide_eq_true (by omega)];rfl
  rw[ed]at q;exact q
theorem jc9:∀ws n Q,ju9 ws n Q->ws.length=5:=λws n Q h=>by obtain⟨_,_,_,_,_,_,_,_,rfl,_⟩:=h;rfl
theorem jcu:∀ws n Q,ju9 ws n Q->jb0 (jat ["_law_plan_here","_law_log_here","_law_due","_law_stand","_law_k","_law_many","_law_numbers","_law_notes_here","_law_turn","_law_found"] ws) n {nx:=λ_ n=>Q (.d .none) n,rt:=Q}:=λws n Q h=>by
 obtain⟨pg,hg,ns0,ns,Rs,nu,fr,k,rfl,ok,hk,st,sm,q⟩:=h;obtain⟨nsF,nuF,frF,stF⟩:=ok.st;have h30:=ok.le;have h12:=ok.l0;have I:=jcm st;have hfr:frO ns0 Rs<=ns0.length+Rs.length:=jyb;obtain⟨enu,elt⟩:=j1e stF st;have hnu:∀x∈nu,x < frO ns0 Rs:=λx hx=>by
  rw[enu]at hx;exact Br.mp (Bu.mp (Bu.mp hx).1).1
 have lnu:nu.length<=frO ns0 Rs:=by
  rw[enu];exact A4 (Cq _ _) (A4 (Cq _ _) (by rw[Bx];exact Al _))
 have smn:Small (.list (intL nu)):=jds nu (by omega) λx hx=>by have:=hnu x hx;omega
 show jb0 [some (.w (.d (.tuple [pg,nsD ns0]))),some (.w (.d (.list (Rs.map rwD)))),some (.w (.d (.list ((A1 (frO ns0 Rs)).map (lifD Rs))))),some (.w (.d (.tuple [hg,nsD ns]))),some (.w (.d (.int k))),none,none,none,none,none] n _;refine jae (jar (x:=.int (ns0.length:Nat)) (λQ q=>b1_i (w2_i (jab rfl (c_i (ixL1 (b:=nsD ns0) ?_))))) ?_)
 ·show Q (.d (.int ((ns0.map ntD).length:Nat))) n;rw[Ab];exact q
 dsimp only[An];refine jae (jar (x:=.list (intL ((A1 (frO ns0 Rs)).filter λx=>inL k (jam Rs x)))) (λQ q=>of_i ?_) ?_)
 ·unfold ja0 jak;refine b1_i (jab rfl (Aj ⟨by omega,by rw[Ab,Bx];omega⟩ ?_));rw[Bp,Ab,Bx,jiw];exact jd5 (rest:=[some (.w (.d (.list ((A1 (frO ns0 Rs)).map (lifD Rs))))),some (.w (.d (.int (k:Nat))))]) (λj:Nat=>.int j) (λj:Nat=>.int j) (λx=>inL k (jam Rs x)) (A1 (frO ns0 Rs)) [] none n (λx hx n Q' q=>j47 x (Br.mp hx) n Q' q) (λx hx n Q' q=>jab rfl q) q
 dsimp only[An];refine jae (jar (x:=.list (intL nu)) (λQ q=>of_i (jeo (λQ q=>jab rfl q) ?_)) ?_)
 ·rw[enu]at q;exact jd5 (rest:=[some (.w (.d (.list ((A1 (frO ns0 Rs)).map (lifD Rs))))),some (.w (.d (.int (k:Nat))))]) (λj:Nat=>.int j) (λj:Nat=>.int j) (λx=>inG k (jan Rs x)) ((A1 (frO ns0 Rs)).filter λx=>inL k (jam Rs x)) [] none n (λx hx n Q' q=>j48 x (Br.mp (Bu.mp hx).1) n Q' q) (λx hx n Q' q=>jab rfl q) q
 dsimp only[An];refine jae (jar (x:=nsD ns) (λQ q=>b1_i (of_i (jeo (λQ q=>jab rfl q) ?_))) ?_)
 ·refine jd5 (rest:=[some (.w (.d (.list ((A1 (frO ns0 Rs)).map (lifD Rs))))),some (.w (.d (.int (k:Nat)))),some (.w (.d (.list (Rs.map rwD)))),some (.w (.d (.tuple [pg,nsD ns0])))]) (λj:Nat=>.int j) (λx=>ntD (beh ns0 (Rs.take k) x)) (λ_=>true) nu [] none n (λx hx n Q' q=>q) (λx hx n Q' q=>?_) ?_
  ·exact c5_i (jab rfl (jab rfl (jyi rfl rfl (hnu x hx) (jab rfl (jab rfl ⟨pg,natD (jan Rs x),ns0,Rs,x,k,by rw[elt x hx];rfl,ok,hk,by rw[<-I.efr];exact(I.lt hx).1,q⟩)))))
  ·rw[Dv.mpr λ_ _=>rfl,Bi];have e:nu.map (λx=>ntD (beh ns0 (Rs.take k) x))=ns.map ntD:=by rw[I.ens,Ct];rfl
   rw[e];exact je0 q
 dsimp only[An];refine jae (if_n (λQ q=>ct_b (k:=false) (λQ q=>w2_i (b1_i (jab rfl (Aj sm (b1_i (w2_i (jab rfl (c_i (ixL1 (b:=nsD ns) (Aj sm (ji1 q))))))))))) q) ?_);dsimp only[jap];refine jae (jr3 2 rfl (by decide) ?_);refine jaz (λds δ m=>m=n/\∃x8 x9:Option SV,δ=[some (.w (.d (.tuple [pg,nsD ns0]))),some (.w (.d (.list (Rs.map rwD)))),some (.w (.d (.list ((A1 (frO ns0 Rs)).map (lifD Rs))))),some (.w (.d (.tuple [hg,nsD ns]))),some (.w (.d (.int k))),some (.w (.d (.int (ns0.length:Nat)))),some (.w (.d (.list (intL nu)))),some (.w (.d (nsD ns))),x8,x9]) (λδ m J=>?_) (λd t δ m N J kN=>?_) _ _ _ ⟨rfl,none,none,rfl⟩
 ·obtain⟨rfl,x8,x9,rfl⟩:=J;dsimp only;exact ja2 (c_i q)
 ·obtain⟨rfl,x8,x9,rfl⟩:=J;dsimp only[jac,An];refine jae (show sOwn 9 _ _ _ _ from cN3 (jab rfl (jab rfl (jab rfl ⟨ns0,ns,Rs,nu,fr,k,rfl,ok,hk,st,?_⟩))));dsimp only[An];refine jae (if_n (λQ q=>jfi (λQ q=>jh9 (k:=true) (λQ q=>ct_b (k:=true) (λQ q=>show jpu _ _ _ _ from jda rfl ⟨intL nu,rfl,q⟩) q) q) (ct_b (k:=false) (λQ q=>w2_i (b1_i (jda rfl (Aj smn (b1_i (jab rfl (jnb smn (ji1 q)))))))) q)) ?_);dsimp only[jap];refine jhs rfl (λQ q=>c_i q) (by rw[jce];omega) ?_;dsimp only[An];exact kN _ _ ⟨rfl,_,_,rfl⟩
theorem j2c (ns0:List Nt) (Rs:List Rw):((ns0.length:Nat):Int)+((((Rs.filter λr=>(lyR r).isSome).map rwD).length:Nat):Int)=((frO ns0 Rs:Nat):Int):=by
 rw[Ab];unfold frO;omega
theorem jzu {Rs:List Rw} (h:Rs.length<=30) {m:Nat} (hm:m<=42):Small (.list ((A1 m).map (lifD Rs))):=by
 have key:∀o:Option Nat,(∀j,o=some j->j<=99)->Sm 0 20 (natD o):=λo ho=>by
  cases o with
  |none=>exact jqd
  |some j=>exact jdt (ho j rfl)
 refine(jqe (k:=1) (w:=100) (m:=100) (λd hd=>?_) (by rw[Ab,Bx];omega)).small (by decide) (by decide);obtain⟨i,_,rfl⟩:=Bf.mp hd;refine(jj7 (key _ λj e=>?_) (key _ λj e=>?_)).up (by decide) (by decide)
 ·have:=jrm e;omega
 ·have:=(B1.mp e).1;omega
theorem nts2:okLg [([],.none),([],.none)] []:=⟨⟨_,_,_,.nil⟩,by decide,by decide,λq hq=>.inl (by
 simp only[Ar,Ax,or_false]at hq;rcases hq with rfl | rfl<;>rfl)⟩
theorem nts0:okLg [] []:=⟨⟨_,_,_,.nil⟩,by decide,by decide,λq hq=>nomatch hq⟩
theorem jxw (r:Rw):jaf "lays" (.str r.hd)=(lyR r).isSome:=by
 rcases j1d r with⟨h1,x,a,t,h2,h3⟩ | ⟨h1,h2⟩
 ·rw[h1,h3];rfl
 ·rw[h1,h2];rfl
theorem eq01 {n:Int}:gXX (λd e=>some (D1 d e)) (.d (.list (intL [0,1]))) (.d (.list [.int 0,.int 1])) n (λw _=>w=.d (.bool true)):=by
 have sm:=jds [0,1] (by decide) (λj hj=>by simp at hj;omega);exact⟨sm.1,sm.1,sm.2.1,sm.2.1,true,by simp[D1,PyData.eqvAll,intL],rfl⟩
theorem j1i {ds:List Aa} {n:Int} {Q:DQ} (k:Q (.d (.int ds.length)) n):jbp [.d (.list ds)] n Q:=k
theorem j3f {x0 x1 x2 x3 x4 x5 x7 x8 x9 x10 x11:Option SV} {S:List Sd} {k:Nat} {z:Sd} {n:Int} {Q:DQ} (hz:S[k]?=some z) (q:Q (.d (sdD z)) n):w2 (wVar 6) (wVar 12) gIxL [x0,x1,x2,x3,x4,x5,some (.w (.d (.list (S.map sdD)))),x7,x8,x9,x10,x11,some (.w (.d (.int (k:Nat))))] n Q :=
 w2_i (jab rfl (jab rfl (show gIx _ _ _ _ from jr2 (by rw[A0,hz];rfl) q)))
theorem j36 {δ:Sl} {n:Int} {Q:List Aa->Int->Prop} (k:Q [.int 0,.int 1] n):fLst (jaa (wC (.int (0))) (jaa (wC (.int (1))) aNil)) δ n Q:=Aj (show 2<=1000 by decide) k
abbrev Za:List Str:=["_law_script","_law_tape_here","_law_plan_here","_law_many","_law_k","_law_movers_here","_law_stands","_law_log_here","_law_kept","_law_due","_law_turn","_law_found","_law_at"]
theorem ju0:jwm (none::some (.w .tp)::A9 (List.length Za - 2) none) 0 jgb:=by
 show jwm [none,some (.w .tp),none,none,none,none,none,none,none,none,none,none,none] 0 jgb;refine jae (show sSet 2 _ _ _ _ from c1_i (jab rfl (Aj rfl ⟨by decide,λps ns0 n0 hp hf okn0 hn0=>?_⟩)));dsimp only[An];refine jae (jar (x:=.int (ns0.length:Nat)) (λQ q=>b1_i (w2_i (jab rfl (c_i (ixL1 (b:=nsD ns0) ?_))))) ?_)
 ·show Q (.d (.int ((ns0.map ntD).length:Nat))) _;rw[Ab];exact q
 dsimp only[An];refine jae (jr3 3 rfl (by decide) ?_);refine jaz (λds δ n=>(∃x4 x5 x6 x7 x8 x9 x10 x11 x12:Option SV,δ=[none,some (.w .tp),some (.w (.d (.tuple [pgD ps,nsD ns0]))),some (.w (.d (.int (ns0.length:Nat)))),x4,x5,x6,x7,x8,x9,x10,x11,x12])/\n+70*(ds.length:Int)<=9000) (λδ n I=>?_) (λd' t δ n N I kN=>?_) _ _ _ ⟨⟨_,_,_,_,_,_,_,_,_,rfl⟩,by rw[ja4];omega⟩
 ·obtain⟨⟨x4,x5,x6,x7,x8,x9,x10,x11,x12,rfl⟩,hn⟩:=I;dsimp only;refine ja2 (show wAnd _ _ _ _ _ from w2_i (of_i (cN2 (jb6 (c_i ⟨[],[],rfl,nts0,jb6 ?_⟩)))));show(w2 (wOf (jck jev (jaa (wOf (fLst aNil)) (jaa (wC (.int (2))) (jaa (wC (.int (0))) aNil))))) (wOf (fLst (jaa (wC (.int (0))) (jaa (wC (.int (1))) aNil)))) (gXX λd e=>some (D1 d e))) _ _ _;exact w2_i (of_i (cN3 (jb6 (c_i (c_i ⟨[([],.none),([],.none)],_,[],_,_,0,rfl,nts2,Al _,.nil,of_i (j36 eq01)⟩)))))
 ·obtain⟨⟨x4,x5,x6,x7,x8,x9,x10,x11,x12,rfl⟩,hn⟩:=I;rw[Ao]at hn;dsimp only[jac,An];have okh:=j12 hp hf;refine jae (show sUnp _ _ _ _ _ from c4_i (jab rfl (w2_i (jab rfl (c_i (ixL0 (c1_i (jab rfl ⟨ps,ns0,rfl,hp.1,c_i ⟨ps,(hs0 ps,ns0),rfl,hp,okh,okn0,by omega,λL S n1 W hL hn1=>⟨rfl,?_⟩⟩⟩))))))));dsimp only[jaj,ja3,jac,An];obtain⟨R,okR⟩:=j3v hp okh okn0 hL W;have smR:=jqb okR;obtain⟨Rs,rfl,lRs,ok,hst⟩:=jxx okR W;have h30:=ok.le;have h12:=ok.l0;have hfr:frO ns0 Rs<=ns0.length+Rs.length:=jyb;have smD:Small (.list ((A1 (frO ns0 Rs)).map (lifD Rs))):=jzu h30 (by omega);refine jae (jar (x:=.list (Rs.map rwD)) (λQ q=>c2_i (jab rfl (jab rfl ⟨ps,ns0,L,_,rfl,okR,q⟩))) ?_);dsimp only[An];refine jae (jar (x:=.str (E2 (.list (Rs.map rwD)))) (λQ q=>b1_i (jab rfl (jnb smR q))) ?_);dsimp only[An];refine jae (jar (x:=.list ((A1 (frO ns0 Rs)).map (lifD Rs))) (λQ q=>of_i ?_) ?_)
  ·unfold ja0 jak;refine w2_i (jab rfl (b1_i (of_i (jeo (λQ q=>jab rfl q) ?_))));refine jd5 (rest:=[]) rwD rwD (λr=>(lyR r).isSome) Rs [] none n1 (λr hr n Q' q=>ct_b (k:=(lyR r).isSome) (λQ q=>w2_i (w2_i (jab rfl (c_i (ixL0 (a:=.str r.hd) (r:=r.tl) (c_i (j2e (by rw[jxw];exact q)))))))) q) (λr hr n Q' q=>jab rfl q) ?_;rw[Bi];refine j1i (addI ?_);rw[j2c];refine Aj ⟨by omega,by omega⟩ ?_;rw[Bp,jiw];refine jd5 (rest:=[some (.w (.d (.list (Rs.map rwD))))]) (λj:Nat=>.int j) (lifD Rs) (λ_=>true) (A1 (frO ns0 Rs)) [] none n1 (λx hx n Q' q=>q) (λx hx n Q' q=>c2_i (jab rfl (jab rfl ⟨ns0,Rs,x,rfl,ok,q⟩))) ?_;rw[Dv.mpr λ_ _=>rfl,Bi];exact q
  dsimp only[An];refine jae (jr3 2 rfl (by decide) ?_);refine jaz (λds δ m=>m=n1/\∃x10 x11:Option SV,δ=[none,some (.w .tp),some (.w (.d (.tuple [pgD ps,nsD ns0]))),some (.w (.d (.int (ns0.length:Nat)))),some (.w (.d d')),some (.w (.d (.list (intL L)))),some (.w (.d (.list (S.map sdD)))),some (.w (.d (.list (Rs.map rwD)))),some (.w (.d (.str (E2 (.list (Rs.map rwD)))))),some (.w (.d (.list ((A1 (frO ns0 Rs)).map (lifD Rs))))),x10,x11,x12]) (λδ m J=>?_) (λd t' δ m N' J kN'=>?_) _ _ _ ⟨rfl,_,_,rfl⟩
  ·obtain⟨rfl,x10,x11,rfl⟩:=J;dsimp only;refine jae ?_;unfold sFor jcl;refine jwq (c_i (jkp rfl (drw (m:=(L.length:Int)+1) rfl (λQ q=>w2_i (jkp rfl (c_i (addI (by rw[Ab,lRs];exact q))))) (by omega) (by omega) (by omega) λr1 a0 a1=>drw (m:=(L.length:Int)+1) rfl (λQ q=>w2_i (jkp rfl (c_i (addI (by rw[Ab,lRs];exact q))))) (by omega) (by omega) (by omega) λr2 b0 b1=>Aj (show 4<=1000 by decide) ?_)));refine jaz (λds δ m'=>m'=m+1+1/\(∀d∈ds,∃k:Nat,k<=L.length/\d=.int (k:Nat))/\∃x12:Option SV,δ=[none,some (.w .tp),some (.w (.d (.tuple [pgD ps,nsD ns0]))),some (.w (.d (.int (ns0.length:Nat)))),some (.w (.d d')),some (.w (.d (.list (intL L)))),some (.w (.d (.list (S.map sdD)))),some (.w (.d (.list (Rs.map rwD)))),some (.w (.d (.str (E2 (.list (Rs.map rwD)))))),some (.w (.d (.list ((A1 (frO ns0 Rs)).map (lifD Rs))))),x10,x11,x12]) (λδ m' J=>?_) (λd t' δ m' N' J kN'=>?_) _ _ _ ⟨rfl,λd hd=>?_,_,rfl⟩
   ·obtain⟨rfl,_,x12,rfl⟩:=J;dsimp only;refine if_n (λQ q=>ct_b (k:=false) (λQ q=>w2_i (b1_i (jab rfl (jnb smR (jab rfl (ji1 q)))))) q) ?_;dsimp only[jap];exact kN _ _ ⟨⟨_,_,_,_,_,_,_,_,_,rfl⟩,by omega⟩
   ·obtain⟨rfl,hd,x12,rfl⟩:=J;dsimp only[jac,An];obtain⟨k,hk,rfl⟩:=hd d Ay;obtain⟨z,nu,fr,hz,st⟩:=hst k hk;have okz:=(W.ok k z hz).2;have smz:Small (nsD z.2):=(jhx (k:=2) (w:=170) (m:=101) (λd hd=>by
     obtain⟨q,hq,rfl⟩:=Bf.mp hd;exact jqc (okz.2 q hq)) (by rw[Ab];have:=okz.1;omega)).small (by decide) (by decide)
    refine if_n (λQ q=>jh9 (k:=true) (λQ q=>ct_b (k:=true) (λQ q=>c5_i (jab rfl (jab rfl (jab rfl (j3f hz ?_))))) q) q) ?_
    ·exact jab rfl ⟨pgD ps,.tuple (z.1.map hnD),ns0,z.2,Rs,nu,fr,k,rfl,ok,by rw[lRs];exact hk,st,smz,q⟩
    dsimp only[jap];exact kN' _ _ ⟨rfl,λx hx=>hd x (Az _ hx),_,rfl⟩
   ·simp only[Ar,Ax,or_false]at hd;rcases hd with rfl | rfl | rfl | rfl
    ·exact⟨0,Bn _,rfl⟩
    ·exact⟨Rs.length,by rw[lRs];exact Al _,by rw[Ab]⟩
    ·obtain⟨r,rfl⟩:=E5 a0;exact⟨r,by omega,rfl⟩
    ·obtain⟨r,rfl⟩:=E5 b0;exact⟨r,by omega,rfl⟩
  ·obtain⟨rfl,x10,x11,rfl⟩:=J;dsimp only[jac,An];refine jae (show sOwn 11 _ _ _ _ from cN2 (jab rfl (jab rfl ⟨ns0,Rs,rfl,ok,?_⟩)));dsimp only[An];refine jae (if_n (λQ q=>jfi (λQ q=>jh9 (k:=true) (λQ q=>ct_b (k:=true) (λQ q=>show jpu _ _ _ _ from jda rfl ⟨_,rfl,q⟩) q) q) (ct_b (k:=false) (λQ q=>w2_i (b1_i (jda rfl (Aj smD (b1_i (jab rfl (jnb smD (ji1 q)))))))) q)) ?_);dsimp only[jap];refine jgt rfl (ja8 (c_i (c_i (Aj (show 2<=1000 by decide) (Aj ?_ ?_)))))
   ·rw[Ab,Bx];omega
   ·dsimp only[An];exact kN' _ _ ⟨rfl,_,_,rfl⟩
def top (i:Nat):Stmt:=PySem.Challenge.pw_noteboard_k31_lives_and_what_lies.main.body.getD i (.Pass ⟨0,0,0,0⟩)
abbrev jl0:Stmt:=top 5
abbrev jl1:Stmt:=top 6
abbrev jti:Stmt:=top 33
abbrev jz4:Stmt:=jl0
abbrev jz6:Stmt:=jl1
end Nb
namespace Nb
open PySem L2
section
variable {P:Bg} {w:Bw} {K:Ah} {mg:Str->Option Ai} {base:Heap}
abbrev Zb:List Str:=["_law_script"]
theorem jzx:FnScope Zb Zb (jal jz4):=⟨rfl,rfl,rfl,by decide +kernel,rfl,by decide +kernel,by decide +kernel⟩
theorem jxs {f:Addr} {fd:Ce} (F:Fun K "_law_tape" "_law_tape" jz4 f fd):FnOk P w K mg base CX0 1 f fd Zb (jj5 K):=by
 refine F.ok jzx (λvs H Q E h=>?_) (λcdv A outer s H vs Q E hr h=>?_)
 ·obtain⟨a,ns,rfl,_⟩:=h;rfl
 ·obtain⟨a,ns,rfl,hS,hl,k⟩:=h;refine⟨_,jeg (jh1 (jq0 (jaq (jiz jqg (pv 0) jqy (jqx jaw)) (jaq jaw (jaq jaw (jaq (jq0 (jaq jng (jaq jng (jaq jng (jaq jaw (jaq jaw (jaq jaw (jaq jaw jbc)))))))) jbc)))))),?_⟩;refine⟨_,rfl,_,rfl,a,_,rfl,hS,λp hp=>⟨small (by simp),λg hg=>⟨small (by simp),λq hq=>?_⟩⟩⟩;rw[j46 (by rw[Ab];exact hl)]at hg hq ⊢;have hgp:g≠p:=λz=>by rw[z,jah]at hg;cases hg
  have hg0:H g=none:=by rw[jag hgp]at hg;exact hg
  have hqg:q≠g:=λz=>by rw[z,jah]at hq;cases hq
  rw[jag hqg]at hq;have hqp:q≠p:=λz=>by rw[z,jah]at hq;cases hq
  have hq0:H q=none:=by rw[jag hqp]at hq;exact hq
  refine k q ⟨p,g⟩ _ ⟨⟨0,0,jah,Int.le_refl _,Int.le_refl _⟩,by rw[jag hqp.symm,jag hgp.symm,jah],hl,(λz=>by rw[jag hqg.symm,jah];rfl),hqg.symm⟩ λb o e=>?_;rw[jag (jad e hq0),jag (jad e hg0),jag (jad e hp)];exact e
abbrev Zf:List Str:=["_law_tape_here","_law_many"]
theorem scDraw:FnScope ["_law_tape_here","_law_many","_law_found","_law_spot","_law_cell","_law_mixed"] Zf (jal jz6):=⟨rfl,rfl,rfl,by decide +kernel,rfl,by decide +kernel,by decide +kernel⟩
theorem jui {R:Prop} {G:Int->Prop} (use:(∀c,G c)->R) (fin:∀c,G c):R:=use fin
theorem j4d {R G:Prop} (use:G->R) (fin:G):R:=use fin
theorem jxt {f:Addr} {fd:Ce} (F:Fun K "_law_draw" "_law_draw" jz6 f fd) (zl:mg "len"=none):FnOk P w K mg base CX0 1 f fd Zf jvi:=by
 refine F.ok scDraw (λvs H Q E h=>?_) (λcdv A outer s H vs Q E hr h=>?_)
 ·obtain⟨t,l,ns,n,many,rfl,_⟩:=h;rfl
 ·obtain⟨t,l,ns,n,many,rfl,T,hn,hm0,hm1,k⟩:=h;obtain⟨a,b,ht,ha0,ha1⟩:=T.ob;have ntl:=T.ne;have hl:=T.ls;have hlen:=T.len;refine⟨_,ja9 (jto (jef op_gt (jeh ix_list (pv 0) jaw (λ_ _=>rfl)) jaw (jke _))
    (ja9 (jdv (i:=2) scDraw.nd rfl (Da rfl) (jbq jdx (jeh ix_list (pv 0) jaw (λ_ _=>rfl)) (pv 1)))
     (ja9 (jkb (jbq jra (jeh ix_list (pv 0) jaw (λ_ _=>rfl)) (pv 1)) (jnf (pv 0) jaw jfm))
     (jeg (jh1 (pv 2))))) jix)
   (ja9 (jdv (i:=3) scDraw.nd rfl (Da rfl) (jeh ix_list (pv 0) jaw (λ_ _=>rfl)))
   (ja9 (jkb (jbq op_add (pv 3) jaw) (jnf (pv 0) jaw jfm))
   (ja9 (jdv (i:=4) scDraw.nd rfl (Da rfl) jaw)
   (ja9 (jto (jef op_gt (jcc jby (by rfl) zl PySem.boot_len (jaq (jeh ix_list (pv 0) jaw (λ_ _=>rfl)) jbc)) jaw (jke _))
    (jeg (jdv (i:=4) scDraw.nd rfl (Da rfl) (jeh ix_list (jeh ix_list (pv 0) jaw (λ_ _=>rfl))
     (jbq jdx (pv 3) (jcc jby (by rfl) zl PySem.boot_len (jaq (jeh ix_list (pv 0) jaw (λ_ _=>rfl)) jbc))) (λ_ _=>rfl)))) jix)
   (ja9 (jto (PW.pt (jvu (jef op_ge (pv 4) (jbq j0y jaw jaw) (jke _))
     (jqt (jef op_lt (pv 3) (jcc jby (by rfl) zl PySem.boot_len (jaq (jeh ix_list (pv 0) jaw (λ_ _=>rfl)) jbc)) (jke _)))))
    (ja9 (jkb (jbq jra (pv 4) (pv 1)) (jnf (pv 0) jaw jfm)) (jeg (jh1 (jbq jdx (pv 4) (pv 1))))) jix)
   (ja9 (jdv (i:=5) scDraw.nd rfl (Da rfl) (jbq jdx (jbq jh3 (jbq op_add (jbq op_add (jbq jdx (pv 4) jaw) (jbq jh3 (jbq jh3 jaw (pv 3)) (pv 3))) jaw) jaw) jaw))
   (jeg (jh1 (jbq jdx (jbq jdx (jbq jh3 (jbq jdx (jbq op_add (jbq jh3 (pv 5) jaw) (jbq jh3 (pv 3) jaw)) jaw) jaw) jaw) (pv 1)))))))))),?_⟩
  -- tape[2] > 0
  refine⟨_,rfl,t,_,2,_,rfl,rfl,SqL.of ht,ja5 (j:=2) rfl,_,_,rfl,rfl,_,rfl,?_⟩;refine ite2 (λ_=>?_) (λ_=>?_)
  ·-- found=tape[2] % many;tape[2]=tape[2] // many;return found
   refine⟨_,rfl,t,_,2,_,rfl,rfl,SqL.of ht,ja5 (j:=2) rfl,_,rfl,_,_,rfl,rfl,hm0,?_⟩;refine⟨_,rfl,t,_,2,_,rfl,rfl,SqL.of ht,ja5 (j:=2) rfl,_,rfl,_,_,rfl,rfl,⟨hm0,hm1⟩,?_⟩;refine⟨_,rfl,t,_,2,2,rfl,rfl,ht,rfl,?_⟩;refine⟨_,rfl,?_⟩;refine k _ _ (Int.emod_nonneg _ (by omega)) (Fz _ hm0) ⟨⟨a,b / many,jah,ha0,by omega⟩,by rw[jag ntl.symm];exact hl,hlen,(λz=>by rw[jag T.gne];exact T.ag z),T.gne⟩ Kp.tape
  ·-- spot=tape[1];tape[1]=spot+1;cell=0
   refine⟨_,rfl,t,_,1,_,rfl,rfl,SqL.of ht,ja5 (j:=1) rfl,?_⟩;refine⟨_,rfl,_,_,rfl,rfl,_,rfl,t,_,1,1,rfl,rfl,ht,rfl,?_⟩;have ht1:∀o,upd H t o t=some o:=λo=>jah;have hl1:∀o,upd H t o l.s=some (.lst (ns.map V.int)):=λo=>by rw[jag ntl.symm];exact hl
   generalize hH1:upd H t (.lst (((.ref l.s::.int a::.int b::exOf l:List V)).set 1 (.int (a+1))))=H1;have g1:H1 t=some (.lst (.ref l.s::.int (a+1)::.int b::exOf l)):=by rw[<-hH1];exact jah
   have g2:H1 l.s=some (.lst (ns.map V.int)):=by rw[<-hH1];exact hl1 _
   have g3:Kp t H H1:=by rw[<-hH1];exact Kp.tape
   have g4:jpy=true->H1 l.g=some (.lst ju5):=λz=>by rw[<-hH1,jag T.gne];exact T.ag z
   refine⟨_,rfl,t,_,0,_,rfl,rfl,SqL.of g1,ja5 (j:=0) rfl,l.s,_,rfl,.inl (SqL.of g2),_,_,rfl,rfl,_,rfl,?_⟩;apply jui
   case use =>
    intro fin;refine ite2 (λhp=>?_) (λ_=>?_)
    ·have hpos:(0:Int) < ((ns.map V.int).length:Int):=of_decide_eq_true hp;obtain⟨v,hv,hm⟩:=jyw (xs:=ns.map V.int) (r:=a % ((ns.map V.int).length:Int)) (Int.emod_nonneg _ (by omega)) (Fz _ hpos);obtain⟨c,_,rfl⟩:=Bf.mp hm;refine⟨_,rfl,t,_,0,_,rfl,rfl,SqL.of g1,ja5 (j:=0) rfl,_,rfl,_,rfl,t,_,0,_,rfl,rfl,SqL.of g1,ja5 (j:=0) rfl,l.s,_,rfl,.inl (SqL.of g2),_,_,rfl,rfl,hpos,l.s,_,_,.int c,rfl,rfl,SqL.of g2,hv,?_⟩;exact fin c
    ·exact fin 0
   case fin =>
    intro c;refine⟨_,rfl,_,_,rfl,rfl,⟨by decide,by decide,by decide⟩,_,_,rfl,rfl,_,rfl,?_⟩;apply j4d
    case use =>
     intro fin;refine ite2 (λ_=>?_) (λ_=>?_)
     ·refine⟨_,rfl,_,rfl,t,_,0,_,rfl,rfl,SqL.of g1,ja5 (j:=0) rfl,l.s,_,rfl,.inl (SqL.of g2),_,_,rfl,rfl,_,rfl,?_⟩;refine ite2 (λ_=>?_) (λ_=>fin);refine⟨_,rfl,_,rfl,_,_,rfl,rfl,⟨hm0,hm1⟩,_,rfl,t,_,2,2,rfl,rfl,g1,rfl,_,rfl,_,rfl,_,_,rfl,rfl,hm0,?_⟩;exact k _ _ (Int.emod_nonneg _ (by omega)) (Fz _ hm0) ⟨⟨a+1,_,jah,by omega,by omega⟩,by rw[jag ntl.symm];exact g2,hlen,(λz=>by rw[jag T.gne];exact g4 z),T.gne⟩ (g3.trans Kp.tape)
     ·exact iteF fin
    case fin =>
     refine⟨_,rfl,_,_,rfl,rfl,(by show(0:Int) < 999331;decide),_,rfl,_,_,rfl,rfl,.inl ⟨by decide,by decide⟩,_,rfl,_,_,rfl,rfl,.inl ⟨by omega,by omega⟩,_,_,rfl,rfl,_,_,rfl,rfl,_,_,rfl,rfl,.inr ⟨by decide,by decide⟩,_,_,rfl,rfl,(by show(0:Int) < 999961;decide),?_⟩;refine⟨_,rfl,_,_,rfl,rfl,.inr ⟨by decide,by decide⟩,_,rfl,_,_,rfl,rfl,.inr ⟨by decide,by decide⟩,_,_,rfl,rfl,_,_,rfl,rfl,(by show(0:Int) < 999953;decide),_,_,rfl,rfl,.inr ⟨by decide,by decide⟩,_,_,rfl,rfl,(by show(0:Int) < 524287;decide),_,rfl,_,_,rfl,rfl,hm0,?_⟩;exact k _ _ (Int.emod_nonneg _ (by omega)) (Fz _ hm0) ⟨⟨a+1,b,g1,by omega,by omega⟩,g2,hlen,g4,T.gne⟩ g3
end
end Nb
namespace Nb
open PySem L2 DL
theorem ls1 {α:Type} {us:List α} (h:us.length=1):∃a,us=[a]:=match us,h with | [a],_=>⟨a,rfl⟩
theorem ls2 {α:Type} {us:List α} (h:us.length=2):∃a b,us=[a,b]:=match us,h with | [a,b],_=>⟨a,b,rfl⟩
theorem ls3 {α:Type} {us:List α} (h:us.length=3):∃a b c,us=[a,b,c]:=match us,h with | [a,b,c],_=>⟨a,b,c,rfl⟩
theorem ls4 {α:Type} {us:List α} (h:us.length=4):∃a b c d,us=[a,b,c,d]:=match us,h with | [a,b,c,d],_=>⟨a,b,c,d,rfl⟩
theorem ls5 {α:Type} {us:List α} (h:us.length=5):∃a b c d e,us=[a,b,c,d,e]:=match us,h with | [a,b,c,d,e],_=>⟨a,b,c,d,e,rfl⟩
theorem scM {N ps:List Str} {S:D9} (h1:S.kind=.function:=by rfl) (h2:S.isCoroutine=false:=by rfl) (h3:S.isGenerator=false:=by rfl) (h4:N.Nodup:=by decide +kernel) (h5:N.take ps.length=ps:=by rfl) (h6:∀x∈ps,S.names.lookup x=some .local\/S.names.lookup x=some .cell:=by decide +kernel) (h7:∀y∈S.names,y.2≠.free:=by decide +kernel):FnScope N ps S:=⟨h1,h2,h3,h4,h5,h6,h7⟩
theorem d_cA {X:Cx} {e:Expr} {es:List Expr} {pos p:Pos} {tR:TA} {wR:DTA} {k k':Nat} {ps:List Str} {S:DSp} {x:Str} (h:Has X.prog X.w X.K X.mg X.base k x ps S) (hr:Room k' X.A) (ha:DA X (e::es) tR wR) (hk:k<=k') (hg:Gl X x) (hdb:(x==("__debug__":Str))=false) (he:Au (e::es) X.env=(false,eval e X.env)::Au es X.env) (hpl:(C8 pos (Au es X.env)).any (·.1)=false):DE X (.Call (.Name x p) (e::es) [] pos) (jhe (spOf S) [] E0 tR) (jai S wR):=jyn h (hr.mono hk) hg ha hdb he hpl
theorem f_cA {X:Cx} {e:Expr} {es:List Expr} {pos p:Pos} {tR:TA} {wR:DTA} {k k':Nat} {ps:List Str} {S:DSpN} {x:Str} (h:HasN X.prog X.w X.K X.mg X.base k x ps S) (hr:Room k' X.A) (ha:DA X (e::es) tR wR) (hk:k<=k') (hg:Gl X x) (hdb:(x==("__debug__":Str))=false) (he:Au (e::es) X.env=(false,eval e X.env)::Au es X.env) (hpl:(C8 pos (Au es X.env)).any (·.1)=false):DF X (.Call (.Name x p) (e::es) [] pos) (jhe (jov S) [] E0 tR) (jck S wR):=jyh h (hr.mono hk) hg ha hdb he hpl
def isL:NameKind->Bool
 |.local=>true
 |_=>false
def isF:NameKind->Bool
 |.free=>true
 |_=>false
def cFr (sc:D9):List Str:=(sc.names.filter λy=>isF y.2).map (·.1)
def cN (sc:D9):List Str:=((sc.names.drop 1).filter λy=>isL y.2).map (·.1)++cFr sc
def cCl (sc:D9) (cells:List (Str×Addr)):List (Str×Addr):=(cFr sc).reverse.map λx=>(x,(cells.lookup x).getD 0)
def cRl (sc:D9):List (Str×NameKind):=sc.names.map λy=>(y.1,bif isF y.2 then .cell else y.2)
inductive Frs (X:Cx) (sc:D9):List (Option Nat)->List Str->Prop
 |nil:Frs X sc [] []
 |own {f:List (Option Nat)} {x:Str} {N:List Str} (h:Frs X sc f N):Frs X sc (none::f) (x::N)
 |free {f:List (Option Nat)} {x:Str} {N:List Str} {i:Nat} (h1:X.N[i]?=some x) (h2:Vis X.env.scope x) (h3:X.env.kindOf x=some .cell\/X.env.kindOf x=some .free) (h4:(cRl sc).lookup x=some .cell\/(cRl sc).lookup x=some .free) (h5:(cCl sc X.env.cells).lookup x=X.env.cells.lookup x) (h:Frs X sc f N):Frs X sc (some i::f) (x::N)
theorem Frs.len {X:Cx} {sc:D9} {f:List (Option Nat)} {N:List Str} (h:Frs X sc f N):f.length=N.length:=by
 induction h with
 |nil=>rfl
 |own _ ih=>rw[Ao,Ao,ih]
 |free _ _ _ _ _ _ ih=>rw[Ao,Ao,ih]
theorem j5a {X:Cx} {sc:D9} {f:List (Option Nat)} (h1:closureFor sc X.env=pure (cCl sc X.env.cells)) (h2:sc.kind=.function) (h3:∀y∈sc.names,y.2≠.cell) (h4:∀y∈sc.names,y.2=.local->sc.names.lookup y.1=some .local) (h5:((cFr sc).all λx=>(X.env.cells.lookup x).isSome)=true) (h6:(relabel sc X.env).names=cRl sc) (h7:∀y∈cRl sc,(y.2=.cell\/y.2=.free)->y.1∈(cFr sc).reverse) (h8:Frs X sc f (cN sc)):CompSc X (cN sc) sc (cCl sc X.env.cells) f:=by
 refine⟨h1,h2,h3,h4,jo2 λy hy=>?_,juv _ _ h6 (show(cCl sc X.env.cells).map (·.1)=(cFr sc).reverse by unfold cCl;rw[Ct];exact List.map_id' _) h7,h8.len,?_⟩
 ·obtain⟨x,hx,rfl⟩:=Bf.mp hy;obtain⟨c,hc⟩:=C3.mp (Fh.mp h5 x (List.mem_reverse.mp hx));show X.env.cells.lookup x=some ((X.env.cells.lookup x).getD 0);rw[hc];rfl
 ·intro j i h;rw[h6];clear h1 h2 h3 h4 h5 h6 h7;generalize cN sc=N at h8 ⊢
  induction h8 generalizing j with
  |nil=>cases h
  |own _ ih=>cases j with
   |zero=>cases h
   |succ j=>exact ih j h
  |free a b c d e _ ih=>cases j with
   |zero=>cases h;exact⟨_,rfl,a,b,c,d,e⟩
   |succ j=>exact ih j h
theorem gFr {X:Cx} {sc:D9} {f:List (Option Nat)} {N:List Str} (h:Frs X sc f N):Frs X sc f N:=h
theorem kC {X:Cx} {N:List Str} {sc:D9} {cl:List (Str×Addr)} {s:Am} {H:Hp} {fp:List Addr} {K:Ah} (h:X.K=K):(jay X N sc cl s H fp).K=K:=h
theorem nC {X:Cx} {N:List Str} {sc:D9} {cl:List (Str×Addr)} {s:Am} {H:Hp} {fp:List Addr} (h:N.Nodup):(jay X N sc cl s H fp).N.Nodup:=h
def zL:List Str:=["dict","enumerate","isinstance","len","list","range","repr","sorted","str","tuple","zip"]
theorem zU {mg:Str->Option Ai} {x:Str} (z:∀x∈zL,mg x=none) (h:x∈zL):mg x=none:=z x h
theorem jsr:Bv "sorted"=some (.builtin "sorted"):=by decide +kernel
section
variable {P:Bg} {w:Bw} {K:Ah} {mg:Str->Option Ai} {base:Heap} {fa:Addr} {fd:Ce}
theorem gDE {X:Cx} {e:Expr} {t:TE} {w:DT} (h:DE X e t w):DE X e t w:=h
theorem gDA {X:Cx} {e:List Expr} {t:TA} {w:DTA} (h:DA X e t w):DA X e t w:=h
theorem gDS {X:Cx} {e:Stmt} {t:TS} {w:DST} (h:DS X e t w):DS X e t w:=h
theorem gDSs {X:Cx} {e:List Stmt} {t:TS} {w:DST} (h:DSs X e t w):DSs X e t w:=h
theorem gDC {X:Cx} {e:Expr} {t:TT} {w:DTT} (h:DC X e t w):DC X e t w:=h
theorem gDF {X:Cx} {e:Expr} {t:TE} {w:DTF} (h:DF X e t w):DF X e t w:=h
theorem gDI {X:Cx} {g e:Expr} {t:TI} {w:DTI} (h:DI X g e t w):DI X g e t w:=h
theorem j3r {X:Cx} {b rest:List Stmt} {st:Stmt} {T:TS} {W:DST} (e:b=st::rest) (h:DSs X (st::rest) T W):DSs X b T W:=e▸h
theorem bnd {x:Str} {st:Stmt} {ps:List Str} (F:Fun K x x st fa fd) (h:∀(kV doc pm:Ai) (an:Option Addr) (cdv ct:Ai) (us:List Ai),us.length=ps.length->bindArgs (Ee x x (jdo st) (jbe st) (jal st) .none kV doc pm an cdv ct) ⟨us,[]⟩=pure (ps.zip us):=by
 intro _ _ _ _ _ _ us hl
 first
  |obtain⟨_,rfl⟩:=ls1 hl;rfl
  |obtain⟨_,_,rfl⟩:=ls2 hl;rfl
  |obtain⟨_,_,_,rfl⟩:=ls3 hl;rfl
  |obtain⟨_,_,_,_,rfl⟩:=ls4 hl;rfl
  |obtain⟨_,_,_,_,_,rfl⟩:=ls5 hl;rfl):Binds K fd ps []:=F.binds h
def Bnd (x:Str) (st:Stmt) (ps:List Str):Prop:=∀{K:Ah} {fa:Addr} {fd:Ce},Fun K x x st fa fd->Binds K fd ps []
def Wire (P:Bg) (w:Bw) (K:Ah) (mg:Str->Option Ai) (base:Heap) (k:Nat) (x:Str) (i:Nat) (fa:Addr) (N:List Str) (b:List Stmt) (W:DST):Prop:=N.Nodup->∀(cdv:Ai) (A:Cb) (outer:List Env) (s:Am) (H:Hp) (E:XK),Room k (A.deeper (Dm x (jal (top i)) s.heap.objs.size fa cdv))->∃T,DSs (cxOf CX0 P w K mg base N x (jal (top i)) fa cdv A outer s H E).nox b T W
theorem auD {k:Nat} {x:Str} {i:Nat} {N:List Str} {b:List Stmt} {W:DST} (h:N.Nodup->∀(cdv:Ai) (A:Cb) (outer:List Env) (s:Am) (H:Hp) (E:XK),Room k (A.deeper (Dm x (jal (top i)) s.heap.objs.size fa cdv))->∃T,DSs (cxOf CX0 P w K mg base N x (jal (top i)) fa cdv A outer s H E).nox b T W:=by
 intro nd cdv A outer s H E hr;apply D3;apply j3r (by exact rfl)
 repeat' first
  |with_reducible first | exact jyv | exact jss | exact PySem.boot_len | exact jgp | exact PyProof.Rows.boot_range | exact jyu | exact jsr | exact j21 | exact juz
  |with_reducible first | apply Room.units | apply Room.units0 | apply Room.hd | apply Room.gd
  |exact rfl
  |exact Da rfl
  |exact Cc (Da rfl)
  |exact Cc (Cc rfl)
  |exact Cc rfl
  | (with_reducible apply gDE;with_reducible first | apply j4n | apply j41 | apply d_cA | apply j4r | apply j4o | apply j4z | apply j4y | apply j4x | apply j4u | apply jmi (jlc ?_) jtd ?_ ?_ ?_ ?_ ?_ ?_ ?_ ?_ | apply jmi (jlc ?_) jm4 ?_ ?_ ?_ ?_ ?_ ?_ ?_ ?_ | apply j2l | apply j2r | apply jyl | apply d_bl | apply jn3 (jgo ?_) jow ?_ ?_ ?_ ?_ ?_ ?_ ?_ ?_ | apply jmi (jpc ?_ ?_ ?_) jp4 ?_ ?_ ?_ ?_ ?_ ?_ ?_ ?_ | apply jn3 (jgo ?_) jhu ?_ ?_ ?_ ?_ ?_ ?_ ?_ ?_ | apply j4q | apply j2k | apply j2o | apply j2s | apply jyj | apply j4v | apply jsf (jnj ?_ ?_) jly | apply jur | apply j43 | apply jym | apply j4p | apply j2n | apply j44 | apply j2m | apply j42 | apply jyk | apply d_or | apply j4w | apply j2q | apply j4s | apply jsf (jf1 ?_) jfz | apply jsf jq5 jm3 | apply jsf (jnj ?_ ?_) jp9 | apply jsf (j03 ?_ ?_) jvj | apply j4t | apply DF.d)
  | (with_reducible apply gDA;with_reducible first | apply j29 | apply j5h)
  | ((with_reducible apply gDS);first | ((with_reducible apply jzy);case hx=>exact rfl) | ((with_reducible apply jz2);case hx=>exact rfl) | with_reducible first | apply j3i | apply j3j | apply s_if | apply j3q | apply j3p | apply j3l | apply j3h | apply jzz | apply j3k | apply jz1 | apply jz0)
  | (with_reducible apply gDSs;with_reducible first | apply j3o | apply jz3 | apply j3n | apply j3m)
  | ((with_reducible apply gDC);first | (with_reducible apply DCW.cc;with_reducible first | apply cw_and | apply cw_or) | with_reducible first | apply jeq (jnj ?_ ?_) jly | apply jeq (jnj ?_ ?_) jp9 | apply jeq j31 jzl | apply jeq j00 jzm | apply j5e | apply jeq jvz jp7 | apply jeq jvz jw2 | apply jeq j01 jzn | apply jeq (jv0 ?_) jfz | apply jeq (jf1 ?_) jw3 | apply jeq (jf1 ?_) jfz | apply jeq (j0z ?_ ?_) jvj | apply jyt | apply jeq jq5 jm3 | apply jeq j02 jzo | apply j5d)
  | (with_reducible apply gDF;with_reducible first | apply j4h | apply jr5 | apply f_cA | apply j4g | apply jyf | apply jul | apply jmf | apply j4i | apply jyg)
  | (with_reducible apply gDI;with_reducible first | apply jue | apply jx5 | apply j39 | apply j1z | apply jx4)
  |with_reducible first | apply j17 | apply jx7 | apply jl6 | apply j16 | apply j15 | apply j1w | apply cw_or | apply cw_or1 | apply j05 | apply cw_and | apply cw_and1 | apply j06 | apply j1x | apply jxv | apply jv7 | apply j5a
  |assumption
  |with_reducible first | apply kC | apply nC
  | ((with_reducible apply gFr);first | apply Frs.nil | apply Frs.own | apply Frs.free)
  |exact jke _
  |exact λ_ _=>rfl
  |exact λ_=>rfl
  |exact zU (by assumption) (by decide +kernel)
  |exact PassesOwn.never
  |exact⟨rfl,rfl,rfl,rfl⟩
  |with_unfolding_all rfl
  |decide
  |decide +kernel
  |exact Cc (Cc (Da rfl))
  |exact Cc (Cc (Cc (Da rfl)))
  |exact Cc (Cc (Cc (Cc rfl)))
  |intro(_:Am) _ _
  |exact(0:Int)):Wire P w K mg base k x i fa N b W:=h
theorem hasD {i p:Nat} {N:List Str} {S:DSp} {W:DST} (k:Nat) (x:Str) (F:Fun K x x (top i) fa fd/\mg x=some (.ref fa)) (len:∀ws n Q,S ws n Q->ws.length=p) (body:∀ws n Q,S ws n Q->W (jat N ws) n {nx:=λ_ n=>Q (.d .none) n,rt:=Q}) (hp:(N.take p).length=p:=by rfl) (Sc:FnScope N (N.take p) (jal (top i)):=by exact scM) (b:Bnd x (top i) (N.take p):=by intro _ _ _ F;exact bnd F)
  (h:Wire P w K mg base k x i fa N (jbe (top i)) W:=by exact auD):Has P w K mg base (k+1) x (N.take p) S :=
 Has.mk' F.1 F.2 (b F.1) (Fun.okD F.1 Sc (λws n Q q=>by rw[hp];exact len ws n Q q) λcdv A outer s H E hr=>(h Sc.nd cdv A outer s H E hr).elim λT d=>⟨T,W,d,body⟩)
theorem hasE {i p:Nat} {N:List Str} {S:DSpN} {W:DST} (k:Nat) (x:Str) (F:Fun K x x (top i) fa fd/\mg x=some (.ref fa)) (len:∀ws n Q,S ws n Q->ws.length=p) (body:∀ws n Q,S ws n Q->W (jat N ws) n {nx:=λ_ _=>False,rt:=λ_ _=>False,rn:=Q}) (hp:(N.take p).length=p:=by rfl) (Sc:FnScope N (N.take p) (jal (top i)):=by exact scM) (b:Bnd x (top i) (N.take p):=by intro _ _ _ F;exact bnd F)
  (h:Wire P w K mg base k x i fa N (jbe (top i)) W:=by exact auD):HasN P w K mg base (k+1) x (N.take p) S :=
 HasN.mk' F.1 F.2 (b F.1) (Fun.okN F.1 Sc (λws n Q q=>by rw[hp];exact len ws n Q q) λcdv A outer s H E hr=>(h Sc.nd cdv A outer s H E hr).elim λT d=>⟨T,W,d,body⟩)
theorem okL {fT:Addr} {fdT:Ce} {i:Nat} {N:List Str} {W:DST} {s0:Stmt} {rest:List Stmt} (k:Nat) (F:Fun K "law" "law" (top i) fa fd) (GT:FnOk P w K mg base CX0 1 fT fdT Zb (jj5 K)) (bT:Binds K fdT Zb []) (mT:mg "_law_tape"=some (.ref fT)) (kT:Cf K (.ref fT)=true) (hW:W (none::some (.w .tp)::A9 (N.length - 2) none) 0 jgb) (e:jbe (top i)=s0::rest) (h0:N.Nodup->∀(cdv:Ai) (A:Cb) (outer:List Env) (s:Am) (H:Hp) (E:XK),Room k (A.deeper (Dm "law" (jal (top i)) s.heap.objs.size fa cdv))->PS (cxOf CX0 P w K mg base N "law" (jal (top i)) fa cdv A outer s H E).nox s0 (tAsg (jhe (jj5 K) [] E0 (jbu (tVar 0) tNil)) (jem 1))) (hN:∀v,start N [v]=some v::none::A9 (N.length - 2) none:=by intro _;rfl) (Sc:FnScope N Zb (jal (top i)):=by exact scM)
  (h:Wire P w K mg base k "law" i fa N rest W:=by exact auD):FnOk P w K mg base CX0 (k+1) fa fd Zb (DL.spLaw K) :=
 j1j F Sc GT bT mT kT hN hW λcdv A outer s H E hr=>(h Sc.nd cdv A outer s H E hr).elim λT d=>⟨s0,rest,T,e,h0 Sc.nd cdv A outer s H E hr,d⟩
end
abbrev oT (t:String) (d:Data):Obj:=⟨.type t,none,d,#[]⟩
structure Ds where
 i:Nat
 x:Str
 t:Nat
 l:Nat
 n:Nat
 r:Nat
 b:Bool
 v:Nat
 m:Nat
abbrev Ds.c (d:Ds):Nat:=if d.b then d.r+5 else d.r+3
abbrev Ds.f (d:Ds):Nat:=if d.b then d.r+6 else d.r+4
abbrev mOd (m:Nat):Ai:=[(.str "noteboard.logs" 187),(.str "law_noteboard_k31_lives_and_what_lies" 215)].getD m .none
abbrev fdO (d:Ds):Ce:=Ee d.x d.x (jdo (top d.i)) (jbe (top d.i)) (jal (top d.i)) .none .none .none (mOd d.m) none (.ref d.c) .none
abbrev oF (d:Ds):Obj:=oT "function" (.func (fdO d))
abbrev oC (d:Ds):Obj:=oT "code" (.fields #[.str d.x d.t,.str d.x (d.t+1),.str "/claim/cut.py" (d.t+2),.int d.l 0,.int d.n 0,.int 0 0,.int 0 0,.int 3 0,.ref d.r,.bool true,.int 181 0,.ref (d.r+1),.none,if d.b then .ref (d.r+2)else .none,if d.b then .ref (d.r+3)else .none,.ref (if d.b then d.r+4 else d.r+2),.int d.v 0,.int d.l 0,.str "/claim/cut.py" (d.v+1)])
abbrev eN (P:Params) (x:Str) (t:Nat) (v:Ai):DictEntry:=⟨PyData.keyHash P x,.str x t,v⟩
abbrev en (P:Params) (d:Ds):DictEntry:=eN P d.x (d.v+2) (.ref d.f)
def dL:List Ds:=[⟨1,"went_by",189,2,1,15,true,193,0⟩,⟨2,"lives",196,6,2,22,true,206,0⟩,⟨3,"lying",209,16,3,29,false,212,0⟩,⟨5,"_law_tape",217,19,1,34,true,221,1⟩,⟨6,"_law_draw",224,21,2,41,true,233,1⟩,⟨7,"_law_value",236,36,1,48,true,240,1⟩,⟨8,"_law_size",243,38,1,55,true,247,1⟩,⟨9,"_law_age",250,40,1,62,true,254,1⟩,⟨10,"_law_pattern",257,42,2,69,true,268,1⟩,⟨11,"_law_template",271,59,2,76,true,279,1⟩,⟨12,"_law_term",282,68,2,83,true,287,1⟩,⟨13,"_law_act",290,72,3,90,true,300,1⟩,⟨14,"_law_program",303,85,1,97,false,306,1⟩,⟨15,"_law_notes",309,102,2,102,false,312,1⟩,⟨16,"_law_plan",315,108,1,107,false,318,1⟩,⟨17,"_law_fit",321,113,3,112,true,333,1⟩,⟨18,"_law_next_act",336,133,3,119,true,346,1⟩,⟨19,"_law_got",349,137,3,126,true,358,1⟩,⟨20,"_law_can",361,146,3,133,true,368,1⟩,⟨21,"_law_filled",371,151,2,140,true,380,1⟩,⟨22,"_law_to_block",383,159,3,147,false,386,1⟩,⟨23,"_law_of_term",389,162,2,152,true,394,1⟩,⟨24,"_law_move",397,164,3,159,false,400,1⟩,⟨25,"_law_movers",403,186,2,164,false,406,1⟩,⟨26,"_law_walk",409,188,4,169,true,420,1⟩,⟨27,"_law_first",423,198,1,176,false,426,1⟩,⟨28,"_law_row",429,200,5,181,false,432,1⟩,⟨29,"_law_log",435,215,2,186,true,448,1⟩,⟨30,"_law_life",451,226,2,193,false,454,1⟩,⟨31,"_law_note_behind",457,231,5,198,false,460,1⟩,⟨32,"_law_lying_right",463,240,5,203,false,466,1⟩,⟨33,"law",469,253,1,208,false,472,1⟩]
def KK (P:Params):Ah:=let e:=eN P
 (3,oT "dict" (.dict ([e "__name__" 165 (.str "law_noteboard_k31_lives_and_what_lies" 215),e "__doc__" 166 .none,e "__package__" 167 .none,e "__loader__" 168 (.builtin "__main__.__loader__#opaque"),e "__spec__" 169 .none,e "__annotations__" 170 (.ref 6),e "__builtins__" 171 (.ref 4),e "__file__" 173 (.str "/claim/cut.py" 172),e "__cached__" 174 .none]++((dL.drop 0).take 32).map (en P)).toArray 41))::(dL.flatMap λd=>[(d.c,oC d),(d.f,oF d)])++[]
def aS:List Addr:=3::(dL.flatMap λd=>[d.c,d.f])++[]
abbrev pp:Bg:=PySem.Challenge.pw_noteboard_k31_lives_and_what_lies
abbrev qq:Bg:=PySem.W.view pp [33]
def lO:List Str:=(["went_by","lives","lying","_law_tape","_law_draw","_law_value","_law_size","_law_age","_law_pattern","_law_template","_law_term","_law_act","_law_program","_law_notes","_law_plan","_law_fit","_law_next_act","_law_got","_law_can","_law_filled","_law_to_block","_law_of_term","_law_move","_law_movers","_law_walk","_law_first","_law_row","_law_log","_law_life","_law_note_behind","_law_lying_right"]:List String).map Di
abbrev xT:Am->Bool:=λs=>PySem.W.xlAt qq [] s&&PySem.W.recOk (PySem.W.RowW.records PySem.Challenge.rw_noteboard_k31_lives_and_what_lies.row.toRowW) s
theorem aK:∀P,aS=(KK P).map (·.1):=λP=>by kernel_rfl
abbrev hK:PySem.W.Hook:=PySem.W.kHook KK aS aK
theorem left_:PySem.W.LeftO pp qq lO xT hK.obs hK.val 3000:=λw=>by kernel_rfl
def j2i (s:Stmt):Pos:=match s with
 |.FunctionDef _ _ _ _ _ _ _ _ _ p=>p
 |_=>⟨0,0,0,0⟩
def dW:DefRec:=⟨"law",jdo jti,jbe jti,jal jti,j2i jti⟩
theorem said_:PySem.Challenge.rw_noteboard_k31_lives_and_what_lies.wellSaid=true:=by kernel_rfl
theorem fnE (P:Params):(dL.map λd=>(PySem.W.nsIn (KK P) C2 d.x,(KK P).lookup d.f,PySem.W.codeIn (KK P) (.ref d.c) d.x))=dL.map λd=>(some (some (.ref d.f)),some (oF d),true):=by kernel_rfl
theorem jv5 {α β:Type} {f g:α->β} {l:List α} (h:l.map f=l.map g) {j:Nat} {a:α} (e:l[j]?=some a):f a=g a:=by
 have:=congrArg (λl=>l[j]?) h;simp only[A0,e,Option.map_some]at this;exact A6 this
theorem zE (P:Params):(zL.map λx=>PySem.W.nsIn (KK P) C2 x)=zL.map λ_=>some none:=by kernel_rfl
section
variable {P:Params} {h:Heap} {mg:Str->Option Ai} (X:(KK P).In h) (G:h.Ns C2 mg)
include X G
theorem fnK (j:Nat) (d:Ds) (e:dL[j]?=some d):(Fun (KK P) d.x d.x (top d.i) d.f (fdO d)/\mg d.x=some (.ref d.f))/\Cf (KK P) (.ref d.f)=true:=by
 have q:=jv5 (fnE P) e;obtain⟨q1,q2⟩:=Prod.mk.inj q;obtain⟨q2,q3⟩:=Prod.mk.inj q2;have k:Cf (KK P) (.ref d.f)=true:=by
  unfold Cf;simp only[q2]
 exact⟨⟨j2a q2 q3 k,PySem.W.mg_of X G q1⟩,k⟩
theorem zK (x:Str) (h:x∈zL):mg x=none:=by
 obtain⟨j,e⟩:=Cp.mp h;exact PySem.W.mg_none_of X G (jv5 (zE P) e)
end
abbrev pR:Bg:=PySem.W.OpenLaw.prog PySem.Challenge.rw_noteboard_k31_lives_and_what_lies
structure Cv where
 P:Bg
 w:Bw
 K:Ah
 mg:Str->Option Ai
 base:Heap
abbrev jav (c:Cv):Prop:=Has c.P c.w c.K c.mg c.base 1 "_law_draw" Zf jas
abbrev jlk (c:Cv):Prop:=Has c.P c.w c.K c.mg c.base 1 "went_by" ["row"] jlj
abbrev jmr (c:Cv):Prop:=HasN c.P c.w c.K c.mg c.base 2 "lives" ["log","many"] jex
abbrev jmq (c:Cv):Prop:=HasN c.P c.w c.K c.mg c.base 3 "lying" ["log","many","k"] jev
abbrev jbn (c:Cv):Prop:=Has c.P c.w c.K c.mg c.base 2 "_law_value" Zc jec
abbrev jcg (c:Cv):Prop:=Has c.P c.w c.K c.mg c.base 2 "_law_size" Zc jg1
abbrev jey (c:Cv):Prop:=Has c.P c.w c.K c.mg c.base 2 "_law_age" Zc jpl
abbrev jdi (c:Cv):Prop:=Has c.P c.w c.K c.mg c.base 3 "_law_pattern" Zd joh
abbrev jc0 (c:Cv):Prop:=Has c.P c.w c.K c.mg c.base 3 "_law_template" Zd jof
abbrev jg8 (c:Cv):Prop:=Has c.P c.w c.K c.mg c.base 3 "_law_term" Zd jg3
abbrev jil (c:Cv):Prop:=Has c.P c.w c.K c.mg c.base 4 "_law_act" ["_law_tape_here","_law_known","_law_open_ones"] jig
abbrev jdh (c:Cv):Prop:=Has c.P c.w c.K c.mg c.base 5 "_law_program" Zc joc
abbrev je9 (c:Cv):Prop:=Has c.P c.w c.K c.mg c.base 3 "_law_notes" ["_law_tape_here","_law_most"] jg2
abbrev jg9 (c:Cv):Prop:=Has c.P c.w c.K c.mg c.base 6 "_law_plan" Zc jod
abbrev jij (c:Cv):Prop:=Has c.P c.w c.K c.mg c.base 1 "_law_fit" ["_law_pattern_here","_law_row_here","_law_names"] joj
abbrev Ze:List Str:=["_law_programs","_law_stand","_law_hand"]
abbrev ja7 (c:Cv):Prop:=Has c.P c.w c.K c.mg c.base 1 "_law_next_act" Ze jeb
abbrev jc7 (c:Cv):Prop:=Has c.P c.w c.K c.mg c.base 2 "_law_got" Ze jmo
abbrev jik (c:Cv):Prop:=Has c.P c.w c.K c.mg c.base 3 "_law_can" Ze jca
abbrev jch (c:Cv):Prop:=Has c.P c.w c.K c.mg c.base 1 "_law_filled" ["_law_template_here","_law_has"] jcy
abbrev jcz (c:Cv):Prop:=Has c.P c.w c.K c.mg c.base 1 "_law_to_block" ["_law_program_here","_law_names","_law_block"] je7
abbrev jdj (c:Cv):Prop:=Has c.P c.w c.K c.mg c.base 1 "_law_of_term" ["_law_term_here","_law_names"] jsy
abbrev jdp (c:Cv):Prop:=Has c.P c.w c.K c.mg c.base 3 "_law_move" ["_law_programs","_law_stand","_law_mover"] jew
abbrev jed (c:Cv):Prop:=HasN c.P c.w c.K c.mg c.base 4 "_law_movers" ["_law_programs","_law_stand"] jfr
abbrev jg7 (c:Cv):Prop:=Has c.P c.w c.K c.mg c.base 5 "_law_walk" ["_law_tape_here","_law_programs","_law_stand","_law_most"] job
abbrev jc1 (c:Cv):Prop:=Has c.P c.w c.K c.mg c.base 1 "_law_first" ["_law_plan_here"] jg4
abbrev jih (c:Cv):Prop:=Has c.P c.w c.K c.mg c.base 3 "_law_row" ["_law_programs","_law_stand","_law_numbers","_law_fresh","_law_mover"] jog
abbrev jii (c:Cv):Prop:=Has c.P c.w c.K c.mg c.base 4 "_law_log" ["_law_plan_here","_law_movers_here"] joi
abbrev jha (c:Cv):Prop:=Has c.P c.w c.K c.mg c.base 1 "_law_life" ["_law_log_here","_law_number"] jjv
abbrev jb1 (c:Cv):Prop:=Has c.P c.w c.K c.mg c.base 1 "_law_note_behind" ["_law_plan_here","_law_log_here","_law_life_here","_law_number","_law_k"] joe
abbrev jb2 (c:Cv):Prop:=Has c.P c.w c.K c.mg c.base 4 "_law_lying_right" ["_law_plan_here","_law_log_here","_law_due","_law_stand","_law_k"] ju9
section
variable {c:Cv} (F:∀(j:Nat) (d:Ds),dL[j]?=some d->(Fun c.K d.x d.x (top d.i) d.f (fdO d)/\c.mg d.x=some (.ref d.f))/\Cf c.K (.ref d.f)=true) (z:∀x∈zL,c.mg x=none)
include F z
theorem jlv:jav c:=Has.mk' (F 4 _ rfl).1.1 (F 4 _ rfl).1.2 (bnd (F 4 _ rfl).1.1) (juo (jxt (F 4 _ rfl).1.1 (zU z (by decide +kernel))))
theorem jpz:jlk c:=hasD (i:=1) 0 "went_by" (F 0 _ rfl).1 jl9 jld
theorem jwt (h0:jlk c):jmr c:=hasE (i:=2) 1 "lives" (F 1 _ rfl).1 jrl jpj
theorem jws (h0:jmr c):jmq c:=hasE (i:=3) 2 "lying" (F 2 _ rfl).1 jrk jpi
theorem jj1 (h0:jav c):jbn c:=hasD (i:=7) 1 "_law_value" (F 5 _ rfl).1 jhh jgq
theorem jlr (h0:jav c):jcg c:=hasD (i:=8) 1 "_law_size" (F 6 _ rfl).1 ji6 jho
theorem jot (h0:jav c):jey c:=hasD (i:=9) 1 "_law_age" (F 7 _ rfl).1 jkn jjr
theorem jhc (h0:jav c) (h1:jcg c) (h2:jbn c):jdi c:=hasD (i:=10) 2 "_law_pattern" (F 8 _ rfl).1 jfd jes
theorem jfx (h0:jav c) (h1:jcg c) (h2:jbn c):jc0 c:=hasD (i:=11) 2 "_law_template" (F 9 _ rfl).1 jej jd7
theorem jlq (h0:jav c) (h1:jbn c):jg8 c:=hasD (i:=12) 2 "_law_term" (F 10 _ rfl).1 ji5 jhn
theorem jou (h0:jey c) (h1:jav c) (h2:jdi c) (h3:jc0 c) (h4:jg8 c):jil c:=hasD (i:=13) 3 "_law_act" (F 11 _ rfl).1 jko jjs
theorem jhb (h0:jil c) (h1:jav c):jdh c:=hasD (i:=14) 4 "_law_program" (F 12 _ rfl).1 jfc jer
theorem jj2 (h0:jey c) (h1:jav c) (h2:jcg c) (h3:jbn c):je9 c:=hasD (i:=15) 2 "_law_notes" (F 13 _ rfl).1 jhi jgr
theorem jls (h0:jav c) (h1:je9 c) (h2:jdh c):jg9 c:=hasD (i:=16) 5 "_law_plan" (F 14 _ rfl).1 ji7 jhp
theorem jor:jij c:=hasD (i:=17) 0 "_law_fit" (F 15 _ rfl).1 jkl jjp
theorem jfy:ja7 c:=hasD (i:=18) 0 "_law_next_act" (F 16 _ rfl).1 jek jd8
theorem joq (h0:jij c) (h1:ja7 c):jc7 c:=hasD (i:=19) 1 "_law_got" (F 17 _ rfl).1 jkk jjo
theorem jos (h0:jc7 c) (h1:ja7 c):jik c:=hasD (i:=20) 2 "_law_can" (F 18 _ rfl).1 jkm jjq
theorem jis:jch c:=hasD (i:=21) 0 "_law_filled" (F 19 _ rfl).1 jga jfl
theorem jfw:jcz c:=hasD (i:=22) 0 "_law_to_block" (F 20 _ rfl).1 jei jd6
theorem jhd:jdj c:=hasD (i:=23) 0 "_law_of_term" (F 21 _ rfl).1 jfe jet
theorem jlt (h0:jch c) (h1:jc7 c) (h2:ja7 c) (h3:jdj c) (h4:jcz c):jdp c:=hasD (i:=24) 2 "_law_move" (F 22 _ rfl).1 ji8 jhq
theorem jir (h0:jik c):jed c:=hasE (i:=25) 3 "_law_movers" (F 23 _ rfl).1 jf9 jfk
theorem jlp (h0:jav c) (h1:jdp c) (h2:jed c):jg7 c:=hasD (i:=26) 4 "_law_walk" (F 24 _ rfl).1 ji4 jhm
theorem jj3:jc1 c:=hasD (i:=27) 0 "_law_first" (F 25 _ rfl).1 jhj jgs
theorem joo (h0:jch c) (h1:jc7 c) (h2:ja7 c):jih c:=hasD (i:=28) 2 "_law_row" (F 26 _ rfl).1 jki jjm
theorem jop (h0:jc1 c) (h1:jdp c) (h2:jih c):jii c:=hasD (i:=29) 3 "_law_log" (F 27 _ rfl).1 jkj jjn
theorem jlu:jha c:=hasD (i:=30) 0 "_law_life" (F 28 _ rfl).1 ji9 jhr
theorem jdq:jb1 c:=hasD (i:=31) 0 "_law_note_behind" (F 29 _ rfl).1 jc8 jct
theorem jdr (h0:jb1 c) (h1:jmq c):jb2 c:=hasD (i:=32) 3 "_law_lying_right" (F 30 _ rfl).1 jc9 jcu
theorem j3e (h0:jav c) (h1:jc1 c) (h2:jha c) (h3:jii c) (h4:jb2 c) (h5:jg9 c) (h6:jg7 c) (h7:jmr c) (h8:jmq c):FnOk c.P c.w c.K c.mg c.base CX0 7 (Ds.f ⟨33,"law",469,253,1,208,false,472,1⟩) (fdO ⟨33,"law",469,253,1,208,false,472,1⟩) Zb (DL.spLaw c.K):=by
 have bT:=bnd (ps:=Zb) (F 3 _ rfl).1.1;have GT:=jxs (P:=c.P) (w:=c.w) (mg:=c.mg) (base:=c.base) (F 3 _ rfl).1.1;exact okL (i:=33) (N:=Za) 6 (F 31 _ rfl).1.1 GT bT (F 3 _ rfl).1.2 (F 3 _ rfl).2 ju0 rfl λnd cdv A outer s H E hr=>jdv (i:=1) nd rfl (Da rfl) (jl5 GT (hr.mono (by decide)) rfl (F 3 _ rfl).1.2 (F 3 _ rfl).2 bT .nil jxn (jaq (pv 0) jbc))
end
theorem jyx (c:Cv) (F:∀(j:Nat) (d:Ds),dL[j]?=some d->(Fun c.K d.x d.x (top d.i) d.f (fdO d)/\c.mg d.x=some (.ref d.f))/\Cf c.K (.ref d.f)=true) (z:∀x∈zL,c.mg x=none):FnOk c.P c.w c.K c.mg c.base CX0 7 (Ds.f ⟨33,"law",469,253,1,208,false,472,1⟩) (fdO ⟨33,"law",469,253,1,208,false,472,1⟩) Zb (DL.spLaw c.K):=by
 have a__law_draw:=jlv F z;have a_went_by:=jpz F z;have a_lives:=jwt F z a_went_by;have a_lying:=jws F z a_lives;have a__law_value:=jj1 F z a__law_draw;have a__law_size:=jlr F z a__law_draw;have a__law_age:=jot F z a__law_draw;have a__law_pattern:=jhc F z a__law_draw a__law_size a__law_value;have a__law_template:=jfx F z a__law_draw a__law_size a__law_value;have a__law_term:=jlq F z a__law_draw a__law_value;have a__law_act:=jou F z a__law_age a__law_draw a__law_pattern a__law_template a__law_term;have a__law_program:=jhb F z a__law_act a__law_draw;have a__law_notes:=jj2 F z a__law_age a__law_draw a__law_size a__law_value;have a__law_plan:=jls F z a__law_draw a__law_notes a__law_program;have a__law_fit:=jor F z;have a__law_next_act:=jfy F z;have a__law_got:=joq F z a__law_fit a__law_next_act;have a__law_can:=jos F z a__law_got a__law_next_act;have a__law_filled:=jis F z;have a__law_to_block:=jfw F z;have a__law_of_term:=jhd F z;have a__law_move:=jlt F z a__law_filled a__law_got a__law_next_act a__law_of_term a__law_to_block;have a__law_movers:=jir F z a__law_can;have a__law_walk:=jlp F z a__law_draw a__law_move a__law_movers;have a__law_first:=jj3 F z;have a__law_row:=joo F z a__law_filled a__law_got a__law_next_act;have a__law_log:=jop F z a__law_first a__law_move a__law_row;have a__law_life:=jlu F z;have a__law_note_behind:=jdq F z;have a__law_lying_right:=jdr F z a__law_note_behind a_lying;exact j3e F z a__law_draw a__law_first a__law_life a__law_log a__law_lying_right a__law_plan a__law_walk a_lives a_lying
theorem all_K (w:Bw) (mg:Str->Option Ai) (fa:Addr) (h:Heap) (X:(KK w.params).In h) (G:h.Ns C2 mg) (hfa:mg "law"=some (.ref fa)) :
  ∃fd:Ce,(∀(s:Am) (u:Ai),BindsTo s fd ⟨[u],[]⟩ [("_law_script",u)])/\∀base:Heap,(KK w.params).In base->base.Ns C2 mg->FnOk pR w (KK w.params) mg base CX0 7 fa fd Zb (DL.spLaw (KK w.params)):=by
 have e:=hfa.symm.trans (fnK X G 31 ⟨33,"law",469,253,1,208,false,472,1⟩ rfl).1.2;cases e;exact⟨fdO ⟨33,"law",469,253,1,208,false,472,1⟩,λs v=>.of_eq rfl,λbase _ _=>jyx ⟨pR,w,KK w.params,mg,base⟩ (λj d e=>fnK X G j d e) (zK X G)⟩
theorem walk {l:PySem.W.OpenLaw} {q:Bg} {loose:List Str} {XP:(Str->Option Ai)->Heap->Prop} {YP:Bw->Heap->Prop} {d:DefRec} {K:Params->Ah} (hn:l.most=some 63) (hdf:d.params.defaults=[])
  (hY:∀(w:Bw) (h:Heap),YP w h->(K w.params).In h)
  (F:∀(w:Bw) (mg:Str->Option Ai) (fa:Addr) (h:Heap),(K w.params).In h->h.Ns C2 mg->mg d.name=some (.ref fa) ->
   ∃fd:Ce,(∀(s:Am) (u:Ai),BindsTo s fd ⟨[u],[]⟩ [("_law_script",u)])/\∀base:Heap,(K w.params).In base->base.Ns C2 mg->FnOk l.prog w (K w.params) mg base CX0 7 fa fd Zb (DL.spLaw (K w.params))) :
  PySem.W.WalkO q loose XP YP l.row.toRowW d [] (λf vs=>PySem.call f vs) :=
 L2.walk_of (n:=63) (k:=7) (x:="_law_script") (CX:=λ_=>CX0) (sp:=λw=>DL.spLaw (K w.params)) hn (by decide) hdf ⟨rfl,by decide,by decide,rfl⟩ hY F (λ_ _ a ns hl _ hS=>⟨a,ns,rfl,hS,hl,λ_=>rfl⟩) λ_ _ _ _ _ z=>z
end Nb
open PySem PySem.W PyProof.Rows
set_option maxRecDepth 100000 in
set_option maxHeartbeats 0 in
theorem PySem.Challenge.cw_noteboard_k31_lives_and_what_lies_holds : PySem.Challenge.rw_noteboard_k31_lives_and_what_lies.Holds := by
 refine holds_law Nb.said_ λsaid=>?_;refine holds_open (q:=Nb.qq) (loose:=Nb.lO) (Xt:=Nb.xT) (XP:=XL Nb.qq []) (Yf:=Hook.obs Nb.hK) (Ya:=Hook.val Nb.hK) (YP:=Hook.says Nb.hK) (d:=Nb.dW) (kwd:=[]) (N:=3000) Nb.left_ (Hook.of Nb.hK) (Hook.keeps Nb.hK) (λs e=>xl_of s (Bool.and_eq_true_iff.mp e).1) XL.keeps (by kernel_rfl) (by kernel_rfl) (by kernel_rfl) (λs e=>recFacts_of (Bool.and_eq_true_iff.mp e).2) (by kernel_rfl) said (by decide +kernel) ⟨rfl,rfl,rfl,rfl,rfl,by decide +kernel⟩ ?hw ?hc
 (case hw=>w_witness2)
 exact Nb.walk (l:=PySem.Challenge.rw_noteboard_k31_lives_and_what_lies) (by kernel_rfl) (by kernel_rfl) (λw h Y=>kIn_of Y) Nb.all_K
