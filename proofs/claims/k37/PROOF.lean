import PyProof.Rows.All
import Wide.All
import OpenK.AllK
import Wide.FinOn
import Lean
import PyProof.EqAt
import PyProof.EqKinds
import PyProof.TupleCall
import PyProof.AttrMissHeap
import PyProof.Rows.RegFStrParts
import PySem.Challenge.RW_noteboard_k37_sights_judged
set_option Elab.async false
set_option linter.all false
set_option maxRecDepth 100000
open PySem renaming PyData -> Aa, Value -> Ae, Shared -> Ah, wpAny_bind -> Aj, sizeLine -> An, wpAny_pure -> Ar, starEach -> Ay, compareOp -> A2, wpAny -> A5, model -> A8, bootBuiltins -> Bh, Program -> Bi, wpAny_truthy_bool -> Bt, World -> Bz, FuncData -> B5, wpAny_newObj_type -> B7, Around -> Ce, mainGlobals -> Cn, assignEach -> Co, foldedSetIterable -> Cy, binaryOp -> Cz, behindInMarks -> C2, Scope -> Dc, wpAny_passesOwn -> Df, backTo -> Di, mem_of_lookup -> Dk, wpAny_mono -> Dr, swapsWith -> Dt, wpAny_holding -> Dz, sliceBounds -> D0, wpAny_callSpecial?_slot -> D6
open PySem.W renaming Frag -> Ab, keepIn -> B3, kia_one -> B4, fnOf -> Dg, mg_of -> Dl
open And renaming intro -> Ad
open Bool renaming false_ne_true -> Af, and_eq_true -> Av, true_and -> Bo, or_false -> B6, false_eq_true -> C7, eq_iff_iff -> C8, false_or -> Da, or_eq_true_iff -> Dy
open List renaming length_map -> Ag, size_toArray -> Ai, length_cons -> Ak, length_append -> Al, getElem?_eq_getElem -> Am, replicate -> Ap, mem_cons -> Aq, set -> Aw, mem_singleton -> Ax, length_singleton -> Az, mem_append_right -> A0, not_mem_nil -> A1, map_cons -> A3, getElem?_cons_zero -> A4, mem_append -> A6, set_cons_zero -> A7, mem_cons_self -> Ba, getElem?_map -> Bb, getElem?_cons_succ -> Bd, map_nil -> Be, getElem?_eq_some_iff -> Bf, mem_cons_of_mem -> Bg, set_cons_succ -> Bp, map_append -> Bu, append_assoc -> Bw, getElem?_set_ne -> B8, mem_map -> Ca, replicate_succ -> Cc, length_set -> Cf, append_nil -> Cg, nil_append -> Cj, range -> Cr, mem_range -> Cs, flatten_cons -> Cw, length_take -> C0, getElem?_replicate -> C1, any_cons -> C9, mem_append_left -> Dh, all_eq_true -> Dj, getElem?_set_self' -> Dp, length_reverse -> Dw, filterMap_cons -> Dx, getElem?_append_left -> D4
open PySem.Heap renaming get?_push_of_some -> Ao, lt_size -> Au, get?_push_size -> Bn
open Nat renaming le_refl -> As, lt_of_lt_of_le -> Bc, ne_of_lt -> Bj, le_trans -> Bk, zero_le -> Bm, lt_irrefl -> De
open Option.some renaming inj -> A9
open PySem.Builtin.Slice renaming slicePlaces -> Bq, sliceAdjust -> B9, sliceApplied -> C6
open PySem.Builtin.Tuple renaming tupleExact -> Br, tupleItemsOf -> C5
open PyProof.Rows renaming slot_tuple_getitem -> Bv, envOfC -> Dd
open PySem.Value renaming ref -> Bx, none -> Du
open Or renaming inr -> By, inl -> Cq
open PySem.PyData renaming eqv -> B1, str -> Ci, canLay0 -> Cp, tuple -> C3, depth -> Dq
open Option renaming bind -> Cb, map -> Cu
open Int renaming toNat_natCast -> Ck, eq_ofNat_of_zero_le -> Cm, natCast_nonneg -> D2, emod_lt_of_pos -> D3
open PySem.Builtin.List renaming listTooLong -> Ct
open Exists renaming intro -> C4
open PySem.F renaming args_tuple_add_2 -> Dm, entry_tuple_add -> Dn, slot_tuple_add -> Do, plainAttrs_list -> D5
open Array renaming length_toList -> Dv
open PySem.Builtin.Str renaming occurrences -> D1
noncomputable section
namespace L2
open PySem PySem.Spec PyProof.Rows
abbrev Key:=Sum Int Str
def jxq:Key->Ae->Bool
 |.inl k,v=>Value.isInt k v
 |.inr x,v=>Value.isStrOf x v
def keyH (w:Bz):Key->Int
 |.inl k=>hashInt k
 |.inr x=>hashStr w x
theorem ja4:∀{k:Key} {v:Ae},jxq k v=true->(∃i t,k=Sum.inl i/\v=Value.int i t)\/(∃x t,k=Sum.inr x/\v=Value.str x t)
 |.inl i,v,h=>by
  obtain⟨t,e⟩:=Value.isInt_shape (k:=i) (v:=v) h;exact .inl ⟨i,t,rfl,e⟩
 |.inr x,v,h=>by
  obtain⟨t,e⟩:=Value.isStrOf_shape (x:=x) (v:=v) h;exact .inr ⟨x,t,rfl,e⟩
theorem jxp (a b:Int):decide ((Sum.inl a:Key)=Sum.inl b)=(a==b):=by
 by_cases e:a=b
 ·subst e;simp
 ·have h:¬(Sum.inl a:Key)=Sum.inl b:=λq=>e (Sum.inl.inj q);rw[decide_eq_false h];exact(beq_eq_false_iff_ne.mpr e).symm
theorem jxm (a b:Str):decide ((Sum.inr a:Key)=Sum.inr b)=decide (a=b):=by
 by_cases e:a=b
 ·subst e;simp
 ·have h:¬(Sum.inr a:Key)=Sum.inr b:=λq=>e (Sum.inr.inj q);rw[decide_eq_false h,decide_eq_false e]
theorem jxo (a:Int) (b:Str):decide ((Sum.inl a:Key)=Sum.inr b)=false:=decide_eq_false (λq=>nomatch q)
theorem jxn (a:Str) (b:Int):decide ((Sum.inr a:Key)=Sum.inl b)=false:=decide_eq_false (λq=>nomatch q)
def jl3 (prog:Bi) (w:Bz):PySem.KeyKind prog w Key where
 is:=jxq
 hash:=keyH w
 inj:=λv a b ha hb=>by
  rcases ja4 ha with⟨i,t,rfl,rfl⟩ | ⟨x,t,rfl,rfl⟩
  ·rcases ja4 hb with⟨j,u,rfl,e⟩ | ⟨y,u,rfl,e⟩
   ·injection e with e1 _;rw[e1]
   ·exact nomatch e
  ·rcases ja4 hb with⟨j,u,rfl,e⟩ | ⟨y,u,rfl,e⟩
   ·exact nomatch e
   ·injection e with e1 _;rw[e1]
 byValue:=λk v h=>by
  rcases ja4 h with⟨i,t,rfl,rfl⟩ | ⟨x,t,rfl,rfl⟩<;>rfl
 pyHash:=λhv h=>by
  rcases ja4 hv with⟨i,t,rfl,rfl⟩ | ⟨x,t,rfl,rfl⟩
  ·exact wpAny_pyHash_int h
  ·exact wpAny_pyHash_str h
 eqBool:=λhu hv h=>by
  rcases ja4 hu with⟨i,t,rfl,rfl⟩ | ⟨x,t,rfl,rfl⟩
  ·rcases ja4 hv with⟨j,u,rfl,rfl⟩ | ⟨y,u,rfl,rfl⟩
   ·rw[jxp]at h;exact wpAny_eqBool_int h
   ·rw[jxo]at h;exact SeqAt.EqAt.int_str i t y u _ _ _ _ h
  ·rcases ja4 hv with⟨j,u,rfl,rfl⟩ | ⟨y,u,rfl,rfl⟩
   ·rw[jxn]at h;exact SeqAt.EqAt.str_int x t j u _ _ _ _ h
   ·rw[jxm]at h;exact wpAny_eqBool_str h
 «strs»:=λk x t v h=>by
  rcases ja4 h with⟨i,u,rfl,e⟩ | ⟨y,u,rfl,e⟩
  ·exact nomatch e
  ·injection e with e1 _;subst e1;cases v<;>rfl
inductive V where
 |non | bl (b:Bool) | int (i:Int) | str (x:Str) | byt (b:Array UInt8) | flt (b:UInt64) | ref (a:Addr) | ty (n:String)
 deriving DecidableEq
def RelV:V->Ae->Prop
 |.non,u=>u=Du
 |.bl b,u=>u=Value.bool b
 |.int i,u=>∃t,u=Value.int i t
 |.str x,u=>∃t,u=Value.str x t
 |.byt b,u=>∃t,u=Value.bytes b t
 |.flt b,u=>∃t,u=Value.float b t
 |.ref a,u=>u=Bx a
 |.ty n,u=>u=Value.type n
abbrev Vals:List V->List Ae->Prop:=Paired RelV
theorem Vals.length {xs:List V} {us:List Ae} (r:Vals xs us):xs.length=us.length:=Paired.length r
theorem Vals.get:∀{xs:List V} {us:List Ae} {i:Nat} {x:V},Vals xs us->xs[i]?=some x->∃u,us[i]?=some u/\RelV x u
 |_,_,_,_,.nil,e=>by simp at e
 |_,_,0,_,.cons r _,e=>by simp at e;subst e;exact⟨_,rfl,r⟩
 |_,_,i+1,x,.cons _ t,e=>by
  obtain⟨u,h1,h2⟩:=Vals.get (i:=i) (x:=x) t (by simpa using e);exact⟨u,by simpa using h1,h2⟩
theorem Vals.set {x:V} {u:Ae} (r:RelV x u):∀{xs:List V} {us:List Ae} (i:Nat),Vals xs us->Vals (xs.set i x) (us.set i u)
 |_,_,_,.nil=>.nil
 |_,_,0,.cons _ t=>.cons r t
 |_,_,i+1,.cons q t=>.cons q (Vals.set r i t)
theorem Vals.append:∀{xs ys:List V} {us ws:List Ae},Vals xs us->Vals ys ws->Vals (xs++ys) (us++ws)
 |_,_,_,_,.nil,s=>s
 |_,_,_,_,.cons r t,s=>.cons r (Vals.append t s)
theorem Vals.take:∀{xs:List V} {us:List Ae} (n:Nat),Vals xs us->Vals (xs.take n) (us.take n)
 |_,_,0,_=>.nil
 |_,_,_+1,.nil=>.nil
 |_,_,n+1,.cons r t=>.cons r (Vals.take n t)
theorem Vals.drop:∀{xs:List V} {us:List Ae} (n:Nat),Vals xs us->Vals (xs.drop n) (us.drop n)
 |_,_,0,r=>r
 |_,_,_+1,.nil=>.nil
 |_,_,n+1,.cons _ t=>Vals.drop n t
def RelO:Option V->Option Ae->Prop
 |some v,some u=>RelV v u
 |none,none=>True
 |_,_=>False
def KV {κ:Type}:List (κ×V)->List (κ×Ae)->Prop:=Paired λ(p:κ×V) (q:κ×Ae)=>p.1=q.1/\RelV p.2 q.2
def kV:Key->V
 |.inl i=>.int i
 |.inr x=>.str x
inductive HO where
 |lst (xs:List V)
 |tup (xs:List V)
 |dK (kvs:List (Key×V)) | dT (kvs:List (List Key×V))
 |set (S:Int->Bool) (n:Nat)
 |ins (C dx:Addr) (fs:List (Str×V))
 |own (x:Addr)
 |xd (fs:List (Str×V))
 |met (f x:Addr)
 |rng (lo hi:Int)
 |frz (o:Obj) (u:HO)
 |tbl (ps:Array Ae)
 |ext (φ:Heap->Prop)
abbrev Hp:=Addr->Option HO
def upd (H:Hp) (a:Addr) (o:HO):Hp:=λb=>if b=a then some o else H b
theorem jaj {H:Hp} {a:Addr} {o:HO}:upd H a o a=some o:=by unfold upd;rw[if_pos rfl]
theorem jai {H:Hp} {a b:Addr} {o:HO} (h:b≠a):upd H a o b=H b:=by unfold upd;rw[if_neg h]
theorem jzh {H:Hp} {a b:Addr} {o u:HO} (h:H a=some o) (h':H b=some u) (d:o≠u):a≠b:=by
 intro e;subst e;rw[h]at h';exact d (A9 h')
theorem jag {H:Hp} {a b:Addr} {o:HO} (h:H a=some o) (h':H b=none):a≠b:=by
 intro e;subst e;rw[h]at h';cases h'
def IsTupP (h:Heap) (a:Addr) (items:Array Ae):Prop:=∃o,h.get? a=some o/\o.cls=.type "tuple"/\(∃n,o.data=.seq items n)/\o.dict=none
theorem IsTupP.tup {h:Heap} {a:Addr} {items:Array Ae} (x:IsTupP h a items):IsTup h a items:=let⟨o,e,c,d,_⟩:=x;⟨o,e,c,d⟩
theorem IsTupP.lt {h:Heap} {a:Addr} {items:Array Ae} (x:IsTupP h a items):a < h.objs.size:=let⟨_,e,_⟩:=x;Au e
theorem IsTupP.new (h:Heap) (items:Array Ae):IsTupP (h.push {cls:=.type "tuple",data:=.seq items}) h.objs.size items:=⟨_,Bn _ rfl,rfl,⟨_,rfl⟩,rfl⟩
section
variable (P:Bi) (w:Bz)
def ObjOk (H:Hp) (h:Heap) (a:Addr):HO->Prop
 |.lst xs=>xs.length<=An/\∃(its:List Ae) (n:Nat),Vals xs its/\h.get? a=some {cls:=.type "list",data:=.seq its.toArray n}
 |.tup xs=>xs.length<=An/\∃its:List Ae,Vals xs its/\IsTupP h a its.toArray
 |.dK kvs=>kvs.length<=An/\(a==sysModules)=false/\∃vs,KV kvs vs/\h.DictOf (jl3 P w) a vs
 |.dT kvs=>kvs.length<=An/\(a==sysModules)=false/\∃xs:List (List Key×Addr×Ae),
   Paired (λ(p:List Key×V) (q:List Key×Addr×Ae)=>p.1=q.1/\H q.2.1=some (.tup (p.1.map kV))/\RelV p.2 q.2.2) kvs xs /\
   ∃o es ep,h.get? a=some o/\o.ExactDict/\o.data=.dict es ep/\es.toList=xs.map (entryOfKey (tupleKind (jl3 P w)))/\(xs.map (·.1)).Nodup
 |.set S n=>h.SetOf (intKind P w) a S n
 |.ins C dx fs=>H dx=some (.own a)/\fs.length<=1000/\dx≠a/\h.get? a=some (PySem.W.instObj C dx) /\
   ∃mA,h.Ns1 dx mA/\(∀f,RelO (fs.lookup f) (mA f))/\PySem.Within mA (fs.map (·.1))
 |.own _=>∃o,h.get? a=some o
 |.xd fs=>∃mA,h.Ns1 a mA/\∀f,RelO (fs.lookup f) (mA f)
 |.rng lo hi=>∃t u v,h.get? a=some {cls:=.type "range",data:=.fields #[.int lo t,.int hi u,.int 1 v]}
 |.frz o u=>h.get? a=some o/\ObjOk H h a u
 |.tbl ps=>h.get? a=some {cls:=.none,data:=.fields ps}
 |.met f x=>h.get? a=some (PySem.W.methodObj (.ref f) (.ref x))
 |.ext φ=>φ h/\(∃o,h.get? a=some o)/\∀h1 h2:Heap,φ h1->(∀o,h1.get? a=some o->h2.get? a=some o)->φ h2
def HOk (H:Hp) (h:Heap):Prop:=∀a o,H a=some o->ObjOk P w H h a o
end
section
variable {P:Bi} {w:Bz} {H H':Hp} {h h':Heap} {a:Addr} {o:HO}
theorem ObjOk.lt (x:ObjOk P w H h a o):a < h.objs.size:=by
 cases o with
 |lst xs=>obtain⟨_,_,_,_,e⟩:=x;exact Au e
 |tup xs=>obtain⟨_,_,_,p⟩:=x;exact p.lt
 |dK kvs=>obtain⟨_,_,_,_,o,_,_,e,_⟩:=x;exact Au e
 |dT kvs=>obtain⟨_,_,_,_,o,_,_,e,_⟩:=x;exact Au e
 |set S n=>obtain⟨o,_,_,_,e,_⟩:=x;exact Au e
 |ins C dx fs=>obtain⟨_,_,_,e,_⟩:=x;exact Au e
 |own y=>obtain⟨_,e⟩:=x;exact Au e
 |xd fs=>obtain⟨_,⟨_,_,_,e,_⟩,_⟩:=x;exact Au e
 |rng lo hi=>obtain⟨_,_,_,e⟩:=x;exact Au e
 |frz ob u=>obtain⟨e,_⟩:=x;exact Au e
 |tbl ps=>exact Au (show h.get? a=some _ from x)
 |met f y=>exact Au (show h.get? a=some _ from x)
 |ext φ=>obtain⟨_,⟨_,e⟩,_⟩:=x;exact Au e
theorem Paired.mapP {α β:Type} {F G:α->β->Prop}:∀{l₁:List α} {l₂:List β},Paired F l₁ l₂->(∀a b,F a b->G a b)->Paired G l₁ l₂
 |_,_,.nil,_=>.nil
 |_,_,.cons r t,f=>.cons (f _ _ r) (Paired.mapP t f)
theorem ObjOk.stay (x:ObjOk P w H h a o) (k:∀b u,(b=a\/H b=some (.own a))->h.get? b=some u->h'.get? b=some u)
  (ho:∀b,H b=some (.own a)->H' b=some (.own a)) (ht:∀b xs,H b=some (.tup xs)->H' b=some (.tup xs)):ObjOk P w H' h' a o:=by
 induction o with
 |lst xs=>obtain⟨z,its,n,r,e⟩:=x;exact⟨z,its,n,r,k _ _ (.inl rfl) e⟩
 |tup xs=>obtain⟨z,its,r,ob,e,c⟩:=x;exact⟨z,its,r,ob,k _ _ (.inl rfl) e,c⟩
 |dK kvs=>obtain⟨z,y,vs,r,ob,es,ep,e,c⟩:=x;exact⟨z,y,vs,r,ob,es,ep,k _ _ (.inl rfl) e,c⟩
 |dT kvs =>
  obtain⟨z,y,xs,r,ob,es,ep,e,c⟩:=x;exact⟨z,y,xs,Paired.mapP r λp q z=>⟨z.1,ht _ _ z.2.1,z.2.2⟩,ob,es,ep,k _ _ (.inl rfl) e,c⟩
 |set S n=>obtain⟨ob,es,ep,t,e,c⟩:=x;exact⟨ob,es,ep,t,k _ _ (.inl rfl) e,c⟩
 |ins C dx fs =>
  obtain⟨d,z,ne,e,mA,⟨od,es,ep,e2,c⟩,r⟩:=x;exact⟨ho _ d,z,ne,k _ _ (.inl rfl) e,mA,⟨od,es,ep,k _ _ (.inr d) e2,c⟩,r⟩
 |own y=>obtain⟨ob,e⟩:=x;exact⟨ob,k _ _ (.inl rfl) e⟩
 |xd fs=>obtain⟨mA,⟨od,es,ep,e,c⟩,r⟩:=x;exact⟨mA,⟨od,es,ep,k _ _ (.inl rfl) e,c⟩,r⟩
 |rng lo hi=>obtain⟨t,u,v,e⟩:=x;exact⟨t,u,v,k _ _ (.inl rfl) e⟩
 |frz ob u ih=>obtain⟨e,q⟩:=x;exact⟨k _ _ (.inl rfl) e,ih q⟩
 |tbl ps =>
  have e:h.get? a=some {cls:=.none,data:=.fields ps}:=x;show h'.get? a=some {cls:=.none,data:=.fields ps};exact k a _ (.inl rfl) e
 |met f y =>
  have e:h.get? a=some (PySem.W.methodObj (.ref f) (.ref y)):=x;show h'.get? a=some (PySem.W.methodObj (.ref f) (.ref y));exact k a _ (.inl rfl) e
 |ext φ=>obtain⟨p,⟨o,e⟩,st⟩:=x;exact⟨st _ _ p λo q=>k _ _ (.inl rfl) q,⟨o,k _ _ (.inl rfl) e⟩,st⟩
theorem HOk.lt (x:HOk P w H h) (e:H a=some o):a < h.objs.size:=(x a o e).lt
theorem HOk.fresh (x:HOk P w H h) (e:h.objs.size<=a):H a=none:=by
 cases q:H a with
 |none=>rfl
 |some u=>exact absurd (Bc (x.lt q) e) (De _)
theorem HOk.kept (x:HOk P w H h) (k:∀b u,h.get? b=some u->h'.get? b=some u):HOk P w H h':=λa o e =>
 (x a o e).stay (λb u _ q=>k b u q) (λ_ q=>q) λ_ _ q=>q
theorem HOk.laid (x:HOk P w H h) (k:∀b u,h.get? b=some u->h'.get? b=some u) (hp:h.objs.size<=a) (new:ObjOk P w (upd H a o) h' a o):HOk P w (upd H a o) h':=λb u e=>by
 have hn:=x.fresh hp;by_cases hb:b=a
 ·subst hb;rw[jaj]at e;cases e;exact new
 ·rw[jai hb]at e;exact(x b u e).stay (λc v _ q=>k c v q) (λc q=>by rw[jai (jag q hn)];exact q) λc xs q=>by rw[jai (jag q hn)];exact q
end
def Rd (H:Hp) (a:Addr) (u:HO):Prop:=H a=some u\/∃o,H a=some (.frz o u)
theorem Rd.ok {P:Bi} {w:Bz} {H:Hp} {h:Heap} {a:Addr} {u:HO} (r:Rd H a u) (x:HOk P w H h):ObjOk P w H h a u:=by
 rcases r with r | ⟨o,r⟩
 ·exact x a u r
 ·obtain⟨_,q⟩:=x a _ r;exact q
def Mut:Option HO->Prop
 |some (.lst _)=>True
 |some (.dK _)=>True
 |some (.dT _)=>True
 |some (.set _ _)=>True
 |some (.ins _ _ _)=>True
 |some (.ext _)=>True
 |_=>False
section
variable {P:Bi} {w:Bz} {H:Hp} {h h':Heap} {x e:Addr} {o':HO}
theorem HOk.write (ok:HOk P w H h) (mu:Mut (H x)) (he:e=x\/H e=some (.own x)) (k:∀b u,b≠e->h.get? b=some u->h'.get? b=some u) (heo:∃u,h'.get? e=some u)
  (new:ObjOk P w (upd H x o') h' x o'):HOk P w (upd H x o') h':=λb u q=>by
 have nown:∀c y,H c=some (.own y)->c≠x:=λc y r z=>by subst z;rw[r]at mu;exact mu
 have ntup:∀c xs,H c=some (.tup xs)->c≠x:=λc xs r z=>by subst z;rw[r]at mu;exact mu
 by_cases hb:b=x
 ·subst hb;rw[jaj]at q;cases q;exact new
 ·rw[jai hb]at q;by_cases hbe:b=e
  ·have q':H b=some (.own x):=by
    rcases he with z | z
    ·exact absurd (hbe.trans z) hb
    ·rw[hbe];exact z
   rw[q]at q';cases q';obtain⟨v,hv⟩:=heo;exact⟨v,by rw[hbe];exact hv⟩
  ·refine(ok b u q).stay (λc v hc r=>k c v ?_ r) (λc r=>by rw[jai (nown c b r)];exact r) λc xs r=>by rw[jai (ntup c xs r)];exact r
   rcases hc with rfl | hc
   ·exact hbe
   ·rintro rfl
    rcases he with z | z
    ·exact nown c b hc z
    ·rw[hc]at z;cases z;exact hb rfl
end
structure Un (fs ex:List Addr) (H H':Hp) (h h':Heap):Prop where
 keep:∀b o,h.get? b=some o->H b=none->b∉fs->b∉ex->h'.get? b=some o
 slot:∀b o,h.get? b=some o->H b=none->b∈fs->b∉ex->∃sl,h'.get? b=some {o with slots:=sl}
 free:∀b o,h.get? b=some o->H b=none->b∉ex->H' b=none
 there:∀b o,h.get? b=some o->b∉ex->∃o',h'.get? b=some o'
 tups:∀b xs,H b=some (.tup xs)->H' b=some (.tup xs)
 frzs:∀b o u,H b=some (.frz o u)->H' b=some (.frz o u)
 tbls:∀b ps,H b=some (.tbl ps)->∃more,H' b=some (.tbl (ps++more))
section
variable {fs fs' ex ex':List Addr} {H H1 H2:Hp} {h h1 h2 h':Heap} {a x e:Addr} {o:HO}
theorem Un.any (u:Un fs ex H H1 h h1) {b:Addr} {ob:Obj} (q:h.get? b=some ob) (n:H b=none) (hx:b∉ex):∃sl,h1.get? b=some {ob with slots:=sl}:=by
 by_cases hb:b∈fs
 ·exact u.slot b ob q n hb hx
 ·exact⟨ob.slots,u.keep b ob q n hb hx⟩
theorem Un.kept (k:∀b u,h.get? b=some u->h'.get? b=some u):Un fs ex H H h h' :=
 ⟨λb ob q _ _ _=>k b ob q,λb ob q _ _ _=>⟨ob.slots,k b ob q⟩,λ_ _ _ n _=>n,λb ob q _=>⟨ob,k b ob q⟩,λ_ _ q=>q,λ_ _ _ q=>q,λ_ ps q=>⟨#[],by rw[q];simp⟩⟩
theorem Un.refl:Un fs ex H H h h:=Un.kept λ_ _ q=>q
theorem Un.laid (k:∀b u,h.get? b=some u->h'.get? b=some u) (hp:h.objs.size<=a) (hn:H a=none):Un fs ex H (upd H a o) h h' where
 keep:=λb u q _ _ _=>k b u q
 slot:=λb u q _ _ _=>⟨u.slots,k b u q⟩
 free:=λb u q n _=>by rw[jai (Bj (Bc (Au q) hp))];exact n
 there:=λb u q _=>⟨u,k b u q⟩
 tups:=λb xs q=>by rw[jai (jag q hn)];exact q
 frzs:=λb u xs q=>by rw[jai (jag q hn)];exact q
 tbls:=λb ps q=>⟨#[],by rw[jai (jag q hn),q];simp⟩
theorem Un.write (mu:Mut (H x)) (he:e=x\/H e=some (.own x)) (k:∀b u,b≠e->h.get? b=some u->h'.get? b=some u) (heo:∃u,h'.get? e=some u):Un fs ex H (upd H x o) h h':=by
 have hx:∀b,H b=none->b≠x:=λb n z=>by subst z;rw[n]at mu;exact mu
 have hb:∀b,H b=none->b≠e:=λb n z=>by
  subst z;rcases he with r | r
  ·exact hx b n r
  ·rw[n]at r;cases r
 have hm:∀b u,H b=some u->¬Mut (some u)->b≠x:=λb u q nm z=>by subst z;rw[q]at mu;exact nm mu
 refine⟨λb u q n _ _=>k b u (hb b n) q,λb u q n _ _=>⟨u.slots,k b u (hb b n) q⟩,λb u q n _=>by rw[jai (hx b n)];exact n,λb u q _=>?_,
  λb xs q=>by rw[jai (hm b _ q λz=>z)];exact q,λb u xs q=>by rw[jai (hm b _ q λz=>z)];exact q,λb ps q=>⟨#[],by rw[jai (hm b _ q λz=>z),q];simp⟩⟩
 by_cases hbe:b=e
 ·subst hbe;exact heo
 ·exact⟨u,k b u hbe q⟩
end
def trk (h:Heap) (H:Hp):List Addr:=(Cr h.objs.size).filter λa=>(H a).isSome
def hidT (h:Heap) (H:Hp):Heap:=PySem.W.hideAll h (trk h H)
theorem jpz (h:Heap) (H:Hp):(hidT h H).objs.size=h.objs.size:=PySem.W.hideAll_size _ _
theorem jr4 {h:Heap} {H:Hp} {b:Addr} {o:Obj} (e:h.get? b=some o) (n:H b=none):(hidT h H).get? b=some o :=
 PySem.W.hideAll_get _ e λhm=>by
  have q:(H b).isSome=true:=(List.mem_filter.mp hm).2;rw[n]at q;simp at q
theorem juq {h:Heap} {H:Hp} {b:Addr} {o:Obj} (e:(hidT h H).get? b=some o):h.get? b=some o/\H b=none:=by
 have e':h.get? b=some o:=PySem.W.of_hideAll (trk h H) e;refine⟨e',?_⟩;cases q:H b with
 |none=>rfl
 |some x =>
  have hm:b∈trk h H:=List.mem_filter.mpr ⟨Cs.mpr (Au e'),by simp[q]⟩;have z:(hidT h H).get? b=none:=PySem.W.hideAll_none (trk h H) hm;rw[z]at e;cases e
def jvi (g h:Heap) (L:Addr):List (Addr×Obj):=(Cr h.objs.size).filterMap λa=>if a=L\/(g.get? a).isSome=true then none else(h.get? a).map λo=>(a,o)
def rest (g h:Heap) (L d:Addr):List (Addr×Obj):=(jvi g h L).filter λp=>decide (p.1≠d)
structure Mod (K:Ab) (mg:Str->Option Ae) (base:Heap):Prop where
 kin:K.In base
 glob:base.Ns Cn mg
 blt:∃mb,base.Ns builtinsNs mb/\∀x:Str,x≠"__name__"->mb x=Bh x
 nolimit:base.NoLimit
structure Cx where
 prog:Bi
 w:Bz
 K:Ab
 mg:Str->Option Ae
 base:Heap
 A:Ce
 N:List Str
 s₀:Ah
 H₀:Hp
 env:Env
 outer:List Env
 stack:List Env
 ex:List Addr
 fn:Str->Bool
 calm:Bool
 pn:List (Addr×Obj)
 xe:Ae->Ah->Prop
def frs (l:List Env):List Addr:=l.filterMap (·.frame)
abbrev Cx.fs (X:Cx):List Addr:=frs X.outer
def Vis (sc:Dc) (x:Str):Prop:=sc.names.lookup x=some .local\/sc.names.lookup x=some .cell\/sc.names.lookup x=some .free
def Loc (sc:Dc) (x:Str):Prop:=sc.names.lookup x=some .local\/sc.names.lookup x=some .cell
def Look (env:Env) (h:Heap) (m:Str->Option Ae) (x:Str) (u:Ae):Prop :=
 (env.kindOf x=some .local/\m x=some u)\/((env.kindOf x=some .cell\/env.kindOf x=some .free)/\∃c,env.cells.lookup x=some c/\h.IsCell c (some u))
structure Cx.Ok (X:Cx):Prop where
 mod:Mod X.K X.mg X.base
 kind:X.env.scope.kind=.function
 glob:X.env.globals=Cn
 blt:X.env.builtins=builtinsNs
 above:X.s₀.heap.objs.size<=X.env.locals
 inj:∀x y c,X.env.cells.lookup x=some c->X.env.cells.lookup y=some c->x=y
 has:∀x,(X.env.kindOf x=some .cell\/X.env.kindOf x=some .free)->∃c,X.env.cells.lookup x=some c
 cab:∀x c,X.fn x=true->X.env.cells.lookup x=some c->X.s₀.heap.objs.size<=c
 hd:X.calm=true->X.A.handled=none
 frames:X.A.frames=some X.stack
 stk:X.stack=X.outer\/(X.stack=X.env::X.outer/\X.env.frame=some X.env.locals)
 exf:∀b∈X.ex,b≠X.env.locals/\∀x c,X.env.cells.lookup x=some c->c≠b
 bs:∀b o,X.base.get? b=some o->X.s₀.heap.get? b=some o/\X.H₀ b=none
 bsz:X.base.objs.size<=X.s₀.heap.objs.size
 noex:∀b o,X.base.get? b=some o->b∉X.ex
 exfs:∀b∈X.ex,b∉X.fs
 funs:X.s₀.heap.FunFrames X.base X.outer
 frf:∀b∈X.fs,X.H₀ b=none
structure Inv (X:Cx) (pins:List (Addr×Obj)) (σ:List (Option V)) (H:Hp) (s:Ah):Prop where
 ok:X.Ok
 os:s.os=X.s₀.os
 bare:AllBare s.gens
 base:Un X.fs X.ex X.H₀ H X.s₀.heap s.heap
 loc:∃m,s.heap.Ns X.env.locals m/\∀(i:Nat) (x:Str) (v:V),X.N[i]?=some x->σ[i]?=some (some v)->Vis X.env.scope x->∃u,RelV v u/\Look X.env s.heap m x u
 cell:∀x c,X.env.cells.lookup x=some c->∃v,s.heap.IsCell c v
 free:H X.env.locals=none
 freeC:∀x c,X.env.cells.lookup x=some c->H c=none
 pin:∀p∈X.pn++pins,s.heap.get? p.1=some p.2/\H p.1=none/\p.1≠X.env.locals/\p.1∉X.fs/\∀v,p.2.data≠.cell v
 hok:HOk X.prog X.w H s.heap
 len:σ.length=X.N.length
section
variable {X:Cx} {pins:List (Addr×Obj)} {σ:List (Option V)} {H H':Hp} {s:Ah} {h':Heap}
theorem Cx.Ok.nofr (ok:X.Ok) {b:Addr} {o:Obj} (e:X.base.get? b=some o):b∉X.fs:=λhb=>by
 have:=(ok.funs.mem hb).1;rw[e]at this;cases this
theorem Inv.bs (I:Inv X pins σ H s):∀b o,X.base.get? b=some o->s.heap.get? b=some o/\H b=none:=λb o e =>
 ⟨I.base.keep b o (I.ok.bs b o e).1 (I.ok.bs b o e).2 (I.ok.nofr e) (I.ok.noex b o e),I.base.free b o (I.ok.bs b o e).1 (I.ok.bs b o e).2 (I.ok.noex b o e)⟩
theorem Inv.bk (I:Inv X pins σ H s):∀b o,X.base.get? b=some o->s.heap.get? b=some o:=λb o e=>(I.bs b o e).1
theorem Inv.mod (I:Inv X pins σ H s):Mod X.K X.mg X.base:=I.ok.mod
theorem Inv.kIn (I:Inv X pins σ H s):X.K.In s.heap:=I.ok.mod.kin.keeps I.bk
theorem Inv.lt (I:Inv X pins σ H s):X.env.locals < s.heap.objs.size:=let⟨_,hn,_⟩:=I.loc;hn.lt
theorem Inv.sz (I:Inv X pins σ H s):X.s₀.heap.objs.size<=s.heap.objs.size:=Bk I.ok.above (Nat.le_of_lt I.lt)
theorem Inv.nofs (I:Inv X pins σ H s) {a:Addr} (h:s.heap.objs.size<=a):a∉X.fs:=λhb=>by
 obtain⟨_,o,ho,_⟩:=I.ok.funs.mem hb;exact absurd (Bc (Au ho) (Bk I.sz h)) (De _)
theorem Inv.cne (I:Inv X pins σ H s):∀x c,X.env.cells.lookup x=some c->c≠X.env.locals:=λx c e z=>by
 obtain⟨v,o,ho,hd⟩:=I.cell x c e;obtain⟨m,⟨o',es,ep,ho',hd',_⟩,_⟩:=I.loc;rw[z,ho']at ho;cases ho;rw[hd']at hd;cases hd
theorem Inv.funs (I:Inv X pins σ H s):s.heap.FunFrames X.base X.outer:=by
 have all:∀(l:List Env),(∀b∈frs l,b∈X.fs)->X.s₀.heap.FunFrames X.base l->s.heap.FunFrames X.base l:=by
  intro l
  induction l with
  |nil=>intro _ _;trivial
  |cons env r ih =>
   intro hs hl;obtain⟨hk,⟨L,o,hf,hn,ho,hd⟩,hr⟩:=hl;have hL:L∈X.fs:=hs L (by unfold frs;rw[Dx,hf];exact Ba);obtain⟨sl,e⟩:=I.base.slot L o ho (I.ok.frf L hL) hL λz=>I.ok.exfs L z hL;exact⟨hk,⟨L,_,hf,hn,e,hd⟩,ih (λb hb=>hs b (by unfold frs;rw[Dx,hf];exact Bg _ hb)) hr⟩
 exact all X.outer (λ_ hb=>hb) I.ok.funs
theorem Inv.stack (I:Inv X pins σ H s):s.heap.FunFrames X.base X.stack:=by
 rcases I.ok.stk with e | ⟨e,hf⟩
 ·rw[e];exact I.funs
 ·rw[e];obtain⟨m,hn,_⟩:=I.loc;refine .cons (by rw[I.ok.kind];decide) hf hn ?_ I.funs;exact Heap.get?_none_of_le (Bk I.ok.bsz I.ok.above)
theorem Inv.stkSub (I:Inv X pins σ H s):∀b∈frs X.stack,b∈X.env.locals::X.fs:=λb hb=>by
 rcases I.ok.stk with e | ⟨e,hf⟩
 ·rw[e]at hb;exact Bg _ hb
 ·rw[e]at hb;unfold frs at hb;rw[Dx,hf]at hb;exact hb
theorem Inv.stkFree (I:Inv X pins σ H s):∀b∈frs X.stack,H b=none:=λb hb=>by
 rcases Aq.mp (I.stkSub b hb)with e | hb
 ·rw[e];exact I.free
 ·obtain⟨_,o,ho,_⟩:=I.ok.funs.mem hb;exact I.base.free b o ho (I.ok.frf b hb) λz=>I.ok.exfs b z hb
theorem Inv.step {g':Array GenState} {t':Nat} {d':Drawn} {ch:List Addr} (I:Inv X pins σ H s)
  (hch:∀b∈ch,(b∈X.ex\/X.s₀.heap.objs.size<=b)/\b≠X.env.locals/\(∀x c,X.env.cells.lookup x=some c->c≠b)/\∀p∈X.pn++pins,p.1≠b)
  (keep:∀b o,b≠X.env.locals->b∉X.fs->b∉ch->s.heap.get? b=some o->H b=none->h'.get? b=some o)
  (slot:∀b o,b≠X.env.locals->b∈X.fs->b∉ch->s.heap.get? b=some o->H b=none->∃sl,h'.get? b=some {o with slots:=sl}) (free:∀b o,b∉ch->s.heap.get? b=some o->H b=none->H' b=none)
  (there:∀b o,b∉ch->s.heap.get? b=some o->∃o',h'.get? b=some o')
  (tups:∀b xs,H b=some (.tup xs)->H' b=some (.tup xs)) (frzs:∀b o u,H b=some (.frz o u)->H' b=some (.frz o u)) (tbls:∀b ps,H b=some (.tbl ps)->∃more,H' b=some (.tbl (ps++more)))
  (ns:∀m,s.heap.Ns X.env.locals m->h'.Ns X.env.locals m) (hok:HOk X.prog X.w H' h') (hg:AllBare g') :
  Inv X pins σ H' {s with heap:=h',gens:=g',drawn:=d',toks:=t'}:=by
 have neL:∀b o,X.s₀.heap.get? b=some o->b≠X.env.locals:=λb o e=>Bj (Bc (Au e) I.ok.above);have neC:∀b o,X.s₀.heap.get? b=some o->b∉X.ex->b∉ch:=λb o e hx hb=>by
  rcases(hch b hb).1 with z | z
  ·exact hx z
  ·exact absurd (Bc (Au e) z) (De _)
 have cellK:∀x c,X.env.cells.lookup x=some c->∀v,s.heap.IsCell c v->h'.IsCell c v:=λx c e v ⟨o,ho,hd⟩=>by
  have nch:c∉ch:=λz=>(hch c z).2.2.1 x c e rfl;by_cases hc:c∈X.fs
  ·obtain⟨sl,q⟩:=slot c o (I.cne x c e) hc nch ho (I.freeC x c e);exact⟨_,q,hd⟩
  ·exact⟨o,keep c o (I.cne x c e) hc nch ho (I.freeC x c e),hd⟩
 refine⟨I.ok,I.os,hg,⟨λb o e n hb hx=>?_,λb o e n hb hx=>?_,λb o e n hx=>?_,λb o e hx=>?_,λb xs e=>tups b xs (I.base.tups b xs e),λb o xs e=>frzs b o xs (I.base.frzs b o xs e),λb ps e=>?_⟩,?_,λx c e=>?_,?_,λx c e=>?_,λp hp=>?_,hok,I.len⟩
 ·exact keep b o (neL b o e) hb (neC b o e hx) (I.base.keep b o e n hb hx) (I.base.free b o e n hx)
 ·obtain⟨sl,e1⟩:=I.base.slot b o e n hb hx;obtain⟨sl',e2⟩:=slot b _ (neL b o e) hb (neC b o e hx) e1 (I.base.free b o e n hx);exact⟨sl',e2⟩
 ·obtain⟨o',e1⟩:=I.base.there b o e hx;exact free b o' (neC b o e hx) e1 (I.base.free b o e n hx)
 ·obtain⟨o',e1⟩:=I.base.there b o e hx;exact there b o' (neC b o e hx) e1
 ·obtain⟨m1,e1⟩:=I.base.tbls b ps e;obtain⟨m2,e2⟩:=tbls b _ e1;exact⟨m1++m2,by rw[e2,Array.append_assoc]⟩
 ·obtain⟨m,hn,hl⟩:=I.loc;refine⟨m,ns m hn,λi x v e1 e2 e3=>?_⟩;obtain⟨u,r,l⟩:=hl i x v e1 e2 e3;refine⟨u,r,?_⟩;rcases l with l | ⟨k,c,e,z⟩
  ·exact .inl l
  ·exact .inr ⟨k,c,e,cellK x c e _ z⟩
 ·obtain⟨v,z⟩:=I.cell x c e;exact⟨v,cellK x c e v z⟩
 ·obtain⟨m,⟨o,_,_,ho,_⟩,_⟩:=I.loc;exact free _ o (λz=>(hch _ z).2.1 rfl) ho I.free
 ·obtain⟨v,o,ho,hd⟩:=I.cell x c e;exact free c o (λz=>(hch c z).2.2.1 x c e rfl) ho (I.freeC x c e)
 ·obtain⟨e,n,ne,nf,d⟩:=I.pin p hp;have nch:p.1∉ch:=λz=>(hch p.1 z).2.2.2 p hp rfl;exact⟨keep p.1 p.2 ne nf nch e n,free p.1 p.2 nch e n,ne,nf,d⟩
theorem Inv.un {t':Nat} (I:Inv X pins σ H s) (u:Un X.fs [] H H' s.heap h') (hok:HOk X.prog X.w H' h'):Inv X pins σ H' {s with heap:=h',toks:=t'}:=by
 obtain⟨m,⟨o,es,ep,ho,r⟩,_⟩:=id I.loc;obtain⟨sl,hL⟩:=u.any ho I.free (by simp);exact I.step (g':=s.gens) (d':=s.drawn) (ch:=[]) (λ_ z=>nomatch z) (λb o _ hb _ e n=>u.keep b o e n hb (by simp)) (λb o _ hb _ e n=>u.slot b o e n hb (by simp)) (λb o _ e n=>u.free b o e n (by simp)) (λb o _ e=>u.there b o e (by simp)) u.tups u.frzs u.tbls (λm' hm=>by
  obtain⟨o',es',ep',ho',r'⟩:=hm;rw[ho]at ho';cases ho';exact⟨_,es',ep',hL,r'⟩) hok I.bare
theorem Inv.call {g':Array GenState} {t':Nat} {d':Drawn} {ch:List Addr} (I:Inv X pins σ H s) (u:Un (frs X.stack) ch H H' s.heap h') (hok:HOk X.prog X.w H' h') (hg:AllBare g')
  (hch:∀b∈ch,(b∈X.ex\/X.s₀.heap.objs.size<=b)/\b≠X.env.locals/\(∀x c,X.env.cells.lookup x=some c->c≠b)/\∀p∈X.pn++pins,p.1≠b) :
  Inv X pins σ H' {s with heap:=h',gens:=g',drawn:=d',toks:=t'}:=by
 obtain⟨m,⟨o,es,ep,ho,r⟩,_⟩:=id I.loc;obtain⟨sl,hL⟩:=u.any ho I.free λz=>(hch _ z).2.1 rfl;exact I.step (ch:=ch) hch (λb o hL hb hc e n=>u.keep b o e n (λz=>(Aq.mp (I.stkSub b z)).elim hL hb) hc) (λb o _ _ hc e n=>u.any e n hc) (λb o hc e n=>u.free b o e n hc) (λb o hc e=>u.there b o e hc) u.tups u.frzs u.tbls (λm' hm=>by
  obtain⟨o',es',ep',ho',r'⟩:=hm;rw[ho]at ho';cases ho';exact⟨_,es',ep',hL,r'⟩) hok hg
theorem Inv.turned {t':Nat} {it:Addr} (I:Inv X pins σ H s) (k:∀b o,b≠it->s.heap.get? b=some o->h'.get? b=some o) (hn:H it=none) (hL:it≠X.env.locals)
  (h1:it∈X.ex\/X.s₀.heap.objs.size<=it) (h2:∀x c,X.env.cells.lookup x=some c->c≠it) (h3:∀p∈X.pn++pins,p.1≠it):Inv X pins σ H {s with heap:=h',toks:=t'}:=by
 have nit:∀b u,H b=some u->b≠it:=λb u e z=>by rw[z,hn]at e;cases e
 refine I.step (g':=s.gens) (d':=s.drawn) (ch:=[it]) (λb hb=>?_) (λb o _ _ hc e _=>k b o (λz=>hc (by simp[z])) e) (λb o _ _ hc e _=>⟨o.slots,k b o (λz=>hc (by simp[z])) e⟩) (λ_ _ _ _ n=>n)
  (λb o hc e=>⟨o,k b o (λz=>hc (by simp[z])) e⟩) (λ_ _ e=>e) (λ_ _ _ e=>e) (λb ps e=>⟨#[],by rw[e];simp⟩) (λm hm=>?_) (λb u e=>?_) I.bare
 ·have e:b=it:=by simpa using hb
  subst e;exact⟨h1,hL,h2,h3⟩
 ·obtain⟨o,es,ep,ho,r⟩:=hm;exact⟨o,es,ep,k _ o (Ne.symm hL) ho,r⟩
 ·refine(I.hok b u e).stay (λc v hc q=>k c v ?_ q) (λ_ q=>q) λ_ _ q=>q;rcases hc with z | z
  ·rw[z];exact nit b u e
  ·exact nit c _ z
theorem Inv.tok (I:Inv X pins σ H s) (t:Nat):Inv X pins σ H {s with toks:=t}:=I.un (h':=s.heap) (t':=t) Un.refl I.hok
theorem Inv.kept {t':Nat} (I:Inv X pins σ H s) (k:∀b u,s.heap.get? b=some u->h'.get? b=some u):Inv X pins σ H {s with heap:=h',toks:=t'}:=I.un (Un.kept k) (I.hok.kept k)
theorem Inv.laid {a:Addr} {o:HO} {t':Nat} (I:Inv X pins σ H s) (k:∀b u,s.heap.get? b=some u->h'.get? b=some u) (hp:s.heap.objs.size<=a) (new:ObjOk X.prog X.w (upd H a o) h' a o) :
  Inv X pins σ (upd H a o) {s with heap:=h',toks:=t'}:=I.un (Un.laid k hp (I.hok.fresh hp)) (I.hok.laid k hp new)
theorem Inv.write {x e:Addr} {o:HO} {t':Nat} (I:Inv X pins σ H s) (mu:Mut (H x)) (he:e=x\/H e=some (.own x)) (k:∀b u,b≠e->s.heap.get? b=some u->h'.get? b=some u) (heo:∃u,h'.get? e=some u)
  (new:ObjOk X.prog X.w (upd H x o) h' x o):Inv X pins σ (upd H x o) {s with heap:=h',toks:=t'}:=I.un (Un.write mu he k heo) (I.hok.write mu he k heo new)
theorem Inv.pins_of {pins':List (Addr×Obj)} (I:Inv X pins σ H s) (h:∀p∈pins',s.heap.get? p.1=some p.2/\H p.1=none/\p.1≠X.env.locals/\p.1∉X.fs/\∀v,p.2.data≠.cell v):Inv X pins' σ H s :=
 ⟨I.ok,I.os,I.bare,I.base,I.loc,I.cell,I.free,I.freeC,λp hp=>(A6.mp hp).elim (λz=>I.pin p (Dh _ z)) (h p),I.hok,I.len⟩
theorem jmx {N:List Str} (hN:N.Nodup) {i j:Nat} {x:Str} (a:N[i]?=some x) (b:N[j]?=some x):i=j:=by
 obtain⟨h1,e1⟩:=Bf.mp a;obtain⟨h2,e2⟩:=Bf.mp b;exact(List.getElem_inj hN).mp (e1.trans e2.symm)
theorem jkh {M:Model} {A:Ce} {E:Ae->Ah->Prop} {i:Nat} {x:Str} {v:V} {u:Ae} {Q:Unit->Ah->Prop} (I:Inv X pins σ H s) (hN:X.N.Nodup) (hi:X.N[i]?=some x) (hx:Loc X.env.scope x) (r:RelV v u)
  (h:∀s',Inv X pins (σ.set i (some v)) H s'->(∃a,Heap.SameBut a s.heap s'.heap/\(a=X.env.locals\/X.env.cells.lookup x=some a))->Q () s') (hf:X.fn x=true\/X.env.scope.names.lookup x=some .local:=by first | exact .inl rfl | exact .inr rfl | assumption):A5 M A (storeName X.env x u) Q E s:=by
 obtain⟨m,hn,hl⟩:=id I.loc;have hcls:(X.env.scope.kind==.class || (X.env.scope.kind==.module&&X.env.locals != X.env.globals))=false:=by rw[I.ok.kind];rfl
 have hiσ:i < σ.length:=by rw[I.len];exact(Bf.mp hi).1
 have cne:=I.cne;have tracked:∀{a:Addr} {h':Heap},(∃o,s.heap.get? a=some o/\H a=none)->Heap.SameBut a s.heap h'->HOk X.prog X.w H h':=λ{a h'} ha hs b ob e=>by
  obtain⟨_,_,hfree⟩:=ha;refine(I.hok b ob e).stay (λc w' hc q=>(hs.2 c ?_).trans q) (λ_ q=>q) λ_ _ q=>q
  rintro rfl
  rcases hc with rfl | hc
  ·rw[hfree]at e;cases e
  ·rw[hfree]at hc;cases hc
 rcases hx with hk | hk
 ·refine wpAny_storeName_local hk hn (λh' hn' hs=>?_) hcls;obtain⟨oL,_,_,hoL,_⟩:=id hn;refine h _ ⟨I.ok,I.os,I.bare,⟨λb o e n hb hx=>?_,λb o e n hb hx=>?_,I.base.free,λb o e hx=>?_,I.base.tups,I.base.frzs,I.base.tbls⟩,⟨_,hn',λj y v' e1 e2 e3=>?_⟩,λy c e=>?_,I.free,I.freeC,λp hp=>?_,tracked ⟨oL,hoL,I.free⟩ hs,by simpa using I.len⟩ ⟨_,hs,.inl rfl⟩
  ·exact(hs.2 b (Bj (Bc (Au e) I.ok.above))).trans (I.base.keep b o e n hb hx)
  ·obtain⟨sl,e1⟩:=I.base.slot b o e n hb hx;exact⟨sl,(hs.2 b (Bj (Bc (Au e) I.ok.above))).trans e1⟩
  ·obtain⟨o',e1⟩:=I.base.there b o e hx;exact⟨o',(hs.2 b (Bj (Bc (Au e) I.ok.above))).trans e1⟩
  ·by_cases hj:j=i
   ·subst hj;rw[hi]at e1;cases e1;rw[List.getElem?_set_self hiσ]at e2;cases e2;exact⟨u,r,.inl ⟨hk,by simp⟩⟩
   ·rw[B8 (Ne.symm hj)]at e2;obtain⟨u',r',q⟩:=hl j y v' e1 e2 e3;refine⟨u',r',?_⟩;rcases q with⟨k,e⟩ | ⟨k,c,e,z⟩
    ·refine .inl ⟨k,?_⟩;have:y≠x:=λe=>hj (jmx hN e1 (e▸hi));simp[this,e]
    ·exact .inr ⟨k,c,e,z.sameBut hs (cne y c e)⟩
  ·obtain⟨w',z⟩:=I.cell y c e;exact⟨w',z.sameBut hs (cne y c e)⟩
  ·obtain⟨e,n,ne,nf,d⟩:=I.pin p hp;exact⟨(hs.2 p.1 ne).trans e,n,ne,nf,d⟩
 ·have hfn:X.fn x=true:=by
   rcases hf with z | z
   ·exact z
   ·rw[z]at hk;cases hk
  obtain⟨c,hc⟩:=I.ok.has x (.inl hk);obtain⟨w',z⟩:=I.cell x c hc;refine wpAny_storeName_cell I.ok.kind hk hc z (λh' hc' hs=>?_);obtain⟨oc,hoc,hocd⟩:=id z;refine h {s with heap:=h'} ⟨I.ok,I.os,I.bare,⟨λb o e n hb hx=>?_,λb o e n hb hx=>?_,I.base.free,λb o e hx=>?_,I.base.tups,I.base.frzs,I.base.tbls⟩,⟨m,hn.sameBut hs (Ne.symm (cne x c hc)),λj y v' e1 e2 e3=>?_⟩,λy c' e=>?_,I.free,I.freeC,λp hp=>?_,tracked ⟨oc,hoc,I.freeC x c hc⟩ hs,by simpa using I.len⟩ ⟨c,hs,.inr hc⟩
  ·exact(hs.2 b (Bj (Bc (Au e) (I.ok.cab x c hfn hc)))).trans (I.base.keep b o e n hb hx)
  ·obtain⟨sl,e1⟩:=I.base.slot b o e n hb hx;exact⟨sl,(hs.2 b (Bj (Bc (Au e) (I.ok.cab x c hfn hc)))).trans e1⟩
  ·obtain⟨o',e1⟩:=I.base.there b o e hx;exact⟨o',(hs.2 b (Bj (Bc (Au e) (I.ok.cab x c hfn hc)))).trans e1⟩
  ·by_cases hj:j=i
   ·subst hj;rw[hi]at e1;cases e1;rw[List.getElem?_set_self hiσ]at e2;cases e2;exact⟨u,r,.inr ⟨.inl hk,c,hc,hc'⟩⟩
   ·rw[B8 (Ne.symm hj)]at e2;obtain⟨u',r',q⟩:=hl j y v' e1 e2 e3;refine⟨u',r',?_⟩;rcases q with q | ⟨k,c',e,z'⟩
    ·exact .inl q
    ·refine .inr ⟨k,c',e,z'.sameBut hs ?_⟩
     rintro rfl
     exact hj (jmx hN e1 (I.ok.inj _ _ _ e hc▸hi))
  ·by_cases hcc:c'=c
   ·subst hcc;exact⟨_,hc'⟩
   ·obtain⟨w2,z2⟩:=I.cell y c' e;exact⟨w2,z2.sameBut hs hcc⟩
  ·obtain⟨e,n,ne,nf,d⟩:=I.pin p hp;refine⟨(hs.2 p.1 ?_).trans e,n,ne,nf,d⟩;intro q;rw[q,hoc]at e;have q':oc=p.2:=A9 e;exact d w' (by rw[<-q'];exact hocd)
theorem jix {M:Model} {A:Ce} {E:Ae->Ah->Prop} {i:Nat} {x:Str} {v:V} {u:Ae} {Q:Unit->Ah->Prop} (I:Inv X pins σ H s) (hN:X.N.Nodup) (hi:X.N[i]?=some x) (hx:Loc X.env.scope x) (r:RelV v u)
  (h:∀s',Inv X pins (σ.set i (some v)) H s'->Q () s') (hf:X.fn x=true\/X.env.scope.names.lookup x=some .local:=by first | exact .inl rfl | exact .inr rfl | assumption):A5 M A (storeName X.env x u) Q E s :=
 jkh I hN hi hx r (λs' I' _=>h s' I') hf
theorem Inv.call' {s':Ah} {ch:List Addr} (I:Inv X pins σ H s) (ho:s'.os=s.os) (u:Un (frs X.stack) ch H H' s.heap s'.heap) (hok:HOk X.prog X.w H' s'.heap) (hg:AllBare s'.gens)
  (hch:∀b∈ch,(b∈X.ex\/X.s₀.heap.objs.size<=b)/\b≠X.env.locals/\(∀x c,X.env.cells.lookup x=some c->c≠b)/\∀p∈X.pn++pins,p.1≠b):Inv X pins σ H' s':=by
 obtain⟨h',g',d',t',o'⟩:=s';have e:o'=s.os:=ho;subst e;exact I.call (g':=g') (t':=t') (d':=d') u hok hg hch
end
abbrev XK:=Ae->Option Addr->Hp->Prop
abbrev St:=List (Option V)
abbrev VK:=V->Hp->Prop
abbrev TE:=St->Hp->VK->Prop
abbrev TT:=St->Hp->(Bool->Hp->Prop)->Prop
abbrev TA:=St->Hp->(List V->Hp->Prop)->Prop
structure Ends where
 nx:St->Hp->Prop
 rt:VK
 bk:St->Hp->Prop:=λ_ _=>False
 ct:St->Hp->Prop:=λ_ _=>False
abbrev TS:=Ends->St->Hp->Prop
def EP (X:Cx) (pins:List (Addr×Obj)) (σ:St) (Q:VK) (u:Ae) (s':Ah):Prop:=∃v H',Inv X pins σ H' s'/\RelV v u/\Q v H'
def TP (X:Cx) (pins:List (Addr×Obj)) (σ:St) (Q:Bool->Hp->Prop) (b:Bool) (s':Ah):Prop:=∃H',Inv X pins σ H' s'/\Q b H'
def AP (X:Cx) (pins:List (Addr×Obj)) (σ:St) (Q:List V->Hp->Prop) (us:List Ae) (s':Ah):Prop:=∃vs H',Inv X pins σ H' s'/\Vals vs us/\Q vs H'
def SP (X:Cx) (pins:List (Addr×Obj)) (D:Ends) (f:Flow) (s':Ah):Prop :=
 match f with
 |.next=>∃σ' H',Inv X pins σ' H' s'/\D.nx σ' H'
 |.brk=>∃σ' H',Inv X pins σ' H' s'/\D.bk σ' H'
 |.cont=>∃σ' H',Inv X pins σ' H' s'/\D.ct σ' H'
 |.ret u=>∃v σ' H',Inv X pins σ' H' s'/\RelV v u/\D.rt v H'
def PE (X:Cx) (e:Expr) (t:TE):Prop :=
 ∀(pins:List (Addr×Obj)) (s:Ah) (σ:St) (H:Hp) (Q:VK),Inv X pins σ H s->t σ H Q->A5 (A8 X.prog X.w) X.A (eval e X.env) (EP X pins σ Q) X.xe s
def PT (X:Cx) (e:Expr) (t:TT):Prop :=
 ∀(pins:List (Addr×Obj)) (s:Ah) (σ:St) (H:Hp) (Q:Bool->Hp->Prop),Inv X pins σ H s->t σ H Q->A5 (A8 X.prog X.w) X.A (isTrue e X.env (eval e X.env)) (TP X pins σ Q) X.xe s
def PW (X:Cx) (e:Expr) (t:TT):Prop :=
 ∀(whole:Sem Ae) (pins:List (Addr×Obj)) (s:Ah) (σ:St) (H:Hp) (Q:Bool->Hp->Prop),Inv X pins σ H s->t σ H Q->A5 (A8 X.prog X.w) X.A (isTrue e X.env whole) (TP X pins σ Q) X.xe s
theorem PW.pt {X:Cx} {e:Expr} {t:TT} (h:PW X e t):PT X e t:=h _
def PA (X:Cx) (es:List Expr) (t:TA):Prop :=
 ∀(pos:Pos) (pins:List (Addr×Obj)) (s:Ah) (σ:St) (H:Hp) (Q:List V->Hp->Prop),Inv X pins σ H s->t σ H Q->A5 (A8 X.prog X.w) X.A (spliced (Di pos (Ay es X.env))) (AP X pins σ Q) X.xe s
def PS (X:Cx) (st:Stmt) (t:TS):Prop :=
 ∀(pins:List (Addr×Obj)) (s:Ah) (σ:St) (H:Hp) (D:Ends),Inv X pins σ H s->t D σ H->A5 (A8 X.prog X.w) X.A (exec st X.env) (SP X pins D) X.xe s
def PSs (X:Cx) (st:List Stmt) (t:TS):Prop :=
 ∀(pins:List (Addr×Obj)) (s:Ah) (σ:St) (H:Hp) (D:Ends),Inv X pins σ H s->t D σ H->A5 (A8 X.prog X.w) X.A (execs st X.env) (SP X pins D) X.xe s
theorem thn {α:Type} {t:Sem α} {Q Q':α->Ah->Prop} {M:Model} {A:Ce} {E:Ae->Ah->Prop} {s:Ah} (h:A5 M A t Q E s) (hQ:∀a s,Q a s->Q' a s):A5 M A t Q' E s:=Dr h hQ λ_ _ x=>x
section
variable {X:Cx}
theorem bin {a b:Expr} {ta tb:TE} (ha:PE X a ta) (hb:PE X b tb) {pins:List (Addr×Obj)} {s:Ah} {σ:St} {H:Hp} {R:V->V->Hp->Prop} (I:Inv X pins σ H s) (h:ta σ H λx H1=>tb σ H1 λy H2=>R x y H2)
  {α:Type} {Q:α->Ah->Prop} {f:Ae->Ae->Sem α}
  (hf:∀v u s2 x y H2,Inv X pins σ H2 s2->RelV x v->RelV y u->R x y H2->A5 (A8 X.prog X.w) X.A (f v u) Q X.xe s2) :
  A5 (A8 X.prog X.w) X.A (eval a X.env) (λv s₁=>A5 (A8 X.prog X.w) X.A (eval b X.env) (λu s₂=>A5 (A8 X.prog X.w) X.A (f v u) Q X.xe s₂) X.xe s₁) X.xe s:=by
 refine thn (ha pins s σ H _ I h) λv s1 ⟨x,H1,I1,r1,q1⟩=>?_;refine thn (hb pins s1 σ H1 _ I1 q1) λu s2 ⟨y,H2,I2,r2,q2⟩=>?_;exact hf v u s2 x y H2 I2 r1 r2 q2
def tVar (i:Nat):TE:=λσ H Q=>∃v,σ[i]?=some (some v)/\Q v H
def tC (v:V):TE:=λ_ H Q=>Q v H
theorem jfd {i:Nat} {x:Str} {pos:Pos} (hN:X.N[i]?=some x) (hv:Vis X.env.scope x) (hd:(x==("__debug__":Str))=false:=by decide) (hcd:(x==("__classdict__":Str))=false:=by decide):PE X (.Name x pos) (tVar i):=by
 intro pins s σ H Q I h;obtain⟨v,e,h⟩:=h;obtain⟨m,hn,hl⟩:=I.loc;obtain⟨u,r,l⟩:=hl i x v hN e hv;have fin:EP X pins σ Q u s:=⟨v,H,I,r,h⟩;rcases l with⟨hk,hm⟩ | ⟨hk,c,hc,hcell⟩
 ·exact wpAny_Name (wpAny_loadName_local I.ok.kind hk hn hm fin) hd
 ·rcases hk with hk | hk
  ·exact wpAny_Name (wpAny_loadName_cell I.ok.kind hk hc hcell fin) hd
  ·exact wpAny_Name (wpAny_loadName_free I.ok.kind hk hc hcell fin hcd) hd
theorem jas {i j pos}:PE X (.Constant (.int i) j pos) (tC (.int i)):=λ_ _ _ H _ I h=>wpAny_Constant_int ⟨.int i,H,I.tok _,⟨_,rfl⟩,h⟩
theorem jzf {b j pos}:PE X (.Constant (.bool b) j pos) (tC (.bl b)):=λ_ _ _ H _ I h=>Constant_bool ⟨.bl b,H,I,rfl,h⟩
theorem jmt {j pos}:PE X (.Constant .none j pos) (tC .non):=λ_ _ _ H _ I h=>Constant_none ⟨.non,H,I,rfl,h⟩
theorem jwv {x j pos}:PE X (.Constant (.str x) j pos) (tC (.str x)):=λ_ _ _ H _ I h=>Calls.Constant_str ⟨.str x,H,I.tok _,⟨_,rfl⟩,h⟩
def Gl (X:Cx) (x:Str):Prop:=X.env.kindOf x=some .globalImplicit
theorem jpp {E:Ae->Ah->Prop} {pins:List (Addr×Obj)} {s:Ah} {σ:St} {H:Hp} {x:Str} {u:Ae} {pos:Pos} {Q:Ae->Ah->Prop} (I:Inv X pins σ H s) (hg:Gl X x) (hm:X.mg x=some u) (h:Q u s)
  (hd:(x==("__debug__":Str))=false:=by decide):A5 (A8 X.prog X.w) X.A (eval (.Name x pos) X.env) Q E s :=
 Calls.Name_function_global I.ok.kind hg (Calls.loadGlobal_global (by rw[I.ok.glob];exact I.mod.glob.keeps I.bk) hm h) hd
theorem jmy {E:Ae->Ah->Prop} {pins:List (Addr×Obj)} {s:Ah} {σ:St} {H:Hp} {x:Str} {u:Ae} {pos:Pos} {Q:Ae->Ah->Prop} (I:Inv X pins σ H s) (hg:Gl X x) (hm:X.mg x=none) (hv:Bh x=some u) (h:Q u s)
  (hn:x≠"__name__":=by decide) (hd:(x==("__debug__":Str))=false:=by decide):A5 (A8 X.prog X.w) X.A (eval (.Name x pos) X.env) Q E s:=by
 obtain⟨mb,h1,h2⟩:=I.mod.blt;exact Calls.Name_function_global I.ok.kind hg (Calls.loadGlobal_builtin (by rw[I.ok.glob];exact I.mod.glob.keeps I.bk) hm (by rw[I.ok.blt];exact h1.keeps I.bk) ((h2 x hn).trans hv) h) hd
theorem jud {x:Str} {v:V} {u:Ae} {pos:Pos} (hg:Gl X x) (hm:X.mg x=some u) (r:RelV v u) (hd:(x==("__debug__":Str))=false:=by decide):PE X (.Name x pos) (tC v) :=
 λ_ _ _ H _ I h=>jpp I hg hm ⟨v,H,I,r,h⟩ hd
theorem jug {x:Str} {v:V} {u:Ae} {pos:Pos} (hg:Gl X x) (hm:X.mg x=none) (hv:Bh x=some u) (r:RelV v u) (hn:x≠"__name__":=by decide) (hd:(x==("__debug__":Str))=false:=by decide):PE X (.Name x pos) (tC v) :=
 λ_ _ _ H _ I h=>jmy I hg hm hv ⟨v,H,I,r,h⟩ hn hd
variable {a b:Expr} {ta tb:TE} {pos:Pos}
def PC (X:Cx) (op:CmpOp) (a b:Expr) (t:TE):Prop :=
 ∀(pins:List (Addr×Obj)) (s:Ah) (σ:St) (H:Hp) (Q:VK),Inv X pins σ H s->t σ H Q ->
  A5 (A8 X.prog X.w) X.A (eval a X.env) (λv s₁=>A5 (A8 X.prog X.w) X.A (eval b X.env) (λu s₂=>A5 (A8 X.prog X.w) X.A (A2 op v u) (EP X pins σ Q) X.xe s₂) X.xe s₁) X.xe s
theorem jru (b:Expr) {op:CmpOp} (h:op≠.In) (h2:op≠.NotIn):C2 op b=false:=by
 have e1:(op==CmpOp.In)=false:=by cases op<;>first | rfl | exact absurd rfl h
 have e2:(op==CmpOp.NotIn)=false:=by cases op<;>first | rfl | exact absurd rfl h2
 cases b<;>simp[C2,e1,e2]
def tB (t:TE):TT:=λσ H Q=>t σ H λx H1=>∃c,x=.bl c/\Q c H1
theorem j0t {op:CmpOp} {t:TE} (h:PC X op a b t) (h1:C2 op b=false:=by first | exact jru _ (by decide) (by decide) | rfl):PT X (.Compare a [op] [b] pos) (tB t):=by
 intro pins s σ H Q I hw;refine wpAny_isTrue_Compare1 (thn (h pins s σ H _ I hw) λv s1 h1=>thn h1 λu s2 h2=>thn h2 λc s3 ⟨x,H1,I1,r1,q1⟩=>?_) h1;obtain⟨d,rfl,q⟩:=q1;cases r1;exact Bt ⟨H1,I1,q⟩
theorem jwm {e:Expr} {t:TE} (h:PE X e t) (he:∀whole,isTrue e X.env whole=(do let v <-whole;standAt e.pos;holding [v] (truthy v)):=by intro _;rfl):PT X e (tB t):=by
 intro pins s σ H Q I hw;refine isTrue_plain (thn (h pins s σ H _ I hw) λv s1 ⟨x,H1,I1,r1,q1⟩=>?_) (he _);obtain⟨d,rfl,q⟩:=q1;cases r1;exact Bt ⟨H1,I1,q⟩
variable {tA tB':TT} {rest:List Expr}
def tAnd (t u:TT):TT:=λσ H Q=>t σ H λc H1=>if c=true then u σ H1 Q else Q false H1
def tOr (t u:TT):TT:=λσ H Q=>t σ H λc H1=>if c=true then Q true H1 else u σ H1 Q
def tNot (t:TT):TT:=λσ H Q=>t σ H λc H1=>Q (!c) H1
theorem joy (ha:PT X a tA):PW X (.BoolOp .And [a] pos) tA:=by
 intro wh pins s σ H Q I h;refine isTrue_and (thn (ha pins s σ H Q I h) λc s1 e=>?_);cases c with
 |true=>exact isTrue_and_nil e
 |false=>exact e
theorem jwl (ha:PT X a tA):PW X (.BoolOp .Or [a] pos) tA:=by
 intro wh pins s σ H Q I h;refine isTrue_or (thn (ha pins s σ H Q I h) λc s1 e=>?_);cases c with
 |false=>exact isTrue_or_nil e
 |true=>exact e
theorem js8 (ha:PT X a tA) (hb:PW X (.BoolOp .And (b::rest) pos) tB'):PW X (.BoolOp .And (a::b::rest) pos) (tAnd tA tB'):=by
 intro wh pins s σ H Q I h;refine isTrue_and (thn (ha pins s σ H _ I h) λc s1 ⟨H1,I1,q1⟩=>?_);cases c with
 |true=>exact hb wh pins s1 σ H1 Q I1 q1
 |false=>exact⟨H1,I1,q1⟩
theorem jzd (ha:PT X a tA) (hb:PW X (.BoolOp .Or (b::rest) pos) tB'):PW X (.BoolOp .Or (a::b::rest) pos) (tOr tA tB'):=by
 intro wh pins s σ H Q I h;refine isTrue_or (thn (ha pins s σ H _ I h) λc s1 ⟨H1,I1,q1⟩=>?_);cases c with
 |true=>exact⟨H1,I1,q1⟩
 |false=>exact hb wh pins s1 σ H1 Q I1 q1
theorem jwn (ha:PT X a tA):PT X (.UnaryOp .Not a pos) (tNot tA):=by
 intro pins s σ H Q I h;exact isTrue_not (ha pins s σ H (λc H1=>Q (!c) H1) I h)
def jvv (ta tb:TE):TE:=λσ H Q=>ta σ H λx H1=>∃c,x=.bl c/\if c=true then tb σ H1 Q else Q (.bl false) H1
def tOrV (ta tb:TE):TE:=λσ H Q=>ta σ H λx H1=>∃c,x=.bl c/\if c=true then Q (.bl true) H1 else tb σ H1 Q
def jvs (ta:TE):TE:=λσ H Q=>ta σ H λx H1=>∃c,x=.bl c/\Q (.bl (!c)) H1
theorem jwx {op} {t:TE} (h:PE X a t):PE X (.BoolOp op [a] pos) t:=λpins s σ H Q I hw=>BoolOp_one (h pins s σ H Q I hw)
theorem jw1 (ha:PE X a ta) (hb:PE X (.BoolOp .And (b::rest) pos) tb):PE X (.BoolOp .And (a::b::rest) pos) (jvv ta tb):=by
 intro pins s σ H Q I h;refine BoolOp_and (thn (ha pins s σ H _ I h) λv s1 ⟨x,H1,I1,r1,q1⟩=>?_);obtain⟨c,rfl,q1⟩:=q1;cases r1;refine Bt ?_;cases c with
 |true=>exact hb pins s1 σ H1 Q I1 q1
 |false=>exact⟨.bl false,H1,I1,rfl,q1⟩
theorem jze (ha:PE X a ta) (hb:PE X (.BoolOp .Or (b::rest) pos) tb):PE X (.BoolOp .Or (a::b::rest) pos) (tOrV ta tb):=by
 intro pins s σ H Q I h;refine BoolOp_or (thn (ha pins s σ H _ I h) λv s1 ⟨x,H1,I1,r1,q1⟩=>?_);obtain⟨c,rfl,q1⟩:=q1;cases r1;refine Bt ?_;cases c with
 |false=>exact hb pins s1 σ H1 Q I1 q1
 |true=>exact⟨.bl true,H1,I1,rfl,q1⟩
theorem jwy (ha:PE X a ta):PE X (.UnaryOp .Not a pos) (jvs ta):=by
 intro pins s σ H Q I h;refine UnaryOp_ (thn (ha pins s σ H _ I h) λv s1 ⟨x,H1,I1,r1,q1⟩=>?_);obtain⟨c,rfl,q1⟩:=q1;cases r1;exact not_of (Bt ⟨.bl (!c),H1,I1,rfl,q1⟩)
def tIf (t:TT) (ta tb:TE):TE:=λσ H Q=>t σ H λc H1=>if c=true then ta σ H1 Q else tb σ H1 Q
theorem jrm {c:Expr} (hc:PT X c tA) (ha:PE X a ta) (hb:PE X b tb):PE X (.IfExp c a b pos) (tIf tA ta tb):=by
 intro pins s σ H Q I h;refine wpAny_IfExp (thn (hc pins s σ H _ I h) λd s1 ⟨H1,I1,q1⟩=>?_);cases d with
 |true=>exact ha pins s1 σ H1 Q I1 q1
 |false=>exact hb pins s1 σ H1 Q I1 q1
end
def SqL (K:Ab) (H:Hp) (a:Addr) (xs:List V):Prop :=
 Rd H a (.lst xs) \/
  ∃(o:Obj) (its:Array Ae) (n:Nat),K.lookup a=some o/\o.cls=.type "list"/\o.dict=none/\o.data=.seq its n/\its.size<=An/\Vals xs its.toList
def SqT (K:Ab) (H:Hp) (a:Addr) (xs:List V):Prop :=
 Rd H a (.tup xs) \/
  ∃(o:Obj) (its:Array Ae) (n:Nat),K.lookup a=some o/\o.cls=.type "tuple"/\o.data=.seq its n/\its.size<=An/\Vals xs its.toList
def absV:Ae->Option V
 |.none=>some .non
 |.bool b=>some (.bl b)
 |.int i _=>some (.int i)
 |.str x _=>some (.str x)
 |.bytes b _=>some (.byt b)
 |.float b _=>some (.flt b)
 |.ref a=>some (.ref a)
 |.type n=>some (.ty n)
 |_=>none
theorem RelV.abs {x:V} {u:Ae} (r:RelV x u):absV u=some x:=by
 cases x with
 |non=>cases r;rfl
 |bl _=>cases r;rfl
 |int _=>obtain⟨t,rfl⟩:=r;rfl
 |str _=>obtain⟨t,rfl⟩:=r;rfl
 |byt _=>obtain⟨t,rfl⟩:=r;rfl
 |flt _=>obtain⟨t,rfl⟩:=r;rfl
 |ref _=>cases r;rfl
 |ty _=>cases r;rfl
theorem RelV.inj {x y:V} {u:Ae} (r:RelV x u) (q:RelV y u):x=y:=A9 (r.abs.symm.trans q.abs)
theorem Vals.inj:∀{xs ys:List V} {us:List Ae},Vals xs us->Vals ys us->xs=ys
 |_,_,_,.nil,.nil=>rfl
 |_,_,_,.cons r t,.cons r' t'=>by rw[r.inj r',Vals.inj t t']
section
variable {X:Cx} {pins:List (Addr×Obj)} {σ:St} {H:Hp} {s:Ah} {a:Addr} {xs ys:List V}
theorem SqL.of {K:Ab} (h:H a=some (.lst xs)):SqL K H a xs:=.inl (.inl h)
theorem SqT.of {K:Ab} (h:H a=some (.tup xs)):SqT K H a xs:=.inl (.inl h)
theorem Inv.list (I:Inv X pins σ H s) (h:SqL X.K H a xs):∃its:List Ae,Vals xs its/\PlainL s.heap a its.toArray/\xs.length<=An:=by
 rcases h with h | ⟨o,its,n,hk,hc,hd,hs,hz,r⟩
 ·obtain⟨z,its,n,r,e⟩:=h.ok I.hok;exact⟨its,r,⟨_,n,e,rfl,rfl,rfl⟩,z⟩
 ·refine⟨its.toList,r,⟨o,n,I.kIn a o hk,hc,hd,by simpa using hs⟩,?_⟩;have e:=r.length;simp only[Dv]at e;omega
theorem Inv.tuple (I:Inv X pins σ H s) (h:SqT X.K H a xs):∃its:List Ae,Vals xs its/\IsTup s.heap a its.toArray/\xs.length<=An:=by
 rcases h with h | ⟨o,its,n,hk,hc,hs,hz,r⟩
 ·obtain⟨z,its,r,p⟩:=h.ok I.hok;exact⟨its,r,p.tup,z⟩
 ·refine⟨its.toList,r,⟨o,I.kIn a o hk,hc,n,by simpa using hs⟩,?_⟩;have e:=r.length;simp only[Dv]at e;omega
theorem Inv.list_inj (I:Inv X pins σ H s) (h:SqL X.K H a xs) (h':SqL X.K H a ys):xs=ys:=by
 obtain⟨its,r,⟨o,n,e,_,_,d⟩,_⟩:=I.list h;obtain⟨its',r',⟨o',n',e',_,_,d'⟩,_⟩:=I.list h';rw[e]at e';cases e';rw[d]at d';injection d' with d1 _;have:its=its':=by simpa using congrArg Array.toList d1
 subst this;exact r.inj r'
theorem Inv.tuple_inj (I:Inv X pins σ H s) (h:SqT X.K H a xs) (h':SqT X.K H a ys):xs=ys:=by
 obtain⟨its,r,⟨o,e,_,n,d⟩,_⟩:=I.tuple h;obtain⟨its',r',⟨o',e',_,n',d'⟩,_⟩:=I.tuple h';rw[e]at e';cases e';rw[d]at d';injection d' with d1 _;have:its=its':=by simpa using congrArg Array.toList d1
 subst this;exact r.inj r'
end
abbrev Cx.wish (X:Cx) (E:Ae->Ah->Prop):Cx:={ X with xe:=E}
abbrev Cx.nox (X:Cx):Cx:=X.wish λ_ _=>False
theorem Cx.Ok.wish {X:Cx} (ok:X.Ok) (E:Ae->Ah->Prop):(X.wish E).Ok :=
 ⟨ok.mod,ok.kind,ok.glob,ok.blt,ok.above,ok.inj,ok.has,ok.cab,ok.hd,ok.frames,ok.stk,ok.exf,ok.bs,ok.bsz,ok.noex,ok.exfs,ok.funs,ok.frf⟩
theorem Cx.Ok.unwish {X:Cx} {E:Ae->Ah->Prop} (ok:(X.wish E).Ok):X.Ok :=
 ⟨ok.mod,ok.kind,ok.glob,ok.blt,ok.above,ok.inj,ok.has,ok.cab,ok.hd,ok.frames,ok.stk,ok.exf,ok.bs,ok.bsz,ok.noex,ok.exfs,ok.funs,ok.frf⟩
section
variable {X:Cx} {pins:List (Addr×Obj)} {σ:St} {H:Hp} {s:Ah} {E:Ae->Ah->Prop}
theorem Inv.wish (I:Inv X pins σ H s) (E:Ae->Ah->Prop):Inv (X.wish E) pins σ H s:=⟨I.ok.wish E,I.os,I.bare,I.base,I.loc,I.cell,I.free,I.freeC,I.pin,I.hok,I.len⟩
theorem Inv.unwish (I:Inv (X.wish E) pins σ H s):Inv X pins σ H s:=⟨I.ok.unwish,I.os,I.bare,I.base,I.loc,I.cell,I.free,I.freeC,I.pin,I.hok,I.len⟩
theorem SP.unwish {D:Ends} {f:Flow} {s':Ah} (h:SP (X.wish E) pins D f s'):SP X pins D f s':=by
 cases f with
 |next=>obtain⟨σ',H',I,q⟩:=h;exact⟨σ',H',I.unwish,q⟩
 |brk=>obtain⟨σ',H',I,q⟩:=h;exact⟨σ',H',I.unwish,q⟩
 |cont=>obtain⟨σ',H',I,q⟩:=h;exact⟨σ',H',I.unwish,q⟩
 |ret u=>obtain⟨v,σ',H',I,r,q⟩:=h;exact⟨v,σ',H',I.unwish,r,q⟩
theorem PSs.nox {st:List Stmt} {t:TS} (h:PSs X.nox st t):PSs X st t:=λpins s σ H D I hw =>
 Dr (h pins s σ H D (I.wish _) hw) (λ_ _ q=>q.unwish) λ_ _ z=>False.elim z
end
section
variable {X:Cx} {st:Stmt} {rest:List Stmt} {t u:TS} {e:Expr} {te:TE} {pos:Pos}
def jvu:TS:=λD σ H=>D.nx σ H
def tSeq (t u:TS):TS:=λD σ H=>t {D with nx:=u D} σ H
theorem ji1:PSs X [] jvu:=λ_ _ σ H _ I h=>wpAny_execs_nil ⟨σ,H,I,h⟩
theorem jbd (h1:PS X st t) (h2:PSs X rest u):PSs X (st::rest) (tSeq t u):=by
 intro pins s σ H D I h;refine wpAny_execs_cons (thn (h1 pins s σ H {D with nx:=u D} I h) λf s1 q=>?_);cases f with
 |next =>
  obtain⟨σ',H',I',q⟩:=q;exact h2 pins s1 σ' H' D I' q
 |ret v=>exact q
 |brk=>exact q
 |cont=>exact q
theorem jet (h1:PS X st t):PSs X [st] t:=by
 intro pins s σ H D I h;refine wpAny_execs_cons (thn (h1 pins s σ H D I h) λf s1 q=>?_);cases f with
 |next=>exact wpAny_execs_nil q
 |ret v=>exact q
 |brk=>exact q
 |cont=>exact q
theorem Inv.quiet {pins:List (Addr×Obj)} {σ:St} {H:Hp} {s:Ah} (I:Inv X pins σ H s):interactive X.env=false:=by simp[interactive,I.ok.kind]
def jto (te:TE):TS:=λD σ H=>te σ H λ_ H1=>D.nx σ H1
theorem joz (he:PE X e te) (hs:Dt e none pos.line X.env=pure false:=by rfl):PS X (.Expr e pos) (jto te):=by
 intro pins s σ H D I h;exact wpAny_Expr_any (thn (he pins s σ H _ I h) λv s1 ⟨x,H1,I1,r1,q1⟩=>⟨σ,H1,I1,q1⟩) I.quiet hs
def tRet (te:TE):TS:=λD σ H=>te σ H D.rt
theorem jkq (he:PE X e te):PS X (.Return (some e) pos) (tRet te):=by
 intro pins s σ H D I h;exact wpAny_Return_some (thn (he pins s σ H _ I h) λv s1 ⟨x,H1,I1,r1,q1⟩=>⟨x,σ,H1,I1,r1,q1⟩)
def tIfS (c:TT) (t u:TS):TS:=λD σ H=>c σ H λb H1=>if b=true then t D σ H1 else u D σ H1
theorem jri {c:Expr} {a b:List Stmt} {tc:TT} (hc:PT X c tc) (ha:PSs X a t) (hb:PSs X b u):PS X (.If c a b pos) (tIfS tc t u):=by
 intro pins s σ H D I h;refine wpAny_If (thn (hc pins s σ H _ I h) λd s1 ⟨H1,I1,q1⟩=>?_);cases d with
 |true=>exact ha pins s1 σ H1 D I1 q1
 |false=>exact hb pins s1 σ H1 D I1 q1
end
abbrev TG:=V->St->Hp->(St->Hp->Prop)->Prop
abbrev TGs:=List V->St->Hp->(St->Hp->Prop)->Prop
def PG (X:Cx) (target:Expr) (t:TG):Prop :=
 ∀(pins:List (Addr×Obj)) (s:Ah) (σ:St) (H:Hp) (v:V) (u:Ae) (Q:St->Hp->Prop),Inv X pins σ H s->RelV v u->t v σ H Q ->
  A5 (A8 X.prog X.w) X.A (assign target X.env u) (λ_ s'=>∃σ' H',Inv X pins σ' H' s'/\Q σ' H') X.xe s
def PGs (X:Cx) (ts:List Expr) (t:TGs):Prop :=
 ∀(pins:List (Addr×Obj)) (s:Ah) (σ:St) (H:Hp) (vs:List V) (us:List Ae) (Q:St->Hp->Prop),Inv X pins σ H s->Vals vs us->t vs σ H Q ->
  A5 (A8 X.prog X.w) X.A (assignInOrder ((Co ts X.env).map (·.2)) us) (λ_ s'=>∃σ' H',Inv X pins σ' H' s'/\Q σ' H') X.xe s
abbrev TSet:=V->V->V->Hp->(Hp->Prop)->Prop
def PSet (X:Cx) (t:TSet):Prop :=
 ∀(pins:List (Addr×Obj)) (s:Ah) (σ:St) (H:Hp) (o i v:V) (ov iv u:Ae) (Q:Hp->Prop),Inv X pins σ H s->RelV o ov->RelV i iv->RelV v u->t o i v H Q ->
  A5 (A8 X.prog X.w) X.A (setItem ov iv u) (λ_ s'=>∃H',Inv X pins σ H' s'/\Q H') X.xe s
abbrev TIp:=V->V->Hp->VK->Prop
def PIp (X:Cx) (op:Operator) (t:TIp):Prop :=
 ∀(pins:List (Addr×Obj)) (s:Ah) (σ:St) (H:Hp) (x y:V) (v u:Ae) (Q:VK),Inv X pins σ H s->RelV x v->RelV y u->t x y H Q ->
  A5 (A8 X.prog X.w) X.A (inplaceOp op v u) (EP X pins σ Q) X.xe s
section
variable {X:Cx} {pos:Pos}
def jey (i:Nat):TG:=λv σ H Q=>Q (σ.set i (some v)) H
theorem juc {i:Nat} {x:Str} (hN:X.N.Nodup) (hi:X.N[i]?=some x) (hx:Loc X.env.scope x) (hf:X.fn x=true\/X.env.scope.names.lookup x=some .local:=by first | exact .inl rfl | exact .inr rfl | assumption):PG X (.Name x pos) (jey i):=by
 intro pins s σ H v u Q I r h;exact wpAny_assign_Name (jix I hN hi hx r (λs' I'=>⟨_,H,I',h⟩) hf)
def gNil:TGs:=λvs σ H Q=>vs=[]/\Q σ H
def jx3 (t:TG) (u:TGs):TGs:=λvs σ H Q=>∃v r,vs=v::r/\t v σ H λσ' H'=>u r σ' H' Q
theorem jub:PGs X [] gNil:=by
 intro pins s σ H vs us Q I r h;obtain⟨e,h⟩:=h;subst e;cases r;exact assignInOrder_nil ⟨σ,H,I,h⟩
theorem jrl {e:Expr} {es:List Expr} {t:TG} {u:TGs} (h1:PG X e t) (h2:PGs X es u)
  (hs:(Co (e::es) X.env).map (·.2)=assign e X.env::(Co es X.env).map (·.2):=by rfl):PGs X (e::es) (jx3 t u):=by
 intro pins s σ H vs us Q I r h;obtain⟨v,vr,e1,h⟩:=h;subst e1;cases r with
 |cons r rr =>
  rw[hs];refine assignInOrder_cons (thn (h1 pins s σ H _ _ _ I r h) λ_ s1 ⟨σ1,H1,I1,q1⟩=>?_);exact h2 pins s1 σ1 H1 _ _ Q I1 rr q1
def gTup (K:Ab) (n:Nat) (t:TGs):TG:=λv σ H Q=>∃a xs,v=.ref a/\SqT K H a xs/\xs.length=n/\t xs σ H Q
theorem jws {es:List Expr} {k:Nat} {t:TGs} {n:Nat} (hc:X.calm=true) (h:PGs X es t)
  (hn:(Co es X.env).length=n:=by rfl) (hst:(Co es X.env).findIdx? (·.1)=none:=by rfl):PG X (.Tuple es k pos) (gTup X.K n t):=by
 intro pins s σ H v u Q I r hw;obtain⟨a,xs,e1,hq,hl,hw⟩:=hw;subst e1;cases r;obtain⟨its,rv,ht,hz⟩:=I.tuple hq;refine assign_Tuple_tuple (I.ok.hd hc) ht (by simp[hn,<-hl,rv.length]) hst λh' hx=>?_;have I1:Inv X pins σ H {s with heap:=h'}:=I.kept (t':=s.toks) λb o e=>hx b o (Bj (Au e)) e;exact h pins _ σ H xs _ Q I1 (by simpa using rv) hw
def gSub (to ti:TE) (t:TSet):TG:=λv σ H Q=>to σ H λo H1=>ti σ H1 λi H2=>t o i v H2 λH3=>Q σ H3
theorem jmr {o i:Expr} {to ti:TE} {t:TSet} (ho:PE X o to) (hi:PE X i ti) (hs:PSet X t)
  (ha:∀v,assign (.Subscript o i pos) X.env v=(do
   let ov <-holding [v] (eval o X.env)
   let iv <-holding [v,ov] (eval i X.env)
   standAt pos
   holding [v,ov,iv] (setItem ov iv v)
   release [v,ov,iv] []):=by intro _;rfl):PG X (.Subscript o i pos) (gSub to ti t):=by
 intro pins s σ H v u Q I r h;rw[ha];refine Aj (Dz (thn (ho pins s σ H _ I h) λov s1 ⟨x,H1,I1,r1,q1⟩=>?_));refine Aj (Dz (thn (hi pins s1 σ H1 _ I1 q1) λiv s2 ⟨y,H2,I2,r2,q2⟩=>?_));refine Aj (wpAny_standAt (Aj (Dz (thn (hs pins s2 σ H2 x y v ov iv u _ I2 r1 r2 r q2) λ_ s3 ⟨H3,I3,q3⟩=>?_))));exact wpAny_release ⟨σ,H3,I3,q3⟩
def tAsg (te:TE) (g:TG):TS:=λD σ H=>te σ H λx H1=>g x σ H1 D.nx
theorem jkr {tg e:Expr} {te:TE} {g:TG} (he:PE X e te) (hg:PG X tg g) (hs:swapsWithSole [tg] e pos.line X.env=pure false:=by rfl) (hw:swappedStores [tg] e X.env=pure none:=by rfl)
  (h1:(Co [tg] X.env).map (·.2)=[assign tg X.env]:=by rfl):PS X (.Assign [tg] e pos) (tAsg te g):=by
 intro pins s σ H D I h;refine wpAny_Assign_stores (thn (he pins s σ H _ I h) λv s1 ⟨x,H1,I1,r1,q1⟩=>?_) hs hw;rw[h1];exact thn (hg pins s1 σ H1 x v _ I1 r1 q1) λ_ s2 q=>q
theorem jd7 {i:Nat} {x:Str} {e:Expr} {te:TE} {pos':Pos} (hN:X.N.Nodup) (hi:X.N[i]?=some x) (hx:Loc X.env.scope x) (he:PE X e te) (hs:Dt e (some (.Name x pos')) pos.line X.env=pure false:=by rfl) (hf:X.fn x=true\/X.env.scope.names.lookup x=some .local:=by first | exact .inl rfl | exact .inr rfl | assumption) :
  PS X (.Assign [.Name x pos'] e pos) (tAsg te (jey i)):=by
 intro pins s σ H D I h;refine wpAny_Assign_Name (thn (he pins s σ H _ I h) λv s1 ⟨y,H1,I1,r1,q1⟩=>?_) hs;exact jix I1 hN hi hx r1 (λs2 I2=>⟨_,H1,I2,q1⟩) hf
def tAug (i:Nat) (te:TE) (ti:TIp):TS:=λD σ H=>∃x,σ[i]?=some (some x)/\te σ H λy H1=>ti x y H1 λz H2=>D.nx (σ.set i (some z)) H2
theorem jwp {i:Nat} {x:Str} {e:Expr} {te:TE} {op:Operator} {ti:TIp} {pos':Pos} (hN:X.N.Nodup) (hi:X.N[i]?=some x) (hx:Loc X.env.scope x) (he:PE X e te) (ho:PIp X op ti) (hf:X.fn x=true\/X.env.scope.names.lookup x=some .local:=by first | exact .inl rfl | exact .inr rfl | assumption) :
  PS X (.AugAssign (.Name x pos') op e pos) (tAug i te ti):=by
 intro pins s σ H D I h;obtain⟨v,e1,h⟩:=h;obtain⟨m,hn,hl⟩:=I.loc;have vis:Vis X.env.scope x:=by rcases hx with k | k;exact .inl k;exact .inr (.inl k)
 obtain⟨u,r,l⟩:=hl i x v hi e1 vis;refine wpAny_AugAssign_Name ?_;have go:A5 (A8 X.prog X.w) X.A (eval e X.env) (λw s₂=>A5 (A8 X.prog X.w) X.A (inplaceOp op u w) (λr s₃=>A5 (A8 X.prog X.w) X.A (storeName X.env x r) (λ_=>SP X pins D .next) X.xe s₃) X.xe s₂) X.xe s:=by
  refine thn (he pins s σ H _ I h) λw s1 ⟨y,H1,I1,r1,q1⟩=>?_;refine thn (ho pins s1 σ H1 v y u w _ I1 r r1 q1) λz s2 ⟨zv,H2,I2,r2,q2⟩=>?_;exact jix I2 hN hi hx r2 (λs3 I3=>⟨_,H2,I3,q2⟩) hf
 rcases l with⟨hk,hm⟩ | ⟨hk,c,hc,hcell⟩
 ·exact wpAny_loadName_local I.ok.kind hk hn hm go
 ·rcases hk with hk | hk
  ·exact wpAny_loadName_cell I.ok.kind hk hc hcell go
  ·rcases hx with k | k
   ·have:X.env.scope.names.lookup x=some .free:=hk;rw[k]at this;cases this
   ·have:X.env.scope.names.lookup x=some .free:=hk;rw[k]at this;cases this
def ipI (f:Int->Int->Int):TIp:=λx y H Q=>∃i j,x=.int i/\y=.int j/\Q (.int (f i j)) H
theorem jxs:PIp X .Add (ipI λi j=>i+j):=by
 intro pins s σ H x y v u Q I r1 r2 h;obtain⟨i,j,e1,e2,q⟩:=h;subst e1;subst e2;obtain⟨t,rfl⟩:=r1;obtain⟨t',rfl⟩:=r2;exact iadd_int ⟨.int _,H,I.tok _,⟨_,rfl⟩,q⟩
end
section
variable {X:Cx} {pos:Pos}
def js1 (c:TT) (tb:TS):TS:=λD σ H=>∃W:Nat->St->Hp->Prop,(∃m,W m σ H)/\∀m σ H,W m σ H ->
 c σ H λb H1=>if b=true then ∃N:St->Hp->Prop,(∀σ' H',N σ' H'->∃m',m' < m/\W m' σ' H')/\tb {D with nx:=N,ct:=N,bk:=D.nx} σ H1 else D.nx σ H1
theorem jrh {c:Expr} {body:List Stmt} {tc:TT} {tb:TS} (hp:PassesOwn (A8 X.prog X.w) X.A X.env X.xe) (hc:PT X c tc) (hb:PSs X body tb):PS X (.While c body [] pos) (js1 tc tb):=by
 intro pins s σ H D I h;obtain⟨W,⟨m0,w0⟩,turn⟩:=h;refine wpAny_While (codeAny_whileLoop (λn s'=>∃σ' H',Inv X pins σ' H' s'/\W n σ' H') ?_ m0 ⟨σ,H,I,w0⟩)
 rintro n s1 ⟨σ1,H1,I1,w1⟩
 refine Df hp (thn (hc pins s1 σ1 H1 _ I1 (turn n σ1 H1 w1)) λb s2 ⟨H2,I2,q2⟩=>?_);cases b with
 |true =>
  obtain⟨N,hN,q2⟩:=q2;rw[if_pos rfl];refine Df hp (thn (hb pins s2 σ1 H2 _ I2 q2) λf s3 q3=>?_);cases f with
  |next =>
   obtain⟨σ3,H3,I3,n3⟩:=q3;obtain⟨m',hm,w3⟩:=hN σ3 H3 n3;exact⟨m',hm,σ3,H3,I3,w3⟩
  |cont =>
   obtain⟨σ3,H3,I3,n3⟩:=q3;obtain⟨m',hm,w3⟩:=hN σ3 H3 n3;exact⟨m',hm,σ3,H3,I3,w3⟩
  |brk=>exact q3
  |ret v=>exact q3
 |false =>
  rw[if_neg Af];exact wpAny_execs_nil ⟨σ1,H2,I2,q2⟩
end
structure It where
 go:Nat->Hp->Prop
 yld:Nat->Hp->V->Hp->Prop
 stop:Nat->Hp->Prop
def FpOk (X:Cx) (pins:List (Addr×Obj)) (H:Hp) (b:Addr):Prop :=
 H b=none/\b≠X.env.locals/\b∉X.fs/\(b∈X.ex\/X.s₀.heap.objs.size<=b)/\(∀x c,X.env.cells.lookup x=some c->c≠b)/\∀p∈X.pn++pins,p.1≠b
theorem Inv.fpOk {X:Cx} {pins:List (Addr×Obj)} {σ:St} {H H':Hp} {s:Ah} {b:Addr} (I:Inv X pins σ H s) (hb:s.heap.objs.size<=b) (hn:H' b=none):FpOk X pins H' b:=by
 refine⟨hn,Nat.ne_of_gt (Bc I.lt hb),I.nofs hb,.inr (Bk I.sz hb),λx c e z=>?_,λp hp z=>?_⟩
 ·obtain⟨v,q⟩:=I.cell x c e;exact absurd (Bc q.lt (by rw[z];exact hb)) (De _)
 ·exact absurd (Bc (Au (I.pin p hp).1) (by rw[z];exact hb)) (De _)
structure Turn (P:Bi) (w:Bz) (K:Ab) (tg:Expr) (J:It) (fp:List Addr) (it:Addr) (tn:Nat->Heap->Prop):Prop where
 mem:it∈fp
 obj:∀i h,tn i h->∀b∈fp,∃o,h.get? b=some o/\∀v,o.data≠.cell v
 keep:∀i h h',tn i h->(∀b∈fp,∀o,h.get? b=some o->h'.get? b=some o)->tn i h'
 item:∀(X:Cx),X.prog=P->X.w=w->X.K=K->X.calm=true->∀(i:Nat) (pins:List (Addr×Obj)) (s:Ah) (σ:St) (H:Hp) (E:Ae->Ah->Prop),Inv X pins σ H s->(∀b∈fp,FpOk X pins H b)->tn i s.heap->J.go i H ->
  A5 (A8 P w) X.A (pyNext (.ref it)) (λr s1=>∃u,r=some u /\
   A5 (A8 P w) X.A (letOwnedTupleGo tg (.ref it) u) (λ_ s2=>∃x H',Inv X pins σ H' s2/\RelV x u/\J.yld i H x H'/\tn (i+1) s2.heap/\∀b∈fp,H' b=none) E s1) E s
 done:∀(X:Cx),X.prog=P->X.w=w->X.K=K->X.calm=true->∀(i:Nat) (pins:List (Addr×Obj)) (s:Ah) (σ:St) (H:Hp) (E:Ae->Ah->Prop),Inv X pins σ H s->(∀b∈fp,FpOk X pins H b)->tn i s.heap->J.stop i H ->
  A5 (A8 P w) X.A (pyNext (.ref it)) (λr s1=>r=none/\Inv X pins σ H s1) E s
 self:∀(A:Ce) (i:Nat) (s:Ah) (Q:Ae->Ah->Prop) (E:Ae->Ah->Prop),tn i s.heap->Q (.ref it) s->A5 (A8 P w) A (pyIter (.ref it)) Q E s
abbrev TI:=St->Hp->(It->Hp->Prop)->Prop
def PIE (X:Cx) (pins:List (Addr×Obj)) (σ:St) (tg:Expr) (R:It->Hp->Prop) (itv:Ae) (s2:Ah):Prop :=
 ∃(it:Addr) (fp:List Addr) (tn:Nat->Heap->Prop) (J:It) (H':Hp),itv=.ref it/\Inv X pins σ H' s2/\Turn X.prog X.w X.K tg J fp it tn/\tn 0 s2.heap/\(∀b∈fp,FpOk X pins H' b)/\R J H'
def PI (X:Cx) (tg iter:Expr) (wi:TI):Prop :=
 ∀(pins:List (Addr×Obj)) (s:Ah) (σ:St) (H:Hp) (R:It->Hp->Prop),Inv X pins σ H s->wi σ H R ->
  A5 (A8 X.prog X.w) X.A (eval iter X.env) (λv s1=>A5 (A8 X.prog X.w) X.A (pyIter v) (PIE X pins σ tg R) X.xe s1) X.xe s
theorem jr6 {M:Model} {A:Ce} {E:Ae->Ah->Prop} {s:Ah} {tg:Expr} {it:Addr} {u:Ae} {o:Obj} {n:String} {vs:Array Ae} {Q:Unit->Ah->Prop} (ho:s.heap.get? it=some o) (hc:o.cls=.type n) (hd:o.data=.fields vs)
  (hn:["enumerate","zip","dict_itemiterator","dict_reverseitemiterator","odict_iterator","itertools.zip_longest","itertools.pairwise"].contains n=false) (hQ:Q () s):A5 M A (letOwnedTupleGo tg (.ref it) u) Q E s:=by
 unfold letOwnedTupleGo;cases tg<;>first
  |exact Ar hQ
  | (cases u<;>first
    |exact Ar hQ
    | (refine Aj (wpAny_load ho ?_)
       rw[hc,hd];show A5 M A (if (["enumerate","zip","dict_itemiterator","dict_reverseitemiterator","odict_iterator","itertools.zip_longest","itertools.pairwise"].contains n&&vs[0]?==some (rawInt _))=true then _ else _) Q E s;rw[if_neg (by intro h;rw[hn,Bool.false_and]at h;cases h)];exact Ar hQ))
def Itl (K:Ab) (a:Addr):It :=
 ⟨λi H=>∃xs x,SqL K H a xs/\xs[i]?=some x,λi H x H'=>H'=H/\∀xs,SqL K H a xs->xs[i]?=some x,λi H=>∃xs,SqL K H a xs/\xs.length<=i⟩
def Itt (K:Ab) (a:Addr):It :=
 ⟨λi H=>∃xs x,SqT K H a xs/\xs[i]?=some x,λi H x H'=>H'=H/\∀xs,SqT K H a xs->xs[i]?=some x,λi H=>∃xs,SqT K H a xs/\xs.length<=i⟩
def Itr (lo:Int) (n:Nat):It:=⟨λi _=>i < n,λi H x H'=>H'=H/\x=.int (lo+i),λi _=>n<=i⟩
theorem jn5 {P:Bi} {w:Bz} {K:Ab} {tg:Expr} (a it:Addr):Turn P w K tg (Itl K a) [it] it (λi h=>h.IsListIter it a i) where
 mem:=by simp
 obj:=λi h st b hb=>by
  have e:b=it:=by simpa using hb
  subst e;obtain⟨o,e,c,d⟩:=st;exact⟨o,e,λv z=>by rw[d]at z;cases z⟩
 keep:=λi h h' st k=>st.at λo e=>k it (by simp) o e
 item:=by
  intro X hP hw hK hc i pins s σ H E I hf st hg;subst hP hw hK;obtain⟨xs,x,hq,hx⟩:=hg;obtain⟨its,rv,p,hz⟩:=I.list hq;obtain⟨u,hu,ru⟩:=rv.get hx;obtain⟨f0,f1,f2,f3,f4,f5⟩:=hf it (by simp);refine wpAny_pyNext_list_item st p.isList (x:=u) (by simpa using hu) λh' st' sb=>?_;have I1:Inv X pins σ H {s with heap:=h'}:=I.turned (t':=s.toks) (λb o hb e=>(sb.2 b hb).trans e) f0 f1 f3 f4 f5;obtain⟨o,e,c,d⟩:=id st';exact⟨u,rfl,jr6 (s:={ s with heap:=h'}) e c d (by decide) ⟨x,H,I1,ru,⟨rfl,λys hy=>by rw[I.list_inj hy hq];exact hx⟩,st',λb hb=>(hf b hb).1⟩⟩
 done:=by
  intro X hP hw hK hc i pins s σ H E I hf st hg;subst hP hw hK;obtain⟨xs,hq,hx⟩:=hg;obtain⟨its,rv,p,hz⟩:=I.list hq;obtain⟨f0,f1,f2,f3,f4,f5⟩:=hf it (by simp);have hl:=rv.length;exact wpAny_pyNext_list_end (I.ok.hd hc) st p.isList (by simp;omega) λh' eb=>⟨rfl,I.turned (t':=s.toks) (λb o hb e=>eb b o hb e) f0 f1 f3 f4 f5⟩
 self:=λ_ _ _ _ _ st h=>wpAny_pyIter_listiter st h
theorem jna {P:Bi} {w:Bz} {K:Ab} {tg:Expr} (a it:Addr):Turn P w K tg (Itt K a) [it] it (λi h=>h.IsTupleIter it a i) where
 mem:=by simp
 obj:=λi h st b hb=>by
  have e:b=it:=by simpa using hb
  subst e;obtain⟨o,e,c,d⟩:=st;exact⟨o,e,λv z=>by rw[d]at z;cases z⟩
 keep:=λi h h' st k=>st.at λo e=>k it (by simp) o e
 item:=by
  intro X hP hw hK hc i pins s σ H E I hf st hg;subst hP hw hK;obtain⟨xs,x,hq,hx⟩:=hg;obtain⟨its,rv,p,hz⟩:=I.tuple hq;obtain⟨u,hu,ru⟩:=rv.get hx;obtain⟨f0,f1,f2,f3,f4,f5⟩:=hf it (by simp);refine wpAny_pyNext_tuple_item st (show s.heap.IsTuple a its.toArray from p) (x:=u) (by simpa using hu) λh' st' sb=>?_;have I1:Inv X pins σ H {s with heap:=h'}:=I.turned (t':=s.toks) (λb o hb e=>(sb.2 b hb).trans e) f0 f1 f3 f4 f5;obtain⟨o,e,c,d⟩:=id st';exact⟨u,rfl,jr6 (s:={ s with heap:=h'}) e c d (by decide) ⟨x,H,I1,ru,⟨rfl,λys hy=>by rw[I.tuple_inj hy hq];exact hx⟩,st',λb hb=>(hf b hb).1⟩⟩
 done:=by
  intro X hP hw hK hc i pins s σ H E I hf st hg;subst hP hw hK;obtain⟨xs,hq,hx⟩:=hg;obtain⟨its,rv,p,hz⟩:=I.tuple hq;obtain⟨f0,f1,f2,f3,f4,f5⟩:=hf it (by simp);have hl:=rv.length;exact wpAny_pyNext_tuple_end (I.ok.hd hc) st (show s.heap.IsTuple a its.toArray from p) (by simp;omega) λh' eb=>⟨rfl,I.turned (t':=s.toks) (λb o hb e=>eb b o hb e) f0 f1 f3 f4 f5⟩
 self:=λ_ _ _ _ _ st h=>wpAny_pyIter_tupleiter st h
theorem jnb {P:Bi} {w:Bz} {K:Ab} {tg:Expr} (it:Addr) (lo:Int) (n:Nat):Turn P w K tg (Itr lo n) [it] it (λi h=>IsRangeIter h it (lo+(i:Nat)*1) ((n:Int) - (i:Nat)) 1) where
 mem:=by simp
 obj:=λi h st b hb=>by
  have e:b=it:=by simpa using hb
  subst e;exact⟨_,st,λv z=>by
   have z':Data.fields _=Data.cell v:=z;cases z'⟩
 keep:=λi h h' st k=>k it (by simp) _ st
 item:=by
  intro X hP hw hK hc i pins s σ H E I hf st hg;subst hP hw hK;obtain⟨f0,f1,f2,f3,f4,f5⟩:=hf it (by simp);have W:=Walks.range (prog:=X.prog) (w:=X.w) (I.ok.hd hc) it lo 1 n;refine W.item i s _ _ hg st λv h' tk hv st' kk=>?_;obtain⟨t,rfl⟩:=hv;have I1:Inv X pins σ H {s with heap:=h',toks:=tk}:=I.turned (λb o hb e=>kk b o (by simpa using hb) e) f0 f1 f3 f4 f5;refine⟨_,rfl,jr6 (s:={ s with heap:=h',toks:=tk}) (n:="range_iterator") st' rfl rfl (by decide) ⟨.int (lo+i),H,I1,⟨t,?_⟩,⟨rfl,rfl⟩,st',λb hb=>(hf b hb).1⟩⟩;rw[Int.mul_one]
 done:=by
  intro X hP hw hK hc i pins s σ H E I hf st hg;subst hP hw hK;obtain⟨f0,f1,f2,f3,f4,f5⟩:=hf it (by simp);exact wpAny_pyNext_range_end (I.ok.hd hc) st (by have:n<=i:=hg;omega) λh' eb=>⟨rfl,I.turned (t':=s.toks) (λb o hb e=>eb b o hb e) f0 f1 f3 f4 f5⟩
 self:=λ_ _ _ _ _ st h=>wpAny_pyIter_rangeiter st h
section
variable {X:Cx} {tg:Expr}
def jux (K:Ab) (tl:TE):TI:=λσ H R=>tl σ H λx H1=>∃a,x=.ref a/\(∃xs,SqL K H1 a xs)/\R (Itl K a) H1
def iTup (K:Ab) (tl:TE):TI:=λσ H R=>tl σ H λx H1=>∃a,x=.ref a/\(∃xs,SqT K H1 a xs)/\R (Itt K a) H1
theorem jua {l:Expr} {tl:TE} (hl:PE X l tl):PI X tg l (jux X.K tl):=by
 intro pins s σ H R I h;refine thn (hl pins s σ H _ I h) λv s1 ⟨x,H1,I1,r1,q1⟩=>?_;obtain⟨a,e,⟨xs,hq⟩,q⟩:=q1;subst e;cases r1;obtain⟨its,rv,p,hz⟩:=I1.list hq;refine wpAny_pyIter_list p.isList ?_;refine⟨s1.heap.objs.size,[s1.heap.objs.size],_,_,H1,rfl,I1.kept (t':=s1.toks) λb o e=>Ao _ e,jn5 a _,⟨_,Bn _ rfl,rfl,rfl⟩,λb hb=>?_,q⟩;have e:b=s1.heap.objs.size:=by simpa using hb
 subst e;exact I1.fpOk (As _) (I1.hok.fresh (As _))
theorem jwq {l:Expr} {tl:TE} (hl:PE X l tl):PI X tg l (iTup X.K tl):=by
 intro pins s σ H R I h;refine thn (hl pins s σ H _ I h) λv s1 ⟨x,H1,I1,r1,q1⟩=>?_;obtain⟨a,e,⟨xs,hq⟩,q⟩:=q1;subst e;cases r1;obtain⟨its,rv,p,hz⟩:=I1.tuple hq;refine wpAny_pyIter_tuple (show s1.heap.IsTuple a its.toArray from p) ?_;refine⟨s1.heap.objs.size,[s1.heap.objs.size],_,_,H1,rfl,I1.kept (t':=s1.toks) λb o e=>Ao _ e,jna a _,⟨_,Bn _ rfl,rfl,rfl⟩,λb hb=>?_,q⟩;have e:b=s1.heap.objs.size:=by simpa using hb
 subst e;exact I1.fpOk (As _) (I1.hok.fresh (As _))
theorem jrc {pins:List (Addr×Obj)} {σ:St} {H:Hp} {s:Ah} {R:It->Hp->Prop} {E:Ae->Ah->Prop} {lo hi:Int} {t u v:Tok} {tk:Nat} (I:Inv X pins σ H s) (h1:-(2 ^ 62)<=lo) (h2:lo < 2 ^ 62) (h3:-(2 ^ 62)<=hi) (h4:hi < 2 ^ 62)
  (q:R (Itr lo (hi - lo).toNat) H):A5 (A8 X.prog X.w) X.A (pyIter (.ref s.heap.objs.size)) (PIE X pins σ tg R) E {s with heap:=s.heap.push {cls:=.type "range",data:=.fields #[.int lo t,.int hi u,.int 1 v]},toks:=tk}:=by
 refine wpAny_pyIter_range (IsRange.new ..) (small_one h1 h2 h3 h4) ?_;have I1:Inv X pins σ H {s with heap:=s.heap.push {cls:=.type "range",data:=.fields #[.int lo t,.int hi u,.int 1 v]},toks:=tk}:=I.kept λb o e=>Ao _ e;refine⟨(s.heap.push {cls:=.type "range",data:=.fields #[.int lo t,.int hi u,.int 1 v]}).objs.size,[(s.heap.push {cls:=.type "range",data:=.fields #[.int lo t,.int hi u,.int 1 v]}).objs.size],_,_,H,rfl,
  I1.kept (t':=tk) λb o e=>Ao _ e,jnb _ lo (hi - lo).toNat,?_,λb hb=>?_,q⟩
 ·have e1:lo+((0:Nat):Int)*1=lo:=by simp
  have e2:(((hi - lo).toNat:Nat):Int) - ((0:Nat):Int)=Builtin.Range.rangeSize lo hi 1:=by rw[rangeSize_one];split<;>omega
  show IsRangeIter _ _ (lo+((0:Nat):Int)*1) ((((hi - lo).toNat:Nat):Int) - ((0:Nat):Int)) 1;rw[e1,e2];exact Bn _ rfl
 ·have e:b=(s.heap.push {cls:=.type "range",data:=.fields #[.int lo t,.int hi u,.int 1 v]}).objs.size:=by simpa using hb
  subst e;exact I1.fpOk (As _) (I1.hok.fresh (As _))
def jxz (ta:TA):TI:=λσ H R=>ta σ H λvs H1=>∃j:Int,vs=[.int j]/\-(2 ^ 62)<=j/\j < 2 ^ 62/\R (Itr 0 j.toNat) H1
theorem jo3 {a:Expr} {ta:TA} {p pos:Pos} (hg:Gl X "range") (hm:X.mg "range"=none) (ha:PA X [a] ta) (hs:Ay [a] X.env=[(false,eval a X.env)]:=by rfl):PI X tg (.Call (.Name "range" p) [a] [] pos) (jxz ta):=by
 intro pins s σ H R I h;refine Call_ (jmy I hg hm boot_range (PyProof.Rows.callWith_type1 (thn (ha pos pins s σ H _ I h) λus s1 ⟨vs,H1,I1,r1,q1⟩=>?_) hs rfl));obtain⟨j,e,q1,q2,q⟩:=q1;subst e;cases r1 with
 |cons r rr =>
  cases rr;obtain⟨t,rfl⟩:=r;exact call_range_1 (jrc I1 (by omega) (by omega) q1 q2 (by simpa using q))
def tFor (wi:TI) (g:TG) (tb:TS):TS:=λD σ H=>wi σ H λJ H1=>∃W:Nat->Nat->St->Hp->Prop,(∃m,W 0 m σ H1)/\∀i m σ H,W i m σ H ->
 (J.stop i H/\D.nx σ H)\/(J.go i H/\∃N:St->Hp->Prop,(∀σ' H',N σ' H'->∃m',m' < m/\W (i+1) m' σ' H')/\∀x H',J.yld i H x H'->g x σ H' λσ2 H2=>tb {D with nx:=N,ct:=N,bk:=D.nx} σ2 H2)
def jib (fp:List Addr) (h:Heap):List (Addr×Obj):=fp.filterMap λb=>(h.get? b).map λo=>(b,o)
theorem jbx {fp:List Addr} {h:Heap} {b:Addr} {o:Obj} (hb:b∈fp) (e:h.get? b=some o):(b,o)∈jib fp h:=List.mem_filterMap.mpr ⟨b,hb,by rw[e];rfl⟩
theorem jpj {fp:List Addr} {h:Heap} {p:Addr×Obj} (hp:p∈jib fp h):p.1∈fp/\h.get? p.1=some p.2:=by
 obtain⟨b,hb,e⟩:=List.mem_filterMap.mp hp;cases q:h.get? b with
 |none=>rw[q]at e;cases e
 |some o =>
  rw[q]at e;have e':(b,o)=p:=A9 e;subst e';exact⟨hb,q⟩
theorem Inv.pinned {pins:List (Addr×Obj)} {σ:St} {H:Hp} {s:Ah} {fp:List Addr} (I:Inv X pins σ H s) (hf:∀b∈fp,FpOk X pins H b) (ho:∀b∈fp,∃o,s.heap.get? b=some o/\∀v,o.data≠.cell v):Inv X (pins++jib fp s.heap) σ H s :=
 I.pins_of λp hp=>(A6.mp hp).elim (λz=>I.pin p (A0 _ z)) λz=>by
  obtain⟨hb,e⟩:=jpj z;obtain⟨f0,f1,f2,_⟩:=hf p.1 hb;obtain⟨o,e',d⟩:=ho p.1 hb;rw[e]at e';cases e';exact⟨e,f0,f1,f2,d⟩
theorem Inv.unpinned {pins pl:List (Addr×Obj)} {σ:St} {H:Hp} {s:Ah} (I:Inv X (pins++pl) σ H s):Inv X pins σ H s:=I.pins_of λp hp=>I.pin p (A0 _ (Dh _ hp))
theorem jwo {iter:Expr} {body:List Stmt} {wi:TI} {g:TG} {tb:TS} {pos:Pos} (hp:PassesOwn (A8 X.prog X.w) X.A X.env X.xe) (hc:X.calm=true) (hi:PI X tg iter wi) (hg:PG X tg g) (hb:PSs X body tb)
  (hs:∀x,Cy iter X.env x=pure x:=by intro _;rfl):PS X (.For tg iter body [] pos) (tFor wi g tb):=by
 intro pins s σ H D I h;refine wpAny_For (thn (hi pins s σ H _ I h) λv s1 h1=>thn h1 λitv s2 h2=>?_) hs;obtain⟨it,fp,tn,J,H2,e,I2,T,st2,f2,W,⟨m0,w0⟩,turn⟩:=h2;subst e
 -- what stays true of the iterator's objects through the loop
 have stat:∀{H':Hp},(∀b∈fp,H' b=none)->∀b∈fp,FpOk X pins H' b:=λhn b hb=>⟨hn b hb,(f2 b hb).2⟩;refine codeAny_forLoop_any (λn s'=>∃i σ' H',Inv X pins σ' H' s'/\tn i s'.heap/\(∀b∈fp,H' b=none)/\W i n σ' H') ?_ m0 ⟨0,σ,H2,I2,st2,λb hb=>(f2 b hb).1,w0⟩
 rintro n s3 ⟨i,σ3,H3,I3,st3,fr3,w3⟩
 rcases turn i n σ3 H3 w3 with⟨stop,qn⟩ | ⟨go,N,hN,step⟩
 ·refine Df hp (thn (T.done X rfl rfl rfl hc i pins s3 σ3 H3 X.xe I3 (stat fr3) st3 stop) λr s4 ⟨hr,I4⟩=>?_);subst hr;exact wpAny_execs_nil ⟨σ3,H3,I4,qn⟩
 ·refine Df hp (thn (T.item X rfl rfl rfl hc i pins s3 σ3 H3 X.xe I3 (stat fr3) st3 go) λr s4 ⟨u,hr,h4⟩=>?_);subst hr;refine Df hp (thn h4 λ_ s5 ⟨x,H5,I5,r5,y5,st5,fr5⟩=>?_);have I5':=I5.pinned (stat fr5) (T.obj _ _ st5);refine Df hp (thn (hg _ s5 σ3 H5 x u _ I5' r5 (step x H5 y5)) λ_ s6 ⟨σ6,H6,I6,q6⟩=>?_);refine Df hp (thn (hb _ s6 σ6 H6 _ I6 q6) λf s7 q7=>?_);have again:∀{σ7:St} {H7:Hp},Inv X (pins++jib fp s5.heap) σ7 H7 s7->N σ7 H7->∃m,m < n/\∃i σ' H',Inv X pins σ' H' s7/\tn i s7.heap/\(∀b∈fp,H' b=none)/\W i m σ' H':=λ{σ7 H7} I7 n7=>by
   obtain⟨m',hm,w7⟩:=hN σ7 H7 n7;refine⟨m',hm,i+1,σ7,H7,I7.unpinned,T.keep _ _ _ st5 λb hb o e=>(I7.pin (b,o) (A0 _ (A0 _ (jbx hb e)))).1,λb hb=>?_,w7⟩;obtain⟨o,e,d⟩:=T.obj _ _ st5 b hb;exact(I7.pin (b,o) (A0 _ (A0 _ (jbx hb e)))).2.1
  cases f with
  |next=>obtain⟨σ7,H7,I7,n7⟩:=q7;exact again I7 n7
  |cont=>obtain⟨σ7,H7,I7,n7⟩:=q7;exact again I7 n7
  |brk=>obtain⟨σ7,H7,I7,q7⟩:=q7;exact⟨σ7,H7,I7.unpinned,q7⟩
  |ret v=>obtain⟨x7,σ7,H7,I7,r7,q7⟩:=q7;exact⟨x7,σ7,H7,I7.unpinned,r7,q7⟩
end
abbrev R2:=V->V->Hp->VK->Prop
def OpR (X:Cx) (f:Ae->Ae->Sem Ae) (r:R2):Prop :=
 ∀(pins:List (Addr×Obj)) (s:Ah) (σ:St) (H:Hp) (x y:V) (v u:Ae) (Q:VK),Inv X pins σ H s->RelV x v->RelV y u->r x y H Q ->
  A5 (A8 X.prog X.w) X.A (f v u) (EP X pins σ Q) X.xe s
def UnR (X:Cx) (f:Ae->Sem Ae) (r:V->Hp->VK->Prop):Prop :=
 ∀(pins:List (Addr×Obj)) (s:Ah) (σ:St) (H:Hp) (x:V) (v:Ae) (Q:VK),Inv X pins σ H s->RelV x v->r x H Q ->
  A5 (A8 X.prog X.w) X.A (f v) (EP X pins σ Q) X.xe s
def CallR (X:Cx) (f:Ae) (r:List V->Hp->VK->Prop):Prop :=
 ∀(pins:List (Addr×Obj)) (s:Ah) (σ:St) (H:Hp) (xs:List V) (us:List Ae) (Q:VK),Inv X pins σ H s->Vals xs us->r xs H Q ->
  A5 (A8 X.prog X.w) X.A (call f us) (EP X pins σ Q) X.xe s
def TruR (X:Cx) (r:V->Hp->(Bool->Hp->Prop)->Prop):Prop :=
 ∀(pins:List (Addr×Obj)) (s:Ah) (σ:St) (H:Hp) (x:V) (v:Ae) (Q:Bool->Hp->Prop),Inv X pins σ H s->RelV x v->r x H Q ->
  A5 (A8 X.prog X.w) X.A (truthy v) (TP X pins σ Q) X.xe s
def tOp (r:R2) (ta tb:TE):TE:=λσ H Q=>ta σ H λx H1=>tb σ H1 λy H2=>r x y H2 Q
def tUn (r:V->Hp->VK->Prop) (ta:TE):TE:=λσ H Q=>ta σ H λx H1=>r x H1 Q
def rI (C:Int->Int->Prop) (g:Int->Int->V):R2:=λx y H Q=>∃i j,x=.int i/\y=.int j/\C i j/\Q (g i j) H
def rI0 (g:Int->Int->V):R2:=λx y H Q=>∃i j,x=.int i/\y=.int j/\Q (g i j) H
def rU (g:Int->V):V->Hp->VK->Prop:=λx H Q=>∃i,x=.int i/\Q (g i) H
section
variable {X:Cx} {a b c:Expr} {ta tb tc:TE} {pos:Pos}
theorem binT (ha:PE X a ta) (hb:PE X b tb) {pins:List (Addr×Obj)} {s:Ah} {σ:St} {H:Hp} {R:V->V->Hp->Prop} (I:Inv X pins σ H s)
  (h:ta σ H λx H1=>tb σ H1 λy H2=>R x y H2) {Q:Ae->Ah->Prop} {f:Ae->Ae->Sem Ae}
  (hf:∀v u s2 x y H2,Inv X pins σ H2 s2->RelV x v->RelV y u->R x y H2->A5 (A8 X.prog X.w) X.A (f v u) Q X.xe s2) :
  A5 (A8 X.prog X.w) X.A (eval a X.env) (λv s₁=>A5 (A8 X.prog X.w) X.A (eval b X.env) (λu s₂=>A5 (A8 X.prog X.w) X.A (f v u) Q X.xe s₂) X.xe s₁) X.xe s:=by
 refine thn (ha pins s σ H _ I h) λv s1 ⟨x,H1,I1,r1,q1⟩=>?_;refine thn (hb pins s1 σ H1 _ I1 q1) λu s2 ⟨y,H2,I2,r2,q2⟩=>?_;exact hf v u s2 x y H2 I2 r1 r2 q2
theorem jbz {op:Operator} {r:R2} (ho:OpR X (Cz op) r) (ha:PE X a ta) (hb:PE X b tb):PE X (.BinOp a op b pos) (tOp r ta tb):=by
 intro pins s σ H Q I h;exact wpAny_BinOp (binT ha hb I h λv u s2 x y H2 I2 rx ry q=>ho pins s2 σ H2 x y v u Q I2 rx ry q)
theorem jwt {op:UnaryOp} {r:V->Hp->VK->Prop} (ho:UnR X (unaryOp op) r) (ha:PE X a ta):PE X (.UnaryOp op a pos) (tUn r ta):=by
 intro pins s σ H Q I h;exact UnaryOp_ (thn (ha pins s σ H _ I h) λv s1 ⟨x,H1,I1,r1,q1⟩=>ho pins s1 σ H1 x v Q I1 r1 q1)
theorem opI {f:Ae->Ae->Sem Ae} {C:Int->Int->Prop} {g:Int->Int->Int}
  (rule:∀(i j:Int) (t u:Tok) (s:Ah) (Q:Ae->Ah->Prop) (E:Ae->Ah->Prop),C i j->Q (.int (g i j) s.toks) {s with toks:=s.toks+1}->A5 (A8 X.prog X.w) X.A (f (.int i t) (.int j u)) Q E s) :
  OpR X f (rI C λi j=>.int (g i j)):=by
 intro pins s σ H x y v u Q I rx ry h;obtain⟨i,j,rfl,rfl,hc,q⟩:=h;obtain⟨t,rfl⟩:=rx;obtain⟨t',rfl⟩:=ry;exact rule i j t t' s _ _ hc ⟨.int (g i j),H,I.tok _,⟨_,rfl⟩,q⟩
theorem opI0 {f:Ae->Ae->Sem Ae} {g:Int->Int->Int}
  (rule:∀(i j:Int) (t u:Tok) (s:Ah) (Q:Ae->Ah->Prop) (E:Ae->Ah->Prop),Q (.int (g i j) s.toks) {s with toks:=s.toks+1}->A5 (A8 X.prog X.w) X.A (f (.int i t) (.int j u)) Q E s) :
  OpR X f (rI0 λi j=>.int (g i j)):=by
 intro pins s σ H x y v u Q I rx ry h;obtain⟨i,j,rfl,rfl,q⟩:=h;obtain⟨t,rfl⟩:=rx;obtain⟨t',rfl⟩:=ry;exact rule i j t t' s _ _ ⟨.int (g i j),H,I.tok _,⟨_,rfl⟩,q⟩
theorem opB0 {f:Ae->Ae->Sem Ae} {g:Int->Int->Bool}
  (rule:∀(i j:Int) (t u:Tok) (s:Ah) (Q:Ae->Ah->Prop) (E:Ae->Ah->Prop),Q (.bool (g i j)) s->A5 (A8 X.prog X.w) X.A (f (.int i t) (.int j u)) Q E s) :
  OpR X f (rI0 λi j=>.bl (g i j)):=by
 intro pins s σ H x y v u Q I rx ry h;obtain⟨i,j,rfl,rfl,q⟩:=h;obtain⟨t,rfl⟩:=rx;obtain⟨t',rfl⟩:=ry;exact rule i j t t' s _ _ ⟨.bl (g i j),H,I,rfl,q⟩
def CDiv (i j:Int):Prop:=0 < j/\j < 1073741824
def CPow (i j:Int):Prop:=0<=j/\j<=1000000/\i.natAbs < 2 ^ 64
def CMul (i j:Int):Prop:=(-(2 ^ 64) < i/\i < 2 ^ 64)\/(-(2 ^ 64) < j/\j < 2 ^ 64)
theorem CMul.ok {i j:Int} (h:CMul i j):IntMulOk i j:=by
 rcases h with⟨h1,h2⟩ | ⟨h1,h2⟩
 ·exact .of_left (intBits_le_64 h1 h2)
 ·exact .of_right (intBits_le_64 h1 h2)
theorem op_add:OpR X (Cz .Add) (rI0 λi j=>.int (i+j)):=opI0 λ_ _ _ _ _ _ _ q=>add_int q
theorem jw4:OpR X (Cz .Sub) (rI0 λi j=>.int (i - j)):=opI0 λ_ _ _ _ _ _ _ q=>sub_int q
theorem jic:OpR X (Cz .Mult) (rI CMul λi j=>.int (i*j)):=opI λ_ _ _ _ _ _ _ hc q=>mul_int q hc.ok
theorem jph:OpR X (Cz .FloorDiv) (rI CDiv λi j=>.int (i / j)):=opI λi j _ _ _ _ _ hc q=>by
 have h1:(0:Int) < j:=hc.1;have h2:j < 1073741824:=hc.2;exact floordiv_int (by omega) (by rw[Int.fdiv_eq_ediv_of_nonneg i (by omega)];exact q) (.inl (PyProof.noPylong_small (by omega)))
theorem jfe:OpR X (Cz .Mod) (rI (λ_ j=>0 < j) λi j=>.int (i % j)):=opI λi j _ _ _ _ _ hc q=>by
 have h1:(0:Int) < j:=hc;exact mod_int' (by omega) (by rw[Int.fmod_eq_emod_of_nonneg i (by omega)];exact q)
theorem js9:OpR X (Cz .Pow) (rI CPow λi j=>.int (i ^ j.toNat)):=opI λ_ _ _ _ _ _ _ hc q=>pow_int_small hc.1 hc.2.1 hc.2.2 q
theorem unI {f:Ae->Sem Ae} {g:Int->Int}
  (rule:∀(i:Int) (t:Tok) (s:Ah) (Q:Ae->Ah->Prop) (E:Ae->Ah->Prop),Q (.int (g i) s.toks) {s with toks:=s.toks+1}->A5 (A8 X.prog X.w) X.A (f (.int i t)) Q E s) :
  UnR X f (rU λi=>.int (g i)):=by
 intro pins s σ H x v Q I rx h;obtain⟨i,rfl,q⟩:=h;obtain⟨t,rfl⟩:=rx;exact rule i t s _ _ ⟨.int (g i),H,I.tok _,⟨_,rfl⟩,q⟩
theorem jsy:UnR X (unaryOp .USub) (rU λi=>.int (-i)):=unI λ_ _ _ _ _ q=>neg_int q
end
def scal:V->V->Bool
 |.non,.non=>true | .non,.int _=>true | .int _,.non=>true | .non,.bl _=>true | .bl _,.non=>true | .non,.str _=>true | .str _,.non=>true
 |.int _,.int _=>true | .bl _,.bl _=>true | .str _,.str _=>true | .byt _,.byt _=>true
 |.int _,.str _=>true | .str _,.int _=>true | .bl _,.str _=>true | .str _,.bl _=>true
 |_,_=>false
def rEq:R2:=λx y H Q=>scal x y=true/\Q (.bl (decide (x=y))) H
def rNe:R2:=λx y H Q=>scal x y=true/\Q (.bl (!decide (x=y))) H
theorem jp8 {i j:Int}:decide (V.int i=V.int j)=(i==j):=by
 rw[C8];simp
theorem jti {i j:Bool}:decide (V.bl i=V.bl j)=(i==j):=by
 rw[C8];simp
theorem jp7 {i j:Str}:decide (V.str i=V.str j)=(i==j):=by
 rw[C8];simp
theorem jp9 {i j:Array UInt8}:decide (V.byt i=V.byt j)=(i.toList==j.toList):=by
 rw[C8];cases i;cases j;simp
section
variable {X:Cx} {a b c:Expr} {ta tb tc:TE} {pos:Pos}
theorem jat {pins:List (Addr×Obj)} {σ:St} {H:Hp} {s:Ah} {Q:VK} {k k':Bool} (I:Inv X pins σ H s) (q:Q (.bl k) H) (e:k=k'):EP X pins σ Q (.bool k') s:=by
 subst e;exact⟨.bl k,H,I,rfl,q⟩
theorem op_eq:OpR X (A2 .Eq) rEq:=by
 intro pins s σ H x y v u Q I rx ry h;obtain⟨hs,q⟩:=h;cases x with
 |non =>
  cases rx;cases y with
  |non=>cases ry;exact PySem.EqNone.eq_none_none (jat I q (by simp))
  |bl j=>cases ry;exact PySem.EqNone.eq_none_bool (jat I q (by simp))
  |int j=>obtain⟨t',rfl⟩:=ry;exact PySem.EqNone.eq_none_int (jat I q (by simp))
  |str j=>obtain⟨t',rfl⟩:=ry;exact PySem.EqNone.eq_none_str (jat I q (by simp))
  |_=>exact absurd (show false=true from hs) Af
 |bl i =>
  cases rx;cases y with
  |non=>cases ry;exact PySem.EqNone.eq_bool_none (jat I q (by simp))
  |bl j=>cases ry;exact eq_bool (jat I q jti)
  |str j=>obtain⟨t',rfl⟩:=ry;exact PySem.EqMixed.eq_bool_str (jat I q (by simp))
  |_=>exact absurd (show false=true from hs) Af
 |int i =>
  obtain⟨t,rfl⟩:=rx;cases y with
  |non=>cases ry;exact PySem.EqNone.eq_int_none (jat I q (by simp))
  |int j=>obtain⟨t',rfl⟩:=ry;exact eq_int (jat I q jp8)
  |str j=>obtain⟨t',rfl⟩:=ry;exact PySem.EqMixed.eq_int_str (jat I q (by simp))
  |_=>exact absurd (show false=true from hs) Af
 |str i =>
  obtain⟨t,rfl⟩:=rx;cases y with
  |non=>cases ry;exact PySem.EqNone.eq_str_none (jat I q (by simp))
  |bl j=>cases ry;exact PySem.EqMixed.eq_str_bool (jat I q (by simp))
  |int j=>obtain⟨t',rfl⟩:=ry;exact PySem.EqMixed.eq_str_int (jat I q (by simp))
  |str j=>obtain⟨t',rfl⟩:=ry;exact eq_str (jat I q jp7)
  |_=>exact absurd (show false=true from hs) Af
 |byt i =>
  obtain⟨t,rfl⟩:=rx;cases y with
  |byt j=>obtain⟨t',rfl⟩:=ry;exact PySem.W.eq_bytes (jat I q jp9)
  |_=>exact absurd (show false=true from hs) Af
 |_=>cases y<;>exact absurd (show false=true from hs) Af
theorem jzg:OpR X (A2 .NotEq) rNe:=by
 intro pins s σ H x y v u Q I rx ry h;obtain⟨hs,q⟩:=h;cases x with
 |non =>
  cases rx;cases y with
  |non=>cases ry;exact PySem.EqNone.ne_none_none (jat I q (by simp))
  |bl j=>cases ry;exact PySem.EqNone.ne_none_bool (jat I q (by simp))
  |int j=>obtain⟨t',rfl⟩:=ry;exact PySem.EqNone.ne_none_int (jat I q (by simp))
  |str j=>obtain⟨t',rfl⟩:=ry;exact PySem.EqNone.ne_none_str (jat I q (by simp))
  |_=>exact absurd (show false=true from hs) Af
 |bl i =>
  cases rx;cases y with
  |non=>cases ry;exact PySem.EqNone.ne_bool_none (jat I q (by simp))
  |bl j=>cases ry;exact ne_bool (jat I q (congrArg not jti))
  |str j=>obtain⟨t',rfl⟩:=ry;exact PySem.EqMixed.ne_bool_str (jat I q (by simp))
  |_=>exact absurd (show false=true from hs) Af
 |int i =>
  obtain⟨t,rfl⟩:=rx;cases y with
  |non=>cases ry;exact PySem.EqNone.ne_int_none (jat I q (by simp))
  |int j=>obtain⟨t',rfl⟩:=ry;exact ne_int (jat I q (congrArg not jp8))
  |str j=>obtain⟨t',rfl⟩:=ry;exact PySem.EqMixed.ne_int_str (jat I q (by simp))
  |_=>exact absurd (show false=true from hs) Af
 |str i =>
  obtain⟨t,rfl⟩:=rx;cases y with
  |non=>cases ry;exact PySem.EqNone.ne_str_none (jat I q (by simp))
  |bl j=>cases ry;exact PySem.EqMixed.ne_str_bool (jat I q (by simp))
  |int j=>obtain⟨t',rfl⟩:=ry;exact PySem.EqMixed.ne_str_int (jat I q (by simp))
  |str j=>obtain⟨t',rfl⟩:=ry;exact ne_str (jat I q (congrArg not jp7))
  |_=>exact absurd (show false=true from hs) Af
 |byt i =>
  obtain⟨t,rfl⟩:=rx;cases y with
  |byt j=>obtain⟨t',rfl⟩:=ry;exact PySem.W.ne_bytes (jat I q (congrArg not jp9))
  |_=>exact absurd (show false=true from hs) Af
 |_=>cases y<;>exact absurd (show false=true from hs) Af
theorem op_lt:OpR X (A2 .Lt) (rI0 λi j=>.bl (decide (i < j))):=opB0 λ_ _ _ _ _ _ _ q=>lt_int q
theorem op_le:OpR X (A2 .LtE) (rI0 λi j=>.bl (decide (i<=j))):=opB0 λ_ _ _ _ _ _ _ q=>le_int q
theorem op_gt:OpR X (A2 .Gt) (rI0 λi j=>.bl (decide (j < i))):=opB0 λ_ _ _ _ _ _ _ q=>gt_int q
theorem op_ge:OpR X (A2 .GtE) (rI0 λi j=>.bl (decide (j<=i))):=opB0 λ_ _ _ _ _ _ _ q=>ge_int q
theorem jpb:OpR X (A2 .Lt) (λx y H Q=>∃i j,x=.str i/\y=.str j/\Q (.bl (decide (i.cps.toList < j.cps.toList))) H):=by
 intro pins s σ H x y v u Q I rx ry h;obtain⟨i,j,rfl,rfl,q⟩:=h;obtain⟨t,rfl⟩:=rx;obtain⟨t',rfl⟩:=ry;exact lt_str (jat I q rfl)
theorem jpd:OpR X (A2 .In) (λx y H Q=>∃i j,x=.str i/\y=.str j/\Q (.bl (!(D1 j i 0 j.length 1).isEmpty)) H):=by
 intro pins s σ H x y v u Q I rx ry h;obtain⟨i,j,rfl,rfl,q⟩:=h;obtain⟨t,rfl⟩:=rx;obtain⟨t',rfl⟩:=ry;exact in_str (jat I q rfl)
theorem juk:OpR X (A2 .IsNot) (λx y H Q=>y=.non/\Q (.bl (!decide (x=.non))) H):=by
 intro pins s σ H x y v u Q I rx ry h;obtain⟨rfl,q⟩:=h;cases ry;refine isnot_none_gen (jat I q ?_);cases x<;>first
  | (cases rx;rfl)
  | (obtain⟨t,rfl⟩:=rx;rfl)
theorem OpR.or {f:Ae->Ae->Sem Ae} {r r':R2} (h:OpR X f r) (h':OpR X f r'):OpR X f (λx y H Q=>r x y H Q\/r' x y H Q):=by
 intro pins s σ H x y v u Q I rx ry q;rcases q with q | q
 ·exact h pins s σ H x y v u Q I rx ry q
 ·exact h' pins s σ H x y v u Q I rx ry q
theorem jkw (b:Expr) {op:CmpOp} (h:op≠.In:=by decide) (h2:op≠.NotIn:=by decide):C2 op b=false:=by
 have e1:(op==CmpOp.In)=false:=by cases op<;>first | rfl | exact absurd rfl h
 have e2:(op==CmpOp.NotIn)=false:=by cases op<;>first | rfl | exact absurd rfl h2
 cases b<;>simp[C2,e1,e2]
theorem juf {op:CmpOp} {r:R2} (ho:OpR X (A2 op) r) (ha:PE X a ta) (hb:PE X b tb) (hm:C2 op b=false):PE X (.Compare a [op] [b] pos) (tOp r ta tb):=by
 intro pins s σ H Q I h;exact wpAny_Compare1 (binT ha hb I h λv u s2 x y H2 I2 rx ry q=>ho pins s2 σ H2 x y v u Q I2 rx ry q) hm
def jni (t:TE):TT:=λσ H Q=>t σ H λx H'=>∃k,x=.bl k/\Q k H'
theorem jge {op:CmpOp} {r:R2} (ho:OpR X (A2 op) r) (ha:PE X a ta) (hb:PE X b tb) (hm:C2 op b=false):PT X (.Compare a [op] [b] pos) (jni (tOp r ta tb)):=by
 intro pins s σ H Q I h;refine wpAny_isTrue_Compare1 (thn (ha pins s σ H _ I h) λv s1 ⟨x,H1,I1,r1,q1⟩=>thn (hb pins s1 σ H1 _ I1 q1) λu s2 ⟨y,H2,I2,r2,q2⟩ =>
  thn (ho pins s2 σ H2 x y v u _ I2 r1 r2 q2) λc s3 ⟨z,H3,I3,r3,k,e,q3⟩=>?_) hm
 subst e;cases r3;exact Bt ⟨H3,I3,q3⟩
def jkg (r r':R2) (ta tb tc:TE):TE:=λσ H Q=>ta σ H λx H1=>tb σ H1 λy H2=>r x y H2 λz H3=>∃k,z=.bl k /\
 (if k=true then tc σ H3 λw' H4=>r' y w' H4 Q else Q (.bl false) H3)
theorem jrn {op op':CmpOp} {r r':R2} (ho:OpR X (A2 op) r) (ho':OpR X (A2 op') r') (ha:PE X a ta) (hb:PE X b tb) (hc:PE X c tc)
  (hm:lastMarks [op,op'] [b,c]=false:=by with_unfolding_all rfl):PE X (.Compare a [op,op'] [b,c] pos) (jkg r r' ta tb tc):=by
 intro pins s σ H Q I h;refine Compare_chain (thn (ha pins s σ H _ I h) λv s1 ⟨x,H1,I1,r1,q1⟩=>chain_link (thn (hb pins s1 σ H1 _ I1 q1) λu s2 ⟨y,H2,I2,r2,q2⟩ =>
  thn (ho pins s2 σ H2 x y v u _ I2 r1 r2 q2) λd s3 ⟨z,H3,I3,r3,k,e,q3⟩=>?_)) hm
 subst e;cases r3;refine Bt ?_;cases k with
 |false=>exact ite_ff ⟨.bl false,H3,I3,rfl,q3⟩
 |true=>exact ite_tt (chain_last (thn (hc pins s3 σ H3 _ I3 q3) λw' s4 ⟨z',H4,I4,r4,q4⟩=>ho' pins s4 σ H4 y z' u w' Q I4 r2 r4 q4))
theorem jrg {op op':CmpOp} {r r':R2} (ho:OpR X (A2 op) r) (ho':OpR X (A2 op') r') (ha:PE X a ta) (hb:PE X b tb) (hc:PE X c tc)
  (hm:lastMarks [op,op'] [b,c]=false:=by with_unfolding_all rfl):PT X (.Compare a [op,op'] [b,c] pos) (jni (jkg r r' ta tb tc)):=by
 intro pins s σ H Q I h;refine isTrue_chain (thn (ha pins s σ H _ I h) λv s1 ⟨x,H1,I1,r1,q1⟩=>test_link (thn (hb pins s1 σ H1 _ I1 q1) λu s2 ⟨y,H2,I2,r2,q2⟩ =>
  thn (ho pins s2 σ H2 x y v u _ I2 r1 r2 q2) λd s3 ⟨z,H3,I3,r3,k,e,q3⟩=>?_)) hm
 subst e;cases r3;refine Bt ?_;cases k with
 |false =>
  obtain⟨k',e',q'⟩:=q3;cases e';exact ite_ff ⟨H3,I3,q'⟩
 |true =>
  refine ite_tt (test_last (thn (hc pins s3 σ H3 _ I3 q3) λw' s4 ⟨z',H4,I4,r4,q4⟩=>thn (ho' pins s4 σ H4 y z' u w' _ I4 r2 r4 q4) λd' s5 ⟨z2,H5,I5,r5,k2,e2,q5⟩=>?_));subst e2;cases r5;exact Bt ⟨H5,I5,q5⟩
def TruV (K:Ab) (x:V) (H:Hp) (k:Bool):Prop :=
 match x with
 |.non=>k=false
 |.bl b=>k=b
 |.int i=>k=(i != 0)
 |.str y=>y.length<=An/\k=((y.length:Int) != 0)
 |.byt y=>y.size<=An/\k=((y.size:Int) != 0)
 |.ref p=>(∃xs,SqL K H p xs/\k=!xs.isEmpty)\/(∃xs,SqT K H p xs/\k=!xs.isEmpty)\/∃kvs,H p=some (.dK kvs)/\k=!kvs.isEmpty
 |_=>False
theorem jnu {κ:Type} {kvs:List (κ×V)} {vs:List (κ×Ae)} (r:KV kvs vs):(!vs.isEmpty)=!kvs.isEmpty:=by
 cases r<;>rfl
theorem jif {xs:List V} {its:List Ae} (r:Vals xs its):(!its.toArray.isEmpty)=!xs.isEmpty:=by
 cases r<;>simp
theorem jgi:(An:Nat) < 2 ^ 63:=by rw[sizeLine_eq];decide
theorem jvn:TruR X (λx H Q=>∃k,TruV X.K x H k/\Q k H):=by
 intro pins s σ H x v Q I rx h;obtain⟨k,e,q⟩:=h;have hl:=jgi;have hs:An=16777216:=sizeLine_eq;cases x with
 |non =>
  cases rx;have e':k=false:=e;subst e';exact truthy_none ⟨H,I,q⟩
 |bl b =>
  cases rx;have e':k=b:=e;subst e';exact Bt ⟨H,I,q⟩
 |int i =>
  obtain⟨t,rfl⟩:=rx;have e':k=(i != 0):=e;subst e';exact PySem.P.truthy_int ⟨H,I,q⟩
 |str y =>
  obtain⟨t,rfl⟩:=rx;obtain⟨hy,e'⟩:y.length<=An/\k=((y.length:Int) != 0):=e;subst e';exact PySem.P.truthy_str (by omega) ⟨H,I.tok _,q⟩
 |byt y =>
  obtain⟨t,rfl⟩:=rx;obtain⟨hy,e'⟩:y.size<=An/\k=((y.size:Int) != 0):=e;subst e';exact PySem.W.truthy_bytes (by omega) ⟨H,I.tok _,q⟩
 |ref p =>
  cases rx;have e':(∃xs,SqL X.K H p xs/\k=!xs.isEmpty)\/(∃xs,SqT X.K H p xs/\k=!xs.isEmpty)\/∃kvs,H p=some (.dK kvs)/\k=!kvs.isEmpty:=e;rcases e' with⟨xs,hx,e'⟩ | ⟨xs,hx,e'⟩ | ⟨kvs,hx,e'⟩
  ·subst e';obtain⟨its,r,pl,hz⟩:=I.list hx;have hlen:=r.length;exact wpAny_truthy_list pl.isList (by simp only[Ai];omega) ⟨H,I.tok _,by rw[jif r];exact q⟩
  ·subst e';obtain⟨its,r,pl,hz⟩:=I.tuple hx;have hlen:=r.length;exact truthy_tuple pl (by simp only[Ai];omega) ⟨H,I.tok _,by rw[jif r];exact q⟩
  ·subst e';obtain⟨hz,hS,vs,r,m⟩:kvs.length<=An/\(p==sysModules)=false/\∃vs,KV kvs vs/\s.heap.DictOf (jl3 X.prog X.w) p vs:=I.hok p _ hx;have hlen:kvs.length=vs.length:=Paired.length r;exact wpAny_truthy_dict hS m (by omega) ⟨H,I.tok _,by rw[jnu r];exact q⟩
 |_=>exact(show False from e).elim
theorem jrf (ha:PE X a ta) (he:∀whole,isTrue a X.env whole=(do let v <-whole;standAt a.pos;holding [v] (truthy v))) :
  PT X a (λσ H Q=>ta σ H λx H'=>∃k,TruV X.K x H' k/\Q k H'):=by
 intro pins s σ H Q I h;exact isTrue_plain (thn (ha pins s σ H _ I h) λv s1 ⟨x,H1,I1,r1,q1⟩=>jvn pins s1 σ H1 x v Q I1 r1 q1) (he _)
theorem op_add_str:OpR X (Cz .Add) (λx y H Q=>∃i j,x=.str i/\y=.str j/\i.length+j.length<=An/\Q (.str (i++j)) H):=by
 intro pins s σ H x y v u Q I rx ry h;obtain⟨i,j,rfl,rfl,hz,q⟩:=h;obtain⟨t,rfl⟩:=rx;obtain⟨t',rfl⟩:=ry;exact add_str (λt' tk=>⟨.str (i++j),H,I.tok _,⟨_,rfl⟩,q⟩) hz
theorem jj8 {x:V} {us:List Ae} (r:Vals [x] us):∃u,us=[u]/\RelV x u:=by
 cases r with
 |cons r1 r2=>cases r2;exact⟨_,rfl,r1⟩
theorem jys {x y:V} {us:List Ae} (r:Vals [x,y] us):∃u w',us=[u,w']/\RelV x u/\RelV y w':=by
 cases r with
 |cons r1 r2 =>
  cases r2 with
  |cons r3 r4=>cases r4;exact⟨_,_,rfl,r1,r3⟩
end
structure ObjM (h:Heap) (x dx C:Addr) (mA:Str->Option Ae):Prop where
 obj:h.get? x=some (PySem.W.instObj C dx)
 ns:h.Ns1 dx mA
 ne:dx≠x
theorem jpo {h:Heap} {dx:Addr} {mA:Str->Option Ae} (n:h.Ns1 dx mA):∃od,h.get? dx=some od/\∀name,PySem.W.lookIn name od=some (mA name):=by
 obtain⟨o,es,ep,ho,hd,hk,_,hm⟩:=n;refine⟨o,ho,λname=>?_⟩;have e:=hm name;unfold nsFind findBy at e;rw[<-Array.find?_toList]at e;unfold PySem.W.lookIn;rw[hd];dsimp only
 split
 ·rename_i y q;rw[q]at e;exact congrArg some e
 ·rename_i q;rw[q]at e;have a:es.toList.any (·.refKey)=false:=by
   rw[List.any_eq_false];intro y hy;obtain⟨z,t,hkey⟩:=hk y (Array.mem_toList_iff.mp hy);simp[DictEntry.refKey,hkey]
  have a':¬es.toList.any (·.refKey)=true:=by rw[a];exact Af
  rw[if_neg a'];exact congrArg some e
theorem ObjM.look {h:Heap} {x dx C:Addr} {mA:Str->Option Ae} (I:ObjM h x dx C mA):∃od,PySem.W.InstAt h x (PySem.W.instObj C dx) C (some od)/\∀name,PySem.W.lookIn name od=some (mA name) :=
 let⟨od,ho,hl⟩:=jpo I.ns
 ⟨od,⟨I.obj,rfl,rfl,ho⟩,hl⟩
section
variable {P:Bi} {w:Bz} {H H':Hp} {h h':Heap} {a C dx:Addr} {fs fs':List (Str×V)}
theorem juv (hok:HOk P w H h) (e:H a=some (.ins C dx fs)):∃mA,ObjM h a dx C mA/\(∀f,RelO (fs.lookup f) (mA f))/\PySem.Within mA (fs.map (·.1))/\fs.length<=1000/\H dx=some (.own a):=by
 obtain⟨d,z,ne,ob,mA,n,r,q⟩:=(show ObjOk P w H h a (.ins C dx fs)from hok a _ e);exact⟨mA,⟨ob,n,ne⟩,r,q,z,d⟩
end
structure Cls (K:Ab) (C:Addr):Prop where
 pg:PySem.W.plainGet K C Str.empty=true
 hd:PySem.W.hasDictIn K C=true
 po:PySem.W.plainOver K C=true
 sa:PySem.W.findIn K (.ref C) "__setattr__"=some (some (.builtin "object.__setattr__"))
theorem Cls.get {K:Ab} {C:Addr} (c:Cls K C) (f:Str):PySem.W.plainGet K C f=true:=c.pg
section
variable {X:Cx} {pins:List (Addr×Obj)} {σ:St} {H:Hp} {s:Ah} {A:Ce} {E:Ae->Ah->Prop} {Q:Ae->Ah->Prop} {c:Ae} {b:Bool}
inductive TyOf (K:Ab) (H:Hp):V->Ae->Prop where
 |non:TyOf K H .non (.type "NoneType")
 |bl (x:Bool):TyOf K H (.bl x) (.type "bool")
 |int (i:Int):TyOf K H (.int i) (.type "int")
 |str (x:Str):TyOf K H (.str x) (.type "str")
 |flt (x:UInt64):TyOf K H (.flt x) (.type "float")
 |lst {a:Addr} {xs:List V} (e:H a=some (.lst xs)):TyOf K H (.ref a) (.type "list")
 |frz {a:Addr} {o:Obj} {xs:List V} (e:H a=some (.frz o (.lst xs))):TyOf K H (.ref a) (.type "list")
 |tup {a:Addr} {xs:List V} (e:H a=some (.tup xs)):TyOf K H (.ref a) (.type "tuple")
 |dK {a:Addr} {kvs:List (Key×V)} (e:H a=some (.dK kvs)):TyOf K H (.ref a) (.type "dict")
 |dT {a:Addr} {kvs:List (List Key×V)} (e:H a=some (.dT kvs)):TyOf K H (.ref a) (.type "dict")
 |ins {a C dx:Addr} {fs:List (Str×V)} (e:H a=some (.ins C dx fs)) (cl:Cls K C) (ha:PySem.W.findIn K (.ref C) "__class__"=some (some (.builtin "object.__class__")))
   (hn:PySem.W.specialIn K (.builtin "object.__class__") "__get__"=some (some (.builtin "getset_descriptor.__get__"))) (htk:PySem.W.takesIn K (.builtin "object.__class__")=some true)
   (hm:PySem.W.mroIn K C (.type "object")=some true):TyOf K H (.ref a) (.ref C)
theorem jpu {x:V} {u t:Ae} (I:Inv X pins σ H s) (rx:RelV x u) (ty:TyOf X.K H x t) (e:PySem.W.kitOne X.K t c=some b) (h:∀tk,Q (.bool b) {s with toks:=tk}) :
  A5 (A8 X.prog X.w) A (call (.builtin "isinstance") [u,c]) Q E s:=by
 cases ty with
 |non=>cases(show u=Du from rx);exact B4 PySem.W.kitx_none I.kIn True.intro e (λz=>nomatch z) h
 |bl y=>cases(show u=Value.bool y from rx);exact B4 PySem.W.kitx_bool I.kIn True.intro e (λz=>nomatch z) h
 |int i=>obtain⟨t,q⟩:=(show ∃t,u=Value.int i t from rx);cases q;exact B4 PySem.W.kitx_int I.kIn True.intro e (λz=>nomatch z) h
 |str y=>obtain⟨t,q⟩:=(show ∃t,u=Value.str y t from rx);cases q;exact B4 PySem.W.kitx_str I.kIn True.intro e (λz=>nomatch z) h
 |flt y=>obtain⟨t,q⟩:=(show ∃t,u=Value.float y t from rx);cases q;exact B4 PySem.W.kitx_float I.kIn True.intro e (λz=>nomatch z) h
 |@lst a xs ea =>
  cases(show u=Bx a from rx);obtain⟨_,_,n,_,h1⟩:=(show ObjOk X.prog X.w H s.heap a (.lst xs)from I.hok a _ ea);exact B4 PySem.W.kitx_list I.kIn ⟨_,h1,rfl⟩ e (λz=>nomatch z) h
 |@frz a ob xs ea =>
  cases(show u=Bx a from rx);obtain⟨_,_,_,n,_,h1⟩:=(show ObjOk X.prog X.w H s.heap a (.frz ob (.lst xs))from I.hok a _ ea);exact B4 PySem.W.kitx_list I.kIn ⟨_,h1,rfl⟩ e (λz=>nomatch z) h
 |@tup a xs ea =>
  cases(show u=Bx a from rx);obtain⟨_,_,_,p⟩:=(show ObjOk X.prog X.w H s.heap a (.tup xs)from I.hok a _ ea);obtain⟨o,h1,h2,_⟩:=p;exact B4 PySem.W.kitx_tuple I.kIn ⟨o,h1,h2⟩ e (λz=>nomatch z) h
 |@dK a kvs ea =>
  cases(show u=Bx a from rx);obtain⟨_,_,vs,_,p⟩:=(show ObjOk X.prog X.w H s.heap a (.dK kvs)from I.hok a _ ea);obtain⟨o,es,ep,h1,h2,_⟩:=p;exact B4 PySem.W.kitx_dict I.kIn ⟨o,h1,h2.1⟩ e (λz=>nomatch z) h
 |@dT a kvs ea =>
  cases(show u=Bx a from rx);obtain⟨_,_,xs,_,o,es,ep,h1,h2,_⟩:=(show ObjOk X.prog X.w H s.heap a (.dT kvs)from I.hok a _ ea);exact B4 PySem.W.kitx_dict I.kIn ⟨o,h1,h2.1⟩ e (λz=>nomatch z) h
 |@ins a C dx fs ea cl ha hn htk hm =>
  cases(show u=Bx a from rx);obtain⟨mA,O,_⟩:=juv I.hok ea;obtain⟨od,J,_⟩:=O.look;exact B4 (PySem.W.kitx_own (cl.get _) cl.hd ha hn htk hm) I.kIn J e (λz=>nomatch z) h
end
structure Room (k:Nat) (A:Ce):Prop where
 hd:A.handled=none
 dp:A.depth+3*k+5 < recursionLimit
 un:A.units+16*k+200 < cLine
 gd:A.guards=some []
theorem Room.mono {j k:Nat} {A:Ce} (r:Room k A) (h:j<=k):Room j A:=⟨r.hd,by have:=r.dp;omega,by have:=r.un;omega,r.gd⟩
theorem Room.deeper {k:Nat} {A:Ce} (r:Room (k+1) A) (env:Env):Room k (A.deeper env) :=
 ⟨r.hd,by have:=r.dp;show A.depth+1+3*k+5 < _;omega,by have:=r.un;show A.units+3+16*k+200 < _;omega,r.gd⟩
theorem Room.depth {k:Nat} {A:Ce} (r:Room k A):A.depth < recursionLimit:=by have:=r.dp;omega
theorem Room.units {k:Nat} {A:Ce} (r:Room k A):A.units+64 < cLine:=by have:=r.un;omega
theorem Room.units0 {k:Nat} {A:Ce} (r:Room k A):A.units < cLine:=by have:=r.un;omega
def tNil:TA:=λ_ H Q=>Q [] H
def jfx (ta:TE) (tr:TA):TA:=λσ H Q=>ta σ H λx H1=>tr σ H1 λxs H2=>Q (x::xs) H2
section
variable {X:Cx} {e:Expr} {es:List Expr} {te:TE} {t:TA} {pos:Pos}
theorem jcn:PA X [] tNil:=λ_ _ _ _ H Q I h=>Calls.spliced_nil ⟨[],H,I,.nil,h⟩
theorem jay (ha:PE X e te) (hr:PA X es t) (hs:Ay (e::es) X.env=(false,eval e X.env)::Ay es X.env:=by rfl):PA X (e::es) (jfx te t):=by
 intro pos pins s σ H Q I h;rw[hs];show A5 _ _ (spliced ((false,eval e X.env)::Di pos (Ay es X.env))) _ _ s;refine Calls.spliced_cons (thn (ha pins s σ H _ I h) λu s1 ⟨x,H1,I1,r1,q1⟩=>?_);exact thn (hr pos pins s1 σ H1 _ I1 q1) λus s2 ⟨xs,H2,I2,r2,q2⟩=>⟨x::xs,H2,I2,.cons r1 r2,q2⟩
def tTup (t:TA):TE:=λσ H Q=>t σ H λxs H1=>xs.length<=An/\∀p,H1 p=none->Q (.ref p) (upd H1 p (.tup xs))
def tLst (t:TA):TE:=λσ H Q=>t σ H λxs H1=>xs.length<=An/\∀p,H1 p=none->Q (.ref p) (upd H1 p (.lst xs))
theorem jwu {x1} (h:PA X es t):PE X (.Tuple es x1 pos) (tTup t):=by
 intro pins s σ H Q I hq;refine wpAny_Tuple_spliced (thn (h pos pins s σ H _ I hq) λus s1 ⟨xs,H1,I1,r,z,q⟩=>⟨by rw[<-r.length];exact z,?_⟩);have hf:H1 s1.heap.objs.size=none:=I1.hok.fresh (As _);refine⟨.ref s1.heap.objs.size,upd H1 s1.heap.objs.size (.tup xs),I1.laid (t':=s1.toks) (λb u e=>Ao _ e) (As _) ?_,rfl,q _ hf⟩;exact⟨z,us,r,IsTupP.new _ _⟩
theorem jo4 (h:PA X es t):PE X (.List es pos) (tLst t):=by
 intro pins s σ H Q I hq;refine wpAny_List_spliced (thn (h pos pins s σ H _ I hq) λus s1 ⟨xs,H1,I1,r,z,q⟩=>⟨by rw[<-r.length];exact z,?_⟩);have hf:H1 s1.heap.objs.size=none:=I1.hok.fresh (As _);refine⟨.ref s1.heap.objs.size,upd H1 s1.heap.objs.size (.lst xs),I1.laid (t':=s1.toks) (λb u e=>Ao _ e) (As _) ?_,rfl,q _ hf⟩;exact⟨z,us,0,r,Bn _ rfl⟩
end
abbrev Sp:=List V->Hp->VK->XK->Prop
abbrev CXT:=List Env->Hp->Ah->XK->Ae->Ah->Prop
structure Env0 (P:Bi) (w:Bz) (K:Ab) (mg:Str->Option Ae) (base:Heap) (A:Ce) (outer:List Env) (s:Ah) (H:Hp):Prop where
 frames:A.frames=some outer
 mod:Mod K mg base
 bs:∀b o,base.get? b=some o->s.heap.get? b=some o/\H b=none
 bsz:base.objs.size<=s.heap.objs.size
 funs:s.heap.FunFrames base outer
 frf:∀b∈frs outer,H b=none
 hok:HOk P w H s.heap
 bare:AllBare s.gens
def CE (outer:List Env) (P:Bi) (w:Bz) (H:Hp) (s:Ah) (Q:VK) (u:Ae) (s':Ah):Prop :=
 ∃v H',s'.os=s.os/\AllBare s'.gens/\Un (frs outer) [] H H' s.heap s'.heap/\HOk P w H' s'.heap/\RelV v u/\Q v H'
def CR (CX:CXT) (outer:List Env) (P:Bi) (w:Bz) (H:Hp) (s:Ah) (Q:VK) (E:XK) (r:Result) (s':Ah):Prop :=
 match r with
 |.ok (.ret u)=>CE outer P w H s Q u s'
 |.ok _=>False
 |.error e=>CX outer H s E e s'
structure FnOk (P:Bi) (w:Bz) (K:Ab) (mg:Str->Option Ae) (base:Heap) (CX:CXT) (k:Nat) (f:Addr) (fd:B5) (ps:List Str) (sp:Sp):Prop where
 len:∀vs H Q E,sp vs H Q E->vs.length=ps.length
 run:∀(A:Ce) (outer:List Env) (s:Ah) (H:Hp) (args:Args) (us:List Ae) (vs:List V) (Q:VK) (E:XK),Room k A->Env0 P w K mg base A outer s H->BindsTo s fd args (ps.zip us)->Vals vs us->sp vs H Q E ->
  codeAny (A8 P w) A (.call (.ref f) args) (CR CX outer P w H s Q E) s
theorem FnOk.imp {P:Bi} {w:Bz} {K:Ab} {mg:Str->Option Ae} {base:Heap} {CX:CXT} {k:Nat} {f:Addr} {fd:B5} {ps:List Str} {sp sp':Sp} (F:FnOk P w K mg base CX k f fd ps sp)
  (h:∀vs H Q E,sp' vs H Q E->sp vs H Q E):FnOk P w K mg base CX k f fd ps sp' :=
 ⟨λvs H Q E q=>F.len vs H Q E (h _ _ _ _ q),λA outer s H args us vs Q E hr he hb hv hs=>F.run A outer s H args us vs Q E hr he hb hv (h _ _ _ _ hs)⟩
section
variable {X:Cx} {pins:List (Addr×Obj)} {σ:St} {H:Hp} {s s':Ah}
theorem Inv.env0 (I:Inv X pins σ H s):Env0 X.prog X.w X.K X.mg X.base X.A X.stack s H :=
 ⟨I.ok.frames,I.ok.mod,I.bs,Bk I.ok.bsz I.sz,I.stack,I.stkFree,I.hok,I.bare⟩
theorem Inv.after {Q:VK} {u:Ae} (I:Inv X pins σ H s) (h:CE X.stack X.prog X.w H s Q u s'):EP X pins σ Q u s':=by
 obtain⟨v,H',os,bare,un,hok,r,q⟩:=h;obtain⟨hh,g,d,t,os'⟩:=s';obtain rfl:os'=s.os:=os;exact⟨v,H',I.call (h':=hh) (g':=g) (d':=d) (t':=t) (ch:=[]) un hok bare (λb z=>absurd z (by simp)),r,q⟩
end
def jlw (sp:Sp) (dvs:List V) (E:XK) (t:TA):TE:=λσ H Q=>t σ H λvs H1=>sp (vs++dvs) H1 Q E
def Binds (K:Ab) (fd:B5) (ps:List Str) (ds:List Ae):Prop :=
 ∀(s:Ah) (us:List Ae),K.In s.heap->(us++ds).length=ps.length->BindsTo s fd ⟨us,[]⟩ (ps.zip (us++ds))
theorem Binds.all {K:Ab} {fd:B5} {ps:List Str} (h:∀us:List Ae,us.length=ps.length->bindArgs fd ⟨us,[]⟩=pure (ps.zip us)):Binds K fd ps []:=λs us _ hl=>by
 rw[Cg]at hl ⊢;exact .of_eq (h us hl)
def jqt (CX:CXT) (X:Cx) (E:XK):Prop:=∀(pins:List (Addr×Obj)) (σ:St) (H:Hp) (s:Ah) (e:Ae) (s':Ah),Inv X pins σ H s->CX X.stack H s E e s'->X.xe e s'
section
variable {X:Cx} {CX:CXT} {k:Nat} {f C:Addr} {fd:B5} {ps:List Str} {sp:Sp} {dvs:List V} {ds:List Ae} {E:XK} {x m:Str} {p pos apos:Pos} {e o:Expr} {es:List Expr} {ta:TE} {t:TA}
theorem jwe {pins:List (Addr×Obj)} {σ:St} {H:Hp} {s:Ah} {Q:VK} {us:List Ae} {vs:List V} (F:FnOk X.prog X.w X.K X.mg X.base CX k f fd ps sp) (hr:Room k X.A) (hb:Binds X.K fd ps ds) (hd:Vals dvs ds) (hx:jqt CX X E)
  (I:Inv X pins σ H s) (r:Vals vs us) (h:sp (vs++dvs) H Q E):A5 (A8 X.prog X.w) X.A (call (.ref f) us) (EP X pins σ Q) X.xe s:=by
 have r2:Vals (vs++dvs) (us++ds):=r.append hd;have hl:(us++ds).length=ps.length:=by rw[<-r2.length];exact F.len _ _ _ _ h
 refine wpAny_call (codeAny_mono (F.run X.A X.stack s H ⟨us,[]⟩ (us++ds) (vs++dvs) Q E hr I.env0 (hb s us I.kIn hl) r2 h) λr s' hq=>?_);cases r with
 |error e=>exact hx pins σ H s e s' I hq
 |ok fl =>
  cases fl with
  |ret u=>exact I.after hq
  |next=>exact False.elim hq
  |brk=>exact False.elim hq
  |cont=>exact False.elim hq
theorem jo5 (F:FnOk X.prog X.w X.K X.mg X.base CX k f fd ps sp) (hr:Room k X.A) (hg:Gl X x) (hm:X.mg x=some (.ref f)) (hk:B3 X.K (.ref f)=true) (hb:Binds X.K fd ps ds) (hd:Vals dvs ds) (hx:jqt CX X E)
  (ha:PA X (e::es) t) (hdb:(x==("__debug__":Str))=false:=by decide) (he:Ay (e::es) X.env=(false,eval e X.env)::Ay es X.env:=by rfl) (hpl:(Di pos (Ay es X.env)).any (·.1)=false:=by rfl) :
  PE X (.Call (.Name x p) (e::es) [] pos) (jlw sp dvs E t):=by
 intro pins s σ H Q I h;refine wpAny_Call_Name_kw (jpp I hg hm ?_ hdb);refine PySem.W.callWith_K (h₀:=X.base) I.ok.mod.kin hk (thn (ha pos pins s σ H _ I h) λus s1 ⟨vs,H1,I1,r,q⟩=>⟨I1.kIn,?_⟩) he hpl;exact jwe F hr hb hd hx I1 r q
end
structure FnScope (N P:List Str) (sc:Dc):Prop where
 kind:sc.kind=.function
 co:sc.isCoroutine=false
 gen:sc.isGenerator=false
 nd:N.Nodup
 pre:N.take P.length=P
 par:∀x∈P,sc.names.lookup x=some .local\/sc.names.lookup x=some .cell
 nofree:∀y∈sc.names,y.2≠.free
theorem jlc {kindOf:Str->Option NameKind} {x:Str}:∀{binds:List (Str×Ae)} {m:Str->Option Ae},(∀v,(x,v)∉binds)->bindL kindOf binds m x=m x
 |[],_,_=>rfl
 | (n,v)::r,m,h=>by
  unfold bindL;rw[jlc λw hw=>h w (Bg _ hw)]
  split
  ·have:x≠n:=by rintro rfl;exact h v Ba
   simp[this]
  ·rfl
theorem jle {kindOf:Str->Option NameKind} {x:Str}:∀{binds:List (Str×Ae)} {m:Str->Option Ae},(∀v,(x,v)∉binds)->bindC kindOf binds m x=m x
 |[],_,_=>rfl
 | (n,v)::r,m,h=>by
  unfold bindC;rw[jle λw hw=>h w (Bg _ hw)]
  split
  ·rfl
  ·have:x≠n:=by rintro rfl;exact h v Ba
   simp[this]
theorem jld {kindOf:Str->Option NameKind} {x:Str} {v:Ae}:∀{P:List Str} {vs:List Ae} {i:Nat} {m:Str->Option Ae},P.Nodup->P[i]?=some x->vs[i]?=some v->kindOf x=some .local ->
  bindL kindOf (P.zip vs) m x=some v
 |[],_,_,_,_,h,_,_=>by simp at h
 |_::_,[],_,_,_,_,h,_=>by simp at h
 |p::P,w::vs,0,m,nd,h1,h2,hk=>by
  simp at h1 h2;subst h1;subst h2;show bindL kindOf ((p,w)::P.zip vs) m p=_;unfold bindL;rw[jlc λv hv=>(List.nodup_cons.mp nd).1 (List.of_mem_zip hv).1,if_pos hk];simp
 |p::P,w::vs,i+1,m,nd,h1,h2,hk=>by
  show bindL kindOf ((p,w)::P.zip vs) m x=_;unfold bindL;exact jld (i:=i) (List.nodup_cons.mp nd).2 (by simpa using h1) (by simpa using h2) hk
theorem jlf {kindOf:Str->Option NameKind} {x:Str} {v:Ae}:∀{P:List Str} {vs:List Ae} {i:Nat} {m:Str->Option Ae},P.Nodup->P[i]?=some x->vs[i]?=some v->kindOf x≠some .local ->
  bindC kindOf (P.zip vs) m x=some v
 |[],_,_,_,_,h,_,_=>by simp at h
 |_::_,[],_,_,_,_,h,_=>by simp at h
 |p::P,w::vs,0,m,nd,h1,h2,hk=>by
  simp at h1 h2;subst h1;subst h2;show bindC kindOf ((p,w)::P.zip vs) m p=_;unfold bindC;rw[jle λv hv=>(List.nodup_cons.mp nd).1 (List.of_mem_zip hv).1,if_neg hk];simp
 |p::P,w::vs,i+1,m,nd,h1,h2,hk=>by
  show bindC kindOf ((p,w)::P.zip vs) m x=_;unfold bindC;exact jlf (i:=i) (List.nodup_cons.mp nd).2 (by simpa using h1) (by simpa using h2) hk
def start (N:List Str) (vs:List V):St:=vs.map some++Ap (N.length - vs.length) none
def cxOf (CX:CXT) (P:Bi) (w:Bz) (K:Ab) (mg:Str->Option Ae) (base:Heap) (N:List Str) (qual:Str) (scope:Dc) (f:Addr) (cd:Ae) (A:Ce) (outer:List Env) (s:Ah) (H:Hp) (E:XK):Cx where
 prog:=P
 w:=w
 K:=K
 mg:=mg
 base:=base
 A:=A.deeper (envOfC qual scope s.heap.objs.size f cd)
 N:=N
 s₀:=s
 H₀:=H
 env:=envOfC qual scope s.heap.objs.size f cd
 outer:=outer
 stack:=envOfC qual scope s.heap.objs.size f cd::outer
 ex:=[]
 calm:=true
 fn:=λ_=>true
 pn:=[]
 xe:=λe s'=>A5 (A8 P w) (A.deeper (envOfC qual scope s.heap.objs.size f cd)) (leaving (envOfC qual scope s.heap.objs.size f cd) e) (λ_ s''=>CX outer H s E e s'') (λe' s''=>CX outer H s E e' s'') s'
theorem jm4 {sc:Dc} {n:Nat} {x:Str} (h:sc.names.lookup x=some .cell):∃c,(cellsFrom n sc.names []).lookup x=some c:=by
 have q:=PySem.W.cellsFrom_some sc.names n [] (.inl h);exact Option.isSome_iff_exists.mp q
theorem jpx {CX:CXT} {P:Bi} {w:Bz} {K:Ab} {mg:Str->Option Ae} {base:Heap} {N ps:List Str} {qual:Str} {scope:Dc} {f:Addr} {cd:Ae} {A:Ce} {outer:List Env} {s s1:Ah} {H:Hp} {E:XK} {us:List Ae} {vs:List V}
  (S:FnScope N ps scope) (hd:A.handled=none) (e0:Env0 P w K mg base A outer s H) (hl:vs.length=ps.length) (r:Vals vs us)
  (x:InCallC s s.heap.objs.size (bindL (envOfC qual scope s.heap.objs.size f cd).kindOf (ps.zip us) λ_=>none) (cellsFrom (s.heap.objs.size+1) scope.names []) (bindC (envOfC qual scope s.heap.objs.size f cd).kindOf (ps.zip us) λ_=>none) s1) :
  Inv (cxOf CX P w K mg base N qual scope f cd A outer s H E) [] (start N vs) H s1:=by
 have hpl:ps.length<=N.length:=by have:=congrArg List.length S.pre;rw[C0]at this;omega
 obtain⟨h1,tk,rfl,hk⟩:=x.done;have noA:∀b:Addr,b∉(cxOf CX P w K mg base N qual scope f cd A outer s H E).ex:=λb z=>absurd (show b∈([]:List Addr)from z) (by simp);refine⟨⟨e0.mod,S.kind,rfl,rfl,As _,λy z c h1 h2=>?_,λy hy=>?_,λy c _ h=>?_,λ_=>hd,Around.frames_deeper e0.frames,.inr ⟨rfl,rfl⟩,λb z=>absurd z (noA b),e0.bs,e0.bsz,λb _ _=>noA b,λb z=>absurd z (noA b),e0.funs,e0.frf⟩,
  rfl,e0.bare,Un.kept hk,⟨_,x.toInCall.ns,λi y v h1 h2 h3=>?_⟩,λy c h=>⟨_,x.cell y c h⟩,e0.hok.fresh (As _),λy c h=>?_,λp hp=>absurd (show p∈([]:List (Addr×Obj))from hp) (by simp),e0.hok.kept hk,?_⟩
 ·exact name_of_addr x.apart (Dk h1) (Dk h2)
 ·have hy:scope.names.lookup y=some .cell\/scope.names.lookup y=some .free:=hy;rcases hy with hy | hy
  ·exact jm4 hy
  ·exact absurd rfl (S.nofree _ (Dk hy))
 ·exact Nat.le_of_lt (x.above y c (Dk h))
 ·have hi:i < vs.length:=by
   unfold start at h2;by_cases hi:i < vs.length
   ·exact hi
   ·rw[List.getElem?_append_right (by simpa using hi)]at h2;rw[C1]at h2
    split at h2<;>cases h2
  have ha:vs[i]?=some v:=by
   unfold start at h2;rw[D4 (by simpa using hi),Bb]at h2;cases e:vs[i]? with
   |none=>rw[e]at h2;cases h2
   |some a=>rw[e]at h2;cases h2;rfl
  obtain⟨u,hu,rv⟩:=r.get ha;have hp:ps[i]?=some y:=by
   rw[<-S.pre,List.getElem?_take_of_lt (by omega)];exact h1
  have ndP:ps.Nodup:=by rw[<-S.pre];exact S.nd.sublist (List.take_sublist _ _)
  refine⟨u,rv,?_⟩;rcases S.par y (List.mem_of_getElem? hp)with k | k
  ·exact .inl ⟨k,jld ndP hp hu k⟩
  ·obtain⟨c,e⟩:=jm4 (n:=s.heap.objs.size+1) k;refine .inr ⟨.inl k,c,e,?_⟩;have q:=x.cell y c e;rw[jlf ndP hp hu (by show scope.names.lookup y≠_;rw[k];decide)]at q;exact q
 ·exact e0.hok.fresh (Nat.le_of_lt (x.above y c (Dk h)))
 ·unfold start;show _=N.length;rw[Al,Ag,List.length_replicate];omega
theorem jzs {CX:CXT} {P:Bi} {w:Bz} {K:Ab} {mg:Str->Option Ae} {base:Heap} {k:Nat} {f:Addr} {name qual:Str} {params:Arguments} {body:List Stmt} {scope:Dc} {dV kV doc pm cdv ct oc:Ae} {an od:Option Addr}
  {osl:Array (Option Ae)} {N ps:List Str} {sp:Sp} (lk:K.lookup f=some ⟨oc,od,.func (Dg name qual params body scope dV kV doc pm an cdv ct),osl⟩) (hcd:PySem.W.codeIn K cdv qual=true) (S:FnScope N ps scope)
  (len:∀vs H Q E,sp vs H Q E->vs.length=ps.length)
  (hbody:∀(A:Ce) (outer:List Env) (s:Ah) (H:Hp) (vs:List V) (Q:VK) (E:XK),Room k (A.deeper (envOfC qual scope s.heap.objs.size f cdv))->sp vs H Q E ->
   ∃t,PSs (cxOf CX P w K mg base N qual scope f cdv A outer s H E) body t/\t {nx:=λ_ H'=>Q .non H',rt:=Q} (start N vs) H) :
  FnOk P w K mg base CX (k+1) f (Dg name qual params body scope dV kV doc pm an cdv ct) ps sp:=by
 refine⟨len,λA outer s H args us vs Q E hr e0 hb r hsp=>?_⟩;have hl:=len _ _ _ _ hsp;have KX:K.In s.heap:=e0.mod.kin.keeps λb o e=>(e0.bs b o e).1;have lim:s.heap.NoLimit:=e0.mod.nolimit.keeps λb o e=>(e0.bs b o e).1;have hkind:∀y∈ps.zip us,scope.names.lookup y.1=some .local\/(scope.names.lookup y.1=some .cell/\((cellsFrom (s.heap.objs.size+1) scope.names []).lookup y.1).isSome=true):=λ⟨n,v⟩ hy=>by
  rcases S.par n (List.of_mem_zip hy).1 with q | q
  ·exact .inl q
  ·exact .inr ⟨q,PySem.W.cellsFrom_some _ _ _ (.inl q)⟩
 refine codeAny_call_function hr.depth (KX _ _ lk) rfl S.co S.gen rfl (PySem.W.codeRec_of KX hcd) (hb _ _ _ _ ?_);refine wpAny_newFunctionEnv_cells S.kind hkind λenv he s1 x=>?_;subst he;refine⟨lim.keeps x.toInCall.keep,codeAny_func ?_⟩;obtain⟨t,ht,hq⟩:=hbody A outer s H vs Q E (hr.deeper _) hsp;have I:Inv (cxOf CX P w K mg base N qual scope f cdv A outer s H E) [] (start N vs) H s1:=jpx S hr.hd e0 hl r x;refine Dr (ht [] s1 (start N vs) H _ I hq) (λfl s' hs=>?_) λe s' hs=>hs;have fin:∀{σ':St} {H':Hp} {v:V} {u:Ae},Inv (cxOf CX P w K mg base N qual scope f cdv A outer s H E) [] σ' H' s'->RelV v u->Q v H'->CE outer P w H s Q u s' :=
  λ{σ' H' v u} J rv q=>⟨v,H',J.os,J.bare,J.base,J.hok,rv,q⟩
 cases fl with
 |ret u =>
  obtain⟨v,σ',H',J,rv,q⟩:=hs;exact fin J rv q
 |next =>
  obtain⟨σ',H',J,q⟩:=hs;exact fin (v:=V.non) (u:=Du) J rfl q
 |brk =>
  obtain⟨_,_,_,q⟩:=hs;exact False.elim q
 |cont =>
  obtain⟨_,_,_,q⟩:=hs;exact False.elim q
section
variable {X:Cx} {x:Str} {p pos:Pos} {e:Expr} {es:List Expr} {t:TA} {id T:String} {r:List V->Hp->VK->Prop}
def tCB (r:List V->Hp->VK->Prop) (t:TA):TE:=λσ H Q=>t σ H λvs H1=>r vs H1 Q
theorem jd8 (hc:CallR X (.builtin id) r) (hg:Gl X x) (hm:X.mg x=none) (hv:Bh x=some (.builtin id)) (ha:PA X (e::es) t) (hn:x≠"__name__":=by decide) (hdb:(x==("__debug__":Str))=false:=by decide)
  (he:Ay (e::es) X.env=(false,eval e X.env)::Ay es X.env:=by rfl) (hpl:(Di pos (Ay es X.env)).any (·.1)=false:=by rfl):PE X (.Call (.Name x p) (e::es) [] pos) (tCB r t):=by
 intro pins s σ H Q I h;refine wpAny_Call_Name_kw (jmy I hg hm hv ?_ hn hdb);exact PyProof.Rows.callWith_builtin1 (thn (ha pos pins s σ H _ I h) λus s1 ⟨vs,H1,I1,r1,q1⟩=>hc pins s1 σ H1 vs us Q I1 r1 q1) he hpl
theorem jks (hc:CallR X (.type T) r) (hg:Gl X x) (hm:X.mg x=none) (hv:Bh x=some (.type T)) (ha:PA X (e::es) t) (hn:x≠"__name__":=by decide) (hdb:(x==("__debug__":Str))=false:=by decide)
  (he:Ay (e::es) X.env=(false,eval e X.env)::Ay es X.env:=by rfl) (hpl:(Di pos (Ay es X.env)).any (·.1)=false:=by rfl):PE X (.Call (.Name x p) (e::es) [] pos) (tCB r t):=by
 intro pins s σ H Q I h;refine wpAny_Call_Name_kw (jmy I hg hm hv ?_ hn hdb);exact PyProof.Rows.callWith_type1 (thn (ha pos pins s σ H _ I h) λus s1 ⟨vs,H1,I1,r1,q1⟩=>hc pins s1 σ H1 vs us Q I1 r1 q1) he hpl
end
end L2
namespace HT
open PySem PyProof.Rows
section
variable {prog:Bi} {w:Bz} {A:Ce} {E:Ae->Ah->Prop} {s:Ah}
theorem cat_tup {t b:Addr} {vs ws:List Ae} {Q:Ae->Ah->Prop} (ht:IsTup s.heap t vs.toArray) (hb:IsTup s.heap b ws.toArray) (hv:vs≠[])
  (h1:ws=[]->Q (.ref t) s) (h2:ws≠[]->Q (.ref s.heap.objs.size) {s with heap:=s.heap.push {cls:=.type "tuple",data:=.seq (vs++ws).toArray}})
  (hsz:vs.length+ws.length<=An):A5 (A8 prog w) A (Cz .Add (.ref t) (.ref b)) Q E s:=by
 obtain⟨⟨cls,dd,data,sl⟩,ho,hc,n,hd⟩:=id ht;obtain⟨⟨cls2,dd2,data2,sl2⟩,ho2,hc2,n2,hd2⟩:=id hb;simp only at hc hd hc2 hd2;subst hc hd hc2 hd2;have e:vs.toArray++ws.toArray=(vs++ws).toArray:=by simp
 by_cases hw:ws=[]
 ·exact concat_meets ⟨_,ho,rfl⟩ ⟨_,ho2,rfl⟩ noFill_tuple_add seq_tuple_add Do Dn (Dm _ _)
   (tuple_addW1 t b vs.toArray ws.toArray n n2 dd dd2 sl sl2 (by simpa using hv) (by simp[hw])) ⟨ho,ho2,h1 hw⟩
 ·refine concat_meets ⟨_,ho,rfl⟩ ⟨_,ho2,rfl⟩ noFill_tuple_add seq_tuple_add Do Dn (Dm _ _)
   (tuple_addW2 t b vs.toArray ws.toArray n n2 dd dd2 sl sl2 (by simpa using hv) (by simpa using hw) (by rw[Ai,Ai];exact hsz)) ⟨ho,ho2,?_⟩
  rw[e];exact h2 hw
def sIx (n d:Nat):Option Int->Nat
 |none=>d
 |some v=>if v < 0 then(v+(n:Int)).toNat else min v.toNat n
theorem sIx_none (n d:Nat):sIx n d none=d:=rfl
theorem sIx_nat (n d k:Nat):sIx n d (some (k:Int))=min k n:=by
 show(if (k:Int) < 0 then((k:Int)+(n:Int)).toNat else min (k:Int).toNat n)=min k n;rw[if_neg (by omega),Ck]
theorem jwc (n d:Nat) (hd:d<=n) (o:Option Int):sIx n d o<=n:=by
 cases o with
 |none=>exact hd
 |some v =>
  show(if v < 0 then(v+(n:Int)).toNat else min v.toNat n)<=n;by_cases hv:v < 0
  ·rw[if_pos hv];omega
  ·rw[if_neg hv];exact Nat.min_le_right _ _
theorem jqe (v:Int) (n d:Nat):(if v < 0 then max (v+(n:Int)) 0 else min v (n:Int))=((sIx n d (some v):Nat):Int):=by
 show(if v < 0 then max (v+(n:Int)) 0 else min v (n:Int))=(((if v < 0 then(v+(n:Int)).toNat else min v.toNat n):Nat):Int);by_cases hv:v < 0
 ·simp only[if_pos hv];omega
 ·simp only[if_neg hv];omega
theorem jn1 (lo hi:Option Int) (n:Nat):B9 lo hi 1 (n:Int)=(((sIx n 0 lo:Nat):Int),((sIx n n hi:Nat):Int)):=by
 have h1:¬((1:Int) < 0):=by omega
 unfold B9;simp only[h1,if_false];refine Prod.ext ?_ ?_
 ·cases lo with
  |none=>rfl
  |some v=>exact jqe v n 0
 ·cases hi with
  |none=>rfl
  |some v=>exact jqe v n n
theorem jnn (i j:Nat):Bq (i:Int) (j:Int) 1=j - i:=by
 unfold Bq;have h1:(1:Int) > 0:=by omega
 simp only[h1,if_true,Int.ediv_one]
 split<;>omega
theorem jh9 {v:Ae} {o:Option Int} {Q:Option Int->Ah->Prop} (p:IsPart v o) (h:Q o s):A5 (A8 prog w) A (Builtin.Slice.slicePartIndex v) Q E s:=by
 cases p with
 |none=>exact slicePart_none h
 |int i t=>exact slicePart_int h
theorem jcm {sl:Addr} {vl vu:Ae} {lo hi:Option Int} {n:Nat} {Q:Int×Int×Nat->Ah->Prop} (hs:s.heap.IsSliceOf sl vl vu .none) (pl:IsPart vl lo) (pu:IsPart vu hi)
  (h:Q (((sIx n 0 lo:Nat):Int),1,sIx n n hi - sIx n 0 lo) s):A5 (A8 prog w) A (C6 (.ref sl) (pure (n:Int))) Q E s:=by
 obtain⟨os,hos,hcs,hds⟩:=id hs;unfold C6 Builtin.Slice.sliceFields;refine Aj (Aj (wpAny_field hos hds (x:=vl) rfl (Aj (wpAny_field hos hds (x:=vu) rfl (Aj (wpAny_field hos hds (x:=.none) rfl (Ar ?_)))))));refine Aj (slicePart_none ?_);show A5 _ _ (if ((1:Int)==0)=true then _ else _) _ _ s;rw[if_neg (by decide)];refine Aj (jh9 pl (Aj (jh9 pu (Aj (Ar ?_)))));show A5 _ _ (match B9 lo hi 1 (n:Int)with | (lo,hi)=>pure (lo,(1:Int),Bq lo hi 1)) _ _ s;rw[jn1 lo hi n];show A5 _ _ (pure (((sIx n 0 lo:Nat):Int),(1:Int),Bq ((sIx n 0 lo:Nat):Int) ((sIx n n hi:Nat):Int) 1)) _ _ s;rw[jnn];exact Ar h
theorem jrk (xs:Array Ae) (i k:Nat):((Cr k).filterMap λ(m:Nat)=>xs[((i:Int)+(m:Int)*1).toNat]?).toArray=((xs.toList.drop i).take k).toArray:=by
 have e:(λ(m:Nat)=>xs[((i:Int)+(m:Int)*1).toNat]?)=λm=>xs[i+m]?:=by
  funext m
  have:((i:Int)+(m:Int)*1).toNat=i+m:=by omega
  rw[this]
 rw[e];have:=pick_run xs i k;rw[List.filterMap_map]at this;have e2:((λx=>xs[x]?) ∘ λx=>i+x)=λm=>xs[i+m]?:=rfl;rw[e2]at this;rw[this]
theorem getItem_tuple_cut {t sl:Addr} {items:Array Ae} {vl vu:Ae} {lo hi:Option Int} {Q:Ae->Ah->Prop} (ht:IsTup s.heap t items) (hs:s.heap.IsSliceOf sl vl vu .none) (pl:IsPart vl lo) (pu:IsPart vu hi)
  (hw:¬(sIx items.size 0 lo=0/\sIx items.size items.size hi=items.size))
  (h:Q (.ref s.heap.objs.size) {s with heap:=s.heap.push {cls:=.type "tuple",data:=.seq ((items.toList.drop (sIx items.size 0 lo)).take (sIx items.size items.size hi - sIx items.size 0 lo)).toArray}})
  (hsz:items.size<=An):A5 (A8 prog w) A (getItem (.ref t) (.ref sl)) Q E s:=by
 have htake:sizeOk (.seq ((items.toList.drop (sIx items.size 0 lo)).take (sIx items.size items.size hi - sIx items.size 0 lo)).toArray):=by
  show((items.toList.drop (sIx items.size 0 lo)).take (sIx items.size items.size hi - sIx items.size 0 lo)).toArray.size<=An;rw[Ai,C0,List.length_drop,Dv];omega
 have hj:sIx items.size items.size hi<=items.size:=jwc _ _ (As _) hi;obtain⟨os,hos,hcs,hds⟩:=id hs;have hTs:s.TypeIs (.ref sl) "slice":=⟨os,hos,hcs⟩;unfold getItem
 try with_reducible refine Dz ?_
 first | refine Aj (Ar ?_) | skip
 refine Aj (wpAny_sequenceKey ht.typeIs (by decide) ?_);refine Aj (D6 (name:=Str.ofString "__getitem__") ht.typeIs Bv
  (wpAny_call_entry Bv ht.typeIs entry_tuple_getitem ?_ (args_tuple_getitem _ _)))
 show A5 _ _ (C5 (.ref t)>>=_) _ _ s;refine Aj (tupleItemsOf_ ht ?_);refine Aj (wpAny_typeOf hTs ?_);rw[if_pos (by decide)];refine Aj (jcm hs pl pu ?_);have hno:¬((((sIx items.size 0 lo:Nat):Int)==0&&(1:Int)==1&&(sIx items.size items.size hi - sIx items.size 0 lo)==items.size)=true):=by
  intro q;rw[Av,Av]at q;have q1:((sIx items.size 0 lo:Nat):Int)=0:=eq_of_beq q.1.1;have q2:sIx items.size items.size hi - sIx items.size 0 lo=items.size:=eq_of_beq q.2;exact hw ⟨by omega,by omega⟩
 show A5 _ _ (if (((sIx items.size 0 lo:Nat):Int)==0&&(1:Int)==1&&(sIx items.size items.size hi - sIx items.size 0 lo)==items.size)=true then _ else _) _ _ s;rw[if_neg hno,jrk]
 first
  |exact Aj (m:=Br _) (B7 (Ar ⟨_,rfl,Ar h⟩) htake)
  |exact Aj (m:=Br _) (B7 (Aj (Ar (Ar ⟨_,rfl,Ar h⟩))) htake)
  |exact Aj (Aj (m:=Br _) (B7 (Ar (Ar ⟨_,rfl,Ar h⟩)) htake))
  |exact Aj (Aj (m:=Br _) (B7 (Ar ⟨_,rfl,Ar h⟩) htake))
end
end HT
namespace L2
open PySem PySem.Spec PyProof.Rows
abbrev TO:=St->Hp->(Option Int->Hp->Prop)->Prop
def PO (X:Cx) (e:Option Expr) (t:TO):Prop :=
 ∀(pins:List (Addr×Obj)) (s:Ah) (σ:St) (H:Hp) (Q:Option Int->Hp->Prop),Inv X pins σ H s->t σ H Q ->
  A5 (A8 X.prog X.w) X.A (evalPart e X.env) (λu s'=>∃o H',Inv X pins σ H' s'/\IsPart u o/\Q o H') X.xe s
def joc:TO:=λ_ H Q=>Q none H
def jvr (t:TE):TO:=λσ H Q=>t σ H λx H1=>∃i,x=.int i/\Q (some i) H1
theorem jnv {ns:List Int}:∀{us:List Ae},Vals (ns.map V.int) us->IntsAre us ns:=by
 induction ns with
 |nil=>intro us r;rw[Be]at r;cases r;exact .nil
 |cons n ns ih =>
  intro us r;rw[A3]at r;cases r with
  |cons r1 r2 =>
   obtain⟨t,e⟩:=r1;subst e;exact .cons n t (ih r2)
section
variable {X:Cx} {e:Expr} {te:TE} {lo hi:Option Expr} {tl th:TO} {pos p2:Pos}
theorem jo2:PO X none joc:=by
 intro pins s σ H Q I h;rw[evalPart_none];exact Ar ⟨none,H,I,.none,h⟩
theorem jo1 (h:PE X e te):PO X (some e) (jvr te):=by
 intro pins s σ H Q I hw;rw[evalPart_some];refine thn (h pins s σ H _ I hw) λu s1 ⟨x,H1,I1,r1,q1⟩=>?_;obtain⟨i,rfl,q⟩:=q1;obtain⟨t,rfl⟩:=r1;exact⟨some i,H1,I1,.int i t,q⟩
def SlR (X:Cx) (r:V->Option Int->Option Int->Hp->VK->Prop):Prop :=
 ∀(pins:List (Addr×Obj)) (s:Ah) (σ:St) (H:Hp) (x:V) (v vl vu:Ae) (lo hi:Option Int) (sl:Addr) (Q:VK),Inv X pins σ H s->RelV x v->s.heap.IsSliceOf sl vl vu .none->IsPart vl lo->IsPart vu hi->r x lo hi H Q ->
  ∃T id,typeLookup (.type T) "__getitem__"=pure (some (.builtin id))/\s.TypeIs v T/\A5 (A8 X.prog X.w) X.A (getItem v (.ref sl)) (EP X pins σ Q) X.xe s
theorem SlR.or {r r':V->Option Int->Option Int->Hp->VK->Prop} (h:SlR X r) (h':SlR X r'):SlR X (λx lo hi H Q=>r x lo hi H Q\/r' x lo hi H Q):=by
 intro pins s σ H x v vl vu lo hi sl Q I rx hs pl pu q;rcases q with q | q
 ·exact h pins s σ H x v vl vu lo hi sl Q I rx hs pl pu q
 ·exact h' pins s σ H x v vl vu lo hi sl Q I rx hs pl pu q
def tSl (r:V->Option Int->Option Int->Hp->VK->Prop) (te:TE) (tl th:TO):TE:=λσ H Q=>te σ H λx H1=>tl σ H1 λl H2=>th σ H2 λu H3=>r x l u H3 Q
theorem jms {r:V->Option Int->Option Int->Hp->VK->Prop} (hr:SlR X r) (he:PE X e te) (hl:PO X lo tl) (hu:PO X hi th):PE X (.Subscript e (.Slice lo hi none p2) pos) (tSl r te tl th):=by
 intro pins s σ H Q I h;refine Subscript_ (thn (he pins s σ H _ I h) λv s1 ⟨x,H1,I1,r1,q1⟩=>?_);refine wpAny_Slice (thn (hl pins s1 σ H1 _ I1 q1) λvl s2 ⟨l,H2,I2,pl,q2⟩=>thn (hu pins s2 σ H2 _ I2 q2) λvu s3 ⟨u,H3,I3,pu,q3⟩=>?_);rw[evalPart_none];refine Ar ?_;have I4:Inv X pins σ H3 {s3 with heap:=s3.heap.push {cls:=.type "slice",data:=.fields #[vl,vu,.none]}}:=I3.kept (t':=s3.toks) λb ob q=>Ao _ q;obtain⟨T,id,hT,ht,hg⟩:=hr pins {s3 with heap:=s3.heap.push {cls:=.type "slice",data:=.fields #[vl,vu,.none]}} σ H3 x v vl vu l u s3.heap.objs.size Q I4 r1 (Heap.IsSliceOf.new ..) pl pu q3;show A5 (A8 X.prog X.w) X.A (subscriptTail e (.Slice lo hi none p2) v (.ref s3.heap.objs.size)) (EP X pins σ Q) X.xe {s3 with heap:=s3.heap.push {cls:=.type "slice",data:=.fields #[vl,vu,.none]}};exact tail_any (ops:=[.ref s3.heap.objs.size,v]) ht hT hg (by with_unfolding_all rfl)
def cutV (xs:List V) (lo hi:Option Int):List V:=(xs.drop (HT.sIx xs.length 0 lo)).take (HT.sIx xs.length xs.length hi - HT.sIx xs.length 0 lo)
theorem jdv (xs:List V) (lo hi:Option Int):(cutV xs lo hi).length<=xs.length:=by
 unfold cutV;rw[C0,List.length_drop];omega
def rSlT (K:Ab):V->Option Int->Option Int->Hp->VK->Prop:=λx lo hi H Q=>∃a xs,x=.ref a/\SqT K H a xs /\
 ¬(HT.sIx xs.length 0 lo=0/\HT.sIx xs.length xs.length hi=xs.length)/\∀p,H p=none->Q (.ref p) (upd H p (.tup (cutV xs lo hi)))
theorem sl_tup:SlR X (rSlT X.K):=by
 intro pins s σ H x v vl vu lo hi sl Q I rx hs pl pu h;obtain⟨a,xs,rfl,hx,hw,q⟩:=h;cases rx;obtain⟨its,r,ht,hz⟩:=I.tuple hx;have hlen:its.toArray.size=xs.length:=by rw[Ai];exact r.length.symm
 refine⟨"tuple",_,PyProof.Rows.slot_tuple_getitem.lookup,ht.typeIs,?_⟩;refine HT.getItem_tuple_cut ht hs pl pu (by rw[hlen];exact hw) ?_ (by rw[hlen];exact hz);rw[hlen];refine⟨.ref s.heap.objs.size,_,I.laid (t':=s.toks) (o:=.tup (cutV xs lo hi)) (λb ob q=>Ao _ q) (As _) ?_,rfl,q _ (I.hok.fresh (As _))⟩;exact⟨Bk (jdv xs lo hi) hz,_,(r.drop (HT.sIx xs.length 0 lo)).take (HT.sIx xs.length xs.length hi - HT.sIx xs.length 0 lo),IsTupP.new _ _⟩
def jwj (K:Ab):R2:=λx y H Q=>∃a b xs ys,x=.ref a/\y=.ref b/\SqT K H a xs/\SqT K H b ys/\xs≠[]/\xs.length+ys.length<=An /\
 (ys=[]->Q (.ref a) H)/\(ys≠[]->∀p,H p=none->Q (.ref p) (upd H p (.tup (xs++ys))))
theorem Vals.nil_iff {xs:List V} {us:List Ae} (r:Vals xs us):us=[]↔xs=[]:=by
 cases r with
 |nil=>simp
 |cons _ _=>simp
theorem op_catT:OpR X (Cz .Add) (jwj X.K):=by
 intro pins s σ H x y v u Q I rx ry h;obtain⟨a,b,xs,ys,rfl,rfl,ha,hb,hx,hz,q1,q2⟩:=h;cases rx;cases ry;obtain⟨its,r1,p1,_⟩:=I.tuple ha;obtain⟨its2,r2,p2,_⟩:=I.tuple hb;refine HT.cat_tup p1 p2 (λz=>hx (r1.nil_iff.mp z)) (λz=>⟨.ref a,H,I,rfl,q1 (r2.nil_iff.mp z)⟩) (λz=>?_) (by rw[<-r1.length,<-r2.length];exact hz);refine⟨.ref s.heap.objs.size,_,I.laid (t':=s.toks) (o:=.tup (xs++ys)) (λb ob q=>Ao _ q) (As _) ?_,rfl,q2 (λw=>z (r2.nil_iff.mpr w)) _ (I.hok.fresh (As _))⟩;exact⟨by rw[Al];exact hz,_,r1.append r2,IsTupP.new _ _⟩
end
def ixN (n:Nat) (i:Int):Option Nat:=if 0<=i then(if i < n then some i.toNat else none)else if -(n:Int)<=i then some (i+n).toNat else none
def atI {α:Type} (xs:List α) (i:Int):Option α:=(ixN xs.length i).bind λj=>xs[j]?
theorem jpt {n:Nat} {i:Int} {j:Nat} (h:ixN n i=some j):seqIndex? i n=some j/\j < n/\-(n:Int)<=i/\i < n:=by
 unfold ixN at h;by_cases h0:0<=i
 ·rw[if_pos h0]at h;by_cases h1:i < n
  ·rw[if_pos h1]at h;have e:i.toNat=j:=A9 h;exact⟨by rw[seqIndex_of h0 h1,e],by omega,by omega,h1⟩
  ·rw[if_neg h1]at h;cases h
 ·rw[if_neg h0]at h;by_cases h1:-(n:Int)<=i
  ·rw[if_pos h1]at h;have e:(i+n).toNat=j:=A9 h;exact⟨by rw[seqIndex_neg (by omega) h1,e],by omega,h1,by omega⟩
  ·rw[if_neg h1]at h;cases h
theorem jmg {α:Type} {xs:List α} {i:Int} {v:α} (h:atI xs i=some v):∃j,seqIndex? i xs.length=some j/\xs[j]?=some v/\j < xs.length/\-(xs.length:Int)<=i/\i < xs.length:=by
 unfold atI at h;cases e:ixN xs.length i with
 |none=>rw[e]at h;cases h
 |some j =>
  rw[e]at h;obtain⟨h1,h2,h3,h4⟩:=jpt e;exact⟨j,h1,h,h2,h3,h4⟩
theorem ja7 {α:Type} {xs:List α} {j:Nat} {v:α} (h:xs[j]?=some v):atI xs (j:Int)=some v:=by
 have hj:j < xs.length:=(Bf.mp h).1;have e:ixN xs.length (j:Int)=some j:=by
  unfold ixN;rw[if_pos (by omega),if_pos (by omega)];simp
 unfold atI;rw[e];exact h
def jj6 (b:Expr):Prop:=∀o i,subscripted b false o i=operate [o,i] (getItem o i)
def IxR (X:Cx) (r:R2):Prop :=
 ∀(value slice:Expr) (pins:List (Addr×Obj)) (s:Ah) (σ:St) (H:Hp) (x y:V) (v u:Ae) (Q:VK),Inv X pins σ H s->RelV x v->RelV y u->r x y H Q ->
  subscripted slice false v u=operate [v,u] (getItem v u)->A5 (A8 X.prog X.w) X.A (subscriptTail value slice v u) (EP X pins σ Q) X.xe s
def MtR (X:Cx) (id:String) (r:V->List V->Hp->VK->Prop):Prop :=
 ∀(pins:List (Addr×Obj)) (s:Ah) (σ:St) (H:Hp) (x:V) (xs:List V) (v:Ae) (us:List Ae) (Q:VK),Inv X pins σ H s->RelV x v->Vals xs us->r x xs H Q ->
  A5 (A8 X.prog X.w) X.A (call (.builtin id) (v::us)) (EP X pins σ Q) X.xe s
section
variable {X:Cx} {a b:Expr} {ta tb:TE} {pos:Pos}
theorem IxR.or {r r':R2} (h:IxR X r) (h':IxR X r'):IxR X (λx y H Q=>r x y H Q\/r' x y H Q):=by
 intro value slice pins s σ H x y v u Q I rx ry q hs;rcases q with q | q
 ·exact h value slice pins s σ H x y v u Q I rx ry q hs
 ·exact h' value slice pins s σ H x y v u Q I rx ry q hs
theorem jfz {r:R2} (hr:IxR X r) (ha:PE X a ta) (hb:PE X b tb) (hs:jj6 b):PE X (.Subscript a b pos) (tOp r ta tb):=by
 intro pins s σ H Q I h;exact Subscript_ (binT ha hb I h λv u s2 x y H2 I2 rx ry q=>hr a b pins s2 σ H2 x y v u Q I2 rx ry q (hs _ _))
def rIxL (K:Ab):R2:=λx y H Q=>∃p xs i v,x=.ref p/\y=.int i/\SqL K H p xs/\atI xs i=some v/\Q v H
def rIxT (K:Ab):R2:=λx y H Q=>∃p xs i v,x=.ref p/\y=.int i/\SqT K H p xs/\atI xs i=some v/\Q v H
def rIxS:R2:=λx y H Q=>∃z i c,x=.str z/\y=.int i/\z.length<=An/\atI z.cps.toList i=some c/\Q (.str ⟨#[c]⟩) H
theorem ix_list:IxR X (rIxL X.K):=by
 intro value slice pins s σ H x y v u Q I rx ry h hs;obtain⟨p,xs,i,z,rfl,rfl,hq,he,q⟩:=h;cases rx;obtain⟨t,rfl⟩:=ry;obtain⟨its,r,pl,hz⟩:=I.list hq;obtain⟨j,h1,h2,h3,h4,h5⟩:=jmg he;obtain⟨w,ew,rw'⟩:=r.get h2;have hl:=r.length;have hn:=jgi;have fin:EP X pins σ Q w s:=⟨z,H,I,rw',q⟩;by_cases h0:0<=i
 ·have hj:i.toNat=j:=by
   rw[seqIndex_of h0 h5]at h1;exact A9 h1
  exact item_listR pl.isList h0 (by omega) (by rw[hj];simpa using ew) fin hs
 ·have hj:(i+(its.toArray.size:Int)).toNat=j:=by
   rw[seqIndex_neg (by omega) h4]at h1;rw[Ai,<-hl];exact A9 h1
  exact subscriptTail_builtinR (x:=w) pl.isList.typeIs slot_list_getitem.lookup
   (wpAny_getItem_list_neg (Q:=λr s'=>r=w/\EP X pins σ Q r s') pl.isList (by omega) (by rw[Ai]<;>omega) (by omega) (by rw[hj];simpa using ew) ⟨rfl,fin⟩) hs
theorem ix_tup:IxR X (rIxT X.K):=by
 intro value slice pins s σ H x y v u Q I rx ry h hs;obtain⟨p,xs,i,z,rfl,rfl,hq,he,q⟩:=h;cases rx;obtain⟨t,rfl⟩:=ry;obtain⟨its,r,pl,hz⟩:=I.tuple hq;obtain⟨j,h1,h2,h3,h4,h5⟩:=jmg he;obtain⟨w,ew,rw'⟩:=r.get h2;have hl:=r.length;have hn:=jgi;have fin:EP X pins σ Q w s:=⟨z,H,I,rw',q⟩;exact subscriptTail_builtinR (x:=w) pl.typeIs slot_tuple_getitem.lookup
  (getItem_tuple (j:=j) (Q:=λr s'=>r=w/\EP X pins σ Q r s') pl (by omega) (by omega) (by rw[Ai,<-hl];exact h1) (by simpa using ew) ⟨rfl,fin⟩) hs
theorem jxr:IxR X rIxS:=by
 intro value slice pins s σ H x y v u Q I rx ry h hs;obtain⟨z,i,c,rfl,rfl,hz,he,q⟩:=h;obtain⟨t,rfl⟩:=rx;obtain⟨t',rfl⟩:=ry;obtain⟨j,h1,h2,h3,h4,h5⟩:=jmg he;have hl:z.cps.toList.length=z.length:=by simp[Str.length]
 rw[hl]at h1 h4 h5;have hn:=jgi;exact tail_any (typeIs_str s z t) slot_str_getitem.lookup (getItem_str (c:=c) (by
  have e1:decide (i < -(2 ^ 63:Int))=false:=decide_eq_false (by omega);have e2:decide (i ≥ 2 ^ 63)=false:=decide_eq_false (by omega);rw[e1,e2,B6]) (by rw[h1];simpa using h2) ⟨.str ⟨#[c]⟩,H,I.tok _,⟨_,rfl⟩,q⟩) hs
def rIx (K:Ab):R2:=λx y H Q=>rIxL K x y H Q\/rIxT K x y H Q\/rIxS x y H Q
theorem jps:IxR X (rIx X.K):=ix_list.or (ix_tup.or jxr)
theorem jnr (its:List Ae) (n j:Nat) (u:Ae):Obj.mapSeq (·.setIfInBounds j u) {cls:=.type "list",data:=.seq its.toArray n}={ cls:=.type "list",data:=.seq (its.set j u).toArray n}:=by
 simp[Obj.mapSeq]
theorem Inv.lst {pins:List (Addr×Obj)} {σ:St} {H:Hp} {s:Ah} {p:Addr} {xs:List V} (I:Inv X pins σ H s) (h:H p=some (.lst xs)) :
  ∃(its:List Ae) (n:Nat),Vals xs its/\s.heap.get? p=some {cls:=.type "list",data:=.seq its.toArray n}/\xs.length<=An:=by
 obtain⟨z,its,n,r,e⟩:=I.hok p _ h;exact⟨its,n,r,e,z⟩
theorem Inv.lstUpd {pins:List (Addr×Obj)} {σ:St} {H:Hp} {s:Ah} {p:Addr} {xs ys:List V} {its its':List Ae} {n n':Nat} {f:Obj->Obj} (I:Inv X pins σ H s) (h:H p=some (.lst xs))
  (ho:s.heap.get? p=some {cls:=.type "list",data:=.seq its.toArray n}) (hf:f {cls:=.type "list",data:=.seq its.toArray n}={ cls:=.type "list",data:=.seq its'.toArray n'}) (r:Vals ys its') (hz:ys.length<=An) (t:Nat) :
  Inv X pins σ (upd H p (.lst ys)) {s with heap:=s.heap.update p f,toks:=t}:=by
 have e:(s.heap.update p f).get? p=some {cls:=.type "list",data:=.seq its'.toArray n'}:=by
  rw[Heap.get?_update_self f ho (by rw[hf]<;>rfl),hf]
 refine I.write (x:=p) (e:=p) (by rw[h];trivial) (.inl rfl) (λb u hb q=>(Heap.get?_update_other _ _ (Ne.symm hb)).trans q) ⟨_,e⟩ ?_;exact⟨hz,its',n',r,e⟩
def jwg:V->V->V->Hp->(Hp->Prop)->Prop:=λo i v H Q=>∃p xs k j,o=.ref p/\i=.int k/\H p=some (.lst xs)/\ixN xs.length k=some j/\Q (upd H p (.lst (xs.set j v)))
theorem jf6:PSet X jwg:=by
 intro pins s σ H o i v ov iv u Q I ro ri rv h;obtain⟨p,xs,k,j,rfl,rfl,hp,hj,q⟩:=h;cases ro;obtain⟨t,rfl⟩:=ri;obtain⟨its,n,r,ho,hz⟩:=I.lst hp;obtain⟨h1,h2,h3,h4⟩:=jpt hj;have hl:=r.length;have hn:=jgi;have I':Inv X pins σ (upd H p (.lst (xs.set j v))) {s with heap:=s.heap.update p (Obj.mapSeq (·.setIfInBounds j u))} :=
  I.lstUpd hp ho (jnr its n j u) (r.set rv j) (by rw[Cf];exact hz) s.toks
 by_cases h0:0<=k
 ·have hk:k.toNat=j:=by
   rw[seqIndex_of h0 h4]at h1;exact A9 h1
  exact PySem.W.ki_setAt ho h0 (by omega) (by rw[Ai,<-hl];exact h4) (by rw[hk];exact⟨_,I',q⟩)
 ·have hk:(k+(its.toArray.size:Int)).toNat=j:=by
   rw[seqIndex_neg (by omega) h3]at h1;rw[Ai,<-hl];exact A9 h1
  exact PySem.W.ki_setBack ho (by omega) (by rw[Ai,<-hl];exact h3) (by omega) (by rw[hk];exact⟨_,I',q⟩)
theorem jko (lo hi:Option Int) (n:Nat):(D0 lo hi none n).1=((HT.sIx n 0 lo:Nat):Int)/\(D0 lo hi none n).2.1=((HT.sIx n n hi:Nat):Int)/\(D0 lo hi none n).2.2=1:=by
 refine⟨?_,?_,rfl⟩
 ·cases lo with
  |none=>simp[D0,HT.sIx]
  |some i =>
   simp only[D0,HT.sIx,Option.getD_none,show(1:Int) > 0 by decide,if_true];by_cases h:i < 0
   ·simp only[h,if_true]<;>omega
   ·simp only[h,if_false]<;>omega
 ·cases hi with
  |none=>simp[D0,HT.sIx]
  |some i =>
   simp only[D0,HT.sIx,Option.getD_none,show(1:Int) > 0 by decide,if_true];by_cases h:i < 0
   ·simp only[h,if_true]<;>omega
   ·simp only[h,if_false]<;>omega
theorem ji0 (its:List Ae) (lo hi:Option Int):slicePick its.toArray lo hi none=((its.drop (HT.sIx its.length 0 lo)).take (HT.sIx its.length its.length hi - HT.sIx its.length 0 lo)).toArray:=by
 obtain⟨h1,h2,h3⟩:=jko lo hi its.toArray.size;unfold slicePick;rw[h1,h2,h3];simp only[sliceRange_one,pick_run,Ai]<;>rfl
def rSlL (K:Ab):V->Option Int->Option Int->Hp->VK->Prop:=λx lo hi H Q=>∃a xs,x=.ref a/\SqL K H a xs/\∀p,H p=none->Q (.ref p) (upd H p (.lst (cutV xs lo hi)))
theorem jt1:SlR X (rSlL X.K):=by
 intro pins s σ H x v vl vu lo hi sl Q I rx hs pl pu h;obtain⟨a,xs,rfl,hx,q⟩:=h;cases rx;obtain⟨its,r,ht,hz⟩:=I.list hx;have hlen:=r.length;refine⟨"list",_,slot_list_getitem.lookup,ht.isList.typeIs,?_⟩;refine wpAny_getItem_list_slice ht.isList hs pl pu .none (by simp) ?_ (by rw[Ai]<;>omega);rw[ji0,<-hlen];refine⟨.ref s.heap.objs.size,_,I.laid (t':=s.toks) (o:=.lst (cutV xs lo hi)) (λb ob q=>Ao _ q) (As _) ?_,rfl,q _ (I.hok.fresh (As _))⟩;exact⟨Bk (jdv xs lo hi) hz,_,0,(r.drop (HT.sIx xs.length 0 lo)).take (HT.sIx xs.length xs.length hi - HT.sIx xs.length 0 lo),Bn _ rfl⟩
def jhw:V->Bool
 |.non=>true
 |.bl _=>true
 |.int _=>true
 |.str _=>true
 |_=>false
def eqV:V->V->Bool
 |.non,.non=>true
 |.bl a,.bl b=>a==b
 |.bl a,.int b=>(if a then 1 else 0)==b
 |.int a,.bl b=>a==(if b then 1 else 0)
 |.int a,.int b=>a==b
 |.str a,.str b=>a==b
 |_,_=>false
theorem jx6 {A:Ce} {s:Ah} {y x:V} {u v:Ae} (ry:RelV y u) (rx:RelV x v) (fy:jhw y=true) (fx:jhw x=true):SeqAt.EqAt A s u v (eqV y x):=by
 cases y with
 |non =>
  cases ry;cases x with
  |non=>cases rx;exact SeqAt.EqAt.same _
  |bl b=>cases rx;exact SeqAt.EqAt.none_bool b
  |int b=>obtain⟨t,rfl⟩:=rx;exact SeqAt.EqAt.none_int b t
  |str b=>obtain⟨t,rfl⟩:=rx;exact SeqAt.EqAt.none_str b t
  |_=>exact absurd (show false=true from fx) Af
 |bl a =>
  cases ry;cases x with
  |non=>cases rx;exact SeqAt.EqAt.bool_none a
  |bl b=>cases rx;exact SeqAt.EqAt.bool_bool a b
  |int b=>obtain⟨t,rfl⟩:=rx;exact SeqAt.EqAt.bool_int a b t
  |str b=>obtain⟨t,rfl⟩:=rx;exact SeqAt.EqAt.bool_str a b t
  |_=>exact absurd (show false=true from fx) Af
 |int a =>
  obtain⟨t',rfl⟩:=ry;cases x with
  |non=>cases rx;exact SeqAt.EqAt.int_none a t'
  |bl b=>cases rx;exact SeqAt.EqAt.int_bool a t' b
  |int b=>obtain⟨t,rfl⟩:=rx;exact SeqAt.EqAt.int_int a t' b t
  |str b=>obtain⟨t,rfl⟩:=rx;exact SeqAt.EqAt.int_str a t' b t
  |_=>exact absurd (show false=true from fx) Af
 |str a =>
  obtain⟨t',rfl⟩:=ry;cases x with
  |non=>cases rx;exact SeqAt.EqAt.str_none a t'
  |bl b=>cases rx;exact SeqAt.EqAt.str_bool a t' b
  |int b=>obtain⟨t,rfl⟩:=rx;exact SeqAt.EqAt.str_int a t' b t
  |str b=>obtain⟨t,rfl⟩:=rx;exact SeqAt.EqAt.str_str a t' b t
  |_=>exact absurd (show false=true from fx) Af
 |_=>exact absurd (show false=true from fy) Af
def eqU (x:V) (u:Ae):Bool:=match u with
 |.none=>eqV .non x
 |.bool b=>eqV (.bl b) x
 |.int i _=>eqV (.int i) x
 |.str z _=>eqV (.str z) x
 |_=>false
theorem jth {x y:V} {u:Ae} (r:RelV y u) (f:jhw y=true):eqU x u=eqV y x:=by
 cases y with
 |non=>cases r;rfl
 |bl b=>cases r;rfl
 |int i=>obtain⟨t,rfl⟩:=r;rfl
 |str z=>obtain⟨t,rfl⟩:=r;rfl
 |_=>exact absurd (show false=true from f) Af
theorem jg1 {x:V}:∀{xs:List V} {us:List Ae},Vals xs us->xs.all jhw=true->us.any (eqU x)=xs.any λy=>eqV y x
 |_,_,.nil,_=>rfl
 |y::xs,u::us,.cons r t,f=>by
  rw[List.all_cons,Av]at f;rw[C9,C9,jth r f.1,jg1 t f.2]
theorem jea {A:Ce} {s:Ah} {x:V} {v:Ae} (rx:RelV x v) (fx:jhw x=true):∀{xs:List V} {us:List Ae},Vals xs us->xs.all jhw=true->∀u∈us,SeqAt.EqAt A s u v (eqU x u)
 |_,_,.nil,_=>λu hu=>by cases hu
 |y::xs,u::us,.cons r t,f=>λu' hu=>by
  rw[List.all_cons,Av]at f;rcases Aq.mp hu with rfl | hu
  ·rw[jth r f.1];exact jx6 r rx f.1 fx
  ·exact jea rx fx t f.2 u' hu
def inV (x:V) (xs:List V):Bool:=xs.any λy=>eqV y x
def rIn (K:Ab) (neg:Bool):R2:=λx y H Q=>∃p xs,y=.ref p/\(SqL K H p xs\/SqT K H p xs)/\jhw x=true/\xs.all jhw=true/\Q (.bl (if neg then !inV x xs else inV x xs)) H
theorem jpe:OpR X (A2 .In) (rIn X.K false):=by
 intro pins s σ H x y v u Q I rx ry h;obtain⟨p,xs,rfl,hq,fx,fs,q⟩:=h;cases ry;rcases hq with hq | hq
 ·obtain⟨its,r,pl,hz⟩:=I.list hq;refine SeqAt.in_listAt (eqU x) pl.isList (λw hw=>jea rx fx r fs w (by simpa using hw)) ⟨.bl _,H,I,rfl,?_⟩;rw[show its.toArray.any (eqU x)=its.any (eqU x) by simp,jg1 r fs];exact q
 ·obtain⟨its,r,pl,hz⟩:=I.tuple hq;refine SeqAt.in_tupleAt (eqU x) pl (λw hw=>jea rx fx r fs w (by simpa using hw)) ⟨.bl _,H,I,rfl,?_⟩;rw[show its.toArray.any (eqU x)=its.any (eqU x) by simp,jg1 r fs];exact q
theorem jku:OpR X (A2 .NotIn) (rIn X.K true):=by
 intro pins s σ H x y v u Q I rx ry h;obtain⟨p,xs,rfl,hq,fx,fs,q⟩:=h;cases ry;rcases hq with hq | hq
 ·obtain⟨its,r,pl,hz⟩:=I.list hq;refine SeqAt.notIn_listAt (eqU x) pl.isList (λw hw=>jea rx fx r fs w (by simpa using hw)) ⟨.bl _,H,I,rfl,?_⟩;rw[show its.toArray.any (eqU x)=its.any (eqU x) by simp,jg1 r fs];exact q
 ·obtain⟨its,r,pl,hz⟩:=I.tuple hq;refine SeqAt.notIn_tupleAt (eqU x) pl (λw hw=>jea rx fx r fs w (by simpa using hw)) ⟨.bl _,H,I,rfl,?_⟩;rw[show its.toArray.any (eqU x)=its.any (eqU x) by simp,jg1 r fs];exact q
theorem jb9:CallR X (.builtin "len") (λxs H Q=>∃p ys,xs=[.ref p]/\(SqL X.K H p ys\/SqT X.K H p ys)/\Q (.int ys.length) H):=by
 intro pins s σ H xs us Q I r h;obtain⟨p,ys,rfl,hq,q⟩:=h;obtain⟨u,rfl,rx⟩:=jj8 r;cases rx;have hn:=jgi;rcases hq with hq | hq
 ·obtain⟨its,r',pl,hz⟩:=I.list hq;have hlen:=r'.length;exact Calls.call_len_list pl.isList (by simp only[Ai]<;>omega) ⟨.int ys.length,H,I.tok _,⟨s.toks+1,by rw[Ai,hlen]⟩,q⟩
 ·obtain⟨its,r',pl,hz⟩:=I.tuple hq;have hlen:=r'.length;exact len_tuple pl (by simp only[Ai]<;>omega) ⟨.int ys.length,H,I.tok _,⟨s.toks+1,by rw[Ai,hlen]⟩,q⟩
theorem call_len_str:CallR X (.builtin "len") (λxs H Q=>∃z,xs=[.str z]/\z.length<=An/\Q (.int z.length) H):=by
 intro pins s σ H xs us Q I r h;obtain⟨z,rfl,hz,q⟩:=h;obtain⟨u,rfl,t,rfl⟩:=jj8 r;have hn:=jgi;exact len_str (by omega) ⟨.int z.length,H,I.tok _,⟨_,rfl⟩,q⟩
theorem CallR.or {f:Ae} {r r':List V->Hp->VK->Prop} (h:CallR X f r) (h':CallR X f r'):CallR X f (λxs H Q=>r xs H Q\/r' xs H Q):=by
 intro pins s σ H xs us Q I rs q;rcases q with q | q
 ·exact h pins s σ H xs us Q I rs q
 ·exact h' pins s σ H xs us Q I rs q
theorem jk6:CallR X (.type "list") (λxs H Q=>∃p ys,xs=[.ref p]/\(SqL X.K H p ys\/SqT X.K H p ys)/\∀l,H l=none->Q (.ref l) (upd H l (.lst ys))):=by
 intro pins s σ H xs us Q I r h;obtain⟨p,ys,rfl,hq,q⟩:=h;obtain⟨u,rfl,rx⟩:=jj8 r;cases rx;have fin:∀(its:List Ae),Vals ys its->ys.length<=An->∀(h':Heap) (c':Nat),(∀b o',s.heap.get? b=some o'->h'.get? b=some o') ->
   h'.get? s.heap.objs.size=some {cls:=.type "list",dict:=none,data:=.seq its.toArray c',slots:=#[]}->EP X pins σ Q (.ref s.heap.objs.size) {s with heap:=h'}:=λits r' hz h' c' kp e =>
  ⟨.ref s.heap.objs.size,_,I.laid (t':=s.toks) kp (As _) (show ObjOk X.prog X.w _ h' _ (.lst ys)from⟨hz,its,c',r',e⟩),rfl,q _ (I.hok.fresh (As _))⟩
 rcases hq with hq | hq
 ·obtain⟨its,r',pl,hz⟩:=I.list hq;have hlen:=r'.length;obtain⟨o,ho,hc,n,hd⟩:=pl.isList;exact call_list_seq p (.inl rfl) ho hc hd (λh' c' kp e=>fin its r' hz h' c' kp e) (by simp only[Ai]<;>omega)
 ·obtain⟨its,r',pl,hz⟩:=I.tuple hq;have hlen:=r'.length;obtain⟨o,ho,hc,n,hd⟩:=pl;exact call_list_seq p (.inr rfl) ho hc hd (λh' c' kp e=>fin its r' hz h' c' kp e) (by simp only[Ai]<;>omega)
theorem jjo:CallR X (.type "tuple") (λxs H Q=>∃p ys,xs=[.ref p]/\((SqL X.K H p ys/\∀l,H l=none->Q (.ref l) (upd H l (.tup ys)))\/(SqT X.K H p ys/\Q (.ref p) H))):=by
 intro pins s σ H xs us Q I r h;obtain⟨p,ys,rfl,h⟩:=h;obtain⟨u,rfl,rx⟩:=jj8 r;cases rx;rcases h with⟨hq,q⟩ | ⟨hq,q⟩
 ·obtain⟨its,r',pl,hz⟩:=I.list hq;have hlen:=r'.length;refine call_tuple_list pl.isList (λh' kp=>?_) (by simp only[Ai]<;>omega);have I1:Inv X pins σ H {s with heap:=h'}:=I.kept (t':=s.toks) kp;have I2:Inv X pins σ (upd H h'.objs.size (.tup ys)) {s with heap:=h'.push {cls:=.type "tuple",data:=.seq its.toArray}} :=
   I1.laid (t':=s.toks) (λb o e=>Ao _ e) (As _) (show ObjOk X.prog X.w _ _ _ (.tup ys)from⟨hz,its,r',IsTupP.new _ _⟩)
  exact⟨.ref h'.objs.size,_,I2,rfl,q _ (I1.hok.fresh (As _))⟩
 ·obtain⟨its,r',pl,hz⟩:=I.tuple hq;exact call_tuple_same pl ⟨.ref p,H,I,rfl,q⟩
def tyV (K:Ab) (T:String) (x:V) (H:Hp):Prop:=match x with
 |.str _=>T="str"
 |.int _=>T="int"
 |.ref p=>(T="list"/\∃xs,SqL K H p xs)\/(T="tuple"/\∃o,K.lookup p=some o/\o.cls=.type "tuple"/\o.dict=none) \/
   (T="dict"/\((∃kvs,H p=some (.dK kvs))\/∃kvs,H p=some (.dT kvs)))\/(T="set"/\∃S n,H p=some (.set S n))
 |_=>False
theorem jsz {pins:List (Addr×Obj)} {σ:St} {H:Hp} {s:Ah} {T:String} {x:V} {v:Ae} (I:Inv X pins σ H s) (r:RelV x v) (ty:tyV X.K T x H) :
  s.TypeIs v T/\∀a,v=.ref a->∃ob,s.heap.get? a=some ob/\ob.dict=none:=by
 cases x with
 |str z =>
  obtain⟨t,rfl⟩:=r;cases(show T="str" from ty);exact⟨typeIs_str s z t,λ_ e=>nomatch e⟩
 |int i =>
  obtain⟨t,rfl⟩:=r;cases(show T="int" from ty);exact⟨typeIs_int s i t,λ_ e=>nomatch e⟩
 |ref p =>
  cases r;rcases ty with⟨rfl,xs,hq⟩ | ⟨rfl,o,hk,hc,hd⟩ | ⟨rfl,hk⟩ | ⟨rfl,S,n,hk⟩
  ·obtain⟨its,_,pl,_⟩:=I.list hq;refine⟨pl.isList.typeIs,λa e=>?_⟩;cases e;obtain⟨o,n,e,c,hd,_⟩:=pl;exact⟨o,e,hd⟩
  ·refine⟨⟨o,I.kIn p o hk,hc⟩,λa e=>?_⟩;cases e;exact⟨o,I.kIn _ o hk,hd⟩
  ·have z:∃o,s.heap.get? p=some o/\o.ExactDict:=by
    rcases hk with⟨kvs,hk⟩ | ⟨kvs,hk⟩
    ·obtain⟨_,_,_,_,o,_,_,e,ex,_⟩:=I.hok p _ hk;exact⟨o,e,ex⟩
    ·obtain⟨_,_,_,_,o,_,_,e,ex,_⟩:=I.hok p _ hk;exact⟨o,e,ex⟩
   obtain⟨o,e,ex⟩:=z;refine⟨⟨o,e,ex.1⟩,λa e2=>?_⟩;cases e2;exact⟨o,e,ex.2.1⟩
  ·obtain⟨o,_,_,_,e,ex,_⟩:=I.hok p _ hk;refine⟨⟨o,e,ex.1⟩,λa e2=>?_⟩;cases e2;exact⟨o,e,ex.2.1⟩
 |_=>exact False.elim ty
def tBM0 (K:Ab) (T:String) (r:V->List V->Hp->VK->Prop) (to:TE):TE:=λσ H Q=>to σ H λx H1=>tyV K T x H1/\r x [] H1 Q
def tBM (K:Ab) (T:String) (r:V->List V->Hp->VK->Prop) (to:TE) (t:TA):TE:=λσ H Q=>to σ H λx H1=>tyV K T x H1/\t σ H1 λxs H2=>r x xs H2 Q
variable {o e:Expr} {es:List Expr} {to:TE} {t:TA} {name:Str} {apos cpos:Pos} {T id:String} {r:V->List V->Hp->VK->Prop}
theorem jwz (pa:PlainAttrs T) (slot:Slot T name id) (hty:typeOf (.builtin id)=pure (.type "method_descriptor")) (hm:MtR X id r) (ho:PE X o to)
  (hbase:attributeBase o name X.env (eval o X.env)=eval o X.env:=by rfl) (hline:(apos.endLine==cpos.line)=true:=by rfl):PE X (.Call (.Attribute o name apos) [] [] cpos) (tBM0 X.K T r to):=by
 intro pins s σ H Q I h;refine wpAny_Call_method0_late hbase hline (thn (ho pins s σ H _ I h) λv s1 ⟨x,H1,I1,r1,ty,q1⟩=>?_);obtain⟨h1,h2⟩:=jsz I1 r1 ty;exact⟨T,id,pa,slot,hty,h1,h2,Calls.callWith_builtin rfl (PySem.evalArgs_none (hm pins s1 σ H1 x [] v [] Q I1 r1 .nil q1))⟩
theorem jw0 (pa:PlainAttrs T) (slot:Slot T name id) (hty:typeOf (.builtin id)=pure (.type "method_descriptor")) (hm:MtR X id r) (ho:PE X o to) (ha:PA X (e::es) t)
  (hbase:attributeBase o name X.env (eval o X.env)=eval o X.env:=by rfl)
  (hfew:((Di cpos (Ay (e::es) X.env)).all (λx=>!x.1)&&(backToKw cpos (keywordEach [] X.env)).all (λx=>x.1.isSome)
   && decide ((e::es).length+([]:List Keyword).length+(if ([]:List Keyword).isEmpty then 0 else 1) < 30))=true:=by rfl)
  (hline:(apos.endLine==cpos.line)=true:=by rfl) (hs:Ay (e::es) X.env=(false,eval e X.env)::Ay es X.env:=by rfl) (hplain:(Di cpos (Ay es X.env)).any (·.1)=false:=by rfl) :
  PE X (.Call (.Attribute o name apos) (e::es) [] cpos) (tBM X.K T r to t):=by
 intro pins s σ H Q I h;refine wpAny_Call_method_late hbase hfew hline rfl (thn (ho pins s σ H _ I h) λv s1 ⟨x,H1,I1,r1,ty,q1⟩=>?_);obtain⟨h1,h2⟩:=jsz I1 r1 ty;refine⟨T,id,pa,slot,hty,h1,h2,?_⟩;have hA:=ha cpos pins s1 σ H1 _ I1 q1;rw[hs]at hA ⊢;refine Calls.callWith_builtin (by show(false || (Di cpos (Ay es X.env)).any (·.1))=false;rw[hplain]<;>rfl) (Calls.evalArgs_plain ?_);exact thn hA λus s2 ⟨vs,H2,I2,r2,q2⟩=>hm pins s2 σ H2 x vs v us Q I2 r1 r2 q2
end
def MtM (X:Cx) (id:String) (r:V->List V->Hp->VK->Prop):Prop :=
 ∀(pins:List (Addr×Obj)) (s:Ah) (σ:St) (H:Hp) (x:V) (xs:List V) (v:Ae) (us:List Ae) (Q:VK),Inv X pins σ H s->RelV x v->Vals xs us->r x xs H Q ->
  A5 (A8 X.prog X.w) X.A (call (.builtin id) (v::us)) (EP X pins σ Q) X.xe s
theorem Vals.one:∀{x:V} {us:List Ae},Vals [x] us->∃u,us=[u]/\RelV x u
 |_,_,.cons r .nil=>⟨_,rfl,r⟩
theorem Vals.zero:∀{us:List Ae},Vals [] us->us=[]
 |_,.nil=>rfl
theorem Vals.dropLast {xs:List V} {us:List Ae} (h:Vals xs us):Vals xs.dropLast us.dropLast:=by
 induction h with
 |nil=>exact .nil
 |cons r t ih =>
  cases t with
  |nil=>exact .nil
  |cons q t'=>exact .cons r ih
theorem Vals.reverse {xs:List V} {us:List Ae} (h:Vals xs us):Vals xs.reverse us.reverse:=by
 induction h with
 |nil=>exact .nil
 |cons r t ih=>rw[List.reverse_cons,List.reverse_cons];exact Vals.append ih (.cons r .nil)
theorem Vals.rep {xs:List V} {us:List Ae} (h:Vals xs us):∀k:Nat,Vals (Ap k xs).flatten (Ap k us).flatten
 |0=>.nil
 |k+1=>by
  rw[Cc,Cc,Cw,Cw];exact Vals.append h (Vals.rep h k)
theorem jnw {α:Type} (l:List α):l.eraseIdx (l.length - 1)=l.dropLast:=by
 induction l with
 |nil=>rfl
 |cons a r ih =>
  cases r with
  |nil=>rfl
  |cons b r =>
   have e:(a::b::r).length - 1=((b::r).length - 1)+1:=by
    have h1:(a::b::r).length=r.length+2:=rfl;have h2:(b::r).length=r.length+1:=rfl;omega
   rw[e,List.eraseIdx_cons_succ,ih]
   all_goals rfl
theorem jk4 (its:List Ae):∀(k:Nat) (acc:List Ae),
  List.foldl (λx1 x2=>x1++x2) acc.toArray (Ap k its.toArray)=(acc++(Ap k its).flatten).toArray
 |0,acc=>by simp
 |k+1,acc=>by
  have e:acc.toArray++its.toArray=(acc++its).toArray:=by simp
  have e2:(acc++its)++(Ap k its).flatten=acc++(Ap (k+1) its).flatten:=by
   rw[Cc,Cw,Bw]
  rw[<-e2,<-jk4 its k (acc++its),<-e,Cc,List.foldl_cons]
section
variable {X:Cx} {pins:List (Addr×Obj)} {σ:St} {H:Hp} {s:Ah} {l b:Addr} {xs ys zs:List V}
theorem Inv.lset {its its':List Ae} {n:Nat} {f:Array Ae->Array Ae} {t':Nat} (I:Inv X pins σ H s) (hH:H l=some (.lst xs))
  (e:s.heap.get? l=some {cls:=.type "list",data:=.seq its.toArray n}) (hf:f its.toArray=its'.toArray) (hv:Vals ys its') (hz:ys.length<=An) :
  Inv X pins σ (upd H l (.lst ys)) {s with heap:=s.heap.update l (Obj.mapSeq f),toks:=t'}:=by
 have q:=PySem.IsL.update e f;rw[hf]at q;refine I.write (x:=l) (e:=l) (by rw[hH];exact trivial) (.inl rfl) (λb' u hb hu=>(Heap.get?_update_other s.heap (Obj.mapSeq f) (Ne.symm hb)).trans hu) ⟨_,q⟩ ?_;exact⟨hz,its',_,hv,q⟩
theorem Inv.lnew {its:List Ae} {t':Nat} (I:Inv X pins σ H s) (hv:Vals ys its) (hz:ys.length<=An) :
  Inv X pins σ (upd H s.heap.objs.size (.lst ys)) {s with heap:=s.heap.push {cls:=.type "list",data:=.seq its.toArray},toks:=t'} :=
 I.laid (λ_ _ q=>Ao _ q) (As _) ⟨hz,its,0,hv,Bn _ rfl⟩
theorem Inv.fresh (I:Inv X pins σ H s):H s.heap.objs.size=none:=I.hok.fresh (As _)
theorem Inv.lstM (I:Inv X pins σ H s) (hH:H l=some (.lst xs)):xs.length<=An/\∃(its:List Ae) (n:Nat),Vals xs its/\xs.length=its.length/\s.heap.get? l=some {cls:=.type "list",data:=.seq its.toArray n}:=by
 obtain⟨z,its,n,r,e⟩:=I.hok l _ hH;exact⟨z,its,n,r,r.length,e⟩
theorem jmw {n:Nat} (h:n<=An):Ct n=false:=by
 unfold Ct;exact decide_eq_false (by omega)
end
section
variable {X:Cx}
def jox:V->List V->Hp->VK->Prop:=λx vs H Q=>∃l xs y,x=.ref l/\vs=[y]/\H l=some (.lst xs)/\xs.length < An/\Q .non (upd H l (.lst (xs++[y])))
theorem jgh:MtM X "list.append" jox:=by
 intro pins s σ H x vs v us Q I rx rv h;obtain⟨l,xs,y,rfl,rfl,hH,hz,q⟩:=h;cases rx;obtain⟨u,rfl,ru⟩:=rv.one;obtain⟨z,its,n,r,hl,e⟩:=I.lstM hH;refine call_meets F.slot_list_append ⟨_,e,rfl⟩ F.entry_list_append (F.args_list_append_2 _ _) (PySem.list_append l its.toArray n u (by rw[Ai];omega)) ⟨e,?_⟩;refine⟨.non,_,I.lset (its':=its++[u]) hH e (by simp) (r.append (.cons ru .nil)) ?_,rfl,q⟩;rw[Al,Az];omega
def jt6:V->List V->Hp->VK->Prop:=λx vs H Q=>∃l b xs zs,x=.ref l/\vs=[.ref b]/\H l=some (.lst xs)/\H b=some (.lst zs)/\xs.length+zs.length<=An/\Q .non (upd H l (.lst (xs++zs)))
theorem jxh:MtM X "list.extend" jt6:=by
 intro pins s σ H x vs v us Q I rx rv h;obtain⟨l,b,xs,zs,rfl,rfl,hH,hB,hz,q⟩:=h;cases rx;obtain⟨u,rfl,ru⟩:=rv.one;cases ru;obtain⟨z,its,n,r,hl,e⟩:=I.lstM hH;obtain⟨z2,its2,n2,r2,hl2,e2⟩:=I.lstM hB;have hsz:its.toArray.size+its2.toArray.size<=An:=by rw[Ai,Ai];omega
 have hlong:¬(!its.toArray.isEmpty&&Ct (its.toArray.size+its2.toArray.size))=true:=by
  rw[jmw hsz,Bool.and_false];exact Af
 refine call_meets F.slot_list_extend ⟨_,e,rfl⟩ F.entry_list_extend (F.args_list_extend_2 _ _)
  (AutoSeq1.list_extend_list_list_0 l its.toArray n b its2.toArray n2 hlong (by rw[Ai];omega) (by omega)) ⟨e,e2,?_⟩
 refine⟨.non,_,I.lset (its':=its++its2) hH e (by simp) (r.append r2) ?_,rfl,q⟩;rw[Al];omega
def rPop:V->List V->Hp->VK->Prop:=λx vs H Q=>∃l xs y,x=.ref l/\vs=[]/\H l=some (.lst xs)/\xs[xs.length - 1]?=some y/\Q y (upd H l (.lst xs.dropLast))
theorem jxg:MtM X "list.pop" rPop:=by
 intro pins s σ H x vs v us Q I rx rv h;obtain⟨l,xs,y,rfl,rfl,hH,hy,q⟩:=h;cases rx;have hus:=rv.zero;subst hus;obtain⟨z,its,n,r,hl,e⟩:=I.lstM hH;obtain⟨u,hu,ru⟩:=r.get hy;have hy':its.toArray[its.toArray.size - 1]?=some u:=by
  show its.toArray[its.length - 1]?=some u;rw[<-Array.getElem?_toList,<-hl];exact hu
 refine call_meets F.slot_list_pop ⟨_,e,rfl⟩ F.entry_list_pop (F.args_list_pop_1 _) (MeetsSeq.list_pop_last l its.toArray n u hy' (by rw[Ai];omega)) ⟨e,?_⟩;refine⟨y,_,I.lset (its':=its.dropLast) hH e ?_ r.dropLast ?_,ru,q⟩
 ·show its.toArray.eraseIdxIfInBounds (its.toArray.size - 1)=its.dropLast.toArray;rw[Ai,List.eraseIdxIfInBounds_toArray,jnw]
 ·rw[List.length_dropLast];omega
def rCat:R2:=λx y H Q=>∃l b xs zs,x=.ref l/\y=.ref b/\H l=some (.lst xs)/\H b=some (.lst zs)/\xs.length+zs.length<=An/\∀p,H p=none->Q (.ref p) (upd H p (.lst (xs++zs)))
theorem jtb:OpR X (Cz .Add) rCat:=by
 intro pins s σ H x y v u Q I rx ry h;obtain⟨l,b,xs,zs,rfl,rfl,hH,hB,hz,q⟩:=h;cases rx;cases ry;obtain⟨z,its,n,r,hl,e⟩:=I.lstM hH;obtain⟨z2,its2,n2,r2,hl2,e2⟩:=I.lstM hB;refine PySem.P.add_list e e2 ?_ (by rw[Ai,Ai];omega);have ea:its.toArray++its2.toArray=(its++its2).toArray:=by simp
 rw[ea];exact⟨.ref _,_,I.lnew (t':=s.toks) (r.append r2) (by rw[Al];omega),rfl,q _ I.fresh⟩
theorem jl4 {α:Type} (xs:List α) (k:Nat):(Ap k xs).flatten.length=k*xs.length:=by
 induction k with
 |zero=>simp
 |succ k ih=>rw[Cc,Cw,Al,ih,Nat.succ_mul,Nat.add_comm]
end
end L2
namespace Att
open PySem PySem.W PySem.Calls PyProof.Rows
theorem jgn {P:Params} {h:Heap}:∀(ns:List Int) (vs:List Ae),WellAll P h vs (ns.map WData.int)->IntsAre vs ns:=by
 intro ns
 induction ns with
 |nil =>
  intro vs w;rw[Be]at w;cases w;exact .nil
 |cons n ns ih =>
  intro vs w;rw[A3]at w;cases w with
  |cons a b =>
   cases a;exact .cons _ _ (ih _ b)
theorem jol {l:OpenLaw} {n:Nat} (hn:l.most=some n) {P:Params} {h:Heap} {args:List WData} {vals:List Ae}
  (hpre:l.row.toRowW.claim.pre args=true) (hwl:WellAll P h vals args) :
  ∃a vs ns,vals=[Bx a]/\args=[WData.list (ns.map WData.int)]/\h.get? a=some {cls:=.type "list",data:=.seq vs.toArray}/\IntsAre vs ns/\ns.length<=n:=by
 have hsh:WShape.hasAll [] args [.list .int]=true:=(pre_splitW hpre).1;have hc:l.pre.holds [] {args:=args}=true:=(pre_splitW hpre).2;obtain⟨d,r,rfl,h1,h2⟩:=hasAllW_cons hsh;obtain rfl:=hasAllW_nil h2;obtain⟨xs,rfl,h3⟩:=hasW_list h1;obtain⟨ns,rfl⟩:=items_int h3;have hlen:ns.length<=n:=by
  unfold OpenLaw.pre at hc;have h4:(WTm.not (.lt (.lit (.int (n:Int))) (.len (.arg 0)))).holds [] {args:=[.list (ns.map .int)]}=true:=by
   have h4:=(holds_andW hc).1;rw[hn]at h4;exact h4
  have h5:=condW_of h4 (w_not (w_lt w_lit (w_len_list (w_arg rfl))));rw[Ag]at h5;refine Nat.le_of_not_lt λq=>?_;have q':(n:Int) < ((ns.length:Nat):Int):=by omega
  first
   | (rw[decide_eq_true q']at h5;exact absurd h5 (by decide))
   | (simp at h5;omega)
 cases hwl with
 |cons w1 w2 =>
  cases w2;cases w1 with
  |list ho hall=>exact⟨_,_,ns,rfl,rfl,ho,jgn ns _ hall,hlen⟩
theorem jo0 (l:OpenLaw) (args:List WData):l.row.toRowW.claim.post args (.bool true) args=true :=
 postW_of (r:=l.row.toRowW) (X:=(true==true))
  (show WShape.has [] (.bool true) .bool=true by first | rfl | decide | simp[WShape.has,WShape.arms,WShape.armsAll])
  (show(WTm.eq .res (.lit (.bool true))).value [] {args:=args,res:=some (.bool true),after:=args}=some (.bool (true==true))from w_eq_bool (w_res rfl) w_lit) rfl
theorem attach_call {l:OpenLaw} {n:Nat} {q:Bi} {loose:List Str} {XP:(Str->Option Ae)->Heap->Prop} {YP:Bz->Heap->Prop} {d:DefRec}
  (hn:l.most=some n) (hdf:d.params.defaults=[])
  (call:∀(w:Bz) (s₀ s₁:Ah) (mg mb:Str->Option Ae) (fa:Addr) (o:Obj) (pm cd doc:Ae) (a:Addr) (vs:List Ae) (ns:List Int),
   Ground q loose [] XP w s₀ mg mb s₁.heap->YP w s₁.heap ->
   s₁.heap.get? fa=some o->o.data=.func (docDef d.name d.params d.body d.scope pm cd doc)->s₁.heap.CodeRec cd d.name->mg d.name=some (.ref fa) ->
   s₁.heap.get? a=some {cls:=.type "list",data:=.seq vs.toArray}->IntsAre vs ns->ns.length<=n->s₁.gens=#[] ->
   codeAny (A8 l.prog w) callerA (.call (.ref fa) ⟨[.ref a],[]⟩) (λr s'=>r=.ok (.ret (.bool true))/\OldK s₁.heap s'.heap/\s'.os=s₁.os/\AllBare s'.gens) s₁) :
  WalkO q loose XP YP l.row.toRowW d [] (λf vs=>PySem.call f vs):=by
 intro w s₀ s₁ mg mb G Y fa o pm cd doc dV kV ho hd hcd hD hmg hg args vals as hpre hlay hrd hwl hlo;obtain rfl:dV=.none:=Dflts.none hD hdf;obtain rfl:kV=.none:=Dflts.noKw hD;obtain⟨a,vs,ns,rfl,rfl,hobj,hints,hlen⟩:=jol hn hpre hwl;refine enter_call (codeAny_mono (call w s₀ s₁ mg mb fa o pm cd doc a vs ns G Y ho (fd_plain hd) hcd hmg hobj hints hlen hg) λr s' hq=>?_);obtain⟨rfl,h2,h3,h4⟩:=hq;exact⟨.inl ⟨.bool true,.bool true,[],rfl,λ_=>rfl,.bool true,jo0 l _,λ_=>⟨List.Pairwise.nil,λ_ hm=>(nomatch hm)⟩⟩,h2,h3,h4⟩
end Att
namespace L2
open PySem PySem.Spec PyProof.Rows
theorem jj7:∀{vs:List Ae} {ns:List Int},IntsAre vs ns->Vals (ns.map V.int) vs
 |_,_,.nil=>.nil
 |_,_,.cons n t h=>.cons ⟨t,rfl⟩ (jj7 h)
def Only (H:Hp):Prop:=∀b,H b=none\/∃o xs,H b=some (.frz o (.lst xs))
theorem jr1 {P:Bi} {w:Bz} {K:Ab} {mg mb:Str->Option Ae} {CX:CXT} {k:Nat} {fa a:Addr} {fd:B5} {x:Str} {sp:Sp} {s₁:Ah} {vs:List Ae} {ns:List Int}
  (KX:K.In s₁.heap) (hns:s₁.heap.Ns Cn mg) (hb:s₁.heap.Ns builtinsNs mb) (hbb:∀x:Str,x≠"__name__"->mb x=Bh x) (hlim:s₁.heap.NoLimit) (hg:s₁.gens=#[])
  (ha:s₁.heap.get? a=some {cls:=.type "list",data:=.seq vs.toArray}) (hi:IntsAre vs ns) (hl:ns.length<=An) (hr:Room k callerA)
  (F:∀base:Heap,K.In base->base.Ns Cn mg->FnOk P w K mg base CX k fa fd [x] sp) (hbind:∀(s:Ah) (u:Ae),BindsTo s fd ⟨[u],[]⟩ [(x,u)])
  (hsp:∀H:Hp,Only H->SqL K H a (ns.map V.int)->sp [.ref a] H (λv _=>v=.bl true) λ_ _ _=>False)
  (hCX:∀H e s',CX [] H s₁ (λ_ _ _=>False) e s'->False) :
  codeAny (A8 P w) callerA (.call (.ref fa) ⟨[.ref a],[]⟩) (λr s'=>r=.ok (.ret (.bool true))/\OldK s₁.heap s'.heap/\s'.os=s₁.os/\AllBare s'.gens) s₁:=by
 have rv:=jj7 hi;have lenV:=hi.length
 -- from an abstract heap in which nothing but the script may be tracked
 have core:∀H:Hp,Only H->SqL K H a (ns.map V.int)->HOk P w H s₁.heap->(∀b,H b≠none->b=a)->(H a≠none->K.lookup a=none) ->
   codeAny (A8 P w) callerA (.call (.ref fa) ⟨[.ref a],[]⟩) (λr s'=>r=.ok (.ret (.bool true))/\OldK s₁.heap s'.heap/\s'.os=s₁.os/\AllBare s'.gens) s₁:=by
  intro H hO hS hok hA hK;have base_of:∀{b:Addr} {o:Obj},s₁.heap.get? b=some o->H b=none->(hidT s₁.heap H).get? b=some o:=λe n=>jr4 e n;have noA:∀{b:Addr} {o:Obj} {es:Array DictEntry} {ep:Nat},s₁.heap.get? b=some o->o.data=.dict es ep->H b=none:=λ{b o es ep} e d=>by
   cases q:H b with
   |none=>rfl
   |some u =>
    have e':b=a:=hA b (by rw[q];simp);subst e';rw[ha]at e;cases e;have d':Data.seq vs.toArray _=Data.dict es ep:=d;cases d'
  have nsK:∀{b:Addr} {m:Str->Option Ae},s₁.heap.Ns b m->(hidT s₁.heap H).Ns b m:=λ{b m} ⟨o,es,ep,e,d,r⟩=>⟨o,es,ep,base_of e (noA e d),d,r⟩;have hKb:K.In (hidT s₁.heap H):=λb o e=>base_of (KX b o e) (by
   cases q:H b with
   |none=>rfl
   |some u =>
    have e':b=a:=hA b (by rw[q];simp);subst e';rw[hK (by rw[q];simp)]at e;cases e)
  have hM:Mod K mg (hidT s₁.heap H):=⟨hKb,nsK hns,⟨mb,nsK hb,hbb⟩,let⟨mc,h1,h2⟩:=hlim;⟨mc,nsK h1,h2⟩⟩;have e0:Env0 P w K mg (hidT s₁.heap H) callerA [] s₁ H:=⟨rfl,hM,λb o e=>juq e,Nat.le_of_eq (jpz _ _),trivial,λb hb=>absurd (show b∈([]:List Addr)from hb) (by simp),hok,.of_eq hg⟩;refine codeAny_mono ((F _ hKb (nsK hns)).run callerA [] s₁ H ⟨[.ref a],[]⟩ [.ref a] [.ref a] _ _ hr e0 (hbind s₁ (.ref a)) (.cons rfl .nil) (hsp H hO hS)) λr s' h=>?_;cases r with
  |error e=>exact(hCX H e s' h).elim
  |ok fl =>
   cases fl with
   |next=>exact False.elim h
   |brk=>exact False.elim h
   |cont=>exact False.elim h
   |ret u =>
    obtain⟨v,H',os,bare,un,hok',r',q⟩:=h;have q':v=.bl true:=q;subst q';obtain rfl:u=Value.bool true:=r';refine⟨rfl,OldK.of_keep λb o e=>?_,os,bare⟩;cases q:H b with
    |none=>exact un.keep b o e q (by intro z;exact absurd (show b∈([]:List Addr)from z) (by simp)) (by simp)
    |some u =>
     rcases hO b with z | ⟨ob,xs,z⟩
     ·rw[q]at z;cases z
     ·have z2:=un.frzs b ob _ z;obtain⟨e1,_⟩:=hok b _ z;obtain⟨e2,_⟩:=hok' b _ z2;rw[e]at e1;cases e1;exact e2
 cases hk:K.lookup a with
 |some o =>
  -- the script is one of the module's own objects
  have e:=KX a o hk;rw[ha]at e;cases e;refine core (λ_=>none) (λ_=>.inl rfl) (.inr ⟨_,vs.toArray,_,hk,rfl,rfl,rfl,by rw[Ai,lenV];exact hl,by simpa using rv⟩) (λb u z=>by have z':(none:Option HO)=some u:=z;cases z') (λb z=>absurd rfl z) λz=>absurd rfl z
 |none =>
  refine core (λb=>if b=a then some (.frz {cls:=.type "list",data:=.seq vs.toArray} (.lst (ns.map V.int)))else none) (λb=>?_) (.inl (.inr ⟨{cls:=.type "list",data:=.seq vs.toArray},if_pos rfl⟩)) (λb u z=>?_) (λb z=>?_) λ_=>hk
  ·by_cases hb:b=a
   ·exact .inr ⟨_,_,if_pos hb⟩
   ·exact .inl (if_neg hb)
  ·by_cases hb:b=a
   ·have z':=(if_pos hb).symm.trans z;cases z';subst hb;exact⟨ha,by rw[Ag];exact hl,vs,_,rv,ha⟩
   ·have z':=(if_neg hb).symm.trans z;cases z'
  ·by_cases hb:b=a
   ·exact hb
   ·exact absurd (if_neg hb) z
theorem walk_of {l:PySem.W.OpenLaw} {n k:Nat} {q:Bi} {loose:List Str} {XP:(Str->Option Ae)->Heap->Prop} {YP:Bz->Heap->Prop} {d:DefRec} {K:Params->Ab} {CX:Bz->CXT} {sp:Bz->Sp} {x:Str}
  (hn:l.most=some n) (hn2:n<=An) (hdf:d.params.defaults=[]) (hr:Room k callerA)
  (hY:∀(w:Bz) (h:Heap),YP w h->(K w.params).In h)
  (F:∀(w:Bz) (mg:Str->Option Ae) (fa:Addr) (h:Heap),(K w.params).In h->h.Ns Cn mg->mg d.name=some (.ref fa) ->
   ∃fd:B5,(∀(s:Ah) (u:Ae),BindsTo s fd ⟨[u],[]⟩ [(x,u)]) /\
    ∀base:Heap,(K w.params).In base->base.Ns Cn mg->FnOk l.prog w (K w.params) mg base (CX w) k fa fd [x] (sp w))
  (hsp:∀(w:Bz) (H:Hp) (a:Addr) (ns:List Int),ns.length<=n->Only H->SqL (K w.params) H a (ns.map V.int)->sp w [.ref a] H (λv _=>v=.bl true) λ_ _ _=>False)
  (hCX:∀(w:Bz) (H:Hp) (s:Ah) (e:Ae) (s':Ah),CX w [] H s (λ_ _ _=>False) e s'->False) :
  PySem.W.WalkO q loose XP YP l.row.toRowW d [] (λf vs=>PySem.call f vs):=by
 refine Att.attach_call hn hdf λw s₀ s₁ mg mb fa o pm cd doc a vs ns G Y ho hd hcd hmg hobj hints hlen hg=>?_;have KX:=hY w _ Y;obtain⟨fd,hb,hF⟩:=F w mg fa _ KX G.T.g hmg;exact jr1 KX G.T.g G.T.b G.T.builtins G.T.nolimit hg hobj hints (Bk hlen hn2) hr hF hb (λH hO hS=>hsp w H a ns hlen hO hS) λH e s'=>hCX w H s₁ e s'
def jdu (s:Stmt):Arguments:=match s with
 |.FunctionDef _ a _ _ _ _ _ _ _ _=>a
 |_=>{ posonlyargs:=[],args:=[],vararg:=none,kwonlyargs:=[],kw_defaults:=[],kwarg:=none,defaults:=[]}
def jbm (s:Stmt):List Stmt:=match s with
 |.FunctionDef _ _ b _ _ _ _ _ _ _=>b
 |_=>[]
def jam (s:Stmt):Dc:=match s with
 |.FunctionDef _ _ _ _ _ _ sc _ _ _=>sc
 |_=>{ kind:=.function,names:=[],isGenerator:=false,isCoroutine:=false}
abbrev CX0:CXT:=λ_ _ _ _ _ _=>False
abbrev E0:XK:=λ_ _ _=>False
theorem jw2 {X:Cx}:jqt CX0 X E0:=λ_ _ _ _ _ _ _ h=>h.elim
structure Fun (K:Ab) (x qual:Str) (st:Stmt) (f:Addr) (fd:B5):Prop where
 ex:∃(oc:Ae) (od:Option Addr) (kV doc pm:Ae) (an:Option Addr) (cdv ct:Ae) (osl:Array (Option Ae)),
  fd=Dg x qual (jdu st) (jbm st) (jam st) .none kV doc pm an cdv ct/\K.lookup f=some ⟨oc,od,.func fd,osl⟩/\PySem.W.codeIn K cdv qual=true
 kp:B3 K (.ref f)=true
section
variable {P:Bi} {w:Bz} {K:Ab} {mg:Str->Option Ae} {base:Heap}
theorem Fun.ok {x qual:Str} {st:Stmt} {f:Addr} {fd:B5} {N ps:List Str} {k:Nat} {sp:Sp} (F:Fun K x qual st f fd) (S:FnScope N ps (jam st)) (len:∀vs H Q E,sp vs H Q E->vs.length=ps.length)
  (hbody:∀(cdv:Ae) (A:Ce) (outer:List Env) (s:Ah) (H:Hp) (vs:List V) (Q:VK) (E:XK),Room k (A.deeper (envOfC qual (jam st) s.heap.objs.size f cdv))->sp vs H Q E ->
   ∃t,PSs (cxOf CX0 P w K mg base N qual (jam st) f cdv A outer s H E).nox (jbm st) t/\t {nx:=λ_ H'=>Q .non H',rt:=Q} (start N vs) H):FnOk P w K mg base CX0 (k+1) f fd ps sp:=by
 obtain⟨oc,od,kV,doc,pm,an,cdv,ct,osl,rfl,lk,hcd⟩:=F.ex;refine jzs lk hcd S len λA outer s H vs Q E hr hsp=>?_;obtain⟨t,h,q⟩:=hbody cdv A outer s H vs Q E hr hsp;exact⟨t,h.nox,q⟩
theorem Fun.binds {x qual:Str} {st:Stmt} {f:Addr} {fd:B5} {ps:List Str} (F:Fun K x qual st f fd)
  (h:∀(kV doc pm:Ae) (an:Option Addr) (cdv ct:Ae) (us:List Ae),us.length=ps.length->bindArgs (Dg x qual (jdu st) (jbm st) (jam st) .none kV doc pm an cdv ct) ⟨us,[]⟩=pure (ps.zip us)):Binds K fd ps []:=by
 obtain⟨oc,od,kV,doc,pm,an,cdv,ct,osl,rfl,lk,hcd⟩:=F.ex;exact .all (h kV doc pm an cdv ct)
theorem jx4 {x qual:Str} {st:Stmt} {f:Addr} {oc:Ae} {od an:Option Addr} {osl:Array (Option Ae)} {kV doc pm cdv ct:Ae} (l:K.lookup f=some ⟨oc,od,.func (Dg x qual (jdu st) (jbm st) (jam st) .none kV doc pm an cdv ct),osl⟩)
  (c:PySem.W.codeIn K cdv qual=true) (k:B3 K (.ref f)=true):Fun K x qual st f (Dg x qual (jdu st) (jbm st) (jam st) .none kV doc pm an cdv ct):=⟨⟨oc,od,kV,doc,pm,an,cdv,ct,osl,rfl,l,c⟩,k⟩
end
theorem jok {n:Nat} (h:n<=1000):n < An:=Nat.lt_of_le_of_lt h (by decide)
section
variable {X:Cx}
theorem pv (i:Nat) {x:Str} {pos:Pos} (hN:X.N[i]?=some x:=by rfl) (hv:Vis X.env.scope x:=by first | exact Cq rfl | exact By (Cq rfl) | exact By (By rfl)) (hd:(x==("__debug__":Str))=false:=by decide)
  (hcd:(x==("__classdict__":Str))=false:=by decide):PE X (.Name x pos) (tVar i):=jfd hN hv hd hcd
end
theorem iteF {A B:Prop} (h:B):if false=true then A else B:=by
 rw[if_neg Af];exact h
theorem ite2 {c A B:Prop} [Decidable c] (h1:c->A) (h2:¬c->B):if c then A else B:=by
 by_cases h:c
 ·rw[if_pos h];exact h1 h
 ·rw[if_neg h];exact h2 h
def Same (H H':Hp):Prop:=∀b o,H b=some o->H' b=some o
end L2
set_option maxHeartbeats 4000000
set_option maxHeartbeats 4000000
namespace Nb
open PySem L2
def jn7:Bool:=true
def jst:List V:=[.non,.non,.non,.int 1,.int 2,.int 3,.int 20]
def jqn:List Aa:=[.none,.none,.none,.int 1,.int 2,.int 3,.int 20]
end Nb
namespace L2
open PySem PySem.Spec PyProof.Rows
section
variable {prog:Bi} {w:Bz} {A:Ce} {R:Result->Ah->Prop} {s:Ah}
theorem jfg {elt target iter:Expr} {ifs:List Expr} {scope:Dc} {pos:Pos} {it acc:Ae} {env:Env} (I:Nat->Ah->Prop)
  (turn:∀n s,I n s->A5 (A8 prog w) A (pyNext it) (λr s₁=>match r with
   |none=>R (.ok .next) s₁
   |some v=>A5 (A8 prog w) A (letOwnedTupleGo target it v) (λ_ s₁'=>A5 (A8 prog w) A (assign target env v) (λ_ s₂ =>
     A5 (A8 prog w) A (forIn ifs true λc r=>if r=true then do let ok <-isTrue c env (eval c env);pure (ForInStep.yield ok)else pure (ForInStep.yield r)) (λok s₃ =>
      if ok=true then A5 (A8 prog w) A (eval elt env) (λx s₄ =>
       A5 (A8 prog w) A (call (.builtin "list.append") [acc,x]) (λ_ s₅=>∃m,m < n/\I m s₅) (λ_ _=>False) s₄) (λ_ _=>False) s₃
      else ∃m,m < n/\I m s₃) (λ_ _=>False) s₂) (λ_ _=>False) s₁') (λ_ _=>False) s₁) (λ_ _=>False) s)
  (n:Nat) (h:I n s):codeAny (A8 prog w) A (.compLoop (.ListComp elt [⟨target,iter,ifs,0⟩] scope pos) 0 it acc env) R s:=by
 refine codeAny_loop rfl I (λn s hI=>?_) n h;show A5 _ A ((compTurn (.ListComp elt [⟨target,iter,ifs,0⟩] scope pos) 0 it acc env).onRaise (λx=>do noteFrame x env;theTreesLotGoes x)) _ _ s;refine wpAny_noted ?_;rw[compTurn_list];refine Aj (wpAny_standAt (Aj (Dr (turn n s hI) (λr s₁ h₁=>?_) λ_ _ f=>f.elim)));cases r with
 |none=>exact Ar h₁
 |some v =>
  refine Aj (Dr h₁ (λ_ s₁' h₁'=>?_) λ_ _ f=>f.elim);refine Aj (Dr h₁' (λ_ s₂ h₂=>Aj (Dr h₂ (λok s₃ h₃=>?_) λ_ _ f=>f.elim)) λ_ _ f=>f.elim);cases ok with
  |false=>exact Ar ⟨rfl,h₃⟩
  |true =>
   exact Aj (Aj (Dr h₃ (λx s₄ h₄=>Aj (Dr h₄ (λ_ s₅ h₅=>Ar (Ar ⟨rfl,h₅⟩)) λ_ _ f=>f.elim)) λ_ _ f=>f.elim))
end
def jau (X:Cx) (N:List Str) (scope:Dc) (cl:List (Str×Addr)) (s:Ah) (H:Hp) (fp:List Addr):Cx :=
 { X with N:=N,s₀:=s,H₀:=H,env:=compEnvC scope cl s.heap.objs.size X.env,outer:=X.stack,ex:=fp,fn:=λ_=>false,pn:=[],xe:=λ_ _=>False}
structure CompSc (X:Cx) (N:List Str) (scope:Dc) (cl:List (Str×Addr)) (fr:List (Option Nat)):Prop where
 clos:closureFor scope X.env=pure cl
 kind:scope.kind=.function
 nocell:∀y∈scope.names,y.2≠.cell
 names:∀y∈scope.names,y.2=.local->scope.names.lookup y.1=some .local
 sub:∀x c,cl.lookup x=some c->X.env.cells.lookup x=some c
 has:∀x,((relabel scope X.env).names.lookup x=some .cell\/(relabel scope X.env).names.lookup x=some .free)->∃c,cl.lookup x=some c
 len:fr.length=N.length
 fre:∀(j i:Nat),fr[j]?=some (some i)->∃x,N[j]?=some x/\X.N[i]?=some x/\Vis X.env.scope x/\(X.env.kindOf x=some .cell\/X.env.kindOf x=some .free) /\
  ((relabel scope X.env).names.lookup x=some .cell\/(relabel scope X.env).names.lookup x=some .free)/\cl.lookup x=X.env.cells.lookup x
theorem jdg {κ:Type}:∀{l:List (Str×κ)} {x:Str} {k:κ},l.lookup x=some k->(x,k)∈l
 |[],_,_,h=>nomatch h
 | (y,k')::r,x,k,h=>by
  rw[List.lookup_cons]at h;cases e:x==y with
  |true =>
   rw[e]at h;have e':x=y:=by simpa using e
   have h':k'=k:=A9 h;rw[e',h'];exact Ba
  |false =>
   rw[e]at h;exact Bg _ (jdg h)
theorem jie {κ:Type}:∀{l:List (Str×κ)} {x:Str},x∈l.map (·.1)->∃k,l.lookup x=some k
 |[],_,h=>absurd h (by simp)
 | (y,k')::r,x,h=>by
  rw[List.lookup_cons];cases e:x==y with
  |true=>exact⟨k',rfl⟩
  |false =>
   have ne:¬x=y:=λz=>by rw[z]at e;simp at e
   have h':x∈y::r.map (·.1):=h;rcases Aq.mp h' with z | z
   ·exact absurd z ne
   ·exact jie z
theorem jsf {X:Cx} {scope:Dc} {cl:List (Str×Addr)} (nm:List (Str×NameKind)) (ks:List Str) (hrel:(relabel scope X.env).names=nm) (hks:cl.map (·.1)=ks) (h3:∀y∈nm,(y.2=.cell\/y.2=.free)->y.1∈ks) :
  ∀x,((relabel scope X.env).names.lookup x=some .cell\/(relabel scope X.env).names.lookup x=some .free)->∃c,cl.lookup x=some c:=by
 intro x h;rw[hrel]at h;refine jie ?_;rw[hks];rcases h with h | h
 ·exact h3 _ (jdg h) (.inl rfl)
 ·exact h3 _ (jdg h) (.inr rfl)
def capt (fr:List (Option Nat)) (σ:St):St:=fr.map λo=>o.bind λi=>(σ[i]?).bind id
theorem jsj {fr:List (Option Nat)} {σ:St} {j:Nat} {v:V} (h:(capt fr σ)[j]?=some (some v)):∃i,fr[j]?=some (some i)/\σ[i]?=some (some v):=by
 unfold capt at h;rw[Bb]at h;cases e:fr[j]? with
 |none=>rw[e]at h;cases h
 |some o =>
  rw[e]at h;cases o with
  |none=>cases h
  |some i =>
   refine⟨i,rfl,?_⟩;have h':(σ[i]?).bind id=some v:=A9 h;cases e2:σ[i]? with
   |none=>rw[e2]at h';cases h'
   |some o2 =>
    rw[e2]at h';have h2:o2=some v:=h';rw[h2]
def PIf (X:Cx) (ifs:List Expr) (tt:TT):Prop :=
 ∀(pins:List (Addr×Obj)) (s:Ah) (σ:St) (H:Hp) (Q:Bool->Hp->Prop),Inv X pins σ H s->tt σ H Q ->
  A5 (A8 X.prog X.w) X.A (forIn ifs true λc r=>if r=true then do let ok <-isTrue c X.env (eval c X.env);pure (ForInStep.yield ok)else pure (ForInStep.yield r)) (TP X pins σ Q) X.xe s
def jvt:TT:=λ_ H Q=>Q true H
theorem jt9 {X:Cx}:PIf X [] jvt:=λ_ _ _ H _ I h=>wpAny_tests_nil ⟨H,I,h⟩
theorem jt8 {X:Cx} {c:Expr} {tt:TT} (h:PT X c tt):PIf X [c] tt:=λpins s σ H Q I q=>wpAny_tests_one (h pins s σ H Q I q)
def jod (fr:List (Option Nat)) (wi:TI) (g:TG) (tt:TT) (te:TE):TE:=λσ H Q=>wi σ H λJ H1=>∀D,H1 D=none ->
 ∃W:Nat->Nat->List V->St->Hp->Prop,(∃m,W 0 m [] (capt fr σ) (upd H1 D (.lst [])))/\∀i m ys τ H,W i m ys τ H ->
  ((J.stop i H/\Q (.ref D) H)\/(J.go i H/\ys.length < An/\∀x H',J.yld i H x H'->g x τ H' λτ2 H2=>tt τ2 H2 λb H3 =>
   if b=true then te τ2 H3 (λy H4=>H4 D=some (.lst ys)/\∃m',m' < m/\W (i+1) m' (ys++[y]) τ2 (upd H4 D (.lst (ys++[y]))))else ∃m',m' < m/\W (i+1) m' ys τ2 H3))
section
variable {X:Cx} {N:List Str} {scope:Dc} {cl:List (Str×Addr)} {fr:List (Option Nat)} {pins:List (Addr×Obj)} {σ:St} {H:Hp} {s:Ah} {fp:List Addr}
theorem ju6 (S:CompSc X N scope cl fr) (I:Inv X pins σ H s) (hf:∀b∈fp,FpOk X pins H b) (hlt:∀b∈fp,b < s.heap.objs.size):(jau X N scope cl s H fp).Ok where
 mod:=I.ok.mod
 kind:=S.kind
 glob:=I.ok.glob
 blt:=I.ok.blt
 above:=As _
 inj:=λx y c a b=>I.ok.inj x y c (S.sub x c a) (S.sub y c b)
 has:=λx h=>S.has x h
 cab:=λx c h=>nomatch h
 hd:=I.ok.hd
 frames:=I.ok.frames
 stk:=.inl rfl
 exf:=λb hb=>⟨Bj (hlt b hb),λx c e=>(hf b hb).2.2.2.2.1 x c (S.sub x c e)⟩
 bs:=I.bs
 bsz:=Bk I.ok.bsz I.sz
 noex:=λb o e hb=>by
  rcases(hf b hb).2.2.2.1 with z | z
  ·exact I.ok.noex b o e z
  ·exact absurd (Bc (Au (I.ok.bs b o e).1) z) (De _)
 exfs:=λb hb z=>by
  rcases Aq.mp (I.stkSub b z)with e | e
  ·exact(hf b hb).2.1 e
  ·exact(hf b hb).2.2.1 e
 funs:=I.stack
 frf:=I.stkFree
theorem jih {h₁:Heap} {t':Nat} (S:CompSc X N scope cl fr) (I:Inv X pins σ H s) (hf:∀b∈fp,FpOk X pins H b) (hlt:∀b∈fp,b < s.heap.objs.size)
  {ob:Obj} (hsb:Heap.SameBut s.heap.objs.size (s.heap.push ob) h₁) {m:Str->Option Ae} (hn:h₁.Ns s.heap.objs.size m) :
  Inv (jau X N scope cl s H fp) [] (capt fr σ) H {s with heap:=h₁,toks:=t'}:=by
 have old:∀b o,s.heap.get? b=some o->h₁.get? b=some o:=λb o e=>(hsb.2 b (Bj (Au e))).trans (Ao _ e);refine⟨ju6 S I hf hlt,rfl,I.bare,Un.kept old,⟨m,hn,λj x v e1 e2 e3=>?_⟩,λx c e=>?_,I.fresh,λx c e=>I.freeC x c (S.sub x c e),λp hp=>?_,I.hok.kept old,?_⟩
 ·obtain⟨i,f1,f2⟩:=jsj e2;obtain⟨y,g1,g2,g3,g4,g5,g6⟩:=S.fre j i f1;have e1':N[j]?=some x:=e1;rw[g1]at e1';have exy:y=x:=A9 e1';subst exy;obtain⟨m0,hn0,hl⟩:=I.loc;obtain⟨u,r,l⟩:=hl i y v g2 f2 g3;refine⟨u,r,.inr ⟨g5,?_⟩⟩;rcases l with⟨k,_⟩ | ⟨k,c,e,z⟩
  ·rcases g4 with q | q
   ·rw[q]at k;cases k
   ·rw[q]at k;cases k
  ·exact⟨c,g6.trans e,z.keeps old⟩
 ·obtain⟨v,z⟩:=I.cell x c (S.sub x c e);exact⟨v,z.keeps old⟩
 ·exact absurd hp (by simp[jau])
 ·show(capt fr σ).length=N.length;unfold capt;rw[Ag,S.len]
theorem jm3 {H':Hp} {τ:St} {s0 s':Ah} {h':Heap} (I:Inv X pins σ H s0) (hf:∀b∈fp,FpOk X pins H b) (I':Inv (jau X N scope cl s0 H fp) [] τ H' s') (hs:Heap.SameBut s0.heap.objs.size s'.heap h') :
  Inv X pins σ H' {s' with heap:=h'}:=by
 have hC:H' s0.heap.objs.size=none:=I'.free;have u:Un (frs X.stack) fp H H' s0.heap s'.heap:=I'.base;have ne:∀b o,s0.heap.get? b=some o->b≠s0.heap.objs.size:=λb o e=>Bj (Au e);have hok':HOk X.prog X.w H' h':=λb o e=>by
  have q:ObjOk X.prog X.w H' s'.heap b o:=I'.hok b o e;refine q.stay (λc v hc z=>(hs.2 c ?_).trans z) (λ_ z=>z) λ_ _ z=>z
  rintro rfl
  rcases hc with z | z
  ·rw[<-z,hC]at e;cases e
  ·rw[hC]at z;cases z
 refine I.call' (s':={ s' with heap:=h'}) (ch:=fp) I'.os ?_ hok' I'.bare λb hb=>?_
 ·refine⟨λb o e n h1 h2=>(hs.2 b (ne b o e)).trans (u.keep b o e n h1 h2),λb o e n h1 h2=>?_,u.free,λb o e h2=>?_,u.tups,u.frzs,u.tbls⟩
  ·obtain⟨sl,z⟩:=u.slot b o e n h1 h2;exact⟨sl,(hs.2 b (ne b o e)).trans z⟩
  ·obtain⟨o',z⟩:=u.there b o e h2;exact⟨o',(hs.2 b (ne b o e)).trans z⟩
 ·obtain⟨_,f1,_,f3,f4,f5⟩:=hf b hb;exact⟨f3,f1,f4,f5⟩
end
theorem jue {X:Cx} {elt tg iter:Expr} {ifs:List Expr} {scope:Dc} {cl:List (Str×Addr)} {pos:Pos} {N:List Str} {fr:List (Option Nat)} {wi:TI} {g:TG} {tt:TT} {te:TE}
  (hc:X.calm=true) (S:CompSc X N scope cl fr) (hi:PI X tg iter wi) (hg:∀s H fp,PG (jau X N scope cl s H fp) tg g) (ht:∀s H fp,PIf (jau X N scope cl s H fp) ifs tt)
  (he:∀s H fp,PE (jau X N scope cl s H fp) elt te) (hs:∀x,Cy iter X.env x=pure x:=by intro _;rfl) :
  PE X (.ListComp elt [⟨tg,iter,ifs,0⟩] scope pos) (jod fr wi g tt te):=by
 intro pins s σ H Q I h;rw[eval_ListComp];refine wpAny_comprehension_free (use:=none) (cl:=cl) rfl hs S.clos S.kind S.names (thn (hi pins s σ H _ I h) λv s1 h1=>thn h1 λitv s2 h2=>?_);obtain⟨it,fp,tn,J,H2,e,I2,T,st2,f2,q⟩:=h2;subst e;refine B7 (wpAny_newFunctionEnv S.nocell (by intro y hy;simp at hy) (λh₁ hn hsb=>?_) S.kind);dsimp only at hn hsb ⊢;obtain⟨W,⟨m0,w0⟩,turn⟩:=q s2.heap.objs.size I2.fresh
 -- the state with the new list
 have I3:Inv X pins σ (upd H2 s2.heap.objs.size (.lst [])) {s2 with heap:=s2.heap.push {cls:=.type "list",dict:=none,data:=.seq ([]:List Ae).toArray}}:=I2.lnew (its:=[]) (t':=s2.toks) .nil (Bm _);have key:∀s3:Ah,s3={ s2 with heap:=s2.heap.push {cls:=.type "list",dict:=none,data:=.seq ([]:List Ae).toArray}}->Inv X pins σ (upd H2 s2.heap.objs.size (.lst [])) s3 ->
   ∀(ob:Obj) (mm:Str->Option Ae),Heap.SameBut s3.heap.objs.size (s3.heap.push ob) h₁->h₁.Ns s3.heap.objs.size mm ->
   codeAny (A8 X.prog X.w) X.A (.compStart (.ListComp elt [⟨tg,iter,ifs,0⟩] scope pos) 0 (.ref it) (.ref s2.heap.objs.size) (compEnvC scope cl s3.heap.objs.size X.env))
    (compPost (A8 X.prog X.w) X.A X.xe none (EP X pins σ Q) (.ref s2.heap.objs.size) s3.heap.objs.size) {s3 with heap:=h₁,toks:=s3.toks+([]:List (Str×Ae)).length}:=?key
 ·exact key _ rfl I3 _ _ hsb hn
 clear I3 hn hsb;intro s3 hs3 I3 ob mm hsb hn;have hfp:∀b∈fp,∃o,s2.heap.get? b=some o:=λb hb=>let⟨o,e,_⟩:=T.obj _ _ st2 b hb;⟨o,e⟩;have up:∀b o,s2.heap.get? b=some o->s3.heap.get? b=some o:=λb o e=>by rw[hs3];exact Ao _ e
 have f3:∀b∈fp,FpOk X pins (upd H2 s2.heap.objs.size (.lst [])) b:=λb hb=>by
  obtain⟨o,e⟩:=hfp b hb;obtain⟨g0,gr⟩:=f2 b hb;exact⟨by rw[jai (Bj (Au e))];exact g0,gr⟩
 have hlt:∀b∈fp,b < s3.heap.objs.size:=λb hb=>let⟨o,e⟩:=hfp b hb;Au (up b o e);generalize hH3:upd H2 s2.heap.objs.size (.lst [])=H3 at I3 f3 w0;have I4:=jih (t':=s3.toks+([]:List (Str×Ae)).length) S I3 f3 hlt hsb hn;have st4:tn 0 h₁:=T.keep _ _ _ st2 λb hb o e=>(hsb.2 b (Bj (Au (up b o e)))).trans (Ao _ (up b o e));have stat:∀{H':Hp},(∀b∈fp,H' b=none)->∀b∈fp,FpOk (jau X N scope cl s3 H3 fp) [] H' b:=λhn b hb=>by
  obtain⟨_,k1,k2,k3,k4,k5⟩:=f3 b hb;refine⟨hn b hb,Bj (hlt b hb),λz=>?_,.inl hb,λx c e=>k4 x c (S.sub x c e),λp hp=>absurd hp (by simp[jau])⟩;rcases Aq.mp (I3.stkSub b z)with e | e
  ·exact k1 e
  ·exact k2 e
 have loop:codeAny (A8 X.prog X.w) X.A (.compLoop (.ListComp elt [⟨tg,iter,ifs,0⟩] scope pos) 0 (.ref it) (.ref s2.heap.objs.size) (compEnvC scope cl s3.heap.objs.size X.env))
   (compPost (A8 X.prog X.w) X.A X.xe none (EP X pins σ Q) (.ref s2.heap.objs.size) s3.heap.objs.size) {s3 with heap:=h₁,toks:=s3.toks+([]:List (Str×Ae)).length}:=by
  refine jfg (λn s'=>∃i ys τ Hc,Inv (jau X N scope cl s3 H3 fp) [] τ Hc s'/\tn i s'.heap/\(∀b∈fp,Hc b=none)/\W i n ys τ Hc) ?_ m0 ⟨0,[],capt fr σ,H3,I4,st4,λb hb=>(f3 b hb).1,w0⟩
  rintro n s5 ⟨i,ys,τ,Hc,I5,st5,fr5,w5⟩
  rcases turn i n ys τ Hc w5 with⟨stop,qn⟩ | ⟨go,hz,step⟩
  ·refine thn (T.done (jau X N scope cl s3 H3 fp) rfl rfl rfl hc i [] s5 τ Hc (λ_ _=>False) I5 (stat fr5) st5 stop) λr s6 ⟨hr,I6⟩=>?_;subst hr;obtain⟨mm,hm,_⟩:=I6.loc;exact⟨mm,hm,λh' hs'=>⟨.ref s2.heap.objs.size,Hc,jm3 I3 f3 I6 hs',rfl,qn⟩⟩
  ·refine thn (T.item (jau X N scope cl s3 H3 fp) rfl rfl rfl hc i [] s5 τ Hc (λ_ _=>False) I5 (stat fr5) st5 go) λr s6 ⟨u,hr,h6⟩=>?_;subst hr;refine thn h6 λ_ s7 ⟨x,H7,I7,r7,y7,st7,fr7⟩=>?_;have I7':=I7.pinned (stat fr7) (T.obj _ _ st7);refine thn (hg s3 H3 fp _ s7 τ H7 x u _ I7' r7 (step x H7 y7)) λ_ s8 ⟨τ8,H8,I8,q8⟩=>?_;refine thn (ht s3 H3 fp _ s8 τ8 H8 _ I8 q8) λok s9 ⟨H9,I9,q9⟩=>?_;have keep:∀{st:Ah} {τ':St} {H':Hp},Inv (jau X N scope cl s3 H3 fp) ([]++jib fp s7.heap) τ' H' st->tn (i+1) st.heap/\∀b∈fp,H' b=none:=λ{st τ' H'} Ix=>by
    refine⟨T.keep _ _ _ st7 λb hb o e=>(Ix.pin (b,o) (A0 _ (A0 _ (jbx hb e)))).1,λb hb=>?_⟩;obtain⟨o,e,d⟩:=T.obj _ _ st7 b hb;exact(Ix.pin (b,o) (A0 _ (A0 _ (jbx hb e)))).2.1
   cases ok with
   |false =>
    rw[if_neg Af]at q9 ⊢;obtain⟨m',hm,w9⟩:=q9;obtain⟨k1,k2⟩:=keep I9;exact⟨m',hm,i+1,ys,τ8,H9,I9.unpinned,k1,k2,w9⟩
   |true =>
    rw[if_pos rfl]at q9 ⊢;refine thn (he s3 H3 fp _ s9 τ8 H9 _ I9 q9) λxv s10 ⟨y,H10,I10,r10,hD,m',hm,w10⟩=>?_;refine thn (jgh _ s10 τ8 H10 (.ref s2.heap.objs.size) [y] (.ref s2.heap.objs.size) [xv] (λz H'=>∃m',m' < n/\W (i+1) m' (ys++[y]) τ8 H') I10 rfl (.cons r10 .nil) ⟨_,ys,y,rfl,rfl,hD,hz,m',hm,w10⟩) λz s11 ⟨z',H11,I11,_,m'',hm',w11⟩=>?_;obtain⟨k1,k2⟩:=keep I11;exact⟨m'',hm',i+1,ys++[y],τ8,H11,I11.unpinned,k1,k2,w11⟩
 exact codeAny_compStart_list loop (T.self _ 0 _ _ _ st4 loop)
mutual
inductive RdD (K:Ab) (H:Hp):V->Aa->Prop
 |non:RdD K H .non .none
 |bl (b:Bool):RdD K H (.bl b) (.bool b)
 |int (i:Int):RdD K H (.int i) (.int i)
 |str (x:Str):RdD K H (.str x) (.str x)
 |lst {a:Addr} {xs:List V} {ds:List Aa}:SqL K H a xs->RdAll K H xs ds->RdD K H (.ref a) (.list ds)
 |tup {a:Addr} {xs:List V} {ds:List Aa}:SqT K H a xs->RdAll K H xs ds->RdD K H (.ref a) (.tuple ds)
inductive RdAll (K:Ab) (H:Hp):List V->List Aa->Prop
 |nil:RdAll K H [] []
 |cons {x:V} {xs:List V} {d:Aa} {ds:List Aa}:RdD K H x d->RdAll K H xs ds->RdAll K H (x::xs) (d::ds)
end
section
variable {X:Cx} {pins:List (Addr×Obj)} {σ:St} {H:Hp} {s:Ah}
mutual
theorem RdD.reads (I:Inv X pins σ H s):∀{v:V} {d:Aa} {u:Ae},RdD X.K H v d->RelV v u->∃as,Reads s.heap u d as
 |_,_,u,.non,r=>by
  cases(show u=Du from r);exact⟨_,.none⟩
 |_,_,u,.bl b,r=>by
  cases(show u=Value.bool b from r);exact⟨_,.bool b⟩
 |_,_,u,.int i,r=>by
  obtain⟨t,rfl⟩:=(show ∃t,u=Value.int i t from r);exact⟨_,.int i t⟩
 |_,_,u,.str x,r=>by
  obtain⟨t,rfl⟩:=(show ∃t,u=Value.str x t from r);exact⟨_,.str x t⟩
 |_,_,u,.lst (a:=a) h1 h2,r=>by
  cases(show u=Bx a from r);obtain⟨its,rv,⟨o,n,e,c,_,d⟩,_⟩:=I.list h1;obtain⟨as,ha⟩:=RdAll.reads I h2 rv;exact⟨_,.list e c d (by simpa using ha)⟩
 |_,_,u,.tup (a:=a) h1 h2,r=>by
  cases(show u=Bx a from r);obtain⟨its,rv,⟨o,e,c,n,d⟩,_⟩:=I.tuple h1;obtain⟨as,ha⟩:=RdAll.reads I h2 rv;exact⟨_,.tuple e c d (by simpa using ha)⟩
theorem RdAll.reads (I:Inv X pins σ H s):∀{vs:List V} {ds:List Aa} {us:List Ae},RdAll X.K H vs ds->Vals vs us->∃as,ReadsAll s.heap us ds as
 |_,_,_,.nil,.nil=>⟨_,.nil⟩
 |_,_,_,.cons h1 h2,.cons r1 r2=>by
  obtain⟨as,ha⟩:=RdD.reads I h1 r1;obtain⟨bs,hb⟩:=RdAll.reads I h2 r2;exact⟨_,.cons ha hb⟩
end
end
def jyr (d:Aa):Prop:=Cp d=true/\Dq d<=20/\PyData.weight d<=2 ^ 20/\PyData.intsShort 13 d=true/\PyData.showable d=true
def jmq (K:Ab):R2:=λx y H Q=>∃a b xs,x=.ref a/\y=.ref b/\SqL K H a xs/\SqL K H b []/\Q (.bl xs.isEmpty) H
theorem jrq {X:Cx} (hu:X.A.units < cLine):OpR X (A2 .Eq) (jmq X.K):=by
 intro pins s σ H x y v u Q I rx ry h;obtain⟨a,b,xs,rfl,rfl,ha,hb,q⟩:=h;cases(show v=Bx a from rx);cases(show u=Bx b from ry);obtain⟨its,r1,p1,_⟩:=I.list ha;obtain⟨its2,r2,p2,_⟩:=I.list hb;have e2:its2=[]:=Vals.zero r2;subst e2;cases r1 with
 |nil=>exact PySem.SeqAt.eq_listAt (e:=λ_=>true) p1.isList p2.isList rfl hu (λj h1=>absurd h1 (by simp)) ⟨.bl true,H,I,(by rfl),q⟩
 |cons r1 r3=>exact PySem.SeqAt.eq_list_lengthsAt p1.isList p2.isList (by simp) hu ⟨.bl false,H,I,rfl,q⟩
def jwk (K:Ab):R2:=λx y H Q=>∃a b xs ys,x=.ref a/\y=.ref b/\SqT K H a xs/\SqT K H b ys/\ys≠[]/\xs.length+ys.length<=An /\
 (xs=[]->Q (.ref b) H)/\(xs≠[]->∀p,H p=none->Q (.ref p) (upd H p (.tup (xs++ys))))
theorem op_catA {X:Cx}:OpR X (Cz .Add) (jwk X.K):=by
 intro pins s σ H x y v u Q I rx ry h;obtain⟨a,b,xs,ys,rfl,rfl,ha,hb,hy,hz,q0,q2⟩:=h;by_cases hx:xs=[]
 ·cases(show v=Bx a from rx);cases(show u=Bx b from ry);obtain⟨its,r1,p1,_⟩:=I.tuple ha;obtain⟨its2,r2,p2,_⟩:=I.tuple hb;obtain⟨⟨cls,dd,data,sl⟩,ho,hc,n,hd⟩:=id p1;obtain⟨⟨cls2,dd2,data2,sl2⟩,ho2,hc2,n2,hd2⟩:=id p2;simp only at hc hd hc2 hd2;subst hc hd hc2 hd2;have hi:its=[]:=r1.nil_iff.mpr hx;exact concat_meets ⟨_,ho,rfl⟩ ⟨_,ho2,rfl⟩ noFill_tuple_add seq_tuple_add Do Dn (Dm _ _)
   (tuple_addW0 a b its.toArray its2.toArray n n2 dd dd2 sl sl2 (by simp[hi])) ⟨ho,ho2,⟨.ref b,H,I,rfl,q0 hx⟩⟩
 ·exact op_catT pins s σ H (.ref a) (.ref b) v u Q I rx ry ⟨a,b,xs,ys,rfl,rfl,ha,hb,hx,hz,λe=>absurd e hy,λ_=>q2 hx⟩
theorem jsl {X:Cx} {T:String}:CallR X (.builtin "isinstance") (λxs H Q=>∃x t b,xs=[x,.ty T]/\TyOf X.K H x t/\PySem.W.kitOne X.K t (.type T)=some b/\Q (.bl b) H):=by
 intro pins s σ H xs us Q I r h;obtain⟨x,t,b,rfl,ty,e,q⟩:=h;obtain⟨u,u',rfl,ru,ru'⟩:=jys r;cases(show u'=Value.type T from ru');exact jpu I ru ty e λtk=>⟨.bl b,H,I.tok tk,rfl,q⟩
def Its (x:Str):It:=⟨λi _=>i < x.cps.size,λi H y H'=>H'=H/\∃c,x.cps[i]?=some c/\y=.str ⟨#[c]⟩,λi _=>i=x.cps.size⟩
theorem jmi {P:Bi} {w:Bz} {K:Ab} {tg:Expr} {T:String} {x:Str} {t:Tok} (it:Addr)
  (hn:["enumerate","zip","dict_itemiterator","dict_reverseitemiterator","odict_iterator","itertools.zip_longest","itertools.pairwise"].contains T=false)
  (hW:∀A:Ce,A.handled=none->Walks P w A it [it] [it] x.cps.size (SignAt x) (λi h=>h.IsStrIter it T x t i))
  (hS:∀(A:Ce) (i:Nat) (s:Ah) (Q:Ae->Ah->Prop) (E:Ae->Ah->Prop),s.heap.IsStrIter it T x t i->Q (.ref it) s->A5 (A8 P w) A (pyIter (.ref it)) Q E s) :
  Turn P w K tg (Its x) [it] it (λi h=>h.IsStrIter it T x t i) where
 mem:=by simp
 obj:=λi h st b hb=>by
  have e:b=it:=by simpa using hb
  subst e;obtain⟨o,e,c,d⟩:=st;exact⟨o,e,λv z=>by rw[d]at z;cases z⟩
 keep:=λi h h' st k=>let⟨o,ho,r⟩:=st;⟨o,k it (by simp) o ho,r⟩
 item:=by
  intro X hP hw hK hc i pins s σ H E I hf st hg;subst hP hw hK;obtain⟨f0,f1,f2,f3,f4,f5⟩:=hf it (by simp);refine(hW X.A (I.ok.hd hc)).item i s _ _ hg st λv h' tk hv st' kk=>?_;obtain⟨c,u,hcu,rfl⟩:=hv;have I1:Inv X pins σ H {s with heap:=h',toks:=tk}:=I.turned (λb o hb e=>kk b o (by simpa using hb) e) f0 f1 f3 f4 f5;obtain⟨o,e,cc,d⟩:=id st';exact⟨_,rfl,jr6 (s:={ s with heap:=h',toks:=tk}) e cc d hn ⟨.str ⟨#[c]⟩,H,I1,⟨u,rfl⟩,⟨rfl,c,hcu,rfl⟩,st',λb hb=>(hf b hb).1⟩⟩
 done:=by
  intro X hP hw hK hc i pins s σ H E I hf st hg;subst hP hw hK;obtain⟨f0,f1,f2,f3,f4,f5⟩:=hf it (by simp);have hi:i=x.cps.size:=hg;subst hi;exact(hW X.A (I.ok.hd hc)).done s _ _ st λh' tk kk=>⟨rfl,I.turned (λb o hb e=>kk b o (by simpa using hb) e) f0 f1 f3 f4 f5⟩
 self:=λA i s Q E st h=>hS A i s Q E st h
def iStr (tl:TE):TI:=λσ H R=>tl σ H λv H1=>∃x,v=.str x/\R (Its x) H1
theorem jwr {X:Cx} {tg l:Expr} {tl:TE} (hl:PE X l tl):PI X tg l (iStr tl):=by
 intro pins s σ H R I h;refine thn (hl pins s σ H _ I h) λv s1 ⟨y,H1,I1,r1,q1⟩=>?_;obtain⟨x,e,q⟩:=q1;subst e;obtain⟨t,rfl⟩:=(show ∃t,v=Value.str x t from r1);have fp:∀(o:Obj) (b:Addr),b∈[s1.heap.objs.size]->FpOk X pins H1 b:=λo b hb=>by
  have e:b=s1.heap.objs.size:=by simpa using hb
  subst e;exact I1.fpOk (As _) (I1.hok.fresh (As _))
 cases ha:x.cps.all (· < 128)
 ·refine wpAny_pyIter_wide ha ?_;exact⟨s1.heap.objs.size,[s1.heap.objs.size],_,_,H1,rfl,I1.kept (t':=s1.toks) λb o e=>Ao _ e,
   jmi (T:="str_iterator") (t:=t) _ (by decide) (λA hA=>Walks.strWide hA _ x t) (λ_ _ _ _ _ st h=>wpAny_pyIter_striter_wide st h),⟨_,Bn _ rfl,rfl,rfl⟩,fp default,q⟩
 ·refine wpAny_pyIter_ascii ha ?_;exact⟨s1.heap.objs.size,[s1.heap.objs.size],_,_,H1,rfl,I1.kept (t':=s1.toks) λb o e=>Ao _ e,
   jmi (T:="str_ascii_iterator") (t:=t) _ (by decide) (λA hA=>Walks.strAscii hA _ x t) (λ_ _ _ _ _ st h=>wpAny_pyIter_striter_ascii st h),⟨_,Bn _ rfl,rfl,rfl⟩,fp default,q⟩
theorem jnl (bs:List Bool):((Cr bs.length).all λi=>(bs[i]?).getD true)=bs.all id:=by
 rw[C8,Dj,Dj]
 constructor
 ·intro h b hb;obtain⟨i,hi,rfl⟩:=List.mem_iff_getElem.mp hb;have:=h i (Cs.mpr hi);rw[Am hi]at this;exact this
 ·intro h i hi;have hi':=Cs.mp hi;rw[Am hi'];exact h _ (List.getElem_mem hi')
theorem jqj {X:Cx} (hh:X.A.handled=none):CallR X (.builtin "all") (λxs H Q=>∃(p:Addr) (bs:List Bool),xs=[.ref p]/\H p=some (.lst (bs.map V.bl))/\Q (.bl (bs.all id)) H):=by
 intro pins s σ H xs us Q I r h;obtain⟨p,bs,rfl,hp,q⟩:=h;obtain⟨u,rfl,ru⟩:=jj8 r;cases(show u=Bx p from ru);obtain⟨its,rv,pl,_⟩:=I.list (SqL.of (K:=X.K) hp);have hl:s.heap.IsList p its.toArray:=pl.isList;have hlt:p < s.heap.objs.size:=by obtain⟨_,e,_⟩:=hl;exact Au e
 have hlen:bs.length=its.length:=by have:=rv.length;rwa [Ag]at this
 refine call_all_walk (wpAny_pyIter_list hl ?_);refine⟨s.heap.objs.size,[s.heap.objs.size,p],[s.heap.objs.size],its.toArray.size,_,_,λi=>(bs[i]?).getD true,rfl,Walks.list (A:=X.A.in1) hh _ p (Bj hlt) its.toArray,
  ⟨⟨_,Bn _ rfl,rfl,rfl⟩,hl.push _⟩,λi v s' Q' E' hP hQ=>?_,λh' tk hk=>?_⟩
 ·have hi:its[i]?=some v:=by simpa using hP
  have hib:i < bs.length:=by rw[hlen];exact(Bf.mp hi).1
  have hx:(bs.map V.bl)[i]?=some (V.bl bs[i]):=by simp[hib]
  obtain⟨u,hu,ru⟩:=rv.get hx;rw[hi]at hu;cases(A9 hu);cases(show v=Value.bool bs[i]from ru);dsimp only at hQ;rw[Am hib,Option.getD_some]at hQ;exact Bt hQ
 ·have e:((Cr its.toArray.size).all λi=>(bs[i]?).getD true)=bs.all id:=by
   rw[Ai,<-hlen];exact jnl bs
  rw[e];refine⟨.bl (bs.all id),H,I.kept λb x e=>hk b x (λhm=>?_) (Ao _ e),rfl,q⟩;rw[Ax.mp hm]at e;exact De _ (Au e)
theorem jpc {X:Cx}:OpR X (A2 .LtE) (λx y H Q=>∃i j,x=.str i/\y=.str j/\Q (.bl (!decide (j.cps.toList < i.cps.toList))) H):=by
 intro pins s σ H x y v u Q I rx ry h;obtain⟨i,j,rfl,rfl,q⟩:=h;obtain⟨t,rfl⟩:=rx;obtain⟨t',rfl⟩:=ry;exact P.le_str (jat I q rfl)
theorem jpf {X:Cx}:OpR X (A2 .Gt) (λx y H Q=>∃i j,x=.str i/\y=.str j/\Q (.bl (decide (j.cps.toList < i.cps.toList))) H):=by
 intro pins s σ H x y v u Q I rx ry h;obtain⟨i,j,rfl,rfl,q⟩:=h;obtain⟨t,rfl⟩:=rx;obtain⟨t',rfl⟩:=ry;exact P.gt_str (jat I q rfl)
def tyD:Aa->String
 |.none=>"NoneType"
 |.bool _=>"bool"
 |.int _=>"int"
 |.str _=>"str"
 |.list _=>"list"
 |.tuple _=>"tuple"
 |.dict _=>"dict"
def isiB (T:String) (d:Aa):Bool:=tyD d==T || (T=="int"&&tyD d=="bool")
def jab (h:Str):Aa->Bool
 |.str x=>decide (x=h)
 |_=>false
theorem jia {X:Cx} {elt tg iter:Expr} {ifs:List Expr} {scope:Dc} {cl:List (Str×Addr)} {cpos pos pos':Pos} {N:List Str} {fr:List (Option Nat)} {wi:TI} {g:TG} {tt:TT} {te:TE} {i:Nat} {x:Str}
  (hN:X.N.Nodup) (hix:X.N[i]?=some x) (hx:X.env.scope.names.lookup x=some .local)
  (hc:X.calm=true) (S:CompSc X N scope cl fr) (hi:PI X tg iter wi) (hg:∀s H fp,PG (jau X N scope cl s H fp) tg g) (ht:∀s H fp,PIf (jau X N scope cl s H fp) ifs tt)
  (he:∀s H fp,PE (jau X N scope cl s H fp) elt te) (hs:∀x,Cy iter X.env x=pure x:=by intro _;rfl)
  (hsw:Dt (.ListComp elt [⟨tg,iter,ifs,0⟩] scope cpos) (some (.Name x pos')) pos.line X.env=pure true:=by rfl) :
  PS X (.Assign [.Name x pos'] (.ListComp elt [⟨tg,iter,ifs,0⟩] scope cpos) pos) (tAsg (jod fr wi g tt te) (jey i)):=by
 intro pins s σ H D I h;rw[exec_Assign_Name_used _ _ _ _ hsw];refine Aj (wpAny_standAt (Aj ?_));show A5 _ _ (do let _ <-comprehension (.ListComp elt [⟨tg,iter,ifs,0⟩] scope cpos) scope X.env (firstIterPos [⟨tg,iter,ifs,0⟩] cpos) (newList []) (firstAsync [⟨tg,iter,ifs,0⟩]) (firstIter [⟨tg,iter,ifs,0⟩] X.env) (some (assign (.Name x pos') X.env))) _ _ s;refine Aj ?_;have fin:∀(u:Unit) (s':Ah),SP X pins D .next s'->A5 (A8 X.prog X.w) X.A (pure Flow.next) (SP X pins D) X.xe s':=λ_ s' z=>Ar z
 refine thn (Q:=λ_ s'=>SP X pins D .next s') ?_ λ_ s' z=>Ar (Ar z);refine wpAny_comprehension_free (use:=some (assign (.Name x pos') X.env)) (cl:=cl) rfl hs S.clos S.kind S.names (thn (hi pins s σ H _ I h) λv s1 h1=>thn h1 λitv s2 h2=>?_);obtain⟨it,fp,tn,J,H2,e,I2,T,st2,f2,q⟩:=h2;subst e;refine B7 (wpAny_newFunctionEnv S.nocell (by intro y hy;simp at hy) (λh₁ hn hsb=>?_) S.kind);dsimp only at hn hsb ⊢;obtain⟨W,⟨m0,w0⟩,turn⟩:=q s2.heap.objs.size I2.fresh
 -- the state with the new list
 have I3:Inv X pins σ (upd H2 s2.heap.objs.size (.lst [])) {s2 with heap:=s2.heap.push {cls:=.type "list",dict:=none,data:=.seq ([]:List Ae).toArray}}:=I2.lnew (its:=[]) (t':=s2.toks) .nil (Bm _);have key:∀s3:Ah,s3={ s2 with heap:=s2.heap.push {cls:=.type "list",dict:=none,data:=.seq ([]:List Ae).toArray}}->Inv X pins σ (upd H2 s2.heap.objs.size (.lst [])) s3 ->
   ∀(ob:Obj) (mm:Str->Option Ae),Heap.SameBut s3.heap.objs.size (s3.heap.push ob) h₁->h₁.Ns s3.heap.objs.size mm ->
   codeAny (A8 X.prog X.w) X.A (.compStart (.ListComp elt [⟨tg,iter,ifs,0⟩] scope cpos) 0 (.ref it) (.ref s2.heap.objs.size) (compEnvC scope cl s3.heap.objs.size X.env))
    (compPost (A8 X.prog X.w) X.A X.xe (some (assign (.Name x pos') X.env)) (λ_ s'=>SP X pins D .next s') (.ref s2.heap.objs.size) s3.heap.objs.size) {s3 with heap:=h₁,toks:=s3.toks+([]:List (Str×Ae)).length}:=?key
 ·exact key _ rfl I3 _ _ hsb hn
 clear I3 hn hsb;intro s3 hs3 I3 ob mm hsb hn;have hfp:∀b∈fp,∃o,s2.heap.get? b=some o:=λb hb=>let⟨o,e,_⟩:=T.obj _ _ st2 b hb;⟨o,e⟩;have up:∀b o,s2.heap.get? b=some o->s3.heap.get? b=some o:=λb o e=>by rw[hs3];exact Ao _ e
 have f3:∀b∈fp,FpOk X pins (upd H2 s2.heap.objs.size (.lst [])) b:=λb hb=>by
  obtain⟨o,e⟩:=hfp b hb;obtain⟨g0,gr⟩:=f2 b hb;exact⟨by rw[jai (Bj (Au e))];exact g0,gr⟩
 have hlt:∀b∈fp,b < s3.heap.objs.size:=λb hb=>let⟨o,e⟩:=hfp b hb;Au (up b o e);generalize hH3:upd H2 s2.heap.objs.size (.lst [])=H3 at I3 f3 w0;have I4:=jih (t':=s3.toks+([]:List (Str×Ae)).length) S I3 f3 hlt hsb hn;have st4:tn 0 h₁:=T.keep _ _ _ st2 λb hb o e=>(hsb.2 b (Bj (Au (up b o e)))).trans (Ao _ (up b o e));have stat:∀{H':Hp},(∀b∈fp,H' b=none)->∀b∈fp,FpOk (jau X N scope cl s3 H3 fp) [] H' b:=λhn b hb=>by
  obtain⟨_,k1,k2,k3,k4,k5⟩:=f3 b hb;refine⟨hn b hb,Bj (hlt b hb),λz=>?_,.inl hb,λx c e=>k4 x c (S.sub x c e),λp hp=>absurd hp (by simp[jau])⟩;rcases Aq.mp (I3.stkSub b z)with e | e
  ·exact k1 e
  ·exact k2 e
 have loop:codeAny (A8 X.prog X.w) X.A (.compLoop (.ListComp elt [⟨tg,iter,ifs,0⟩] scope cpos) 0 (.ref it) (.ref s2.heap.objs.size) (compEnvC scope cl s3.heap.objs.size X.env))
   (compPost (A8 X.prog X.w) X.A X.xe (some (assign (.Name x pos') X.env)) (λ_ s'=>SP X pins D .next s') (.ref s2.heap.objs.size) s3.heap.objs.size) {s3 with heap:=h₁,toks:=s3.toks+([]:List (Str×Ae)).length}:=by
  refine jfg (λn s'=>∃i ys τ Hc,Inv (jau X N scope cl s3 H3 fp) [] τ Hc s'/\tn i s'.heap/\(∀b∈fp,Hc b=none)/\W i n ys τ Hc) ?_ m0 ⟨0,[],capt fr σ,H3,I4,st4,λb hb=>(f3 b hb).1,w0⟩
  rintro n s5 ⟨i,ys,τ,Hc,I5,st5,fr5,w5⟩
  rcases turn i n ys τ Hc w5 with⟨stop,qn⟩ | ⟨go,hz,step⟩
  ·refine thn (T.done (jau X N scope cl s3 H3 fp) rfl rfl rfl hc i [] s5 τ Hc (λ_ _=>False) I5 (stat fr5) st5 stop) λr s6 ⟨hr,I6⟩=>?_;subst hr;obtain⟨mm,hm,_⟩:=I6.loc;have I6x:Inv X pins σ Hc s6:=jm3 I3 f3 I6 (Heap.SameBut.refl _ _);have hC:Hc s3.heap.objs.size=none:=I6.free;obtain⟨_,c1,_,c3,c4,c5⟩:=I3.fpOk (H':=Hc) (As _) hC;show A5 (A8 X.prog X.w) X.A (assign (.Name x pos') X.env (.ref s2.heap.objs.size)) _ X.xe s6;refine wpAny_assign_Name (jkh I6x hN hix (.inl hx) (show RelV (.ref s2.heap.objs.size) (Bx s2.heap.objs.size)from rfl) (λs7 I7 hsb=>?_) (.inr hx));obtain⟨ad,hsb,had⟩:=hsb;have hne:s3.heap.objs.size≠ad:=by
    rcases had with z | z
    ·rw[z];exact c1
    ·exact λq=>c4 x ad z q.symm
   obtain⟨oo,es,ep,ho,rr⟩:=hm;refine⟨mm,⟨oo,es,ep,(hsb.2 _ hne).trans ho,rr⟩,λh' hs'=>⟨_,Hc,?_,qn⟩⟩;have ne:∀b,b∉[s3.heap.objs.size]->b≠s3.heap.objs.size:=λb z q=>z (by rw[q];exact Ax.mpr rfl);have hok':HOk X.prog X.w Hc h':=λb o e=>by
    refine(I7.hok b o e).stay (λc v hc z=>(hs'.2 c ?_).trans z) (λ_ z=>z) λ_ _ z=>z
    rintro rfl
    rcases hc with z | z
    ·rw[<-z,hC]at e;cases e
    ·rw[hC]at z;cases z
   refine I7.call' (s':={ s7 with heap:=h'}) (ch:=[s3.heap.objs.size]) rfl ?_ hok' I7.bare λb hb=>?_
   ·exact⟨λb o e n h1 h2=>(hs'.2 b (ne b h2)).trans e,λb o e n h1 h2=>⟨o.slots,(hs'.2 b (ne b h2)).trans e⟩,λb o e n h2=>n,λb o e h2=>⟨o,(hs'.2 b (ne b h2)).trans e⟩,λ_ _ z=>z,λ_ _ _ z=>z,λb ps z=>⟨#[],by rw[Array.append_empty];exact z⟩⟩
   ·cases Ax.mp hb;exact⟨c3,c1,c4,c5⟩
  ·refine thn (T.item (jau X N scope cl s3 H3 fp) rfl rfl rfl hc i [] s5 τ Hc (λ_ _=>False) I5 (stat fr5) st5 go) λr s6 ⟨u,hr,h6⟩=>?_;subst hr;refine thn h6 λ_ s7 ⟨x,H7,I7,r7,y7,st7,fr7⟩=>?_;have I7':=I7.pinned (stat fr7) (T.obj _ _ st7);refine thn (hg s3 H3 fp _ s7 τ H7 x u _ I7' r7 (step x H7 y7)) λ_ s8 ⟨τ8,H8,I8,q8⟩=>?_;refine thn (ht s3 H3 fp _ s8 τ8 H8 _ I8 q8) λok s9 ⟨H9,I9,q9⟩=>?_;have keep:∀{st:Ah} {τ':St} {H':Hp},Inv (jau X N scope cl s3 H3 fp) ([]++jib fp s7.heap) τ' H' st->tn (i+1) st.heap/\∀b∈fp,H' b=none:=λ{st τ' H'} Ix=>by
    refine⟨T.keep _ _ _ st7 λb hb o e=>(Ix.pin (b,o) (A0 _ (A0 _ (jbx hb e)))).1,λb hb=>?_⟩;obtain⟨o,e,d⟩:=T.obj _ _ st7 b hb;exact(Ix.pin (b,o) (A0 _ (A0 _ (jbx hb e)))).2.1
   cases ok with
   |false =>
    rw[if_neg Af]at q9 ⊢;obtain⟨m',hm,w9⟩:=q9;obtain⟨k1,k2⟩:=keep I9;exact⟨m',hm,i+1,ys,τ8,H9,I9.unpinned,k1,k2,w9⟩
   |true =>
    rw[if_pos rfl]at q9 ⊢;refine thn (he s3 H3 fp _ s9 τ8 H9 _ I9 q9) λxv s10 ⟨y,H10,I10,r10,hD,m',hm,w10⟩=>?_;refine thn (jgh _ s10 τ8 H10 (.ref s2.heap.objs.size) [y] (.ref s2.heap.objs.size) [xv] (λz H'=>∃m',m' < n/\W (i+1) m' (ys++[y]) τ8 H') I10 rfl (.cons r10 .nil) ⟨_,ys,y,rfl,rfl,hD,hz,m',hm,w10⟩) λz s11 ⟨z',H11,I11,_,m'',hm',w11⟩=>?_;obtain⟨k1,k2⟩:=keep I11;exact⟨m'',hm',i+1,ys++[y],τ8,H11,I11.unpinned,k1,k2,w11⟩
 exact codeAny_compStart_list loop (T.self _ 0 _ _ _ st4 loop)
end L2
set_option Elab.async false
set_option maxRecDepth 100000
namespace Nb
open PySem L2
def Kp (t:Addr) (H H':Hp):Prop:=∀b o,H b=some o->b≠t->H' b=some o
theorem Kp.refl (t:Addr) (H:Hp):Kp t H H:=λ_ _ h _=>h
theorem Kp.trans {t:Addr} {H H1 H2:Hp} (a:Kp t H H1) (b:Kp t H1 H2):Kp t H H2:=λc o h n=>b c o (a c o h n) n
theorem Kp.new {t p:Addr} {H:Hp} {o:HO} (h:H p=none):Kp t H (upd H p o):=λc o' e _=>by
 rw[jai (jag e h)];exact e
theorem Kp.tape {t:Addr} {H:Hp} {o:HO}:Kp t H (upd H t o):=λc o' e n=>by
 rw[jai n];exact e
structure TL where
 s:Addr
 g:Addr
def exOf (l:TL):List V:=if jn7=true then[.ref l.g]else[]
structure Tp (H:Hp) (t:Addr) (l:TL) (ns:List Int) (n:Int):Prop where
 ob:∃a b:Int,H t=some (.lst (.ref l.s::.int a::.int b::exOf l))/\0<=a/\a<=n
 ls:H l.s=some (.lst (ns.map V.int))
 len:ns.length<=63
 ag:jn7=true->H l.g=some (.lst jst)
 gne:l.g≠t
theorem Tp.ne {H:Hp} {t:Addr} {l:TL} {ns:List Int} {n:Int} (T:Tp H t l ns n):t≠l.s:=by
 obtain⟨a,b,h,_⟩:=T.ob;refine jzh h T.ls λz=>?_;have z':(.ref l.s::.int a::.int b::exOf l:List V)=ns.map V.int:=HO.lst.inj z;cases ns with
 |nil=>cases z'
 |cons m r =>
  rw[A3]at z';have:=(List.cons.inj z').1;cases this
theorem Tp.other {H:Hp} {t p:Addr} {l:TL} {ns:List Int} {n:Int} {o:HO} (T:Tp H t l ns n) (h1:t≠p) (h2:l.s≠p) (h3:jn7=true->l.g≠p):Tp (upd H p o) t l ns n:=by
 obtain⟨a,b,e,h⟩:=T.ob;exact⟨⟨a,b,by rw[jai h1];exact e,h⟩,by rw[jai h2];exact T.ls,T.len,λz=>by rw[jai (h3 z)];exact T.ag z,T.gne⟩
theorem Tp.new {H:Hp} {t p:Addr} {l:TL} {ns:List Int} {n:Int} {o:HO} (T:Tp H t l ns n) (h:H p=none):Tp (upd H p o) t l ns n:=by
 obtain⟨a,b,e,_⟩:=T.ob;exact T.other (jag e h) (jag T.ls h) λz=>jag (T.ag z) h
theorem jvg {xs:List V} {r:Int} (h0:0<=r) (h1:r < xs.length):∃v,atI xs r=some v/\v∈xs:=by
 obtain⟨j,rfl⟩:=Cm h0;have hj:j < xs.length:=by omega
 exact⟨xs[j],ja7 (Am hj),List.getElem_mem hj⟩
theorem small {n:Nat} (h:n<=1000):n<=An:=Nat.le_of_lt (jok h)
theorem jsm:Bh "tuple"=some (.type "tuple"):=by decide +kernel
theorem jyk:Bh "int"=some (.type "int"):=by decide +kernel
theorem jyj:Bh "str"=some (.type "str"):=by decide +kernel
theorem jvc:Bh "repr"=some (.builtin "repr"):=by decide +kernel
theorem jtk:Bh "isinstance"=some (.builtin "isinstance"):=by decide +kernel
theorem jym:Bh "all"=some (.builtin "all"):=by decide +kernel
theorem jme:Bh "list"=some (.type "list"):=by decide +kernel
theorem jvd:Bh "bool"=some (.type "bool"):=by decide +kernel
theorem j0g {xs:List V} (h:xs.length<=63):cutV xs none (some 63)=xs:=by
 unfold cutV;have e1:HT.sIx xs.length 0 none=0:=rfl;have e2:HT.sIx xs.length xs.length (some 63)=xs.length:=by
  have e:=HT.sIx_nat xs.length xs.length 63;rw[show((63:Nat):Int)=63 from rfl]at e;rw[e];omega
 rw[e1,e2,List.drop_zero,Nat.sub_zero,List.take_length]
def jki (K:Ab):Sp:=λvs H Q _=>∃(a:Addr) (ns:List Int),vs=[.ref a]/\SqL K H a (ns.map V.int)/\ns.length<=63 /\
 ∀(t:Addr) (l:TL) (H':Hp),Tp H' t l ns 0->(∀b o,H b=some o->H' b=some o)->Q (.ref t) H'
def js2:Sp:=λvs H Q _=>∃(t:Addr) (l:TL) (ns:List Int) (n many:Int),vs=[.ref t,.int many]/\Tp H t l ns n/\n < 2 ^ 40/\0 < many/\many < 1073741824 /\
 ∀(r:Int) (H':Hp),0<=r->r < many->Tp H' t l ns (n+1)->Kp t H H'->Q (.int r) H'
end Nb
namespace DL
open PySem L2 Nb
abbrev D:=Aa
mutual
inductive RdX (H:Hp) (B:Addr->Prop):V->Aa->Prop
 |non:RdX H B .non .none
 |bl (b:Bool):RdX H B (.bl b) (.bool b)
 |int (i:Int):RdX H B (.int i) (.int i)
 |str (x:Str) (h:x.length<=An):RdX H B (.str x) (.str x)
 |lst {a:Addr} {xs:List V} {ds:List Aa}:H a=some (.lst xs)->¬B a->xs.length<=An->RdXs H B xs ds->RdX H B (.ref a) (.list ds)
 |tup {a:Addr} {xs:List V} {ds:List Aa}:H a=some (.tup xs)->¬B a->xs.length<=An->RdXs H B xs ds->RdX H B (.ref a) (.tuple ds)
inductive RdXs (H:Hp) (B:Addr->Prop):List V->List Aa->Prop
 |nil:RdXs H B [] []
 |cons {x:V} {xs:List V} {d:Aa} {ds:List Aa}:RdX H B x d->RdXs H B xs ds->RdXs H B (x::xs) (d::ds)
end
mutual
theorem RdX.move {H H':Hp} {B B':Addr->Prop} (k:∀b o,H b=some o->¬B b->H' b=some o/\¬B' b):∀{v:V} {d:Aa},RdX H B v d->RdX H' B' v d
 |_,_,.non=>.non
 |_,_,.bl b=>.bl b
 |_,_,.int i=>.int i
 |_,_,.str x h=>.str x h
 |_,_,.lst h1 h2 h3 h4=>.lst (k _ _ h1 h2).1 (k _ _ h1 h2).2 h3 (RdXs.move k h4)
 |_,_,.tup h1 h2 h3 h4=>.tup (k _ _ h1 h2).1 (k _ _ h1 h2).2 h3 (RdXs.move k h4)
theorem RdXs.move {H H':Hp} {B B':Addr->Prop} (k:∀b o,H b=some o->¬B b->H' b=some o/\¬B' b):∀{vs:List V} {ds:List Aa},RdXs H B vs ds->RdXs H' B' vs ds
 |_,_,.nil=>.nil
 |_,_,.cons h1 h2=>.cons (RdX.move k h1) (RdXs.move k h2)
end
section
variable {H H':Hp} {B B':Addr->Prop} {v:V} {d:Aa} {vs ws:List V} {ds es:List Aa} {t:Addr}
theorem RdX.kp (k:Kp t H H') (ht:B t) (h:RdX H B v d):RdX H' B v d:=h.move λb o e n=>⟨k b o e λz=>n (z▸ht),n⟩
theorem RdXs.kp (k:Kp t H H') (ht:B t) (h:RdXs H B vs ds):RdXs H' B vs ds:=h.move λb o e n=>⟨k b o e λz=>n (z▸ht),n⟩
theorem RdX.less (k:∀b,B' b->B b) (h:RdX H B v d):RdX H B' v d:=h.move λb o e n=>⟨e,λz=>n (k b z)⟩
theorem RdXs.less (k:∀b,B' b->B b) (h:RdXs H B vs ds):RdXs H B' vs ds:=h.move λb o e n=>⟨e,λz=>n (k b z)⟩
theorem RdXs.keep (k:∀b o,H b=some o->¬B b->H' b=some o) (h:RdXs H B vs ds):RdXs H' B vs ds:=h.move λb o e n=>⟨k b o e n,n⟩
theorem RdXs.len:∀{vs:List V} {ds:List Aa},RdXs H B vs ds->vs.length=ds.length
 |_,_,.nil=>rfl
 |_,_,.cons _ t=>by rw[Ak,Ak,RdXs.len t]
theorem RdXs.getD:∀{vs:List V} {ds:List Aa} {i:Nat} {d:Aa},RdXs H B vs ds->ds[i]?=some d->∃v,vs[i]?=some v/\RdX H B v d
 |_,_,_,_,.nil,e=>by simp at e
 |_,_,0,_,.cons h _,e=>by
  simp at e;subst e;exact⟨_,rfl,h⟩
 |_,_,i+1,d,.cons _ t,e=>by
  obtain⟨v,h1,h2⟩:=RdXs.getD (i:=i) (d:=d) t (by simpa using e);exact⟨v,by simpa using h1,h2⟩
theorem RdXs.append:∀{vs ws:List V} {ds es:List Aa},RdXs H B vs ds->RdXs H B ws es->RdXs H B (vs++ws) (ds++es)
 |_,_,_,_,.nil,h=>h
 |_,_,_,_,.cons h1 h2,h=>.cons h1 (RdXs.append h2 h)
theorem RdXs.set:∀{vs:List V} {ds:List Aa} (i:Nat) {v:V} {d:Aa},RdXs H B vs ds->RdX H B v d->RdXs H B (vs.set i v) (ds.set i d)
 |_,_,_,_,_,.nil,_=>.nil
 |_,_,0,_,_,.cons _ t,h=>.cons h t
 |_,_,i+1,_,_,.cons q t,h=>.cons q (RdXs.set i t h)
theorem RdXs.take:∀{vs:List V} {ds:List Aa} (n:Nat),RdXs H B vs ds->RdXs H B (vs.take n) (ds.take n)
 |_,_,0,_=>.nil
 |_,_,_+1,.nil=>.nil
 |_,_,n+1,.cons r t=>.cons r (RdXs.take n t)
theorem RdXs.drop:∀{vs:List V} {ds:List Aa} (n:Nat),RdXs H B vs ds->RdXs H B (vs.drop n) (ds.drop n)
 |_,_,0,r=>r
 |_,_,_+1,.nil=>.nil
 |_,_,n+1,.cons _ t=>RdXs.drop n t
end
mutual
theorem RdX.rd {K:Ab} {H:Hp} {B:Addr->Prop}:∀{v:V} {d:Aa},RdX H B v d->RdD K H v d
 |_,_,.non=>.non
 |_,_,.bl b=>.bl b
 |_,_,.int i=>.int i
 |_,_,.str x h=>.str x
 |_,_,.lst h1 h2 h3 h4=>.lst (SqL.of h1) (RdXs.rd h4)
 |_,_,.tup h1 h2 h3 h4=>.tup (SqT.of h1) (RdXs.rd h4)
theorem RdXs.rd {K:Ab} {H:Hp} {B:Addr->Prop}:∀{vs:List V} {ds:List Aa},RdXs H B vs ds->RdAll K H vs ds
 |_,_,.nil=>.nil
 |_,_,.cons h1 h2=>.cons (RdX.rd h1) (RdXs.rd h2)
end
inductive Ob where
 |o | p (d:Aa) | k (m:List (Key×Aa)) | q (d:Aa) (m:List (Key×Aa))
inductive Wv where
 |d (x:Aa) | tp | dk (kvs:List (Key×Aa)) | ln (ds:List Aa) | ob (o:Ob)
def Wv.lent:Wv->Bool
 |.dk _=>true
 |.ln _=>true
 |_=>false
inductive SV where
 |w (x:Wv) | own (ds:List Aa) | odk (kvs:List (Key×Aa)) | odt (kvs:List (List Key×Aa))
abbrev Sl:=List (Option SV)
def RdK (H:Hp) (B:Addr->Prop):List (Key×V)->List (Key×Aa)->Prop:=Paired λp q=>p.1=q.1/\RdX H B p.2 q.2
theorem RdK.move {H H':Hp} {B B':Addr->Prop} (k:∀b o,H b=some o->¬B b->H' b=some o/\¬B' b) {l:List (Key×V)} {m:List (Key×Aa)} (h:RdK H B l m):RdK H' B' l m :=
 Paired.mapP h λ_ _ z=>⟨z.1,z.2.move k⟩
def RdT (H:Hp) (B:Addr->Prop):List (List Key×V)->List (List Key×Aa)->Prop:=Paired λp q=>p.1=q.1/\RdX H B p.2 q.2
theorem RdT.move {H H':Hp} {B B':Addr->Prop} (k:∀b o,H b=some o->¬B b->H' b=some o/\¬B' b) {l:List (List Key×V)} {m:List (List Key×Aa)} (h:RdT H B l m):RdT H' B' l m :=
 Paired.mapP h λ_ _ z=>⟨z.1,z.2.move k⟩
def ORel (H:Hp) (B:Addr->Prop) (v:V):Ob->Prop
 |.o=>∃a,v=.ref a
 |.p d=>∃a x y,v=.ref a/\H a=some (.tup [x,y])/\¬B a/\RdX H B x d
 |.k m=>∃a l,v=.ref a/\H a=some (.dK l)/\¬B a/\RdK H B l m
 |.q d m=>∃a x b l,v=.ref a/\H a=some (.tup [x,.ref b])/\¬B a/\RdX H B x d/\H b=some (.dK l)/\¬B b/\RdK H B l m
theorem ORel.move {H H':Hp} {B B':Addr->Prop} (k:∀b o,H b=some o->¬B b->H' b=some o/\¬B' b) {v:V} {o:Ob} (h:ORel H B v o):ORel H' B' v o:=by
 cases o with
 |o=>exact h
 |p d =>
  obtain⟨a,x,y,e,h1,h2,h3⟩:=h;exact⟨a,x,y,e,(k _ _ h1 h2).1,(k _ _ h1 h2).2,h3.move k⟩
 |k m =>
  obtain⟨a,l,e,h1,h2,h3⟩:=h;exact⟨a,l,e,(k _ _ h1 h2).1,(k _ _ h1 h2).2,h3.move k⟩
 |q d m =>
  obtain⟨a,x,b,l,e,h1,h2,h3,h4,h5,h6⟩:=h;exact⟨a,x,b,l,e,(k _ _ h1 h2).1,(k _ _ h1 h2).2,h3.move k,(k _ _ h4 h5).1,(k _ _ h4 h5).2,h6.move k⟩
def WRel (H:Hp) (B:Addr->Prop) (t:Addr) (v:V):Wv->Prop
 |.d x=>RdX H B v x
 |.tp=>v=.ref t
 |.dk kvs=>∃a l,v=.ref a/\H a=some (.dK l)/\a≠t/\RdK H B l kvs
 |.ln ds=>∃a xs,v=.ref a/\H a=some (.lst xs)/\a≠t/\xs.length<=An/\RdXs H B xs ds
 |.ob o=>ORel H B v o
def SRel (H0:Hp) (H:Hp) (B:Addr->Prop) (t:Addr) (v:V):SV->Prop
 |.w x=>WRel H B t v x/\(x.lent=true->∃a,v=.ref a/\H0 a≠none)
 |.own ds=>∃a xs,v=.ref a/\H a=some (.lst xs)/\B a/\H0 a=none/\xs.length<=An/\RdXs H B xs ds
 |.odk kvs=>∃a l,v=.ref a/\H a=some (.dK l)/\B a/\H0 a=none/\l.length<=1000/\RdK H B l kvs
 |.odt kvs=>∃a l,v=.ref a/\H a=some (.dT l)/\B a/\H0 a=none/\l.length<=1000/\RdT H B l kvs
def SV.isOwn:SV->Bool
 |.w _=>false
 |_=>true
structure Ctx where
 t:Addr
 l:TL
 ns:List Int
 H0:Hp
 B0:Addr->Prop
 fz:Hp
structure Rel (C:Ctx) (H:Hp) (B:Addr->Prop) (σ:St) (δ:Sl) (n:Int):Prop where
 tp:Tp H C.t C.l C.ns n
 kp:Kp C.t C.H0 H
 t0:C.H0 C.t≠none
 l0:C.H0 C.l.s≠none
 g0:jn7=true->C.H0 C.l.g≠none
 fz:∀b o,C.fz b=some o->H b=some o/\¬B b
 bt:B C.t
 b0:∀b,C.B0 b->B b
 ba:∀b,B b->H b≠none
 a0:∀b,C.B0 b->C.H0 b≠none
 sl:∀(i:Nat) (x:SV),δ[i]?=some (some x)->∃v,σ[i]?=some (some v)/\SRel C.H0 H B C.t v x
 ow:∀(i j:Nat) (x y:SV) (v:V),δ[i]?=some (some x)->δ[j]?=some (some y)->x.isOwn=true->y.isOwn=true->σ[i]?=some (some v)->σ[j]?=some (some v)->i=j
 len:σ.length=δ.length
theorem WRel.kp {H H':Hp} {B:Addr->Prop} {t:Addr} {v:V} {x:Wv} (k:Kp t H H') (ht:B t) (h:WRel H B t v x):WRel H' B t v x:=by
 cases x with
 |d x=>exact RdX.kp k ht h
 |tp=>exact h
 |dk kvs =>
  obtain⟨a,l,e,h1,h2,h3⟩:=h;exact⟨a,l,e,k _ _ h1 h2,h2,h3.move λb o e n=>⟨k b o e λz=>n (z▸ht),n⟩⟩
 |ln ds =>
  obtain⟨a,l,e,h1,h2,h3,h4⟩:=h;exact⟨a,l,e,k _ _ h1 h2,h2,h3,h4.kp k ht⟩
 |ob o=>exact ORel.move (λb o e n=>⟨k b o e λz=>n (z▸ht),n⟩) h
theorem WRel.less {H:Hp} {B B':Addr->Prop} {t:Addr} {v:V} {x:Wv} (k:∀b,B' b->B b) (h:WRel H B t v x):WRel H B' t v x:=by
 cases x with
 |d x=>exact RdX.less k h
 |tp=>exact h
 |dk kvs =>
  obtain⟨a,l,e,h1,h2,h3⟩:=h;exact⟨a,l,e,h1,h2,h3.move λb o e n=>⟨e,λz=>n (k b z)⟩⟩
 |ln ds =>
  obtain⟨a,l,e,h1,h2,h3,h4⟩:=h;exact⟨a,l,e,h1,h2,h3,h4.less k⟩
 |ob o=>exact ORel.move (λb o e n=>⟨e,λz=>n (k b z)⟩) h
theorem SRel.kp {H0 H H':Hp} {B:Addr->Prop} {t:Addr} {v:V} {x:SV} (k:Kp t H H') (ht:B t) (t0:H0 t≠none) (h:SRel H0 H B t v x):SRel H0 H' B t v x:=by
 cases x with
 |w x=>exact⟨h.1.kp k ht,h.2⟩
 |own ds =>
  obtain⟨a,xs,e,h1,h2,h3,h4,h5⟩:=h;exact⟨a,xs,e,k _ _ h1 (λz=>t0 (z▸h3)),h2,h3,h4,h5.kp k ht⟩
 |odk kvs =>
  obtain⟨a,l,e,h1,h2,h3,h4,h5⟩:=h;exact⟨a,l,e,k _ _ h1 (λz=>t0 (z▸h3)),h2,h3,h4,h5.move λb o e n=>⟨k b o e λz=>n (z▸ht),n⟩⟩
 |odt kvs =>
  obtain⟨a,l,e,h1,h2,h3,h4,h5⟩:=h;exact⟨a,l,e,k _ _ h1 (λz=>t0 (z▸h3)),h2,h3,h4,h5.move λb o e n=>⟨k b o e λz=>n (z▸ht),n⟩⟩
theorem Rel.step {C:Ctx} {H H':Hp} {B:Addr->Prop} {σ:St} {δ:Sl} {n n':Int} (R:Rel C H B σ δ n) (T:Tp H' C.t C.l C.ns n') (k:Kp C.t H H'):Rel C H' B σ δ n' where
 tp:=T
 kp:=R.kp.trans k
 t0:=R.t0
 l0:=R.l0
 g0:=R.g0
 fz:=λb o e=>⟨k b o (R.fz b o e).1 λz=>(R.fz b o e).2 (z▸R.bt),(R.fz b o e).2⟩
 bt:=R.bt
 b0:=R.b0
 ba:=λb hb e=>by
  by_cases z:b=C.t
  ·subst z;obtain⟨x,y,h,_⟩:=T.ob;rw[h]at e;cases e
  ·cases q:H b with
   |none=>exact R.ba b hb q
   |some o=>rw[k b o q z]at e;cases e
 a0:=R.a0
 sl:=λi x e=>by
  obtain⟨v,h1,h2⟩:=R.sl i x e;exact⟨v,h1,h2.kp k R.bt R.t0⟩
 ow:=R.ow
 len:=R.len
theorem Rel.new {C:Ctx} {H:Hp} {B:Addr->Prop} {σ:St} {δ:Sl} {n:Int} {p:Addr} {o:HO} (R:Rel C H B σ δ n) (h:H p=none):Rel C (upd H p o) B σ δ n:=R.step (R.tp.new h) (Kp.new h)
theorem Rel.nb {C:Ctx} {H:Hp} {B:Addr->Prop} {σ:St} {δ:Sl} {n:Int} {p:Addr} (R:Rel C H B σ δ n) (h:H p=none):¬B p:=λz=>R.ba p z h
theorem jan {α:Type} {l:List (Option α)} {i j:Nat} {x y:α} (h:(l.set i (some x))[j]?=some (some y)):(j=i/\y=x)\/(j≠i/\l[j]?=some (some y)):=by
 by_cases e:i=j
 ·subst e;rw[Dp]at h;cases q:l[i]? with
  |none=>rw[q]at h;cases h
  |some z =>
   rw[q]at h;exact .inl ⟨rfl,(A9 (A9 h)).symm⟩
 ·rw[B8 e]at h;exact .inr ⟨λz=>e z.symm,h⟩
theorem jmo {α:Type} {l:List (Option α)} {i:Nat} {x y:Option α} (h:(l.set i x)[i]?=some y):i < l.length:=by
 have:=(Bf.mp h).1;rwa [Cf]at this
theorem jb6 {α:Type} {l:List (Option α)} {i:Nat} {x:α} (h:i < l.length):(l.set i (some x))[i]?=some (some x):=by simp[h]
theorem jbh {α:Type} {l:List (Option α)} {i j:Nat} {x:α} (h:j≠i):(l.set i (some x))[j]?=l[j]?:=B8 (λz=>h z.symm)
theorem Rel.set {C:Ctx} {H:Hp} {B:Addr->Prop} {σ:St} {δ:Sl} {n:Int} {i:Nat} {v:V} {x:Wv} (R:Rel C H B σ δ n) (h:WRel H B C.t v x) (hx:x.lent=false):Rel C H B (σ.set i (some v)) (δ.set i (some (.w x))) n where
 tp:=R.tp
 kp:=R.kp
 t0:=R.t0
 l0:=R.l0
 g0:=R.g0
 fz:=R.fz
 bt:=R.bt
 b0:=R.b0
 ba:=R.ba
 a0:=R.a0
 sl:=λj y e=>by
  rcases jan e with⟨rfl,rfl⟩ | ⟨ne,e'⟩
  ·exact⟨v,jb6 (by rw[R.len];exact jmo e),h,λz=>by rw[hx]at z;cases z⟩
  ·obtain⟨u,h1,h2⟩:=R.sl j y e';exact⟨u,by rw[jbh ne];exact h1,h2⟩
 ow:=λj k y z u e1 e2 o1 o2 f1 f2=>by
  rcases jan e1 with⟨rfl,rfl⟩ | ⟨ne1,e1'⟩
  ·cases o1
  ·rcases jan e2 with⟨rfl,rfl⟩ | ⟨ne2,e2'⟩
   ·cases o2
   ·rw[jbh ne1]at f1;rw[jbh ne2]at f2;exact R.ow j k y z u e1' e2' o1 o2 f1 f2
 len:=by rw[Cf,Cf];exact R.len
theorem Rel.mut {C:Ctx} {H:Hp} {B:Addr->Prop} {σ:St} {δ:Sl} {n:Int} {a:Addr} {o:HO} (R:Rel C H B σ δ n) (hb:B a) (h0:C.H0 a=none)
  (ho:∀(i:Nat) (x:SV),δ[i]?=some (some x)->x.isOwn=true->σ[i]?≠some (some (.ref a))):Rel C (upd H a o) B σ δ n where
 tp:=R.tp.other (λz=>R.t0 (z▸h0)) (λz=>R.l0 (z▸h0)) (λe z=>R.g0 e (z▸h0))
 kp:=λb o' e ne=>by
  rw[jai (jag e h0)];exact R.kp b o' e ne
 t0:=R.t0
 l0:=R.l0
 g0:=R.g0
 fz:=λb o' e=>⟨by rw[jai λ(z:b=a)=>(R.fz b o' e).2 (z▸hb)];exact(R.fz b o' e).1,(R.fz b o' e).2⟩
 bt:=R.bt
 b0:=R.b0
 ba:=λb hb' e=>by
  by_cases z:b=a
  ·rw[z,jaj]at e;cases e
  ·rw[jai z]at e;exact R.ba b hb' e
 a0:=R.a0
 sl:=λi x e=>by
  obtain⟨v,h1,h2⟩:=R.sl i x e;have mv:∀b o',H b=some o'->¬B b->upd H a o b=some o'/\¬B b:=λb o' e n=>⟨by rw[jai λ(z:b=a)=>n (z▸hb)];exact e,n⟩;refine⟨v,h1,?_⟩;cases x with
  |w x =>
   refine⟨?_,h2.2⟩;cases x with
   |d x=>exact h2.1.move mv
   |tp=>exact h2.1
   |dk kvs =>
    obtain⟨a',l,e1,e2,e3,e4⟩:=h2.1;obtain⟨a'',f1,f2⟩:=h2.2 rfl;rw[e1]at f1;cases f1;exact⟨a',l,e1,by rw[jai λ(z:a'=a)=>f2 (z▸h0)];exact e2,e3,e4.move mv⟩
   |ln ds =>
    obtain⟨a',l,e1,e2,e3,e4,e5⟩:=h2.1;obtain⟨a'',f1,f2⟩:=h2.2 rfl;rw[e1]at f1;cases f1;exact⟨a',l,e1,by rw[jai λ(z:a'=a)=>f2 (z▸h0)];exact e2,e3,e4,e5.move mv⟩
   |ob o=>exact ORel.move mv h2.1
  |own ds =>
   obtain⟨a',xs,e1,e2,e3,e4,e5,e6⟩:=h2;have ne:a'≠a:=λz=>ho i _ e rfl (by rw[h1,e1,z]);exact⟨a',xs,e1,by rw[jai ne];exact e2,e3,e4,e5,e6.move mv⟩
  |odk kvs =>
   obtain⟨a',xs,e1,e2,e3,e4,e5,e6⟩:=h2;have ne:a'≠a:=λz=>ho i _ e rfl (by rw[h1,e1,z]);exact⟨a',xs,e1,by rw[jai ne];exact e2,e3,e4,e5,e6.move mv⟩
  |odt kvs =>
   obtain⟨a',xs,e1,e2,e3,e4,e5,e6⟩:=h2;have ne:a'≠a:=λz=>ho i _ e rfl (by rw[h1,e1,z]);exact⟨a',xs,e1,by rw[jai ne];exact e2,e3,e4,e5,e6.move mv⟩
 ow:=R.ow
 len:=R.len
theorem Rel.mutOwn {C:Ctx} {H:Hp} {B:Addr->Prop} {σ:St} {δ:Sl} {n:Int} {i:Nat} {x x':SV} {a:Addr} {o:HO} (R:Rel C H B σ δ n) (hi:δ[i]?=some (some x)) (hx:x.isOwn=true) (hσ:σ[i]?=some (some (.ref a))) (hb:B a) (h0:C.H0 a=none)
  (h:SRel C.H0 (upd H a o) B C.t (.ref a) x') (hx':x'.isOwn=true):Rel C (upd H a o) B σ (δ.set i (some x')) n:=by
 -- first the other slots: slot i is taken out
 have R1:Rel C H B σ (δ.set i none) n:={
  tp:=R.tp,kp:=R.kp,t0:=R.t0,l0:=R.l0,g0:=R.g0,fz:=R.fz,bt:=R.bt,b0:=R.b0,ba:=R.ba,a0:=R.a0
  sl:=λj y e=>by
   by_cases z:i=j
   ·subst z;rw[Dp]at e;rw[hi]at e;cases e
   ·rw[B8 z]at e;exact R.sl j y e
  ow:=λj k y z u e1 e2 o1 o2 f1 f2=>by
   have g:∀{m:Nat} {w:SV},(δ.set i none)[m]?=some (some w)->δ[m]?=some (some w):=λ{m w} e=>by
    by_cases q:i=m
    ·subst q;rw[Dp,hi]at e;cases e
    ·rwa [B8 q]at e
   exact R.ow j k y z u (g e1) (g e2) o1 o2 f1 f2
  len:=by rw[Cf];exact R.len}
 have R2:Rel C (upd H a o) B σ (δ.set i none) n:=R1.mut hb h0 λj y e oy f=>by
  by_cases z:i=j
  ·subst z;rw[Dp,hi]at e;cases e
  ·rw[B8 z]at e;exact z (R.ow i j x y _ hi e hx oy hσ f)
 have hlt:i < δ.length:=(Bf.mp hi).1;exact{
  tp:=R2.tp,kp:=R2.kp,t0:=R2.t0,l0:=R2.l0,g0:=R2.g0,fz:=R2.fz,bt:=R2.bt,b0:=R2.b0,ba:=R2.ba,a0:=R2.a0
  sl:=λj y e=>by
   rcases jan e with⟨rfl,rfl⟩ | ⟨ne,e'⟩
   ·exact⟨_,hσ,h⟩
   ·exact R2.sl j y (by rw[B8 λz=>ne z.symm];exact e')
  ow:=λj k y z u e1 e2 o1 o2 f1 f2=>by
   rcases jan e1 with⟨rfl,rfl⟩ | ⟨ne1,e1'⟩
   ·rcases jan e2 with⟨rfl,rfl⟩ | ⟨ne2,e2'⟩
    ·rfl
    ·exact R.ow _ _ x z u hi e2' hx o2 f1 f2
   ·rcases jan e2 with⟨rfl,rfl⟩ | ⟨ne2,e2'⟩
    ·exact R.ow _ _ y x u e1' hi o1 hx f1 f2
    ·exact R.ow j k y z u e1' e2' o1 o2 f1 f2
  len:=by rw[Cf];exact R.len}
theorem Rel.own {C:Ctx} {H H':Hp} {B:Addr->Prop} {σ:St} {δ:Sl} {n n':Int} {i:Nat} {a:Addr} {x:SV} (R:Rel C H B σ δ n) (R':Rel C H' B σ δ n') (k:Kp C.t H H') (h0:H a=none) (h1:H' a≠none) (hx:x.isOwn=true)
  (h:SRel C.H0 H' (λb=>B b\/b=a) C.t (.ref a) x):Rel C H' (λb=>B b\/b=a) (σ.set i (some (.ref a))) (δ.set i (some x)) n' where
 tp:=R'.tp
 kp:=R'.kp
 t0:=R'.t0
 l0:=R'.l0
 g0:=R'.g0
 fz:=λb o e=>⟨(R'.fz b o e).1,λz=>z.elim (R'.fz b o e).2 λq=>jag (R.fz b o e).1 h0 q⟩
 bt:=.inl R.bt
 b0:=λb z=>.inl (R.b0 b z)
 ba:=λb z=>z.elim (R'.ba b) λq=>q▸h1
 a0:=R.a0
 sl:=λj y e=>by
  have hta:C.t≠a:=λz=>by
   obtain⟨_,_,q,_⟩:=R.tp.ob;rw[z,h0]at q;cases q
  have mv:∀b o',H b=some o'->¬B b->H' b=some o'/\¬(B b\/b=a):=λb o' e n=>⟨k b o' e λz=>n (z▸R.bt),λz=>z.elim n λq=>jag e h0 q⟩;rcases jan e with⟨rfl,rfl⟩ | ⟨ne,e'⟩
  ·exact⟨_,jb6 (by rw[R.len];exact jmo e),h⟩
  ·obtain⟨v,f1,f2⟩:=R.sl j y e';refine⟨v,by rw[jbh ne];exact f1,?_⟩;cases y with
   |w y =>
    refine⟨?_,f2.2⟩;cases y with
    |d y=>exact f2.1.move mv
    |tp=>exact f2.1
    |dk kvs =>
     obtain⟨a',l,e1,e2,e3,e4⟩:=f2.1;exact⟨a',l,e1,k _ _ e2 e3,e3,e4.move mv⟩
    |ln ds =>
     obtain⟨a',l,e1,e2,e3,e4,e5⟩:=f2.1;exact⟨a',l,e1,k _ _ e2 e3,e3,e4,e5.move mv⟩
    |ob o=>exact ORel.move mv f2.1
   |own ds =>
    obtain⟨a',xs,e1,e2,e3,e4,e5,e6⟩:=f2;exact⟨a',xs,e1,k _ _ e2 (λz=>R.t0 (z▸e4)),.inl e3,e4,e5,e6.move mv⟩
   |odk kvs =>
    obtain⟨a',xs,e1,e2,e3,e4,e5,e6⟩:=f2;exact⟨a',xs,e1,k _ _ e2 (λz=>R.t0 (z▸e4)),.inl e3,e4,e5,e6.move mv⟩
   |odt kvs =>
    obtain⟨a',xs,e1,e2,e3,e4,e5,e6⟩:=f2;exact⟨a',xs,e1,k _ _ e2 (λz=>R.t0 (z▸e4)),.inl e3,e4,e5,e6.move mv⟩
 ow:=λj m y z u e1 e2 o1 o2 f1 f2=>by
  have out:∀{p:Nat} {w:SV},δ[p]?=some (some w)->w.isOwn=true->σ[p]?=some (some (.ref a))->False:=λ{p w} e ow f=>by
   obtain⟨v,g1,g2⟩:=R.sl p w e;rw[f]at g1;cases g1;cases w with
   |w _=>cases ow
   |own ds =>
    obtain⟨a',xs,e1,e2,_⟩:=g2;cases e1;rw[h0]at e2;cases e2
   |odk ds =>
    obtain⟨a',xs,e1,e2,_⟩:=g2;cases e1;rw[h0]at e2;cases e2
   |odt ds =>
    obtain⟨a',xs,e1,e2,_⟩:=g2;cases e1;rw[h0]at e2;cases e2
  rcases jan e1 with⟨rfl,rfl⟩ | ⟨ne1,e1'⟩
  ·rcases jan e2 with⟨rfl,rfl⟩ | ⟨ne2,e2'⟩
   ·rfl
   ·rw[jb6 (by rw[R.len];exact jmo e1)]at f1;rw[jbh ne2]at f2;cases f1;exact(out e2' o2 f2).elim
  ·rcases jan e2 with⟨rfl,rfl⟩ | ⟨ne2,e2'⟩
   ·rw[jb6 (by rw[R.len];exact jmo e2)]at f2;rw[jbh ne1]at f1;cases f2;exact(out e1' o1 f1).elim
   ·rw[jbh ne1]at f1;rw[jbh ne2]at f2;exact R.ow j m y z u e1' e2' o1 o2 f1 f2
 len:=by rw[Cf,Cf];exact R.len
theorem Rel.give {C:Ctx} {H:Hp} {B:Addr->Prop} {σ:St} {δ:Sl} {n:Int} {i:Nat} {x:SV} {y:Wv} {a:Addr} (R:Rel C H B σ δ n) (hi:δ[i]?=some (some x)) (ox:x.isOwn=true) (hv:σ[i]?=some (some (.ref a))) (e4:C.H0 a=none) (hy:WRel H (λb=>B b/\b≠a) C.t (.ref a) y) (hl:y.lent=false):Rel C H (λb=>B b/\b≠a) σ (δ.set i (some (.w y))) n:=by
 have less:∀b,(B b/\b≠a)->B b:=λb z=>z.1;exact{
  tp:=R.tp,kp:=R.kp,t0:=R.t0,l0:=R.l0,g0:=R.g0
  fz:=λb o e=>⟨(R.fz b o e).1,λz=>(R.fz b o e).2 z.1⟩
  bt:=⟨R.bt,λz=>R.t0 (z▸e4)⟩
  b0:=λb z=>⟨R.b0 b z,λq=>R.a0 b z (q▸e4)⟩
  ba:=λb z=>R.ba b z.1
  a0:=R.a0
  sl:=λj y' e=>by
   rcases jan e with⟨rfl,rfl⟩ | ⟨ne,e'⟩
   ·exact⟨_,hv,hy,λz=>by rw[hl]at z;cases z⟩
   ·obtain⟨u,f1,f2⟩:=R.sl j y' e';refine⟨u,f1,?_⟩;cases y' with
    |w y=>exact⟨f2.1.less less,f2.2⟩
    |own ds' =>
     obtain⟨a',xs',g1,g2,g3,g4,g5,g6⟩:=f2;refine⟨a',xs',g1,g2,⟨g3,λz=>?_⟩,g4,g5,g6.less less⟩;exact ne (R.ow j i _ _ _ e' hi rfl ox f1 (by rw[hv,g1,z]))
    |odk ds' =>
     obtain⟨a',xs',g1,g2,g3,g4,g5,g6⟩:=f2;refine⟨a',xs',g1,g2,⟨g3,λz=>?_⟩,g4,g5,g6.move λb o e n=>⟨e,λz=>n z.1⟩⟩;exact ne (R.ow j i _ _ _ e' hi rfl ox f1 (by rw[hv,g1,z]))
    |odt ds' =>
     obtain⟨a',xs',g1,g2,g3,g4,g5,g6⟩:=f2;refine⟨a',xs',g1,g2,⟨g3,λz=>?_⟩,g4,g5,g6.move λb o e n=>⟨e,λz=>n z.1⟩⟩;exact ne (R.ow j i _ _ _ e' hi rfl ox f1 (by rw[hv,g1,z]))
  ow:=λj k y z u e1 e2 o1 o2 f1 f2=>by
   rcases jan e1 with⟨rfl,rfl⟩ | ⟨ne1,e1'⟩
   ·cases o1
   ·rcases jan e2 with⟨rfl,rfl⟩ | ⟨ne2,e2'⟩
    ·cases o2
    ·exact R.ow j k y z u e1' e2' o1 o2 f1 f2
  len:=by rw[Cf];exact R.len}
theorem Rel.frz {C:Ctx} {H:Hp} {B:Addr->Prop} {σ:St} {δ:Sl} {n:Int} {i:Nat} {ds:List Aa} (R:Rel C H B σ δ n) (hi:δ[i]?=some (some (.own ds))):∃B',Rel C H B' σ (δ.set i (some (.w (.d (.list ds))))) n:=by
 obtain⟨v,hv,a,xs,rfl,e2,e3,e4,e5,e6⟩:=R.sl i _ hi;exact⟨_,R.give hi rfl hv e4 (show RdX H _ (.ref a) (.list ds)from .lst e2 (λz=>z.2 rfl) e5 (e6.less λb z=>z.1)) rfl⟩
theorem Rel.frzK {C:Ctx} {H:Hp} {B:Addr->Prop} {σ:St} {δ:Sl} {n:Int} {i:Nat} {m:List (Key×Aa)} (R:Rel C H B σ δ n) (hi:δ[i]?=some (some (.odk m))):∃B',Rel C H B' σ (δ.set i (some (.w (.ob (.k m))))) n:=by
 obtain⟨v,hv,a,xs,rfl,e2,e3,e4,e5,e6⟩:=R.sl i _ hi;exact⟨_,R.give hi rfl hv e4 ⟨a,xs,rfl,e2,λz=>z.2 rfl,e6.move λb o e n=>⟨e,λz=>n z.1⟩⟩ rfl⟩
abbrev DQ:=Wv->Int->Prop
abbrev DT:=Sl->Int->DQ->Prop
abbrev DTT:=Sl->Int->(Bool->Int->Prop)->Prop
abbrev DTA:=Sl->Int->(List Wv->Int->Prop)->Prop
inductive ARel (H:Hp) (B:Addr->Prop) (t:Addr):List V->List Wv->Prop
 |nil:ARel H B t [] []
 |cons {v:V} {vs:List V} {x:Wv} {xs:List Wv}:WRel H B t v x->ARel H B t vs xs->ARel H B t (v::vs) (x::xs)
theorem ARel.kp {H H':Hp} {B:Addr->Prop} {t:Addr} (k:Kp t H H') (ht:B t):∀{vs:List V} {xs:List Wv},ARel H B t vs xs->ARel H' B t vs xs
 |_,_,.nil=>.nil
 |_,_,.cons a b=>.cons (a.kp k ht) (ARel.kp k ht b)
theorem ARel.len {H:Hp} {B:Addr->Prop} {t:Addr}:∀{vs:List V} {xs:List Wv},ARel H B t vs xs->vs.length=xs.length
 |_,_,.nil=>rfl
 |_,_,.cons _ b=>by rw[Ak,Ak,ARel.len b]
def Snd (t:TE) (w:DT):Prop:=∀(C:Ctx) (H:Hp) (B:Addr->Prop) (σ:St) (δ:Sl) (n:Int) (Q:DQ) (Q':VK),Rel C H B σ δ n->w δ n Q ->
 (∀v x H' n',Rel C H' B σ δ n'->Kp C.t H H'->WRel H' B C.t v x->Q x n'->Q' v H')->t σ H Q'
def SndT (t:TT) (w:DTT):Prop:=∀(C:Ctx) (H:Hp) (B:Addr->Prop) (σ:St) (δ:Sl) (n:Int) (Q:Bool->Int->Prop) (Q':Bool->Hp->Prop),Rel C H B σ δ n->w δ n Q ->
 (∀b H' n',Rel C H' B σ δ n'->Kp C.t H H'->Q b n'->Q' b H')->t σ H Q'
def SndA (t:TA) (w:DTA):Prop:=∀(C:Ctx) (H:Hp) (B:Addr->Prop) (σ:St) (δ:Sl) (n:Int) (Q:List Wv->Int->Prop) (Q':List V->Hp->Prop),Rel C H B σ δ n->w δ n Q ->
 (∀vs xs H' n',Rel C H' B σ δ n'->Kp C.t H H'->ARel H' B C.t vs xs->Q xs n'->Q' vs H')->t σ H Q'
abbrev DTF:=Sl->Int->(List Aa->Int->Prop)->Prop
def SndF (t:TE) (w:DTF):Prop:=∀(C:Ctx) (H:Hp) (B:Addr->Prop) (σ:St) (δ:Sl) (n:Int) (Q:List Aa->Int->Prop) (Q':VK),Rel C H B σ δ n->w δ n Q ->
 (∀a xs ds H' n',Rel C H' B σ δ n'->Kp C.t H H'->H a=none->H' a=some (.lst xs)->xs.length<=An->RdXs H' (λb=>B b\/b=a) xs ds->Q ds n'->Q' (.ref a) H')->t σ H Q'
structure DE (X:Cx) (e:Expr) (t:TE) (w:DT):Prop where
 pe:PE X e t
 sd:Snd t w
structure DC (X:Cx) (e:Expr) (t:TT) (w:DTT):Prop where
 pt:PT X e t
 sd:SndT t w
structure DCW (X:Cx) (e:Expr) (t:TT) (w:DTT):Prop where
 pw:PW X e t
 sd:SndT t w
structure DA (X:Cx) (es:List Expr) (t:TA) (w:DTA):Prop where
 pa:PA X es t
 sd:SndA t w
structure DF (X:Cx) (e:Expr) (t:TE) (w:DTF):Prop where
 pe:PE X e t
 sd:SndF t w
variable {X:Cx} {a b c e:Expr} {ta tb tc te:TE} {wa wb wc we:DT} {pos:Pos}
def wVar (i:Nat):DT:=λδ n Q=>match δ[i]? with
 |some (some (.w x))=>Q x n
 |_=>False
theorem jzz (i:Nat) {x:Str} {p:Pos} (hN:X.N[i]?=some x:=by rfl) (hv:Vis X.env.scope x:=by first | exact Cq rfl | exact By (Cq rfl) | exact By (By rfl)) (hd:(x==("__debug__":Str))=false:=by decide)
  (hcd:(x==("__classdict__":Str))=false:=by decide):DE X (.Name x p) (tVar i) (wVar i):=⟨jfd hN hv hd hcd,λC H B σ δ n Q Q' R h k=>by
 unfold wVar at h
 split at h
 ·rename_i x e;obtain⟨v,h1,h2⟩:=R.sl i _ e;exact⟨v,h1,k v x H n R (Kp.refl _ _) h2.1 h⟩
 ·exact h.elim⟩
def wC (d:Aa):DT:=λ_ n Q=>Q (.d d) n
theorem joj {v:V} {d:Aa} (h:∀H B,RdX H B v d):Snd (tC v) (wC d):=λC H B σ δ n Q Q' R q k=>k v (.d d) H n R (Kp.refl _ _) (h H B) q
theorem j0d {i j p}:DE X (.Constant (.int i) j p) (tC (.int i)) (wC (.int i)):=⟨jas,joj λ_ _=>.int i⟩
theorem d_bl {i j p}:DE X (.Constant (.bool i) j p) (tC (.bl i)) (wC (.bool i)):=⟨jzf,joj λ_ _=>.bl i⟩
theorem jz8 {j p}:DE X (.Constant .none j p) (tC .non) (wC .none):=⟨jmt,joj λ_ _=>.non⟩
theorem jz3 {x j p} (h:Str.length x<=An:=by decide +kernel):DE X (.Constant (.str x) j p) (tC (.str x)) (wC (.str x)):=⟨jwv,joj λ_ _=>.str x h⟩
theorem jyc {x:Str} {i:Int} {tk:Tok} {p:Pos} (hg:Gl X x) (hm:X.mg x=some (.int i tk)) (hd:(x==("__debug__":Str))=false:=by decide):DE X (.Name x p) (tC (.int i)) (wC (.int i)):=⟨jud hg hm ⟨tk,rfl⟩ hd,joj λ_ _=>.int i⟩
def w2 (wa wb:DT) (g:Wv->Wv->Int->DQ->Prop):DT:=λδ n Q=>wa δ n λx n1=>wb δ n1 λy n2=>g x y n2 Q
def SndO (r:R2) (g:Wv->Wv->Int->DQ->Prop):Prop:=∀(C:Ctx) (H:Hp) (B:Addr->Prop) (σ:St) (δ:Sl) (n:Int) (x y:V) (p q:Wv) (Q:DQ) (Q':VK),Rel C H B σ δ n->WRel H B C.t x p->WRel H B C.t y q->g p q n Q ->
 (∀v x H' n',Rel C H' B σ δ n'->Kp C.t H H'->WRel H' B C.t v x->Q x n'->Q' v H')->r x y H Q'
theorem jkj {r:R2} {g:Wv->Wv->Int->DQ->Prop} (hr:SndO r g) (ha:Snd ta wa) (hb:Snd tb wb):Snd (tOp r ta tb) (w2 wa wb g):=λC H B σ δ n Q Q' R h k =>
 ha C H B σ δ n _ _ R h λv x H1 n1 R1 k1 r1 q1=>hb C H1 B σ δ n1 _ _ R1 q1 λu y H2 n2 R2 k2 r2 q2 =>
  hr C H2 B σ δ n2 v u x y Q Q' R2 (r1.kp k2 R1.bt) r2 q2 λz p H3 n3 R3 k3 r3 q3=>k z p H3 n3 R3 ((k1.trans k2).trans k3) r3 q3
theorem d_op {op:Operator} {r:R2} {g:Wv->Wv->Int->DQ->Prop} (ho:OpR X (Cz op) r) (hr:SndO r g) (ha:DE X a ta wa) (hb:DE X b tb wb):DE X (.BinOp a op b pos) (tOp r ta tb) (w2 wa wb g) :=
 ⟨jbz ho ha.pe hb.pe,jkj hr ha.sd hb.sd⟩
theorem jnx {op:CmpOp} {r:R2} {g:Wv->Wv->Int->DQ->Prop} (ho:OpR X (A2 op) r) (hr:SndO r g) (ha:DE X a ta wa) (hb:DE X b tb wb) (hm:C2 op b=false):DE X (.Compare a [op] [b] pos) (tOp r ta tb) (w2 wa wb g) :=
 ⟨juf ho ha.pe hb.pe hm,jkj hr ha.sd hb.sd⟩
def cT (w:DT):DTT:=λδ n Q=>w δ n λx n'=>match x with
 |.d (.bool k)=>Q k n'
 |_=>False
theorem wd {H:Hp} {B:Addr->Prop} {t:Addr} {v:V} {d:Aa} (h:RdX H B v d):WRel H B t v (.d d):=h
theorem jiy {t:TE} {w:DT} (h:Snd t w):SndT (jni t) (cT w):=λC H B σ δ n Q Q' R q k =>
 h C H B σ δ n _ _ R q λv x H' n' R' k' r' q'=>by
  split at q'
  ·rename_i b;cases(show RdX H' B v (.bool b)from r');exact⟨b,rfl,k b H' n' R' k' q'⟩
  ·exact q'.elim
theorem jjp {op:CmpOp} {r:R2} {g:Wv->Wv->Int->DQ->Prop} (ho:OpR X (A2 op) r) (hr:SndO r g) (ha:DE X a ta wa) (hb:DE X b tb wb) (hm:C2 op b=false):DC X (.Compare a [op] [b] pos) (jni (tOp r ta tb)) (cT (w2 wa wb g)) :=
 ⟨jge ho ha.pe hb.pe hm,jiy (jkj hr ha.sd hb.sd)⟩
theorem j0k {t:TE} {w:DT} (h:DE X e t w) (he:∀whole,isTrue e X.env whole=(do let v <-whole;standAt e.pos;holding [v] (truthy v)):=by intro _;rfl):DC X e (jni t) (cT w):=⟨jwm h.pe he,jiy h.sd⟩
def jg0 (x:Wv) (A B:Prop):Prop:=match x with
 |.d (.bool true)=>A
 |.d (.bool false)=>B
 |_=>False
theorem jbg (b:Bool) (A B:Prop):jg0 (.d (.bool b)) A B=if b=true then A else B:=by cases b<;>simp[jg0]
def jaw (g g':Wv->Wv->Int->DQ->Prop) (wa wb wc:DT):DT:=λδ n Q=>wa δ n λx n1=>wb δ n1 λy n2=>g x y n2 λz n3=>jg0 z (wc δ n3 λu n4=>g' y u n4 Q) (Q (.d (.bool false)) n3)
theorem jkn {r r':R2} {g g':Wv->Wv->Int->DQ->Prop} (hr:SndO r g) (hr':SndO r' g') (ha:Snd ta wa) (hb:Snd tb wb) (hc:Snd tc wc):Snd (jkg r r' ta tb tc) (jaw g g' wa wb wc):=λC H B σ δ n Q Q' R h k =>
 ha C H B σ δ n _ _ R h λv x H1 n1 R1 k1 r1 q1=>hb C H1 B σ δ n1 _ _ R1 q1 λu y H2 n2 R2 k2 r2 q2 =>
  hr C H2 B σ δ n2 v u x y _ _ R2 (r1.kp k2 R1.bt) r2 q2 λz p H3 n3 R3 k3 r3 q3=>by
   have k13:=(k1.trans k2).trans k3;unfold jg0 at q3
   split at q3
   ·cases(show RdX H3 B z (.bool true)from r3);refine⟨true,rfl,?_⟩;rw[if_pos rfl];exact hc C H3 B σ δ n3 _ _ R3 q3 λw0 x0 H4 n4 R4 k4 r4 q4=>hr' C H4 B σ δ n4 u w0 y x0 Q Q' R4 ((r2.kp k3 R2.bt).kp k4 R3.bt) r4 q4 λz p H5 n5 R5 k5 r5 q5=>k z p H5 n5 R5 ((k13.trans k4).trans k5) r5 q5
   ·cases(show RdX H3 B z (.bool false)from r3);refine⟨false,rfl,?_⟩;rw[if_neg Af];exact k _ _ H3 n3 R3 k13 (wd (.bl false)) q3
   ·exact q3.elim
theorem ju4 {op op':CmpOp} {r r':R2} {g g':Wv->Wv->Int->DQ->Prop} (ho:OpR X (A2 op) r) (hr:SndO r g) (ho':OpR X (A2 op') r') (hr':SndO r' g') (ha:DE X a ta wa) (hb:DE X b tb wb) (hc:DE X c tc wc)
  (hm:lastMarks [op,op'] [b,c]=false:=by with_unfolding_all rfl):DE X (.Compare a [op,op'] [b,c] pos) (jkg r r' ta tb tc) (jaw g g' wa wb wc):=⟨jrn ho ho' ha.pe hb.pe hc.pe hm,jkn hr hr' ha.sd hb.sd hc.sd⟩
theorem jvb {op op':CmpOp} {r r':R2} {g g':Wv->Wv->Int->DQ->Prop} (ho:OpR X (A2 op) r) (hr:SndO r g) (ho':OpR X (A2 op') r') (hr':SndO r' g') (ha:DE X a ta wa) (hb:DE X b tb wb) (hc:DE X c tc wc)
  (hm:lastMarks [op,op'] [b,c]=false:=by with_unfolding_all rfl):DC X (.Compare a [op,op'] [b,c] pos) (jni (jkg r r' ta tb tc)) (cT (jaw g g' wa wb wc)):=⟨jrg ho ho' ha.pe hb.pe hc.pe hm,jiy (jkn hr hr' ha.sd hb.sd hc.sd)⟩
variable {tA tB':TT} {cA cB:DTT} {rest:List Expr}
def cAnd (u v:DTT):DTT:=λδ n Q=>u δ n λb n1=>if b=true then v δ n1 Q else Q false n1
def cOr (u v:DTT):DTT:=λδ n Q=>u δ n λb n1=>if b=true then Q true n1 else v δ n1 Q
def cNot (u:DTT):DTT:=λδ n Q=>u δ n λb n1=>Q (!b) n1
theorem cw_and1 (h:DC X a tA cA):DCW X (.BoolOp .And [a] pos) tA cA:=⟨joy h.pt,h.sd⟩
theorem cw_or1 (h:DC X a tA cA):DCW X (.BoolOp .Or [a] pos) tA cA:=⟨jwl h.pt,h.sd⟩
theorem cw_and (h:DC X a tA cA) (h2:DCW X (.BoolOp .And (b::rest) pos) tB' cB):DCW X (.BoolOp .And (a::b::rest) pos) (tAnd tA tB') (cAnd cA cB):=⟨js8 h.pt h2.pw,λC H B σ δ n Q Q' R q k =>
 h.sd C H B σ δ n _ _ R q λb H1 n1 R1 k1 q1=>by
  cases b with
  |true =>
   rw[if_pos rfl]at q1 ⊢;exact h2.sd C H1 B σ δ n1 _ _ R1 q1 λb H2 n2 R2 k2 q2=>k b H2 n2 R2 (k1.trans k2) q2
  |false =>
   rw[if_neg Af]at q1 ⊢;exact k false H1 n1 R1 k1 q1⟩
theorem cw_or (h:DC X a tA cA) (h2:DCW X (.BoolOp .Or (b::rest) pos) tB' cB):DCW X (.BoolOp .Or (a::b::rest) pos) (tOr tA tB') (cOr cA cB):=⟨jzd h.pt h2.pw,λC H B σ δ n Q Q' R q k =>
 h.sd C H B σ δ n _ _ R q λb H1 n1 R1 k1 q1=>by
  cases b with
  |true =>
   rw[if_pos rfl]at q1 ⊢;exact k true H1 n1 R1 k1 q1
  |false =>
   rw[if_neg Af]at q1 ⊢;exact h2.sd C H1 B σ δ n1 _ _ R1 q1 λb H2 n2 R2 k2 q2=>k b H2 n2 R2 (k1.trans k2) q2⟩
theorem DCW.cc (h:DCW X a tA cA):DC X a tA cA:=⟨h.pw.pt,h.sd⟩
theorem j0m (h:DC X a tA cA):DC X (.UnaryOp .Not a pos) (tNot tA) (cNot cA):=⟨jwn h.pt,λC H B σ δ n Q Q' R q k=>h.sd C H B σ δ n _ _ R q λb H1 n1 R1 k1 q1=>k (!b) H1 n1 R1 k1 q1⟩
def wAnd (u v:DT):DT:=λδ n Q=>u δ n λx n1=>jg0 x (v δ n1 Q) (Q (.d (.bool false)) n1)
def wOr (u v:DT):DT:=λδ n Q=>u δ n λx n1=>jg0 x (Q (.d (.bool true)) n1) (v δ n1 Q)
def wNot (u:DT):DT:=λδ n Q=>u δ n λx n1=>match x with
 |.d (.bool b)=>Q (.d (.bool !b)) n1
 |_=>False
theorem jz6 {op} (h:DE X a ta wa):DE X (.BoolOp op [a] pos) ta wa:=⟨jwx h.pe,h.sd⟩
theorem j0f (h:DE X a ta wa) (h2:DE X (.BoolOp .And (b::rest) pos) tb wb):DE X (.BoolOp .And (a::b::rest) pos) (jvv ta tb) (wAnd wa wb):=⟨jw1 h.pe h2.pe,λC H B σ δ n Q Q' R q k =>
 h.sd C H B σ δ n _ _ R q λv x H1 n1 R1 k1 r1 q1=>by
  unfold jg0 at q1
  split at q1
  ·cases(show RdX H1 B v (.bool true)from r1);refine⟨true,rfl,?_⟩;rw[if_pos rfl];exact h2.sd C H1 B σ δ n1 _ _ R1 q1 λv x H2 n2 R2 k2 r2 q2=>k v x H2 n2 R2 (k1.trans k2) r2 q2
  ·cases(show RdX H1 B v (.bool false)from r1);refine⟨false,rfl,?_⟩;rw[if_neg Af];exact k _ _ H1 n1 R1 k1 (wd (.bl false)) q1
  ·exact q1.elim⟩
theorem d_or (h:DE X a ta wa) (h2:DE X (.BoolOp .Or (b::rest) pos) tb wb):DE X (.BoolOp .Or (a::b::rest) pos) (tOrV ta tb) (wOr wa wb):=⟨jze h.pe h2.pe,λC H B σ δ n Q Q' R q k =>
 h.sd C H B σ δ n _ _ R q λv x H1 n1 R1 k1 r1 q1=>by
  unfold jg0 at q1
  split at q1
  ·cases(show RdX H1 B v (.bool true)from r1);refine⟨true,rfl,?_⟩;rw[if_pos rfl];exact k _ _ H1 n1 R1 k1 (wd (.bl true)) q1
  ·cases(show RdX H1 B v (.bool false)from r1);refine⟨false,rfl,?_⟩;rw[if_neg Af];exact h2.sd C H1 B σ δ n1 _ _ R1 q1 λv x H2 n2 R2 k2 r2 q2=>k v x H2 n2 R2 (k1.trans k2) r2 q2
  ·exact q1.elim⟩
theorem jz7 (h:DE X a ta wa):DE X (.UnaryOp .Not a pos) (jvs ta) (wNot wa):=⟨jwy h.pe,λC H B σ δ n Q Q' R q k =>
 h.sd C H B σ δ n _ _ R q λv x H1 n1 R1 k1 r1 q1=>by
  split at q1
  ·rename_i b;cases(show RdX H1 B v (.bool b)from r1);exact⟨b,rfl,k _ _ H1 n1 R1 k1 (wd (.bl _)) q1⟩
  ·exact q1.elim⟩
def wIf (u:DTT) (v w:DT):DT:=λδ n Q=>u δ n λb n1=>if b=true then v δ n1 Q else w δ n1 Q
theorem ju3 (h:DC X c tA cA) (h1:DE X a ta wa) (h2:DE X b tb wb):DE X (.IfExp c a b pos) (tIf tA ta tb) (wIf cA wa wb):=⟨jrm h.pt h1.pe h2.pe,λC H B σ δ n Q Q' R q k =>
 h.sd C H B σ δ n _ _ R q λb H1 n1 R1 k1 q1=>by
  cases b with
  |true =>
   rw[if_pos rfl]at q1 ⊢;exact h1.sd C H1 B σ δ n1 _ _ R1 q1 λv x H2 n2 R2 k2 r2 q2=>k v x H2 n2 R2 (k1.trans k2) r2 q2
  |false =>
   rw[if_neg Af]at q1 ⊢;exact h2.sd C H1 B σ δ n1 _ _ R1 q1 λv x H2 n2 R2 k2 r2 q2=>k v x H2 n2 R2 (k1.trans k2) r2 q2⟩
variable {es:List Expr} {tR:TA} {wR:DTA}
def aNil:DTA:=λ_ n Q=>Q [] n
def jaa (w:DT) (r:DTA):DTA:=λδ n Q=>w δ n λx n1=>r δ n1 λxs n2=>Q (x::xs) n2
theorem j0q:DA X [] tNil aNil:=⟨jcn,λC H B σ δ n Q Q' R q k=>k [] [] H n R (Kp.refl _ _) .nil q⟩
theorem jyp (h:DE X e te we) (hr:DA X es tR wR) (hs:Ay (e::es) X.env=(false,eval e X.env)::Ay es X.env:=by rfl):DA X (e::es) (jfx te tR) (jaa we wR):=⟨jay h.pe hr.pa hs,λC H B σ δ n Q Q' R q k =>
 h.sd C H B σ δ n _ _ R q λv x H1 n1 R1 k1 r1 q1=>hr.sd C H1 B σ δ n1 _ _ R1 q1 λvs xs H2 n2 R2 k2 r2 q2=>k (v::vs) (x::xs) H2 n2 R2 (k1.trans k2) (.cons (r1.kp k2 R1.bt) r2) q2⟩
def ja3:List Wv->Option (List Aa)
 |[]=>some []
 |.d x::r=>(ja3 r).map (x::·)
 |_::_=>none
theorem ARel.plain {H:Hp} {B:Addr->Prop} {t:Addr}:∀{vs:List V} {xs:List Wv} {ds:List Aa},ARel H B t vs xs->ja3 xs=some ds->RdXs H B vs ds
 |_,_,_,.nil,h=>by
  cases h;exact .nil
 |_,_,ds,.cons (x:=x) (xs:=xs) a b,h=>by
  cases x with
  |d x =>
   have h':(ja3 xs).map (x::·)=some ds:=h;cases e:ja3 xs with
   |none=>rw[e]at h';cases h'
   |some es =>
    rw[e]at h';cases h';exact .cons a (ARel.plain b e)
  |tp=>cases h
  |dk _=>cases h
  |ln _=>cases h
  |ob _=>cases h
theorem RdXs.fresh {H:Hp} {B:Addr->Prop} {vs:List V} {ds:List Aa} {p:Addr} {o:HO} (h:RdXs H B vs ds) (hp:H p=none):RdXs (upd H p o) (λb=>B b\/b=p) vs ds :=
 h.move λb o' e n=>⟨by rw[jai (jag e hp)];exact e,λz=>z.elim n λq=>jag e hp q⟩
def wTup (w:DTA):DT:=λδ n Q=>w δ n λxs n1=>match ja3 xs with
 |some ds=>ds.length<=1000/\Q (.d (.tuple ds)) n1
 |none=>False
theorem jz0 {x1} (h:DA X es tR wR):DE X (.Tuple es x1 pos) (tTup tR) (wTup wR):=⟨jwu h.pa,λC H B σ δ n Q Q' R q k =>
 h.sd C H B σ δ n _ _ R q λvs xs H1 n1 R1 k1 r1 q1=>by
  split at q1
  ·rename_i ds e;have r:=r1.plain e;have hl:vs.length<=An:=by rw[r.len];exact small q1.1
   refine⟨hl,λp hp=>k _ _ _ n1 (R1.new hp) (k1.trans (Kp.new hp)) (wd (show RdX _ B (.ref p) (.tuple ds)from ?_)) q1.2⟩;exact .tup jaj (R1.nb hp) hl ((r.fresh hp).less λb z=>.inl z)
  ·exact q1.elim⟩
def fLst (w:DTA):DTF:=λδ n Q=>w δ n λxs n1=>match ja3 xs with
 |some ds=>ds.length<=1000/\Q ds n1
 |none=>False
theorem jzx (h:DA X es tR wR):DF X (.List es pos) (tLst tR) (fLst wR):=⟨jo4 h.pa,λC H B σ δ n Q Q' R q k =>
 h.sd C H B σ δ n _ _ R q λvs xs H1 n1 R1 k1 r1 q1=>by
  split at q1
  ·rename_i ds e;have r:=r1.plain e;have hl:vs.length<=An:=by rw[r.len];exact small q1.1
   have hn:∀p,H1 p=none->H p=none:=λp hp=>by
    cases q:H p with
    |none=>rfl
    |some o =>
     by_cases z:p=C.t
     ·subst z;obtain⟨_,_,h,_⟩:=R1.tp.ob;rw[h]at hp;cases hp
     ·rw[k1 p o q z]at hp;cases hp
   exact⟨hl,λp hp=>k p vs ds _ n1 (R1.new hp) (k1.trans (Kp.new hp)) (hn p hp) jaj hl (r.fresh hp) q1.2⟩
  ·exact q1.elim⟩
def wOf (w:DTF):DT:=λδ n Q=>w δ n λds n1=>Q (.d (.list ds)) n1
theorem jvy {t:TE} {w:DTF} (h:SndF t w):Snd t (wOf w):=λC H B σ δ n Q Q' R q k =>
 h C H B σ δ n _ _ R q λa xs ds H' n' R' k' h0 h1 h2 h3 q'=>k _ _ H' n' R' k' (wd (show RdX H' B (.ref a) (.list ds)from .lst h1 (R.nb h0) h2 (h3.less λb z=>.inl z))) q'
theorem DF.d {w:DTF} {t:TE} (h:DF X e t w):DE X e t (wOf w):=⟨h.pe,jvy h.sd⟩
theorem Rel.was {C:Ctx} {H H1:Hp} {B:Addr->Prop} {σ:St} {δ:Sl} {n1:Int} (R1:Rel C H1 B σ δ n1) (k1:Kp C.t H H1) {p:Addr} (hp:H1 p=none):H p=none:=by
 cases q:H p with
 |none=>rfl
 |some o =>
  by_cases z:p=C.t
  ·subst z;obtain⟨_,_,h,_⟩:=R1.tp.ob;rw[h]at hp;cases hp
  ·rw[k1 p o q z]at hp;cases hp
abbrev DSp:=List Wv->Int->DQ->Prop
def spOf (S:DSp):Sp:=λvs H Q _=>∃(t:Addr) (l:TL) (ns:List Int) (B:Addr->Prop) (ws:List Wv) (n:Int) (Q0:DQ),Tp H t l ns n/\B t/\(∀b,B b->H b≠none)/\ARel H B t vs ws/\S ws n Q0 /\
 ∀w n',Q0 w n'->∀v H',Tp H' t l ns n'->Kp t H H'->WRel H' B t v w->Q v H'
section
variable {X:Cx} {e:Expr} {es:List Expr} {pos p:Pos} {tR:TA} {wR:DTA}
def jad (S:DSp) (w:DTA):DT:=λδ n Q=>w δ n λxs n1=>S xs n1 Q
theorem jq2 {S:DSp} {t:TA} {w:DTA} (h:SndA t w):Snd (jlw (spOf S) [] E0 t) (jad S w):=λC H B σ δ n Q Q' R q k =>
 h C H B σ δ n _ _ R q λvs xs H1 n1 R1 k1 r1 q1=>by
  refine⟨C.t,C.l,C.ns,B,xs,n1,Q,R1.tp,R1.bt,R1.ba,by rw[Cg];exact r1,q1,λw n' q2 v H' T' k' r'=>?_⟩;exact k v w H' n' (R1.step T' k') (k1.trans k') r' q2
theorem jyd {k:Nat} {f:Addr} {fd:B5} {ps:List Str} {S:DSp} {x:Str} (F:FnOk X.prog X.w X.K X.mg X.base CX0 k f fd ps (spOf S)) (hr:Room k X.A) (hg:Gl X x) (hm:X.mg x=some (.ref f)) (hk:B3 X.K (.ref f)=true) (hb:Binds X.K fd ps [])
  (ha:DA X (e::es) tR wR) (hdb:(x==("__debug__":Str))=false:=by decide) (he:Ay (e::es) X.env=(false,eval e X.env)::Ay es X.env:=by rfl) (hpl:(Di pos (Ay es X.env)).any (·.1)=false:=by rfl) :
  DE X (.Call (.Name x p) (e::es) [] pos) (jlw (spOf S) [] E0 tR) (jad S wR):=⟨jo5 F hr hg hm hk hb .nil jw2 ha.pa hdb he hpl,jq2 ha.sd⟩
def SndB (r:List V->Hp->VK->Prop) (g:List Wv->Int->DQ->Prop):Prop:=∀(C:Ctx) (H:Hp) (B:Addr->Prop) (σ:St) (δ:Sl) (n:Int) (vs:List V) (xs:List Wv) (Q:DQ) (Q':VK),Rel C H B σ δ n->ARel H B C.t vs xs->g xs n Q ->
 (∀v x H' n',Rel C H' B σ δ n'->Kp C.t H H'->WRel H' B C.t v x->Q x n'->Q' v H')->r vs H Q'
def wB (g:List Wv->Int->DQ->Prop) (w:DTA):DT:=λδ n Q=>w δ n λxs n1=>g xs n1 Q
theorem jv3 {r:List V->Hp->VK->Prop} {g:List Wv->Int->DQ->Prop} {t:TA} {w:DTA} (hr:SndB r g) (h:SndA t w):Snd (tCB r t) (wB g w):=λC H B σ δ n Q Q' R q k =>
 h C H B σ δ n _ _ R q λvs xs H1 n1 R1 k1 r1 q1=>hr C H1 B σ δ n1 vs xs Q Q' R1 r1 q1 λv x H2 n2 R2 k2 r2 q2=>k v x H2 n2 R2 (k1.trans k2) r2 q2
theorem je0 {id:String} {x:Str} {r:List V->Hp->VK->Prop} {g:List Wv->Int->DQ->Prop} (hc:CallR X (.builtin id) r) (hr:SndB r g) (hg:Gl X x) (hm:X.mg x=none) (hv:Bh x=some (.builtin id)) (ha:DA X (e::es) tR wR) (hn:x≠"__name__":=by decide) (hdb:(x==("__debug__":Str))=false:=by decide)
  (he:Ay (e::es) X.env=(false,eval e X.env)::Ay es X.env:=by rfl) (hpl:(Di pos (Ay es X.env)).any (·.1)=false:=by rfl):DE X (.Call (.Name x p) (e::es) [] pos) (tCB r tR) (wB g wR):=⟨jd8 hc hg hm hv ha.pa hn hdb he hpl,jv3 hr ha.sd⟩
theorem jjl {T:String} {x:Str} {r:List V->Hp->VK->Prop} {g:List Wv->Int->DQ->Prop} (hc:CallR X (.type T) r) (hr:SndB r g) (hg:Gl X x) (hm:X.mg x=none) (hv:Bh x=some (.type T)) (ha:DA X (e::es) tR wR) (hn:x≠"__name__":=by decide) (hdb:(x==("__debug__":Str))=false:=by decide)
  (he:Ay (e::es) X.env=(false,eval e X.env)::Ay es X.env:=by rfl) (hpl:(Di pos (Ay es X.env)).any (·.1)=false:=by rfl):DE X (.Call (.Name x p) (e::es) [] pos) (tCB r tR) (wB g wR):=⟨jks hc hg hm hv ha.pa hn hdb he hpl,jv3 hr ha.sd⟩
end
structure DEnds where
 nx:Sl->Int->Prop
 rt:DQ
 bk:Sl->Int->Prop:=λ_ _=>False
 ct:Sl->Int->Prop:=λ_ _=>False
 rn:List Aa->Int->Prop:=λ_ _=>False
abbrev DST:=Sl->Int->DEnds->Prop
structure EndsOk (C:Ctx) (K:DEnds) (D:Ends):Prop where
 nx:∀H B σ δ n,Rel C H B σ δ n->K.nx δ n->D.nx σ H
 rt:∀H B σ δ n v w,Rel C H B σ δ n->WRel H B C.t v w->K.rt w n->D.rt v H
 bk:∀H B σ δ n,Rel C H B σ δ n->K.bk δ n->D.bk σ H
 ct:∀H B σ δ n,Rel C H B σ δ n->K.ct δ n->D.ct σ H
 rn:∀H B σ δ n a xs ds,Rel C H B σ δ n->C.H0 a=none->H a=some (.lst xs)->xs.length<=An->RdXs H (λb=>B b\/b=a) xs ds->K.rn ds n->D.rt (.ref a) H
def SndS (T:TS) (W:DST):Prop:=∀(C:Ctx) (H:Hp) (B:Addr->Prop) (σ:St) (δ:Sl) (n:Int) (K:DEnds) (D:Ends),Rel C H B σ δ n->W δ n K->EndsOk C K D->T D σ H
structure DS (X:Cx) (st:Stmt) (T:TS) (W:DST):Prop where
 ps:PS X st T
 sd:SndS T W
structure DSs (X:Cx) (st:List Stmt) (T:TS) (W:DST):Prop where
 ps:PSs X st T
 sd:SndS T W
section
variable {X:Cx} {st:Stmt} {rest:List Stmt} {T U:TS} {W V':DST} {e:Expr} {te:TE} {we:DT} {pos:Pos}
def jah:DST:=λδ n K=>K.nx δ n
def sSeq (W V:DST):DST:=λδ n K=>W δ n {K with nx:=λδ n=>V δ n K}
theorem jy7:DSs X [] jvu jah:=⟨ji1,λC H B σ δ n K D R h E=>E.nx H B σ δ n R h⟩
theorem jv9 (h:DS X st T W) (h2:DSs X rest U V'):DSs X (st::rest) (tSeq T U) (sSeq W V'):=⟨jbd h.ps h2.ps,λC H B σ δ n K D R q E =>
 h.sd C H B σ δ n _ _ R q ⟨λH B σ δ n R q=>h2.sd C H B σ δ n K D R q E,E.rt,E.bk,E.ct,E.rn⟩⟩
theorem jy6 (h:DS X st T W):DSs X [st] T W:=⟨jet h.ps,h.sd⟩
def sRet (w:DT):DST:=λδ n K=>w δ n K.rt
theorem jy3 (h:DE X e te we):DS X (.Return (some e) pos) (tRet te) (sRet we):=⟨jkq h.pe,λC H B σ δ n K D R q E =>
 h.sd C H B σ δ n _ _ R q λv x H' n' R' _ r' q'=>E.rt H' B σ δ n' v x R' r' q'⟩
def sIf (c:DTT) (W V:DST):DST:=λδ n K=>c δ n λb n1=>if b=true then W δ n1 K else V δ n1 K
theorem s_if {c:Expr} {a b:List Stmt} {tc:TT} {cc:DTT} (hc:DC X c tc cc) (ha:DSs X a T W) (hb:DSs X b U V'):DS X (.If c a b pos) (tIfS tc T U) (sIf cc W V'):=⟨jri hc.pt ha.ps hb.ps,λC H B σ δ n K D R q E =>
 hc.sd C H B σ δ n _ _ R q λb H1 n1 R1 _ q1=>by
  cases b with
  |true =>
   rw[if_pos rfl]at q1 ⊢;exact ha.sd C H1 B σ δ n1 K D R1 q1 E
  |false =>
   rw[if_neg Af]at q1 ⊢;exact hb.sd C H1 B σ δ n1 K D R1 q1 E⟩
def sSet (i:Nat) (w:DT):DST:=λδ n K=>w δ n λx n1=>match x with
 |.d d=>K.nx (δ.set i (some (.w (.d d)))) n1
 |.tp=>K.nx (δ.set i (some (.w .tp))) n1
 |.dk _=>False
 |.ln _=>False
 |.ob o=>K.nx (δ.set i (some (.w (.ob o)))) n1
theorem jy2 {i:Nat} {x:Str} {pos':Pos} (hN:X.N.Nodup) (hi:X.N[i]?=some x) (hx:Loc X.env.scope x) (he:DE X e te we) (hs:Dt e (some (.Name x pos')) pos.line X.env=pure false:=by rfl) (hf:X.fn x=true\/X.env.scope.names.lookup x=some .local:=by first | exact .inl rfl | exact .inr rfl | assumption) :
  DS X (.Assign [.Name x pos'] e pos) (tAsg te (jey i)) (sSet i we):=⟨jd7 hN hi hx he.pe hs hf,λC H B σ δ n K D R q E =>
 he.sd C H B σ δ n _ _ R q λv x H1 n1 R1 _ r1 q1=>by
  cases x with
  |d d=>exact E.nx _ _ _ _ _ (R1.set r1 rfl) q1
  |tp=>exact E.nx _ _ _ _ _ (R1.set r1 rfl) q1
  |dk _=>exact q1.elim
  |ln _=>exact q1.elim
  |ob o=>exact E.nx _ _ _ _ _ (R1.set r1 rfl) q1⟩
def sOwn (i:Nat) (w:DTF):DST:=λδ n K=>w δ n λds n1=>K.nx (δ.set i (some (.own ds))) n1
theorem Rel.h0 {C:Ctx} {H:Hp} {B:Addr->Prop} {σ:St} {δ:Sl} {n:Int} {a:Addr} (R:Rel C H B σ δ n) (h:H a=none):C.H0 a=none:=R.was R.kp h
theorem jy5 {i:Nat} {x:Str} {pos':Pos} {w:DTF} (hN:X.N.Nodup) (hi:X.N[i]?=some x) (hx:Loc X.env.scope x) (he:DF X e te w) (hs:Dt e (some (.Name x pos')) pos.line X.env=pure false:=by rfl) (hf:X.fn x=true\/X.env.scope.names.lookup x=some .local:=by first | exact .inl rfl | exact .inr rfl | assumption) :
  DS X (.Assign [.Name x pos'] e pos) (tAsg te (jey i)) (sOwn i w):=⟨jd7 hN hi hx he.pe hs hf,λC H B σ δ n K D R q E =>
 he.sd C H B σ δ n _ _ R q λa xs ds H1 n1 R1 k1 h0 h1 h2 h3 q1=>by
  refine E.nx _ _ _ _ _ (R.own R1 k1 h0 (by rw[h1];exact λz=>nomatch z) rfl ?_) q1;exact⟨a,xs,rfl,h1,.inr rfl,R.h0 h0,h2,h3⟩⟩
def sFrz (i:Nat) (W:DST):DST:=λδ n K=>match δ[i]? with
 |some (some (.own ds))=>W (δ.set i (some (.w (.d (.list ds))))) n K
 |some (some (.odk m))=>W (δ.set i (some (.w (.ob (.k m))))) n K
 |_=>W δ n K
theorem jy8 (i:Nat) {sts:List Stmt} (h:DSs X sts T W):DSs X sts T (sFrz i W):=⟨h.ps,λC H B σ δ n K D R q E=>by
 unfold sFrz at q
 split at q
 ·rename_i ds e;obtain⟨B',R'⟩:=R.frz e;exact h.sd C H B' σ _ n K D R' q E
 ·rename_i m e;obtain⟨B',R'⟩:=R.frzK e;exact h.sd C H B' σ _ n K D R' q E
 ·exact h.sd C H B σ δ n K D R q E⟩
def sApp (i:Nat) (w:DT):DST:=λδ n K=>match δ[i]? with
 |some (some (.own ds))=>w δ n λx n1=>match x with
  |.d d=>ds.length < 1000000/\K.nx (δ.set i (some (.own (ds++[d])))) n1
  |_=>False
 |_=>False
theorem jpm {n:Nat} (h:n < 1000000):n < An:=Nat.lt_trans h (by decide)
theorem jza {i:Nat} {x:Str} {xp ap cp:Pos} (hN:X.N[i]?=some x) (he:DE X e te we) (hv:Vis X.env.scope x:=by first | exact Cq rfl | exact By (Cq rfl) | exact By (By rfl)) (hd:(x==("__debug__":Str))=false:=by decide)
  (hcd:(x==("__classdict__":Str))=false:=by decide)
  (hbase:attributeBase (.Name x xp) "append" X.env (eval (.Name x xp) X.env)=eval (.Name x xp) X.env:=by rfl)
  (hfew:((Di cp (Ay [e] X.env)).all (λx=>!x.1)&&(backToKw cp (keywordEach [] X.env)).all (λx=>x.1.isSome)
   && decide ([e].length+([]:List Keyword).length+(if ([]:List Keyword).isEmpty then 0 else 1) < 30))=true:=by rfl)
  (hline:(ap.endLine==cp.line)=true:=by rfl) (hs:Ay [e] X.env=[(false,eval e X.env)]:=by rfl) (hplain:(Di cp (Ay [] X.env)).any (·.1)=false:=by rfl)
  (hsw:Dt (.Call (.Attribute (.Name x xp) "append" ap) [e] [] cp) none pos.line X.env=pure false:=by rfl) :
  DS X (.Expr (.Call (.Attribute (.Name x xp) "append" ap) [e] [] cp) pos) (jto (tBM X.K "list" jox (tVar i) (jfx te tNil))) (sApp i we) :=
 ⟨joz (jw0 D5 PySem.F.slot_list_append PySem.F.type_list_append jgh (jfd hN hv hd hcd) (jay he.pe jcn hs) hbase hfew hline hs hplain) hsw,λC H B σ δ n K D R q E=>by
  unfold sApp at q
  split at q
  ·rename_i ds ei;obtain⟨v,hv,a,xs,rfl,e2,e3,e4,e5,e6⟩:=R.sl i _ ei;refine⟨_,hv,.inl ⟨rfl,_,SqL.of e2⟩,he.sd C H B σ δ n _ _ R q λu y H1 n1 R1 k1 r1 q1=>?_⟩;cases y with
   |d d =>
    have hat:a≠C.t:=λz=>R.t0 (z▸e4);have e2':=k1 _ _ e2 hat;refine⟨a,xs,u,rfl,rfl,e2',jpm (by rw[e6.len];exact q1.1),?_⟩;refine E.nx _ _ _ _ _ (R1.mutOwn ei rfl hv e3 e4 ?_ rfl) q1.2;refine⟨a,xs++[u],rfl,jaj,e3,e4,?_,?_⟩
    ·rw[Al,e6.len];exact jpm q1.1
    ·refine RdXs.keep (λb o e n=>?_) ((e6.kp k1 R.bt).append (.cons r1 .nil));rw[jai λ(z:b=a)=>n (z▸e3)];exact e
   |tp=>exact q1.elim
   |dk _=>exact q1.elim
   |ln _=>exact q1.elim
   |ob _=>exact q1.elim
  ·exact q.elim⟩
end
def jal (N:List Str) (ws:List Wv):Sl:=ws.map (λx=>some (.w x))++Ap (N.length - ws.length) none
theorem ARel.get {H:Hp} {B:Addr->Prop} {t:Addr}:∀{vs:List V} {xs:List Wv} {i:Nat} {x:Wv},ARel H B t vs xs->xs[i]?=some x->∃v,vs[i]?=some v/\WRel H B t v x
 |_,_,_,_,.nil,e=>by simp at e
 |_,_,0,_,.cons h _,e=>by
  simp at e;subst e;exact⟨_,rfl,h⟩
 |_,_,i+1,x,.cons _ r,e=>by
  obtain⟨v,h1,h2⟩:=ARel.get (i:=i) (x:=x) r (by simpa using e);exact⟨v,by simpa using h1,h2⟩
theorem jos {H:Hp} {t:Addr} {l:TL} {ns:List Int} {B:Addr->Prop} {vs:List V} {ws:List Wv} {n:Int} {N:List Str} (T:Tp H t l ns n) (bt:B t) (ba:∀b,B b->H b≠none) (r:ARel H B t vs ws):Rel ⟨t,l,ns,H,B,λ_=>none⟩ H B (L2.start N vs) (jal N ws) n where
 tp:=T
 kp:=Kp.refl _ _
 t0:=by
  obtain⟨_,_,h,_⟩:=T.ob;show H t≠none;rw[h];exact λz=>nomatch z
 l0:=by
  show H l.s≠none;rw[T.ls];exact λz=>nomatch z
 g0:=λe=>by
  show H l.g≠none;rw[T.ag e];exact λz=>nomatch z
 fz:=λb o e=>nomatch e
 bt:=bt
 b0:=λ_ z=>z
 ba:=ba
 a0:=ba
 sl:=λi x e=>by
  have hl:=r.len;unfold jal at e;rw[List.getElem?_append]at e
  split at e
  ·rename_i hi;rw[Ag]at hi;rw[Bb]at e;cases q:ws[i]? with
   |none=>rw[q]at e;cases e
   |some y =>
    rw[q]at e;cases e;obtain⟨v,h1,h2⟩:=r.get q;refine⟨v,?_,h2,λz=>?_⟩
    ·unfold L2.start;rw[D4 (by rw[Ag,hl];exact hi),Bb,h1];rfl
    ·cases y with
     |d _=>cases z
     |tp=>cases z
     |dk _ =>
      obtain⟨a,l',f1,f2,_⟩:=h2;exact⟨a,f1,by show H a≠none;rw[f2];exact λz=>nomatch z⟩
     |ln _ =>
      obtain⟨a,l',f1,f2,_⟩:=h2;exact⟨a,f1,by show H a≠none;rw[f2];exact λz=>nomatch z⟩
     |ob _=>cases z
  ·rw[C1]at e
   split at e
   ·cases e
   ·cases e
 ow:=λi j x y v e1 e2 o1 o2 _ _=>by
  unfold jal at e1;rw[List.getElem?_append]at e1
  split at e1
  ·rw[Bb]at e1;cases q:ws[i]? with
   |none=>rw[q]at e1;cases e1
   |some y =>
    rw[q]at e1;cases e1;cases o1
  ·rw[C1]at e1
   split at e1
   ·cases e1
   ·cases e1
 len:=by
  unfold L2.start jal;rw[Al,Al,Ag,Ag,List.length_replicate,List.length_replicate,r.len]
section
variable {P:Bi} {w:Bz} {K:Ab} {mg:Str->Option Ae} {base:Heap}
theorem Fun.okD {x qual:Str} {st:Stmt} {f:Addr} {fd:B5} {N ps:List Str} {k:Nat} {S:DSp} (F:Fun K x qual st f fd) (Sc:FnScope N ps (jam st)) (len:∀ws n Q,S ws n Q->ws.length=ps.length)
  (hbody:∀(cdv:Ae) (A:Ce) (outer:List Env) (s:Ah) (H:Hp) (E:XK),Room k (A.deeper (Dd qual (jam st) s.heap.objs.size f cdv)) ->
   ∃T W,DSs (cxOf CX0 P w K mg base N qual (jam st) f cdv A outer s H E).nox (jbm st) T W/\∀ws n Q,S ws n Q->W (jal N ws) n {nx:=λ_ n=>Q (.d .none) n,rt:=Q}):FnOk P w K mg base CX0 (k+1) f fd ps (spOf S):=by
 refine F.ok Sc (λvs H Q E h=>?_) (λcdv A outer s H vs Q E hr h=>?_)
 ·obtain⟨t,l,ns,B,ws,n,Q0,_,_,_,r,q,_⟩:=h;rw[r.len];exact len ws n Q0 q
 ·obtain⟨t,l,ns,B,ws,n,Q0,T,bt,ba,r,q,kk⟩:=h;obtain⟨T',W,d,hw⟩:=hbody cdv A outer s H E hr;refine⟨T',d.ps,d.sd ⟨t,l,ns,H,B,λ_=>none⟩ H B _ _ n _ _ (jos T bt ba r) (hw ws n Q0 q) ⟨?_,?_,?_,?_,λ_ _ _ _ _ _ _ _ _ _ _ _ _ z=>z.elim⟩⟩
  ·exact λH' B' σ δ n' R' q'=>kk _ _ q' .non H' R'.tp R'.kp (show RdX H' B .non .none from .non)
  ·exact λH' B' σ δ n' v x R' r' q'=>kk _ _ q' v H' R'.tp R'.kp (r'.less R'.b0)
  ·exact λ_ _ _ _ _ _ z=>z.elim
  ·exact λ_ _ _ _ _ _ z=>z.elim
end
section
variable {X:Cx} {a b c e:Expr} {ta tb tc te:TE} {wa wb wc we:DT} {pos p:Pos}
def gI (Cd:Int->Int->Prop) (f:Int->Int->Aa):Wv->Wv->Int->DQ->Prop:=λx y n Q=>match x,y with
 |.d (.int i),.d (.int j)=>Cd i j/\Q (.d (f i j)) n
 |_,_=>False
theorem jvx {Cd:Int->Int->Prop} {g:Int->Int->V} {f:Int->Int->Aa} (h:∀i j H B,RdX H B (g i j) (f i j)):SndO (rI Cd g) (gI Cd f):=λC H B σ δ n x y p q Q Q' R rx ry h1 k=>by
 unfold gI at h1
 split at h1
 ·rename_i i j;cases(show RdX H B x (.int i)from rx);cases(show RdX H B y (.int j)from ry);exact⟨i,j,rfl,rfl,h1.1,k _ _ H n R (Kp.refl _ _) (wd (h i j H B)) h1.2⟩
 ·exact h1.elim
def gI0 (f:Int->Int->Aa):Wv->Wv->Int->DQ->Prop:=λx y n Q=>match x,y with
 |.d (.int i),.d (.int j)=>Q (.d (f i j)) n
 |_,_=>False
theorem joh {g:Int->Int->V} {f:Int->Int->Aa} (h:∀i j H B,RdX H B (g i j) (f i j)):SndO (rI0 g) (gI0 f):=λC H B σ δ n x y p q Q Q' R rx ry h1 k=>by
 unfold gI0 at h1
 split at h1
 ·rename_i i j;cases(show RdX H B x (.int i)from rx);cases(show RdX H B y (.int j)from ry);exact⟨i,j,rfl,rfl,k _ _ H n R (Kp.refl _ _) (wd (h i j H B)) h1⟩
 ·exact h1.elim
theorem jz2 (ha:DE X a ta wa) (hb:DE X b tb wb):DE X (.BinOp a .Sub b pos) (tOp (rI0 λi j=>.int (i - j)) ta tb) (w2 wa wb (gI0 λi j=>.int (i - j))):=d_op jw4 (joh λ_ _ _ _=>.int _) ha hb
theorem jz5 (ha:DE X a ta wa) (hb:DE X b tb wb):DE X (.BinOp a .Pow b pos) (tOp (rI CPow λi j=>.int (i ^ j.toNat)) ta tb) (w2 wa wb (gI CPow λi j=>.int (i ^ j.toNat))):=d_op js9 (jvx λ_ _ _ _=>.int _) ha hb
def wNeg (w:DT):DT:=λδ n Q=>w δ n λx n1=>match x with
 |.d (.int i)=>Q (.d (.int (-i))) n1
 |_=>False
theorem jz9 (ha:DE X a ta wa):DE X (.UnaryOp .USub a pos) (tUn (rU λi=>.int (-i)) ta) (wNeg wa):=⟨jwt jsy ha.pe,λC H B σ δ n Q Q' R q k=>ha.sd C H B σ δ n _ _ R q λv x H1 n1 R1 k1 r1 q1=>by
 split at q1
 ·rename_i i;cases(show RdX H1 B v (.int i)from r1);exact⟨i,rfl,k _ _ H1 n1 R1 k1 (wd (.int _)) q1⟩
 ·exact q1.elim⟩
def gAdd:Wv->Wv->Int->DQ->Prop:=λx y n Q=>match x,y with
 |.d (.int i),.d (.int j)=>Q (.d (.int (i+j))) n
 |.d (.str i),.d (.str j)=>i.length+j.length<=An/\Q (.d (.str (i++j))) n
 |.d (.tuple i),.d (.tuple j)=>(i≠[]\/j≠[])/\i.length+j.length<=An/\Q (.d (.tuple (i++j))) n
 |.d (.list i),.d (.list j)=>i.length+j.length<=An/\Q (.d (.list (i++j))) n
 |_,_=>False
def jre (K:Ab):R2:=λx y H Q=>(rI0 λi j=>.int (i+j)) x y H Q\/(∃i j,x=.str i/\y=.str j/\i.length+j.length<=An/\Q (.str (i++j)) H)\/jwk K x y H Q\/jwj K x y H Q\/rCat x y H Q
theorem op_addA:OpR X (Cz .Add) (jre X.K) :=
 op_add.or (op_add_str.or (op_catA.or (op_catT.or jtb)))
theorem jlx (i j:Str):(i++j).length=i.length+j.length:=Array.size_append
theorem jq4 {K:Ab}:SndO (jre K) gAdd:=λC H B σ δ n x y p q Q Q' R rx ry h1 k=>by
 unfold gAdd at h1
 split at h1
 ·rename_i i j;cases(show RdX H B x (.int i)from rx);cases(show RdX H B y (.int j)from ry);exact .inl ⟨i,j,rfl,rfl,k _ _ H n R (Kp.refl _ _) (wd (.int _)) h1⟩
 ·rename_i i j;cases(show RdX H B x (.str i)from rx);cases(show RdX H B y (.str j)from ry);exact .inr (.inl ⟨i,j,rfl,rfl,h1.1,k _ _ H n R (Kp.refl _ _) (wd (show RdX H B _ (.str (i++j))from .str _ (by rw[jlx];exact h1.1))) h1.2⟩)
 ·rename_i i j;cases(show RdX H B x (.tuple i)from rx)with
  |@tup ax xs _ e1 e2 e3 e4 =>
   cases(show RdX H B y (.tuple j)from ry)with
   |@tup ay ys _ f1 f2 f3 f4 =>
    obtain⟨ne,hl,q⟩:=h1;have hl':xs.length+ys.length<=An:=by rw[e4.len,f4.len];exact hl
    have new:∀pn,H pn=none->Q' (.ref pn) (upd H pn (.tup (xs++ys))):=λpn hp=>by
     refine k _ _ _ n (R.new hp) (Kp.new hp) (wd (show RdX _ B _ (.tuple (i++j))from .tup jaj (R.nb hp) (by rw[Al];exact hl') ?_)) q;exact((e4.append f4).fresh hp).less λb z=>.inl z
    by_cases hy:ys=[]
    ·have hx:xs≠[]:=λz=>by
      subst hy z;cases e4;cases f4;exact ne.elim (λq=>q rfl) λq=>q rfl
     refine .inr (.inr (.inr (.inl ⟨ax,ay,xs,ys,rfl,rfl,SqT.of e1,SqT.of f1,hx,hl',λ_=>?_,λ_=>new⟩)));subst hy;cases f4;rw[Cg]at q;exact k _ _ H n R (Kp.refl _ _) (wd (show RdX H B _ (.tuple i)from .tup e1 e2 e3 e4)) q
    ·refine .inr (.inr (.inl ⟨ax,ay,xs,ys,rfl,rfl,SqT.of e1,SqT.of f1,hy,hl',λz=>?_,λ_=>new⟩));subst z;cases e4;exact k _ _ H n R (Kp.refl _ _) (wd (show RdX H B _ (.tuple j)from .tup f1 f2 f3 f4)) q
 ·rename_i i j;cases(show RdX H B x (.list i)from rx)with
  |@lst ax xs _ e1 e2 e3 e4 =>
   cases(show RdX H B y (.list j)from ry)with
   |@lst ay ys _ f1 f2 f3 f4 =>
    obtain⟨hl,q⟩:=h1;have hl':xs.length+ys.length<=An:=by rw[e4.len,f4.len];exact hl
    refine .inr (.inr (.inr (.inr ⟨ax,ay,xs,ys,rfl,rfl,e1,f1,hl',λpn hp=>?_⟩)));refine k _ _ _ n (R.new hp) (Kp.new hp) (wd (show RdX _ B _ (.list (i++j))from .lst jaj (R.nb hp) (by rw[Al];exact hl') ?_)) q;exact((e4.append f4).fresh hp).less λb z=>.inl z
 ·exact h1.elim
def gCmp (f:Int->Int->Bool) (h:List Nat->List Nat->Bool):Wv->Wv->Int->DQ->Prop:=λx y n Q=>match x,y with
 |.d (.int i),.d (.int j)=>Q (.d (.bool (f i j))) n
 |.d (.str i),.d (.str j)=>Q (.d (.bool (h i.cps.toList j.cps.toList))) n
 |_,_=>False
theorem jiz {f:Int->Int->Bool} {h:List Nat->List Nat->Bool}:SndO (λx y H Q=>(rI0 λi j=>.bl (f i j)) x y H Q\/∃i j,x=.str i/\y=.str j/\Q (.bl (h i.cps.toList j.cps.toList)) H) (gCmp f h):=λC H B σ δ n x y p q Q Q' R rx ry h1 k=>by
 unfold gCmp at h1
 split at h1
 ·rename_i i j;cases(show RdX H B x (.int i)from rx);cases(show RdX H B y (.int j)from ry);exact .inl ⟨i,j,rfl,rfl,k _ _ H n R (Kp.refl _ _) (wd (.bl _)) h1⟩
 ·rename_i i j;cases(show RdX H B x (.str i)from rx);cases(show RdX H B y (.str j)from ry);exact .inr ⟨i,j,rfl,rfl,k _ _ H n R (Kp.refl _ _) (wd (.bl _)) h1⟩
 ·exact h1.elim
theorem jpg:OpR X (A2 .GtE) (λx y H Q=>∃i j,x=.str i/\y=.str j/\Q (.bl (!decide (i.cps.toList < j.cps.toList))) H):=by
 intro pins s σ H x y v u Q I rx ry h;obtain⟨i,j,rfl,rfl,q⟩:=h;obtain⟨t,rfl⟩:=rx;obtain⟨t',rfl⟩:=ry;exact P.ge_str (jat I q rfl)
abbrev gLt:=gCmp (λi j=>decide (i < j)) (λi j=>decide (i < j))
abbrev gLe:=gCmp (λi j=>decide (i<=j)) (λi j=>!decide (j < i))
abbrev gGt:=gCmp (λi j=>decide (j < i)) (λi j=>decide (j < i))
abbrev gGe:=gCmp (λi j=>decide (j<=i)) (λi j=>!decide (i < j))
def rLtA:R2:=λx y H Q=>(rI0 λi j=>.bl (decide (i < j))) x y H Q\/∃i j,x=.str i/\y=.str j/\Q (.bl (decide (i.cps.toList < j.cps.toList))) H
theorem jw6:OpR X (A2 .Lt) rLtA:=op_lt.or jpb
def rLeA:R2:=λx y H Q=>(rI0 λi j=>.bl (decide (i<=j))) x y H Q\/∃i j,x=.str i/\y=.str j/\Q (.bl (!decide (j.cps.toList < i.cps.toList))) H
theorem jkv:OpR X (A2 .LtE) rLeA:=op_le.or jpc
def rGtA:R2:=λx y H Q=>(rI0 λi j=>.bl (decide (j < i))) x y H Q\/∃i j,x=.str i/\y=.str j/\Q (.bl (decide (j.cps.toList < i.cps.toList))) H
theorem jta:OpR X (A2 .Gt) rGtA:=op_gt.or jpf
def rGeA:R2:=λx y H Q=>(rI0 λi j=>.bl (decide (j<=i))) x y H Q\/∃i j,x=.str i/\y=.str j/\Q (.bl (!decide (i.cps.toList < j.cps.toList))) H
theorem jxa:OpR X (A2 .GtE) rGeA:=op_ge.or jpg
theorem jv0:SndO rLtA gLt:=jiz (f:=λi j=>decide (i < j)) (h:=λi j=>decide (i < j))
theorem jkk:SndO rLeA gLe:=jiz (f:=λi j=>decide (i<=j)) (h:=λi j=>!decide (j < i))
theorem js3:SndO rGtA gGt:=jiz (f:=λi j=>decide (j < i)) (h:=λi j=>decide (j < i))
theorem jv1:SndO rGeA gGe:=jiz (f:=λi j=>decide (j<=i)) (h:=λi j=>!decide (i < j))
def eqD:Aa->Aa->Option Bool
 |.none,.none=>some true
 |.none,.int _=>some false
 |.int _,.none=>some false
 |.none,.bool _=>some false
 |.bool _,.none=>some false
 |.none,.str _=>some false
 |.str _,.none=>some false
 |.int i,.int j=>some (decide (i=j))
 |.bool i,.bool j=>some (decide (i=j))
 |.str i,.str j=>some (decide (i=j))
 |.int _,.str _=>some false
 |.str _,.int _=>some false
 |.bool _,.str _=>some false
 |.str _,.bool _=>some false
 |.list _,.str _=>some false
 |.tuple _,.str _=>some false
 |.dict _,.str _=>some false
 |.list xs,.list []=>some xs.isEmpty
 |_,_=>none
def jrd:R2:=λx y H Q=>∃d h B,RdX H B x d/\y=.str h/\Q (.bl (jab h d)) H
theorem jjk (x y:Str):decide (V.str x=V.str y)=decide (x=y):=by
 by_cases z:x=y
 ·rw[z,decide_eq_true rfl,decide_eq_true rfl]
 ·rw[decide_eq_false z,decide_eq_false λw=>z (V.str.inj w)]
theorem jm2 (x y:Int):decide (V.int x=V.int y)=decide (x=y):=by
 by_cases z:x=y
 ·rw[z,decide_eq_true rfl,decide_eq_true rfl]
 ·rw[decide_eq_false z,decide_eq_false λw=>z (V.int.inj w)]
theorem jqa (x y:Bool):decide (V.bl x=V.bl y)=decide (x=y):=by
 by_cases z:x=y
 ·rw[z,decide_eq_true rfl,decide_eq_true rfl]
 ·rw[decide_eq_false z,decide_eq_false λw=>z (V.bl.inj w)]
theorem jul (hu:X.A.units < cLine):OpR X (A2 .Eq) jrd:=by
 intro pins s σ H x y v u Q I rx ry h;obtain⟨d,hh,B,hd,rfl,q⟩:=h;cases hd with
 |non=>exact op_eq pins s σ H _ _ v u Q I rx ry ⟨rfl,q⟩
 |bl b=>exact op_eq pins s σ H _ _ v u Q I rx ry ⟨rfl,q⟩
 |int i=>exact op_eq pins s σ H _ _ v u Q I rx ry ⟨rfl,q⟩
 |str x hx =>
  refine op_eq pins s σ H _ _ v u Q I rx ry ⟨rfl,?_⟩;rw[jjk];exact q
 |@lst a xs ds h1 h2 h3 h4 =>
  cases(show v=Bx a from rx);obtain⟨t,rfl⟩:=(show ∃t,u=Value.str hh t from ry);obtain⟨its,_,p,_⟩:=I.list (SqL.of (K:=X.K) h1);exact PySem.SeqAt.RcAt.list_str hh t p.isList hu _ _ _ _ ⟨.bl false,H,I,rfl,q⟩
 |@tup a xs ds h1 h2 h3 h4 =>
  cases(show v=Bx a from rx);obtain⟨t,rfl⟩:=(show ∃t,u=Value.str hh t from ry);obtain⟨its,_,p,_⟩:=I.tuple (SqT.of (K:=X.K) h1);exact PySem.SeqAt.RcAt.tuple_str hh t (show s.heap.IsTuple a its.toArray from p) hu _ _ _ _ ⟨.bl false,H,I,rfl,q⟩
def gEq:Wv->Wv->Int->DQ->Prop:=λx y n Q=>match x,y with
 |.d a,.d b=>match eqD a b with
  |some r=>Q (.d (.bool r)) n
  |none=>False
 |_,_=>False
theorem jxb (hu:X.A.units < cLine):OpR X (A2 .Eq) (λx y H Q=>rEq x y H Q\/jrd x y H Q\/jmq X.K x y H Q):=op_eq.or ((jul hu).or (jrq hu))
theorem jv2 {K:Ab}:SndO (λx y H Q=>rEq x y H Q\/jrd x y H Q\/jmq K x y H Q) gEq:=λC H B σ δ n x y p q Q Q' R rx ry h1 k=>by
 unfold gEq at h1
 split at h1
 ·rename_i da db;have rx:RdX H B x da:=rx;have ry:RdX H B y db:=ry;have fin:∀r:Bool,Q (.d (.bool r)) n->Q' (.bl r) H:=λr q=>k _ _ H n R (Kp.refl _ _) (wd (.bl r)) q
  split at h1
  ·rename_i r er;have h1:=fin r h1;cases rx with
   |non=>cases ry<;>first | (cases er;done) | (cases er;exact .inl ⟨rfl,h1⟩)
   |bl i=>cases ry<;>first | (cases er;done) | (cases er;exact .inl ⟨rfl,by first | exact h1 | (rw[jqa];exact h1)⟩)
   |int i=>cases ry<;>first | (cases er;done) | (cases er;exact .inl ⟨rfl,by first | exact h1 | (rw[jm2];exact h1)⟩)
   |str i hi=>cases ry<;>first | (cases er;done) | (cases er;exact .inl ⟨rfl,by first | exact h1 | (rw[jjk];exact h1)⟩)
   |@lst ax xs ds e1 e2 e3 e4 =>
    cases ry with
    |str j hj=>cases er;exact .inr (.inl ⟨_,j,B,.lst e1 e2 e3 e4,rfl,h1⟩)
    |@lst ay ys es f1 f2 f3 f4 =>
     cases f4 with
     |nil =>
      have er:some ds.isEmpty=some r:=er;cases er;refine .inr (.inr ⟨ax,ay,xs,rfl,rfl,SqL.of e1,SqL.of f1,?_⟩);have:xs.isEmpty=ds.isEmpty:=by cases e4<;>rfl
      rw[this];exact h1
     |cons _ _=>cases er
    |_=>cases er
   |@tup ax xs ds e1 e2 e3 e4 =>
    cases ry with
    |str j hj=>cases er;exact .inr (.inl ⟨_,j,B,.tup e1 e2 e3 e4,rfl,h1⟩)
    |_=>cases er
  ·exact h1.elim
 ·exact h1.elim
def neD (a b:Aa):Option Bool:=match a,b with
 |.list _,_=>none
 |.tuple _,_=>none
 |a,b=>(eqD a b).map not
def gNe:Wv->Wv->Int->DQ->Prop:=λx y n Q=>match x,y with
 |.d a,.d b=>match neD a b with
  |some r=>Q (.d (.bool r)) n
  |none=>False
 |_,_=>False
theorem jvz:SndO rNe gNe:=λC H B σ δ n x y p q Q Q' R rx ry h1 k=>by
 unfold gNe at h1
 split at h1
 ·rename_i da db;have rx:RdX H B x da:=rx;have ry:RdX H B y db:=ry;have fin:∀r:Bool,Q (.d (.bool r)) n->Q' (.bl r) H:=λr q=>k _ _ H n R (Kp.refl _ _) (wd (.bl r)) q
  split at h1
  ·rename_i r er;have h1:=fin r h1;cases rx with
   |non=>cases ry<;>first | (cases er;done) | (cases er;exact⟨rfl,h1⟩)
   |bl i=>cases ry<;>first | (cases er;done) | (cases er;exact⟨rfl,by first | exact h1 | (rw[jqa];exact h1)⟩)
   |int i=>cases ry<;>first | (cases er;done) | (cases er;exact⟨rfl,by first | exact h1 | (rw[jm2];exact h1)⟩)
   |str i hi=>cases ry<;>first | (cases er;done) | (cases er;exact⟨rfl,by first | exact h1 | (rw[jjk];exact h1)⟩)
   |lst _ _ _ _=>cases er
   |tup _ _ _ _=>cases er
  ·exact h1.elim
 ·exact h1.elim
def jje:Aa->Bool
 |.none=>true
 |_=>false
def gIsN (neg:Bool):Wv->Wv->Int->DQ->Prop:=λx y n Q=>match x,y with
 |.d a,.d .none=>Q (.d (.bool (if neg then !jje a else jje a))) n
 |_,_=>False
theorem jrt {H:Hp} {B:Addr->Prop} {v:V} {d:Aa} (h:RdX H B v d):decide (v=.non)=jje d:=by cases h<;>rfl
theorem jqz:SndO (λx y H Q=>y=.non/\Q (.bl (!decide (x=.non))) H) (gIsN true):=λC H B σ δ n x y p q Q Q' R rx ry h1 k=>by
 unfold gIsN at h1
 split at h1
 ·rename_i da;cases(show RdX H B y .none from ry);exact⟨rfl,k _ _ H n R (Kp.refl _ _) (wd (show RdX H B _ (.bool (!jje da))from by rw[jrt rx];exact .bl _)) h1⟩
 ·exact h1.elim
def jhx:Aa->Bool
 |.none=>true
 |.bool _=>true
 |.int _=>true
 |.str _=>true
 |_=>false
def eqF:Aa->Aa->Bool
 |.none,.none=>true
 |.bool a,.bool b=>a==b
 |.bool a,.int b=>(if a then 1 else 0)==b
 |.int a,.bool b=>a==(if b then 1 else 0)
 |.int a,.int b=>a==b
 |.str a,.str b=>a==b
 |_,_=>false
def inD (x:Aa) (ds:List Aa):Bool:=ds.any λy=>eqF y x
theorem jji {H:Hp} {B:Addr->Prop} {v:V} {d:Aa} (h:RdX H B v d) (f:jhx d=true):jhw v=true:=by cases h<;>first | rfl | cases f
theorem jf7 {H:Hp} {B:Addr->Prop}:∀{vs:List V} {ds:List Aa},RdXs H B vs ds->ds.all jhx=true->vs.all jhw=true
 |_,_,.nil,_=>rfl
 |_,_,.cons h r,f=>by
  rw[List.all_cons,Av]at f ⊢;exact⟨jji h f.1,jf7 r f.2⟩
theorem jx5 {H:Hp} {B:Addr->Prop} {v u:V} {d e:Aa} (h:RdX H B v d) (h2:RdX H B u e):eqV v u=eqF d e:=by cases h<;>cases h2<;>rfl
theorem jm1 {H:Hp} {B:Addr->Prop} {v:V} {d:Aa} (h:RdX H B v d):∀{vs:List V} {ds:List Aa},RdXs H B vs ds->inV v vs=inD d ds
 |_,_,.nil=>rfl
 |_,_,.cons h1 r=>by
  have:=jm1 h r;unfold inV inD at this ⊢;rw[C9,C9,this,jx5 h1 h]
def gIn (neg:Bool):Wv->Wv->Int->DQ->Prop:=λx y n Q=>match x,y with
 |.d a,.d (.tuple ds)=>jhx a=true/\ds.all jhx=true/\Q (.d (.bool (if neg then !inD a ds else inD a ds))) n
 |.d a,.d (.list ds)=>jhx a=true/\ds.all jhx=true/\Q (.d (.bool (if neg then !inD a ds else inD a ds))) n
 |_,_=>False
theorem jkm {K:Ab} {neg:Bool}:SndO (rIn K neg) (gIn neg):=λC H B σ δ n x y p q Q Q' R rx ry h1 k=>by
 unfold gIn at h1
 split at h1
 ·rename_i da ds;obtain⟨f1,f2,q⟩:=h1;have rx:RdX H B x da:=rx;cases(show RdX H B y (.tuple ds)from ry)with
  |@tup ay ys _ e1 e2 e3 e4 =>
   refine⟨ay,ys,rfl,.inr (SqT.of e1),jji rx f1,jf7 e4 f2,?_⟩;rw[jm1 rx e4];exact k _ _ H n R (Kp.refl _ _) (wd (.bl _)) q
 ·rename_i da ds;obtain⟨f1,f2,q⟩:=h1;have rx:RdX H B x da:=rx;cases(show RdX H B y (.list ds)from ry)with
  |@lst ay ys _ e1 e2 e3 e4 =>
   refine⟨ay,ys,rfl,.inl (SqL.of e1),jji rx f1,jf7 e4 f2,?_⟩;rw[jm1 rx e4];exact k _ _ H n R (Kp.refl _ _) (wd (.bl _)) q
 ·exact h1.elim
def gIx:Wv->Wv->Int->DQ->Prop:=λx y n Q=>match x,y with
 |.d (.list ds),.d (.int i)=>match atI ds i with
  |some d=>Q (.d d) n
  |none=>False
 |.d (.tuple ds),.d (.int i)=>match atI ds i with
  |some d=>Q (.d d) n
  |none=>False
 |.d (.str z),.d (.int i)=>match atI z.cps.toList i with
  |some c=>Q (.d (.str ⟨#[c]⟩)) n
  |none=>False
 |_,_=>False
theorem jqm {H:Hp} {B:Addr->Prop} {vs:List V} {ds:List Aa} {i:Int} {d:Aa} (r:RdXs H B vs ds) (h:atI ds i=some d):∃v,atI vs i=some v/\RdX H B v d:=by
 unfold atI at h ⊢;rw[r.len];cases e:ixN ds.length i with
 |none=>rw[e]at h;cases h
 |some j =>
  rw[e]at h;exact r.getD h
theorem jkl {K:Ab}:SndO (rIx K) gIx:=λC H B σ δ n x y p q Q Q' R rx ry h1 k=>by
 unfold gIx at h1
 split at h1
 ·rename_i ds i
  split at h1
  ·rename_i d e;cases(show RdX H B y (.int i)from ry);cases(show RdX H B x (.list ds)from rx)with
   |@lst ay ys _ e1 e2 e3 e4 =>
    obtain⟨v,f1,f2⟩:=jqm e4 e;exact .inl ⟨ay,ys,i,v,rfl,rfl,SqL.of e1,f1,k _ _ H n R (Kp.refl _ _) (wd f2) h1⟩
  ·exact h1.elim
 ·rename_i ds i
  split at h1
  ·rename_i d e;cases(show RdX H B y (.int i)from ry);cases(show RdX H B x (.tuple ds)from rx)with
   |@tup ay ys _ e1 e2 e3 e4 =>
    obtain⟨v,f1,f2⟩:=jqm e4 e;exact .inr (.inl ⟨ay,ys,i,v,rfl,rfl,SqT.of e1,f1,k _ _ H n R (Kp.refl _ _) (wd f2) h1⟩)
  ·exact h1.elim
 ·rename_i z i
  split at h1
  ·rename_i c e;cases(show RdX H B y (.int i)from ry);cases(show RdX H B x (.str z)from rx)with
   |str _ hz=>exact .inr (.inr ⟨z,i,c,rfl,rfl,hz,e,k _ _ H n R (Kp.refl _ _) (wd (show RdX H B _ (.str ⟨#[c]⟩)from .str _ (by show 1<=An;decide))) h1⟩)
  ·exact h1.elim
 ·exact h1.elim
theorem d_ix (ha:DE X a ta wa) (hb:DE X b tb wb) (hs:jj6 b:=by exact λ_ _=>rfl):DE X (.Subscript a b pos) (tOp (rIx X.K) ta tb) (w2 wa wb gIx):=⟨jfz jps ha.pe hb.pe hs,jkj jkl ha.sd hb.sd⟩
def gLen:List Wv->Int->DQ->Prop:=λxs n Q=>match xs with
 |[.d (.str x)]=>Q (.d (.int x.length)) n
 |[.d (.list ds)]=>Q (.d (.int ds.length)) n
 |[.d (.tuple ds)]=>Q (.d (.int ds.length)) n
 |_=>False
theorem jqh:CallR X (.builtin "len") (λxs H Q=>(∃z,xs=[.str z]/\z.length<=An/\Q (.int z.length) H)\/∃p ys,xs=[.ref p]/\(SqL X.K H p ys\/SqT X.K H p ys)/\Q (.int ys.length) H):=call_len_str.or jb9
theorem jtt {K:Ab}:SndB (λxs H Q=>(∃z,xs=[.str z]/\z.length<=An/\Q (.int z.length) H)\/∃p ys,xs=[.ref p]/\(SqL K H p ys\/SqT K H p ys)/\Q (.int ys.length) H) gLen:=λC H B σ δ n vs xs Q Q' R r h k=>by
 unfold gLen at h
 split at h
 ·rename_i x;cases r with
  |cons r1 r2 =>
   cases r2;cases(show RdX H B _ (.str x)from r1)with
   |str _ hz=>exact .inl ⟨x,rfl,hz,k _ _ H n R (Kp.refl _ _) (wd (.int _)) h⟩
 ·rename_i ds;cases r with
  |cons r1 r2 =>
   cases r2;cases(show RdX H B _ (.list ds)from r1)with
   |@lst ay ys _ e1 e2 e3 e4 =>
    refine .inr ⟨ay,ys,rfl,.inl (SqL.of e1),?_⟩;rw[e4.len];exact k _ _ H n R (Kp.refl _ _) (wd (.int _)) h
 ·rename_i ds;cases r with
  |cons r1 r2 =>
   cases r2;cases(show RdX H B _ (.tuple ds)from r1)with
   |@tup ay ys _ e1 e2 e3 e4 =>
    refine .inr ⟨ay,ys,rfl,.inr (SqT.of e1),?_⟩;rw[e4.len];exact k _ _ H n R (Kp.refl _ _) (wd (.int _)) h
 ·exact h.elim
theorem jvl {K:Ab} {H:Hp} {B:Addr->Prop} {v:V} {d:Aa} (h:RdX H B v d):TyOf K H v (.type (tyD d)):=by
 cases h with
 |non=>exact .non
 |bl b=>exact .bl b
 |int i=>exact .int i
 |str x h=>exact .str x
 |lst h1 h2 h3 h4=>exact .lst h1
 |tup h1 h2 h3 h4=>exact .tup h1
theorem jzm {K:Ab} {H:Hp} {B:Addr->Prop} {v:V} {d:Aa} (h:RdX H B v d) {T:String} (hT:T="int"\/T="bool"\/T="str"\/T="tuple"\/T="list"):PySem.W.kitOne K (.type (tyD d)) (.type T)=some (isiB T d):=by
 cases h<;>rcases hT with rfl | rfl | rfl | rfl | rfl<;>rfl
def wIsi (T:String) (w:DT):DT:=λδ n Q=>w δ n λx n1=>match x with
 |.d d=>Q (.d (.bool (isiB T d))) n1
 |_=>False
theorem j0c {T:String} {x:Str} {p p2:Pos} (hT:T="int"\/T="bool"\/T="str"\/T="tuple"\/T="list") (hg:Gl X "isinstance") (hm:X.mg "isinstance"=none) (hg2:Gl X x) (hm2:X.mg x=none) (hv:Bh x=some (.type T)) (ha:DE X a ta wa) (hn:x≠"__name__":=by decide) (hdb:(x==("__debug__":Str))=false:=by decide)
  (he:Ay [a,.Name x p2] X.env=(false,eval a X.env)::Ay [.Name x p2] X.env:=by rfl) (he2:Ay [.Name x p2] X.env=(false,eval (.Name x p2) X.env)::Ay [] X.env:=by rfl) (hpl:(Di pos (Ay [.Name x p2] X.env)).any (·.1)=false:=by rfl) :
  DE X (.Call (.Name "isinstance" p) [a,.Name x p2] [] pos) (tCB (λxs H Q=>∃x t b,xs=[x,.ty T]/\TyOf X.K H x t/\PySem.W.kitOne X.K t (.type T)=some b/\Q (.bl b) H) (jfx ta (jfx (tC (.ty T)) tNil))) (wIsi T wa) :=
 ⟨jd8 (jsl (T:=T)) hg hm jtk (jay ha.pe (jay (jug (v:=.ty T) hg2 hm2 hv rfl hn hdb) jcn he2) he) (by decide) (by decide) he hpl,λC H B σ δ n Q Q' R q k=>ha.sd C H B σ δ n _ _ R q λv x H1 n1 R1 k1 r1 q1=>by
  cases x with
  |d d=>exact⟨v,_,_,rfl,jvl r1,jzm (show RdX H1 B v d from r1) hT,k _ _ H1 n1 R1 k1 (wd (.bl _)) q1⟩
  |tp=>exact q1.elim
  |dk _=>exact q1.elim
  |ln _=>exact q1.elim
  |ob _=>exact q1.elim⟩
def jzr:List Wv->Int->DQ->Prop:=λxs n Q=>match xs with
 |[.d (.list ds)]=>jyr (.list ds)/\Q (.d (.str (PyData.shown (.list ds)))) n
 |[.d (.tuple ds)]=>jyr (.tuple ds)/\Q (.d (.str (PyData.shown (.tuple ds)))) n
 |_=>False
def jbr:List Aa->Option (List Bool)
 |[]=>some []
 |.bool b::r=>(jbr r).map (b::·)
 |_::_=>none
theorem jjq {H:Hp} {B:Addr->Prop}:∀{vs:List V} {ds:List Aa} {bs:List Bool},RdXs H B vs ds->jbr ds=some bs->vs=bs.map V.bl
 |_,_,bs,.nil,h=>by
  cases h;rfl
 |_,_,bs,.cons (d:=d) (ds:=ds) h1 h2,h=>by
  cases h1 with
  |bl b =>
   have h':(jbr ds).map (b::·)=some bs:=h;cases e:jbr ds with
   |none=>rw[e]at h';cases h'
   |some cs =>
    rw[e]at h';cases h';rw[jjq h2 e];rfl
  |_=>cases h
def gAll:List Wv->Int->DQ->Prop:=λxs n Q=>match xs with
 |[.d (.list ds)]=>match jbr ds with
  |some bs=>Q (.d (.bool (bs.all id))) n
  |none=>False
 |_=>False
theorem jt0:SndB (λxs H Q=>∃(p:Addr) (bs:List Bool),xs=[.ref p]/\H p=some (.lst (bs.map V.bl))/\Q (.bl (bs.all id)) H) gAll:=λC H B σ δ n vs xs Q Q' R r h k=>by
 unfold gAll at h
 split at h
 ·rename_i ds
  split at h
  ·rename_i bs e;cases r with
   |cons r1 r2 =>
    cases r2;cases(show RdX H B _ (.list ds)from r1)with
    |@lst ay ys _ e1 e2 e3 e4 =>
     exact⟨ay,bs,rfl,by rw[<-jjq e4 e];exact e1,k _ _ H n R (Kp.refl _ _) (wd (.bl _)) h⟩
  ·exact h.elim
 ·exact h.elim
def jeg:List Wv->Int->DQ->Prop:=λxs n Q=>match xs with
 |[.d (.list ds)]=>Q (.d (.tuple ds)) n
 |[.d (.tuple ds)]=>Q (.d (.tuple ds)) n
 |_=>False
theorem jof {K:Ab}:SndB (λxs H Q=>∃p ys,xs=[.ref p]/\((SqL K H p ys/\∀l,H l=none->Q (.ref l) (upd H l (.tup ys)))\/(SqT K H p ys/\Q (.ref p) H))) jeg:=λC H B σ δ n vs xs Q Q' R r h k=>by
 unfold jeg at h
 split at h
 ·rename_i ds;cases r with
  |cons r1 r2 =>
   cases r2;cases(show RdX H B _ (.list ds)from r1)with
   |@lst ay ys _ e1 e2 e3 e4 =>
    refine⟨ay,ys,rfl,.inl ⟨SqL.of e1,λl hl=>?_⟩⟩;exact k _ _ _ n (R.new hl) (Kp.new hl) (wd (show RdX _ B _ (.tuple ds)from .tup jaj (R.nb hl) e3 ((e4.fresh hl).less λb z=>.inl z))) h
 ·rename_i ds;cases r with
  |cons r1 r2 =>
   cases r2;cases(show RdX H B _ (.tuple ds)from r1)with
   |@tup ay ys _ e1 e2 e3 e4=>exact⟨ay,ys,rfl,.inr ⟨SqT.of e1,k _ _ H n R (Kp.refl _ _) (wd (show RdX H B _ (.tuple ds)from .tup e1 e2 e3 e4)) h⟩⟩
 ·exact h.elim
def jmc:List Wv->Int->DQ->Prop:=λxs n Q=>match xs with
 |[.d (.list ds)]=>Q (.d (.list ds)) n
 |[.d (.tuple ds)]=>Q (.d (.list ds)) n
 |_=>False
theorem jq0 {K:Ab}:SndB (λxs H Q=>∃p ys,xs=[.ref p]/\(SqL K H p ys\/SqT K H p ys)/\∀l,H l=none->Q (.ref l) (upd H l (.lst ys))) jmc:=λC H B σ δ n vs xs Q Q' R r h k=>by
 unfold jmc at h
 split at h
 ·rename_i ds;cases r with
  |cons r1 r2 =>
   cases r2;cases(show RdX H B _ (.list ds)from r1)with
   |@lst ay ys _ e1 e2 e3 e4 =>
    refine⟨ay,ys,rfl,.inl (SqL.of e1),λl hl=>?_⟩;exact k _ _ _ n (R.new hl) (Kp.new hl) (wd (show RdX _ B _ (.list ds)from .lst jaj (R.nb hl) e3 ((e4.fresh hl).less λb z=>.inl z))) h
 ·rename_i ds;cases r with
  |cons r1 r2 =>
   cases r2;cases(show RdX H B _ (.tuple ds)from r1)with
   |@tup ay ys _ e1 e2 e3 e4 =>
    refine⟨ay,ys,rfl,.inr (SqT.of e1),λl hl=>?_⟩;exact k _ _ _ n (R.new hl) (Kp.new hl) (wd (show RdX _ B _ (.list ds)from .lst jaj (R.nb hl) e3 ((e4.fresh hl).less λb z=>.inl z))) h
 ·exact h.elim
end
structure ItOk (fz:Hp) (J:It) (ds:List Aa):Prop where
 le:ds.length<=An
 go:∀i H,(∀b o,fz b=some o->H b=some o)->i < ds.length->J.go i H
 stop:∀H,(∀b o,fz b=some o->H b=some o)->J.stop ds.length H
 yld:∀i H x H' d,(∀b o,fz b=some o->H b=some o)->ds[i]?=some d->J.yld i H x H'->Same H H'/\∀B,(∀b o,fz b=some o->¬B b)->(∀b,B b->H b≠none)->RdX H' B x d
def thaw (H:Hp) (B:Addr->Prop) (fz:Hp):Prop:=(∀b o,fz b=some o->H b=some o/\¬B b)/\∀b o,H b=some o->¬B b->fz b=some o
abbrev DTI:=Sl->Int->(List Aa->Int->Prop)->Prop
def SndI (wi:TI) (v:DTI):Prop:=∀(C:Ctx) (H:Hp) (B:Addr->Prop) (σ:St) (δ:Sl) (n:Int) (Q:List Aa->Int->Prop) (Q':It->Hp->Prop),Rel C H B σ δ n->v δ n Q ->
 (∀J ds H' n',Rel C H' B σ δ n'->Kp C.t H H'->(∀fz,thaw H' B fz->ItOk fz J ds)->Q ds n'->Q' J H')->wi σ H Q'
structure DI (X:Cx) (tg iter:Expr) (wi:TI) (v:DTI):Prop where
 pi:PI X tg iter wi
 sd:SndI wi v
section
variable {X:Cx} {tg a b c e:Expr} {ta tb te:TE} {wa wb we:DT} {pos p:Pos}
def jjg (w:DT):DTI:=λδ n Q=>w δ n λx n1=>match x with
 |.d (.list ds)=>Q ds n1
 |_=>False
def jbc (w:DT):DTI:=λδ n Q=>w δ n λx n1=>match x with
 |.d (.tuple ds)=>Q ds n1
 |_=>False
def jco (x:Str):List Aa:=x.cps.toList.map λc=>.str ⟨#[c]⟩
def jdi (w:DT):DTI:=λδ n Q=>w δ n λx n1=>match x with
 |.d (.str x)=>Q (jco x) n1
 |_=>False
theorem jxy (ha:DE X a ta wa):DI X tg a (jux X.K ta) (jjg wa):=⟨jua ha.pe,λC H B σ δ n Q Q' R q k=>ha.sd C H B σ δ n _ _ R q λv x H1 n1 R1 k1 r1 q1=>by
 split at q1
 ·rename_i ds;cases(show RdX H1 B v (.list ds)from r1)with
  |@lst ay ys _ e1 e2 e3 e4 =>
   refine⟨ay,rfl,⟨ys,SqL.of e1⟩,k _ ds H1 n1 R1 k1 (λfz th=>?_) q1⟩;have hfz:fz ay=some (.lst ys):=th.2 _ _ e1 e2;refine⟨by rw[<-e4.len];exact e3,λi H hH hi=>?_,λH hH=>?_,λi H x H' d hH hd hy=>?_⟩
   ·rw[<-e4.len]at hi;exact⟨ys,ys[i],SqL.of (hH _ _ hfz),Am hi⟩
   ·exact⟨ys,SqL.of (hH _ _ hfz),by rw[e4.len];exact As _⟩
   ·obtain⟨rfl,hy⟩:=hy;refine⟨λ_ _ z=>z,λB' hB hBa=>?_⟩;obtain⟨u,hu,ru⟩:=e4.getD hd;have:=hy _ (SqL.of (hH _ _ hfz));rw[hu]at this;cases this;exact ru.move λb o e ne=>⟨hH _ _ (th.2 _ _ e ne),hB _ _ (th.2 _ _ e ne)⟩
 ·exact q1.elim⟩
theorem jzn (ha:DE X a ta wa):DI X tg a (iTup X.K ta) (jbc wa):=⟨jwq ha.pe,λC H B σ δ n Q Q' R q k=>ha.sd C H B σ δ n _ _ R q λv x H1 n1 R1 k1 r1 q1=>by
 split at q1
 ·rename_i ds;cases(show RdX H1 B v (.tuple ds)from r1)with
  |@tup ay ys _ e1 e2 e3 e4 =>
   refine⟨ay,rfl,⟨ys,SqT.of e1⟩,k _ ds H1 n1 R1 k1 (λfz th=>?_) q1⟩;have hfz:fz ay=some (.tup ys):=th.2 _ _ e1 e2;refine⟨by rw[<-e4.len];exact e3,λi H hH hi=>?_,λH hH=>?_,λi H x H' d hH hd hy=>?_⟩
   ·rw[<-e4.len]at hi;exact⟨ys,ys[i],SqT.of (hH _ _ hfz),Am hi⟩
   ·exact⟨ys,SqT.of (hH _ _ hfz),by rw[e4.len];exact As _⟩
   ·obtain⟨rfl,hy⟩:=hy;refine⟨λ_ _ z=>z,λB' hB hBa=>?_⟩;obtain⟨u,hu,ru⟩:=e4.getD hd;have:=hy _ (SqT.of (hH _ _ hfz));rw[hu]at this;cases this;exact ru.move λb o e ne=>⟨hH _ _ (th.2 _ _ e ne),hB _ _ (th.2 _ _ e ne)⟩
 ·exact q1.elim⟩
theorem jzo (ha:DE X a ta wa):DI X tg a (iStr ta) (jdi wa):=⟨jwr ha.pe,λC H B σ δ n Q Q' R q k=>ha.sd C H B σ δ n _ _ R q λv x H1 n1 R1 k1 r1 q1=>by
 split at q1
 ·rename_i x;cases(show RdX H1 B v (.str x)from r1)with
  |str _ hx =>
   have hl:(jco x).length=x.cps.size:=by unfold jco;simp
   refine⟨x,rfl,k _ (jco x) H1 n1 R1 k1 (λfz th=>⟨?_,λi H hH hi=>?_,λH hH=>?_,λi H y H' d hH hd hy=>?_⟩) q1⟩
   ·rw[hl];exact hx
   ·rw[hl]at hi;exact hi
   ·exact hl
   ·obtain⟨rfl,cc,hc,rfl⟩:=hy;refine⟨λ_ _ z=>z,λB' hB hBa=>?_⟩;unfold jco at hd;rw[Bb,Array.getElem?_toList,hc]at hd;cases hd;exact .str _ (by show 1<=An;decide)
 ·exact q1.elim⟩
def rngD (lo:Int) (n:Nat):List Aa:=(Cr n).map λi=>.int (lo+(i:Nat))
def jax (w:DT):DTI:=λδ n Q=>w δ n λx n1=>match x with
 |.d (.int j)=>(-(2 ^ 62)<=j/\j<=1000000)/\Q (rngD 0 j.toNat) n1
 |_=>False
theorem jr2 (fz:Hp) (lo:Int) (n:Nat) (hn:n<=1000000):ItOk fz (Itr lo n) (rngD lo n):=by
 have hl:(rngD lo n).length=n:=by unfold rngD;simp
 refine⟨?_,λi H hH hi=>?_,λH hH=>?_,λi H y H' d hH hd hy=>?_⟩
 ·rw[hl];exact Bk hn (by decide)
 ·rw[hl]at hi;exact hi
 ·show n<=(rngD lo n).length;rw[hl];exact As _
 ·obtain⟨rfl,rfl⟩:=hy;refine⟨λ_ _ z=>z,λB' hB hBa=>?_⟩;unfold rngD at hd;rw[Bb]at hd;cases e:(Cr n)[i]? with
  |none=>rw[e]at hd;cases hd
  |some j =>
   rw[e]at hd;have:j=i:=by
    obtain⟨h1,h2⟩:=Bf.mp e;rw[List.getElem_range]at h2;exact h2.symm
   subst this;cases hd;exact .int _
theorem jr3 {p:Pos} (hg:Gl X "range") (hm:X.mg "range"=none) (ha:DE X a ta wa) (hs:Ay [a] X.env=[(false,eval a X.env)]:=by rfl):DI X tg (.Call (.Name "range" p) [a] [] pos) (jxz (jfx ta tNil)) (jax wa):=⟨jo3 hg hm (jay ha.pe jcn hs) hs,λC H B σ δ n Q Q' R q k=>ha.sd C H B σ δ n _ _ R q λv x H1 n1 R1 k1 r1 q1=>by
 split at q1
 ·rename_i j;cases(show RdX H1 B v (.int j)from r1);refine⟨j,rfl,q1.1.1,by have:=q1.1.2;have:(2:Int)^62=4611686018427387904:=(by decide);omega,k _ (rngD 0 j.toNat) H1 n1 R1 k1 (λfz _=>jr2 fz 0 j.toNat (by have:=q1.1.2;omega)) q1.2⟩
 ·exact q1.elim⟩
end
abbrev DTG:=Aa->Sl->(Sl->Prop)->Prop
def SndG (g:TG) (v:DTG):Prop:=∀(C:Ctx) (H:Hp) (B:Addr->Prop) (σ:St) (δ:Sl) (n:Int) (x:V) (d:Aa) (Q:Sl->Prop) (Q':St->Hp->Prop),Rel C H B σ δ n->RdX H B x d->v d δ Q ->
 (∀σ' δ',Rel C H B σ' δ' n->Q δ'->Q' σ' H)->g x σ H Q'
structure DG (X:Cx) (tg:Expr) (g:TG) (v:DTG):Prop where
 pg:PG X tg g
 sd:SndG g v
section
variable {X:Cx} {pos:Pos}
def jaf (i:Nat):DTG:=λd δ Q=>Q (δ.set i (some (.w (.d d))))
theorem jx2 {i:Nat} {x:Str} (hN:X.N.Nodup) (hi:X.N[i]?=some x) (hx:Loc X.env.scope x) (hf:X.fn x=true\/X.env.scope.names.lookup x=some .local:=by first | exact .inl rfl | exact .inr rfl | assumption):DG X (.Name x pos) (jey i) (jaf i) :=
 ⟨juc hN hi hx hf,λC H B σ δ n x d Q Q' R r q k=>k _ _ (R.set (x:=.d d) r rfl) q⟩
end
def forD (g:DTG) (W:DST) (K:DEnds):List Aa->Sl->Int->Prop
 |[],δ,n=>K.nx δ n
 |d::r,δ,n=>g d δ λδ'=>W δ' n {K with nx:=forD g W K r,ct:=forD g W K r,bk:=K.nx}
def sFor (v:DTI) (g:DTG) (W:DST):DST:=λδ n K=>v δ n λds n1=>forD g W K ds δ n1
def fzOf (H:Hp) (B:Addr->Prop):Hp:=λb=>open Classical in if B b then none else H b
theorem jf8 (H:Hp) (B:Addr->Prop):thaw H B (fzOf H B):=by
 refine⟨λb o e=>?_,λb o e n=>?_⟩
 ·unfold fzOf at e
  split at e
  ·cases e
  ·rename_i h;exact⟨e,h⟩
 ·unfold fzOf;rw[if_neg n];exact e
theorem Rel.refz {C:Ctx} {H:Hp} {B:Addr->Prop} {σ:St} {δ:Sl} {n:Int} (R:Rel C H B σ δ n):Rel {C with fz:=fzOf H B} H B σ δ n :=
 ⟨R.tp,R.kp,R.t0,R.l0,R.g0,(jf8 H B).1,R.bt,R.b0,R.ba,R.a0,R.sl,R.ow,R.len⟩
theorem Rel.unfz {C:Ctx} {fz:Hp} {H:Hp} {B:Addr->Prop} {σ:St} {δ:Sl} {n:Int} (R:Rel {C with fz:=fz} H B σ δ n) (h:∀b o,C.fz b=some o->fz b=some o):Rel C H B σ δ n :=
 ⟨R.tp,R.kp,R.t0,R.l0,R.g0,λb o e=>R.fz b o (h b o e),R.bt,R.b0,R.ba,R.a0,R.sl,R.ow,R.len⟩
theorem Rel.same {C:Ctx} {H H':Hp} {B:Addr->Prop} {σ:St} {δ:Sl} {n:Int} (R:Rel C H B σ δ n) (k:Same H H'):Rel C H' B σ δ n:=by
 obtain⟨a,b,e,h⟩:=R.tp.ob;exact R.step ⟨⟨a,b,k _ _ e,h⟩,k _ _ R.tp.ls,R.tp.len,λz=>k _ _ (R.tp.ag z),R.tp.gne⟩ λb o e _=>k b o e
section
variable {X:Cx} {tg iter:Expr} {body:List Stmt} {wi:TI} {v:DTI} {g:TG} {gd:DTG} {T:TS} {W:DST} {pos:Pos}
theorem jy9 (hi:DI X tg iter wi v) (hg:DG X tg g gd) (hb:DSs X body T W) (hp:PassesOwn (A8 X.prog X.w) X.A X.env X.xe:=by exact PassesOwn.never) (hc:X.calm=true:=by rfl)
  (hs:∀x,Cy iter X.env x=pure x:=by intro _;rfl):DS X (.For tg iter body [] pos) (tFor wi g T) (sFor v gd W):=⟨jwo hp hc hi.pi hg.pg hb.ps hs,λC H B σ δ n K D R q E =>
 hi.sd C H B σ δ n _ _ R q λJ ds H1 n1 R1 k1 hJ q1=>by
  have ok:=hJ (fzOf H1 B) (jf8 H1 B);have R1':=R1.refz;have back:∀{H B' σ δ n},Rel {C with fz:=fzOf H1 B} H B' σ δ n->Rel C H B' σ δ n:=λR=>R.unfz λb o e=>(jf8 H1 B).2 b o (R1.fz b o e).1 (R1.fz b o e).2;refine⟨λi m σ H=>m=ds.length - i/\i<=ds.length/\∃B' δ n,Rel {C with fz:=fzOf H1 B} H B' σ δ n/\forD gd W K (ds.drop i) δ n,⟨ds.length,by simp,Bm _,B,δ,n1,R1',by simpa using q1⟩,?_⟩
  rintro i m σ2 H2 ⟨rfl,hi,B2,δ2,n2,R2,q2⟩
  have hfz:∀b o,fzOf H1 B b=some o->H2 b=some o:=λb o e=>(R2.fz b o e).1;by_cases hlt:i < ds.length
  ·rw[List.drop_eq_getElem_cons hlt]at q2;refine .inr ⟨ok.go i H2 hfz hlt,λσ3 H3=>∃B' δ n,Rel {C with fz:=fzOf H1 B} H3 B' σ3 δ n/\forD gd W K (ds.drop (i+1)) δ n,λσ' H' z=>⟨ds.length - (i+1),by omega,rfl,hlt,z⟩,λx H' hy=>?_⟩;obtain⟨sm,rd⟩:=ok.yld i H2 x H' ds[i] hfz (Am hlt) hy;have R3:=R2.same sm;refine hg.sd _ H' B2 σ2 δ2 n2 x ds[i] _ _ R3 (rd B2 (λb o e=>(R2.fz b o e).2) R2.ba) q2 λσ' δ' R4 q4=>?_;refine hb.sd _ H' B2 σ' δ' n2 _ _ R4 q4 ⟨?_,?_,?_,?_,λH B σ δ n a xs ds R h0 h1 h2 h3 q=>E.rn H B σ δ n a xs ds (back R) h0 h1 h2 h3 q⟩
   ·exact λH B σ δ n R q=>⟨B,δ,n,R,q⟩
   ·exact λH B σ δ n v w R r q=>E.rt H B σ δ n v w (back R) r q
   ·exact λH B σ δ n R q=>E.nx H B σ δ n (back R) q
   ·exact λH B σ δ n R q=>⟨B,δ,n,R,q⟩
  ·have e:i=ds.length:=by omega
   subst e;rw[List.drop_length]at q2;exact .inl ⟨ok.stop H2 hfz,E.nx H2 B2 σ2 δ2 n2 (back R2) q2⟩⟩
end
def jb5 (fr:List (Option Nat)) (δ:Sl):Sl:=fr.map λo=>o.bind λi=>match δ[i]? with
 |some (some (.w x))=>some (.w x)
 |some (some (.odk kvs))=>some (.w (.dk kvs))
 |some (some (.own ds))=>some (.w (.ln ds))
 |_=>none
def jbu (g:DTG) (c:DTT) (w:DT) (Q:List Aa->Int->Prop):List Aa->List Aa->Sl->Int->Prop
 |[],acc,_,n=>Q acc n
 |d::r,acc,δ,n=>g d δ λδ'=>c δ' n λb n1=>if b=true then w δ' n1 λx n2=>match x with
   |.d y=>jbu g c w Q r (acc++[y]) δ' n2
   |_=>False
  else jbu g c w Q r acc δ' n1
def ja0 (fr:List (Option Nat)) (v:DTI) (g:DTG) (c:DTT) (w:DT):DTF:=λδ n Q=>v δ n λds n1=>jbu g c w Q ds [] (jb5 fr δ) n1
structure DIf (X:Cx) (ifs:List Expr) (t:TT) (c:DTT):Prop where
 pf:PIf X ifs t
 sd:SndT t c
def cYes:DTT:=λ_ n Q=>Q true n
theorem jxw {X:Cx}:DIf X [] jvt cYes:=⟨jt9,λC H B σ δ n Q Q' R q k=>k true H n R (Kp.refl _ _) q⟩
theorem jxv {X:Cx} {c:Expr} {t:TT} {cc:DTT} (h:DC X c t cc):DIf X [c] t cc:=⟨jt8 h.pt,h.sd⟩
theorem jsi (fr:List (Option Nat)) (σ:St):(capt fr σ).length=fr.length:=by unfold capt;rw[Ag]
theorem jqf (fr:List (Option Nat)) (δ:Sl):(jb5 fr δ).length=fr.length:=by unfold jb5;rw[Ag]
theorem jgs {fr:List (Option Nat)} {δ:Sl} {j:Nat} {x:SV} (h:(jb5 fr δ)[j]?=some (some x)):∃i y,fr[j]?=some (some i)/\δ[i]?=some (some y)/\((∃z,x=.w z/\y=.w z)\/(∃kvs,x=.w (.dk kvs)/\y=.odk kvs)\/∃ds,x=.w (.ln ds)/\y=.own ds):=by
 unfold jb5 at h;rw[Bb]at h;cases e:fr[j]? with
 |none=>rw[e]at h;cases h
 |some o =>
  rw[e]at h;cases o with
  |none=>cases h
  |some i =>
   have h':=A9 h;dsimp only[Cb]at h'
   split at h'
   ·rename_i z ez;cases h';exact⟨i,_,rfl,ez,.inl ⟨z,rfl,rfl⟩⟩
   ·rename_i kvs ez;cases h';exact⟨i,_,rfl,ez,.inr (.inl ⟨kvs,rfl,rfl⟩)⟩
   ·rename_i ds ez;cases h';exact⟨i,_,rfl,ez,.inr (.inr ⟨ds,rfl,rfl⟩)⟩
   ·cases h'
theorem jva {fr:List (Option Nat)} {σ:St} {j i:Nat} {v:V} (h:fr[j]?=some (some i)) (h2:σ[i]?=some (some v)):(capt fr σ)[j]?=some (some v):=by
 unfold capt;rw[Bb,h];show some ((σ[i]?).bind id)=_;rw[h2];rfl
theorem jrb {C:Ctx} {H:Hp} {B:Addr->Prop} {σ:St} {δ:Sl} {n:Int} {L:Addr} {fr:List (Option Nat)} (R:Rel C H B σ δ n) (hL:H L=none) :
  Rel ⟨C.t,C.l,C.ns,H,B,fzOf H B⟩ (upd H L (.lst [])) (λb=>B b\/b=L) (capt fr σ) (jb5 fr δ) n where
 tp:=R.tp.new hL
 kp:=Kp.new hL
 t0:=R.ba _ R.bt
 l0:=by
  show H C.l.s≠none;rw[R.tp.ls];exact λz=>nomatch z
 g0:=λe=>by
  show H C.l.g≠none;rw[R.tp.ag e];exact λz=>nomatch z
 fz:=λb o e=>by
  obtain⟨e1,e2⟩:=(jf8 H B).1 b o e;exact⟨by rw[jai (jag e1 hL)];exact e1,λz=>z.elim e2 λq=>jag e1 hL q⟩
 bt:=.inl R.bt
 b0:=λb z=>.inl z
 ba:=λb z e=>by
  by_cases q:b=L
  ·rw[q,jaj]at e;cases e
  ·rw[jai q]at e;exact R.ba b (z.resolve_right q) e
 a0:=R.ba
 sl:=λj x e=>by
  have mv:∀b o',H b=some o'->¬B b->upd H L (.lst []) b=some o'/\¬(B b\/b=L):=λb o' e n=>⟨by rw[jai (jag e hL)];exact e,λz=>z.elim n λq=>jag e hL q⟩;obtain⟨i,y,e1,e2,hy⟩:=jgs e;obtain⟨v,f1,f2⟩:=R.sl i y e2;refine⟨v,jva e1 f1,?_⟩;rcases hy with⟨z,rfl,rfl⟩ | ⟨kvs,rfl,rfl⟩ | ⟨ds,rfl,rfl⟩
  ·cases z with
   |d d=>exact⟨f2.1.move mv,λz=>by cases z⟩
   |tp=>exact⟨f2.1,λz=>by cases z⟩
   |ln ds =>
    obtain⟨a,l,g1,g2,g3,g4,g5⟩:=f2.1;exact⟨⟨a,l,g1,by rw[jai (jag g2 hL)];exact g2,g3,g4,g5.move mv⟩,λ_=>⟨a,g1,by show H a≠none;rw[g2];exact λz=>nomatch z⟩⟩
   |dk kvs =>
    obtain⟨a,l,g1,g2,g3,g4⟩:=f2.1;exact⟨⟨a,l,g1,by rw[jai (jag g2 hL)];exact g2,g3,g4.move mv⟩,λ_=>⟨a,g1,by show H a≠none;rw[g2];exact λz=>nomatch z⟩⟩
   |ob o =>
    refine⟨?_,λz=>by cases z⟩;exact ORel.move mv f2.1
  ·obtain⟨a,l,g1,g2,g3,g4,g5,g6⟩:=f2;exact⟨⟨a,l,g1,by rw[jai (jag g2 hL)];exact g2,λz=>R.t0 (z▸g4),g6.move mv⟩,λ_=>⟨a,g1,by show H a≠none;rw[g2];exact λz=>nomatch z⟩⟩
  ·obtain⟨a,l,g1,g2,g3,g4,g5,g6⟩:=f2;exact⟨⟨a,l,g1,by rw[jai (jag g2 hL)];exact g2,λz=>R.t0 (z▸g4),g5,g6.move mv⟩,λ_=>⟨a,g1,by show H a≠none;rw[g2];exact λz=>nomatch z⟩⟩
 ow:=λi j x y v e1 e2 o1 o2 _ _=>by
  obtain⟨_,_,_,_,hy⟩:=jgs e1;rcases hy with⟨z,rfl,_⟩ | ⟨kvs,rfl,_⟩ | ⟨ds,rfl,_⟩
  ·cases o1
  ·cases o1
  ·cases o1
 len:=by rw[jsi,jqf]
section
variable {X:Cx} {elt tg iter:Expr} {ifs:List Expr} {scope:Dc} {cl:List (Str×Addr)} {pos:Pos} {N:List Str} {fr:List (Option Nat)} {wi:TI} {v:DTI} {g:TG} {gd:DTG} {tt:TT} {cc:DTT} {te:TE} {we:DT}
def jrv (δ:Sl):Prop:=∀(i:Nat) (x:SV),δ[i]?=some (some x)->x.isOwn=false
theorem jsk (fr:List (Option Nat)) (δ:Sl):jrv (jb5 fr δ):=λi x e=>by
 obtain⟨_,_,_,_,hy⟩:=jgs e;rcases hy with⟨z,rfl,_⟩ | ⟨kvs,rfl,_⟩ | ⟨ds,rfl,_⟩<;>rfl
def jm8 (v:DTG):Prop:=∀d δ Q,jrv δ->v d δ Q->v d δ λδ'=>jrv δ'/\Q δ'
theorem jur (i:Nat):jm8 (jaf i):=λd δ Q h q=>⟨λj x e=>by
 rcases jan e with⟨_,rfl⟩ | ⟨_,e'⟩
 ·rfl
 ·exact h j x e',q⟩
theorem jp4 (hc:X.calm=true) (S:CompSc X N scope cl fr) (hi:DI X tg iter wi v) (hg:∀s H fp,DG (jau X N scope cl s H fp) tg g gd) (ht:∀s H fp,DIf (jau X N scope cl s H fp) ifs tt cc)
  (he:∀s H fp,DE (jau X N scope cl s H fp) elt te we) (hno:jm8 gd) (hs:∀x,Cy iter X.env x=pure x:=by intro _;rfl) :
  DF X (.ListComp elt [⟨tg,iter,ifs,0⟩] scope pos) (jod fr wi g tt te) (ja0 fr v gd cc we):=by
 refine⟨jue hc S hi.pi (λs H fp=>(hg s H fp).pg) (λs H fp=>(ht s H fp).pf) (λs H fp=>(he s H fp).pe) hs,λC H B σ δ n Q Q' R q k=>hi.sd C H B σ δ n _ _ R q λJ ds H1 n1 R1 k1 hJ q1=>λL hL=>?_⟩;have sg:=(hg X.s₀ X.H₀ []).sd;have st:=(ht X.s₀ X.H₀ []).sd;have se:=(he X.s₀ X.H₀ []).sd;have ok:=hJ (fzOf H1 B) (jf8 H1 B);have hLt:L≠C.t:=λz=>R1.ba _ R1.bt (z▸hL);refine⟨λi m ys τ H=>m=ds.length - i/\i<=ds.length/\ys.length<=i/\∃δ' n' acc,Rel ⟨C.t,C.l,C.ns,H1,B,fzOf H1 B⟩ H (λb=>B b\/b=L) τ δ' n'/\jrv δ'/\H L=some (.lst ys)/\RdXs H (λb=>B b\/b=L) ys acc/\jbu gd cc we Q (ds.drop i) acc δ' n',
  ⟨ds.length,by simp,Bm _,Bm _,jb5 fr δ,n1,[],jrb R1 hL,jsk fr δ,jaj,.nil,by simpa using q1⟩,?_⟩
 rintro i m ys τ H2 ⟨rfl,hi,hys,δ2,n2,acc,R2,no2,hL2,rd2,q2⟩
 have hfz:∀b o,fzOf H1 B b=some o->H2 b=some o:=λb o e=>(R2.fz b o e).1;by_cases hlt:i < ds.length
 ·rw[List.drop_eq_getElem_cons hlt]at q2;refine .inr ⟨ok.go i H2 hfz hlt,Bc (Nat.lt_of_le_of_lt hys hlt) ok.le,λx H' hy=>?_⟩;obtain⟨sm,rd⟩:=ok.yld i H2 x H' ds[i] hfz (Am hlt) hy;have R3:=R2.same sm;refine sg _ H' _ τ δ2 n2 x ds[i] _ _ R3 (rd _ (λb o e=>(R2.fz b o e).2) R2.ba) (hno _ _ _ no2 q2) λτ3 δ3 R4 ⟨no3,q4⟩=>?_;refine st _ H' _ τ3 δ3 n2 _ _ R4 q4 λb H4 n4 R5 k5 q5=>?_;have hL4:H4 L=some (.lst ys):=k5 _ _ (sm _ _ hL2) hLt;have rd4:RdXs H4 (λb=>B b\/b=L) ys acc:=(rd2.keep λb o e _=>sm b o e).kp k5 R4.bt;cases b with
  |false =>
   rw[if_neg Af]at q5 ⊢;exact⟨ds.length - (i+1),by omega,rfl,hlt,by omega,δ3,n4,acc,R5,no3,hL4,rd4,q5⟩
  |true =>
   rw[if_pos rfl]at q5 ⊢;refine se _ H4 _ τ3 δ3 n4 _ _ R5 q5 λu y H5 n5 R6 k6 r6 q6=>?_;cases y with
   |d y =>
    have hL5:H5 L=some (.lst ys):=k6 _ _ hL4 hLt;refine⟨hL5,ds.length - (i+1),by omega,rfl,hlt,by rw[Al,Az];omega,δ3,n5,acc++[y],R6.mut (.inr rfl) hL λj z e o=>absurd (no3 j z e) (by rw[o];exact λq=>nomatch q),no3,jaj,?_,q6⟩;refine RdXs.keep (λb o e n=>?_) ((rd4.kp k6 R5.bt).append (.cons r6 .nil));rw[jai λ(z:b=L)=>n (.inr z)];exact e
   |tp=>exact q6.elim
   |dk _=>exact q6.elim
   |ln _=>exact q6.elim
   |ob _=>exact q6.elim
 ·have e:i=ds.length:=by omega
  subst e;rw[List.drop_length]at q2;refine .inl ⟨ok.stop H2 hfz,k L ys acc H2 n2 (R1.step R2.tp R2.kp) (k1.trans R2.kp) (R1.was k1 hL) hL2 (Bk hys ok.le) rd2 q2⟩
end
abbrev DTGs:=List Aa->Sl->(Sl->Prop)->Prop
def j0s (g:TGs) (v:DTGs):Prop:=∀(C:Ctx) (H:Hp) (B:Addr->Prop) (σ:St) (δ:Sl) (n:Int) (xs:List V) (ds:List Aa) (Q:Sl->Prop) (Q':St->Hp->Prop),Rel C H B σ δ n->RdXs H B xs ds->v ds δ Q ->
 (∀σ' δ',Rel C H B σ' δ' n->Q δ'->Q' σ' H)->g xs σ H Q'
structure DGs (X:Cx) (ts:List Expr) (g:TGs) (v:DTGs):Prop where
 pg:PGs X ts g
 sd:j0s g v
def jch:DTGs:=λds δ Q=>match ds with
 |[]=>Q δ
 |_=>False
def ja6 (v:DTG) (r:DTGs):DTGs:=λds δ Q=>match ds with
 |d::ds=>v d δ λδ'=>r ds δ' Q
 |[]=>False
def jci (n:Nat) (r:DTGs):DTG:=λd δ Q=>match d with
 |.tuple ds=>ds.length=n/\r ds δ Q
 |_=>False
section
variable {X:Cx} {pos:Pos}
theorem jx0:DGs X [] gNil jch:=⟨jub,λC H B σ δ n xs ds Q Q' R r q k=>by
 cases r with
 |nil=>exact⟨rfl,k σ δ R q⟩
 |cons _ _=>exact q.elim⟩
end
section
variable {X:Cx} {pos:Pos}
theorem juz {e:Expr} {es:List Expr} {t:TG} {u:TGs} {v:DTG} {r:DTGs} (h1:DG X e t v) (h2:DGs X es u r)
  (hs:(Co (e::es) X.env).map (·.2)=assign e X.env::(Co es X.env).map (·.2):=by rfl):DGs X (e::es) (jx3 t u) (ja6 v r):=⟨jrl h1.pg h2.pg hs,λC H B σ δ n xs ds Q Q' R rr q k=>by
 cases rr with
 |nil=>exact q.elim
 |cons r1 r2=>exact⟨_,_,rfl,h1.sd C H B σ δ n _ _ _ _ R r1 q λσ' δ' R' q'=>h2.sd C H B σ' δ' n _ _ _ _ R' r2 q' k⟩⟩
theorem jzq {es:List Expr} {k:Nat} {t:TGs} {n:Nat} {r:DTGs} (h:DGs X es t r) (hc:X.calm=true:=by rfl)
  (hn:(Co es X.env).length=n:=by rfl) (hst:(Co es X.env).findIdx? (·.1)=none:=by rfl):DG X (.Tuple es k pos) (gTup X.K n t) (jci n r):=⟨jws hc h.pg hn hst,λC H B σ δ n' x d Q Q' R rr q k=>by
 unfold jci at q
 split at q
 ·rename_i ds;cases rr with
  |@tup ay ys _ e1 e2 e3 e4=>exact⟨ay,ys,rfl,SqT.of e1,by rw[e4.len];exact q.1,h.sd C H B σ δ n' _ _ _ _ R e4 q.2 k⟩
 ·exact q.elim⟩
def jtp:List Aa->Option (List Str)
 |[]=>some []
 |.str b::r=>(jtp r).map (b::·)
 |_::_=>none
def j0w (w w':DT):DT:=λδ n Q=>w δ n λx n1=>match x with
 |.d (.str z)=>w' δ n1 λy n2=>match y with
  |.d (.list ds)=>match jtp ds with
   |some ys=>(ys.map (·.length)).sum+ys.length*z.length<=16777216/\Q (.d (.str (Txt.join z ys))) n2
   |none=>False
  |.d (.tuple ds)=>match jtp ds with
   |some ys=>(ys.map (·.length)).sum+ys.length*z.length<=16777216/\Q (.d (.str (Txt.join z ys))) n2
   |none=>False
  |_=>False
 |_=>False
def sPut (i:Nat) (wj w:DT):DST:=λδ n K=>match δ[i]? with
 |some (some (.own ds))=>w δ n λx n1=>wj δ n1 λj n2=>match x,j with
  |.d d,.d (.int k)=>match ixN ds.length k with
   |some m=>K.nx (δ.set i (some (.own (ds.set m d)))) n2
   |none=>False
  |_,_=>False
 |_=>False
theorem jy4 {i:Nat} {x:Str} {xp sp:Pos} {j e:Expr} {tj te:TE} {wj we:DT} (hN:X.N[i]?=some x) (hj:DE X j tj wj) (he:DE X e te we) (hv:Vis X.env.scope x:=by first | exact Cq rfl | exact By (Cq rfl) | exact By (By rfl)) (hd:(x==("__debug__":Str))=false:=by decide)
  (hcd:(x==("__classdict__":Str))=false:=by decide)
  (ha:∀v,assign (.Subscript (.Name x xp) j sp) X.env v=(do
   let ov <-holding [v] (eval (.Name x xp) X.env)
   let iv <-holding [v,ov] (eval j X.env)
   standAt sp
   holding [v,ov,iv] (setItem ov iv v)
   release [v,ov,iv] []):=by intro _;rfl)
  (hs:swapsWithSole [.Subscript (.Name x xp) j sp] e pos.line X.env=pure false:=by rfl) (hw:swappedStores [.Subscript (.Name x xp) j sp] e X.env=pure none:=by rfl)
  (h1:(Co [.Subscript (.Name x xp) j sp] X.env).map (·.2)=[assign (.Subscript (.Name x xp) j sp) X.env]:=by rfl) :
  DS X (.Assign [.Subscript (.Name x xp) j sp] e pos) (tAsg te (gSub (tVar i) tj jwg)) (sPut i wj we) :=
 ⟨jkr he.pe (jmr (jfd hN hv hd hcd) hj.pe jf6 ha) hs hw h1,λC H B σ δ n K D R q E=>by
  unfold sPut at q
  split at q
  ·rename_i ds ei;refine he.sd C H B σ δ n _ _ R q λu y H1 n1 R1 k1 r1 q1=>?_;obtain⟨v,hv,a,xs,rfl,e2,e3,e4,e5,e6⟩:=R1.sl i _ ei;refine⟨_,hv,hj.sd C H1 B σ δ n1 _ _ R1 q1 λw z H2 n2 R2 k2 r2 q2=>?_⟩
   split at q2
   ·rename_i d k
    split at q2
    ·rename_i m em;cases(show RdX H2 B w (.int k)from r2);have hat:a≠C.t:=λz=>R.t0 (z▸e4);have e2':=k2 _ _ e2 hat;have r1':RdX H2 B u d:=r1.kp k2 R1.bt;refine⟨a,xs,k,m,rfl,rfl,e2',by rw[e6.len];exact em,?_⟩;refine E.nx _ _ _ _ _ (R2.mutOwn ei rfl hv e3 e4 ?_ rfl) q2;refine⟨a,xs.set m u,rfl,jaj,e3,e4,by rw[Cf];exact e5,?_⟩;refine RdXs.keep (λb o e n=>?_) (RdXs.set m (e6.kp k2 R1.bt) r1');rw[jai λ(z:b=a)=>n (z▸e3)];exact e
    ·exact q2.elim
   ·exact q2.elim
  ·exact q.elim⟩
end
structure Has (P:Bi) (w:Bz) (K:Ab) (mg:Str->Option Ae) (base:Heap) (k:Nat) (x:Str) (ps:List Str) (S:DSp):Prop where
 ex:∃(f:Addr) (fd:B5),FnOk P w K mg base CX0 k f fd ps (spOf S)/\Binds K fd ps []/\mg x=some (.ref f)/\B3 K (.ref f)=true
section
variable {P:Bi} {w:Bz} {K:Ab} {mg:Str->Option Ae} {base:Heap}
theorem Has.mk' {k:Nat} {x qual:Str} {st:Stmt} {ps:List Str} {S:DSp} {f:Addr} {fd:B5} (F:Fun K x qual st f fd) (m:mg x=some (.ref f)) (b:Binds K fd ps []) (h:FnOk P w K mg base CX0 k f fd ps (spOf S)):Has P w K mg base k x ps S:=⟨f,fd,h,b,m,F.kp⟩
end
theorem ju5 {X:Cx} {e:Expr} {es:List Expr} {pos p:Pos} {tR:TA} {wR:DTA} {k:Nat} {ps:List Str} {S:DSp} {x:Str} (h:Has X.prog X.w X.K X.mg X.base k x ps S) (hr:Room k X.A) (hg:Gl X x)
  (ha:DA X (e::es) tR wR) (hdb:(x==("__debug__":Str))=false:=by decide) (he:Ay (e::es) X.env=(false,eval e X.env)::Ay es X.env:=by rfl) (hpl:(Di pos (Ay es X.env)).any (·.1)=false:=by rfl) :
  DE X (.Call (.Name x p) (e::es) [] pos) (jlw (spOf S) [] E0 tR) (jad S wR):=by
 obtain⟨f,fd,h1,h2,h3,h4⟩:=h.ex;exact jyd h1 hr hg h3 h4 h2 ha hdb he hpl
theorem jns {cl cells:List (Str×Addr)} (h:∀y∈cl,cells.lookup y.1=some y.2):∀x c,cl.lookup x=some c->cells.lookup x=some c:=λx c e=>h _ (jdg e)
def jao:DSp:=λws n Q=>match ws with
 |[.tp,.d (.int many)]=>(n < 2 ^ 40/\0 < many/\many < 1073741824)/\∀r:Int,0<=r->r < many->Q (.d (.int r)) (n+1)
 |_=>False
section
variable {P:Bi} {w:Bz} {K:Ab} {mg:Str->Option Ae} {base:Heap}
theorem jse {k:Nat} {f:Addr} {fd:B5} {ps:List Str} (h:FnOk P w K mg base CX0 k f fd ps js2):FnOk P w K mg base CX0 k f fd ps (spOf jao):=h.imp λvs H Q E hs=>by
 obtain⟨t,l,ns,B,ws,n,Q0,T,bt,ba,r,q,kk⟩:=hs;unfold jao at q
 split at q
 ·rename_i many;cases r with
  |cons r1 r2 =>
   cases r2 with
   |cons r3 r4 =>
    cases r4;cases(show _=V.ref t from r1);cases(show RdX H B _ (.int many)from r3);exact⟨t,l,ns,n,many,rfl,T,q.1.1,q.1.2.1,q.1.2.2,λr H' h0 h1 T' k'=>kk _ _ (q.2 r h0 h1) _ H' T' k' (.int r)⟩
 ·exact q.elim
def spLaw (K:Ab):Sp:=λvs H Q _=>∃(a:Addr) (ns:List Int),vs=[.ref a]/\SqL K H a (ns.map V.int)/\ns.length<=63/\∀H',Q (.bl true) H'
def lawEnds:DEnds:={ nx:=λ_ _=>False,rt:=λw _=>w=.d (.bool true)}
theorem jt4 {H:Hp} {t:Addr} {l:TL} {ns:List Int} {a:V} {k:Nat} (T:Tp H t l ns 0):Rel ⟨t,l,ns,H,λb=>b=t,λ_=>none⟩ H (λb=>b=t) (some a::some (.ref t)::Ap k none) (none::some (.w .tp)::Ap k none) 0 where
 tp:=T
 kp:=Kp.refl _ _
 t0:=by
  obtain⟨_,_,h,_⟩:=T.ob;show H t≠none;rw[h];exact λz=>nomatch z
 l0:=by
  show H l.s≠none;rw[T.ls];exact λz=>nomatch z
 g0:=λe=>by
  show H l.g≠none;rw[T.ag e];exact λz=>nomatch z
 fz:=λb o e=>nomatch e
 bt:=rfl
 b0:=λ_ z=>z
 ba:=λb z=>by
  obtain⟨_,_,h,_⟩:=T.ob;rw[z,h];exact λz=>nomatch z
 a0:=λb z=>by
  obtain⟨_,_,h,_⟩:=T.ob;show H b≠none;rw[show b=t from z,h];exact λz=>nomatch z
 sl:=λi x e=>by
  rcases i with _ | _ | i
  ·cases e
  ·cases e;exact⟨_,rfl,rfl,λz=>by cases z⟩
  ·have e':(Ap k (none:Option SV))[i]?=some (some x):=e;rw[C1]at e'
   split at e'
   ·cases e'
   ·cases e'
 ow:=λi j x y v e1 e2 o1 o2 f1 f2=>by
  rcases i with _ | _ | i
  ·cases e1
  ·cases e1;cases o1
  ·have e':(Ap k (none:Option SV))[i]?=some (some x):=e1;rw[C1]at e'
   split at e'
   ·cases e'
   ·cases e'
 len:=by simp
theorem jxk {f fT:Addr} {fd fdT:B5} {st:Stmt} {N:List Str} {k:Nat} {W:DST} (F:Fun K "law" "law" st f fd) (Sc:FnScope N ["_law_script"] (jam st))
  (GT:FnOk P w K mg base CX0 1 fT fdT ["_law_script"] (jki K)) (bT:Binds K fdT ["_law_script"] []) (mT:mg "_law_tape"=some (.ref fT)) (kT:B3 K (.ref fT)=true)
  (hN:∀v,start N [v]=some v::none::Ap (N.length - 2) none)
  (hW:W (none::some (.w .tp)::Ap (N.length - 2) none) 0 lawEnds)
  (hbody:∀(cdv:Ae) (A:Ce) (outer:List Env) (s:Ah) (H:Hp) (E:XK),Room k (A.deeper (Dd "law" (jam st) s.heap.objs.size f cdv)) ->
   ∃s0 rest T,jbm st=s0::rest/\PS (cxOf CX0 P w K mg base N "law" (jam st) f cdv A outer s H E).nox s0 (tAsg (jlw (jki K) [] E0 (jfx (tVar 0) tNil)) (jey 1))/\DSs (cxOf CX0 P w K mg base N "law" (jam st) f cdv A outer s H E).nox rest T W) :
  FnOk P w K mg base CX0 (k+1) f fd ["_law_script"] (spLaw K):=by
 refine F.ok Sc (λvs H Q E h=>?_) (λcdv A outer s H vs Q E hr h=>?_)
 ·obtain⟨a,ns,rfl,_⟩:=h;rfl
 ·obtain⟨a,ns,rfl,hS,hl,kk⟩:=h;obtain⟨s0,rest,T,e,p0,d⟩:=hbody cdv A outer s H E hr;rw[e];refine⟨_,jbd p0 d.ps,?_⟩;rw[hN];refine⟨_,rfl,a,ns,rfl,hS,hl,λt l H1 T1 _=>?_⟩;refine d.sd ⟨t,l,ns,H1,λb=>b=t,λ_=>none⟩ H1 (λb=>b=t) _ _ 0 lawEnds _ (jt4 (a:=.ref a) (k:=N.length - 2) T1) hW ⟨?_,?_,?_,?_,λ_ _ _ _ _ _ _ _ _ _ _ _ _ z=>z.elim⟩
  ·exact λ_ _ _ _ _ _ z=>z.elim
  ·intro H B σ δ n v w R r z;have z:w=.d (.bool true):=z;subst z;cases(show RdX H B v (.bool true)from r);exact kk H
  ·exact λ_ _ _ _ _ _ z=>z.elim
  ·exact λ_ _ _ _ _ _ z=>z.elim
end
section
variable {X:Cx} {elt tg iter:Expr} {ifs:List Expr} {scope:Dc} {cl:List (Str×Addr)} {cpos pos pos':Pos} {N:List Str} {fr:List (Option Nat)} {wi:TI} {v:DTI} {g:TG} {gd:DTG} {tt:TT} {cc:DTT} {te:TE} {we:DT} {i:Nat} {x:Str}
theorem jts {t:TE} {w:DTF} (h:SndF t w):SndS (tAsg t (jey i)) (sOwn i w):=λC H B σ δ n K D R q E =>
 h C H B σ δ n _ _ R q λa xs ds H1 n1 R1 k1 h0 h1 h2 h3 q1=>by
  refine E.nx _ _ _ _ _ (R.own R1 k1 h0 (by rw[h1];exact λz=>nomatch z) rfl ?_) q1;exact⟨a,xs,rfl,h1,.inr rfl,R.h0 h0,h2,h3⟩
theorem jtr {t:TE} {w:DT} (h:Snd t w):SndS (tAsg t (jey i)) (sSet i w):=λC H B σ δ n K D R q E =>
 h C H B σ δ n _ _ R q λv x H1 n1 R1 _ r1 q1=>by
  cases x with
  |d d=>exact E.nx _ _ _ _ _ (R1.set r1 rfl) q1
  |tp=>exact E.nx _ _ _ _ _ (R1.set r1 rfl) q1
  |dk _=>exact q1.elim
  |ln _=>exact q1.elim
  |ob _=>exact E.nx _ _ _ _ _ (R1.set r1 rfl) q1
theorem jv7 (hN:X.N.Nodup) (hix:X.N[i]?=some x) (hx:X.env.scope.names.lookup x=some .local) (hc:X.calm=true) (S:CompSc X N scope cl fr) (hi:DI X tg iter wi v) (hg:∀s H fp,DG (jau X N scope cl s H fp) tg g gd) (ht:∀s H fp,DIf (jau X N scope cl s H fp) ifs tt cc)
  (he:∀s H fp,DE (jau X N scope cl s H fp) elt te we) (hno:jm8 gd) (hs:∀x,Cy iter X.env x=pure x:=by intro _;rfl)
  (hsw:Dt (.ListComp elt [⟨tg,iter,ifs,0⟩] scope cpos) (some (.Name x pos')) pos.line X.env=pure true:=by rfl) :
  DS X (.Assign [.Name x pos'] (.ListComp elt [⟨tg,iter,ifs,0⟩] scope cpos) pos) (tAsg (jod fr wi g tt te) (jey i)) (sOwn i (ja0 fr v gd cc we)) :=
 ⟨jia hN hix hx hc S hi.pi (λs H fp=>(hg s H fp).pg) (λs H fp=>(ht s H fp).pf) (λs H fp=>(he s H fp).pe) hs hsw,jts (jp4 (pos:=cpos) hc S hi hg ht he hno hs).sd⟩
theorem jv6 (hN:X.N.Nodup) (hix:X.N[i]?=some x) (hx:X.env.scope.names.lookup x=some .local) (hc:X.calm=true) (S:CompSc X N scope cl fr) (hi:DI X tg iter wi v) (hg:∀s H fp,DG (jau X N scope cl s H fp) tg g gd) (ht:∀s H fp,DIf (jau X N scope cl s H fp) ifs tt cc)
  (he:∀s H fp,DE (jau X N scope cl s H fp) elt te we) (hno:jm8 gd) (hs:∀x,Cy iter X.env x=pure x:=by intro _;rfl)
  (hsw:Dt (.ListComp elt [⟨tg,iter,ifs,0⟩] scope cpos) (some (.Name x pos')) pos.line X.env=pure true:=by rfl) :
  DS X (.Assign [.Name x pos'] (.ListComp elt [⟨tg,iter,ifs,0⟩] scope cpos) pos) (tAsg (jod fr wi g tt te) (jey i)) (sSet i (wOf (ja0 fr v gd cc we))) :=
 ⟨jia hN hix hx hc S hi.pi (λs H fp=>(hg s H fp).pg) (λs H fp=>(ht s H fp).pf) (λs H fp=>(he s H fp).pe) hs hsw,jtr (jp4 (pos:=cpos) hc S hi hg ht he hno hs).d.sd⟩
end
section
variable {X:Cx} {tg a b c e:Expr} {ta tb tc te:TE} {wa wb wc we:DT} {pos p:Pos} {K:Ab}
theorem j0b (ha:DE X a ta wa) (hb:DE X b tb wb) (hK:X.K=K:=by rfl) (hs:jj6 b:=by exact λ_ _=>rfl):DE X (.Subscript a b pos) (tOp (rIx K) ta tb) (w2 wa wb gIx):=by subst hK;exact d_ix ha hb hs
def rIsi (K:Ab) (T:String):List V->Hp->VK->Prop:=λxs H Q=>∃x t b,xs=[x,.ty T]/\TyOf K H x t/\PySem.W.kitOne K t (.type T)=some b/\Q (.bl b) H
theorem jyb {T:String} {x:Str} {p p2:Pos} (hT:T="int"\/T="bool"\/T="str"\/T="tuple"\/T="list") (hg:Gl X "isinstance") (hm:X.mg "isinstance"=none) (hg2:Gl X x) (hm2:X.mg x=none) (hv:Bh x=some (.type T)) (ha:DE X a ta wa) (hK:X.K=K:=by rfl) (hn:x≠"__name__":=by decide) (hdb:(x==("__debug__":Str))=false:=by decide)
  (he:Ay [a,.Name x p2] X.env=(false,eval a X.env)::Ay [.Name x p2] X.env:=by rfl) (he2:Ay [.Name x p2] X.env=(false,eval (.Name x p2) X.env)::Ay [] X.env:=by rfl) (hpl:(Di pos (Ay [.Name x p2] X.env)).any (·.1)=false:=by rfl) :
  DE X (.Call (.Name "isinstance" p) [a,.Name x p2] [] pos) (tCB (rIsi K T) (jfx ta (jfx (tC (.ty T)) tNil))) (wIsi T wa):=by subst hK;exact j0c hT hg hm hg2 hm2 hv ha hn hdb he he2 hpl
def rEqK (K:Ab):R2:=λx y H Q=>rEq x y H Q\/jrd x y H Q\/jmq K x y H Q
theorem jpi (hu:X.A.units < cLine) (hK:X.K=K:=by rfl):OpR X (A2 .Eq) (rEqK K):=by subst hK;exact jxb hu
theorem jly:SndO (rEqK K) gEq:=jv2
theorem jw9 (hK:X.K=K:=by rfl):OpR X (A2 .In) (rIn K false):=by subst hK;exact jpe
theorem jpa (hK:X.K=K:=by rfl):OpR X (A2 .NotIn) (rIn K true):=by subst hK;exact jku
def jt5 (K:Ab):List V->Hp->VK->Prop:=λxs H Q=>(∃z,xs=[.str z]/\z.length<=An/\Q (.int z.length) H)\/∃p ys,xs=[.ref p]/\(SqL K H p ys\/SqT K H p ys)/\Q (.int ys.length) H
theorem jk7 (hK:X.K=K:=by rfl):CallR X (.builtin "len") (jt5 K):=by subst hK;exact jqh
theorem jml:SndB (jt5 K) gLen:=jtt
def jl1 (K:Ab):List V->Hp->VK->Prop:=λxs H Q=>∃p ys,xs=[.ref p]/\((SqL K H p ys/\∀l,H l=none->Q (.ref l) (upd H l (.tup ys)))\/(SqT K H p ys/\Q (.ref p) H))
theorem jgt (hK:X.K=K:=by rfl):CallR X (.type "tuple") (jl1 K):=by subst hK;exact jjo
theorem jh8:SndB (jl1 K) jeg:=jof
def jov (K:Ab):List V->Hp->VK->Prop:=λxs H Q=>∃p ys,xs=[.ref p]/\(SqL K H p ys\/SqT K H p ys)/\∀l,H l=none->Q (.ref l) (upd H l (.lst ys))
theorem jii (hK:X.K=K:=by rfl):CallR X (.type "list") (jov K):=by subst hK;exact jk6
theorem joi:SndB (jov K) jmc:=jq0
theorem juw (ha:DE X a ta wa) (hK:X.K=K:=by rfl):DI X tg a (jux K ta) (jjg wa):=by subst hK;exact jxy ha
theorem jxx (ha:DE X a ta wa) (hK:X.K=K:=by rfl):DI X tg a (iTup K ta) (jbc wa):=by subst hK;exact jzn ha
theorem jx1 {es:List Expr} {k:Nat} {t:TGs} {n:Nat} {r:DTGs} (h:DGs X es t r) (hc:X.calm=true:=by rfl) (hK:X.K=K:=by rfl)
  (hn:(Co es X.env).length=n:=by rfl) (hst:(Co es X.env).findIdx? (·.1)=none:=by rfl):DG X (.Tuple es k pos) (gTup K n t) (jci n r):=by subst hK;exact jzq h hc hn hst
end
end DL
namespace KS
open PySem PySem.W PyProof.Rows
def run {α:Type} (c:Nat->Nat->Bool):KasT α->α
 |.ret a=>a
 |.ask i j k=>run c (k (c i j))
structure Ord (lt:Nat->Nat->Bool):Prop where
 asym:∀i j,lt i j=true->lt j i=false
 ltr:∀i j k,lt j i=false->lt k j=false->lt k i=false
section
variable {lt:Nat->Nat->Bool} (O:Ord lt)
def g (p:Array Nat) (i:Nat):Nat:=p.getD i 0
def SP (lt:Nat->Nat->Bool) (p:Array Nat) (n:Nat):Prop:=∀i j,i < j->j < n->lt (g p j) (g p i)=false
end
end KS
namespace KS
open PySem PySem.W PySem.Calls PyProof.Rows
end KS
namespace L2
open PySem PySem.Spec PyProof.Rows PySem.W
end L2
namespace L2
open PySem PySem.Spec PyProof.Rows
end L2
namespace DL
open PySem L2 Nb
def valD (kvs:List (Key×Aa)) (k:Key):Option Aa:=(kvs.find? λkv=>decide (kv.1=k)).map (·.2)
section
variable {X:Cx} {a b c e o i f:Expr} {ta tb te td ty tx:TE} {wa wb we wd' wy wx:DT} {pos p:Pos} {K:Ab}
def jvk (wd wy wx:DT):DT:=λδ n Q=>wd δ n λx n1=>match x with
 |.dk kvs=>wy δ n1 λy n2=>wx δ n2 λz n3=>match y,z with
  |.d (.str k),.d z=>Q (.d ((valD kvs (.inr k)).getD z)) n3
  |_,_=>False
 |_=>False
end
end DL
namespace L2
open PySem PySem.Spec PyProof.Rows PySem.SeqAt
end L2
namespace DL
open PySem L2 Nb
section
variable {X:Cx} {K:Ab}
def rXX (K:Ab) (f:Aa->Aa->Option Bool):R2:=λx y H Q=>∃d e b,RdD K H x d/\RdD K H y e/\d.canLay0=true/\e.canLay0=true/\d.depth<=20/\e.depth<=20/\f d e=some b/\Q (.bl b) H
theorem j0u (hu:X.A.units+64 < cLine) (hK:X.K=K:=by rfl):OpR X (A2 .Eq) (rXX K λd e=>some (B1 d e)):=by
 subst hK;intro pins s σ H x y v u Q I rx ry h;obtain⟨d,e,b,h1,h2,h3,h4,h5,h6,h7,q⟩:=h;cases h7;obtain⟨as,r1⟩:=RdD.reads I h1 rx;obtain⟨bs,r2⟩:=RdD.reads I h2 ry;exact SeqAt.compareEq_reads r1 r2 h3 h4 (by omega) ⟨.bl _,H,I,rfl,q⟩
theorem jw5 (hu:X.A.units+64 < cLine) (hK:X.K=K:=by rfl):OpR X (A2 .NotEq) (rXX K λd e=>some (!B1 d e)):=by
 subst hK;intro pins s σ H x y v u Q I rx ry h;obtain⟨d,e,b,h1,h2,h3,h4,h5,h6,h7,q⟩:=h;cases h7;obtain⟨as,r1⟩:=RdD.reads I h1 rx;obtain⟨bs,r2⟩:=RdD.reads I h2 ry;exact SeqAt.compareNe_reads r1 r2 h3 h4 (by omega) ⟨.bl _,H,I,rfl,q⟩
def gXX (f:Aa->Aa->Option Bool):Wv->Wv->Int->DQ->Prop:=λx y n Q=>match x,y with
 |.d d,.d e=>d.canLay0=true/\e.canLay0=true/\d.depth<=20/\e.depth<=20/\∃b,f d e=some b/\Q (.d (.bool b)) n
 |_,_=>False
theorem js4 {f:Aa->Aa->Option Bool}:SndO (rXX K f) (gXX f):=λC H B σ δ n x y p q Q Q' R rx ry h1 k=>by
 unfold gXX at h1
 split at h1
 ·rename_i d e;obtain⟨a1,a2,a3,a4,b,a5,a6⟩:=h1;exact⟨d,e,b,RdX.rd rx,RdX.rd ry,a1,a2,a3,a4,a5,k _ _ H n R (Kp.refl _ _) (wd (.bl b)) a6⟩
 ·exact h1.elim
end
end DL
namespace L2
open PySem PySem.Spec PyProof.Rows PySem.W
end L2
namespace DL
open PySem L2 Nb
section
variable {X:Cx} {o:Expr} {td:TE} {wd':DT} {pos p p2 ip:Pos} {W:Bz}
def upT (ys:List Str):Prop:=ys.Pairwise λa b=>¬b.cps.toList < a.cps.toList
def jsb (w:DT):DTF:=λδ n Q=>w δ n λx n1=>∃ks:List Str,(x=.d (.list (ks.map .str))\/x=.d (.tuple (ks.map .str)))/\ks.length < 64/\(∀k∈ks,k.length<=1000) /\
 ∀ys:List Str,ys.Nodup->(∀k,k∈ys↔k∈ks)->upT ys->Q (ys.map .str) n1
def jon (c:DTT) (W:DST):DST:=λδ n K=>∃I:Nat->Sl->Int->Prop,(∃m,I m δ n)/\∀m δ n,I m δ n ->
 c δ n λb n1=>if b=true then W δ n1 {nx:=λδ n=>∃m',m' < m/\I m' δ n,rt:=K.rt,bk:=K.nx,ct:=λδ n=>∃m',m' < m/\I m' δ n,rn:=K.rn}else K.nx δ n1
theorem jt2 {c:Expr} {body:List Stmt} {tc:TT} {tb:TS} {cc:DTT} {V':DST} (hc:DC X c tc cc) (hb:DSs X body tb V') (hp:PassesOwn (A8 X.prog X.w) X.A X.env X.xe:=by exact PassesOwn.never):DS X (.While c body [] pos) (js1 tc tb) (jon cc V'):=⟨jrh hp hc.pt hb.ps,λC H B σ δ n K D R q E=>by
 obtain⟨I,⟨m0,i0⟩,turn⟩:=q;refine⟨λm σ H=>∃B δ n,Rel C H B σ δ n/\I m δ n,⟨m0,B,δ,n,R,i0⟩,λm σ H ⟨B,δ,n,R,i⟩=>?_⟩;refine hc.sd C H B σ δ n _ _ R (turn m δ n i) λb H1 n1 R1 k1 q1=>?_;cases b with
 |true =>
  rw[if_pos rfl]at q1 ⊢;refine⟨λσ' H'=>∃m',m' < m/\∃B δ n,Rel C H' B σ' δ n/\I m' δ n,λσ' H' z=>z,?_⟩;refine hb.sd C H1 B σ δ n1 _ _ R1 q1 ⟨?_,E.rt,?_,?_,E.rn⟩
  ·exact λH B σ δ n R ⟨m',hm,z⟩=>⟨m',hm,B,δ,n,R,z⟩
  ·exact E.nx
  ·exact λH B σ δ n R ⟨m',hm,z⟩=>⟨m',hm,B,δ,n,R,z⟩
 |false =>
  rw[if_neg Af]at q1 ⊢;exact E.nx H1 B σ δ n1 R1 q1⟩
variable {a:Expr} {ta:TE} {wa:DT} {K:Ab}
end
section
variable {X:Cx} {a b c e o i f:Expr} {ta tb te td ty tx:TE} {wa wb we wd' wy wx:DT} {pos p:Pos} {K:Ab}
def jd4 (i:Nat):DT:=λδ n Q=>match δ[i]? with
 |some (some (.own ds))=>Q (.ln ds) n
 |some (some (.w x))=>Q x n
 |_=>False
theorem jya (i:Nat) {x:Str} {p:Pos} (hN:X.N[i]?=some x:=by rfl) (hv:Vis X.env.scope x:=by first | exact Cq rfl | exact By (Cq rfl) | exact By (By rfl)) (hd:(x==("__debug__":Str))=false:=by decide)
  (hcd:(x==("__classdict__":Str))=false:=by decide):DE X (.Name x p) (tVar i) (jd4 i):=⟨jfd hN hv hd hcd,λC H B σ δ n Q Q' R h k=>by
 unfold jd4 at h
 split at h
 ·rename_i ds e;obtain⟨v,h1,a,xs,rfl,g2,g3,g4,g5,g6⟩:=R.sl i _ e;exact⟨_,h1,k _ (.ln ds) H n R (Kp.refl _ _) ⟨a,xs,rfl,g2,λz=>R.t0 (z▸g4),g5,g6⟩ h⟩
 ·rename_i x e;obtain⟨v,h1,h2⟩:=R.sl i _ e;exact⟨v,h1,k v x H n R (Kp.refl _ _) h2.1 h⟩
 ·exact h.elim⟩
def gIxL:Wv->Wv->Int->DQ->Prop:=λx y n Q=>match x with
 |.ln ds=>match y with
  |.d (.int i)=>match atI ds i with
   |some d=>Q (.d d) n
   |none=>False
  |_=>False
 |x=>gIx x y n Q
theorem jtu:SndO (rIx K) gIxL:=λC H B σ δ n x y p q Q Q' R rx ry h1 k=>by
 cases p with
 |ln ds =>
  unfold gIxL at h1;dsimp only at h1
  split at h1
  ·rename_i i
   split at h1
   ·rename_i d e;cases(show RdX H B y (.int i)from ry);obtain⟨ay,ys,rfl,e1,e2,e3,e4⟩:=rx;obtain⟨v,f1,f2⟩:=jqm e4 e;exact .inl ⟨ay,ys,i,v,rfl,rfl,SqL.of e1,f1,k _ _ H n R (Kp.refl _ _) (wd f2) h1⟩
   ·exact h1.elim
  ·exact h1.elim
 |d _=>exact jkl C H B σ δ n x y _ q Q Q' R rx ry h1 k
 |tp=>exact jkl C H B σ δ n x y _ q Q Q' R rx ry h1 k
 |dk _=>exact jkl C H B σ δ n x y _ q Q Q' R rx ry h1 k
 |ob _=>exact jkl C H B σ δ n x y _ q Q Q' R rx ry h1 k
theorem j0a (ha:DE X a ta wa) (hb:DE X b tb wb) (hK:X.K=K:=by rfl) (hs:jj6 b:=by exact λ_ _=>rfl):DE X (.Subscript a b pos) (tOp (rIx K) ta tb) (w2 wa wb gIxL):=by
 subst hK;exact⟨jfz jps ha.pe hb.pe hs,jkj jtu ha.sd hb.sd⟩
def gInL (neg:Bool):Wv->Wv->Int->DQ->Prop:=λx y n Q=>match y with
 |.ln ds=>match x with
  |.d a=>jhx a=true/\ds.all jhx=true/\Q (.d (.bool (if neg then !inD a ds else inD a ds))) n
  |_=>False
 |y=>gIn neg x y n Q
theorem jtw {neg:Bool}:SndO (rIn K neg) (gInL neg):=λC H B σ δ n x y p q Q Q' R rx ry h1 k=>by
 cases q with
 |ln ds =>
  unfold gInL at h1;dsimp only at h1
  split at h1
  ·rename_i da;obtain⟨f1,f2,q⟩:=h1;have rx:RdX H B x da:=rx;obtain⟨ay,ys,rfl,e1,e2,e3,e4⟩:=ry;refine⟨ay,ys,rfl,.inl (SqL.of e1),jji rx f1,jf7 e4 f2,?_⟩;rw[jm1 rx e4];exact k _ _ H n R (Kp.refl _ _) (wd (.bl _)) q
  ·exact h1.elim
 |d _=>exact jkm C H B σ δ n x y p _ Q Q' R rx ry h1 k
 |tp=>exact jkm C H B σ δ n x y p _ Q Q' R rx ry h1 k
 |dk _=>exact jkm C H B σ δ n x y p _ Q Q' R rx ry h1 k
 |ob _=>exact jkm C H B σ δ n x y p _ Q Q' R rx ry h1 k
def jez:List Wv->Int->DQ->Prop:=λxs n Q=>match xs with
 |[.ln ds]=>Q (.d (.int ds.length)) n
 |xs=>gLen xs n Q
theorem jq1:SndB (jt5 K) jez:=λC H B σ δ n vs xs Q Q' R r h k=>by
 unfold jez at h
 split at h
 ·rename_i ds;cases r with
  |cons r1 r2 =>
   cases r2;obtain⟨ay,ys,rfl,e1,e2,e3,e4⟩:=r1;refine .inr ⟨ay,ys,rfl,.inl (SqL.of e1),?_⟩;rw[e4.len];exact k _ _ H n R (Kp.refl _ _) (wd (.int _)) h
 ·exact jml C H B σ δ n vs xs Q Q' R r h k
def gEqL:Wv->Wv->Int->DQ->Prop:=λx y n Q=>match x,y with
 |.ln ds,.d (.list [])=>Q (.d (.bool ds.isEmpty)) n
 |x,y=>gEq x y n Q
theorem jtx:SndO (rEqK K) gEqL:=λC H B σ δ n x y p q Q Q' R rx ry h1 k=>by
 unfold gEqL at h1
 split at h1
 ·rename_i ds;obtain⟨ax,xs,rfl,e1,e2,e3,e4⟩:=rx;cases(show RdX H B y (.list [])from ry)with
  |@lst ay ys _ f1 f2 f3 f4 =>
   cases f4;refine .inr (.inr ⟨ax,ay,xs,rfl,rfl,SqL.of e1,SqL.of f1,?_⟩);have:xs.isEmpty=ds.isEmpty:=by cases e4<;>rfl
   rw[this];exact k _ _ H n R (Kp.refl _ _) (wd (.bl _)) h1
 ·exact jly C H B σ δ n x y p q Q Q' R rx ry h1 k
def lsOf:Wv->Option (List Aa)
 |.ln ds=>some ds
 |.d (.list ds)=>some ds
 |_=>none
def gCat:Wv->Wv->Int->DQ->Prop:=λx y n Q=>match lsOf x,lsOf y with
 |some i,some j=>i.length+j.length<=An/\Q (.d (.list (i++j))) n
 |_,_=>False
theorem jpn {H:Hp} {B:Addr->Prop} {t:Addr} {v:V} {x:Wv} {ds:List Aa} (h:WRel H B t v x) (e:lsOf x=some ds):∃a xs,v=.ref a/\H a=some (.lst xs)/\xs.length<=An/\RdXs H B xs ds:=by
 cases x with
 |ln es =>
  cases e;obtain⟨a,xs,h1,h2,h3,h4,h5⟩:=h;exact⟨a,xs,h1,h2,h4,h5⟩
 |d y =>
  cases y with
  |list es =>
   cases e;cases(show RdX H B v (.list ds)from h)with
   |@lst a xs _ e1 e2 e3 e4=>exact⟨a,xs,rfl,e1,e3,e4⟩
  |_=>cases e
 |tp=>cases e
 |dk _=>cases e
 |ob _=>cases e
theorem jty:SndO rCat gCat:=λC H B σ δ n x y p q Q Q' R rx ry h1 k=>by
 unfold gCat at h1
 split at h1
 ·rename_i i j ei ej;obtain⟨ax,xs,rfl,e1,e3,e4⟩:=jpn rx ei;obtain⟨ay,ys,rfl,f1,f3,f4⟩:=jpn ry ej;obtain⟨hl,q⟩:=h1;have hl':xs.length+ys.length<=An:=by rw[e4.len,f4.len];exact hl
  refine⟨ax,ay,xs,ys,rfl,rfl,e1,f1,hl',λpn hp=>?_⟩;refine k _ _ _ n (R.new hp) (Kp.new hp) (wd (show RdX _ B _ (.list (i++j))from .lst jaj (R.nb hp) (by rw[Al];exact hl') ?_)) q;exact((e4.append f4).fresh hp).less λb z=>.inl z
 ·exact h1.elim
theorem j0e (ha:DE X a ta wa) (hb:DE X b tb wb):DE X (.BinOp a .Add b pos) (tOp rCat ta tb) (w2 wa wb gCat):=d_op jtb jty ha hb
end
section
variable {X:Cx} {a b c e o i f:Expr} {ta tb te td ty tx:TE} {wa wb we wd' wy wx:DT} {pos p:Pos} {K:Ab}
def sUnp (w:DT) (g:DTG):DST:=λδ n K=>w δ n λx n1=>match x with
 |.d d=>g d δ λδ'=>K.nx δ' n1
 |_=>False
theorem jy1 {tg:Expr} {g:TG} {gd:DTG} (he:DE X e te we) (hg:DG X tg g gd) (hs:swapsWithSole [tg] e pos.line X.env=pure false:=by rfl) (hw:swappedStores [tg] e X.env=pure none:=by rfl)
  (h1:(Co [tg] X.env).map (·.2)=[assign tg X.env]:=by rfl):DS X (.Assign [tg] e pos) (tAsg te g) (sUnp we gd):=⟨jkr he.pe hg.pg hs hw h1,λC H B σ δ n K D R q E =>
 he.sd C H B σ δ n _ _ R q λv x H1 n1 R1 k1 r1 q1=>by
  cases x with
  |d d=>exact hg.sd C H1 B σ δ n1 v d _ _ R1 r1 q1 λσ' δ' R' q'=>E.nx _ _ _ _ _ R' q'
  |tp=>exact q1.elim
  |dk _=>exact q1.elim
  |ln _=>exact q1.elim
  |ob _=>exact q1.elim⟩
def sqOf:Wv->Option (List Aa)
 |.ln ds=>some ds
 |.d (.list ds)=>some ds
 |.d (.tuple ds)=>some ds
 |_=>none
theorem jvw {H:Hp} {B:Addr->Prop} {t:Addr} {v:V} {x:Wv} {ds:List Aa} (h:WRel H B t v x) (e:sqOf x=some ds):∃a xs,v=.ref a/\(SqL K H a xs\/SqT K H a xs)/\xs.length<=An/\RdXs H B xs ds:=by
 cases x with
 |ln es =>
  cases e;obtain⟨a,xs,h1,h2,h3,h4,h5⟩:=h;exact⟨a,xs,h1,.inl (SqL.of h2),h4,h5⟩
 |d y =>
  cases y with
  |list es =>
   cases e;cases(show RdX H B v (.list ds)from h)with
   |@lst a xs _ e1 e2 e3 e4=>exact⟨a,xs,rfl,.inl (SqL.of e1),e3,e4⟩
  |tuple es =>
   cases e;cases(show RdX H B v (.tuple ds)from h)with
   |@tup a xs _ e1 e2 e3 e4=>exact⟨a,xs,rfl,.inr (SqT.of e1),e3,e4⟩
  |_=>cases e
 |tp=>cases e
 |dk _=>cases e
 |ob _=>cases e
def jgp (w:DT):DTF:=λδ n Q=>w δ n λx n1=>match sqOf x with
 |some ds=>Q ds n1
 |none=>False
theorem jsa (hg:Gl X "list") (hm:X.mg "list"=none) (ho:DE X o td wd') (hK:X.K=K:=by rfl) (he:Ay [o] X.env=(false,eval o X.env)::Ay [] X.env:=by rfl) (hpl:(Di pos (Ay [] X.env)).any (·.1)=false:=by rfl) :
  DF X (.Call (.Name "list" p) [o] [] pos) (tCB (jov K) (jfx td tNil)) (jgp wd') :=
 ⟨jks (jii hK) hg hm jme (jay ho.pe jcn he) (by decide) (by decide) he hpl,λC H B σ δ n Q Q' R q k=>ho.sd C H B σ δ n _ _ R q λv x H1 n1 R1 k1 r1 q1=>by
  split at q1
  ·rename_i ds ex;obtain⟨a,xs,rfl,h1,h2,h3⟩:=jvw (K:=K) r1 ex;refine⟨a,xs,rfl,h1,λl hl=>?_⟩;exact k l xs ds _ n1 (R1.new hl) (k1.trans (Kp.new hl)) (R1.was k1 hl) jaj h2 (h3.fresh hl) q1
  ·exact q1.elim⟩
def jcc:List Wv->Int->DQ->Prop:=λxs n Q=>match xs with
 |[.ln ds]=>Q (.d (.tuple ds)) n
 |xs=>jeg xs n Q
theorem jnj:SndB (jl1 K) jcc:=λC H B σ δ n vs xs Q Q' R r h k=>by
 unfold jcc at h
 split at h
 ·rename_i ds;cases r with
  |cons r1 r2 =>
   cases r2;obtain⟨ay,ys,rfl,e1,e2,e3,e4⟩:=r1;refine⟨ay,ys,rfl,.inl ⟨SqL.of e1,λl hl=>?_⟩⟩;refine k _ _ _ n (R.new hl) (Kp.new hl) (wd (show RdX _ B _ (.tuple ds)from .tup jaj (R.nb hl) e3 ?_)) h;exact(e4.fresh hl).less λb z=>.inl z
 ·exact jh8 C H B σ δ n vs xs Q Q' R r h k
def sExt (i:Nat) (w:DT):DST:=λδ n K=>match δ[i]? with
 |some (some (.own ds))=>w δ n λx n1=>match x with
  |.d (.list es)=>(ds.length < 1000000/\es.length < 1000000)/\K.nx (δ.set i (some (.own (ds++es)))) n1
  |_=>False
 |_=>False
theorem jjj {n m:Nat} (h:n < 1000000) (h':m < 1000000):n+m<=An:=by
 have:2000000<=An:=by decide
 omega
def occB (i j:Str):Bool:=!(D1 j i 0 j.length 1).isEmpty
def gInS (neg:Bool):Wv->Wv->Int->DQ->Prop:=λx y n Q=>match x,y with
 |.d (.str i),.d (.str j)=>Q (.d (.bool (if neg then !occB i j else occB i j))) n
 |_,_=>False
theorem jvj (H:Hp) (B:Addr->Prop):RdXs H B jst jqn:=.cons .non (.cons .non (.cons .non (.cons (.int _) (.cons (.int _) (.cons (.int _) (.cons (.int _) .nil))))))
def wTp3 (i:Nat):DT:=λδ n Q=>match δ[i]? with
 |some (some (.w .tp))=>Q (.ln jqn) n
 |_=>False
theorem jz1 (i:Nat) {x:Str} {ix:Int} {p p2:Pos} {jj} (hK:X.K=K:=by rfl) (hN:X.N[i]?=some x:=by rfl) (hv:Vis X.env.scope x:=by first | exact Cq rfl | exact By (Cq rfl) | exact By (By rfl)) (hd:(x==("__debug__":Str))=false:=by decide)
  (hcd:(x==("__classdict__":Str))=false:=by decide):DE X (.Subscript (.Name x p) (.Constant (.int 3) jj p2) pos) (tOp (rIx K) (tVar i) (tC (.int 3))) (wTp3 i):=by
 subst hK;refine⟨jfz jps (jfd hN hv hd hcd) jas (λ_ _=>rfl),λC H B σ δ n Q Q' R h k=>?_⟩;unfold wTp3 at h
 split at h
 ·rename_i e;obtain⟨v,h1,h2⟩:=R.sl i _ e;cases(show v=.ref C.t from h2.1);obtain⟨a,b,ho,_⟩:=R.tp.ob;refine⟨_,h1,.inl ⟨C.t,_,3,.ref C.l.g,rfl,rfl,SqL.of ho,ja7 (j:=3) rfl,k _ (.ln jqn) H n R (Kp.refl _ _) ⟨C.l.g,jst,rfl,R.tp.ag rfl,R.tp.gne,by decide,jvj _ _⟩ h⟩⟩
 ·exact h.elim
end
end DL
namespace L2
open PySem PySem.Spec PyProof.Rows
end L2
namespace DL
open PySem L2 Nb
end DL
namespace HT
open PySem PyProof.Rows
open PySem.SeqAt
open PySem.AutoSeq1 (wpAny_loadPart')
open PySem.MeetsSeq PySem.MeetsSeq2 PySem.MeetsSeq3
section
variable {prog:Bi} {w:Bz} {A:Ce} {E:Ae->Ah->Prop} {s:Ah}
theorem getItem_tuple_whole {t sl:Addr} {items:Array Ae} {vl vu:Ae} {lo hi:Option Int} {Q:Ae->Ah->Prop} (ht:IsTup s.heap t items) (hs:s.heap.IsSliceOf sl vl vu .none) (pl:IsPart vl lo) (pu:IsPart vu hi)
  (h0:sIx items.size 0 lo=0) (h1:sIx items.size items.size hi=items.size) (h:Q (.ref t) s):A5 (A8 prog w) A (getItem (.ref t) (.ref sl)) Q E s:=by
 obtain⟨os,hos,hcs,hds⟩:=id hs;have hTs:s.TypeIs (.ref sl) "slice":=⟨os,hos,hcs⟩;unfold getItem
 try with_reducible refine Dz ?_
 first | refine Aj (Ar ?_) | skip
 refine Aj (wpAny_sequenceKey ht.typeIs (by decide) ?_);refine Aj (D6 (name:=Str.ofString "__getitem__") ht.typeIs Bv
  (wpAny_call_entry Bv ht.typeIs entry_tuple_getitem ?_ (args_tuple_getitem _ _)))
 show A5 _ _ (C5 (.ref t)>>=_) _ _ s;refine Aj (tupleItemsOf_ ht ?_);refine Aj (wpAny_typeOf hTs ?_);rw[if_pos (by decide)];refine Aj (jcm hs pl pu ?_);have hyes:(((sIx items.size 0 lo:Nat):Int)==0&&(1:Int)==1&&(sIx items.size items.size hi - sIx items.size 0 lo)==items.size)=true:=by
  rw[h0,h1];simp
 show A5 _ _ (if (((sIx items.size 0 lo:Nat):Int)==0&&(1:Int)==1&&(sIx items.size items.size hi - sIx items.size 0 lo)==items.size)=true then _ else _) _ _ s;rw[if_pos hyes];unfold Builtin.Tuple.tupleIsExact;refine Aj (Aj (wpAny_typeOf ht.typeIs (Ar ?_)));rw[if_pos (by decide)];exact Aj (wpAny_rule (Ar ⟨_,rfl,Ar h⟩))
end
end HT
namespace L2
open PySem PySem.Spec PyProof.Rows
def rSlW (K:Ab):V->Option Int->Option Int->Hp->VK->Prop:=λx lo hi H Q=>∃a xs,x=.ref a/\SqT K H a xs/\HT.sIx xs.length 0 lo=0/\HT.sIx xs.length xs.length hi=xs.length/\Q (.ref a) H
theorem jq5 {X:Cx}:SlR X (rSlW X.K):=by
 intro pins s σ H x v vl vu lo hi sl Q I rx hs pl pu h;obtain⟨a,xs,rfl,hx,h0,h1,q⟩:=h;cases rx;obtain⟨its,r,ht,hz⟩:=I.tuple hx;have hlen:its.toArray.size=xs.length:=by rw[Ai];exact r.length.symm
 refine⟨"tuple",_,PyProof.Rows.slot_tuple_getitem.lookup,ht.typeIs,?_⟩;exact HT.getItem_tuple_whole ht hs pl pu (by rw[hlen];exact h0) (by rw[hlen];exact h1) ⟨.ref a,H,I,rfl,q⟩
end L2
namespace DL
open PySem L2 Nb
section
variable {X:Cx} {e:Expr} {te:TE} {we:DT} {pos p2:Pos} {K:Ab} {lo hi:Option Expr}
abbrev DTO:=Sl->Int->(Option Int->Int->Prop)->Prop
def jbb:DTO:=λ_ n Q=>Q none n
def jba (w:DT):DTO:=λδ n Q=>w δ n λx n1=>match x with
 |.d (.int i)=>Q (some i) n1
 |_=>False
def j0r (t:TO) (w:DTO):Prop:=∀(C:Ctx) (H:Hp) (B:Addr->Prop) (σ:St) (δ:Sl) (n:Int) (Q:Option Int->Int->Prop) (Q':Option Int->Hp->Prop),Rel C H B σ δ n->w δ n Q ->
 (∀o H' n',Rel C H' B σ δ n'->Kp C.t H H'->Q o n'->Q' o H')->t σ H Q'
structure DOp (X:Cx) (o:Option Expr) (t:TO) (w:DTO):Prop where
 po:PO X o t
 sd:j0r t w
theorem jxe:DOp X none joc jbb:=⟨jo2,λC H B σ δ n Q Q' R q k=>k none H n R (Kp.refl _ _) q⟩
theorem jxd (h:DE X e te we):DOp X (some e) (jvr te) (jba we):=⟨jo1 h.pe,λC H B σ δ n Q Q' R q k=>h.sd C H B σ δ n _ _ R q λv x H1 n1 R1 k1 r1 q1=>by
 split at q1
 ·rename_i i;cases(show RdX H1 B v (.int i)from r1);exact⟨i,rfl,k (some i) H1 n1 R1 k1 q1⟩
 ·exact q1.elim⟩
def cutD (xs:List Aa) (lo hi:Option Int):List Aa:=(xs.drop (HT.sIx xs.length 0 lo)).take (HT.sIx xs.length xs.length hi - HT.sIx xs.length 0 lo)
def jav (w:DT) (l u:DTO):DT:=λδ n Q=>w δ n λx n1=>l δ n1 λa n2=>u δ n2 λb n3=>match x with
 |.d (.tuple ds)=>Q (.d (.tuple (cutD ds a b))) n3
 |_=>False
def rSlA (K:Ab):V->Option Int->Option Int->Hp->VK->Prop:=λx lo hi H Q=>rSlT K x lo hi H Q\/rSlW K x lo hi H Q
theorem ju2 {tl th:TO} {wl wh:DTO} (he:DE X e te we) (hl:DOp X lo tl wl) (hh:DOp X hi th wh) (hK:X.K=K:=by rfl):DE X (.Subscript e (.Slice lo hi none p2) pos) (tSl (rSlA K) te tl th) (jav we wl wh):=by
 subst hK;refine⟨jms (sl_tup.or jq5) he.pe hl.po hh.po,λC H B σ δ n Q Q' R q k=>he.sd C H B σ δ n _ _ R q λv x H1 n1 R1 k1 r1 q1 =>
  hl.sd C H1 B σ δ n1 _ _ R1 q1 λa H2 n2 R2 k2 q2=>hh.sd C H2 B σ δ n2 _ _ R2 q2 λb H3 n3 R3 k3 q3=>?_⟩
 split at q3
 ·rename_i ds;have r3:RdX H3 B v (.tuple ds):=(r1.kp k2 R1.bt).kp k3 R2.bt;cases r3 with
  |@tup aa xs _ e1 e2 e3 e4 =>
   have kk:=(k1.trans k2).trans k3;by_cases hw:HT.sIx xs.length 0 a=0/\HT.sIx xs.length xs.length b=xs.length
   ·refine .inr ⟨aa,xs,rfl,SqT.of e1,hw.1,hw.2,k _ _ H3 n3 R3 kk (wd (show RdX H3 B _ (.tuple ds)from .tup e1 e2 e3 e4)) ?_⟩;have:cutD ds a b=ds:=by
     unfold cutD;rw[<-e4.len,hw.1,hw.2,List.drop_zero,Nat.sub_zero,e4.len,List.take_length]
    rw[this]at q3;exact q3
   ·refine .inl ⟨aa,xs,rfl,SqT.of e1,hw,λp hp=>?_⟩;refine k _ _ _ n3 (R3.new hp) (kk.trans (Kp.new hp)) (wd (show RdX _ B _ (.tuple (cutD ds a b))from .tup jaj (R3.nb hp) (Bk (jdv xs a b) e3) ?_)) q3;unfold cutD cutV;rw[<-e4.len];exact(((e4.drop _).take _).fresh hp).less λb z=>.inl z
 ·exact q3.elim
end
end DL
namespace Nb
open PySem L2
section
variable {X:Cx}
theorem ju1 (S it:Addr) (mine:Array Ae) (n:Nat) {o:Obj} (items:Array Ae) (n2:Nat) (hc:o.cls=.type "tuple") (hd:o.data=.seq items n2)
  (hlong:¬(!mine.isEmpty&&Ct (mine.size+items.size))=true) (hz1:mine.size<=An) (hz2:mine.size+items.size<=An+1) (hz3:items.size<=An) :
  Meets (Builtin.«list.extend» ⟨[.ref S,.ref it],[]⟩) (λ_ R s=>s.heap.get? S=some {cls:=.type "list",data:=.seq mine n}/\s.heap.get? it=some o/\R (.ok (.ret Du)) {s with heap:=s.heap.update S (Obj.mapSeq λx=>x++items),toks:=s.toks}):=λprog w A R s h=>by
 obtain⟨hS,ho,hR⟩:=h;show A5 _ A.in1 (Builtin.List.listExtendWith (.ref S) (.ref it) .none) _ _ s;unfold Builtin.List.listExtendWith;refine Aj (wpAny_typeOf ⟨o,ho,hc⟩ ?_);have h1:(Builtin.List.listSameRef (.ref S) (.ref it) || Value.type "tuple"==Value.type "list" || Value.type "tuple"==Value.type "tuple")=true:=by simp
 simp only[h1,if_true];refine Aj ?_;unfold Builtin.List.listItems;refine Aj (wpAny_seqItems ho hd (Ar ?_));refine Aj ?_;refine Aj (wpAny_seqItems hS rfl (Ar ?_));simp only[hlong];show A5 _ A.in1 (updateSeq S (·++items)>>=λ_=>ret Du) _ _ s;refine Aj (wpAny_updateSeq hS rfl ?_ hz1 (by rw[Array.size_append];exact hz2));exact Ar hR
def jmp:V->List V->Hp->VK->Prop:=λx vs H Q=>∃l b xs zs,x=.ref l/\vs=[.ref b]/\H l=some (.lst xs)/\H b=some (.tup zs)/\xs.length+zs.length<=An/\Q .non (upd H l (.lst (xs++zs)))
theorem jnq:MtM X "list.extend" jmp:=by
 intro pins s σ H x vs v us Q I rx rv h;obtain⟨l,b,xs,zs,rfl,rfl,hH,hB,hz,q⟩:=h;cases rx;obtain⟨u,rfl,ru⟩:=rv.one;cases ru;obtain⟨z,its,n,r,hl,e⟩:=I.lstM hH;obtain⟨its2,r2,⟨o2,e2,c2,n2,d2⟩,z2⟩:=I.tuple (SqT.of hB);have hl2:=r2.length;have hsz:its.toArray.size+its2.toArray.size<=An:=by rw[Ai,Ai];omega
 have hlong:¬(!its.toArray.isEmpty&&Ct (its.toArray.size+its2.toArray.size))=true:=by
  rw[jmw hsz,Bool.and_false];exact Af
 refine call_meets F.slot_list_extend ⟨_,e,rfl⟩ F.entry_list_extend (F.args_list_extend_2 _ _)
  (ju1 l b its.toArray n its2.toArray n2 c2 d2 hlong (by rw[Ai];omega) (by omega) (by rw[Ai];omega)) ⟨e,e2,?_⟩
 refine⟨.non,_,I.lset (its':=its++its2) hH e (by simp) (r.append r2) ?_,rfl,q⟩;rw[Al];omega
end
end Nb
namespace DL
open PySem L2 Nb
section
variable {X:Cx} {tg a b c e o i f:Expr} {ta tb te td ty tx:TE} {wa wb we wd' wy wx:DT} {pos p:Pos} {K:Ab}
def jq9 (i:Nat) (w:DT):DST:=λδ n K=>match δ[i]? with
 |some (some (.own ds))=>w δ n λx n1=>match x with
  |.d (.tuple es)=>(ds.length < 1000000/\es.length < 1000000)/\K.nx (δ.set i (some (.own (ds++es)))) n1
  |_=>False
 |_=>False
theorem jv8 {i:Nat} {x:Str} {xp ap cp:Pos} (hN:X.N[i]?=some x) (he:DE X e te we) (hv:Vis X.env.scope x:=by first | exact Cq rfl | exact By (Cq rfl) | exact By (By rfl)) (hd:(x==("__debug__":Str))=false:=by decide)
  (hcd:(x==("__classdict__":Str))=false:=by decide)
  (hbase:attributeBase (.Name x xp) "extend" X.env (eval (.Name x xp) X.env)=eval (.Name x xp) X.env:=by rfl)
  (hfew:((Di cp (Ay [e] X.env)).all (λx=>!x.1)&&(backToKw cp (keywordEach [] X.env)).all (λx=>x.1.isSome)
   && decide ([e].length+([]:List Keyword).length+(if ([]:List Keyword).isEmpty then 0 else 1) < 30))=true:=by rfl)
  (hline:(ap.endLine==cp.line)=true:=by rfl) (hs:Ay [e] X.env=[(false,eval e X.env)]:=by rfl) (hplain:(Di cp (Ay [] X.env)).any (·.1)=false:=by rfl)
  (hsw:Dt (.Call (.Attribute (.Name x xp) "extend" ap) [e] [] cp) none pos.line X.env=pure false:=by rfl) :
  DS X (.Expr (.Call (.Attribute (.Name x xp) "extend" ap) [e] [] cp) pos) (jto (tBM X.K "list" jmp (tVar i) (jfx te tNil))) (jq9 i we) :=
 ⟨joz (jw0 D5 PySem.F.slot_list_extend PySem.F.type_list_extend jnq (jfd hN hv hd hcd) (jay he.pe jcn hs) hbase hfew hline hs hplain) hsw,λC H B σ δ n K D R q E=>by
  unfold jq9 at q
  split at q
  ·rename_i ds ei;obtain⟨v,hv,a,xs,rfl,e2,e3,e4,e5,e6⟩:=R.sl i _ ei;refine⟨_,hv,.inl ⟨rfl,_,SqL.of e2⟩,he.sd C H B σ δ n _ _ R q λu y H1 n1 R1 k1 r1 q1=>?_⟩
   split at q1
   ·rename_i es;have hat:a≠C.t:=λz=>R.t0 (z▸e4);have e2':=k1 _ _ e2 hat;cases(show RdX H1 B u (.tuple es)from r1)with
    |@tup b zs _ f1 f2 f3 f4 =>
     have hl:xs.length+zs.length<=An:=by rw[e6.len,f4.len];exact jjj q1.1.1 q1.1.2
     refine⟨a,b,xs,zs,rfl,rfl,e2',f1,hl,?_⟩;refine E.nx _ _ _ _ _ (R1.mutOwn ei rfl hv e3 e4 ?_ rfl) q1.2;refine⟨a,xs++zs,rfl,jaj,e3,e4,by rw[Al];exact hl,?_⟩;refine RdXs.keep (λb o e n=>?_) ((e6.kp k1 R.bt).append f4);rw[jai λ(z:b=a)=>n (z▸e3)];exact e
   ·exact q1.elim
  ·exact q.elim⟩
end
section
variable {X:Cx} {e:Expr} {es:List Expr} {pos p:Pos} {tR:TA} {wR:DTA} {te:TE} {we:DT}
theorem RdXs.rev {H:Hp} {B:Addr->Prop}:∀{vs:List V} {ds:List Aa},RdXs H B vs ds->RdXs H B vs.reverse ds.reverse
 |_,_,.nil=>.nil
 |_,_,.cons h r=>by
  rw[List.reverse_cons,List.reverse_cons];exact(RdXs.rev r).append (.cons h .nil)
end
end DL
namespace Nb
open PySem L2
end Nb
namespace DL
open PySem L2 Nb
section
variable {X:Cx} {a b c e o i f:Expr} {ta tb te ty:TE} {wa wb we wy:DT} {pos p xp:Pos} {K:Ab} {D:List (Str×Str)} {q:Addr} {x:Str}
theorem jry {n:Nat} (h:n<=1000):n<=An:=Bk h (by decide)
end
end DL
namespace L2
open PySem PySem.Spec PyProof.Rows PySem.SeqAt PySem.W
end L2
namespace L2
open PySem PySem.Spec PyProof.Rows
end L2
namespace L2
open PySem PySem.Spec PyProof.Rows PySem.W
end L2
namespace L2
open PySem PySem.Spec PyProof.Rows
theorem jqg {X:Cx} (hh:X.A.handled=none):CallR X (.builtin "sum") (λxs H Q=>∃(p:Addr) (ns:List Int),xs=[.ref p]/\H p=some (.lst (ns.map V.int))/\Q (.int ns.sum) H):=by
 intro pins s σ H xs us Q I r h;obtain⟨p,ns,rfl,hp,q⟩:=h;obtain⟨u,rfl,ru⟩:=jj8 r;cases(show u=Bx p from ru);obtain⟨its,rv,pl,_⟩:=I.list (SqL.of (K:=X.K) hp);have hi:IntsAre its ns:=jnv rv;have hl:s.heap.IsList p its.toArray:=pl.isList;have hall:AllInts its.toArray:=hi.allInts;obtain⟨ys,e⟩:=hall.items;have hn:(ys.toList.map (·.1))=ns:=by
  have:=hi.numsOf;rw[show its=its.toArray.toList from rfl,e,nums_intItems]at this;exact this
 rw[e]at hl;refine sum_intListG hh hl λh' tk t' hk=>?_;rw[preSum_eq,List.take_of_length_le (by simp),hn];exact⟨.int ns.sum,H,I.kept hk,⟨_,rfl⟩,q⟩
end L2
namespace L2
open PySem PySem.Spec PyProof.Rows PySem.SeqAt PySem.W
end L2
namespace DL
open PySem L2 Nb
end DL
namespace L2
open PySem PySem.Spec PyProof.Rows PySem.SeqAt PySem.W
end L2
namespace DL
open PySem L2 Nb
end DL
namespace HT
open PySem PyProof.Rows
section
variable {prog:Bi} {w:Bz} {A:Ce} {E:Ae->Ah->Prop} {s:Ah}
theorem jn0 (n:Nat):B9 none none (-1) (n:Int)=((n:Int) - 1,-1):=by
 unfold B9;simp
theorem jnm (n:Nat):Bq ((n:Int) - 1) (-1) (-1)=n:=by
 unfold Bq;simp only[show ¬((-1:Int) > 0) by decide,if_false];by_cases h:n=0
 ·subst h;rfl
 ·have h1:(-1:Int) < (n:Int) - 1:=by omega
  have h2:((n:Int) - 1 - -1 - 1) / - -1+1=(n:Int):=by simp;try omega
  have h3:((n:Int) - 1 > -1):=by omega
  simp only[h3,if_true];rw[h2];exact Ck n
theorem jfy {sl:Addr} {t:Tok} {n:Nat} {Q:Int×Int×Nat->Ah->Prop} (hs:s.heap.IsSliceOf sl .none .none (.int (-1) t)) (h:Q ((n:Int) - 1,-1,n) s) :
  A5 (A8 prog w) A (C6 (.ref sl) (pure (n:Int))) Q E s:=by
 obtain⟨os,hos,hcs,hds⟩:=id hs;unfold C6 Builtin.Slice.sliceFields;refine Aj (Aj (wpAny_field hos hds (x:=.none) rfl (Aj (wpAny_field hos hds (x:=.none) rfl (Aj (wpAny_field hos hds (x:=.int (-1) t) rfl (Ar ?_)))))));refine Aj (slicePart_int ?_);show A5 _ _ (if ((-1:Int)==0)=true then _ else _) _ _ s;rw[if_neg (by decide)];refine Aj (slicePart_none (Aj (slicePart_none (Aj (Ar ?_)))));show A5 _ _ (match B9 none none (-1) (n:Int)with | (lo,hi)=>pure (lo,(-1:Int),Bq lo hi (-1))) _ _ s;rw[jn0 n];show A5 _ _ (pure ((n:Int) - 1,(-1:Int),Bq ((n:Int) - 1) (-1) (-1))) _ _ s;rw[jnm];exact Ar h
theorem jrj (xs:Array Ae):((Cr xs.size).filterMap λ(m:Nat)=>xs[((xs.size:Int) - 1+(m:Int)*(-1)).toNat]?).toArray=xs.toList.reverse.toArray:=by
 congr 1
 have e:∀m∈Cr xs.size,xs[((xs.size:Int) - 1+(m:Int)*(-1)).toNat]?=some (xs.getD (xs.size - 1 - m) Du):=λm hm=>by
  have hm:=Cs.mp hm;have e1:((xs.size:Int) - 1+(m:Int)*(-1)).toNat=xs.size - 1 - m:=by omega
  have e2:xs.size - 1 - m < xs.size:=by omega
  rw[e1,Array.getElem?_eq_getElem e2];simp[e2]
 have fm:∀l:List Nat,(∀m∈l,m∈Cr xs.size)->(l.filterMap λ(m:Nat)=>xs[((xs.size:Int) - 1+(m:Int)*(-1)).toNat]?)=l.map λm=>xs.getD (xs.size - 1 - m) Du:=by
  intro l
  induction l with
  |nil=>intro _;rfl
  |cons m r ih =>
   intro hm;rw[Dx,e m (hm m Ba),A3,ih λk hk=>hm k (Bg _ hk)]
 rw[fm _ λm hm=>hm];apply List.ext_getElem
 ·simp
 ·intro i h1 h2;simp at h1;have:xs.size - 1 - i < xs.size:=by omega
  simp[List.getElem_reverse,this]
theorem getItem_tuple_rev {t sl:Addr} {items:Array Ae} {tk:Tok} {Q:Ae->Ah->Prop} (ht:IsTup s.heap t items) (hs:s.heap.IsSliceOf sl .none .none (.int (-1) tk))
  (h:Q (.ref s.heap.objs.size) {s with heap:=s.heap.push {cls:=.type "tuple",data:=.seq items.toList.reverse.toArray}}) (hsz:items.size<=An):A5 (A8 prog w) A (getItem (.ref t) (.ref sl)) Q E s:=by
 have htake:sizeOk (.seq items.toList.reverse.toArray):=by
  show items.toList.reverse.toArray.size<=An;rw[Ai,Dw,Dv];exact hsz
 obtain⟨os,hos,hcs,hds⟩:=id hs;have hTs:s.TypeIs (.ref sl) "slice":=⟨os,hos,hcs⟩;unfold getItem
 try with_reducible refine Dz ?_
 first | refine Aj (Ar ?_) | skip
 refine Aj (wpAny_sequenceKey ht.typeIs (by decide) ?_);refine Aj (D6 (name:=Str.ofString "__getitem__") ht.typeIs Bv
  (wpAny_call_entry Bv ht.typeIs entry_tuple_getitem ?_ (args_tuple_getitem _ _)))
 show A5 _ _ (C5 (.ref t)>>=_) _ _ s;refine Aj (tupleItemsOf_ ht ?_);refine Aj (wpAny_typeOf hTs ?_);rw[if_pos (by decide)];refine Aj (jfy hs ?_);have hno:¬(((items.size:Int) - 1==0&&(-1:Int)==1&&items.size==items.size)=true):=by
  intro q;rw[Av,Av]at q;exact absurd q.1.2 (by decide)
 show A5 _ _ (if ((items.size:Int) - 1==0&&(-1:Int)==1&&items.size==items.size)=true then _ else _) _ _ s;rw[if_neg hno,jrj]
 first
  |exact Aj (m:=Br _) (B7 (Ar ⟨_,rfl,Ar h⟩) htake)
  |exact Aj (m:=Br _) (B7 (Aj (Ar (Ar ⟨_,rfl,Ar h⟩))) htake)
  |exact Aj (Aj (m:=Br _) (B7 (Ar (Ar ⟨_,rfl,Ar h⟩)) htake))
  |exact Aj (Aj (m:=Br _) (B7 (Ar ⟨_,rfl,Ar h⟩) htake))
end
end HT
namespace L2
open PySem PySem.Spec PyProof.Rows
section
variable {X:Cx} {e st:Expr} {te ts:TE} {pos p2:Pos}
def jvq (K:Ab) (te ts:TE):TE:=λσ H Q=>te σ H λx H1=>ts σ H1 λy H2=>∃a xs,x=.ref a/\y=.int (-1)/\SqT K H2 a xs/\∀p,H2 p=none->Q (.ref p) (upd H2 p (.tup xs.reverse))
theorem jww (he:PE X e te) (hs:PE X st ts) (hev:evalPart (some st) X.env=eval st X.env:=by rfl):PE X (.Subscript e (.Slice none none (some st) p2) pos) (jvq X.K te ts):=by
 intro pins s σ H Q I h;refine Subscript_ (thn (he pins s σ H _ I h) λv s1 ⟨x,H1,I1,r1,q1⟩=>?_);refine wpAny_Slice ?_;rw[evalPart_none];refine Ar (Ar ?_);rw[hev];refine thn (hs pins s1 σ H1 _ I1 q1) λvs s3 ⟨y,H3,I3,ry,a,xs,ex,ey,hx,q⟩=>?_;subst ex;subst ey;cases r1;obtain⟨tk,rfl⟩:=ry;have I4:Inv X pins σ H3 {s3 with heap:=s3.heap.push {cls:=.type "slice",data:=.fields #[.none,.none,.int (-1) tk]}}:=I3.kept (t':=s3.toks) λb ob q=>Ao _ q;obtain⟨its,r,ht,hz⟩:=I4.tuple hx;have hlen:its.toArray.size=xs.length:=by rw[Ai];exact r.length.symm
 show A5 (A8 X.prog X.w) X.A (subscriptTail e (.Slice none none (some st) p2) (.ref a) (.ref s3.heap.objs.size)) (EP X pins σ Q) X.xe {s3 with heap:=s3.heap.push {cls:=.type "slice",data:=.fields #[.none,.none,.int (-1) tk]}};refine tail_any (ops:=[.ref a,.ref s3.heap.objs.size]) ht.typeIs PyProof.Rows.slot_tuple_getitem.lookup (HT.getItem_tuple_rev ht (Heap.IsSliceOf.new ..) ?_ (by rw[hlen];exact hz)) (by with_unfolding_all rfl);refine⟨.ref _,_,I4.laid (t':=s3.toks) (o:=.tup xs.reverse) (λb ob q=>Ao _ q) (As _) ?_,rfl,q _ (I4.hok.fresh (As _))⟩;exact⟨by rw[Dw];exact hz,its.reverse,r.reverse,IsTupP.new _ _⟩
end
end L2
namespace DL
open PySem L2 Nb
section
variable {X:Cx} {a b c e o i f:Expr} {ta tb te td ty tx:TE} {wa wb we wd' wy wx:DT} {pos p p2 p3 p4:Pos} {K:Ab}
def wRev (w:DT):DT:=λδ n Q=>w δ n λx n1=>match x with
 |.d (.tuple ds)=>Q (.d (.tuple ds.reverse)) n1
 |_=>False
theorem jz4 {jj} (he:DE X e te we) (hK:X.K=K:=by rfl):DE X (.Subscript e (.Slice none none (some (.UnaryOp .USub (.Constant (.int 1) jj p3) p4)) p2) pos) (jvq K te (tUn (rU λi=>.int (-i)) (tC (.int 1)))) (wRev we):=by
 subst hK;refine⟨jww he.pe (jwt jsy jas),λC H B σ δ n Q Q' R q k=>he.sd C H B σ δ n _ _ R q λv x H1 n1 R1 k1 r1 q1=>?_⟩
 split at q1
 ·rename_i ds;cases(show RdX H1 B v (.tuple ds)from r1)with
  |@tup ay ys _ e1 e2 e3 e4 =>
   refine⟨1,rfl,ay,ys,rfl,rfl,SqT.of e1,λp hp=>k _ _ _ n1 (R1.new hp) (k1.trans (Kp.new hp)) (wd (show RdX _ B _ (.tuple ds.reverse)from .tup jaj (R1.nb hp) (by rw[Dw];exact e3) ?_)) q1⟩;exact((RdXs.rev e4).fresh hp).less λb z=>.inl z
 ·exact q1.elim
end
end DL
namespace L2
open PySem PySem.Spec PyProof.Rows PySem.SeqAt
end L2
namespace DL
open PySem L2 Nb
end DL
namespace L2
open PySem PySem.Spec PyProof.Rows
end L2
namespace DL
open PySem L2 Nb
end DL
namespace L2
open PySem PySem.Spec PyProof.Rows
def jt7 (K:Ab):R2:=λx y H Q=>∃a b ys,x=.ref a/\y=.ref b/\SqT K H a []/\SqT K H b ys/\Q (.ref b) H
theorem jum {X:Cx}:OpR X (Cz .Add) (jt7 X.K):=by
 intro pins s σ H x y v u Q I rx ry h;obtain⟨a,b,ys,rfl,rfl,ha,hb,q0⟩:=h;cases(show v=Bx a from rx);cases(show u=Bx b from ry);obtain⟨its,r1,p1,_⟩:=I.tuple ha;obtain⟨its2,r2,p2,_⟩:=I.tuple hb;obtain⟨⟨cls,dd,data,sl⟩,ho,hc,n,hd⟩:=id p1;obtain⟨⟨cls2,dd2,data2,sl2⟩,ho2,hc2,n2,hd2⟩:=id p2;simp only at hc hd hc2 hd2;subst hc hd hc2 hd2;have hi:its=[]:=r1.nil_iff.mpr rfl;exact concat_meets ⟨_,ho,rfl⟩ ⟨_,ho2,rfl⟩ noFill_tuple_add seq_tuple_add Do Dn (Dm _ _)
  (tuple_addW0 a b its.toArray its2.toArray n n2 dd dd2 sl sl2 (by simp[hi])) ⟨ho,ho2,⟨.ref b,H,I,rfl,q0⟩⟩
end L2
namespace DL
open PySem L2 Nb
section
variable {X:Cx} {a b:Expr} {ta tb:TE} {wa wb:DT} {pos p:Pos} {K:Ab}
def jgo:Wv->Wv->Int->DQ->Prop:=λx y n Q=>match x,y with
 |.d (.tuple []),.d (.tuple j)=>Q (.d (.tuple j)) n
 |x,y=>gAdd x y n Q
theorem jq3:SndO (λx y H Q=>jre K x y H Q\/jt7 K x y H Q) jgo:=λC H B σ δ n x y p q Q Q' R rx ry h1 k=>by
 unfold jgo at h1
 split at h1
 ·rename_i j;cases(show RdX H B x (.tuple [])from rx)with
  |@tup ax xs _ e1 e2 e3 e4 =>
   cases(show RdX H B y (.tuple j)from ry)with
   |@tup ay ys _ f1 f2 f3 f4 =>
    cases e4;exact .inr ⟨ax,ay,ys,rfl,rfl,SqT.of e1,SqT.of f1,k _ _ H n R (Kp.refl _ _) (wd (show RdX H B _ (.tuple j)from .tup f1 f2 f3 f4)) h1⟩
 ·exact .inl (jq4 C H B σ δ n x y _ _ Q Q' R rx ry h1 k)
theorem jyf (ha:DE X a ta wa) (hb:DE X b tb wb) (hK:X.K=K:=by rfl):DE X (.BinOp a .Add b pos) (tOp (λx y H Q=>jre K x y H Q\/jt7 K x y H Q) ta tb) (w2 wa wb jgo):=by
 subst hK;exact d_op (op_addA.or jum) jq3 ha hb
end
end DL
namespace L2
open PySem PySem.Spec PyProof.Rows
end L2
namespace DL
open PySem L2 Nb
end DL
namespace L2
open PySem PySem.Spec PyProof.Rows
end L2
namespace DL
open PySem L2 Nb
end DL
namespace L2
open PySem PySem.Spec PyProof.Rows
theorem jnk (bs:List Bool):((Cr bs.length).any λi=>(bs[i]?).getD true)=bs.any id:=by
 apply C8.mpr;rw[List.any_eq_true,List.any_eq_true]
 constructor
 ·rintro⟨i,hi,e⟩
  have hi':=Cs.mp hi;rw[Am hi']at e;exact⟨_,List.getElem_mem hi',e⟩
 ·rintro⟨b,hb,e⟩
  obtain⟨i,hi⟩:=List.mem_iff_getElem?.mp hb;exact⟨i,Cs.mpr (Bf.mp hi).1,by rw[hi];exact e⟩
theorem jqi {X:Cx} (hh:X.A.handled=none):CallR X (.builtin "any") (λxs H Q=>∃(p:Addr) (bs:List Bool),xs=[.ref p]/\H p=some (.lst (bs.map V.bl))/\Q (.bl (bs.any id)) H):=by
 intro pins s σ H xs us Q I r h;obtain⟨p,bs,rfl,hp,q⟩:=h;obtain⟨u,rfl,ru⟩:=jj8 r;cases(show u=Bx p from ru);obtain⟨its,rv,pl,_⟩:=I.list (SqL.of (K:=X.K) hp);have hl:s.heap.IsList p its.toArray:=pl.isList;have hlt:p < s.heap.objs.size:=by obtain⟨_,e,_⟩:=hl;exact Au e
 have hlen:bs.length=its.length:=by have:=rv.length;rwa [Ag]at this
 refine call_any_walk (wpAny_pyIter_list hl ?_);refine⟨s.heap.objs.size,[s.heap.objs.size,p],[s.heap.objs.size],its.toArray.size,_,_,λi=>(bs[i]?).getD true,rfl,Walks.list (A:=X.A.in1) hh _ p (Bj hlt) its.toArray,
  ⟨⟨_,Bn _ rfl,rfl,rfl⟩,hl.push _⟩,λi v s' Q' E' hP hQ=>?_,λh' tk hk=>?_⟩
 ·have hi:its[i]?=some v:=by simpa using hP
  have hib:i < bs.length:=by rw[hlen];exact(Bf.mp hi).1
  have hx:(bs.map V.bl)[i]?=some (V.bl bs[i]):=by simp[hib]
  obtain⟨u,hu,ru⟩:=rv.get hx;rw[hi]at hu;cases(A9 hu);cases(show v=Value.bool bs[i]from ru);dsimp only at hQ;rw[Am hib,Option.getD_some]at hQ;exact Bt hQ
 ·have e:((Cr its.toArray.size).any λi=>(bs[i]?).getD true)=bs.any id:=by
   rw[Ai,<-hlen];exact jnk bs
  rw[e];refine⟨.bl (bs.any id),H,I.kept λb x e=>hk b x (λhm=>?_) (Ao _ e),rfl,q⟩;rw[Ax.mp hm]at e;exact De _ (Au e)
end L2
namespace DL
open PySem L2 Nb
def gAny:List Wv->Int->DQ->Prop:=λxs n Q=>match xs with
 |[.d (.list ds)]=>match jbr ds with
  |some bs=>Q (.d (.bool (bs.any id))) n
  |none=>False
 |_=>False
theorem jtz:SndB (λxs H Q=>∃(p:Addr) (bs:List Bool),xs=[.ref p]/\H p=some (.lst (bs.map V.bl))/\Q (.bl (bs.any id)) H) gAny:=λC H B σ δ n vs xs Q Q' R r h k=>by
 unfold gAny at h
 split at h
 ·rename_i ds
  split at h
  ·rename_i bs e;cases r with
   |cons r1 r2 =>
    cases r2;cases(show RdX H B _ (.list ds)from r1)with
    |@lst ay ys _ e1 e2 e3 e4 =>
     exact⟨ay,bs,rfl,by rw[<-jjq e4 e];exact e1,k _ _ H n R (Kp.refl _ _) (wd (.bl _)) h⟩
  ·exact h.elim
 ·exact h.elim
theorem jyl:Bh "any"=some (.builtin "any"):=by decide +kernel
end DL
namespace L2
open PySem PySem.Spec PyProof.Rows
section
variable {X:Cx} {e st:Expr} {te ts:TE} {pos p2:Pos}
def js7:List V->Hp->VK->Prop:=λxs H Q=>∃b,xs=[.bl b]/\Q (.str (if b then "True" else "False")) H
theorem jnz:CallR X (.builtin "repr") js7:=by
 intro pins s σ H xs us Q I r h;obtain⟨b,rfl,q⟩:=h;obtain⟨u,rfl,ru⟩:=jj8 r;cases ru;exact P.repr_of_bool ⟨.str _,H,I.tok _,⟨_,rfl⟩,q⟩
end
end L2
namespace DL
open PySem L2 Nb
section
variable {X:Cx} {e:Expr} {te:TE} {we:DT} {pos p p2 p3 p4:Pos} {K:Ab}
def j0v (w:DT):DT:=λδ n Q=>w δ n λx n1=>match x with
 |.d (.list ds)=>Q (.d (.list ds.reverse)) n1
 |_=>False
def jff:List Wv->Int->DQ->Prop:=λxs n Q=>match xs with
 |[.d (.bool b)]=>Q (.d (.str (if b then "True" else "False"))) n
 |_=>False
theorem jog:SndB js7 jff:=λC H B σ δ n vs xs Q Q' R r h k=>by
 unfold jff at h
 split at h
 ·rename_i b;cases r with
  |cons r1 r2 =>
   cases r2;cases(show RdX H B _ (.bool b)from r1);exact⟨b,rfl,k _ _ H n R (Kp.refl _ _) (wd (.str _ (by cases b<;>exact jry (by decide +kernel)))) h⟩
 ·exact h.elim
end
theorem jye {X:Cx} {a b:Expr} {ta tb:TE} {wa wb:DT} {pos:Pos} (ha:DE X a ta wa) (hb:DE X b tb wb):DE X (.BinOp a .Add b pos) (tOp (rI0 λi j=>.int (i+j)) ta tb) (w2 wa wb (gI0 λi j=>.int (i+j))):=d_op op_add (joh λ_ _ _ _=>.int _) ha hb
def jmb:List Aa->Option (List Int)
 |[]=>some []
 |.int i::r=>(jmb r).map (i::·)
 |_::_=>none
theorem jpy {H:Hp} {B:Addr->Prop}:∀{vs:List V} {ds:List Aa} {ns:List Int},RdXs H B vs ds->jmb ds=some ns->vs=ns.map V.int
 |_,_,ns,.nil,e=>by cases e;rfl
 |_,d::r,ns,.cons h t,e=>by
  cases h with
  |int i =>
   have e:(jmb r).map (i::·)=some ns:=e;cases q:jmb r with
   |none=>rw[q]at e;cases e
   |some ms=>rw[q]at e;cases e;rw[jpy t q];rfl
  |_=>cases e
def gSum:List Wv->Int->DQ->Prop:=λxs n Q=>match xs with
 |[.d (.list ds)]=>∃ns,jmb ds=some ns/\Q (.d (.int ns.sum)) n
 |_=>False
theorem jtq:SndB (λxs H Q=>∃(p:Addr) (ns:List Int),xs=[.ref p]/\H p=some (.lst (ns.map V.int))/\Q (.int ns.sum) H) gSum:=λC H B σ δ n vs xs Q Q' R r h k=>by
 unfold gSum at h
 split at h
 ·rename_i ds;obtain⟨ns,e,h⟩:=h;cases r with
  |cons r1 r2 =>
   cases r2;cases(show RdX H B _ (.list ds)from r1)with
   |@lst ay ys _ e1 e2 e3 e4 =>
    exact⟨ay,ns,rfl,by rw[<-jpy e4 e];exact e1,k _ _ H n R (Kp.refl _ _) (wd (.int _)) h⟩
 ·exact h.elim
end DL
namespace L2
open PySem PySem.Spec PyProof.Rows
end L2
namespace DL
open PySem L2 Nb
end DL
namespace L2
open PySem PySem.Spec PyProof.Rows
end L2
namespace DL
open PySem L2 Nb
end DL
namespace L2
open PySem PySem.Spec
end L2
namespace L2
open PySem PySem.Spec PyProof.Rows
theorem jme:Bh "list"=some (.type "list"):=by decide +kernel
end L2
namespace DL
open PySem L2 Nb
end DL
namespace L2
open PySem PySem.Spec
theorem jf0:fillsNumberSlot (.type "tuple") "mul"=pure false :=
 fillsNumberSlot_seq (id:="tuple.__mul__") (r:=some (.builtin "tuple.__rmul__")) F.slot_tuple_mul.lookup (by decide +kernel) F.slot_tuple_rmul.lookup (by decide +kernel)
theorem jkp:seqRepeat? (.type "tuple")=pure (some (.builtin "tuple.__mul__")):=by
 unfold seqRepeat?;rw[seqSlot_of (T:="tuple") (name:="__mul__") (id:="tuple.__mul__") F.slot_tuple_mul.lookup (by decide +kernel),seqSlot_of (T:="tuple") (name:="__rmul__") (id:="tuple.__rmul__") F.slot_tuple_rmul.lookup (by decide +kernel)];rfl
theorem jhn (a:Int) (t:Tok) (l:Addr) (items:Array Ae) (n:Nat) (dd:Option Addr) (sl:Array (Option Ae)) :
  Meets (Builtin.«int.__rmul__» ⟨[.int a t,.ref l],[]⟩) (λ_ R s=>s.heap.get? l=some {cls:=.type "tuple",dict:=dd,data:=.seq items n,slots:=sl}/\R (.ok (.ret Value.notImplemented)) s) :=
 .of_wp λprog w A R s h=>by
  obtain⟨hp,g,d,tk,os⟩:=s;obtain⟨hl,h⟩:=h
  wp_walk
  exact⟨_,rfl,h⟩
theorem ji3 (l:Addr) (items:Array Ae) (m:Nat) (dd:Option Addr) (sl:Array (Option Ae)) (k:Int) (t:Tok) (he:items.isEmpty=false) (h2:2<=k) (hk:k < 2 ^ 63) (hm:¬((items.size:Int)*k > (2 ^ 63 - 1) / 8)) (ht:Builtin.Tuple.tupleTooMany ((items.size:Int)*k)=false) (hf:¬((Ap k.toNat items).foldl (·++·) #[]).size > An) :
  Meets (Builtin.«tuple.__mul__» ⟨[.ref l,.int k t],[]⟩) (λ_ R s=>s.heap.get? l=some {cls:=.type "tuple",dict:=dd,data:=.seq items m,slots:=sl} /\
   R (.ok (.ret (.ref s.heap.objs.size))) {s with heap:=s.heap.push {cls:=.type "tuple",data:=.seq ((Ap k.toNat items).foldl (·++·) #[])}}) :=
 .of_wp λprog w A R s h=>by
  obtain⟨hp,g,d,tk,os⟩:=s;obtain⟨hl,h⟩:=h
  wp_walk
  have c1:¬((decide (k < -2 ^ 63) || decide (k ≥ 2 ^ 63))=true):=by simp;omega
  have c2:¬((items.isEmpty || k==1)=true):=by simp[he];omega
  have c3:¬((decide (k<=0) || items.isEmpty)=true):=by simp[he];omega
  rw[if_neg c1];refine Aj ?_;unfold C5;refine Aj (wpAny_seqItems hl rfl (Ar ?_));rw[if_neg c2];simp only[if_neg c3,if_neg hm,ht,C7,if_false]
  wp_walk
  exact⟨_,rfl,h⟩
section
variable {X:Cx}
def jwh (K:Ab):R2:=λx y H Q=>∃l k xs,x=.ref l/\y=.int k/\SqT K H l xs/\xs≠[]/\2<=k/\k<=1000/\xs.length<=1000 /\
 ∀p,H p=none->Q (.ref p) (upd H p (.tup (Ap k.toNat xs).flatten))
theorem juj:OpR X (Cz .Mult) (jwh X.K):=by
 intro pins s σ H x y v u Q I rx ry h;obtain⟨l,k,xs,rfl,rfl,hH,hne,h2,h3,hz,q⟩:=h;cases rx;obtain⟨t,rfl⟩:=ry;obtain⟨its,r,⟨o,e,hc,n,hd⟩,z⟩:=I.tuple hH;obtain⟨c,dd,da,sl⟩:=o;cases hc;cases hd;have hl:=r.length;have h0:its.length≠0:=λz=>hne (List.eq_nil_of_length_eq_zero (by omega));have hs:its.toArray.size=its.length:=Ai;have f0:List.foldl (λx1 x2=>x1++x2) #[] (Ap k.toNat its.toArray)=(Ap k.toNat its).flatten.toArray:=by
  have:=jk4 its k.toNat [];rw[Cj]at this;exact this
 have hfl:(Ap k.toNat its).flatten.length<=1000*1000:=by
  rw[jl4];exact Nat.mul_le_mul (by omega) (by omega)
 have hmul:(its.toArray.size:Int)*k<=1000*1000:=Int.mul_le_mul (by omega) h3 (by omega) (by omega);have hsl:(1000*1000:Nat)<=An:=by decide
 refine wpAny_binaryOp_repeat_ref (T:="tuple") (U:="int") (by decide) ⟨_,e,rfl⟩ (λs'=>typeIs_int s' k t) jf0 F.fills_int_mul F.slot_int_rmul jkp F.slot_int_index.lookup
  (call_meets F.slot_int_rmul (typeIs_int s k t) F.entry_int_rmul (F.args_int_rmul_2 _ _) (jhn k t l its.toArray n dd sl)
   ⟨e,rfl,⟨_,e,rfl⟩,call_meets F.slot_tuple_mul ⟨_,e,rfl⟩ F.entry_tuple_mul (F.args_tuple_mul_2 _ _) (ji3 l its.toArray n dd sl k t (by cases its with | nil=>exact absurd rfl h0 | cons a b=>rfl) h2 (by omega) (by omega) (decide_eq_false (by omega)) (by rw[f0,Ai];omega)) ⟨e,?_⟩⟩)
 rw[f0];have T:(s.heap.push {cls:=.type "tuple",data:=.seq (Ap k.toNat its).flatten.toArray}).get? s.heap.objs.size=some {cls:=.type "tuple",data:=.seq (Ap k.toNat its).flatten.toArray}:=Bn _ rfl;refine⟨.ref _,_,I.laid (t':=s.toks) (o:=.tup (Ap k.toNat xs).flatten) (λb ob q=>Ao _ q) (As _) ⟨by rw[jl4];exact Bk (Nat.mul_le_mul (by omega) hz) hsl,_,r.rep k.toNat,⟨_,T,rfl,⟨_,rfl⟩,rfl⟩⟩,rfl,q _ (I.hok.fresh (As _))⟩
end
end L2
namespace DL
open PySem L2 Nb
section
variable {X:Cx} {pos:Pos}
def joo (i j:Nat):DST:=λδ n K=>i≠j/\match δ[j]? with
 |some (some (.own es))=>∃(ds:List Aa) (y:Aa),es=ds++[y]/\K.nx ((δ.set j (some (.own ds))).set i (some (.w (.d y)))) n
 |_=>False
theorem jot {H:Hp} {B:Addr->Prop}:∀{vs:List V} {ds:List Aa} {y:Aa},RdXs H B vs (ds++[y])->∃us w,vs=us++[w]/\RdXs H B us ds/\RdX H B w y
 |_,[],y,.cons h r=>by
  cases r;exact⟨[],_,rfl,.nil,h⟩
 |_,d::ds,y,.cons h r=>by
  obtain⟨us,w,rfl,h1,h2⟩:=jot (ds:=ds) r;exact⟨_::us,w,rfl,.cons h h1,h2⟩
theorem jq7 {i j:Nat} {x y:Str} {xp yp ap cp:Pos} (hN:X.N.Nodup) (hi:X.N[i]?=some x) (hx:Loc X.env.scope x) (hj:X.N[j]?=some y)
  (hs:Dt (.Call (.Attribute (.Name y yp) "pop" ap) [] [] cp) (some (.Name x xp)) pos.line X.env=pure false:=by rfl) (hf:X.fn x=true\/X.env.scope.names.lookup x=some .local:=by first | exact .inl rfl | exact .inr rfl | assumption)
  (hv:Vis X.env.scope y:=by first | exact Cq rfl | exact By (Cq rfl) | exact By (By rfl)) (hd:(y==("__debug__":Str))=false:=by decide) (hcd:(y==("__classdict__":Str))=false:=by decide)
  (hbase:attributeBase (.Name y yp) "pop" X.env (eval (.Name y yp) X.env)=eval (.Name y yp) X.env:=by rfl) (hline:(ap.endLine==cp.line)=true:=by rfl) :
  DS X (.Assign [.Name x xp] (.Call (.Attribute (.Name y yp) "pop" ap) [] [] cp) pos) (tAsg (tBM0 X.K "list" rPop (tVar j)) (jey i)) (joo i j) :=
 ⟨jd7 hN hi hx (jwz D5 PySem.F.slot_list_pop PySem.F.type_list_pop jxg (jfd hj hv hd hcd) hbase hline) hs hf,λC H B σ δ n K D R q E=>by
  obtain⟨hij,q⟩:=q
  split at q
  ·rename_i es ej;obtain⟨ds,yy,rfl,kq⟩:=q;obtain⟨v',hv',a',xs',rfl,f2,f3,f4,f5,f6⟩:=R.sl j _ ej;obtain⟨us,w,rfl,h1,h2⟩:=jot f6;have keep:∀b o,H b=some o->¬B b->upd H a' (.lst us) b=some o:=λb o e n=>by
    rw[jai λ(z:b=a')=>n (z▸f3)];exact e
   have hlen:us.length<=An:=by rw[Al]at f5;omega
   have R2:Rel C (upd H a' (.lst us)) B σ (δ.set j (some (.own ds))) n:=by
    refine R.mutOwn ej rfl hv' f3 f4 ?_ rfl;exact⟨a',us,rfl,jaj,f3,f4,hlen,RdXs.keep keep h1⟩
   refine⟨_,hv',.inl ⟨rfl,_,SqL.of f2⟩,a',us++[w],w,rfl,rfl,f2,by simp,?_⟩;rw[List.dropLast_concat];exact E.nx _ _ _ _ _ (R2.set (x:=.d yy) (RdX.move (λb o e nb=>⟨keep b o e nb,nb⟩) h2) rfl) kq
  ·exact q.elim⟩
def jt3 (i:Nat) (w:DT):DST:=λδ n K=>∃a:Int,δ[i]?=some (some (.w (.d (.int a))))/\w δ n λy n1=>∃b:Int,y=.d (.int b)/\K.nx (δ.set i (some (.w (.d (.int (a+b)))))) n1
theorem jwa {i:Nat} {x:Str} {xp:Pos} {e:Expr} {te:TE} {we:DT} (hN:X.N.Nodup) (hi:X.N[i]?=some x) (hx:Loc X.env.scope x) (he:DE X e te we) (hf:X.fn x=true\/X.env.scope.names.lookup x=some .local:=by first | exact .inl rfl | exact .inr rfl | assumption) :
  DS X (.AugAssign (.Name x xp) .Add e pos) (tAug i te (ipI λi j=>i+j)) (jt3 i we):=⟨jwp hN hi hx he.pe jxs hf,λC H B σ δ n K D R q E=>by
 obtain⟨a,ei,q⟩:=q;obtain⟨v,hv,r,_⟩:=R.sl i _ ei;cases(show RdX H B v (.int a)from r);refine⟨_,hv,he.sd C H B σ δ n _ _ R q λu y H1 n1 R1 k1 r1 q1=>?_⟩;obtain⟨b,rfl,kq⟩:=q1;cases(show RdX H1 B u (.int b)from r1);exact⟨a,b,rfl,rfl,E.nx _ _ _ _ _ (R1.set (x:=.d (.int (a+b))) (.int _) rfl) kq⟩⟩
end
section
variable {X:Cx} {a b:Expr} {ta tb:TE} {wa wb:DT} {pos:Pos} {K:Ab}
def jm9 (wa wb:DT):DT:=λδ n Q=>wa δ n λx n1=>wb δ n1 λy n2=>∃(ds:List Aa) (k:Int),x=.d (.tuple ds)/\y=.d (.int k)/\ds≠[]/\2<=k/\k<=1000/\ds.length<=1000/\Q (.d (.tuple (Ap k.toNat ds).flatten)) n2
theorem jou {H:Hp} {B:Addr->Prop} {xs:List V} {ds:List Aa} (h:RdXs H B xs ds):∀k:Nat,RdXs H B (Ap k xs).flatten (Ap k ds).flatten
 |0=>.nil
 |k+1=>by
  rw[Cc,Cc,Cw,Cw];exact h.append (jou h k)
theorem jx9 (ha:DE X a ta wa) (hb:DE X b tb wb) (hK:X.K=K:=by rfl):DE X (.BinOp a .Mult b pos) (tOp (jwh K) ta tb) (jm9 wa wb):=by
 subst hK;refine⟨jbz juj ha.pe hb.pe,λC H B σ δ n Q Q' R z k=>ha.sd C H B σ δ n _ _ R z λv x H1 n1 R1 k1 r1 q1=>hb.sd C H1 B σ δ n1 _ _ R1 q1 λu y H2 n2 R2 k2 r2 q2=>?_⟩;obtain⟨ds,m,rfl,rfl,hne,h2,h3,hl,kq⟩:=q2;cases(show RdX H2 B u (.int m)from r2);cases(show RdX H2 B v (.tuple ds)from r1.kp k2 R1.bt)with
 |@tup l xs _ e1 e2 e3 e4 =>
  have len:=e4.len;refine⟨l,m,xs,rfl,rfl,SqT.of e1,λz=>hne (by rw[z]at len;exact List.eq_nil_of_length_eq_zero len.symm),h2,h3,by omega,λD hD=>?_⟩;have nB:=R2.nb hD;refine k _ (.d (.tuple (Ap m.toNat ds).flatten)) _ n2 (R2.new hD) ((k1.trans k2).trans (Kp.new hD)) (show RdX _ B (.ref D) (.tuple (Ap m.toNat ds).flatten)from .tup jaj nB ?_ (RdXs.keep (λb o e _=>by rw[jai (jag e hD)];exact e) (jou e4 m.toNat))) kq;rw[jl4];exact Bk (Nat.mul_le_mul (show m.toNat<=1000 by omega) (show xs.length<=1000 by omega)) (by decide)
def cTrL (w:DT):DTT:=λδ n Q=>w δ n λx n1=>match lsOf x with
 |some ds=>Q (!ds.isEmpty) n1
 |none=>False
theorem j0l {e:Expr} {te:TE} {we:DT} (h:DE X e te we) (he:∀whole,isTrue e X.env whole=(do let v <-whole;standAt e.pos;holding [v] (truthy v)):=by intro _;rfl):DC X e (λσ H Q=>te σ H λx H'=>∃k,TruV X.K x H' k/\Q k H') (cTrL we) :=
 ⟨jrf h.pe he,λC H B σ δ n Q Q' R q k=>h.sd C H B σ δ n _ _ R q λv x H1 n1 R1 k1 r1 q1=>by
  split at q1
  ·rename_i ds el;obtain⟨a,xs,rfl,e1,e3,e4⟩:=jpn r1 el;refine⟨!ds.isEmpty,.inl ⟨xs,SqL.of e1,?_⟩,k _ H1 n1 R1 k1 q1⟩;cases e4<;>rfl
  ·exact q1.elim⟩
end
section
variable {X:Cx} {K:Ab}
def inX (d e:Aa):Option Bool:=match e with
 |.tuple xs=>some (xs.any λy=>B1 y d)
 |_=>none
theorem jw7 (hu:X.A.units+64 < cLine) (hK:X.K=K:=by rfl):OpR X (A2 .In) (rXX K inX):=by
 subst hK;intro pins s σ H x y v u Q I rx ry h;obtain⟨d,e,b,h1,h2,h3,h4,h5,h6,h7,q⟩:=h;obtain⟨as,r1⟩:=RdD.reads I h1 rx;obtain⟨bs,r2⟩:=RdD.reads I h2 ry;cases e with
 |tuple xs =>
  cases h7;rw[Cp]at h4;rw[Dq]at h6;exact SeqAt.in_tuple_reads r2 r1 h4 h3 (by omega) ⟨.bl _,H,I,rfl,q⟩
 |_=>cases h7
end
end DL
namespace Nb
open PySem L2 DL
def spJ (g:Aa->Bool):DSp:=λws n Q=>match ws with
 |[.d d]=>Q (.d (.bool (g d))) n
 |_=>False
theorem jcg {g:Aa->Bool} {ws:List Wv} {n:Int} {Q:DQ} (h:spJ g ws n Q):ws.length=1:=by
 unfold spJ at h
 split at h
 ·rfl
 ·exact h.elim
def okS (c:Nat):Bool:=!decide ([c] < ("a":Str).cps.toList)&&!decide (("z":Str).cps.toList < [c])
def letB (k:Int):Aa->Bool
 |.str x=>decide ((1:Int)<=(x.length:Int))&&(decide ((x.length:Int)<=k)&&x.cps.toList.all okS)
 |_=>false
def jb2:DSp:=λws n Q=>match ws with
 |[.d d,.d (.int k)]=>Q (.d (.bool (letB k d))) n
 |_=>False
def jfb:Aa->Bool
 |.int _=>true
 |_=>false
def jbk (lo hi:Int):Aa->Bool
 |.int i=>decide (lo<=i)&&decide (i<=hi)
 |_=>false
abbrev numB:Aa->Bool:=jbk 0 99
def jcl (d:Aa):Bool:=letB 8 d || numB d
theorem jeh {w:DT} {Q:List Aa->Int->Prop} {rest:Sl} (P:Aa->Prop) (f:Aa->Aa) (h:∀d n Q',P d->Q' (.d (f d)) n->w (some (.w (.d d))::rest) n Q'):∀(items acc:List Aa) (x:Option SV) (n:Int),(∀d∈items,P d)->Q (acc++items.map f) n->jbu (jaf 0) cYes w Q items acc (x::rest) n
 |[],acc,x,n,hP,q=>by
  rw[Be,Cg]at q;exact q
 |d::r,acc,x,n,hP,q=>by
  simp only[jbu,jaf,cYes,if_true,A7];refine h d n _ (hP d Ba) ?_;refine jeh P f h r (acc++[f d]) _ n (λe he=>hP e (Bg _ he)) ?_;rw[Bw];exact q
theorem jb8 {c:DTT} {w:DT} {Q:List Aa->Int->Prop} {rest:Sl} (P:Aa->Prop) (p:Aa->Bool) (f:Aa->Aa) (hp:∀d n Q',P d->Q' (p d) n->c (some (.w (.d d))::rest) n Q') (h:∀d n Q',P d->Q' (.d (f d)) n->w (some (.w (.d d))::rest) n Q') :
  ∀(items acc:List Aa) (x:Option SV) (n:Int),(∀d∈items,P d)->Q (acc++(items.filter p).map f) n->jbu (jaf 0) c w Q items acc (x::rest) n
 |[],acc,x,n,hP,q=>by
  rw[List.filter_nil,Be,Cg]at q;exact q
 |d::r,acc,x,n,hP,q=>by
  simp only[jbu,jaf,A7];refine hp d n _ (hP d Ba) ?_;cases e:p d with
  |true =>
   rw[if_pos rfl];refine h d n _ (hP d Ba) ?_;refine jb8 P p f hp h r (acc++[f d]) _ n (λe he=>hP e (Bg _ he)) ?_;rw[List.filter_cons_of_pos e]at q;rw[Bw];exact q
  |false =>
   rw[if_neg Af];refine jb8 P p f hp h r acc _ n (λe he=>hP e (Bg _ he)) ?_;rw[List.filter_cons_of_neg (by rw[e];exact Af)]at q;exact q
def isCh (d:Aa):Prop:=∃c:Nat,d=.str ⟨#[c]⟩
theorem jsh (x:Str):∀d∈jco x,isCh d:=λd hd=>by
 obtain⟨c,_,rfl⟩:=Ca.mp hd;exact⟨c,rfl⟩
def okD:Aa->Bool
 |.str y=>!decide (y.cps.toList < ("a":Str).cps.toList)&&!decide (("z":Str).cps.toList < y.cps.toList)
 |_=>false
theorem jup (x:Str):(jco x).all okD=x.cps.toList.all okS:=by
 unfold jco;rw[List.all_map];rfl
theorem je2 {α:Type} (f:α->Bool):∀l:List α,jbr (l.map λa=>.bool (f a))=some (l.map f)
 |[]=>rfl
 |a::r=>by
  show(jbr (r.map λa=>.bool (f a))).map _=_;rw[je2 f r];rfl
theorem jtm {α:Type} (f:α->Bool) (l:List α):(l.map f).all id=l.all f:=by
 rw[List.all_map];rfl
theorem jjy {α:Type} {xs:List α} {r:Int} (h0:0<=r) (h1:r < xs.length):∃v,atI xs r=some v/\v∈xs:=by
 obtain⟨j,rfl⟩:=Cm h0;have hj:j < xs.length:=by omega
 exact⟨xs[j],ja7 (Am hj),List.getElem_mem hj⟩
end Nb
namespace DL
open PySem L2 Nb
section
variable {X:Cx}
def jwi:R2:=λx y H Q=>∃i j,x=.str i/\y=.str j/\Q (.bl (!(D1 j i 0 j.length 1).isEmpty)) H
theorem jw8:OpR X (A2 .In) jwi:=jpd
theorem jtv:SndO jwi (gInS false):=λC H B σ δ n x y p q Q Q' R rx ry h1 k=>by
 unfold gInS at h1
 split at h1
 ·rename_i i j;cases(show RdX H B x (.str i)from rx);cases(show RdX H B y (.str j)from ry);exact⟨i,j,rfl,rfl,k _ _ H n R (Kp.refl _ _) (wd (.bl _)) h1⟩
 ·exact h1.elim
end
theorem jxc (c:Nat):occB ⟨#[c]⟩ "abcdefghijklmnopqrstuvwxyz"=okS c:=by
 by_cases h:c < 128
 ·exact(show ∀c < 128,occB ⟨#[c]⟩ "abcdefghijklmnopqrstuvwxyz"=okS c by decide +kernel) c h
 ·have h1:okS c=false:=by
   unfold okS;have:decide (("z":Str).cps.toList < [c])=true:=by
    refine decide_eq_true ?_;rw[show("z":Str).cps.toList=[122] by decide +kernel];exact List.Lex.rel (by omega)
   rw[this];simp
  rw[h1];unfold occB;rw[PySem.W.occ_nil_of_no]
  ·rfl
  ·intro i hi;cases e:Builtin.Str.subAt "abcdefghijklmnopqrstuvwxyz" ⟨#[c]⟩ i with
   |false=>rfl
   |true =>
    have hm:c∈("abcdefghijklmnopqrstuvwxyz":Str).cps:=by
     have e1:=beq_iff_eq.mp e;have:c∈(⟨#[c]⟩:Str).cps:=by simp
     rw[<-e1]at this;obtain⟨k,hk,e2⟩:=Array.mem_extract_iff_getElem.mp this;rw[<-e2];exact Array.getElem_mem _
    have:=Array.all_eq_true_iff_forall_mem.mp (show("abcdefghijklmnopqrstuvwxyz":Str).cps.all (λc=>decide (c < 128))=true by decide +kernel) c hm;exact absurd (of_decide_eq_true this) h
end DL
namespace Nb
open PySem L2 DL
theorem jbt (d:Aa):isiB "int" d=match d with | .int _=>true | .bool _=>true | _=>false:=by cases d<;>rfl
theorem jbf (d:Aa):isiB "bool" d=match d with | .bool _=>true | _=>false:=by cases d<;>rfl
theorem jbs (d:Aa):isiB "str" d=match d with | .str _=>true | _=>false:=by cases d<;>rfl
theorem jaz (d:Aa):isiB "tuple" d=match d with | .tuple _=>true | _=>false:=by cases d<;>rfl
theorem jbe (d:Aa):isiB "list" d=match d with | .list _=>true | _=>false:=by cases d<;>rfl
theorem jjx {W:DST} {g:Aa->Bool} {N:List Str} (h:∀d n K,K.rt (.d (.bool (g d))) n->W (jal N [.d d]) n K):∀ws n Q,spJ g ws n Q->W (jal N ws) n {nx:=λ_ n=>Q (.d .none) n,rt:=Q}:=λws n Q q=>by
 unfold spJ at q
 split at q
 ·exact h _ n _ q
 ·exact q.elim
theorem ifb {b:Bool} {A B:Prop} (h1:b=true->A) (h2:b=false->B):if b=true then A else B:=by
 cases b with
 |true=>rw[if_pos rfl];exact h1 rfl
 |false=>rw[if_neg Af];exact h2 rfl
theorem jo8 {a b:Bool} {A:Prop} {F:Bool->Prop} (h:F (a || b)) (hA:F b->A):if a=true then F true else A:=by
 cases a with
 |true=>exact h
 |false=>exact hA h
theorem jjz {a b:Bool} {A:Prop} {F:Bool->Prop} (h:F (a&&b)) (hA:a=true->F b->A):if a=true then A else F false:=by
 cases a with
 |true=>exact hA rfl h
 |false=>exact h
theorem jnp {lo hi:Int} {d:Aa} {n:Int} {Q:DQ} (k:Q (.d (.bool (jbk lo hi d))) n) :
  if jfb d=true then(gCmp (λi j=>decide (i<=j)) (λi j=>!decide (j < i)) (.d (.int lo)) (.d d) n λz n3=>jg0 z (gCmp (λi j=>decide (i<=j)) (λi j=>!decide (j < i)) (.d d) (.d (.int hi)) n3 Q) (Q (.d (.bool false)) n3))else Q (.d (.bool false)) n:=by
 cases d with
 |int i =>
  simp only[jfb,if_true,gCmp,jbg];simp only[jbk]at k;refine ifb (λe=>?_) (λe=>?_)
  ·rw[e]at k;exact k
  ·rw[e]at k;exact k
 |_=>exact k
theorem jrz {Q:DQ} {n:Int} (x:Str) (h:Q (.d (.bool (x.cps.toList.all okS))) n):jbu (jaf 0) cYes (jaw gLe gLe (wC (.str "a")) (wVar 0) (wC (.str "z")))
  (λds n1=>match jbr ds with | some bs=>Q (.d (.bool (bs.all id))) n1 | none=>False) (jco x) [] [none] n:=by
 refine jeh isCh (λd=>.bool (okD d)) ?_ _ _ _ _ (jsh x) ?_
 ·rintro d n Q' ⟨c,rfl⟩ k
  simp only[wVar,jvk,jsb,gXX,jci,ja6,jch,wC,w2,cT,jaw,jbg,cAnd,cOr,cNot,wAnd,wOr,wNot,aNil,jaa,wTup,fLst,wOf,jad,wB,jah,sSeq,sRet,sIf,sSet,sOwn,sFrz,sApp,sFor,gI,gI0,wNeg,gAdd,gCmp,gEq,gNe,gIsN,gIn,gIx,gLen,wIsi,jzr,gAll,jeg,jmc,jjg,jbc,jdi,jax,ja0,jb5,cYes,jaf,ja3,Cu,A4,Bd,A7,Bp,A3,Be,Cb,jbt,jbf,jbs,jaz,jbe];refine ifb (λe=>?_) (λe=>?_)
  ·simp only[okD,e,Bo]at k;exact k
  ·simp only[okD,e,Bool.false_and]at k;exact k
 ·show match jbr ((jco x).map λd=>.bool (okD d))with | some bs=>Q (.d (.bool (bs.all id))) n | none=>False
  simp only[je2,jtm,jup];exact h
theorem jsd {n many:Int} {Q:DQ} (h:n < 2 ^ 40) (h0:0 < many) (h1:many < 1073741824) (k:∀r:Int,0<=r->r < many->Q (.d (.int r)) (n+1)):jao [.tp,.d (.int many)] n Q:=⟨⟨h,h0,h1⟩,k⟩
theorem jdl {ds:List Aa} {r:Int} {n:Int} {Q:DQ} (h0:0<=r) (h1:r < (ds.length:Int)) (k:∀d∈ds,Q (.d d) n):gIx (.d (.list ds)) (.d (.int r)) n Q:=by
 obtain⟨v,hv,hm⟩:=jjy h0 h1;show match atI ds r with | some d=>Q (.d d) n | none=>False
 simp only[hv];exact k v hm
theorem jqd {w:DT} {Q:List Aa->Int->Prop} {rest:Sl} (c:Nat) (h:∀d n Q',n+(c:Int) < 2 ^ 39->(∀y n',n'<=n+(c:Int)->Q' (.d y) n')->w (some (.w (.d d))::rest) n Q') :
  ∀(items acc:List Aa) (x:Option SV) (n:Int),n+(c:Int)*(items.length:Int) < 2 ^ 39->(∀ds n',n'<=n+(c:Int)*(items.length:Int)->Q ds n')->jbu (jaf 0) cYes w Q items acc (x::rest) n
 |[],acc,x,n,hn,q=>q acc n (by simp)
 |d::r,acc,x,n,hn,q=>by
  simp only[jbu,jaf,cYes,if_true,A7];rw[Ak]at hn q;have e:(c:Int)*((r.length+1:Nat):Int)=(c:Int)*(r.length:Int)+c:=by rw[Int.natCast_add,Int.mul_add];simp
  rw[e]at hn q;have hc:0<=(c:Int)*(r.length:Int):=Int.mul_nonneg (D2 _) (D2 _);refine h d n _ (by omega) λy n' hn'=>?_;exact jqd c h r (acc++[y]) _ n' (by omega) λds n'' h''=>q ds n'' (by omega)
theorem ja9 (n:Nat):(rngD 0 n).length=n:=by unfold rngD;simp
theorem je1 {w:DT} {Q:List Aa->Int->Prop} {rest:Sl} (P:Aa->Prop) (c:Nat) (h:∀d n Q',n+(c:Int) < 2 ^ 39->(∀y n',P y->n'<=n+(c:Int)->Q' (.d y) n')->w (some (.w (.d d))::rest) n Q') :
  ∀(items acc:List Aa) (x:Option SV) (n:Int),n+(c:Int)*(items.length:Int) < 2 ^ 39->(∀ds n',ds.length=items.length->(∀d∈ds,P d)->n'<=n+(c:Int)*(items.length:Int)->Q (acc++ds) n')->jbu (jaf 0) cYes w Q items acc (x::rest) n
 |[],acc,x,n,hn,q=>by
  have:=q [] n rfl (by simp) (by simp);rwa [Cg]at this
 |d::r,acc,x,n,hn,q=>by
  simp only[jbu,jaf,cYes,if_true,A7];rw[Ak]at hn q;have e:(c:Int)*((r.length+1:Nat):Int)=(c:Int)*(r.length:Int)+c:=by rw[Int.natCast_add,Int.mul_add];simp
  rw[e]at hn q;have hc:0<=(c:Int)*(r.length:Int):=Int.mul_nonneg (D2 _) (D2 _);refine h d n _ (by omega) λy n' hy hn'=>?_;refine je1 P c h r (acc++[y]) _ n' (by omega) λds n'' hl hds h''=>?_;rw[Bw];refine q (y::ds) n'' (by rw[Ak,hl]) (λd hd=>?_) (by omega);rcases Aq.mp hd with rfl | z
  ·exact hy
  ·exact hds d z
def sndD:Aa->Aa
 |.tuple (_::d::_)=>d
 |_=>.none
def ja2 (h:Str) (k:Int):Aa->Bool
 |.tuple ds=>decide ((ds.length:Int)=k)&&(match ds with | a::_=>jab h a | []=>false)
 |_=>false
def jid (h:Str) (d:Aa):Bool:=ja2 h 2 d&&letB 4 (sndD d)
def jiu (d:Aa):Bool:=if ja2 "is" 2 d=true then jcl (sndD d)else jid "as" d
def ja1 (d:Aa):Bool:=(ja2 "any" 1 d || (ja2 "word" 1 d || ja2 "number" 1 d)) || (jiu d || jid "bind" d)
def cntB:Aa->Bool
 |.tuple ds=>decide ((1:Int)<=(ds.length:Int))&&decide ((ds.length:Int)<=4)
 |_=>false
def jb7:Aa->List Aa
 |.tuple ds=>ds
 |_=>[]
def patB (d:Aa):Bool:=cntB d&&(jb7 d).all ja1
def jaq:DSp:=λws n Q=>match ws with
 |[.d d,.d (.str h),.d (.int k)]=>1<=k/\Q (.d (.bool (ja2 h k d))) n
 |_=>False
def jcj:DSp:=λws n Q=>match ws with
 |[.d d,.d (.str h)]=>Q (.d (.bool (jid h d))) n
 |_=>False
theorem eq_str (a:Aa) (h:Str):eqD a (.str h)=some (jab h a):=by cases a<;>rfl
theorem eq_int (i j:Int):eqD (.int i) (.int j)=some (decide (i=j)):=rfl
theorem at0 {α:Type} (a:α) (r:List α):atI (a::r) 0=some a:=ja7 (j:=0) rfl
theorem at1 {α:Type} (a b:α) (r:List α):atI (a::b::r) 1=some b:=ja7 (j:=1) rfl
theorem jjh {h:Str} {k:Int} {d:Aa} (e:ja2 h k d=true):∃ds,d=.tuple ds/\(ds.length:Int)=k:=by
 cases d with
 |tuple ds =>
  refine⟨ds,rfl,?_⟩;have e:(decide ((ds.length:Int)=k)&&_)=true:=e;rw[Av]at e;exact of_decide_eq_true e.1
 |_=>cases e
theorem jef {h:Str} {d:Aa} (e:ja2 h 2 d=true):∃a b,d=.tuple [a,b]:=by
 obtain⟨ds,rfl,hl⟩:=jjh e;rcases ds with _ | ⟨a,_ | ⟨b,_ | ⟨c,r⟩⟩⟩
 ·cases hl
 ·cases hl
 ·exact⟨a,b,rfl⟩
 ·simp only[Ak]at hl;omega
section
variable {δ:Sl} {n:Int} {Q:DQ} {K:DEnds} {W V:DST} {i j:Nat} {a b d:Aa} {r ds:List Aa} {h:Str}
theorem jae (h:W δ n {K with nx:=λδ n=>V δ n K}):sSeq W V δ n K:=h
theorem jac {x:Wv} (e:δ[i]?=some (some (.w x))) (k:Q x n):wVar i δ n Q:=by unfold wVar;rw[e];exact k
theorem ix_i {m:Nat} (e:δ[i]?=some (some (.w (.d (.tuple ds))))) (e2:ds[m]?=some a) (k:Q (.d a) n):w2 (wVar i) (wC (.int (m:Int))) gIx δ n Q:=by
 unfold w2;refine jac e ?_;unfold wC gIx;simp only[ja7 e2];exact k
theorem jma (e:δ[i]?=some (some (.w (.d (.tuple (a::r)))))) (k:Q (.d a) n):w2 (wVar i) (wC (.int 0)) gIx δ n Q:=ix_i (m:=0) e rfl k
theorem jc0 (e:δ[i]?=some (some (.w (.d (.tuple (a::b::r)))))) (k:Q (.d b) n):w2 (wVar i) (wC (.int 1)) gIx δ n Q:=ix_i (m:=1) e rfl k
theorem jp5 (e:δ[i]?=some (some (.w (.d (.tuple (a::r)))))) (k:Q (.d (.bool (jab h a))) n):w2 (w2 (wVar i) (wC (.int 0)) gIx) (wC (.str h)) gEq δ n Q:=by
 show w2 (wVar i) (wC (.int 0)) gIx δ n λx n1=>wC (.str h) δ n1 λy n2=>gEq x y n2 Q;refine jma e ?_;unfold wC gEq;simp only[eq_str];exact k
theorem if_i {c:DTT} (k:c δ n λb n1=>if b=true then W δ n1 K else V δ n1 K):sIf c W V δ n K:=k
end
section
variable {δ:Sl} {n:Int} {Q:DQ} {K:DEnds} {W V:DST} {i j:Nat} {a b d:Aa} {r ds:List Aa}
theorem w2_i {wa wb:DT} {g:Wv->Wv->Int->DQ->Prop} (k:wa δ n λx n1=>wb δ n1 λy n2=>g x y n2 Q):w2 wa wb g δ n Q:=k
theorem jdk {w:DT} {x:Aa} (h:∀Q:DQ,Q (.d x) n->w δ n Q) (k:K.nx (δ.set i (some (.w (.d x)))) n):sSet i w δ n K:=h _ k
theorem jgf (k:K.nx (δ.set i (some (.own []))) n):sOwn i (fLst aNil) δ n K:=⟨Bm _,k⟩
theorem g0_i (k:Q (.d a) n):gIx (.d (.tuple (a::r))) (.d (.int 0)) n Q:=by
 show(match atI (a::r) 0 with | some d=>Q (.d d) n | none=>False);rw[at0];exact k
theorem g1_i (k:Q (.d b) n):gIx (.d (.tuple (a::b::r))) (.d (.int 1)) n Q:=by
 show(match atI (a::b::r) 1 with | some d=>Q (.d d) n | none=>False);rw[at1];exact k
theorem g2_i {c:Aa} (k:Q (.d c) n):gIx (.d (.tuple (a::b::c::r))) (.d (.int 2)) n Q:=by
 show(match atI (a::b::c::r) 2 with | some d=>Q (.d d) n | none=>False);rw[show atI (a::b::c::r) 2=some c from ja7 (j:=2) rfl];exact k
theorem c_i {c:Aa} (k:Q (.d c) n):wC c δ n Q:=k
theorem b1_i {w:DT} {g:List Wv->Int->DQ->Prop} (k:w δ n λx n1=>g [x] n1 Q):wB g (jaa w aNil) δ n Q:=k
theorem c1_i {w:DT} {S:DSp} (k:w δ n λx n1=>S [x] n1 Q):jad S (jaa w aNil) δ n Q:=k
theorem c2_i {w w':DT} {S:DSp} (k:w δ n λx n1=>w' δ n1 λy n2=>S [x,y] n2 Q):jad S (jaa w (jaa w' aNil)) δ n Q:=k
theorem c3_i {w w' w'':DT} {S:DSp} (k:w δ n λx n1=>w' δ n1 λy n2=>w'' δ n2 λz n3=>S [x,y,z] n3 Q):jad S (jaa w (jaa w' (jaa w'' aNil))) δ n Q:=k
theorem of_i {w:DTF} (k:w δ n λds n1=>Q (.d (.list ds)) n1):wOf w δ n Q:=k
theorem jgr {fr:List (Option Nat)} {w e:DT} {g:DTG} {c:DTT} {Q:List Aa->Int->Prop} (hw:∀Q:DQ,Q (.d (.tuple ds)) n->w δ n Q) (k:jbu g c e Q ds [] (jb5 fr δ) n):ja0 fr (jbc w) g c e δ n Q:=by
 unfold ja0 jbc;exact hw _ k
theorem jhq (e:δ[i]?=some (some (.w (.d (.tuple ds))))) (k:Q (.d (.int ds.length)) n):wB gLen (jaa (wVar i) aNil) δ n Q:=b1_i (jac e k)
theorem jw3 (e:δ[j]?=some (some (.w (.d (.tuple ds))))) (k:K.nx (δ.set i (some (.own ds))) n):sOwn i (jgp (wVar j)) δ n K:=by
 unfold sOwn jgp;exact jac e k
theorem jak {w:DT} (k:w δ n K.rt):sRet w δ n K:=k
theorem jmd (e:δ[i]?=some (some (.own ds))) (k:W (δ.set i (some (.w (.d (.list ds))))) n K):sFrz i W δ n K:=by
 unfold sFrz;rw[e];exact k
theorem jm0 (e:δ[i]?=some (some (.w (.d (.tuple ds))))) (k:Q (.d (.bool true)) n):wIsi "tuple" (wVar i) δ n Q:=by
 unfold wIsi;refine jac e ?_;show Q (.d (.bool (isiB "tuple" (.tuple ds)))) n;rw[jaz];exact k
theorem ct_b {w:DT} {k:Bool} {Q:Bool->Int->Prop} (hw:∀Q':DQ,Q' (.d (.bool k)) n->w δ n Q') (q:Q k n):cT w δ n Q:=hw _ q
theorem if_n {C:DTT} (hc:∀Q:Bool->Int->Prop,Q false n->C δ n Q) (hF:V δ n K):sIf C W V δ n K:=hc _ (by show if false=true then _ else _;rw[if_neg Af];exact hF)
theorem if_y {C:DTT} (hc:∀Q:Bool->Int->Prop,Q true n->C δ n Q) (hT:W δ n K):sIf C W V δ n K:=hc _ (by show if true=true then _ else _;rw[if_pos rfl];exact hT)
theorem jcx {A B:DTT} {Q:Bool->Int->Prop} (ha:∀Q:Bool->Int->Prop,Q false n->A δ n Q) (hb:B δ n Q):cOr A B δ n Q:=ha _ (by show if false=true then _ else _;rw[if_neg Af];exact hb)
theorem jjm {A B:DTT} {Q:Bool->Int->Prop} (ha:∀Q:Bool->Int->Prop,Q true n->A δ n Q) (k:Q true n):cOr A B δ n Q:=ha _ (by show if true=true then _ else _;rw[if_pos rfl];exact k)
theorem jm5 {A B:DTT} {Q:Bool->Int->Prop} (ha:∀Q:Bool->Int->Prop,Q true n->A δ n Q) (hb:B δ n Q):cAnd A B δ n Q:=ha _ (by show if true=true then _ else _;rw[if_pos rfl];exact hb)
theorem ja5 {A:DTT} {k:Bool} {Q:Bool->Int->Prop} (ha:∀Q:Bool->Int->Prop,Q k n->A δ n Q) (q:Q (!k) n):cNot A δ n Q:=ha _ q
end
theorem jbw {g:DTG} {W:DST} {K:DEnds} (I:List Aa->Sl->Int->Prop) (h0:∀δ n,I [] δ n->K.nx δ n)
  (h1:∀d r δ n (N:Sl->Int->Prop),I (d::r) δ n->(∀δ n,I r δ n->N δ n)->g d δ λδ'=>W δ' n {K with nx:=N,ct:=N,bk:=K.nx}):∀ds δ n,I ds δ n->forD g W K ds δ n
 |[],δ,n,h=>h0 δ n h
 |d::r,δ,n,h=>h1 d r δ n (forD g W K r) h (jbw I h0 h1 r)
section
variable {δ:Sl} {n m:Int} {Q:DQ} {K:DEnds} {W V:DST} {i j:Nat} {ds:List Aa}
theorem jc4 {w:DT} (e0:δ[0]?=some (some (.w .tp))) (hw:∀Q:DQ,Q (.d (.int m)) n->w δ n Q) (h:n < 2 ^ 40) (h0:0 < m) (h1:m < 1073741824) (k:∀r:Int,0<=r->r < m->Q (.d (.int r)) (n+1)):jad jao (jaa (wVar 0) (jaa w aNil)) δ n Q :=
 c2_i (jac e0 (hw _ (jsd h h0 h1 k)))
theorem jb0 (e0:δ[0]?=some (some (.w .tp))) (h:n < 2 ^ 40) (h0:0 < m) (h1:m < 1073741824) (k:∀r:Int,0<=r->r < m->Q (.d (.int r)) (n+1)):jad jao (jaa (wVar 0) (jaa (wC (.int m)) aNil)) δ n Q:=jc4 e0 (λQ q=>c_i q) h h0 h1 k
theorem jgd (e0:δ[0]?=some (some (.w .tp))) (h:n < 2 ^ 40) (h0:0 < m) (h1:m < 1073741824) (k:∀r:Int,0<=r->r < m->K.nx (δ.set i (some (.w (.d (.int r))))) (n+1)):sSet i (jad jao (jaa (wVar 0) (jaa (wC (.int m)) aNil))) δ n K:=jb0 e0 h h0 h1 k
theorem jl9 {r:Int} (h0:0<=r) (h1:r < (ds.length:Int)) (k:∀d∈ds,Q (.d d) n):gIxL (.ln ds) (.d (.int r)) n Q:=by
 obtain⟨v,hv,hm⟩:=jjy h0 h1;show(match atI ds r with | some d=>Q (.d d) n | none=>False);rw[hv];exact k v hm
theorem jbv {r:Int} (h0:0<=r) (h1:r < (ds.length:Int)) (k:∀d∈ds,Q (.d d) n):gIxL (.d (.list ds)) (.d (.int r)) n Q:=jdl h0 h1 k
theorem jgj (e:δ[i]?=some (some (.own ds))) (k:Q (.ln ds) n):jd4 i δ n Q:=by
 unfold jd4;rw[e];exact k
theorem jsr {w:DT} {x:Aa} {es:List Aa} (e:δ[i]?=some (some (.own es))) (hw:∀Q:DQ,Q (.d x) m->w δ n Q) (hl:es.length < 1000000) (k:K.nx (δ.set i (some (.own (es++[x])))) m):sApp i w δ n K:=by
 unfold sApp;rw[e];exact hw _ (Ad hl k)
theorem jmh {w:DT} {es:List Aa} (e:δ[i]?=some (some (.own es))) (k:w δ n λx n1=>match x with
  |.d d=>es.length < 1000000/\K.nx (δ.set i (some (.own (es++[d])))) n1
  |_=>False):sApp i w δ n K:=by
 unfold sApp;rw[e];exact k
theorem jbq {w w':DT} (k:w δ n λx n1=>w' δ n1 λy n2=>match ja3 [x,y]with
  |some ds=>ds.length<=1000/\Q (.d (.tuple ds)) n2
  |none=>False):wTup (jaa w (jaa w' aNil)) δ n Q:=k
theorem jn6 {w w' w'':DT} (k:w δ n λx n1=>w' δ n1 λy n2=>w'' δ n2 λz n3=>match ja3 [x,y,z]with
  |some ds=>ds.length<=1000/\Q (.d (.tuple ds)) n3
  |none=>False):wTup (jaa w (jaa w' (jaa w'' aNil))) δ n Q:=k
theorem jj9 (k:Q (.d (.tuple ds)) n):jcc [.d (.list ds)] n Q:=k
theorem iflt {a b:Int} (e:δ[i]?=some (some (.w (.d (.int a))))) (hT:a < b->W δ n K) (hF:¬a < b->V δ n K):sIf (cT (w2 (wVar i) (wC (.int b)) gLt)) W V δ n K:=by
 refine if_i (w2_i (jac e (c_i ?_)));show if decide (a < b)=true then _ else _
 by_cases h:a < b
 ·rw[if_pos (decide_eq_true h)];exact hT h
 ·rw[if_neg (by simpa using h)];exact hF h
end
section
variable {δ:Sl} {n m:Int} {Q:DQ} {K:DEnds} {W V:DST} {i j:Nat} {ds:List Aa}
theorem jvo {w w' w'' v:DT} (k:w δ n λx n1=>w' δ n1 λy n2=>w'' δ n2 λz n3=>v δ n3 λu n4=>match ja3 [x,y,z,u]with
  |some ds=>ds.length<=1000/\Q (.d (.tuple ds)) n4
  |none=>False):wTup (jaa w (jaa w' (jaa w'' (jaa v aNil)))) δ n Q:=k
theorem jd9 (k:Q (.d (.list [])) n):wOf (fLst aNil) δ n Q:=Ad (Bm _) k
theorem eqLn (k:Q (.d (.bool ds.isEmpty)) n):gEqL (.ln ds) (.d (.list [])) n Q:=k
theorem eqLi {a b:Int} (k:Q (.d (.bool (decide (a=b)))) n):gEqL (.d (.int a)) (.d (.int b)) n Q:=k
theorem ifeq {a b:Int} (e:δ[i]?=some (some (.w (.d (.int a))))) (hT:a=b->W δ n K) (hF:¬a=b->V δ n K):sIf (cT (w2 (wVar i) (wC (.int b)) gEqL)) W V δ n K:=by
 refine if_i (w2_i (jac e (c_i ?_)));show if decide (a=b)=true then _ else _
 by_cases h:a=b
 ·rw[if_pos (decide_eq_true h)];exact hT h
 ·rw[if_neg (by simpa using h)];exact hF h
theorem ifgt {a b:Int} (e:δ[i]?=some (some (.w (.d (.int a))))) (hT:b < a->W δ n K) (hF:¬b < a->V δ n K):sIf (cT (w2 (wVar i) (wC (.int b)) gGt)) W V δ n K:=by
 refine if_i (w2_i (jac e (c_i ?_)));show if decide (b < a)=true then _ else _
 by_cases h:b < a
 ·rw[if_pos (decide_eq_true h)];exact hT h
 ·rw[if_neg (by simpa using h)];exact hF h
end
theorem jk5 (hs:List Str):(hs.map Ci).all jhx=true:=by
 rw[Dj];intro d hd;obtain⟨x,_,rfl⟩:=Ca.mp hd;rfl
theorem js6 {δ:Sl} {n m:Int} {K:DEnds} {W:DST} {g:DTG} {L:List Aa} {wl:DT} {M:Nat} (e:δ[0]?=some (some (.w .tp))) (hl:∀Q:DQ,Q (.d (.list L)) n->wl δ n Q) (hn:n < 2 ^ 40) (hm:m=L.length) (h0:0 < m) (h1:m < 1000) (hL:∀d∈L,∃j:Nat,j<=M/\d=.int j) (hM:M<=1000) (k:∀j:Nat,j<=M->forD g W K (rngD 0 j) δ (n+1)) :
  sFor (jax (w2 wl (jad jao (jaa (wVar 0) (jaa (wC (.int m)) aNil))) gIxL)) g W δ n K:=by
 unfold sFor jax;refine w2_i (hl _ (jb0 e hn h0 (by omega) λr r0 r1=>jbv r0 (by omega) λd hd=>?_));obtain⟨j,hj,rfl⟩:=hL d hd;refine Ad ⟨by omega,by omega⟩ ?_;rw[Ck];exact k j hj
theorem jxj {ds:List Aa} {n:Int} {Q:DQ} (k:Q (.d (.int ds.length)) n):jez [.ln ds] n Q:=k
theorem gN_i {n:Int} {Q:DQ} {i:Nat} {x:Aa} {xs:List Aa} (h:xs[i]?=some x) (k:Q (.d x) n):gIx (.d (.tuple xs)) (.d (.int (i:Nat))) n Q:=by
 show(match atI xs ((i:Nat):Int)with | some d=>Q (.d d) n | none=>False);rw[ja7 h];exact k
abbrev Nm:=List (Str×Aa)
inductive Fd where
 |is (v:Aa) | any | word | number | bind (x:Str) | as (x:Str)
abbrev okX (x:Str):Prop:=x.length<=4/\PyData.strOk x=true
def isV:Aa->Bool
 |.str x=>decide (x.length<=8)&&PyData.strOk x
 |.int i=>decide (0<=i)&&(decide (i<=99)&&(decide (PyData.weight (.int i)<=20)&&(PyData.intsShort 13 (.int i)&&PyData.showable (.int i))))
 |_=>false
def eqB (a b:Aa):Bool:=(eqD a b).getD false
def isSt:Aa->Bool
 |.str _=>true
 |_=>false
def isIn:Aa->Bool
 |.int _=>true
 |_=>false
def look (ps:Nm) (x:Str):Option Aa:=(ps.find? λp=>decide (p.1=x)).map (·.2)
def put (ps:Nm) (x:Str) (v:Aa):Nm:=if (ps.any λp=>decide (p.1=x))=true then ps.map (λp=>if p.1=x then(p.1,v)else p)else ps++[(x,v)]
def wk:List (Fd×Aa)->Nm->List Str->Option Nm
 |[],h,_=>some h
 | (.is w,v)::r,h,hs=>if eqB w v=true then wk r h hs else none
 | (.any,_)::r,h,hs=>wk r h hs
 | (.word,v)::r,h,hs=>if isSt v=true then wk r h hs else none
 | (.number,v)::r,h,hs=>if isIn v=true then wk r h hs else none
 | (.as x,v)::r,h,hs=>match look h x with
  |some w=>if eqB w v=true then wk r h hs else none
  |none=>none
 | (.bind x,v)::r,h,hs=>if x∈hs then(match look h x with
   |some w=>if eqB w v=true then wk r h hs else none
   |none=>none)else wk r (put h x v) (hs++[x])
def jby (ys:List Str):Aa:=.tuple (ys.map .str)
def fstH:Aa->Aa
 |.tuple (d::_)=>d
 |_=>.none
def jc3:Aa->Bool
 |.tuple [a]=>jab "any" a || (jab "word" a || jab "number" a)
 |.tuple [a,b]=>!(jab "any" a || (jab "word" a || jab "number" a))&&(if jab "is" a=true then jcl b else jab "bind" a&&letB 4 b)
 |_=>false
def jmv:Aa->Bool
 |.tuple [a,p,k]=>jab "notes" a&&(cntB p&&(jb7 p).all jc3&&jbk 1 9 k)
 |_=>false
def nsgB:Aa->Bool
 |.tuple [a,p,k]=>jab "notes" a&&(patB p&&!(jb7 p).any (λf=>jab "as" (fstH f))&&jbk 1 9 k)
 |_=>false
theorem jpw {x y:Str} {a:Aa} (h1:jab x a=true) (h2:jab y a=true):x=y:=by
 cases a with
 |str s =>
  have e1:s=x:=of_decide_eq_true h1;have e2:s=y:=of_decide_eq_true h2;rw[<-e1,e2]
 |_=>cases h1
theorem jap {x y:Str} {a:Aa} (h1:jab x a=true) (h:x≠y):jab y a=false:=by
 cases e:jab y a with
 |false=>rfl
 |true=>exact absurd (jpw h1 e) h
theorem jr9 (f:Aa):(ja1 f&&!jab "as" (fstH f))=jc3 f:=by
 cases f with
 |tuple ds =>
  rcases ds with _ | ⟨a,_ | ⟨b,_ | ⟨c,r⟩⟩⟩
  ·rfl
  ·have e1:ja1 (.tuple [a])=(jab "any" a || (jab "word" a || jab "number" a)):=by
    simp[ja1,ja2,jiu,jid]
   rw[e1];show(_&&!jab "as" a)=(jab "any" a || (jab "word" a || jab "number" a));cases h:(jab "any" a || (jab "word" a || jab "number" a))with
   |false=>rfl
   |true =>
    have:jab "as" a=false:=by
     rcases Dy.mp h with z | z
     ·exact jap z (by decide +kernel)
     ·rcases Dy.mp z with z | z
      ·exact jap z (by decide +kernel)
      ·exact jap z (by decide +kernel)
    rw[this];rfl
  ·have e1:ja1 (.tuple [a,b])=((if jab "is" a=true then jcl b else jab "as" a&&letB 4 b) || (jab "bind" a&&letB 4 b)):=by
    simp[ja1,ja2,jiu,jid,sndD]
   rw[e1];show(_&&!jab "as" a)=(!(jab "any" a || (jab "word" a || jab "number" a))&&(if jab "is" a=true then jcl b else jab "bind" a&&letB 4 b));cases h:jab "is" a with
   |true =>
    rw[jap h (show("is":Str)≠"as" by decide +kernel),jap h (show("is":Str)≠"bind" by decide +kernel),jap h (show("is":Str)≠"any" by decide +kernel),jap h (show("is":Str)≠"word" by decide +kernel),jap h (show("is":Str)≠"number" by decide +kernel)];simp
   |false =>
    cases h2:jab "bind" a with
    |true =>
     rw[jap h2 (show("bind":Str)≠"as" by decide +kernel),jap h2 (show("bind":Str)≠"any" by decide +kernel),jap h2 (show("bind":Str)≠"word" by decide +kernel),jap h2 (show("bind":Str)≠"number" by decide +kernel)];simp
    |false=>cases jab "as" a<;>simp
  ·have e1:ja1 (.tuple (a::b::c::r))=false:=by
    have z1:¬((r.length:Int)+1+1+1=1):=by omega
    have z2:¬((r.length:Int)+1+1+1=2):=by omega
    simp[ja1,ja2,jiu,jid,z1,z2]
   rw[e1];rfl
 |_=>rfl
theorem jrs (d:Aa):nsgB d=jmv d:=by
 have key:∀l:List Aa,(l.all ja1&&!l.any (λf=>jab "as" (fstH f)))=l.all jc3:=λl=>by
  induction l with
  |nil=>rfl
  |cons f l ih =>
   rw[List.all_cons,C9,List.all_cons,<-jr9 f,<-ih];cases ja1 f<;>cases jab "as" (fstH f)<;>simp
 unfold nsgB jmv
 split
 ·rename_i a p k;show(jab "notes" a&&(patB p&&!(jb7 p).any (λf=>jab "as" (fstH f))&&jbk 1 9 k))=_;unfold patB;rw[Bool.and_assoc (cntB p),key]
 ·rfl
def jbj:Aa->Bool
 |.tuple _=>true
 |_=>false
def jbl:Aa->Bool
 |.tuple [a,b]=>((jab "all" a || jab "some" a)&&jbj b) || jab "not" a
 |_=>false
def othL:Aa->List Aa
 |.tuple [a,b]=>if (jab "all" a || jab "some" a)=true then jb7 b else if jab "not" a=true then[b]else[]
 |_=>[]
def sumO:List (Option Nat)->Option Nat
 |[]=>some 0
 |none::_=>none
 |some a::r=>(sumO r).map (a+·)
theorem jd6:∀a b:List (Option Nat),sumO (a++b)=(sumO a).bind λx=>(sumO b).map (x+·)
 |[],b=>by
  show sumO b=(sumO b).map (0+·);cases sumO b with
  |none=>rfl
  |some y=>show some y=some (0+y);rw[Nat.zero_add]
 |none::a,b=>rfl
 |some x::a,b=>by
  show(sumO (a++b)).map (x+·)=((sumO a).map (x+·)).bind λx=>(sumO b).map (x+·);rw[jd6 a b];cases sumO a with
  |none=>rfl
  |some y =>
   cases sumO b with
   |none=>rfl
   |some z=>show some (x+(y+z))=some (x+y+z);rw[Nat.add_assoc]
def cntO (sg:Aa->Bool):Nat->Aa->Option Nat
 |0,_=>none
 |k+1,d=>if jbl d=true then(sumO ((othL d).map (cntO sg k))).map (1+·)else if sg d=true then some 1 else none
def okDp:Nat->Aa->Prop
 |0,.tuple _=>False
 |0,.list _=>False
 |k+1,.tuple ds=>ds.length<=100/\∀d∈ds,okDp k d
 |k+1,.list ds=>∀d∈ds,okDp k d
 |_,_=>True
theorem jgg:∀{k:Nat} {d:Aa},okDp k d->okDp (k+1) d
 |0,d,h=>by
  cases d with
  |tuple ds=>exact h.elim
  |list ds=>exact h.elim
  |_=>trivial
 |k+1,d,h=>by
  cases d with
  |tuple ds=>exact⟨h.1,λx hx=>jgg (h.2 x hx)⟩
  |list ds=>exact λx hx=>jgg (h x hx)
  |_=>trivial
theorem jo6 {k:Nat} {d:Aa} (h:okDp (k+1) d):∀x∈othL d,okDp k x:=by
 unfold othL
 split
 ·rename_i a b;have hb:okDp k b:=h.2 b (by simp);intro x hx
  split at hx
  ·cases b with
   |tuple ds =>
    cases k with
    |zero=>exact hb.elim
    |succ k=>exact jgg (hb.2 x hx)
   |_=>cases hx
  ·split at hx
   ·rw[Ax.mp hx];exact hb
   ·cases hx
 ·exact λx hx=>nomatch hx
theorem juh {k:Nat} {d:Aa} (h:okDp k d):(othL d).length<=100:=by
 unfold othL
 split
 ·rename_i a b;cases k with
  |zero=>exact h.elim
  |succ k =>
   have hb:okDp k b:=h.2 b (by simp)
   split
   ·cases b with
    |tuple ds =>
     cases k with
     |zero=>exact hb.elim
     |succ k=>exact hb.1
    |_=>exact Bm _
   ·split
    ·show 1<=100;decide
    ·exact Bm _
 ·exact Bm _
theorem jpl {d:Aa} (h:okDp 0 d):jbl d=false:=by
 cases d with
 |tuple ds=>exact h.elim
 |_=>rfl
theorem jtj (sg:Aa->Bool):∀(k:Nat) (d:Aa),okDp k d->cntO sg (k+1) d=cntO sg (k+2) d
 |0,d,h=>by
  rw[cntO,cntO,jpl h];rfl
 |k+1,d,h=>by
  have e:(othL d).map (cntO sg (k+1))=(othL d).map (cntO sg (k+2)):=List.map_congr_left λx hx=>jtj sg k x (jo6 h x hx);rw[cntO,e]
  conv=>rhs;rw[cntO]
theorem jyg (sg:Aa->Bool) {D:Nat} {d:Aa} (h:okDp D d):cntO sg (D+1) d=if jbl d=true then(sumO ((othL d).map (cntO sg (D+1)))).map (1+·)else if sg d=true then some 1 else none:=by
 cases D with
 |zero=>rw[cntO,jpl h];rfl
 |succ D =>
  have e:(othL d).map (cntO sg (D+1))=(othL d).map (cntO sg (D+2)):=List.map_congr_left λx hx=>jtj sg D x (jo6 h x hx);rw[cntO,e]
def jdt (c:Aa->Option Nat) (l:List Aa) (m:Nat):Bool:=match sumO (l.map c)with
 |some s=>decide (m+s<=40)
 |none=>false
theorem jr5 {c:Aa->Option Nat} {m:Nat} (h:m<=40):jdt c [] m=true:=decide_eq_true h
theorem jk3 {c:Aa->Option Nat} {l:List Aa} {d:Aa} {m:Nat} (h:c d=none):jdt c (l++[d]) m=false:=by
 unfold jdt;rw[Bu,jd6,A3,Be,h];cases sumO (l.map c)<;>rfl
theorem jp1 {c:Aa->Option Nat} {l o:List Aa} {d:Aa} {m:Nat} (h:c d=(sumO (o.map c)).map (1+·)):jdt c (l++[d]) m=jdt c (l++o) (m+1):=by
 unfold jdt;rw[Bu,Bu,jd6,jd6,A3,Be,h];cases sumO (l.map c)with
 |none=>rfl
 |some a =>
  cases sumO (o.map c)with
  |none=>rfl
  |some b =>
   show decide (m+(a+(1+b+0))<=40)=decide (m+1+(a+b)<=40);exact decide_eq_decide.mpr (by omega)
theorem jp2 {c:Aa->Option Nat} {l:List Aa} {d:Aa} {m:Nat} (h:∀k,c d=some k->1<=k) (hm:40<=m):jdt c (l++[d]) m=false:=by
 cases e:c d with
 |none=>exact jk3 e
 |some k =>
  have:=h k e;unfold jdt;rw[Bu,jd6,A3,Be,e];cases sumO (l.map c)with
  |none=>rfl
  |some a=>exact decide_eq_false (by show ¬(m+(a+(k+0))<=40);omega)
theorem ju9 {sg:Aa->Bool} {D k:Nat} {d:Aa} (h:cntO sg D d=some k):1<=k:=by
 cases D with
 |zero=>cases h
 |succ D =>
  rw[cntO]at h
  split at h
  ·obtain⟨s,_,rfl⟩:=Option.map_eq_some_iff.mp h;omega
  ·split at h
   ·cases h;exact As _
   ·cases h
def jqx:List Aa:=[.str "a",.int 0,.int 1,.str "ab",.str "go",.int 99]
inductive Fe where
 |any | word | num | isv (d:Aa) | bind (k:Str) | as (k:Str) | nx (k:Str)
def Fe.hd:Fe->Str
 |.any=>"any"
 |.word=>"word"
 |.num=>"number"
 |.isv _=>"is"
 |.bind _=>"bind"
 |.as _=>"as"
 |.nx _=>"next"
def Fe.tl:Fe->List Aa
 |.any=>[]
 |.word=>[]
 |.num=>[]
 |.isv d=>[d]
 |.bind k=>[.str k]
 |.as k=>[.str k]
 |.nx k=>[.str k]
def Fe.d (f:Fe):Aa:=.tuple (.str f.hd::f.tl)
abbrev okK (k:Str):Prop:=okX k
def Fe.ok:Fe->Prop
 |.isv d=>isV d=true
 |.bind k=>okK k
 |.as k=>okK k
 |.nx k=>okK k
 |_=>True
def Fe.bd:Fe->Option Str
 |.bind k=>some k
 |_=>none
def Fe.us:Fe->Option Str
 |.as k=>some k
 |.nx k=>some k
 |_=>none
def bndE (fs:List Fe):List Str:=fs.filterMap Fe.bd
def okFs (fs:List Fe):Prop:=fs.length<=4/\∀f∈fs,f.ok
def rF:List Str->List Fe->Prop
 |_,[]=>True
 |ks,f::r=>(∀k,f.us=some k->k∈ks)/\rF (ks++f.bd.toList) r
inductive Ac where
 |lay (fs:List Fe) (age:Aa) | take (fs:List Fe) | read (fs:List Fe) | look (fs:List Fe) (b:Nat) | same (f g:Fe) (b:Nat) | go (b:Nat)
def fsD (fs:List Fe):Aa:=.tuple (fs.map Fe.d)
def Ac.d:Ac->Aa
 |.lay fs age=>.tuple [.str "lay",fsD fs,age]
 |.take fs=>.tuple [.str "take",fsD fs]
 |.read fs=>.tuple [.str "read",fsD fs]
 |.look fs b=>.tuple [.str "look",fsD fs,.int b]
 |.same f g b=>.tuple [.str "same",f.d,g.d,.int b]
 |.go b=>.tuple [.str "go",.int b]
def Ac.bs:Ac->List Str
 |.take fs=>bndE fs
 |.read fs=>bndE fs
 |.look fs _=>bndE fs
 |_=>[]
def Ac.fs:Ac->List Fe
 |.lay fs _=>fs
 |.take fs=>fs
 |.read fs=>fs
 |.look fs _=>fs
 |.same f g _=>[f,g]
 |.go _=>[]
def Ac.to:Ac->Option Nat
 |.look _ b=>some b
 |.same _ _ b=>some b
 |.go b=>some b
 |_=>none
def Ac.right (wants:List (List Str)) (ks:List Str) (a:Ac):Prop:=rF ks a.fs/\∀b,a.to=some b->∃w,wants[b]?=some w/\∀k∈w,k∈ks
abbrev Bl:=List Str×List Ac
def blD (b:Bl):Aa:=.tuple [jby b.1,.tuple (b.2.map Ac.d)]
def prD (bs:List Bl):Aa:=.tuple (bs.map blD)
def kn (w:List Str) (as:List Ac) (p:Nat):List Str:=w++(as.take p).flatMap Ac.bs
def okB (b:Bl):Prop:=b.1.length<=2/\(∀k∈b.1,okK k)/\b.2.length<=8/\∀a∈b.2,okFs a.fs
def riB (wants:List (List Str)) (b:Bl):Prop:=∀(p:Nat) (a:Ac),b.2[p]?=some a->a.right wants (kn b.1 b.2 p)
def jfl:DSp:=λws n Q=>ws=[.tp]/\n < 2 ^ 39/\∀v∈jqx,Q (.d v) (n+1)
def jim:DSp:=λws n Q=>ws=[.tp]/\n < 2 ^ 39/\∀m:Nat,1<=m->m<=4->Q (.d (.int m)) (n+1)
def jm7:DSp:=λws n Q=>∃ks:List Str,ws=[.tp,.ln (ks.map .str)]/\ks.length<=1000/\(∀k∈ks,okK k)/\n+9 < 2 ^ 39/\∀(fs:List Fe) (n':Int),okFs fs->rF ks fs->n'<=n+9->Q (.d (fsD fs)) n'
def jha:DSp:=λws n Q=>∃ks:List Str,ws=[.tp,.ln (ks.map .str)]/\ks.length<=1000/\(∀k∈ks,okK k)/\n+2 < 2 ^ 39/\∀(f:Fe) (n':Int),f.ok->f.bd=none->(∀k,f.us=some k->k∈ks)->n'<=n+2->Q (.d f.d) n'
def jio:DSp:=λws n Q=>∃(ks:List Str) (os:List Nat) (wants:List (List Str)),ws=[.tp,.ln (ks.map .str),.d (.list (os.map λb=>.int (b:Nat)))]/\ks.length<=1000/\(∀k∈ks,okK k)/\0 < os.length/\os.length<=1000 /\
 (∀b∈os,∃w,wants[b]?=some w/\∀k∈w,k∈ks)/\n+11 < 2 ^ 39/\∀(a:Ac) (n':Int),okFs a.fs->a.right wants ks->n'<=n+11->Q (.d (.tuple [a.d,.list (a.bs.map .str)])) n'
def Fe.pt:Fe->Bool
 |.nx _=>false
 |_=>true
def okG (bs:List Bl):Prop:=1<=bs.length/\bs.length<=6/\∀b∈bs,okB b/\riB (bs.map (·.1)) b
def jin:DSp:=λws n Q=>∃(ks:List Str) (v:Wv),ws=[.tp,v]/\lsOf v=some (ks.map .str)/\ks.length<=1000/\(∀k∈ks,okK k)/\n+9 < 2 ^ 39/\∀(fs:List Fe) (n':Int),1<=fs.length->okFs fs->(∀f∈fs,f.pt=true)->rF ks fs->n'<=n+9->Q (.d (.tuple [fsD fs,.list ((bndE fs).map .str)])) n'
def jm6:DSp:=λws n Q=>ws=[.tp]/\n+600 < 2 ^ 39/\∀(bs:List Bl) (n':Int),okG bs->n'<=n+600->Q (.d (prD bs)) n'
abbrev Nt:=List Aa×Aa
abbrev Pg:=List (List Bl)
def pgD (ps:Pg):Aa:=.tuple (ps.map prD)
def okPg (ps:Pg):Prop:=ps.length<=5/\∀P∈ps,okG P
inductive Bs where
 |notes (fs:List Fd) (k:Nat) | at(h b p:Nat) | ended (h:Nat)
def holds (fs:List Fd) (row:List Aa):Bool:=decide (fs.length=row.length)&&(wk (fs.zip row) [] []).isSome
def many (fs:List Fd) (ns:List Nt):Nat:=(ns.filter λq=>holds fs q.1).length
def Sg:Nat->Type
 |0=>Bs
 |t+1=>Bs ⊕ ((Bool×List (Sg t)) ⊕ Sg t)
def jj3:DSp:=λws n Q=>ws=[.tp]/\n+4000 < 2 ^ 39/\∀(ps:Pg) (n':Int),okPg ps->n'<=n+4000->Q (.d (pgD ps)) n'
def sgB:Nat->Int
 |0=>20
 |t+1=>4*sgB t
def hndB (ps:Pg) (d:Aa):Bool:=jbk 0 ((ps.length:Int) - 1) d
def plcB (P:List Bl) (a b:Aa):Bool:=jbk 0 ((P.length:Int) - 1) a&&(match a with
 |.int i=>jbk 0 (((P[i.toNat]?).map λbl=>bl.2.length).getD 0:Nat) b
 |_=>false)
def atT (ps:Pg):Aa->Bool
 |.tuple [a,h,b,p]=>jab "at" a&&(hndB ps h&&(match h with
  |.int i=>(match ps[i.toNat]? with
   |some P=>plcB P b p
   |none=>false)
  |_=>false))
 |_=>false
def endT (ps:Pg):Aa->Bool
 |.tuple [a,h]=>jab "ended" a&&hndB ps h
 |_=>false
def sgT (ps:Pg) (d:Aa):Bool:=nsgB d || (atT ps d || endT ps d)
def jj0:DSp:=λws n Q=>∃(d:Aa) (k:Int),ws=[.d d,.d (.int k)]/\Q (.d (.bool (jbk 0 k d))) n
def jn3:DSp:=λws n Q=>∃(ps:Pg) (d:Aa),ws=[.d (pgD ps),.d d]/\Q (.d (.bool (hndB ps d))) n
def jsv:DSp:=λws n Q=>∃(P:List Bl) (a b:Aa),ws=[.d (prD P),.d (.tuple [a,b])]/\Q (.d (.bool (plcB P a b))) n
def jqs:DSp:=λws n Q=>∃(ps:Pg) (d:Aa),ws=[.d (pgD ps),.d d]/\Q (.d (.bool (atT ps d))) n
def jqr:DSp:=λws n Q=>∃(ps:Pg) (d:Aa),ws=[.d (pgD ps),.d d]/\Q (.d (.bool (endT ps d))) n
def jqq:DSp:=λws n Q=>∃(ps:Pg) (d:Aa),ws=[.d (pgD ps),.d d]/\Q (.d (.bool (sgT ps d || jbl d))) n
def jn2:DSp:=λws n Q=>∃(ps:Pg) (d:Aa),ws=[.d d]/\(sgT ps d || jbl d)=true/\Q (.d (.tuple (othL d))) n
def jsw:DSp:=λws n Q=>∃(ps:Pg) (d:Aa) (D:Nat),ws=[.d (pgD ps),.d d]/\okDp D d/\Q (.d (.bool (jdt (cntO (sgT ps) (D+1)) [d] 0))) n
abbrev B30:Int:=1000000000000000000000000000000
inductive Th:Nat->Nat->Aa->Prop
 |non {L k:Nat}:Th L k .none
 |bool {L k:Nat} (b:Bool):Th L k (.bool b)
 |int {L k:Nat} (i:Int):-(B30+(L:Int))<=i->i<=B30+(L:Int)->Th L k (.int i)
 |str {L k:Nat} (x:Str):x.length<=60->PyData.strOk x=true->Th L k (.str x)
 |list {L k:Nat} {ds:List Aa}:ds.length<=L->(∀d∈ds,Th L k d)->Th L (k+1) (.list ds)
 |tuple {L k:Nat} {ds:List Aa}:ds.length<=L->(∀d∈ds,Th L k d)->Th L (k+1) (.tuple ds)
mutual
def thB (L:Nat):Nat->Aa->Bool
 |_,.none=>true
 |_,.bool _=>true
 |_,.int i=>decide (-(B30+(L:Int))<=i)&&decide (i<=B30+(L:Int))
 |_,.str x=>decide (x.length<=60)&&PyData.strOk x
 |k,.list ds=>decide (0 < k)&&(decide (ds.length<=L)&&jfc L (k - 1) ds)
 |k,.tuple ds=>decide (0 < k)&&(decide (ds.length<=L)&&jfc L (k - 1) ds)
 |_,.dict _=>false
def jfc (L:Nat):Nat->List Aa->Bool
 |_,[]=>true
 |k,d::r=>thB L k d&&jfc L k r
end
mutual
theorem js0 (L:Nat):∀(d:Aa) (k:Nat),thB L k d=true->Th L k d
 |.none,_,_=>.non
 |.bool b,_,_=>.bool b
 |.int i,_,h=>by
  rw[thB,Av]at h;exact .int i (of_decide_eq_true h.1) (of_decide_eq_true h.2)
 |.str x,_,h=>by
  rw[thB,Av]at h;exact .str x (of_decide_eq_true h.1) h.2
 |.list ds,k,h=>by
  rw[thB,Av,Av]at h;have h0:=of_decide_eq_true h.1;have:=Th.list (of_decide_eq_true h.2.1) (jit L ds (k - 1) h.2.2);rw[show k - 1+1=k by omega]at this;exact this
 |.tuple ds,k,h=>by
  rw[thB,Av,Av]at h;have h0:=of_decide_eq_true h.1;have:=Th.tuple (of_decide_eq_true h.2.1) (jit L ds (k - 1) h.2.2);rw[show k - 1+1=k by omega]at this;exact this
 |.dict _,_,h=>by rw[thB]at h;cases h
theorem jit (L:Nat):∀(ds:List Aa) (k:Nat),jfc L k ds=true->∀d∈ds,Th L k d
 |[],_,_,d,hd=>by simp at hd
 |a::r,k,h,d,hd=>by
  rw[jfc,Av]at h;exact(Aq.mp hd).elim (λe=>e▸js0 L a k h.1) λhd=>jit L r k h.2 d hd
end
theorem jfs {L k:Nat} {d:Aa} (h:thB L k d=true):Th L k d:=js0 L d k h
theorem jmj {L k:Nat} {ds:List Aa} (h:jfc L k ds=true):∀d∈ds,Th L k d:=jit L ds k h
theorem Th.mono {L k:Nat} {d:Aa} (h:Th L k d):∀{L' k':Nat},L<=L'->k<=k'->Th L' k' d:=by
 induction h with
 |non=>exact λ_ _=>.non
 |bool b=>exact λ_ _=>.bool b
 |int i h1 h2=>exact λa _=>.int i (by omega) (by omega)
 |str x h1 h2=>exact λ_ _=>.str x h1 h2
 |list h1 _ ih =>
  intro L' k' a b;obtain⟨j,rfl⟩:∃j,k'=j+1:=⟨k' - 1,by omega⟩;exact .list (by omega) λd hd=>ih d hd a (by omega)
 |tuple h1 _ ih =>
  intro L' k' a b;obtain⟨j,rfl⟩:∃j,k'=j+1:=⟨k' - 1,by omega⟩;exact .tuple (by omega) λd hd=>ih d hd a (by omega)
theorem th2 {L k:Nat} {a b:Aa} (ha:Th L k a) (hb:Th L k b) (hL:2<=L):Th L (k+1) (.tuple [a,b]):=.tuple hL λd hd=>by
 rcases Aq.mp hd with rfl | hd
 ·exact ha
 ·rw[Ax.mp hd];exact hb
theorem th3 {L k:Nat} {a b c:Aa} (ha:Th L k a) (hb:Th L k b) (hc:Th L k c) (hL:3<=L):Th L (k+1) (.tuple [a,b,c]):=.tuple hL λd hd=>by
 rcases Aq.mp hd with rfl | hd
 ·exact ha
 ·rcases Aq.mp hd with rfl | hd
  ·exact hb
  ·rw[Ax.mp hd];exact hc
theorem th4 {L k:Nat} {a b c e:Aa} (ha:Th L k a) (hb:Th L k b) (hc:Th L k c) (he:Th L k e) (hL:4<=L):Th L (k+1) (.tuple [a,b,c,e]):=.tuple hL λd hd=>by
 rcases Aq.mp hd with rfl | hd
 ·exact ha
 ·rcases Aq.mp hd with rfl | hd
  ·exact hb
  ·rcases Aq.mp hd with rfl | hd
   ·exact hc
   ·rw[Ax.mp hd];exact he
theorem Th.lay {L k:Nat} {d:Aa} (h:Th L k d):Cp d=true/\Dq d<=k:=by
 have key:∀{k:Nat} (ds:List Aa),(∀d∈ds,Cp d=true/\Dq d<=k)->PyData.canLayAll0 ds=true/\PyData.depthAll ds<=k:=by
  intro k ds
  induction ds with
  |nil=>exact λ_=>⟨rfl,Bm _⟩
  |cons x r ih =>
   intro h;obtain⟨a1,a2⟩:=ih λd hd=>h d (Bg _ hd);obtain⟨b1,b2⟩:=h x Ba;exact⟨by rw[PyData.canLayAll0,a1,b1];rfl,by rw[PyData.depthAll];omega⟩
 induction h with
 |non=>exact⟨rfl,Bm _⟩
 |bool b=>exact⟨rfl,Bm _⟩
 |int i _ _=>exact⟨rfl,Bm _⟩
 |str x _ h=>exact⟨by rw[Cp];exact h,Bm _⟩
 |list _ _ ih =>
  obtain⟨a1,a2⟩:=key _ ih;exact⟨by rw[Cp];exact a1,by rw[Dq];omega⟩
 |tuple _ _ ih =>
  obtain⟨a1,a2⟩:=key _ ih;exact⟨by rw[Cp];exact a1,by rw[Dq];omega⟩
theorem Th.mem {L k:Nat} {ds:List Aa} (h:Th L k (.tuple ds)):∀d∈ds,Th L (k - 1) d:=by
 cases h with
 |tuple h1 h2=>exact h2
section
variable {δ:Sl} {n:Int} {Q:DQ} {K:DEnds} {W V:DST} {i j:Nat} {ds:List Aa}
theorem jd0 {u v:DT} {a b:Bool} (hu:∀Q:DQ,Q (.d (.bool a)) n->u δ n Q) (hv:a=true->∀Q:DQ,Q (.d (.bool b)) n->v δ n Q) (k:Q (.d (.bool (a&&b))) n):wAnd u v δ n Q:=by
 refine hu _ ?_;cases a with
 |true=>exact hv rfl _ k
 |false=>exact k
theorem or_v {u v:DT} {a b:Bool} (hu:∀Q:DQ,Q (.d (.bool a)) n->u δ n Q) (hv:a=false->∀Q:DQ,Q (.d (.bool b)) n->v δ n Q) (k:Q (.d (.bool (a || b))) n):wOr u v δ n Q:=by
 refine hu _ ?_;cases a with
 |false=>exact hv rfl _ k
 |true=>exact k
theorem c_or {u v:DTT} {a b:Bool} {Q:Bool->Int->Prop} (hu:∀Q:Bool->Int->Prop,Q a n->u δ n Q) (hv:a=false->∀Q:Bool->Int->Prop,Q b n->v δ n Q) (k:Q (a || b) n):cOr u v δ n Q:=by
 refine hu _ ?_;cases a with
 |false=>exact hv rfl _ k
 |true=>exact k
theorem jce {u v:DTT} {a b:Bool} {Q:Bool->Int->Prop} (hu:∀Q:Bool->Int->Prop,Q a n->u δ n Q) (hv:a=true->∀Q:Bool->Int->Prop,Q b n->v δ n Q) (k:Q (a&&b) n):cAnd u v δ n Q:=by
 refine hu _ ?_;cases a with
 |true=>exact hv rfl _ k
 |false=>exact k
theorem if_b {C:DTT} {b:Bool} (hc:∀Q:Bool->Int->Prop,Q b n->C δ n Q) (hT:b=true->W δ n K) (hF:b=false->V δ n K):sIf C W V δ n K:=by
 refine hc _ ?_;cases b with
 |true=>exact hT rfl
 |false=>exact hF rfl
theorem jhv {T:String} {w:DT} {d:Aa} (hw:∀Q:DQ,Q (.d d) n->w δ n Q):∀Q:DQ,Q (.d (.bool (isiB T d))) n->wIsi T w δ n Q:=λQ q=>hw _ q
theorem nt_i (e:δ[i]?=some (some (.w (.d (.tuple ds))))):∀Q:Bool->Int->Prop,Q false n->cNot (cT (wIsi "tuple" (wVar i))) δ n Q:=λQ q=>ja5 (k:=true) (λQ q=>ct_b (λQ q=>jm0 e q) q) q
end
theorem jtg {d:Aa} (h:isiB "tuple" d=true):∃ds,d=.tuple ds:=by
 rw[jaz]at h;cases d with
 |tuple ds=>exact⟨ds,rfl⟩
 |_=>cases h
theorem jmk {P:Aa->Prop} {l:List Aa} {x:Aa} (h:∀d∈l,P d) (hx:P x):∀d∈l++[x],P d:=λd hd=>(A6.mp hd).elim (h d) λz=>by rw[Ax.mp z];exact hx
theorem jlg {Q:DQ} {n:Int} {i j:List Aa} (h:i.length+j.length<=1000) (k:Q (.d (.tuple (i++j))) n):jgo (.d (.tuple i)) (.d (.tuple j)) n Q:=by
 cases i with
 |nil=>exact k
 |cons a r=>exact Ad (.inl (λz=>nomatch z)) ⟨small h,k⟩
theorem jmz {ds:List Aa} {a b:Option Int} {x:Aa} (h:x∈cutD ds a b):x∈ds:=List.mem_of_mem_drop (List.mem_of_mem_take h)
theorem juu (ds:List Aa) (j:Nat):(cutD ds none (some (j:Int))).length<=min j ds.length:=by
 unfold cutD;rw[HT.sIx_nat,HT.sIx_none,C0];omega
theorem jpr (ds:List Aa) (j:Nat):(cutD ds (some (j:Int)) none).length<=ds.length - j:=by
 unfold cutD;rw[HT.sIx_nat,HT.sIx_none,C0];omega
theorem jnt (ds:List Aa) (j:Nat):(cutD ds (some ((j:Int)+1)) none).length<=ds.length - (j+1):=by
 rw[show((j:Int)+1)=((j+1:Nat):Int) by omega];exact jpr ds (j+1)
section
variable {δ:Sl} {n:Int} {Q:DQ} {ds:List Aa} {j:Int}
theorem to_i (e1:δ[1]?=some (some (.w (.d (.tuple ds))))) (e2:δ[2]?=some (some (.w (.d (.int j))))) (k:Q (.d (.tuple (cutD ds none (some j)))) n):jav (wVar 1) jbb (jba (wVar 2)) δ n Q:=by
 unfold jav jbb jba;exact jac e1 (jac e2 k)
theorem ju0 (e1:δ[1]?=some (some (.w (.d (.tuple ds))))) (e2:δ[2]?=some (some (.w (.d (.int j))))) (k:Q (.d (.tuple (cutD ds (some (j+1)) none))) n):jav (wVar 1) (jba (w2 (wVar 2) (wC (.int (1))) (gI0 λi j=>.int (i+j)))) jbb δ n Q:=by
 unfold jav jbb jba;exact jac e1 (w2_i (jac e2 (c_i k)))
theorem jzv {a b:DT} {Q:List Aa->Int->Prop} (k:a δ n λx n1=>b δ n1 λy n2=>match ja3 [x,y]with
  |some ds=>ds.length<=1000/\Q ds n2
  |none=>False):fLst (jaa a (jaa b aNil)) δ n Q:=k
theorem jqy {w:DT} (k:w δ n λx n1=>match ja3 [x]with
  |some ds=>ds.length<=1000/\Q (.d (.tuple ds)) n1
  |none=>False):wTup (jaa w aNil) δ n Q:=k
theorem jzc {i:Nat} (e:δ[i]?=some (some (.w (.d (.tuple ds))))) (k:Q (.d (.tuple ds.reverse)) n):wRev (wVar i) δ n Q:=by
 unfold wRev;exact jac e k
theorem jzl {i:Nat} (e:δ[i]?=some (some (.w (.d (.tuple ds))))) (k:Q (.d (.list ds)) n):wB jmc (jaa (wVar i) aNil) δ n Q:=b1_i (jac e k)
end
theorem jny {α:Type} {w:DT} {Q:List Aa->Int->Prop} {rest:Sl} (f g:α->Aa):∀(xs:List α) (acc:List Aa) (x:Option SV) (n:Int),(∀a∈xs,∀(n:Int) (Q':DQ),Q' (.d (g a)) n->w (some (.w (.d (f a)))::rest) n Q')->Q (acc++xs.map g) n->jbu (jaf 0) cYes w Q (xs.map f) acc (x::rest) n
 |[],acc,x,n,_,q=>by rw[Be,Cg]at q;exact q
 |a::r,acc,x,n,h,q=>by
  simp only[A3,jbu,jaf,cYes,if_true,A7];refine h a Ba n _ (jny f g r (acc++[g a]) _ n (λb hb=>h b (Bg _ hb)) ?_);rw[Bw];exact q
theorem jqw {u:DTT} {v w:DT} {δ:Sl} {n:Int} {Q:DQ} {b:Bool} (hu:∀Q:Bool->Int->Prop,Q b n->u δ n Q) (k:if b=true then v δ n Q else w δ n Q):wIf u v w δ n Q:=hu _ k
theorem addI {i j n:Int} {Q:DQ} (k:Q (.d (.int (i+j))) n):gI0 (λi j=>.int (i+j)) (.d (.int i)) (.d (.int j)) n Q:=k
def jli:DSp:=λws n Q=>∃(d:Aa) (k:Int),ws=[.d d,.d (.int k)]/\Q (.d (.bool (letB k d))) n
def jbo:DSp:=λws n Q=>∃(d:Aa) (lo hi:Int),ws=[.d d,.d (.int lo),.d (.int hi)]/\Q (.d (.bool (jbk lo hi d))) n
def jj4:DSp:=λws n Q=>∃b,ws=[.d (.tuple [b])]/\Q (.d (.bool (jcl b))) n
def jhb:DSp:=λws n Q=>∃(d:Aa) (k:Nat),ws=[.d d]/\Th 60 k d/\k<=18/\Q (.d (.bool (jc3 d))) n
def jep:DSp:=λws n Q=>∃(ps:Pg) (a:Aa) (r:List Aa) (k:Nat),ws=[.d (pgD ps),.d (.tuple (a::r))]/\Th 60 k (.tuple (a::r))/\k<=18/\Q (.d (.bool (sgT ps (.tuple (a::r))))) n
inductive Mn:Nat->Aa->Prop
 |th {k:Nat} {d:Aa}:Th 60 k d->k<=18->Mn k d
 |no {k:Nat} {d:Aa}:Mn k d->Mn (k+1) (.tuple [.str "not",d])
def optD:Option Nat->Aa
 |none=>.none
 |some k=>.int k
def jhc:Nat->DSp
 |0=>λ_ _ _=>False
 |t+1=>λws n Q=>∃(ps:Pg) (d:Aa) (k:Nat),ws=[.d (pgD ps),.d d]/\Mn k d/\k<=t/\Q (.d (optD (cntO (sgT ps) (t+1) d))) n
def jfm:DSp:=λws n Q=>ws=[.tp]/\n < 2 ^ 39/\∀d,Th 9 2 d->Q (.d d) (n+1)
def jdp:Nat->DSp
 |0=>λ_ _ _=>False
 |t+1=>λws n Q=>∃(d:Aa) (L k:Nat),ws=[.tp,.d d]/\Th L k d/\9<=L/\L<=30/\k<=t/\n+5*(k:Int)+5 < 2 ^ 39/\∀(d':Aa) (n':Int),Th (L+1) (k+2) d'->n'<=n+5*(k:Int)+5->Q (.d d') n'
def jj2:Nat->DSp
 |0=>λ_ _ _=>False
 |t+1=>λws n Q=>∃(ps:Pg) (j:Nat),ws=[.tp,.d (pgD ps),.d (.int j)]/\j<=t/\okPg ps/\n+sgB j < 2 ^ 39/\∀(d:Aa) (n':Int),Th 9 (2*j+3) d->n'<=n+sgB j->Q (.d d) n'
def jj5:DSp:=λws n Q=>∃d,ws=[.tp,.d d]/\Th 9 3 d/\n+4 < 2 ^ 39/\∀(d':Aa) (k:Nat) (n':Int),Mn k d'->k<=44->n'<=n+4->Q (.d d') n'
def jj1:DSp:=λws n Q=>∃ps:Pg,ws=[.tp,.d (pgD ps)]/\okPg ps/\n+1000 < 2 ^ 39/\∀(d:Aa) (k:Nat) (n':Int),Mn k d->k<=44->n'<=n+1000->Q (.d d) n'
theorem jyw {L k:Nat} {d:Aa} (h:Th L k d) (hL:L<=100):okDp k d:=by
 induction h with
 |non=>unfold okDp;split<;>trivial
 |bool b=>unfold okDp;split<;>trivial
 |int i _ _=>unfold okDp;split<;>trivial
 |str x _ _=>unfold okDp;split<;>trivial
 |list h1 _ ih=>exact λd hd=>ih d hd
 |tuple h1 _ ih=>exact⟨by omega,λd hd=>ih d hd⟩
theorem jzy {k m:Nat} {d:Aa} (h:okDp k d) (hm:k<=m):okDp m d:=by
 obtain⟨j,rfl⟩:∃j,m=k+j:=⟨m - k,by omega⟩;clear hm
 induction j with
 |zero=>exact h
 |succ j ih=>exact jgg ih
theorem jzk {k:Nat} {d:Aa} (h:Mn k d):okDp k d:=by
 induction h with
 |th h _=>exact jyw h (by decide)
 |@no k d _ ih =>
  refine⟨show 2<=100 by decide,λx hx=>?_⟩;rcases Aq.mp hx with rfl | hx
  ·unfold okDp;split<;>trivial
  ·rw[Ax.mp hx];exact ih
abbrev je6:DST:=(sRet (wAnd (wIsi "int" (wVar 0)) (wNot (wIsi "bool" (wVar 0)))))
abbrev jc7:DST:=(sSeq (sIf (cNot (cT (wIsi "str" (wVar 0)))) (sRet (wC (.bool false))) jah) (sRet (wAnd (jaw gLe gLe (wC (.int (1))) (wB gLen (jaa (wVar 0) aNil)) (wVar 1)) (wB gAll (jaa (wOf (ja0 [none] (jdi (wVar 0)) (jaf 0) cYes (jaw gLe gLe (wC (.str "a")) (wVar 0) (wC (.str "z"))))) aNil)))))
abbrev jqo:DST:=(sRet (jad jb2 (jaa (wVar 0) (jaa (wC (.int (8))) aNil))))
abbrev jd1:DST:=(sRet (wAnd (jad (spJ jfb) (jaa (wVar 0) aNil)) (jaw gLe gLe (wC (.int (0))) (wVar 0) (wC (.int (99))))))
abbrev je7:DST:=(sRet (wOr (jad (spJ (letB 8)) (jaa (wVar 0) aNil)) (jad (spJ numB) (jaa (wVar 0) aNil))))
abbrev jqp:DST:=(sRet (jad jb2 (jaa (wVar 0) (jaa (wC (.int (4))) aNil))))
abbrev jd2:DST:=(sRet (wAnd (wIsi "tuple" (wVar 0)) (wAnd (w2 (wB gLen (jaa (wVar 0) aNil)) (wVar 2) gEq) (w2 (w2 (wVar 0) (wC (.int (0))) gIx) (wVar 1) gEq))))
abbrev je8:DST:=(sRet (wAnd (jad jaq (jaa (wVar 0) (jaa (wVar 1) (jaa (wC (.int (2))) aNil)))) (jad (spJ (letB 4)) (jaa (w2 (wVar 0) (wC (.int (1))) gIx) aNil))))
abbrev jg4:DST:=(sSeq (sIf (cT (jad jaq (jaa (wVar 0) (jaa (wC (.str "is")) (jaa (wC (.int (2))) aNil))))) (sRet (jad (spJ jcl) (jaa (w2 (wVar 0) (wC (.int (1))) gIx) aNil))) jah) (sRet (jad jcj (jaa (wVar 0) (jaa (wC (.str "as")) aNil)))))
abbrev jbi:DST:=(sSeq (sIf (cOr (cT (jad jaq (jaa (wVar 0) (jaa (wC (.str "any")) (jaa (wC (.int (1))) aNil))))) (cOr (cT (jad jaq (jaa (wVar 0) (jaa (wC (.str "word")) (jaa (wC (.int (1))) aNil))))) (cT (jad jaq (jaa (wVar 0) (jaa (wC (.str "number")) (jaa (wC (.int (1))) aNil))))))) (sRet (wC (.bool true))) jah) (sRet (wOr (jad (spJ jiu) (jaa (wVar 0) aNil)) (jad jcj (jaa (wVar 0) (jaa (wC (.str "bind")) aNil))))))
abbrev jbn:DST:=(sRet (wAnd (wIsi "tuple" (wVar 0)) (jaw gLe gLe (wC (.int (1))) (wB gLen (jaa (wVar 0) aNil)) (wC (.int (4))))))
abbrev jc6:DST:=(sRet (wAnd (jad (spJ cntB) (jaa (wVar 0) aNil)) (wB gAll (jaa (wOf (ja0 [none] (jbc (wVar 0)) (jaf 0) cYes (jad (spJ ja1) (jaa (wVar 0) aNil)))) aNil))))
abbrev jg3:DST:=(sRet (wAnd (jad (spJ jfb) (jaa (wVar 0) aNil)) (jaw gLe gLe (wC (.int (0))) (wVar 0) (wVar 1))))
abbrev jg5:DST:=(sRet (wAnd (jad jj0 (jaa (w2 (wVar 1) (wC (.int (0))) gIx) (jaa (w2 (wB gLen (jaa (wVar 0) aNil)) (wC (.int (1))) (gI0 λi j=>.int (i - j))) aNil))) (jad jj0 (jaa (w2 (wVar 1) (wC (.int (1))) gIx) (jaa (wB gLen (jaa (w2 (w2 (wVar 0) (w2 (wVar 1) (wC (.int (0))) gIx) gIx) (wC (.int (1))) gIx) aNil)) aNil)))))
abbrev jcp:DST:=(sSeq (sIf (cOr (cNot (cT (jad jaq (jaa (wVar 0) (jaa (wC (.str "notes")) (jaa (wC (.int (3))) aNil)))))) (cNot (cT (jad (spJ patB) (jaa (w2 (wVar 0) (wC (.int (1))) gIx) aNil))))) (sRet (wC (.bool false))) jah) (sSeq (sIf (cT (wB gAny (jaa (wOf (ja0 [none] (jbc (w2 (wVar 0) (wC (.int (1))) gIx)) (jaf 0) cYes (w2 (w2 (wVar 0) (wC (.int (0))) gIx) (wC (.str "as")) gEq))) aNil))) (sRet (wC (.bool false))) jah) (sRet (wAnd (jad jj0 (jaa (w2 (wVar 0) (wC (.int (2))) gIx) (jaa (wC (.int (9))) aNil))) (w2 (w2 (wVar 0) (wC (.int (2))) gIx) (wC (.int (1))) gGe)))))
abbrev jlh:DST:=(sRet (jad jj0 (jaa (wVar 1) (jaa (w2 (wB gLen (jaa (wVar 0) aNil)) (wC (.int (1))) (gI0 λi j=>.int (i - j))) aNil))))
abbrev jen:DST:=(sSeq (sIf (cOr (cNot (cT (jad jaq (jaa (wVar 1) (jaa (wC (.str "at")) (jaa (wC (.int (4))) aNil)))))) (cNot (cT (jad jn3 (jaa (wVar 0) (jaa (w2 (wVar 1) (wC (.int (1))) gIx) aNil)))))) (sRet (wC (.bool false))) jah) (sRet (jad jsv (jaa (w2 (wVar 0) (w2 (wVar 1) (wC (.int (1))) gIx) gIx) (jaa (jav (wVar 1) (jba (wC (.int (2)))) jbb) aNil)))))
abbrev jcq:DST:=(sRet (wAnd (jad jaq (jaa (wVar 1) (jaa (wC (.str "ended")) (jaa (wC (.int (2))) aNil)))) (jad jn3 (jaa (wVar 0) (jaa (w2 (wVar 1) (wC (.int (1))) gIx) aNil)))))
abbrev jb1:DST:=(sSeq (sIf (cOr (cT (jad jaq (jaa (wVar 0) (jaa (wC (.str "all")) (jaa (wC (.int (2))) aNil))))) (cT (jad jaq (jaa (wVar 0) (jaa (wC (.str "some")) (jaa (wC (.int (2))) aNil)))))) (sRet (wIsi "tuple" (w2 (wVar 0) (wC (.int (1))) gIx))) jah) (sRet (jad jaq (jaa (wVar 0) (jaa (wC (.str "not")) (jaa (wC (.int (2))) aNil))))))
abbrev jg2:DST:=(sSeq (sIf (cT (w2 (w2 (wVar 0) (wC (.int (0))) gIx) (wTup (jaa (wC (.str "all")) (jaa (wC (.str "some")) aNil))) (gIn false))) (sRet (w2 (wVar 0) (wC (.int (1))) gIx)) jah) (sRet (wIf (cT (w2 (w2 (wVar 0) (wC (.int (0))) gIx) (wC (.str "not")) gEq)) (wTup (jaa (w2 (wVar 0) (wC (.int (1))) gIx) aNil)) (wTup aNil))))
abbrev jcr:DST:=(sSeq (sIf (cOr (cT (jad (spJ nsgB) (jaa (wVar 1) aNil))) (cOr (cT (jad jqs (jaa (wVar 0) (jaa (wVar 1) aNil)))) (cT (jad jqr (jaa (wVar 0) (jaa (wVar 1) aNil)))))) (sRet (wC (.bool true))) jah) (sRet (jad (spJ jbl) (jaa (wVar 1) aNil))))
abbrev jij:DST:=(sSeq (sOwn 2 (fLst (jaa (wVar 1) aNil))) (sSeq (sSet 3 (wC (.int (0)))) (sSeq (jon (cTrL (jd4 2)) (sSeq (joo 4 2) (sSeq (jt3 3 (wC (.int (1)))) (sSeq (sIf (cOr (cT (w2 (wVar 3) (wC (.int (40))) gGt)) (cNot (cT (jad jqq (jaa (wVar 0) (jaa (wVar 4) aNil)))))) (sRet (wC (.bool false))) jah) (jq9 2 (jad jn2 (jaa (wVar 4) aNil))))))) (sRet (wC (.bool true))))))
abbrev jfh:DST:=(sRet (w2 (wOf (fLst (jaa (wC (.str "a")) (jaa (wC (.int (0))) (jaa (wC (.str "a")) (jaa (wC (.int (1))) (jaa (wC (.str "ab")) (jaa (wC (.str "go")) (jaa (wC (.int (99))) (jaa (wC (.int (0))) aNil)))))))))) (jad jao (jaa (wVar 0) (jaa (wC (.int (8))) aNil))) gIx))
abbrev jg7:DST:=(sRet (w2 (wOf (fLst (jaa (wC (.int (1))) (jaa (wC (.int (2))) (jaa (wC (.int (2))) (jaa (wC (.int (2))) (jaa (wC (.int (1))) (jaa (wC (.int (3))) (jaa (wC (.int (4))) aNil))))))))) (jad jao (jaa (wVar 0) (jaa (wC (.int (7))) aNil))) gIx))
abbrev jdn:DST:=(sSeq (sOwn 2 (fLst aNil)) (sSeq (sOwn 3 (fLst aNil)) (sSeq (sFor (jax (jad jim (jaa (wVar 0) aNil))) (jaf 4) (sSeq (sSet 5 (jad jao (jaa (wVar 0) (jaa (wC (.int (9))) aNil)))) (sSeq (sSet 6 (w2 (wVar 1) (jd4 3) gCat)) (sIf (cT (w2 (wVar 5) (wC (.int (3))) gLt)) (sApp 2 (wTup (jaa (wC (.str "is")) (jaa (jad jfl (jaa (wVar 0) aNil)) aNil)))) (sIf (cT (w2 (wVar 5) (wC (.int (6))) gLt)) (sApp 2 (w2 (wOf (fLst (jaa (wTup (jaa (wC (.str "any")) aNil)) (jaa (wTup (jaa (wC (.str "word")) aNil)) (jaa (wTup (jaa (wC (.str "number")) aNil)) aNil))))) (w2 (wVar 5) (wC (.int (3))) (gI0 λi j=>.int (i - j))) gIxL)) (sIf (cOr (cT (w2 (wVar 5) (wC (.int (8))) gLt)) (cT (w2 (wVar 6) (wOf (fLst aNil)) gEqL))) (sSeq (sSet 7 (w2 (wOf (fLst (jaa (wC (.str "n")) (jaa (wC (.str "nm")) (jaa (wC (.str "go")) (jaa (wC (.str "m")) aNil)))))) (jad jao (jaa (wVar 0) (jaa (wC (.int (4))) aNil))) gIxL)) (sSeq (sApp 3 (wVar 7)) (sApp 2 (wTup (jaa (wC (.str "bind")) (jaa (wVar 7) aNil)))))) (sApp 2 (wTup (jaa (wC (.str "as")) (jaa (w2 (wVar 6) (jad jao (jaa (wVar 0) (jaa (wB jez (jaa (wVar 6) aNil)) aNil))) gIxL) aNil)))))))))) (sFrz 2 (sFrz 3 (sRet (wTup (jaa (wB jcc (jaa (wVar 2) aNil)) (jaa (wVar 3) aNil)))))))))
abbrev jc8:DST:=(sSeq (sOwn 2 (fLst aNil)) (sSeq (sFor (jax (jad jim (jaa (wVar 0) aNil))) (jaf 3) (sSeq (sSet 4 (jad jao (jaa (wVar 0) (jaa (wC (.int (6))) aNil)))) (sIf (cOr (cT (w2 (wVar 4) (wC (.int (3))) gLt)) (cT (w2 (wVar 1) (wOf (fLst aNil)) gEqL))) (sApp 2 (wTup (jaa (wC (.str "is")) (jaa (jad jfl (jaa (wVar 0) aNil)) aNil)))) (sApp 2 (wTup (jaa (w2 (wOf (fLst (jaa (wC (.str "as")) (jaa (wC (.str "as")) (jaa (wC (.str "next")) aNil))))) (w2 (wVar 4) (wC (.int (3))) (gI0 λi j=>.int (i - j))) gIxL) (jaa (w2 (wVar 1) (jad jao (jaa (wVar 0) (jaa (wB jez (jaa (wVar 1) aNil)) aNil))) gIxL) aNil))))))) (sFrz 2 (sRet (wB jcc (jaa (wVar 2) aNil))))))
abbrev jg6:DST:=(sSeq (sIf (cOr (cT (w2 (wVar 1) (wOf (fLst aNil)) gEqL)) (cT (w2 (jad jao (jaa (wVar 0) (jaa (wC (.int (2))) aNil))) (wC (.int (0))) gEqL))) (sRet (wTup (jaa (wC (.str "is")) (jaa (jad jfl (jaa (wVar 0) aNil)) aNil)))) jah) (sRet (wTup (jaa (wC (.str "as")) (jaa (w2 (wVar 1) (jad jao (jaa (wVar 0) (jaa (wB jez (jaa (wVar 1) aNil)) aNil))) gIxL) aNil)))))
abbrev jil:DST:=(sSeq (sSet 3 (jad jao (jaa (wVar 0) (jaa (wC (.int (12))) aNil)))) (sSeq (sIf (cT (w2 (wVar 3) (wC (.int (4))) gLt)) (sRet (wTup (jaa (wTup (jaa (wC (.str "lay")) (jaa (jad jm7 (jaa (wVar 0) (jaa (wVar 1) aNil))) (jaa (w2 (wTp3 0) (jad jao (jaa (wVar 0) (jaa (wB jez (jaa (wTp3 0) aNil)) aNil))) gIxL) aNil)))) (jaa (wOf (fLst aNil)) aNil)))) jah) (sSeq (sSet 4 (w2 (wVar 2) (jad jao (jaa (wVar 0) (jaa (wB jez (jaa (wVar 2) aNil)) aNil))) gIxL)) (sSeq (sIf (cT (w2 (wVar 3) (wC (.int (10))) gEqL)) (sRet (wTup (jaa (wTup (jaa (wC (.str "same")) (jaa (jad jha (jaa (wVar 0) (jaa (wVar 1) aNil))) (jaa (jad jha (jaa (wVar 0) (jaa (wVar 1) aNil))) (jaa (wVar 4) aNil))))) (jaa (wOf (fLst aNil)) aNil)))) jah) (sSeq (sIf (cT (w2 (wVar 3) (wC (.int (11))) gEqL)) (sRet (wTup (jaa (wTup (jaa (wC (.str "go")) (jaa (wVar 4) aNil))) (jaa (wOf (fLst aNil)) aNil)))) jah) (sSeq (sUnp (jad jin (jaa (wVar 0) (jaa (wVar 1) aNil))) (jci 2 (ja6 (jaf 5) (ja6 (jaf 6) jch)))) (sSeq (sIf (cT (w2 (wVar 3) (wC (.int (7))) gGt)) (sRet (wTup (jaa (wTup (jaa (wC (.str "look")) (jaa (wVar 5) (jaa (wVar 4) aNil)))) (jaa (wVar 6) aNil)))) jah) (sRet (wTup (jaa (wTup (jaa (w2 (wOf (fLst (jaa (wC (.str "take")) (jaa (wC (.str "take")) (jaa (wC (.str "take")) (jaa (wC (.str "read")) aNil)))))) (w2 (wVar 3) (wC (.int (4))) (gI0 λi j=>.int (i - j))) gIxL) (jaa (wVar 5) aNil))) (jaa (wVar 6) aNil)))))))))))
abbrev jdm:DST:=(sSeq (sOwn 1 (fLst (jaa (wTup aNil) aNil))) (sSeq (sFor (jax (w2 (wOf (fLst (jaa (wC (.int (0))) (jaa (wC (.int (1))) (jaa (wC (.int (2))) (jaa (wC (.int (1))) (jaa (wC (.int (0))) (jaa (wC (.int (2))) (jaa (wC (.int (5))) aNil))))))))) (jad jao (jaa (wVar 0) (jaa (wC (.int (7))) aNil))) gIxL)) (jaf 2) (sApp 1 (w2 (wOf (fLst (jaa (wTup aNil) (jaa (wTup (jaa (wC (.str "n")) aNil)) (jaa (wTup (jaa (wC (.str "go")) (jaa (wC (.str "n")) aNil))) (jaa (wTup (jaa (wC (.str "nm")) aNil)) (jaa (wTup aNil) aNil))))))) (jad jao (jaa (wVar 0) (jaa (wC (.int (5))) aNil))) gIxL))) (sSeq (sOwn 3 (fLst aNil)) (sFrz 1 (sSeq (sFor (jjg (wVar 1)) (jaf 4) (sSeq (sOwn 5 (jgp (wVar 4))) (sSeq (sOwn 6 (fLst aNil)) (sSeq (sFor (jax (w2 (wOf (fLst (jaa (wC (.int (2))) (jaa (wC (.int (3))) (jaa (wC (.int (1))) (jaa (wC (.int (4))) (jaa (wC (.int (2))) (jaa (wC (.int (0))) (jaa (wC (.int (3))) (jaa (wC (.int (8))) aNil)))))))))) (jad jao (jaa (wVar 0) (jaa (wC (.int (8))) aNil))) gIxL)) (jaf 2) (sSeq (sSet 8 (wOf (ja0 [none,some 5,some 1] (jax (wB jez (jaa (wVar 1) aNil))) (jaf 0) (cT (w2 (wOf (ja0 [none,some 1] (jbc (w2 (wVar 2) (wVar 0) gIxL)) (jaf 0) (cT (w2 (wVar 0) (wVar 1) (gInL true))) (wVar 0))) (wOf (fLst aNil)) gEqL)) (wVar 0)))) (sSeq (sUnp (jad jio (jaa (wVar 0) (jaa (jd4 5) (jaa (wVar 8) aNil)))) (jci 2 (ja6 (jaf 9) (ja6 (jaf 10) jch)))) (sSeq (sApp 6 (wVar 9)) (sFor (jjg (wVar 10)) (jaf 7) (sIf (cT (w2 (wVar 7) (jd4 5) (gInL true))) (sApp 5 (wVar 7)) jah)))))) (sFrz 6 (sApp 3 (wTup (jaa (wVar 4) (jaa (wB jcc (jaa (wVar 6) aNil)) aNil))))))))) (sFrz 3 (sRet (wB jcc (jaa (wVar 3) aNil)))))))))
abbrev jc9:DST:=(sSeq (sOwn 1 (ja0 [none,some 0] (jax (w2 (wOf (fLst (jaa (wC (.int (2))) (jaa (wC (.int (1))) (jaa (wC (.int (2))) (jaa (wC (.int (3))) (jaa (wC (.int (2))) (jaa (wC (.int (1))) (jaa (wC (.int (0))) (jaa (wC (.int (5))) aNil)))))))))) (jad jao (jaa (wVar 0) (jaa (wC (.int (8))) aNil))) gIxL)) (jaf 0) cYes (jad jm6 (jaa (wVar 1) aNil)))) (sSeq (sIf (cAnd (cT (w2 (wB jez (jaa (jd4 1) aNil)) (wC (.int (2))) gEqL)) (cT (w2 (jad jao (jaa (wVar 0) (jaa (wC (.int (4))) aNil))) (wC (.int (0))) gEqL))) (sPut 1 (wC (.int (1))) (w2 (jd4 1) (wC (.int (0))) gIxL)) jah) (sFrz 1 (sRet (wB jcc (jaa (wVar 1) aNil))))))
abbrev jfj (Sf:DSp):DST:=(sSeq (sSet 3 (jad jao (jaa (wVar 0) (jaa (wC (.int (8))) aNil)))) (sSeq (sIf (cAnd (cT (w2 (wVar 2) (wC (.int (0))) gGt)) (cT (w2 (wVar 3) (wC (.int (0))) gEq))) (sRet (wTup (jaa (wC (.str "not")) (jaa (jad Sf (jaa (wVar 0) (jaa (wVar 1) (jaa (w2 (wVar 2) (wC (.int (1))) (gI0 λi j=>.int (i - j))) aNil)))) aNil)))) jah) (sSeq (sIf (cAnd (cT (w2 (wVar 2) (wC (.int (0))) gGt)) (cT (w2 (wVar 3) (wC (.int (3))) gLt))) (sSeq (sSet 4 (wOf (ja0 [none,some 2,some 1,some 0] (jax (w2 (wOf (fLst (jaa (wC (.int (2))) (jaa (wC (.int (0))) (jaa (wC (.int (1))) (jaa (wC (.int (3))) aNil)))))) (jad jao (jaa (wVar 0) (jaa (wC (.int (4))) aNil))) gIx)) (jaf 0) cYes (jad Sf (jaa (wVar 3) (jaa (wVar 2) (jaa (w2 (wVar 1) (wC (.int (1))) (gI0 λi j=>.int (i - j))) aNil))))))) (sRet (wTup (jaa (w2 (wOf (fLst (jaa (wC (.str "all")) (jaa (wC (.str "some")) aNil)))) (w2 (wVar 3) (wC (.int (1))) (gI0 λi j=>.int (i - j))) gIx) (jaa (wB jeg (jaa (wVar 4) aNil)) aNil))))) jah) (sSeq (sIf (cAnd (cT (w2 (wB gLen (jaa (wVar 1) aNil)) (wC (.int (0))) gGt)) (cT (w2 (wVar 3) (wC (.int (5))) gGt))) (sSeq (sSet 5 (jad jao (jaa (wVar 0) (jaa (wB gLen (jaa (wVar 1) aNil)) aNil)))) (sSeq (sIf (cT (w2 (wVar 3) (wC (.int (6))) gEq)) (sRet (wTup (jaa (wC (.str "ended")) (jaa (wVar 5) aNil)))) jah) (sSeq (sSet 6 (jad jao (jaa (wVar 0) (jaa (wB gLen (jaa (w2 (wVar 1) (wVar 5) gIx) aNil)) aNil)))) (sRet (wTup (jaa (wC (.str "at")) (jaa (wVar 5) (jaa (wVar 6) (jaa (jad jao (jaa (wVar 0) (jaa (w2 (wB gLen (jaa (w2 (w2 (w2 (wVar 1) (wVar 5) gIx) (wVar 6) gIx) (wC (.int (1))) gIx) aNil)) (wC (.int (1))) (gI0 λi j=>.int (i+j))) aNil))) aNil))))))))) jah) (sSeq (sSet 7 (wOf (ja0 [none] (jbc (w2 (jad jin (jaa (wVar 0) (jaa (wOf (fLst aNil)) aNil))) (wC (.int (0))) gIx)) (jaf 0) cYes (wIf (cT (w2 (w2 (wVar 0) (wC (.int (0))) gIx) (wC (.str "as")) gEq)) (wTup (jaa (wC (.str "bind")) (jaa (w2 (wVar 0) (wC (.int (1))) gIx) aNil))) (wVar 0))))) (sRet (wTup (jaa (wC (.str "notes")) (jaa (wB jeg (jaa (wVar 7) aNil)) (jaa (w2 (wOf (fLst (jaa (wC (.int (1))) (jaa (wC (.int (2))) (jaa (wC (.int (1))) (jaa (wC (.int (3))) (jaa (wC (.int (9))) aNil))))))) (jad jao (jaa (wVar 0) (jaa (wC (.int (5))) aNil))) gIx) aNil))))))))))
abbrev jik:DST:=(sSeq (sSet 1 (wOf (fLst (jaa (wC .none) (jaa (wC (.bool true)) (jaa (wC (.bool false)) (jaa (wNeg (wC (.int (1)))) (jaa (wC (.int (0))) (jaa (wC (.int (1))) (jaa (wC (.int (2))) (jaa (wC (.int (9))) (jaa (wC (.int (10))) (jaa (wC (.int (20))) (jaa (wC (.int (21))) (jaa (wC (.int (99))) (jaa (wC (.int (100))) (jaa (w2 (wC (.int (10))) (wC (.int (20))) (gI CPow λi j=>.int (i ^ j.toNat))) (jaa (wC (.str "")) (jaa (wC (.str "a")) (jaa (wC (.str "abcde")) (jaa (wC (.str "abcdefghi")) (jaa (wC (.str "A")) (jaa (wC (.str "a1")) aNil))))))))))))))))))))))) (sSeq (sSet 1 (w2 (wVar 1) (wOf (fLst (jaa (wC (.str "all")) (jaa (wC (.str "as")) (jaa (wC (.str "bind")) (jaa (wC (.str "any")) (jaa (wTup aNil) (jaa (wOf (fLst aNil)) (jaa (wTup (jaa (wC (.int (1))) aNil)) (jaa (wTup (jaa (wC (.str "any")) aNil)) (jaa (wTup (jaa (wC (.str "a")) aNil)) (jaa (wTup (jaa (wTup (jaa (wC (.str "a")) aNil)) (jaa (wC .none) aNil))) aNil)))))))))))) gCat)) (sRet (w2 (wVar 1) (jad jao (jaa (wVar 0) (jaa (wB gLen (jaa (wVar 1) aNil)) aNil))) gIx))))
abbrev jg9 (Sf:DSp):DST:=(sSeq (sIf (cAnd (cT (wIsi "tuple" (wVar 1))) (cAnd (cT (w2 (wB gLen (jaa (wVar 1) aNil)) (wC (.int (0))) gGt)) (cT (w2 (jad jao (jaa (wVar 0) (jaa (wC (.int (5))) aNil))) (wC (.int (0))) gGt)))) (sSeq (sSet 2 (jad jao (jaa (wVar 0) (jaa (wB gLen (jaa (wVar 1) aNil)) aNil)))) (sRet (w2 (w2 (jav (wVar 1) jbb (jba (wVar 2))) (wTup (jaa (jad Sf (jaa (wVar 0) (jaa (w2 (wVar 1) (wVar 2) gIx) aNil))) aNil)) jgo) (jav (wVar 1) (jba (w2 (wVar 2) (wC (.int (1))) (gI0 λi j=>.int (i+j)))) jbb) jgo))) jah) (sSeq (sSet 3 (jad jao (jaa (wVar 0) (jaa (wC (.int (6))) aNil)))) (sSeq (sIf (cAnd (cT (wIsi "tuple" (wVar 1))) (cT (w2 (wVar 3) (wC (.int (0))) gGt))) (sRet (w2 (wOf (fLst (jaa (wB jmc (jaa (wVar 1) aNil)) (jaa (jav (wVar 1) jbb (jba (wNeg (wC (.int (1)))))) (jaa (w2 (wVar 1) (jav (wVar 1) (jba (wNeg (wC (.int (1))))) jbb) jgo) (jaa (w2 (wVar 1) (wTup (jaa (jad jfm (jaa (wVar 0) aNil)) aNil)) jgo) (jaa (wRev (wVar 1)) aNil))))))) (w2 (wVar 3) (wC (.int (1))) (gI0 λi j=>.int (i - j))) gIx)) jah) (sSeq (sIf (cAnd (cT (wIsi "int" (wVar 1))) (cAnd (cNot (cT (wIsi "bool" (wVar 1)))) (cT (w2 (wVar 3) (wC (.int (3))) gLt)))) (sRet (w2 (wOf (fLst (jaa (w2 (wVar 1) (wC (.int (1))) (gI0 λi j=>.int (i+j))) (jaa (w2 (wVar 1) (wC (.int (1))) (gI0 λi j=>.int (i - j))) (jaa (w2 (wVar 1) (wC (.int (0))) gGt) aNil))))) (wVar 3) gIx)) jah) (sRet (jad jfm (jaa (wVar 0) aNil)))))))
abbrev jdo:DST:=(sSeq (sSet 2 (wC (.str "abcdefghijklmnopqrstuvwxyz"))) (sRet (wAnd (wIsi "str" (wVar 0)) (wAnd (jaw gLe gLe (wC (.int (1))) (wB gLen (jaa (wVar 0) aNil)) (wVar 1)) (wB gAll (jaa (wOf (ja0 [none,some 2] (jdi (wVar 0)) (jaf 0) cYes (w2 (wVar 0) (wVar 1) (gInS false)))) aNil))))))
abbrev jda:DST:=(sRet (wAnd (wIsi "int" (wVar 0)) (wAnd (wNot (wIsi "bool" (wVar 0))) (jaw gLe gLe (wVar 1) (wVar 0) (wVar 2)))))
abbrev jeo:DST:=(sSeq (sIf (cOr (cNot (cT (wIsi "tuple" (wVar 0)))) (cNot (cT (jaw gLe gLe (wC (.int (1))) (wB gLen (jaa (wVar 0) aNil)) (wC (.int (4))))))) (sRet (wC (.bool false))) jah) (sRet (wB gAll (jaa (wOf (ja0 [none] (jbc (wVar 0)) (jaf 0) cYes (wOr (jad jli (jaa (wVar 0) (jaa (wC (.int (8))) aNil))) (jad jbo (jaa (wVar 0) (jaa (wC (.int (0))) (jaa (wC (.int (99))) aNil))))))) aNil))))
abbrev jdb:DST:=(sSeq (sIf (cOr (cNot (cT (wIsi "tuple" (wVar 0)))) (cT (w2 (wB gLen (jaa (wVar 0) aNil)) (wC (.int (0))) gEq))) (sRet (wC (.bool false))) jah) (sSeq (sIf (cT (w2 (w2 (wVar 0) (wC (.int (0))) gIx) (wTup (jaa (wC (.str "any")) (jaa (wC (.str "word")) (jaa (wC (.str "number")) aNil)))) (gXX inX))) (sRet (w2 (wB gLen (jaa (wVar 0) aNil)) (wC (.int (1))) gEq)) jah) (sSeq (sIf (cT (w2 (wB gLen (jaa (wVar 0) aNil)) (wC (.int (2))) gNe)) (sRet (wC (.bool false))) jah) (sSeq (sIf (cT (w2 (w2 (wVar 0) (wC (.int (0))) gIx) (wC (.str "is")) gEq)) (sRet (jad jj4 (jaa (jav (wVar 0) (jba (wC (.int (1)))) jbb) aNil))) jah) (sRet (wAnd (w2 (w2 (wVar 0) (wC (.int (0))) gIx) (wC (.str "bind")) gEq) (jad jli (jaa (w2 (wVar 0) (wC (.int (1))) gIx) (jaa (wC (.int (4))) aNil)))))))))
abbrev jcs:DST:=(sSeq (sIf (cT (w2 (w2 (wVar 1) (wC (.int (0))) gIx) (wC (.str "notes")) gEq)) (sSeq (sIf (cOr (cT (w2 (wB gLen (jaa (wVar 1) aNil)) (wC (.int (3))) (gXX λd e=>some (!B1 d e)))) (cOr (cNot (cT (wIsi "tuple" (w2 (wVar 1) (wC (.int (1))) gIx)))) (cNot (cT (jaw gLe gLe (wC (.int (1))) (wB gLen (jaa (w2 (wVar 1) (wC (.int (1))) gIx) aNil)) (wC (.int (4)))))))) (sRet (wC (.bool false))) jah) (sRet (wAnd (wB gAll (jaa (wOf (ja0 [none] (jbc (w2 (wVar 1) (wC (.int (1))) gIx)) (jaf 0) cYes (jad jhb (jaa (wVar 0) aNil)))) aNil)) (jad jbo (jaa (w2 (wVar 1) (wC (.int (2))) gIx) (jaa (wC (.int (1))) (jaa (wC (.int (9))) aNil))))))) jah) (sSeq (sIf (cT (w2 (w2 (wVar 1) (wC (.int (0))) gIx) (wC (.str "ended")) gEq)) (sRet (wAnd (w2 (wB gLen (jaa (wVar 1) aNil)) (wC (.int (2))) gEq) (jad jbo (jaa (w2 (wVar 1) (wC (.int (1))) gIx) (jaa (wC (.int (0))) (jaa (w2 (wB gLen (jaa (wVar 0) aNil)) (wC (.int (1))) (gI0 λi j=>.int (i - j))) aNil)))))) jah) (sSeq (sIf (cOr (cT (w2 (w2 (wVar 1) (wC (.int (0))) gIx) (wC (.str "at")) (gXX λd e=>some (!B1 d e)))) (cOr (cT (w2 (wB gLen (jaa (wVar 1) aNil)) (wC (.int (4))) (gXX λd e=>some (!B1 d e)))) (cNot (cT (jad jbo (jaa (w2 (wVar 1) (wC (.int (1))) gIx) (jaa (wC (.int (0))) (jaa (w2 (wB gLen (jaa (wVar 0) aNil)) (wC (.int (1))) (gI0 λi j=>.int (i - j))) aNil)))))))) (sRet (wC (.bool false))) jah) (sSeq (sSet 2 (w2 (wVar 0) (w2 (wVar 1) (wC (.int (1))) gIx) gIx)) (sRet (wAnd (jad jbo (jaa (w2 (wVar 1) (wC (.int (2))) gIx) (jaa (wC (.int (0))) (jaa (w2 (wB gLen (jaa (wVar 2) aNil)) (wC (.int (1))) (gI0 λi j=>.int (i - j))) aNil)))) (jad jbo (jaa (w2 (wVar 1) (wC (.int (3))) gIx) (jaa (wC (.int (0))) (jaa (wB gLen (jaa (w2 (w2 (wVar 2) (w2 (wVar 1) (wC (.int (2))) gIx) gIx) (wC (.int (1))) gIx) aNil)) aNil))))))))))
abbrev jfk (Sf:DSp):DST:=(sSeq (sIf (cOr (cNot (cT (wIsi "tuple" (wVar 1)))) (cT (w2 (wB gLen (jaa (wVar 1) aNil)) (wC (.int (0))) gEq))) (sRet (wC .none)) jah) (sSeq (sIf (cAnd (cT (w2 (w2 (wVar 1) (wC (.int (0))) gIx) (wC (.str "not")) gEq)) (cT (w2 (wB gLen (jaa (wVar 1) aNil)) (wC (.int (2))) gEq))) (sSet 2 (jav (wVar 1) (jba (wC (.int (1)))) jbb)) (sIf (cAnd (cT (w2 (w2 (wVar 1) (wC (.int (0))) gIx) (wTup (jaa (wC (.str "all")) (jaa (wC (.str "some")) aNil))) (gXX inX))) (cAnd (cT (w2 (wB gLen (jaa (wVar 1) aNil)) (wC (.int (2))) gEq)) (cT (wIsi "tuple" (w2 (wVar 1) (wC (.int (1))) gIx))))) (sSet 2 (w2 (wVar 1) (wC (.int (1))) gIx)) (sRet (wIf (cT (jad jep (jaa (wVar 0) (jaa (wVar 1) aNil)))) (wC (.int (1))) (wC .none))))) (sSeq (sSet 3 (wOf (ja0 [none,some 0] (jbc (wVar 2)) (jaf 0) cYes (jad Sf (jaa (wVar 1) (jaa (wVar 0) aNil)))))) (sRet (wIf (cT (w2 (wC .none) (wVar 3) (gIn false))) (wC .none) (w2 (wC (.int (1))) (wB gSum (jaa (wVar 3) aNil)) (gI0 λi j=>.int (i+j))))))))
abbrev jg8:DST:=(sSeq (sSet 2 (w2 (wC (.int (38))) (jad jao (jaa (wVar 0) (jaa (wC (.int (4))) aNil))) (gI0 λi j=>.int (i+j)))) (sSeq (sSet 3 (jad jao (jaa (wVar 0) (jaa (wC (.int (3))) aNil)))) (sSeq (sIf (cT (w2 (wVar 3) (wC (.int (0))) gEq)) (sRet (wTup (jaa (w2 (wOf (fLst (jaa (wC (.str "all")) (jaa (wC (.str "some")) aNil)))) (jad jao (jaa (wVar 0) (jaa (wC (.int (2))) aNil))) gIx) (jaa (jm9 (wTup (jaa (wVar 1) aNil)) (w2 (wVar 2) (wC (.int (1))) (gI0 λi j=>.int (i - j)))) aNil)))) jah) (sSeq (sIf (cT (w2 (wVar 3) (wC (.int (1))) gEq)) (sSeq (sFor (jax (w2 (wVar 2) (wC (.int (1))) (gI0 λi j=>.int (i - j)))) (jaf 4) (sSet 1 (wTup (jaa (wC (.str "not")) (jaa (wVar 1) aNil))))) (sRet (wVar 1))) jah) (sRet (wTup (jaa (wC (.str "all")) (jaa (w2 (wTup (jaa (wTup (jaa (wC (.str "some")) (jaa (jm9 (wTup (jaa (wVar 1) aNil)) (wC (.int (20)))) aNil))) aNil)) (jm9 (wTup (jaa (wVar 1) aNil)) (w2 (wVar 2) (wC (.int (22))) (gI0 λi j=>.int (i - j)))) jgo) aNil))))))))
abbrev jfi:DST:=(sSeq (sSet 2 (jad jao (jaa (wVar 0) (jaa (wC (.int (6))) aNil)))) (sSeq (sIf (cT (w2 (wVar 2) (wC (.int (0))) gEq)) (sRet (jad jj5 (jaa (wVar 0) (jaa (jad (jj2 3) (jaa (wVar 0) (jaa (wVar 1) (jaa (wC (.int (0))) aNil)))) aNil)))) jah) (sSeq (sIf (cT (w2 (wVar 2) (wC (.int (1))) gEq)) (sRet (wTup (jaa (wC (.str "notes")) (jaa (w2 (jad jin (jaa (wVar 0) (jaa (wOf (fLst (jaa (wC (.str "n")) aNil))) aNil))) (wC (.int (0))) gIx) (jaa (w2 (wC (.int (1))) (jad jao (jaa (wVar 0) (jaa (wC (.int (9))) aNil))) (gI0 λi j=>.int (i+j))) aNil))))) jah) (sSeq (sSet 3 (jad (jj2 3) (jaa (wVar 0) (jaa (wVar 1) (jaa (wC (.int (2))) aNil))))) (sSeq (sIf (cT (w2 (wVar 2) (wC (.int (2))) gGt)) (sSet 3 (jad (jdp 20) (jaa (wVar 0) (jaa (wVar 3) aNil)))) jah) (sSeq (sIf (cT (w2 (wVar 2) (wC (.int (5))) gEq)) (sSet 3 (jad (jdp 20) (jaa (wVar 0) (jaa (wVar 3) aNil)))) jah) (sRet (wVar 3))))))))
abbrev jyq:DST:=(sSeq (sSet 2 (jad jj3 (jaa (wVar 1) aNil))) (sSeq (sFor (jax (wC (.int (12)))) (jaf 3) (sSeq (sSet 4 (jad jj1 (jaa (wVar 1) (jaa (wVar 2) aNil)))) (sSeq (sSet 5 (jad (jhc 45) (jaa (wVar 2) (jaa (wVar 4) aNil)))) (sIf (cT (w2 (wB jff (jaa (jad jsw (jaa (wVar 2) (jaa (wVar 4) aNil))) aNil)) (wB jff (jaa (wAnd (w2 (wVar 5) (wC .none) (gIsN true)) (w2 (wVar 5) (wC (.int (40))) gLe)) aNil)) gNe)) (sRet (wC (.bool false))) jah)))) (sRet (wC (.bool true)))))
section
variable {δ:Sl} {n:Int} {Q:DQ}
theorem jqu {u v:DT} (hu:∀Q:DQ,Q (.d (.bool true)) n->u δ n Q) (k:v δ n Q):wAnd u v δ n Q:=hu _ k
theorem jqv {u v:DT} (hu:∀Q:DQ,Q (.d (.bool false)) n->u δ n Q) (k:Q (.d (.bool false)) n):wAnd u v δ n Q:=hu _ k
theorem juy {a b:Int} (k:Q (.d (.bool (decide (b < a)))) n):gGt (.d (.int a)) (.d (.int b)) n Q:=k
theorem jgm {ds:List Aa} (k:Q (.d (.int ds.length)) n):gLen [.d (.tuple ds)] n Q:=k
theorem j0i {i j:Nat} {a k:Int} (e1:δ[i]?=some (some (.w (.d (.int a))))) (e2:δ[j]?=some (some (.w (.d (.int k))))) (q:Q (.d (.bool (decide ((0:Int)<=a)&&decide (a<=k)))) n):jaw gLe gLe (wC (.int (0))) (wVar i) (wVar j) δ n Q:=by
 unfold jaw;refine c_i (jac e1 ?_);show jg0 (.d (.bool (decide ((0:Int)<=a)))) _ _;cases h:decide ((0:Int)<=a)with
 |true =>
  rw[h]at q;have:wVar j δ n λu n4=>gLe (.d (.int a)) u n4 Q:=jac e2 q;exact this
 |false=>rw[h]at q;exact q
theorem wj_i {g:Aa->Bool} {w:DT} {d:Aa} (hw:∀Q:DQ,Q (.d d) n->w δ n Q) (k:Q (.d (.bool (g d))) n):jad (spJ g) (jaa w aNil) δ n Q:=hw _ k
end
theorem ji6:∀ws n Q,jj0 ws n Q->ws.length=2:=λws n Q h=>by obtain⟨_,_,rfl,_⟩:=h;rfl
theorem jhz:∀ws n Q,jj0 ws n Q->jg3 (jal ["thing","most"] ws) n {nx:=λ_ n=>Q (.d .none) n,rt:=Q}:=λws n Q h=>by
 obtain⟨d,k,rfl,q⟩:=h;show jg3 [some (.w (.d d)),some (.w (.d (.int k)))] n _;refine jak ?_;cases d with
 |int i =>
  refine jqu (λQ q=>wj_i (d:=.int i) (λQ q=>jac rfl q) q) ?_;exact j0i rfl rfl q
 |_=>exact jqv (λQ q=>wj_i (λQ q=>jac rfl q) q) q
theorem jl8:∀ws n Q,jn3 ws n Q->ws.length=2:=λws n Q h=>by obtain⟨_,_,rfl,_⟩:=h;rfl
abbrev Za:List Str:=["programs","thing"]
theorem jlb:∀ws n Q,jn3 ws n Q->jlh (jal Za ws) n {nx:=λ_ n=>Q (.d .none) n,rt:=Q}:=λws n Q h=>by
 obtain⟨ps,d,rfl,q⟩:=h;show jlh [some (.w (.d (pgD ps))),some (.w (.d d))] n _;refine jak (c2_i (jac rfl (w2_i (b1_i (jac rfl (jgm (c_i ⟨d,_,rfl,?_⟩)))))));rw[Ag];exact q
theorem jec:∀ws n Q,jqr ws n Q->ws.length=2:=λws n Q h=>by obtain⟨_,_,rfl,_⟩:=h;rfl
theorem hd_i {h:Str} {k:Int} {i:Nat} {δ:Sl} {n:Int} {Q:DQ} {d:Aa} (e:δ[i]?=some (some (.w (.d d)))) (hk:1<=k) (q:Q (.d (.bool (ja2 h k d))) n):jad jaq (jaa (wVar i) (jaa (wC (.str h)) (jaa (wC (.int k)) aNil))) δ n Q :=
 c3_i (jac e (c_i (c_i ⟨hk,q⟩)))
theorem jx7 (ps:Pg) (d:Aa) (h:ja2 "ended" 2 d=false):endT ps d=false:=by
 cases d with
 |tuple ds =>
  rcases ds with _ | ⟨a,_ | ⟨b,_ | ⟨c,r⟩⟩⟩
  ·rfl
  ·rfl
  ·have h:(decide ((2:Int)=2)&&jab "ended" a)=false:=h;have h:jab "ended" a=false:=h;show(jab "ended" a&&_)=false;rw[h];rfl
  ·rfl
 |_=>rfl
theorem jdx:∀ws n Q,jqr ws n Q->jcq (jal Za ws) n {nx:=λ_ n=>Q (.d .none) n,rt:=Q}:=λws n Q h=>by
 obtain⟨ps,d,rfl,q⟩:=h;show jcq [some (.w (.d (pgD ps))),some (.w (.d d))] n _;refine jak ?_;cases e:ja2 "ended" 2 d with
 |false =>
  rw[jx7 ps d e]at q;exact jqv (λQ q=>hd_i rfl (by decide) (by rw[e];exact q)) q
 |true =>
  refine jqu (λQ q=>hd_i rfl (by decide) (by rw[e];exact q)) ?_;obtain⟨a,b,rfl⟩:=jef e;have ha:jab "ended" a=true:=e;refine c2_i (jac rfl (jc0 rfl ⟨ps,b,rfl,?_⟩));have q:Q (.d (.bool (jab "ended" a&&hndB ps b))) n:=q;rw[ha]at q;exact q
theorem jed:∀ws n Q,jqq ws n Q->ws.length=2:=λws n Q h=>by obtain⟨_,_,rfl,_⟩:=h;rfl
theorem jdy:∀ws n Q,jqq ws n Q->jcr (jal Za ws) n {nx:=λ_ n=>Q (.d .none) n,rt:=Q}:=λws n Q h=>by
 obtain⟨ps,d,rfl,q⟩:=h;show jcr [some (.w (.d (pgD ps))),some (.w (.d d))] n _;have a1:∀(k:Bool),nsgB d=k->∀Q:Bool->Int->Prop,Q k n->cT (jad (spJ nsgB) (jaa (wVar 1) aNil)) [some (.w (.d (pgD ps))),some (.w (.d d))] n Q:=λk e Q q=>ct_b (k:=k) (λQ q=>wj_i (d:=d) (λQ q=>jac rfl q) (by rw[e];exact q)) q;have a2:∀(k:Bool),atT ps d=k->∀Q:Bool->Int->Prop,Q k n->cT (jad jqs (jaa (wVar 0) (jaa (wVar 1) aNil))) [some (.w (.d (pgD ps))),some (.w (.d d))] n Q:=λk e Q q=>ct_b (k:=k) (λQ q=>c2_i (jac rfl (jac rfl ⟨ps,d,rfl,by rw[e];exact q⟩))) q;have a3:∀(k:Bool),endT ps d=k->∀Q:Bool->Int->Prop,Q k n->cT (jad jqr (jaa (wVar 0) (jaa (wVar 1) aNil))) [some (.w (.d (pgD ps))),some (.w (.d d))] n Q:=λk e Q q=>ct_b (k:=k) (λQ q=>c2_i (jac rfl (jac rfl ⟨ps,d,rfl,by rw[e];exact q⟩))) q;unfold sgT at q;cases h1:nsgB d with
 |true =>
  rw[h1]at q;exact jae (if_y (λQ q=>jjm (a1 true h1) q) (jak (c_i q)))
 |false =>
  rw[h1]at q;cases h2:atT ps d with
  |true =>
   rw[h2]at q;exact jae (if_y (λQ q=>jcx (a1 false h1) (jjm (a2 true h2) q)) (jak (c_i q)))
  |false =>
   rw[h2]at q;cases h3:endT ps d with
   |true =>
    rw[h3]at q;exact jae (if_y (λQ q=>jcx (a1 false h1) (jcx (a2 false h2) (a3 true h3 _ q))) (jak (c_i q)))
   |false =>
    rw[h3]at q;refine jae (if_n (λQ q=>jcx (a1 false h1) (jcx (a2 false h2) (a3 false h3 _ q))) ?_);dsimp only[jah];exact jak (wj_i (d:=d) (λQ q=>jac rfl q) q)
theorem fl1v {i:Nat} {d:Aa} {δ:Sl} {n:Int} {Q:List Aa->Int->Prop} (e:δ[i]?=some (some (.w (.d d)))) (k:Q [d] n):fLst (jaa (wVar i) aNil) δ n Q:=by
 show wVar i δ n _;exact jac e (Ad (show 1<=1000 by decide) k)
theorem jkz:∀ws n Q,jsw ws n Q->ws.length=2:=λws n Q h=>by obtain⟨_,_,_,rfl,_⟩:=h;rfl
theorem jno {ps:Pg} {d:Aa} (h:sgT ps d=true) (hm:jbl d=false):othL d=[]:=by
 cases d with
 |tuple ds =>
  rcases ds with _ | ⟨a,_ | ⟨b,_ | ⟨c,r⟩⟩⟩
  ·rfl
  ·rfl
  ·have he:jab "ended" a=true:=by
    have h:(false || (false || (jab "ended" a&&hndB ps b)))=true:=h;simp only[Da,Av]at h;exact h.1
   show(if (jab "all" a || jab "some" a)=true then jb7 b else if jab "not" a=true then[b]else[])=[];rw[jap he (show("ended":Str)≠"all" by decide +kernel),jap he (show("ended":Str)≠"some" by decide +kernel),jap he (show("ended":Str)≠"not" by decide +kernel)];rfl
  ·rfl
 |_=>rfl
theorem jsg {ps:Pg} {D:Nat} {d:Aa} (h:okDp D d):((sgT ps d || jbl d)=false->cntO (sgT ps) (D+1) d=none)/\((sgT ps d || jbl d)=true->cntO (sgT ps) (D+1) d=(sumO ((othL d).map (cntO (sgT ps) (D+1)))).map (1+·)):=by
 rw[jyg (sgT ps) h];cases hm:jbl d with
 |true =>
  rw[Bool.or_true];exact⟨λz=>Bool.noConfusion z,λ_=>by rw[if_pos rfl]⟩
 |false =>
  rw[B6,if_neg Af];refine⟨λz=>by rw[z,if_neg Af],λz=>?_⟩;rw[z,if_pos rfl,jno z hm];rfl
theorem jjt:∀ws n Q,jsw ws n Q->jij (jal ["programs","thing","pending","many","one"] ws) n {nx:=λ_ n=>Q (.d .none) n,rt:=Q}:=λws n Q h=>by
 obtain⟨ps,d,D,rfl,hd,q⟩:=h;show jij [some (.w (.d (pgD ps))),some (.w (.d d)),none,none,none] n _;refine jae (show sOwn 2 _ _ _ _ from fl1v rfl ?_);dsimp only[Aw];refine jae (jdk (x:=.int ((0:Nat):Int)) (λQ q=>c_i q) ?_);dsimp only[Aw];refine jae ?_;refine(show jon _ _ _ _ _ from⟨λm δ n'=>n'=n/\∃(l:List Aa) (j:Nat) (x4:Option SV),m+j=41/\j<=40/\l.length<=1+100*j/\(∀x∈l,okDp D x)/\jdt (cntO (sgT ps) (D+1)) [d] 0=jdt (cntO (sgT ps) (D+1)) l j/\δ=[some (.w (.d (pgD ps))),some (.w (.d d)),some (.own l),some (.w (.d (.int (j:Nat)))),x4],⟨41,rfl,[d],0,none,rfl,by decide,As _,λx hx=>by rw[Ax.mp hx];exact hd,rfl,rfl⟩,λm δ n' I=>?_⟩);obtain⟨rfl,l,j,x4,hm,hj,hl,hall,hg,rfl⟩:=I;rcases List.eq_nil_or_concat l with rfl | ⟨l',one,rfl⟩
 ·refine(show cTrL _ _ _ _ from jgj rfl ?_);show Q (.d (.bool true)) n';rw[hg,jr5 hj]at q;exact q
 ·rw[List.concat_eq_append]at *;refine(show cTrL _ _ _ _ from jgj rfl ?_);have ne:(!(l'++[one]).isEmpty)=true:=by simp
  show if (!(l'++[one]).isEmpty)=true then _ else _
  rw[if_pos ne];have ho:okDp D one:=hall one (by simp);obtain⟨c0,c1⟩:=jsg (ps:=ps) ho;refine jae (Ad (by decide) ⟨l',one,rfl,?_⟩);dsimp only[Aw];refine jae (show jt3 3 _ _ _ _ from⟨(j:Nat),rfl,c_i ⟨1,rfl,?_⟩⟩);dsimp only[Aw];have gt:∀(k:Bool),decide ((40:Int) < (j:Int)+1)=k->∀Q:Bool->Int->Prop,Q k n'->cT (w2 (wVar 3) (wC (.int (40))) gGt) [some (.w (.d (pgD ps))),some (.w (.d d)),some (.own l'),some (.w (.d (.int ((j:Int)+1)))),some (.w (.d one))] n' Q:=λk e Q q=>ct_b (k:=k) (λQ q=>w2_i (jac rfl (c_i (juy (by rw[e];exact q))))) q;by_cases h40:j=40
  ·subst h40;rw[hg,jp2 (λk e=>ju9 e) (As 40)]at q;exact jae (if_y (λQ q=>jjm (gt true (by decide)) q) (jak (c_i q)))
  ·have hlt:decide ((40:Int) < (j:Int)+1)=false:=decide_eq_false (by omega);have fm:∀(k:Bool),(sgT ps one || jbl one)=k->∀Q:Bool->Int->Prop,Q k n'->cT (jad jqq (jaa (wVar 0) (jaa (wVar 4) aNil))) [some (.w (.d (pgD ps))),some (.w (.d d)),some (.own l'),some (.w (.d (.int ((j:Int)+1)))),some (.w (.d one))] n' Q:=λk e Q q=>ct_b (k:=k) (λQ q=>c2_i (jac rfl (jac rfl ⟨ps,one,rfl,by rw[e];exact q⟩))) q;cases hf:(sgT ps one || jbl one)with
   |false =>
    rw[hg,jk3 (c0 hf)]at q;exact jae (if_y (λQ q=>jcx (gt false hlt) (ja5 (fm false hf) q)) (jak (c_i q)))
   |true =>
    refine jae (if_n (λQ q=>jcx (gt false hlt) (ja5 (fm true hf) q)) ?_);dsimp only[jah];have ol:=juh ho;have hl2:l'.length+1<=1+100*j:=by rw[Al,Az]at hl;exact hl
    have ext:∀K:DEnds,K.nx [some (.w (.d (pgD ps))),some (.w (.d d)),some (.own (l'++othL one)),some (.w (.d (.int ((j:Int)+1)))),some (.w (.d one))] n'->jq9 2 (jad jn2 (jaa (wVar 4) aNil)) [some (.w (.d (pgD ps))),some (.w (.d d)),some (.own l'),some (.w (.d (.int ((j:Int)+1)))),some (.w (.d one))] n' K:=λK hK=>by
     refine(show jad jn2 (jaa (wVar 4) aNil) _ _ _ from c1_i (jac rfl ⟨ps,one,rfl,hf,?_⟩));exact⟨⟨by omega,by omega⟩,hK⟩
    refine ext _ ⟨m - 1,by omega,rfl,l'++othL one,j+1,_,by omega,by omega,?_,?_,?_,rfl⟩
    ·rw[Al];omega
    ·intro x hx;rcases A6.mp hx with hx | hx
     ·exact hall x (by simp[hx])
     ·cases D with
      |zero =>
       have:othL one=[]:=by
        cases one with
        |tuple ds=>exact ho.elim
        |_=>rfl
       rw[this]at hx;cases hx
      |succ D=>exact jgg (jo6 ho x hx)
    ·rw[hg];exact jp1 (c1 hf)
theorem jp0 {h:Str} {a b:Aa}:ja2 h 2 (.tuple [a,b])=jab h a:=rfl
theorem jmm {g:Aa->Bool} {ws:List Wv} {n:Int} {Q:DQ} (h:spJ g ws n Q):∃d,ws=[.d d]/\Q (.d (.bool (g d))) n:=by
 match ws,h with
 |[.d d],h=>exact⟨d,rfl,h⟩
theorem jcz:∀ws n Q,spJ jbl ws n Q->ws.length=1:=λws n Q h=>by obtain⟨_,rfl,_⟩:=jmm h;rfl
theorem jus {d:Aa} (h1:ja2 "all" 2 d=false) (h2:ja2 "some" 2 d=false) (h3:ja2 "not" 2 d=false):jbl d=false:=by
 cases d with
 |tuple ds =>
  rcases ds with _ | ⟨a,_ | ⟨b,_ | ⟨c,r⟩⟩⟩
  ·rfl
  ·rfl
  ·rw[jp0]at h1 h2 h3;show(((jab "all" a || jab "some" a)&&jbj b) || jab "not" a)=false;rw[h1,h2,h3];rfl
  ·rfl
 |_=>rfl
theorem jrx {a b:Aa} (h:(jab "all" a || jab "some" a)=true):jbl (.tuple [a,b])=jbj b:=by
 have hn:jab "not" a=false:=by
  rcases Dy.mp h with z | z
  ·exact jap z (by decide +kernel)
  ·exact jap z (by decide +kernel)
 show(((jab "all" a || jab "some" a)&&jbj b) || jab "not" a)=jbj b;rw[h,hn,Bo,B6]
theorem jpv {d:Aa}:isiB "tuple" d=jbj d:=by cases d<;>rfl
abbrev Zc:List Str:=["thing"]
theorem jcy:∀ws n Q,spJ jbl ws n Q->jb1 (jal Zc ws) n {nx:=λ_ n=>Q (.d .none) n,rt:=Q}:=λws n Q h=>by
 obtain⟨d,rfl,q⟩:=jmm h;show jb1 [some (.w (.d d))] n _;have hd:∀(x:Str) (k:Bool),ja2 x 2 d=k->∀Q:Bool->Int->Prop,Q k n->cT (jad jaq (jaa (wVar 0) (jaa (wC (.str x)) (jaa (wC (.int (2))) aNil)))) [some (.w (.d d))] n Q:=λx k e Q q=>ct_b (k:=k) (λQ q=>hd_i rfl (by decide) (by rw[e];exact q)) q;have two:∀{x:Str},ja2 x 2 d=true->(x="all"\/x="some")->∃a b,d=.tuple [a,b]/\jbl d=jbj b:=λ{x} e hx=>by
  obtain⟨a,b,rfl⟩:=jef e;rw[jp0]at e;refine⟨a,b,rfl,jrx ?_⟩;rcases hx with rfl | rfl
  ·rw[e];rfl
  ·rw[e,Bool.or_true]
 have fin:∀a b,d=.tuple [a,b]->jbl d=jbj b->sRet (wIsi "tuple" (w2 (wVar 0) (wC (.int (1))) gIx)) [some (.w (.d d))] n {nx:=λ_ n=>Q (.d .none) n,rt:=Q}:=λa b e1 e2=>by
  subst e1;rw[e2,<-jpv]at q;exact jak (show w2 _ _ _ _ _ _ from jc0 rfl q)
 cases h1:ja2 "all" 2 d with
 |true =>
  obtain⟨a,b,e1,e2⟩:=two h1 (.inl rfl);exact jae (if_y (λQ q=>jjm (hd "all" true h1) q) (fin a b e1 e2))
 |false =>
  cases h2:ja2 "some" 2 d with
  |true =>
   obtain⟨a,b,e1,e2⟩:=two h2 (.inr rfl);exact jae (if_y (λQ q=>jcx (hd "all" false h1) (hd "some" true h2 _ q)) (fin a b e1 e2))
  |false =>
   refine jae (if_n (λQ q=>jcx (hd "all" false h1) (hd "some" false h2 _ q)) ?_);dsimp only[jah];refine jak (hd_i rfl (by decide) ?_);cases h3:ja2 "not" 2 d with
   |false=>rw[jus h1 h2 h3]at q;exact q
   |true =>
    obtain⟨a,b,rfl⟩:=jef h3;have h3':=h3;rw[jp0]at h3';have:jbl (.tuple [a,b])=true:=by
     show(((jab "all" a || jab "some" a)&&jbj b) || jab "not" a)=true;rw[h3',Bool.or_true]
    rw[this]at q;exact q
theorem jh7 {h:Str} {a:Aa} (e:jab h a=true):a=.str h:=by
 cases a with
 |str s=>rw[show s=h from of_decide_eq_true e]
 |_=>cases e
theorem jo7 {ps:Pg} {d:Aa} (h:(sgT ps d || jbl d)=true):(∃(x:Str) (b:List Aa),d=.tuple [.str x,.tuple b]/\(x="all"\/x="some")/\othL d=b)\/(∃b,d=.tuple [.str "not",b]/\othL d=[b])\/(∃(x:Str) (r:List Aa),d=.tuple (.str x::r)/\x≠"all"/\x≠"some"/\x≠"not"/\othL d=[]):=by
 have two:∀{a b:Aa},jab "ended" a=true->d=.tuple [a,b]->∃(x:Str) (r:List Aa),d=.tuple (.str x::r)/\x≠"all"/\x≠"some"/\x≠"not"/\othL d=[]:=λ{a b} e ed=>by
  rw[jh7 e]at ed;refine⟨"ended",[b],ed,by decide +kernel,by decide +kernel,by decide +kernel,?_⟩;rw[ed];show(if (jab "all" (.str "ended") || jab "some" (.str "ended"))=true then jb7 b else if jab "not" (.str "ended")=true then[b]else[])=[];rw[show jab "all" (.str "ended")=false by decide +kernel,show jab "some" (.str "ended")=false by decide +kernel,show jab "not" (.str "ended")=false by decide +kernel];rfl
 cases d with
 |tuple ds =>
  rcases ds with _ | ⟨a,_ | ⟨b,_ | ⟨c,_ | ⟨e,_ | ⟨f,r⟩⟩⟩⟩⟩
  ·cases h
  ·cases h
  ·cases hm:jbl (.tuple [a,b])with
   |false =>
    rw[hm,B6]at h;have h:(false || (false || (jab "ended" a&&hndB ps b)))=true:=h;simp only[Da,Av]at h;exact .inr (.inr (two h.1 rfl))
   |true =>
    have hm:(((jab "all" a || jab "some" a)&&jbj b) || jab "not" a)=true:=hm;cases hn:jab "not" a with
    |true =>
     refine .inr (.inl ⟨b,by rw[jh7 hn],?_⟩);show(if (jab "all" a || jab "some" a)=true then jb7 b else if jab "not" a=true then[b]else[])=[b];rw[jap hn (show("not":Str)≠"all" by decide +kernel),jap hn (show("not":Str)≠"some" by decide +kernel),hn];rfl
    |false =>
     rw[hn,B6,Av]at hm;obtain⟨b',rfl⟩:∃b',b=.tuple b':=by
      cases b with
      |tuple b'=>exact⟨b',rfl⟩
      |_=>cases hm.2
     have eo:othL (.tuple [a,.tuple b'])=b':=by
      show(if (jab "all" a || jab "some" a)=true then b' else if jab "not" a=true then[C3 b']else[])=b';rw[if_pos hm.1]
     rcases Dy.mp hm.1 with z | z
     ·exact .inl ⟨"all",b',by rw[jh7 z],.inl rfl,eo⟩
     ·exact .inl ⟨"some",b',by rw[jh7 z],.inr rfl,eo⟩
  ·have h:(((jab "notes" a&&(patB b&&!(jb7 b).any (λf=>jab "as" (fstH f))&&jbk 1 9 c)) || (false || false)) || false)=true:=h;simp only[B6,Av]at h;exact .inr (.inr ⟨"notes",_,by rw[jh7 h.1],by decide +kernel,by decide +kernel,by decide +kernel,rfl⟩)
  ·have h:((false || (atT ps (.tuple [a,b,c,e]) || false)) || false)=true:=h;simp only[B6,Da]at h;unfold atT at h;rw[Av]at h;exact .inr (.inr ⟨"at",_,by rw[jh7 h.1],by decide +kernel,by decide +kernel,by decide +kernel,rfl⟩)
  ·cases h
 |_=>cases h
theorem ji5:∀ws n Q,jn2 ws n Q->ws.length=1:=λws n Q h=>by obtain⟨_,_,rfl,_⟩:=h;rfl
theorem ji7:∀ws n Q,jsv ws n Q->ws.length=2:=λws n Q h=>by obtain⟨_,_,_,rfl,_⟩:=h;rfl
theorem jh0:∀ws n Q,jsv ws n Q->jg5 (jal ["program","hand"] ws) n {nx:=λ_ n=>Q (.d .none) n,rt:=Q}:=λws n Q h=>by
 obtain⟨P,a,b,rfl,q⟩:=h;show jg5 [some (.w (.d (prD P))),some (.w (.d (.tuple [a,b])))] n _;have w1:∀Q:DQ,Q (.d (.bool (jbk 0 ((P.length:Int) - 1) a))) n->jad jj0 (jaa (w2 (wVar 1) (wC (.int (0))) gIx) (jaa (w2 (wB gLen (jaa (wVar 0) aNil)) (wC (.int (1))) (gI0 λi j=>.int (i - j))) aNil)) [some (.w (.d (prD P))),some (.w (.d (.tuple [a,b])))] n Q:=λQ q=>by
  refine c2_i (jma rfl (w2_i (b1_i (jac rfl (jgm (c_i ⟨a,_,rfl,?_⟩))))));rw[Ag];exact q
 refine jak ?_;unfold plcB at q;cases h1:jbk 0 ((P.length:Int) - 1) a with
 |false =>
  rw[h1]at q;exact jqv (λQ q=>w1 Q (by rw[h1];exact q)) q
 |true =>
  rw[h1,Bo]at q;refine jqu (λQ q=>w1 Q (by rw[h1];exact q)) ?_;cases a with
  |int i =>
   have hi:(decide ((0:Int)<=i)&&decide (i<=(P.length:Int) - 1))=true:=h1;rw[Av]at hi;have i0:=of_decide_eq_true hi.1;have i1:=of_decide_eq_true hi.2;obtain⟨m,rfl⟩:=Cm i0;have hm:m < P.length:=by omega
   have q:Q (.d (.bool (jbk 0 (((P[m]?).map λbl=>bl.2.length).getD 0:Nat) b))) n:=q;rw[Am hm]at q;refine c2_i (jc0 rfl (b1_i (w2_i (w2_i (jac rfl (jma rfl (gN_i (i:=m) (x:=blD P[m]) (by rw[Bb,Am hm];rfl) (c_i (g1_i (b:=.tuple (P[m].2.map Ac.d)) (jgm ⟨b,_,rfl,?_⟩))))))))));rw[Ag];exact q
  |_=>cases h1
theorem jsx {δ:Sl} {n:Int} {Q:DQ} {u:DTT} {v w:DT} {b:Bool} (hu:∀Q:Bool->Int->Prop,Q b n->u δ n Q) (k:if b=true then v δ n Q else w δ n Q):wIf u v w δ n Q:=hu _ k
theorem jyt {δ:Sl} {n:Int} {Q:DQ} {w:DT} (k:w δ n λx n1=>match ja3 [x]with
 |some ds=>ds.length<=1000/\Q (.d (.tuple ds)) n1
 |none=>False):wTup (jaa w aNil) δ n Q:=k
theorem jxu {x y z:Str}:inD (.str x) [.str y,.str z]=(decide (y=x) || (decide (z=x) || false)):=rfl
theorem jhy:∀ws n Q,jn2 ws n Q->jg2 (jal ["sight"] ws) n {nx:=λ_ n=>Q (.d .none) n,rt:=Q}:=λws n Q h=>by
 obtain⟨ps,d,rfl,hf,q⟩:=h;show jg2 [some (.w (.d d))] n _;have hin:∀(x:Str) (r:List Aa) (k:Bool),d=.tuple (.str x::r)->inD (.str x) [.str "all",.str "some"]=k->∀Q:Bool->Int->Prop,Q k n->cT (w2 (w2 (wVar 0) (wC (.int (0))) gIx) (wTup (jaa (wC (.str "all")) (jaa (wC (.str "some")) aNil))) (gIn false)) [some (.w (.d d))] n Q:=λx r k e1 e2 Q qq=>by
  subst e1;exact ct_b (k:=k) (λQ q=>w2_i (jma rfl (jbq (c_i (c_i (Ad (show 2<=1000 by decide) ⟨rfl,rfl,by rw[if_neg Af,e2];exact q⟩)))))) qq
 rcases jo7 hf with⟨x,b,e,hx,eo⟩ | ⟨b,e,eo⟩ | ⟨x,r,e,h1,h2,h3,eo⟩
 ·rw[eo]at q;have hk:inD (.str x) [.str "all",.str "some"]=true:=by rcases hx with rfl | rfl<;>decide +kernel
  refine jae (if_y (λQ q=>hin x _ true e hk Q q) ?_);subst e;exact jak (jc0 rfl q)
 ·rw[eo]at q;refine jae (if_n (λQ q=>hin "not" _ false e (by decide +kernel) Q q) ?_);dsimp only[jah];subst e;exact jak (jsx (b:=true) (λQ q=>ct_b (λQ q=>jp5 (a:=.str "not") rfl (by rw[show jab "not" (.str "not")=true by decide +kernel];exact q)) q) (by rw[if_pos rfl];exact jyt (jc0 rfl (Ad (show 1<=1000 by decide) q))))
 ·rw[eo]at q;have hk:inD (.str x) [.str "all",.str "some"]=false:=by
   rw[jxu,decide_eq_false (Ne.symm h1),decide_eq_false (Ne.symm h2)];rfl
  refine jae (if_n (λQ q=>hin x _ false e hk Q q) ?_);dsimp only[jah];subst e;have hn:jab "not" (.str x)=false:=decide_eq_false h3;exact jak (jsx (b:=false) (λQ q=>ct_b (λQ q=>jp5 (a:=.str x) rfl (by rw[hn];exact q)) q) (by rw[if_neg Af];exact(show wTup aNil _ _ _ from Ad (by decide) q)))
theorem jgk:∀ws n Q,jqs ws n Q->ws.length=2:=λws n Q h=>by obtain⟨_,_,rfl,_⟩:=h;rfl
def atP (ps:Pg) (h b p:Aa):Bool:=match h with
 |.int i=>(match ps[i.toNat]? with
  |some P=>plcB P b p
  |none=>false)
 |_=>false
theorem jmf {ps:Pg} {a h b p:Aa}:atT ps (.tuple [a,h,b,p])=(jab "at" a&&(hndB ps h&&atP ps h b p)):=by
 unfold atT atP;rfl
theorem jql {ps:Pg} {d:Aa} (h:ja2 "at" 4 d=false):atT ps d=false:=by
 cases d with
 |tuple ds =>
  rcases ds with _ | ⟨a,_ | ⟨b,_ | ⟨c,_ | ⟨e,_ | ⟨f,r⟩⟩⟩⟩⟩
  ·rfl
  ·rfl
  ·rfl
  ·rfl
  ·have h:jab "at" a=false:=h;rw[jmf,h];rfl
  ·rfl
 |_=>rfl
theorem jc1 {h:Str} {d:Aa} (e:ja2 h 4 d=true):∃a b c f,d=.tuple [a,b,c,f]/\jab h a=true:=by
 obtain⟨ds,rfl,hl⟩:=jjh e;rcases ds with _ | ⟨a,_ | ⟨b,_ | ⟨c,_ | ⟨f,_ | ⟨g,r⟩⟩⟩⟩⟩
 ·cases hl
 ·cases hl
 ·cases hl
 ·cases hl
 ·exact⟨a,b,c,f,rfl,e⟩
 ·simp only[Ak]at hl;omega
theorem jf4:∀ws n Q,jqs ws n Q->jen (jal Za ws) n {nx:=λ_ n=>Q (.d .none) n,rt:=Q}:=λws n Q h=>by
 obtain⟨ps,d,rfl,q⟩:=h;show jen [some (.w (.d (pgD ps))),some (.w (.d d))] n _;have hd:∀(k:Bool),ja2 "at" 4 d=k->∀Q:Bool->Int->Prop,Q k n->cT (jad jaq (jaa (wVar 1) (jaa (wC (.str "at")) (jaa (wC (.int (4))) aNil)))) [some (.w (.d (pgD ps))),some (.w (.d d))] n Q:=λk e Q q=>ct_b (k:=k) (λQ q=>hd_i rfl (by decide) (by rw[e];exact q)) q;cases e:ja2 "at" 4 d with
 |false =>
  rw[jql e]at q;exact jae (if_y (λQ q=>jjm (λQ q=>ja5 (hd false e) q) q) (jak (c_i q)))
 |true =>
  obtain⟨a,b,c,f,rfl,ha⟩:=jc1 e;have hh:∀(k:Bool),hndB ps b=k->∀Q:Bool->Int->Prop,Q k n->cT (jad jn3 (jaa (wVar 0) (jaa (w2 (wVar 1) (wC (.int (1))) gIx) aNil))) [some (.w (.d (pgD ps))),some (.w (.d (.tuple [a,b,c,f])))] n Q:=λk e Q q=>ct_b (k:=k) (λQ q=>c2_i (jac rfl (jc0 rfl ⟨ps,b,rfl,by rw[e];exact q⟩))) q;rw[jmf,ha,Bo]at q;cases h1:hndB ps b with
  |false =>
   rw[h1]at q;exact jae (if_y (λQ q=>jcx (λQ q=>ja5 (hd true e) q) (ja5 (hh false h1) q)) (jak (c_i q)))
  |true =>
   rw[h1,Bo]at q;refine jae (if_n (λQ q=>jcx (λQ q=>ja5 (hd true e) q) (ja5 (hh true h1) q)) ?_);dsimp only[jah];cases b with
   |int i =>
    have hi:(decide ((0:Int)<=i)&&decide (i<=(ps.length:Int) - 1))=true:=h1;rw[Av]at hi;have i0:=of_decide_eq_true hi.1;have i1:=of_decide_eq_true hi.2;obtain⟨m,rfl⟩:=Cm i0;have hm:m < ps.length:=by omega
    have q:Q (.d (.bool (match ps[m]? with | some P=>plcB P c f | none=>false))) n:=q;rw[Am hm]at q;refine jak (c2_i (w2_i (jac rfl (jc0 rfl (gN_i (i:=m) (x:=prD ps[m]) (by rw[Bb,Am hm];rfl) ?_)))));unfold jav jba jbb;refine jac rfl (c_i ?_);exact⟨ps[m],c,f,rfl,q⟩
   |_=>cases h1
theorem jeb:∀ws n Q,spJ nsgB ws n Q->ws.length=1:=λws n Q h=>by obtain⟨_,rfl,_⟩:=jmm h;rfl
theorem jig {h:Str} {d:Aa} (e:ja2 h 3 d=true):∃a b c,d=.tuple [a,b,c]/\jab h a=true:=by
 obtain⟨ds,rfl,hl⟩:=jjh e;rcases ds with _ | ⟨a,_ | ⟨b,_ | ⟨c,_ | ⟨g,r⟩⟩⟩⟩
 ·cases hl
 ·cases hl
 ·cases hl
 ·exact⟨a,b,c,rfl,e⟩
 ·simp only[Ak]at hl;omega
theorem jmu {d:Aa} (h:ja2 "notes" 3 d=false):nsgB d=false:=by
 cases d with
 |tuple ds =>
  rcases ds with _ | ⟨a,_ | ⟨b,_ | ⟨c,_ | ⟨f,r⟩⟩⟩⟩
  ·rfl
  ·rfl
  ·rfl
  ·have h:jab "notes" a=false:=h;show(jab "notes" a&&_)=false;rw[h];rfl
  ·rfl
 |_=>rfl
theorem jp3 {f:Aa} (h:ja1 f=true):∃a r,f=.tuple (a::r):=by
 cases f with
 |tuple ds =>
  cases ds with
  |nil=>cases h
  |cons a r=>exact⟨a,r,rfl⟩
 |_=>cases h
theorem jei {α:Type} (g:α->Bool):∀l:List α,jbr (l.map λf=>.bool (g f))=some (l.map g)
 |[]=>rfl
 |f::l=>by
  rw[A3,A3,jbr,jei g l];rfl
theorem ju7 {Q:List Aa->Int->Prop} (l:List Aa) (n:Int) (h:∀f∈l,ja1 f=true) (q:Q (l.map λf=>.bool (jab "as" (fstH f))) n) :
  jbu (jaf 0) cYes (w2 (w2 (wVar 0) (wC (.int (0))) gIx) (wC (.str "as")) gEq) Q l [] [none] n :=
 jeh (λf=>ja1 f=true) (λf=>.bool (jab "as" (fstH f))) (λf n Q' hf q=>by
  obtain⟨a,r,rfl⟩:=jp3 hf;exact jp5 (a:=a) (r:=r) rfl q) l [] none n h q
theorem jxf (k:Aa):jbk 1 9 k=(jbk 0 9 k&&(match k with | .int i=>decide ((1:Int)<=i) | _=>false)):=by
 cases k with
 |int i =>
  show(decide ((1:Int)<=i)&&decide (i<=9))=((decide ((0:Int)<=i)&&decide (i<=9))&&decide ((1:Int)<=i));by_cases h:(1:Int)<=i
  ·rw[decide_eq_true h,decide_eq_true (show(0:Int)<=i by omega)];simp
  ·rw[decide_eq_false h];simp
 |_=>rfl
theorem jdw:∀ws n Q,spJ nsgB ws n Q->jcp (jal Zc ws) n {nx:=λ_ n=>Q (.d .none) n,rt:=Q}:=λws n Q h=>by
 obtain⟨d,rfl,q⟩:=jmm h;show jcp [some (.w (.d d))] n _;have hd:∀(k:Bool),ja2 "notes" 3 d=k->∀Q:Bool->Int->Prop,Q k n->cT (jad jaq (jaa (wVar 0) (jaa (wC (.str "notes")) (jaa (wC (.int (3))) aNil)))) [some (.w (.d d))] n Q:=λk e Q q=>ct_b (k:=k) (λQ q=>hd_i rfl (by decide) (by rw[e];exact q)) q;cases e:ja2 "notes" 3 d with
 |false =>
  rw[jmu e]at q;exact jae (if_y (λQ q=>jjm (λQ q=>ja5 (hd false e) q) q) (jak (c_i q)))
 |true =>
  obtain⟨a,p,k,rfl,ha⟩:=jig e;have hp:∀(b:Bool),patB p=b->∀Q:Bool->Int->Prop,Q b n->cT (jad (spJ patB) (jaa (w2 (wVar 0) (wC (.int (1))) gIx) aNil)) [some (.w (.d (.tuple [a,p,k])))] n Q:=λb e Q q=>ct_b (k:=b) (λQ q=>wj_i (d:=p) (λQ q=>jc0 rfl q) (by rw[e];exact q)) q;have q:Q (.d (.bool (jab "notes" a&&(patB p&&!(jb7 p).any (λf=>jab "as" (fstH f))&&jbk 1 9 k)))) n:=q;rw[ha,Bo]at q;cases h1:patB p with
  |false =>
   rw[h1]at q;exact jae (if_y (λQ q=>jcx (λQ q=>ja5 (hd true e) q) (ja5 (hp false h1) q)) (jak (c_i q)))
  |true =>
   rw[h1,Bo]at q;refine jae (if_n (λQ q=>jcx (λQ q=>ja5 (hd true e) q) (ja5 (hp true h1) q)) ?_);dsimp only[jah];have h1':(cntB p&&(jb7 p).all ja1)=true:=h1;rw[Av]at h1';obtain⟨ds,rfl⟩:∃ds,p=.tuple ds:=by
    cases p with
    |tuple ds=>exact⟨ds,rfl⟩
    |_=>cases h1'.1
   have hall:∀f∈ds,ja1 f=true:=λf hf=>Dj.mp h1'.2 f hf;have hany:∀(b:Bool),ds.any (λf=>jab "as" (fstH f))=b->∀Q:Bool->Int->Prop,Q b n->cT (wB gAny (jaa (wOf (ja0 [none] (jbc (w2 (wVar 0) (wC (.int (1))) gIx)) (jaf 0) cYes (w2 (w2 (wVar 0) (wC (.int (0))) gIx) (wC (.str "as")) gEq))) aNil)) [some (.w (.d (.tuple [a,.tuple ds,k])))] n Q:=λb eb Q q=>ct_b (k:=b) (λQ q=>b1_i (of_i (jgr (ds:=ds) (λQ q=>jc0 rfl q) (by
    show jbu _ _ _ _ _ _ [none] n;refine ju7 ds n hall ?_;show(match jbr (ds.map λf=>.bool (jab "as" (fstH f)))with | some bs=>Q (.d (.bool (bs.any id))) n | none=>False);rw[jei];show Q (.d (.bool ((ds.map λf=>jab "as" (fstH f)).any id))) n;rw[List.any_map];have:ds.any (id ∘ λf=>jab "as" (fstH f))=b:=eb;rw[this];exact q)))) q
   have q:Q (.d (.bool (!ds.any (λf=>jab "as" (fstH f))&&jbk 1 9 k))) n:=q;cases h2:ds.any (λf=>jab "as" (fstH f))with
   |true =>
    rw[h2]at q;exact jae (if_y (hany true h2) (jak (c_i q)))
   |false =>
    rw[h2,jxf]at q;refine jae (if_n (hany false h2) ?_);dsimp only[jah];have w9:∀Q:DQ,Q (.d (.bool (jbk 0 9 k))) n->jad jj0 (jaa (w2 (wVar 0) (wC (.int (2))) gIx) (jaa (wC (.int (9))) aNil)) [some (.w (.d (.tuple [a,.tuple ds,k])))] n Q:=λQ q=>c2_i (w2_i (jac rfl (c_i (g2_i (c_i ⟨k,9,rfl,q⟩)))));refine jak ?_;cases h3:jbk 0 9 k with
    |false =>
     rw[h3]at q;exact jqv (λQ q=>w9 Q (by rw[h3];exact q)) q
    |true =>
     rw[h3]at q;refine jqu (λQ q=>w9 Q (by rw[h3];exact q)) ?_;cases k with
     |int i=>exact w2_i (w2_i (jac rfl (c_i (g2_i (c_i q)))))
     |_=>cases h3
theorem jkx:∀ws n Q,spJ jfb ws n Q->ws.length=1:=λ_ _ _ h=>jcg h
theorem jjr:∀ws n Q,spJ jfb ws n Q->je6 (jal Zc ws) n {nx:=λ_ n=>Q (.d .none) n,rt:=Q}:=jjx λd n K k=>by
 show je6 [some (.w (.d d))] n K;unfold je6;cases d<;>(simp only[wVar,jci,ja6,jch,jav,jbb,jba,wC,w2,cT,jaw,jbg,cOr,cNot,wAnd,wOr,wNot,aNil,jaa,wOf,jad,wB,jah,sSeq,sRet,sIf,gCmp,gEq,gIsN,gIx,gLen,wIsi,gAll,jbc,jdi,ja0,jb5,cYes,jaf,ja3,Cu,A4,Bd,A7,Bp,A3,Be,Cb,jbt,jbf,jbs,jaz,jbe];simpa[jfb]using k)
theorem jhp:∀ws n Q,jb2 ws n Q->ws.length=2:=λws n Q h=>by
 unfold jb2 at h
 split at h
 ·rfl
 ·exact h.elim
theorem jgv:∀ws n Q,jb2 ws n Q->jc7 (jal ["thing","longest"] ws) n {nx:=λ_ n=>Q (.d .none) n,rt:=Q}:=λws n Q h=>by
 unfold jb2 at h
 split at h
 ·rename_i d k;show jc7 [some (.w (.d d)),some (.w (.d (.int k)))] n _;unfold jc7;cases d with
  |str x =>
   simp only[wVar,jci,ja6,jch,jav,jbb,jba,wC,w2,cT,jaw,jbg,cOr,cNot,wAnd,wOr,wNot,aNil,jaa,wOf,jad,wB,jah,sSeq,sRet,sIf,gCmp,gEq,gIsN,gIx,gLen,wIsi,gAll,jbc,jdi,ja0,jb5,cYes,jaf,ja3,Cu,A4,Bd,A7,Bp,A3,Be,Cb,jbt,jbf,jbs,jaz,jbe];simp only[Bool.not_true,C7,if_false];simp only[letB]at h;refine ifb (λe1=>?_) (λe1=>?_)
   ·refine ifb (λe2=>?_) (λe2=>?_)
    ·rw[e1,e2,Bo,Bo]at h;exact jrz x h
    ·rw[e1,e2]at h;exact h
   ·rw[e1]at h;exact h
  |_=>simp only[wVar,jci,ja6,jch,jav,jbb,jba,wC,w2,cT,jaw,jbg,cOr,cNot,wAnd,wOr,wNot,aNil,jaa,wOf,jad,wB,jah,sSeq,sRet,sIf,gCmp,gEq,gIsN,gIx,gLen,wIsi,gAll,jbc,jdi,ja0,jb5,cYes,jaf,ja3,Cu,A4,Bd,A7,Bp,A3,Be,Cb,jbt,jbf,jbs,jaz,jbe];exact h
 ·exact h.elim
theorem jl5:∀ws n Q,spJ (letB 8) ws n Q->ws.length=1:=λ_ _ _ h=>jcg h
theorem jk8:∀ws n Q,spJ (letB 8) ws n Q->jqo (jal Zc ws) n {nx:=λ_ n=>Q (.d .none) n,rt:=Q}:=jjx λd n K k=>k
theorem jl7:∀ws n Q,spJ (letB 4) ws n Q->ws.length=1:=λ_ _ _ h=>jcg h
theorem jla:∀ws n Q,spJ (letB 4) ws n Q->jqp (jal Zc ws) n {nx:=λ_ n=>Q (.d .none) n,rt:=Q}:=jjx λd n K k=>k
theorem ji8:∀ws n Q,spJ numB ws n Q->ws.length=1:=λ_ _ _ h=>jcg h
theorem jh1:∀ws n Q,spJ numB ws n Q->jd1 (jal Zc ws) n {nx:=λ_ n=>Q (.d .none) n,rt:=Q}:=jjx λd n K k=>by
 show jd1 [some (.w (.d d))] n K;unfold jd1;simp only[sRet,wAnd,jad,jaa,aNil,wVar,A4,spJ,jbg,jaw,wC];exact jnp k
theorem jky:∀ws n Q,spJ jcl ws n Q->ws.length=1:=λ_ _ _ h=>jcg h
theorem jjs:∀ws n Q,spJ jcl ws n Q->je7 (jal Zc ws) n {nx:=λ_ n=>Q (.d .none) n,rt:=Q}:=jjx λd n K k=>by
 show je7 [some (.w (.d d))] n K;unfold je7;simp only[wVar,jci,ja6,jch,jav,jbb,jba,wC,w2,cT,jaw,jbg,cOr,cNot,wAnd,wOr,wNot,aNil,jaa,wOf,jad,wB,jah,sSeq,sRet,sIf,gCmp,gEq,gIsN,gIx,gLen,wIsi,gAll,jbc,jdi,ja0,jb5,cYes,jaf,ja3,Cu,A4,Bd,A7,Bp,A3,Be,Cb,jbt,jbf,jbs,jaz,jbe,spJ];exact jo8 (F:=λb=>K.rt (.d (.bool b)) n) k id
theorem ji9:∀ws n Q,jaq ws n Q->ws.length=3:=λws n Q h=>by
 unfold jaq at h
 split at h
 ·rfl
 ·exact h.elim
theorem jh2:∀ws n Q,jaq ws n Q->jd2 (jal ["thing","head","many"] ws) n {nx:=λ_ n=>Q (.d .none) n,rt:=Q}:=λws n Q h=>by
 unfold jaq at h
 split at h
 ·rename_i d hd k;obtain⟨hk,h⟩:=h;show jd2 [some (.w (.d d)),some (.w (.d (.str hd))),some (.w (.d (.int k)))] n _;unfold jd2;cases d with
  |tuple ds =>
   simp only[wVar,jci,ja6,jch,jav,jbb,jba,wC,w2,cT,jaw,jbg,cOr,cNot,wAnd,wOr,wNot,aNil,jaa,wOf,jad,wB,jah,sSeq,sRet,sIf,gCmp,gEq,gIsN,gIx,gLen,wIsi,gAll,jbc,jdi,ja0,jb5,cYes,jaf,ja3,Cu,A4,Bd,A7,Bp,A3,Be,Cb,jbt,jbf,jbs,jaz,jbe,eq_int,eq_str];simp only[if_true];by_cases e:(ds.length:Int)=k
   ·rcases ds with _ | ⟨a,r⟩
    ·exfalso;have e:(0:Int)=k:=e;omega
    ·simp only[ja2,decide_eq_true e,if_true,Bo]at h ⊢;simp only[at0,eq_str];exact h
   ·simp only[ja2,decide_eq_false e,C7,if_false,Bool.false_and]at h ⊢;exact h
  |_=>simp only[wVar,jci,ja6,jch,jav,jbb,jba,wC,w2,cT,jaw,jbg,cOr,cNot,wAnd,wOr,wNot,aNil,jaa,wOf,jad,wB,jah,sSeq,sRet,sIf,gCmp,gEq,gIsN,gIx,gLen,wIsi,gAll,jbc,jdi,ja0,jb5,cYes,jaf,ja3,Cu,A4,Bd,A7,Bp,A3,Be,Cb,jbt,jbf,jbs,jaz,jbe];exact h
 ·exact h.elim
theorem jk0:∀ws n Q,jcj ws n Q->ws.length=2:=λws n Q h=>by
 unfold jcj at h
 split at h
 ·rfl
 ·exact h.elim
theorem jju:∀ws n Q,jcj ws n Q->je8 (jal ["thing","head"] ws) n {nx:=λ_ n=>Q (.d .none) n,rt:=Q}:=λws n Q h=>by
 unfold jcj at h
 split at h
 ·rename_i d hd;show je8 [some (.w (.d d)),some (.w (.d (.str hd)))] n _;unfold je8;simp only[wVar,jci,ja6,jch,jav,jbb,jba,wC,w2,cT,jaw,jbg,cOr,cNot,wAnd,wOr,wNot,aNil,jaa,wOf,jad,wB,jah,sSeq,sRet,sIf,gCmp,gEq,gIsN,gIx,gLen,wIsi,gAll,jbc,jdi,ja0,jb5,cYes,jaf,ja3,Cu,A4,Bd,A7,Bp,A3,Be,Cb,jbt,jbf,jbs,jaz,jbe,jaq,spJ];refine⟨by decide,?_⟩;refine jjz (F:=λb=>Q (.d (.bool b)) n) h λe z=>?_;obtain⟨a,b,rfl⟩:=jef e;exact z
 ·exact h.elim
theorem jl6:∀ws n Q,spJ jiu ws n Q->ws.length=1:=λ_ _ _ h=>jcg h
theorem jk9:∀ws n Q,spJ jiu ws n Q->jg4 (jal Zc ws) n {nx:=λ_ n=>Q (.d .none) n,rt:=Q}:=jjx λd n K k=>by
 show jg4 [some (.w (.d d))] n K;unfold jg4;simp only[wVar,jci,ja6,jch,jav,jbb,jba,wC,w2,cT,jaw,jbg,cOr,cNot,wAnd,wOr,wNot,aNil,jaa,wOf,jad,wB,jah,sSeq,sRet,sIf,gCmp,gEq,gIsN,gIx,gLen,wIsi,gAll,jbc,jdi,ja0,jb5,cYes,jaf,ja3,Cu,A4,Bd,A7,Bp,A3,Be,Cb,jbt,jbf,jbs,jaz,jbe,jaq,jcj,spJ];refine⟨by decide,?_⟩;unfold jiu at k;cases e:ja2 "is" 2 d with
 |true =>
  rw[e,if_pos rfl]at k;rw[if_pos rfl];obtain⟨a,b,rfl⟩:=jef e;exact k
 |false =>
  rw[e,if_neg Af]at k;rw[if_neg Af];exact k
theorem jdh:∀ws n Q,spJ ja1 ws n Q->ws.length=1:=λ_ _ _ h=>jcg h
theorem jc5:∀ws n Q,spJ ja1 ws n Q->jbi (jal Zc ws) n {nx:=λ_ n=>Q (.d .none) n,rt:=Q}:=jjx λd n K k=>by
 show jbi [some (.w (.d d))] n K;unfold jbi;simp only[wVar,jci,ja6,jch,jav,jbb,jba,wC,w2,cT,jaw,jbg,cOr,cNot,wAnd,wOr,wNot,aNil,jaa,wOf,jad,wB,jah,sSeq,sRet,sIf,gCmp,gEq,gIsN,gIx,gLen,wIsi,gAll,jbc,jdi,ja0,jb5,cYes,jaf,ja3,Cu,A4,Bd,A7,Bp,A3,Be,Cb,jbt,jbf,jbs,jaz,jbe,jaq,jcj,spJ];unfold ja1 at k;refine⟨by decide,?_⟩;cases e1:ja2 "any" 1 d with
 |true=>rw[e1]at k;exact k
 |false =>
  rw[e1,Da]at k;simp only[C7,if_false];refine⟨by decide,?_⟩;cases e2:ja2 "word" 1 d with
  |true=>rw[e2]at k;exact k
  |false =>
   rw[e2,Da]at k;simp only[C7,if_false];refine⟨by decide,?_⟩;cases e3:ja2 "number" 1 d with
   |true=>rw[e3]at k;exact k
   |false =>
    rw[e3,Da]at k;simp only[C7,if_false];exact jo8 (F:=λb=>K.rt (.d (.bool b)) n) k id
theorem jds:∀ws n Q,spJ cntB ws n Q->ws.length=1:=λ_ _ _ h=>jcg h
theorem jdj:∀ws n Q,spJ cntB ws n Q->jbn (jal Zc ws) n {nx:=λ_ n=>Q (.d .none) n,rt:=Q}:=jjx λd n K k=>by
 show jbn [some (.w (.d d))] n K;unfold jbn;cases d with
 |tuple ds =>
  simp only[wVar,jci,ja6,jch,jav,jbb,jba,wC,w2,cT,jaw,jbg,cOr,cNot,wAnd,wOr,wNot,aNil,jaa,wOf,jad,wB,jah,sSeq,sRet,sIf,gCmp,gEq,gIsN,gIx,gLen,wIsi,gAll,jbc,jdi,ja0,jb5,cYes,jaf,ja3,Cu,A4,Bd,A7,Bp,A3,Be,Cb,jbt,jbf,jbs,jaz,jbe];simp only[if_true];exact jjz (F:=λb=>K.rt (.d (.bool b)) n) k λ_ z=>z
 |_=>simp only[wVar,jci,ja6,jch,jav,jbb,jba,wC,w2,cT,jaw,jbg,cOr,cNot,wAnd,wOr,wNot,aNil,jaa,wOf,jad,wB,jah,sSeq,sRet,sIf,gCmp,gEq,gIsN,gIx,gLen,wIsi,gAll,jbc,jdi,ja0,jb5,cYes,jaf,ja3,Cu,A4,Bd,A7,Bp,A3,Be,Cb,jbt,jbf,jbs,jaz,jbe];exact k
theorem ju8 {d:Aa} (e:cntB d=true):∃ds,d=.tuple ds:=by
 cases d with
 |tuple ds=>exact⟨ds,rfl⟩
 |_=>cases e
theorem jss {Q:DQ} {n:Int} (g:Aa->Bool) (ds:List Aa) (h:Q (.d (.bool (ds.all g))) n):jbu (jaf 0) cYes (jad (spJ g) (jaa (wVar 0) aNil))
  (λds n1=>match jbr ds with | some bs=>Q (.d (.bool (bs.all id))) n1 | none=>False) ds [] [none] n:=by
 refine jeh (λ_=>True) (λd=>.bool (g d)) ?_ _ _ _ _ (λ_ _=>trivial) ?_
 ·exact λd n Q' _ k=>k
 ·show match jbr (ds.map λd=>.bool (g d))with | some bs=>Q (.d (.bool (bs.all id))) n | none=>False
  simp only[je2,jtm];exact h
theorem jho:∀ws n Q,spJ patB ws n Q->ws.length=1:=λ_ _ _ h=>jcg h
theorem jgu:∀ws n Q,spJ patB ws n Q->jc6 (jal Zc ws) n {nx:=λ_ n=>Q (.d .none) n,rt:=Q}:=jjx λd n K k=>by
 show jc6 [some (.w (.d d))] n K;unfold jc6;simp only[sRet,wAnd,jad,jaa,aNil,wVar,A4,spJ,jbg,wB,wOf,ja0,jbc,gAll,jb5,A3,Be,Cb];refine jjz (F:=λb=>K.rt (.d (.bool b)) n) k λe z=>?_;obtain⟨ds,rfl⟩:=ju8 e;exact jss ja1 ds z
section
variable {δ:Sl} {n:Int} {Q:DQ} {i:Nat}
theorem jxi {x:Str} (e:δ[i]?=some (some (.w (.d (.str x))))) (k:Q (.d (.int x.length)) n):wB gLen (jaa (wVar i) aNil) δ n Q:=b1_i (jac e k)
theorem jgq {ds:List Aa} {k:Int} (e:δ[i]?=some (some (.w (.d (.tuple ds))))):∀Q:Bool->Int->Prop,Q (decide ((ds.length:Int)=k)) n->cT (w2 (wB gLen (jaa (wVar i) aNil)) (wC (.int k)) gEq) δ n Q:=λQ q=>ct_b (k:=decide ((ds.length:Int)=k)) (λQ q=>w2_i (jhq e (c_i q))) q
theorem jc2 {a:Aa} {r:List Aa} {h:Str} (e:δ[i]?=some (some (.w (.d (.tuple (a::r)))))):∀Q:Bool->Int->Prop,Q (jab h a) n->cT (w2 (w2 (wVar i) (wC (.int 0)) gIx) (wC (.str h)) gEq) δ n Q:=λQ q=>ct_b (k:=jab h a) (λQ q=>jp5 e q) q
theorem jjn {w:DT} {lo k hi:Int} {wl wh:DT} (hl:∀Q:DQ,Q (.d (.int lo)) n->wl δ n Q) (hw:∀Q:DQ,Q (.d (.int k)) n->w δ n Q) (hh:∀Q:DQ,Q (.d (.int hi)) n->wh δ n Q) (q:Q (.d (.bool (decide (lo<=k)&&decide (k<=hi)))) n):jaw gLe gLe wl w wh δ n Q:=by
 unfold jaw;refine hl _ (hw _ ?_);show jg0 (.d (.bool (decide (lo<=k)))) _ _;cases h:decide (lo<=k)with
 |true=>rw[h]at q;exact hh _ q
 |false=>rw[h]at q;exact q
end
theorem jp6 (h:Str) (a:Aa):B1 (.str h) a=jab h a:=by
 cases a with
 |str s =>
  show(h==s)=decide (s=h);by_cases e:s=h
  ·rw[e,decide_eq_true rfl];exact beq_self_eq_true h
  ·rw[decide_eq_false e];exact beq_eq_false_iff_ne.mpr (Ne.symm e)
 |_=>simp[B1,jab]
theorem jsc (h:Str) (a:Aa):B1 a (.str h)=jab h a:=by
 cases a with
 |str s =>
  show(s==h)=decide (s=h);by_cases e:s=h
  ·rw[e,decide_eq_true rfl];exact beq_self_eq_true h
  ·rw[decide_eq_false e];exact beq_eq_false_iff_ne.mpr e
 |_=>simp[B1,jab]
theorem jxt {a:Aa} {k:Nat} {ys:List Aa} {b:Bool} {n:Int} {Q:DQ} (ha:Th 60 k a) (hk:k<=18) (hy:Cp (.tuple ys)=true) (hd:Dq (.tuple ys)<=20) (e:(ys.any λy=>B1 y a)=b) (q:Q (.d (.bool b)) n):gXX inX (.d a) (.d (.tuple ys)) n Q :=
 ⟨ha.lay.1,hy,Bk ha.lay.2 (by omega),hd,b,by rw[<-e];rfl,q⟩
theorem jtd {δ:Sl} {n:Int} {i:Nat} {ds:List Aa} {k:Int} (e:δ[i]?=some (some (.w (.d (.tuple ds))))):∀Q:Bool->Int->Prop,Q (!decide ((ds.length:Int)=k)) n->cT (w2 (wB gLen (jaa (wVar i) aNil)) (wC (.int k)) gNe) δ n Q:=λQ q=>ct_b (k:=!decide ((ds.length:Int)=k)) (λQ q=>w2_i (jhq e (c_i q))) q
theorem ji2 {δ:Sl} {n:Int} {i:Nat} {ds:List Aa} {k:Int} (e:δ[i]?=some (some (.w (.d (.tuple ds))))):∀Q:Bool->Int->Prop,Q (!decide ((ds.length:Int)=k)) n->cT (w2 (wB gLen (jaa (wVar i) aNil)) (wC (.int k)) (gXX λd e=>some (!B1 d e))) δ n Q:=λQ q=>ct_b (k:=!decide ((ds.length:Int)=k)) (λQ q=>w2_i (jhq e (c_i ⟨rfl,rfl,Bm _,Bm _,_,rfl,q⟩))) q
theorem jf3:∀ws n Q,jli ws n Q->ws.length=2:=λws n Q h=>by obtain⟨_,_,rfl,_⟩:=h;rfl
theorem je5:∀ws n Q,jli ws n Q->jdo (jal ["_law_thing_here","_law_most","_law_letters"] ws) n {nx:=λ_ n=>Q (.d .none) n,rt:=Q}:=λws n Q h=>by
 obtain⟨d,k,rfl,q⟩:=h;show jdo [some (.w (.d d)),some (.w (.d (.int k))),none] n _;refine jae (jdk (x:=.str "abcdefghijklmnopqrstuvwxyz") (λQ q=>c_i q) ?_);dsimp only[Aw];refine jak ?_;cases d with
 |str x =>
  refine jd0 (a:=true) (b:=letB k (.str x)) (λQ q=>jhv (d:=.str x) (λQ q=>jac rfl q) Q q) (λ_ Q q=>?_) q;have q:Q (.d (.bool (decide ((1:Int)<=(x.length:Int))&&(decide ((x.length:Int)<=k)&&x.cps.toList.all okS)))) n:=q;rw[<-Bool.and_assoc]at q;refine jd0 (b:=x.cps.toList.all okS) (λQ q=>jjn (λQ q=>c_i q) (λQ q=>jxi rfl q) (λQ q=>jac rfl q) q) (λ_ Q q=>b1_i (of_i ?_)) q;unfold ja0 jdi;refine jac rfl ?_;show jbu _ _ _ _ (jco x) [] [none,some (.w (.d (.str "abcdefghijklmnopqrstuvwxyz")))] n;unfold jco;refine jny (λc=>.str ⟨#[c]⟩) (λc=>.bool (okS c)) x.cps.toList [] none n (λc _ n Q' q=>w2_i (jac rfl (jac rfl ?_))) ?_
  ·show Q' (.d (.bool (occB ⟨#[c]⟩ "abcdefghijklmnopqrstuvwxyz"))) n;rw[jxc];exact q
  ·rw[Cj];show(match jbr (x.cps.toList.map λc=>.bool (okS c))with | some bs=>Q (.d (.bool (bs.all id))) n | none=>False);rw[jei];show Q (.d (.bool ((x.cps.toList.map okS).all id))) n;rw[List.all_map];exact q
 |_=>exact jd0 (a:=false) (b:=false) (λQ q=>q) (λz=>nomatch z) q
theorem jew:∀ws n Q,jbo ws n Q->ws.length=3:=λws n Q h=>by obtain⟨_,_,_,rfl,_⟩:=h;rfl
theorem jel:∀ws n Q,jbo ws n Q->jda (jal ["_law_thing_here","_law_least","_law_most"] ws) n {nx:=λ_ n=>Q (.d .none) n,rt:=Q}:=λws n Q h=>by
 obtain⟨d,lo,hi,rfl,q⟩:=h;show jda [some (.w (.d d)),some (.w (.d (.int lo))),some (.w (.d (.int hi)))] n _;refine jak ?_;have nb:∀(d:Aa) (b:Bool),isiB "bool" d=b->∀Q:DQ,Q (.d (.bool (!b))) n->wNot (wIsi "bool" (wVar 0)) [some (.w (.d d)),some (.w (.d (.int lo))),some (.w (.d (.int hi)))] n Q:=λd b e Q q=>by
  subst e;exact q
 cases d with
 |int j =>
  refine jd0 (a:=true) (b:=jbk lo hi (.int j)) (λQ q=>jhv (d:=.int j) (λQ q=>jac rfl q) Q q) (λ_ Q q=>?_) q;refine jd0 (a:=true) (b:=jbk lo hi (.int j)) (λQ q=>nb _ false rfl Q q) (λ_ Q q=>?_) q;exact jjn (λQ q=>jac rfl q) (λQ q=>jac rfl q) (λQ q=>jac rfl q) q
 |bool j =>
  refine jd0 (a:=true) (b:=false) (λQ q=>jhv (d:=.bool j) (λQ q=>jac rfl q) Q q) (λ_ Q q=>?_) q;exact jd0 (a:=false) (b:=false) (λQ q=>nb _ true rfl Q q) (λz=>nomatch z) q
 |_=>exact jd0 (a:=false) (b:=false) (λQ q=>q) (λz=>nomatch z) q
theorem jgl:∀ws n Q,jj4 ws n Q->ws.length=1:=λws n Q h=>by obtain⟨_,rfl,_⟩:=h;rfl
theorem jf5:∀ws n Q,jj4 ws n Q->jeo (jal ["_law_thing_here"] ws) n {nx:=λ_ n=>Q (.d .none) n,rt:=Q}:=λws n Q h=>by
 obtain⟨b,rfl,q⟩:=h;show jeo [some (.w (.d (.tuple [b])))] n _;refine jae (if_n (λQ q=>c_or (a:=false) (b:=false) (nt_i rfl) (λ_ Q q=>ja5 (k:=true) (λQ q=>ct_b (k:=true) (λQ q=>jjn (lo:=1) (k:=1) (hi:=4) (λQ q=>c_i q) (λQ q=>jhq (ds:=[b]) rfl q) (λQ q=>c_i q) q) q) q) q) ?_);dsimp only[jah];refine jak (b1_i (of_i (jgr (ds:=[b]) (λQ q=>jac rfl q) ?_)));show jbu _ _ _ _ [b] [] [none] n;refine jny id (λb=>.bool (jcl b)) [b] [] none n (λb _ n Q' q=>?_) ?_
 ·refine or_v (a:=letB 8 b) (b:=numB b) (λQ q=>c2_i (jac rfl (c_i ⟨b,8,rfl,q⟩))) (λ_ Q q=>c3_i (jac rfl (c_i (c_i ⟨b,0,99,rfl,q⟩)))) q
 ·show Q (.d (.bool (jcl b&&true))) n;rw[Bool.and_true];exact q
def jqk (a:Aa):Bool:=jab "any" a || (jab "word" a || jab "number" a)
theorem jvf (a:Aa):(([.str "any",.str "word",.str "number"]:List Aa).any λy=>B1 y a)=jqk a:=by
 simp only[C9,List.any_nil,jp6,B6];rfl
theorem jex:∀ws n Q,jhb ws n Q->ws.length=1:=λws n Q h=>by obtain⟨_,_,rfl,_⟩:=h;rfl
theorem jem:∀ws n Q,jhb ws n Q->jdb (jal ["_law_field"] ws) n {nx:=λ_ n=>Q (.d .none) n,rt:=Q}:=λws n Q h=>by
 obtain⟨d,k,rfl,hT,hk,q⟩:=h;show jdb [some (.w (.d d))] n _;cases d with
 |tuple ds =>
  cases ds with
  |nil=>exact jae (if_y (λQ q=>c_or (a:=false) (b:=true) (nt_i rfl) (λ_ Q q=>jgq (ds:=[]) rfl Q q) q) (jak (c_i q)))
  |cons a r =>
   have z0:decide (((a::r).length:Int)=0)=false:=decide_eq_false (by rw[Ak];omega);refine jae (if_n (λQ q=>c_or (a:=false) (b:=false) (nt_i rfl) (λ_ Q q=>jgq (ds:=a::r) rfl Q (by rw[z0];exact q)) q) ?_);dsimp only[jah];have ha:=hT.mem a Ba;have hin:∀(b:Bool),jqk a=b->∀Q:Bool->Int->Prop,Q b n->cT (w2 (w2 (wVar 0) (wC (.int (0))) gIx) (wTup (jaa (wC (.str "any")) (jaa (wC (.str "word")) (jaa (wC (.str "number")) aNil)))) (gXX inX)) [some (.w (.d (.tuple (a::r))))] n Q:=λb e Q q =>
    ct_b (k:=b) (λQ q=>w2_i (jma rfl (jn6 (c_i (c_i (c_i (Ad (show 3<=1000 by decide) (jxt ha (by omega) (by decide +kernel) (by decide +kernel) ((jvf a).trans e) q)))))))) q
   cases hb:jqk a with
   |true =>
    refine jae (if_y (hin true hb) (jak (w2_i (jhq (ds:=a::r) rfl (c_i ?_)))));show Q (.d (.bool (decide (((a::r).length:Int)=1)))) n;have e:jc3 (.tuple (a::r))=decide (((a::r).length:Int)=1):=by
     rcases r with _ | ⟨b,_ | ⟨c,r⟩⟩
     ·exact hb
     ·show(!jqk a&&_)=false;rw[hb];rfl
     ·exact(decide_eq_false (by simp only[Ak];omega)).symm
    rw[<-e];exact q
   |false =>
    refine jae (if_n (hin false hb) ?_);dsimp only[jah];have no:r.length≠1->jc3 (.tuple (a::r))=false:=λh=>by
     rcases r with _ | ⟨b,_ | ⟨c,r⟩⟩
     ·exact hb
     ·exact absurd rfl h
     ·rfl
    by_cases hl:r.length=1
    ·have e2:decide (((a::r).length:Int)=2)=true:=decide_eq_true (by rw[Ak];omega);refine jae (if_n (λQ q=>jtd (ds:=a::r) rfl Q (by rw[e2];exact q)) ?_);dsimp only[jah];obtain⟨b,rfl⟩:∃b,r=[b]:=List.length_eq_one_iff.mp hl;have q:Q (.d (.bool (!jqk a&&(if jab "is" a=true then jcl b else jab "bind" a&&letB 4 b)))) n:=q;rw[hb,Bool.not_false,Bo]at q;cases hi:jab "is" a with
     |true =>
      rw[if_pos hi]at q;refine jae (if_y (λQ q=>jc2 rfl Q (by rw[hi];exact q)) (jak (c1_i ?_)));unfold jav jba jbb;exact jac rfl (c_i ⟨b,rfl,q⟩)
     |false =>
      rw[if_neg (by rw[hi];exact Af)]at q;refine jae (if_n (λQ q=>jc2 rfl Q (by rw[hi];exact q)) ?_);dsimp only[jah];exact jak (jd0 (a:=jab "bind" a) (b:=letB 4 b) (λQ q=>jp5 rfl q) (λ_ Q q=>c2_i (jc0 rfl (c_i ⟨b,4,rfl,q⟩))) q)
    ·have e2:decide (((a::r).length:Int)=2)=false:=decide_eq_false (by rw[Ak];omega);rw[no hl]at q;exact jae (if_y (λQ q=>jtd (ds:=a::r) rfl Q (by rw[e2];exact q)) (jak (c_i q)))
 |_=>exact jae (if_y (λQ q=>c_or (a:=true) (b:=true) (λQ q=>ja5 (k:=false) (λQ q=>ct_b (k:=false) (λQ q=>q) q) q) (λz=>nomatch z) q) (jak (c_i q)))
theorem jzi {δ:Sl} {n:Int} {i:Nat} {a:Aa} {r:List Aa} {h:Str} {k:Nat} (hh:Cp (.str h)=true) (ha:Th 60 k a) (hk:k<=18) (e:δ[i]?=some (some (.w (.d (.tuple (a::r)))))):∀Q:Bool->Int->Prop,Q (!jab h a) n->cT (w2 (w2 (wVar i) (wC (.int 0)) gIx) (wC (.str h)) (gXX λd e=>some (!B1 d e))) δ n Q:=λQ q =>
 ct_b (k:=!jab h a) (λQ q=>w2_i (jma e (c_i ⟨ha.lay.1,hh,Bk ha.lay.2 (by omega),Bm _,_,rfl,by rw[jsc];exact q⟩))) q
theorem isiX {δ:Sl} {n:Int} {i:Nat} {a b:Aa} {r:List Aa} (e:δ[i]?=some (some (.w (.d (.tuple (a::b::r)))))):∀Q:Bool->Int->Prop,Q (jbj b) n->cT (wIsi "tuple" (w2 (wVar i) (wC (.int 1)) gIx)) δ n Q:=λQ q =>
 ct_b (k:=jbj b) (λQ q=>(show w2 _ _ _ _ _ _ from jc0 e (by rw[<-jpv]at q;exact q))) q
theorem jq6 {ps:Pg} {a:Aa} {r:List Aa} (h:jab "notes" a=true):sgT ps (.tuple (a::r))=jmv (.tuple (a::r)):=by
 unfold sgT;rw[jrs];have h1:atT ps (.tuple (a::r))=false:=jql (by
  cases e:ja2 "at" 4 (.tuple (a::r))with
  |false=>rfl
  |true =>
   obtain⟨_,_,_,_,e1,e2⟩:=jc1 e;cases e1;rw[jap h (show("notes":Str)≠"at" by decide +kernel)]at e2;cases e2)
 have h2:endT ps (.tuple (a::r))=false:=by
  rcases r with _ | ⟨b,_ | ⟨c,r⟩⟩
  ·rfl
  ·show(jab "ended" a&&_)=false;rw[jap h (show("notes":Str)≠"ended" by decide +kernel)];rfl
  ·rfl
 rw[h1,h2,B6,B6]
theorem js5 {ps:Pg} {a:Aa} {r:List Aa} (h:jab "notes" a=false):sgT ps (.tuple (a::r))=(atT ps (.tuple (a::r)) || endT ps (.tuple (a::r))):=by
 unfold sgT;have:nsgB (.tuple (a::r))=false:=jmu (by
  cases e:ja2 "notes" 3 (.tuple (a::r))with
  |false=>rfl
  |true =>
   obtain⟨_,_,_,e1,e2⟩:=jig e;cases e1;rw[h]at e2;cases e2)
 rw[this,Da]
theorem jv4 {ps:Pg} {a:Aa} {r:List Aa} (h:jab "ended" a=true):sgT ps (.tuple (a::r))=endT ps (.tuple (a::r)):=by
 rw[js5 (jap h (by decide +kernel))];have:atT ps (.tuple (a::r))=false:=jql (by
  cases e:ja2 "at" 4 (.tuple (a::r))with
  |false=>rfl
  |true =>
   obtain⟨_,_,_,_,e1,e2⟩:=jc1 e;cases e1;rw[jap h (show("ended":Str)≠"at" by decide +kernel)]at e2;cases e2)
 rw[this,Da]
theorem jy0 {ps:Pg} {a:Aa} {r:List Aa} (h1:jab "notes" a=false) (h2:jab "ended" a=false):sgT ps (.tuple (a::r))=atT ps (.tuple (a::r)):=by
 rw[js5 h1];have:endT ps (.tuple (a::r))=false:=by
  rcases r with _ | ⟨b,_ | ⟨c,r⟩⟩
  ·rfl
  ·show(jab "ended" a&&_)=false;rw[h2];rfl
  ·rfl
 rw[this,B6]
theorem jee:∀ws n Q,jep ws n Q->ws.length=2:=λws n Q h=>by obtain⟨_,_,_,_,rfl,_⟩:=h;rfl
theorem jdz:∀ws n Q,jep ws n Q->jcs (jal ["_law_programs_here","_law_thing_here","_law_program_here"] ws) n {nx:=λ_ n=>Q (.d .none) n,rt:=Q}:=λws n Q h=>by
 obtain⟨ps,a,r,k,rfl,hT,hk,q⟩:=h;show jcs [some (.w (.d (pgD ps))),some (.w (.d (.tuple (a::r)))),none] n _;have ha:=hT.mem a Ba;have lwi:∀(b:Aa) (r':List Aa),r=b::r'->∀Q:DQ,Q (.d (.bool (hndB ps b))) n->jad jbo (jaa (w2 (wVar 1) (wC (.int (1))) gIx) (jaa (wC (.int (0))) (jaa (w2 (wB gLen (jaa (wVar 0) aNil)) (wC (.int (1))) (gI0 λi j=>.int (i - j))) aNil))) [some (.w (.d (pgD ps))),some (.w (.d (.tuple (a::r)))),none] n Q:=λb r' e Q qq=>by
  subst e;refine c3_i (jc0 rfl (c_i (w2_i (b1_i (jac rfl (jgm (c_i ⟨b,0,_,rfl,?_⟩)))))));rw[Ag];exact qq
 cases hn:jab "notes" a with
 |true =>
  rw[jq6 hn]at q;refine jae (if_y (λQ q=>jc2 rfl Q (by rw[hn];exact q)) ?_);by_cases hl:r.length=2
  ·obtain⟨p,c,rfl⟩:∃p c,r=[p,c]:=by
    match r,hl with
    |[p,c],_=>exact⟨p,c,rfl⟩
   have q:Q (.d (.bool (jab "notes" a&&(cntB p&&(jb7 p).all jc3&&jbk 1 9 c)))) n:=q;rw[hn,Bo]at q;have f3:∀Q:Bool->Int->Prop,Q false n->cT (w2 (wB gLen (jaa (wVar 1) aNil)) (wC (.int 3)) (gXX λd e=>some (!B1 d e))) [some (.w (.d (pgD ps))),some (.w (.d (.tuple [a,p,c]))),none] n Q:=λQ q=>ji2 (ds:=[a,p,c]) rfl Q q;have fin:jbj p=false\/cntB p=false->Q (.d (.bool false)) n:=λh=>by
    have:cntB p=false:=h.elim (λh=>by cases p<;>first | rfl | cases h) id;rw[this]at q;exact q
   cases ht:jbj p with
   |false=>exact jae (if_y (λQ q=>c_or (a:=false) (b:=true) f3 (λ_ Q q=>c_or (a:=true) (b:=true) (λQ q=>ja5 (k:=false) (λQ q=>isiX rfl Q (by rw[ht];exact q)) q) (λz=>nomatch z) q) q) (jak (c_i (fin (.inl ht)))))
   |true =>
    obtain⟨ds,rfl⟩:∃ds,p=.tuple ds:=by
     cases p with
     |tuple ds=>exact⟨ds,rfl⟩
     |_=>cases ht
    have hc:∀Q:Bool->Int->Prop,Q (!cntB (.tuple ds)) n->cNot (cT (jaw gLe gLe (wC (.int (1))) (wB gLen (jaa (w2 (wVar 1) (wC (.int (1))) gIx) aNil)) (wC (.int (4))))) [some (.w (.d (pgD ps))),some (.w (.d (.tuple [a,.tuple ds,c]))),none] n Q:=λQ q=>ja5 (k:=cntB (.tuple ds)) (λQ q=>ct_b (λQ q=>jjn (λQ q=>c_i q) (λQ q=>b1_i (jc0 rfl (jgm q))) (λQ q=>c_i q) q) q) q;cases hcn:cntB (.tuple ds)with
    |false =>
     exact jae (if_y (λQ q=>c_or (a:=false) (b:=true) f3 (λ_ Q q=>c_or (a:=false) (b:=true) (λQ q=>ja5 (k:=true) (λQ q=>isiX (b:=.tuple ds) rfl Q q) q) (λ_ Q q=>hc Q (by rw[hcn];exact q)) q) q) (jak (c_i (fin (.inr hcn)))))
    |true =>
     refine jae (if_n (λQ q=>c_or (a:=false) (b:=false) f3 (λ_ Q q=>c_or (a:=false) (b:=false) (λQ q=>ja5 (k:=true) (λQ q=>isiX (b:=.tuple ds) rfl Q q) q) (λ_ Q q=>hc Q (by rw[hcn];exact q)) q) q) ?_);dsimp only[jah];rw[hcn,Bo]at q;have hp:=hT.mem (.tuple ds) (by simp);refine jak (jd0 (a:=ds.all jc3) (b:=jbk 1 9 c) (λQ q=>b1_i (of_i (jgr (ds:=ds) (λQ q=>jc0 rfl q) ?_))) (λ_ Q q=>c3_i (w2_i (jac rfl (c_i (g2_i (c_i (c_i ⟨c,1,9,rfl,q⟩)))))) ) q);show jbu _ _ _ _ ds [] [none] n;have:=jny (w:=jad jhb (jaa (wVar 0) aNil)) (Q:=λds n=>gAll [.d (.list ds)] n Q) (rest:=[]) id (λb=>.bool (jc3 b)) ds [] none n (λb hb n Q' q=>c1_i (jac rfl ⟨b,_,rfl,hp.mem b hb,by omega,q⟩)) (by
      rw[Cj];show(match jbr (ds.map λc=>.bool (jc3 c))with | some bs=>Q (.d (.bool (bs.all id))) n | none=>False);rw[jei];show Q (.d (.bool ((ds.map jc3).all id))) n;rw[List.all_map];exact q)
     rw[List.map_id]at this;exact this
  ·have e3:decide (((a::r).length:Int)=3)=false:=decide_eq_false (by rw[Ak];omega);have:jmv (.tuple (a::r))=false:=by
    rcases r with _ | ⟨b,_ | ⟨c,_ | ⟨f,r⟩⟩⟩
    ·rfl
    ·rfl
    ·exact absurd rfl hl
    ·rfl
   rw[this]at q;exact jae (if_y (λQ q=>c_or (a:=true) (b:=true) (λQ q=>ji2 (ds:=a::r) rfl Q (by rw[e3];exact q)) (λz=>nomatch z) q) (jak (c_i q)))
 |false =>
  refine jae (if_n (λQ q=>jc2 rfl Q (by rw[hn];exact q)) ?_);dsimp only[jah];cases he:jab "ended" a with
  |true =>
   rw[jv4 he]at q;refine jae (if_y (λQ q=>jc2 rfl Q (by rw[he];exact q)) ?_);by_cases hl:r.length=1
   ·obtain⟨b,rfl⟩:∃b,r=[b]:=List.length_eq_one_iff.mp hl;have q:Q (.d (.bool (jab "ended" a&&hndB ps b))) n:=q;rw[he]at q;exact jak (jd0 (a:=true) (b:=hndB ps b) (λQ q=>w2_i (jhq (ds:=[a,b]) rfl (c_i q))) (λ_ Q q=>lwi b [] rfl Q q) q)
   ·have e2:decide (((a::r).length:Int)=2)=false:=decide_eq_false (by rw[Ak];omega);have:endT ps (.tuple (a::r))=false:=by
     rcases r with _ | ⟨b,_ | ⟨c,r⟩⟩
     ·rfl
     ·exact absurd rfl hl
     ·rfl
    rw[this]at q;exact jak (jd0 (a:=false) (b:=false) (λQ q=>w2_i (jhq (ds:=a::r) rfl (c_i (show Q (.d (.bool (decide (((a::r).length:Int)=2)))) n by rw[e2];exact q)))) (λz=>nomatch z) q)
  |false =>
   rw[jy0 hn he]at q;refine jae (if_n (λQ q=>jc2 rfl Q (by rw[he];exact q)) ?_);dsimp only[jah];have c1:∀Q:Bool->Int->Prop,Q (!jab "at" a) n->cT (w2 (w2 (wVar 1) (wC (.int 0)) gIx) (wC (.str "at")) (gXX λd e=>some (!B1 d e))) [some (.w (.d (pgD ps))),some (.w (.d (.tuple (a::r)))),none] n Q:=λQ q=>jzi (by decide +kernel) ha (by omega) rfl Q q;cases hat:jab "at" a with
   |false =>
    have:atT ps (.tuple (a::r))=false:=jql (by
     cases e:ja2 "at" 4 (.tuple (a::r))with
     |false=>rfl
     |true =>
      obtain⟨_,_,_,_,e1,e2⟩:=jc1 e;cases e1;rw[hat]at e2;cases e2)
    rw[this]at q;exact jae (if_y (λQ q=>c_or (a:=true) (b:=true) (λQ q=>c1 Q (by rw[hat];exact q)) (λz=>nomatch z) q) (jak (c_i q)))
   |true =>
    by_cases hl:r.length=3
    ·obtain⟨h,b,p,rfl⟩:∃x y z,r=[x,y,z]:=by
      match r,hl with
      |[x,y,z],_=>exact⟨x,y,z,rfl⟩
     rw[jmf,hat,Bo]at q;have c2:∀Q:Bool->Int->Prop,Q false n->cT (w2 (wB gLen (jaa (wVar 1) aNil)) (wC (.int 4)) (gXX λd e=>some (!B1 d e))) [some (.w (.d (pgD ps))),some (.w (.d (.tuple [a,h,b,p]))),none] n Q:=λQ q=>ji2 (ds:=[a,h,b,p]) rfl Q q;cases hh:hndB ps h with
     |false =>
      rw[hh]at q;exact jae (if_y (λQ q=>c_or (a:=false) (b:=true) (λQ q=>c1 Q (by rw[hat];exact q)) (λ_ Q q=>c_or (a:=false) (b:=true) c2 (λ_ Q q=>ja5 (k:=false) (λQ q=>ct_b (k:=false) (λQ q=>lwi h [b,p] rfl Q (by rw[hh];exact q)) q) q) q) q) (jak (c_i q)))
     |true =>
      rw[hh,Bo]at q;refine jae (if_n (λQ q=>c_or (a:=false) (b:=false) (λQ q=>c1 Q (by rw[hat];exact q)) (λ_ Q q=>c_or (a:=false) (b:=false) c2 (λ_ Q q=>ja5 (k:=true) (λQ q=>ct_b (k:=true) (λQ q=>lwi h [b,p] rfl Q (by rw[hh];exact q)) q) q) q) q) ?_);dsimp only[jah];cases h with
      |int i =>
       have hi:(decide ((0:Int)<=i)&&decide (i<=(ps.length:Int) - 1))=true:=hh;rw[Av]at hi;have i0:=of_decide_eq_true hi.1;have i1:=of_decide_eq_true hi.2;obtain⟨m,rfl⟩:=Cm i0;have hm:m < ps.length:=by omega
       have q:Q (.d (.bool (match ps[m]? with | some P=>plcB P b p | none=>false))) n:=q;rw[Am hm]at q;have q:Q (.d (.bool (plcB ps[m] b p))) n:=q;have hP:(ps.map prD)[m]?=some (prD ps[m]):=by rw[Bb,Am hm];rfl
       generalize ps[m]=P at q hP;refine jae (jdk (x:=prD P) (λQ q=>w2_i (jac rfl (jc0 rfl (gN_i (i:=m) hP q)))) ?_);dsimp only[Aw];unfold plcB at q;refine jak (jd0 (a:=jbk 0 ((P.length:Int) - 1) b) (λQ q=>c3_i (w2_i (jac rfl (c_i (g2_i (c_i (w2_i (b1_i (jac rfl (jgm (c_i ⟨b,0,_,rfl,?_⟩)))))))))) ) (λhb Q q=>?_) q)
       ·rw[Ag];exact q
       ·cases b with
        |int j =>
         have hj:(decide ((0:Int)<=j)&&decide (j<=(P.length:Int) - 1))=true:=hb;rw[Av]at hj;have j0:=of_decide_eq_true hj.1;have j1:=of_decide_eq_true hj.2;obtain⟨m',rfl⟩:=Cm j0;have hm':m' < P.length:=by omega
         have q:Q (.d (.bool (jbk 0 (((P[m']?).map λbl=>bl.2.length).getD 0:Nat) p))) n:=q;rw[Am hm']at q;have hB:(P.map blD)[m']?=some (blD P[m']):=by rw[Bb,Am hm'];rfl
         refine c3_i (w2_i (jac rfl (c_i (gN_i (i:=3) rfl (c_i (b1_i ?_))))));refine w2_i (w2_i (jac rfl (w2_i (jac rfl (c_i (g2_i (gN_i (i:=m') hB (c_i (g1_i ?_)))))))));refine jgm ⟨p,0,_,rfl,?_⟩;rw[Ag];exact q
        |_=>cases hb
      |_=>cases hh
    ·have e4:decide (((a::r).length:Int)=4)=false:=decide_eq_false (by rw[Ak];omega);have:atT ps (.tuple (a::r))=false:=jql (by
      cases e:ja2 "at" 4 (.tuple (a::r))with
      |false=>rfl
      |true =>
       obtain⟨_,_,_,_,e1,_⟩:=jc1 e;cases e1;exact absurd rfl hl)
     rw[this]at q;exact jae (if_y (λQ q=>c_or (a:=false) (b:=true) (λQ q=>c1 Q (by rw[hat];exact q)) (λ_ Q q=>c_or (a:=true) (b:=true) (λQ q=>ji2 (ds:=a::r) rfl Q (by rw[e4];exact q)) (λz=>nomatch z) q) q) (jak (c_i q)))
theorem Th.pos {L k:Nat} {ds:List Aa} (h:Th L k (.tuple ds)):1<=k:=by cases h;omega
theorem Mn.oth {k:Nat} {d:Aa} (h:Mn k d):∀x∈othL d,∃j,Mn j x/\j+1<=k:=by
 cases h with
 |th hT hk =>
  unfold othL
  split
  ·rename_i a b;have hb:=hT.mem b (by simp);have k1:=hT.pos;intro x hx
   split at hx
   ·cases b with
    |tuple ds =>
     have:=hb.pos;exact⟨k - 1 - 1,.th (hb.mem x hx) (by omega),by omega⟩
    |_=>cases hx
   ·split at hx
    ·rw[Ax.mp hx];exact⟨k - 1,.th hb (by omega),by omega⟩
    ·cases hx
  ·exact λx hx=>nomatch hx
 |@no k d h =>
  intro x hx;have e:othL (.tuple [.str "not",d])=[d]:=by
   show(if (jab "all" (.str "not") || jab "some" (.str "not"))=true then jb7 d else if jab "not" (.str "not")=true then[d]else[])=[d];rw[show jab "all" (.str "not")=false by decide +kernel,show jab "some" (.str "not")=false by decide +kernel,show jab "not" (.str "not")=true by decide +kernel];rfl
  rw[e]at hx;rw[Ax.mp hx];exact⟨k,h,As _⟩
theorem Mn.head {k:Nat} {a:Aa} {r:List Aa} (h:Mn k (.tuple (a::r))):∃j,Th 60 j a/\j<=18:=by
 generalize e:C3 (a::r)=d at h;cases h with
 |th hT hk =>
  subst e;exact⟨k - 1,hT.mem a Ba,by omega⟩
 |no h =>
  cases e;exact⟨0,jfs (by decide +kernel),by decide⟩
theorem Mn.small {k:Nat} {a:Aa} {r:List Aa} (h:Mn k (.tuple (a::r))) (hn:jab "not" a=false\/r.length≠1):Th 60 k (.tuple (a::r))/\k<=18:=by
 generalize e:C3 (a::r)=d at h;cases h with
 |th hT hk=>exact⟨hT,hk⟩
 |no h =>
  cases e;rcases hn with h | h
  ·exact absurd h (by decide +kernel)
  ·exact absurd rfl h
def optL (l:List (Option Nat)):List Aa:=l.map optD
theorem jpk:∀l:List (Option Nat),inD .none (optL l)=(sumO l).isNone
 |[]=>rfl
 |none::r=>rfl
 |some a::r=>by
  have:=jpk r;unfold inD optL at this ⊢;rw[A3,C9,this];show(false || (sumO r).isNone)=((sumO r).map (a+·)).isNone;cases sumO r<;>rfl
theorem jr8 (l:List (Option Nat)):(optL l).all jhx=true:=by
 rw[Dj];intro d hd;obtain⟨o,_,rfl⟩:=Ca.mp hd;cases o<;>rfl
theorem joe:∀(l:List (Option Nat)) (s:Nat),sumO l=some s->∃ns,jmb (optL l)=some ns/\ns.sum=(s:Int)
 |[],s,h=>by cases h;exact⟨[],rfl,rfl⟩
 |none::r,s,h=>by cases h
 |some a::r,s,h=>by
  have h:(sumO r).map (a+·)=some s:=h;obtain⟨t,ht,rfl⟩:=Option.map_eq_some_iff.mp h;obtain⟨ns,e,hs⟩:=joe r t ht;refine⟨(a:Int)::ns,?_,?_⟩
  ·show(jmb (optL r)).map ((a:Int)::·)=_;rw[e];rfl
  ·rw[List.sum_cons,hs];omega
def twoB (a:Aa):Bool:=jab "all" a || jab "some" a
theorem jvm (a:Aa):(([.str "all",.str "some"]:List Aa).any λy=>B1 y a)=twoB a:=by
 simp only[C9,List.any_nil,jp6,B6];rfl
theorem jhu:∀d ws n Q,jhc d ws n Q->ws.length=2:=λd ws n Q h=>by
 cases d with
 |zero=>exact h.elim
 |succ t=>obtain⟨_,_,_,rfl,_⟩:=h;rfl
theorem jgz:∀d ws n Q,jhc (d+1) ws n Q->jfk (jhc d) (jal ["_law_programs_here","_law_thing_here","_law_some","_law_counts"] ws) n {nx:=λ_ n=>Q (.d .none) n,rt:=Q}:=λt ws n Q h=>by
 obtain⟨ps,d,k,rfl,hM,hk,q⟩:=h;show jfk (jhc t) [some (.w (.d (pgD ps))),some (.w (.d d)),none,none] n _;have no:(∀r,d≠.tuple r)\/d=.tuple []->Q (.d .none) n:=λh=>by
  have:cntO (sgT ps) (t+1) d=none:=by
   rw[cntO];cases d with
   |tuple r =>
    rcases h with h | h
    ·exact absurd rfl (h r)
    ·cases h;rfl
   |_=>rfl
  rw[this]at q;exact q
 -- the rest,where it is made of others
 have rest:jbl d=true->∀os,othL d=os->sSeq (sSet 3 (wOf (ja0 [none,some 0] (jbc (wVar 2)) (jaf 0) cYes (jad (jhc t) (jaa (wVar 1) (jaa (wVar 0) aNil)))))) (sRet (wIf (cT (w2 (wC .none) (wVar 3) (gIn false))) (wC .none) (w2 (wC (.int (1))) (wB gSum (jaa (wVar 3) aNil)) (gI0 λi j=>.int (i+j))))) [some (.w (.d (pgD ps))),some (.w (.d d)),some (.w (.d (.tuple os))),none] n {nx:=λ_ n=>Q (.d .none) n,rt:=Q}:=λhm os eo=>by
  rw[cntO,if_pos hm,eo]at q;have ho:∀x∈os,∃j,Mn j x/\j+1<=k:=eo▸hM.oth;have hc:∀Q:DQ,Q (.d (.list (optL (os.map (cntO (sgT ps) t))))) n->wOf (ja0 [none,some 0] (jbc (wVar 2)) (jaf 0) cYes (jad (jhc t) (jaa (wVar 1) (jaa (wVar 0) aNil)))) [some (.w (.d (pgD ps))),some (.w (.d d)),some (.w (.d (.tuple os))),none] n Q:=λQ q=>by
   refine of_i (jgr (ds:=os) (λQ q=>jac rfl q) ?_);show jbu _ _ _ _ os [] [none,some (.w (.d (pgD ps)))] n;have:=jny (w:=jad (jhc t) (jaa (wVar 1) (jaa (wVar 0) aNil))) (Q:=λds n=>Q (.d (.list ds)) n) (rest:=[some (.w (.d (pgD ps)))]) id (λx=>optD (cntO (sgT ps) t x)) os [] none n (λx hx n Q' q=>c2_i (jac rfl (jac rfl (by
    obtain⟨j,hj,hjk⟩:=ho x hx;cases t with
    |zero=>omega
    |succ t=>exact⟨ps,x,j,rfl,hj,by omega,q⟩)))) (by
    rw[Cj];have e:(os.map λx=>optD (cntO (sgT ps) t x))=optL (os.map (cntO (sgT ps) t)):=by unfold optL;rw[List.map_map];rfl
    rw[e];exact q)
   rw[List.map_id]at this;exact this
  refine jae (jdk hc ?_);dsimp only[Aw];generalize os.map (cntO (sgT ps) t)=l at q;refine jak (jqw (b:=inD .none (optL l)) (λQ q=>ct_b (k:=inD .none (optL l)) (λQ q=>w2_i (c_i (jac rfl ⟨rfl,jr8 l,q⟩))) q) ?_);rw[jpk];cases hs:sumO l with
  |none =>
   rw[hs]at q;rw[if_pos (show(none:Option Nat).isNone=true from rfl)];exact c_i q
  |some s =>
   rw[hs]at q;rw[if_neg (show ¬(some s).isNone=true from Af)];obtain⟨ns,e1,e2⟩:=joe l s hs;refine w2_i (c_i (b1_i (jac rfl ⟨ns,e1,addI ?_⟩)));rw[e2];have q:Q (.d (.int ((1+s:Nat):Int))) n:=q;rw[show(1:Int)+(s:Int)=((1+s:Nat):Int) by omega];exact q
 cases d with
 |tuple ds =>
  cases ds with
  |nil=>exact jae (if_y (λQ q=>c_or (a:=false) (b:=true) (nt_i rfl) (λ_ Q q=>jgq (ds:=[]) rfl Q q) q) (jak (c_i (no (.inr rfl)))))
  |cons a r =>
   have z0:decide (((a::r).length:Int)=0)=false:=decide_eq_false (by rw[Ak];omega);refine jae (if_n (λQ q=>c_or (a:=false) (b:=false) (nt_i rfl) (λ_ Q q=>jgq (ds:=a::r) rfl Q (by rw[z0];exact q)) q) ?_);dsimp only[jah];obtain⟨ja,ha,hja⟩:=hM.head
   -- a thing that is made of no others
   have single:jbl (.tuple (a::r))=false->(jab "not" a=false\/r.length≠1)->sRet (wIf (cT (jad jep (jaa (wVar 0) (jaa (wVar 1) aNil)))) (wC (.int (1))) (wC .none)) [some (.w (.d (pgD ps))),some (.w (.d (.tuple (a::r)))),none,none] n {nx:=λδ n1=>sSeq (sSet 3 (wOf (ja0 [none,some 0] (jbc (wVar 2)) (jaf 0) cYes (jad (jhc t) (jaa (wVar 1) (jaa (wVar 0) aNil)))))) (sRet (wIf (cT (w2 (wC .none) (wVar 3) (gIn false))) (wC .none) (w2 (wC (.int (1))) (wB gSum (jaa (wVar 3) aNil)) (gI0 λi j=>.int (i+j))))) δ n1 {nx:=λ_ n=>Q (.d .none) n,rt:=Q},rt:=Q}:=λhm hn=>by
    obtain⟨hT,hk18⟩:=hM.small hn;rw[cntO,if_neg (by rw[hm];exact Af)]at q;refine jak (jqw (b:=sgT ps (.tuple (a::r))) (λQ q=>ct_b (λQ q=>c2_i (jac rfl (jac rfl ⟨ps,a,r,k,rfl,hT,hk18,q⟩))) q) ?_);cases hs:sgT ps (.tuple (a::r))with
    |true=>rw[hs]at q;rw[if_pos rfl];exact c_i q
    |false=>rw[hs]at q;rw[if_neg Af];exact c_i q
   have hin:∀(b:Bool),twoB a=b->∀Q:Bool->Int->Prop,Q b n->cT (w2 (w2 (wVar 1) (wC (.int (0))) gIx) (wTup (jaa (wC (.str "all")) (jaa (wC (.str "some")) aNil))) (gXX inX)) [some (.w (.d (pgD ps))),some (.w (.d (.tuple (a::r)))),none,none] n Q:=λb e Q q =>
    ct_b (k:=b) (λQ q=>w2_i (jma rfl (jbq (c_i (c_i (Ad (show 2<=1000 by decide) (jxt ha hja (by decide +kernel) (by decide +kernel) ((jvm a).trans e) q))))))) q
   by_cases hl:r.length=1
   ·obtain⟨b,rfl⟩:∃b,r=[b]:=List.length_eq_one_iff.mp hl;have e2:∀Q:Bool->Int->Prop,Q true n->cT (w2 (wB gLen (jaa (wVar 1) aNil)) (wC (.int 2)) gEq) [some (.w (.d (pgD ps))),some (.w (.d (.tuple [a,b]))),none,none] n Q:=λQ q=>jgq (ds:=[a,b]) rfl Q q;cases hn:jab "not" a with
    |true =>
     have hm:jbl (.tuple [a,b])=true:=by
      show(((jab "all" a || jab "some" a)&&jbj b) || jab "not" a)=true;rw[hn,Bool.or_true]
     have eo:othL (.tuple [a,b])=[b]:=by
      show(if (jab "all" a || jab "some" a)=true then jb7 b else if jab "not" a=true then[b]else[])=[b];rw[jap hn (show("not":Str)≠"all" by decide +kernel),jap hn (show("not":Str)≠"some" by decide +kernel),hn];rfl
     refine jae (if_y (λQ q=>jce (a:=true) (b:=true) (λQ q=>jc2 rfl Q (by rw[hn];exact q)) (λ_ Q q=>e2 Q q) q) ?_);refine jdk (x:=.tuple [b]) (λQ q=>?_) (rest hm _ eo);unfold jav jba jbb;exact jac rfl (c_i q)
    |false =>
     refine jae (if_n (λQ q=>jce (a:=false) (b:=true) (λQ q=>jc2 rfl Q (by rw[hn];exact q)) (λz=>nomatch z) q) ?_);have em:jbl (.tuple [a,b])=(twoB a&&jbj b):=by
      show(((jab "all" a || jab "some" a)&&jbj b) || jab "not" a)=_;rw[hn,B6];rfl
     cases ht:twoB a with
     |false=>exact if_n (λQ q=>jce (a:=false) (b:=true) (hin false ht) (λz=>nomatch z) q) (single (by rw[em,ht];rfl) (.inl hn))
     |true =>
      cases hb:jbj b with
      |false=>exact if_n (λQ q=>jce (a:=true) (b:=false) (hin true ht) (λ_ Q q=>jce (a:=true) (b:=false) e2 (λ_ Q q=>isiX rfl Q (by rw[hb];exact q)) q) q) (single (by rw[em,hb,Bool.and_false]) (.inl hn))
      |true =>
       obtain⟨os,rfl⟩:∃ds,b=.tuple ds:=by
        cases b with
        |tuple ds=>exact⟨ds,rfl⟩
        |_=>cases hb
       have eo:othL (.tuple [a,.tuple os])=os:=by
        show(if twoB a=true then os else if jab "not" a=true then[C3 os]else[])=os;rw[if_pos ht]
       refine if_y (λQ q=>jce (a:=true) (b:=true) (hin true ht) (λ_ Q q=>jce (a:=true) (b:=true) e2 (λ_ Q q=>isiX (b:=.tuple os) rfl Q q) q) q) ?_;exact jdk (x:=.tuple os) (λQ q=>jc0 rfl q) (rest (by rw[em,ht];rfl) _ eo)
   ·have e2:decide (((a::r).length:Int)=2)=false:=decide_eq_false (by rw[Ak];omega);have hm:jbl (.tuple (a::r))=false:=by
     rcases r with _ | ⟨b,_ | ⟨c,r⟩⟩
     ·rfl
     ·exact absurd rfl hl
     ·rfl
    refine jae (if_n (λQ q=>jce (a:=jab "not" a) (b:=false) (λQ q=>jc2 rfl Q q) (λ_ Q q=>jgq (ds:=a::r) rfl Q (by rw[e2];exact q)) (by rw[Bool.and_false];exact q)) ?_);exact if_n (λQ q=>jce (a:=twoB a) (b:=false) (hin _ rfl) (λ_ Q q=>jce (a:=false) (b:=true) (λQ q=>jgq (ds:=a::r) rfl Q (by rw[e2];exact q)) (λz=>nomatch z) q) (by rw[Bool.and_false];exact q)) (single hm (.inr hl))
 |_=>exact jae (if_y (λQ q=>c_or (a:=true) (b:=true) (λQ q=>ja5 (k:=false) (λQ q=>ct_b (k:=false) (λQ q=>q) q) q) (λz=>nomatch z) q) (jak (c_i (no (.inl (λ_ z=>nomatch z))))))
theorem jhr:∀ws n Q,jfl ws n Q->ws.length=1:=λws n Q h=>by obtain⟨rfl,_⟩:=h;rfl
abbrev Ze:List Str:=["_law_tape_here"]
theorem jgw:∀ws n Q,jfl ws n Q->jfh (jal Ze ws) n {nx:=λ_ n=>Q (.d .none) n,rt:=Q}:=λws n Q h=>by
 obtain⟨rfl,hn,k⟩:=h;show jfh [some (.w .tp)] n _;refine jak (w2_i (of_i (Ad (by decide) ?_)));dsimp only;refine jb0 (m:=8) rfl (by omega) (by decide) (by decide) λr h0 h1=>jdl (ds:=[.str "a",.int 0,.str "a",.int 1,.str "ab",.str "go",.int 99,.int 0]) h0 h1 λd hd=>k d ?_;simp only[Aq,A1,or_false]at hd;rcases hd with rfl | rfl | rfl | rfl | rfl | rfl | rfl | rfl<;>simp[jqx]
theorem jjb:∀ws n Q,jim ws n Q->ws.length=1:=λws n Q h=>by obtain⟨rfl,_⟩:=h;rfl
theorem jh4:∀ws n Q,jim ws n Q->jg7 (jal Ze ws) n {nx:=λ_ n=>Q (.d .none) n,rt:=Q}:=λws n Q h=>by
 obtain⟨rfl,hn,k⟩:=h;show jg7 [some (.w .tp)] n _;refine jak (w2_i (of_i (Ad (by decide) ?_)));dsimp only;refine jb0 (m:=7) rfl (by omega) (by decide) (by decide) λr h0 h1=>jdl (ds:=[.int 1,.int 2,.int 2,.int 2,.int 1,.int 3,.int 4]) h0 h1 λd hd=>?_;simp only[Aq,A1,or_false]at hd;rcases hd with rfl | rfl | rfl | rfl | rfl | rfl | rfl
 ·exact k 1 (by decide) (by decide)
 ·exact k 2 (by decide) (by decide)
 ·exact k 2 (by decide) (by decide)
 ·exact k 2 (by decide) (by decide)
 ·exact k 1 (by decide) (by decide)
 ·exact k 3 (by decide) (by decide)
 ·exact k 4 (by decide) (by decide)
theorem jwf {δ:Sl} {n:Int} {K:DEnds} {W:DST} {g:DTG} (e:δ[0]?=some (some (.w .tp))) (hn:n < 2 ^ 39) (k:∀m:Nat,1<=m->m<=4->forD g W K (rngD 0 m) δ (n+1)):sFor (jax (jad jim (jaa (wVar 0) aNil))) g W δ n K:=by
 unfold sFor jax;refine c1_i (jac e (Ad rfl ⟨hn,λm h1 h4=>?_⟩));refine Ad ⟨by omega,by omega⟩ ?_;rw[Ck];exact k m h1 h4
theorem jrr {fs:List Fe} (h:okFs fs):∀k∈bndE fs,okK k:=λk hk=>by
 obtain⟨f,hf,e⟩:=List.mem_filterMap.mp hk;have:=h.2 f hf;cases f<;>cases e;exact this
theorem jut {fs:List Fe} (h:okFs fs):(bndE fs).length<=4:=Bk (List.length_filterMap_le _ _) h.1
theorem j0n {a:Ac} (h:okFs a.fs):(∀k∈a.bs,okK k)/\a.bs.length<=4:=by
 cases a with
 |take fs=>exact⟨jrr h,jut h⟩
 |read fs=>exact⟨jrr h,jut h⟩
 |look fs b=>exact⟨jrr h,jut h⟩
 |lay fs b=>exact⟨λk hk=>by simp[Ac.bs]at hk,by simp[Ac.bs]⟩
 |same f g b=>exact⟨λk hk=>by simp[Ac.bs]at hk,by simp[Ac.bs]⟩
 |go b=>exact⟨λk hk=>by simp[Ac.bs]at hk,by simp[Ac.bs]⟩
theorem jn4 {v:Aa} (h:v∈jqx):isV v=true:=by
 simp only[jqx,Aq,A1,or_false]at h;rcases h with rfl | rfl | rfl | rfl | rfl | rfl<;>decide +kernel
theorem j0j {v:Wv} {a b:List Aa} {n:Int} {Q:DQ} (hv:lsOf v=some a) (hl:a.length+b.length<=An) (q:Q (.d (.list (a++b))) n):gCat v (.ln b) n Q:=by
 unfold gCat;rw[hv];exact⟨hl,q⟩
theorem j0p {δ:Sl} {n:Int} {Q:DQ} (e0:δ[0]?=some (some (.w .tp))) (h:n < 2 ^ 39) (k:∀v∈jqn,Q (.d v) (n+1)):w2 (wTp3 0) (jad jao (jaa (wVar 0) (jaa (wB jez (jaa (wTp3 0) aNil)) aNil))) gIxL δ n Q:=by
 have ht:∀(n:Int) (Q:DQ),Q (.ln jqn) n->wTp3 0 δ n Q:=λn Q q=>by unfold wTp3;rw[e0];exact q
 exact w2_i (ht _ _ (jc4 (m:=7) e0 (λQ q=>b1_i (ht _ _ q)) (by omega) (by decide) (by decide) λr h0 h1=>jl9 h0 h1 k))
theorem jsq (f:Fe) (r:List Fe):bndE (f::r)=f.bd.toList++bndE r:=by cases f<;>rfl
theorem jsp (fs:List Fe) (f:Fe):bndE (fs++[f])=bndE fs++f.bd.toList:=by
 unfold bndE;rw[List.filterMap_append];cases f<;>rfl
theorem jl2:∀{fs:List Fe} {ks:List Str} {f:Fe},rF ks fs->(∀k,f.us=some k->k∈ks++bndE fs)->rF ks (fs++[f])
 |[],ks,f,_,h=>⟨λk hk=>by simpa[bndE]using h k hk,trivial⟩
 |g::r,ks,f,h1,h2=>⟨h1.1,jl2 h1.2 λk hk=>by
  have:=h2 k hk;rw[jsq,<-Bw]at this;exact this⟩
theorem ji4 {f:Aa} {ks:List Str} (h:f∈ks.map .str):∃s∈ks,f=.str s:=by
 obtain⟨s,hs,rfl⟩:=Ca.mp h;exact⟨s,hs,rfl⟩
def PatI (kv:Wv) (ks:List Str) (n0:Int) (ds:List Aa) (δ:Sl) (n:Int):Prop:=∃(fs:List Fe) (x y z u:Option SV),δ=[some (.w .tp),some (.w kv),some (.own (fs.map Fe.d)),some (.own ((bndE fs).map .str)),x,y,z,u]/\1<=fs.length+ds.length/\fs.length+ds.length<=4/\(∀f∈fs,f.ok/\f.pt=true)/\rF ks fs/\n+2*(ds.length:Int)<=n0+9
theorem jf2:∀ws n Q,jin ws n Q->ws.length=2:=λws n Q h=>by obtain⟨_,_,rfl,_⟩:=h;rfl
theorem je4:∀ws n Q,jin ws n Q->jdn (jal ["_law_tape_here","_law_known","_law_fields","_law_bound","_law_k","_law_way","_law_some","_law_name"] ws) n {nx:=λ_ n=>Q (.d .none) n,rt:=Q}:=λws n0 Q h=>by
 obtain⟨ks,kv,rfl,hkv,hks,hok,hn0,k⟩:=h;show jdn [some (.w .tp),some (.w kv),none,none,none,none,none,none] n0 _;refine jae (jgf ?_);dsimp only[Aw];refine jae (jgf ?_);dsimp only[Aw];refine jae (jwf rfl (by omega) λm h1 h4=>?_);refine jbw (PatI kv ks n0) (λδ n I=>?_) (λd r δ n N I kN=>?_) _ _ _ ⟨[],none,none,none,none,rfl,by rw[ja9];simpa using h1,by rw[ja9];simpa using h4,λf hf=>(by simp at hf),trivial,by rw[ja9];omega⟩
 ·obtain⟨fs,x,y,z,u,rfl,hf1,hf,hfo,hr,hn⟩:=I;dsimp only;refine jmd rfl ?_;dsimp only[Aw];refine jmd rfl ?_;dsimp only[Aw];exact jak (jbq (b1_i (jac rfl (jj9 (jac rfl (Ad (show 2<=1000 by decide) (k fs n (by simpa using hf1) ⟨by simpa using hf,λf z=>(hfo f z).1⟩ (λf z=>(hfo f z).2) hr (by simpa using hn))))))))
 ·obtain⟨fs,x,y,z,u,rfl,hf1,hf,hfo,hr,hn⟩:=I;rw[Ak]at hf1 hf hn;dsimp only[jaf,Aw];have hfl:(fs.map Fe.d).length < 1000000:=by rw[Ag];omega
  have hbl:(bndE fs).length<=4:=Bk (List.length_filterMap_le _ _) (by omega);have hbo:∀s∈ks++bndE fs,okK s:=λs hs=>(A6.mp hs).elim (hok s) λz=>jrr (fs:=fs) ⟨by omega,λf z=>(hfo f z).1⟩ s z;have nxt:∀(f:Fe) (n':Int) (y z u:Option SV) (B:List Aa),f.ok/\f.pt=true->(∀k,f.us=some k->k∈ks++bndE fs)->n'<=n+2->B=(bndE fs).map .str++f.bd.toList.map .str->N [some (.w .tp),some (.w kv),some (.own (fs.map Fe.d++[f.d])),some (.own B),some (.w (.d d)),y,z,u] n':=λf n' y z u B fo fu hn' hB =>
   kN _ _ ⟨fs++[f],some (.w (.d d)),y,z,u,by rw[hB,Bu,jsp,Bu];rfl,by rw[Al,Az];omega,by rw[Al,Az];omega,λg hg=>(A6.mp hg).elim (hfo g) λz=>by rw[Ax]at z;subst z;exact fo,jl2 hr fu,by omega⟩
  have nxtN:∀(f:Fe) (n':Int) (y z u:Option SV),f.bd=none->f.ok/\f.pt=true->(∀k,f.us=some k->k∈ks++bndE fs)->n'<=n+2->N [some (.w .tp),some (.w kv),some (.own (fs.map Fe.d++[f.d])),some (.own ((bndE fs).map .str)),some (.w (.d d)),y,z,u] n':=λf n' y z u fb fo fu hn' =>
   nxt f n' y z u _ fo fu hn' (by rw[fb];exact(Cg _).symm)
  refine jae (jgd (m:=9) rfl (by omega) (by decide) (by decide) λw w0 w1=>?_);dsimp only[Aw];refine jae (jdk (x:=.list (ks.map .str++(bndE fs).map .str)) (λQ q=>w2_i (jac rfl (jgj rfl (j0j hkv (jjj (by rw[Ag];omega) (by rw[Ag];omega)) q)))) ?_);dsimp only[Aw];refine iflt rfl (λhw=>?_) (λhw=>?_)
  ·refine jmh rfl (jbq (c_i (c1_i (jac rfl (Ad rfl ⟨by omega,λv hv=>?_⟩)))));exact Ad (show 2<=1000 by decide) (Ad hfl (nxtN (.isv v) _ _ _ _ rfl ⟨jn4 hv,rfl⟩ (λk hk=>by cases hk) (by omega)))
  ·refine iflt rfl (λhw6=>?_) (λhw6=>?_)
   ·refine jmh rfl (w2_i (of_i (Ad (by decide) (Ad (by decide) (Ad (by decide) (Ad (by decide) ?_))))));dsimp only;refine w2_i (jac rfl (c_i ?_));dsimp only[gI0];refine jbv (ds:=[.tuple [.str "any"],.tuple [.str "word"],.tuple [.str "number"]]) (r:=w - 3) (by omega) (show w - 3 < 3 by omega) λf hf'=>?_;simp only[Aq,A1,or_false]at hf';rcases hf' with rfl | rfl | rfl
    ·exact Ad hfl (nxtN .any _ _ _ _ rfl ⟨trivial,rfl⟩ (λk hk=>by cases hk) (by omega))
    ·exact Ad hfl (nxtN .word _ _ _ _ rfl ⟨trivial,rfl⟩ (λk hk=>by cases hk) (by omega))
    ·exact Ad hfl (nxtN .num _ _ _ _ rfl ⟨trivial,rfl⟩ (λk hk=>by cases hk) (by omega))
   ·have bind:∀(K:DEnds) (L:List Aa),(∀δ n,N δ n->K.nx δ n)->sSeq (sSet 7 (w2 (wOf (fLst (jaa (wC (.str "n")) (jaa (wC (.str "nm")) (jaa (wC (.str "go")) (jaa (wC (.str "m")) aNil)))))) (jad jao (jaa (wVar 0) (jaa (wC (.int (4))) aNil))) gIxL)) (sSeq (sApp 3 (wVar 7)) (sApp 2 (wTup (jaa (wC (.str "bind")) (jaa (wVar 7) aNil)))))
      [some (.w .tp),some (.w kv),some (.own (fs.map Fe.d)),some (.own ((bndE fs).map .str)),some (.w (.d d)),some (.w (.d (.int w))),some (.w (.d (.list L))),u] (n+1) K:=λK L hK=>by
     refine jae (show w2 _ _ _ _ _ _ from w2_i (of_i (Ad (by decide) ?_)));dsimp only;refine jb0 (m:=4) rfl (by omega) (by decide) (by decide) λr r0 r1=>jbv (ds:=[.str "n",.str "nm",.str "go",.str "m"]) r0 r1 λf hf'=>?_;have:∃s:Str,f=.str s/\okK s:=by
      simp only[Aq,A1,or_false]at hf';rcases hf' with rfl | rfl | rfl | rfl<;>exact⟨_,rfl,by decide +kernel,by decide +kernel⟩
     obtain⟨s,rfl,so⟩:=this;dsimp only[Aw];refine jae (jsr rfl (λQ q=>jac rfl q) (by rw[Ag];omega) ?_);dsimp only[Aw];refine jsr (x:=.tuple [.str "bind",.str s]) rfl (λQ q=>jbq (c_i (jac rfl (Ad (show 2<=1000 by decide) q)))) hfl (hK _ _ ?_);exact nxt (.bind s) (n+1+1) _ _ _ _ ⟨so,rfl⟩ (λk hk=>by cases hk) (by omega) rfl
    by_cases hw8:w < 8
    ·refine if_y (λQ q=>jjm (λQ q=>ct_b (k:=true) (λQ q=>w2_i (jac rfl (c_i ?_))) q) q) (bind _ _ λ_ _ z=>z);show Q (.d (.bool (decide (w < 8)))) _;rw[decide_eq_true hw8];exact q
    ·have hmem:∀f∈ks.map Ci++(bndE fs).map Ci,∃s∈ks++bndE fs,f=.str s:=λf hf=>ji4 (by rw[Bu];exact hf);have hlen:(ks.map Ci++(bndE fs).map Ci).length<=2000:=by rw[Al,Ag,Ag];omega
     generalize(ks.map Ci++(bndE fs).map Ci)=L at hmem hlen;cases L with
     |nil =>
      refine if_y (λQ q=>jcx (λQ q=>ct_b (k:=false) (λQ q=>w2_i (jac rfl (c_i ?_))) q) (ct_b (k:=true) (λQ q=>w2_i (jac rfl (of_i (Ad (Bm _) q)))) q)) (bind _ _ λ_ _ z=>z);show Q (.d (.bool (decide (w < 8)))) _;rw[decide_eq_false hw8];exact q
     |cons a l =>
      refine if_n (λQ q=>jcx (λQ q=>ct_b (k:=false) (λQ q=>w2_i (jac rfl (c_i ?_))) q) (ct_b (k:=false) (λQ q=>w2_i (jac rfl (of_i (Ad (Bm _) q)))) q)) ?_
      ·show Q (.d (.bool (decide (w < 8)))) _;rw[decide_eq_false hw8];exact q
      ·refine jmh rfl (jbq (c_i (w2_i (jac rfl ?_))));refine jc4 (m:=(a::l).length) rfl (λQ q=>b1_i (jac rfl q)) (by omega) (by rw[Ak];omega) (by omega) λr r0 r1=>jbv r0 r1 λf hf'=>?_;obtain⟨s,hs,rfl⟩:=hmem f hf';exact Ad (show 2<=1000 by decide) (Ad hfl (nxtN (.as s) _ _ _ _ rfl ⟨hbo s hs,rfl⟩ (λk hk=>by cases hk;exact hs) (by omega)))
def TemI (ks:List Str) (n0:Int) (ds:List Aa) (δ:Sl) (n:Int):Prop:=∃(fs:List Fe) (x y:Option SV),δ=[some (.w .tp),some (.w (.ln (ks.map .str))),some (.own (fs.map Fe.d)),x,y]/\fs.length+ds.length<=4/\(∀f∈fs,f.ok)/\rF ks fs/\n+2*(ds.length:Int)<=n0+9
theorem jeu:∀ws n Q,jm7 ws n Q->ws.length=2:=λws n Q h=>by obtain⟨_,rfl,_⟩:=h;rfl
theorem jej:∀ws n Q,jm7 ws n Q->jc8 (jal ["_law_tape_here","_law_known","_law_fields","_law_k","_law_way"] ws) n {nx:=λ_ n=>Q (.d .none) n,rt:=Q}:=λws n0 Q h=>by
 obtain⟨ks,rfl,hks,hok,hn0,k⟩:=h;show jc8 [some (.w .tp),some (.w (.ln (ks.map .str))),none,none,none] n0 _;refine jae (jgf ?_);dsimp only[Aw];refine jae (jwf rfl (by omega) λm h1 h4=>?_);refine jbw (TemI ks n0) (λδ n I=>?_) (λd r δ n N I kN=>?_) _ _ _ ⟨[],none,none,rfl,by rw[ja9];simpa using h4,λf hf=>(by simp at hf),trivial,by rw[ja9];omega⟩
 ·obtain⟨fs,x,y,rfl,hf,hfo,hr,hn⟩:=I;dsimp only;refine jmd rfl ?_;dsimp only[Aw];exact jak (b1_i (jac rfl (jj9 (k fs n ⟨by simpa using hf,hfo⟩ hr (by simpa using hn)))))
 ·obtain⟨fs,x,y,rfl,hf,hfo,hr,hn⟩:=I;rw[Ak]at hf hn;dsimp only[jaf,Aw];have hfl:(fs.map Fe.d).length < 1000000:=by rw[Ag];omega
  have nxt:∀(f:Fe) (n':Int) (y:Option SV),f.ok->(∀k,f.us=some k->k∈ks)->n'<=n+2->N [some (.w .tp),some (.w (.ln (ks.map .str))),some (.own (fs.map Fe.d++[f.d])),some (.w (.d d)),y] n':=λf n' y fo fu hn' =>
   kN _ _ ⟨fs++[f],some (.w (.d d)),y,by rw[Bu];rfl,by rw[Al,Az];omega,λg hg=>(A6.mp hg).elim (hfo g) λz=>by rw[Ax]at z;subst z;exact fo,jl2 hr λk hk=>Dh _ (fu k hk),by omega⟩
  refine jae (jgd (m:=6) rfl (by omega) (by decide) (by decide) λw w0 w1=>?_);dsimp only[Aw];have isv:∀K:DEnds,(∀δ n,N δ n->K.nx δ n)->sApp 2 (wTup (jaa (wC (.str "is")) (jaa (jad jfl (jaa (wVar 0) aNil)) aNil))) [some (.w .tp),some (.w (.ln (ks.map .str))),some (.own (fs.map Fe.d)),some (.w (.d d)),some (.w (.d (.int w)))] (n+1) K:=λK hK =>
   jmh rfl (jbq (c_i (c1_i (jac rfl (Ad rfl ⟨by omega,λv hv=>Ad (show 2<=1000 by decide) (Ad hfl (hK _ _ (nxt (.isv v) _ _ (jn4 hv) (λk hk=>by cases hk) (by omega))))⟩)))))
  by_cases hw3:w < 3
  ·refine if_y (λQ q=>jjm (λQ q=>ct_b (k:=true) (λQ q=>w2_i (jac rfl (c_i ?_))) q) q) (isv _ λ_ _ z=>z);show Q (.d (.bool (decide (w < 3)))) _;rw[decide_eq_true hw3];exact q
  ·have ct3:∀Q:DQ,Q (.d (.bool false)) (n+1)->w2 (wVar 4) (wC (.int 3)) gLt [some (.w .tp),some (.w (.ln (ks.map .str))),some (.own (fs.map Fe.d)),some (.w (.d d)),some (.w (.d (.int w)))] (n+1) Q:=λQ q=>w2_i (jac rfl (c_i (by
    show Q (.d (.bool (decide (w < 3)))) _;rw[decide_eq_false hw3];exact q)))
   cases ks with
   |nil=>exact if_y (λQ q=>jcx (λQ q=>ct_b (k:=false) ct3 q) (ct_b (k:=true) (λQ q=>w2_i (jac rfl (jd9 (eqLn q)))) q)) (isv _ λ_ _ z=>z)
   |cons a l =>
    refine if_n (λQ q=>jcx (λQ q=>ct_b (k:=false) ct3 q) (ct_b (k:=false) (λQ q=>w2_i (jac rfl (jd9 (eqLn q)))) q)) ?_;refine jmh rfl (jbq (w2_i (of_i (Ad (by decide) ?_))));dsimp only;refine w2_i (jac rfl (c_i ?_));dsimp only[gI0];refine jbv (ds:=[.str "as",.str "as",.str "next"]) (r:=w - 3) (by omega) (show w - 3 < 3 by omega) λf hf'=>?_;refine w2_i (jac rfl ?_);have hl:((a::l).map Ci).length<=1000:=by rw[Ag];exact hks
    refine jc4 (m:=((a::l).map Ci).length) rfl (λQ q=>b1_i (jac rfl q)) (by omega) (by rw[Ag,Ak];omega) (by omega) λr r0 r1=>jl9 r0 r1 λf' hf''=>?_;obtain⟨s,hs,rfl⟩:=ji4 hf'';simp only[Aq,A1,or_false]at hf';rcases hf' with rfl | rfl | rfl
    ·exact Ad (show 2<=1000 by decide) (Ad hfl (nxt (.as s) _ _ (hok s hs) (λk hk=>by cases hk;exact hs) (by omega)))
    ·exact Ad (show 2<=1000 by decide) (Ad hfl (nxt (.as s) _ _ (hok s hs) (λk hk=>by cases hk;exact hs) (by omega)))
    ·exact Ad (show 2<=1000 by decide) (Ad hfl (nxt (.nx s) _ _ (hok s hs) (λk hk=>by cases hk;exact hs) (by omega)))
theorem jja:∀ws n Q,jha ws n Q->ws.length=2:=λws n Q h=>by obtain⟨_,rfl,_⟩:=h;rfl
abbrev Zf:List Str:=["_law_tape_here","_law_known"]
theorem jh3:∀ws n Q,jha ws n Q->jg6 (jal Zf ws) n {nx:=λ_ n=>Q (.d .none) n,rt:=Q}:=λws n Q h=>by
 obtain⟨ks,rfl,hks,hok,hn0,k⟩:=h;show jg6 [some (.w .tp),some (.w (.ln (ks.map .str)))] n _;have isv:∀n',n'<=n+1->sRet (wTup (jaa (wC (.str "is")) (jaa (jad jfl (jaa (wVar 0) aNil)) aNil))) [some (.w .tp),some (.w (.ln (ks.map .str)))] n' {nx:=λ_ n=>Q (.d .none) n,rt:=Q}:=λn' hn' =>
  jak (jbq (c_i (c1_i (jac rfl (Ad rfl ⟨by omega,λv hv=>Ad (show 2<=1000 by decide) (k (.isv v) _ (jn4 hv) rfl (λk hk=>by cases hk) (by omega))⟩)))))
 cases ks with
 |nil=>exact jae (if_y (λQ q=>jjm (λQ q=>ct_b (k:=true) (λQ q=>w2_i (jac rfl (jd9 (eqLn q)))) q) q) (isv n (by omega)))
 |cons a l =>
  refine jae (if_i (jcx (λQ q=>ct_b (k:=false) (λQ q=>w2_i (jac rfl (jd9 (eqLn q)))) q) ?_));refine w2_i (jb0 (m:=2) rfl (by omega) (by decide) (by decide) λr r0 r1=>c_i (eqLi ?_));show if decide (r=0)=true then _ else _
  by_cases h:r=0
  ·rw[if_pos (decide_eq_true h)];exact isv (n+1) (by omega)
  ·rw[if_neg (by simpa using h)];dsimp only[jah];refine jak (jbq (c_i (w2_i (jac rfl ?_))));have hl:((a::l).map Ci).length<=1000:=by rw[Ag];exact hks
   refine jc4 (m:=((a::l).map Ci).length) rfl (λQ q=>b1_i (jac rfl q)) (by omega) (by rw[Ag,Ak];omega) (by omega) λr r0 r1=>jl9 r0 r1 λf' hf''=>?_;obtain⟨s,hs,rfl⟩:=ji4 hf'';exact Ad (show 2<=1000 by decide) (k (.as s) _ (hok s hs) rfl (λk hk=>by cases hk;exact hs) (by omega))
theorem jk2:∀ws n Q,jio ws n Q->ws.length=3:=λws n Q h=>by obtain⟨_,_,_,rfl,_⟩:=h;rfl
theorem jjw:∀ws n Q,jio ws n Q->jil (jal ["_law_tape_here","_law_known","_law_open_ones","_law_way","_law_block","_law_pattern_here","_law_bound"] ws) n {nx:=λ_ n=>Q (.d .none) n,rt:=Q}:=λws n Q h=>by
 obtain⟨ks,os,wants,rfl,hks,hok,ho,ho',hop,hn0,k⟩:=h;show jil [some (.w .tp),some (.w (.ln (ks.map .str))),some (.w (.d (.list (os.map λb=>.int (b:Nat))))),none,none,none,none] n _;refine jae (jgd (m:=12) rfl (by omega) (by decide) (by decide) λw w0 w1=>?_);dsimp only[Aw];refine jae (iflt rfl (λhw=>?_) (λhw=>?_))
 ·refine jak (jbq (jn6 (c_i (c2_i (jac rfl (jac rfl (C4 ks ⟨rfl,hks,hok,by omega,λfs n' hfs hrf hn'=>?_⟩)))))));refine j0p rfl (by omega) λv hv=>?_;exact Ad (show 3<=1000 by decide) (jd9 (Ad (show 2<=1000 by decide) (k (.lay fs v) _ hfs ⟨hrf,λb hb=>by cases hb⟩ (by omega))))
 dsimp only[jah];refine jae (show sSet 4 _ _ _ _ from w2_i (jac rfl ?_));refine jc4 (m:=(os.map λb:Nat=>PyData.int (b:Nat)).length) rfl (λQ q=>b1_i (jac rfl q)) (by omega) (by rw[Ag];omega) (by rw[Ag];omega) λr r0 r1=>jbv r0 r1 λb hb=>?_;obtain⟨b,hbo,rfl⟩:=Ca.mp hb;have hto:=hop b hbo;dsimp only[Aw];refine jae (ifeq rfl (λh10=>?_) (λh10=>?_))
 ·refine jak (jbq (jvo (c_i (c2_i (jac rfl (jac rfl (C4 ks ⟨rfl,hks,hok,by omega,λf n' fo fb fu hn'=>?_⟩)))))));refine c2_i (jac rfl (jac rfl (C4 ks ⟨rfl,hks,hok,by omega,λg n'' go gb gu hn''=>?_⟩)));refine jac rfl (Ad (show 4<=1000 by decide) (jd9 (Ad (show 2<=1000 by decide) (k (.same f g b) _ ⟨show 2<=4 by decide,λe he=>?_⟩ ⟨⟨fu,λk hk=>Dh _ (gu k hk),trivial⟩,λb' hb'=>by cases hb';exact hto⟩ (by omega)))));simp only[Ac.fs,Aq,A1,or_false]at he;rcases he with rfl | rfl
  ·exact fo
  ·exact go
 dsimp only[jah];refine jae (ifeq rfl (λh11=>?_) (λh11=>?_))
 ·exact jak (jbq (jbq (c_i (jac rfl (Ad (show 2<=1000 by decide) (jd9 (Ad (show 2<=1000 by decide) (k (.go b) _ ⟨show 0<=4 by decide,λe he=>by simp[Ac.fs]at he⟩ ⟨trivial,λb' hb'=>by cases hb';exact hto⟩ (by omega)))))))))
 dsimp only[jah];refine jae ?_;unfold sUnp;refine c2_i (jac rfl (jac rfl (C4 ks ⟨.ln (ks.map .str),rfl,rfl,hks,hok,by omega,λfs n' _ hfs _ hrf hn'=>?_⟩)));refine Ad rfl ?_;dsimp only[ja6,jch,jaf,Aw];refine jae (ifgt rfl (λh7=>?_) (λh7=>?_))
 ·exact jak (jbq (jn6 (c_i (jac rfl (jac rfl (Ad (show 3<=1000 by decide) (jac rfl (Ad (show 2<=1000 by decide) (k (.look fs b) _ hfs ⟨hrf,λb' hb'=>by cases hb';exact hto⟩ (by omega))))))))))
 dsimp only[jah];refine jak (jbq (jbq (w2_i (of_i (Ad (by decide) ?_)))));dsimp only;refine w2_i (jac rfl (c_i ?_));dsimp only[gI0];refine jbv (ds:=[.str "take",.str "take",.str "take",.str "read"]) (r:=w - 4) (by omega) (show w - 4 < 4 by omega) λf hf'=>?_;simp only[Aq,A1,or_false]at hf';rcases hf' with rfl | rfl | rfl | rfl
 ·exact jac rfl (Ad (show 2<=1000 by decide) (jac rfl (Ad (show 2<=1000 by decide) (k (.take fs) _ hfs ⟨hrf,λb' hb'=>by cases hb'⟩ (by omega)))))
 ·exact jac rfl (Ad (show 2<=1000 by decide) (jac rfl (Ad (show 2<=1000 by decide) (k (.take fs) _ hfs ⟨hrf,λb' hb'=>by cases hb'⟩ (by omega)))))
 ·exact jac rfl (Ad (show 2<=1000 by decide) (jac rfl (Ad (show 2<=1000 by decide) (k (.take fs) _ hfs ⟨hrf,λb' hb'=>by cases hb'⟩ (by omega)))))
 ·exact jac rfl (Ad (show 2<=1000 by decide) (jac rfl (Ad (show 2<=1000 by decide) (k (.read fs) _ hfs ⟨hrf,λb' hb'=>by cases hb'⟩ (by omega)))))
def jfr:List (List Str):=[[],["n"],["go","n"],["nm"]]
theorem jjf (x:Str):∀hs:List Str,inD (.str x) (hs.map .str)=decide (x∈hs)
 |[]=>rfl
 |y::r=>by
  rw[A3];show(eqF (.str y) (.str x) || inD (.str x) (r.map .str))=_;rw[jjf x r];show(decide (y=x) || decide (x∈r))=_;by_cases e:y=x
  ·subst e;simp
  ·have:¬x=y:=λz=>e z.symm;simp[e,this]
theorem jtn {w:List Str} (h:w∈jfr):w.length<=2/\∀k∈w,okK k:=by
 simp only[jfr,Aq,A1,or_false]at h;rcases h with rfl | rfl | rfl | rfl
 ·exact⟨by decide,λk hk=>by simp at hk⟩
 ·exact⟨by decide,λk hk=>by simp only[Aq,A1,or_false]at hk;subst hk;exact⟨by decide +kernel,by decide +kernel⟩⟩
 ·exact⟨by decide,λk hk=>by simp only[Aq,A1,or_false]at hk;rcases hk with rfl | rfl<;>exact⟨by decide +kernel,by decide +kernel⟩⟩
 ·exact⟨by decide,λk hk=>by simp only[Aq,A1,or_false]at hk;subst hk;exact⟨by decide +kernel,by decide +kernel⟩⟩
theorem jqc {Q:List Aa->Int->Prop} {n:Int} (ss ks:List Str) (k:Q ((ss.map Ci).filter λx=>!inD x (ks.map .str)) n) :
  jbu (jaf 0) (cT (w2 (wVar 0) (wVar 1) (gInL true))) (wVar 0) Q (ss.map .str) [] [none,some (.w (.ln (ks.map .str)))] n:=by
 refine jb8 (λd=>∃s:Str,d=.str s) (λx=>!inD x (ks.map .str)) id (λd n Q' hd q=>?_) (λd n Q' hd q=>jac rfl q) _ [] none n (λd hd=>?_) ?_
 ·obtain⟨s,rfl⟩:=hd;exact ct_b (k:=!inD (.str s) (ks.map .str)) (λQ q=>w2_i (jac rfl (jac rfl (Ad rfl ⟨jk5 ks,q⟩)))) q
 ·obtain⟨s,_,rfl⟩:=Ca.mp hd;exact⟨s,rfl⟩
 ·rw[Cj,List.map_id];exact k
theorem jrw (ss ks:List Str):((ss.map Ci).filter λx=>!inD x (ks.map .str)).isEmpty=decide (∀k∈ss,k∈ks):=by
 rw[C8,List.isEmpty_iff,List.filter_eq_nil_iff,decide_eq_true_iff]
 constructor
 ·intro h k hk;have:=h (.str k) (Ca.mpr ⟨k,hk,rfl⟩);rw[jjf]at this;simpa using this
 ·intro h d hd;obtain⟨k,hk,rfl⟩:=Ca.mp hd;rw[jjf,decide_eq_true (h k hk)];simp
def jrp (ws:List (List Str)) (ks:List Str):Aa->Bool
 |.int j=>decide (∀k∈ws.getD j.toNat [],k∈ks)
 |_=>false
def jkt (ws:List (List Str)) (ks:List Str):List Nat:=(Cr ws.length).filter λb=>decide (∀k∈ws.getD b [],k∈ks)
theorem jro (ws:List (List Str)) (ks:List Str):(rngD 0 ws.length).filter (jrp ws ks)=(jkt ws ks).map λb=>.int (b:Nat):=by
 unfold rngD jkt;rw[List.filter_map];have e:(λi:Nat=>PyData.int (0+(i:Int)))=λb=>.int (b:Nat):=funext λi=>by rw[Int.zero_add]
 rw[e];rfl
theorem jqb {Q:List Aa->Int->Prop} {n:Int} (ws:List (List Str)) (ks:List Str) (k:Q ((jkt ws ks).map λb=>.int (b:Nat)) n) :
  jbu (jaf 0) (cT (w2 (wOf (ja0 [none,some 1] (jbc (w2 (wVar 2) (wVar 0) gIxL)) (jaf 0) (cT (w2 (wVar 0) (wVar 1) (gInL true))) (wVar 0))) (wOf (fLst aNil)) gEqL)) (wVar 0) Q (rngD 0 ws.length) [] [none,some (.w (.ln (ks.map .str))),some (.w (.d (.list (ws.map jby))))] n:=by
 refine jb8 (λd=>∃j:Nat,j < ws.length/\d=.int j) (jrp ws ks) id (λd n Q' hd q=>?_) (λd n Q' hd q=>jac rfl q) _ [] none n (λd hd=>?_) ?_
 ·obtain⟨j,hj,rfl⟩:=hd;have hg:(ws.map jby)[j]?=some (.tuple (ws[j].map .str)):=by rw[Bb,Am hj];rfl
  refine ct_b (k:=jrp ws ks (.int j)) (λQ q=>w2_i (of_i (jgr (ds:=ws[j].map .str) (λQ q=>w2_i (jac rfl (jac rfl ?_))) (jqc ws[j] ks (jd9 ?_))))) q
  ·show(match atI (ws.map jby) (j:Int)with | some d=>Q (.d d) n | none=>False);rw[ja7 hg];exact q
  ·have eo:jrp ws ks (.int j)=((ws[j].map Ci).filter λx=>!inD x (ks.map .str)).isEmpty:=by
    rw[jrw];show decide (∀k∈ws.getD (j:Int).toNat [],k∈ks)=_;rw[Ck,List.getD_eq_getElem?_getD,Am hj,Option.getD_some]
   rw[eo]at q;exact q
 ·unfold rngD at hd;obtain⟨j,hj,rfl⟩:=Ca.mp hd;exact⟨j,Cs.mp hj,by rw[Int.zero_add]⟩
 ·rw[Cj,List.map_id,jro];exact k
theorem jo9 {ws w0:List (List Str)} {ks:List Str} (h:ws=[]::w0):0 < (jkt ws ks).length :=
 List.length_pos_of_mem (a:=0) (List.mem_filter.mpr ⟨Cs.mpr (by rw[h];simp),by subst h;simp⟩)
theorem jui {ws:List (List Str)} {ks:List Str} {b:Nat} (h:b∈jkt ws ks):∃w,ws[b]?=some w/\∀k∈w,k∈ks:=by
 obtain⟨h1,h2⟩:=List.mem_filter.mp h;have hj:=Cs.mp h1;refine⟨ws[b],Am hj,?_⟩;have:=of_decide_eq_true h2;rw[List.getD_eq_getElem?_getD,Am hj,Option.getD_some]at this;exact this
theorem jow:∀{fs:List Fe} {ks ks':List Str},(∀k∈ks,k∈ks')->rF ks fs->rF ks' fs
 |[],_,_,_,_=>trivial
 |f::r,ks,ks',h,z=>⟨λk hk=>h k (z.1 k hk),jow (λk hk=>(A6.mp hk).elim (λq=>Dh _ (h k q)) λq=>A0 _ q) z.2⟩
theorem Ac.right_mono {ws:List (List Str)} {ks ks':List Str} {a:Ac} (h:∀k∈ks,k∈ks') (z:a.right ws ks):a.right ws ks' :=
 ⟨jow h z.1,λb hb=>by obtain⟨w,h1,h2⟩:=z.2 b hb;exact⟨w,h1,λk hk=>h k (h2 k hk)⟩⟩
theorem jra {ws:List (List Str)} {w ks:List Str} {as:List Ac} {a:Ac} (h:riB ws (w,as)) (hk:∀k∈ks,k∈w++as.flatMap Ac.bs) (ha:a.right ws ks):riB ws (w,as++[a]):=λp b hb=>by
 dsimp only at hb ⊢;by_cases hp:p < as.length
 ·rw[D4 hp]at hb;have:=h p b hb;unfold kn at this ⊢;rw[List.take_append_of_le_length (Nat.le_of_lt hp)];exact this
 ·rw[List.getElem?_append_right (by omega)]at hb;have e0:p - as.length=0:=by
   by_cases e:p - as.length=0
   ·exact e
   ·rw[List.getElem?_eq_none (by rw[Az];omega)]at hb;cases hb
  rw[e0]at hb;cases hb;have ep:p=as.length:=by omega
  subst ep;refine Ac.right_mono (λk z=>?_) ha;unfold kn;rw[List.take_append_of_le_length (As _),List.take_length];exact hk k z
structure ActO (ws:List (List Str)) (want ks:List Str) (acts:List Ac):Prop where
 mem:∀k,k∈ks↔k∈want++acts.flatMap Ac.bs
 ok:∀k∈ks,okK k
 fs:∀a∈acts,okFs a.fs
 ri:riB ws (want,acts)
def ActI (ws:List (List Str)) (bl:List Aa) (want:List Str) (nb:Int) (ds:List Aa) (δ:Sl) (n:Int):Prop:=∃(ks:List Str) (acts:List Ac) (x2 x7 x8 x9 x10:Option SV),
 δ=[some (.w .tp),some (.w (.d (.list (ws.map jby)))),x2,some (.own bl),some (.w (.d (jby want))),some (.own (ks.map .str)),some (.own (acts.map Ac.d)),x7,x8,x9,x10]/\ActO ws want ks acts/\ks.length+4*ds.length<=40/\acts.length+ds.length<=8/\n+11*(ds.length:Int)<=nb+89
theorem jsu {ws w0:List (List Str)} {bl r:List Aa} {want:List Str} {d:Aa} {ks:List Str} {acts:List Ac} {nb n:Int} {x7 x8 x9 x10:Option SV} {K:DEnds} (hw0:ws=[]::w0) (hwl:ws.length<=6) (hnb:nb+89 < 2 ^ 39) (O:ActO ws want ks acts) (hk:ks.length+4*(r.length+1)<=40) (ha:acts.length+(r.length+1)<=8) (hn:n+11*((r.length:Int)+1)<=nb+89)
  (kN:∀δ n,ActI ws bl want nb r δ n->K.nx δ n) :
  sSeq (sSet 8 (wOf (ja0 [none,some 5,some 1] (jax (wB jez (jaa (wVar 1) aNil))) (jaf 0) (cT (w2 (wOf (ja0 [none,some 1] (jbc (w2 (wVar 2) (wVar 0) gIxL)) (jaf 0) (cT (w2 (wVar 0) (wVar 1) (gInL true))) (wVar 0))) (wOf (fLst aNil)) gEqL)) (wVar 0)))) (sSeq (sUnp (jad jio (jaa (wVar 0) (jaa (jd4 5) (jaa (wVar 8) aNil)))) (jci 2 (ja6 (jaf 9) (ja6 (jaf 10) jch)))) (sSeq (sApp 6 (wVar 9)) (sFor (jjg (wVar 10)) (jaf 7) (sIf (cT (w2 (wVar 7) (jd4 5) (gInL true))) (sApp 5 (wVar 7)) jah))))
   [some (.w .tp),some (.w (.d (.list (ws.map jby)))),some (.w (.d d)),some (.own bl),some (.w (.d (jby want))),some (.own (ks.map .str)),some (.own (acts.map Ac.d)),x7,x8,x9,x10] n K:=by
 refine jae (show sSet 8 _ _ _ _ from of_i ?_);unfold ja0 jax;refine b1_i (jac rfl ?_);refine Ad ⟨by omega,by rw[Ag];omega⟩ ?_;rw[Ck,Ag];refine jqb ws ks ?_;dsimp only[Aw];refine jae ?_;unfold sUnp;have ol:(jkt ws ks).length<=6:=Bk (List.length_filter_le _ _) (by rw[List.length_range];exact hwl);refine c3_i (jac rfl (jgj rfl (jac rfl ?_)));refine C4 ks (C4 (jkt ws ks) (C4 ws ⟨rfl,by omega,O.ok,jo9 hw0,by omega,λb hb=>jui hb,by omega,λact n' hfs hri hn'=>?_⟩));refine Ad rfl ?_;dsimp only[ja6,jch,jaf,Aw];refine jae (jsr rfl (λQ q=>jac rfl q) (by rw[Ag];omega) ?_);dsimp only[Aw];unfold sFor jjg;refine jac rfl ?_;dsimp only;have hbs:=j0n hfs;refine jbw (λds δ n''=>∃(ks' dn bs':List Str) (x7:Option SV),ds=bs'.map .str/\dn++bs'=act.bs/\(∀k,k∈ks'↔k∈ks++dn)/\n''=n'/\δ=[some (.w .tp),some (.w (.d (.list (ws.map jby)))),some (.w (.d d)),some (.own bl),some (.w (.d (jby want))),some (.own (ks'.map .str)),some (.own (acts.map Ac.d++[act.d])),x7,some (.w (.d (.list ((jkt ws ks).map λb=>.int (b:Nat))))),some (.w (.d act.d)),some (.w (.d (.list (act.bs.map .str))))]/\ks'.length+bs'.length<=ks.length+4)
  (λδ n'' I=>?_) (λe r' δ n'' N I kN'=>?_) _ _ _ ⟨ks,[],act.bs,x7,rfl,rfl,λk=>by simp,rfl,rfl,by have:=hbs.2;omega⟩
 ·obtain⟨ks',dn,bs',x7,e,hdn,hm,rfl,rfl,hk'⟩:=I;cases List.map_eq_nil_iff.mp e.symm;rw[Cg]at hdn;subst hdn;have hm':∀k,k∈ks'↔k∈want++(acts++[act]).flatMap Ac.bs:=λk=>by
   rw[hm k,A6,O.mem k,List.flatMap_append,<-Bw,A6 (s:=want++acts.flatMap Ac.bs)];simp
  refine kN _ _ ⟨ks',acts++[act],_,_,_,_,_,by rw[Bu];rfl,⟨hm',λk z=>?_,λa z=>?_,jra O.ri (λk z=>(O.mem k).mp z) hri⟩,by omega,by rw[Al,Az];omega,by omega⟩
  ·exact(A6.mp ((hm k).mp z)).elim (O.ok k) (hbs.1 k)
  ·rcases A6.mp z with z | z
   ·exact O.fs a z
   ·rw[Ax]at z;subst z;exact hfs
 ·obtain⟨ks',dn,bs',x7,e',hdn,hm,rfl,rfl,hk'⟩:=I;obtain⟨s,bs'',rfl,rfl,rfl⟩:=List.map_eq_cons_iff.mp e'.symm;rw[Ak]at hk';dsimp only[jaf,Aw];have hdn':(dn++[s])++bs''=act.bs:=by rw[Bw];exact hdn
  refine if_i (w2_i (jac rfl (jgj rfl (Ad rfl ⟨jk5 ks',?_⟩))));refine ifb (λz=>?_) (λz=>?_)
  ·refine jsr rfl (λQ q=>jac rfl q) (by rw[Ag];omega) (kN' _ _ ⟨ks'++[s],dn++[s],bs'',some (.w (.d (.str s))),rfl,hdn',λk=>?_,rfl,?_,by rw[Al,Az];omega⟩)
   ·rw[A6,hm k,<-Bw,A6 (s:=ks++dn)]
   ·rw[Bu];rfl
  ·have hs:s∈ks':=by
    have z':(!inD (.str s) (ks'.map .str))=false:=z;rw[jjf]at z';simpa using z'
   refine kN' _ _ ⟨ks',dn++[s],bs'',some (.w (.d (.str s))),rfl,hdn',λk=>?_,rfl,rfl,by omega⟩;rw[<-Bw,A6 (s:=ks++dn),Ax,<-hm k];exact⟨.inl,λq=>q.elim id λe=>e▸hs⟩
def WanI (n0:Int) (ds:List Aa) (δ:Sl) (n:Int):Prop:=∃(more:List (List Str)) (x2:Option SV),δ=[some (.w .tp),some (.own (([]::more).map jby)),x2,none,none,none,none,none,none,none,none]/\more.length+ds.length<=5/\(∀w∈more,w∈jfr)/\n+(ds.length:Int)<=n0+6
def BlkI (ws:List (List Str)) (n0:Int) (ds:List Aa) (δ:Sl) (n:Int):Prop:=∃(bl:List Bl) (re:List (List Str)) (x2 x4 x5 x6 x7 x8 x9 x10:Option SV),
 δ=[some (.w .tp),some (.w (.d (.list (ws.map jby)))),x2,some (.own (bl.map blD)),x4,x5,x6,x7,x8,x9,x10]/\ds=re.map jby/\bl.map (·.1)++re=ws/\(∀b∈bl,okB b/\riB ws b)/\n+90*(ds.length:Int)<=n0+600
theorem jf1:∀ws n Q,jm6 ws n Q->ws.length=1:=λws n Q h=>by obtain⟨rfl,_⟩:=h;rfl
theorem jso {ws w0 re:List (List Str)} {bl:List Bl} {want:List Str} {n0 n:Int} {x2 x5 x6 x7 x8 x9 x10:Option SV} {K:DEnds} (hw:∀w∈ws,w∈jfr) (hw0:ws=[]::w0) (hwl:ws.length<=6) (hn0:n0+600 < 2 ^ 39) (hb:bl.map (·.1)++want::re=ws) (hbo:∀b∈bl,okB b/\riB ws b) (hn:n+90*((re.length:Int)+1)<=n0+600)
  (kN:∀δ n,BlkI ws n0 (re.map jby) δ n->K.nx δ n) :
  sSeq (sOwn 5 (jgp (wVar 4))) (sSeq (sOwn 6 (fLst aNil)) (sSeq (sFor (jax (w2 (wOf (fLst (jaa (wC (.int (2))) (jaa (wC (.int (3))) (jaa (wC (.int (1))) (jaa (wC (.int (4))) (jaa (wC (.int (2))) (jaa (wC (.int (0))) (jaa (wC (.int (3))) (jaa (wC (.int (8))) aNil)))))))))) (jad jao (jaa (wVar 0) (jaa (wC (.int (8))) aNil))) gIxL)) (jaf 2) (sSeq (sSet 8 (wOf (ja0 [none,some 5,some 1] (jax (wB jez (jaa (wVar 1) aNil))) (jaf 0) (cT (w2 (wOf (ja0 [none,some 1] (jbc (w2 (wVar 2) (wVar 0) gIxL)) (jaf 0) (cT (w2 (wVar 0) (wVar 1) (gInL true))) (wVar 0))) (wOf (fLst aNil)) gEqL)) (wVar 0)))) (sSeq (sUnp (jad jio (jaa (wVar 0) (jaa (jd4 5) (jaa (wVar 8) aNil)))) (jci 2 (ja6 (jaf 9) (ja6 (jaf 10) jch)))) (sSeq (sApp 6 (wVar 9)) (sFor (jjg (wVar 10)) (jaf 7) (sIf (cT (w2 (wVar 7) (jd4 5) (gInL true))) (sApp 5 (wVar 7)) jah)))))) (sFrz 6 (sApp 3 (wTup (jaa (wVar 4) (jaa (wB jcc (jaa (wVar 6) aNil)) aNil)))))))
   [some (.w .tp),some (.w (.d (.list (ws.map jby)))),x2,some (.own (bl.map blD)),some (.w (.d (jby want))),x5,x6,x7,x8,x9,x10] n K:=by
 obtain⟨hss,hso⟩:=jtn (hw want (by rw[<-hb];exact A0 _ Ba));have hbl:bl.length+(re.length+1)<=6:=by rw[<-hb,Al,Ag,Ak]at hwl;exact hwl
 refine jae (jw3 (ds:=want.map .str) rfl ?_);dsimp only[Aw];refine jae (jgf ?_);dsimp only[Aw];refine jae (js6 (L:=[.int 2,.int 3,.int 1,.int 4,.int 2,.int 0,.int 3,.int 8]) (M:=8) rfl (λQ q=>of_i (Ad (by decide) q)) (by omega) rfl (by decide) (by decide) (λd hd=>?_) (by decide) λj hj=>?_)
 ·simp only[Aq,A1,or_false]at hd;rcases hd with rfl | rfl | rfl | rfl | rfl | rfl | rfl | rfl
  ·exact⟨2,by decide,rfl⟩
  ·exact⟨3,by decide,rfl⟩
  ·exact⟨1,by decide,rfl⟩
  ·exact⟨4,by decide,rfl⟩
  ·exact⟨2,by decide,rfl⟩
  ·exact⟨0,by decide,rfl⟩
  ·exact⟨3,by decide,rfl⟩
  ·exact⟨8,by decide,rfl⟩
 refine jbw (ActI ws (bl.map blD) want n) (λδ n' I=>?_) (λd r' δ n' N I kN'=>?_) _ _ _ ⟨want,[],_,_,_,_,_,rfl,⟨λk=>by simp,hso,λa ha=>by simp at ha,λp a ha=>by simp at ha⟩,by rw[ja9];omega,by rw[ja9];simpa using hj,by rw[ja9];omega⟩
 ·obtain⟨ks,acts,y2,y7,y8,y9,y10,rfl,O,_,ha,hn'⟩:=I;dsimp only;refine jmd rfl ?_;dsimp only[Aw];refine jmh rfl (jbq (jac rfl (b1_i (jac rfl (jj9 ?_)))));have ha':acts.length<=8:=by simpa using ha
  refine Ad (show 2<=1000 by decide) (Ad (by rw[Ag];omega) (kN _ _ ⟨bl++[(want,acts)],re,_,_,_,_,_,_,_,_,by rw[Bu];rfl,rfl,by rw[Bu,Bw];exact hb,λb z=>?_,?_⟩))
  ·rcases A6.mp z with z | z
   ·exact hbo b z
   ·rw[Ax]at z;subst z;exact⟨⟨hss,hso,ha',O.fs⟩,O.ri⟩
  ·have h0:n'<=n+89:=by simpa using hn'
   rw[Ag];omega
 ·obtain⟨ks,acts,y2,y7,y8,y9,y10,rfl,O,hk,ha,hn'⟩:=I;rw[Ak]at hk ha hn';dsimp only[jaf,Aw];exact jsu hw0 hwl (by omega) O hk ha (by omega) kN'
theorem je3:∀ws n Q,jm6 ws n Q->jdm (jal ["_law_tape_here","_law_wants","_law_k","_law_blocks","_law_want","_law_known","_law_acts","_law_name","_law_open_ones","_law_act_here","_law_bound"] ws) n {nx:=λ_ n=>Q (.d .none) n,rt:=Q}:=λws n0 Q h=>by
 obtain⟨rfl,hn0,k⟩:=h;show jdm [some (.w .tp),none,none,none,none,none,none,none,none,none,none] n0 _;refine jae (show sOwn 1 _ _ _ _ from Ad (Bm _) (Ad (by decide) ?_));dsimp only[Aw];refine jae (js6 (L:=[.int 0,.int 1,.int 2,.int 1,.int 0,.int 2,.int 5]) (M:=5) rfl (λQ q=>of_i (Ad (by decide) q)) (by omega) rfl (by decide) (by decide) (λd hd=>?_) (by decide) λj hj=>?_)
 ·simp only[Aq,A1,or_false]at hd;rcases hd with rfl | rfl | rfl | rfl | rfl | rfl | rfl
  ·exact⟨0,by decide,rfl⟩
  ·exact⟨1,by decide,rfl⟩
  ·exact⟨2,by decide,rfl⟩
  ·exact⟨1,by decide,rfl⟩
  ·exact⟨0,by decide,rfl⟩
  ·exact⟨2,by decide,rfl⟩
  ·exact⟨5,by decide,rfl⟩
 refine jbw (WanI n0) (λδ n I=>?_) (λd r δ n N I kN=>?_) _ _ _ ⟨[],none,rfl,by rw[ja9];simpa using hj,λd hd=>by simp at hd,by rw[ja9];omega⟩
 ·obtain⟨more,x2,rfl,hl,hm,hn⟩:=I;dsimp only;refine jae (jgf ?_);dsimp only[Aw];refine jmd rfl ?_;dsimp only[Aw];refine jae ?_;unfold sFor jjg;refine jac rfl ?_;dsimp only;have hw:∀w∈([]:List Str)::more,w∈jfr:=λd hd=>by
   rcases Aq.mp hd with rfl | z
   ·simp[jfr]
   ·exact hm d z
  have hwl:(([]:List Str)::more).length<=6:=by rw[Ak];simp at hl;omega
  refine jbw (BlkI ([]::more) n0) (λδ n' I=>?_) (λd r δ n' N I kN=>?_) _ _ _ ⟨[],[]::more,_,_,_,_,_,_,_,_,rfl,rfl,rfl,λb hb=>by simp at hb,?_⟩
  ·obtain⟨bl,re,y2,y4,y5,y6,y7,y8,y9,y10,rfl,er,hb,hbo,hn'⟩:=I;cases List.map_eq_nil_iff.mp er.symm;rw[Cg]at hb;dsimp only;refine jmd rfl ?_;dsimp only[Aw];refine jak (b1_i (jac rfl (jj9 (k bl n' ⟨by have:=congrArg List.length hb;simp at this;omega,?_,λb z=>⟨(hbo b z).1,by rw[hb];exact(hbo b z).2⟩⟩ (by simpa using hn')))));rw[<-hb,Ag]at hwl;exact hwl
  ·obtain⟨bl,re,y2,y4,y5,y6,y7,y8,y9,y10,rfl,er,hb,hbo,hn'⟩:=I;obtain⟨want,re,rfl,rfl,rfl⟩:=List.map_eq_cons_iff.mp er.symm;rw[Ak,Ag]at hn';dsimp only[jaf,Aw];exact jso hw rfl hwl hn0 hb hbo (by omega) kN
  ·have h1:n<=n0+6:=by simpa using hn
   have h2:(((([]:List Str)::more).map jby).length:Int)<=6:=by rw[Ag];omega
   omega
 ·obtain⟨more,x2,rfl,hl,hm,hn⟩:=I;rw[Ak]at hl hn;dsimp only[jaf,Aw];refine jmh rfl (w2_i (of_i (Ad (by decide) (Ad (by decide) (Ad (by decide) (Ad (by decide) (Ad (by decide) (Ad (by decide) ?_))))))));dsimp only;refine jb0 (m:=5) rfl (by omega) (by decide) (by decide) λq q0 q1=>jbv (ds:=[jby [],jby ["n"],jby ["go","n"],jby ["nm"],jby []]) q0 q1 λw hw=>?_;have:∃v∈jfr,w=jby v:=by
   simp only[Aq,A1,or_false]at hw;rcases hw with rfl | rfl | rfl | rfl | rfl
   ·exact⟨[],by simp[jfr],rfl⟩
   ·exact⟨["n"],by simp[jfr],rfl⟩
   ·exact⟨["go","n"],by simp[jfr],rfl⟩
   ·exact⟨["nm"],by simp[jfr],rfl⟩
   ·exact⟨[],by simp[jfr],rfl⟩
  obtain⟨v,hv,rfl⟩:=this;refine Ad (by rw[Ag,Ak];omega) (kN _ _ ⟨more++[v],some (.w (.d d)),?_,by rw[Al,Az];omega,λe he=>?_,by omega⟩)
  ·rw[show([]::(more++[v]):List (List Str))=([]::more)++[v]from rfl,Bu];rfl
  rcases A6.mp he with z | z
  ·exact hm e z
  ·rw[Ax]at z;subst z;exact hv
theorem jte {α:Type} {f:α->Aa} {P:α->Prop}:∀{ds:List Aa},(∀d∈ds,∃x,P x/\d=f x)->∃xs:List α,ds=xs.map f/\∀x∈xs,P x
 |[],_=>⟨[],rfl,λx hx=>by simp at hx⟩
 |d::r,h=>by
  obtain⟨x,hx,rfl⟩:=h d Ba;obtain⟨xs,rfl,hxs⟩:=jte λe he=>h e (Bg _ he);exact⟨x::xs,rfl,λy hy=>(Aq.mp hy).elim (λe=>e▸hx) (hxs y)⟩
theorem jev:∀ws n Q,jj3 ws n Q->ws.length=1:=λws n Q h=>by obtain⟨rfl,_⟩:=h;rfl
theorem jek:∀ws n Q,jj3 ws n Q->jc9 (jal ["_law_tape_here","_law_programs_here"] ws) n {nx:=λ_ n=>Q (.d .none) n,rt:=Q}:=λws n0 Q h=>by
 obtain⟨rfl,hn0,k⟩:=h;show jc9 [some (.w .tp),none] n0 _;refine jae (show sOwn 1 _ _ _ _ from ?_);unfold sOwn ja0 jax;refine w2_i (of_i (Ad (by decide) ?_));dsimp only;refine jb0 (m:=8) rfl (by omega) (by decide) (by decide) λq q0 q1=>jbv (ds:=[.int 2,.int 1,.int 2,.int 3,.int 2,.int 1,.int 0,.int 5]) q0 q1 λd hd=>?_;have hj:∃j:Nat,j<=5/\d=.int j:=by
  simp only[Aq,A1,or_false]at hd;rcases hd with rfl | rfl | rfl | rfl | rfl | rfl | rfl | rfl
  ·exact⟨2,by decide,rfl⟩
  ·exact⟨1,by decide,rfl⟩
  ·exact⟨2,by decide,rfl⟩
  ·exact⟨3,by decide,rfl⟩
  ·exact⟨2,by decide,rfl⟩
  ·exact⟨1,by decide,rfl⟩
  ·exact⟨0,by decide,rfl⟩
  ·exact⟨5,by decide,rfl⟩
 obtain⟨j,hj,rfl⟩:=hj;refine Ad ⟨by omega,by omega⟩ ?_;rw[Ck];refine je1 (λd=>∃P,okG P/\d=prD P) 600 (λd n Q' hn q=>c1_i (jac rfl (Ad rfl ⟨by omega,λP n' hP hn'=>q (prD P) n' ⟨P,hP,rfl⟩ (by omega)⟩))) _ [] none _ (by rw[ja9];omega) λds n1 hpl hps0 hn1=>?_;rw[ja9]at hpl hn1;rw[Cj];obtain⟨ps,rfl,hps⟩:=jte hps0;clear hps0;rw[Ag]at hpl;dsimp only[Aw];have rest:∀(ps':Pg) (n2:Int),ps'.length<=5->(∀P∈ps',okG P)->n2<=n1+1->sFrz 1 (sRet (wB jcc (jaa (wVar 1) aNil))) [some (.w .tp),some (.own (ps'.map prD))] n2 {nx:=λ_ n=>Q (.d .none) n,rt:=Q}:=λps' n2 hl' hp' hn2=>by
  refine jmd rfl ?_;dsimp only[Aw];exact jak (b1_i (jac rfl (jj9 (k ps' n2 ⟨hl',hp'⟩ (by omega)))))
 refine jae (if_i ?_);refine(show cT _ _ _ _ from w2_i (b1_i (jgj rfl (jxj (c_i (eqLi ?_))))));rw[Ag];show if decide ((ps.length:Int)=2)=true then _ else _
 by_cases h2:(ps.length:Int)=2
 ·rw[if_pos (decide_eq_true h2)];refine w2_i (jb0 (m:=4) rfl (by omega) (by decide) (by decide) λq q0 q1=>c_i (eqLi ?_));show if decide (q=0)=true then _ else _
  by_cases hq:q=0
  ·rw[if_pos (decide_eq_true hq)];have hl2:ps.length=2:=by omega
   obtain⟨P,P',rfl⟩:∃P P',ps=[P,P']:=by
    match ps,hl2 with
    |[P,P'],_=>exact⟨P,P',rfl⟩
   refine(show sPut 1 _ _ _ _ _ from w2_i (jgj rfl (c_i ?_)));refine(show gIxL (.ln [prD P,prD P']) (.d (.int 0)) _ _ from ?_);refine rest [P,P] _ (show 2<=5 by decide) (λR hR=>?_) (by omega);simp only[Aq,A1,or_false,or_self]at hR;subst hR;exact hps _ Ba
  ·rw[if_neg (by simpa using hq)];exact rest ps _ (by omega) hps (by omega)
 ·rw[if_neg (by simpa using h2)];exact rest ps _ (by omega) hps (by omega)
theorem jmn:∀t,20<=sgB t
 |0=>by decide
 |t+1=>by have:=jmn t;show 20<=4*sgB t;omega
theorem th_V {v:Aa} (h:isV v=true):Th 9 0 v:=by
 cases v with
 |str x =>
  have h:(decide (x.length<=8)&&PyData.strOk x)=true:=h;rw[Av]at h;have:=of_decide_eq_true h.1;exact .str x (by omega) h.2
 |int i =>
  unfold isV at h;simp only[Av,decide_eq_true_eq]at h;exact .int i (by unfold B30;omega) (by unfold B30;omega)
 |_=>cases h
theorem th_X {x:Str} (h:okX x):Th 9 0 (.str x):=.str x (by have:=h.1;omega) h.2
theorem jyv (f:Fe):Th 9 0 (.str f.hd):=by
 have one:∀x:Str,thB 9 0 (.str x)=true->Th 9 0 (.str x):=λx h=>jfs h;cases f with
 |any=>exact one "any" (by decide +kernel)
 |word=>exact one "word" (by decide +kernel)
 |num=>exact one "number" (by decide +kernel)
 |isv d=>exact one "is" (by decide +kernel)
 |bind k=>exact one "bind" (by decide +kernel)
 |as k=>exact one "as" (by decide +kernel)
 |nx k=>exact one "next" (by decide +kernel)
theorem th_F {f:Fe} (h:f.ok):Th 9 1 f.d:=by
 have one:∀x,Th 9 0 x->Th 9 1 (.tuple [.str f.hd,x]):=λx hx=>th2 (jyv f) hx (by decide);cases f with
 |isv d=>exact one _ (th_V h)
 |bind k=>exact one _ (th_X h)
 |as k=>exact one _ (th_X h)
 |nx k=>exact one _ (th_X h)
 |any=>exact jfs (by decide +kernel)
 |word=>exact jfs (by decide +kernel)
 |num=>exact jfs (by decide +kernel)
theorem jyx {fs:List Fe} (h:okFs fs):Th 9 2 (fsD fs):=.tuple (by rw[Ag];have:=h.1;omega) λd hd=>by
 obtain⟨f,hf,rfl⟩:=Ca.mp hd;exact th_F (h.2 f hf)
def Fe.sg:Fe->Fe
 |.as k=>.bind k
 |f=>f
theorem jyz {f:Fe} (h:f.ok):f.sg.ok:=by cases f<;>first | exact h | exact trivial
theorem th_s {x:Str} (h:thB 9 0 (.str x)=true) {k:Nat}:Th 9 k (.str x):=(jfs h).mono (As _) (Bm _)
section
variable {δ:Sl} {n:Int} {Q:DQ} {i:Nat}
theorem gtc {a b:Int} (e:δ[i]?=some (some (.w (.d (.int a))))):∀Q:Bool->Int->Prop,Q (decide (b < a)) n->cT (w2 (wVar i) (wC (.int b)) gGt) δ n Q:=λQ q=>w2_i (jac e (c_i q))
theorem ltc {a b:Int} (e:δ[i]?=some (some (.w (.d (.int a))))):∀Q:Bool->Int->Prop,Q (decide (a < b)) n->cT (w2 (wVar i) (wC (.int b)) gLt) δ n Q:=λQ q=>w2_i (jac e (c_i q))
theorem eqc {a b:Int} (e:δ[i]?=some (some (.w (.d (.int a))))):∀Q:Bool->Int->Prop,Q (decide (a=b)) n->cT (w2 (wVar i) (wC (.int b)) gEq) δ n Q:=λQ q=>w2_i (jac e (c_i q))
theorem jyh {A B:DTT} {Q:Bool->Int->Prop} (ha:∀Q:Bool->Int->Prop,Q false n->A δ n Q) (k:Q false n):cAnd A B δ n Q:=ha _ (by show if false=true then _ else _;rw[if_neg Af];exact k)
theorem if2 {A B:DTT} {a b:Bool} {W V:DST} {K:DEnds} (ha:∀Q:Bool->Int->Prop,Q a n->A δ n Q) (hb:∀Q:Bool->Int->Prop,Q b n->B δ n Q) (hT:a=true->b=true->W δ n K) (hF:(a&&b)=false->V δ n K):sIf (cAnd A B) W V δ n K:=by
 cases a with
 |false=>exact if_n (λQ q=>jyh ha q) (hF rfl)
 |true =>
  cases b with
  |false=>exact if_n (λQ q=>jm5 ha (hb _ q)) (hF rfl)
  |true=>exact if_y (λQ q=>jm5 ha (hb _ q)) (hT rfl rfl)
theorem subI {a b:Int} (k:Q (.d (.int (a - b))) n):gI0 (λi j=>.int (i - j)) (.d (.int a)) (.d (.int b)) n Q:=k
end
theorem j0o {f:Fe}:∀(n:Int) (Q':DQ),Q' (.d f.sg.d) n->wIf (cT (w2 (w2 (wVar 0) (wC (.int (0))) gIx) (wC (.str "as")) gEq)) (wTup (jaa (wC (.str "bind")) (jaa (w2 (wVar 0) (wC (.int (1))) gIx) aNil))) (wVar 0) [some (.w (.d f.d))] n Q':=λn Q' q=>by
 have no:jab "as" (.str f.hd)=false->f.sg.d=f.d->wIf (cT (w2 (w2 (wVar 0) (wC (.int (0))) gIx) (wC (.str "as")) gEq)) (wTup (jaa (wC (.str "bind")) (jaa (w2 (wVar 0) (wC (.int (1))) gIx) aNil))) (wVar 0) [some (.w (.d f.d))] n Q':=λh1 h2=>by
  refine jqw (b:=false) (λQ q=>jc2 (a:=.str f.hd) (r:=f.tl) rfl Q (by rw[h1];exact q)) ?_;rw[if_neg Af];refine jac rfl ?_;rw[<-h2];exact q
 cases f with
 |as k =>
  refine jqw (b:=true) (λQ q=>jc2 (a:=.str "as") (r:=[.str k]) rfl Q (by rw[show jab "as" (.str "as")=true by decide +kernel];exact q)) ?_;rw[if_pos rfl];exact jbq (c_i (jc0 (a:=.str "as") (b:=.str k) (r:=[]) rfl (Ad (show 2<=1000 by decide) q)))
 |any=>exact no (show jab "as" (.str "any")=false by decide +kernel) rfl
 |word=>exact no (show jab "as" (.str "word")=false by decide +kernel) rfl
 |num=>exact no (show jab "as" (.str "number")=false by decide +kernel) rfl
 |isv d=>exact no (show jab "as" (.str "is")=false by decide +kernel) rfl
 |bind k=>exact no (show jab "as" (.str "bind")=false by decide +kernel) rfl
 |nx k=>exact no (show jab "as" (.str "next")=false by decide +kernel) rfl
theorem jht:∀d ws n Q,jj2 d ws n Q->ws.length=3:=λd ws n Q h=>by
 cases d with
 |zero=>exact h.elim
 |succ t=>obtain⟨_,_,rfl,_⟩:=h;rfl
theorem jgy:∀d ws n Q,jj2 (d+1) ws n Q->jfj (jj2 d) (jal ["_law_tape_here","_law_programs_here","_law_deep","_law_way","_law_some","_law_hand","_law_block","_law_fields"] ws) n {nx:=λ_ n=>Q (.d .none) n,rt:=Q}:=λT ws n Q h=>by
 obtain⟨ps,t,rfl,htT,⟨hp5,hps⟩,hn,k⟩:=h;have g20:=jmn t;have fin:∀(d:Aa) (n':Int),Th 9 3 d->n'<=n+20->Q (.d d) n':=λd n' hd hn'=>k d n' (hd.mono (by omega) (by omega)) (by omega);show jfj (jj2 T) [some (.w .tp),some (.w (.d (pgD ps))),some (.w (.d (.int t))),none,none,none,none,none] n _;refine jae (jgd (m:=8) rfl (by omega) (by decide) (by decide) λw w0 w1=>?_);dsimp only[Aw];have inner:∀u,t=u+1->∀(n1:Int) (Q':DQ),n1+sgB u < 2 ^ 39->(∀(d:Aa) (n':Int),Th 9 (2*u+3) d->n'<=n1+sgB u->Q' (.d d) n')->jj2 T [.tp,.d (pgD ps),.d (.int ((t:Int) - 1))] n1 Q':=λu e n1 Q' hn1 q=>by
  subst e;cases T with
  |zero=>omega
  |succ T=>exact⟨ps,u,by rw[show((u+1:Nat):Int) - 1=(u:Int) by omega],by omega,⟨hp5,hps⟩,hn1,q⟩
 refine jae (if2 (gtc rfl) (eqc rfl) (λha hb=>?_) λhw0=>?_)
 ·have ha:=of_decide_eq_true ha;cases t with
  |zero=>exact absurd ha (by decide)
  |succ u =>
   have g20':=jmn u;have e4:sgB (u+1)=4*sgB u:=rfl;refine jak (jbq (c_i (c3_i (jac rfl (jac rfl (w2_i (jac rfl (c_i (subI (inner u rfl (n+1) _ (by omega) λg n' hg hn'=>?_))))))))));exact Ad (show 2<=1000 by decide) (k _ n' ((th2 (L:=9) (th_s (by decide +kernel)) hg (by decide)).mono (by omega) (by omega)) (by omega))
 dsimp only[jah];refine jae (if2 (gtc rfl) (ltc rfl) (λha hb=>?_) λ_=>?_)
 ·have ha:=of_decide_eq_true ha;have hb:=of_decide_eq_true hb;cases t with
  |zero=>exact absurd ha (by decide)
  |succ u =>
   have g20':=jmn u;have e4:sgB (u+1)=4*sgB u:=rfl;refine jae (show sSet 4 _ _ _ _ from of_i ?_);unfold ja0 jax;refine w2_i (of_i (Ad (by decide) ?_));dsimp only;refine jb0 (m:=4) rfl (by omega) (by decide) (by decide) λq q0 q1=>jdl (ds:=[.int 2,.int 0,.int 1,.int 3]) q0 q1 λd hd=>?_;have hj:∃j:Nat,j<=3/\d=.int j:=by
    simp only[Aq,A1,or_false]at hd;rcases hd with rfl | rfl | rfl | rfl
    ·exact⟨2,by decide,rfl⟩
    ·exact⟨0,by decide,rfl⟩
    ·exact⟨1,by decide,rfl⟩
    ·exact⟨3,by decide,rfl⟩
   obtain⟨j,hj,rfl⟩:=hj;refine Ad ⟨by omega,by omega⟩ ?_;rw[Ck];obtain⟨c,hc⟩:∃c:Nat,sgB u=(c:Int):=⟨(sgB u).toNat,by omega⟩;have hm:(c:Int)*(j:Int)<=3*(c:Int):=by
    rw[Int.mul_comm];exact Int.mul_le_mul_of_nonneg_right (by omega) (by omega)
   refine je1 (λd=>Th 9 (2*u+3) d) c (λd n Q' hn q=>c3_i (jac rfl (jac rfl (w2_i (jac rfl (c_i (subI (inner u rfl n _ (by omega) λg n' hg hn'=>q _ n' hg (by omega))))))))) _ [] none _ (by rw[ja9];omega) λds n' hl hds hn'=>?_;rw[ja9]at hl hn';rw[Cj];dsimp only[Aw];refine jak (jbq (w2_i (of_i (Ad (by decide) ?_))));dsimp only;refine w2_i (jac rfl (c_i (subI ?_)));refine jdl (ds:=[.str "all",.str "some"]) (r:=w - 1) ?_ ?_ λf hf=>?_
   ·have:w≠0:=λz=>by rw[decide_eq_true ha,decide_eq_true z]at hw0;cases hw0
    omega
   ·show w - 1 < 2;omega
   refine b1_i (jac rfl ?_);dsimp only[jeg];simp only[Aq,A1,or_false]at hf;rcases hf with rfl | rfl
   ·exact Ad (show 2<=1000 by decide) (k _ n' (th2 (L:=9) (th_s (by decide +kernel)) (.tuple (by omega) hds) (by decide)) (by omega))
   ·exact Ad (show 2<=1000 by decide) (k _ n' (th2 (L:=9) (th_s (by decide +kernel)) (.tuple (by omega) hds) (by decide)) (by omega))
 dsimp only[jah];refine jae (if2 (a:=decide ((0:Int) < (ps.map prD).length)) (λQ q=>ct_b (k:=decide ((0:Int) < (ps.map prD).length)) (λQ q=>w2_i (jhq (ds:=ps.map prD) rfl (c_i q))) q) (gtc rfl) (λha hb=>?_) λ_=>?_)
 ·have ha:=of_decide_eq_true ha;have hb:=of_decide_eq_true hb;rw[Ag]at ha;refine jae (show sSet 5 _ _ _ _ from jc4 (m:=(ps.map prD).length) rfl (λQ q=>b1_i (jac rfl q)) (by omega) (by rw[Ag];omega) (by rw[Ag];omega) λr r0 r1=>?_);rw[Ag]at r1;obtain⟨h,hh⟩:∃b:Nat,r=(b:Int):=⟨r.toNat,by omega⟩;subst hh;have hlt:h < ps.length:=by omega
  dsimp only[Aw];refine jae (if_i (eqc rfl _ ?_));by_cases h6:w=6
  ·rw[if_pos (decide_eq_true h6)];exact jak (jbq (c_i (jac rfl (Ad (show 2<=1000 by decide) (fin _ _ ((th2 (L:=9) (k:=0) (jfs (by decide +kernel)) (.int _ (by unfold B30;omega) (by unfold B30;omega)) (by decide)).mono (by omega) (by omega)) (by omega))))))
  rw[if_neg (by simpa using h6)];dsimp only[jah];have hP:ps[h]?=some ps[h]:=Am hlt;generalize ps[h]=P at hP;have hp':(ps.map prD)[h]?=some (prD P):=by rw[Bb,hP];rfl
  obtain⟨g1,g2,g3⟩:=hps P (List.mem_of_getElem? hP);refine jae (show sSet 6 _ _ _ _ from jc4 (m:=(P.map blD).length) rfl (λQ q=>b1_i (w2_i (jac rfl (jac rfl (gN_i hp' q))))) (by omega) (by rw[Ag];omega) (by rw[Ag];omega) λr r0 r1=>?_);rw[Ag]at r1;obtain⟨b,hb⟩:∃b:Nat,r=(b:Int):=⟨r.toNat,by omega⟩;subst hb;have hbl:b < P.length:=by omega
  obtain⟨bl,hbl'⟩:∃bl:Bl,P[b]?=some bl:=⟨P[b],Am hbl⟩;obtain⟨wn,as⟩:=bl;have hi':(P.map blD)[b]?=some (blD (wn,as)):=by rw[Bb,hbl'];rfl
  obtain⟨ob,_⟩:=g3 (wn,as) (List.mem_of_getElem? hbl');have has:as.length<=8:=ob.2.2.1;dsimp only[Aw];refine jak (jvo (c_i (jac rfl (jac rfl ?_))));refine jc4 (m:=((as.map Ac.d).length:Int)+1) rfl (λQ q=>w2_i (b1_i (w2_i (w2_i (w2_i (jac rfl (jac rfl (gN_i hp' (jac rfl (gN_i hi' (c_i (g1_i ?_))))))))))))  (by omega) (by omega) (by rw[Ag];omega) λr r0' r1'=>?_
  ·exact addI q
  rw[Ag]at r1';obtain⟨p,hp⟩:∃p:Nat,r=(p:Int):=⟨r.toNat,by omega⟩;subst hp;exact Ad (show 4<=1000 by decide) (fin _ _ ((th4 (L:=9) (k:=0) (jfs (by decide +kernel)) (.int _ (by unfold B30;omega) (by unfold B30;omega)) (.int _ (by unfold B30;omega) (by unfold B30;omega)) (.int _ (by unfold B30;omega) (by unfold B30;omega)) (by decide)).mono (by omega) (by omega)) (by omega))
 dsimp only[jah];refine jae (show sSet 7 _ _ _ _ from of_i ?_);unfold ja0 jbc;dsimp only;refine w2_i (c2_i (jac rfl (jd9 (C4 [] ⟨.d (.list []),rfl,rfl,by decide,λk hk=>by simp at hk,by omega,λfs n' hf1 hfs hpt _ hn'=>?_⟩))));refine c_i (g0_i ?_);dsimp only[fsD];refine jny Fe.d (λf=>f.sg.d) fs [] none n' (λf hf n Q' q=>j0o n Q' q) ?_;rw[Cj];dsimp only[Aw];refine jak (jn6 (c_i (b1_i (jac rfl ?_))));dsimp only[jeg];refine w2_i (of_i (Ad (by decide) ?_));dsimp only;refine jb0 (m:=5) rfl (by omega) (by decide) (by decide) λq q0 q1=>jdl (ds:=[.int 1,.int 2,.int 1,.int 3,.int 9]) q0 q1 λd hd=>?_;have hd':Th 9 0 d:=jmj (k:=0) (ds:=[.int 1,.int 2,.int 1,.int 3,.int 9]) (by decide +kernel) d hd;have hf:Th 9 2 (.tuple (fs.map λf=>f.sg.d)):=.tuple (by rw[Ag];have:=hfs.1;omega) λd hd=>by
  obtain⟨f,hf,rfl⟩:=Ca.mp hd;exact th_F (jyz (hfs.2 f hf))
 exact Ad (show 3<=1000 by decide) (fin _ _ (th3 (jfs (by decide +kernel)) hf (hd'.mono (by omega) (by omega)) (by decide)) (by omega))
theorem jk1:∀ws n Q,jfm ws n Q->ws.length=1:=λws n Q h=>by obtain⟨rfl,_⟩:=h;rfl
theorem jjv:∀ws n Q,jfm ws n Q->jik (jal ["_law_tape_here","_law_some"] ws) n {nx:=λ_ n=>Q (.d .none) n,rt:=Q}:=λws n Q h=>by
 obtain⟨rfl,hn,k⟩:=h;show jik [some (.w .tp),none] n _;have a1:jfc 9 2 [.none,.bool true,.bool false,.int (-1),.int 0,.int 1,.int 2,.int 9,.int 10,.int 20,.int 21,.int 99,.int 100,.int (10 ^ 20),.str "",.str "a",.str "abcde",.str "abcdefghi",.str "A",.str "a1"]=true:=by decide +kernel
 have a2:jfc 9 2 [.str "all",.str "as",.str "bind",.str "any",.tuple [],.list [],.tuple [.int 1],.tuple [.str "any"],.tuple [.str "a"],.tuple [.tuple [.str "a"],.none]]=true:=by decide +kernel
 refine jae (jdk (x:=.list [.none,.bool true,.bool false,.int (-1),.int 0,.int 1,.int 2,.int 9,.int 10,.int 20,.int 21,.int 99,.int 100,.int (10 ^ 20),.str "",.str "a",.str "abcde",.str "abcdefghi",.str "A",.str "a1"]) (λQ q=>of_i ?_) ?_)
 ·exact Ad ⟨by decide,by decide,by decide⟩ (Ad (by decide) q)
 dsimp only[Aw];generalize hA:([.none,.bool true,.bool false,.int (-1),.int 0,.int 1,.int 2,.int 9,.int 10,.int 20,.int 21,.int 99,.int 100,.int (10 ^ 20),.str "",.str "a",.str "abcde",.str "abcdefghi",.str "A",.str "a1"]:List Aa)=A at a1;have lA:A.length=20:=by rw[<-hA];rfl
 refine jae (jdk (x:=.list (A++[.str "all",.str "as",.str "bind",.str "any",.tuple [],.list [],.tuple [.int 1],.tuple [.str "any"],.tuple [.str "a"],.tuple [.tuple [.str "a"],.none]])) (λQ q=>w2_i (jac rfl (of_i ?_))) ?_)
 ·exact Ad (by decide) (Ad (by decide) (Ad (by decide) (Ad (by decide) (Ad (by decide) (Ad (by decide) (Ad (by decide) (Ad (by decide) (Ad (jjj (by omega) (by decide)) q))))))))
 dsimp only[Aw];generalize hB:([.str "all",.str "as",.str "bind",.str "any",.tuple [],.list [],.tuple [.int 1],.tuple [.str "any"],.tuple [.str "a"],.tuple [.tuple [.str "a"],.none]]:List Aa)=B at a2;have lB:B.length=10:=by rw[<-hB];rfl
 have lAB:(A++B).length=30:=by rw[Al,lA,lB]
 refine jak (w2_i (jac rfl ?_));exact jc4 (m:=((A++B).length:Int)) rfl (λQ q=>b1_i (jac rfl q)) (by omega) (by omega) (by omega) λr r0 r1=>jdl r0 r1 λd hd=>k d ((A6.mp hd).elim (jmj a1 d) (jmj a2 d))
theorem jr0 (ds:List Aa) (a b:Option Int):(cutD ds a b).length<=ds.length:=by
 unfold cutD;rw[C0,List.length_drop];omega
theorem jpq (ds:List Aa):(cutD ds (some (-1)) none).length<=1:=by
 unfold cutD;rw[C0,List.length_drop,HT.sIx_none];show min (ds.length - (if (-1:Int) < 0 then((-1:Int)+(ds.length:Int)).toNat else min (-1:Int).toNat ds.length)) (ds.length - (if (-1:Int) < 0 then((-1:Int)+(ds.length:Int)).toNat else min (-1:Int).toNat ds.length))<=1;rw[if_pos (by decide)];omega
section
variable {δ:Sl} {n:Int} {Q:DQ} {ds:List Aa}
theorem jtc (k:Q (.d (.int (-1))) n):wNeg (wC (.int 1)) δ n Q:=k
theorem jyu (e1:δ[1]?=some (some (.w (.d (.tuple ds))))) (k:Q (.d (.tuple (cutD ds none (some (-1))))) n):jav (wVar 1) jbb (jba (wNeg (wC (.int (1))))) δ n Q:=by
 unfold jav jbb jba;exact jac e1 (jtc k)
theorem jxl (e1:δ[1]?=some (some (.w (.d (.tuple ds))))) (k:Q (.d (.tuple (cutD ds (some (-1)) none))) n):jav (wVar 1) (jba (wNeg (wC (.int (1))))) jbb δ n Q:=by
 unfold jav jbb jba;exact jac e1 (jtc k)
theorem jzt {a b c d e:DT} {Q:List Aa->Int->Prop} (k:a δ n λx n1=>b δ n1 λy n2=>c δ n2 λz n3=>d δ n3 λu n4=>e δ n4 λv n5=>match ja3 [x,y,z,u,v]with
  |some ds=>ds.length<=1000/\Q ds n5
  |none=>False):fLst (jaa a (jaa b (jaa c (jaa d (jaa e aNil))))) δ n Q:=k
theorem jzu {a b c:DT} {Q:List Aa->Int->Prop} (k:a δ n λx n1=>b δ n1 λy n2=>c δ n2 λz n3=>match ja3 [x,y,z]with
  |some ds=>ds.length<=1000/\Q ds n3
  |none=>False):fLst (jaa a (jaa b (jaa c aNil))) δ n Q:=k
end
abbrev jyo:DST:=sRet (w2 (wOf (fLst (jaa (wB jmc (jaa (wVar 1) aNil)) (jaa (jav (wVar 1) jbb (jba (wNeg (wC (.int (1)))))) (jaa (w2 (wVar 1) (jav (wVar 1) (jba (wNeg (wC (.int (1))))) jbb) jgo) (jaa (w2 (wVar 1) (wTup (jaa (jad jfm (jaa (wVar 0) aNil)) aNil)) jgo) (jaa (wRev (wVar 1)) aNil))))))) (w2 (wVar 3) (wC (.int (1))) (gI0 λi j=>.int (i - j))) gIx)
abbrev jve:DST:=sSeq (sIf (cAnd (cT (wIsi "int" (wVar 1))) (cAnd (cNot (cT (wIsi "bool" (wVar 1)))) (cT (w2 (wVar 3) (wC (.int (3))) gLt)))) (sRet (w2 (wOf (fLst (jaa (w2 (wVar 1) (wC (.int (1))) (gI0 λi j=>.int (i+j))) (jaa (w2 (wVar 1) (wC (.int (1))) (gI0 λi j=>.int (i - j))) (jaa (w2 (wVar 1) (wC (.int (0))) gGt) aNil))))) (wVar 3) gIx)) jah) (sRet (jad jfm (jaa (wVar 0) aNil)))
theorem jtl {d:Aa} {L kk:Nat} {n n' w:Int} {x2:Option SV} {Q:DQ} (hT:Th L kk d) (hL9:9<=L) (hL30:L<=30) (w0:0<=w) (hn':n'<=n+2) (hn:n+5*(kk:Int)+5 < 2 ^ 39)
  (k:∀(d':Aa) (n':Int),Th (L+1) (kk+2) d'->n'<=n+5*(kk:Int)+5->Q (.d d') n') :
  jve [some (.w .tp),some (.w (.d d)),x2,some (.w (.d (.int w)))] n' {nx:=λ_ n=>Q (.d .none) n,rt:=Q}:=by
 have odd:sRet (jad jfm (jaa (wVar 0) aNil)) [some (.w .tp),some (.w (.d d)),x2,some (.w (.d (.int w)))] n' {nx:=λ_ n=>Q (.d .none) n,rt:=Q} :=
  jak (c1_i (jac rfl ⟨rfl,by omega,λe he=>k e _ (he.mono (by omega) (by omega)) (by omega)⟩))
 have no:isiB "int" d=false->jve [some (.w .tp),some (.w (.d d)),x2,some (.w (.d (.int w)))] n' {nx:=λ_ n=>Q (.d .none) n,rt:=Q}:=λh =>
  jae (if_n (λQ q=>jce (a:=false) (b:=true) (λQ q=>ct_b (k:=false) (λQ q=>jhv (d:=d) (λQ q=>jac rfl q) Q (by rw[h];exact q)) q) (λz=>nomatch z) q) odd)
 cases hT with
 |int i h1 h2 =>
  refine jae (if_b (b:=decide (w < 3)) (λQ q=>jce (a:=true) (λQ q=>ct_b (λQ q=>jhv (d:=.int i) (λQ q=>jac rfl q) Q q) q) (λ_ Q q=>jce (a:=true) (λQ q=>ja5 (k:=false) (λQ q=>ct_b (λQ q=>jhv (d:=.int i) (λQ q=>jac rfl q) Q q) q) q) (λ_ Q q=>ct_b (k:=decide (w < 3)) (λQ q=>w2_i (jac rfl (c_i q))) q) (by rw[Bo];exact q)) (by rw[Bo];exact q)) (λe=>?_) λ_=>?_)
  ·have e:=of_decide_eq_true e;refine jak (w2_i (of_i (jzu ?_)));refine w2_i (jac rfl (c_i (addI ?_)));refine w2_i (jac rfl (c_i (subI ?_)));refine w2_i (jac rfl (c_i (juy (Ad (show 3<=1000 by decide) ?_))));refine jac rfl (jdl (ds:=[.int (i+1),.int (i - 1),.bool _]) w0 e λf hf=>?_);simp only[Aq,A1,or_false]at hf;rcases hf with rfl | rfl | rfl
   ·exact k _ _ (.int _ (by omega) (by omega)) (by omega)
   ·exact k _ _ (.int _ (by omega) (by omega)) (by omega)
   ·exact k _ _ (.bool _) (by omega)
  ·exact odd
 |bool b =>
  exact jae (if_n (λQ q=>jce (a:=true) (b:=false) (λQ q=>ct_b (λQ q=>jhv (d:=.bool b) (λQ q=>jac rfl q) Q q) q) (λ_ Q q=>jce (a:=false) (b:=true) (λQ q=>ja5 (k:=true) (λQ q=>ct_b (λQ q=>jhv (d:=.bool b) (λQ q=>jac rfl q) Q q) q) q) (λz=>nomatch z) q) q) odd)
 |non=>exact no rfl
 |str _ _ _=>exact no rfl
 |list _ _=>exact no rfl
 |tuple _ _=>exact no rfl
theorem jyn {ds:List Aa} {L kk:Nat} {n n' w:Int} {x2:Option SV} {Q:DQ} (hT:Th L kk (.tuple ds)) (hL9:9<=L) (hL30:L<=30) (w0:1<=w) (w1:w < 6) (hn':n'<=n+2) (hn:n+5*(kk:Int)+5 < 2 ^ 39)
  (k:∀(d':Aa) (n':Int),Th (L+1) (kk+2) d'->n'<=n+5*(kk:Int)+5->Q (.d d') n') (K:DEnds) (hK:K.rt=Q) :
  jyo [some (.w .tp),some (.w (.d (.tuple ds))),x2,some (.w (.d (.int w)))] n' K:=by
 subst hK;have hl:ds.length<=L:=by cases hT;assumption
 have hp:=hT.pos;have hm:∀x∈ds,Th (L+1) (kk+1) x:=λx hx=>(hT.mem x hx).mono (by omega) (by omega);have mk:∀xs:List Aa,xs.length<=L+1->(∀x∈xs,Th (L+1) (kk+1) x)->Th (L+1) (kk+2) (.tuple xs):=λxs h1 h2=>.tuple h1 h2;have mA:∀{a b:Option Int},∀x∈cutD ds a b,Th (L+1) (kk+1) x:=λx hx=>hm x (jmz hx);have t1:=jr0 ds none (some (-1));have t2:=jpq ds;refine jak (w2_i (of_i (jzt (jzl rfl (jyu rfl ?_)))));refine w2_i (jac rfl (jxl rfl (jlg (by omega) ?_)));refine w2_i (jac rfl (jqy (c1_i (jac rfl ⟨rfl,by omega,λo ho=>?_⟩))));have ho:=ho.mono (L':=L+1) (k':=kk+1) (by omega) (by omega);refine Ad (show 1<=1000 by decide) (jlg (by rw[Az];omega) (jzc rfl (Ad (show 5<=1000 by decide) ?_)));have cA:Th (L+1) (kk+2) (.list ds):=.list (by omega) hm;have cB:=mk (cutD ds none (some (-1))) (by omega) mA;have cC:=mk (ds++cutD ds (some (-1)) none) (by rw[Al];omega) λx hx=>(A6.mp hx).elim (hm x) (mA x);have cD:=mk (ds++[o]) (by rw[Al,Az];omega) (jmk hm ho);have cE:=mk ds.reverse (by rw[Dw];omega) λx hx=>hm x (List.mem_reverse.mp hx);generalize C3 (cutD ds none (some (-1)))=B at cB;generalize C3 (ds++cutD ds (some (-1)) none)=C at cC;generalize C3 (ds++[o])=D at cD;generalize C3 ds.reverse=E at cE;refine w2_i (jac rfl (c_i (subI ?_)));refine jdl (ds:=[.list ds,B,C,D,E]) (r:=w - 1) (by omega) (show w - 1 < 5 by omega) λf hf=>?_;simp only[Aq,A1,or_false]at hf;rcases hf with rfl | rfl | rfl | rfl | rfl
 ·exact k _ _ cA (by omega)
 ·exact k _ _ cB (by omega)
 ·exact k _ _ cC (by omega)
 ·exact k _ _ cD (by omega)
 ·exact k _ _ cE (by omega)
theorem jjd:∀d ws n Q,jdp d ws n Q->ws.length=2:=λt ws n Q h=>by
 cases t with
 |zero=>exact h.elim
 |succ t=>obtain⟨_,_,_,rfl,_⟩:=h;rfl
theorem jh6:∀d ws n Q,jdp (d+1) ws n Q->jg9 (jdp d) (jal ["_law_tape_here","_law_thing_here","_law_at","_law_way"] ws) n {nx:=λ_ n=>Q (.d .none) n,rt:=Q}:=λt ws n Q h=>by
 obtain⟨d,L,kk,rfl,hT,hL9,hL30,hk,hn,k⟩:=h;show jg9 (jdp t) [some (.w .tp),some (.w (.d d)),none,none] n _
 -- from the drawn way on
 have rest:∀n1:Int,n1<=n+1->(sSeq (sSet 3 (jad jao (jaa (wVar 0) (jaa (wC (.int (6))) aNil)))) (sSeq (sIf (cAnd (cT (wIsi "tuple" (wVar 1))) (cT (w2 (wVar 3) (wC (.int (0))) gGt))) jyo jah) jve)) [some (.w .tp),some (.w (.d d)),none,none] n1 {nx:=λ_ n=>Q (.d .none) n,rt:=Q}:=λn1 hn1=>by
  refine jae (jgd (m:=6) rfl (by omega) (by decide) (by decide) λw w0 w1=>?_);dsimp only[Aw];cases ht:isiB "tuple" d with
  |true =>
   obtain⟨ds,rfl⟩:=jtg ht;refine jae (if_b (b:=decide (0 < w)) (λQ q=>jce (a:=true) (λQ q=>ct_b (λQ q=>jm0 rfl q) q) (λ_ Q q=>ct_b (k:=decide (0 < w)) (λQ q=>w2_i (jac rfl (c_i q))) q) (by rw[Bo];exact q)) (λe=>?_) λ_=>?_)
   ·have e:=of_decide_eq_true e;exact jyn (n:=n) hT hL9 hL30 (by omega) w1 (by omega) hn k _ rfl
   ·exact jtl (x2:=none) (n:=n) hT hL9 hL30 w0 (by omega) hn k
  |false =>
   refine jae (if_n (λQ q=>jce (a:=false) (b:=true) (λQ q=>ct_b (k:=false) (λQ q=>jhv (d:=d) (λQ q=>jac rfl q) Q (by rw[ht];exact q)) q) (λz=>nomatch z) q) ?_);exact jtl (x2:=none) (n:=n) hT hL9 hL30 w0 (by omega) hn k
 by_cases ht:isiB "tuple" d=true
 ·obtain⟨ds,rfl⟩:=jtg ht;rcases ds with _ | ⟨a,r⟩
  ·refine jae (if_n (λQ q=>jce (a:=true) (b:=false) (λQ q=>ct_b (λQ q=>jm0 rfl q) q) (λ_ Q q=>jce (a:=false) (b:=true) (λQ q=>ct_b (k:=false) (λQ q=>w2_i (jhq (ds:=[]) rfl (c_i q))) q) (λz=>nomatch z) q) q) ?_);exact rest n (by omega)
  ·have hl:(a::r).length<=L:=by cases hT;assumption
   have k1:=hT.pos;have l1:decide ((0:Int) < ((a::r).length:Int))=true:=decide_eq_true (by rw[Ak];omega);have l2:1<=(a::r).length:=by rw[Ak];omega
   generalize a::r=ds at hT hl l1 l2 rest;refine jae (if_i (jm5 (λQ q=>ct_b (λQ q=>jm0 rfl q) q) (jm5 (λQ q=>ct_b (k:=true) (λQ q=>w2_i (jhq (ds:=ds) rfl (c_i (juy (by rw[l1];exact q))))) q) ?_)));refine w2_i (jb0 (m:=5) rfl (by omega) (by decide) (by decide) λx x0 x1=>c_i ?_);show if decide (0 < x)=true then _ else _
   by_cases h:0 < x
   ·rw[if_pos (decide_eq_true h)];refine jae (jc4 (m:=(ds.length:Int)) rfl (λQ q=>b1_i (jac rfl q)) (by omega) (by omega) (by omega) λr r0 r1=>?_);obtain⟨y,hy,ym⟩:=jjy r0 r1;obtain⟨j,rfl⟩:∃j:Nat,r=j:=⟨r.toNat,by omega⟩;dsimp only[Aw];have t1:=juu ds j;have t3:=jnt ds j;refine jak (w2_i (w2_i (to_i rfl rfl (jqy (c2_i (jac rfl (w2_i (jac rfl (jac rfl ?_)))))))));show match atI ds (j:Int)with | some d=>_ | none=>False
    rw[hy];cases t with
    |zero=>omega
    |succ t =>
     refine⟨y,L,kk - 1,rfl,hT.mem y ym,hL9,hL30,by omega,by omega,λd' n' hd' hn''=>?_⟩;refine Ad (Nat.le_of_ble_eq_true rfl) (jlg (by rw[Az];omega) (ju0 rfl rfl (jlg (by rw[Al,Az];omega) ?_)));have mA:∀{a b:Option Int},∀x∈cutD ds a b,Th (L+1) (kk+1) x:=λx hx=>(hT.mem x (jmz hx)).mono (by omega) (by omega);exact k _ _ (.tuple (by rw[Al,Al,Az];omega) λx hx=>(A6.mp hx).elim (jmk mA (hd'.mono (As _) (by omega)) x) (mA x)) (by omega)
   ·rw[if_neg (by simpa using h)];exact rest _ (by omega)
 ·have ht:isiB "tuple" d=false:=by simpa using ht
  refine jae (if_n (λQ q=>jce (a:=false) (b:=true) (λQ q=>ct_b (k:=false) (λQ q=>jhv (d:=d) (λQ q=>jac rfl q) Q (by rw[ht];exact q)) q) (λz=>nomatch z) q) ?_);exact rest n (by omega)
theorem jzw {δ:Sl} {n:Int} {a:DT} {Q:List Aa->Int->Prop} (k:a δ n λx n1=>match ja3 [x]with
  |some ds=>ds.length<=1000/\Q ds n1
  |none=>False):fLst (jaa a aNil) δ n Q:=k
theorem jvp {L k:Nat} {d:Aa} (h:Th 9 k d) (hL:9<=L):Th L k d:=h.mono hL (As _)
theorem jop {d x:Aa} {m:Nat} (h:x∈(Ap m [d]).flatten):x=d:=by
 obtain⟨l,hl,hx⟩:=List.mem_flatten.mp h;rw[List.eq_of_mem_replicate hl]at hx;exact Ax.mp hx
theorem joq {d:Aa} {m:Nat}:((Ap m [d]).flatten).length=m:=by
 induction m with
 |zero=>rfl
 |succ m ih=>rw[Cc,Cw,Al,ih];simp;omega
theorem jor {δ:Sl} {n m:Int} {Q:DQ} {i:Nat} {d:Aa} {w:DT} (e:δ[i]?=some (some (.w (.d d)))) (hw:∀Q:DQ,Q (.d (.int m)) n->w δ n Q) (h2:2<=m) (h3:m<=1000) (k:Q (.d (.tuple (Ap m.toNat [d]).flatten)) n):jm9 (wTup (jaa (wVar i) aNil)) w δ n Q:=by
 unfold jm9;exact jqy (jac e (Ad (show 1<=1000 by decide) (hw _ ⟨[d],m,rfl,rfl,List.cons_ne_nil _ _,h2,h3,show 1<=1000 by decide,k⟩)))
theorem jjc:∀ws n Q,jj5 ws n Q->ws.length=2:=λws n Q h=>by obtain⟨_,rfl,_⟩:=h;rfl
theorem jh5:∀ws n Q,jj5 ws n Q->jg8 (jal ["_law_tape_here","_law_one","_law_many_here","_law_way","_law_k"] ws) n {nx:=λ_ n=>Q (.d .none) n,rt:=Q}:=λws n0 Q h=>by
 obtain⟨d,rfl,hT,hn,k⟩:=h;show jg8 [some (.w .tp),some (.w (.d d)),none,none,none] n0 _;refine jae (show sSet 2 _ _ _ _ from w2_i (c_i (jb0 (m:=4) rfl (by omega) (by decide) (by decide) λr r0 r1=>addI ?_)));dsimp only[Aw];generalize hM:(38:Int)+r=M;have hM0:38<=M:=by omega
 have hM1:M<=41:=by omega
 refine jae (jgd (m:=3) rfl (by omega) (by decide) (by decide) λw w0 w1=>?_);dsimp only[Aw];have sub:∀(b:Int) (x:Option SV) (y:Int) (Q:DQ) (n:Int),Q (.d (.int (M - b))) n->w2 (wVar 2) (wC (.int b)) (gI0 λi j=>.int (i - j)) [some (.w .tp),some (.w (.d d)),some (.w (.d (.int M))),some (.w (.d (.int y))),x] n Q:=λb x y Q n q=>w2_i (jac rfl (c_i (subI q)));have rp:∀m:Nat,m<=60->Th 60 4 (.tuple (Ap m [d]).flatten):=λm hm=>.tuple (by rw[joq];exact hm) λx hx=>by rw[jop hx];exact jvp hT (by decide)
 refine jae (if_b (b:=decide (w=0)) (eqc rfl) (λe=>?_) λe=>?_)
 ·refine jak (jbq (w2_i (of_i (jzv (c_i (c_i (Ad (show 2<=1000 by decide) ?_)))))));refine jb0 (m:=2) rfl (by omega) (by decide) (by decide) λq q0 q1=>jdl (ds:=[.str "all",.str "some"]) q0 q1 λf hf=>?_;refine jor rfl (λQ q=>sub 1 _ _ Q _ q) (by omega) (by omega) (Ad (show 2<=1000 by decide) ?_);have hf0:Th 60 4 f:=jmj (k:=4) (L:=60) (ds:=[.str "all",.str "some"]) (by decide +kernel) f hf;exact k _ 5 _ (.th (th2 hf0 (rp _ (by omega)) (by decide)) (by decide)) (by decide) (by omega)
 ·have e:=of_decide_eq_false e;dsimp only[jah];refine jae (if_b (b:=decide (w=1)) (eqc rfl) (λe=>?_) λe=>?_)
  ·refine jae ?_;unfold sFor jax;refine sub 1 _ _ _ _ (Ad ⟨by omega,by omega⟩ ?_);have hj:(M - 1).toNat<=40:=by omega
   refine jbw (λds δ n=>∃(j:Nat) (x:Aa) (y:Option SV),δ=[some (.w .tp),some (.w (.d x)),some (.w (.d (.int M))),some (.w (.d (.int w))),y]/\Mn j x/\j+ds.length<=44/\n<=n0+2) (λδ n I=>?_) (λd r δ n N I kN=>?_) _ _ _ ⟨3,d,none,rfl,.th (jvp hT (by decide)) (by decide),by rw[ja9];omega,by omega⟩
   ·obtain⟨j,x,y,rfl,hm,hl,hn'⟩:=I;dsimp only;exact jak (jac rfl (k x j n hm (by simpa using hl) (by omega)))
   ·obtain⟨j,x,y,rfl,hm,hl,hn'⟩:=I;rw[Ak]at hl;dsimp only[jaf,Aw];refine jdk (x:=.tuple [.str "not",x]) (λQ q=>jbq (c_i (jac rfl (Ad (show 2<=1000 by decide) q)))) ?_;dsimp only[Aw];exact kN _ _ ⟨j+1,_,_,rfl,hm.no,by omega,hn'⟩
  ·dsimp only[jah];refine jak (jbq (c_i (w2_i (jqy (jbq (c_i (jor rfl (λQ q=>c_i q) (m:=20) (by decide) (by decide) (Ad (show 2<=1000 by decide) (Ad (show 1<=1000 by decide) ?_)))))))));refine jor rfl (λQ q=>sub 22 _ _ Q _ q) (by omega) (by omega) ?_;have hS:Th 60 5 (.tuple [.str "some",.tuple (Ap (20:Int).toNat [d]).flatten]):=th2 (jfs (by decide +kernel)) (rp _ (by decide)) (by decide);generalize C3 [.str "some",.tuple (Ap (20:Int).toNat [d]).flatten]=S at hS;have hl:((Ap (M - 22).toNat [d]).flatten).length<=19:=by rw[joq];omega
   refine jlg (by rw[Az];omega) (Ad (show 2<=1000 by decide) ?_);refine k _ 7 _ (.th (th2 (k:=6) (jfs (by decide +kernel)) (.tuple (by rw[Al,Az];omega) λx hx=>?_) (by decide)) (by decide)) (by decide) (by omega);rcases A6.mp hx with z | z
   ·rw[Ax.mp z];exact hS
   ·rw[jop z];exact hT.mono (by decide) (by decide)
theorem sgB2:sgB 2=320:=by decide
theorem jhs:∀ws n Q,jj1 ws n Q->ws.length=2:=λws n Q h=>by obtain⟨_,rfl,_⟩:=h;rfl
theorem jgx:∀ws n Q,jj1 ws n Q->jfi (jal ["_law_tape_here","_law_programs_here","_law_way","_law_sight_here"] ws) n {nx:=λ_ n=>Q (.d .none) n,rt:=Q}:=λws n0 Q h=>by
 obtain⟨ps,rfl,okp,hn,k⟩:=h;show jfi [some (.w .tp),some (.w (.d (pgD ps))),none,none] n0 _;refine jae (jgd (m:=6) rfl (by omega) (by decide) (by decide) λw w0 w1=>?_);dsimp only[Aw];refine jae (if_b (b:=decide (w=0)) (eqc rfl) (λe=>?_) λe=>?_)
 ·refine jak (c2_i (jac rfl (c3_i (jac rfl (jac rfl (c_i ⟨ps,0,rfl,by decide,okp,by show n0+1+20 < 2 ^ 39;omega,λd n' hd hn'=>?_⟩))))));have hn':n'<=n0+1+20:=hn';exact⟨d,rfl,hd,by omega,λd' j n'' hm hj hn''=>k d' j n'' hm hj (by omega)⟩
 dsimp only[jah];refine jae (if_b (b:=decide (w=1)) (eqc rfl) (λe=>?_) λe=>?_)
 ·refine jak (jn6 (c_i (w2_i (c2_i (jac rfl (of_i (jzw (c_i (Ad (show 1<=1000 by decide) ⟨["n"],_,rfl,rfl,by decide,λk hk=>by rw[Ax.mp hk];exact⟨by decide +kernel,by decide +kernel⟩,by omega,λfs n' hf1 hfs hpt _ hn'=>?_⟩)))))))));refine c_i (g0_i (w2_i (c_i (jb0 (m:=9) rfl (by omega) (by decide) (by decide) λr r0 r1=>addI (Ad (show 3<=1000 by decide) ?_)))));exact k _ 3 _ (.th (th3 (k:=2) (jfs (by decide +kernel)) ((jyx hfs).mono (by decide) (by decide)) (.int _ (by unfold B30;omega) (by unfold B30;omega)) (by decide)) (by decide)) (by decide) (by omega)
 dsimp only[jah];refine jae (show sSet 3 _ _ _ _ from c3_i (jac rfl (jac rfl (c_i ⟨ps,2,rfl,by decide,okp,by rw[sgB2];omega,λd n1 hd hn1=>?_⟩))));rw[sgB2]at hn1;dsimp only[Aw];have bent:∀(d:Aa) (L j:Nat) (n:Int) (K:DEnds),Th L j d->9<=L->L<=30->j<=12->n+70 < 2 ^ 39->(∀(d':Aa) (n':Int),Th (L+1) (j+2) d'->n'<=n+65->K.nx [some (.w .tp),some (.w (.d (pgD ps))),some (.w (.d (.int w))),some (.w (.d d'))] n')->sSet 3 (jad (jdp 20) (jaa (wVar 0) (jaa (wVar 3) aNil))) [some (.w .tp),some (.w (.d (pgD ps))),some (.w (.d (.int w))),some (.w (.d d))] n K:=λd L j n K hd h9 h30 hj hn hK =>
  c2_i (jac rfl (jac rfl ⟨d,L,j,rfl,hd,h9,h30,(show j<=19 by omega),by omega,λd' n' hd' hn'=>hK d' n' hd' (by omega)⟩))
 have last:∀(d:Aa) (L j:Nat) (n:Int),Th L j d->9<=L->L<=20->j<=12->n<=n0+500->(sSeq (sIf (cT (w2 (wVar 2) (wC (.int (5))) gEq)) (sSet 3 (jad (jdp 20) (jaa (wVar 0) (jaa (wVar 3) aNil)))) jah) (sRet (wVar 3))) [some (.w .tp),some (.w (.d (pgD ps))),some (.w (.d (.int w))),some (.w (.d d))] n {nx:=λ_ n=>Q (.d .none) n,rt:=Q}:=λd L j n hd h9 h20 hj hn'=>by
  refine jae (if_b (b:=decide (w=5)) (eqc rfl) (λe=>?_) λe=>?_)
  ·refine bent d L j n _ hd h9 (by omega) hj (by omega) λd' n' hd' hn''=>?_;dsimp only;exact jak (jac rfl (k d' (j+2) n' (.th (hd'.mono (by omega) (by omega)) (by omega)) (by omega) (by omega)))
  ·dsimp only[jah];exact jak (jac rfl (k d j n (.th (hd.mono (by omega) (by omega)) (by omega)) (by omega) (by omega)))
 refine jae (if_b (b:=decide (2 < w)) (gtc rfl) (λe=>?_) λe=>?_)
 ·exact bent d 9 _ n1 _ hd (by decide) (by decide) (by decide) (by omega) λd' n' hd' hn''=>last d' _ _ n' hd' (by decide) (by decide) (by decide) (by omega)
 ·exact last d 9 _ n1 hd (by decide) (by decide) (by decide) (by omega)
theorem jzj {S:Str} {n:Int} {Q:DQ} (k:Q (.d (.bool false)) n):gNe (.d (.str S)) (.d (.str S)) n Q:=by
 have e:neD (.str S) (.str S)=some false:=by simp[neD,eqD]
 show(match neD (.str S) (.str S)with | some r=>Q (.d (.bool r)) n | none=>False);rw[e];exact k
theorem jom {W V:DST} {δ:Sl} {n:Int} {K:DEnds} {u v:DT} {b:Bool} (hu:∀Q:DQ,Q (.d (.bool b)) n->u δ n Q) (hv:∀Q:DQ,Q (.d (.bool b)) n->v δ n Q) (k:V δ n K):sIf (cT (w2 (wB jff (jaa u aNil)) (wB jff (jaa v aNil)) gNe)) W V δ n K:=by
 refine if_n (λQ q=>ct_b (k:=false) (λQ q=>w2_i (b1_i (hu _ ?_))) q) k;refine(show jff [.d (.bool b)] n _ from b1_i (hv _ ?_));refine(show jff [.d (.bool b)] n _ from jzj q)
abbrev Zd:List Str:=["_law_script","_law_tape_here","_law_programs_here","_law_k","_law_thing_here","_law_count_here"]
theorem jsn:jyq (none::some (.w .tp)::Ap (List.length Zd - 2) none) 0 lawEnds:=by
 show jyq [none,some (.w .tp),none,none,none,none] 0 lawEnds;refine jae (show sSet 2 _ _ _ _ from c1_i (jac rfl (Ad rfl ⟨by decide,λps n0 hp hn0=>?_⟩)));dsimp only[Aw];refine jae ?_;unfold sFor jax;refine c_i (Ad ⟨by decide,by decide⟩ ?_);refine jbw (λds δ n=>∃(x3 x4 x5:Option SV),δ=[none,some (.w .tp),some (.w (.d (pgD ps))),x3,x4,x5]/\n+1000*(ds.length:Int)<=20000) (λδ n I=>?_) (λd r δ n N I kN=>?_) _ _ _ ⟨none,none,none,rfl,by rw[ja9];show n0+1000*12<=20000;omega⟩
 ·obtain⟨x3,x4,x5,rfl,hn⟩:=I;dsimp only;exact jak (c_i (show lawEnds.rt _ _ from rfl))
 ·obtain⟨x3,x4,x5,rfl,hn⟩:=I;rw[Ak]at hn;dsimp only[jaf,Aw];refine jae (show sSet 4 _ _ _ _ from c2_i (jac rfl (jac rfl ⟨ps,rfl,hp,by omega,λt j n1 hm hj hn1=>?_⟩)));dsimp only[Aw];refine jae (show sSet 5 _ _ _ _ from c2_i (jac rfl (jac rfl ⟨ps,t,j,rfl,hm,by omega,?_⟩)));dsimp only[Aw];have hd:okDp 44 t:=jzy (jzk hm) (by omega);have e:jdt (cntO (sgT ps) (44+1)) [t] 0=(match cntO (sgT ps) 45 t with | some s=>decide ((s:Int)<=40) | none=>false):=by
   show jdt (cntO (sgT ps) 45) [t] 0=_;unfold jdt;rw[A3,Be];cases cntO (sgT ps) 45 t with
   |none=>rfl
   |some s =>
    show decide (0+(s+0)<=40)=decide ((s:Int)<=40);exact decide_eq_decide.mpr (by omega)
  refine jom (b:=jdt (cntO (sgT ps) (44+1)) [t] 0) (λQ q=>c2_i (jac rfl (jac rfl ⟨ps,t,44,rfl,hd,q⟩))) (λQ q=>?_) (kN _ _ ⟨_,_,_,rfl,by omega⟩);rw[e]at q;cases hc:cntO (sgT ps) 45 t with
  |none =>
   rw[hc]at q;exact jd0 (a:=false) (b:=true) (λQ q=>w2_i (jac rfl (c_i q))) (λz=>nomatch z) q
  |some s =>
   rw[hc]at q;exact jd0 (a:=true) (b:=decide ((s:Int)<=40)) (λQ q=>w2_i (jac rfl (c_i q))) (λ_ Q q=>w2_i (jac rfl (c_i q))) q
def top (i:Nat):Stmt:=PySem.Challenge.pw_noteboard_k37_sights_judged.main.body.getD i (.Pass ⟨0,0,0,0⟩)
abbrev jlz:Stmt:=top 33
abbrev jl0:Stmt:=top 34
abbrev jq8:Stmt:=top 54
abbrev jwb:Stmt:=jlz
abbrev jwd:Stmt:=jl0
end Nb
namespace Nb
open PySem L2
section
variable {P:Bi} {w:Bz} {K:Ab} {mg:Str->Option Ae} {base:Heap}
abbrev Zb:List Str:=["_law_script"]
theorem jv5:FnScope Zb Zb (jam jwb):=⟨rfl,rfl,rfl,by decide +kernel,rfl,by decide +kernel,by decide +kernel⟩
theorem jun {f:Addr} {fd:B5} (F:Fun K "_law_tape" "_law_tape" jwb f fd):FnOk P w K mg base CX0 1 f fd Zb (jki K):=by
 refine F.ok jv5 (λvs H Q E h=>?_) (λcdv A outer s H vs Q E hr h=>?_)
 ·obtain⟨a,ns,rfl,_⟩:=h;rfl
 ·obtain⟨a,ns,rfl,hS,hl,k⟩:=h;refine⟨_,jet (jkq (jo4 (jay (jms jt1 (pv 0) jo2 (jo1 jas)) (jay jas (jay jas (jay (jo4 (jay jmt (jay jmt (jay jmt (jay jas (jay jas (jay jas (jay jas jcn)))))))) jcn)))))),?_⟩;refine⟨_,rfl,_,rfl,a,_,rfl,hS,λp hp=>⟨small (by simp),λg hg=>⟨small (by simp),λq hq=>?_⟩⟩⟩;rw[j0g (by rw[Ag];exact hl)]at hg hq ⊢;have hgp:g≠p:=λz=>by rw[z,jaj]at hg;cases hg
  have hg0:H g=none:=by rw[jai hgp]at hg;exact hg
  have hqg:q≠g:=λz=>by rw[z,jaj]at hq;cases hq
  rw[jai hqg]at hq;have hqp:q≠p:=λz=>by rw[z,jaj]at hq;cases hq
  have hq0:H q=none:=by rw[jai hqp]at hq;exact hq
  refine k q ⟨p,g⟩ _ ⟨⟨0,0,jaj,Int.le_refl _,Int.le_refl _⟩,by rw[jai hqp.symm,jai hgp.symm,jaj],hl,(λz=>by rw[jai hqg.symm,jaj];rfl),hqg.symm⟩ λb o e=>?_;rw[jai (jag e hq0),jai (jag e hg0),jai (jag e hp)];exact e
abbrev Zg:List Str:=["_law_tape_here","_law_many_here"]
theorem scDraw:FnScope ["_law_tape_here","_law_many_here","_law_found","_law_spot","_law_cell","_law_mixed"] Zg (jam jwd):=⟨rfl,rfl,rfl,by decide +kernel,rfl,by decide +kernel,by decide +kernel⟩
theorem jr7 {R:Prop} {G:Int->Prop} (use:(∀c,G c)->R) (fin:∀c,G c):R:=use fin
theorem jzp {R G:Prop} (use:G->R) (fin:G):R:=use fin
theorem juo {f:Addr} {fd:B5} (F:Fun K "_law_draw" "_law_draw" jwd f fd) (zl:mg "len"=none):FnOk P w K mg base CX0 1 f fd Zg js2:=by
 refine F.ok scDraw (λvs H Q E h=>?_) (λcdv A outer s H vs Q E hr h=>?_)
 ·obtain⟨t,l,ns,n,many,rfl,_⟩:=h;rfl
 ·obtain⟨t,l,ns,n,many,rfl,T,hn,hm0,hm1,k⟩:=h;obtain⟨a,b,ht,ha0,ha1⟩:=T.ob;have ntl:=T.ne;have hl:=T.ls;have hlen:=T.len;refine⟨_,jbd (jri (jge op_gt (jfz ix_list (pv 0) jas (λ_ _=>rfl)) jas (jkw _))
    (jbd (jd7 (i:=2) scDraw.nd rfl (Cq rfl) (jbz jfe (jfz ix_list (pv 0) jas (λ_ _=>rfl)) (pv 1)))
     (jbd (jkr (jbz jph (jfz ix_list (pv 0) jas (λ_ _=>rfl)) (pv 1)) (jmr (pv 0) jas jf6))
     (jet (jkq (pv 2))))) ji1)
   (jbd (jd7 (i:=3) scDraw.nd rfl (Cq rfl) (jfz ix_list (pv 0) jas (λ_ _=>rfl)))
   (jbd (jkr (jbz op_add (pv 3) jas) (jmr (pv 0) jas jf6))
   (jbd (jd7 (i:=4) scDraw.nd rfl (Cq rfl) jas)
   (jbd (jri (jge op_gt (jd8 jb9 (by rfl) zl PySem.boot_len (jay (jfz ix_list (pv 0) jas (λ_ _=>rfl)) jcn)) jas (jkw _))
    (jet (jd7 (i:=4) scDraw.nd rfl (Cq rfl) (jfz ix_list (jfz ix_list (pv 0) jas (λ_ _=>rfl))
     (jbz jfe (pv 3) (jd8 jb9 (by rfl) zl PySem.boot_len (jay (jfz ix_list (pv 0) jas (λ_ _=>rfl)) jcn))) (λ_ _=>rfl)))) ji1)
   (jbd (jri (PW.pt (js8 (jge op_ge (pv 4) (jbz js9 jas jas) (jkw _))
     (joy (jge op_lt (pv 3) (jd8 jb9 (by rfl) zl PySem.boot_len (jay (jfz ix_list (pv 0) jas (λ_ _=>rfl)) jcn)) (jkw _)))))
    (jbd (jkr (jbz jph (pv 4) (pv 1)) (jmr (pv 0) jas jf6)) (jet (jkq (jbz jfe (pv 4) (pv 1))))) ji1)
   (jbd (jd7 (i:=5) scDraw.nd rfl (Cq rfl) (jbz jfe (jbz jic (jbz op_add (jbz op_add (jbz jfe (pv 4) jas) (jbz jic (jbz jic jas (pv 3)) (pv 3))) jas) jas) jas))
   (jet (jkq (jbz jfe (jbz jfe (jbz jic (jbz jfe (jbz op_add (jbz jic (pv 5) jas) (jbz jic (pv 3) jas)) jas) jas) jas) (pv 1)))))))))),?_⟩
  -- tape[2] > 0
  refine⟨_,rfl,t,_,2,_,rfl,rfl,SqL.of ht,ja7 (j:=2) rfl,_,_,rfl,rfl,_,rfl,?_⟩;refine ite2 (λ_=>?_) (λ_=>?_)
  ·-- found=tape[2] % many;tape[2]=tape[2] // many;return found
   refine⟨_,rfl,t,_,2,_,rfl,rfl,SqL.of ht,ja7 (j:=2) rfl,_,rfl,_,_,rfl,rfl,hm0,?_⟩;refine⟨_,rfl,t,_,2,_,rfl,rfl,SqL.of ht,ja7 (j:=2) rfl,_,rfl,_,_,rfl,rfl,⟨hm0,hm1⟩,?_⟩;refine⟨_,rfl,t,_,2,2,rfl,rfl,ht,rfl,?_⟩;refine⟨_,rfl,?_⟩;refine k _ _ (Int.emod_nonneg _ (by omega)) (D3 _ hm0) ⟨⟨a,b / many,jaj,ha0,by omega⟩,by rw[jai ntl.symm];exact hl,hlen,(λz=>by rw[jai T.gne];exact T.ag z),T.gne⟩ Kp.tape
  ·-- spot=tape[1];tape[1]=spot+1;cell=0
   refine⟨_,rfl,t,_,1,_,rfl,rfl,SqL.of ht,ja7 (j:=1) rfl,?_⟩;refine⟨_,rfl,_,_,rfl,rfl,_,rfl,t,_,1,1,rfl,rfl,ht,rfl,?_⟩;have ht1:∀o,upd H t o t=some o:=λo=>jaj;have hl1:∀o,upd H t o l.s=some (.lst (ns.map V.int)):=λo=>by rw[jai ntl.symm];exact hl
   generalize hH1:upd H t (.lst (((.ref l.s::.int a::.int b::exOf l:List V)).set 1 (.int (a+1))))=H1;have g1:H1 t=some (.lst (.ref l.s::.int (a+1)::.int b::exOf l)):=by rw[<-hH1];exact jaj
   have g2:H1 l.s=some (.lst (ns.map V.int)):=by rw[<-hH1];exact hl1 _
   have g3:Kp t H H1:=by rw[<-hH1];exact Kp.tape
   have g4:jn7=true->H1 l.g=some (.lst jst):=λz=>by rw[<-hH1,jai T.gne];exact T.ag z
   refine⟨_,rfl,t,_,0,_,rfl,rfl,SqL.of g1,ja7 (j:=0) rfl,l.s,_,rfl,.inl (SqL.of g2),_,_,rfl,rfl,_,rfl,?_⟩;apply jr7
   case use =>
    intro fin;refine ite2 (λhp=>?_) (λ_=>?_)
    ·have hpos:(0:Int) < ((ns.map V.int).length:Int):=of_decide_eq_true hp;obtain⟨v,hv,hm⟩:=jvg (xs:=ns.map V.int) (r:=a % ((ns.map V.int).length:Int)) (Int.emod_nonneg _ (by omega)) (D3 _ hpos);obtain⟨c,_,rfl⟩:=Ca.mp hm;refine⟨_,rfl,t,_,0,_,rfl,rfl,SqL.of g1,ja7 (j:=0) rfl,_,rfl,_,rfl,t,_,0,_,rfl,rfl,SqL.of g1,ja7 (j:=0) rfl,l.s,_,rfl,.inl (SqL.of g2),_,_,rfl,rfl,hpos,l.s,_,_,.int c,rfl,rfl,SqL.of g2,hv,?_⟩;exact fin c
    ·exact fin 0
   case fin =>
    intro c;refine⟨_,rfl,_,_,rfl,rfl,⟨by decide,by decide,by decide⟩,_,_,rfl,rfl,_,rfl,?_⟩;apply jzp
    case use =>
     intro fin;refine ite2 (λ_=>?_) (λ_=>?_)
     ·refine⟨_,rfl,_,rfl,t,_,0,_,rfl,rfl,SqL.of g1,ja7 (j:=0) rfl,l.s,_,rfl,.inl (SqL.of g2),_,_,rfl,rfl,_,rfl,?_⟩;refine ite2 (λ_=>?_) (λ_=>fin);refine⟨_,rfl,_,rfl,_,_,rfl,rfl,⟨hm0,hm1⟩,_,rfl,t,_,2,2,rfl,rfl,g1,rfl,_,rfl,_,rfl,_,_,rfl,rfl,hm0,?_⟩;exact k _ _ (Int.emod_nonneg _ (by omega)) (D3 _ hm0) ⟨⟨a+1,_,jaj,by omega,by omega⟩,by rw[jai ntl.symm];exact g2,hlen,(λz=>by rw[jai T.gne];exact g4 z),T.gne⟩ (g3.trans Kp.tape)
     ·exact iteF fin
    case fin =>
     refine⟨_,rfl,_,_,rfl,rfl,(by show(0:Int) < 999331;decide),_,rfl,_,_,rfl,rfl,.inl ⟨by decide,by decide⟩,_,rfl,_,_,rfl,rfl,.inl ⟨by omega,by omega⟩,_,_,rfl,rfl,_,_,rfl,rfl,_,_,rfl,rfl,.inr ⟨by decide,by decide⟩,_,_,rfl,rfl,(by show(0:Int) < 999961;decide),?_⟩;refine⟨_,rfl,_,_,rfl,rfl,.inr ⟨by decide,by decide⟩,_,rfl,_,_,rfl,rfl,.inr ⟨by decide,by decide⟩,_,_,rfl,rfl,_,_,rfl,rfl,(by show(0:Int) < 999953;decide),_,_,rfl,rfl,.inr ⟨by decide,by decide⟩,_,_,rfl,rfl,(by show(0:Int) < 524287;decide),_,rfl,_,_,rfl,rfl,hm0,?_⟩;exact k _ _ (Int.emod_nonneg _ (by omega)) (D3 _ hm0) ⟨⟨a+1,b,g1,by omega,by omega⟩,g2,hlen,g4,T.gne⟩ g3
end
end Nb
namespace Nb
open PySem L2 DL
theorem ls1 {α:Type} {us:List α} (h:us.length=1):∃a,us=[a]:=match us,h with | [a],_=>⟨a,rfl⟩
theorem ls2 {α:Type} {us:List α} (h:us.length=2):∃a b,us=[a,b]:=match us,h with | [a,b],_=>⟨a,b,rfl⟩
theorem ls3 {α:Type} {us:List α} (h:us.length=3):∃a b c,us=[a,b,c]:=match us,h with | [a,b,c],_=>⟨a,b,c,rfl⟩
theorem ls4 {α:Type} {us:List α} (h:us.length=4):∃a b c d,us=[a,b,c,d]:=match us,h with | [a,b,c,d],_=>⟨a,b,c,d,rfl⟩
theorem ls5 {α:Type} {us:List α} (h:us.length=5):∃a b c d e,us=[a,b,c,d,e]:=match us,h with | [a,b,c,d,e],_=>⟨a,b,c,d,e,rfl⟩
theorem scM {N ps:List Str} {S:Dc} (h1:S.kind=.function:=by rfl) (h2:S.isCoroutine=false:=by rfl) (h3:S.isGenerator=false:=by rfl) (h4:N.Nodup:=by decide +kernel) (h5:N.take ps.length=ps:=by rfl) (h6:∀x∈ps,S.names.lookup x=some .local\/S.names.lookup x=some .cell:=by decide +kernel) (h7:∀y∈S.names,y.2≠.free:=by decide +kernel):FnScope N ps S:=⟨h1,h2,h3,h4,h5,h6,h7⟩
theorem d_cA {X:Cx} {e:Expr} {es:List Expr} {pos p:Pos} {tR:TA} {wR:DTA} {k k':Nat} {ps:List Str} {S:DSp} {x:Str} (h:Has X.prog X.w X.K X.mg X.base k x ps S) (hr:Room k' X.A) (ha:DA X (e::es) tR wR) (hk:k<=k') (hg:Gl X x) (hdb:(x==("__debug__":Str))=false) (he:Ay (e::es) X.env=(false,eval e X.env)::Ay es X.env) (hpl:(Di pos (Ay es X.env)).any (·.1)=false):DE X (.Call (.Name x p) (e::es) [] pos) (jlw (spOf S) [] E0 tR) (jad S wR):=ju5 h (hr.mono hk) hg ha hdb he hpl
def isL:NameKind->Bool
 |.local=>true
 |_=>false
def isF:NameKind->Bool
 |.free=>true
 |_=>false
def cFr (sc:Dc):List Str:=(sc.names.filter λy=>isF y.2).map (·.1)
def cN (sc:Dc):List Str:=((sc.names.drop 1).filter λy=>isL y.2).map (·.1)++cFr sc
def cCl (sc:Dc) (cells:List (Str×Addr)):List (Str×Addr):=(cFr sc).reverse.map λx=>(x,(cells.lookup x).getD 0)
def cRl (sc:Dc):List (Str×NameKind):=sc.names.map λy=>(y.1,bif isF y.2 then .cell else y.2)
inductive Frs (X:Cx) (sc:Dc):List (Option Nat)->List Str->Prop
 |nil:Frs X sc [] []
 |own {f:List (Option Nat)} {x:Str} {N:List Str} (h:Frs X sc f N):Frs X sc (none::f) (x::N)
 |free {f:List (Option Nat)} {x:Str} {N:List Str} {i:Nat} (h1:X.N[i]?=some x) (h2:Vis X.env.scope x) (h3:X.env.kindOf x=some .cell\/X.env.kindOf x=some .free) (h4:(cRl sc).lookup x=some .cell\/(cRl sc).lookup x=some .free) (h5:(cCl sc X.env.cells).lookup x=X.env.cells.lookup x) (h:Frs X sc f N):Frs X sc (some i::f) (x::N)
theorem Frs.len {X:Cx} {sc:Dc} {f:List (Option Nat)} {N:List Str} (h:Frs X sc f N):f.length=N.length:=by
 induction h with
 |nil=>rfl
 |own _ ih=>rw[Ak,Ak,ih]
 |free _ _ _ _ _ _ ih=>rw[Ak,Ak,ih]
theorem j0h {X:Cx} {sc:Dc} {f:List (Option Nat)} (h1:closureFor sc X.env=pure (cCl sc X.env.cells)) (h2:sc.kind=.function) (h3:∀y∈sc.names,y.2≠.cell) (h4:∀y∈sc.names,y.2=.local->sc.names.lookup y.1=some .local) (h5:((cFr sc).all λx=>(X.env.cells.lookup x).isSome)=true) (h6:(relabel sc X.env).names=cRl sc) (h7:∀y∈cRl sc,(y.2=.cell\/y.2=.free)->y.1∈(cFr sc).reverse) (h8:Frs X sc f (cN sc)):CompSc X (cN sc) sc (cCl sc X.env.cells) f:=by
 refine⟨h1,h2,h3,h4,jns λy hy=>?_,jsf _ _ h6 (show(cCl sc X.env.cells).map (·.1)=(cFr sc).reverse by unfold cCl;rw[List.map_map];exact List.map_id' _) h7,h8.len,?_⟩
 ·obtain⟨x,hx,rfl⟩:=Ca.mp hy;obtain⟨c,hc⟩:=Option.isSome_iff_exists.mp (Dj.mp h5 x (List.mem_reverse.mp hx));show X.env.cells.lookup x=some ((X.env.cells.lookup x).getD 0);rw[hc];rfl
 ·intro j i h;rw[h6];clear h1 h2 h3 h4 h5 h6 h7;generalize cN sc=N at h8 ⊢
  induction h8 generalizing j with
  |nil=>cases h
  |own _ ih=>cases j with
   |zero=>cases h
   |succ j=>exact ih j h
  |free a b c d e _ ih=>cases j with
   |zero=>cases h;exact⟨_,rfl,a,b,c,d,e⟩
   |succ j=>exact ih j h
theorem gFr {X:Cx} {sc:Dc} {f:List (Option Nat)} {N:List Str} (h:Frs X sc f N):Frs X sc f N:=h
theorem kC {X:Cx} {N:List Str} {sc:Dc} {cl:List (Str×Addr)} {s:Ah} {H:Hp} {fp:List Addr} {K:Ab} (h:X.K=K):(jau X N sc cl s H fp).K=K:=h
theorem nC {X:Cx} {N:List Str} {sc:Dc} {cl:List (Str×Addr)} {s:Ah} {H:Hp} {fp:List Addr} (h:N.Nodup):(jau X N sc cl s H fp).N.Nodup:=h
def zL:List Str:=["all","any","bool","int","isinstance","len","list","range","repr","str","sum","tuple"]
theorem zU {mg:Str->Option Ae} {x:Str} (z:∀x∈zL,mg x=none) (h:x∈zL):mg x=none:=z x h
theorem jyi:Bh "sum"=some (.builtin "sum"):=by decide +kernel
section
variable {P:Bi} {w:Bz} {K:Ab} {mg:Str->Option Ae} {base:Heap} {fa:Addr} {fd:B5}
theorem gDE {X:Cx} {e:Expr} {t:TE} {w:DT} (h:DE X e t w):DE X e t w:=h
theorem gDA {X:Cx} {e:List Expr} {t:TA} {w:DTA} (h:DA X e t w):DA X e t w:=h
theorem gDS {X:Cx} {e:Stmt} {t:TS} {w:DST} (h:DS X e t w):DS X e t w:=h
theorem gDSs {X:Cx} {e:List Stmt} {t:TS} {w:DST} (h:DSs X e t w):DSs X e t w:=h
theorem gDC {X:Cx} {e:Expr} {t:TT} {w:DTT} (h:DC X e t w):DC X e t w:=h
theorem gDF {X:Cx} {e:Expr} {t:TE} {w:DTF} (h:DF X e t w):DF X e t w:=h
theorem gDI {X:Cx} {g e:Expr} {t:TI} {w:DTI} (h:DI X g e t w):DI X g e t w:=h
theorem jzb {X:Cx} {b rest:List Stmt} {st:Stmt} {T:TS} {W:DST} (e:b=st::rest) (h:DSs X (st::rest) T W):DSs X b T W:=e▸h
theorem bnd {x:Str} {st:Stmt} {ps:List Str} (F:Fun K x x st fa fd) (h:∀(kV doc pm:Ae) (an:Option Addr) (cdv ct:Ae) (us:List Ae),us.length=ps.length->bindArgs (Dg x x (jdu st) (jbm st) (jam st) .none kV doc pm an cdv ct) ⟨us,[]⟩=pure (ps.zip us):=by
 intro _ _ _ _ _ _ us hl
 first
  |obtain⟨_,rfl⟩:=ls1 hl;rfl
  |obtain⟨_,_,rfl⟩:=ls2 hl;rfl
  |obtain⟨_,_,_,rfl⟩:=ls3 hl;rfl
  |obtain⟨_,_,_,_,rfl⟩:=ls4 hl;rfl
  |obtain⟨_,_,_,_,_,rfl⟩:=ls5 hl;rfl):Binds K fd ps []:=F.binds h
def Bnd (x:Str) (st:Stmt) (ps:List Str):Prop:=∀{K:Ab} {fa:Addr} {fd:B5},Fun K x x st fa fd->Binds K fd ps []
def Wire (P:Bi) (w:Bz) (K:Ab) (mg:Str->Option Ae) (base:Heap) (k:Nat) (x:Str) (i:Nat) (fa:Addr) (N:List Str) (b:List Stmt) (W:DST):Prop:=N.Nodup->∀(cdv:Ae) (A:Ce) (outer:List Env) (s:Ah) (H:Hp) (E:XK),Room k (A.deeper (Dd x (jam (top i)) s.heap.objs.size fa cdv))->∃T,DSs (cxOf CX0 P w K mg base N x (jam (top i)) fa cdv A outer s H E).nox b T W
theorem auD {k:Nat} {x:Str} {i:Nat} {N:List Str} {b:List Stmt} {W:DST} (h:N.Nodup->∀(cdv:Ae) (A:Ce) (outer:List Env) (s:Ah) (H:Hp) (E:XK),Room k (A.deeper (Dd x (jam (top i)) s.heap.objs.size fa cdv))->∃T,DSs (cxOf CX0 P w K mg base N x (jam (top i)) fa cdv A outer s H E).nox b T W:=by
 intro nd cdv A outer s H E hr;apply C4;apply jzb (by exact rfl)
 repeat' first
  |with_reducible first | exact jym | exact jyl | exact jvd | exact jyk | exact jtk | exact PySem.boot_len | exact jme | exact PyProof.Rows.boot_range | exact jvc | exact jyj | exact jyi | exact jsm
  |with_reducible first | apply Room.units | apply Room.units0 | apply Room.hd | apply Room.gd
  |exact rfl
  |exact Cq rfl
  |exact By (Cq rfl)
  |exact By (By rfl)
  |exact By rfl
  | (with_reducible apply gDE;with_reducible first | apply jzz | apply j0d | apply d_cA | apply jz3 | apply j0b | apply jz0 | apply je0 (jk7 ?_) jml ?_ ?_ ?_ ?_ ?_ ?_ ?_ ?_ | apply j0f | apply jyb | apply d_bl | apply jz2 | apply j0a | apply ju2 | apply jz8 | apply je0 (jk7 ?_) jq1 ?_ ?_ ?_ ?_ ?_ ?_ ?_ ?_ | apply ju4 jkv jkk jkv jkk ?_ ?_ ?_ ?_ | apply jyc | apply jya | apply jye | apply jnx (jpi ?_ ?_) jly | apply jyf | apply je0 (jqj ?_) jt0 ?_ ?_ ?_ ?_ ?_ ?_ ?_ ?_ | apply jjl (jgt ?_) jnj ?_ ?_ ?_ ?_ ?_ ?_ ?_ ?_ | apply ju3 | apply d_or | apply jz9 | apply jx9 | apply jz7 | apply j0e | apply jz1 | apply jjl (jgt ?_) jh8 ?_ ?_ ?_ ?_ ?_ ?_ ?_ ?_ | apply je0 jnz jog ?_ ?_ ?_ ?_ ?_ ?_ ?_ ?_ | apply jz5 | apply jz4 | apply jnx jxa jv1 | apply jnx jta js3 | apply jnx jw8 jtv | apply jnx juk jqz | apply jnx jkv jkk | apply je0 (jqi ?_) jtz ?_ ?_ ?_ ?_ ?_ ?_ ?_ ?_ | apply jjl (jii ?_) joi ?_ ?_ ?_ ?_ ?_ ?_ ?_ ?_ | apply je0 (jqg ?_) jtq ?_ ?_ ?_ ?_ ?_ ?_ ?_ ?_ | apply jz6 | apply DF.d)
  | (with_reducible apply gDA;with_reducible first | apply jyp | apply j0q)
  | ((with_reducible apply gDS);first | ((with_reducible apply jv6);case hx=>exact rfl) | ((with_reducible apply jv7);case hx=>exact rfl) | with_reducible first | apply jy3 | apply s_if | apply jy2 | apply jza | apply jy5 | apply jy9 | apply jy1 | apply jt2 | apply jq7 | apply jwa | apply jv8 | apply jy4)
  | (with_reducible apply gDSs;with_reducible first | apply jy8 | apply jv9 | apply jy7 | apply jy6)
  | ((with_reducible apply gDC);first | (with_reducible apply DCW.cc;with_reducible first | apply cw_and | apply cw_or) | with_reducible first | apply jjp (jpi ?_ ?_) jly | apply j0m | apply jjp jta js3 | apply jjp (jpi ?_ ?_) jtx | apply jjp jw6 jv0 | apply jjp (jw5 ?_ ?_) js4 | apply jjp (jw9 ?_) jkm | apply jjp (jpa ?_) jtw | apply jjp (jw7 ?_ ?_) js4 | apply jjp jzg jvz | apply jvb jkv jkk jkv jkk ?_ ?_ ?_ ?_ | apply j0l | apply j0k)
  | (with_reducible apply gDF;with_reducible first | apply jzx | apply jp4 | apply jsa)
  | (with_reducible apply gDI;with_reducible first | apply jr3 | apply jxx | apply juw | apply jzo)
  |with_reducible first | apply jx2 | apply cw_or | apply cw_or1 | apply jur | apply cw_and | apply jxw | apply cw_and1 | apply jxd | apply jxe | apply juz | apply jx1 | apply jx0 | apply jxv | apply j0h
  |assumption
  |with_reducible first | apply kC | apply nC
  | ((with_reducible apply gFr);first | apply Frs.nil | apply Frs.own | apply Frs.free)
  |exact jkw _
  |exact λ_ _=>rfl
  |exact λ_=>rfl
  |exact zU (by assumption) (by decide +kernel)
  |exact PassesOwn.never
  |exact⟨rfl,rfl,rfl,rfl⟩
  |with_unfolding_all rfl
  |decide
  |decide +kernel
  |omega
  |exact By (By (Cq rfl))
  |exact By (By (By (Cq rfl)))
  |exact By (By (By (By rfl)))
  |intro(_:Ah) _ _
  |exact(0:Int)):Wire P w K mg base k x i fa N b W:=h
theorem hasD {i p:Nat} {N:List Str} {S:DSp} {W:DST} (k:Nat) (x:Str) (F:Fun K x x (top i) fa fd/\mg x=some (.ref fa)) (len:∀ws n Q,S ws n Q->ws.length=p) (body:∀ws n Q,S ws n Q->W (jal N ws) n {nx:=λ_ n=>Q (.d .none) n,rt:=Q}) (hp:(N.take p).length=p:=by rfl) (Sc:FnScope N (N.take p) (jam (top i)):=by exact scM) (b:Bnd x (top i) (N.take p):=by intro _ _ _ F;exact bnd F)
  (h:Wire P w K mg base k x i fa N (jbm (top i)) W:=by exact auD):Has P w K mg base (k+1) x (N.take p) S :=
 Has.mk' F.1 F.2 (b F.1) (Fun.okD F.1 Sc (λws n Q q=>by rw[hp];exact len ws n Q q) λcdv A outer s H E hr=>(h Sc.nd cdv A outer s H E hr).elim λT d=>⟨T,W,d,body⟩)
theorem hasR {i p:Nat} {N:List Str} {S:Nat->DSp} {W:DSp->DST} (c0:Nat) (x:Str) (F:Fun K x x (top i) fa fd/\mg x=some (.ref fa)) (len:∀d ws n Q,S d ws n Q->ws.length=p) (z:∀ws n Q,¬S 0 ws n Q) (body:∀d ws n Q,S (d+1) ws n Q->W (S d) (jal N ws) n {nx:=λ_ n=>Q (.d .none) n,rt:=Q}) (D:Nat) (hp:(N.take p).length=p:=by rfl) (Sc:FnScope N (N.take p) (jam (top i)):=by exact scM) (b:Bnd x (top i) (N.take p):=by intro _ _ _ F;exact bnd F)
  (h:∀k d:Nat,c0<=k->Has P w K mg base k x (N.take p) (S d)->Wire P w K mg base k x i fa N (jbm (top i)) (W (S d)):=by intro k d hk hS;exact auD):Has P w K mg base (c0+D) x (N.take p) (S D):=by
 induction D with
 |zero=>exact Has.mk' F.1 F.2 (b F.1) ⟨λvs H Q E h=>(by obtain⟨_,_,_,_,_,_,_,_,_,_,_,q,_⟩:=h;exact absurd q (z _ _ _)),λA outer s H args us vs Q E hr he hb hv h=>(by obtain⟨_,_,_,_,_,_,_,_,_,_,_,q,_⟩:=h;exact absurd q (z _ _ _))⟩
 |succ d ih=>exact Has.mk' F.1 F.2 (b F.1) (Fun.okD F.1 Sc (λws n Q q=>by rw[hp];exact len (d+1) ws n Q q) λcdv A outer s H E hr=>(h (c0+d) d (Nat.le_add_right _ _) ih Sc.nd cdv A outer s H E hr).elim λT e=>⟨T,W (S d),e,body d⟩)
theorem okL {fT:Addr} {fdT:B5} {i:Nat} {N:List Str} {W:DST} {s0:Stmt} {rest:List Stmt} (k:Nat) (F:Fun K "law" "law" (top i) fa fd) (GT:FnOk P w K mg base CX0 1 fT fdT Zb (jki K)) (bT:Binds K fdT Zb []) (mT:mg "_law_tape"=some (.ref fT)) (kT:B3 K (.ref fT)=true) (hW:W (none::some (.w .tp)::Ap (N.length - 2) none) 0 lawEnds) (e:jbm (top i)=s0::rest) (h0:N.Nodup->∀(cdv:Ae) (A:Ce) (outer:List Env) (s:Ah) (H:Hp) (E:XK),Room k (A.deeper (Dd "law" (jam (top i)) s.heap.objs.size fa cdv))->PS (cxOf CX0 P w K mg base N "law" (jam (top i)) fa cdv A outer s H E).nox s0 (tAsg (jlw (jki K) [] E0 (jfx (tVar 0) tNil)) (jey 1))) (hN:∀v,start N [v]=some v::none::Ap (N.length - 2) none:=by intro _;rfl) (Sc:FnScope N Zb (jam (top i)):=by exact scM)
  (h:Wire P w K mg base k "law" i fa N rest W:=by exact auD):FnOk P w K mg base CX0 (k+1) fa fd Zb (DL.spLaw K) :=
 jxk F Sc GT bT mT kT hN hW λcdv A outer s H E hr=>(h Sc.nd cdv A outer s H E hr).elim λT d=>⟨s0,rest,T,e,h0 Sc.nd cdv A outer s H E hr,d⟩
end
abbrev oT (t:String) (d:Data):Obj:=⟨.type t,none,d,#[]⟩
structure Ds where
 i:Nat
 x:Str
 t:Nat
 l:Nat
 n:Nat
 r:Nat
 b:Bool
 v:Nat
 m:Nat
abbrev Ds.c (d:Ds):Nat:=if d.b then d.r+5 else d.r+3
abbrev Ds.f (d:Ds):Nat:=if d.b then d.r+6 else d.r+4
abbrev mOd (m:Nat):Ae:=[(.str "noteboard.values" 187),(.str "noteboard.patterns" 236),(.str "noteboard.stands" 284),(.str "noteboard.sights" 302),(.str "law_noteboard_k37_sights_judged" 371)].getD m .none
abbrev fdO (d:Ds):B5:=Dg d.x d.x (jdu (top d.i)) (jbm (top d.i)) (jam (top d.i)) .none .none .none (mOd d.m) none (.ref d.c) .none
abbrev oF (d:Ds):Obj:=oT "function" (.func (fdO d))
abbrev oC (d:Ds):Obj:=oT "code" (.fields #[.str d.x d.t,.str d.x (d.t+1),.str "/claim/cut.py" (d.t+2),.int d.l 0,.int d.n 0,.int 0 0,.int 0 0,.int 3 0,.ref d.r,.bool true,.int 181 0,.ref (d.r+1),.none,if d.b then .ref (d.r+2)else .none,if d.b then .ref (d.r+3)else .none,.ref (if d.b then d.r+4 else d.r+2),.int d.v 0,.int d.l 0,.str "/claim/cut.py" (d.v+1)])
abbrev eN (P:Params) (x:Str) (t:Nat) (v:Ae):DictEntry:=⟨PyData.keyHash P x,.str x t,v⟩
abbrev en (P:Params) (d:Ds):DictEntry:=eN P d.x (d.v+2) (.ref d.f)
def dL:List Ds:=[⟨4,"is_whole",195,5,1,15,true,199,0⟩,⟨5,"is_letters",202,7,2,22,false,205,0⟩,⟨6,"is_word",208,11,1,27,true,212,0⟩,⟨7,"is_number",215,13,1,34,true,219,0⟩,⟨8,"is_value",222,15,1,41,true,226,0⟩,⟨9,"is_name",229,17,1,48,true,233,0⟩,⟨12,"is_headed",240,21,3,55,true,246,1⟩,⟨13,"is_named",249,23,2,62,true,254,1⟩,⟨14,"is_term",257,25,1,69,true,261,1⟩,⟨15,"is_pattern_field",264,29,1,76,true,268,1⟩,⟨16,"has_field_count",271,33,1,83,true,275,1⟩,⟨17,"is_pattern",278,35,1,90,false,281,1⟩,⟨19,"is_within",286,38,2,95,true,291,2⟩,⟨20,"is_placed",294,40,2,102,true,299,2⟩,⟨24,"is_notes_sight",308,45,1,109,false,311,3⟩,⟨25,"is_hand",314,51,2,114,true,319,3⟩,⟨26,"is_at_sight",322,53,2,121,true,327,3⟩,⟨27,"is_ended_sight",330,57,2,128,true,335,3⟩,⟨28,"is_made_of_others",338,59,1,135,true,342,3⟩,⟨29,"others_in",345,63,1,142,true,349,3⟩,⟨30,"has_sight_form",352,67,2,149,true,357,3⟩,⟨31,"is_sight",360,71,2,156,true,368,3⟩,⟨33,"_law_tape",373,82,1,163,true,377,4⟩,⟨34,"_law_draw",380,84,2,170,true,389,4⟩,⟨35,"_law_value",392,99,1,177,true,396,4⟩,⟨36,"_law_size",399,101,1,184,true,403,4⟩,⟨37,"_law_pattern",406,103,2,191,true,417,4⟩,⟨38,"_law_template",420,120,2,198,true,428,4⟩,⟨39,"_law_term",431,129,2,205,true,436,4⟩,⟨40,"_law_act",439,133,3,212,true,449,4⟩,⟨41,"_law_program",452,146,1,219,false,455,4⟩,⟨42,"_law_programs",458,163,1,224,false,461,4⟩,⟨43,"_law_sight",464,168,3,229,false,467,4⟩,⟨44,"_law_odd",470,183,1,234,true,475,4⟩,⟨45,"_law_bent",478,187,2,241,true,485,4⟩,⟨46,"_law_is_text",488,197,2,248,false,491,4⟩,⟨47,"_law_is_whole",494,200,3,253,true,500,4⟩,⟨48,"_law_is_row",503,202,1,260,false,506,4⟩,⟨49,"_law_is_field",509,206,1,265,true,513,4⟩,⟨50,"_law_is_single",516,216,2,272,false,519,4⟩,⟨51,"_law_count",522,227,2,277,false,525,4⟩,⟨52,"_law_many",528,238,2,282,true,536,4⟩,⟨53,"_law_thing",539,248,2,289,true,546,4⟩,⟨54,"law",549,260,1,296,true,558,4⟩]
def KK (P:Params):Ab:=let e:=eN P
 (3,oT "dict" (.dict ([e "__name__" 165 (.str "law_noteboard_k37_sights_judged" 371),e "__doc__" 166 .none,e "__package__" 167 .none,e "__loader__" 168 (.builtin "__main__.__loader__#opaque"),e "__spec__" 169 .none,e "__annotations__" 170 (.ref 6),e "__builtins__" 171 (.ref 4),e "__file__" 173 (.str "/claim/cut.py" 172),e "__cached__" 174 .none,e "LONGEST_WORD" 190 (.int 8 189),e "LONGEST_NAME" 192 (.int 4 191),e "GREATEST_NUMBER" 194 (.int 99 193)]++((dL.drop 0).take 6).map (en P)++[e "MOST_FIELDS" 239 (.int 4 238)]++((dL.drop 6).take 8).map (en P)++[e "MOST_SIGHTS" 305 (.int 40 304),e "MOST_ASKED" 307 (.int 9 306)]++((dL.drop 14).take 30).map (en P)).toArray 59))::(dL.flatMap λd=>[(d.c,oC d),(d.f,oF d)])++[]
def aS:List Addr:=3::(dL.flatMap λd=>[d.c,d.f])++[]
abbrev pp:Bi:=PySem.Challenge.pw_noteboard_k37_sights_judged
abbrev qq:Bi:=PySem.W.view pp [54]
def lO:List Str:=(["LONGEST_WORD","LONGEST_NAME","GREATEST_NUMBER","is_whole","is_letters","is_word","is_number","is_value","is_name","MOST_FIELDS","is_headed","is_named","is_term","is_pattern_field","has_field_count","is_pattern","is_within","is_placed","MOST_SIGHTS","MOST_ASKED","is_notes_sight","is_hand","is_at_sight","is_ended_sight","is_made_of_others","others_in","has_sight_form","is_sight","_law_tape","_law_draw","_law_value","_law_size","_law_pattern","_law_template","_law_term","_law_act","_law_program","_law_programs","_law_sight","_law_odd","_law_bent","_law_is_text","_law_is_whole","_law_is_row","_law_is_field","_law_is_single","_law_count","_law_many","_law_thing"]:List String).map Str.ofString
abbrev xT:Ah->Bool:=λs=>PySem.W.xlAt qq [] s&&PySem.W.recOk (PySem.W.RowW.records PySem.Challenge.rw_noteboard_k37_sights_judged.row.toRowW) s
theorem aK:∀P,aS=(KK P).map (·.1):=λP=>by kernel_rfl
abbrev hK:PySem.W.Hook:=PySem.W.kHook KK aS aK
theorem left_:PySem.W.LeftO pp qq lO xT hK.obs hK.val 3000:=λw=>by kernel_rfl
def jx8 (s:Stmt):Pos:=match s with
 |.FunctionDef _ _ _ _ _ _ _ _ _ p=>p
 |_=>⟨0,0,0,0⟩
def dW:DefRec:=⟨"law",jdu jq8,jbm jq8,jam jq8,jx8 jq8⟩
theorem said_:PySem.Challenge.rw_noteboard_k37_sights_judged.wellSaid=true:=by kernel_rfl
theorem fnE (P:Params):(dL.map λd=>(PySem.W.nsIn (KK P) Cn d.x,(KK P).lookup d.f,PySem.W.codeIn (KK P) (.ref d.c) d.x))=dL.map λd=>(some (some (.ref d.f)),some (oF d),true):=by kernel_rfl
theorem jtf {α β:Type} {f g:α->β} {l:List α} (h:l.map f=l.map g) {j:Nat} {a:α} (e:l[j]?=some a):f a=g a:=by
 have:=congrArg (λl=>l[j]?) h;simp only[Bb,e,Option.map_some]at this;exact A9 this
theorem zE (P:Params):(zL.map λx=>PySem.W.nsIn (KK P) Cn x)=zL.map λ_=>some none:=by kernel_rfl
section
variable {P:Params} {h:Heap} {mg:Str->Option Ae} (X:(KK P).In h) (G:h.Ns Cn mg)
include X G
theorem fnK (j:Nat) (d:Ds) (e:dL[j]?=some d):(Fun (KK P) d.x d.x (top d.i) d.f (fdO d)/\mg d.x=some (.ref d.f))/\B3 (KK P) (.ref d.f)=true:=by
 have q:=jtf (fnE P) e;obtain⟨q1,q2⟩:=Prod.mk.inj q;obtain⟨q2,q3⟩:=Prod.mk.inj q2;have k:B3 (KK P) (.ref d.f)=true:=by
  unfold B3;simp only[q2]
 exact⟨⟨jx4 q2 q3 k,Dl X G q1⟩,k⟩
theorem zK (x:Str) (h:x∈zL):mg x=none:=by
 obtain⟨j,e⟩:=List.mem_iff_getElem?.mp h;exact PySem.W.mg_none_of X G (jtf (zE P) e)
end
abbrev pR:Bi:=PySem.W.OpenLaw.prog PySem.Challenge.rw_noteboard_k37_sights_judged
structure Cv where
 P:Bi
 w:Bz
 K:Ab
 mg:Str->Option Ae
 base:Heap
abbrev jar (c:Cv):Prop:=Has c.P c.w c.K c.mg c.base 1 "_law_draw" Zg jao
abbrev je9 (c:Cv):Prop:=Has c.P c.w c.K c.mg c.base 1 "is_whole" Zc (spJ jfb)
abbrev jdc (c:Cv):Prop:=Has c.P c.w c.K c.mg c.base 1 "is_letters" ["thing","longest"] jb2
abbrev jlj (c:Cv):Prop:=Has c.P c.w c.K c.mg c.base 2 "is_word" Zc (spJ (letB 8))
abbrev jhf (c:Cv):Prop:=Has c.P c.w c.K c.mg c.base 2 "is_number" Zc (spJ numB)
abbrev jip (c:Cv):Prop:=Has c.P c.w c.K c.mg c.base 3 "is_value" Zc (spJ jcl)
abbrev jll (c:Cv):Prop:=Has c.P c.w c.K c.mg c.base 2 "is_name" Zc (spJ (letB 4))
abbrev ja8 (c:Cv):Prop:=Has c.P c.w c.K c.mg c.base 1 "is_headed" ["thing","head","many"] jaq
abbrev jfa (c:Cv):Prop:=Has c.P c.w c.K c.mg c.base 3 "is_named" ["thing","head"] jcj
abbrev jlk (c:Cv):Prop:=Has c.P c.w c.K c.mg c.base 4 "is_term" Zc (spJ jiu)
abbrev jca (c:Cv):Prop:=Has c.P c.w c.K c.mg c.base 5 "is_pattern_field" Zc (spJ ja1)
abbrev jcf (c:Cv):Prop:=Has c.P c.w c.K c.mg c.base 1 "has_field_count" Zc (spJ cntB)
abbrev jfn (c:Cv):Prop:=Has c.P c.w c.K c.mg c.base 6 "is_pattern" Zc (spJ patB)
abbrev jck (c:Cv):Prop:=Has c.P c.w c.K c.mg c.base 2 "is_within" ["thing","most"] jj0
abbrev jhe (c:Cv):Prop:=Has c.P c.w c.K c.mg c.base 3 "is_placed" ["program","hand"] jsv
abbrev jct (c:Cv):Prop:=Has c.P c.w c.K c.mg c.base 7 "is_notes_sight" Zc (spJ nsgB)
abbrev jhg (c:Cv):Prop:=Has c.P c.w c.K c.mg c.base 3 "is_hand" Za jn3
abbrev jeq (c:Cv):Prop:=Has c.P c.w c.K c.mg c.base 4 "is_at_sight" Za jqs
abbrev jcu (c:Cv):Prop:=Has c.P c.w c.K c.mg c.base 4 "is_ended_sight" Za jqr
abbrev jb3 (c:Cv):Prop:=Has c.P c.w c.K c.mg c.base 2 "is_made_of_others" Zc (spJ jbl)
abbrev jhd (c:Cv):Prop:=Has c.P c.w c.K c.mg c.base 1 "others_in" ["sight"] jn2
abbrev jcv (c:Cv):Prop:=Has c.P c.w c.K c.mg c.base 8 "has_sight_form" Za jqq
abbrev jiq (c:Cv):Prop:=Has c.P c.w c.K c.mg c.base 9 "is_sight" Za jsw
abbrev jcb (c:Cv):Prop:=Has c.P c.w c.K c.mg c.base 2 "_law_value" Ze jfl
abbrev jd3 (c:Cv):Prop:=Has c.P c.w c.K c.mg c.base 2 "_law_size" Ze jim
abbrev jbp (c:Cv):Prop:=Has c.P c.w c.K c.mg c.base 3 "_law_pattern" Zf jin
abbrev jdd (c:Cv):Prop:=Has c.P c.w c.K c.mg c.base 3 "_law_template" Zf jm7
abbrev jhh (c:Cv):Prop:=Has c.P c.w c.K c.mg c.base 3 "_law_term" Zf jha
abbrev jis (c:Cv):Prop:=Has c.P c.w c.K c.mg c.base 4 "_law_act" ["_law_tape_here","_law_known","_law_open_ones"] jio
abbrev jdq (c:Cv):Prop:=Has c.P c.w c.K c.mg c.base 5 "_law_program" Ze jm6
abbrev jde (c:Cv):Prop:=Has c.P c.w c.K c.mg c.base 6 "_law_programs" Ze jj3
abbrev jfp (c:Cv):Prop:=Has c.P c.w c.K c.mg c.base 7 "_law_sight" ["_law_tape_here","_law_programs_here","_law_deep"] (jj2 3)
abbrev jir (c:Cv):Prop:=Has c.P c.w c.K c.mg c.base 2 "_law_odd" Ze jfm
abbrev jhj (c:Cv):Prop:=Has c.P c.w c.K c.mg c.base 23 "_law_bent" ["_law_tape_here","_law_thing_here"] (jdp 20)
abbrev jcd (c:Cv):Prop:=Has c.P c.w c.K c.mg c.base 1 "_law_is_text" ["_law_thing_here","_law_most"] jli
abbrev jb4 (c:Cv):Prop:=Has c.P c.w c.K c.mg c.base 1 "_law_is_whole" ["_law_thing_here","_law_least","_law_most"] jbo
abbrev jer (c:Cv):Prop:=Has c.P c.w c.K c.mg c.base 2 "_law_is_row" ["_law_thing_here"] jj4
abbrev jdf (c:Cv):Prop:=Has c.P c.w c.K c.mg c.base 3 "_law_is_field" ["_law_field"] jhb
abbrev jcw (c:Cv):Prop:=Has c.P c.w c.K c.mg c.base 4 "_law_is_single" ["_law_programs_here","_law_thing_here"] jep
abbrev jfq (c:Cv):Prop:=Has c.P c.w c.K c.mg c.base 50 "_law_count" ["_law_programs_here","_law_thing_here"] (jhc 45)
abbrev jhi (c:Cv):Prop:=Has c.P c.w c.K c.mg c.base 2 "_law_many" ["_law_tape_here","_law_one"] jj5
abbrev jfo (c:Cv):Prop:=Has c.P c.w c.K c.mg c.base 24 "_law_thing" ["_law_tape_here","_law_programs_here"] jj1
section
variable {c:Cv} (F:∀(j:Nat) (d:Ds),dL[j]?=some d->(Fun c.K d.x d.x (top d.i) d.f (fdO d)/\c.mg d.x=some (.ref d.f))/\B3 c.K (.ref d.f)=true) (z:∀x∈zL,c.mg x=none) (u0:c.mg "GREATEST_NUMBER"=some (.int 99 193)) (u1:c.mg "LONGEST_NAME"=some (.int 4 191)) (u2:c.mg "LONGEST_WORD"=some (.int 8 189)) (u3:c.mg "MOST_ASKED"=some (.int 9 306)) (u4:c.mg "MOST_FIELDS"=some (.int 4 238)) (u5:c.mg "MOST_SIGHTS"=some (.int 40 304))
include F z u0 u1 u2 u3 u4 u5
theorem jlu:jar c:=Has.mk' (F 23 _ rfl).1.1 (F 23 _ rfl).1.2 (bnd (F 23 _ rfl).1.1) (jse (juo (F 23 _ rfl).1.1 (zU z (by decide +kernel))))
theorem jnc:je9 c:=hasD (i:=4) 0 "is_whole" (F 0 _ rfl).1 jkx jjr
theorem jkb:jdc c:=hasD (i:=5) 0 "is_letters" (F 1 _ rfl).1 jhp jgv
theorem jn8 (h0:jdc c):jlj c:=hasD (i:=6) 1 "is_word" (F 2 _ rfl).1 jl5 jk8
theorem jlp (h0:je9 c):jhf c:=hasD (i:=7) 1 "is_number" (F 3 _ rfl).1 ji8 jh1
theorem jnd (h0:jhf c) (h1:jlj c):jip c:=hasD (i:=8) 2 "is_value" (F 4 _ rfl).1 jky jjs
theorem joa (h0:jdc c):jll c:=hasD (i:=9) 1 "is_name" (F 5 _ rfl).1 jl7 jla
theorem jlq:ja8 c:=hasD (i:=12) 0 "is_headed" (F 6 _ rfl).1 ji9 jh2
theorem jnf (h0:ja8 c) (h1:jll c):jfa c:=hasD (i:=13) 2 "is_named" (F 7 _ rfl).1 jk0 jju
theorem jn9 (h0:ja8 c) (h1:jfa c) (h2:jip c):jlk c:=hasD (i:=14) 3 "is_term" (F 8 _ rfl).1 jl6 jk9
theorem jd5 (h0:ja8 c) (h1:jfa c) (h2:jlk c):jca c:=hasD (i:=15) 4 "is_pattern_field" (F 9 _ rfl).1 jdh jc5
theorem jes:jcf c:=hasD (i:=16) 0 "has_field_count" (F 10 _ rfl).1 jds jdj
theorem jka (h0:jcf c) (h1:jca c):jfn c:=hasD (i:=17) 5 "is_pattern" (F 11 _ rfl).1 jho jgu
theorem jln (h0:je9 c):jck c:=hasD (i:=19) 1 "is_within" (F 12 _ rfl).1 ji6 jhz
theorem jlo (h0:jck c):jhe c:=hasD (i:=20) 2 "is_placed" (F 13 _ rfl).1 ji7 jh0
theorem jft (h0:ja8 c) (h1:jfn c) (h2:jck c):jct c:=hasD (i:=24) 6 "is_notes_sight" (F 14 _ rfl).1 jeb jdw
theorem job (h0:jck c):jhg c:=hasD (i:=25) 2 "is_hand" (F 15 _ rfl).1 jl8 jlb
theorem jiv (h0:jhg c) (h1:ja8 c) (h2:jhe c):jeq c:=hasD (i:=26) 3 "is_at_sight" (F 16 _ rfl).1 jgk jf4
theorem jfu (h0:jhg c) (h1:ja8 c):jcu c:=hasD (i:=27) 3 "is_ended_sight" (F 17 _ rfl).1 jec jdx
theorem jdr (h0:ja8 c):jb3 c:=hasD (i:=28) 1 "is_made_of_others" (F 18 _ rfl).1 jcz jcy
theorem jlm:jhd c:=hasD (i:=29) 0 "others_in" (F 19 _ rfl).1 ji5 jhy
theorem jfv (h0:jeq c) (h1:jcu c) (h2:jb3 c) (h3:jct c):jcv c:=hasD (i:=30) 7 "has_sight_form" (F 20 _ rfl).1 jed jdy
theorem jne (h0:jcv c) (h1:jhd c):jiq c:=hasD (i:=31) 8 "is_sight" (F 21 _ rfl).1 jkz jjt
theorem jkc (h0:jar c):jcb c:=hasD (i:=35) 1 "_law_value" (F 24 _ rfl).1 jhr jgw
theorem jls (h0:jar c):jd3 c:=hasD (i:=36) 1 "_law_size" (F 25 _ rfl).1 jjb jh4
theorem jhl (h0:jar c) (h1:jd3 c) (h2:jcb c):jbp c:=hasD (i:=37) 2 "_law_pattern" (F 26 _ rfl).1 jf2 je4
theorem jf9 (h0:jar c) (h1:jd3 c) (h2:jcb c):jdd c:=hasD (i:=38) 2 "_law_template" (F 27 _ rfl).1 jeu jej
theorem jlr (h0:jar c) (h1:jcb c):jhh c:=hasD (i:=39) 2 "_law_term" (F 28 _ rfl).1 jja jh3
theorem jnh (h0:jar c) (h1:jbp c) (h2:jdd c) (h3:jhh c):jis c:=hasD (i:=40) 3 "_law_act" (F 29 _ rfl).1 jk2 jjw
theorem jhk (h0:jis c) (h1:jar c):jdq c:=hasD (i:=41) 4 "_law_program" (F 30 _ rfl).1 jf1 je3
theorem jga (h0:jar c) (h1:jdq c):jde c:=hasD (i:=42) 5 "_law_programs" (F 31 _ rfl).1 jev jek
theorem jke (h0:jar c) (h1:jbp c):jfp c:=hasR (S:=jj2) (i:=43) 4 "_law_sight" (F 32 _ rfl).1 jht (λ_ _ _ h=>h) jgy 3
theorem jng (h0:jar c):jir c:=hasD (i:=44) 1 "_law_odd" (F 33 _ rfl).1 jk1 jjv
theorem jlv (h0:jar c) (h1:jir c):jhj c:=hasR (S:=jdp) (i:=45) 3 "_law_bent" (F 34 _ rfl).1 jjd (λ_ _ _ h=>h) jh6 20
theorem jhm:jcd c:=hasD (i:=46) 0 "_law_is_text" (F 35 _ rfl).1 jf3 je5
theorem jgb:jb4 c:=hasD (i:=47) 0 "_law_is_whole" (F 36 _ rfl).1 jew jel
theorem jiw (h0:jcd c) (h1:jb4 c):jer c:=hasD (i:=48) 1 "_law_is_row" (F 37 _ rfl).1 jgl jf5
theorem jgc (h0:jer c) (h1:jcd c):jdf c:=hasD (i:=49) 2 "_law_is_field" (F 38 _ rfl).1 jex jem
theorem jfw (h0:jdf c) (h1:jb4 c):jcw c:=hasD (i:=50) 3 "_law_is_single" (F 39 _ rfl).1 jee jdz
theorem jkf (h0:jcw c):jfq c:=hasR (S:=jhc) (i:=51) 5 "_law_count" (F 40 _ rfl).1 jhu (λ_ _ _ h=>h) jgz 45
theorem jlt (h0:jar c):jhi c:=hasD (i:=52) 1 "_law_many" (F 41 _ rfl).1 jjc jh5
theorem jkd (h0:jhj c) (h1:jar c) (h2:jhi c) (h3:jbp c) (h4:jfp c):jfo c:=hasD (i:=53) 23 "_law_thing" (F 42 _ rfl).1 jhs jgx
theorem jyy (h0:jfq c) (h1:jde c) (h2:jfo c) (h3:jiq c):FnOk c.P c.w c.K c.mg c.base CX0 51 (Ds.f ⟨54,"law",549,260,1,296,true,558,4⟩) (fdO ⟨54,"law",549,260,1,296,true,558,4⟩) Zb (DL.spLaw c.K):=by
 have bT:=bnd (ps:=Zb) (F 22 _ rfl).1.1;have GT:=jun (P:=c.P) (w:=c.w) (mg:=c.mg) (base:=c.base) (F 22 _ rfl).1.1;exact okL (i:=54) (N:=Zd) 50 (F 43 _ rfl).1.1 GT bT (F 22 _ rfl).1.2 (F 22 _ rfl).2 jsn rfl λnd cdv A outer s H E hr=>jd7 (i:=1) nd rfl (Cq rfl) (jo5 GT (hr.mono (by decide)) rfl (F 22 _ rfl).1.2 (F 22 _ rfl).2 bT .nil jw2 (jay (pv 0) jcn))
end
theorem jvh (c:Cv) (F:∀(j:Nat) (d:Ds),dL[j]?=some d->(Fun c.K d.x d.x (top d.i) d.f (fdO d)/\c.mg d.x=some (.ref d.f))/\B3 c.K (.ref d.f)=true) (z:∀x∈zL,c.mg x=none) (u0:c.mg "GREATEST_NUMBER"=some (.int 99 193)) (u1:c.mg "LONGEST_NAME"=some (.int 4 191)) (u2:c.mg "LONGEST_WORD"=some (.int 8 189)) (u3:c.mg "MOST_ASKED"=some (.int 9 306)) (u4:c.mg "MOST_FIELDS"=some (.int 4 238)) (u5:c.mg "MOST_SIGHTS"=some (.int 40 304)):FnOk c.P c.w c.K c.mg c.base CX0 51 (Ds.f ⟨54,"law",549,260,1,296,true,558,4⟩) (fdO ⟨54,"law",549,260,1,296,true,558,4⟩) Zb (DL.spLaw c.K):=by
 have a__law_draw:=jlu F z u0 u1 u2 u3 u4 u5;have a_is_whole:=jnc F z u0 u1 u2 u3 u4 u5;have a_is_letters:=jkb F z u0 u1 u2 u3 u4 u5;have a_is_word:=jn8 F z u0 u1 u2 u3 u4 u5 a_is_letters;have a_is_number:=jlp F z u0 u1 u2 u3 u4 u5 a_is_whole;have a_is_value:=jnd F z u0 u1 u2 u3 u4 u5 a_is_number a_is_word;have a_is_name:=joa F z u0 u1 u2 u3 u4 u5 a_is_letters;have a_is_headed:=jlq F z u0 u1 u2 u3 u4 u5;have a_is_named:=jnf F z u0 u1 u2 u3 u4 u5 a_is_headed a_is_name;have a_is_term:=jn9 F z u0 u1 u2 u3 u4 u5 a_is_headed a_is_named a_is_value;have a_is_pattern_field:=jd5 F z u0 u1 u2 u3 u4 u5 a_is_headed a_is_named a_is_term;have a_has_field_count:=jes F z u0 u1 u2 u3 u4 u5;have a_is_pattern:=jka F z u0 u1 u2 u3 u4 u5 a_has_field_count a_is_pattern_field;have a_is_within:=jln F z u0 u1 u2 u3 u4 u5 a_is_whole;have a_is_placed:=jlo F z u0 u1 u2 u3 u4 u5 a_is_within;have a_is_notes_sight:=jft F z u0 u1 u2 u3 u4 u5 a_is_headed a_is_pattern a_is_within;have a_is_hand:=job F z u0 u1 u2 u3 u4 u5 a_is_within;have a_is_at_sight:=jiv F z u0 u1 u2 u3 u4 u5 a_is_hand a_is_headed a_is_placed;have a_is_ended_sight:=jfu F z u0 u1 u2 u3 u4 u5 a_is_hand a_is_headed;have a_is_made_of_others:=jdr F z u0 u1 u2 u3 u4 u5 a_is_headed;have a_others_in:=jlm F z u0 u1 u2 u3 u4 u5;have a_has_sight_form:=jfv F z u0 u1 u2 u3 u4 u5 a_is_at_sight a_is_ended_sight a_is_made_of_others a_is_notes_sight;have a_is_sight:=jne F z u0 u1 u2 u3 u4 u5 a_has_sight_form a_others_in;have a__law_value:=jkc F z u0 u1 u2 u3 u4 u5 a__law_draw;have a__law_size:=jls F z u0 u1 u2 u3 u4 u5 a__law_draw;have a__law_pattern:=jhl F z u0 u1 u2 u3 u4 u5 a__law_draw a__law_size a__law_value;have a__law_template:=jf9 F z u0 u1 u2 u3 u4 u5 a__law_draw a__law_size a__law_value;have a__law_term:=jlr F z u0 u1 u2 u3 u4 u5 a__law_draw a__law_value;have a__law_act:=jnh F z u0 u1 u2 u3 u4 u5 a__law_draw a__law_pattern a__law_template a__law_term;have a__law_program:=jhk F z u0 u1 u2 u3 u4 u5 a__law_act a__law_draw;have a__law_programs:=jga F z u0 u1 u2 u3 u4 u5 a__law_draw a__law_program;have a__law_sight:=jke F z u0 u1 u2 u3 u4 u5 a__law_draw a__law_pattern;have a__law_odd:=jng F z u0 u1 u2 u3 u4 u5 a__law_draw;have a__law_bent:=jlv F z u0 u1 u2 u3 u4 u5 a__law_draw a__law_odd;have a__law_is_text:=jhm F z u0 u1 u2 u3 u4 u5;have a__law_is_whole:=jgb F z u0 u1 u2 u3 u4 u5;have a__law_is_row:=jiw F z u0 u1 u2 u3 u4 u5 a__law_is_text a__law_is_whole;have a__law_is_field:=jgc F z u0 u1 u2 u3 u4 u5 a__law_is_row a__law_is_text;have a__law_is_single:=jfw F z u0 u1 u2 u3 u4 u5 a__law_is_field a__law_is_whole;have a__law_count:=jkf F z u0 u1 u2 u3 u4 u5 a__law_is_single;have a__law_many:=jlt F z u0 u1 u2 u3 u4 u5 a__law_draw;have a__law_thing:=jkd F z u0 u1 u2 u3 u4 u5 a__law_bent a__law_draw a__law_many a__law_pattern a__law_sight;exact jyy F z u0 u1 u2 u3 u4 u5 a__law_count a__law_programs a__law_thing a_is_sight
theorem all_K (w:Bz) (mg:Str->Option Ae) (fa:Addr) (h:Heap) (X:(KK w.params).In h) (G:h.Ns Cn mg) (hfa:mg "law"=some (.ref fa)) :
  ∃fd:B5,(∀(s:Ah) (u:Ae),BindsTo s fd ⟨[u],[]⟩ [("_law_script",u)])/\∀base:Heap,(KK w.params).In base->base.Ns Cn mg->FnOk pR w (KK w.params) mg base CX0 51 fa fd Zb (DL.spLaw (KK w.params)):=by
 have e:=hfa.symm.trans (fnK X G 43 ⟨54,"law",549,260,1,296,true,558,4⟩ rfl).1.2;cases e;exact⟨fdO ⟨54,"law",549,260,1,296,true,558,4⟩,λs v=>.of_eq rfl,λbase _ _=>jvh ⟨pR,w,KK w.params,mg,base⟩ (λj d e=>fnK X G j d e) (zK X G) (Dl X G (by kernel_rfl)) (Dl X G (by kernel_rfl)) (Dl X G (by kernel_rfl)) (Dl X G (by kernel_rfl)) (Dl X G (by kernel_rfl)) (Dl X G (by kernel_rfl))⟩
theorem walk {l:PySem.W.OpenLaw} {q:Bi} {loose:List Str} {XP:(Str->Option Ae)->Heap->Prop} {YP:Bz->Heap->Prop} {d:DefRec} {K:Params->Ab} (hn:l.most=some 63) (hdf:d.params.defaults=[])
  (hY:∀(w:Bz) (h:Heap),YP w h->(K w.params).In h)
  (F:∀(w:Bz) (mg:Str->Option Ae) (fa:Addr) (h:Heap),(K w.params).In h->h.Ns Cn mg->mg d.name=some (.ref fa) ->
   ∃fd:B5,(∀(s:Ah) (u:Ae),BindsTo s fd ⟨[u],[]⟩ [("_law_script",u)])/\∀base:Heap,(K w.params).In base->base.Ns Cn mg->FnOk l.prog w (K w.params) mg base CX0 51 fa fd Zb (DL.spLaw (K w.params))) :
  PySem.W.WalkO q loose XP YP l.row.toRowW d [] (λf vs=>PySem.call f vs) :=
 L2.walk_of (n:=63) (k:=51) (x:="_law_script") (CX:=λ_=>CX0) (sp:=λw=>DL.spLaw (K w.params)) hn (by decide) hdf ⟨rfl,by decide,by decide,rfl⟩ hY F (λ_ _ a ns hl _ hS=>⟨a,ns,rfl,hS,hl,λ_=>rfl⟩) λ_ _ _ _ _ z=>z
end Nb
open PySem PySem.W PyProof.Rows
set_option maxRecDepth 100000 in
set_option maxHeartbeats 0 in
theorem PySem.Challenge.cw_noteboard_k37_sights_judged_holds : PySem.Challenge.rw_noteboard_k37_sights_judged.Holds := by
 refine holds_law Nb.said_ λsaid=>?_;refine holds_open (q:=Nb.qq) (loose:=Nb.lO) (Xt:=Nb.xT) (XP:=XL Nb.qq []) (Yf:=Hook.obs Nb.hK) (Ya:=Hook.val Nb.hK) (YP:=Hook.says Nb.hK) (d:=Nb.dW) (kwd:=[]) (N:=3000) Nb.left_ (Hook.of Nb.hK) (Hook.keeps Nb.hK) (λs e=>xl_of s (Bool.and_eq_true_iff.mp e).1) XL.keeps (by kernel_rfl) (by kernel_rfl) (by kernel_rfl) (λs e=>recFacts_of (Bool.and_eq_true_iff.mp e).2) (by kernel_rfl) said (by decide +kernel) ⟨rfl,rfl,rfl,rfl,rfl,by decide +kernel⟩ ?hw ?hc
 (case hw=>w_witness2)
 exact Nb.walk (l:=PySem.Challenge.rw_noteboard_k37_sights_judged) (by kernel_rfl) (by kernel_rfl) (λw h Y=>kIn_of Y) Nb.all_K
