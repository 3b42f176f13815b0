import PyProof.Rows.All
import Wide.All
import OpenK.AllK
import Wide.FinOn
import Lean
import PyProof.EqAt
import PyProof.EqKinds
import PyProof.TupleCall
import PyProof.AttrMissHeap
import PyProof.Rows.RegFStrParts
import PySem.Challenge.RW_noteboard_k21_who_is_ready_and_gets
set_option Elab.async false
set_option linter.all false
set_option maxRecDepth 100000
namespace L2
open PySem PySem.Spec PyProof.Rows
noncomputable abbrev Key:=Sum Int Str
noncomputable def jm9:Key→Value→Bool
 |.inl k,v=>Value.isInt k v
 |.inr x,v=>Value.isStrOf x v
noncomputable def keyH (w:World):Key→Int
 |.inl k=>hashInt k
 |.inr x=>hashStr w x
theorem jbl:∀{k:Key} {v:Value},jm9 k v=true→(∃i t,k=Sum.inl i∧v=Value.int i t)∨(∃x t,k=Sum.inr x∧v=Value.str x t)
 |.inl i,v,h=>by
  obtain⟨t,e⟩:=Value.isInt_shape (k:=i) (v:=v) h
  exact .inl ⟨i,t,rfl,e⟩
 |.inr x,v,h=>by
  obtain⟨t,e⟩:=Value.isStrOf_shape (x:=x) (v:=v) h
  exact .inr ⟨x,t,rfl,e⟩
theorem jrj (i:Int) (t:Tok):jm9 (.inl i) (.int i t)=true:=by simp[jm9,Value.isInt]
theorem jri (x:Str) (t:Tok):jm9 (.inr x) (.str x t)=true:=by simp[jm9,Value.isStrOf]
theorem jzy (a b:Int):decide ((Sum.inl a:Key)=Sum.inl b)=(a==b):=by
 by_cases e:a=b
 ·subst e;simp
 ·have h:¬(Sum.inl a:Key)=Sum.inl b:=fun q=>e (Sum.inl.inj q)
  rw[decide_eq_false h]
  exact(beq_eq_false_iff_ne.mpr e).symm
theorem jzv (a b:Str):decide ((Sum.inr a:Key)=Sum.inr b)=decide (a=b):=by
 by_cases e:a=b
 ·subst e;simp
 ·have h:¬(Sum.inr a:Key)=Sum.inr b:=fun q=>e (Sum.inr.inj q)
  rw[decide_eq_false h,decide_eq_false e]
theorem jzx (a:Int) (b:Str):decide ((Sum.inl a:Key)=Sum.inr b)=false:=decide_eq_false (fun q=>nomatch q)
theorem jzw (a:Str) (b:Int):decide ((Sum.inr a:Key)=Sum.inl b)=false:=decide_eq_false (fun q=>nomatch q)
noncomputable def jbk (prog:Program) (w:World):PySem.KeyKind prog w Key where
 is:=jm9
 hash:=keyH w
 inj:=fun v a b ha hb=>by
  rcases jbl ha with⟨i,t,rfl,rfl⟩ | ⟨x,t,rfl,rfl⟩
  ·rcases jbl hb with⟨j,u,rfl,e⟩ | ⟨y,u,rfl,e⟩
   ·injection e with e1 _;rw[e1]
   ·exact nomatch e
  ·rcases jbl hb with⟨j,u,rfl,e⟩ | ⟨y,u,rfl,e⟩
   ·exact nomatch e
   ·injection e with e1 _;rw[e1]
 byValue:=fun k v h=>by
  rcases jbl h with⟨i,t,rfl,rfl⟩ | ⟨x,t,rfl,rfl⟩<;>rfl
 pyHash:=fun hv h=>by
  rcases jbl hv with⟨i,t,rfl,rfl⟩ | ⟨x,t,rfl,rfl⟩
  ·exact wpAny_pyHash_int h
  ·exact wpAny_pyHash_str h
 eqBool:=fun hu hv h=>by
  rcases jbl hu with⟨i,t,rfl,rfl⟩ | ⟨x,t,rfl,rfl⟩
  ·rcases jbl hv with⟨j,u,rfl,rfl⟩ | ⟨y,u,rfl,rfl⟩
   ·rw[jzy]at h;exact wpAny_eqBool_int h
   ·rw[jzx]at h;exact SeqAt.EqAt.int_str i t y u _ _ _ _ h
  ·rcases jbl hv with⟨j,u,rfl,rfl⟩ | ⟨y,u,rfl,rfl⟩
   ·rw[jzw]at h;exact SeqAt.EqAt.str_int x t j u _ _ _ _ h
   ·rw[jzv]at h;exact wpAny_eqBool_str h
 «strs»:=fun k x t v h=>by
  rcases jbl h with⟨i,u,rfl,e⟩ | ⟨y,u,rfl,e⟩
  ·exact nomatch e
  ·injection e with e1 _
   subst e1
   cases v<;>rfl
theorem jm8 (prog:Program) (w:World) (i:Int) (t:Tok):(jbk prog w).is (.inl i) (.int i t)=true:=jrj i t
theorem jm7 (prog:Program) (w:World) (x:Str) (t:Tok):(jbk prog w).is (.inr x) (.str x t)=true:=jri x t
inductive V where
 |non | bl (b:Bool) | int (i:Int) | str (x:Str) | byt (b:Array UInt8) | flt (b:UInt64) | ref (a:Addr) | ty (n:String)
 deriving DecidableEq
noncomputable def RelV:V→Value→Prop
 |.non,u=>u=Value.none
 |.bl b,u=>u=Value.bool b
 |.int i,u=>∃t,u=Value.int i t
 |.str x,u=>∃t,u=Value.str x t
 |.byt b,u=>∃t,u=Value.bytes b t
 |.flt b,u=>∃t,u=Value.float b t
 |.ref a,u=>u=Value.ref a
 |.ty n,u=>u=Value.type n
noncomputable abbrev Vals:List V→List Value→Prop:=Paired RelV
theorem Vals.length {xs:List V} {us:List Value} (r:Vals xs us):xs.length=us.length:=Paired.length r
theorem Vals.get:∀{xs:List V} {us:List Value} {i:Nat} {x:V},Vals xs us→xs[i]?=some x→∃u,us[i]?=some u∧RelV x u
 |_,_,_,_,.nil,e=>by simp at e
 |_,_,0,_,.cons r _,e=>by simp at e;subst e;exact⟨_,rfl,r⟩
 |_,_,i+1,x,.cons _ t,e=>by
  obtain⟨u,h1,h2⟩:=Vals.get (i:=i) (x:=x) t (by simpa using e)
  exact⟨u,by simpa using h1,h2⟩
theorem Vals.set {x:V} {u:Value} (r:RelV x u):∀{xs:List V} {us:List Value} (i:Nat),Vals xs us→Vals (xs.set i x) (us.set i u)
 |_,_,_,.nil=>.nil
 |_,_,0,.cons _ t=>.cons r t
 |_,_,i+1,.cons q t=>.cons q (Vals.set r i t)
theorem Vals.append:∀{xs ys:List V} {us ws:List Value},Vals xs us→Vals ys ws→Vals (xs++ys) (us++ws)
 |_,_,_,_,.nil,s=>s
 |_,_,_,_,.cons r t,s=>.cons r (Vals.append t s)
theorem Vals.take:∀{xs:List V} {us:List Value} (n:Nat),Vals xs us→Vals (xs.take n) (us.take n)
 |_,_,0,_=>.nil
 |_,_,_+1,.nil=>.nil
 |_,_,n+1,.cons r t=>.cons r (Vals.take n t)
theorem Vals.drop:∀{xs:List V} {us:List Value} (n:Nat),Vals xs us→Vals (xs.drop n) (us.drop n)
 |_,_,0,r=>r
 |_,_,_+1,.nil=>.nil
 |_,_,n+1,.cons _ t=>Vals.drop n t
noncomputable def RelO:Option V→Option Value→Prop
 |some v,some u=>RelV v u
 |none,none=>True
 |_,_=>False
noncomputable def KV {κ:Type}:List (κ×V)→List (κ×Value)→Prop:=Paired fun(p:κ×V) (q:κ×Value)=>p.1=q.1∧RelV p.2 q.2
noncomputable def kV:Key→V
 |.inl i=>.int i
 |.inr x=>.str x
inductive HO where
 |lst (xs:List V)
 |tup (xs:List V)
 |dK (kvs:List (Key×V)) | dT (kvs:List (List Key×V))
 |set (S:Int→Bool) (n:Nat)
 |ins (C dx:Addr) (fs:List (Str×V))
 |own (x:Addr)
 |xd (fs:List (Str×V))
 |met (f x:Addr)
 |rng (lo hi:Int)
 |frz (o:Obj) (u:HO)
 |tbl (ps:Array Value)
 |ext (φ:Heap→Prop)
noncomputable abbrev Hp:=Addr→Option HO
noncomputable def upd (H:Hp) (a:Addr) (o:HO):Hp:=fun b=>if b=a then some o else H b
theorem jan {H:Hp} {a:Addr} {o:HO}:upd H a o a=some o:=by unfold upd;rw[if_pos rfl]
theorem jal {H:Hp} {a b:Addr} {o:HO} (h:b≠a):upd H a o b=H b:=by unfold upd;rw[if_neg h]
theorem jpr {H:Hp} {a:Addr} {o u:HO}:upd (upd H a o) a u=upd H a u:=by
 funext b;unfold upd;split<;>rfl
theorem jzp {H:Hp} {a b:Addr} {o u:HO} (h:H a=some o) (h':H b=some u) (d:o≠u):a≠b:=by
 intro e;subst e;rw[h]at h';exact d (Option.some.inj h')
theorem jai {H:Hp} {a b:Addr} {o:HO} (h:H a=some o) (h':H b=none):a≠b:=by
 intro e;subst e;rw[h]at h';cases h'
noncomputable def IsTupP (h:Heap) (a:Addr) (items:Array Value):Prop:=∃o,h.get? a=some o∧o.cls=.type "tuple"∧(∃n,o.data=.seq items n)∧o.dict=none
theorem IsTupP.tup {h:Heap} {a:Addr} {items:Array Value} (x:IsTupP h a items):IsTup h a items:=let⟨o,e,c,d,_⟩:=x;⟨o,e,c,d⟩
theorem IsTupP.lt {h:Heap} {a:Addr} {items:Array Value} (x:IsTupP h a items):a < h.objs.size:=let⟨_,e,_⟩:=x;Heap.lt_size e
theorem IsTupP.new (h:Heap) (items:Array Value):IsTupP (h.push {cls:=.type "tuple",data:=.seq items}) h.objs.size items:=⟨_,Heap.get?_push_size _ rfl,rfl,⟨_,rfl⟩,rfl⟩
section
variable (P:Program) (w:World)
noncomputable def ObjOk (H:Hp) (h:Heap) (a:Addr):HO→Prop
 |.lst xs=>xs.length≤sizeLine∧∃(its:List Value) (n:Nat),Vals xs its∧h.get? a=some {cls:=.type "list",data:=.seq its.toArray n}
 |.tup xs=>xs.length≤sizeLine∧∃its:List Value,Vals xs its∧IsTupP h a its.toArray
 |.dK kvs=>kvs.length≤sizeLine∧(a==sysModules)=false∧∃vs,KV kvs vs∧h.DictOf (jbk P w) a vs
 |.dT kvs=>kvs.length≤sizeLine∧(a==sysModules)=false∧∃xs:List (List Key×Addr×Value),
   Paired (fun(p:List Key×V) (q:List Key×Addr×Value)=>p.1=q.1∧H q.2.1=some (.tup (p.1.map kV))∧RelV p.2 q.2.2) kvs xs ∧
   ∃o es ep,h.get? a=some o∧o.ExactDict∧o.data=.dict es ep∧es.toList=xs.map (entryOfKey (tupleKind (jbk P w)))∧(xs.map (·.1)).Nodup
 |.set S n=>h.SetOf (intKind P w) a S n
 |.ins C dx fs=>H dx=some (.own a)∧fs.length≤1000∧dx≠a∧h.get? a=some (PySem.W.instObj C dx) ∧
   ∃mA,h.Ns1 dx mA∧(∀f,RelO (fs.lookup f) (mA f))∧PySem.Within mA (fs.map (·.1))
 |.own _=>∃o,h.get? a=some o
 |.xd fs=>∃mA,h.Ns1 a mA∧∀f,RelO (fs.lookup f) (mA f)
 |.rng lo hi=>∃t u v,h.get? a=some {cls:=.type "range",data:=.fields #[.int lo t,.int hi u,.int 1 v]}
 |.frz o u=>h.get? a=some o∧ObjOk H h a u
 |.tbl ps=>h.get? a=some {cls:=.none,data:=.fields ps}
 |.met f x=>h.get? a=some (PySem.W.methodObj (.ref f) (.ref x))
 |.ext φ=>φ h∧(∃o,h.get? a=some o)∧∀h1 h2:Heap,φ h1→(∀o,h1.get? a=some o→h2.get? a=some o)→φ h2
noncomputable def HOk (H:Hp) (h:Heap):Prop:=∀a o,H a=some o→ObjOk P w H h a o
end
section
variable {P:Program} {w:World} {H H':Hp} {h h':Heap} {a:Addr} {o:HO}
theorem ObjOk.lt (x:ObjOk P w H h a o):a < h.objs.size:=by
 cases o with
 |lst xs=>obtain⟨_,_,_,_,e⟩:=x;exact Heap.lt_size e
 |tup xs=>obtain⟨_,_,_,p⟩:=x;exact p.lt
 |dK kvs=>obtain⟨_,_,_,_,o,_,_,e,_⟩:=x;exact Heap.lt_size e
 |dT kvs=>obtain⟨_,_,_,_,o,_,_,e,_⟩:=x;exact Heap.lt_size e
 |set S n=>obtain⟨o,_,_,_,e,_⟩:=x;exact Heap.lt_size e
 |ins C dx fs=>obtain⟨_,_,_,e,_⟩:=x;exact Heap.lt_size e
 |own y=>obtain⟨_,e⟩:=x;exact Heap.lt_size e
 |xd fs=>obtain⟨_,⟨_,_,_,e,_⟩,_⟩:=x;exact Heap.lt_size e
 |rng lo hi=>obtain⟨_,_,_,e⟩:=x;exact Heap.lt_size e
 |frz ob u=>obtain⟨e,_⟩:=x;exact Heap.lt_size e
 |tbl ps=>exact Heap.lt_size (show h.get? a=some _ from x)
 |met f y=>exact Heap.lt_size (show h.get? a=some _ from x)
 |ext φ=>obtain⟨_,⟨_,e⟩,_⟩:=x;exact Heap.lt_size e
theorem Paired.mapP {α β:Type} {F G:α→β→Prop}:∀{l₁:List α} {l₂:List β},Paired F l₁ l₂→(∀a b,F a b→G a b)→Paired G l₁ l₂
 |_,_,.nil,_=>.nil
 |_,_,.cons r t,f=>.cons (f _ _ r) (Paired.mapP t f)
theorem ObjOk.stay (x:ObjOk P w H h a o) (k:∀b u,(b=a∨H b=some (.own a))→h.get? b=some u→h'.get? b=some u)
  (ho:∀b,H b=some (.own a)→H' b=some (.own a)) (ht:∀b xs,H b=some (.tup xs)→H' b=some (.tup xs)):ObjOk P w H' h' a o:=by
 induction o with
 |lst xs=>obtain⟨z,its,n,r,e⟩:=x;exact⟨z,its,n,r,k _ _ (.inl rfl) e⟩
 |tup xs=>obtain⟨z,its,r,ob,e,c⟩:=x;exact⟨z,its,r,ob,k _ _ (.inl rfl) e,c⟩
 |dK kvs=>obtain⟨z,y,vs,r,ob,es,ep,e,c⟩:=x;exact⟨z,y,vs,r,ob,es,ep,k _ _ (.inl rfl) e,c⟩
 |dT kvs =>
  obtain⟨z,y,xs,r,ob,es,ep,e,c⟩:=x
  exact⟨z,y,xs,Paired.mapP r fun p q z=>⟨z.1,ht _ _ z.2.1,z.2.2⟩,ob,es,ep,k _ _ (.inl rfl) e,c⟩
 |set S n=>obtain⟨ob,es,ep,t,e,c⟩:=x;exact⟨ob,es,ep,t,k _ _ (.inl rfl) e,c⟩
 |ins C dx fs =>
  obtain⟨d,z,ne,e,mA,⟨od,es,ep,e2,c⟩,r⟩:=x
  exact⟨ho _ d,z,ne,k _ _ (.inl rfl) e,mA,⟨od,es,ep,k _ _ (.inr d) e2,c⟩,r⟩
 |own y=>obtain⟨ob,e⟩:=x;exact⟨ob,k _ _ (.inl rfl) e⟩
 |xd fs=>obtain⟨mA,⟨od,es,ep,e,c⟩,r⟩:=x;exact⟨mA,⟨od,es,ep,k _ _ (.inl rfl) e,c⟩,r⟩
 |rng lo hi=>obtain⟨t,u,v,e⟩:=x;exact⟨t,u,v,k _ _ (.inl rfl) e⟩
 |frz ob u ih=>obtain⟨e,q⟩:=x;exact⟨k _ _ (.inl rfl) e,ih q⟩
 |tbl ps =>
  have e:h.get? a=some {cls:=.none,data:=.fields ps}:=x
  show h'.get? a=some {cls:=.none,data:=.fields ps}
  exact k a _ (.inl rfl) e
 |met f y =>
  have e:h.get? a=some (PySem.W.methodObj (.ref f) (.ref y)):=x
  show h'.get? a=some (PySem.W.methodObj (.ref f) (.ref y))
  exact k a _ (.inl rfl) e
 |ext φ=>obtain⟨p,⟨o,e⟩,st⟩:=x;exact⟨st _ _ p fun o q=>k _ _ (.inl rfl) q,⟨o,k _ _ (.inl rfl) e⟩,st⟩
theorem HOk.lt (x:HOk P w H h) (e:H a=some o):a < h.objs.size:=(x a o e).lt
theorem HOk.fresh (x:HOk P w H h) (e:h.objs.size≤a):H a=none:=by
 cases q:H a with
 |none=>rfl
 |some u=>exact absurd (Nat.lt_of_lt_of_le (x.lt q) e) (Nat.lt_irrefl _)
theorem HOk.kept (x:HOk P w H h) (k:∀b u,h.get? b=some u→h'.get? b=some u):HOk P w H h':=fun a o e =>
 (x a o e).stay (fun b u _ q=>k b u q) (fun _ q=>q) fun _ _ q=>q
theorem HOk.laid (x:HOk P w H h) (k:∀b u,h.get? b=some u→h'.get? b=some u) (hp:h.objs.size≤a) (new:ObjOk P w (upd H a o) h' a o):HOk P w (upd H a o) h':=fun b u e=>by
 have hn:=x.fresh hp
 by_cases hb:b=a
 ·subst hb;rw[jan]at e;cases e;exact new
 ·rw[jal hb]at e
  exact(x b u e).stay (fun c v _ q=>k c v q) (fun c q=>by rw[jal (jai q hn)];exact q) fun c xs q=>by rw[jal (jai q hn)];exact q
end
noncomputable def Rd (H:Hp) (a:Addr) (u:HO):Prop:=H a=some u∨∃o,H a=some (.frz o u)
theorem Rd.ok {P:Program} {w:World} {H:Hp} {h:Heap} {a:Addr} {u:HO} (r:Rd H a u) (x:HOk P w H h):ObjOk P w H h a u:=by
 rcases r with r | ⟨o,r⟩
 ·exact x a u r
 ·obtain⟨_,q⟩:=x a _ r
  exact q
noncomputable def Mut:Option HO→Prop
 |some (.lst _)=>True
 |some (.dK _)=>True
 |some (.dT _)=>True
 |some (.set _ _)=>True
 |some (.ins _ _ _)=>True
 |some (.ext _)=>True
 |_=>False
section
variable {P:Program} {w:World} {H:Hp} {h h':Heap} {x e:Addr} {o':HO}
theorem HOk.write (ok:HOk P w H h) (mu:Mut (H x)) (he:e=x∨H e=some (.own x)) (k:∀b u,b≠e→h.get? b=some u→h'.get? b=some u) (heo:∃u,h'.get? e=some u)
  (new:ObjOk P w (upd H x o') h' x o'):HOk P w (upd H x o') h':=fun b u q=>by
 have nown:∀c y,H c=some (.own y)→c≠x:=fun c y r z=>by subst z;rw[r]at mu;exact mu
 have ntup:∀c xs,H c=some (.tup xs)→c≠x:=fun c xs r z=>by subst z;rw[r]at mu;exact mu
 by_cases hb:b=x
 ·subst hb;rw[jan]at q;cases q;exact new
 ·rw[jal hb]at q
  by_cases hbe:b=e
  ·have q':H b=some (.own x):=by
    rcases he with z | z
    ·exact absurd (hbe.trans z) hb
    ·rw[hbe];exact z
   rw[q]at q';cases q'
   obtain⟨v,hv⟩:=heo
   exact⟨v,by rw[hbe];exact hv⟩
  ·refine(ok b u q).stay (fun c v hc r=>k c v ?_ r) (fun c r=>by rw[jal (nown c b r)];exact r) fun c xs r=>by rw[jal (ntup c xs r)];exact r
   rcases hc with rfl | hc
   ·exact hbe
   ·rintro rfl
    rcases he with z | z
    ·exact nown c b hc z
    ·rw[hc]at z;cases z;exact hb rfl
end
structure Un (fs ex:List Addr) (H H':Hp) (h h':Heap):Prop where
 keep:∀b o,h.get? b=some o→H b=none→b∉fs→b∉ex→h'.get? b=some o
 slot:∀b o,h.get? b=some o→H b=none→b∈fs→b∉ex→∃sl,h'.get? b=some {o with slots:=sl}
 free:∀b o,h.get? b=some o→H b=none→b∉ex→H' b=none
 there:∀b o,h.get? b=some o→b∉ex→∃o',h'.get? b=some o'
 tups:∀b xs,H b=some (.tup xs)→H' b=some (.tup xs)
 frzs:∀b o u,H b=some (.frz o u)→H' b=some (.frz o u)
 tbls:∀b ps,H b=some (.tbl ps)→∃more,H' b=some (.tbl (ps++more))
section
variable {fs fs' ex ex':List Addr} {H H1 H2:Hp} {h h1 h2 h':Heap} {a x e:Addr} {o:HO}
theorem Un.any (u:Un fs ex H H1 h h1) {b:Addr} {ob:Obj} (q:h.get? b=some ob) (n:H b=none) (hx:b∉ex):∃sl,h1.get? b=some {ob with slots:=sl}:=by
 by_cases hb:b∈fs
 ·exact u.slot b ob q n hb hx
 ·exact⟨ob.slots,u.keep b ob q n hb hx⟩
theorem Un.kept (k:∀b u,h.get? b=some u→h'.get? b=some u):Un fs ex H H h h' :=
 ⟨fun b ob q _ _ _=>k b ob q,fun b ob q _ _ _=>⟨ob.slots,k b ob q⟩,fun _ _ _ n _=>n,fun b ob q _=>⟨ob,k b ob q⟩,fun _ _ q=>q,fun _ _ _ q=>q,fun _ ps q=>⟨#[],by rw[q];simp⟩⟩
theorem Un.refl:Un fs ex H H h h:=Un.kept fun _ _ q=>q
theorem Un.laid (k:∀b u,h.get? b=some u→h'.get? b=some u) (hp:h.objs.size≤a) (hn:H a=none):Un fs ex H (upd H a o) h h' where
 keep:=fun b u q _ _ _=>k b u q
 slot:=fun b u q _ _ _=>⟨u.slots,k b u q⟩
 free:=fun b u q n _=>by rw[jal (Nat.ne_of_lt (Nat.lt_of_lt_of_le (Heap.lt_size q) hp))];exact n
 there:=fun b u q _=>⟨u,k b u q⟩
 tups:=fun b xs q=>by rw[jal (jai q hn)];exact q
 frzs:=fun b u xs q=>by rw[jal (jai q hn)];exact q
 tbls:=fun b ps q=>⟨#[],by rw[jal (jai q hn),q];simp⟩
theorem Un.write (mu:Mut (H x)) (he:e=x∨H e=some (.own x)) (k:∀b u,b≠e→h.get? b=some u→h'.get? b=some u) (heo:∃u,h'.get? e=some u):Un fs ex H (upd H x o) h h':=by
 have hx:∀b,H b=none→b≠x:=fun b n z=>by subst z;rw[n]at mu;exact mu
 have hb:∀b,H b=none→b≠e:=fun b n z=>by
  subst z
  rcases he with r | r
  ·exact hx b n r
  ·rw[n]at r;cases r
 have hm:∀b u,H b=some u→¬Mut (some u)→b≠x:=fun b u q nm z=>by subst z;rw[q]at mu;exact nm mu
 refine⟨fun b u q n _ _=>k b u (hb b n) q,fun b u q n _ _=>⟨u.slots,k b u (hb b n) q⟩,fun b u q n _=>by rw[jal (hx b n)];exact n,fun b u q _=>?_,
  fun b xs q=>by rw[jal (hm b _ q fun z=>z)];exact q,fun b u xs q=>by rw[jal (hm b _ q fun z=>z)];exact q,fun b ps q=>⟨#[],by rw[jal (hm b _ q fun z=>z),q];simp⟩⟩
 by_cases hbe:b=e
 ·subst hbe;exact heo
 ·exact⟨u,k b u hbe q⟩
end
noncomputable def trk (h:Heap) (H:Hp):List Addr:=(List.range h.objs.size).filter fun a=>(H a).isSome
noncomputable def hidT (h:Heap) (H:Hp):Heap:=PySem.W.hideAll h (trk h H)
theorem jru (h:Heap) (H:Hp):(hidT h H).objs.size=h.objs.size:=PySem.W.hideAll_size _ _
theorem juf {h:Heap} {H:Hp} {b:Addr} {o:Obj} (e:h.get? b=some o) (n:H b=none):(hidT h H).get? b=some o :=
 PySem.W.hideAll_get _ e fun hm=>by
  have q:(H b).isSome=true:=(List.mem_filter.mp hm).2
  rw[n]at q;simp at q
theorem jxg {h:Heap} {H:Hp} {b:Addr} {o:Obj} (e:(hidT h H).get? b=some o):h.get? b=some o∧H b=none:=by
 have e':h.get? b=some o:=PySem.W.of_hideAll (trk h H) e
 refine⟨e',?_⟩
 cases q:H b with
 |none=>rfl
 |some x =>
  have hm:b∈trk h H:=List.mem_filter.mpr ⟨List.mem_range.mpr (Heap.lt_size e'),by simp[q]⟩
  have z:(hidT h H).get? b=none:=PySem.W.hideAll_none (trk h H) hm
  rw[z]at e;cases e
noncomputable def jx6 (g h:Heap) (L:Addr):List (Addr×Obj):=(List.range h.objs.size).filterMap fun a=>if a=L∨(g.get? a).isSome=true then none else(h.get? a).map fun o=>(a,o)
noncomputable def rest (g h:Heap) (L d:Addr):List (Addr×Obj):=(jx6 g h L).filter fun p=>decide (p.1≠d)
structure Mod (K:PySem.W.Frag) (mg:Str→Option Value) (base:Heap):Prop where
 kin:K.In base
 glob:base.Ns mainGlobals mg
 blt:∃mb,base.Ns builtinsNs mb∧∀x:Str,x≠"__name__"→mb x=bootBuiltins x
 nolimit:base.NoLimit
structure Cx where
 prog:Program
 w:World
 K:PySem.W.Frag
 mg:Str→Option Value
 base:Heap
 A:Around
 N:List Str
 s₀:Shared
 H₀:Hp
 env:Env
 outer:List Env
 stack:List Env
 ex:List Addr
 fn:Str→Bool
 calm:Bool
 pn:List (Addr×Obj)
 xe:Value→Shared→Prop
noncomputable def frs (l:List Env):List Addr:=l.filterMap (·.frame)
noncomputable abbrev Cx.fs (X:Cx):List Addr:=frs X.outer
noncomputable def Vis (sc:Scope) (x:Str):Prop:=sc.names.lookup x=some .local∨sc.names.lookup x=some .cell∨sc.names.lookup x=some .free
noncomputable def Loc (sc:Scope) (x:Str):Prop:=sc.names.lookup x=some .local∨sc.names.lookup x=some .cell
noncomputable def Look (env:Env) (h:Heap) (m:Str→Option Value) (x:Str) (u:Value):Prop :=
 (env.kindOf x=some .local∧m x=some u)∨((env.kindOf x=some .cell∨env.kindOf x=some .free)∧∃c,env.cells.lookup x=some c∧h.IsCell c (some u))
structure Cx.Ok (X:Cx):Prop where
 mod:Mod X.K X.mg X.base
 kind:X.env.scope.kind=.function
 glob:X.env.globals=mainGlobals
 blt:X.env.builtins=builtinsNs
 above:X.s₀.heap.objs.size≤X.env.locals
 inj:∀x y c,X.env.cells.lookup x=some c→X.env.cells.lookup y=some c→x=y
 has:∀x,(X.env.kindOf x=some .cell∨X.env.kindOf x=some .free)→∃c,X.env.cells.lookup x=some c
 cab:∀x c,X.fn x=true→X.env.cells.lookup x=some c→X.s₀.heap.objs.size≤c
 hd:X.calm=true→X.A.handled=none
 frames:X.A.frames=some X.stack
 stk:X.stack=X.outer∨(X.stack=X.env::X.outer∧X.env.frame=some X.env.locals)
 exf:∀b∈X.ex,b≠X.env.locals∧∀x c,X.env.cells.lookup x=some c→c≠b
 bs:∀b o,X.base.get? b=some o→X.s₀.heap.get? b=some o∧X.H₀ b=none
 bsz:X.base.objs.size≤X.s₀.heap.objs.size
 noex:∀b o,X.base.get? b=some o→b∉X.ex
 exfs:∀b∈X.ex,b∉X.fs
 funs:X.s₀.heap.FunFrames X.base X.outer
 frf:∀b∈X.fs,X.H₀ b=none
structure Inv (X:Cx) (pins:List (Addr×Obj)) (σ:List (Option V)) (H:Hp) (s:Shared):Prop where
 ok:X.Ok
 os:s.os=X.s₀.os
 bare:AllBare s.gens
 base:Un X.fs X.ex X.H₀ H X.s₀.heap s.heap
 loc:∃m,s.heap.Ns X.env.locals m∧∀(i:Nat) (x:Str) (v:V),X.N[i]?=some x→σ[i]?=some (some v)→Vis X.env.scope x→∃u,RelV v u∧Look X.env s.heap m x u
 cell:∀x c,X.env.cells.lookup x=some c→∃v,s.heap.IsCell c v
 free:H X.env.locals=none
 freeC:∀x c,X.env.cells.lookup x=some c→H c=none
 pin:∀p∈X.pn++pins,s.heap.get? p.1=some p.2∧H p.1=none∧p.1≠X.env.locals∧p.1∉X.fs∧∀v,p.2.data≠.cell v
 hok:HOk X.prog X.w H s.heap
 len:σ.length=X.N.length
section
variable {X:Cx} {pins:List (Addr×Obj)} {σ:List (Option V)} {H H':Hp} {s:Shared} {h':Heap}
theorem Cx.Ok.nofr (ok:X.Ok) {b:Addr} {o:Obj} (e:X.base.get? b=some o):b∉X.fs:=fun hb=>by
 have:=(ok.funs.mem hb).1
 rw[e]at this;cases this
theorem Inv.bs (I:Inv X pins σ H s):∀b o,X.base.get? b=some o→s.heap.get? b=some o∧H b=none:=fun b o e =>
 ⟨I.base.keep b o (I.ok.bs b o e).1 (I.ok.bs b o e).2 (I.ok.nofr e) (I.ok.noex b o e),I.base.free b o (I.ok.bs b o e).1 (I.ok.bs b o e).2 (I.ok.noex b o e)⟩
theorem Inv.bk (I:Inv X pins σ H s):∀b o,X.base.get? b=some o→s.heap.get? b=some o:=fun b o e=>(I.bs b o e).1
theorem Inv.mod (I:Inv X pins σ H s):Mod X.K X.mg X.base:=I.ok.mod
theorem Inv.kIn (I:Inv X pins σ H s):X.K.In s.heap:=I.ok.mod.kin.keeps I.bk
theorem Inv.lt (I:Inv X pins σ H s):X.env.locals < s.heap.objs.size:=let⟨_,hn,_⟩:=I.loc;hn.lt
theorem Inv.sz (I:Inv X pins σ H s):X.s₀.heap.objs.size≤s.heap.objs.size:=Nat.le_trans I.ok.above (Nat.le_of_lt I.lt)
theorem Inv.nofs (I:Inv X pins σ H s) {a:Addr} (h:s.heap.objs.size≤a):a∉X.fs:=fun hb=>by
 obtain⟨_,o,ho,_⟩:=I.ok.funs.mem hb
 exact absurd (Nat.lt_of_lt_of_le (Heap.lt_size ho) (Nat.le_trans I.sz h)) (Nat.lt_irrefl _)
theorem Inv.cne (I:Inv X pins σ H s):∀x c,X.env.cells.lookup x=some c→c≠X.env.locals:=fun x c e z=>by
 obtain⟨v,o,ho,hd⟩:=I.cell x c e
 obtain⟨m,⟨o',es,ep,ho',hd',_⟩,_⟩:=I.loc
 rw[z,ho']at ho;cases ho;rw[hd']at hd;cases hd
theorem Inv.funs (I:Inv X pins σ H s):s.heap.FunFrames X.base X.outer:=by
 have all:∀(l:List Env),(∀b∈frs l,b∈X.fs)→X.s₀.heap.FunFrames X.base l→s.heap.FunFrames X.base l:=by
  intro l
  induction l with
  |nil=>intro _ _;trivial
  |cons env r ih =>
   intro hs hl
   obtain⟨hk,⟨L,o,hf,hn,ho,hd⟩,hr⟩:=hl
   have hL:L∈X.fs:=hs L (by unfold frs;rw[List.filterMap_cons,hf];exact List.mem_cons_self)
   obtain⟨sl,e⟩:=I.base.slot L o ho (I.ok.frf L hL) hL fun z=>I.ok.exfs L z hL
   exact⟨hk,⟨L,_,hf,hn,e,hd⟩,ih (fun b hb=>hs b (by unfold frs;rw[List.filterMap_cons,hf];exact List.mem_cons_of_mem _ hb)) hr⟩
 exact all X.outer (fun _ hb=>hb) I.ok.funs
theorem Inv.stack (I:Inv X pins σ H s):s.heap.FunFrames X.base X.stack:=by
 rcases I.ok.stk with e | ⟨e,hf⟩
 ·rw[e];exact I.funs
 ·rw[e]
  obtain⟨m,hn,_⟩:=I.loc
  refine .cons (by rw[I.ok.kind];decide) hf hn ?_ I.funs
  exact Heap.get?_none_of_le (Nat.le_trans I.ok.bsz I.ok.above)
theorem Inv.stkSub (I:Inv X pins σ H s):∀b∈frs X.stack,b∈X.env.locals::X.fs:=fun b hb=>by
 rcases I.ok.stk with e | ⟨e,hf⟩
 ·rw[e]at hb;exact List.mem_cons_of_mem _ hb
 ·rw[e]at hb
  unfold frs at hb
  rw[List.filterMap_cons,hf]at hb
  exact hb
theorem Inv.stkFree (I:Inv X pins σ H s):∀b∈frs X.stack,H b=none:=fun b hb=>by
 rcases List.mem_cons.mp (I.stkSub b hb)with e | hb
 ·rw[e];exact I.free
 ·obtain⟨_,o,ho,_⟩:=I.ok.funs.mem hb
  exact I.base.free b o ho (I.ok.frf b hb) fun z=>I.ok.exfs b z hb
theorem Inv.step {g':Array GenState} {t':Nat} {d':Drawn} {ch:List Addr} (I:Inv X pins σ H s)
  (hch:∀b∈ch,(b∈X.ex∨X.s₀.heap.objs.size≤b)∧b≠X.env.locals∧(∀x c,X.env.cells.lookup x=some c→c≠b)∧∀p∈X.pn++pins,p.1≠b)
  (keep:∀b o,b≠X.env.locals→b∉X.fs→b∉ch→s.heap.get? b=some o→H b=none→h'.get? b=some o)
  (slot:∀b o,b≠X.env.locals→b∈X.fs→b∉ch→s.heap.get? b=some o→H b=none→∃sl,h'.get? b=some {o with slots:=sl}) (free:∀b o,b∉ch→s.heap.get? b=some o→H b=none→H' b=none)
  (there:∀b o,b∉ch→s.heap.get? b=some o→∃o',h'.get? b=some o')
  (tups:∀b xs,H b=some (.tup xs)→H' b=some (.tup xs)) (frzs:∀b o u,H b=some (.frz o u)→H' b=some (.frz o u)) (tbls:∀b ps,H b=some (.tbl ps)→∃more,H' b=some (.tbl (ps++more)))
  (ns:∀m,s.heap.Ns X.env.locals m→h'.Ns X.env.locals m) (hok:HOk X.prog X.w H' h') (hg:AllBare g') :
  Inv X pins σ H' {s with heap:=h',gens:=g',drawn:=d',toks:=t'}:=by
 have neL:∀b o,X.s₀.heap.get? b=some o→b≠X.env.locals:=fun b o e=>Nat.ne_of_lt (Nat.lt_of_lt_of_le (Heap.lt_size e) I.ok.above)
 have neC:∀b o,X.s₀.heap.get? b=some o→b∉X.ex→b∉ch:=fun b o e hx hb=>by
  rcases(hch b hb).1 with z | z
  ·exact hx z
  ·exact absurd (Nat.lt_of_lt_of_le (Heap.lt_size e) z) (Nat.lt_irrefl _)
 have cellK:∀x c,X.env.cells.lookup x=some c→∀v,s.heap.IsCell c v→h'.IsCell c v:=fun x c e v ⟨o,ho,hd⟩=>by
  have nch:c∉ch:=fun z=>(hch c z).2.2.1 x c e rfl
  by_cases hc:c∈X.fs
  ·obtain⟨sl,q⟩:=slot c o (I.cne x c e) hc nch ho (I.freeC x c e)
   exact⟨_,q,hd⟩
  ·exact⟨o,keep c o (I.cne x c e) hc nch ho (I.freeC x c e),hd⟩
 refine⟨I.ok,I.os,hg,⟨fun b o e n hb hx=>?_,fun b o e n hb hx=>?_,fun b o e n hx=>?_,fun b o e hx=>?_,fun b xs e=>tups b xs (I.base.tups b xs e),fun b o xs e=>frzs b o xs (I.base.frzs b o xs e),fun b ps e=>?_⟩,?_,fun x c e=>?_,?_,fun x c e=>?_,fun p hp=>?_,hok,I.len⟩
 ·exact keep b o (neL b o e) hb (neC b o e hx) (I.base.keep b o e n hb hx) (I.base.free b o e n hx)
 ·obtain⟨sl,e1⟩:=I.base.slot b o e n hb hx
  obtain⟨sl',e2⟩:=slot b _ (neL b o e) hb (neC b o e hx) e1 (I.base.free b o e n hx)
  exact⟨sl',e2⟩
 ·obtain⟨o',e1⟩:=I.base.there b o e hx
  exact free b o' (neC b o e hx) e1 (I.base.free b o e n hx)
 ·obtain⟨o',e1⟩:=I.base.there b o e hx
  exact there b o' (neC b o e hx) e1
 ·obtain⟨m1,e1⟩:=I.base.tbls b ps e
  obtain⟨m2,e2⟩:=tbls b _ e1
  exact⟨m1++m2,by rw[e2,Array.append_assoc]⟩
 ·obtain⟨m,hn,hl⟩:=I.loc
  refine⟨m,ns m hn,fun i x v e1 e2 e3=>?_⟩
  obtain⟨u,r,l⟩:=hl i x v e1 e2 e3
  refine⟨u,r,?_⟩
  rcases l with l | ⟨k,c,e,z⟩
  ·exact .inl l
  ·exact .inr ⟨k,c,e,cellK x c e _ z⟩
 ·obtain⟨v,z⟩:=I.cell x c e
  exact⟨v,cellK x c e v z⟩
 ·obtain⟨m,⟨o,_,_,ho,_⟩,_⟩:=I.loc
  exact free _ o (fun z=>(hch _ z).2.1 rfl) ho I.free
 ·obtain⟨v,o,ho,hd⟩:=I.cell x c e
  exact free c o (fun z=>(hch c z).2.2.1 x c e rfl) ho (I.freeC x c e)
 ·obtain⟨e,n,ne,nf,d⟩:=I.pin p hp
  have nch:p.1∉ch:=fun z=>(hch p.1 z).2.2.2 p hp rfl
  exact⟨keep p.1 p.2 ne nf nch e n,free p.1 p.2 nch e n,ne,nf,d⟩
theorem Inv.un {t':Nat} (I:Inv X pins σ H s) (u:Un X.fs [] H H' s.heap h') (hok:HOk X.prog X.w H' h'):Inv X pins σ H' {s with heap:=h',toks:=t'}:=by
 obtain⟨m,⟨o,es,ep,ho,r⟩,_⟩:=id I.loc
 obtain⟨sl,hL⟩:=u.any ho I.free (by simp)
 exact I.step (g':=s.gens) (d':=s.drawn) (ch:=[]) (fun _ z=>nomatch z) (fun b o _ hb _ e n=>u.keep b o e n hb (by simp)) (fun b o _ hb _ e n=>u.slot b o e n hb (by simp)) (fun b o _ e n=>u.free b o e n (by simp)) (fun b o _ e=>u.there b o e (by simp)) u.tups u.frzs u.tbls (fun m' hm=>by
  obtain⟨o',es',ep',ho',r'⟩:=hm
  rw[ho]at ho';cases ho'
  exact⟨_,es',ep',hL,r'⟩) hok I.bare
theorem Inv.call {g':Array GenState} {t':Nat} {d':Drawn} {ch:List Addr} (I:Inv X pins σ H s) (u:Un (frs X.stack) ch H H' s.heap h') (hok:HOk X.prog X.w H' h') (hg:AllBare g')
  (hch:∀b∈ch,(b∈X.ex∨X.s₀.heap.objs.size≤b)∧b≠X.env.locals∧(∀x c,X.env.cells.lookup x=some c→c≠b)∧∀p∈X.pn++pins,p.1≠b) :
  Inv X pins σ H' {s with heap:=h',gens:=g',drawn:=d',toks:=t'}:=by
 obtain⟨m,⟨o,es,ep,ho,r⟩,_⟩:=id I.loc
 obtain⟨sl,hL⟩:=u.any ho I.free fun z=>(hch _ z).2.1 rfl
 exact I.step (ch:=ch) hch (fun b o hL hb hc e n=>u.keep b o e n (fun z=>(List.mem_cons.mp (I.stkSub b z)).elim hL hb) hc) (fun b o _ _ hc e n=>u.any e n hc) (fun b o hc e n=>u.free b o e n hc) (fun b o hc e=>u.there b o e hc) u.tups u.frzs u.tbls (fun m' hm=>by
  obtain⟨o',es',ep',ho',r'⟩:=hm
  rw[ho]at ho';cases ho'
  exact⟨_,es',ep',hL,r'⟩) hok hg
theorem Inv.turned {t':Nat} {it:Addr} (I:Inv X pins σ H s) (k:∀b o,b≠it→s.heap.get? b=some o→h'.get? b=some o) (hn:H it=none) (hL:it≠X.env.locals)
  (h1:it∈X.ex∨X.s₀.heap.objs.size≤it) (h2:∀x c,X.env.cells.lookup x=some c→c≠it) (h3:∀p∈X.pn++pins,p.1≠it):Inv X pins σ H {s with heap:=h',toks:=t'}:=by
 have nit:∀b u,H b=some u→b≠it:=fun b u e z=>by rw[z,hn]at e;cases e
 refine I.step (g':=s.gens) (d':=s.drawn) (ch:=[it]) (fun b hb=>?_) (fun b o _ _ hc e _=>k b o (fun z=>hc (by simp[z])) e) (fun b o _ _ hc e _=>⟨o.slots,k b o (fun z=>hc (by simp[z])) e⟩) (fun _ _ _ _ n=>n)
  (fun b o hc e=>⟨o,k b o (fun z=>hc (by simp[z])) e⟩) (fun _ _ e=>e) (fun _ _ _ e=>e) (fun b ps e=>⟨#[],by rw[e];simp⟩) (fun m hm=>?_) (fun b u e=>?_) I.bare
 ·have e:b=it:=by simpa using hb
  subst e
  exact⟨h1,hL,h2,h3⟩
 ·obtain⟨o,es,ep,ho,r⟩:=hm
  exact⟨o,es,ep,k _ o (Ne.symm hL) ho,r⟩
 ·refine(I.hok b u e).stay (fun c v hc q=>k c v ?_ q) (fun _ q=>q) fun _ _ q=>q
  rcases hc with z | z
  ·rw[z];exact nit b u e
  ·exact nit c _ z
theorem Inv.tok (I:Inv X pins σ H s) (t:Nat):Inv X pins σ H {s with toks:=t}:=I.un (h':=s.heap) (t':=t) Un.refl I.hok
theorem Inv.kept {t':Nat} (I:Inv X pins σ H s) (k:∀b u,s.heap.get? b=some u→h'.get? b=some u):Inv X pins σ H {s with heap:=h',toks:=t'}:=I.un (Un.kept k) (I.hok.kept k)
theorem Inv.laid {a:Addr} {o:HO} {t':Nat} (I:Inv X pins σ H s) (k:∀b u,s.heap.get? b=some u→h'.get? b=some u) (hp:s.heap.objs.size≤a) (new:ObjOk X.prog X.w (upd H a o) h' a o) :
  Inv X pins σ (upd H a o) {s with heap:=h',toks:=t'}:=I.un (Un.laid k hp (I.hok.fresh hp)) (I.hok.laid k hp new)
theorem Inv.write {x e:Addr} {o:HO} {t':Nat} (I:Inv X pins σ H s) (mu:Mut (H x)) (he:e=x∨H e=some (.own x)) (k:∀b u,b≠e→s.heap.get? b=some u→h'.get? b=some u) (heo:∃u,h'.get? e=some u)
  (new:ObjOk X.prog X.w (upd H x o) h' x o):Inv X pins σ (upd H x o) {s with heap:=h',toks:=t'}:=I.un (Un.write mu he k heo) (I.hok.write mu he k heo new)
theorem Inv.pins_of {pins':List (Addr×Obj)} (I:Inv X pins σ H s) (h:∀p∈pins',s.heap.get? p.1=some p.2∧H p.1=none∧p.1≠X.env.locals∧p.1∉X.fs∧∀v,p.2.data≠.cell v):Inv X pins' σ H s :=
 ⟨I.ok,I.os,I.bare,I.base,I.loc,I.cell,I.free,I.freeC,fun p hp=>(List.mem_append.mp hp).elim (fun z=>I.pin p (List.mem_append_left _ z)) (h p),I.hok,I.len⟩
theorem jn7 {N:List Str} (hN:N.Nodup) {i j:Nat} {x:Str} (a:N[i]?=some x) (b:N[j]?=some x):i=j:=by
 obtain⟨h1,e1⟩:=List.getElem?_eq_some_iff.mp a
 obtain⟨h2,e2⟩:=List.getElem?_eq_some_iff.mp b
 exact(List.getElem_inj hN).mp (e1.trans e2.symm)
theorem jlb {M:Model} {A:Around} {E:Value→Shared→Prop} {i:Nat} {x:Str} {v:V} {u:Value} {Q:Unit→Shared→Prop} (I:Inv X pins σ H s) (hN:X.N.Nodup) (hi:X.N[i]?=some x) (hx:Loc X.env.scope x) (r:RelV v u)
  (h:∀s',Inv X pins (σ.set i (some v)) H s'→(∃a,Heap.SameBut a s.heap s'.heap∧(a=X.env.locals∨X.env.cells.lookup x=some a))→Q () s') (hf:X.fn x=true∨X.env.scope.names.lookup x=some .local:=by first | exact .inl rfl | exact .inr rfl | assumption):wpAny M A (storeName X.env x u) Q E s:=by
 obtain⟨m,hn,hl⟩:=id I.loc
 have hcls:(X.env.scope.kind==.class || (X.env.scope.kind==.module&&X.env.locals != X.env.globals))=false:=by rw[I.ok.kind];rfl
 have hiσ:i < σ.length:=by rw[I.len];exact(List.getElem?_eq_some_iff.mp hi).1
 have cne:=I.cne
 have tracked:∀{a:Addr} {h':Heap},(∃o,s.heap.get? a=some o∧H a=none)→Heap.SameBut a s.heap h'→HOk X.prog X.w H h':=fun{a h'} ha hs b ob e=>by
  obtain⟨_,_,hfree⟩:=ha
  refine(I.hok b ob e).stay (fun c w' hc q=>(hs.2 c ?_).trans q) (fun _ q=>q) fun _ _ q=>q
  rintro rfl
  rcases hc with rfl | hc
  ·rw[hfree]at e;cases e
  ·rw[hfree]at hc;cases hc
 rcases hx with hk | hk
 ·refine wpAny_storeName_local hk hn (fun h' hn' hs=>?_) hcls
  obtain⟨oL,_,_,hoL,_⟩:=id hn
  refine h _ ⟨I.ok,I.os,I.bare,⟨fun b o e n hb hx=>?_,fun b o e n hb hx=>?_,I.base.free,fun b o e hx=>?_,I.base.tups,I.base.frzs,I.base.tbls⟩,⟨_,hn',fun j y v' e1 e2 e3=>?_⟩,fun y c e=>?_,I.free,I.freeC,fun p hp=>?_,tracked ⟨oL,hoL,I.free⟩ hs,by simpa using I.len⟩ ⟨_,hs,.inl rfl⟩
  ·exact(hs.2 b (Nat.ne_of_lt (Nat.lt_of_lt_of_le (Heap.lt_size e) I.ok.above))).trans (I.base.keep b o e n hb hx)
  ·obtain⟨sl,e1⟩:=I.base.slot b o e n hb hx
   exact⟨sl,(hs.2 b (Nat.ne_of_lt (Nat.lt_of_lt_of_le (Heap.lt_size e) I.ok.above))).trans e1⟩
  ·obtain⟨o',e1⟩:=I.base.there b o e hx
   exact⟨o',(hs.2 b (Nat.ne_of_lt (Nat.lt_of_lt_of_le (Heap.lt_size e) I.ok.above))).trans e1⟩
  ·by_cases hj:j=i
   ·subst hj
    rw[hi]at e1;cases e1
    rw[List.getElem?_set_self hiσ]at e2
    cases e2
    exact⟨u,r,.inl ⟨hk,by simp⟩⟩
   ·rw[List.getElem?_set_ne (Ne.symm hj)]at e2
    obtain⟨u',r',q⟩:=hl j y v' e1 e2 e3
    refine⟨u',r',?_⟩
    rcases q with⟨k,e⟩ | ⟨k,c,e,z⟩
    ·refine .inl ⟨k,?_⟩
     have:y≠x:=fun e=>hj (jn7 hN e1 (e▸hi))
     simp[this,e]
    ·exact .inr ⟨k,c,e,z.sameBut hs (cne y c e)⟩
  ·obtain⟨w',z⟩:=I.cell y c e
   exact⟨w',z.sameBut hs (cne y c e)⟩
  ·obtain⟨e,n,ne,nf,d⟩:=I.pin p hp
   exact⟨(hs.2 p.1 ne).trans e,n,ne,nf,d⟩
 ·have hfn:X.fn x=true:=by
   rcases hf with z | z
   ·exact z
   ·rw[z]at hk;cases hk
  obtain⟨c,hc⟩:=I.ok.has x (.inl hk)
  obtain⟨w',z⟩:=I.cell x c hc
  refine wpAny_storeName_cell I.ok.kind hk hc z (fun h' hc' hs=>?_)
  obtain⟨oc,hoc,hocd⟩:=id z
  refine h {s with heap:=h'} ⟨I.ok,I.os,I.bare,⟨fun b o e n hb hx=>?_,fun b o e n hb hx=>?_,I.base.free,fun b o e hx=>?_,I.base.tups,I.base.frzs,I.base.tbls⟩,⟨m,hn.sameBut hs (Ne.symm (cne x c hc)),fun j y v' e1 e2 e3=>?_⟩,fun y c' e=>?_,I.free,I.freeC,fun p hp=>?_,tracked ⟨oc,hoc,I.freeC x c hc⟩ hs,by simpa using I.len⟩ ⟨c,hs,.inr hc⟩
  ·exact(hs.2 b (Nat.ne_of_lt (Nat.lt_of_lt_of_le (Heap.lt_size e) (I.ok.cab x c hfn hc)))).trans (I.base.keep b o e n hb hx)
  ·obtain⟨sl,e1⟩:=I.base.slot b o e n hb hx
   exact⟨sl,(hs.2 b (Nat.ne_of_lt (Nat.lt_of_lt_of_le (Heap.lt_size e) (I.ok.cab x c hfn hc)))).trans e1⟩
  ·obtain⟨o',e1⟩:=I.base.there b o e hx
   exact⟨o',(hs.2 b (Nat.ne_of_lt (Nat.lt_of_lt_of_le (Heap.lt_size e) (I.ok.cab x c hfn hc)))).trans e1⟩
  ·by_cases hj:j=i
   ·subst hj
    rw[hi]at e1;cases e1
    rw[List.getElem?_set_self hiσ]at e2
    cases e2
    exact⟨u,r,.inr ⟨.inl hk,c,hc,hc'⟩⟩
   ·rw[List.getElem?_set_ne (Ne.symm hj)]at e2
    obtain⟨u',r',q⟩:=hl j y v' e1 e2 e3
    refine⟨u',r',?_⟩
    rcases q with q | ⟨k,c',e,z'⟩
    ·exact .inl q
    ·refine .inr ⟨k,c',e,z'.sameBut hs ?_⟩
     rintro rfl
     exact hj (jn7 hN e1 (I.ok.inj _ _ _ e hc▸hi))
  ·by_cases hcc:c'=c
   ·subst hcc;exact⟨_,hc'⟩
   ·obtain⟨w2,z2⟩:=I.cell y c' e
    exact⟨w2,z2.sameBut hs hcc⟩
  ·obtain⟨e,n,ne,nf,d⟩:=I.pin p hp
   refine⟨(hs.2 p.1 ?_).trans e,n,ne,nf,d⟩
   intro q
   rw[q,hoc]at e
   have q':oc=p.2:=Option.some.inj e
   exact d w' (by rw[←q'];exact hocd)
theorem jnq {M:Model} {A:Around} {E:Value→Shared→Prop} {i:Nat} {x:Str} {v:V} {u:Value} {Q:Unit→Shared→Prop} (I:Inv X pins σ H s) (hN:X.N.Nodup) (hi:X.N[i]?=some x) (hx:Loc X.env.scope x) (r:RelV v u)
  (h:∀s',Inv X pins (σ.set i (some v)) H s'→Q () s') (hf:X.fn x=true∨X.env.scope.names.lookup x=some .local:=by first | exact .inl rfl | exact .inr rfl | assumption):wpAny M A (storeName X.env x u) Q E s :=
 jlb I hN hi hx r (fun s' I' _=>h s' I') hf
theorem Inv.call' {s':Shared} {ch:List Addr} (I:Inv X pins σ H s) (ho:s'.os=s.os) (u:Un (frs X.stack) ch H H' s.heap s'.heap) (hok:HOk X.prog X.w H' s'.heap) (hg:AllBare s'.gens)
  (hch:∀b∈ch,(b∈X.ex∨X.s₀.heap.objs.size≤b)∧b≠X.env.locals∧(∀x c,X.env.cells.lookup x=some c→c≠b)∧∀p∈X.pn++pins,p.1≠b):Inv X pins σ H' s':=by
 obtain⟨h',g',d',t',o'⟩:=s'
 have e:o'=s.os:=ho
 subst e
 exact I.call (g':=g') (t':=t') (d':=d') u hok hg hch
end
noncomputable abbrev XK:=Value→Option Addr→Hp→Prop
noncomputable abbrev St:=List (Option V)
noncomputable abbrev VK:=V→Hp→Prop
noncomputable abbrev TE:=St→Hp→VK→Prop
noncomputable abbrev TT:=St→Hp→(Bool→Hp→Prop)→Prop
noncomputable abbrev TA:=St→Hp→(List V→Hp→Prop)→Prop
structure Ends where
 nx:St→Hp→Prop
 rt:VK
 bk:St→Hp→Prop:=fun _ _=>False
 ct:St→Hp→Prop:=fun _ _=>False
noncomputable abbrev TS:=Ends→St→Hp→Prop
noncomputable def EP (X:Cx) (pins:List (Addr×Obj)) (σ:St) (Q:VK) (u:Value) (s':Shared):Prop:=∃v H',Inv X pins σ H' s'∧RelV v u∧Q v H'
noncomputable def TP (X:Cx) (pins:List (Addr×Obj)) (σ:St) (Q:Bool→Hp→Prop) (b:Bool) (s':Shared):Prop:=∃H',Inv X pins σ H' s'∧Q b H'
noncomputable def AP (X:Cx) (pins:List (Addr×Obj)) (σ:St) (Q:List V→Hp→Prop) (us:List Value) (s':Shared):Prop:=∃vs H',Inv X pins σ H' s'∧Vals vs us∧Q vs H'
noncomputable def SP (X:Cx) (pins:List (Addr×Obj)) (D:Ends) (f:Flow) (s':Shared):Prop :=
 match f with
 |.next=>∃σ' H',Inv X pins σ' H' s'∧D.nx σ' H'
 |.brk=>∃σ' H',Inv X pins σ' H' s'∧D.bk σ' H'
 |.cont=>∃σ' H',Inv X pins σ' H' s'∧D.ct σ' H'
 |.ret u=>∃v σ' H',Inv X pins σ' H' s'∧RelV v u∧D.rt v H'
noncomputable def PE (X:Cx) (e:Expr) (t:TE):Prop :=
 ∀(pins:List (Addr×Obj)) (s:Shared) (σ:St) (H:Hp) (Q:VK),Inv X pins σ H s→t σ H Q→wpAny (model X.prog X.w) X.A (eval e X.env) (EP X pins σ Q) X.xe s
noncomputable def PT (X:Cx) (e:Expr) (t:TT):Prop :=
 ∀(pins:List (Addr×Obj)) (s:Shared) (σ:St) (H:Hp) (Q:Bool→Hp→Prop),Inv X pins σ H s→t σ H Q→wpAny (model X.prog X.w) X.A (isTrue e X.env (eval e X.env)) (TP X pins σ Q) X.xe s
noncomputable def PW (X:Cx) (e:Expr) (t:TT):Prop :=
 ∀(whole:Sem Value) (pins:List (Addr×Obj)) (s:Shared) (σ:St) (H:Hp) (Q:Bool→Hp→Prop),Inv X pins σ H s→t σ H Q→wpAny (model X.prog X.w) X.A (isTrue e X.env whole) (TP X pins σ Q) X.xe s
theorem PW.pt {X:Cx} {e:Expr} {t:TT} (h:PW X e t):PT X e t:=h _
noncomputable def PA (X:Cx) (es:List Expr) (t:TA):Prop :=
 ∀(pos:Pos) (pins:List (Addr×Obj)) (s:Shared) (σ:St) (H:Hp) (Q:List V→Hp→Prop),Inv X pins σ H s→t σ H Q→wpAny (model X.prog X.w) X.A (spliced (backTo pos (starEach es X.env))) (AP X pins σ Q) X.xe s
noncomputable def PS (X:Cx) (st:Stmt) (t:TS):Prop :=
 ∀(pins:List (Addr×Obj)) (s:Shared) (σ:St) (H:Hp) (D:Ends),Inv X pins σ H s→t D σ H→wpAny (model X.prog X.w) X.A (exec st X.env) (SP X pins D) X.xe s
noncomputable def PSs (X:Cx) (st:List Stmt) (t:TS):Prop :=
 ∀(pins:List (Addr×Obj)) (s:Shared) (σ:St) (H:Hp) (D:Ends),Inv X pins σ H s→t D σ H→wpAny (model X.prog X.w) X.A (execs st X.env) (SP X pins D) X.xe s
theorem thn {α:Type} {t:Sem α} {Q Q':α→Shared→Prop} {M:Model} {A:Around} {E:Value→Shared→Prop} {s:Shared} (h:wpAny M A t Q E s) (hQ:∀a s,Q a s→Q' a s):wpAny M A t Q' E s:=wpAny_mono h hQ fun _ _ x=>x
section
variable {X:Cx}
theorem bin {a b:Expr} {ta tb:TE} (ha:PE X a ta) (hb:PE X b tb) {pins:List (Addr×Obj)} {s:Shared} {σ:St} {H:Hp} {R:V→V→Hp→Prop} (I:Inv X pins σ H s) (h:ta σ H fun x H1=>tb σ H1 fun y H2=>R x y H2)
  {α:Type} {Q:α→Shared→Prop} {f:Value→Value→Sem α}
  (hf:∀v u s2 x y H2,Inv X pins σ H2 s2→RelV x v→RelV y u→R x y H2→wpAny (model X.prog X.w) X.A (f v u) Q X.xe s2) :
  wpAny (model X.prog X.w) X.A (eval a X.env) (fun v s₁=>wpAny (model X.prog X.w) X.A (eval b X.env) (fun u s₂=>wpAny (model X.prog X.w) X.A (f v u) Q X.xe s₂) X.xe s₁) X.xe s:=by
 refine thn (ha pins s σ H _ I h) fun v s1 ⟨x,H1,I1,r1,q1⟩=>?_
 refine thn (hb pins s1 σ H1 _ I1 q1) fun u s2 ⟨y,H2,I2,r2,q2⟩=>?_
 exact hf v u s2 x y H2 I2 r1 r2 q2
noncomputable def tVar (i:Nat):TE:=fun σ H Q=>∃v,σ[i]?=some (some v)∧Q v H
noncomputable def tC (v:V):TE:=fun _ H Q=>Q v H
theorem jdf {i:Nat} {x:Str} {pos:Pos} (hN:X.N[i]?=some x) (hv:Vis X.env.scope x) (hd:(x==("__debug__":Str))=false:=by decide) (hcd:(x==("__classdict__":Str))=false:=by decide):PE X (.Name x pos) (tVar i):=by
 intro pins s σ H Q I h
 obtain⟨v,e,h⟩:=h
 obtain⟨m,hn,hl⟩:=I.loc
 obtain⟨u,r,l⟩:=hl i x v hN e hv
 have fin:EP X pins σ Q u s:=⟨v,H,I,r,h⟩
 rcases l with⟨hk,hm⟩ | ⟨hk,c,hc,hcell⟩
 ·exact wpAny_Name (wpAny_loadName_local I.ok.kind hk hn hm fin) hd
 ·rcases hk with hk | hk
  ·exact wpAny_Name (wpAny_loadName_cell I.ok.kind hk hc hcell fin) hd
  ·exact wpAny_Name (wpAny_loadName_free I.ok.kind hk hc hcell fin hcd) hd
theorem ja4 {i j pos}:PE X (.Constant (.int i) j pos) (tC (.int i)):=fun _ _ _ H _ I h=>wpAny_Constant_int ⟨.int i,H,I.tok _,⟨_,rfl⟩,h⟩
theorem j1c {b j pos}:PE X (.Constant (.bool b) j pos) (tC (.bl b)):=fun _ _ _ H _ I h=>Constant_bool ⟨.bl b,H,I,rfl,h⟩
theorem jn3 {j pos}:PE X (.Constant .none j pos) (tC .non):=fun _ _ _ H _ I h=>Constant_none ⟨.non,H,I,rfl,h⟩
theorem jn1 {x j pos}:PE X (.Constant (.str x) j pos) (tC (.str x)):=fun _ _ _ H _ I h=>Calls.Constant_str ⟨.str x,H,I.tok _,⟨_,rfl⟩,h⟩
noncomputable def Gl (X:Cx) (x:Str):Prop:=X.env.kindOf x=some .globalImplicit
theorem jrg {E:Value→Shared→Prop} {pins:List (Addr×Obj)} {s:Shared} {σ:St} {H:Hp} {x:Str} {u:Value} {pos:Pos} {Q:Value→Shared→Prop} (I:Inv X pins σ H s) (hg:Gl X x) (hm:X.mg x=some u) (h:Q u s)
  (hd:(x==("__debug__":Str))=false:=by decide):wpAny (model X.prog X.w) X.A (eval (.Name x pos) X.env) Q E s :=
 Calls.Name_function_global I.ok.kind hg (Calls.loadGlobal_global (by rw[I.ok.glob];exact I.mod.glob.keeps I.bk) hm h) hd
theorem jjh {E:Value→Shared→Prop} {pins:List (Addr×Obj)} {s:Shared} {σ:St} {H:Hp} {x:Str} {u:Value} {pos:Pos} {Q:Value→Shared→Prop} (I:Inv X pins σ H s) (hg:Gl X x) (hm:X.mg x=none) (hv:bootBuiltins x=some u) (h:Q u s)
  (hn:x≠"__name__":=by decide) (hd:(x==("__debug__":Str))=false:=by decide):wpAny (model X.prog X.w) X.A (eval (.Name x pos) X.env) Q E s:=by
 obtain⟨mb,h1,h2⟩:=I.mod.blt
 exact Calls.Name_function_global I.ok.kind hg (Calls.loadGlobal_builtin (by rw[I.ok.glob];exact I.mod.glob.keeps I.bk) hm (by rw[I.ok.blt];exact h1.keeps I.bk) ((h2 x hn).trans hv) h) hd
theorem jw4 {x:Str} {v:V} {u:Value} {pos:Pos} (hg:Gl X x) (hm:X.mg x=some u) (r:RelV v u) (hd:(x==("__debug__":Str))=false:=by decide):PE X (.Name x pos) (tC v) :=
 fun _ _ _ H _ I h=>jrg I hg hm ⟨v,H,I,r,h⟩ hd
theorem jq2 {x:Str} {v:V} {u:Value} {pos:Pos} (hg:Gl X x) (hm:X.mg x=none) (hv:bootBuiltins x=some u) (r:RelV v u) (hn:x≠"__name__":=by decide) (hd:(x==("__debug__":Str))=false:=by decide):PE X (.Name x pos) (tC v) :=
 fun _ _ _ H _ I h=>jjh I hg hm hv ⟨v,H,I,r,h⟩ hn hd
variable {a b:Expr} {ta tb:TE} {pos:Pos}
noncomputable def PC (X:Cx) (op:CmpOp) (a b:Expr) (t:TE):Prop :=
 ∀(pins:List (Addr×Obj)) (s:Shared) (σ:St) (H:Hp) (Q:VK),Inv X pins σ H s→t σ H Q →
  wpAny (model X.prog X.w) X.A (eval a X.env) (fun v s₁=>wpAny (model X.prog X.w) X.A (eval b X.env) (fun u s₂=>wpAny (model X.prog X.w) X.A (compareOp op v u) (EP X pins σ Q) X.xe s₂) X.xe s₁) X.xe s
theorem jn8 (b:Expr) {op:CmpOp} (h:op≠.In) (h2:op≠.NotIn):behindInMarks op b=false:=by
 have e1:(op==CmpOp.In)=false:=by cases op<;>first | rfl | exact absurd rfl h
 have e2:(op==CmpOp.NotIn)=false:=by cases op<;>first | rfl | exact absurd rfl h2
 cases b<;>simp[behindInMarks,e1,e2]
noncomputable def tB (t:TE):TT:=fun σ H Q=>t σ H fun x H1=>∃c,x=.bl c∧Q c H1
theorem jvh {op:CmpOp} {t:TE} (h:PC X op a b t) (h1:behindInMarks op b=false:=by first | exact jn8 _ (by decide) (by decide) | rfl):PE X (.Compare a [op] [b] pos) t:=fun pins s σ H Q I hw=>wpAny_Compare1 (h pins s σ H Q I hw) h1
theorem jy7 {op:CmpOp} {t:TE} (h:PC X op a b t) (h1:behindInMarks op b=false:=by first | exact jn8 _ (by decide) (by decide) | rfl):PT X (.Compare a [op] [b] pos) (tB t):=by
 intro pins s σ H Q I hw
 refine wpAny_isTrue_Compare1 (thn (h pins s σ H _ I hw) fun v s1 h1=>thn h1 fun u s2 h2=>thn h2 fun c s3 ⟨x,H1,I1,r1,q1⟩=>?_) h1
 obtain⟨d,rfl,q⟩:=q1
 cases r1
 exact wpAny_truthy_bool ⟨H1,I1,q⟩
theorem jy5 {e:Expr} {t:TE} (h:PE X e t) (he:∀whole,isTrue e X.env whole=(do let v ←whole;standAt e.pos;holding [v] (truthy v)):=by intro _;rfl):PT X e (tB t):=by
 intro pins s σ H Q I hw
 refine isTrue_plain (thn (h pins s σ H _ I hw) fun v s1 ⟨x,H1,I1,r1,q1⟩=>?_) (he _)
 obtain⟨d,rfl,q⟩:=q1
 cases r1
 exact wpAny_truthy_bool ⟨H1,I1,q⟩
variable {tA tB':TT} {rest:List Expr}
noncomputable def tAnd (t u:TT):TT:=fun σ H Q=>t σ H fun c H1=>if c=true then u σ H1 Q else Q false H1
noncomputable def tOr (t u:TT):TT:=fun σ H Q=>t σ H fun c H1=>if c=true then Q true H1 else u σ H1 Q
noncomputable def tNot (t:TT):TT:=fun σ H Q=>t σ H fun c H1=>Q (!c) H1
theorem jqu (ha:PT X a tA):PW X (.BoolOp .And [a] pos) tA:=by
 intro wh pins s σ H Q I h
 refine isTrue_and (thn (ha pins s σ H Q I h) fun c s1 e=>?_)
 cases c with
 |true=>exact isTrue_and_nil e
 |false=>exact e
theorem jy4 (ha:PT X a tA):PW X (.BoolOp .Or [a] pos) tA:=by
 intro wh pins s σ H Q I h
 refine isTrue_or (thn (ha pins s σ H Q I h) fun c s1 e=>?_)
 cases c with
 |false=>exact isTrue_or_nil e
 |true=>exact e
theorem jve (ha:PT X a tA) (hb:PW X (.BoolOp .And (b::rest) pos) tB'):PW X (.BoolOp .And (a::b::rest) pos) (tAnd tA tB'):=by
 intro wh pins s σ H Q I h
 refine isTrue_and (thn (ha pins s σ H _ I h) fun c s1 ⟨H1,I1,q1⟩=>?_)
 cases c with
 |true=>exact hb wh pins s1 σ H1 Q I1 q1
 |false=>exact⟨H1,I1,q1⟩
theorem j09 (ha:PT X a tA) (hb:PW X (.BoolOp .Or (b::rest) pos) tB'):PW X (.BoolOp .Or (a::b::rest) pos) (tOr tA tB'):=by
 intro wh pins s σ H Q I h
 refine isTrue_or (thn (ha pins s σ H _ I h) fun c s1 ⟨H1,I1,q1⟩=>?_)
 cases c with
 |true=>exact⟨H1,I1,q1⟩
 |false=>exact hb wh pins s1 σ H1 Q I1 q1
theorem jy6 (ha:PT X a tA):PT X (.UnaryOp .Not a pos) (tNot tA):=by
 intro pins s σ H Q I h
 exact isTrue_not (ha pins s σ H (fun c H1=>Q (!c) H1) I h)
noncomputable def jyg (ta tb:TE):TE:=fun σ H Q=>ta σ H fun x H1=>∃c,x=.bl c∧if c=true then tb σ H1 Q else Q (.bl false) H1
noncomputable def tOrV (ta tb:TE):TE:=fun σ H Q=>ta σ H fun x H1=>∃c,x=.bl c∧if c=true then Q (.bl true) H1 else tb σ H1 Q
theorem jzc {op} {t:TE} (h:PE X a t):PE X (.BoolOp op [a] pos) t:=fun pins s σ H Q I hw=>BoolOp_one (h pins s σ H Q I hw)
theorem jze (ha:PE X a ta) (hb:PE X (.BoolOp .And (b::rest) pos) tb):PE X (.BoolOp .And (a::b::rest) pos) (jyg ta tb):=by
 intro pins s σ H Q I h
 refine BoolOp_and (thn (ha pins s σ H _ I h) fun v s1 ⟨x,H1,I1,r1,q1⟩=>?_)
 obtain⟨c,rfl,q1⟩:=q1
 cases r1
 refine wpAny_truthy_bool ?_
 cases c with
 |true=>exact hb pins s1 σ H1 Q I1 q1
 |false=>exact⟨.bl false,H1,I1,rfl,q1⟩
theorem j1b (ha:PE X a ta) (hb:PE X (.BoolOp .Or (b::rest) pos) tb):PE X (.BoolOp .Or (a::b::rest) pos) (tOrV ta tb):=by
 intro pins s σ H Q I h
 refine BoolOp_or (thn (ha pins s σ H _ I h) fun v s1 ⟨x,H1,I1,r1,q1⟩=>?_)
 obtain⟨c,rfl,q1⟩:=q1
 cases r1
 refine wpAny_truthy_bool ?_
 cases c with
 |false=>exact hb pins s1 σ H1 Q I1 q1
 |true=>exact⟨.bl true,H1,I1,rfl,q1⟩
noncomputable def tIf (t:TT) (ta tb:TE):TE:=fun σ H Q=>t σ H fun c H1=>if c=true then ta σ H1 Q else tb σ H1 Q
theorem jtq {c:Expr} (hc:PT X c tA) (ha:PE X a ta) (hb:PE X b tb):PE X (.IfExp c a b pos) (tIf tA ta tb):=by
 intro pins s σ H Q I h
 refine wpAny_IfExp (thn (hc pins s σ H _ I h) fun d s1 ⟨H1,I1,q1⟩=>?_)
 cases d with
 |true=>exact ha pins s1 σ H1 Q I1 q1
 |false=>exact hb pins s1 σ H1 Q I1 q1
end
noncomputable def SqL (K:PySem.W.Frag) (H:Hp) (a:Addr) (xs:List V):Prop :=
 Rd H a (.lst xs) ∨
  ∃(o:Obj) (its:Array Value) (n:Nat),K.lookup a=some o∧o.cls=.type "list"∧o.dict=none∧o.data=.seq its n∧its.size≤sizeLine∧Vals xs its.toList
noncomputable def SqT (K:PySem.W.Frag) (H:Hp) (a:Addr) (xs:List V):Prop :=
 Rd H a (.tup xs) ∨
  ∃(o:Obj) (its:Array Value) (n:Nat),K.lookup a=some o∧o.cls=.type "tuple"∧o.data=.seq its n∧its.size≤sizeLine∧Vals xs its.toList
noncomputable def absV:Value→Option V
 |.none=>some .non
 |.bool b=>some (.bl b)
 |.int i _=>some (.int i)
 |.str x _=>some (.str x)
 |.bytes b _=>some (.byt b)
 |.float b _=>some (.flt b)
 |.ref a=>some (.ref a)
 |.type n=>some (.ty n)
 |_=>none
theorem RelV.abs {x:V} {u:Value} (r:RelV x u):absV u=some x:=by
 cases x with
 |non=>cases r;rfl
 |bl _=>cases r;rfl
 |int _=>obtain⟨t,rfl⟩:=r;rfl
 |str _=>obtain⟨t,rfl⟩:=r;rfl
 |byt _=>obtain⟨t,rfl⟩:=r;rfl
 |flt _=>obtain⟨t,rfl⟩:=r;rfl
 |ref _=>cases r;rfl
 |ty _=>cases r;rfl
theorem RelV.inj {x y:V} {u:Value} (r:RelV x u) (q:RelV y u):x=y:=Option.some.inj (r.abs.symm.trans q.abs)
theorem Vals.inj:∀{xs ys:List V} {us:List Value},Vals xs us→Vals ys us→xs=ys
 |_,_,_,.nil,.nil=>rfl
 |_,_,_,.cons r t,.cons r' t'=>by rw[r.inj r',Vals.inj t t']
section
variable {X:Cx} {pins:List (Addr×Obj)} {σ:St} {H:Hp} {s:Shared} {a:Addr} {xs ys:List V}
theorem SqL.of {K:PySem.W.Frag} (h:H a=some (.lst xs)):SqL K H a xs:=.inl (.inl h)
theorem SqT.of {K:PySem.W.Frag} (h:H a=some (.tup xs)):SqT K H a xs:=.inl (.inl h)
theorem Inv.list (I:Inv X pins σ H s) (h:SqL X.K H a xs):∃its:List Value,Vals xs its∧PlainL s.heap a its.toArray∧xs.length≤sizeLine:=by
 rcases h with h | ⟨o,its,n,hk,hc,hd,hs,hz,r⟩
 ·obtain⟨z,its,n,r,e⟩:=h.ok I.hok
  exact⟨its,r,⟨_,n,e,rfl,rfl,rfl⟩,z⟩
 ·refine⟨its.toList,r,⟨o,n,I.kIn a o hk,hc,hd,by simpa using hs⟩,?_⟩
  have e:=r.length
  simp only[Array.length_toList]at e
  omega
theorem Inv.tuple (I:Inv X pins σ H s) (h:SqT X.K H a xs):∃its:List Value,Vals xs its∧IsTup s.heap a its.toArray∧xs.length≤sizeLine:=by
 rcases h with h | ⟨o,its,n,hk,hc,hs,hz,r⟩
 ·obtain⟨z,its,r,p⟩:=h.ok I.hok
  exact⟨its,r,p.tup,z⟩
 ·refine⟨its.toList,r,⟨o,I.kIn a o hk,hc,n,by simpa using hs⟩,?_⟩
  have e:=r.length
  simp only[Array.length_toList]at e
  omega
theorem Inv.list_inj (I:Inv X pins σ H s) (h:SqL X.K H a xs) (h':SqL X.K H a ys):xs=ys:=by
 obtain⟨its,r,⟨o,n,e,_,_,d⟩,_⟩:=I.list h
 obtain⟨its',r',⟨o',n',e',_,_,d'⟩,_⟩:=I.list h'
 rw[e]at e';cases e'
 rw[d]at d'
 injection d' with d1 _
 have:its=its':=by simpa using congrArg Array.toList d1
 subst this
 exact r.inj r'
theorem Inv.tuple_inj (I:Inv X pins σ H s) (h:SqT X.K H a xs) (h':SqT X.K H a ys):xs=ys:=by
 obtain⟨its,r,⟨o,e,_,n,d⟩,_⟩:=I.tuple h
 obtain⟨its',r',⟨o',e',_,n',d'⟩,_⟩:=I.tuple h'
 rw[e]at e';cases e'
 rw[d]at d'
 injection d' with d1 _
 have:its=its':=by simpa using congrArg Array.toList d1
 subst this
 exact r.inj r'
end
noncomputable abbrev Cx.wish (X:Cx) (E:Value→Shared→Prop):Cx:={ X with xe:=E}
noncomputable abbrev Cx.nox (X:Cx):Cx:=X.wish fun _ _=>False
theorem Cx.Ok.wish {X:Cx} (ok:X.Ok) (E:Value→Shared→Prop):(X.wish E).Ok :=
 ⟨ok.mod,ok.kind,ok.glob,ok.blt,ok.above,ok.inj,ok.has,ok.cab,ok.hd,ok.frames,ok.stk,ok.exf,ok.bs,ok.bsz,ok.noex,ok.exfs,ok.funs,ok.frf⟩
theorem Cx.Ok.unwish {X:Cx} {E:Value→Shared→Prop} (ok:(X.wish E).Ok):X.Ok :=
 ⟨ok.mod,ok.kind,ok.glob,ok.blt,ok.above,ok.inj,ok.has,ok.cab,ok.hd,ok.frames,ok.stk,ok.exf,ok.bs,ok.bsz,ok.noex,ok.exfs,ok.funs,ok.frf⟩
section
variable {X:Cx} {pins:List (Addr×Obj)} {σ:St} {H:Hp} {s:Shared} {E:Value→Shared→Prop}
theorem Inv.wish (I:Inv X pins σ H s) (E:Value→Shared→Prop):Inv (X.wish E) pins σ H s:=⟨I.ok.wish E,I.os,I.bare,I.base,I.loc,I.cell,I.free,I.freeC,I.pin,I.hok,I.len⟩
theorem Inv.unwish (I:Inv (X.wish E) pins σ H s):Inv X pins σ H s:=⟨I.ok.unwish,I.os,I.bare,I.base,I.loc,I.cell,I.free,I.freeC,I.pin,I.hok,I.len⟩
theorem SP.unwish {D:Ends} {f:Flow} {s':Shared} (h:SP (X.wish E) pins D f s'):SP X pins D f s':=by
 cases f with
 |next=>obtain⟨σ',H',I,q⟩:=h;exact⟨σ',H',I.unwish,q⟩
 |brk=>obtain⟨σ',H',I,q⟩:=h;exact⟨σ',H',I.unwish,q⟩
 |cont=>obtain⟨σ',H',I,q⟩:=h;exact⟨σ',H',I.unwish,q⟩
 |ret u=>obtain⟨v,σ',H',I,r,q⟩:=h;exact⟨v,σ',H',I.unwish,r,q⟩
theorem PSs.nox {st:List Stmt} {t:TS} (h:PSs X.nox st t):PSs X st t:=fun pins s σ H D I hw =>
 wpAny_mono (h pins s σ H D (I.wish _) hw) (fun _ _ q=>q.unwish) fun _ _ z=>False.elim z
end
section
variable {X:Cx} {st:Stmt} {rest:List Stmt} {t u:TS} {e:Expr} {te:TE} {pos:Pos}
noncomputable def jyd:TS:=fun D σ H=>D.nx σ H
noncomputable def tSeq (t u:TS):TS:=fun D σ H=>t {D with nx:=u D} σ H
theorem jj5:PSs X [] jyd:=fun _ _ σ H _ I h=>wpAny_execs_nil ⟨σ,H,I,h⟩
theorem jb7 (h1:PS X st t) (h2:PSs X rest u):PSs X (st::rest) (tSeq t u):=by
 intro pins s σ H D I h
 refine wpAny_execs_cons (thn (h1 pins s σ H {D with nx:=u D} I h) fun f s1 q=>?_)
 cases f with
 |next =>
  obtain⟨σ',H',I',q⟩:=q
  exact h2 pins s1 σ' H' D I' q
 |ret v=>exact q
 |brk=>exact q
 |cont=>exact q
theorem jf3 (h1:PS X st t):PSs X [st] t:=by
 intro pins s σ H D I h
 refine wpAny_execs_cons (thn (h1 pins s σ H D I h) fun f s1 q=>?_)
 cases f with
 |next=>exact wpAny_execs_nil q
 |ret v=>exact q
 |brk=>exact q
 |cont=>exact q
theorem Inv.quiet {pins:List (Addr×Obj)} {σ:St} {H:Hp} {s:Shared} (I:Inv X pins σ H s):interactive X.env=false:=by simp[interactive,I.ok.kind]
noncomputable def js2 (te:TE):TS:=fun D σ H=>te σ H fun _ H1=>D.nx σ H1
theorem jm5 (he:PE X e te) (hs:swapsWith e none pos.line X.env=pure false:=by rfl):PS X (.Expr e pos) (js2 te):=by
 intro pins s σ H D I h
 exact wpAny_Expr_any (thn (he pins s σ H _ I h) fun v s1 ⟨x,H1,I1,r1,q1⟩=>⟨σ,H1,I1,q1⟩) I.quiet hs
noncomputable def tRet (te:TE):TS:=fun D σ H=>te σ H D.rt
theorem jjb (he:PE X e te):PS X (.Return (some e) pos) (tRet te):=by
 intro pins s σ H D I h
 exact wpAny_Return_some (thn (he pins s σ H _ I h) fun v s1 ⟨x,H1,I1,r1,q1⟩=>⟨x,σ,H1,I1,r1,q1⟩)
noncomputable def tIfS (c:TT) (t u:TS):TS:=fun D σ H=>c σ H fun b H1=>if b=true then t D σ H1 else u D σ H1
theorem jtn {c:Expr} {a b:List Stmt} {tc:TT} (hc:PT X c tc) (ha:PSs X a t) (hb:PSs X b u):PS X (.If c a b pos) (tIfS tc t u):=by
 intro pins s σ H D I h
 refine wpAny_If (thn (hc pins s σ H _ I h) fun d s1 ⟨H1,I1,q1⟩=>?_)
 cases d with
 |true=>exact ha pins s1 σ H1 D I1 q1
 |false=>exact hb pins s1 σ H1 D I1 q1
end
noncomputable abbrev TG:=V→St→Hp→(St→Hp→Prop)→Prop
noncomputable abbrev TGs:=List V→St→Hp→(St→Hp→Prop)→Prop
noncomputable def PG (X:Cx) (target:Expr) (t:TG):Prop :=
 ∀(pins:List (Addr×Obj)) (s:Shared) (σ:St) (H:Hp) (v:V) (u:Value) (Q:St→Hp→Prop),Inv X pins σ H s→RelV v u→t v σ H Q →
  wpAny (model X.prog X.w) X.A (assign target X.env u) (fun _ s'=>∃σ' H',Inv X pins σ' H' s'∧Q σ' H') X.xe s
noncomputable def PGs (X:Cx) (ts:List Expr) (t:TGs):Prop :=
 ∀(pins:List (Addr×Obj)) (s:Shared) (σ:St) (H:Hp) (vs:List V) (us:List Value) (Q:St→Hp→Prop),Inv X pins σ H s→Vals vs us→t vs σ H Q →
  wpAny (model X.prog X.w) X.A (assignInOrder ((assignEach ts X.env).map (·.2)) us) (fun _ s'=>∃σ' H',Inv X pins σ' H' s'∧Q σ' H') X.xe s
noncomputable abbrev TSet:=V→V→V→Hp→(Hp→Prop)→Prop
noncomputable def PSet (X:Cx) (t:TSet):Prop :=
 ∀(pins:List (Addr×Obj)) (s:Shared) (σ:St) (H:Hp) (o i v:V) (ov iv u:Value) (Q:Hp→Prop),Inv X pins σ H s→RelV o ov→RelV i iv→RelV v u→t o i v H Q →
  wpAny (model X.prog X.w) X.A (setItem ov iv u) (fun _ s'=>∃H',Inv X pins σ H' s'∧Q H') X.xe s
section
variable {X:Cx} {pos:Pos}
noncomputable def jgc (i:Nat):TG:=fun v σ H Q=>Q (σ.set i (some v)) H
theorem jw3 {i:Nat} {x:Str} (hN:X.N.Nodup) (hi:X.N[i]?=some x) (hx:Loc X.env.scope x) (hf:X.fn x=true∨X.env.scope.names.lookup x=some .local:=by first | exact .inl rfl | exact .inr rfl | assumption):PG X (.Name x pos) (jgc i):=by
 intro pins s σ H v u Q I r h
 exact wpAny_assign_Name (jnq I hN hi hx r (fun s' I'=>⟨_,H,I',h⟩) hf)
noncomputable def gNil:TGs:=fun vs σ H Q=>vs=[]∧Q σ H
noncomputable def j0e (t:TG) (u:TGs):TGs:=fun vs σ H Q=>∃v r,vs=v::r∧t v σ H fun σ' H'=>u r σ' H' Q
theorem jw2:PGs X [] gNil:=by
 intro pins s σ H vs us Q I r h
 obtain⟨e,h⟩:=h
 subst e
 cases r
 exact assignInOrder_nil ⟨σ,H,I,h⟩
theorem jtp {e:Expr} {es:List Expr} {t:TG} {u:TGs} (h1:PG X e t) (h2:PGs X es u)
  (hs:(assignEach (e::es) X.env).map (·.2)=assign e X.env::(assignEach es X.env).map (·.2):=by rfl):PGs X (e::es) (j0e t u):=by
 intro pins s σ H vs us Q I r h
 obtain⟨v,vr,e1,h⟩:=h
 subst e1
 cases r with
 |cons r rr =>
  rw[hs]
  refine assignInOrder_cons (thn (h1 pins s σ H _ _ _ I r h) fun _ s1 ⟨σ1,H1,I1,q1⟩=>?_)
  exact h2 pins s1 σ1 H1 _ _ Q I1 rr q1
noncomputable def gTup (K:PySem.W.Frag) (n:Nat) (t:TGs):TG:=fun v σ H Q=>∃a xs,v=.ref a∧SqT K H a xs∧xs.length=n∧t xs σ H Q
theorem jzb {es:List Expr} {k:Nat} {t:TGs} {n:Nat} (hc:X.calm=true) (h:PGs X es t)
  (hn:(assignEach es X.env).length=n:=by rfl) (hst:(assignEach es X.env).findIdx? (·.1)=none:=by rfl):PG X (.Tuple es k pos) (gTup X.K n t):=by
 intro pins s σ H v u Q I r hw
 obtain⟨a,xs,e1,hq,hl,hw⟩:=hw
 subst e1
 cases r
 obtain⟨its,rv,ht,hz⟩:=I.tuple hq
 refine assign_Tuple_tuple (I.ok.hd hc) ht (by simp[hn,←hl,rv.length]) hst fun h' hx=>?_
 have I1:Inv X pins σ H {s with heap:=h'}:=I.kept (t':=s.toks) fun b o e=>hx b o (Nat.ne_of_lt (Heap.lt_size e)) e
 exact h pins _ σ H xs _ Q I1 (by simpa using rv) hw
noncomputable def gSub (to ti:TE) (t:TSet):TG:=fun v σ H Q=>to σ H fun o H1=>ti σ H1 fun i H2=>t o i v H2 fun H3=>Q σ H3
theorem jn0 {o i:Expr} {to ti:TE} {t:TSet} (ho:PE X o to) (hi:PE X i ti) (hs:PSet X t)
  (ha:∀v,assign (.Subscript o i pos) X.env v=(do
   let ov ←holding [v] (eval o X.env)
   let iv ←holding [v,ov] (eval i X.env)
   standAt pos
   holding [v,ov,iv] (setItem ov iv v)
   release [v,ov,iv] []):=by intro _;rfl):PG X (.Subscript o i pos) (gSub to ti t):=by
 intro pins s σ H v u Q I r h
 rw[ha]
 refine wpAny_bind (wpAny_holding (thn (ho pins s σ H _ I h) fun ov s1 ⟨x,H1,I1,r1,q1⟩=>?_))
 refine wpAny_bind (wpAny_holding (thn (hi pins s1 σ H1 _ I1 q1) fun iv s2 ⟨y,H2,I2,r2,q2⟩=>?_))
 refine wpAny_bind (wpAny_standAt (wpAny_bind (wpAny_holding (thn (hs pins s2 σ H2 x y v ov iv u _ I2 r1 r2 r q2) fun _ s3 ⟨H3,I3,q3⟩=>?_))))
 exact wpAny_release ⟨σ,H3,I3,q3⟩
noncomputable def tAsg (te:TE) (g:TG):TS:=fun D σ H=>te σ H fun x H1=>g x σ H1 D.nx
theorem jlm {tg e:Expr} {te:TE} {g:TG} (he:PE X e te) (hg:PG X tg g) (hs:swapsWithSole [tg] e pos.line X.env=pure false:=by rfl) (hw:swappedStores [tg] e X.env=pure none:=by rfl)
  (h1:(assignEach [tg] X.env).map (·.2)=[assign tg X.env]:=by rfl):PS X (.Assign [tg] e pos) (tAsg te g):=by
 intro pins s σ H D I h
 refine wpAny_Assign_stores (thn (he pins s σ H _ I h) fun v s1 ⟨x,H1,I1,r1,q1⟩=>?_) hs hw
 rw[h1]
 exact thn (hg pins s1 σ H1 x v _ I1 r1 q1) fun _ s2 q=>q
theorem jez {i:Nat} {x:Str} {e:Expr} {te:TE} {pos':Pos} (hN:X.N.Nodup) (hi:X.N[i]?=some x) (hx:Loc X.env.scope x) (he:PE X e te) (hs:swapsWith e (some (.Name x pos')) pos.line X.env=pure false:=by rfl) (hf:X.fn x=true∨X.env.scope.names.lookup x=some .local:=by first | exact .inl rfl | exact .inr rfl | assumption) :
  PS X (.Assign [.Name x pos'] e pos) (tAsg te (jgc i)):=by
 intro pins s σ H D I h
 refine wpAny_Assign_Name (thn (he pins s σ H _ I h) fun v s1 ⟨y,H1,I1,r1,q1⟩=>?_) hs
 exact jnq I1 hN hi hx r1 (fun s2 I2=>⟨_,H1,I2,q1⟩) hf
end
section
variable {X:Cx} {pos:Pos}
end
structure It where
 go:Nat→Hp→Prop
 yld:Nat→Hp→V→Hp→Prop
 stop:Nat→Hp→Prop
noncomputable def FpOk (X:Cx) (pins:List (Addr×Obj)) (H:Hp) (b:Addr):Prop :=
 H b=none∧b≠X.env.locals∧b∉X.fs∧(b∈X.ex∨X.s₀.heap.objs.size≤b)∧(∀x c,X.env.cells.lookup x=some c→c≠b)∧∀p∈X.pn++pins,p.1≠b
theorem Inv.fpOk {X:Cx} {pins:List (Addr×Obj)} {σ:St} {H H':Hp} {s:Shared} {b:Addr} (I:Inv X pins σ H s) (hb:s.heap.objs.size≤b) (hn:H' b=none):FpOk X pins H' b:=by
 refine⟨hn,Nat.ne_of_gt (Nat.lt_of_lt_of_le I.lt hb),I.nofs hb,.inr (Nat.le_trans I.sz hb),fun x c e z=>?_,fun p hp z=>?_⟩
 ·obtain⟨v,q⟩:=I.cell x c e
  exact absurd (Nat.lt_of_lt_of_le q.lt (by rw[z];exact hb)) (Nat.lt_irrefl _)
 ·exact absurd (Nat.lt_of_lt_of_le (Heap.lt_size (I.pin p hp).1) (by rw[z];exact hb)) (Nat.lt_irrefl _)
structure Turn (P:Program) (w:World) (K:PySem.W.Frag) (tg:Expr) (J:It) (fp:List Addr) (it:Addr) (tn:Nat→Heap→Prop):Prop where
 mem:it∈fp
 obj:∀i h,tn i h→∀b∈fp,∃o,h.get? b=some o∧∀v,o.data≠.cell v
 keep:∀i h h',tn i h→(∀b∈fp,∀o,h.get? b=some o→h'.get? b=some o)→tn i h'
 item:∀(X:Cx),X.prog=P→X.w=w→X.K=K→X.calm=true→∀(i:Nat) (pins:List (Addr×Obj)) (s:Shared) (σ:St) (H:Hp) (E:Value→Shared→Prop),Inv X pins σ H s→(∀b∈fp,FpOk X pins H b)→tn i s.heap→J.go i H →
  wpAny (model P w) X.A (pyNext (.ref it)) (fun r s1=>∃u,r=some u ∧
   wpAny (model P w) X.A (letOwnedTupleGo tg (.ref it) u) (fun _ s2=>∃x H',Inv X pins σ H' s2∧RelV x u∧J.yld i H x H'∧tn (i+1) s2.heap∧∀b∈fp,H' b=none) E s1) E s
 done:∀(X:Cx),X.prog=P→X.w=w→X.K=K→X.calm=true→∀(i:Nat) (pins:List (Addr×Obj)) (s:Shared) (σ:St) (H:Hp) (E:Value→Shared→Prop),Inv X pins σ H s→(∀b∈fp,FpOk X pins H b)→tn i s.heap→J.stop i H →
  wpAny (model P w) X.A (pyNext (.ref it)) (fun r s1=>r=none∧Inv X pins σ H s1) E s
 self:∀(A:Around) (i:Nat) (s:Shared) (Q:Value→Shared→Prop) (E:Value→Shared→Prop),tn i s.heap→Q (.ref it) s→wpAny (model P w) A (pyIter (.ref it)) Q E s
noncomputable abbrev TI:=St→Hp→(It→Hp→Prop)→Prop
noncomputable def PIE (X:Cx) (pins:List (Addr×Obj)) (σ:St) (tg:Expr) (R:It→Hp→Prop) (itv:Value) (s2:Shared):Prop :=
 ∃(it:Addr) (fp:List Addr) (tn:Nat→Heap→Prop) (J:It) (H':Hp),itv=.ref it∧Inv X pins σ H' s2∧Turn X.prog X.w X.K tg J fp it tn∧tn 0 s2.heap∧(∀b∈fp,FpOk X pins H' b)∧R J H'
noncomputable def PI (X:Cx) (tg iter:Expr) (wi:TI):Prop :=
 ∀(pins:List (Addr×Obj)) (s:Shared) (σ:St) (H:Hp) (R:It→Hp→Prop),Inv X pins σ H s→wi σ H R →
  wpAny (model X.prog X.w) X.A (eval iter X.env) (fun v s1=>wpAny (model X.prog X.w) X.A (pyIter v) (PIE X pins σ tg R) X.xe s1) X.xe s
theorem jxp {M:Model} {A:Around} {E:Value→Shared→Prop} {s:Shared} {tg:Expr} {it:Addr} {u:Value} {o:Obj} {n:String} {vs:Array Value} {Q:Unit→Shared→Prop} (ho:s.heap.get? it=some o) (hc:o.cls=.type n) (hd:o.data=.fields vs)
  (hn:["enumerate","zip","dict_itemiterator","dict_reverseitemiterator","odict_iterator","itertools.zip_longest","itertools.pairwise"].contains n=false) (hQ:Q () s):wpAny M A (letOwnedTupleGo tg (.ref it) u) Q E s:=by
 unfold letOwnedTupleGo
 cases tg<;>first
  |exact wpAny_pure hQ
  | (cases u<;>first
    |exact wpAny_pure hQ
    | (refine wpAny_bind (wpAny_load ho ?_)
       rw[hc,hd]
       show wpAny M A (if (["enumerate","zip","dict_itemiterator","dict_reverseitemiterator","odict_iterator","itertools.zip_longest","itertools.pairwise"].contains n&&vs[0]?==some (rawInt _))=true then _ else _) Q E s
       rw[if_neg (by intro h;rw[hn,Bool.false_and]at h;cases h)]
       exact wpAny_pure hQ))
noncomputable def Itl (K:PySem.W.Frag) (a:Addr):It :=
 ⟨fun i H=>∃xs x,SqL K H a xs∧xs[i]?=some x,fun i H x H'=>H'=H∧∀xs,SqL K H a xs→xs[i]?=some x,fun i H=>∃xs,SqL K H a xs∧xs.length≤i⟩
noncomputable def Itt (K:PySem.W.Frag) (a:Addr):It :=
 ⟨fun i H=>∃xs x,SqT K H a xs∧xs[i]?=some x,fun i H x H'=>H'=H∧∀xs,SqT K H a xs→xs[i]?=some x,fun i H=>∃xs,SqT K H a xs∧xs.length≤i⟩
noncomputable def Itr (lo:Int) (n:Nat):It:=⟨fun i _=>i < n,fun i H x H'=>H'=H∧x=.int (lo+i),fun i _=>n≤i⟩
theorem jps {P:Program} {w:World} {K:PySem.W.Frag} {tg:Expr} (a it:Addr):Turn P w K tg (Itl K a) [it] it (fun i h=>h.IsListIter it a i) where
 mem:=by simp
 obj:=fun i h st b hb=>by
  have e:b=it:=by simpa using hb
  subst e
  obtain⟨o,e,c,d⟩:=st
  exact⟨o,e,fun v z=>by rw[d]at z;cases z⟩
 keep:=fun i h h' st k=>st.at fun o e=>k it (by simp) o e
 item:=by
  intro X hP hw hK hc i pins s σ H E I hf st hg
  subst hP hw hK
  obtain⟨xs,x,hq,hx⟩:=hg
  obtain⟨its,rv,p,hz⟩:=I.list hq
  obtain⟨u,hu,ru⟩:=rv.get hx
  obtain⟨f0,f1,f2,f3,f4,f5⟩:=hf it (by simp)
  refine wpAny_pyNext_list_item st p.isList (x:=u) (by simpa using hu) fun h' st' sb=>?_
  have I1:Inv X pins σ H {s with heap:=h'}:=I.turned (t':=s.toks) (fun b o hb e=>(sb.2 b hb).trans e) f0 f1 f3 f4 f5
  obtain⟨o,e,c,d⟩:=id st'
  exact⟨u,rfl,jxp (s:={ s with heap:=h'}) e c d (by decide) ⟨x,H,I1,ru,⟨rfl,fun ys hy=>by rw[I.list_inj hy hq];exact hx⟩,st',fun b hb=>(hf b hb).1⟩⟩
 done:=by
  intro X hP hw hK hc i pins s σ H E I hf st hg
  subst hP hw hK
  obtain⟨xs,hq,hx⟩:=hg
  obtain⟨its,rv,p,hz⟩:=I.list hq
  obtain⟨f0,f1,f2,f3,f4,f5⟩:=hf it (by simp)
  have hl:=rv.length
  exact wpAny_pyNext_list_end (I.ok.hd hc) st p.isList (by simp;omega) fun h' eb=>⟨rfl,I.turned (t':=s.toks) (fun b o hb e=>eb b o hb e) f0 f1 f3 f4 f5⟩
 self:=fun _ _ _ _ _ st h=>wpAny_pyIter_listiter st h
theorem jot {P:Program} {w:World} {K:PySem.W.Frag} {tg:Expr} (a it:Addr):Turn P w K tg (Itt K a) [it] it (fun i h=>h.IsTupleIter it a i) where
 mem:=by simp
 obj:=fun i h st b hb=>by
  have e:b=it:=by simpa using hb
  subst e
  obtain⟨o,e,c,d⟩:=st
  exact⟨o,e,fun v z=>by rw[d]at z;cases z⟩
 keep:=fun i h h' st k=>st.at fun o e=>k it (by simp) o e
 item:=by
  intro X hP hw hK hc i pins s σ H E I hf st hg
  subst hP hw hK
  obtain⟨xs,x,hq,hx⟩:=hg
  obtain⟨its,rv,p,hz⟩:=I.tuple hq
  obtain⟨u,hu,ru⟩:=rv.get hx
  obtain⟨f0,f1,f2,f3,f4,f5⟩:=hf it (by simp)
  refine wpAny_pyNext_tuple_item st (show s.heap.IsTuple a its.toArray from p) (x:=u) (by simpa using hu) fun h' st' sb=>?_
  have I1:Inv X pins σ H {s with heap:=h'}:=I.turned (t':=s.toks) (fun b o hb e=>(sb.2 b hb).trans e) f0 f1 f3 f4 f5
  obtain⟨o,e,c,d⟩:=id st'
  exact⟨u,rfl,jxp (s:={ s with heap:=h'}) e c d (by decide) ⟨x,H,I1,ru,⟨rfl,fun ys hy=>by rw[I.tuple_inj hy hq];exact hx⟩,st',fun b hb=>(hf b hb).1⟩⟩
 done:=by
  intro X hP hw hK hc i pins s σ H E I hf st hg
  subst hP hw hK
  obtain⟨xs,hq,hx⟩:=hg
  obtain⟨its,rv,p,hz⟩:=I.tuple hq
  obtain⟨f0,f1,f2,f3,f4,f5⟩:=hf it (by simp)
  have hl:=rv.length
  exact wpAny_pyNext_tuple_end (I.ok.hd hc) st (show s.heap.IsTuple a its.toArray from p) (by simp;omega) fun h' eb=>⟨rfl,I.turned (t':=s.toks) (fun b o hb e=>eb b o hb e) f0 f1 f3 f4 f5⟩
 self:=fun _ _ _ _ _ st h=>wpAny_pyIter_tupleiter st h
theorem jou {P:Program} {w:World} {K:PySem.W.Frag} {tg:Expr} (it:Addr) (lo:Int) (n:Nat):Turn P w K tg (Itr lo n) [it] it (fun i h=>IsRangeIter h it (lo+(i:Nat)*1) ((n:Int) - (i:Nat)) 1) where
 mem:=by simp
 obj:=fun i h st b hb=>by
  have e:b=it:=by simpa using hb
  subst e
  exact⟨_,st,fun v z=>by
   have z':Data.fields _=Data.cell v:=z
   cases z'⟩
 keep:=fun i h h' st k=>k it (by simp) _ st
 item:=by
  intro X hP hw hK hc i pins s σ H E I hf st hg
  subst hP hw hK
  obtain⟨f0,f1,f2,f3,f4,f5⟩:=hf it (by simp)
  have W:=Walks.range (prog:=X.prog) (w:=X.w) (I.ok.hd hc) it lo 1 n
  refine W.item i s _ _ hg st fun v h' tk hv st' kk=>?_
  obtain⟨t,rfl⟩:=hv
  have I1:Inv X pins σ H {s with heap:=h',toks:=tk}:=I.turned (fun b o hb e=>kk b o (by simpa using hb) e) f0 f1 f3 f4 f5
  refine⟨_,rfl,jxp (s:={ s with heap:=h',toks:=tk}) (n:="range_iterator") st' rfl rfl (by decide) ⟨.int (lo+i),H,I1,⟨t,?_⟩,⟨rfl,rfl⟩,st',fun b hb=>(hf b hb).1⟩⟩
  rw[Int.mul_one]
 done:=by
  intro X hP hw hK hc i pins s σ H E I hf st hg
  subst hP hw hK
  obtain⟨f0,f1,f2,f3,f4,f5⟩:=hf it (by simp)
  exact wpAny_pyNext_range_end (I.ok.hd hc) st (by have:n≤i:=hg;omega) fun h' eb=>⟨rfl,I.turned (t':=s.toks) (fun b o hb e=>eb b o hb e) f0 f1 f3 f4 f5⟩
 self:=fun _ _ _ _ _ st h=>wpAny_pyIter_rangeiter st h
section
variable {X:Cx} {tg:Expr}
noncomputable def jxo (K:PySem.W.Frag) (tl:TE):TI:=fun σ H R=>tl σ H fun x H1=>∃a,x=.ref a∧(∃xs,SqL K H1 a xs)∧R (Itl K a) H1
noncomputable def iTup (K:PySem.W.Frag) (tl:TE):TI:=fun σ H R=>tl σ H fun x H1=>∃a,x=.ref a∧(∃xs,SqT K H1 a xs)∧R (Itt K a) H1
theorem jw0 {l:Expr} {tl:TE} (hl:PE X l tl):PI X tg l (jxo X.K tl):=by
 intro pins s σ H R I h
 refine thn (hl pins s σ H _ I h) fun v s1 ⟨x,H1,I1,r1,q1⟩=>?_
 obtain⟨a,e,⟨xs,hq⟩,q⟩:=q1
 subst e
 cases r1
 obtain⟨its,rv,p,hz⟩:=I1.list hq
 refine wpAny_pyIter_list p.isList ?_
 refine⟨s1.heap.objs.size,[s1.heap.objs.size],_,_,H1,rfl,I1.kept (t':=s1.toks) fun b o e=>Heap.get?_push_of_some _ e,jps a _,⟨_,Heap.get?_push_size _ rfl,rfl,rfl⟩,fun b hb=>?_,q⟩
 have e:b=s1.heap.objs.size:=by simpa using hb
 subst e
 exact I1.fpOk (Nat.le_refl _) (I1.hok.fresh (Nat.le_refl _))
theorem jza {l:Expr} {tl:TE} (hl:PE X l tl):PI X tg l (iTup X.K tl):=by
 intro pins s σ H R I h
 refine thn (hl pins s σ H _ I h) fun v s1 ⟨x,H1,I1,r1,q1⟩=>?_
 obtain⟨a,e,⟨xs,hq⟩,q⟩:=q1
 subst e
 cases r1
 obtain⟨its,rv,p,hz⟩:=I1.tuple hq
 refine wpAny_pyIter_tuple (show s1.heap.IsTuple a its.toArray from p) ?_
 refine⟨s1.heap.objs.size,[s1.heap.objs.size],_,_,H1,rfl,I1.kept (t':=s1.toks) fun b o e=>Heap.get?_push_of_some _ e,jot a _,⟨_,Heap.get?_push_size _ rfl,rfl,rfl⟩,fun b hb=>?_,q⟩
 have e:b=s1.heap.objs.size:=by simpa using hb
 subst e
 exact I1.fpOk (Nat.le_refl _) (I1.hok.fresh (Nat.le_refl _))
theorem jth {pins:List (Addr×Obj)} {σ:St} {H:Hp} {s:Shared} {R:It→Hp→Prop} {E:Value→Shared→Prop} {lo hi:Int} {t u v:Tok} {tk:Nat} (I:Inv X pins σ H s) (h1:-(2 ^ 62)≤lo) (h2:lo < 2 ^ 62) (h3:-(2 ^ 62)≤hi) (h4:hi < 2 ^ 62)
  (q:R (Itr lo (hi - lo).toNat) H):wpAny (model X.prog X.w) X.A (pyIter (.ref s.heap.objs.size)) (PIE X pins σ tg R) E {s with heap:=s.heap.push {cls:=.type "range",data:=.fields #[.int lo t,.int hi u,.int 1 v]},toks:=tk}:=by
 refine wpAny_pyIter_range (IsRange.new ..) (small_one h1 h2 h3 h4) ?_
 have I1:Inv X pins σ H {s with heap:=s.heap.push {cls:=.type "range",data:=.fields #[.int lo t,.int hi u,.int 1 v]},toks:=tk}:=I.kept fun b o e=>Heap.get?_push_of_some _ e
 refine⟨(s.heap.push {cls:=.type "range",data:=.fields #[.int lo t,.int hi u,.int 1 v]}).objs.size,[(s.heap.push {cls:=.type "range",data:=.fields #[.int lo t,.int hi u,.int 1 v]}).objs.size],_,_,H,rfl,
  I1.kept (t':=tk) fun b o e=>Heap.get?_push_of_some _ e,jou _ lo (hi - lo).toNat,?_,fun b hb=>?_,q⟩
 ·have e1:lo+((0:Nat):Int)*1=lo:=by simp
  have e2:(((hi - lo).toNat:Nat):Int) - ((0:Nat):Int)=Builtin.Range.rangeSize lo hi 1:=by rw[rangeSize_one];split<;>omega
  show IsRangeIter _ _ (lo+((0:Nat):Int)*1) ((((hi - lo).toNat:Nat):Int) - ((0:Nat):Int)) 1
  rw[e1,e2]
  exact Heap.get?_push_size _ rfl
 ·have e:b=(s.heap.push {cls:=.type "range",data:=.fields #[.int lo t,.int hi u,.int 1 v]}).objs.size:=by simpa using hb
  subst e
  exact I1.fpOk (Nat.le_refl _) (I1.hok.fresh (Nat.le_refl _))
noncomputable def j0a (ta:TA):TI:=fun σ H R=>ta σ H fun vs H1=>∃j:Int,vs=[.int j]∧-(2 ^ 62)≤j∧j < 2 ^ 62∧R (Itr 0 j.toNat) H1
theorem jqz {a:Expr} {ta:TA} {p pos:Pos} (hg:Gl X "range") (hm:X.mg "range"=none) (ha:PA X [a] ta) (hs:starEach [a] X.env=[(false,eval a X.env)]:=by rfl):PI X tg (.Call (.Name "range" p) [a] [] pos) (j0a ta):=by
 intro pins s σ H R I h
 refine Call_ (jjh I hg hm boot_range (PyProof.Rows.callWith_type1 (thn (ha pos pins s σ H _ I h) fun us s1 ⟨vs,H1,I1,r1,q1⟩=>?_) hs rfl))
 obtain⟨j,e,q1,q2,q⟩:=q1
 subst e
 cases r1 with
 |cons r rr =>
  cases rr
  obtain⟨t,rfl⟩:=r
  exact call_range_1 (jth I1 (by omega) (by omega) q1 q2 (by simpa using q))
noncomputable def tFor (wi:TI) (g:TG) (tb:TS):TS:=fun D σ H=>wi σ H fun J H1=>∃W:Nat→Nat→St→Hp→Prop,(∃m,W 0 m σ H1)∧∀i m σ H,W i m σ H →
 (J.stop i H∧D.nx σ H)∨(J.go i H∧∃N:St→Hp→Prop,(∀σ' H',N σ' H'→∃m',m' < m∧W (i+1) m' σ' H')∧∀x H',J.yld i H x H'→g x σ H' fun σ2 H2=>tb {D with nx:=N,ct:=N,bk:=D.nx} σ2 H2)
noncomputable def jjc (fp:List Addr) (h:Heap):List (Addr×Obj):=fp.filterMap fun b=>(h.get? b).map fun o=>(b,o)
theorem jdb {fp:List Addr} {h:Heap} {b:Addr} {o:Obj} (hb:b∈fp) (e:h.get? b=some o):(b,o)∈jjc fp h:=List.mem_filterMap.mpr ⟨b,hb,by rw[e];rfl⟩
theorem jq8 {fp:List Addr} {h:Heap} {p:Addr×Obj} (hp:p∈jjc fp h):p.1∈fp∧h.get? p.1=some p.2:=by
 obtain⟨b,hb,e⟩:=List.mem_filterMap.mp hp
 cases q:h.get? b with
 |none=>rw[q]at e;cases e
 |some o =>
  rw[q]at e
  have e':(b,o)=p:=Option.some.inj e
  subst e'
  exact⟨hb,q⟩
theorem Inv.pinned {pins:List (Addr×Obj)} {σ:St} {H:Hp} {s:Shared} {fp:List Addr} (I:Inv X pins σ H s) (hf:∀b∈fp,FpOk X pins H b) (ho:∀b∈fp,∃o,s.heap.get? b=some o∧∀v,o.data≠.cell v):Inv X (pins++jjc fp s.heap) σ H s :=
 I.pins_of fun p hp=>(List.mem_append.mp hp).elim (fun z=>I.pin p (List.mem_append_right _ z)) fun z=>by
  obtain⟨hb,e⟩:=jq8 z
  obtain⟨f0,f1,f2,_⟩:=hf p.1 hb
  obtain⟨o,e',d⟩:=ho p.1 hb
  rw[e]at e';cases e'
  exact⟨e,f0,f1,f2,d⟩
theorem Inv.unpinned {pins pl:List (Addr×Obj)} {σ:St} {H:Hp} {s:Shared} (I:Inv X (pins++pl) σ H s):Inv X pins σ H s:=I.pins_of fun p hp=>I.pin p (List.mem_append_right _ (List.mem_append_left _ hp))
theorem jy8 {iter:Expr} {body:List Stmt} {wi:TI} {g:TG} {tb:TS} {pos:Pos} (hp:PassesOwn (model X.prog X.w) X.A X.env X.xe) (hc:X.calm=true) (hi:PI X tg iter wi) (hg:PG X tg g) (hb:PSs X body tb)
  (hs:∀x,foldedSetIterable iter X.env x=pure x:=by intro _;rfl):PS X (.For tg iter body [] pos) (tFor wi g tb):=by
 intro pins s σ H D I h
 refine wpAny_For (thn (hi pins s σ H _ I h) fun v s1 h1=>thn h1 fun itv s2 h2=>?_) hs
 obtain⟨it,fp,tn,J,H2,e,I2,T,st2,f2,W,⟨m0,w0⟩,turn⟩:=h2
 subst e
 -- what stays true of the iterator's objects through the loop
 have stat:∀{H':Hp},(∀b∈fp,H' b=none)→∀b∈fp,FpOk X pins H' b:=fun hn b hb=>⟨hn b hb,(f2 b hb).2⟩
 refine codeAny_forLoop_any (fun n s'=>∃i σ' H',Inv X pins σ' H' s'∧tn i s'.heap∧(∀b∈fp,H' b=none)∧W i n σ' H') ?_ m0 ⟨0,σ,H2,I2,st2,fun b hb=>(f2 b hb).1,w0⟩
 rintro n s3 ⟨i,σ3,H3,I3,st3,fr3,w3⟩
 rcases turn i n σ3 H3 w3 with⟨stop,qn⟩ | ⟨go,N,hN,step⟩
 ·refine wpAny_passesOwn hp (thn (T.done X rfl rfl rfl hc i pins s3 σ3 H3 X.xe I3 (stat fr3) st3 stop) fun r s4 ⟨hr,I4⟩=>?_)
  subst hr
  exact wpAny_execs_nil ⟨σ3,H3,I4,qn⟩
 ·refine wpAny_passesOwn hp (thn (T.item X rfl rfl rfl hc i pins s3 σ3 H3 X.xe I3 (stat fr3) st3 go) fun r s4 ⟨u,hr,h4⟩=>?_)
  subst hr
  refine wpAny_passesOwn hp (thn h4 fun _ s5 ⟨x,H5,I5,r5,y5,st5,fr5⟩=>?_)
  have I5':=I5.pinned (stat fr5) (T.obj _ _ st5)
  refine wpAny_passesOwn hp (thn (hg _ s5 σ3 H5 x u _ I5' r5 (step x H5 y5)) fun _ s6 ⟨σ6,H6,I6,q6⟩=>?_)
  refine wpAny_passesOwn hp (thn (hb _ s6 σ6 H6 _ I6 q6) fun f s7 q7=>?_)
  have again:∀{σ7:St} {H7:Hp},Inv X (pins++jjc fp s5.heap) σ7 H7 s7→N σ7 H7→∃m,m < n∧∃i σ' H',Inv X pins σ' H' s7∧tn i s7.heap∧(∀b∈fp,H' b=none)∧W i m σ' H':=fun{σ7 H7} I7 n7=>by
   obtain⟨m',hm,w7⟩:=hN σ7 H7 n7
   refine⟨m',hm,i+1,σ7,H7,I7.unpinned,T.keep _ _ _ st5 fun b hb o e=>(I7.pin (b,o) (List.mem_append_right _ (List.mem_append_right _ (jdb hb e)))).1,fun b hb=>?_,w7⟩
   obtain⟨o,e,d⟩:=T.obj _ _ st5 b hb
   exact(I7.pin (b,o) (List.mem_append_right _ (List.mem_append_right _ (jdb hb e)))).2.1
  cases f with
  |next=>obtain⟨σ7,H7,I7,n7⟩:=q7;exact again I7 n7
  |cont=>obtain⟨σ7,H7,I7,n7⟩:=q7;exact again I7 n7
  |brk=>obtain⟨σ7,H7,I7,q7⟩:=q7;exact⟨σ7,H7,I7.unpinned,q7⟩
  |ret v=>obtain⟨x7,σ7,H7,I7,r7,q7⟩:=q7;exact⟨x7,σ7,H7,I7.unpinned,r7,q7⟩
end
noncomputable abbrev R2:=V→V→Hp→VK→Prop
noncomputable def OpR (X:Cx) (f:Value→Value→Sem Value) (r:R2):Prop :=
 ∀(pins:List (Addr×Obj)) (s:Shared) (σ:St) (H:Hp) (x y:V) (v u:Value) (Q:VK),Inv X pins σ H s→RelV x v→RelV y u→r x y H Q →
  wpAny (model X.prog X.w) X.A (f v u) (EP X pins σ Q) X.xe s
noncomputable def CallR (X:Cx) (f:Value) (r:List V→Hp→VK→Prop):Prop :=
 ∀(pins:List (Addr×Obj)) (s:Shared) (σ:St) (H:Hp) (xs:List V) (us:List Value) (Q:VK),Inv X pins σ H s→Vals xs us→r xs H Q →
  wpAny (model X.prog X.w) X.A (call f us) (EP X pins σ Q) X.xe s
noncomputable def tOp (r:R2) (ta tb:TE):TE:=fun σ H Q=>ta σ H fun x H1=>tb σ H1 fun y H2=>r x y H2 Q
noncomputable def rI (C:Int→Int→Prop) (g:Int→Int→V):R2:=fun x y H Q=>∃i j,x=.int i∧y=.int j∧C i j∧Q (g i j) H
noncomputable def rI0 (g:Int→Int→V):R2:=fun x y H Q=>∃i j,x=.int i∧y=.int j∧Q (g i j) H
section
variable {X:Cx} {a b c:Expr} {ta tb tc:TE} {pos:Pos}
theorem binT (ha:PE X a ta) (hb:PE X b tb) {pins:List (Addr×Obj)} {s:Shared} {σ:St} {H:Hp} {R:V→V→Hp→Prop} (I:Inv X pins σ H s)
  (h:ta σ H fun x H1=>tb σ H1 fun y H2=>R x y H2) {Q:Value→Shared→Prop} {f:Value→Value→Sem Value}
  (hf:∀v u s2 x y H2,Inv X pins σ H2 s2→RelV x v→RelV y u→R x y H2→wpAny (model X.prog X.w) X.A (f v u) Q X.xe s2) :
  wpAny (model X.prog X.w) X.A (eval a X.env) (fun v s₁=>wpAny (model X.prog X.w) X.A (eval b X.env) (fun u s₂=>wpAny (model X.prog X.w) X.A (f v u) Q X.xe s₂) X.xe s₁) X.xe s:=by
 refine thn (ha pins s σ H _ I h) fun v s1 ⟨x,H1,I1,r1,q1⟩=>?_
 refine thn (hb pins s1 σ H1 _ I1 q1) fun u s2 ⟨y,H2,I2,r2,q2⟩=>?_
 exact hf v u s2 x y H2 I2 r1 r2 q2
theorem jdm {op:Operator} {r:R2} (ho:OpR X (binaryOp op) r) (ha:PE X a ta) (hb:PE X b tb):PE X (.BinOp a op b pos) (tOp r ta tb):=by
 intro pins s σ H Q I h
 exact wpAny_BinOp (binT ha hb I h fun v u s2 x y H2 I2 rx ry q=>ho pins s2 σ H2 x y v u Q I2 rx ry q)
theorem opI {f:Value→Value→Sem Value} {C:Int→Int→Prop} {g:Int→Int→Int}
  (rule:∀(i j:Int) (t u:Tok) (s:Shared) (Q:Value→Shared→Prop) (E:Value→Shared→Prop),C i j→Q (.int (g i j) s.toks) {s with toks:=s.toks+1}→wpAny (model X.prog X.w) X.A (f (.int i t) (.int j u)) Q E s) :
  OpR X f (rI C fun i j=>.int (g i j)):=by
 intro pins s σ H x y v u Q I rx ry h
 obtain⟨i,j,rfl,rfl,hc,q⟩:=h
 obtain⟨t,rfl⟩:=rx
 obtain⟨t',rfl⟩:=ry
 exact rule i j t t' s _ _ hc ⟨.int (g i j),H,I.tok _,⟨_,rfl⟩,q⟩
theorem opI0 {f:Value→Value→Sem Value} {g:Int→Int→Int}
  (rule:∀(i j:Int) (t u:Tok) (s:Shared) (Q:Value→Shared→Prop) (E:Value→Shared→Prop),Q (.int (g i j) s.toks) {s with toks:=s.toks+1}→wpAny (model X.prog X.w) X.A (f (.int i t) (.int j u)) Q E s) :
  OpR X f (rI0 fun i j=>.int (g i j)):=by
 intro pins s σ H x y v u Q I rx ry h
 obtain⟨i,j,rfl,rfl,q⟩:=h
 obtain⟨t,rfl⟩:=rx
 obtain⟨t',rfl⟩:=ry
 exact rule i j t t' s _ _ ⟨.int (g i j),H,I.tok _,⟨_,rfl⟩,q⟩
theorem opB0 {f:Value→Value→Sem Value} {g:Int→Int→Bool}
  (rule:∀(i j:Int) (t u:Tok) (s:Shared) (Q:Value→Shared→Prop) (E:Value→Shared→Prop),Q (.bool (g i j)) s→wpAny (model X.prog X.w) X.A (f (.int i t) (.int j u)) Q E s) :
  OpR X f (rI0 fun i j=>.bl (g i j)):=by
 intro pins s σ H x y v u Q I rx ry h
 obtain⟨i,j,rfl,rfl,q⟩:=h
 obtain⟨t,rfl⟩:=rx
 obtain⟨t',rfl⟩:=ry
 exact rule i j t t' s _ _ ⟨.bl (g i j),H,I,rfl,q⟩
noncomputable def CDiv (i j:Int):Prop:=0 < j∧j < 1073741824
noncomputable def CPow (i j:Int):Prop:=0≤j∧j≤1000000∧i.natAbs < 2 ^ 64
noncomputable def CMul (i j:Int):Prop:=(-(2 ^ 64) < i∧i < 2 ^ 64)∨(-(2 ^ 64) < j∧j < 2 ^ 64)
theorem CMul.ok {i j:Int} (h:CMul i j):IntMulOk i j:=by
 rcases h with⟨h1,h2⟩ | ⟨h1,h2⟩
 ·exact .of_left (intBits_le_64 h1 h2)
 ·exact .of_right (intBits_le_64 h1 h2)
theorem jls:OpR X (binaryOp .Add) (rI0 fun i j=>.int (i+j)):=opI0 fun _ _ _ _ _ _ _ q=>add_int q
theorem jzi:OpR X (binaryOp .Sub) (rI0 fun i j=>.int (i - j)):=opI0 fun _ _ _ _ _ _ _ q=>sub_int q
theorem jjd:OpR X (binaryOp .Mult) (rI CMul fun i j=>.int (i*j)):=opI fun _ _ _ _ _ _ _ hc q=>mul_int q hc.ok
theorem jq7:OpR X (binaryOp .FloorDiv) (rI CDiv fun i j=>.int (i / j)):=opI fun i j _ _ _ _ _ hc q=>by
 have h1:(0:Int) < j:=hc.1
 have h2:j < 1073741824:=hc.2
 exact floordiv_int (by omega) (by rw[Int.fdiv_eq_ediv_of_nonneg i (by omega)];exact q) (.inl (PyProof.noPylong_small (by omega)))
theorem jgp:OpR X (binaryOp .Mod) (rI (fun _ j=>0 < j) fun i j=>.int (i % j)):=opI fun i j _ _ _ _ _ hc q=>by
 have h1:(0:Int) < j:=hc
 exact mod_int' (by omega) (by rw[Int.fmod_eq_emod_of_nonneg i (by omega)];exact q)
theorem jzj:OpR X (binaryOp .Pow) (rI CPow fun i j=>.int (i ^ j.toNat)):=opI fun _ _ _ _ _ _ _ hc q=>pow_int_small hc.1 hc.2.1 hc.2.2 q
end
noncomputable def scal:V→V→Bool
 |.non,.non=>true | .non,.int _=>true | .int _,.non=>true | .non,.bl _=>true | .bl _,.non=>true | .non,.str _=>true | .str _,.non=>true
 |.int _,.int _=>true | .bl _,.bl _=>true | .str _,.str _=>true | .byt _,.byt _=>true
 |.int _,.str _=>true | .str _,.int _=>true | .bl _,.str _=>true | .str _,.bl _=>true
 |_,_=>false
noncomputable def rEq:R2:=fun x y H Q=>scal x y=true∧Q (.bl (decide (x=y))) H
noncomputable def rNe:R2:=fun x y H Q=>scal x y=true∧Q (.bl (!decide (x=y))) H
theorem jr4 {i j:Int}:decide (V.int i=V.int j)=(i==j):=by
 rw[Bool.eq_iff_iff]
 simp
theorem jvy {i j:Bool}:decide (V.bl i=V.bl j)=(i==j):=by
 rw[Bool.eq_iff_iff]
 simp
theorem jr3 {i j:Str}:decide (V.str i=V.str j)=(i==j):=by
 rw[Bool.eq_iff_iff]
 simp
theorem jr5 {i j:Array UInt8}:decide (V.byt i=V.byt j)=(i.toList==j.toList):=by
 rw[Bool.eq_iff_iff]
 cases i
 cases j
 simp
section
variable {X:Cx} {a b c:Expr} {ta tb tc:TE} {pos:Pos}
theorem ja8 {pins:List (Addr×Obj)} {σ:St} {H:Hp} {s:Shared} {Q:VK} {k k':Bool} (I:Inv X pins σ H s) (q:Q (.bl k) H) (e:k=k'):EP X pins σ Q (.bool k') s:=by
 subst e
 exact⟨.bl k,H,I,rfl,q⟩
theorem op_eq:OpR X (compareOp .Eq) rEq:=by
 intro pins s σ H x y v u Q I rx ry h
 obtain⟨hs,q⟩:=h
 cases x with
 |non =>
  cases rx
  cases y with
  |non=>cases ry;exact PySem.EqNone.eq_none_none (ja8 I q (by simp))
  |bl j=>cases ry;exact PySem.EqNone.eq_none_bool (ja8 I q (by simp))
  |int j=>obtain⟨t',rfl⟩:=ry;exact PySem.EqNone.eq_none_int (ja8 I q (by simp))
  |str j=>obtain⟨t',rfl⟩:=ry;exact PySem.EqNone.eq_none_str (ja8 I q (by simp))
  |_=>exact absurd (show false=true from hs) Bool.false_ne_true
 |bl i =>
  cases rx
  cases y with
  |non=>cases ry;exact PySem.EqNone.eq_bool_none (ja8 I q (by simp))
  |bl j=>cases ry;exact eq_bool (ja8 I q jvy)
  |str j=>obtain⟨t',rfl⟩:=ry;exact PySem.EqMixed.eq_bool_str (ja8 I q (by simp))
  |_=>exact absurd (show false=true from hs) Bool.false_ne_true
 |int i =>
  obtain⟨t,rfl⟩:=rx
  cases y with
  |non=>cases ry;exact PySem.EqNone.eq_int_none (ja8 I q (by simp))
  |int j=>obtain⟨t',rfl⟩:=ry;exact eq_int (ja8 I q jr4)
  |str j=>obtain⟨t',rfl⟩:=ry;exact PySem.EqMixed.eq_int_str (ja8 I q (by simp))
  |_=>exact absurd (show false=true from hs) Bool.false_ne_true
 |str i =>
  obtain⟨t,rfl⟩:=rx
  cases y with
  |non=>cases ry;exact PySem.EqNone.eq_str_none (ja8 I q (by simp))
  |bl j=>cases ry;exact PySem.EqMixed.eq_str_bool (ja8 I q (by simp))
  |int j=>obtain⟨t',rfl⟩:=ry;exact PySem.EqMixed.eq_str_int (ja8 I q (by simp))
  |str j=>obtain⟨t',rfl⟩:=ry;exact eq_str (ja8 I q jr3)
  |_=>exact absurd (show false=true from hs) Bool.false_ne_true
 |byt i =>
  obtain⟨t,rfl⟩:=rx
  cases y with
  |byt j=>obtain⟨t',rfl⟩:=ry;exact PySem.W.eq_bytes (ja8 I q jr5)
  |_=>exact absurd (show false=true from hs) Bool.false_ne_true
 |_=>cases y<;>exact absurd (show false=true from hs) Bool.false_ne_true
theorem jtx:OpR X (compareOp .NotEq) rNe:=by
 intro pins s σ H x y v u Q I rx ry h
 obtain⟨hs,q⟩:=h
 cases x with
 |non =>
  cases rx
  cases y with
  |non=>cases ry;exact PySem.EqNone.ne_none_none (ja8 I q (by simp))
  |bl j=>cases ry;exact PySem.EqNone.ne_none_bool (ja8 I q (by simp))
  |int j=>obtain⟨t',rfl⟩:=ry;exact PySem.EqNone.ne_none_int (ja8 I q (by simp))
  |str j=>obtain⟨t',rfl⟩:=ry;exact PySem.EqNone.ne_none_str (ja8 I q (by simp))
  |_=>exact absurd (show false=true from hs) Bool.false_ne_true
 |bl i =>
  cases rx
  cases y with
  |non=>cases ry;exact PySem.EqNone.ne_bool_none (ja8 I q (by simp))
  |bl j=>cases ry;exact ne_bool (ja8 I q (congrArg not jvy))
  |str j=>obtain⟨t',rfl⟩:=ry;exact PySem.EqMixed.ne_bool_str (ja8 I q (by simp))
  |_=>exact absurd (show false=true from hs) Bool.false_ne_true
 |int i =>
  obtain⟨t,rfl⟩:=rx
  cases y with
  |non=>cases ry;exact PySem.EqNone.ne_int_none (ja8 I q (by simp))
  |int j=>obtain⟨t',rfl⟩:=ry;exact ne_int (ja8 I q (congrArg not jr4))
  |str j=>obtain⟨t',rfl⟩:=ry;exact PySem.EqMixed.ne_int_str (ja8 I q (by simp))
  |_=>exact absurd (show false=true from hs) Bool.false_ne_true
 |str i =>
  obtain⟨t,rfl⟩:=rx
  cases y with
  |non=>cases ry;exact PySem.EqNone.ne_str_none (ja8 I q (by simp))
  |bl j=>cases ry;exact PySem.EqMixed.ne_str_bool (ja8 I q (by simp))
  |int j=>obtain⟨t',rfl⟩:=ry;exact PySem.EqMixed.ne_str_int (ja8 I q (by simp))
  |str j=>obtain⟨t',rfl⟩:=ry;exact ne_str (ja8 I q (congrArg not jr3))
  |_=>exact absurd (show false=true from hs) Bool.false_ne_true
 |byt i =>
  obtain⟨t,rfl⟩:=rx
  cases y with
  |byt j=>obtain⟨t',rfl⟩:=ry;exact PySem.W.ne_bytes (ja8 I q (congrArg not jr5))
  |_=>exact absurd (show false=true from hs) Bool.false_ne_true
 |_=>cases y<;>exact absurd (show false=true from hs) Bool.false_ne_true
theorem op_lt:OpR X (compareOp .Lt) (rI0 fun i j=>.bl (decide (i < j))):=opB0 fun _ _ _ _ _ _ _ q=>lt_int q
theorem op_gt:OpR X (compareOp .Gt) (rI0 fun i j=>.bl (decide (j < i))):=opB0 fun _ _ _ _ _ _ _ q=>gt_int q
theorem j1d:OpR X (compareOp .GtE) (rI0 fun i j=>.bl (decide (j≤i))):=opB0 fun _ _ _ _ _ _ _ q=>ge_int q
theorem jq4:OpR X (compareOp .Lt) (fun x y H Q=>∃i j,x=.str i∧y=.str j∧Q (.bl (decide (i.cps.toList < j.cps.toList))) H):=by
 intro pins s σ H x y v u Q I rx ry h
 obtain⟨i,j,rfl,rfl,q⟩:=h
 obtain⟨t,rfl⟩:=rx
 obtain⟨t',rfl⟩:=ry
 exact lt_str (ja8 I q rfl)
theorem jlr:OpR X (compareOp .Is) (fun x y H Q=>y=.non∧Q (.bl (decide (x=.non))) H):=by
 intro pins s σ H x y v u Q I rx ry h
 obtain⟨rfl,q⟩:=h
 cases ry
 refine is_none_gen (ja8 I q ?_)
 cases x<;>first
  | (cases rx;rfl)
  | (obtain⟨t,rfl⟩:=rx;rfl)
theorem je8:OpR X (compareOp .IsNot) (fun x y H Q=>y=.non∧Q (.bl (!decide (x=.non))) H):=by
 intro pins s σ H x y v u Q I rx ry h
 obtain⟨rfl,q⟩:=h
 cases ry
 refine isnot_none_gen (ja8 I q ?_)
 cases x<;>first
  | (cases rx;rfl)
  | (obtain⟨t,rfl⟩:=rx;rfl)
theorem OpR.or {f:Value→Value→Sem Value} {r r':R2} (h:OpR X f r) (h':OpR X f r'):OpR X f (fun x y H Q=>r x y H Q∨r' x y H Q):=by
 intro pins s σ H x y v u Q I rx ry q
 rcases q with q | q
 ·exact h pins s σ H x y v u Q I rx ry q
 ·exact h' pins s σ H x y v u Q I rx ry q
theorem jar (b:Expr) {op:CmpOp} (h:op≠.In:=by decide) (h2:op≠.NotIn:=by decide):behindInMarks op b=false:=by
 have e1:(op==CmpOp.In)=false:=by cases op<;>first | rfl | exact absurd rfl h
 have e2:(op==CmpOp.NotIn)=false:=by cases op<;>first | rfl | exact absurd rfl h2
 cases b<;>simp[behindInMarks,e1,e2]
theorem jw8 {op:CmpOp} {r:R2} (ho:OpR X (compareOp op) r) (ha:PE X a ta) (hb:PE X b tb) (hm:behindInMarks op b=false):PE X (.Compare a [op] [b] pos) (tOp r ta tb):=by
 intro pins s σ H Q I h
 exact wpAny_Compare1 (binT ha hb I h fun v u s2 x y H2 I2 rx ry q=>ho pins s2 σ H2 x y v u Q I2 rx ry q) hm
noncomputable def jmx (t:TE):TT:=fun σ H Q=>t σ H fun x H'=>∃k,x=.bl k∧Q k H'
theorem je7 {op:CmpOp} {r:R2} (ho:OpR X (compareOp op) r) (ha:PE X a ta) (hb:PE X b tb) (hm:behindInMarks op b=false):PT X (.Compare a [op] [b] pos) (jmx (tOp r ta tb)):=by
 intro pins s σ H Q I h
 refine wpAny_isTrue_Compare1 (thn (ha pins s σ H _ I h) fun v s1 ⟨x,H1,I1,r1,q1⟩=>thn (hb pins s1 σ H1 _ I1 q1) fun u s2 ⟨y,H2,I2,r2,q2⟩ =>
  thn (ho pins s2 σ H2 x y v u _ I2 r1 r2 q2) fun c s3 ⟨z,H3,I3,r3,k,e,q3⟩=>?_) hm
 subst e
 cases r3
 exact wpAny_truthy_bool ⟨H3,I3,q3⟩
theorem jjg:(sizeLine:Nat) < 2 ^ 63:=by rw[sizeLine_eq];decide
theorem jia {x:V} {us:List Value} (r:Vals [x] us):∃u,us=[u]∧RelV x u:=by
 cases r with
 |cons r1 r2=>cases r2;exact⟨_,rfl,r1⟩
theorem jwa {x y:V} {us:List Value} (r:Vals [x,y] us):∃u w',us=[u,w']∧RelV x u∧RelV y w':=by
 cases r with
 |cons r1 r2 =>
  cases r2 with
  |cons r3 r4=>cases r4;exact⟨_,_,rfl,r1,r3⟩
end
structure ObjM (h:Heap) (x dx C:Addr) (mA:Str→Option Value):Prop where
 obj:h.get? x=some (PySem.W.instObj C dx)
 ns:h.Ns1 dx mA
 ne:dx≠x
theorem jre {h:Heap} {dx:Addr} {mA:Str→Option Value} (n:h.Ns1 dx mA):∃od,h.get? dx=some od∧∀name,PySem.W.lookIn name od=some (mA name):=by
 obtain⟨o,es,ep,ho,hd,hk,_,hm⟩:=n
 refine⟨o,ho,fun name=>?_⟩
 have e:=hm name
 unfold nsFind findBy at e
 rw[←Array.find?_toList]at e
 unfold PySem.W.lookIn
 rw[hd]
 dsimp only
 split
 ·rename_i y q
  rw[q]at e
  exact congrArg some e
 ·rename_i q
  rw[q]at e
  have a:es.toList.any (·.refKey)=false:=by
   rw[List.any_eq_false]
   intro y hy
   obtain⟨z,t,hkey⟩:=hk y (Array.mem_toList_iff.mp hy)
   simp[DictEntry.refKey,hkey]
  have a':¬es.toList.any (·.refKey)=true:=by rw[a];exact Bool.false_ne_true
  rw[if_neg a']
  exact congrArg some e
theorem ObjM.look {h:Heap} {x dx C:Addr} {mA:Str→Option Value} (I:ObjM h x dx C mA):∃od,PySem.W.InstAt h x (PySem.W.instObj C dx) C (some od)∧∀name,PySem.W.lookIn name od=some (mA name) :=
 let⟨od,ho,hl⟩:=jre I.ns
 ⟨od,⟨I.obj,rfl,rfl,ho⟩,hl⟩
section
variable {prog:Program} {w:World} {A:Around} {E:Value→Shared→Prop} {s:Shared} {K:PySem.W.Frag} {x dx C f:Addr} {mA:Str→Option Value} {name:Str} {v:Value}
end
theorem RelO.some_of {v:V} {o:Option Value} (r:RelO (some v) o):∃u,o=some u∧RelV v u:=by
 cases o with
 |none=>exact(show False from r).elim
 |some u=>exact⟨u,rfl,r⟩
section
variable {P:Program} {w:World} {H H':Hp} {h h':Heap} {a C dx:Addr} {fs fs':List (Str×V)}
theorem jxl (hok:HOk P w H h) (e:H a=some (.ins C dx fs)):∃mA,ObjM h a dx C mA∧(∀f,RelO (fs.lookup f) (mA f))∧PySem.Within mA (fs.map (·.1))∧fs.length≤1000∧H dx=some (.own a):=by
 obtain⟨d,z,ne,ob,mA,n,r,q⟩:=(show ObjOk P w H h a (.ins C dx fs)from hok a _ e)
 exact⟨mA,⟨ob,n,ne⟩,r,q,z,d⟩
end
structure Cls (K:PySem.W.Frag) (C:Addr):Prop where
 pg:PySem.W.plainGet K C Str.empty=true
 hd:PySem.W.hasDictIn K C=true
 po:PySem.W.plainOver K C=true
 sa:PySem.W.findIn K (.ref C) "__setattr__"=some (some (.builtin "object.__setattr__"))
theorem Cls.get {K:PySem.W.Frag} {C:Addr} (c:Cls K C) (f:Str):PySem.W.plainGet K C f=true:=c.pg
section
variable {X:Cx} {pins:List (Addr×Obj)} {σ:St} {H:Hp} {s:Shared} {a C dx:Addr} {fs:List (Str×V)} {f:Str} {v:V} {A:Around} {E:Value→Shared→Prop}
end
section
variable {X:Cx} {o e value:Expr} {f:Str} {pos pos' tpos:Pos} {ta tv:TE}
end
section
variable {X:Cx} {pins:List (Addr×Obj)} {σ:St} {H:Hp} {s:Shared} {A:Around} {E:Value→Shared→Prop} {Q:Value→Shared→Prop} {c:Value} {b:Bool}
inductive TyOf (K:PySem.W.Frag) (H:Hp):V→Value→Prop where
 |non:TyOf K H .non (.type "NoneType")
 |bl (x:Bool):TyOf K H (.bl x) (.type "bool")
 |int (i:Int):TyOf K H (.int i) (.type "int")
 |str (x:Str):TyOf K H (.str x) (.type "str")
 |flt (x:UInt64):TyOf K H (.flt x) (.type "float")
 |lst {a:Addr} {xs:List V} (e:H a=some (.lst xs)):TyOf K H (.ref a) (.type "list")
 |frz {a:Addr} {o:Obj} {xs:List V} (e:H a=some (.frz o (.lst xs))):TyOf K H (.ref a) (.type "list")
 |tup {a:Addr} {xs:List V} (e:H a=some (.tup xs)):TyOf K H (.ref a) (.type "tuple")
 |dK {a:Addr} {kvs:List (Key×V)} (e:H a=some (.dK kvs)):TyOf K H (.ref a) (.type "dict")
 |dT {a:Addr} {kvs:List (List Key×V)} (e:H a=some (.dT kvs)):TyOf K H (.ref a) (.type "dict")
 |ins {a C dx:Addr} {fs:List (Str×V)} (e:H a=some (.ins C dx fs)) (cl:Cls K C) (ha:PySem.W.findIn K (.ref C) "__class__"=some (some (.builtin "object.__class__")))
   (hn:PySem.W.specialIn K (.builtin "object.__class__") "__get__"=some (some (.builtin "getset_descriptor.__get__"))) (htk:PySem.W.takesIn K (.builtin "object.__class__")=some true)
   (hm:PySem.W.mroIn K C (.type "object")=some true):TyOf K H (.ref a) (.ref C)
theorem jrn {x:V} {u t:Value} (I:Inv X pins σ H s) (rx:RelV x u) (ty:TyOf X.K H x t) (e:PySem.W.kitOne X.K t c=some b) (h:∀tk,Q (.bool b) {s with toks:=tk}) :
  wpAny (model X.prog X.w) A (call (.builtin "isinstance") [u,c]) Q E s:=by
 cases ty with
 |non=>cases(show u=Value.none from rx);exact PySem.W.kia_one PySem.W.kitx_none I.kIn True.intro e (fun z=>nomatch z) h
 |bl y=>cases(show u=Value.bool y from rx);exact PySem.W.kia_one PySem.W.kitx_bool I.kIn True.intro e (fun z=>nomatch z) h
 |int i=>obtain⟨t,q⟩:=(show ∃t,u=Value.int i t from rx);cases q;exact PySem.W.kia_one PySem.W.kitx_int I.kIn True.intro e (fun z=>nomatch z) h
 |str y=>obtain⟨t,q⟩:=(show ∃t,u=Value.str y t from rx);cases q;exact PySem.W.kia_one PySem.W.kitx_str I.kIn True.intro e (fun z=>nomatch z) h
 |flt y=>obtain⟨t,q⟩:=(show ∃t,u=Value.float y t from rx);cases q;exact PySem.W.kia_one PySem.W.kitx_float I.kIn True.intro e (fun z=>nomatch z) h
 |@lst a xs ea =>
  cases(show u=Value.ref a from rx)
  obtain⟨_,_,n,_,h1⟩:=(show ObjOk X.prog X.w H s.heap a (.lst xs)from I.hok a _ ea)
  exact PySem.W.kia_one PySem.W.kitx_list I.kIn ⟨_,h1,rfl⟩ e (fun z=>nomatch z) h
 |@frz a ob xs ea =>
  cases(show u=Value.ref a from rx)
  obtain⟨_,_,_,n,_,h1⟩:=(show ObjOk X.prog X.w H s.heap a (.frz ob (.lst xs))from I.hok a _ ea)
  exact PySem.W.kia_one PySem.W.kitx_list I.kIn ⟨_,h1,rfl⟩ e (fun z=>nomatch z) h
 |@tup a xs ea =>
  cases(show u=Value.ref a from rx)
  obtain⟨_,_,_,p⟩:=(show ObjOk X.prog X.w H s.heap a (.tup xs)from I.hok a _ ea)
  obtain⟨o,h1,h2,_⟩:=p
  exact PySem.W.kia_one PySem.W.kitx_tuple I.kIn ⟨o,h1,h2⟩ e (fun z=>nomatch z) h
 |@dK a kvs ea =>
  cases(show u=Value.ref a from rx)
  obtain⟨_,_,vs,_,p⟩:=(show ObjOk X.prog X.w H s.heap a (.dK kvs)from I.hok a _ ea)
  obtain⟨o,es,ep,h1,h2,_⟩:=p
  exact PySem.W.kia_one PySem.W.kitx_dict I.kIn ⟨o,h1,h2.1⟩ e (fun z=>nomatch z) h
 |@dT a kvs ea =>
  cases(show u=Value.ref a from rx)
  obtain⟨_,_,xs,_,o,es,ep,h1,h2,_⟩:=(show ObjOk X.prog X.w H s.heap a (.dT kvs)from I.hok a _ ea)
  exact PySem.W.kia_one PySem.W.kitx_dict I.kIn ⟨o,h1,h2.1⟩ e (fun z=>nomatch z) h
 |@ins a C dx fs ea cl ha hn htk hm =>
  cases(show u=Value.ref a from rx)
  obtain⟨mA,O,_⟩:=jxl I.hok ea
  obtain⟨od,J,_⟩:=O.look
  exact PySem.W.kia_one (PySem.W.kitx_own (cl.get _) cl.hd ha hn htk hm) I.kIn J e (fun z=>nomatch z) h
end
structure Room (k:Nat) (A:Around):Prop where
 hd:A.handled=none
 dp:A.depth+3*k+5 < recursionLimit
 un:A.units+16*k+200 < cLine
 gd:A.guards=some []
theorem Room.mono {j k:Nat} {A:Around} (r:Room k A) (h:j≤k):Room j A:=⟨r.hd,by have:=r.dp;omega,by have:=r.un;omega,r.gd⟩
theorem Room.deeper {k:Nat} {A:Around} (r:Room (k+1) A) (env:Env):Room k (A.deeper env) :=
 ⟨r.hd,by have:=r.dp;show A.depth+1+3*k+5 < _;omega,by have:=r.un;show A.units+3+16*k+200 < _;omega,r.gd⟩
theorem Room.depth {k:Nat} {A:Around} (r:Room k A):A.depth < recursionLimit:=by have:=r.dp;omega
theorem Room.units {k:Nat} {A:Around} (r:Room k A):A.units+64 < cLine:=by have:=r.un;omega
theorem Room.units0 {k:Nat} {A:Around} (r:Room k A):A.units < cLine:=by have:=r.un;omega
noncomputable def tNil:TA:=fun _ H Q=>Q [] H
noncomputable def jcw (ta:TE) (tr:TA):TA:=fun σ H Q=>ta σ H fun x H1=>tr σ H1 fun xs H2=>Q (x::xs) H2
section
variable {X:Cx} {e:Expr} {es:List Expr} {te:TE} {t:TA} {pos:Pos}
theorem jb2:PA X [] tNil:=fun _ _ _ _ H Q I h=>Calls.spliced_nil ⟨[],H,I,.nil,h⟩
theorem jav (ha:PE X e te) (hr:PA X es t) (hs:starEach (e::es) X.env=(false,eval e X.env)::starEach es X.env:=by rfl):PA X (e::es) (jcw te t):=by
 intro pos pins s σ H Q I h
 rw[hs]
 show wpAny _ _ (spliced ((false,eval e X.env)::backTo pos (starEach es X.env))) _ _ s
 refine Calls.spliced_cons (thn (ha pins s σ H _ I h) fun u s1 ⟨x,H1,I1,r1,q1⟩=>?_)
 exact thn (hr pos pins s1 σ H1 _ I1 q1) fun us s2 ⟨xs,H2,I2,r2,q2⟩=>⟨x::xs,H2,I2,.cons r1 r2,q2⟩
noncomputable def tTup (t:TA):TE:=fun σ H Q=>t σ H fun xs H1=>xs.length≤sizeLine∧∀p,H1 p=none→Q (.ref p) (upd H1 p (.tup xs))
noncomputable def tLst (t:TA):TE:=fun σ H Q=>t σ H fun xs H1=>xs.length≤sizeLine∧∀p,H1 p=none→Q (.ref p) (upd H1 p (.lst xs))
theorem jvg {x1} (h:PA X es t):PE X (.Tuple es x1 pos) (tTup t):=by
 intro pins s σ H Q I hq
 refine wpAny_Tuple_spliced (thn (h pos pins s σ H _ I hq) fun us s1 ⟨xs,H1,I1,r,z,q⟩=>⟨by rw[←r.length];exact z,?_⟩)
 have hf:H1 s1.heap.objs.size=none:=I1.hok.fresh (Nat.le_refl _)
 refine⟨.ref s1.heap.objs.size,upd H1 s1.heap.objs.size (.tup xs),I1.laid (t':=s1.toks) (fun b u e=>Heap.get?_push_of_some _ e) (Nat.le_refl _) ?_,rfl,q _ hf⟩
 exact⟨z,us,r,IsTupP.new _ _⟩
theorem jq1 (h:PA X es t):PE X (.List es pos) (tLst t):=by
 intro pins s σ H Q I hq
 refine wpAny_List_spliced (thn (h pos pins s σ H _ I hq) fun us s1 ⟨xs,H1,I1,r,z,q⟩=>⟨by rw[←r.length];exact z,?_⟩)
 have hf:H1 s1.heap.objs.size=none:=I1.hok.fresh (Nat.le_refl _)
 refine⟨.ref s1.heap.objs.size,upd H1 s1.heap.objs.size (.lst xs),I1.laid (t':=s1.toks) (fun b u e=>Heap.get?_push_of_some _ e) (Nat.le_refl _) ?_,rfl,q _ hf⟩
 exact⟨z,us,0,r,Heap.get?_push_size _ rfl⟩
end
noncomputable abbrev Sp:=List V→Hp→VK→XK→Prop
noncomputable abbrev CXT:=List Env→Hp→Shared→XK→Value→Shared→Prop
structure Env0 (P:Program) (w:World) (K:PySem.W.Frag) (mg:Str→Option Value) (base:Heap) (A:Around) (outer:List Env) (s:Shared) (H:Hp):Prop where
 frames:A.frames=some outer
 mod:Mod K mg base
 bs:∀b o,base.get? b=some o→s.heap.get? b=some o∧H b=none
 bsz:base.objs.size≤s.heap.objs.size
 funs:s.heap.FunFrames base outer
 frf:∀b∈frs outer,H b=none
 hok:HOk P w H s.heap
 bare:AllBare s.gens
noncomputable def CE (outer:List Env) (P:Program) (w:World) (H:Hp) (s:Shared) (Q:VK) (u:Value) (s':Shared):Prop :=
 ∃v H',s'.os=s.os∧AllBare s'.gens∧Un (frs outer) [] H H' s.heap s'.heap∧HOk P w H' s'.heap∧RelV v u∧Q v H'
noncomputable def CR (CX:CXT) (outer:List Env) (P:Program) (w:World) (H:Hp) (s:Shared) (Q:VK) (E:XK) (r:Result) (s':Shared):Prop :=
 match r with
 |.ok (.ret u)=>CE outer P w H s Q u s'
 |.ok _=>False
 |.error e=>CX outer H s E e s'
structure FnOk (P:Program) (w:World) (K:PySem.W.Frag) (mg:Str→Option Value) (base:Heap) (CX:CXT) (k:Nat) (f:Addr) (fd:FuncData) (ps:List Str) (sp:Sp):Prop where
 len:∀vs H Q E,sp vs H Q E→vs.length=ps.length
 run:∀(A:Around) (outer:List Env) (s:Shared) (H:Hp) (args:Args) (us:List Value) (vs:List V) (Q:VK) (E:XK),Room k A→Env0 P w K mg base A outer s H→BindsTo s fd args (ps.zip us)→Vals vs us→sp vs H Q E →
  codeAny (model P w) A (.call (.ref f) args) (CR CX outer P w H s Q E) s
theorem FnOk.imp {P:Program} {w:World} {K:PySem.W.Frag} {mg:Str→Option Value} {base:Heap} {CX:CXT} {k:Nat} {f:Addr} {fd:FuncData} {ps:List Str} {sp sp':Sp} (F:FnOk P w K mg base CX k f fd ps sp)
  (h:∀vs H Q E,sp' vs H Q E→sp vs H Q E):FnOk P w K mg base CX k f fd ps sp' :=
 ⟨fun vs H Q E q=>F.len vs H Q E (h _ _ _ _ q),fun A outer s H args us vs Q E hr he hb hv hs=>F.run A outer s H args us vs Q E hr he hb hv (h _ _ _ _ hs)⟩
section
variable {X:Cx} {pins:List (Addr×Obj)} {σ:St} {H:Hp} {s s':Shared}
theorem Inv.env0 (I:Inv X pins σ H s):Env0 X.prog X.w X.K X.mg X.base X.A X.stack s H :=
 ⟨I.ok.frames,I.ok.mod,I.bs,Nat.le_trans I.ok.bsz I.sz,I.stack,I.stkFree,I.hok,I.bare⟩
theorem Inv.after {Q:VK} {u:Value} (I:Inv X pins σ H s) (h:CE X.stack X.prog X.w H s Q u s'):EP X pins σ Q u s':=by
 obtain⟨v,H',os,bare,un,hok,r,q⟩:=h
 obtain⟨hh,g,d,t,os'⟩:=s'
 obtain rfl:os'=s.os:=os
 exact⟨v,H',I.call (h':=hh) (g':=g) (d':=d) (t':=t) (ch:=[]) un hok bare (fun b z=>absurd z (by simp)),r,q⟩
end
noncomputable def jmy (sp:Sp) (dvs:List V) (E:XK) (t:TA):TE:=fun σ H Q=>t σ H fun vs H1=>sp (vs++dvs) H1 Q E
noncomputable def Binds (K:PySem.W.Frag) (fd:FuncData) (ps:List Str) (ds:List Value):Prop :=
 ∀(s:Shared) (us:List Value),K.In s.heap→(us++ds).length=ps.length→BindsTo s fd ⟨us,[]⟩ (ps.zip (us++ds))
theorem Binds.all {K:PySem.W.Frag} {fd:FuncData} {ps:List Str} (h:∀us:List Value,us.length=ps.length→bindArgs fd ⟨us,[]⟩=pure (ps.zip us)):Binds K fd ps []:=fun s us _ hl=>by
 rw[List.append_nil]at hl ⊢
 exact .of_eq (h us hl)
noncomputable def jst (CX:CXT) (X:Cx) (E:XK):Prop:=∀(pins:List (Addr×Obj)) (σ:St) (H:Hp) (s:Shared) (e:Value) (s':Shared),Inv X pins σ H s→CX X.stack H s E e s'→X.xe e s'
section
variable {X:Cx} {CX:CXT} {k:Nat} {f C:Addr} {fd:FuncData} {ps:List Str} {sp:Sp} {dvs:List V} {ds:List Value} {E:XK} {x m:Str} {p pos apos:Pos} {e o:Expr} {es:List Expr} {ta:TE} {t:TA}
theorem jyw {pins:List (Addr×Obj)} {σ:St} {H:Hp} {s:Shared} {Q:VK} {us:List Value} {vs:List V} (F:FnOk X.prog X.w X.K X.mg X.base CX k f fd ps sp) (hr:Room k X.A) (hb:Binds X.K fd ps ds) (hd:Vals dvs ds) (hx:jst CX X E)
  (I:Inv X pins σ H s) (r:Vals vs us) (h:sp (vs++dvs) H Q E):wpAny (model X.prog X.w) X.A (call (.ref f) us) (EP X pins σ Q) X.xe s:=by
 have r2:Vals (vs++dvs) (us++ds):=r.append hd
 have hl:(us++ds).length=ps.length:=by rw[←r2.length];exact F.len _ _ _ _ h
 refine wpAny_call (codeAny_mono (F.run X.A X.stack s H ⟨us,[]⟩ (us++ds) (vs++dvs) Q E hr I.env0 (hb s us I.kIn hl) r2 h) fun r s' hq=>?_)
 cases r with
 |error e=>exact hx pins σ H s e s' I hq
 |ok fl =>
  cases fl with
  |ret u=>exact I.after hq
  |next=>exact False.elim hq
  |brk=>exact False.elim hq
  |cont=>exact False.elim hq
theorem jm6 (F:FnOk X.prog X.w X.K X.mg X.base CX k f fd ps sp) (hr:Room k X.A) (hg:Gl X x) (hm:X.mg x=some (.ref f)) (hk:PySem.W.keepIn X.K (.ref f)=true) (hb:Binds X.K fd ps ds) (hd:Vals dvs ds) (hx:jst CX X E)
  (ha:PA X (e::es) t) (hdb:(x==("__debug__":Str))=false:=by decide) (he:starEach (e::es) X.env=(false,eval e X.env)::starEach es X.env:=by rfl) (hpl:(backTo pos (starEach es X.env)).any (·.1)=false:=by rfl) :
  PE X (.Call (.Name x p) (e::es) [] pos) (jmy sp dvs E t):=by
 intro pins s σ H Q I h
 refine wpAny_Call_Name_kw (jrg I hg hm ?_ hdb)
 refine PySem.W.callWith_K (h₀:=X.base) I.ok.mod.kin hk (thn (ha pos pins s σ H _ I h) fun us s1 ⟨vs,H1,I1,r,q⟩=>⟨I1.kIn,?_⟩) he hpl
 exact jyw F hr hb hd hx I1 r q
end
section
variable {X:Cx} {CX:CXT} {k:Nat} {f C:Addr} {fd:FuncData} {ps ks:List Str} {sp:Sp} {E:XK} {x m:Str} {p pos apos kpos:Pos} {e o:Expr} {es:List Expr} {kws:List Keyword} {te ta:TE} {t tk:TA} {nm:Option Str}
variable {g:List Value→List Value→List Value} {gV:List V→List V→List V}
end
structure FnScope (N P:List Str) (sc:Scope):Prop where
 kind:sc.kind=.function
 co:sc.isCoroutine=false
 gen:sc.isGenerator=false
 nd:N.Nodup
 pre:N.take P.length=P
 par:∀x∈P,sc.names.lookup x=some .local∨sc.names.lookup x=some .cell
 nofree:∀y∈sc.names,y.2≠.free
theorem jmk {kindOf:Str→Option NameKind} {x:Str}:∀{binds:List (Str×Value)} {m:Str→Option Value},(∀v,(x,v)∉binds)→bindL kindOf binds m x=m x
 |[],_,_=>rfl
 | (n,v)::r,m,h=>by
  unfold bindL
  rw[jmk fun w hw=>h w (List.mem_cons_of_mem _ hw)]
  split
  ·have:x≠n:=by rintro rfl;exact h v List.mem_cons_self
   simp[this]
  ·rfl
theorem jmm {kindOf:Str→Option NameKind} {x:Str}:∀{binds:List (Str×Value)} {m:Str→Option Value},(∀v,(x,v)∉binds)→bindC kindOf binds m x=m x
 |[],_,_=>rfl
 | (n,v)::r,m,h=>by
  unfold bindC
  rw[jmm fun w hw=>h w (List.mem_cons_of_mem _ hw)]
  split
  ·rfl
  ·have:x≠n:=by rintro rfl;exact h v List.mem_cons_self
   simp[this]
theorem jml {kindOf:Str→Option NameKind} {x:Str} {v:Value}:∀{P:List Str} {vs:List Value} {i:Nat} {m:Str→Option Value},P.Nodup→P[i]?=some x→vs[i]?=some v→kindOf x=some .local →
  bindL kindOf (P.zip vs) m x=some v
 |[],_,_,_,_,h,_,_=>by simp at h
 |_::_,[],_,_,_,_,h,_=>by simp at h
 |p::P,w::vs,0,m,nd,h1,h2,hk=>by
  simp at h1 h2;subst h1;subst h2
  show bindL kindOf ((p,w)::P.zip vs) m p=_
  unfold bindL
  rw[jmk fun v hv=>(List.nodup_cons.mp nd).1 (List.of_mem_zip hv).1,if_pos hk]
  simp
 |p::P,w::vs,i+1,m,nd,h1,h2,hk=>by
  show bindL kindOf ((p,w)::P.zip vs) m x=_
  unfold bindL
  exact jml (i:=i) (List.nodup_cons.mp nd).2 (by simpa using h1) (by simpa using h2) hk
theorem jmn {kindOf:Str→Option NameKind} {x:Str} {v:Value}:∀{P:List Str} {vs:List Value} {i:Nat} {m:Str→Option Value},P.Nodup→P[i]?=some x→vs[i]?=some v→kindOf x≠some .local →
  bindC kindOf (P.zip vs) m x=some v
 |[],_,_,_,_,h,_,_=>by simp at h
 |_::_,[],_,_,_,_,h,_=>by simp at h
 |p::P,w::vs,0,m,nd,h1,h2,hk=>by
  simp at h1 h2;subst h1;subst h2
  show bindC kindOf ((p,w)::P.zip vs) m p=_
  unfold bindC
  rw[jmm fun v hv=>(List.nodup_cons.mp nd).1 (List.of_mem_zip hv).1,if_neg hk]
  simp
 |p::P,w::vs,i+1,m,nd,h1,h2,hk=>by
  show bindC kindOf ((p,w)::P.zip vs) m x=_
  unfold bindC
  exact jmn (i:=i) (List.nodup_cons.mp nd).2 (by simpa using h1) (by simpa using h2) hk
noncomputable def start (N:List Str) (vs:List V):St:=vs.map some++List.replicate (N.length - vs.length) none
noncomputable def cxOf (CX:CXT) (P:Program) (w:World) (K:PySem.W.Frag) (mg:Str→Option Value) (base:Heap) (N:List Str) (qual:Str) (scope:Scope) (f:Addr) (cd:Value) (A:Around) (outer:List Env) (s:Shared) (H:Hp) (E:XK):Cx where
 prog:=P
 w:=w
 K:=K
 mg:=mg
 base:=base
 A:=A.deeper (envOfC qual scope s.heap.objs.size f cd)
 N:=N
 s₀:=s
 H₀:=H
 env:=envOfC qual scope s.heap.objs.size f cd
 outer:=outer
 stack:=envOfC qual scope s.heap.objs.size f cd::outer
 ex:=[]
 calm:=true
 fn:=fun _=>true
 pn:=[]
 xe:=fun e s'=>wpAny (model P w) (A.deeper (envOfC qual scope s.heap.objs.size f cd)) (leaving (envOfC qual scope s.heap.objs.size f cd) e) (fun _ s''=>CX outer H s E e s'') (fun e' s''=>CX outer H s E e' s'') s'
theorem jon {sc:Scope} {n:Nat} {x:Str} (h:sc.names.lookup x=some .cell):∃c,(cellsFrom n sc.names []).lookup x=some c:=by
 have q:=PySem.W.cellsFrom_some sc.names n [] (.inl h)
 exact Option.isSome_iff_exists.mp q
theorem jro {CX:CXT} {P:Program} {w:World} {K:PySem.W.Frag} {mg:Str→Option Value} {base:Heap} {N ps:List Str} {qual:Str} {scope:Scope} {f:Addr} {cd:Value} {A:Around} {outer:List Env} {s s1:Shared} {H:Hp} {E:XK} {us:List Value} {vs:List V}
  (S:FnScope N ps scope) (hd:A.handled=none) (e0:Env0 P w K mg base A outer s H) (hl:vs.length=ps.length) (r:Vals vs us)
  (x:InCallC s s.heap.objs.size (bindL (envOfC qual scope s.heap.objs.size f cd).kindOf (ps.zip us) fun _=>none) (cellsFrom (s.heap.objs.size+1) scope.names []) (bindC (envOfC qual scope s.heap.objs.size f cd).kindOf (ps.zip us) fun _=>none) s1) :
  Inv (cxOf CX P w K mg base N qual scope f cd A outer s H E) [] (start N vs) H s1:=by
 have hpl:ps.length≤N.length:=by have:=congrArg List.length S.pre;rw[List.length_take]at this;omega
 obtain⟨h1,tk,rfl,hk⟩:=x.done
 have noA:∀b:Addr,b∉(cxOf CX P w K mg base N qual scope f cd A outer s H E).ex:=fun b z=>absurd (show b∈([]:List Addr)from z) (by simp)
 refine⟨⟨e0.mod,S.kind,rfl,rfl,Nat.le_refl _,fun y z c h1 h2=>?_,fun y hy=>?_,fun y c _ h=>?_,fun _=>hd,Around.frames_deeper e0.frames,.inr ⟨rfl,rfl⟩,fun b z=>absurd z (noA b),e0.bs,e0.bsz,fun b _ _=>noA b,fun b z=>absurd z (noA b),e0.funs,e0.frf⟩,
  rfl,e0.bare,Un.kept hk,⟨_,x.toInCall.ns,fun i y v h1 h2 h3=>?_⟩,fun y c h=>⟨_,x.cell y c h⟩,e0.hok.fresh (Nat.le_refl _),fun y c h=>?_,fun p hp=>absurd (show p∈([]:List (Addr×Obj))from hp) (by simp),e0.hok.kept hk,?_⟩
 ·exact name_of_addr x.apart (PySem.mem_of_lookup h1) (PySem.mem_of_lookup h2)
 ·have hy:scope.names.lookup y=some .cell∨scope.names.lookup y=some .free:=hy
  rcases hy with hy | hy
  ·exact jon hy
  ·exact absurd rfl (S.nofree _ (PySem.mem_of_lookup hy))
 ·exact Nat.le_of_lt (x.above y c (PySem.mem_of_lookup h))
 ·have hi:i < vs.length:=by
   unfold start at h2
   by_cases hi:i < vs.length
   ·exact hi
   ·rw[List.getElem?_append_right (by simpa using hi)]at h2
    rw[List.getElem?_replicate]at h2
    split at h2<;>cases h2
  have ha:vs[i]?=some v:=by
   unfold start at h2
   rw[List.getElem?_append_left (by simpa using hi),List.getElem?_map]at h2
   cases e:vs[i]? with
   |none=>rw[e]at h2;cases h2
   |some a=>rw[e]at h2;cases h2;rfl
  obtain⟨u,hu,rv⟩:=r.get ha
  have hp:ps[i]?=some y:=by
   rw[←S.pre,List.getElem?_take_of_lt (by omega)];exact h1
  have ndP:ps.Nodup:=by rw[←S.pre];exact S.nd.sublist (List.take_sublist _ _)
  refine⟨u,rv,?_⟩
  rcases S.par y (List.mem_of_getElem? hp)with k | k
  ·exact .inl ⟨k,jml ndP hp hu k⟩
  ·obtain⟨c,e⟩:=jon (n:=s.heap.objs.size+1) k
   refine .inr ⟨.inl k,c,e,?_⟩
   have q:=x.cell y c e
   rw[jmn ndP hp hu (by show scope.names.lookup y≠_;rw[k];decide)]at q
   exact q
 ·exact e0.hok.fresh (Nat.le_of_lt (x.above y c (PySem.mem_of_lookup h)))
 ·unfold start
  show _=N.length
  rw[List.length_append,List.length_map,List.length_replicate]
  omega
theorem j1m {CX:CXT} {P:Program} {w:World} {K:PySem.W.Frag} {mg:Str→Option Value} {base:Heap} {k:Nat} {f:Addr} {name qual:Str} {params:Arguments} {body:List Stmt} {scope:Scope} {dV kV doc pm cdv ct oc:Value} {an od:Option Addr}
  {osl:Array (Option Value)} {N ps:List Str} {sp:Sp} (lk:K.lookup f=some ⟨oc,od,.func (PySem.W.fnOf name qual params body scope dV kV doc pm an cdv ct),osl⟩) (hcd:PySem.W.codeIn K cdv qual=true) (S:FnScope N ps scope)
  (len:∀vs H Q E,sp vs H Q E→vs.length=ps.length)
  (hbody:∀(A:Around) (outer:List Env) (s:Shared) (H:Hp) (vs:List V) (Q:VK) (E:XK),Room k (A.deeper (envOfC qual scope s.heap.objs.size f cdv))→sp vs H Q E →
   ∃t,PSs (cxOf CX P w K mg base N qual scope f cdv A outer s H E) body t∧t {nx:=fun _ H'=>Q .non H',rt:=Q} (start N vs) H) :
  FnOk P w K mg base CX (k+1) f (PySem.W.fnOf name qual params body scope dV kV doc pm an cdv ct) ps sp:=by
 refine⟨len,fun A outer s H args us vs Q E hr e0 hb r hsp=>?_⟩
 have hl:=len _ _ _ _ hsp
 have KX:K.In s.heap:=e0.mod.kin.keeps fun b o e=>(e0.bs b o e).1
 have lim:s.heap.NoLimit:=e0.mod.nolimit.keeps fun b o e=>(e0.bs b o e).1
 have hkind:∀y∈ps.zip us,scope.names.lookup y.1=some .local∨(scope.names.lookup y.1=some .cell∧((cellsFrom (s.heap.objs.size+1) scope.names []).lookup y.1).isSome=true):=fun⟨n,v⟩ hy=>by
  rcases S.par n (List.of_mem_zip hy).1 with q | q
  ·exact .inl q
  ·exact .inr ⟨q,PySem.W.cellsFrom_some _ _ _ (.inl q)⟩
 refine codeAny_call_function hr.depth (KX _ _ lk) rfl S.co S.gen rfl (PySem.W.codeRec_of KX hcd) (hb _ _ _ _ ?_)
 refine wpAny_newFunctionEnv_cells S.kind hkind fun env he s1 x=>?_
 subst he
 refine⟨lim.keeps x.toInCall.keep,codeAny_func ?_⟩
 obtain⟨t,ht,hq⟩:=hbody A outer s H vs Q E (hr.deeper _) hsp
 have I:Inv (cxOf CX P w K mg base N qual scope f cdv A outer s H E) [] (start N vs) H s1:=jro S hr.hd e0 hl r x
 refine wpAny_mono (ht [] s1 (start N vs) H _ I hq) (fun fl s' hs=>?_) fun e s' hs=>hs
 have fin:∀{σ':St} {H':Hp} {v:V} {u:Value},Inv (cxOf CX P w K mg base N qual scope f cdv A outer s H E) [] σ' H' s'→RelV v u→Q v H'→CE outer P w H s Q u s' :=
  fun{σ' H' v u} J rv q=>⟨v,H',J.os,J.bare,J.base,J.hok,rv,q⟩
 cases fl with
 |ret u =>
  obtain⟨v,σ',H',J,rv,q⟩:=hs
  exact fin J rv q
 |next =>
  obtain⟨σ',H',J,q⟩:=hs
  exact fin (v:=V.non) (u:=Value.none) J rfl q
 |brk =>
  obtain⟨_,_,_,q⟩:=hs
  exact False.elim q
 |cont =>
  obtain⟨_,_,_,q⟩:=hs
  exact False.elim q
section
variable {X:Cx} {x:Str} {p pos:Pos} {e:Expr} {es:List Expr} {t:TA} {id T:String} {r:List V→Hp→VK→Prop}
noncomputable def tCB (r:List V→Hp→VK→Prop) (t:TA):TE:=fun σ H Q=>t σ H fun vs H1=>r vs H1 Q
theorem jc2 (hc:CallR X (.builtin id) r) (hg:Gl X x) (hm:X.mg x=none) (hv:bootBuiltins x=some (.builtin id)) (ha:PA X (e::es) t) (hn:x≠"__name__":=by decide) (hdb:(x==("__debug__":Str))=false:=by decide)
  (he:starEach (e::es) X.env=(false,eval e X.env)::starEach es X.env:=by rfl) (hpl:(backTo pos (starEach es X.env)).any (·.1)=false:=by rfl):PE X (.Call (.Name x p) (e::es) [] pos) (tCB r t):=by
 intro pins s σ H Q I h
 refine wpAny_Call_Name_kw (jjh I hg hm hv ?_ hn hdb)
 exact PyProof.Rows.callWith_builtin1 (thn (ha pos pins s σ H _ I h) fun us s1 ⟨vs,H1,I1,r1,q1⟩=>hc pins s1 σ H1 vs us Q I1 r1 q1) he hpl
theorem jfq (hc:CallR X (.type T) r) (hg:Gl X x) (hm:X.mg x=none) (hv:bootBuiltins x=some (.type T)) (ha:PA X (e::es) t) (hn:x≠"__name__":=by decide) (hdb:(x==("__debug__":Str))=false:=by decide)
  (he:starEach (e::es) X.env=(false,eval e X.env)::starEach es X.env:=by rfl) (hpl:(backTo pos (starEach es X.env)).any (·.1)=false:=by rfl):PE X (.Call (.Name x p) (e::es) [] pos) (tCB r t):=by
 intro pins s σ H Q I h
 refine wpAny_Call_Name_kw (jjh I hg hm hv ?_ hn hdb)
 exact PyProof.Rows.callWith_type1 (thn (ha pos pins s σ H _ I h) fun us s1 ⟨vs,H1,I1,r1,q1⟩=>hc pins s1 σ H1 vs us Q I1 r1 q1) he hpl
end
end L2
namespace HT
open PySem PyProof.Rows
section
open PySem.SeqAt
open PySem.AutoSeq1 (wpAny_loadPart')
open PySem.MeetsSeq PySem.MeetsSeq2 PySem.MeetsSeq3
end
section
variable {prog:Program} {w:World} {A:Around} {E:Value→Shared→Prop} {s:Shared}
noncomputable def sIx (n d:Nat):Option Int→Nat
 |none=>d
 |some v=>if v < 0 then(v+(n:Int)).toNat else min v.toNat n
theorem sIx_nat (n d k:Nat):sIx n d (some (k:Int))=min k n:=by
 show(if (k:Int) < 0 then((k:Int)+(n:Int)).toNat else min (k:Int).toNat n)=min k n
 rw[if_neg (by omega),Int.toNat_natCast]
theorem jyu (n d:Nat) (hd:d≤n) (o:Option Int):sIx n d o≤n:=by
 cases o with
 |none=>exact hd
 |some v =>
  show(if v < 0 then(v+(n:Int)).toNat else min v.toNat n)≤n
  by_cases hv:v < 0
  ·rw[if_pos hv];omega
  ·rw[if_neg hv];exact Nat.min_le_right _ _
theorem jsi (v:Int) (n d:Nat):(if v < 0 then max (v+(n:Int)) 0 else min v (n:Int))=((sIx n d (some v):Nat):Int):=by
 show(if v < 0 then max (v+(n:Int)) 0 else min v (n:Int))=(((if v < 0 then(v+(n:Int)).toNat else min v.toNat n):Nat):Int)
 by_cases hv:v < 0
 ·simp only[if_pos hv];omega
 ·simp only[if_neg hv];omega
theorem jpl (lo hi:Option Int) (n:Nat):Builtin.Slice.sliceAdjust lo hi 1 (n:Int)=(((sIx n 0 lo:Nat):Int),((sIx n n hi:Nat):Int)):=by
 have h1:¬((1:Int) < 0):=by omega
 unfold Builtin.Slice.sliceAdjust
 simp only[h1,if_false]
 refine Prod.ext ?_ ?_
 ·cases lo with
  |none=>rfl
  |some v=>exact jsi v n 0
 ·cases hi with
  |none=>rfl
  |some v=>exact jsi v n n
theorem jo1 (i j:Nat):Builtin.Slice.slicePlaces (i:Int) (j:Int) 1=j - i:=by
 unfold Builtin.Slice.slicePlaces
 have h1:(1:Int) > 0:=by omega
 simp only[h1,if_true,Int.ediv_one]
 split<;>omega
theorem ji6 {v:Value} {o:Option Int} {Q:Option Int→Shared→Prop} (p:IsPart v o) (h:Q o s):wpAny (model prog w) A (Builtin.Slice.slicePartIndex v) Q E s:=by
 cases p with
 |none=>exact slicePart_none h
 |int i t=>exact slicePart_int h
theorem jd8 {sl:Addr} {vl vu:Value} {lo hi:Option Int} {n:Nat} {Q:Int×Int×Nat→Shared→Prop} (hs:s.heap.IsSliceOf sl vl vu .none) (pl:IsPart vl lo) (pu:IsPart vu hi)
  (h:Q (((sIx n 0 lo:Nat):Int),1,sIx n n hi - sIx n 0 lo) s):wpAny (model prog w) A (Builtin.Slice.sliceApplied (.ref sl) (pure (n:Int))) Q E s:=by
 obtain⟨os,hos,hcs,hds⟩:=id hs
 unfold Builtin.Slice.sliceApplied Builtin.Slice.sliceFields
 refine wpAny_bind (wpAny_bind (wpAny_field hos hds (x:=vl) rfl (wpAny_bind (wpAny_field hos hds (x:=vu) rfl (wpAny_bind (wpAny_field hos hds (x:=.none) rfl (wpAny_pure ?_)))))))
 refine wpAny_bind (slicePart_none ?_)
 show wpAny _ _ (if ((1:Int)==0)=true then _ else _) _ _ s
 rw[if_neg (by decide)]
 refine wpAny_bind (ji6 pl (wpAny_bind (ji6 pu (wpAny_bind (wpAny_pure ?_)))))
 show wpAny _ _ (match Builtin.Slice.sliceAdjust lo hi 1 (n:Int)with | (lo,hi)=>pure (lo,(1:Int),Builtin.Slice.slicePlaces lo hi 1)) _ _ s
 rw[jpl lo hi n]
 show wpAny _ _ (pure (((sIx n 0 lo:Nat):Int),(1:Int),Builtin.Slice.slicePlaces ((sIx n 0 lo:Nat):Int) ((sIx n n hi:Nat):Int) 1)) _ _ s
 rw[jo1]
 exact wpAny_pure h
theorem jto (xs:Array Value) (i k:Nat):((List.range k).filterMap fun(m:Nat)=>xs[((i:Int)+(m:Int)*1).toNat]?).toArray=((xs.toList.drop i).take k).toArray:=by
 have e:(fun(m:Nat)=>xs[((i:Int)+(m:Int)*1).toNat]?)=fun m=>xs[i+m]?:=by
  funext m
  have:((i:Int)+(m:Int)*1).toNat=i+m:=by omega
  rw[this]
 rw[e]
 have:=pick_run xs i k
 rw[List.filterMap_map]at this
 have e2:((fun x=>xs[x]?) ∘ fun x=>i+x)=fun m=>xs[i+m]?:=rfl
 rw[e2]at this
 rw[this]
theorem getItem_tuple_cut {t sl:Addr} {items:Array Value} {vl vu:Value} {lo hi:Option Int} {Q:Value→Shared→Prop} (ht:IsTup s.heap t items) (hs:s.heap.IsSliceOf sl vl vu .none) (pl:IsPart vl lo) (pu:IsPart vu hi)
  (hw:¬(sIx items.size 0 lo=0∧sIx items.size items.size hi=items.size))
  (h:Q (.ref s.heap.objs.size) {s with heap:=s.heap.push {cls:=.type "tuple",data:=.seq ((items.toList.drop (sIx items.size 0 lo)).take (sIx items.size items.size hi - sIx items.size 0 lo)).toArray}})
  (hsz:items.size≤sizeLine):wpAny (model prog w) A (getItem (.ref t) (.ref sl)) Q E s:=by
 have htake:sizeOk (.seq ((items.toList.drop (sIx items.size 0 lo)).take (sIx items.size items.size hi - sIx items.size 0 lo)).toArray):=by
  show((items.toList.drop (sIx items.size 0 lo)).take (sIx items.size items.size hi - sIx items.size 0 lo)).toArray.size≤sizeLine
  rw[List.size_toArray,List.length_take,List.length_drop,Array.length_toList]
  omega
 have hj:sIx items.size items.size hi≤items.size:=jyu _ _ (Nat.le_refl _) hi
 obtain⟨os,hos,hcs,hds⟩:=id hs
 have hTs:s.TypeIs (.ref sl) "slice":=⟨os,hos,hcs⟩
 unfold getItem
 try with_reducible refine wpAny_holding ?_
 first | refine wpAny_bind (wpAny_pure ?_) | skip
 refine wpAny_bind (wpAny_sequenceKey ht.typeIs (by decide) ?_)
 refine wpAny_bind (wpAny_callSpecial?_slot (name:=Str.ofString "__getitem__") ht.typeIs PyProof.Rows.slot_tuple_getitem
  (wpAny_call_entry PyProof.Rows.slot_tuple_getitem ht.typeIs entry_tuple_getitem ?_ (args_tuple_getitem _ _)))
 show wpAny _ _ (Builtin.Tuple.tupleItemsOf (.ref t)>>=_) _ _ s
 refine wpAny_bind (tupleItemsOf_ ht ?_)
 refine wpAny_bind (wpAny_typeOf hTs ?_)
 rw[if_pos (by decide)]
 refine wpAny_bind (jd8 hs pl pu ?_)
 have hno:¬((((sIx items.size 0 lo:Nat):Int)==0&&(1:Int)==1&&(sIx items.size items.size hi - sIx items.size 0 lo)==items.size)=true):=by
  intro q
  rw[Bool.and_eq_true,Bool.and_eq_true]at q
  have q1:((sIx items.size 0 lo:Nat):Int)=0:=eq_of_beq q.1.1
  have q2:sIx items.size items.size hi - sIx items.size 0 lo=items.size:=eq_of_beq q.2
  exact hw ⟨by omega,by omega⟩
 show wpAny _ _ (if (((sIx items.size 0 lo:Nat):Int)==0&&(1:Int)==1&&(sIx items.size items.size hi - sIx items.size 0 lo)==items.size)=true then _ else _) _ _ s
 rw[if_neg hno,jto]
 first
  |exact wpAny_bind (m:=Builtin.Tuple.tupleExact _) (wpAny_newObj_type (wpAny_pure ⟨_,rfl,wpAny_pure h⟩) htake)
  |exact wpAny_bind (m:=Builtin.Tuple.tupleExact _) (wpAny_newObj_type (wpAny_bind (wpAny_pure (wpAny_pure ⟨_,rfl,wpAny_pure h⟩))) htake)
  |exact wpAny_bind (wpAny_bind (m:=Builtin.Tuple.tupleExact _) (wpAny_newObj_type (wpAny_pure (wpAny_pure ⟨_,rfl,wpAny_pure h⟩)) htake))
  |exact wpAny_bind (wpAny_bind (m:=Builtin.Tuple.tupleExact _) (wpAny_newObj_type (wpAny_pure ⟨_,rfl,wpAny_pure h⟩) htake))
end
end HT
namespace L2
open PySem PySem.Spec PyProof.Rows
noncomputable abbrev TO:=St→Hp→(Option Int→Hp→Prop)→Prop
noncomputable def PO (X:Cx) (e:Option Expr) (t:TO):Prop :=
 ∀(pins:List (Addr×Obj)) (s:Shared) (σ:St) (H:Hp) (Q:Option Int→Hp→Prop),Inv X pins σ H s→t σ H Q →
  wpAny (model X.prog X.w) X.A (evalPart e X.env) (fun u s'=>∃o H',Inv X pins σ H' s'∧IsPart u o∧Q o H') X.xe s
noncomputable def jpv:TO:=fun _ H Q=>Q none H
noncomputable def jyb (t:TE):TO:=fun σ H Q=>t σ H fun x H1=>∃i,x=.int i∧Q (some i) H1
section
variable {X:Cx} {e:Expr} {te:TE} {lo hi:Option Expr} {tl th:TO} {pos p2:Pos}
theorem jqy:PO X none jpv:=by
 intro pins s σ H Q I h
 rw[evalPart_none]
 exact wpAny_pure ⟨none,H,I,.none,h⟩
theorem jqx (h:PE X e te):PO X (some e) (jyb te):=by
 intro pins s σ H Q I hw
 rw[evalPart_some]
 refine thn (h pins s σ H _ I hw) fun u s1 ⟨x,H1,I1,r1,q1⟩=>?_
 obtain⟨i,rfl,q⟩:=q1
 obtain⟨t,rfl⟩:=r1
 exact⟨some i,H1,I1,.int i t,q⟩
noncomputable def SlR (X:Cx) (r:V→Option Int→Option Int→Hp→VK→Prop):Prop :=
 ∀(pins:List (Addr×Obj)) (s:Shared) (σ:St) (H:Hp) (x:V) (v vl vu:Value) (lo hi:Option Int) (sl:Addr) (Q:VK),Inv X pins σ H s→RelV x v→s.heap.IsSliceOf sl vl vu .none→IsPart vl lo→IsPart vu hi→r x lo hi H Q →
  ∃T id,typeLookup (.type T) "__getitem__"=pure (some (.builtin id))∧s.TypeIs v T∧wpAny (model X.prog X.w) X.A (getItem v (.ref sl)) (EP X pins σ Q) X.xe s
theorem SlR.or {r r':V→Option Int→Option Int→Hp→VK→Prop} (h:SlR X r) (h':SlR X r'):SlR X (fun x lo hi H Q=>r x lo hi H Q∨r' x lo hi H Q):=by
 intro pins s σ H x v vl vu lo hi sl Q I rx hs pl pu q
 rcases q with q | q
 ·exact h pins s σ H x v vl vu lo hi sl Q I rx hs pl pu q
 ·exact h' pins s σ H x v vl vu lo hi sl Q I rx hs pl pu q
noncomputable def tSl (r:V→Option Int→Option Int→Hp→VK→Prop) (te:TE) (tl th:TO):TE:=fun σ H Q=>te σ H fun x H1=>tl σ H1 fun l H2=>th σ H2 fun u H3=>r x l u H3 Q
theorem jn2 {r:V→Option Int→Option Int→Hp→VK→Prop} (hr:SlR X r) (he:PE X e te) (hl:PO X lo tl) (hu:PO X hi th):PE X (.Subscript e (.Slice lo hi none p2) pos) (tSl r te tl th):=by
 intro pins s σ H Q I h
 refine Subscript_ (thn (he pins s σ H _ I h) fun v s1 ⟨x,H1,I1,r1,q1⟩=>?_)
 refine wpAny_Slice (thn (hl pins s1 σ H1 _ I1 q1) fun vl s2 ⟨l,H2,I2,pl,q2⟩=>thn (hu pins s2 σ H2 _ I2 q2) fun vu s3 ⟨u,H3,I3,pu,q3⟩=>?_)
 rw[evalPart_none]
 refine wpAny_pure ?_
 have I4:Inv X pins σ H3 {s3 with heap:=s3.heap.push {cls:=.type "slice",data:=.fields #[vl,vu,.none]}}:=I3.kept (t':=s3.toks) fun b ob q=>Heap.get?_push_of_some _ q
 obtain⟨T,id,hT,ht,hg⟩:=hr pins {s3 with heap:=s3.heap.push {cls:=.type "slice",data:=.fields #[vl,vu,.none]}} σ H3 x v vl vu l u s3.heap.objs.size Q I4 r1 (Heap.IsSliceOf.new ..) pl pu q3
 show wpAny (model X.prog X.w) X.A (subscriptTail e (.Slice lo hi none p2) v (.ref s3.heap.objs.size)) (EP X pins σ Q) X.xe {s3 with heap:=s3.heap.push {cls:=.type "slice",data:=.fields #[vl,vu,.none]}}
 exact tail_any (ops:=[.ref s3.heap.objs.size,v]) ht hT hg (by with_unfolding_all rfl)
noncomputable def cutV (xs:List V) (lo hi:Option Int):List V:=(xs.drop (HT.sIx xs.length 0 lo)).take (HT.sIx xs.length xs.length hi - HT.sIx xs.length 0 lo)
theorem jfg (xs:List V) (lo hi:Option Int):(cutV xs lo hi).length≤xs.length:=by
 unfold cutV
 rw[List.length_take,List.length_drop]
 omega
noncomputable def rSlT (K:PySem.W.Frag):V→Option Int→Option Int→Hp→VK→Prop:=fun x lo hi H Q=>∃a xs,x=.ref a∧SqT K H a xs ∧
 ¬(HT.sIx xs.length 0 lo=0∧HT.sIx xs.length xs.length hi=xs.length)∧∀p,H p=none→Q (.ref p) (upd H p (.tup (cutV xs lo hi)))
theorem sl_tup:SlR X (rSlT X.K):=by
 intro pins s σ H x v vl vu lo hi sl Q I rx hs pl pu h
 obtain⟨a,xs,rfl,hx,hw,q⟩:=h
 cases rx
 obtain⟨its,r,ht,hz⟩:=I.tuple hx
 have hlen:its.toArray.size=xs.length:=by rw[List.size_toArray];exact r.length.symm
 refine⟨"tuple",_,PyProof.Rows.slot_tuple_getitem.lookup,ht.typeIs,?_⟩
 refine HT.getItem_tuple_cut ht hs pl pu (by rw[hlen];exact hw) ?_ (by rw[hlen];exact hz)
 rw[hlen]
 refine⟨.ref s.heap.objs.size,_,I.laid (t':=s.toks) (o:=.tup (cutV xs lo hi)) (fun b ob q=>Heap.get?_push_of_some _ q) (Nat.le_refl _) ?_,rfl,q _ (I.hok.fresh (Nat.le_refl _))⟩
 exact⟨Nat.le_trans (jfg xs lo hi) hz,_,(r.drop (HT.sIx xs.length 0 lo)).take (HT.sIx xs.length xs.length hi - HT.sIx xs.length 0 lo),IsTupP.new _ _⟩
end
noncomputable def ixN (n:Nat) (i:Int):Option Nat:=if 0≤i then(if i < n then some i.toNat else none)else if -(n:Int)≤i then some (i+n).toNat else none
noncomputable def atI {α:Type} (xs:List α) (i:Int):Option α:=(ixN xs.length i).bind fun j=>xs[j]?
theorem jrm {n:Nat} {i:Int} {j:Nat} (h:ixN n i=some j):seqIndex? i n=some j∧j < n∧-(n:Int)≤i∧i < n:=by
 unfold ixN at h
 by_cases h0:0≤i
 ·rw[if_pos h0]at h
  by_cases h1:i < n
  ·rw[if_pos h1]at h
   have e:i.toNat=j:=Option.some.inj h
   exact⟨by rw[seqIndex_of h0 h1,e],by omega,by omega,h1⟩
  ·rw[if_neg h1]at h;cases h
 ·rw[if_neg h0]at h
  by_cases h1:-(n:Int)≤i
  ·rw[if_pos h1]at h
   have e:(i+n).toNat=j:=Option.some.inj h
   exact⟨by rw[seqIndex_neg (by omega) h1,e],by omega,h1,by omega⟩
  ·rw[if_neg h1]at h;cases h
theorem jni {α:Type} {xs:List α} {i:Int} {v:α} (h:atI xs i=some v):∃j,seqIndex? i xs.length=some j∧xs[j]?=some v∧j < xs.length∧-(xs.length:Int)≤i∧i < xs.length:=by
 unfold atI at h
 cases e:ixN xs.length i with
 |none=>rw[e]at h;cases h
 |some j =>
  rw[e]at h
  obtain⟨h1,h2,h3,h4⟩:=jrm e
  exact⟨j,h1,h,h2,h3,h4⟩
theorem jby {α:Type} {xs:List α} {j:Nat} {v:α} (h:xs[j]?=some v):atI xs (j:Int)=some v:=by
 have hj:j < xs.length:=(List.getElem?_eq_some_iff.mp h).1
 have e:ixN xs.length (j:Int)=some j:=by
  unfold ixN
  rw[if_pos (by omega),if_pos (by omega)];simp
 unfold atI;rw[e];exact h
noncomputable def jh9 (b:Expr):Prop:=∀o i,subscripted b false o i=operate [o,i] (getItem o i)
noncomputable def IxR (X:Cx) (r:R2):Prop :=
 ∀(value slice:Expr) (pins:List (Addr×Obj)) (s:Shared) (σ:St) (H:Hp) (x y:V) (v u:Value) (Q:VK),Inv X pins σ H s→RelV x v→RelV y u→r x y H Q →
  subscripted slice false v u=operate [v,u] (getItem v u)→wpAny (model X.prog X.w) X.A (subscriptTail value slice v u) (EP X pins σ Q) X.xe s
noncomputable def MtR (X:Cx) (id:String) (r:V→List V→Hp→VK→Prop):Prop :=
 ∀(pins:List (Addr×Obj)) (s:Shared) (σ:St) (H:Hp) (x:V) (xs:List V) (v:Value) (us:List Value) (Q:VK),Inv X pins σ H s→RelV x v→Vals xs us→r x xs H Q →
  wpAny (model X.prog X.w) X.A (call (.builtin id) (v::us)) (EP X pins σ Q) X.xe s
section
variable {X:Cx} {a b:Expr} {ta tb:TE} {pos:Pos}
theorem IxR.or {r r':R2} (h:IxR X r) (h':IxR X r'):IxR X (fun x y H Q=>r x y H Q∨r' x y H Q):=by
 intro value slice pins s σ H x y v u Q I rx ry q hs
 rcases q with q | q
 ·exact h value slice pins s σ H x y v u Q I rx ry q hs
 ·exact h' value slice pins s σ H x y v u Q I rx ry q hs
theorem jf4 {r:R2} (hr:IxR X r) (ha:PE X a ta) (hb:PE X b tb) (hs:jh9 b):PE X (.Subscript a b pos) (tOp r ta tb):=by
 intro pins s σ H Q I h
 exact Subscript_ (binT ha hb I h fun v u s2 x y H2 I2 rx ry q=>hr a b pins s2 σ H2 x y v u Q I2 rx ry q (hs _ _))
noncomputable def rIxL (K:PySem.W.Frag):R2:=fun x y H Q=>∃p xs i v,x=.ref p∧y=.int i∧SqL K H p xs∧atI xs i=some v∧Q v H
noncomputable def rIxT (K:PySem.W.Frag):R2:=fun x y H Q=>∃p xs i v,x=.ref p∧y=.int i∧SqT K H p xs∧atI xs i=some v∧Q v H
noncomputable def rIxS:R2:=fun x y H Q=>∃z i c,x=.str z∧y=.int i∧z.length≤sizeLine∧atI z.cps.toList i=some c∧Q (.str ⟨#[c]⟩) H
theorem ix_list:IxR X (rIxL X.K):=by
 intro value slice pins s σ H x y v u Q I rx ry h hs
 obtain⟨p,xs,i,z,rfl,rfl,hq,he,q⟩:=h
 cases rx
 obtain⟨t,rfl⟩:=ry
 obtain⟨its,r,pl,hz⟩:=I.list hq
 obtain⟨j,h1,h2,h3,h4,h5⟩:=jni he
 obtain⟨w,ew,rw'⟩:=r.get h2
 have hl:=r.length
 have hn:=jjg
 have fin:EP X pins σ Q w s:=⟨z,H,I,rw',q⟩
 by_cases h0:0≤i
 ·have hj:i.toNat=j:=by
   rw[seqIndex_of h0 h5]at h1
   exact Option.some.inj h1
  exact item_listR pl.isList h0 (by omega) (by rw[hj];simpa using ew) fin hs
 ·have hj:(i+(its.toArray.size:Int)).toNat=j:=by
   rw[seqIndex_neg (by omega) h4]at h1
   rw[List.size_toArray,←hl]
   exact Option.some.inj h1
  exact subscriptTail_builtinR (x:=w) pl.isList.typeIs slot_list_getitem.lookup
   (wpAny_getItem_list_neg (Q:=fun r s'=>r=w∧EP X pins σ Q r s') pl.isList (by omega) (by rw[List.size_toArray]<;>omega) (by omega) (by rw[hj];simpa using ew) ⟨rfl,fin⟩) hs
theorem ix_tup:IxR X (rIxT X.K):=by
 intro value slice pins s σ H x y v u Q I rx ry h hs
 obtain⟨p,xs,i,z,rfl,rfl,hq,he,q⟩:=h
 cases rx
 obtain⟨t,rfl⟩:=ry
 obtain⟨its,r,pl,hz⟩:=I.tuple hq
 obtain⟨j,h1,h2,h3,h4,h5⟩:=jni he
 obtain⟨w,ew,rw'⟩:=r.get h2
 have hl:=r.length
 have hn:=jjg
 have fin:EP X pins σ Q w s:=⟨z,H,I,rw',q⟩
 exact subscriptTail_builtinR (x:=w) pl.typeIs slot_tuple_getitem.lookup
  (getItem_tuple (j:=j) (Q:=fun r s'=>r=w∧EP X pins σ Q r s') pl (by omega) (by omega) (by rw[List.size_toArray,←hl];exact h1) (by simpa using ew) ⟨rfl,fin⟩) hs
theorem jzz:IxR X rIxS:=by
 intro value slice pins s σ H x y v u Q I rx ry h hs
 obtain⟨z,i,c,rfl,rfl,hz,he,q⟩:=h
 obtain⟨t,rfl⟩:=rx
 obtain⟨t',rfl⟩:=ry
 obtain⟨j,h1,h2,h3,h4,h5⟩:=jni he
 have hl:z.cps.toList.length=z.length:=by simp[Str.length]
 rw[hl]at h1 h4 h5
 have hn:=jjg
 exact tail_any (typeIs_str s z t) slot_str_getitem.lookup (getItem_str (c:=c) (by
  have e1:decide (i < -(2 ^ 63:Int))=false:=decide_eq_false (by omega)
  have e2:decide (i ≥ 2 ^ 63)=false:=decide_eq_false (by omega)
  rw[e1,e2,Bool.or_false]) (by rw[h1];simpa using h2) ⟨.str ⟨#[c]⟩,H,I.tok _,⟨_,rfl⟩,q⟩) hs
noncomputable def rIx (K:PySem.W.Frag):R2:=fun x y H Q=>rIxL K x y H Q∨rIxT K x y H Q∨rIxS x y H Q
theorem joc:IxR X (rIx X.K):=ix_list.or (ix_tup.or jzz)
theorem jo5 (its:List Value) (n j:Nat) (u:Value):Obj.mapSeq (·.setIfInBounds j u) {cls:=.type "list",data:=.seq its.toArray n}={ cls:=.type "list",data:=.seq (its.set j u).toArray n}:=by
 simp[Obj.mapSeq]
theorem Inv.lst {pins:List (Addr×Obj)} {σ:St} {H:Hp} {s:Shared} {p:Addr} {xs:List V} (I:Inv X pins σ H s) (h:H p=some (.lst xs)) :
  ∃(its:List Value) (n:Nat),Vals xs its∧s.heap.get? p=some {cls:=.type "list",data:=.seq its.toArray n}∧xs.length≤sizeLine:=by
 obtain⟨z,its,n,r,e⟩:=I.hok p _ h
 exact⟨its,n,r,e,z⟩
theorem Inv.lstUpd {pins:List (Addr×Obj)} {σ:St} {H:Hp} {s:Shared} {p:Addr} {xs ys:List V} {its its':List Value} {n n':Nat} {f:Obj→Obj} (I:Inv X pins σ H s) (h:H p=some (.lst xs))
  (ho:s.heap.get? p=some {cls:=.type "list",data:=.seq its.toArray n}) (hf:f {cls:=.type "list",data:=.seq its.toArray n}={ cls:=.type "list",data:=.seq its'.toArray n'}) (r:Vals ys its') (hz:ys.length≤sizeLine) (t:Nat) :
  Inv X pins σ (upd H p (.lst ys)) {s with heap:=s.heap.update p f,toks:=t}:=by
 have e:(s.heap.update p f).get? p=some {cls:=.type "list",data:=.seq its'.toArray n'}:=by
  rw[Heap.get?_update_self f ho (by rw[hf]<;>rfl),hf]
 refine I.write (x:=p) (e:=p) (by rw[h];trivial) (.inl rfl) (fun b u hb q=>(Heap.get?_update_other _ _ (Ne.symm hb)).trans q) ⟨_,e⟩ ?_
 exact⟨hz,its',n',r,e⟩
noncomputable def jy1:V→V→V→Hp→(Hp→Prop)→Prop:=fun o i v H Q=>∃p xs k j,o=.ref p∧i=.int k∧H p=some (.lst xs)∧ixN xs.length k=some j∧Q (upd H p (.lst (xs.set j v)))
theorem jg7:PSet X jy1:=by
 intro pins s σ H o i v ov iv u Q I ro ri rv h
 obtain⟨p,xs,k,j,rfl,rfl,hp,hj,q⟩:=h
 cases ro
 obtain⟨t,rfl⟩:=ri
 obtain⟨its,n,r,ho,hz⟩:=I.lst hp
 obtain⟨h1,h2,h3,h4⟩:=jrm hj
 have hl:=r.length
 have hn:=jjg
 have I':Inv X pins σ (upd H p (.lst (xs.set j v))) {s with heap:=s.heap.update p (Obj.mapSeq (·.setIfInBounds j u))} :=
  I.lstUpd hp ho (jo5 its n j u) (r.set rv j) (by rw[List.length_set];exact hz) s.toks
 by_cases h0:0≤k
 ·have hk:k.toNat=j:=by
   rw[seqIndex_of h0 h4]at h1
   exact Option.some.inj h1
  exact PySem.W.ki_setAt ho h0 (by omega) (by rw[List.size_toArray,←hl];exact h4) (by rw[hk];exact⟨_,I',q⟩)
 ·have hk:(k+(its.toArray.size:Int)).toNat=j:=by
   rw[seqIndex_neg (by omega) h3]at h1
   rw[List.size_toArray,←hl]
   exact Option.some.inj h1
  exact PySem.W.ki_setBack ho (by omega) (by rw[List.size_toArray,←hl];exact h3) (by omega) (by rw[hk];exact⟨_,I',q⟩)
theorem jlf (lo hi:Option Int) (n:Nat):(sliceBounds lo hi none n).1=((HT.sIx n 0 lo:Nat):Int)∧(sliceBounds lo hi none n).2.1=((HT.sIx n n hi:Nat):Int)∧(sliceBounds lo hi none n).2.2=1:=by
 refine⟨?_,?_,rfl⟩
 ·cases lo with
  |none=>simp[sliceBounds,HT.sIx]
  |some i =>
   simp only[sliceBounds,HT.sIx,Option.getD_none,show(1:Int) > 0 by decide,if_true]
   by_cases h:i < 0
   ·simp only[h,if_true]<;>omega
   ·simp only[h,if_false]<;>omega
 ·cases hi with
  |none=>simp[sliceBounds,HT.sIx]
  |some i =>
   simp only[sliceBounds,HT.sIx,Option.getD_none,show(1:Int) > 0 by decide,if_true]
   by_cases h:i < 0
   ·simp only[h,if_true]<;>omega
   ·simp only[h,if_false]<;>omega
theorem jj1 (its:List Value) (lo hi:Option Int):slicePick its.toArray lo hi none=((its.drop (HT.sIx its.length 0 lo)).take (HT.sIx its.length its.length hi - HT.sIx its.length 0 lo)).toArray:=by
 obtain⟨h1,h2,h3⟩:=jlf lo hi its.toArray.size
 unfold slicePick
 rw[h1,h2,h3]
 simp only[sliceRange_one,pick_run,List.size_toArray]<;>rfl
noncomputable def rSlL (K:PySem.W.Frag):V→Option Int→Option Int→Hp→VK→Prop:=fun x lo hi H Q=>∃a xs,x=.ref a∧SqL K H a xs∧∀p,H p=none→Q (.ref p) (upd H p (.lst (cutV xs lo hi)))
theorem jwr:SlR X (rSlL X.K):=by
 intro pins s σ H x v vl vu lo hi sl Q I rx hs pl pu h
 obtain⟨a,xs,rfl,hx,q⟩:=h
 cases rx
 obtain⟨its,r,ht,hz⟩:=I.list hx
 have hlen:=r.length
 refine⟨"list",_,slot_list_getitem.lookup,ht.isList.typeIs,?_⟩
 refine wpAny_getItem_list_slice ht.isList hs pl pu .none (by simp) ?_ (by rw[List.size_toArray]<;>omega)
 rw[jj1,←hlen]
 refine⟨.ref s.heap.objs.size,_,I.laid (t':=s.toks) (o:=.lst (cutV xs lo hi)) (fun b ob q=>Heap.get?_push_of_some _ q) (Nat.le_refl _) ?_,rfl,q _ (I.hok.fresh (Nat.le_refl _))⟩
 exact⟨Nat.le_trans (jfg xs lo hi) hz,_,0,(r.drop (HT.sIx xs.length 0 lo)).take (HT.sIx xs.length xs.length hi - HT.sIx xs.length 0 lo),Heap.get?_push_size _ rfl⟩
noncomputable def jg2:V→Bool
 |.non=>true
 |.bl _=>true
 |.int _=>true
 |.str _=>true
 |_=>false
noncomputable def eqV:V→V→Bool
 |.non,.non=>true
 |.bl a,.bl b=>a==b
 |.bl a,.int b=>(if a then 1 else 0)==b
 |.int a,.bl b=>a==(if b then 1 else 0)
 |.int a,.int b=>a==b
 |.str a,.str b=>a==b
 |_,_=>false
theorem jvw {A:Around} {s:Shared} {y x:V} {u v:Value} (ry:RelV y u) (rx:RelV x v) (fy:jg2 y=true) (fx:jg2 x=true):SeqAt.EqAt A s u v (eqV y x):=by
 cases y with
 |non =>
  cases ry
  cases x with
  |non=>cases rx;exact SeqAt.EqAt.same _
  |bl b=>cases rx;exact SeqAt.EqAt.none_bool b
  |int b=>obtain⟨t,rfl⟩:=rx;exact SeqAt.EqAt.none_int b t
  |str b=>obtain⟨t,rfl⟩:=rx;exact SeqAt.EqAt.none_str b t
  |_=>exact absurd (show false=true from fx) Bool.false_ne_true
 |bl a =>
  cases ry
  cases x with
  |non=>cases rx;exact SeqAt.EqAt.bool_none a
  |bl b=>cases rx;exact SeqAt.EqAt.bool_bool a b
  |int b=>obtain⟨t,rfl⟩:=rx;exact SeqAt.EqAt.bool_int a b t
  |str b=>obtain⟨t,rfl⟩:=rx;exact SeqAt.EqAt.bool_str a b t
  |_=>exact absurd (show false=true from fx) Bool.false_ne_true
 |int a =>
  obtain⟨t',rfl⟩:=ry
  cases x with
  |non=>cases rx;exact SeqAt.EqAt.int_none a t'
  |bl b=>cases rx;exact SeqAt.EqAt.int_bool a t' b
  |int b=>obtain⟨t,rfl⟩:=rx;exact SeqAt.EqAt.int_int a t' b t
  |str b=>obtain⟨t,rfl⟩:=rx;exact SeqAt.EqAt.int_str a t' b t
  |_=>exact absurd (show false=true from fx) Bool.false_ne_true
 |str a =>
  obtain⟨t',rfl⟩:=ry
  cases x with
  |non=>cases rx;exact SeqAt.EqAt.str_none a t'
  |bl b=>cases rx;exact SeqAt.EqAt.str_bool a t' b
  |int b=>obtain⟨t,rfl⟩:=rx;exact SeqAt.EqAt.str_int a t' b t
  |str b=>obtain⟨t,rfl⟩:=rx;exact SeqAt.EqAt.str_str a t' b t
  |_=>exact absurd (show false=true from fx) Bool.false_ne_true
 |_=>exact absurd (show false=true from fy) Bool.false_ne_true
noncomputable def eqU (x:V) (u:Value):Bool:=match u with
 |.none=>eqV .non x
 |.bool b=>eqV (.bl b) x
 |.int i _=>eqV (.int i) x
 |.str z _=>eqV (.str z) x
 |_=>false
theorem jvv {x y:V} {u:Value} (r:RelV y u) (f:jg2 y=true):eqU x u=eqV y x:=by
 cases y with
 |non=>cases r;rfl
 |bl b=>cases r;rfl
 |int i=>obtain⟨t,rfl⟩:=r;rfl
 |str z=>obtain⟨t,rfl⟩:=r;rfl
 |_=>exact absurd (show false=true from f) Bool.false_ne_true
theorem jh3 {x:V}:∀{xs:List V} {us:List Value},Vals xs us→xs.all jg2=true→us.any (eqU x)=xs.any fun y=>eqV y x
 |_,_,.nil,_=>rfl
 |y::xs,u::us,.cons r t,f=>by
  rw[List.all_cons,Bool.and_eq_true]at f
  rw[List.any_cons,List.any_cons,jvv r f.1,jh3 t f.2]
theorem jfs {A:Around} {s:Shared} {x:V} {v:Value} (rx:RelV x v) (fx:jg2 x=true):∀{xs:List V} {us:List Value},Vals xs us→xs.all jg2=true→∀u∈us,SeqAt.EqAt A s u v (eqU x u)
 |_,_,.nil,_=>fun u hu=>by cases hu
 |y::xs,u::us,.cons r t,f=>fun u' hu=>by
  rw[List.all_cons,Bool.and_eq_true]at f
  rcases List.mem_cons.mp hu with rfl | hu
  ·rw[jvv r f.1];exact jvw r rx f.1 fx
  ·exact jfs rx fx t f.2 u' hu
noncomputable def inV (x:V) (xs:List V):Bool:=xs.any fun y=>eqV y x
noncomputable def rIn (K:PySem.W.Frag) (neg:Bool):R2:=fun x y H Q=>∃p xs,y=.ref p∧(SqL K H p xs∨SqT K H p xs)∧jg2 x=true∧xs.all jg2=true∧Q (.bl (if neg then !inV x xs else inV x xs)) H
theorem jq5:OpR X (compareOp .In) (rIn X.K false):=by
 intro pins s σ H x y v u Q I rx ry h
 obtain⟨p,xs,rfl,hq,fx,fs,q⟩:=h
 cases ry
 rcases hq with hq | hq
 ·obtain⟨its,r,pl,hz⟩:=I.list hq
  refine SeqAt.in_listAt (eqU x) pl.isList (fun w hw=>jfs rx fx r fs w (by simpa using hw)) ⟨.bl _,H,I,rfl,?_⟩
  rw[show its.toArray.any (eqU x)=its.any (eqU x) by simp,jh3 r fs]
  exact q
 ·obtain⟨its,r,pl,hz⟩:=I.tuple hq
  refine SeqAt.in_tupleAt (eqU x) pl (fun w hw=>jfs rx fx r fs w (by simpa using hw)) ⟨.bl _,H,I,rfl,?_⟩
  rw[show its.toArray.any (eqU x)=its.any (eqU x) by simp,jh3 r fs]
  exact q
theorem jlq:OpR X (compareOp .NotIn) (rIn X.K true):=by
 intro pins s σ H x y v u Q I rx ry h
 obtain⟨p,xs,rfl,hq,fx,fs,q⟩:=h
 cases ry
 rcases hq with hq | hq
 ·obtain⟨its,r,pl,hz⟩:=I.list hq
  refine SeqAt.notIn_listAt (eqU x) pl.isList (fun w hw=>jfs rx fx r fs w (by simpa using hw)) ⟨.bl _,H,I,rfl,?_⟩
  rw[show its.toArray.any (eqU x)=its.any (eqU x) by simp,jh3 r fs]
  exact q
 ·obtain⟨its,r,pl,hz⟩:=I.tuple hq
  refine SeqAt.notIn_tupleAt (eqU x) pl (fun w hw=>jfs rx fx r fs w (by simpa using hw)) ⟨.bl _,H,I,rfl,?_⟩
  rw[show its.toArray.any (eqU x)=its.any (eqU x) by simp,jh3 r fs]
  exact q
theorem jds:CallR X (.builtin "len") (fun xs H Q=>∃p ys,xs=[.ref p]∧(SqL X.K H p ys∨SqT X.K H p ys)∧Q (.int ys.length) H):=by
 intro pins s σ H xs us Q I r h
 obtain⟨p,ys,rfl,hq,q⟩:=h
 obtain⟨u,rfl,rx⟩:=jia r
 cases rx
 have hn:=jjg
 rcases hq with hq | hq
 ·obtain⟨its,r',pl,hz⟩:=I.list hq
  have hlen:=r'.length
  exact Calls.call_len_list pl.isList (by simp only[List.size_toArray]<;>omega) ⟨.int ys.length,H,I.tok _,⟨s.toks+1,by rw[List.size_toArray,hlen]⟩,q⟩
 ·obtain⟨its,r',pl,hz⟩:=I.tuple hq
  have hlen:=r'.length
  exact len_tuple pl (by simp only[List.size_toArray]<;>omega) ⟨.int ys.length,H,I.tok _,⟨s.toks+1,by rw[List.size_toArray,hlen]⟩,q⟩
theorem call_len_str:CallR X (.builtin "len") (fun xs H Q=>∃z,xs=[.str z]∧z.length≤sizeLine∧Q (.int z.length) H):=by
 intro pins s σ H xs us Q I r h
 obtain⟨z,rfl,hz,q⟩:=h
 obtain⟨u,rfl,t,rfl⟩:=jia r
 have hn:=jjg
 exact len_str (by omega) ⟨.int z.length,H,I.tok _,⟨_,rfl⟩,q⟩
theorem CallR.or {f:Value} {r r':List V→Hp→VK→Prop} (h:CallR X f r) (h':CallR X f r'):CallR X f (fun xs H Q=>r xs H Q∨r' xs H Q):=by
 intro pins s σ H xs us Q I rs q
 rcases q with q | q
 ·exact h pins s σ H xs us Q I rs q
 ·exact h' pins s σ H xs us Q I rs q
theorem jmj:CallR X (.type "list") (fun xs H Q=>∃p ys,xs=[.ref p]∧(SqL X.K H p ys∨SqT X.K H p ys)∧∀l,H l=none→Q (.ref l) (upd H l (.lst ys))):=by
 intro pins s σ H xs us Q I r h
 obtain⟨p,ys,rfl,hq,q⟩:=h
 obtain⟨u,rfl,rx⟩:=jia r
 cases rx
 have fin:∀(its:List Value),Vals ys its→ys.length≤sizeLine→∀(h':Heap) (c':Nat),(∀b o',s.heap.get? b=some o'→h'.get? b=some o') →
   h'.get? s.heap.objs.size=some {cls:=.type "list",dict:=none,data:=.seq its.toArray c',slots:=#[]}→EP X pins σ Q (.ref s.heap.objs.size) {s with heap:=h'}:=fun its r' hz h' c' kp e =>
  ⟨.ref s.heap.objs.size,_,I.laid (t':=s.toks) kp (Nat.le_refl _) (show ObjOk X.prog X.w _ h' _ (.lst ys)from⟨hz,its,c',r',e⟩),rfl,q _ (I.hok.fresh (Nat.le_refl _))⟩
 rcases hq with hq | hq
 ·obtain⟨its,r',pl,hz⟩:=I.list hq
  have hlen:=r'.length
  obtain⟨o,ho,hc,n,hd⟩:=pl.isList
  exact call_list_seq p (.inl rfl) ho hc hd (fun h' c' kp e=>fin its r' hz h' c' kp e) (by simp only[List.size_toArray]<;>omega)
 ·obtain⟨its,r',pl,hz⟩:=I.tuple hq
  have hlen:=r'.length
  obtain⟨o,ho,hc,n,hd⟩:=pl
  exact call_list_seq p (.inr rfl) ho hc hd (fun h' c' kp e=>fin its r' hz h' c' kp e) (by simp only[List.size_toArray]<;>omega)
theorem jks:CallR X (.type "tuple") (fun xs H Q=>∃p ys,xs=[.ref p]∧((SqL X.K H p ys∧∀l,H l=none→Q (.ref l) (upd H l (.tup ys)))∨(SqT X.K H p ys∧Q (.ref p) H))):=by
 intro pins s σ H xs us Q I r h
 obtain⟨p,ys,rfl,h⟩:=h
 obtain⟨u,rfl,rx⟩:=jia r
 cases rx
 rcases h with⟨hq,q⟩ | ⟨hq,q⟩
 ·obtain⟨its,r',pl,hz⟩:=I.list hq
  have hlen:=r'.length
  refine call_tuple_list pl.isList (fun h' kp=>?_) (by simp only[List.size_toArray]<;>omega)
  have I1:Inv X pins σ H {s with heap:=h'}:=I.kept (t':=s.toks) kp
  have I2:Inv X pins σ (upd H h'.objs.size (.tup ys)) {s with heap:=h'.push {cls:=.type "tuple",data:=.seq its.toArray}} :=
   I1.laid (t':=s.toks) (fun b o e=>Heap.get?_push_of_some _ e) (Nat.le_refl _) (show ObjOk X.prog X.w _ _ _ (.tup ys)from⟨hz,its,r',IsTupP.new _ _⟩)
  exact⟨.ref h'.objs.size,_,I2,rfl,q _ (I1.hok.fresh (Nat.le_refl _))⟩
 ·obtain⟨its,r',pl,hz⟩:=I.tuple hq
  exact call_tuple_same pl ⟨.ref p,H,I,rfl,q⟩
noncomputable def tyV (K:PySem.W.Frag) (T:String) (x:V) (H:Hp):Prop:=match x with
 |.str _=>T="str"
 |.int _=>T="int"
 |.ref p=>(T="list"∧∃xs,SqL K H p xs)∨(T="tuple"∧∃o,K.lookup p=some o∧o.cls=.type "tuple"∧o.dict=none) ∨
   (T="dict"∧((∃kvs,H p=some (.dK kvs))∨∃kvs,H p=some (.dT kvs)))∨(T="set"∧∃S n,H p=some (.set S n))
 |_=>False
theorem ju1 {pins:List (Addr×Obj)} {σ:St} {H:Hp} {s:Shared} {T:String} {x:V} {v:Value} (I:Inv X pins σ H s) (r:RelV x v) (ty:tyV X.K T x H) :
  s.TypeIs v T∧∀a,v=.ref a→∃ob,s.heap.get? a=some ob∧ob.dict=none:=by
 cases x with
 |str z =>
  obtain⟨t,rfl⟩:=r
  cases(show T="str" from ty)
  exact⟨typeIs_str s z t,fun _ e=>nomatch e⟩
 |int i =>
  obtain⟨t,rfl⟩:=r
  cases(show T="int" from ty)
  exact⟨typeIs_int s i t,fun _ e=>nomatch e⟩
 |ref p =>
  cases r
  rcases ty with⟨rfl,xs,hq⟩ | ⟨rfl,o,hk,hc,hd⟩ | ⟨rfl,hk⟩ | ⟨rfl,S,n,hk⟩
  ·obtain⟨its,_,pl,_⟩:=I.list hq
   refine⟨pl.isList.typeIs,fun a e=>?_⟩
   cases e
   obtain⟨o,n,e,c,hd,_⟩:=pl
   exact⟨o,e,hd⟩
  ·refine⟨⟨o,I.kIn p o hk,hc⟩,fun a e=>?_⟩
   cases e
   exact⟨o,I.kIn _ o hk,hd⟩
  ·have z:∃o,s.heap.get? p=some o∧o.ExactDict:=by
    rcases hk with⟨kvs,hk⟩ | ⟨kvs,hk⟩
    ·obtain⟨_,_,_,_,o,_,_,e,ex,_⟩:=I.hok p _ hk
     exact⟨o,e,ex⟩
    ·obtain⟨_,_,_,_,o,_,_,e,ex,_⟩:=I.hok p _ hk
     exact⟨o,e,ex⟩
   obtain⟨o,e,ex⟩:=z
   refine⟨⟨o,e,ex.1⟩,fun a e2=>?_⟩
   cases e2
   exact⟨o,e,ex.2.1⟩
  ·obtain⟨o,_,_,_,e,ex,_⟩:=I.hok p _ hk
   refine⟨⟨o,e,ex.1⟩,fun a e2=>?_⟩
   cases e2
   exact⟨o,e,ex.2.1⟩
 |_=>exact False.elim ty
noncomputable def tBM0 (K:PySem.W.Frag) (T:String) (r:V→List V→Hp→VK→Prop) (to:TE):TE:=fun σ H Q=>to σ H fun x H1=>tyV K T x H1∧r x [] H1 Q
noncomputable def tBM (K:PySem.W.Frag) (T:String) (r:V→List V→Hp→VK→Prop) (to:TE) (t:TA):TE:=fun σ H Q=>to σ H fun x H1=>tyV K T x H1∧t σ H1 fun xs H2=>r x xs H2 Q
variable {o e:Expr} {es:List Expr} {to:TE} {t:TA} {name:Str} {apos cpos:Pos} {T id:String} {r:V→List V→Hp→VK→Prop}
theorem jzd (pa:PlainAttrs T) (slot:Slot T name id) (hty:typeOf (.builtin id)=pure (.type "method_descriptor")) (hm:MtR X id r) (ho:PE X o to)
  (hbase:attributeBase o name X.env (eval o X.env)=eval o X.env:=by rfl) (hline:(apos.endLine==cpos.line)=true:=by rfl):PE X (.Call (.Attribute o name apos) [] [] cpos) (tBM0 X.K T r to):=by
 intro pins s σ H Q I h
 refine wpAny_Call_method0_late hbase hline (thn (ho pins s σ H _ I h) fun v s1 ⟨x,H1,I1,r1,ty,q1⟩=>?_)
 obtain⟨h1,h2⟩:=ju1 I1 r1 ty
 exact⟨T,id,pa,slot,hty,h1,h2,Calls.callWith_builtin rfl (PySem.evalArgs_none (hm pins s1 σ H1 x [] v [] Q I1 r1 .nil q1))⟩
theorem jw9 (pa:PlainAttrs T) (slot:Slot T name id) (hty:typeOf (.builtin id)=pure (.type "method_descriptor")) (hm:MtR X id r) (ho:PE X o to) (ha:PA X (e::es) t)
  (hbase:attributeBase o name X.env (eval o X.env)=eval o X.env:=by rfl)
  (hfew:((backTo cpos (starEach (e::es) X.env)).all (fun x=>!x.1)&&(backToKw cpos (keywordEach [] X.env)).all (fun x=>x.1.isSome)
   && decide ((e::es).length+([]:List Keyword).length+(if ([]:List Keyword).isEmpty then 0 else 1) < 30))=true:=by rfl)
  (hline:(apos.endLine==cpos.line)=true:=by rfl) (hs:starEach (e::es) X.env=(false,eval e X.env)::starEach es X.env:=by rfl) (hplain:(backTo cpos (starEach es X.env)).any (·.1)=false:=by rfl) :
  PE X (.Call (.Attribute o name apos) (e::es) [] cpos) (tBM X.K T r to t):=by
 intro pins s σ H Q I h
 refine wpAny_Call_method_late hbase hfew hline rfl (thn (ho pins s σ H _ I h) fun v s1 ⟨x,H1,I1,r1,ty,q1⟩=>?_)
 obtain⟨h1,h2⟩:=ju1 I1 r1 ty
 refine⟨T,id,pa,slot,hty,h1,h2,?_⟩
 have hA:=ha cpos pins s1 σ H1 _ I1 q1
 rw[hs]at hA ⊢
 refine Calls.callWith_builtin (by show(false || (backTo cpos (starEach es X.env)).any (·.1))=false;rw[hplain]<;>rfl) (Calls.evalArgs_plain ?_)
 exact thn hA fun us s2 ⟨vs,H2,I2,r2,q2⟩=>hm pins s2 σ H2 x vs v us Q I2 r1 r2 q2
end
noncomputable def MtM (X:Cx) (id:String) (r:V→List V→Hp→VK→Prop):Prop :=
 ∀(pins:List (Addr×Obj)) (s:Shared) (σ:St) (H:Hp) (x:V) (xs:List V) (v:Value) (us:List Value) (Q:VK),Inv X pins σ H s→RelV x v→Vals xs us→r x xs H Q →
  wpAny (model X.prog X.w) X.A (call (.builtin id) (v::us)) (EP X pins σ Q) X.xe s
theorem Vals.one:∀{x:V} {us:List Value},Vals [x] us→∃u,us=[u]∧RelV x u
 |_,_,.cons r .nil=>⟨_,rfl,r⟩
theorem Vals.zero:∀{us:List Value},Vals [] us→us=[]
 |_,.nil=>rfl
section
variable {X:Cx} {pins:List (Addr×Obj)} {σ:St} {H:Hp} {s:Shared} {l b:Addr} {xs ys zs:List V}
theorem Inv.lset {its its':List Value} {n:Nat} {f:Array Value→Array Value} {t':Nat} (I:Inv X pins σ H s) (hH:H l=some (.lst xs))
  (e:s.heap.get? l=some {cls:=.type "list",data:=.seq its.toArray n}) (hf:f its.toArray=its'.toArray) (hv:Vals ys its') (hz:ys.length≤sizeLine) :
  Inv X pins σ (upd H l (.lst ys)) {s with heap:=s.heap.update l (Obj.mapSeq f),toks:=t'}:=by
 have q:=PySem.IsL.update e f
 rw[hf]at q
 refine I.write (x:=l) (e:=l) (by rw[hH];exact trivial) (.inl rfl) (fun b' u hb hu=>(Heap.get?_update_other s.heap (Obj.mapSeq f) (Ne.symm hb)).trans hu) ⟨_,q⟩ ?_
 exact⟨hz,its',_,hv,q⟩
theorem Inv.lnew {its:List Value} {t':Nat} (I:Inv X pins σ H s) (hv:Vals ys its) (hz:ys.length≤sizeLine) :
  Inv X pins σ (upd H s.heap.objs.size (.lst ys)) {s with heap:=s.heap.push {cls:=.type "list",data:=.seq its.toArray},toks:=t'} :=
 I.laid (fun _ _ q=>Heap.get?_push_of_some _ q) (Nat.le_refl _) ⟨hz,its,0,hv,Heap.get?_push_size _ rfl⟩
theorem Inv.fresh (I:Inv X pins σ H s):H s.heap.objs.size=none:=I.hok.fresh (Nat.le_refl _)
theorem Inv.lstM (I:Inv X pins σ H s) (hH:H l=some (.lst xs)):xs.length≤sizeLine∧∃(its:List Value) (n:Nat),Vals xs its∧xs.length=its.length∧s.heap.get? l=some {cls:=.type "list",data:=.seq its.toArray n}:=by
 obtain⟨z,its,n,r,e⟩:=I.hok l _ hH
 exact⟨z,its,n,r,r.length,e⟩
theorem jt0 {n:Nat} (h:n≤sizeLine):Builtin.List.listTooLong n=false:=by
 unfold Builtin.List.listTooLong
 exact decide_eq_false (by omega)
end
section
variable {X:Cx}
noncomputable def jqt:V→List V→Hp→VK→Prop:=fun x vs H Q=>∃l xs y,x=.ref l∧vs=[y]∧H l=some (.lst xs)∧xs.length < sizeLine∧Q .non (upd H l (.lst (xs++[y])))
theorem jhi:MtM X "list.append" jqt:=by
 intro pins s σ H x vs v us Q I rx rv h
 obtain⟨l,xs,y,rfl,rfl,hH,hz,q⟩:=h
 cases rx
 obtain⟨u,rfl,ru⟩:=rv.one
 obtain⟨z,its,n,r,hl,e⟩:=I.lstM hH
 refine call_meets F.slot_list_append ⟨_,e,rfl⟩ F.entry_list_append (F.args_list_append_2 _ _) (PySem.list_append l its.toArray n u (by rw[List.size_toArray];omega)) ⟨e,?_⟩
 refine⟨.non,_,I.lset (its':=its++[u]) hH e (by simp) (r.append (.cons ru .nil)) ?_,rfl,q⟩
 rw[List.length_append,List.length_singleton]
 omega
noncomputable def jqs:V→List V→Hp→VK→Prop:=fun x vs H Q=>∃l b xs zs,x=.ref l∧vs=[.ref b]∧H l=some (.lst xs)∧H b=some (.lst zs)∧xs.length+zs.length≤sizeLine∧Q .non (upd H l (.lst (xs++zs)))
theorem jrc:MtM X "list.extend" jqs:=by
 intro pins s σ H x vs v us Q I rx rv h
 obtain⟨l,b,xs,zs,rfl,rfl,hH,hB,hz,q⟩:=h
 cases rx
 obtain⟨u,rfl,ru⟩:=rv.one
 cases ru
 obtain⟨z,its,n,r,hl,e⟩:=I.lstM hH
 obtain⟨z2,its2,n2,r2,hl2,e2⟩:=I.lstM hB
 have hsz:its.toArray.size+its2.toArray.size≤sizeLine:=by rw[List.size_toArray,List.size_toArray];omega
 have hlong:¬(!its.toArray.isEmpty&&Builtin.List.listTooLong (its.toArray.size+its2.toArray.size))=true:=by
  rw[jt0 hsz,Bool.and_false]
  exact Bool.false_ne_true
 refine call_meets F.slot_list_extend ⟨_,e,rfl⟩ F.entry_list_extend (F.args_list_extend_2 _ _)
  (AutoSeq1.list_extend_list_list_0 l its.toArray n b its2.toArray n2 hlong (by rw[List.size_toArray];omega) (by omega)) ⟨e,e2,?_⟩
 refine⟨.non,_,I.lset (its':=its++its2) hH e (by simp) (r.append r2) ?_,rfl,q⟩
 rw[List.length_append]
 omega
noncomputable def rCat:R2:=fun x y H Q=>∃l b xs zs,x=.ref l∧y=.ref b∧H l=some (.lst xs)∧H b=some (.lst zs)∧xs.length+zs.length≤sizeLine∧∀p,H p=none→Q (.ref p) (upd H p (.lst (xs++zs)))
theorem jzl:OpR X (binaryOp .Add) rCat:=by
 intro pins s σ H x y v u Q I rx ry h
 obtain⟨l,b,xs,zs,rfl,rfl,hH,hB,hz,q⟩:=h
 cases rx
 cases ry
 obtain⟨z,its,n,r,hl,e⟩:=I.lstM hH
 obtain⟨z2,its2,n2,r2,hl2,e2⟩:=I.lstM hB
 refine PySem.P.add_list e e2 ?_ (by rw[List.size_toArray,List.size_toArray];omega)
 have ea:its.toArray++its2.toArray=(its++its2).toArray:=by simp
 rw[ea]
 exact⟨.ref _,_,I.lnew (t':=s.toks) (r.append r2) (by rw[List.length_append];omega),rfl,q _ I.fresh⟩
end
section
variable {prog:Program} {w:World} {A:Around} {E:Value→Shared→Prop} {s:Shared}
set_option maxRecDepth 100000 in
end
section
variable {X:Cx}
end
section
variable {κ:Type} [DecidableEq κ]
noncomputable def valV (kvs:List (κ×V)) (k:κ):Option V:=(kvs.find? fun kv=>decide (kv.1=k)).map (·.2)
noncomputable def putK (kvs:List (κ×V)) (k:κ) (v:V):List (κ×V) :=
 if (kvs.any fun kv=>decide (kv.1=k))=true then kvs.map (fun kv=>if kv.1=k then(kv.1,v)else kv)else kvs++[(k,v)]
theorem jjy {p:κ×V} {r:List (κ×V)} {k:κ} (e:p.1=k):valV (p::r) k=some p.2:=by simp[valV,List.find?_cons,e]
theorem jjz {p:κ×V} {r:List (κ×V)} {k:κ} (e:¬p.1=k):valV (p::r) k=valV r k:=by simp[valV,List.find?_cons,e]
theorem jno (k:κ):∀kvs:List (κ×V),(kvs.any fun kv=>decide (kv.1=k))=(valV kvs k).isSome
 |[]=>rfl
 |p::r=>by
  rw[List.any_cons]
  by_cases e:p.1=k
  ·simp only[jjy e,decide_eq_true e,Bool.true_or,Option.isSome_some]
  ·rw[jjz e,decide_eq_false e,Bool.false_or];exact jno k r
theorem jdg (kvs:List (κ×V)) (k:κ) (v:V):(putK kvs k v).length≤kvs.length+1:=by
 unfold putK
 split
 ·rw[List.length_map];omega
 ·rw[List.length_append,List.length_cons,List.length_nil];omega
theorem RelO.isSome_eq {o:Option V} {u:Option Value} (r:RelO o u):o.isSome=u.isSome:=by
 cases o with
 |none=>cases u with
  |none=>rfl
  |some _=>exact(show False from r).elim
 |some _=>cases u with
  |none=>exact(show False from r).elim
  |some _=>rfl
theorem RelO.getD {o:Option V} {u:Option Value} {d:V} {d':Value} (r:RelO o u) (rd:RelV d d'):RelV (o.getD d) (u.getD d'):=by
 cases o with
 |none=>cases u with
  |none=>exact rd
  |some _=>exact(show False from r).elim
 |some _=>cases u with
  |none=>exact(show False from r).elim
  |some _=>exact r
theorem KV.val {kvs:List (κ×V)} {vs:List (κ×Value)} (r:KV kvs vs) (k:κ):RelO (valV kvs k) (valueAt vs k):=by
 unfold KV at r
 induction r with
 |nil=>exact True.intro
 |@cons p q ps qs h t ih =>
  obtain⟨h1,h2⟩:=h
  by_cases e:p.1=k
  ·have e':q.1=k:=h1.symm.trans e
   have b:valueAt (q::qs) k=some q.2:=by simp[valueAt,List.find?_cons,e']
   rw[jjy e,b];exact h2
  ·have e':¬q.1=k:=fun z=>e (h1.trans z)
   have b:valueAt (q::qs) k=valueAt qs k:=by simp[valueAt,List.find?_cons,e']
   rw[jjz e,b];exact ih
theorem KV.any {kvs:List (κ×V)} {vs:List (κ×Value)} (r:KV kvs vs) (k:κ):(kvs.any fun kv=>decide (kv.1=k))=vs.any fun kv=>decide (kv.1=k):=by
 unfold KV at r
 induction r with
 |nil=>rfl
 |cons h t ih=>rw[List.any_cons,List.any_cons,ih,h.1]
theorem KV.repl {kvs:List (κ×V)} {vs:List (κ×Value)} (r:KV kvs vs) (k:κ) {y:V} {u:Value} (ry:RelV y u) :
  KV (kvs.map fun kv=>if kv.1=k then(kv.1,y)else kv) (vs.map fun kv=>if kv.1=k then(kv.1,u)else kv):=by
 unfold KV at r ⊢
 induction r with
 |nil=>exact .nil
 |@cons p q ps qs h t ih =>
  rw[List.map_cons,List.map_cons]
  refine .cons ?_ ih
  obtain⟨h1,h2⟩:=h
  by_cases e:p.1=k
  ·rw[if_pos e,if_pos (h1.symm.trans e)];exact⟨h1,ry⟩
  ·rw[if_neg e,if_neg (fun z=>e (h1.trans z))];exact⟨h1,h2⟩
theorem KV.put {kvs:List (κ×V)} {vs:List (κ×Value)} (r:KV kvs vs) (k:κ) {y:V} {u:Value} (ry:RelV y u):KV (putK kvs k y) (stored vs k u):=by
 unfold putK stored
 rw[r.any k]
 by_cases e:(vs.any fun kv=>decide (kv.1=k))=true
 ·rw[if_pos e,if_pos e];exact r.repl k ry
 ·rw[if_neg e,if_neg e];exact Paired.snoc r ⟨rfl,ry⟩
theorem KV.length {kvs:List (κ×V)} {vs:List (κ×Value)} (r:KV kvs vs):kvs.length=vs.length:=Paired.length r
end
theorem jlz {P:Program} {w:World} {k:Key} {u:Value} (r:RelV (kV k) u):(jbk P w).is k u=true:=by
 cases k with
 |inl i=>obtain⟨t,e⟩:=(show ∃t,u=Value.int i t from r);subst e;exact jm8 P w i t
 |inr x=>obtain⟨t,e⟩:=(show ∃t,u=Value.str x t from r);subst e;exact jm7 P w x t
theorem jl1 {P:Program} {w:World}:∀{ks:List Key} {us:List Value},Vals (ks.map kV) us→ItemsAre (jbk P w) ks us
 |[],_,r=>by rw[List.map_nil]at r;cases r;exact .nil
 |k::ks,_,r=>by
  rw[List.map_cons]at r
  cases r with
  |cons h t=>exact .cons (jlz h) (jl1 t)
noncomputable abbrev KT (H:Hp):List (List Key×V)→List (List Key×Addr×Value)→Prop:=Paired fun p q=>p.1=q.1∧H q.2.1=some (.tup (p.1.map kV))∧RelV p.2 q.2.2
theorem KT.val {H:Hp} {kvs:List (List Key×V)} {xs:List (List Key×Addr×Value)} (r:KT H kvs xs) (k:List Key):RelO (valV kvs k) ((atKey xs k).map (·.2)):=by
 induction r with
 |nil=>exact True.intro
 |@cons p q ps qs h t ih =>
  obtain⟨h1,_,h2⟩:=h
  by_cases e:p.1=k
  ·have e':q.1=k:=h1.symm.trans e
   have b:atKey (q::qs) k=some q.2:=by simp[atKey,List.find?_cons,e']
   rw[jjy e,b];exact h2
  ·have e':¬q.1=k:=fun z=>e (h1.trans z)
   have b:atKey (q::qs) k=atKey qs k:=by simp[atKey,List.find?_cons,e']
   rw[jjz e,b];exact ih
theorem KT.repl {H:Hp} {kvs:List (List Key×V)} {xs:List (List Key×Addr×Value)} (r:KT H kvs xs) (k:List Key) {y:V} {u:Value} (ry:RelV y u) :
  KT H (kvs.map fun kv=>if kv.1=k then(kv.1,y)else kv) (xs.map (putAt k u)):=by
 induction r with
 |nil=>exact .nil
 |@cons p q ps qs h t ih =>
  rw[List.map_cons,List.map_cons]
  refine .cons ?_ ih
  obtain⟨h1,h2,h3⟩:=h
  unfold putAt
  by_cases e:p.1=k
  ·rw[if_pos e,if_pos (h1.symm.trans e)];exact⟨h1,h2,ry⟩
  ·rw[if_neg e,if_neg (fun z=>e (h1.trans z))];exact⟨h1,h2,h3⟩
theorem KT.put {H:Hp} {kvs:List (List Key×V)} {xs:List (List Key×Addr×Value)} (r:KT H kvs xs) (k:List Key) {b:Addr} {y:V} {u:Value} (hb:H b=some (.tup (k.map kV))) (ry:RelV y u) :
  KT H (putK kvs k y) (storedH xs k b u):=by
 have e:(kvs.any fun kv=>decide (kv.1=k))=(atKey xs k).isSome:=by
  rw[jno,(r.val k).isSome_eq,Option.isSome_map]
 unfold putK storedH
 rw[e]
 by_cases q:(atKey xs k).isSome=true
 ·rw[if_pos q,if_pos q];exact r.repl k ry
 ·rw[if_neg q,if_neg q];exact Paired.snoc r ⟨rfl,hb,ry⟩
theorem KT.keeps {H H':Hp} {kvs:List (List Key×V)} {xs:List (List Key×Addr×Value)} (r:KT H kvs xs) (ht:∀b ys,H b=some (.tup ys)→H' b=some (.tup ys)):KT H' kvs xs :=
 Paired.mapP r fun _ _ z=>⟨z.1,ht _ _ z.2.1,z.2.2⟩
section
variable {P:Program} {w:World} {H:Hp} {h:Heap} {a:Addr}
theorem jy0 {u:HO} (ok:HOk P w H h) (e:Rd H a u):ObjOk P w H h a u:=e.ok ok
theorem jne {kvs:List (Key×V)} (ok:HOk P w H h) (e:Rd H a (.dK kvs)):kvs.length≤sizeLine∧(a==sysModules)=false∧∃vs,KV kvs vs∧h.DictOf (jbk P w) a vs :=
 show ObjOk P w H h a (.dK kvs)from jy0 ok e
theorem jxt {kvs:List (Key×V)} (ok:HOk P w H h) (e:H a=some (.dK kvs)):kvs.length≤sizeLine∧(a==sysModules)=false∧∃vs,KV kvs vs∧h.DictOf (jbk P w) a vs:=jne ok (.inl e)
theorem jji {ks:List Key} (ok:HOk P w H h) (e:H a=some (.tup (ks.map kV))):(tupleKind (jbk P w)).is h ks a:=by
 obtain⟨_,its,r,o,h1,h2,⟨n,h3⟩,_⟩:=(show ObjOk P w H h a (.tup (ks.map kV))from ok a _ e)
 exact⟨o,its.toArray,n,h1,h2,h3,by simpa using jl1 r⟩
theorem jnd {kvs:List (List Key×V)} (ok:HOk P w H h) (e:Rd H a (.dT kvs)):kvs.length≤sizeLine∧(a==sysModules)=false ∧
  ∃xs,KT H kvs xs∧h.DictOfH (tupleKind (jbk P w)) a xs:=by
 obtain⟨z,y,xs,r,o,es,ep,h1,h2,h3,h4,h5⟩:=(show ObjOk P w H h a (.dT kvs)from jy0 ok e)
 refine⟨z,y,xs,r,o,es,ep,h1,h2,h3,h4,fun x hx=>?_,h5⟩
 have all:∀{l:List (List Key×V)} {m:List (List Key×Addr×Value)},KT H l m→∀x∈m,(tupleKind (jbk P w)).is h x.1 x.2.1:=by
  intro l m q
  induction q with
  |nil=>intro x hx;exact nomatch hx
  |@cons p q ps qs hq t ih =>
   intro x hx
   rcases List.mem_cons.mp hx with e | hx
   ·subst e
    exact jji ok (by rw[←hq.1];exact hq.2.1)
   ·exact ih x hx
 exact all r x hx
theorem j1o {kvs:List (List Key×V)} (ok:HOk P w H h) (e:H a=some (.dT kvs)):kvs.length≤sizeLine∧(a==sysModules)=false ∧
  ∃xs,KT H kvs xs∧h.DictOfH (tupleKind (jbk P w)) a xs:=jnd ok (.inl e)
end
noncomputable def DGet (H:Hp) (a:Addr) (y:V) (r:Option V):Prop :=
 (∃kvs k,Rd H a (.dK kvs)∧y=kV k∧r=valV kvs k)∨∃kvs k b,Rd H a (.dT kvs)∧y=.ref b∧H b=some (.tup (k.map kV))∧r=valV kvs k
noncomputable def DPut (H:Hp) (a:Addr) (y v:V) (H':Hp):Prop :=
 (∃kvs k,H a=some (.dK kvs)∧y=kV k∧kvs.length < sizeLine∧H'=upd H a (.dK (putK kvs k v))) ∨
 ∃kvs k b,H a=some (.dT kvs)∧y=.ref b∧H b=some (.tup (k.map kV))∧kvs.length < sizeLine∧H'=upd H a (.dT (putK kvs k v))
theorem DGet.t {H:Hp} {a b:Addr} {kvs:List (List Key×V)} {k:List Key} (e:H a=some (.dT kvs)) (eb:H b=some (.tup (k.map kV))):DGet H a (.ref b) (valV kvs k):=.inr ⟨kvs,k,b,.inl e,rfl,eb,rfl⟩
theorem DPut.k {H:Hp} {a:Addr} {kvs:List (Key×V)} {k:Key} {v:V} (e:H a=some (.dK kvs)) (hl:kvs.length < sizeLine):DPut H a (kV k) v (upd H a (.dK (putK kvs k v))):=.inl ⟨kvs,k,e,rfl,hl,rfl⟩
theorem DPut.t {H:Hp} {a b:Addr} {kvs:List (List Key×V)} {k:List Key} {v:V} (e:H a=some (.dT kvs)) (eb:H b=some (.tup (k.map kV))) (hl:kvs.length < sizeLine) :
  DPut H a (.ref b) v (upd H a (.dT (putK kvs k v))):=.inr ⟨kvs,k,b,e,rfl,eb,hl,rfl⟩
section
variable {X:Cx} {pins:List (Addr×Obj)} {σ:St} {H:Hp} {s:Shared} {a:Addr} {y v:V} {u r:Value} {o:Option V} {A:Around} {E:Value→Shared→Prop}
theorem Inv.big (I:Inv X pins σ H s):sysModules < s.heap.objs.size:=by
 have h:mainGlobals < s.heap.objs.size:=(I.mod.glob.keeps I.bk).lt
 exact Nat.lt_trans (by decide) h
theorem jsb {Q:Value→Shared→Prop} (hu:A.units+1 < cLine) (I:Inv X pins σ H s) (g:DGet H a y (some v)) (ry:RelV y u) (h:∀w' s',Inv X pins σ H s'→RelV v w'→Q w' s') :
  wpAny (model X.prog X.w) A (getItem (.ref a) u) Q E s:=by
 rcases g with⟨kvs,k,e,ey,l⟩ | ⟨kvs,k,b,e,ey,eb,l⟩
 ·subst ey
  obtain⟨z,hd,vs,rel,dd⟩:=jne I.hok e
  obtain⟨w',hw,rw'⟩:=RelO.some_of (v:=v) (o:=valueAt vs k) (by rw[l];exact rel.val k)
  exact wpAny_getItem_of (jlz ry) dd.mapOf hw (h w' _ (I.tok _) rw')
 ·subst ey
  cases(show u=Value.ref b from ry)
  obtain⟨z,hd,xs,rel,dd⟩:=jnd I.hok e
  obtain⟨w',hw,rw'⟩:=RelO.some_of (v:=v) (o:=(atKey xs k).map (·.2)) (by rw[l];exact rel.val k)
  obtain⟨p,hp,hp2⟩:=Option.map_eq_some_iff.mp hw
  refine wpAny_getItem_heap (tupleKind_room_in1 hu) (jji I.hok eb) dd hp ?_
  rw[hp2]
  exact h w' _ (I.tok _) rw'
theorem d_in {Q:Value→Shared→Prop} (hu:A.units+1 < cLine) (I:Inv X pins σ H s) (g:DGet H a y o) (ry:RelV y u) (h:∀s',Inv X pins σ H s'→Q (.bool o.isSome) s') :
  wpAny (model X.prog X.w) A (compareOp .In u (.ref a)) Q E s:=by
 rcases g with⟨kvs,k,e,ey,l⟩ | ⟨kvs,k,b,e,ey,eb,l⟩
 ·subst ey
  obtain⟨z,hd,vs,rel,dd⟩:=jne I.hok e
  refine wpAny_in_of (jlz ry) hd dd.mapOf ?_
  rw[←(rel.val k).isSome_eq,←l]
  exact h _ (I.tok _)
 ·subst ey
  cases(show u=Value.ref b from ry)
  obtain⟨z,hd,xs,rel,dd⟩:=jnd I.hok e
  refine wpAny_in_heap (tupleKind_room_in1 hu) (jji I.hok eb) hd dd ?_
  have q:=(rel.val k).isSome_eq
  rw[Option.isSome_map]at q
  rw[←q,←l]
  exact h _ (I.tok _)
theorem jxy {Q:Value→Shared→Prop} (hu:A.units+1 < cLine) (I:Inv X pins σ H s) (g:DGet H a y o) (ry:RelV y u) (h:∀s',Inv X pins σ H s'→Q (.bool (!o.isSome)) s') :
  wpAny (model X.prog X.w) A (compareOp .NotIn u (.ref a)) Q E s:=by
 rcases g with⟨kvs,k,e,ey,l⟩ | ⟨kvs,k,b,e,ey,eb,l⟩
 ·subst ey
  obtain⟨z,hd,vs,rel,dd⟩:=jne I.hok e
  refine wpAny_notIn_of (jlz ry) hd dd.mapOf ?_
  rw[←(rel.val k).isSome_eq,←l]
  exact h _ (I.tok _)
 ·subst ey
  cases(show u=Value.ref b from ry)
  obtain⟨z,hd,xs,rel,dd⟩:=jnd I.hok e
  refine wpAny_notIn_heap (tupleKind_room_in1 hu) (jji I.hok eb) hd dd ?_
  have q:=(rel.val k).isSome_eq
  rw[Option.isSome_map]at q
  rw[←q,←l]
  exact h _ (I.tok _)
theorem jkq {h':Heap} {t':Nat} {ob:HO} (I:Inv X pins σ H s) (mu:Mut (H a)) (hs:Heap.SameBut a s.heap h') (he:∃q,h'.get? a=some q) (new:ObjOk X.prog X.w (upd H a ob) h' a ob) :
  Inv X pins σ (upd H a ob) {s with heap:=h',toks:=t'} :=
 I.write (x:=a) (e:=a) mu (.inl rfl) (fun b q hb z=>(hs.2 b hb).trans z) he new
theorem jr2 {P:Program} {w:World} {H':Hp} {h':Heap} {kvs:List (Key×V)} {vs:List (Key×Value)} (z:kvs.length≤sizeLine) (hd:(a==sysModules)=false) (rel:KV kvs vs) (dd:h'.DictOf (jbk P w) a vs) :
  ObjOk P w H' h' a (.dK kvs):=⟨z,hd,vs,rel,dd⟩
theorem jr7 {H':Hp} {Q:Unit→Shared→Prop} (hu:A.units+1 < cLine) (I:Inv X pins σ H s) (g:DPut H a y v H') (ry:RelV y u) (rv:RelV v r) (h:∀s',Inv X pins σ H' s'→Q () s') :
  wpAny (model X.prog X.w) A (setItem (.ref a) u r) Q E s:=by
 rcases g with⟨kvs,k,e,ey,l,eH⟩ | ⟨kvs,k,b,e,ey,eb,l,eH⟩
 ·subst ey eH
  obtain⟨z,hd,vs,rel,dd⟩:=jxt I.hok e
  have hz:vs.length≤sizeLine:=by rw[←rel.length];exact z
  have hl:(putK kvs k v).length≤sizeLine:=by have:=jdg kvs k v;omega
  refine wpAny_setItem_pairs (hsz:=hz) (jlz ry) dd fun h' dd' hs=>h _ ?_
  have he:∃q,h'.get? a=some q:=let⟨q,_,_,hq,_⟩:=dd';⟨q,hq⟩
  exact jkq I (by rw[e];exact True.intro) hs he (jr2 hl hd (rel.put k rv) dd')
 ·subst ey eH
  cases(show u=Value.ref b from ry)
  obtain⟨z,hd,xs,rel,dd⟩:=j1o I.hok e
  have hz:xs.length≤sizeLine:=by rw[←Paired.length rel];exact z
  have hl:(putK kvs k v).length≤sizeLine:=by have:=jdg kvs k v;omega
  refine wpAny_setItem_heap (hsz:=hz) (tupleKind_room_in1 hu) (jji I.hok eb) dd fun h' dd' hs=>h _ ?_
  obtain⟨q,es,ep,hq,h2,h3,h4,_,h5⟩:=dd'
  refine jkq I (by rw[e];exact True.intro) hs ⟨q,hq⟩ ⟨hl,hd,_,(rel.put k eb rv).keeps fun c ys ec=>?_,q,es,ep,hq,h2,h3,h4,h5⟩
  rw[jal (jzp ec e (fun z=>nomatch z))]
  exact ec
end
section
variable {X:Cx} {pins:List (Addr×Obj)} {σ:St} {H:Hp} {s:Shared} {a:Addr} {kvs:List (Key×V)} {k:Key} {u:Value} {A:Around} {E:Value→Shared→Prop}
end
noncomputable def NoSl (i:Expr):Prop:=∀ov iv,subscripted i false ov iv=operate [ov,iv] (getItem ov iv)
theorem jwi {prog:Program} {w:World} {A:Around} {E:Value→Shared→Prop} {s:Shared} {env:Env} {value slice:Expr} {pos:Pos} {T id:String} {Q:Value→Shared→Prop}
  (hl:typeLookup (.type T) "__getitem__"=pure (some (.builtin id))) (hs:NoSl slice)
  (h:wpAny (model prog w) A (eval value env) (fun o s₁=>wpAny (model prog w) A (eval slice env) (fun i s₂=>s₂.TypeIs o T∧wpAny (model prog w) A (getItem o i) Q E s₂) E s₁) E s) :
  wpAny (model prog w) A (eval (.Subscript value slice pos) env) Q E s:=by
 refine Subscript_ (wpAny_mono h (fun o s₁ h₁=>wpAny_mono h₁ (fun i s₂ h₂=>?_) fun _ _ x=>x) fun _ _ x=>x)
 obtain⟨hT,h₂⟩:=h₂
 unfold subscriptTail
 refine wpAny_bind ?_
 rw[getitemInPython_of_ne hT.not_modules]
 refine wpAny_bind (wpAny_specialOf hT hl ?_)
 have fin:wpAny (model prog w) A (subscripted slice false o i) (fun r s₃=>wpAny (model prog w) A (letTemporaryGo value o r>>=fun _=>pure r) Q E s₃) E s₂:=by
  rw[hs o i]
  exact wpAny_operating (wpAny_mono h₂ (fun r s₃ h₃=>wpAny_bind (wpAny_letTemporaryGo (wpAny_pure h₃))) fun _ _ x=>x)
 first
  |exact wpAny_pure (wpAny_bind fin)
  |exact wpAny_bind (wpAny_pure (wpAny_bind fin))
  |exact wpAny_bind fin
theorem jnf {X:Cx} {pins:List (Addr×Obj)} {σ:St} {H:Hp} {s:Shared} {a:Addr} {y:V} {o:Option V} (I:Inv X pins σ H s) (g:DGet H a y o):s.TypeIs (.ref a) "dict":=by
 rcases g with⟨kvs,k,e,_,_⟩ | ⟨kvs,k,b,e,_,_,_⟩
 ·obtain⟨_,_,vs,_,dd⟩:=jne I.hok e
  exact dd.typeIs
 ·obtain⟨_,_,xs,_,dd⟩:=jnd I.hok e
  exact dd.typeIs
noncomputable def jyf (td ty:TE):TE:=fun σ H Q=>td σ H fun x H1=>ty σ H1 fun y H2=>∃a v,x=.ref a∧DGet H2 a y (some v)∧Q v H2
noncomputable def tDIn (ty td:TE):TE:=fun σ H Q=>ty σ H fun y H1=>td σ H1 fun x H2=>∃a o,x=.ref a∧DGet H2 a y o∧Q (.bl o.isSome) H2
noncomputable def jhe (ty td:TE):TE:=fun σ H Q=>ty σ H fun y H1=>td σ H1 fun x H2=>∃a o,x=.ref a∧DGet H2 a y o∧Q (.bl (!o.isSome)) H2
noncomputable def jwu (td ty tv:TE):TS:=fun D σ H=>tv σ H fun v H1=>td σ H1 fun x H2=>ty σ H2 fun y H3=>∃a H4,x=.ref a∧DPut H3 a y v H4∧D.nx σ H4
section
variable {X:Cx} {o i e value:Expr} {pos pos' tpos:Pos} {td ty tv:TE}
theorem jw6 (hu:X.A.units+1 < cLine) (ho:PE X o td) (hi:PE X i ty) (hs:NoSl i):PE X (.Subscript o i pos) (jyf td ty):=by
 intro pins s σ H Q I h
 refine jwi PySem.F.slot_dict_getitem.lookup hs (thn (ho pins s σ H _ I h) fun u s1 ⟨x,H1,I1,rx,q1⟩=>thn (hi pins s1 σ H1 _ I1 q1) fun iv s2 ⟨y,H2,I2,ry,a,v,ex,g,q2⟩=>?_)
 subst ex
 obtain rfl:u=Value.ref a:=rx
 exact⟨jnf I2 g,jsb hu I2 g ry fun w' s3 I3 rw'=>⟨v,H2,I3,rw',q2⟩⟩
theorem jzf (hu:X.A.units+1 < cLine) (hi:PE X i ty) (ho:PE X o td):PC X .In i o (tDIn ty td):=by
 intro pins s σ H Q I h
 refine thn (hi pins s σ H _ I h) fun iv s1 ⟨y,H1,I1,ry,q1⟩=>thn (ho pins s1 σ H1 _ I1 q1) fun u s2 ⟨x,H2,I2,rx,a,ov,ex,g,q2⟩=>?_
 subst ex
 obtain rfl:u=Value.ref a:=rx
 exact d_in hu I2 g ry fun s3 I3=>⟨.bl ov.isSome,H2,I3,rfl,q2⟩
theorem jlo (hu:X.A.units+1 < cLine) (hi:PE X i ty) (ho:PE X o td):PC X .NotIn i o (jhe ty td):=by
 intro pins s σ H Q I h
 refine thn (hi pins s σ H _ I h) fun iv s1 ⟨y,H1,I1,ry,q1⟩=>thn (ho pins s1 σ H1 _ I1 q1) fun u s2 ⟨x,H2,I2,rx,a,ov,ex,g,q2⟩=>?_
 subst ex
 obtain rfl:u=Value.ref a:=rx
 exact jxy hu I2 g ry fun s3 I3=>⟨.bl (!ov.isSome),H2,I3,rfl,q2⟩
theorem jqv (hu:X.A.units+1 < cLine) (ho:PE X o td) (hi:PE X i ty) (hv:PE X value tv) (hs:swapsWith value (some (.Subscript o i pos')) pos.line X.env=pure false) :
  PS X (.Assign [.Subscript o i pos'] value pos) (jwu td ty tv):=by
 intro pins s σ H D I h
 refine wpAny_Assign_Subscript (thn (hv pins s σ H _ I h) fun r s1 ⟨v,H1,I1,rv,q1⟩=>thn (ho pins s1 σ H1 _ I1 q1) fun u s2 ⟨x,H2,I2,rx,q2⟩=>thn (hi pins s2 σ H2 _ I2 q2) fun iv s3 ⟨y,H3,I3,ry,a,H4,ex,g,q3⟩=>?_) hs
 subst ex
 obtain rfl:u=Value.ref a:=rx
 exact jr7 hu I3 g ry rv fun s4 I4=>⟨σ,H4,I4,q3⟩
end
theorem jko {P:Program} {w:World} {H:Hp} (h:Heap) (hb:sysModules < h.objs.size):ObjOk P w H (h.push {cls:=.type "dict",data:=.dict #[]}) h.objs.size (.dK []) :=
 ⟨Nat.zero_le _,beq_eq_false_iff_ne.mpr (Ne.symm (Nat.ne_of_lt hb)),[],.nil,Heap.DictOf.new h⟩
theorem jul {P:Program} {w:World} {H:Hp} (h:Heap) (hb:sysModules < h.objs.size):ObjOk P w H (h.push {cls:=.type "dict",data:=.dict #[]}) h.objs.size (.dT []) :=
 ⟨Nat.zero_le _,beq_eq_false_iff_ne.mpr (Ne.symm (Nat.ne_of_lt hb)),[],.nil,_,#[],0,Heap.get?_push_size _ rfl,⟨rfl,rfl,rfl⟩,rfl,rfl,List.nodup_nil⟩
noncomputable def ju4:TE:=fun _ H Q=>∀p,H p=none→Q (.ref p) (upd H p (.dK []))
noncomputable def ju3:TE:=fun _ H Q=>∀p,H p=none→Q (.ref p) (upd H p (.dT []))
section
variable {X:Cx} {pos:Pos}
theorem jtt:PE X (.Dict [] [] pos) ju4:=fun pins s σ H Q I h =>
 wpAny_Dict_empty ⟨.ref s.heap.objs.size,_,I.laid (a:=s.heap.objs.size) (o:=.dK []) (t':=s.toks) (fun _ _ q=>Heap.get?_push_of_some _ q) (Nat.le_refl _) (jko s.heap I.big),rfl,h _ (I.hok.fresh (Nat.le_refl _))⟩
theorem jtr:PE X (.Dict [] [] pos) ju3:=fun pins s σ H Q I h =>
 wpAny_Dict_empty ⟨.ref s.heap.objs.size,_,I.laid (a:=s.heap.objs.size) (o:=.dT []) (t':=s.toks) (fun _ _ q=>Heap.get?_push_of_some _ q) (Nat.le_refl _) (jul s.heap I.big),rfl,h _ (I.hok.fresh (Nat.le_refl _))⟩
end
noncomputable def jnp:List (TE×TE)→St→Hp→(List (V×V)→Hp→Prop)→Prop
 |[],_,H,Q=>Q [] H
 | (tk,tv)::r,σ,H,Q=>tk σ H fun x H1=>tv σ H1 fun y H2=>jnp r σ H2 fun ps H3=>Q ((x,y)::ps) H3
noncomputable abbrev VV:List (V×V)→List (Value×Value)→Prop:=Paired fun p q=>RelV p.1 q.1∧RelV p.2 q.2
noncomputable def PPs (X:Cx) (pos:Pos) (keys:List (Option Expr)) (values:List Expr) (trs:List (TE×TE)):Prop :=
 ∀(pins:List (Addr×Obj)) (s:Shared) (σ:St) (H:Hp) (Q:List (V×V)→Hp→Prop),Inv X pins σ H s→jnp trs σ H Q →
  wpAny (model X.prog X.w) X.A (evalPairs (pairTrees keys values X.env pos)) (fun vs s'=>∃ps H',Inv X pins σ H' s'∧VV ps vs∧Q ps H') X.xe s
theorem jwx {X:Cx} {pos:Pos}:PPs X pos [] [] []:=fun pins s σ H Q I h=>pairTrees_nil_walk ⟨[],H,I,.nil,h⟩
theorem jnz {X:Cx} {pos:Pos} {k v:Expr} {ks:List (Option Expr)} {vs:List Expr} {tk tv:TE} {trs:List (TE×TE)} (hk:PE X k tk) (hv:PE X v tv) (hr:PPs X pos ks vs trs) :
  PPs X pos (some k::ks) (v::vs) ((tk,tv)::trs):=fun pins s σ H Q I h =>
 pairTrees_cons_walk (thn (hk pins s σ H _ I h) fun u s1 ⟨x,H1,I1,rx,q1⟩=>thn (hv pins s1 σ H1 _ I1 q1) fun w2 s2 ⟨y,H2,I2,ry,q2⟩ =>
  thn (hr pins s2 σ H2 _ I2 q2) fun ws s3 ⟨ps,H3,I3,rel,q3⟩=>⟨(x,y)::ps,H3,I3,.cons ⟨rx,ry⟩ rel,q3⟩)
noncomputable def jea (kvs more:List (Key×V)):List (Key×V):=more.foldl (fun acc kv=>putK acc kv.1 kv.2) kvs
theorem KV.merge:∀{more:List (Key×V)} {rs:List (Key×Value)} {kvs:List (Key×V)} {vs:List (Key×Value)},KV more rs→KV kvs vs→KV (jea kvs more) (merged vs rs):=by
 intro more rs kvs vs r
 unfold KV at r
 induction r generalizing kvs vs with
 |nil=>intro q;exact q
 |@cons p q ps qs h t ih =>
  intro r0
  have e:KV (putK kvs p.1 p.2) (stored vs q.1 q.2):=by
   have:=r0.put p.1 h.2
   rw[←h.1];exact this
  exact ih e
theorem jfu:∀(more kvs:List (Key×V)),(jea kvs more).length≤kvs.length+more.length
 |[],kvs=>by show kvs.length≤kvs.length+0;omega
 |p::r,kvs=>by
  have h1:=jfu r (putK kvs p.1 p.2)
  have h2:=jdg kvs p.1 p.2
  show(jea (putK kvs p.1 p.2) r).length≤_
  rw[List.length_cons];omega
theorem jjs {P:Program} {w:World}:∀{kvs:List (Key×V)} {ws:List (Value×Value)},VV (kvs.map fun kv=>(kV kv.1,kv.2)) ws→∃rs,Carries (jbk P w) ws rs∧KV kvs rs
 |[],_,r=>by rw[List.map_nil]at r;cases r;exact⟨[],True.intro,.nil⟩
 |p::kvs,_,r=>by
  rw[List.map_cons]at r
  cases r with
  |@cons a b as bs h t =>
   obtain⟨rs,c,q⟩:=jjs (P:=P) (w:=w) t
   obtain⟨b1,b2⟩:=b
   exact⟨(p.1,b2)::rs,⟨jlz h.1,rfl,c⟩,.cons ⟨rfl,h.2⟩ q⟩
noncomputable def jye (trs:List (TE×TE)):TE:=fun σ H Q=>∀p,H p=none→jnp trs σ (upd H p (.dK [])) fun ps H2=>H2 p=some (.dK [])∧∃kvs:List (Key×V),ps=kvs.map (fun kv=>(kV kv.1,kv.2))∧kvs.length≤15∧Q (.ref p) (upd H2 p (.dK (jea [] kvs)))
theorem jw5 {X:Cx} {pos:Pos} {keys:List (Option Expr)} {values:List Expr} {trs:List (TE×TE)} (h:PPs X pos keys values trs) (hall:keys.all (·.isSome)=true) (hl:keys.length=values.length) (h0:keys≠[])
  (h15:keys.length≤15):PE X (.Dict keys values pos) (jye trs):=by
 intro pins s σ H Q I q
 have hn:=I.hok.fresh (Nat.le_refl s.heap.objs.size)
 have I1:=I.laid (a:=s.heap.objs.size) (o:=.dK []) (h':=s.heap.push {cls:=.type "dict",data:=.dict #[]}) (t':=s.toks) (fun _ _ q=>Heap.get?_push_of_some _ q) (Nat.le_refl _) (jko s.heap I.big)
 refine wpAny_Dict_walk (knd:=jbk X.prog X.w) hall hl h0 h15 (thn (h pins _ σ _ _ I1 (q _ hn)) fun ws s2 ⟨ps,H2,I2,rel,e,kvs,ep,lk,q2⟩=>?_)
 subst ep
 obtain⟨rs,c,rk⟩:=jjs (P:=X.prog) (w:=X.w) rel
 obtain⟨z,hd,vs0,r0,dd⟩:=jxt I2.hok e
 cases r0
 refine⟨rs,c,dd,fun h' dd' hs=>⟨.ref s.heap.objs.size,_,?_,rfl,q2⟩⟩
 have hz:(jea [] kvs).length≤sizeLine:=by
  have h1:=jfu kvs []
  rw[List.length_nil]at h1
  rw[sizeLine_eq];omega
 have he:∃q,h'.get? s.heap.objs.size=some q:=let⟨q,_,_,hq,_⟩:=dd';⟨q,hq⟩
 exact jkq I2 (by rw[e];exact True.intro) hs he (jr2 hz hd (rk.merge .nil) dd')
structure M2 (X:Cx) (o:Expr) (m:Str) (apos:Pos) (e f:Expr) (cpos:Pos):Prop where
 base:attributeBase o m X.env (eval o X.env)=eval o X.env
 few:((backTo cpos (starEach [e,f] X.env)).all (fun x=>!x.1)&&(backToKw cpos (keywordEach [] X.env)).all (fun x=>x.1.isSome)
  && decide (([e,f]:List Expr).length+([]:List Keyword).length+(if ([]:List Keyword).isEmpty then 0 else 1) < 30))=true
 line:(apos.endLine==cpos.line)=true
 trees:backTo cpos (starEach [e,f] X.env)=[(false,eval e X.env),(false,eval f X.env)]
noncomputable def IsD (H:Hp) (a:Addr):Prop:=(∃kvs,Rd H a (.dK kvs))∨∃kvs,Rd H a (.dT kvs)
theorem jz1 {X:Cx} {pins:List (Addr×Obj)} {σ:St} {H:Hp} {s:Shared} {a:Addr} (I:Inv X pins σ H s) (d:IsD H a) :
  s.TypeIs (.ref a) "dict"∧(∀b,Value.ref a=.ref b→∃ob,s.heap.get? b=some ob∧ob.dict=none)∧(a==sysModules)=false:=by
 rcases d with⟨kvs,e⟩ | ⟨kvs,e⟩
 ·obtain⟨_,hd,vs,_,dd⟩:=jne I.hok e
  refine⟨dd.typeIs,fun b q=>?_,hd⟩
  cases q
  obtain⟨ob,_,_,h1,h2,_⟩:=dd
  exact⟨ob,h1,h2.2.1⟩
 ·obtain⟨_,hd,xs,_,dd⟩:=jnd I.hok e
  refine⟨dd.typeIs,fun b q=>?_,hd⟩
  cases q
  obtain⟨ob,_,_,h1,h2,_⟩:=dd
  exact⟨ob,h1,h2.2.1⟩
section
variable {X:Cx} {pins:List (Addr×Obj)} {σ:St} {H:Hp} {s:Shared} {a:Addr} {y d:V} {u r:Value} {o:Option V} {A:Around} {E:Value→Shared→Prop}
theorem j0o {Q:Value→Shared→Prop} (hu:A.units+1 < cLine) (I:Inv X pins σ H s) (g:DGet H a y o) (ry:RelV y u) (rd:RelV d r) (h:∀w' s',Inv X pins σ H s'→RelV (o.getD d) w'→Q w' s') :
  wpAny (model X.prog X.w) A (call (.builtin "dict.get") [.ref a,u,r]) Q E s:=by
 rcases g with⟨kvs,k,e,ey,l⟩ | ⟨kvs,k,b,e,ey,eb,l⟩
 ·subst ey
  obtain⟨z,hd,vs,rel,dd⟩:=jne I.hok e
  refine call_meetsIn PySem.F.slot_dict_get dd.typeIs PySem.F.entry_dict_get (PySem.F.args_dict_get_3 _ _ _) (meets_dict_get_default (jbk X.prog X.w) a (jlz ry) hd r) ⟨_,dd.mapOf,h _ _ (I.tok _) ?_⟩
  rw[l]
  exact(rel.val k).getD rd
 ·subst ey
  cases(show u=Value.ref b from ry)
  obtain⟨z,hd,xs,rel,dd⟩:=jnd I.hok e
  refine call_meetsIn PySem.F.slot_dict_get dd.typeIs PySem.F.entry_dict_get (PySem.F.args_dict_get_3 _ _ _) (meetsH_dict_get_default (tupleKind (jbk X.prog X.w)) a b hd r) ⟨tupleKind_room_in1 hu,k,xs,jji I.hok eb,dd,h _ _ (I.tok _) ?_⟩
  rw[l]
  exact(rel.val k).getD rd
end
noncomputable def ju5 (td ty tx:TE):TE:=fun σ H Q=>td σ H fun x H1=>∃a,x=.ref a∧IsD H1 a∧ty σ H1 fun y H2=>tx σ H2 fun z H3=>∃o,DGet H3 a y o∧Q (o.getD z) H3
section
variable {X:Cx} {o e f:Expr} {apos cpos:Pos} {td ty tx:TE}
theorem jtu (hu:X.A.units+1 < cLine) (ho:PE X o td) (he:PE X e ty) (hf:PE X f tx) (m:M2 X o "get" apos e f cpos):PE X (.Call (.Attribute o "get" apos) [e,f] [] cpos) (ju5 td ty tx):=by
 intro pins s σ H Q I h
 refine wpAny_Call_method m.base m.few m.line PySem.F.plainAttrs_dict PySem.F.slot_dict_get PySem.F.type_dict_get (thn (ho pins s σ H _ I h) fun u s1 ⟨x,H1,I1,rx,a,ex,d,q1⟩=>?_)
 subst ex
 obtain rfl:u=Value.ref a:=rx
 obtain⟨t1,t2,_⟩:=jz1 I1 d
 refine⟨t1,t2,?_⟩
 rw[m.trees]
 refine Calls.callWith_builtin rfl (Calls.evalArgs_plain (Calls.spliced_cons (thn (he pins s1 σ H1 _ I1 q1) fun iv s2 ⟨y,H2,I2,ry,q2⟩ =>
  Calls.spliced_cons (thn (hf pins s2 σ H2 _ I2 q2) fun fv s3 ⟨z,H3,I3,rz,ov,g,q3⟩=>Calls.spliced_nil ?_))))
 exact j0o hu I3 g ry rz fun w' s4 I4 rw'=>⟨_,H3,I4,rw',q3⟩
end
section
variable {X:Cx} {pins:List (Addr×Obj)} {σ:St} {H:Hp} {s:Shared} {a:Addr} {kvs:List (Key×V)} {A:Around} {E:Value→Shared→Prop}
end
section
variable {X:Cx} {pins:List (Addr×Obj)} {σ:St} {H:Hp} {s:Shared} {a:Addr} {y:V} {u:Value} {A:Around} {E:Value→Shared→Prop}
end
end L2
namespace Att
open PySem PySem.W PySem.Calls PyProof.Rows
theorem jhm {P:Params} {h:Heap}:∀(ns:List Int) (vs:List Value),WellAll P h vs (ns.map WData.int)→IntsAre vs ns:=by
 intro ns
 induction ns with
 |nil =>
  intro vs w
  rw[List.map_nil]at w
  cases w
  exact .nil
 |cons n ns ih =>
  intro vs w
  rw[List.map_cons]at w
  cases w with
  |cons a b =>
   cases a
   exact .cons _ _ (ih _ b)
theorem jqm {l:OpenLaw} {n:Nat} (hn:l.most=some n) {P:Params} {h:Heap} {args:List WData} {vals:List Value}
  (hpre:l.row.toRowW.claim.pre args=true) (hwl:WellAll P h vals args) :
  ∃a vs ns,vals=[Value.ref a]∧args=[WData.list (ns.map WData.int)]∧h.get? a=some {cls:=.type "list",data:=.seq vs.toArray}∧IntsAre vs ns∧ns.length≤n:=by
 have hsh:WShape.hasAll [] args [.list .int]=true:=(pre_splitW hpre).1
 have hc:l.pre.holds [] {args:=args}=true:=(pre_splitW hpre).2
 obtain⟨d,r,rfl,h1,h2⟩:=hasAllW_cons hsh
 obtain rfl:=hasAllW_nil h2
 obtain⟨xs,rfl,h3⟩:=hasW_list h1
 obtain⟨ns,rfl⟩:=items_int h3
 have hlen:ns.length≤n:=by
  unfold OpenLaw.pre at hc
  have h4:(WTm.not (.lt (.lit (.int (n:Int))) (.len (.arg 0)))).holds [] {args:=[.list (ns.map .int)]}=true:=by
   have h4:=(holds_andW hc).1
   rw[hn]at h4
   exact h4
  have h5:=condW_of h4 (w_not (w_lt w_lit (w_len_list (w_arg rfl))))
  rw[List.length_map]at h5
  refine Nat.le_of_not_lt fun q=>?_
  have q':(n:Int) < ((ns.length:Nat):Int):=by omega
  first
   | (rw[decide_eq_true q']at h5;exact absurd h5 (by decide))
   | (simp at h5;omega)
 cases hwl with
 |cons w1 w2 =>
  cases w2
  cases w1 with
  |list ho hall=>exact⟨_,_,ns,rfl,rfl,ho,jhm ns _ hall,hlen⟩
theorem jqw (l:OpenLaw) (args:List WData):l.row.toRowW.claim.post args (.bool true) args=true :=
 postW_of (r:=l.row.toRowW) (X:=(true==true))
  (show WShape.has [] (.bool true) .bool=true by first | rfl | decide | simp[WShape.has,WShape.arms,WShape.armsAll])
  (show(WTm.eq .res (.lit (.bool true))).value [] {args:=args,res:=some (.bool true),after:=args}=some (.bool (true==true))from w_eq_bool (w_res rfl) w_lit) rfl
theorem attach_call {l:OpenLaw} {n:Nat} {q:Program} {loose:List Str} {XP:(Str→Option Value)→Heap→Prop} {YP:World→Heap→Prop} {d:DefRec}
  (hn:l.most=some n) (hdf:d.params.defaults=[])
  (call:∀(w:World) (s₀ s₁:Shared) (mg mb:Str→Option Value) (fa:Addr) (o:Obj) (pm cd doc:Value) (a:Addr) (vs:List Value) (ns:List Int),
   Ground q loose [] XP w s₀ mg mb s₁.heap→YP w s₁.heap →
   s₁.heap.get? fa=some o→o.data=.func (docDef d.name d.params d.body d.scope pm cd doc)→s₁.heap.CodeRec cd d.name→mg d.name=some (.ref fa) →
   s₁.heap.get? a=some {cls:=.type "list",data:=.seq vs.toArray}→IntsAre vs ns→ns.length≤n→s₁.gens=#[] →
   codeAny (model l.prog w) callerA (.call (.ref fa) ⟨[.ref a],[]⟩) (fun r s'=>r=.ok (.ret (.bool true))∧OldK s₁.heap s'.heap∧s'.os=s₁.os∧AllBare s'.gens) s₁) :
  WalkO q loose XP YP l.row.toRowW d [] (fun f vs=>PySem.call f vs):=by
 intro w s₀ s₁ mg mb G Y fa o pm cd doc dV kV ho hd hcd hD hmg hg args vals as hpre hlay hrd hwl hlo
 obtain rfl:dV=.none:=Dflts.none hD hdf
 obtain rfl:kV=.none:=Dflts.noKw hD
 obtain⟨a,vs,ns,rfl,rfl,hobj,hints,hlen⟩:=jqm hn hpre hwl
 refine enter_call (codeAny_mono (call w s₀ s₁ mg mb fa o pm cd doc a vs ns G Y ho (fd_plain hd) hcd hmg hobj hints hlen hg) fun r s' hq=>?_)
 obtain⟨rfl,h2,h3,h4⟩:=hq
 exact⟨.inl ⟨.bool true,.bool true,[],rfl,fun _=>rfl,.bool true,jqw l _,fun _=>⟨List.Pairwise.nil,fun _ hm=>(nomatch hm)⟩⟩,h2,h3,h4⟩
section
variable {prog:Program} {w:World} {A:Around} {E:Value→Shared→Prop} {s:Shared} {K:Frag}
end
end Att
namespace L2
open PySem PySem.Spec PyProof.Rows
theorem jk6:∀{vs:List Value} {ns:List Int},IntsAre vs ns→Vals (ns.map V.int) vs
 |_,_,.nil=>.nil
 |_,_,.cons n t h=>.cons ⟨t,rfl⟩ (jk6 h)
noncomputable def Only (H:Hp):Prop:=∀b,H b=none∨∃o xs,H b=some (.frz o (.lst xs))
theorem jt9 {P:Program} {w:World} {K:PySem.W.Frag} {mg mb:Str→Option Value} {CX:CXT} {k:Nat} {fa a:Addr} {fd:FuncData} {x:Str} {sp:Sp} {s₁:Shared} {vs:List Value} {ns:List Int}
  (KX:K.In s₁.heap) (hns:s₁.heap.Ns mainGlobals mg) (hb:s₁.heap.Ns builtinsNs mb) (hbb:∀x:Str,x≠"__name__"→mb x=bootBuiltins x) (hlim:s₁.heap.NoLimit) (hg:s₁.gens=#[])
  (ha:s₁.heap.get? a=some {cls:=.type "list",data:=.seq vs.toArray}) (hi:IntsAre vs ns) (hl:ns.length≤sizeLine) (hr:Room k callerA)
  (F:∀base:Heap,K.In base→base.Ns mainGlobals mg→FnOk P w K mg base CX k fa fd [x] sp) (hbind:∀(s:Shared) (u:Value),BindsTo s fd ⟨[u],[]⟩ [(x,u)])
  (hsp:∀H:Hp,Only H→SqL K H a (ns.map V.int)→sp [.ref a] H (fun v _=>v=.bl true) fun _ _ _=>False)
  (hCX:∀H e s',CX [] H s₁ (fun _ _ _=>False) e s'→False) :
  codeAny (model P w) callerA (.call (.ref fa) ⟨[.ref a],[]⟩) (fun r s'=>r=.ok (.ret (.bool true))∧OldK s₁.heap s'.heap∧s'.os=s₁.os∧AllBare s'.gens) s₁:=by
 have rv:=jk6 hi
 have lenV:=hi.length
 -- from an abstract heap in which nothing but the script may be tracked
 have core:∀H:Hp,Only H→SqL K H a (ns.map V.int)→HOk P w H s₁.heap→(∀b,H b≠none→b=a)→(H a≠none→K.lookup a=none) →
   codeAny (model P w) callerA (.call (.ref fa) ⟨[.ref a],[]⟩) (fun r s'=>r=.ok (.ret (.bool true))∧OldK s₁.heap s'.heap∧s'.os=s₁.os∧AllBare s'.gens) s₁:=by
  intro H hO hS hok hA hK
  have base_of:∀{b:Addr} {o:Obj},s₁.heap.get? b=some o→H b=none→(hidT s₁.heap H).get? b=some o:=fun e n=>juf e n
  have noA:∀{b:Addr} {o:Obj} {es:Array DictEntry} {ep:Nat},s₁.heap.get? b=some o→o.data=.dict es ep→H b=none:=fun{b o es ep} e d=>by
   cases q:H b with
   |none=>rfl
   |some u =>
    have e':b=a:=hA b (by rw[q];simp)
    subst e'
    rw[ha]at e;cases e
    have d':Data.seq vs.toArray _=Data.dict es ep:=d
    cases d'
  have nsK:∀{b:Addr} {m:Str→Option Value},s₁.heap.Ns b m→(hidT s₁.heap H).Ns b m:=fun{b m} ⟨o,es,ep,e,d,r⟩=>⟨o,es,ep,base_of e (noA e d),d,r⟩
  have hKb:K.In (hidT s₁.heap H):=fun b o e=>base_of (KX b o e) (by
   cases q:H b with
   |none=>rfl
   |some u =>
    have e':b=a:=hA b (by rw[q];simp)
    subst e'
    rw[hK (by rw[q];simp)]at e;cases e)
  have hM:Mod K mg (hidT s₁.heap H):=⟨hKb,nsK hns,⟨mb,nsK hb,hbb⟩,let⟨mc,h1,h2⟩:=hlim;⟨mc,nsK h1,h2⟩⟩
  have e0:Env0 P w K mg (hidT s₁.heap H) callerA [] s₁ H:=⟨rfl,hM,fun b o e=>jxg e,Nat.le_of_eq (jru _ _),trivial,fun b hb=>absurd (show b∈([]:List Addr)from hb) (by simp),hok,.of_eq hg⟩
  refine codeAny_mono ((F _ hKb (nsK hns)).run callerA [] s₁ H ⟨[.ref a],[]⟩ [.ref a] [.ref a] _ _ hr e0 (hbind s₁ (.ref a)) (.cons rfl .nil) (hsp H hO hS)) fun r s' h=>?_
  cases r with
  |error e=>exact(hCX H e s' h).elim
  |ok fl =>
   cases fl with
   |next=>exact False.elim h
   |brk=>exact False.elim h
   |cont=>exact False.elim h
   |ret u =>
    obtain⟨v,H',os,bare,un,hok',r',q⟩:=h
    have q':v=.bl true:=q
    subst q'
    obtain rfl:u=Value.bool true:=r'
    refine⟨rfl,OldK.of_keep fun b o e=>?_,os,bare⟩
    cases q:H b with
    |none=>exact un.keep b o e q (by intro z;exact absurd (show b∈([]:List Addr)from z) (by simp)) (by simp)
    |some u =>
     rcases hO b with z | ⟨ob,xs,z⟩
     ·rw[q]at z;cases z
     ·have z2:=un.frzs b ob _ z
      obtain⟨e1,_⟩:=hok b _ z
      obtain⟨e2,_⟩:=hok' b _ z2
      rw[e]at e1;cases e1
      exact e2
 cases hk:K.lookup a with
 |some o =>
  -- the script is one of the module's own objects
  have e:=KX a o hk
  rw[ha]at e
  cases e
  refine core (fun _=>none) (fun _=>.inl rfl) (.inr ⟨_,vs.toArray,_,hk,rfl,rfl,rfl,by rw[List.size_toArray,lenV];exact hl,by simpa using rv⟩) (fun b u z=>by have z':(none:Option HO)=some u:=z;cases z') (fun b z=>absurd rfl z) fun z=>absurd rfl z
 |none =>
  refine core (fun b=>if b=a then some (.frz {cls:=.type "list",data:=.seq vs.toArray} (.lst (ns.map V.int)))else none) (fun b=>?_) (.inl (.inr ⟨{cls:=.type "list",data:=.seq vs.toArray},if_pos rfl⟩)) (fun b u z=>?_) (fun b z=>?_) fun _=>hk
  ·by_cases hb:b=a
   ·exact .inr ⟨_,_,if_pos hb⟩
   ·exact .inl (if_neg hb)
  ·by_cases hb:b=a
   ·have z':=(if_pos hb).symm.trans z
    cases z'
    subst hb
    exact⟨ha,by rw[List.length_map];exact hl,vs,_,rv,ha⟩
   ·have z':=(if_neg hb).symm.trans z
    cases z'
  ·by_cases hb:b=a
   ·exact hb
   ·exact absurd (if_neg hb) z
theorem walk_of {l:PySem.W.OpenLaw} {n k:Nat} {q:Program} {loose:List Str} {XP:(Str→Option Value)→Heap→Prop} {YP:World→Heap→Prop} {d:DefRec} {K:Params→PySem.W.Frag} {CX:World→CXT} {sp:World→Sp} {x:Str}
  (hn:l.most=some n) (hn2:n≤sizeLine) (hdf:d.params.defaults=[]) (hr:Room k callerA)
  (hY:∀(w:World) (h:Heap),YP w h→(K w.params).In h)
  (F:∀(w:World) (mg:Str→Option Value) (fa:Addr) (h:Heap),(K w.params).In h→h.Ns mainGlobals mg→mg d.name=some (.ref fa) →
   ∃fd:FuncData,(∀(s:Shared) (u:Value),BindsTo s fd ⟨[u],[]⟩ [(x,u)]) ∧
    ∀base:Heap,(K w.params).In base→base.Ns mainGlobals mg→FnOk l.prog w (K w.params) mg base (CX w) k fa fd [x] (sp w))
  (hsp:∀(w:World) (H:Hp) (a:Addr) (ns:List Int),ns.length≤n→Only H→SqL (K w.params) H a (ns.map V.int)→sp w [.ref a] H (fun v _=>v=.bl true) fun _ _ _=>False)
  (hCX:∀(w:World) (H:Hp) (s:Shared) (e:Value) (s':Shared),CX w [] H s (fun _ _ _=>False) e s'→False) :
  PySem.W.WalkO q loose XP YP l.row.toRowW d [] (fun f vs=>PySem.call f vs):=by
 refine Att.attach_call hn hdf fun w s₀ s₁ mg mb fa o pm cd doc a vs ns G Y ho hd hcd hmg hobj hints hlen hg=>?_
 have KX:=hY w _ Y
 obtain⟨fd,hb,hF⟩:=F w mg fa _ KX G.T.g hmg
 exact jt9 KX G.T.g G.T.b G.T.builtins G.T.nolimit hg hobj hints (Nat.le_trans hlen hn2) hr hF hb (fun H hO hS=>hsp w H a ns hlen hO hS) fun H e s'=>hCX w H s₁ e s'
noncomputable def jax (s:Stmt):Arguments:=match s with
 |.FunctionDef _ a _ _ _ _ _ _ _ _=>a
 |_=>{ posonlyargs:=[],args:=[],vararg:=none,kwonlyargs:=[],kw_defaults:=[],kwarg:=none,defaults:=[]}
noncomputable def jat (s:Stmt):List Stmt:=match s with
 |.FunctionDef _ _ b _ _ _ _ _ _ _=>b
 |_=>[]
noncomputable def jae (s:Stmt):Scope:=match s with
 |.FunctionDef _ _ _ _ _ _ sc _ _ _=>sc
 |_=>{ kind:=.function,names:=[],isGenerator:=false,isCoroutine:=false}
noncomputable abbrev CX0:CXT:=fun _ _ _ _ _ _=>False
noncomputable abbrev E0:XK:=fun _ _ _=>False
theorem jxa {X:Cx}:jst CX0 X E0:=fun _ _ _ _ _ _ _ h=>h.elim
structure Fun (K:PySem.W.Frag) (x qual:Str) (st:Stmt) (f:Addr) (fd:FuncData):Prop where
 ex:∃(oc:Value) (od:Option Addr) (kV doc pm:Value) (an:Option Addr) (cdv ct:Value) (osl:Array (Option Value)),
  fd=PySem.W.fnOf x qual (jax st) (jat st) (jae st) .none kV doc pm an cdv ct∧K.lookup f=some ⟨oc,od,.func fd,osl⟩∧PySem.W.codeIn K cdv qual=true
 kp:PySem.W.keepIn K (.ref f)=true
section
variable {P:Program} {w:World} {K:PySem.W.Frag} {mg:Str→Option Value} {base:Heap}
theorem Fun.ok {x qual:Str} {st:Stmt} {f:Addr} {fd:FuncData} {N ps:List Str} {k:Nat} {sp:Sp} (F:Fun K x qual st f fd) (S:FnScope N ps (jae st)) (len:∀vs H Q E,sp vs H Q E→vs.length=ps.length)
  (hbody:∀(cdv:Value) (A:Around) (outer:List Env) (s:Shared) (H:Hp) (vs:List V) (Q:VK) (E:XK),Room k (A.deeper (envOfC qual (jae st) s.heap.objs.size f cdv))→sp vs H Q E →
   ∃t,PSs (cxOf CX0 P w K mg base N qual (jae st) f cdv A outer s H E).nox (jat st) t∧t {nx:=fun _ H'=>Q .non H',rt:=Q} (start N vs) H):FnOk P w K mg base CX0 (k+1) f fd ps sp:=by
 obtain⟨oc,od,kV,doc,pm,an,cdv,ct,osl,rfl,lk,hcd⟩:=F.ex
 refine j1m lk hcd S len fun A outer s H vs Q E hr hsp=>?_
 obtain⟨t,h,q⟩:=hbody cdv A outer s H vs Q E hr hsp
 exact⟨t,h.nox,q⟩
theorem Fun.binds {x qual:Str} {st:Stmt} {f:Addr} {fd:FuncData} {ps:List Str} (F:Fun K x qual st f fd)
  (h:∀(kV doc pm:Value) (an:Option Addr) (cdv ct:Value) (us:List Value),us.length=ps.length→bindArgs (PySem.W.fnOf x qual (jax st) (jat st) (jae st) .none kV doc pm an cdv ct) ⟨us,[]⟩=pure (ps.zip us)):Binds K fd ps []:=by
 obtain⟨oc,od,kV,doc,pm,an,cdv,ct,osl,rfl,lk,hcd⟩:=F.ex
 exact .all (h kV doc pm an cdv ct)
theorem jbm {x qual:Str} {st:Stmt} {f:Addr} {oc:Value} {od an:Option Addr} {osl:Array (Option Value)} {kV doc pm cdv ct:Value} (l:K.lookup f=some ⟨oc,od,.func (PySem.W.fnOf x qual (jax st) (jat st) (jae st) .none kV doc pm an cdv ct),osl⟩)
  (c:PySem.W.codeIn K cdv qual=true) (k:PySem.W.keepIn K (.ref f)=true):Fun K x qual st f (PySem.W.fnOf x qual (jax st) (jat st) (jae st) .none kV doc pm an cdv ct):=⟨⟨oc,od,kV,doc,pm,an,cdv,ct,osl,rfl,l,c⟩,k⟩
end
theorem jle {n:Nat} (h:n≤1000):n < sizeLine:=Nat.lt_of_le_of_lt h (by decide)
section
variable {X:Cx}
theorem pv (i:Nat) {x:Str} {pos:Pos} (hN:X.N[i]?=some x:=by rfl) (hv:Vis X.env.scope x:=by first | exact Or.inl rfl | exact Or.inr (Or.inl rfl) | exact Or.inr (Or.inr rfl)) (hd:(x==("__debug__":Str))=false:=by decide)
  (hcd:(x==("__classdict__":Str))=false:=by decide):PE X (.Name x pos) (tVar i):=jdf hN hv hd hcd
end
theorem iteF {A B:Prop} (h:B):if false=true then A else B:=by
 rw[if_neg Bool.false_ne_true]
 exact h
theorem ite2 {c A B:Prop} [Decidable c] (h1:c→A) (h2:¬c→B):if c then A else B:=by
 by_cases h:c
 ·rw[if_pos h]
  exact h1 h
 ·rw[if_neg h]
  exact h2 h
noncomputable def Same (H H':Hp):Prop:=∀b o,H b=some o→H' b=some o
section
variable {X:Cx}
end
section
variable {κ:Type} [DecidableEq κ]
end
end L2
set_option maxHeartbeats 4000000
set_option maxHeartbeats 4000000
namespace Nb
open PySem L2
noncomputable def jpu:Bool:=true
noncomputable def jux:List V:=[.non,.non,.non,.int 1,.int 2,.int 3,.int 20]
noncomputable def jnk:List PyData:=[.none,.none,.none,.int 1,.int 2,.int 3,.int 20]
end Nb
namespace L2
open PySem PySem.Spec PyProof.Rows
section
variable {prog:Program} {w:World} {A:Around} {R:Result→Shared→Prop} {s:Shared}
theorem jgt {elt target iter:Expr} {ifs:List Expr} {scope:Scope} {pos:Pos} {it acc:Value} {env:Env} (I:Nat→Shared→Prop)
  (turn:∀n s,I n s→wpAny (model prog w) A (pyNext it) (fun r s₁=>match r with
   |none=>R (.ok .next) s₁
   |some v=>wpAny (model prog w) A (letOwnedTupleGo target it v) (fun _ s₁'=>wpAny (model prog w) A (assign target env v) (fun _ s₂ =>
     wpAny (model prog w) A (forIn ifs true fun c r=>if r=true then do let ok ←isTrue c env (eval c env);pure (ForInStep.yield ok)else pure (ForInStep.yield r)) (fun ok s₃ =>
      if ok=true then wpAny (model prog w) A (eval elt env) (fun x s₄ =>
       wpAny (model prog w) A (call (.builtin "list.append") [acc,x]) (fun _ s₅=>∃m,m < n∧I m s₅) (fun _ _=>False) s₄) (fun _ _=>False) s₃
      else ∃m,m < n∧I m s₃) (fun _ _=>False) s₂) (fun _ _=>False) s₁') (fun _ _=>False) s₁) (fun _ _=>False) s)
  (n:Nat) (h:I n s):codeAny (model prog w) A (.compLoop (.ListComp elt [⟨target,iter,ifs,0⟩] scope pos) 0 it acc env) R s:=by
 refine codeAny_loop rfl I (fun n s hI=>?_) n h
 show wpAny _ A ((compTurn (.ListComp elt [⟨target,iter,ifs,0⟩] scope pos) 0 it acc env).onRaise (fun x=>do noteFrame x env;theTreesLotGoes x)) _ _ s
 refine wpAny_noted ?_
 rw[compTurn_list]
 refine wpAny_bind (wpAny_standAt (wpAny_bind (wpAny_mono (turn n s hI) (fun r s₁ h₁=>?_) fun _ _ f=>f.elim)))
 cases r with
 |none=>exact wpAny_pure h₁
 |some v =>
  refine wpAny_bind (wpAny_mono h₁ (fun _ s₁' h₁'=>?_) fun _ _ f=>f.elim)
  refine wpAny_bind (wpAny_mono h₁' (fun _ s₂ h₂=>wpAny_bind (wpAny_mono h₂ (fun ok s₃ h₃=>?_) fun _ _ f=>f.elim)) fun _ _ f=>f.elim)
  cases ok with
  |false=>exact wpAny_pure ⟨rfl,h₃⟩
  |true =>
   exact wpAny_bind (wpAny_bind (wpAny_mono h₃ (fun x s₄ h₄=>wpAny_bind (wpAny_mono h₄ (fun _ s₅ h₅=>wpAny_pure (wpAny_pure ⟨rfl,h₅⟩)) fun _ _ f=>f.elim)) fun _ _ f=>f.elim))
end
noncomputable def jbh (X:Cx) (N:List Str) (scope:Scope) (cl:List (Str×Addr)) (s:Shared) (H:Hp) (fp:List Addr):Cx :=
 { X with N:=N,s₀:=s,H₀:=H,env:=compEnvC scope cl s.heap.objs.size X.env,outer:=X.stack,ex:=fp,fn:=fun _=>false,pn:=[],xe:=fun _ _=>False}
structure CompSc (X:Cx) (N:List Str) (scope:Scope) (cl:List (Str×Addr)) (fr:List (Option Nat)):Prop where
 clos:closureFor scope X.env=pure cl
 kind:scope.kind=.function
 nocell:∀y∈scope.names,y.2≠.cell
 names:∀y∈scope.names,y.2=.local→scope.names.lookup y.1=some .local
 sub:∀x c,cl.lookup x=some c→X.env.cells.lookup x=some c
 has:∀x,((relabel scope X.env).names.lookup x=some .cell∨(relabel scope X.env).names.lookup x=some .free)→∃c,cl.lookup x=some c
 len:fr.length=N.length
 fre:∀(j i:Nat),fr[j]?=some (some i)→∃x,N[j]?=some x∧X.N[i]?=some x∧Vis X.env.scope x∧(X.env.kindOf x=some .cell∨X.env.kindOf x=some .free) ∧
  ((relabel scope X.env).names.lookup x=some .cell∨(relabel scope X.env).names.lookup x=some .free)∧cl.lookup x=X.env.cells.lookup x
theorem jet {κ:Type}:∀{l:List (Str×κ)} {x:Str} {k:κ},l.lookup x=some k→(x,k)∈l
 |[],_,_,h=>nomatch h
 | (y,k')::r,x,k,h=>by
  rw[List.lookup_cons]at h
  cases e:x==y with
  |true =>
   rw[e]at h
   have e':x=y:=by simpa using e
   have h':k'=k:=Option.some.inj h
   rw[e',h']
   exact List.mem_cons_self
  |false =>
   rw[e]at h
   exact List.mem_cons_of_mem _ (jet h)
theorem jjf {κ:Type}:∀{l:List (Str×κ)} {x:Str},x∈l.map (·.1)→∃k,l.lookup x=some k
 |[],_,h=>absurd h (by simp)
 | (y,k')::r,x,h=>by
  rw[List.lookup_cons]
  cases e:x==y with
  |true=>exact⟨k',rfl⟩
  |false =>
   have ne:¬x=y:=fun z=>by rw[z]at e;simp at e
   have h':x∈y::r.map (·.1):=h
   rcases List.mem_cons.mp h' with z | z
   ·exact absurd z ne
   ·exact jjf z
theorem jdq {X:Cx} {scope:Scope} {cl:List (Str×Addr)} (nm:List (Str×NameKind)) (ks:List Str) (hrel:(relabel scope X.env).names=nm) (hks:cl.map (·.1)=ks) (h3:∀y∈nm,(y.2=.cell∨y.2=.free)→y.1∈ks) :
  ∀x,((relabel scope X.env).names.lookup x=some .cell∨(relabel scope X.env).names.lookup x=some .free)→∃c,cl.lookup x=some c:=by
 intro x h
 rw[hrel]at h
 refine jjf ?_
 rw[hks]
 rcases h with h | h
 ·exact h3 _ (jet h) (.inl rfl)
 ·exact h3 _ (jet h) (.inr rfl)
noncomputable def capt (fr:List (Option Nat)) (σ:St):St:=fr.map fun o=>o.bind fun i=>(σ[i]?).bind id
theorem juq {fr:List (Option Nat)} {σ:St} {j:Nat} {v:V} (h:(capt fr σ)[j]?=some (some v)):∃i,fr[j]?=some (some i)∧σ[i]?=some (some v):=by
 unfold capt at h
 rw[List.getElem?_map]at h
 cases e:fr[j]? with
 |none=>rw[e]at h;cases h
 |some o =>
  rw[e]at h
  cases o with
  |none=>cases h
  |some i =>
   refine⟨i,rfl,?_⟩
   have h':(σ[i]?).bind id=some v:=Option.some.inj h
   cases e2:σ[i]? with
   |none=>rw[e2]at h';cases h'
   |some o2 =>
    rw[e2]at h'
    have h2:o2=some v:=h'
    rw[h2]
noncomputable def PIf (X:Cx) (ifs:List Expr) (tt:TT):Prop :=
 ∀(pins:List (Addr×Obj)) (s:Shared) (σ:St) (H:Hp) (Q:Bool→Hp→Prop),Inv X pins σ H s→tt σ H Q →
  wpAny (model X.prog X.w) X.A (forIn ifs true fun c r=>if r=true then do let ok ←isTrue c X.env (eval c X.env);pure (ForInStep.yield ok)else pure (ForInStep.yield r)) (TP X pins σ Q) X.xe s
noncomputable def jyc:TT:=fun _ H Q=>Q true H
theorem jwz {X:Cx}:PIf X [] jyc:=fun _ _ _ H _ I h=>wpAny_tests_nil ⟨H,I,h⟩
theorem jwy {X:Cx} {c:Expr} {tt:TT} (h:PT X c tt):PIf X [c] tt:=fun pins s σ H Q I q=>wpAny_tests_one (h pins s σ H Q I q)
noncomputable def jpw (fr:List (Option Nat)) (wi:TI) (g:TG) (tt:TT) (te:TE):TE:=fun σ H Q=>wi σ H fun J H1=>∀D,H1 D=none →
 ∃W:Nat→Nat→List V→St→Hp→Prop,(∃m,W 0 m [] (capt fr σ) (upd H1 D (.lst [])))∧∀i m ys τ H,W i m ys τ H →
  ((J.stop i H∧Q (.ref D) H)∨(J.go i H∧ys.length < sizeLine∧∀x H',J.yld i H x H'→g x τ H' fun τ2 H2=>tt τ2 H2 fun b H3 =>
   if b=true then te τ2 H3 (fun y H4=>H4 D=some (.lst ys)∧∃m',m' < m∧W (i+1) m' (ys++[y]) τ2 (upd H4 D (.lst (ys++[y]))))else ∃m',m' < m∧W (i+1) m' ys τ2 H3))
section
variable {X:Cx} {N:List Str} {scope:Scope} {cl:List (Str×Addr)} {fr:List (Option Nat)} {pins:List (Addr×Obj)} {σ:St} {H:Hp} {s:Shared} {fp:List Addr}
theorem jx0 (S:CompSc X N scope cl fr) (I:Inv X pins σ H s) (hf:∀b∈fp,FpOk X pins H b) (hlt:∀b∈fp,b < s.heap.objs.size):(jbh X N scope cl s H fp).Ok where
 mod:=I.ok.mod
 kind:=S.kind
 glob:=I.ok.glob
 blt:=I.ok.blt
 above:=Nat.le_refl _
 inj:=fun x y c a b=>I.ok.inj x y c (S.sub x c a) (S.sub y c b)
 has:=fun x h=>S.has x h
 cab:=fun x c h=>nomatch h
 hd:=I.ok.hd
 frames:=I.ok.frames
 stk:=.inl rfl
 exf:=fun b hb=>⟨Nat.ne_of_lt (hlt b hb),fun x c e=>(hf b hb).2.2.2.2.1 x c (S.sub x c e)⟩
 bs:=I.bs
 bsz:=Nat.le_trans I.ok.bsz I.sz
 noex:=fun b o e hb=>by
  rcases(hf b hb).2.2.2.1 with z | z
  ·exact I.ok.noex b o e z
  ·exact absurd (Nat.lt_of_lt_of_le (Heap.lt_size (I.ok.bs b o e).1) z) (Nat.lt_irrefl _)
 exfs:=fun b hb z=>by
  rcases List.mem_cons.mp (I.stkSub b z)with e | e
  ·exact(hf b hb).2.1 e
  ·exact(hf b hb).2.2.1 e
 funs:=I.stack
 frf:=I.stkFree
theorem jjr {h₁:Heap} {t':Nat} (S:CompSc X N scope cl fr) (I:Inv X pins σ H s) (hf:∀b∈fp,FpOk X pins H b) (hlt:∀b∈fp,b < s.heap.objs.size)
  {ob:Obj} (hsb:Heap.SameBut s.heap.objs.size (s.heap.push ob) h₁) {m:Str→Option Value} (hn:h₁.Ns s.heap.objs.size m) :
  Inv (jbh X N scope cl s H fp) [] (capt fr σ) H {s with heap:=h₁,toks:=t'}:=by
 have old:∀b o,s.heap.get? b=some o→h₁.get? b=some o:=fun b o e=>(hsb.2 b (Nat.ne_of_lt (Heap.lt_size e))).trans (Heap.get?_push_of_some _ e)
 refine⟨jx0 S I hf hlt,rfl,I.bare,Un.kept old,⟨m,hn,fun j x v e1 e2 e3=>?_⟩,fun x c e=>?_,I.fresh,fun x c e=>I.freeC x c (S.sub x c e),fun p hp=>?_,I.hok.kept old,?_⟩
 ·obtain⟨i,f1,f2⟩:=juq e2
  obtain⟨y,g1,g2,g3,g4,g5,g6⟩:=S.fre j i f1
  have e1':N[j]?=some x:=e1
  rw[g1]at e1'
  have exy:y=x:=Option.some.inj e1'
  subst exy
  obtain⟨m0,hn0,hl⟩:=I.loc
  obtain⟨u,r,l⟩:=hl i y v g2 f2 g3
  refine⟨u,r,.inr ⟨g5,?_⟩⟩
  rcases l with⟨k,_⟩ | ⟨k,c,e,z⟩
  ·rcases g4 with q | q
   ·rw[q]at k;cases k
   ·rw[q]at k;cases k
  ·exact⟨c,g6.trans e,z.keeps old⟩
 ·obtain⟨v,z⟩:=I.cell x c (S.sub x c e)
  exact⟨v,z.keeps old⟩
 ·exact absurd hp (by simp[jbh])
 ·show(capt fr σ).length=N.length
  unfold capt
  rw[List.length_map,S.len]
theorem jom {H':Hp} {τ:St} {s0 s':Shared} {h':Heap} (I:Inv X pins σ H s0) (hf:∀b∈fp,FpOk X pins H b) (I':Inv (jbh X N scope cl s0 H fp) [] τ H' s') (hs:Heap.SameBut s0.heap.objs.size s'.heap h') :
  Inv X pins σ H' {s' with heap:=h'}:=by
 have hC:H' s0.heap.objs.size=none:=I'.free
 have u:Un (frs X.stack) fp H H' s0.heap s'.heap:=I'.base
 have ne:∀b o,s0.heap.get? b=some o→b≠s0.heap.objs.size:=fun b o e=>Nat.ne_of_lt (Heap.lt_size e)
 have hok':HOk X.prog X.w H' h':=fun b o e=>by
  have q:ObjOk X.prog X.w H' s'.heap b o:=I'.hok b o e
  refine q.stay (fun c v hc z=>(hs.2 c ?_).trans z) (fun _ z=>z) fun _ _ z=>z
  rintro rfl
  rcases hc with z | z
  ·rw[←z,hC]at e;cases e
  ·rw[hC]at z;cases z
 refine I.call' (s':={ s' with heap:=h'}) (ch:=fp) I'.os ?_ hok' I'.bare fun b hb=>?_
 ·refine⟨fun b o e n h1 h2=>(hs.2 b (ne b o e)).trans (u.keep b o e n h1 h2),fun b o e n h1 h2=>?_,u.free,fun b o e h2=>?_,u.tups,u.frzs,u.tbls⟩
  ·obtain⟨sl,z⟩:=u.slot b o e n h1 h2
   exact⟨sl,(hs.2 b (ne b o e)).trans z⟩
  ·obtain⟨o',z⟩:=u.there b o e h2
   exact⟨o',(hs.2 b (ne b o e)).trans z⟩
 ·obtain⟨_,f1,_,f3,f4,f5⟩:=hf b hb
  exact⟨f3,f1,f4,f5⟩
end
theorem jw7 {X:Cx} {elt tg iter:Expr} {ifs:List Expr} {scope:Scope} {cl:List (Str×Addr)} {pos:Pos} {N:List Str} {fr:List (Option Nat)} {wi:TI} {g:TG} {tt:TT} {te:TE}
  (hc:X.calm=true) (S:CompSc X N scope cl fr) (hi:PI X tg iter wi) (hg:∀s H fp,PG (jbh X N scope cl s H fp) tg g) (ht:∀s H fp,PIf (jbh X N scope cl s H fp) ifs tt)
  (he:∀s H fp,PE (jbh X N scope cl s H fp) elt te) (hs:∀x,foldedSetIterable iter X.env x=pure x:=by intro _;rfl) :
  PE X (.ListComp elt [⟨tg,iter,ifs,0⟩] scope pos) (jpw fr wi g tt te):=by
 intro pins s σ H Q I h
 rw[eval_ListComp]
 refine wpAny_comprehension_free (use:=none) (cl:=cl) rfl hs S.clos S.kind S.names (thn (hi pins s σ H _ I h) fun v s1 h1=>thn h1 fun itv s2 h2=>?_)
 obtain⟨it,fp,tn,J,H2,e,I2,T,st2,f2,q⟩:=h2
 subst e
 refine wpAny_newObj_type (wpAny_newFunctionEnv S.nocell (by intro y hy;simp at hy) (fun h₁ hn hsb=>?_) S.kind)
 dsimp only at hn hsb ⊢
 obtain⟨W,⟨m0,w0⟩,turn⟩:=q s2.heap.objs.size I2.fresh
 -- the state with the new list
 have I3:Inv X pins σ (upd H2 s2.heap.objs.size (.lst [])) {s2 with heap:=s2.heap.push {cls:=.type "list",dict:=none,data:=.seq ([]:List Value).toArray}}:=I2.lnew (its:=[]) (t':=s2.toks) .nil (Nat.zero_le _)
 have key:∀s3:Shared,s3={ s2 with heap:=s2.heap.push {cls:=.type "list",dict:=none,data:=.seq ([]:List Value).toArray}}→Inv X pins σ (upd H2 s2.heap.objs.size (.lst [])) s3 →
   ∀(ob:Obj) (mm:Str→Option Value),Heap.SameBut s3.heap.objs.size (s3.heap.push ob) h₁→h₁.Ns s3.heap.objs.size mm →
   codeAny (model X.prog X.w) X.A (.compStart (.ListComp elt [⟨tg,iter,ifs,0⟩] scope pos) 0 (.ref it) (.ref s2.heap.objs.size) (compEnvC scope cl s3.heap.objs.size X.env))
    (compPost (model X.prog X.w) X.A X.xe none (EP X pins σ Q) (.ref s2.heap.objs.size) s3.heap.objs.size) {s3 with heap:=h₁,toks:=s3.toks+([]:List (Str×Value)).length}:=?key
 ·exact key _ rfl I3 _ _ hsb hn
 clear I3 hn hsb
 intro s3 hs3 I3 ob mm hsb hn
 have hfp:∀b∈fp,∃o,s2.heap.get? b=some o:=fun b hb=>let⟨o,e,_⟩:=T.obj _ _ st2 b hb;⟨o,e⟩
 have up:∀b o,s2.heap.get? b=some o→s3.heap.get? b=some o:=fun b o e=>by rw[hs3];exact Heap.get?_push_of_some _ e
 have f3:∀b∈fp,FpOk X pins (upd H2 s2.heap.objs.size (.lst [])) b:=fun b hb=>by
  obtain⟨o,e⟩:=hfp b hb
  obtain⟨g0,gr⟩:=f2 b hb
  exact⟨by rw[jal (Nat.ne_of_lt (Heap.lt_size e))];exact g0,gr⟩
 have hlt:∀b∈fp,b < s3.heap.objs.size:=fun b hb=>let⟨o,e⟩:=hfp b hb;Heap.lt_size (up b o e)
 generalize hH3:upd H2 s2.heap.objs.size (.lst [])=H3 at I3 f3 w0
 have I4:=jjr (t':=s3.toks+([]:List (Str×Value)).length) S I3 f3 hlt hsb hn
 have st4:tn 0 h₁:=T.keep _ _ _ st2 fun b hb o e=>(hsb.2 b (Nat.ne_of_lt (Heap.lt_size (up b o e)))).trans (Heap.get?_push_of_some _ (up b o e))
 have stat:∀{H':Hp},(∀b∈fp,H' b=none)→∀b∈fp,FpOk (jbh X N scope cl s3 H3 fp) [] H' b:=fun hn b hb=>by
  obtain⟨_,k1,k2,k3,k4,k5⟩:=f3 b hb
  refine⟨hn b hb,Nat.ne_of_lt (hlt b hb),fun z=>?_,.inl hb,fun x c e=>k4 x c (S.sub x c e),fun p hp=>absurd hp (by simp[jbh])⟩
  rcases List.mem_cons.mp (I3.stkSub b z)with e | e
  ·exact k1 e
  ·exact k2 e
 have loop:codeAny (model X.prog X.w) X.A (.compLoop (.ListComp elt [⟨tg,iter,ifs,0⟩] scope pos) 0 (.ref it) (.ref s2.heap.objs.size) (compEnvC scope cl s3.heap.objs.size X.env))
   (compPost (model X.prog X.w) X.A X.xe none (EP X pins σ Q) (.ref s2.heap.objs.size) s3.heap.objs.size) {s3 with heap:=h₁,toks:=s3.toks+([]:List (Str×Value)).length}:=by
  refine jgt (fun n s'=>∃i ys τ Hc,Inv (jbh X N scope cl s3 H3 fp) [] τ Hc s'∧tn i s'.heap∧(∀b∈fp,Hc b=none)∧W i n ys τ Hc) ?_ m0 ⟨0,[],capt fr σ,H3,I4,st4,fun b hb=>(f3 b hb).1,w0⟩
  rintro n s5 ⟨i,ys,τ,Hc,I5,st5,fr5,w5⟩
  rcases turn i n ys τ Hc w5 with⟨stop,qn⟩ | ⟨go,hz,step⟩
  ·refine thn (T.done (jbh X N scope cl s3 H3 fp) rfl rfl rfl hc i [] s5 τ Hc (fun _ _=>False) I5 (stat fr5) st5 stop) fun r s6 ⟨hr,I6⟩=>?_
   subst hr
   obtain⟨mm,hm,_⟩:=I6.loc
   exact⟨mm,hm,fun h' hs'=>⟨.ref s2.heap.objs.size,Hc,jom I3 f3 I6 hs',rfl,qn⟩⟩
  ·refine thn (T.item (jbh X N scope cl s3 H3 fp) rfl rfl rfl hc i [] s5 τ Hc (fun _ _=>False) I5 (stat fr5) st5 go) fun r s6 ⟨u,hr,h6⟩=>?_
   subst hr
   refine thn h6 fun _ s7 ⟨x,H7,I7,r7,y7,st7,fr7⟩=>?_
   have I7':=I7.pinned (stat fr7) (T.obj _ _ st7)
   refine thn (hg s3 H3 fp _ s7 τ H7 x u _ I7' r7 (step x H7 y7)) fun _ s8 ⟨τ8,H8,I8,q8⟩=>?_
   refine thn (ht s3 H3 fp _ s8 τ8 H8 _ I8 q8) fun ok s9 ⟨H9,I9,q9⟩=>?_
   have keep:∀{st:Shared} {τ':St} {H':Hp},Inv (jbh X N scope cl s3 H3 fp) ([]++jjc fp s7.heap) τ' H' st→tn (i+1) st.heap∧∀b∈fp,H' b=none:=fun{st τ' H'} Ix=>by
    refine⟨T.keep _ _ _ st7 fun b hb o e=>(Ix.pin (b,o) (List.mem_append_right _ (List.mem_append_right _ (jdb hb e)))).1,fun b hb=>?_⟩
    obtain⟨o,e,d⟩:=T.obj _ _ st7 b hb
    exact(Ix.pin (b,o) (List.mem_append_right _ (List.mem_append_right _ (jdb hb e)))).2.1
   cases ok with
   |false =>
    rw[if_neg Bool.false_ne_true]at q9 ⊢
    obtain⟨m',hm,w9⟩:=q9
    obtain⟨k1,k2⟩:=keep I9
    exact⟨m',hm,i+1,ys,τ8,H9,I9.unpinned,k1,k2,w9⟩
   |true =>
    rw[if_pos rfl]at q9 ⊢
    refine thn (he s3 H3 fp _ s9 τ8 H9 _ I9 q9) fun xv s10 ⟨y,H10,I10,r10,hD,m',hm,w10⟩=>?_
    refine thn (jhi _ s10 τ8 H10 (.ref s2.heap.objs.size) [y] (.ref s2.heap.objs.size) [xv] (fun z H'=>∃m',m' < n∧W (i+1) m' (ys++[y]) τ8 H') I10 rfl (.cons r10 .nil) ⟨_,ys,y,rfl,rfl,hD,hz,m',hm,w10⟩) fun z s11 ⟨z',H11,I11,_,m'',hm',w11⟩=>?_
    obtain⟨k1,k2⟩:=keep I11
    exact⟨m'',hm',i+1,ys++[y],τ8,H11,I11.unpinned,k1,k2,w11⟩
 exact codeAny_compStart_list loop (T.self _ 0 _ _ _ st4 loop)
mutual
inductive RdD (K:PySem.W.Frag) (H:Hp):V→PyData→Prop
 |non:RdD K H .non .none
 |bl (b:Bool):RdD K H (.bl b) (.bool b)
 |int (i:Int):RdD K H (.int i) (.int i)
 |str (x:Str):RdD K H (.str x) (.str x)
 |lst {a:Addr} {xs:List V} {ds:List PyData}:SqL K H a xs→RdAll K H xs ds→RdD K H (.ref a) (.list ds)
 |tup {a:Addr} {xs:List V} {ds:List PyData}:SqT K H a xs→RdAll K H xs ds→RdD K H (.ref a) (.tuple ds)
inductive RdAll (K:PySem.W.Frag) (H:Hp):List V→List PyData→Prop
 |nil:RdAll K H [] []
 |cons {x:V} {xs:List V} {d:PyData} {ds:List PyData}:RdD K H x d→RdAll K H xs ds→RdAll K H (x::xs) (d::ds)
end
section
variable {X:Cx} {pins:List (Addr×Obj)} {σ:St} {H:Hp} {s:Shared}
mutual
theorem RdD.reads (I:Inv X pins σ H s):∀{v:V} {d:PyData} {u:Value},RdD X.K H v d→RelV v u→∃as,Reads s.heap u d as
 |_,_,u,.non,r=>by
  cases(show u=Value.none from r)
  exact⟨_,.none⟩
 |_,_,u,.bl b,r=>by
  cases(show u=Value.bool b from r)
  exact⟨_,.bool b⟩
 |_,_,u,.int i,r=>by
  obtain⟨t,rfl⟩:=(show ∃t,u=Value.int i t from r)
  exact⟨_,.int i t⟩
 |_,_,u,.str x,r=>by
  obtain⟨t,rfl⟩:=(show ∃t,u=Value.str x t from r)
  exact⟨_,.str x t⟩
 |_,_,u,.lst (a:=a) h1 h2,r=>by
  cases(show u=Value.ref a from r)
  obtain⟨its,rv,⟨o,n,e,c,_,d⟩,_⟩:=I.list h1
  obtain⟨as,ha⟩:=RdAll.reads I h2 rv
  exact⟨_,.list e c d (by simpa using ha)⟩
 |_,_,u,.tup (a:=a) h1 h2,r=>by
  cases(show u=Value.ref a from r)
  obtain⟨its,rv,⟨o,e,c,n,d⟩,_⟩:=I.tuple h1
  obtain⟨as,ha⟩:=RdAll.reads I h2 rv
  exact⟨_,.tuple e c d (by simpa using ha)⟩
theorem RdAll.reads (I:Inv X pins σ H s):∀{vs:List V} {ds:List PyData} {us:List Value},RdAll X.K H vs ds→Vals vs us→∃as,ReadsAll s.heap us ds as
 |_,_,_,.nil,.nil=>⟨_,.nil⟩
 |_,_,_,.cons h1 h2,.cons r1 r2=>by
  obtain⟨as,ha⟩:=RdD.reads I h1 r1
  obtain⟨bs,hb⟩:=RdAll.reads I h2 r2
  exact⟨_,.cons ha hb⟩
end
end
noncomputable def Small (d:PyData):Prop:=PyData.canLay0 d=true∧PyData.depth d≤20∧PyData.weight d≤2 ^ 20∧PyData.intsShort 13 d=true∧PyData.showable d=true
theorem Small.len {d:PyData} (h:Small d):d.shown.length≤sizeLine:=by
 have hl:PyData.layable0 d=true:=by
  unfold PyData.layable0
  rw[h.1,decide_eq_true (show PyData.depth d≤64 by have:=h.2.1;omega),decide_eq_true h.2.2.1]
  rfl
 have:=shown_le13 hl h.2.2.2.1
 rw[sizeLine_eq]
 omega
theorem Small.noDict {d:PyData} (h:Small d):d.hasDict=false:=PyData.hasDict_of_canLay d h.1
theorem jsl {X:Cx} (hg:X.A.guards=some []) (hu:X.A.units+64 < cLine):CallR X (.builtin "repr") (fun xs H Q=>∃a d,xs=[.ref a]∧RdD X.K H (.ref a) d∧Small d∧Q (.str d.shown) H):=by
 intro pins s σ H xs us Q I r h
 obtain⟨a,d,rfl,hd,hs,q⟩:=h
 obtain⟨u,rfl,ru⟩:=jia r
 cases(show u=Value.ref a from ru)
 obtain⟨as,hr⟩:=RdD.reads I hd (show RelV (.ref a) (Value.ref a)from rfl)
 have hdp:=hs.2.1
 refine repr_of_reads' hr hs.2.2.2.2 (PyData.noDict_hsm hs.noDict) hg (by omega) (fun _ _ e=>e) (fun h' u tk hk=>?_) hs.len
 exact⟨.str d.shown,H,I.kept hk,⟨u,rfl⟩,q⟩
noncomputable def jnw (K:PySem.W.Frag):R2:=fun x y H Q=>∃a b xs,x=.ref a∧y=.ref b∧SqL K H a xs∧SqL K H b []∧Q (.bl xs.isEmpty) H
theorem jty {X:Cx} (hu:X.A.units < cLine):OpR X (compareOp .Eq) (jnw X.K):=by
 intro pins s σ H x y v u Q I rx ry h
 obtain⟨a,b,xs,rfl,rfl,ha,hb,q⟩:=h
 cases(show v=Value.ref a from rx)
 cases(show u=Value.ref b from ry)
 obtain⟨its,r1,p1,_⟩:=I.list ha
 obtain⟨its2,r2,p2,_⟩:=I.list hb
 have e2:its2=[]:=Vals.zero r2
 subst e2
 cases r1 with
 |nil=>exact PySem.SeqAt.eq_listAt (e:=fun _=>true) p1.isList p2.isList rfl hu (fun j h1=>absurd h1 (by simp)) ⟨.bl true,H,I,(by rfl),q⟩
 |cons r1 r3=>exact PySem.SeqAt.eq_list_lengthsAt p1.isList p2.isList (by simp) hu ⟨.bl false,H,I,rfl,q⟩
theorem joo {X:Cx} {T:String}:CallR X (.builtin "isinstance") (fun xs H Q=>∃x t b,xs=[x,.ty T]∧TyOf X.K H x t∧PySem.W.kitOne X.K t (.type T)=some b∧Q (.bl b) H):=by
 intro pins s σ H xs us Q I r h
 obtain⟨x,t,b,rfl,ty,e,q⟩:=h
 obtain⟨u,u',rfl,ru,ru'⟩:=jwa r
 cases(show u'=Value.type T from ru')
 exact jrn I ru ty e fun tk=>⟨.bl b,H,I.tok tk,rfl,q⟩
section
variable {prog:Program} {w:World} {A:Around} {E:Value→Shared→Prop} {s:Shared}
theorem je1:entryFor table "dict.update.loop"=some Builtin.«dict.update.loop»:=entryFor_of_tree (by kernel_rfl)
theorem jcu:plainId "dict.update.loop"=true:=by decide +kernel
theorem jrh:typeLookup (.type "tuple") "keys"=pure none:=by rw[typeLookup_type,builtinLookup_eq_fast];kernel_rfl
theorem jo2 {a:Addr} {its:List Value} {Q:List Value→Shared→Prop} (p:IsTup s.heap a its.toArray) (h:Q its s):wpAny (model prog w) A (Builtin.Dict.pairItems (.ref a)) Q E s:=by
 obtain⟨o,ho,hc,n,hd⟩:=id p
 unfold Builtin.Dict.pairItems
 refine wpAny_bind (wpAny_typeOf (show s.TypeIs (.ref a) "tuple" from⟨o,ho,hc⟩) ?_)
 rw[if_pos (by decide)]
 refine wpAny_bind (wpAny_seqItems ho hd (wpAny_pure ?_))
 simpa using h
set_option maxRecDepth 8000 in
theorem jkk {a:Addr} {o:Obj} {xs:Array Value} {k:Nat} {name:Str} {Q:Option Value→Shared→Prop}
  (hx:s.heap.get? a=some o) (hc:o.cls=.type "tuple") (hdat:o.data=.seq xs k) (hd:o.dict=none) (hmiss:typeLookup (.type "tuple") name=pure none) (hname:(["__module__","__name__","__qualname__","__doc__","__annotations__"]:List Str).contains name=false) (hA:A.handled=none)
  (h:∀h' tk e,Heap.NewExcOf s.heap h' e "AttributeError"→Q none {s with heap:=h',toks:=tk}) (hsz:name.length+100≤sizeLine:=by size_fits) :
  wpAny (model prog w) A (getAttr? (.ref a) name) Q E s:=by
 obtain⟨c,dct,dat,sl⟩:=o
 simp only at hc hdat hd
 subst hc hdat hd
 obtain⟨hp,g,d,tk,os⟩:=s
 have hT:∀tk',(⟨hp,g,d,tk',os⟩:Shared).TypeIs (.ref a) "tuple":=fun _=>⟨_,hx,rfl⟩
 have f1:=sub_AttributeError
 have f3:=F.slot_tuple_getattribute.lookup
 have f4:=F.slot_tuple_getattribute.bind (.ref a)
 have f5:=am_tuple_getattr_none
 unfold getAttr? getAttrBy? getAttrBy
 repeat (any_goals (first | assumption | exact hT _ | ((with_reducible show wpAny _ _ (call (Value.builtin "tuple.__getattribute__") _ _) _ _ _);refine call_meets F.slot_tuple_getattribute (hT _) am_entry_tuple_getattribute (F.args_tuple_getattribute_2 _ _) (meets_getattribute_miss_tuple a xs k sl name _ hmiss hname hsz) ⟨hx,hA,fun h' tk' e hx'=>?_⟩) | wp_step))
 obtain⟨t',u',he⟩:=hx'.there
 show wpAny _ _ (getattributeRaised _ _ _ _ _ _ _) _ _ _
 unfold getattributeRaised
 repeat (any_goals (first | assumption | wp_step))
 exact h _ _ _ hx'.of
end
section
variable {X:Cx} {pins:List (Addr×Obj)} {σ:St} {A:Around} {R:Result→Shared→Prop}
theorem SqT.upd {K:PySem.W.Frag} {H:Hp} {a d:Addr} {xs:List V} {o:HO} (h:H a=some (.tup xs)) (hd:a≠d):(L2.upd H d o) a=some (.tup xs):=by rw[jal hd];exact h
theorem jsz (hA:A.handled=none) {src d it:Addr} (ps:List (Addr×Key×V)):∀(n i:Nat) (H:Hp) (s:Shared) (kvs:List (Key×V)),n+i=ps.length→Inv X pins σ H s→H d=some (.dK kvs)→kvs.length+n≤sizeLine →
  H src=some (.tup (ps.map fun p=>.ref p.1))→(∀p∈ps,H p.1=some (.tup [kV p.2.1,p.2.2]))→s.heap.IsTupleIter it src i→FpOk X pins H it →
  (∀H' s',Inv X pins σ H' s'→H'=L2.upd H d (.dK (jea kvs ((ps.drop i).map (·.2))))→R (.ok (.ret .none)) s') →
  codeAny (model X.prog X.w) A (.builtin "dict.update.loop" ⟨[.ref d,.ref it,rawInt i,.none],[]⟩) R s:=by
 intro n
 induction n with
 |zero =>
  intro i H s kvs hn I hd hz hs hp st f hR
  obtain⟨its,rv,p,_⟩:=I.tuple (SqT.of (K:=X.K) hs)
  obtain⟨f0,f1,f2,f3,f4,f5⟩:=f
  refine codeAny_builtin je1 ?_
  rw[Around.under_plainId jcu _]
  show wpAny _ _ (pyNext (.ref it)>>=_) _ _ s
  have hl:=rv.length
  rw[List.length_map]at hl
  refine wpAny_bind (wpAny_pyNext_tuple_end (A:=A.in1) hA st (show s.heap.IsTuple src its.toArray from p) (by simp;omega) fun h' eb=>?_)
  show wpAny _ _ (Builtin.Dict.addKeywords d []>>=_) _ _ _
  refine wpAny_bind (wpAny_pure (wpAny_pure ?_))
  refine hR H _ (I.turned (t':=s.toks) (fun b o hb e=>eb b o hb e) f0 f1 f3 f4 f5) ?_
  have e1:ps.drop i=[]:=List.drop_eq_nil_of_le (by omega)
  rw[e1]
  funext b
  unfold L2.upd
  split
  ·rename_i hb
   rw[hb,hd]
   rfl
  ·rfl
 |succ n ih =>
  intro i H s kvs hn I hd hz hs hp st f hR
  obtain⟨its,rv,p,_⟩:=I.tuple (SqT.of (K:=X.K) hs)
  obtain⟨f0,f1,f2,f3,f4,f5⟩:=id f
  have hi:i < ps.length:=by omega
  have hpi:(ps.map fun p=>V.ref p.1)[i]?=some (V.ref (ps[i]).1):=by simp[hi]
  obtain⟨u,hu,ru⟩:=rv.get hpi
  cases(show u=Value.ref (ps[i]).1 from ru)
  have hmem:ps[i]∈ps:=List.getElem_mem hi
  have hq:=hp _ hmem
  refine codeAny_builtin je1 ?_
  rw[Around.under_plainId jcu _]
  show wpAny _ _ (pyNext (.ref it)>>=_) _ _ s
  refine wpAny_bind (wpAny_pyNext_tuple_item st (show s.heap.IsTuple src its.toArray from p) (x:=Value.ref (ps[i]).1) (by simpa using hu) fun h1 st1 sb=>?_)
  have I1:Inv X pins σ H {s with heap:=h1}:=I.turned (t':=s.toks) (fun b o hb e=>(sb.2 b hb).trans e) f0 f1 f3 f4 f5
  obtain⟨its1,rv1,p1,_⟩:=I1.tuple (SqT.of (K:=X.K) hq)
  obtain⟨u1,u2,rfl,r1,r2⟩:=jwa rv1
  refine wpAny_bind (wpAny_holding ?_)
  refine wpAny_bind (wpAny_tryCatch (jo2 p1 ?_))
  obtain⟨z,hdS,vs,rel,dd⟩:=jxt I1.hok hd
  have hz1:vs.length≤sizeLine:=by rw[←rel.length];exact z
  have hl1:=jdg kvs (ps[i]).2.1 (ps[i]).2.2
  refine wpAny_holding (wpAny_dictSet_pairs (hsz:=hz1) (jlz r1) dd fun h2 dd2 hs2=>?_)
  have he2:∃q,h2.get? d=some q:=let⟨q,_,_,hq,_⟩:=dd2;⟨q,hq⟩
  have I2:=jkq (t':=s.toks+1) I1 (by rw[hd];exact True.intro) hs2 he2 (jr2 (by omega) hdS (rel.put (ps[i]).2.1 r2) dd2)
  have nd:∀b xs,H b=some (.tup xs)→b≠d:=fun b xs e z=>by rw[z,hd]at e;cases e
  have nit:it≠d:=fun z=>by rw[z,hd]at f0;cases f0
  have hc:((i:Int)+1)=((i+1:Nat):Int):=by push_cast;rfl
  show wpAny _ _ (pure (Fin.again (.builtin "dict.update.loop" ⟨[.ref d,.ref it,rawInt ((i:Int)+1),.none],[]⟩))) _ _ _
  refine wpAny_pure ⟨plainId_quiet jcu _,?_⟩
  rw[hc]
  refine ih (i+1) _ _ (putK kvs (ps[i]).2.1 (ps[i]).2.2) (by omega) I2 jan (by omega) (SqT.upd (K:=X.K) hs (nd _ _ hs)) (fun q hq'=>SqT.upd (K:=X.K) (hp q hq') (nd _ _ (hp q hq'))) (by
   obtain⟨o,e,r⟩:=st1
   exact⟨o,(hs2.2 it nit).trans e,r⟩) ⟨by rw[jal nit];exact f0,f1,f2,f3,f4,f5⟩ fun H' s' I' e=>?_
  refine hR H' s' I' ?_
  rw[e,jpr,List.drop_eq_getElem_cons hi]
  rfl
theorem jbc {n:Nat} (h:n≤1000):n≤sizeLine:=Nat.le_of_lt (jle h)
theorem jpi (hh:X.A.handled=none):CallR X (.type "dict") (fun xs H Q=>∃(src:Addr) (ps:List (Addr×Key×V)),xs=[.ref src]∧H src=some (.tup (ps.map fun p=>V.ref p.1))∧(∀p∈ps,H p.1=some (.tup [kV p.2.1,p.2.2]))∧ps.length≤1000 ∧
  ∀l,H l=none→Q (.ref l) (L2.upd H l (.dK (jea [] (ps.map (·.2)))))):=by
 intro pins s σ H xs us Q I r h
 obtain⟨src,ps,rfl,hs,hp,hlen,q⟩:=h
 obtain⟨u,rfl,ru⟩:=jia r
 cases(show u=Value.ref src from ru)
 have big:=I.big
 refine callType_codes (Q₁:=fun obj s₁=>obj=.ref s.heap.objs.size∧s₁={ s with heap:=s.heap.push {cls:=.type "dict",data:=.dict #[]}}) F.kt_called_dict (F.kt_typeCall_dict_1 _) F.entry_dict_init (kt_code_dict_new _ ⟨rfl,rfl⟩) ?_
 rintro obj s₁ ⟨rfl,rfl⟩
 have hfr:H s.heap.objs.size=none:=I.fresh
 have I1:Inv X pins σ (L2.upd H s.heap.objs.size (.dK [])) {s with heap:=s.heap.push {cls:=.type "dict",data:=.dict #[]}}:=I.laid (t':=s.toks) (fun b o e=>Heap.get?_push_of_some _ e) (Nat.le_refl _) (jko s.heap big)
 have nd:∀b xs,H b=some (.tup xs)→b≠s.heap.objs.size:=fun b xs e z=>by rw[z,hfr]at e;cases e
 have hs1:=SqT.upd (K:=X.K) (o:=.dK []) hs (nd _ _ hs)
 obtain⟨zz,its,rv,o,ho,hc,⟨n,hdat⟩,hd⟩:=(show ObjOk X.prog X.w _ _ src (.tup _)from I1.hok src _ hs1)
 have hnew:(s.heap.push {cls:=.type "dict",data:=.dict #[]}).DictOf (jbk X.prog X.w) s.heap.objs.size []:=Heap.DictOf.new s.heap
 refine⟨hnew.typeIs,F.args_dict_init_2 _ _,?_⟩
 unfold Builtin.«dict.__init__»
 refine wpAny_bind ?_
 unfold Builtin.Dict.selfAndRest
 refine wpAny_bind (wpAny_notOrdered_dict hnew.typeIs ?_)
 show wpAny _ _ (pure (s.heap.objs.size,[Value.ref src])) _ _ _
 refine wpAny_pure ?_
 show wpAny _ _ (Builtin.Dict.updateFrom "dict.__init__" s.heap.objs.size (.ref src) [] .none) _ _ _
 unfold Builtin.Dict.updateFrom
 refine wpAny_bind (wpAny_typeOf (T:="tuple") ⟨o,ho,hc⟩ ?_)
 rw[if_pos (by decide)]
 refine wpAny_bind (jkk ho hc hdat hd jrh (by decide +kernel) hh (fun h' tk e ne=>?_))
 have I2:=I1.kept (t':=tk) ne.keeps
 have p2:IsTup h' src its.toArray:=IsTup.keeps ⟨o,ho,hc,n,hdat⟩ ne.keeps
 show wpAny _ _ (rule _>>=_) _ _ _
 refine wpAny_bind (wpAny_rule ?_)
 refine wpAny_bind (wpAny_pyIter_tuple (show Heap.IsTuple h' src its.toArray from p2) ?_)
 refine wpAny_pure ⟨plainId_quiet jcu _,?_⟩
 have I3:=I2.kept (t':=tk) (fun b o e=>Heap.get?_push_of_some {cls:=.type "tuple_iterator",data:=.fields #[.ref src,.int 0 0]} e)
 refine jsz (A:=X.A.in1) hh ps ps.length 0 _ _ [] (by omega) I3 jan (by simp only[List.length_nil];exact jbc (by omega)) hs1 (fun q hq=>SqT.upd (K:=X.K) (hp q hq) (nd _ _ (hp q hq))) ⟨_,Heap.get?_push_size _ rfl,rfl,rfl⟩ (I2.fpOk (Nat.le_refl _) I2.fresh) fun H' s' I' e=>?_
 refine⟨rfl,.ref s.heap.objs.size,H',I',rfl,?_⟩
 rw[e,jpr]
 exact q _ hfr
end
theorem jq6 {X:Cx}:OpR X (compareOp .Gt) (fun x y H Q=>∃i j,x=.str i∧y=.str j∧Q (.bl (decide (j.cps.toList < i.cps.toList))) H):=by
 intro pins s σ H x y v u Q I rx ry h
 obtain⟨i,j,rfl,rfl,q⟩:=h
 obtain⟨t,rfl⟩:=rx
 obtain⟨t',rfl⟩:=ry
 exact P.gt_str (ja8 I q rfl)
noncomputable def tyD:PyData→String
 |.none=>"NoneType"
 |.bool _=>"bool"
 |.int _=>"int"
 |.str _=>"str"
 |.list _=>"list"
 |.tuple _=>"tuple"
 |.dict _=>"dict"
noncomputable def isiB (T:String) (d:PyData):Bool:=tyD d==T || (T=="int"&&tyD d=="bool")
noncomputable def ja2 (h:Str):PyData→Bool
 |.str x=>decide (x=h)
 |_=>false
theorem jja {X:Cx} {elt tg iter:Expr} {ifs:List Expr} {scope:Scope} {cl:List (Str×Addr)} {cpos pos pos':Pos} {N:List Str} {fr:List (Option Nat)} {wi:TI} {g:TG} {tt:TT} {te:TE} {i:Nat} {x:Str}
  (hN:X.N.Nodup) (hix:X.N[i]?=some x) (hx:X.env.scope.names.lookup x=some .local)
  (hc:X.calm=true) (S:CompSc X N scope cl fr) (hi:PI X tg iter wi) (hg:∀s H fp,PG (jbh X N scope cl s H fp) tg g) (ht:∀s H fp,PIf (jbh X N scope cl s H fp) ifs tt)
  (he:∀s H fp,PE (jbh X N scope cl s H fp) elt te) (hs:∀x,foldedSetIterable iter X.env x=pure x:=by intro _;rfl)
  (hsw:swapsWith (.ListComp elt [⟨tg,iter,ifs,0⟩] scope cpos) (some (.Name x pos')) pos.line X.env=pure true:=by rfl) :
  PS X (.Assign [.Name x pos'] (.ListComp elt [⟨tg,iter,ifs,0⟩] scope cpos) pos) (tAsg (jpw fr wi g tt te) (jgc i)):=by
 intro pins s σ H D I h
 rw[exec_Assign_Name_used _ _ _ _ hsw]
 refine wpAny_bind (wpAny_standAt (wpAny_bind ?_))
 show wpAny _ _ (do let _ ←comprehension (.ListComp elt [⟨tg,iter,ifs,0⟩] scope cpos) scope X.env (firstIterPos [⟨tg,iter,ifs,0⟩] cpos) (newList []) (firstAsync [⟨tg,iter,ifs,0⟩]) (firstIter [⟨tg,iter,ifs,0⟩] X.env) (some (assign (.Name x pos') X.env))) _ _ s
 refine wpAny_bind ?_
 have fin:∀(u:Unit) (s':Shared),SP X pins D .next s'→wpAny (model X.prog X.w) X.A (pure Flow.next) (SP X pins D) X.xe s':=fun _ s' z=>wpAny_pure z
 refine thn (Q:=fun _ s'=>SP X pins D .next s') ?_ fun _ s' z=>wpAny_pure (wpAny_pure z)
 refine wpAny_comprehension_free (use:=some (assign (.Name x pos') X.env)) (cl:=cl) rfl hs S.clos S.kind S.names (thn (hi pins s σ H _ I h) fun v s1 h1=>thn h1 fun itv s2 h2=>?_)
 obtain⟨it,fp,tn,J,H2,e,I2,T,st2,f2,q⟩:=h2
 subst e
 refine wpAny_newObj_type (wpAny_newFunctionEnv S.nocell (by intro y hy;simp at hy) (fun h₁ hn hsb=>?_) S.kind)
 dsimp only at hn hsb ⊢
 obtain⟨W,⟨m0,w0⟩,turn⟩:=q s2.heap.objs.size I2.fresh
 -- the state with the new list
 have I3:Inv X pins σ (upd H2 s2.heap.objs.size (.lst [])) {s2 with heap:=s2.heap.push {cls:=.type "list",dict:=none,data:=.seq ([]:List Value).toArray}}:=I2.lnew (its:=[]) (t':=s2.toks) .nil (Nat.zero_le _)
 have key:∀s3:Shared,s3={ s2 with heap:=s2.heap.push {cls:=.type "list",dict:=none,data:=.seq ([]:List Value).toArray}}→Inv X pins σ (upd H2 s2.heap.objs.size (.lst [])) s3 →
   ∀(ob:Obj) (mm:Str→Option Value),Heap.SameBut s3.heap.objs.size (s3.heap.push ob) h₁→h₁.Ns s3.heap.objs.size mm →
   codeAny (model X.prog X.w) X.A (.compStart (.ListComp elt [⟨tg,iter,ifs,0⟩] scope cpos) 0 (.ref it) (.ref s2.heap.objs.size) (compEnvC scope cl s3.heap.objs.size X.env))
    (compPost (model X.prog X.w) X.A X.xe (some (assign (.Name x pos') X.env)) (fun _ s'=>SP X pins D .next s') (.ref s2.heap.objs.size) s3.heap.objs.size) {s3 with heap:=h₁,toks:=s3.toks+([]:List (Str×Value)).length}:=?key
 ·exact key _ rfl I3 _ _ hsb hn
 clear I3 hn hsb
 intro s3 hs3 I3 ob mm hsb hn
 have hfp:∀b∈fp,∃o,s2.heap.get? b=some o:=fun b hb=>let⟨o,e,_⟩:=T.obj _ _ st2 b hb;⟨o,e⟩
 have up:∀b o,s2.heap.get? b=some o→s3.heap.get? b=some o:=fun b o e=>by rw[hs3];exact Heap.get?_push_of_some _ e
 have f3:∀b∈fp,FpOk X pins (upd H2 s2.heap.objs.size (.lst [])) b:=fun b hb=>by
  obtain⟨o,e⟩:=hfp b hb
  obtain⟨g0,gr⟩:=f2 b hb
  exact⟨by rw[jal (Nat.ne_of_lt (Heap.lt_size e))];exact g0,gr⟩
 have hlt:∀b∈fp,b < s3.heap.objs.size:=fun b hb=>let⟨o,e⟩:=hfp b hb;Heap.lt_size (up b o e)
 generalize hH3:upd H2 s2.heap.objs.size (.lst [])=H3 at I3 f3 w0
 have I4:=jjr (t':=s3.toks+([]:List (Str×Value)).length) S I3 f3 hlt hsb hn
 have st4:tn 0 h₁:=T.keep _ _ _ st2 fun b hb o e=>(hsb.2 b (Nat.ne_of_lt (Heap.lt_size (up b o e)))).trans (Heap.get?_push_of_some _ (up b o e))
 have stat:∀{H':Hp},(∀b∈fp,H' b=none)→∀b∈fp,FpOk (jbh X N scope cl s3 H3 fp) [] H' b:=fun hn b hb=>by
  obtain⟨_,k1,k2,k3,k4,k5⟩:=f3 b hb
  refine⟨hn b hb,Nat.ne_of_lt (hlt b hb),fun z=>?_,.inl hb,fun x c e=>k4 x c (S.sub x c e),fun p hp=>absurd hp (by simp[jbh])⟩
  rcases List.mem_cons.mp (I3.stkSub b z)with e | e
  ·exact k1 e
  ·exact k2 e
 have loop:codeAny (model X.prog X.w) X.A (.compLoop (.ListComp elt [⟨tg,iter,ifs,0⟩] scope cpos) 0 (.ref it) (.ref s2.heap.objs.size) (compEnvC scope cl s3.heap.objs.size X.env))
   (compPost (model X.prog X.w) X.A X.xe (some (assign (.Name x pos') X.env)) (fun _ s'=>SP X pins D .next s') (.ref s2.heap.objs.size) s3.heap.objs.size) {s3 with heap:=h₁,toks:=s3.toks+([]:List (Str×Value)).length}:=by
  refine jgt (fun n s'=>∃i ys τ Hc,Inv (jbh X N scope cl s3 H3 fp) [] τ Hc s'∧tn i s'.heap∧(∀b∈fp,Hc b=none)∧W i n ys τ Hc) ?_ m0 ⟨0,[],capt fr σ,H3,I4,st4,fun b hb=>(f3 b hb).1,w0⟩
  rintro n s5 ⟨i,ys,τ,Hc,I5,st5,fr5,w5⟩
  rcases turn i n ys τ Hc w5 with⟨stop,qn⟩ | ⟨go,hz,step⟩
  ·refine thn (T.done (jbh X N scope cl s3 H3 fp) rfl rfl rfl hc i [] s5 τ Hc (fun _ _=>False) I5 (stat fr5) st5 stop) fun r s6 ⟨hr,I6⟩=>?_
   subst hr
   obtain⟨mm,hm,_⟩:=I6.loc
   have I6x:Inv X pins σ Hc s6:=jom I3 f3 I6 (Heap.SameBut.refl _ _)
   have hC:Hc s3.heap.objs.size=none:=I6.free
   obtain⟨_,c1,_,c3,c4,c5⟩:=I3.fpOk (H':=Hc) (Nat.le_refl _) hC
   show wpAny (model X.prog X.w) X.A (assign (.Name x pos') X.env (.ref s2.heap.objs.size)) _ X.xe s6
   refine wpAny_assign_Name (jlb I6x hN hix (.inl hx) (show RelV (.ref s2.heap.objs.size) (Value.ref s2.heap.objs.size)from rfl) (fun s7 I7 hsb=>?_) (.inr hx))
   obtain⟨ad,hsb,had⟩:=hsb
   have hne:s3.heap.objs.size≠ad:=by
    rcases had with z | z
    ·rw[z];exact c1
    ·exact fun q=>c4 x ad z q.symm
   obtain⟨oo,es,ep,ho,rr⟩:=hm
   refine⟨mm,⟨oo,es,ep,(hsb.2 _ hne).trans ho,rr⟩,fun h' hs'=>⟨_,Hc,?_,qn⟩⟩
   have ne:∀b,b∉[s3.heap.objs.size]→b≠s3.heap.objs.size:=fun b z q=>z (by rw[q];exact List.mem_singleton.mpr rfl)
   have hok':HOk X.prog X.w Hc h':=fun b o e=>by
    refine(I7.hok b o e).stay (fun c v hc z=>(hs'.2 c ?_).trans z) (fun _ z=>z) fun _ _ z=>z
    rintro rfl
    rcases hc with z | z
    ·rw[←z,hC]at e;cases e
    ·rw[hC]at z;cases z
   refine I7.call' (s':={ s7 with heap:=h'}) (ch:=[s3.heap.objs.size]) rfl ?_ hok' I7.bare fun b hb=>?_
   ·exact⟨fun b o e n h1 h2=>(hs'.2 b (ne b h2)).trans e,fun b o e n h1 h2=>⟨o.slots,(hs'.2 b (ne b h2)).trans e⟩,fun b o e n h2=>n,fun b o e h2=>⟨o,(hs'.2 b (ne b h2)).trans e⟩,fun _ _ z=>z,fun _ _ _ z=>z,fun b ps z=>⟨#[],by rw[Array.append_empty];exact z⟩⟩
   ·cases List.mem_singleton.mp hb
    exact⟨c3,c1,c4,c5⟩
  ·refine thn (T.item (jbh X N scope cl s3 H3 fp) rfl rfl rfl hc i [] s5 τ Hc (fun _ _=>False) I5 (stat fr5) st5 go) fun r s6 ⟨u,hr,h6⟩=>?_
   subst hr
   refine thn h6 fun _ s7 ⟨x,H7,I7,r7,y7,st7,fr7⟩=>?_
   have I7':=I7.pinned (stat fr7) (T.obj _ _ st7)
   refine thn (hg s3 H3 fp _ s7 τ H7 x u _ I7' r7 (step x H7 y7)) fun _ s8 ⟨τ8,H8,I8,q8⟩=>?_
   refine thn (ht s3 H3 fp _ s8 τ8 H8 _ I8 q8) fun ok s9 ⟨H9,I9,q9⟩=>?_
   have keep:∀{st:Shared} {τ':St} {H':Hp},Inv (jbh X N scope cl s3 H3 fp) ([]++jjc fp s7.heap) τ' H' st→tn (i+1) st.heap∧∀b∈fp,H' b=none:=fun{st τ' H'} Ix=>by
    refine⟨T.keep _ _ _ st7 fun b hb o e=>(Ix.pin (b,o) (List.mem_append_right _ (List.mem_append_right _ (jdb hb e)))).1,fun b hb=>?_⟩
    obtain⟨o,e,d⟩:=T.obj _ _ st7 b hb
    exact(Ix.pin (b,o) (List.mem_append_right _ (List.mem_append_right _ (jdb hb e)))).2.1
   cases ok with
   |false =>
    rw[if_neg Bool.false_ne_true]at q9 ⊢
    obtain⟨m',hm,w9⟩:=q9
    obtain⟨k1,k2⟩:=keep I9
    exact⟨m',hm,i+1,ys,τ8,H9,I9.unpinned,k1,k2,w9⟩
   |true =>
    rw[if_pos rfl]at q9 ⊢
    refine thn (he s3 H3 fp _ s9 τ8 H9 _ I9 q9) fun xv s10 ⟨y,H10,I10,r10,hD,m',hm,w10⟩=>?_
    refine thn (jhi _ s10 τ8 H10 (.ref s2.heap.objs.size) [y] (.ref s2.heap.objs.size) [xv] (fun z H'=>∃m',m' < n∧W (i+1) m' (ys++[y]) τ8 H') I10 rfl (.cons r10 .nil) ⟨_,ys,y,rfl,rfl,hD,hz,m',hm,w10⟩) fun z s11 ⟨z',H11,I11,_,m'',hm',w11⟩=>?_
    obtain⟨k1,k2⟩:=keep I11
    exact⟨m'',hm',i+1,ys++[y],τ8,H11,I11.unpinned,k1,k2,w11⟩
 exact codeAny_compStart_list loop (T.self _ 0 _ _ _ st4 loop)
end L2
set_option Elab.async false
set_option maxRecDepth 100000
namespace Nb
open PySem L2
noncomputable def Kp (t:Addr) (H H':Hp):Prop:=∀b o,H b=some o→b≠t→H' b=some o
theorem Kp.refl (t:Addr) (H:Hp):Kp t H H:=fun _ _ h _=>h
theorem Kp.trans {t:Addr} {H H1 H2:Hp} (a:Kp t H H1) (b:Kp t H1 H2):Kp t H H2:=fun c o h n=>b c o (a c o h n) n
theorem Kp.new {t p:Addr} {H:Hp} {o:HO} (h:H p=none):Kp t H (upd H p o):=fun c o' e _=>by
 rw[jal (jai e h)]
 exact e
theorem Kp.tape {t:Addr} {H:Hp} {o:HO}:Kp t H (upd H t o):=fun c o' e n=>by
 rw[jal n]
 exact e
structure TL where
 s:Addr
 g:Addr
noncomputable def exOf (l:TL):List V:=if jpu=true then[.ref l.g]else[]
structure Tp (H:Hp) (t:Addr) (l:TL) (ns:List Int) (n:Int):Prop where
 ob:∃a b:Int,H t=some (.lst (.ref l.s::.int a::.int b::exOf l))∧0≤a∧a≤n
 ls:H l.s=some (.lst (ns.map V.int))
 len:ns.length≤63
 ag:jpu=true→H l.g=some (.lst jux)
 gne:l.g≠t
theorem Tp.ne {H:Hp} {t:Addr} {l:TL} {ns:List Int} {n:Int} (T:Tp H t l ns n):t≠l.s:=by
 obtain⟨a,b,h,_⟩:=T.ob
 refine jzp h T.ls fun z=>?_
 have z':(.ref l.s::.int a::.int b::exOf l:List V)=ns.map V.int:=HO.lst.inj z
 cases ns with
 |nil=>cases z'
 |cons m r =>
  rw[List.map_cons]at z'
  have:=(List.cons.inj z').1
  cases this
theorem Tp.other {H:Hp} {t p:Addr} {l:TL} {ns:List Int} {n:Int} {o:HO} (T:Tp H t l ns n) (h1:t≠p) (h2:l.s≠p) (h3:jpu=true→l.g≠p):Tp (upd H p o) t l ns n:=by
 obtain⟨a,b,e,h⟩:=T.ob
 exact⟨⟨a,b,by rw[jal h1];exact e,h⟩,by rw[jal h2];exact T.ls,T.len,fun z=>by rw[jal (h3 z)];exact T.ag z,T.gne⟩
theorem Tp.new {H:Hp} {t p:Addr} {l:TL} {ns:List Int} {n:Int} {o:HO} (T:Tp H t l ns n) (h:H p=none):Tp (upd H p o) t l ns n:=by
 obtain⟨a,b,e,_⟩:=T.ob
 exact T.other (jai e h) (jai T.ls h) fun z=>jai (T.ag z) h
theorem jx5 {xs:List V} {r:Int} (h0:0≤r) (h1:r < xs.length):∃v,atI xs r=some v∧v∈xs:=by
 obtain⟨j,rfl⟩:=Int.eq_ofNat_of_zero_le h0
 have hj:j < xs.length:=by omega
 exact⟨xs[j],jby (List.getElem?_eq_getElem hj),List.getElem_mem hj⟩
theorem jqi {n:Nat} (h:n≤1000):n≤sizeLine:=Nat.le_of_lt (jle h)
theorem jb9:bootBuiltins "tuple"=some (.type "tuple"):=by decide +kernel
theorem j0x:bootBuiltins "int"=some (.type "int"):=by decide +kernel
theorem jv1:bootBuiltins "str"=some (.type "str"):=by decide +kernel
theorem jkt:bootBuiltins "repr"=some (.builtin "repr"):=by decide +kernel
theorem jv2:bootBuiltins "isinstance"=some (.builtin "isinstance"):=by decide +kernel
theorem jsn:bootBuiltins "list"=some (.type "list"):=by decide +kernel
theorem j1t {xs:List V} (h:xs.length≤63):cutV xs none (some 63)=xs:=by
 unfold cutV
 have e1:HT.sIx xs.length 0 none=0:=rfl
 have e2:HT.sIx xs.length xs.length (some 63)=xs.length:=by
  have e:=HT.sIx_nat xs.length xs.length 63
  rw[show((63:Nat):Int)=63 from rfl]at e
  rw[e]
  omega
 rw[e1,e2,List.drop_zero,Nat.sub_zero,List.take_length]
noncomputable def jnr (K:PySem.W.Frag):Sp:=fun vs H Q _=>∃(a:Addr) (ns:List Int),vs=[.ref a]∧SqL K H a (ns.map V.int)∧ns.length≤63 ∧
 ∀(t:Addr) (l:TL) (H':Hp),Tp H' t l ns 0→(∀b o,H b=some o→H' b=some o)→Q (.ref t) H'
noncomputable def ju6:Sp:=fun vs H Q _=>∃(t:Addr) (l:TL) (ns:List Int) (n many:Int),vs=[.ref t,.int many]∧Tp H t l ns n∧n < 2 ^ 40∧0 < many∧many < 1073741824 ∧
 ∀(r:Int) (H':Hp),0≤r→r < many→Tp H' t l ns (n+1)→Kp t H H'→Q (.int r) H'
end Nb
namespace DL
open PySem L2 Nb
noncomputable abbrev D:=PyData
mutual
inductive RdX (H:Hp) (B:Addr→Prop):V→PyData→Prop
 |non:RdX H B .non .none
 |bl (b:Bool):RdX H B (.bl b) (.bool b)
 |int (i:Int):RdX H B (.int i) (.int i)
 |str (x:Str) (h:x.length≤sizeLine):RdX H B (.str x) (.str x)
 |lst {a:Addr} {xs:List V} {ds:List PyData}:H a=some (.lst xs)→¬B a→xs.length≤sizeLine→RdXs H B xs ds→RdX H B (.ref a) (.list ds)
 |tup {a:Addr} {xs:List V} {ds:List PyData}:H a=some (.tup xs)→¬B a→xs.length≤sizeLine→RdXs H B xs ds→RdX H B (.ref a) (.tuple ds)
inductive RdXs (H:Hp) (B:Addr→Prop):List V→List PyData→Prop
 |nil:RdXs H B [] []
 |cons {x:V} {xs:List V} {d:PyData} {ds:List PyData}:RdX H B x d→RdXs H B xs ds→RdXs H B (x::xs) (d::ds)
end
mutual
theorem RdX.move {H H':Hp} {B B':Addr→Prop} (k:∀b o,H b=some o→¬B b→H' b=some o∧¬B' b):∀{v:V} {d:PyData},RdX H B v d→RdX H' B' v d
 |_,_,.non=>.non
 |_,_,.bl b=>.bl b
 |_,_,.int i=>.int i
 |_,_,.str x h=>.str x h
 |_,_,.lst h1 h2 h3 h4=>.lst (k _ _ h1 h2).1 (k _ _ h1 h2).2 h3 (RdXs.move k h4)
 |_,_,.tup h1 h2 h3 h4=>.tup (k _ _ h1 h2).1 (k _ _ h1 h2).2 h3 (RdXs.move k h4)
theorem RdXs.move {H H':Hp} {B B':Addr→Prop} (k:∀b o,H b=some o→¬B b→H' b=some o∧¬B' b):∀{vs:List V} {ds:List PyData},RdXs H B vs ds→RdXs H' B' vs ds
 |_,_,.nil=>.nil
 |_,_,.cons h1 h2=>.cons (RdX.move k h1) (RdXs.move k h2)
end
section
variable {H H':Hp} {B B':Addr→Prop} {v:V} {d:PyData} {vs ws:List V} {ds es:List PyData} {t:Addr}
theorem RdX.kp (k:Kp t H H') (ht:B t) (h:RdX H B v d):RdX H' B v d:=h.move fun b o e n=>⟨k b o e fun z=>n (z▸ht),n⟩
theorem RdXs.kp (k:Kp t H H') (ht:B t) (h:RdXs H B vs ds):RdXs H' B vs ds:=h.move fun b o e n=>⟨k b o e fun z=>n (z▸ht),n⟩
theorem RdX.less (k:∀b,B' b→B b) (h:RdX H B v d):RdX H B' v d:=h.move fun b o e n=>⟨e,fun z=>n (k b z)⟩
theorem RdXs.less (k:∀b,B' b→B b) (h:RdXs H B vs ds):RdXs H B' vs ds:=h.move fun b o e n=>⟨e,fun z=>n (k b z)⟩
theorem RdXs.keep (k:∀b o,H b=some o→¬B b→H' b=some o) (h:RdXs H B vs ds):RdXs H' B vs ds:=h.move fun b o e n=>⟨k b o e n,n⟩
theorem RdXs.len:∀{vs:List V} {ds:List PyData},RdXs H B vs ds→vs.length=ds.length
 |_,_,.nil=>rfl
 |_,_,.cons _ t=>by rw[List.length_cons,List.length_cons,RdXs.len t]
theorem RdXs.get:∀{vs:List V} {ds:List PyData} {i:Nat} {v:V},RdXs H B vs ds→vs[i]?=some v→∃d,ds[i]?=some d∧RdX H B v d
 |_,_,_,_,.nil,e=>by simp at e
 |_,_,0,_,.cons h _,e=>by
  simp at e
  subst e
  exact⟨_,rfl,h⟩
 |_,_,i+1,v,.cons _ t,e=>by
  obtain⟨d,h1,h2⟩:=RdXs.get (i:=i) (v:=v) t (by simpa using e)
  exact⟨d,by simpa using h1,h2⟩
theorem RdXs.getD:∀{vs:List V} {ds:List PyData} {i:Nat} {d:PyData},RdXs H B vs ds→ds[i]?=some d→∃v,vs[i]?=some v∧RdX H B v d
 |_,_,_,_,.nil,e=>by simp at e
 |_,_,0,_,.cons h _,e=>by
  simp at e
  subst e
  exact⟨_,rfl,h⟩
 |_,_,i+1,d,.cons _ t,e=>by
  obtain⟨v,h1,h2⟩:=RdXs.getD (i:=i) (d:=d) t (by simpa using e)
  exact⟨v,by simpa using h1,h2⟩
theorem RdXs.append:∀{vs ws:List V} {ds es:List PyData},RdXs H B vs ds→RdXs H B ws es→RdXs H B (vs++ws) (ds++es)
 |_,_,_,_,.nil,h=>h
 |_,_,_,_,.cons h1 h2,h=>.cons h1 (RdXs.append h2 h)
theorem RdXs.set:∀{vs:List V} {ds:List PyData} (i:Nat) {v:V} {d:PyData},RdXs H B vs ds→RdX H B v d→RdXs H B (vs.set i v) (ds.set i d)
 |_,_,_,_,_,.nil,_=>.nil
 |_,_,0,_,_,.cons _ t,h=>.cons h t
 |_,_,i+1,_,_,.cons q t,h=>.cons q (RdXs.set i t h)
theorem RdXs.take:∀{vs:List V} {ds:List PyData} (n:Nat),RdXs H B vs ds→RdXs H B (vs.take n) (ds.take n)
 |_,_,0,_=>.nil
 |_,_,_+1,.nil=>.nil
 |_,_,n+1,.cons r t=>.cons r (RdXs.take n t)
theorem RdXs.drop:∀{vs:List V} {ds:List PyData} (n:Nat),RdXs H B vs ds→RdXs H B (vs.drop n) (ds.drop n)
 |_,_,0,r=>r
 |_,_,_+1,.nil=>.nil
 |_,_,n+1,.cons _ t=>RdXs.drop n t
end
mutual
theorem RdX.rd {K:PySem.W.Frag} {H:Hp} {B:Addr→Prop}:∀{v:V} {d:PyData},RdX H B v d→RdD K H v d
 |_,_,.non=>.non
 |_,_,.bl b=>.bl b
 |_,_,.int i=>.int i
 |_,_,.str x h=>.str x
 |_,_,.lst h1 h2 h3 h4=>.lst (SqL.of h1) (RdXs.rd h4)
 |_,_,.tup h1 h2 h3 h4=>.tup (SqT.of h1) (RdXs.rd h4)
theorem RdXs.rd {K:PySem.W.Frag} {H:Hp} {B:Addr→Prop}:∀{vs:List V} {ds:List PyData},RdXs H B vs ds→RdAll K H vs ds
 |_,_,.nil=>.nil
 |_,_,.cons h1 h2=>.cons (RdX.rd h1) (RdXs.rd h2)
end
inductive Wv where
 |d (x:PyData) | tp | dk (kvs:List (Key×PyData)) | ln (ds:List PyData) | ob (o:Option PyData)
noncomputable def Wv.lent:Wv→Bool
 |.dk _=>true
 |.ln _=>true
 |_=>false
inductive SV where
 |w (x:Wv) | own (ds:List PyData) | odk (kvs:List (Key×PyData)) | odt (kvs:List (List Key×PyData))
noncomputable abbrev Sl:=List (Option SV)
noncomputable def RdK (H:Hp) (B:Addr→Prop):List (Key×V)→List (Key×PyData)→Prop:=Paired fun p q=>p.1=q.1∧RdX H B p.2 q.2
theorem RdK.move {H H':Hp} {B B':Addr→Prop} (k:∀b o,H b=some o→¬B b→H' b=some o∧¬B' b) {l:List (Key×V)} {m:List (Key×PyData)} (h:RdK H B l m):RdK H' B' l m :=
 Paired.mapP h fun _ _ z=>⟨z.1,z.2.move k⟩
noncomputable def RdT (H:Hp) (B:Addr→Prop):List (List Key×V)→List (List Key×PyData)→Prop:=Paired fun p q=>p.1=q.1∧RdX H B p.2 q.2
theorem RdT.move {H H':Hp} {B B':Addr→Prop} (k:∀b o,H b=some o→¬B b→H' b=some o∧¬B' b) {l:List (List Key×V)} {m:List (List Key×PyData)} (h:RdT H B l m):RdT H' B' l m :=
 Paired.mapP h fun _ _ z=>⟨z.1,z.2.move k⟩
noncomputable def WRel (H:Hp) (B:Addr→Prop) (t:Addr) (v:V):Wv→Prop
 |.d x=>RdX H B v x
 |.tp=>v=.ref t
 |.dk kvs=>∃a l,v=.ref a∧H a=some (.dK l)∧a≠t∧RdK H B l kvs
 |.ln ds=>∃a xs,v=.ref a∧H a=some (.lst xs)∧a≠t∧xs.length≤sizeLine∧RdXs H B xs ds
 |.ob none=>∃a,v=.ref a
 |.ob (some d)=>∃a x y,v=.ref a∧H a=some (.tup [x,y])∧¬B a∧RdX H B x d
noncomputable def SRel (H0:Hp) (H:Hp) (B:Addr→Prop) (t:Addr) (v:V):SV→Prop
 |.w x=>WRel H B t v x∧(x.lent=true→∃a,v=.ref a∧H0 a≠none)
 |.own ds=>∃a xs,v=.ref a∧H a=some (.lst xs)∧B a∧H0 a=none∧xs.length≤sizeLine∧RdXs H B xs ds
 |.odk kvs=>∃a l,v=.ref a∧H a=some (.dK l)∧B a∧H0 a=none∧l.length≤1000∧RdK H B l kvs
 |.odt kvs=>∃a l,v=.ref a∧H a=some (.dT l)∧B a∧H0 a=none∧l.length≤1000∧RdT H B l kvs
noncomputable def SV.isOwn:SV→Bool
 |.w _=>false
 |_=>true
structure Ctx where
 t:Addr
 l:TL
 ns:List Int
 H0:Hp
 B0:Addr→Prop
 fz:Hp
structure Rel (C:Ctx) (H:Hp) (B:Addr→Prop) (σ:St) (δ:Sl) (n:Int):Prop where
 tp:Tp H C.t C.l C.ns n
 kp:Kp C.t C.H0 H
 t0:C.H0 C.t≠none
 l0:C.H0 C.l.s≠none
 g0:jpu=true→C.H0 C.l.g≠none
 fz:∀b o,C.fz b=some o→H b=some o∧¬B b
 bt:B C.t
 b0:∀b,C.B0 b→B b
 ba:∀b,B b→H b≠none
 a0:∀b,C.B0 b→C.H0 b≠none
 sl:∀(i:Nat) (x:SV),δ[i]?=some (some x)→∃v,σ[i]?=some (some v)∧SRel C.H0 H B C.t v x
 ow:∀(i j:Nat) (x y:SV) (v:V),δ[i]?=some (some x)→δ[j]?=some (some y)→x.isOwn=true→y.isOwn=true→σ[i]?=some (some v)→σ[j]?=some (some v)→i=j
 len:σ.length=δ.length
theorem WRel.kp {H H':Hp} {B:Addr→Prop} {t:Addr} {v:V} {x:Wv} (k:Kp t H H') (ht:B t) (h:WRel H B t v x):WRel H' B t v x:=by
 cases x with
 |d x=>exact RdX.kp k ht h
 |tp=>exact h
 |dk kvs =>
  obtain⟨a,l,e,h1,h2,h3⟩:=h
  exact⟨a,l,e,k _ _ h1 h2,h2,h3.move fun b o e n=>⟨k b o e fun z=>n (z▸ht),n⟩⟩
 |ln ds =>
  obtain⟨a,l,e,h1,h2,h3,h4⟩:=h
  exact⟨a,l,e,k _ _ h1 h2,h2,h3,h4.kp k ht⟩
 |ob o =>
  cases o with
  |none=>exact h
  |some d =>
   obtain⟨a,x,y,e,h1,h2,h3⟩:=h
   exact⟨a,x,y,e,k _ _ h1 fun z=>h2 (z▸ht),h2,h3.kp k ht⟩
theorem WRel.less {H:Hp} {B B':Addr→Prop} {t:Addr} {v:V} {x:Wv} (k:∀b,B' b→B b) (h:WRel H B t v x):WRel H B' t v x:=by
 cases x with
 |d x=>exact RdX.less k h
 |tp=>exact h
 |dk kvs =>
  obtain⟨a,l,e,h1,h2,h3⟩:=h
  exact⟨a,l,e,h1,h2,h3.move fun b o e n=>⟨e,fun z=>n (k b z)⟩⟩
 |ln ds =>
  obtain⟨a,l,e,h1,h2,h3,h4⟩:=h
  exact⟨a,l,e,h1,h2,h3,h4.less k⟩
 |ob o =>
  cases o with
  |none=>exact h
  |some d =>
   obtain⟨a,x,y,e,h1,h2,h3⟩:=h
   exact⟨a,x,y,e,h1,fun z=>h2 (k a z),h3.less k⟩
theorem SRel.kp {H0 H H':Hp} {B:Addr→Prop} {t:Addr} {v:V} {x:SV} (k:Kp t H H') (ht:B t) (t0:H0 t≠none) (h:SRel H0 H B t v x):SRel H0 H' B t v x:=by
 cases x with
 |w x=>exact⟨h.1.kp k ht,h.2⟩
 |own ds =>
  obtain⟨a,xs,e,h1,h2,h3,h4,h5⟩:=h
  exact⟨a,xs,e,k _ _ h1 (fun z=>t0 (z▸h3)),h2,h3,h4,h5.kp k ht⟩
 |odk kvs =>
  obtain⟨a,l,e,h1,h2,h3,h4,h5⟩:=h
  exact⟨a,l,e,k _ _ h1 (fun z=>t0 (z▸h3)),h2,h3,h4,h5.move fun b o e n=>⟨k b o e fun z=>n (z▸ht),n⟩⟩
 |odt kvs =>
  obtain⟨a,l,e,h1,h2,h3,h4,h5⟩:=h
  exact⟨a,l,e,k _ _ h1 (fun z=>t0 (z▸h3)),h2,h3,h4,h5.move fun b o e n=>⟨k b o e fun z=>n (z▸ht),n⟩⟩
theorem Rel.step {C:Ctx} {H H':Hp} {B:Addr→Prop} {σ:St} {δ:Sl} {n n':Int} (R:Rel C H B σ δ n) (T:Tp H' C.t C.l C.ns n') (k:Kp C.t H H'):Rel C H' B σ δ n' where
 tp:=T
 kp:=R.kp.trans k
 t0:=R.t0
 l0:=R.l0
 g0:=R.g0
 fz:=fun b o e=>⟨k b o (R.fz b o e).1 fun z=>(R.fz b o e).2 (z▸R.bt),(R.fz b o e).2⟩
 bt:=R.bt
 b0:=R.b0
 ba:=fun b hb e=>by
  by_cases z:b=C.t
  ·subst z
   obtain⟨x,y,h,_⟩:=T.ob
   rw[h]at e
   cases e
  ·cases q:H b with
   |none=>exact R.ba b hb q
   |some o=>rw[k b o q z]at e;cases e
 a0:=R.a0
 sl:=fun i x e=>by
  obtain⟨v,h1,h2⟩:=R.sl i x e
  exact⟨v,h1,h2.kp k R.bt R.t0⟩
 ow:=R.ow
 len:=R.len
theorem Rel.new {C:Ctx} {H:Hp} {B:Addr→Prop} {σ:St} {δ:Sl} {n:Int} {p:Addr} {o:HO} (R:Rel C H B σ δ n) (h:H p=none):Rel C (upd H p o) B σ δ n:=R.step (R.tp.new h) (Kp.new h)
theorem Rel.nb {C:Ctx} {H:Hp} {B:Addr→Prop} {σ:St} {δ:Sl} {n:Int} {p:Addr} (R:Rel C H B σ δ n) (h:H p=none):¬B p:=fun z=>R.ba p z h
theorem jaw {α:Type} {l:List (Option α)} {i j:Nat} {x y:α} (h:(l.set i (some x))[j]?=some (some y)):(j=i∧y=x)∨(j≠i∧l[j]?=some (some y)):=by
 by_cases e:i=j
 ·subst e
  rw[List.getElem?_set_self']at h
  cases q:l[i]? with
  |none=>rw[q]at h;cases h
  |some z =>
   rw[q]at h
   exact .inl ⟨rfl,(Option.some.inj (Option.some.inj h)).symm⟩
 ·rw[List.getElem?_set_ne e]at h
  exact .inr ⟨fun z=>e z.symm,h⟩
theorem jnt {α:Type} {l:List (Option α)} {i:Nat} {x y:Option α} (h:(l.set i x)[i]?=some y):i < l.length:=by
 have:=(List.getElem?_eq_some_iff.mp h).1
 rwa [List.length_set]at this
theorem jdp {α:Type} {l:List (Option α)} {i:Nat} {x:α} (h:i < l.length):(l.set i (some x))[i]?=some (some x):=by simp[h]
theorem jcb {α:Type} {l:List (Option α)} {i j:Nat} {x:α} (h:j≠i):(l.set i (some x))[j]?=l[j]?:=List.getElem?_set_ne (fun z=>h z.symm)
theorem Rel.set {C:Ctx} {H:Hp} {B:Addr→Prop} {σ:St} {δ:Sl} {n:Int} {i:Nat} {v:V} {x:Wv} (R:Rel C H B σ δ n) (h:WRel H B C.t v x) (hx:x.lent=false):Rel C H B (σ.set i (some v)) (δ.set i (some (.w x))) n where
 tp:=R.tp
 kp:=R.kp
 t0:=R.t0
 l0:=R.l0
 g0:=R.g0
 fz:=R.fz
 bt:=R.bt
 b0:=R.b0
 ba:=R.ba
 a0:=R.a0
 sl:=fun j y e=>by
  rcases jaw e with⟨rfl,rfl⟩ | ⟨ne,e'⟩
  ·exact⟨v,jdp (by rw[R.len];exact jnt e),h,fun z=>by rw[hx]at z;cases z⟩
  ·obtain⟨u,h1,h2⟩:=R.sl j y e'
   exact⟨u,by rw[jcb ne];exact h1,h2⟩
 ow:=fun j k y z u e1 e2 o1 o2 f1 f2=>by
  rcases jaw e1 with⟨rfl,rfl⟩ | ⟨ne1,e1'⟩
  ·cases o1
  ·rcases jaw e2 with⟨rfl,rfl⟩ | ⟨ne2,e2'⟩
   ·cases o2
   ·rw[jcb ne1]at f1
    rw[jcb ne2]at f2
    exact R.ow j k y z u e1' e2' o1 o2 f1 f2
 len:=by rw[List.length_set,List.length_set];exact R.len
theorem Rel.mut {C:Ctx} {H:Hp} {B:Addr→Prop} {σ:St} {δ:Sl} {n:Int} {a:Addr} {o:HO} (R:Rel C H B σ δ n) (hb:B a) (h0:C.H0 a=none)
  (ho:∀(i:Nat) (x:SV),δ[i]?=some (some x)→x.isOwn=true→σ[i]?≠some (some (.ref a))):Rel C (upd H a o) B σ δ n where
 tp:=R.tp.other (fun z=>R.t0 (z▸h0)) (fun z=>R.l0 (z▸h0)) (fun e z=>R.g0 e (z▸h0))
 kp:=fun b o' e ne=>by
  rw[jal (jai e h0)]
  exact R.kp b o' e ne
 t0:=R.t0
 l0:=R.l0
 g0:=R.g0
 fz:=fun b o' e=>⟨by rw[jal fun(z:b=a)=>(R.fz b o' e).2 (z▸hb)];exact(R.fz b o' e).1,(R.fz b o' e).2⟩
 bt:=R.bt
 b0:=R.b0
 ba:=fun b hb' e=>by
  by_cases z:b=a
  ·rw[z,jan]at e;cases e
  ·rw[jal z]at e;exact R.ba b hb' e
 a0:=R.a0
 sl:=fun i x e=>by
  obtain⟨v,h1,h2⟩:=R.sl i x e
  have mv:∀b o',H b=some o'→¬B b→upd H a o b=some o'∧¬B b:=fun b o' e n=>⟨by rw[jal fun(z:b=a)=>n (z▸hb)];exact e,n⟩
  refine⟨v,h1,?_⟩
  cases x with
  |w x =>
   refine⟨?_,h2.2⟩
   cases x with
   |d x=>exact h2.1.move mv
   |tp=>exact h2.1
   |dk kvs =>
    obtain⟨a',l,e1,e2,e3,e4⟩:=h2.1
    obtain⟨a'',f1,f2⟩:=h2.2 rfl
    rw[e1]at f1
    cases f1
    exact⟨a',l,e1,by rw[jal fun(z:a'=a)=>f2 (z▸h0)];exact e2,e3,e4.move mv⟩
   |ln ds =>
    obtain⟨a',l,e1,e2,e3,e4,e5⟩:=h2.1
    obtain⟨a'',f1,f2⟩:=h2.2 rfl
    rw[e1]at f1
    cases f1
    exact⟨a',l,e1,by rw[jal fun(z:a'=a)=>f2 (z▸h0)];exact e2,e3,e4,e5.move mv⟩
   |ob o =>
    cases o with
    |none=>exact h2.1
    |some d =>
     obtain⟨a',x,y,e1,e2,e3,e4⟩:=h2.1
     exact⟨a',x,y,e1,(mv _ _ e2 e3).1,e3,e4.move mv⟩
  |own ds =>
   obtain⟨a',xs,e1,e2,e3,e4,e5,e6⟩:=h2
   have ne:a'≠a:=fun z=>ho i _ e rfl (by rw[h1,e1,z])
   exact⟨a',xs,e1,by rw[jal ne];exact e2,e3,e4,e5,e6.move mv⟩
  |odk kvs =>
   obtain⟨a',xs,e1,e2,e3,e4,e5,e6⟩:=h2
   have ne:a'≠a:=fun z=>ho i _ e rfl (by rw[h1,e1,z])
   exact⟨a',xs,e1,by rw[jal ne];exact e2,e3,e4,e5,e6.move mv⟩
  |odt kvs =>
   obtain⟨a',xs,e1,e2,e3,e4,e5,e6⟩:=h2
   have ne:a'≠a:=fun z=>ho i _ e rfl (by rw[h1,e1,z])
   exact⟨a',xs,e1,by rw[jal ne];exact e2,e3,e4,e5,e6.move mv⟩
 ow:=R.ow
 len:=R.len
theorem Rel.mutOwn {C:Ctx} {H:Hp} {B:Addr→Prop} {σ:St} {δ:Sl} {n:Int} {i:Nat} {x x':SV} {a:Addr} {o:HO} (R:Rel C H B σ δ n) (hi:δ[i]?=some (some x)) (hx:x.isOwn=true) (hσ:σ[i]?=some (some (.ref a))) (hb:B a) (h0:C.H0 a=none)
  (h:SRel C.H0 (upd H a o) B C.t (.ref a) x') (hx':x'.isOwn=true):Rel C (upd H a o) B σ (δ.set i (some x')) n:=by
 -- first the other slots: slot i is taken out
 have R1:Rel C H B σ (δ.set i none) n:={
  tp:=R.tp,kp:=R.kp,t0:=R.t0,l0:=R.l0,g0:=R.g0,fz:=R.fz,bt:=R.bt,b0:=R.b0,ba:=R.ba,a0:=R.a0
  sl:=fun j y e=>by
   by_cases z:i=j
   ·subst z
    rw[List.getElem?_set_self']at e
    rw[hi]at e
    cases e
   ·rw[List.getElem?_set_ne z]at e
    exact R.sl j y e
  ow:=fun j k y z u e1 e2 o1 o2 f1 f2=>by
   have g:∀{m:Nat} {w:SV},(δ.set i none)[m]?=some (some w)→δ[m]?=some (some w):=fun{m w} e=>by
    by_cases q:i=m
    ·subst q
     rw[List.getElem?_set_self',hi]at e
     cases e
    ·rwa [List.getElem?_set_ne q]at e
   exact R.ow j k y z u (g e1) (g e2) o1 o2 f1 f2
  len:=by rw[List.length_set];exact R.len}
 have R2:Rel C (upd H a o) B σ (δ.set i none) n:=R1.mut hb h0 fun j y e oy f=>by
  by_cases z:i=j
  ·subst z
   rw[List.getElem?_set_self',hi]at e
   cases e
  ·rw[List.getElem?_set_ne z]at e
   exact z (R.ow i j x y _ hi e hx oy hσ f)
 have hlt:i < δ.length:=(List.getElem?_eq_some_iff.mp hi).1
 exact{
  tp:=R2.tp,kp:=R2.kp,t0:=R2.t0,l0:=R2.l0,g0:=R2.g0,fz:=R2.fz,bt:=R2.bt,b0:=R2.b0,ba:=R2.ba,a0:=R2.a0
  sl:=fun j y e=>by
   rcases jaw e with⟨rfl,rfl⟩ | ⟨ne,e'⟩
   ·exact⟨_,hσ,h⟩
   ·exact R2.sl j y (by rw[List.getElem?_set_ne fun z=>ne z.symm];exact e')
  ow:=fun j k y z u e1 e2 o1 o2 f1 f2=>by
   rcases jaw e1 with⟨rfl,rfl⟩ | ⟨ne1,e1'⟩
   ·rcases jaw e2 with⟨rfl,rfl⟩ | ⟨ne2,e2'⟩
    ·rfl
    ·exact R.ow _ _ x z u hi e2' hx o2 f1 f2
   ·rcases jaw e2 with⟨rfl,rfl⟩ | ⟨ne2,e2'⟩
    ·exact R.ow _ _ y x u e1' hi o1 hx f1 f2
    ·exact R.ow j k y z u e1' e2' o1 o2 f1 f2
  len:=by rw[List.length_set];exact R.len}
theorem Rel.own {C:Ctx} {H H':Hp} {B:Addr→Prop} {σ:St} {δ:Sl} {n n':Int} {i:Nat} {a:Addr} {x:SV} (R:Rel C H B σ δ n) (R':Rel C H' B σ δ n') (k:Kp C.t H H') (h0:H a=none) (h1:H' a≠none) (hx:x.isOwn=true)
  (h:SRel C.H0 H' (fun b=>B b∨b=a) C.t (.ref a) x):Rel C H' (fun b=>B b∨b=a) (σ.set i (some (.ref a))) (δ.set i (some x)) n' where
 tp:=R'.tp
 kp:=R'.kp
 t0:=R'.t0
 l0:=R'.l0
 g0:=R'.g0
 fz:=fun b o e=>⟨(R'.fz b o e).1,fun z=>z.elim (R'.fz b o e).2 fun q=>jai (R.fz b o e).1 h0 q⟩
 bt:=.inl R.bt
 b0:=fun b z=>.inl (R.b0 b z)
 ba:=fun b z=>z.elim (R'.ba b) fun q=>q▸h1
 a0:=R.a0
 sl:=fun j y e=>by
  have hta:C.t≠a:=fun z=>by
   obtain⟨_,_,q,_⟩:=R.tp.ob
   rw[z,h0]at q
   cases q
  have mv:∀b o',H b=some o'→¬B b→H' b=some o'∧¬(B b∨b=a):=fun b o' e n=>⟨k b o' e fun z=>n (z▸R.bt),fun z=>z.elim n fun q=>jai e h0 q⟩
  rcases jaw e with⟨rfl,rfl⟩ | ⟨ne,e'⟩
  ·exact⟨_,jdp (by rw[R.len];exact jnt e),h⟩
  ·obtain⟨v,f1,f2⟩:=R.sl j y e'
   refine⟨v,by rw[jcb ne];exact f1,?_⟩
   cases y with
   |w y =>
    refine⟨?_,f2.2⟩
    cases y with
    |d y=>exact f2.1.move mv
    |tp=>exact f2.1
    |dk kvs =>
     obtain⟨a',l,e1,e2,e3,e4⟩:=f2.1
     exact⟨a',l,e1,k _ _ e2 e3,e3,e4.move mv⟩
    |ln ds =>
     obtain⟨a',l,e1,e2,e3,e4,e5⟩:=f2.1
     exact⟨a',l,e1,k _ _ e2 e3,e3,e4,e5.move mv⟩
    |ob o =>
     cases o with
     |none=>exact f2.1
     |some d =>
      obtain⟨a',x,y,e1,e2,e3,e4⟩:=f2.1
      exact⟨a',x,y,e1,(mv _ _ e2 e3).1,(mv _ _ e2 e3).2,e4.move mv⟩
   |own ds =>
    obtain⟨a',xs,e1,e2,e3,e4,e5,e6⟩:=f2
    exact⟨a',xs,e1,k _ _ e2 (fun z=>R.t0 (z▸e4)),.inl e3,e4,e5,e6.move mv⟩
   |odk kvs =>
    obtain⟨a',xs,e1,e2,e3,e4,e5,e6⟩:=f2
    exact⟨a',xs,e1,k _ _ e2 (fun z=>R.t0 (z▸e4)),.inl e3,e4,e5,e6.move mv⟩
   |odt kvs =>
    obtain⟨a',xs,e1,e2,e3,e4,e5,e6⟩:=f2
    exact⟨a',xs,e1,k _ _ e2 (fun z=>R.t0 (z▸e4)),.inl e3,e4,e5,e6.move mv⟩
 ow:=fun j m y z u e1 e2 o1 o2 f1 f2=>by
  have out:∀{p:Nat} {w:SV},δ[p]?=some (some w)→w.isOwn=true→σ[p]?=some (some (.ref a))→False:=fun{p w} e ow f=>by
   obtain⟨v,g1,g2⟩:=R.sl p w e
   rw[f]at g1
   cases g1
   cases w with
   |w _=>cases ow
   |own ds =>
    obtain⟨a',xs,e1,e2,_⟩:=g2
    cases e1
    rw[h0]at e2
    cases e2
   |odk ds =>
    obtain⟨a',xs,e1,e2,_⟩:=g2
    cases e1
    rw[h0]at e2
    cases e2
   |odt ds =>
    obtain⟨a',xs,e1,e2,_⟩:=g2
    cases e1
    rw[h0]at e2
    cases e2
  rcases jaw e1 with⟨rfl,rfl⟩ | ⟨ne1,e1'⟩
  ·rcases jaw e2 with⟨rfl,rfl⟩ | ⟨ne2,e2'⟩
   ·rfl
   ·rw[jdp (by rw[R.len];exact jnt e1)]at f1
    rw[jcb ne2]at f2
    cases f1
    exact(out e2' o2 f2).elim
  ·rcases jaw e2 with⟨rfl,rfl⟩ | ⟨ne2,e2'⟩
   ·rw[jdp (by rw[R.len];exact jnt e2)]at f2
    rw[jcb ne1]at f1
    cases f2
    exact(out e1' o1 f1).elim
   ·rw[jcb ne1]at f1
    rw[jcb ne2]at f2
    exact R.ow j m y z u e1' e2' o1 o2 f1 f2
 len:=by rw[List.length_set,List.length_set];exact R.len
theorem Rel.frz {C:Ctx} {H:Hp} {B:Addr→Prop} {σ:St} {δ:Sl} {n:Int} {i:Nat} {ds:List PyData} (R:Rel C H B σ δ n) (hi:δ[i]?=some (some (.own ds))):∃B',Rel C H B' σ (δ.set i (some (.w (.d (.list ds))))) n:=by
 obtain⟨v,hv,a,xs,rfl,e2,e3,e4,e5,e6⟩:=R.sl i _ hi
 refine⟨fun b=>B b∧b≠a,?_⟩
 have less:∀b,(B b∧b≠a)→B b:=fun b z=>z.1
 exact{
  tp:=R.tp,kp:=R.kp,t0:=R.t0,l0:=R.l0,g0:=R.g0
  fz:=fun b o e=>⟨(R.fz b o e).1,fun z=>(R.fz b o e).2 z.1⟩
  bt:=⟨R.bt,fun z=>R.t0 (z▸e4)⟩
  b0:=fun b z=>⟨R.b0 b z,fun q=>R.a0 b z (q▸e4)⟩
  ba:=fun b z=>R.ba b z.1
  a0:=R.a0
  sl:=fun j y e=>by
   rcases jaw e with⟨rfl,rfl⟩ | ⟨ne,e'⟩
   ·exact⟨_,hv,(show RdX H _ (.ref a) (.list ds)from .lst e2 (fun z=>z.2 rfl) e5 (e6.less less)),fun z=>by cases z⟩
   ·obtain⟨u,f1,f2⟩:=R.sl j y e'
    refine⟨u,f1,?_⟩
    cases y with
    |w y=>exact⟨f2.1.less less,f2.2⟩
    |own ds' =>
     obtain⟨a',xs',g1,g2,g3,g4,g5,g6⟩:=f2
     refine⟨a',xs',g1,g2,⟨g3,fun z=>?_⟩,g4,g5,g6.less less⟩
     exact ne (R.ow j i _ _ _ e' hi rfl rfl f1 (by rw[hv,g1,z]))
    |odk ds' =>
     obtain⟨a',xs',g1,g2,g3,g4,g5,g6⟩:=f2
     refine⟨a',xs',g1,g2,⟨g3,fun z=>?_⟩,g4,g5,g6.move fun b o e n=>⟨e,fun z=>n z.1⟩⟩
     exact ne (R.ow j i _ _ _ e' hi rfl rfl f1 (by rw[hv,g1,z]))
    |odt ds' =>
     obtain⟨a',xs',g1,g2,g3,g4,g5,g6⟩:=f2
     refine⟨a',xs',g1,g2,⟨g3,fun z=>?_⟩,g4,g5,g6.move fun b o e n=>⟨e,fun z=>n z.1⟩⟩
     exact ne (R.ow j i _ _ _ e' hi rfl rfl f1 (by rw[hv,g1,z]))
  ow:=fun j k y z u e1 e2 o1 o2 f1 f2=>by
   rcases jaw e1 with⟨rfl,rfl⟩ | ⟨ne1,e1'⟩
   ·cases o1
   ·rcases jaw e2 with⟨rfl,rfl⟩ | ⟨ne2,e2'⟩
    ·cases o2
    ·exact R.ow j k y z u e1' e2' o1 o2 f1 f2
  len:=by rw[List.length_set];exact R.len}
noncomputable abbrev DQ:=Wv→Int→Prop
noncomputable abbrev DT:=Sl→Int→DQ→Prop
noncomputable abbrev DTT:=Sl→Int→(Bool→Int→Prop)→Prop
noncomputable abbrev DTA:=Sl→Int→(List Wv→Int→Prop)→Prop
inductive ARel (H:Hp) (B:Addr→Prop) (t:Addr):List V→List Wv→Prop
 |nil:ARel H B t [] []
 |cons {v:V} {vs:List V} {x:Wv} {xs:List Wv}:WRel H B t v x→ARel H B t vs xs→ARel H B t (v::vs) (x::xs)
theorem ARel.kp {H H':Hp} {B:Addr→Prop} {t:Addr} (k:Kp t H H') (ht:B t):∀{vs:List V} {xs:List Wv},ARel H B t vs xs→ARel H' B t vs xs
 |_,_,.nil=>.nil
 |_,_,.cons a b=>.cons (a.kp k ht) (ARel.kp k ht b)
theorem ARel.len {H:Hp} {B:Addr→Prop} {t:Addr}:∀{vs:List V} {xs:List Wv},ARel H B t vs xs→vs.length=xs.length
 |_,_,.nil=>rfl
 |_,_,.cons _ b=>by rw[List.length_cons,List.length_cons,ARel.len b]
noncomputable def Snd (t:TE) (w:DT):Prop:=∀(C:Ctx) (H:Hp) (B:Addr→Prop) (σ:St) (δ:Sl) (n:Int) (Q:DQ) (Q':VK),Rel C H B σ δ n→w δ n Q →
 (∀v x H' n',Rel C H' B σ δ n'→Kp C.t H H'→WRel H' B C.t v x→Q x n'→Q' v H')→t σ H Q'
noncomputable def SndT (t:TT) (w:DTT):Prop:=∀(C:Ctx) (H:Hp) (B:Addr→Prop) (σ:St) (δ:Sl) (n:Int) (Q:Bool→Int→Prop) (Q':Bool→Hp→Prop),Rel C H B σ δ n→w δ n Q →
 (∀b H' n',Rel C H' B σ δ n'→Kp C.t H H'→Q b n'→Q' b H')→t σ H Q'
noncomputable def SndA (t:TA) (w:DTA):Prop:=∀(C:Ctx) (H:Hp) (B:Addr→Prop) (σ:St) (δ:Sl) (n:Int) (Q:List Wv→Int→Prop) (Q':List V→Hp→Prop),Rel C H B σ δ n→w δ n Q →
 (∀vs xs H' n',Rel C H' B σ δ n'→Kp C.t H H'→ARel H' B C.t vs xs→Q xs n'→Q' vs H')→t σ H Q'
noncomputable abbrev DTF:=Sl→Int→(List PyData→Int→Prop)→Prop
noncomputable def SndF (t:TE) (w:DTF):Prop:=∀(C:Ctx) (H:Hp) (B:Addr→Prop) (σ:St) (δ:Sl) (n:Int) (Q:List PyData→Int→Prop) (Q':VK),Rel C H B σ δ n→w δ n Q →
 (∀a xs ds H' n',Rel C H' B σ δ n'→Kp C.t H H'→H a=none→H' a=some (.lst xs)→xs.length≤sizeLine→RdXs H' (fun b=>B b∨b=a) xs ds→Q ds n'→Q' (.ref a) H')→t σ H Q'
structure DE (X:Cx) (e:Expr) (t:TE) (w:DT):Prop where
 pe:PE X e t
 sd:Snd t w
structure DC (X:Cx) (e:Expr) (t:TT) (w:DTT):Prop where
 pt:PT X e t
 sd:SndT t w
structure DCW (X:Cx) (e:Expr) (t:TT) (w:DTT):Prop where
 pw:PW X e t
 sd:SndT t w
structure DA (X:Cx) (es:List Expr) (t:TA) (w:DTA):Prop where
 pa:PA X es t
 sd:SndA t w
structure DF (X:Cx) (e:Expr) (t:TE) (w:DTF):Prop where
 pe:PE X e t
 sd:SndF t w
variable {X:Cx} {a b c e:Expr} {ta tb tc te:TE} {wa wb wc we:DT} {pos:Pos}
noncomputable def wVar (i:Nat):DT:=fun δ n Q=>match δ[i]? with
 |some (some (.w x))=>Q x n
 |_=>False
theorem jac (i:Nat) {x:Str} {p:Pos} (hN:X.N[i]?=some x:=by rfl) (hv:Vis X.env.scope x:=by first | exact Or.inl rfl | exact Or.inr (Or.inl rfl) | exact Or.inr (Or.inr rfl)) (hd:(x==("__debug__":Str))=false:=by decide)
  (hcd:(x==("__classdict__":Str))=false:=by decide):DE X (.Name x p) (tVar i) (wVar i):=⟨jdf hN hv hd hcd,fun C H B σ δ n Q Q' R h k=>by
 unfold wVar at h
 split at h
 ·rename_i x e
  obtain⟨v,h1,h2⟩:=R.sl i _ e
  exact⟨v,h1,k v x H n R (Kp.refl _ _) h2.1 h⟩
 ·exact h.elim⟩
noncomputable def wC (d:PyData):DT:=fun _ n Q=>Q (.d d) n
theorem jta {v:V} {d:PyData} (h:∀H B,RdX H B v d):Snd (tC v) (wC d):=fun C H B σ δ n Q Q' R q k=>k v (.d d) H n R (Kp.refl _ _) (h H B) q
theorem jaj {i j p}:DE X (.Constant (.int i) j p) (tC (.int i)) (wC (.int i)):=⟨ja4,jta fun _ _=>.int i⟩
theorem d_bl {i j p}:DE X (.Constant (.bool i) j p) (tC (.bl i)) (wC (.bool i)):=⟨j1c,jta fun _ _=>.bl i⟩
theorem jdn {j p}:DE X (.Constant .none j p) (tC .non) (wC .none):=⟨jn3,jta fun _ _=>.non⟩
theorem ja1 {x j p} (h:Str.length x≤sizeLine:=by decide +kernel):DE X (.Constant (.str x) j p) (tC (.str x)) (wC (.str x)):=⟨jn1,jta fun _ _=>.str x h⟩
noncomputable def w2 (wa wb:DT) (g:Wv→Wv→Int→DQ→Prop):DT:=fun δ n Q=>wa δ n fun x n1=>wb δ n1 fun y n2=>g x y n2 Q
noncomputable def SndO (r:R2) (g:Wv→Wv→Int→DQ→Prop):Prop:=∀(C:Ctx) (H:Hp) (B:Addr→Prop) (σ:St) (δ:Sl) (n:Int) (x y:V) (p q:Wv) (Q:DQ) (Q':VK),Rel C H B σ δ n→WRel H B C.t x p→WRel H B C.t y q→g p q n Q →
 (∀v x H' n',Rel C H' B σ δ n'→Kp C.t H H'→WRel H' B C.t v x→Q x n'→Q' v H')→r x y H Q'
theorem ji4 {r:R2} {g:Wv→Wv→Int→DQ→Prop} (hr:SndO r g) (ha:Snd ta wa) (hb:Snd tb wb):Snd (tOp r ta tb) (w2 wa wb g):=fun C H B σ δ n Q Q' R h k =>
 ha C H B σ δ n _ _ R h fun v x H1 n1 R1 k1 r1 q1=>hb C H1 B σ δ n1 _ _ R1 q1 fun u y H2 n2 R2 k2 r2 q2 =>
  hr C H2 B σ δ n2 v u x y Q Q' R2 (r1.kp k2 R1.bt) r2 q2 fun z p H3 n3 R3 k3 r3 q3=>k z p H3 n3 R3 ((k1.trans k2).trans k3) r3 q3
theorem d_op {op:Operator} {r:R2} {g:Wv→Wv→Int→DQ→Prop} (ho:OpR X (binaryOp op) r) (hr:SndO r g) (ha:DE X a ta wa) (hb:DE X b tb wb):DE X (.BinOp a op b pos) (tOp r ta tb) (w2 wa wb g) :=
 ⟨jdm ho ha.pe hb.pe,ji4 hr ha.sd hb.sd⟩
theorem jg4 {op:CmpOp} {r:R2} {g:Wv→Wv→Int→DQ→Prop} (ho:OpR X (compareOp op) r) (hr:SndO r g) (ha:DE X a ta wa) (hb:DE X b tb wb) (hm:behindInMarks op b=false):DE X (.Compare a [op] [b] pos) (tOp r ta tb) (w2 wa wb g) :=
 ⟨jw8 ho ha.pe hb.pe hm,ji4 hr ha.sd hb.sd⟩
noncomputable def cT (w:DT):DTT:=fun δ n Q=>w δ n fun x n'=>match x with
 |.d (.bool k)=>Q k n'
 |_=>False
theorem wd {H:Hp} {B:Addr→Prop} {t:Addr} {v:V} {d:PyData} (h:RdX H B v d):WRel H B t v (.d d):=h
theorem jfm {t:TE} {w:DT} (h:Snd t w):SndT (jmx t) (cT w):=fun C H B σ δ n Q Q' R q k =>
 h C H B σ δ n _ _ R q fun v x H' n' R' k' r' q'=>by
  split at q'
  ·rename_i b
   cases(show RdX H' B v (.bool b)from r')
   exact⟨b,rfl,k b H' n' R' k' q'⟩
  ·exact q'.elim
theorem ja7 {op:CmpOp} {r:R2} {g:Wv→Wv→Int→DQ→Prop} (ho:OpR X (compareOp op) r) (hr:SndO r g) (ha:DE X a ta wa) (hb:DE X b tb wb) (hm:behindInMarks op b=false):DC X (.Compare a [op] [b] pos) (jmx (tOp r ta tb)) (cT (w2 wa wb g)) :=
 ⟨je7 ho ha.pe hb.pe hm,jfm (ji4 hr ha.sd hb.sd)⟩
theorem jpj {t:TE} {w:DT} (h:DE X e t w) (he:∀whole,isTrue e X.env whole=(do let v ←whole;standAt e.pos;holding [v] (truthy v)):=by intro _;rfl):DC X e (jmx t) (cT w):=⟨jy5 h.pe he,jfm h.sd⟩
noncomputable def jk1 (x:Wv) (A B:Prop):Prop:=match x with
 |.d (.bool true)=>A
 |.d (.bool false)=>B
 |_=>False
theorem jnh (b:Bool) (A B:Prop):jk1 (.d (.bool b)) A B=if b=true then A else B:=by cases b<;>simp[jk1]
variable {tA tB':TT} {cA cB:DTT} {rest:List Expr}
noncomputable def cAnd (u v:DTT):DTT:=fun δ n Q=>u δ n fun b n1=>if b=true then v δ n1 Q else Q false n1
noncomputable def cOr (u v:DTT):DTT:=fun δ n Q=>u δ n fun b n1=>if b=true then Q true n1 else v δ n1 Q
noncomputable def cNot (u:DTT):DTT:=fun δ n Q=>u δ n fun b n1=>Q (!b) n1
theorem cw_and1 (h:DC X a tA cA):DCW X (.BoolOp .And [a] pos) tA cA:=⟨jqu h.pt,h.sd⟩
theorem cw_or1 (h:DC X a tA cA):DCW X (.BoolOp .Or [a] pos) tA cA:=⟨jy4 h.pt,h.sd⟩
theorem cw_and (h:DC X a tA cA) (h2:DCW X (.BoolOp .And (b::rest) pos) tB' cB):DCW X (.BoolOp .And (a::b::rest) pos) (tAnd tA tB') (cAnd cA cB):=⟨jve h.pt h2.pw,fun C H B σ δ n Q Q' R q k =>
 h.sd C H B σ δ n _ _ R q fun b H1 n1 R1 k1 q1=>by
  cases b with
  |true =>
   rw[if_pos rfl]at q1 ⊢
   exact h2.sd C H1 B σ δ n1 _ _ R1 q1 fun b H2 n2 R2 k2 q2=>k b H2 n2 R2 (k1.trans k2) q2
  |false =>
   rw[if_neg Bool.false_ne_true]at q1 ⊢
   exact k false H1 n1 R1 k1 q1⟩
theorem cw_or (h:DC X a tA cA) (h2:DCW X (.BoolOp .Or (b::rest) pos) tB' cB):DCW X (.BoolOp .Or (a::b::rest) pos) (tOr tA tB') (cOr cA cB):=⟨j09 h.pt h2.pw,fun C H B σ δ n Q Q' R q k =>
 h.sd C H B σ δ n _ _ R q fun b H1 n1 R1 k1 q1=>by
  cases b with
  |true =>
   rw[if_pos rfl]at q1 ⊢
   exact k true H1 n1 R1 k1 q1
  |false =>
   rw[if_neg Bool.false_ne_true]at q1 ⊢
   exact h2.sd C H1 B σ δ n1 _ _ R1 q1 fun b H2 n2 R2 k2 q2=>k b H2 n2 R2 (k1.trans k2) q2⟩
theorem DCW.cc (h:DCW X a tA cA):DC X a tA cA:=⟨h.pw.pt,h.sd⟩
theorem jus (h:DC X a tA cA):DC X (.UnaryOp .Not a pos) (tNot tA) (cNot cA):=⟨jy6 h.pt,fun C H B σ δ n Q Q' R q k=>h.sd C H B σ δ n _ _ R q fun b H1 n1 R1 k1 q1=>k (!b) H1 n1 R1 k1 q1⟩
noncomputable def wAnd (u v:DT):DT:=fun δ n Q=>u δ n fun x n1=>jk1 x (v δ n1 Q) (Q (.d (.bool false)) n1)
noncomputable def wOr (u v:DT):DT:=fun δ n Q=>u δ n fun x n1=>jk1 x (Q (.d (.bool true)) n1) (v δ n1 Q)
theorem jr8 {op} (h:DE X a ta wa):DE X (.BoolOp op [a] pos) ta wa:=⟨jzc h.pe,h.sd⟩
theorem j0s (h:DE X a ta wa) (h2:DE X (.BoolOp .And (b::rest) pos) tb wb):DE X (.BoolOp .And (a::b::rest) pos) (jyg ta tb) (wAnd wa wb):=⟨jze h.pe h2.pe,fun C H B σ δ n Q Q' R q k =>
 h.sd C H B σ δ n _ _ R q fun v x H1 n1 R1 k1 r1 q1=>by
  unfold jk1 at q1
  split at q1
  ·cases(show RdX H1 B v (.bool true)from r1)
   refine⟨true,rfl,?_⟩
   rw[if_pos rfl]
   exact h2.sd C H1 B σ δ n1 _ _ R1 q1 fun v x H2 n2 R2 k2 r2 q2=>k v x H2 n2 R2 (k1.trans k2) r2 q2
  ·cases(show RdX H1 B v (.bool false)from r1)
   refine⟨false,rfl,?_⟩
   rw[if_neg Bool.false_ne_true]
   exact k _ _ H1 n1 R1 k1 (wd (.bl false)) q1
  ·exact q1.elim⟩
theorem d_or (h:DE X a ta wa) (h2:DE X (.BoolOp .Or (b::rest) pos) tb wb):DE X (.BoolOp .Or (a::b::rest) pos) (tOrV ta tb) (wOr wa wb):=⟨j1b h.pe h2.pe,fun C H B σ δ n Q Q' R q k =>
 h.sd C H B σ δ n _ _ R q fun v x H1 n1 R1 k1 r1 q1=>by
  unfold jk1 at q1
  split at q1
  ·cases(show RdX H1 B v (.bool true)from r1)
   refine⟨true,rfl,?_⟩
   rw[if_pos rfl]
   exact k _ _ H1 n1 R1 k1 (wd (.bl true)) q1
  ·cases(show RdX H1 B v (.bool false)from r1)
   refine⟨false,rfl,?_⟩
   rw[if_neg Bool.false_ne_true]
   exact h2.sd C H1 B σ δ n1 _ _ R1 q1 fun v x H2 n2 R2 k2 r2 q2=>k v x H2 n2 R2 (k1.trans k2) r2 q2
  ·exact q1.elim⟩
noncomputable def wIf (u:DTT) (v w:DT):DT:=fun δ n Q=>u δ n fun b n1=>if b=true then v δ n1 Q else w δ n1 Q
theorem jsa (h:DC X c tA cA) (h1:DE X a ta wa) (h2:DE X b tb wb):DE X (.IfExp c a b pos) (tIf tA ta tb) (wIf cA wa wb):=⟨jtq h.pt h1.pe h2.pe,fun C H B σ δ n Q Q' R q k =>
 h.sd C H B σ δ n _ _ R q fun b H1 n1 R1 k1 q1=>by
  cases b with
  |true =>
   rw[if_pos rfl]at q1 ⊢
   exact h1.sd C H1 B σ δ n1 _ _ R1 q1 fun v x H2 n2 R2 k2 r2 q2=>k v x H2 n2 R2 (k1.trans k2) r2 q2
  |false =>
   rw[if_neg Bool.false_ne_true]at q1 ⊢
   exact h2.sd C H1 B σ δ n1 _ _ R1 q1 fun v x H2 n2 R2 k2 r2 q2=>k v x H2 n2 R2 (k1.trans k2) r2 q2⟩
variable {es:List Expr} {tR:TA} {wR:DTA}
noncomputable def aNil:DTA:=fun _ n Q=>Q [] n
noncomputable def jab (w:DT) (r:DTA):DTA:=fun δ n Q=>w δ n fun x n1=>r δ n1 fun xs n2=>Q (x::xs) n2
theorem jag:DA X [] tNil aNil:=⟨jb2,fun C H B σ δ n Q Q' R q k=>k [] [] H n R (Kp.refl _ _) .nil q⟩
theorem jaa (h:DE X e te we) (hr:DA X es tR wR) (hs:starEach (e::es) X.env=(false,eval e X.env)::starEach es X.env:=by rfl):DA X (e::es) (jcw te tR) (jab we wR):=⟨jav h.pe hr.pa hs,fun C H B σ δ n Q Q' R q k =>
 h.sd C H B σ δ n _ _ R q fun v x H1 n1 R1 k1 r1 q1=>hr.sd C H1 B σ δ n1 _ _ R1 q1 fun vs xs H2 n2 R2 k2 r2 q2=>k (v::vs) (x::xs) H2 n2 R2 (k1.trans k2) (.cons (r1.kp k2 R1.bt) r2) q2⟩
noncomputable def jfp:List Wv→Option (List PyData)
 |[]=>some []
 |.d x::r=>(jfp r).map (x::·)
 |_::_=>none
theorem ARel.plain {H:Hp} {B:Addr→Prop} {t:Addr}:∀{vs:List V} {xs:List Wv} {ds:List PyData},ARel H B t vs xs→jfp xs=some ds→RdXs H B vs ds
 |_,_,_,.nil,h=>by
  cases h
  exact .nil
 |_,_,ds,.cons (x:=x) (xs:=xs) a b,h=>by
  cases x with
  |d x =>
   have h':(jfp xs).map (x::·)=some ds:=h
   cases e:jfp xs with
   |none=>rw[e]at h';cases h'
   |some es =>
    rw[e]at h'
    cases h'
    exact .cons a (ARel.plain b e)
  |tp=>cases h
  |dk _=>cases h
  |ln _=>cases h
  |ob _=>cases h
theorem RdXs.fresh {H:Hp} {B:Addr→Prop} {vs:List V} {ds:List PyData} {p:Addr} {o:HO} (h:RdXs H B vs ds) (hp:H p=none):RdXs (upd H p o) (fun b=>B b∨b=p) vs ds :=
 h.move fun b o' e n=>⟨by rw[jal (jai e hp)];exact e,fun z=>z.elim n fun q=>jai e hp q⟩
noncomputable def wTup (w:DTA):DT:=fun δ n Q=>w δ n fun xs n1=>match jfp xs with
 |some ds=>ds.length≤1000∧Q (.d (.tuple ds)) n1
 |none=>False
theorem jbg {x1} (h:DA X es tR wR):DE X (.Tuple es x1 pos) (tTup tR) (wTup wR):=⟨jvg h.pa,fun C H B σ δ n Q Q' R q k =>
 h.sd C H B σ δ n _ _ R q fun vs xs H1 n1 R1 k1 r1 q1=>by
  split at q1
  ·rename_i ds e
   have r:=r1.plain e
   have hl:vs.length≤sizeLine:=by rw[r.len];exact jqi q1.1
   refine⟨hl,fun p hp=>k _ _ _ n1 (R1.new hp) (k1.trans (Kp.new hp)) (wd (show RdX _ B (.ref p) (.tuple ds)from ?_)) q1.2⟩
   exact .tup jan (R1.nb hp) hl ((r.fresh hp).less fun b z=>.inl z)
  ·exact q1.elim⟩
noncomputable def fLst (w:DTA):DTF:=fun δ n Q=>w δ n fun xs n1=>match jfp xs with
 |some ds=>ds.length≤1000∧Q ds n1
 |none=>False
theorem jcj (h:DA X es tR wR):DF X (.List es pos) (tLst tR) (fLst wR):=⟨jq1 h.pa,fun C H B σ δ n Q Q' R q k =>
 h.sd C H B σ δ n _ _ R q fun vs xs H1 n1 R1 k1 r1 q1=>by
  split at q1
  ·rename_i ds e
   have r:=r1.plain e
   have hl:vs.length≤sizeLine:=by rw[r.len];exact jqi q1.1
   have hn:∀p,H1 p=none→H p=none:=fun p hp=>by
    cases q:H p with
    |none=>rfl
    |some o =>
     by_cases z:p=C.t
     ·subst z
      obtain⟨_,_,h,_⟩:=R1.tp.ob
      rw[h]at hp
      cases hp
     ·rw[k1 p o q z]at hp;cases hp
   exact⟨hl,fun p hp=>k p vs ds _ n1 (R1.new hp) (k1.trans (Kp.new hp)) (hn p hp) jan hl (r.fresh hp) q1.2⟩
  ·exact q1.elim⟩
noncomputable def wOf (w:DTF):DT:=fun δ n Q=>w δ n fun ds n1=>Q (.d (.list ds)) n1
theorem jyk {t:TE} {w:DTF} (h:SndF t w):Snd t (wOf w):=fun C H B σ δ n Q Q' R q k =>
 h C H B σ δ n _ _ R q fun a xs ds H' n' R' k' h0 h1 h2 h3 q'=>k _ _ H' n' R' k' (wd (show RdX H' B (.ref a) (.list ds)from .lst h1 (R.nb h0) h2 (h3.less fun b z=>.inl z))) q'
theorem DF.d {w:DTF} {t:TE} (h:DF X e t w):DE X e t (wOf w):=⟨h.pe,jyk h.sd⟩
theorem Rel.was {C:Ctx} {H H1:Hp} {B:Addr→Prop} {σ:St} {δ:Sl} {n1:Int} (R1:Rel C H1 B σ δ n1) (k1:Kp C.t H H1) {p:Addr} (hp:H1 p=none):H p=none:=by
 cases q:H p with
 |none=>rfl
 |some o =>
  by_cases z:p=C.t
  ·subst z
   obtain⟨_,_,h,_⟩:=R1.tp.ob
   rw[h]at hp
   cases hp
  ·rw[k1 p o q z]at hp;cases hp
noncomputable abbrev DSp:=List Wv→Int→DQ→Prop
noncomputable def spOf (S:DSp):Sp:=fun vs H Q _=>∃(t:Addr) (l:TL) (ns:List Int) (B:Addr→Prop) (ws:List Wv) (n:Int) (Q0:DQ),Tp H t l ns n∧B t∧(∀b,B b→H b≠none)∧ARel H B t vs ws∧S ws n Q0 ∧
 ∀w n',Q0 w n'→∀v H',Tp H' t l ns n'→Kp t H H'→WRel H' B t v w→Q v H'
section
variable {X:Cx} {e:Expr} {es:List Expr} {pos p:Pos} {tR:TA} {wR:DTA}
noncomputable def jaq (S:DSp) (w:DTA):DT:=fun δ n Q=>w δ n fun xs n1=>S xs n1 Q
theorem js9 {S:DSp} {t:TA} {w:DTA} (h:SndA t w):Snd (jmy (spOf S) [] E0 t) (jaq S w):=fun C H B σ δ n Q Q' R q k =>
 h C H B σ δ n _ _ R q fun vs xs H1 n1 R1 k1 r1 q1=>by
  refine⟨C.t,C.l,C.ns,B,xs,n1,Q,R1.tp,R1.bt,R1.ba,by rw[List.append_nil];exact r1,q1,fun w n' q2 v H' T' k' r'=>?_⟩
  exact k v w H' n' (R1.step T' k') (k1.trans k') r' q2
theorem j0r {k:Nat} {f:Addr} {fd:FuncData} {ps:List Str} {S:DSp} {x:Str} (F:FnOk X.prog X.w X.K X.mg X.base CX0 k f fd ps (spOf S)) (hr:Room k X.A) (hg:Gl X x) (hm:X.mg x=some (.ref f)) (hk:PySem.W.keepIn X.K (.ref f)=true) (hb:Binds X.K fd ps [])
  (ha:DA X (e::es) tR wR) (hdb:(x==("__debug__":Str))=false:=by decide) (he:starEach (e::es) X.env=(false,eval e X.env)::starEach es X.env:=by rfl) (hpl:(backTo pos (starEach es X.env)).any (·.1)=false:=by rfl) :
  DE X (.Call (.Name x p) (e::es) [] pos) (jmy (spOf S) [] E0 tR) (jaq S wR):=⟨jm6 F hr hg hm hk hb .nil jxa ha.pa hdb he hpl,js9 ha.sd⟩
noncomputable def SndB (r:List V→Hp→VK→Prop) (g:List Wv→Int→DQ→Prop):Prop:=∀(C:Ctx) (H:Hp) (B:Addr→Prop) (σ:St) (δ:Sl) (n:Int) (vs:List V) (xs:List Wv) (Q:DQ) (Q':VK),Rel C H B σ δ n→ARel H B C.t vs xs→g xs n Q →
 (∀v x H' n',Rel C H' B σ δ n'→Kp C.t H H'→WRel H' B C.t v x→Q x n'→Q' v H')→r vs H Q'
noncomputable def wB (g:List Wv→Int→DQ→Prop) (w:DTA):DT:=fun δ n Q=>w δ n fun xs n1=>g xs n1 Q
theorem jym {r:List V→Hp→VK→Prop} {g:List Wv→Int→DQ→Prop} {t:TA} {w:DTA} (hr:SndB r g) (h:SndA t w):Snd (tCB r t) (wB g w):=fun C H B σ δ n Q Q' R q k =>
 h C H B σ δ n _ _ R q fun vs xs H1 n1 R1 k1 r1 q1=>hr C H1 B σ δ n1 vs xs Q Q' R1 r1 q1 fun v x H2 n2 R2 k2 r2 q2=>k v x H2 n2 R2 (k1.trans k2) r2 q2
theorem jbb {id:String} {x:Str} {r:List V→Hp→VK→Prop} {g:List Wv→Int→DQ→Prop} (hc:CallR X (.builtin id) r) (hr:SndB r g) (hg:Gl X x) (hm:X.mg x=none) (hv:bootBuiltins x=some (.builtin id)) (ha:DA X (e::es) tR wR) (hn:x≠"__name__":=by decide) (hdb:(x==("__debug__":Str))=false:=by decide)
  (he:starEach (e::es) X.env=(false,eval e X.env)::starEach es X.env:=by rfl) (hpl:(backTo pos (starEach es X.env)).any (·.1)=false:=by rfl):DE X (.Call (.Name x p) (e::es) [] pos) (tCB r tR) (wB g wR):=⟨jc2 hc hg hm hv ha.pa hn hdb he hpl,jym hr ha.sd⟩
theorem jb8 {T:String} {x:Str} {r:List V→Hp→VK→Prop} {g:List Wv→Int→DQ→Prop} (hc:CallR X (.type T) r) (hr:SndB r g) (hg:Gl X x) (hm:X.mg x=none) (hv:bootBuiltins x=some (.type T)) (ha:DA X (e::es) tR wR) (hn:x≠"__name__":=by decide) (hdb:(x==("__debug__":Str))=false:=by decide)
  (he:starEach (e::es) X.env=(false,eval e X.env)::starEach es X.env:=by rfl) (hpl:(backTo pos (starEach es X.env)).any (·.1)=false:=by rfl):DE X (.Call (.Name x p) (e::es) [] pos) (tCB r tR) (wB g wR):=⟨jfq hc hg hm hv ha.pa hn hdb he hpl,jym hr ha.sd⟩
end
structure DEnds where
 nx:Sl→Int→Prop
 rt:DQ
 bk:Sl→Int→Prop:=fun _ _=>False
 ct:Sl→Int→Prop:=fun _ _=>False
 rn:List PyData→Int→Prop:=fun _ _=>False
noncomputable abbrev DST:=Sl→Int→DEnds→Prop
structure EndsOk (C:Ctx) (K:DEnds) (D:Ends):Prop where
 nx:∀H B σ δ n,Rel C H B σ δ n→K.nx δ n→D.nx σ H
 rt:∀H B σ δ n v w,Rel C H B σ δ n→WRel H B C.t v w→K.rt w n→D.rt v H
 bk:∀H B σ δ n,Rel C H B σ δ n→K.bk δ n→D.bk σ H
 ct:∀H B σ δ n,Rel C H B σ δ n→K.ct δ n→D.ct σ H
 rn:∀H B σ δ n a xs ds,Rel C H B σ δ n→C.H0 a=none→H a=some (.lst xs)→xs.length≤sizeLine→RdXs H (fun b=>B b∨b=a) xs ds→K.rn ds n→D.rt (.ref a) H
noncomputable def SndS (T:TS) (W:DST):Prop:=∀(C:Ctx) (H:Hp) (B:Addr→Prop) (σ:St) (δ:Sl) (n:Int) (K:DEnds) (D:Ends),Rel C H B σ δ n→W δ n K→EndsOk C K D→T D σ H
structure DS (X:Cx) (st:Stmt) (T:TS) (W:DST):Prop where
 ps:PS X st T
 sd:SndS T W
structure DSs (X:Cx) (st:List Stmt) (T:TS) (W:DST):Prop where
 ps:PSs X st T
 sd:SndS T W
section
variable {X:Cx} {st:Stmt} {rest:List Stmt} {T U:TS} {W V':DST} {e:Expr} {te:TE} {we:DT} {pos:Pos}
noncomputable def ja6:DST:=fun δ n K=>K.nx δ n
noncomputable def sSeq (W V:DST):DST:=fun δ n K=>W δ n {K with nx:=fun δ n=>V δ n K}
theorem jca:DSs X [] jyd ja6:=⟨jj5,fun C H B σ δ n K D R h E=>E.nx H B σ δ n R h⟩
theorem jah (h:DS X st T W) (h2:DSs X rest U V'):DSs X (st::rest) (tSeq T U) (sSeq W V'):=⟨jb7 h.ps h2.ps,fun C H B σ δ n K D R q E =>
 h.sd C H B σ δ n _ _ R q ⟨fun H B σ δ n R q=>h2.sd C H B σ δ n K D R q E,E.rt,E.bk,E.ct,E.rn⟩⟩
theorem jap (h:DS X st T W):DSs X [st] T W:=⟨jf3 h.ps,h.sd⟩
noncomputable def sRet (w:DT):DST:=fun δ n K=>w δ n K.rt
theorem jbd (h:DE X e te we):DS X (.Return (some e) pos) (tRet te) (sRet we):=⟨jjb h.pe,fun C H B σ δ n K D R q E =>
 h.sd C H B σ δ n _ _ R q fun v x H' n' R' _ r' q'=>E.rt H' B σ δ n' v x R' r' q'⟩
noncomputable def sIf (c:DTT) (W V:DST):DST:=fun δ n K=>c δ n fun b n1=>if b=true then W δ n1 K else V δ n1 K
theorem s_if {c:Expr} {a b:List Stmt} {tc:TT} {cc:DTT} (hc:DC X c tc cc) (ha:DSs X a T W) (hb:DSs X b U V'):DS X (.If c a b pos) (tIfS tc T U) (sIf cc W V'):=⟨jtn hc.pt ha.ps hb.ps,fun C H B σ δ n K D R q E =>
 hc.sd C H B σ δ n _ _ R q fun b H1 n1 R1 _ q1=>by
  cases b with
  |true =>
   rw[if_pos rfl]at q1 ⊢
   exact ha.sd C H1 B σ δ n1 K D R1 q1 E
  |false =>
   rw[if_neg Bool.false_ne_true]at q1 ⊢
   exact hb.sd C H1 B σ δ n1 K D R1 q1 E⟩
noncomputable def sSet (i:Nat) (w:DT):DST:=fun δ n K=>w δ n fun x n1=>match x with
 |.d d=>K.nx (δ.set i (some (.w (.d d)))) n1
 |.tp=>K.nx (δ.set i (some (.w .tp))) n1
 |.dk _=>False
 |.ln _=>False
 |.ob o=>K.nx (δ.set i (some (.w (.ob o)))) n1
theorem jbw {i:Nat} {x:Str} {pos':Pos} (hN:X.N.Nodup) (hi:X.N[i]?=some x) (hx:Loc X.env.scope x) (he:DE X e te we) (hs:swapsWith e (some (.Name x pos')) pos.line X.env=pure false:=by rfl) (hf:X.fn x=true∨X.env.scope.names.lookup x=some .local:=by first | exact .inl rfl | exact .inr rfl | assumption) :
  DS X (.Assign [.Name x pos'] e pos) (tAsg te (jgc i)) (sSet i we):=⟨jez hN hi hx he.pe hs hf,fun C H B σ δ n K D R q E =>
 he.sd C H B σ δ n _ _ R q fun v x H1 n1 R1 _ r1 q1=>by
  cases x with
  |d d=>exact E.nx _ _ _ _ _ (R1.set r1 rfl) q1
  |tp=>exact E.nx _ _ _ _ _ (R1.set r1 rfl) q1
  |dk _=>exact q1.elim
  |ln _=>exact q1.elim
  |ob o=>exact E.nx _ _ _ _ _ (R1.set r1 rfl) q1⟩
noncomputable def sOwn (i:Nat) (w:DTF):DST:=fun δ n K=>w δ n fun ds n1=>K.nx (δ.set i (some (.own ds))) n1
theorem Rel.h0 {C:Ctx} {H:Hp} {B:Addr→Prop} {σ:St} {δ:Sl} {n:Int} {a:Addr} (R:Rel C H B σ δ n) (h:H a=none):C.H0 a=none:=R.was R.kp h
theorem jfn {i:Nat} {x:Str} {pos':Pos} {w:DTF} (hN:X.N.Nodup) (hi:X.N[i]?=some x) (hx:Loc X.env.scope x) (he:DF X e te w) (hs:swapsWith e (some (.Name x pos')) pos.line X.env=pure false:=by rfl) (hf:X.fn x=true∨X.env.scope.names.lookup x=some .local:=by first | exact .inl rfl | exact .inr rfl | assumption) :
  DS X (.Assign [.Name x pos'] e pos) (tAsg te (jgc i)) (sOwn i w):=⟨jez hN hi hx he.pe hs hf,fun C H B σ δ n K D R q E =>
 he.sd C H B σ δ n _ _ R q fun a xs ds H1 n1 R1 k1 h0 h1 h2 h3 q1=>by
  refine E.nx _ _ _ _ _ (R.own R1 k1 h0 (by rw[h1];exact fun z=>nomatch z) rfl ?_) q1
  exact⟨a,xs,rfl,h1,.inr rfl,R.h0 h0,h2,h3⟩⟩
noncomputable def sFrz (i:Nat) (W:DST):DST:=fun δ n K=>match δ[i]? with
 |some (some (.own ds))=>W (δ.set i (some (.w (.d (.list ds))))) n K
 |_=>W δ n K
theorem jgv (i:Nat) {sts:List Stmt} (h:DSs X sts T W):DSs X sts T (sFrz i W):=⟨h.ps,fun C H B σ δ n K D R q E=>by
 unfold sFrz at q
 split at q
 ·rename_i ds e
  obtain⟨B',R'⟩:=R.frz e
  exact h.sd C H B' σ _ n K D R' q E
 ·exact h.sd C H B σ δ n K D R q E⟩
noncomputable def sApp (i:Nat) (w:DT):DST:=fun δ n K=>match δ[i]? with
 |some (some (.own ds))=>w δ n fun x n1=>match x with
  |.d d=>ds.length < 1000000∧K.nx (δ.set i (some (.own (ds++[d])))) n1
  |_=>False
 |_=>False
theorem jrd {n:Nat} (h:n < 1000000):n < sizeLine:=Nat.lt_trans h (by decide)
theorem jex {i:Nat} {x:Str} {xp ap cp:Pos} (hN:X.N[i]?=some x) (he:DE X e te we) (hv:Vis X.env.scope x:=by first | exact Or.inl rfl | exact Or.inr (Or.inl rfl) | exact Or.inr (Or.inr rfl)) (hd:(x==("__debug__":Str))=false:=by decide)
  (hcd:(x==("__classdict__":Str))=false:=by decide)
  (hbase:attributeBase (.Name x xp) "append" X.env (eval (.Name x xp) X.env)=eval (.Name x xp) X.env:=by rfl)
  (hfew:((backTo cp (starEach [e] X.env)).all (fun x=>!x.1)&&(backToKw cp (keywordEach [] X.env)).all (fun x=>x.1.isSome)
   && decide ([e].length+([]:List Keyword).length+(if ([]:List Keyword).isEmpty then 0 else 1) < 30))=true:=by rfl)
  (hline:(ap.endLine==cp.line)=true:=by rfl) (hs:starEach [e] X.env=[(false,eval e X.env)]:=by rfl) (hplain:(backTo cp (starEach [] X.env)).any (·.1)=false:=by rfl)
  (hsw:swapsWith (.Call (.Attribute (.Name x xp) "append" ap) [e] [] cp) none pos.line X.env=pure false:=by rfl) :
  DS X (.Expr (.Call (.Attribute (.Name x xp) "append" ap) [e] [] cp) pos) (js2 (tBM X.K "list" jqt (tVar i) (jcw te tNil))) (sApp i we) :=
 ⟨jm5 (jw9 PySem.F.plainAttrs_list PySem.F.slot_list_append PySem.F.type_list_append jhi (jdf hN hv hd hcd) (jav he.pe jb2 hs) hbase hfew hline hs hplain) hsw,fun C H B σ δ n K D R q E=>by
  unfold sApp at q
  split at q
  ·rename_i ds ei
   obtain⟨v,hv,a,xs,rfl,e2,e3,e4,e5,e6⟩:=R.sl i _ ei
   refine⟨_,hv,.inl ⟨rfl,_,SqL.of e2⟩,he.sd C H B σ δ n _ _ R q fun u y H1 n1 R1 k1 r1 q1=>?_⟩
   cases y with
   |d d =>
    have hat:a≠C.t:=fun z=>R.t0 (z▸e4)
    have e2':=k1 _ _ e2 hat
    refine⟨a,xs,u,rfl,rfl,e2',jrd (by rw[e6.len];exact q1.1),?_⟩
    refine E.nx _ _ _ _ _ (R1.mutOwn ei rfl hv e3 e4 ?_ rfl) q1.2
    refine⟨a,xs++[u],rfl,jan,e3,e4,?_,?_⟩
    ·rw[List.length_append,e6.len]
     exact jrd q1.1
    ·refine RdXs.keep (fun b o e n=>?_) ((e6.kp k1 R.bt).append (.cons r1 .nil))
     rw[jal fun(z:b=a)=>n (z▸e3)]
     exact e
   |tp=>exact q1.elim
   |dk _=>exact q1.elim
   |ln _=>exact q1.elim
   |ob _=>exact q1.elim
  ·exact q.elim⟩
end
noncomputable def jbf (N:List Str) (ws:List Wv):Sl:=ws.map (fun x=>some (.w x))++List.replicate (N.length - ws.length) none
theorem ARel.get {H:Hp} {B:Addr→Prop} {t:Addr}:∀{vs:List V} {xs:List Wv} {i:Nat} {x:Wv},ARel H B t vs xs→xs[i]?=some x→∃v,vs[i]?=some v∧WRel H B t v x
 |_,_,_,_,.nil,e=>by simp at e
 |_,_,0,_,.cons h _,e=>by
  simp at e
  subst e
  exact⟨_,rfl,h⟩
 |_,_,i+1,x,.cons _ r,e=>by
  obtain⟨v,h1,h2⟩:=ARel.get (i:=i) (x:=x) r (by simpa using e)
  exact⟨v,by simpa using h1,h2⟩
theorem jlk {H:Hp} {t:Addr} {l:TL} {ns:List Int} {B:Addr→Prop} {vs:List V} {ws:List Wv} {n:Int} {N:List Str} (T:Tp H t l ns n) (bt:B t) (ba:∀b,B b→H b≠none) (r:ARel H B t vs ws):Rel ⟨t,l,ns,H,B,fun _=>none⟩ H B (L2.start N vs) (jbf N ws) n where
 tp:=T
 kp:=Kp.refl _ _
 t0:=by
  obtain⟨_,_,h,_⟩:=T.ob
  show H t≠none
  rw[h]
  exact fun z=>nomatch z
 l0:=by
  show H l.s≠none
  rw[T.ls]
  exact fun z=>nomatch z
 g0:=fun e=>by
  show H l.g≠none
  rw[T.ag e]
  exact fun z=>nomatch z
 fz:=fun b o e=>nomatch e
 bt:=bt
 b0:=fun _ z=>z
 ba:=ba
 a0:=ba
 sl:=fun i x e=>by
  have hl:=r.len
  unfold jbf at e
  rw[List.getElem?_append]at e
  split at e
  ·rename_i hi
   rw[List.length_map]at hi
   rw[List.getElem?_map]at e
   cases q:ws[i]? with
   |none=>rw[q]at e;cases e
   |some y =>
    rw[q]at e
    cases e
    obtain⟨v,h1,h2⟩:=r.get q
    refine⟨v,?_,h2,fun z=>?_⟩
    ·unfold L2.start
     rw[List.getElem?_append_left (by rw[List.length_map,hl];exact hi),List.getElem?_map,h1]
     rfl
    ·cases y with
     |d _=>cases z
     |tp=>cases z
     |dk _ =>
      obtain⟨a,l',f1,f2,_⟩:=h2
      exact⟨a,f1,by show H a≠none;rw[f2];exact fun z=>nomatch z⟩
     |ln _ =>
      obtain⟨a,l',f1,f2,_⟩:=h2
      exact⟨a,f1,by show H a≠none;rw[f2];exact fun z=>nomatch z⟩
     |ob _=>cases z
  ·rw[List.getElem?_replicate]at e
   split at e
   ·cases e
   ·cases e
 ow:=fun i j x y v e1 e2 o1 o2 _ _=>by
  unfold jbf at e1
  rw[List.getElem?_append]at e1
  split at e1
  ·rw[List.getElem?_map]at e1
   cases q:ws[i]? with
   |none=>rw[q]at e1;cases e1
   |some y =>
    rw[q]at e1
    cases e1
    cases o1
  ·rw[List.getElem?_replicate]at e1
   split at e1
   ·cases e1
   ·cases e1
 len:=by
  unfold L2.start jbf
  rw[List.length_append,List.length_append,List.length_map,List.length_map,List.length_replicate,List.length_replicate,r.len]
section
variable {P:Program} {w:World} {K:PySem.W.Frag} {mg:Str→Option Value} {base:Heap}
theorem Fun.okD {x qual:Str} {st:Stmt} {f:Addr} {fd:FuncData} {N ps:List Str} {k:Nat} {S:DSp} (F:Fun K x qual st f fd) (Sc:FnScope N ps (jae st)) (len:∀ws n Q,S ws n Q→ws.length=ps.length)
  (hbody:∀(cdv:Value) (A:Around) (outer:List Env) (s:Shared) (H:Hp) (E:XK),Room k (A.deeper (PyProof.Rows.envOfC qual (jae st) s.heap.objs.size f cdv)) →
   ∃T W,DSs (cxOf CX0 P w K mg base N qual (jae st) f cdv A outer s H E).nox (jat st) T W∧∀ws n Q,S ws n Q→W (jbf N ws) n {nx:=fun _ n=>Q (.d .none) n,rt:=Q}):FnOk P w K mg base CX0 (k+1) f fd ps (spOf S):=by
 refine F.ok Sc (fun vs H Q E h=>?_) (fun cdv A outer s H vs Q E hr h=>?_)
 ·obtain⟨t,l,ns,B,ws,n,Q0,_,_,_,r,q,_⟩:=h
  rw[r.len]
  exact len ws n Q0 q
 ·obtain⟨t,l,ns,B,ws,n,Q0,T,bt,ba,r,q,kk⟩:=h
  obtain⟨T',W,d,hw⟩:=hbody cdv A outer s H E hr
  refine⟨T',d.ps,d.sd ⟨t,l,ns,H,B,fun _=>none⟩ H B _ _ n _ _ (jlk T bt ba r) (hw ws n Q0 q) ⟨?_,?_,?_,?_,fun _ _ _ _ _ _ _ _ _ _ _ _ _ z=>z.elim⟩⟩
  ·exact fun H' B' σ δ n' R' q'=>kk _ _ q' .non H' R'.tp R'.kp (show RdX H' B .non .none from .non)
  ·exact fun H' B' σ δ n' v x R' r' q'=>kk _ _ q' v H' R'.tp R'.kp (r'.less R'.b0)
  ·exact fun _ _ _ _ _ _ z=>z.elim
  ·exact fun _ _ _ _ _ _ z=>z.elim
end
section
variable {X:Cx} {a b c e:Expr} {ta tb tc te:TE} {wa wb wc we:DT} {pos p:Pos}
noncomputable def gI (Cd:Int→Int→Prop) (f:Int→Int→PyData):Wv→Wv→Int→DQ→Prop:=fun x y n Q=>match x,y with
 |.d (.int i),.d (.int j)=>Cd i j∧Q (.d (f i j)) n
 |_,_=>False
noncomputable def gI0 (f:Int→Int→PyData):Wv→Wv→Int→DQ→Prop:=fun x y n Q=>match x,y with
 |.d (.int i),.d (.int j)=>Q (.d (f i j)) n
 |_,_=>False
theorem jqc {g:Int→Int→V} {f:Int→Int→PyData} (h:∀i j H B,RdX H B (g i j) (f i j)):SndO (rI0 g) (gI0 f):=fun C H B σ δ n x y p q Q Q' R rx ry h1 k=>by
 unfold gI0 at h1
 split at h1
 ·rename_i i j
  cases(show RdX H B x (.int i)from rx)
  cases(show RdX H B y (.int j)from ry)
  exact⟨i,j,rfl,rfl,k _ _ H n R (Kp.refl _ _) (wd (h i j H B)) h1⟩
 ·exact h1.elim
theorem jxv (ha:DE X a ta wa) (hb:DE X b tb wb):DE X (.BinOp a .Sub b pos) (tOp (rI0 fun i j=>.int (i - j)) ta tb) (w2 wa wb (gI0 fun i j=>.int (i - j))):=d_op jzi (jqc fun _ _ _ _=>.int _) ha hb
noncomputable def gAdd:Wv→Wv→Int→DQ→Prop:=fun x y n Q=>match x,y with
 |.d (.int i),.d (.int j)=>Q (.d (.int (i+j))) n
 |.d (.str i),.d (.str j)=>i.length+j.length≤sizeLine∧Q (.d (.str (i++j))) n
 |.d (.tuple i),.d (.tuple j)=>(i≠[]∨j≠[])∧i.length+j.length≤sizeLine∧Q (.d (.tuple (i++j))) n
 |.d (.list i),.d (.list j)=>i.length+j.length≤sizeLine∧Q (.d (.list (i++j))) n
 |_,_=>False
noncomputable def gCmp (f:Int→Int→Bool) (h:List Nat→List Nat→Bool):Wv→Wv→Int→DQ→Prop:=fun x y n Q=>match x,y with
 |.d (.int i),.d (.int j)=>Q (.d (.bool (f i j))) n
 |.d (.str i),.d (.str j)=>Q (.d (.bool (h i.cps.toList j.cps.toList))) n
 |_,_=>False
theorem jqf {f:Int→Int→Bool} {h:List Nat→List Nat→Bool}:SndO (fun x y H Q=>(rI0 fun i j=>.bl (f i j)) x y H Q∨∃i j,x=.str i∧y=.str j∧Q (.bl (h i.cps.toList j.cps.toList)) H) (gCmp f h):=fun C H B σ δ n x y p q Q Q' R rx ry h1 k=>by
 unfold gCmp at h1
 split at h1
 ·rename_i i j
  cases(show RdX H B x (.int i)from rx)
  cases(show RdX H B y (.int j)from ry)
  exact .inl ⟨i,j,rfl,rfl,k _ _ H n R (Kp.refl _ _) (wd (.bl _)) h1⟩
 ·rename_i i j
  cases(show RdX H B x (.str i)from rx)
  cases(show RdX H B y (.str j)from ry)
  exact .inr ⟨i,j,rfl,rfl,k _ _ H n R (Kp.refl _ _) (wd (.bl _)) h1⟩
 ·exact h1.elim
noncomputable abbrev gLt:=gCmp (fun i j=>decide (i < j)) (fun i j=>decide (i < j))
noncomputable abbrev gGt:=gCmp (fun i j=>decide (j < i)) (fun i j=>decide (j < i))
noncomputable def rLtA:R2:=fun x y H Q=>(rI0 fun i j=>.bl (decide (i < j))) x y H Q∨∃i j,x=.str i∧y=.str j∧Q (.bl (decide (i.cps.toList < j.cps.toList))) H
theorem jhh:OpR X (compareOp .Lt) rLtA:=op_lt.or jq4
noncomputable def rGtA:R2:=fun x y H Q=>(rI0 fun i j=>.bl (decide (j < i))) x y H Q∨∃i j,x=.str i∧y=.str j∧Q (.bl (decide (j.cps.toList < i.cps.toList))) H
theorem jvi:OpR X (compareOp .Gt) rGtA:=op_gt.or jq6
theorem jhf:SndO rLtA gLt:=jqf (f:=fun i j=>decide (i < j)) (h:=fun i j=>decide (i < j))
theorem ju7:SndO rGtA gGt:=jqf (f:=fun i j=>decide (j < i)) (h:=fun i j=>decide (j < i))
noncomputable def eqD:PyData→PyData→Option Bool
 |.none,.none=>some true
 |.none,.int _=>some false
 |.int _,.none=>some false
 |.none,.bool _=>some false
 |.bool _,.none=>some false
 |.none,.str _=>some false
 |.str _,.none=>some false
 |.int i,.int j=>some (decide (i=j))
 |.bool i,.bool j=>some (decide (i=j))
 |.str i,.str j=>some (decide (i=j))
 |.int _,.str _=>some false
 |.str _,.int _=>some false
 |.bool _,.str _=>some false
 |.str _,.bool _=>some false
 |.list _,.str _=>some false
 |.tuple _,.str _=>some false
 |.dict _,.str _=>some false
 |.list xs,.list []=>some xs.isEmpty
 |_,_=>none
noncomputable def jtj:R2:=fun x y H Q=>∃d h B,RdX H B x d∧y=.str h∧Q (.bl (ja2 h d)) H
theorem jkp (x y:Str):decide (V.str x=V.str y)=decide (x=y):=by
 by_cases z:x=y
 ·rw[z,decide_eq_true rfl,decide_eq_true rfl]
 ·rw[decide_eq_false z,decide_eq_false fun w=>z (V.str.inj w)]
theorem joj (x y:Int):decide (V.int x=V.int y)=decide (x=y):=by
 by_cases z:x=y
 ·rw[z,decide_eq_true rfl,decide_eq_true rfl]
 ·rw[decide_eq_false z,decide_eq_false fun w=>z (V.int.inj w)]
theorem jr6 (x y:Bool):decide (V.bl x=V.bl y)=decide (x=y):=by
 by_cases z:x=y
 ·rw[z,decide_eq_true rfl,decide_eq_true rfl]
 ·rw[decide_eq_false z,decide_eq_false fun w=>z (V.bl.inj w)]
theorem jxd (hu:X.A.units < cLine):OpR X (compareOp .Eq) jtj:=by
 intro pins s σ H x y v u Q I rx ry h
 obtain⟨d,hh,B,hd,rfl,q⟩:=h
 cases hd with
 |non=>exact op_eq pins s σ H _ _ v u Q I rx ry ⟨rfl,q⟩
 |bl b=>exact op_eq pins s σ H _ _ v u Q I rx ry ⟨rfl,q⟩
 |int i=>exact op_eq pins s σ H _ _ v u Q I rx ry ⟨rfl,q⟩
 |str x hx =>
  refine op_eq pins s σ H _ _ v u Q I rx ry ⟨rfl,?_⟩
  rw[jkp]
  exact q
 |@lst a xs ds h1 h2 h3 h4 =>
  cases(show v=Value.ref a from rx)
  obtain⟨t,rfl⟩:=(show ∃t,u=Value.str hh t from ry)
  obtain⟨its,_,p,_⟩:=I.list (SqL.of (K:=X.K) h1)
  exact PySem.SeqAt.RcAt.list_str hh t p.isList hu _ _ _ _ ⟨.bl false,H,I,rfl,q⟩
 |@tup a xs ds h1 h2 h3 h4 =>
  cases(show v=Value.ref a from rx)
  obtain⟨t,rfl⟩:=(show ∃t,u=Value.str hh t from ry)
  obtain⟨its,_,p,_⟩:=I.tuple (SqT.of (K:=X.K) h1)
  exact PySem.SeqAt.RcAt.tuple_str hh t (show s.heap.IsTuple a its.toArray from p) hu _ _ _ _ ⟨.bl false,H,I,rfl,q⟩
noncomputable def gEq:Wv→Wv→Int→DQ→Prop:=fun x y n Q=>match x,y with
 |.d a,.d b=>match eqD a b with
  |some r=>Q (.d (.bool r)) n
  |none=>False
 |_,_=>False
theorem jzk (hu:X.A.units < cLine):OpR X (compareOp .Eq) (fun x y H Q=>rEq x y H Q∨jtj x y H Q∨jnw X.K x y H Q):=op_eq.or ((jxd hu).or (jty hu))
theorem jyl {K:PySem.W.Frag}:SndO (fun x y H Q=>rEq x y H Q∨jtj x y H Q∨jnw K x y H Q) gEq:=fun C H B σ δ n x y p q Q Q' R rx ry h1 k=>by
 unfold gEq at h1
 split at h1
 ·rename_i da db
  have rx:RdX H B x da:=rx
  have ry:RdX H B y db:=ry
  have fin:∀r:Bool,Q (.d (.bool r)) n→Q' (.bl r) H:=fun r q=>k _ _ H n R (Kp.refl _ _) (wd (.bl r)) q
  split at h1
  ·rename_i r er
   have h1:=fin r h1
   cases rx with
   |non=>cases ry<;>first | (cases er;done) | (cases er;exact .inl ⟨rfl,h1⟩)
   |bl i=>cases ry<;>first | (cases er;done) | (cases er;exact .inl ⟨rfl,by first | exact h1 | (rw[jr6];exact h1)⟩)
   |int i=>cases ry<;>first | (cases er;done) | (cases er;exact .inl ⟨rfl,by first | exact h1 | (rw[joj];exact h1)⟩)
   |str i hi=>cases ry<;>first | (cases er;done) | (cases er;exact .inl ⟨rfl,by first | exact h1 | (rw[jkp];exact h1)⟩)
   |@lst ax xs ds e1 e2 e3 e4 =>
    cases ry with
    |str j hj=>cases er;exact .inr (.inl ⟨_,j,B,.lst e1 e2 e3 e4,rfl,h1⟩)
    |@lst ay ys es f1 f2 f3 f4 =>
     cases f4 with
     |nil =>
      have er:some ds.isEmpty=some r:=er
      cases er
      refine .inr (.inr ⟨ax,ay,xs,rfl,rfl,SqL.of e1,SqL.of f1,?_⟩)
      have:xs.isEmpty=ds.isEmpty:=by cases e4<;>rfl
      rw[this]
      exact h1
     |cons _ _=>cases er
    |_=>cases er
   |@tup ax xs ds e1 e2 e3 e4 =>
    cases ry with
    |str j hj=>cases er;exact .inr (.inl ⟨_,j,B,.tup e1 e2 e3 e4,rfl,h1⟩)
    |_=>cases er
  ·exact h1.elim
 ·exact h1.elim
noncomputable def neD (a b:PyData):Option Bool:=match a,b with
 |.list _,_=>none
 |.tuple _,_=>none
 |a,b=>(eqD a b).map not
noncomputable def gNe:Wv→Wv→Int→DQ→Prop:=fun x y n Q=>match x,y with
 |.d a,.d b=>match neD a b with
  |some r=>Q (.d (.bool r)) n
  |none=>False
 |_,_=>False
theorem jns:SndO rNe gNe:=fun C H B σ δ n x y p q Q Q' R rx ry h1 k=>by
 unfold gNe at h1
 split at h1
 ·rename_i da db
  have rx:RdX H B x da:=rx
  have ry:RdX H B y db:=ry
  have fin:∀r:Bool,Q (.d (.bool r)) n→Q' (.bl r) H:=fun r q=>k _ _ H n R (Kp.refl _ _) (wd (.bl r)) q
  split at h1
  ·rename_i r er
   have h1:=fin r h1
   cases rx with
   |non=>cases ry<;>first | (cases er;done) | (cases er;exact⟨rfl,h1⟩)
   |bl i=>cases ry<;>first | (cases er;done) | (cases er;exact⟨rfl,by first | exact h1 | (rw[jr6];exact h1)⟩)
   |int i=>cases ry<;>first | (cases er;done) | (cases er;exact⟨rfl,by first | exact h1 | (rw[joj];exact h1)⟩)
   |str i hi=>cases ry<;>first | (cases er;done) | (cases er;exact⟨rfl,by first | exact h1 | (rw[jkp];exact h1)⟩)
   |lst _ _ _ _=>cases er
   |tup _ _ _ _=>cases er
  ·exact h1.elim
 ·exact h1.elim
noncomputable def jb5:PyData→Bool
 |.none=>true
 |_=>false
noncomputable def gIsN (neg:Bool):Wv→Wv→Int→DQ→Prop:=fun x y n Q=>match x,y with
 |.d a,.d .none=>Q (.d (.bool (if neg then !jb5 a else jb5 a))) n
 |_,_=>False
theorem jn6 {H:Hp} {B:Addr→Prop} {v:V} {d:PyData} (h:RdX H B v d):decide (v=.non)=jb5 d:=by cases h<;>rfl
theorem jm0:SndO (fun x y H Q=>y=.non∧Q (.bl (decide (x=.non))) H) (gIsN false):=fun C H B σ δ n x y p q Q Q' R rx ry h1 k=>by
 unfold gIsN at h1
 split at h1
 ·rename_i da
  cases(show RdX H B y .none from ry)
  exact⟨rfl,k _ _ H n R (Kp.refl _ _) (wd (show RdX H B _ (.bool (jb5 da))from by rw[jn6 rx];exact .bl _)) h1⟩
 ·exact h1.elim
theorem jg6:SndO (fun x y H Q=>y=.non∧Q (.bl (!decide (x=.non))) H) (gIsN true):=fun C H B σ δ n x y p q Q Q' R rx ry h1 k=>by
 unfold gIsN at h1
 split at h1
 ·rename_i da
  cases(show RdX H B y .none from ry)
  exact⟨rfl,k _ _ H n R (Kp.refl _ _) (wd (show RdX H B _ (.bool (!jb5 da))from by rw[jn6 rx];exact .bl _)) h1⟩
 ·exact h1.elim
noncomputable def jd5:PyData→Bool
 |.none=>true
 |.bool _=>true
 |.int _=>true
 |.str _=>true
 |_=>false
noncomputable def eqF:PyData→PyData→Bool
 |.none,.none=>true
 |.bool a,.bool b=>a==b
 |.bool a,.int b=>(if a then 1 else 0)==b
 |.int a,.bool b=>a==(if b then 1 else 0)
 |.int a,.int b=>a==b
 |.str a,.str b=>a==b
 |_,_=>false
noncomputable def inD (x:PyData) (ds:List PyData):Bool:=ds.any fun y=>eqF y x
theorem jgd {H:Hp} {B:Addr→Prop} {v:V} {d:PyData} (h:RdX H B v d) (f:jd5 d=true):jg2 v=true:=by cases h<;>first | rfl | cases f
theorem jd4 {H:Hp} {B:Addr→Prop}:∀{vs:List V} {ds:List PyData},RdXs H B vs ds→ds.all jd5=true→vs.all jg2=true
 |_,_,.nil,_=>rfl
 |_,_,.cons h r,f=>by
  rw[List.all_cons,Bool.and_eq_true]at f ⊢
  exact⟨jgd h f.1,jd4 r f.2⟩
theorem j0i {H:Hp} {B:Addr→Prop} {v u:V} {d e:PyData} (h:RdX H B v d) (h2:RdX H B u e):eqV v u=eqF d e:=by cases h<;>cases h2<;>rfl
theorem jjj {H:Hp} {B:Addr→Prop} {v:V} {d:PyData} (h:RdX H B v d):∀{vs:List V} {ds:List PyData},RdXs H B vs ds→inV v vs=inD d ds
 |_,_,.nil=>rfl
 |_,_,.cons h1 r=>by
  have:=jjj h r
  unfold inV inD at this ⊢
  rw[List.any_cons,List.any_cons,this,j0i h1 h]
noncomputable def gIn (neg:Bool):Wv→Wv→Int→DQ→Prop:=fun x y n Q=>match x,y with
 |.d a,.d (.tuple ds)=>jd5 a=true∧ds.all jd5=true∧Q (.d (.bool (if neg then !inD a ds else inD a ds))) n
 |.d a,.d (.list ds)=>jd5 a=true∧ds.all jd5=true∧Q (.d (.bool (if neg then !inD a ds else inD a ds))) n
 |_,_=>False
theorem jd7 {K:PySem.W.Frag} {neg:Bool}:SndO (rIn K neg) (gIn neg):=fun C H B σ δ n x y p q Q Q' R rx ry h1 k=>by
 unfold gIn at h1
 split at h1
 ·rename_i da ds
  obtain⟨f1,f2,q⟩:=h1
  have rx:RdX H B x da:=rx
  cases(show RdX H B y (.tuple ds)from ry)with
  |@tup ay ys _ e1 e2 e3 e4 =>
   refine⟨ay,ys,rfl,.inr (SqT.of e1),jgd rx f1,jd4 e4 f2,?_⟩
   rw[jjj rx e4]
   exact k _ _ H n R (Kp.refl _ _) (wd (.bl _)) q
 ·rename_i da ds
  obtain⟨f1,f2,q⟩:=h1
  have rx:RdX H B x da:=rx
  cases(show RdX H B y (.list ds)from ry)with
  |@lst ay ys _ e1 e2 e3 e4 =>
   refine⟨ay,ys,rfl,.inl (SqL.of e1),jgd rx f1,jd4 e4 f2,?_⟩
   rw[jjj rx e4]
   exact k _ _ H n R (Kp.refl _ _) (wd (.bl _)) q
 ·exact h1.elim
noncomputable def gIx:Wv→Wv→Int→DQ→Prop:=fun x y n Q=>match x,y with
 |.d (.list ds),.d (.int i)=>match atI ds i with
  |some d=>Q (.d d) n
  |none=>False
 |.d (.tuple ds),.d (.int i)=>match atI ds i with
  |some d=>Q (.d d) n
  |none=>False
 |.d (.str z),.d (.int i)=>match atI z.cps.toList i with
  |some c=>Q (.d (.str ⟨#[c]⟩)) n
  |none=>False
 |_,_=>False
theorem jsq {H:Hp} {B:Addr→Prop} {vs:List V} {ds:List PyData} {i:Int} {d:PyData} (r:RdXs H B vs ds) (h:atI ds i=some d):∃v,atI vs i=some v∧RdX H B v d:=by
 unfold atI at h ⊢
 rw[r.len]
 cases e:ixN ds.length i with
 |none=>rw[e]at h;cases h
 |some j =>
  rw[e]at h
  exact r.getD h
theorem ji5 {K:PySem.W.Frag}:SndO (rIx K) gIx:=fun C H B σ δ n x y p q Q Q' R rx ry h1 k=>by
 unfold gIx at h1
 split at h1
 ·rename_i ds i
  split at h1
  ·rename_i d e
   cases(show RdX H B y (.int i)from ry)
   cases(show RdX H B x (.list ds)from rx)with
   |@lst ay ys _ e1 e2 e3 e4 =>
    obtain⟨v,f1,f2⟩:=jsq e4 e
    exact .inl ⟨ay,ys,i,v,rfl,rfl,SqL.of e1,f1,k _ _ H n R (Kp.refl _ _) (wd f2) h1⟩
  ·exact h1.elim
 ·rename_i ds i
  split at h1
  ·rename_i d e
   cases(show RdX H B y (.int i)from ry)
   cases(show RdX H B x (.tuple ds)from rx)with
   |@tup ay ys _ e1 e2 e3 e4 =>
    obtain⟨v,f1,f2⟩:=jsq e4 e
    exact .inr (.inl ⟨ay,ys,i,v,rfl,rfl,SqT.of e1,f1,k _ _ H n R (Kp.refl _ _) (wd f2) h1⟩)
  ·exact h1.elim
 ·rename_i z i
  split at h1
  ·rename_i c e
   cases(show RdX H B y (.int i)from ry)
   cases(show RdX H B x (.str z)from rx)with
   |str _ hz=>exact .inr (.inr ⟨z,i,c,rfl,rfl,hz,e,k _ _ H n R (Kp.refl _ _) (wd (show RdX H B _ (.str ⟨#[c]⟩)from .str _ (by show 1≤sizeLine;decide))) h1⟩)
  ·exact h1.elim
 ·exact h1.elim
theorem d_ix (ha:DE X a ta wa) (hb:DE X b tb wb) (hs:jh9 b:=by exact fun _ _=>rfl):DE X (.Subscript a b pos) (tOp (rIx X.K) ta tb) (w2 wa wb gIx):=⟨jf4 joc ha.pe hb.pe hs,ji4 ji5 ha.sd hb.sd⟩
noncomputable def gLen:List Wv→Int→DQ→Prop:=fun xs n Q=>match xs with
 |[.d (.str x)]=>Q (.d (.int x.length)) n
 |[.d (.list ds)]=>Q (.d (.int ds.length)) n
 |[.d (.tuple ds)]=>Q (.d (.int ds.length)) n
 |_=>False
theorem jsm:CallR X (.builtin "len") (fun xs H Q=>(∃z,xs=[.str z]∧z.length≤sizeLine∧Q (.int z.length) H)∨∃p ys,xs=[.ref p]∧(SqL X.K H p ys∨SqT X.K H p ys)∧Q (.int ys.length) H):=call_len_str.or jds
theorem jwm {K:PySem.W.Frag}:SndB (fun xs H Q=>(∃z,xs=[.str z]∧z.length≤sizeLine∧Q (.int z.length) H)∨∃p ys,xs=[.ref p]∧(SqL K H p ys∨SqT K H p ys)∧Q (.int ys.length) H) gLen:=fun C H B σ δ n vs xs Q Q' R r h k=>by
 unfold gLen at h
 split at h
 ·rename_i x
  cases r with
  |cons r1 r2 =>
   cases r2
   cases(show RdX H B _ (.str x)from r1)with
   |str _ hz=>exact .inl ⟨x,rfl,hz,k _ _ H n R (Kp.refl _ _) (wd (.int _)) h⟩
 ·rename_i ds
  cases r with
  |cons r1 r2 =>
   cases r2
   cases(show RdX H B _ (.list ds)from r1)with
   |@lst ay ys _ e1 e2 e3 e4 =>
    refine .inr ⟨ay,ys,rfl,.inl (SqL.of e1),?_⟩
    rw[e4.len]
    exact k _ _ H n R (Kp.refl _ _) (wd (.int _)) h
 ·rename_i ds
  cases r with
  |cons r1 r2 =>
   cases r2
   cases(show RdX H B _ (.tuple ds)from r1)with
   |@tup ay ys _ e1 e2 e3 e4 =>
    refine .inr ⟨ay,ys,rfl,.inr (SqT.of e1),?_⟩
    rw[e4.len]
    exact k _ _ H n R (Kp.refl _ _) (wd (.int _)) h
 ·exact h.elim
theorem jx9 {K:PySem.W.Frag} {H:Hp} {B:Addr→Prop} {v:V} {d:PyData} (h:RdX H B v d):TyOf K H v (.type (tyD d)):=by
 cases h with
 |non=>exact .non
 |bl b=>exact .bl b
 |int i=>exact .int i
 |str x h=>exact .str x
 |lst h1 h2 h3 h4=>exact .lst h1
 |tup h1 h2 h3 h4=>exact .tup h1
theorem j1e {K:PySem.W.Frag} {H:Hp} {B:Addr→Prop} {v:V} {d:PyData} (h:RdX H B v d) {T:String} (hT:T="int"∨T="bool"∨T="str"∨T="tuple"∨T="list"):PySem.W.kitOne K (.type (tyD d)) (.type T)=some (isiB T d):=by
 cases h<;>rcases hT with rfl | rfl | rfl | rfl | rfl<;>rfl
noncomputable def wIsi (T:String) (w:DT):DT:=fun δ n Q=>w δ n fun x n1=>match x with
 |.d d=>Q (.d (.bool (isiB T d))) n1
 |_=>False
theorem j1r {T:String} {x:Str} {p p2:Pos} (hT:T="int"∨T="bool"∨T="str"∨T="tuple"∨T="list") (hg:Gl X "isinstance") (hm:X.mg "isinstance"=none) (hg2:Gl X x) (hm2:X.mg x=none) (hv:bootBuiltins x=some (.type T)) (ha:DE X a ta wa) (hn:x≠"__name__":=by decide) (hdb:(x==("__debug__":Str))=false:=by decide)
  (he:starEach [a,.Name x p2] X.env=(false,eval a X.env)::starEach [.Name x p2] X.env:=by rfl) (he2:starEach [.Name x p2] X.env=(false,eval (.Name x p2) X.env)::starEach [] X.env:=by rfl) (hpl:(backTo pos (starEach [.Name x p2] X.env)).any (·.1)=false:=by rfl) :
  DE X (.Call (.Name "isinstance" p) [a,.Name x p2] [] pos) (tCB (fun xs H Q=>∃x t b,xs=[x,.ty T]∧TyOf X.K H x t∧PySem.W.kitOne X.K t (.type T)=some b∧Q (.bl b) H) (jcw ta (jcw (tC (.ty T)) tNil))) (wIsi T wa) :=
 ⟨jc2 (joo (T:=T)) hg hm jv2 (jav ha.pe (jav (jq2 (v:=.ty T) hg2 hm2 hv rfl hn hdb) jb2 he2) he) (by decide) (by decide) he hpl,fun C H B σ δ n Q Q' R q k=>ha.sd C H B σ δ n _ _ R q fun v x H1 n1 R1 k1 r1 q1=>by
  cases x with
  |d d=>exact⟨v,_,_,rfl,jx9 r1,j1e (show RdX H1 B v d from r1) hT,k _ _ H1 n1 R1 k1 (wd (.bl _)) q1⟩
  |tp=>exact q1.elim
  |dk _=>exact q1.elim
  |ln _=>exact q1.elim
  |ob _=>exact q1.elim⟩
noncomputable def juj:List Wv→Int→DQ→Prop:=fun xs n Q=>match xs with
 |[.d (.list ds)]=>Small (.list ds)∧Q (.d (.str (PyData.shown (.list ds)))) n
 |[.d (.tuple ds)]=>Small (.tuple ds)∧Q (.d (.str (PyData.shown (.tuple ds)))) n
 |_=>False
theorem js5 {K:PySem.W.Frag}:SndB (fun xs H Q=>∃a d,xs=[.ref a]∧RdD K H (.ref a) d∧Small d∧Q (.str d.shown) H) juj:=fun C H B σ δ n vs xs Q Q' R r h k=>by
 unfold juj at h
 split at h
 ·rename_i ds
  cases r with
  |cons r1 r2 =>
   cases r2
   cases(show RdX H B _ (.list ds)from r1)with
   |@lst ay ys _ e1 e2 e3 e4=>exact⟨ay,_,rfl,(RdX.lst e1 e2 e3 e4).rd,h.1,k _ _ H n R (Kp.refl _ _) (wd (show RdX H B _ (.str _)from .str _ h.1.len)) h.2⟩
 ·rename_i ds
  cases r with
  |cons r1 r2 =>
   cases r2
   cases(show RdX H B _ (.tuple ds)from r1)with
   |@tup ay ys _ e1 e2 e3 e4=>exact⟨ay,_,rfl,(RdX.tup e1 e2 e3 e4).rd,h.1,k _ _ H n R (Kp.refl _ _) (wd (show RdX H B _ (.str _)from .str _ h.1.len)) h.2⟩
 ·exact h.elim
noncomputable def je0:List Wv→Int→DQ→Prop:=fun xs n Q=>match xs with
 |[.d (.list ds)]=>Q (.d (.tuple ds)) n
 |[.d (.tuple ds)]=>Q (.d (.tuple ds)) n
 |_=>False
theorem jqa {K:PySem.W.Frag}:SndB (fun xs H Q=>∃p ys,xs=[.ref p]∧((SqL K H p ys∧∀l,H l=none→Q (.ref l) (upd H l (.tup ys)))∨(SqT K H p ys∧Q (.ref p) H))) je0:=fun C H B σ δ n vs xs Q Q' R r h k=>by
 unfold je0 at h
 split at h
 ·rename_i ds
  cases r with
  |cons r1 r2 =>
   cases r2
   cases(show RdX H B _ (.list ds)from r1)with
   |@lst ay ys _ e1 e2 e3 e4 =>
    refine⟨ay,ys,rfl,.inl ⟨SqL.of e1,fun l hl=>?_⟩⟩
    exact k _ _ _ n (R.new hl) (Kp.new hl) (wd (show RdX _ B _ (.tuple ds)from .tup jan (R.nb hl) e3 ((e4.fresh hl).less fun b z=>.inl z))) h
 ·rename_i ds
  cases r with
  |cons r1 r2 =>
   cases r2
   cases(show RdX H B _ (.tuple ds)from r1)with
   |@tup ay ys _ e1 e2 e3 e4=>exact⟨ay,ys,rfl,.inr ⟨SqT.of e1,k _ _ H n R (Kp.refl _ _) (wd (show RdX H B _ (.tuple ds)from .tup e1 e2 e3 e4)) h⟩⟩
 ·exact h.elim
end
structure ItOk (fz:Hp) (J:It) (ds:List PyData):Prop where
 le:ds.length≤sizeLine
 go:∀i H,(∀b o,fz b=some o→H b=some o)→i < ds.length→J.go i H
 stop:∀H,(∀b o,fz b=some o→H b=some o)→J.stop ds.length H
 yld:∀i H x H' d,(∀b o,fz b=some o→H b=some o)→ds[i]?=some d→J.yld i H x H'→Same H H'∧∀B,(∀b o,fz b=some o→¬B b)→(∀b,B b→H b≠none)→RdX H' B x d
noncomputable def thaw (H:Hp) (B:Addr→Prop) (fz:Hp):Prop:=(∀b o,fz b=some o→H b=some o∧¬B b)∧∀b o,H b=some o→¬B b→fz b=some o
noncomputable abbrev DTI:=Sl→Int→(List PyData→Int→Prop)→Prop
noncomputable def SndI (wi:TI) (v:DTI):Prop:=∀(C:Ctx) (H:Hp) (B:Addr→Prop) (σ:St) (δ:Sl) (n:Int) (Q:List PyData→Int→Prop) (Q':It→Hp→Prop),Rel C H B σ δ n→v δ n Q →
 (∀J ds H' n',Rel C H' B σ δ n'→Kp C.t H H'→(∀fz,thaw H' B fz→ItOk fz J ds)→Q ds n'→Q' J H')→wi σ H Q'
structure DI (X:Cx) (tg iter:Expr) (wi:TI) (v:DTI):Prop where
 pi:PI X tg iter wi
 sd:SndI wi v
section
variable {X:Cx} {tg a b c e:Expr} {ta tb te:TE} {wa wb we:DT} {pos p:Pos}
noncomputable def jim (w:DT):DTI:=fun δ n Q=>w δ n fun x n1=>match x with
 |.d (.list ds)=>Q ds n1
 |_=>False
noncomputable def jef (w:DT):DTI:=fun δ n Q=>w δ n fun x n1=>match x with
 |.d (.tuple ds)=>Q ds n1
 |_=>False
theorem jz8 (ha:DE X a ta wa):DI X tg a (jxo X.K ta) (jim wa):=⟨jw0 ha.pe,fun C H B σ δ n Q Q' R q k=>ha.sd C H B σ δ n _ _ R q fun v x H1 n1 R1 k1 r1 q1=>by
 split at q1
 ·rename_i ds
  cases(show RdX H1 B v (.list ds)from r1)with
  |@lst ay ys _ e1 e2 e3 e4 =>
   refine⟨ay,rfl,⟨ys,SqL.of e1⟩,k _ ds H1 n1 R1 k1 (fun fz th=>?_) q1⟩
   have hfz:fz ay=some (.lst ys):=th.2 _ _ e1 e2
   refine⟨by rw[←e4.len];exact e3,fun i H hH hi=>?_,fun H hH=>?_,fun i H x H' d hH hd hy=>?_⟩
   ·rw[←e4.len]at hi
    exact⟨ys,ys[i],SqL.of (hH _ _ hfz),List.getElem?_eq_getElem hi⟩
   ·exact⟨ys,SqL.of (hH _ _ hfz),by rw[e4.len];exact Nat.le_refl _⟩
   ·obtain⟨rfl,hy⟩:=hy
    refine⟨fun _ _ z=>z,fun B' hB hBa=>?_⟩
    obtain⟨u,hu,ru⟩:=e4.getD hd
    have:=hy _ (SqL.of (hH _ _ hfz))
    rw[hu]at this
    cases this
    exact ru.move fun b o e ne=>⟨hH _ _ (th.2 _ _ e ne),hB _ _ (th.2 _ _ e ne)⟩
 ·exact q1.elim⟩
theorem j1j (ha:DE X a ta wa):DI X tg a (iTup X.K ta) (jef wa):=⟨jza ha.pe,fun C H B σ δ n Q Q' R q k=>ha.sd C H B σ δ n _ _ R q fun v x H1 n1 R1 k1 r1 q1=>by
 split at q1
 ·rename_i ds
  cases(show RdX H1 B v (.tuple ds)from r1)with
  |@tup ay ys _ e1 e2 e3 e4 =>
   refine⟨ay,rfl,⟨ys,SqT.of e1⟩,k _ ds H1 n1 R1 k1 (fun fz th=>?_) q1⟩
   have hfz:fz ay=some (.tup ys):=th.2 _ _ e1 e2
   refine⟨by rw[←e4.len];exact e3,fun i H hH hi=>?_,fun H hH=>?_,fun i H x H' d hH hd hy=>?_⟩
   ·rw[←e4.len]at hi
    exact⟨ys,ys[i],SqT.of (hH _ _ hfz),List.getElem?_eq_getElem hi⟩
   ·exact⟨ys,SqT.of (hH _ _ hfz),by rw[e4.len];exact Nat.le_refl _⟩
   ·obtain⟨rfl,hy⟩:=hy
    refine⟨fun _ _ z=>z,fun B' hB hBa=>?_⟩
    obtain⟨u,hu,ru⟩:=e4.getD hd
    have:=hy _ (SqT.of (hH _ _ hfz))
    rw[hu]at this
    cases this
    exact ru.move fun b o e ne=>⟨hH _ _ (th.2 _ _ e ne),hB _ _ (th.2 _ _ e ne)⟩
 ·exact q1.elim⟩
noncomputable def rngD (lo:Int) (n:Nat):List PyData:=(List.range n).map fun i=>.int (lo+(i:Nat))
noncomputable def jaz (w:DT):DTI:=fun δ n Q=>w δ n fun x n1=>match x with
 |.d (.int j)=>(-(2 ^ 62)≤j∧j≤1000000)∧Q (rngD 0 j.toNat) n1
 |_=>False
theorem jub (fz:Hp) (lo:Int) (n:Nat) (hn:n≤1000000):ItOk fz (Itr lo n) (rngD lo n):=by
 have hl:(rngD lo n).length=n:=by unfold rngD;simp
 refine⟨?_,fun i H hH hi=>?_,fun H hH=>?_,fun i H y H' d hH hd hy=>?_⟩
 ·rw[hl];exact Nat.le_trans hn (by decide)
 ·rw[hl]at hi;exact hi
 ·show n≤(rngD lo n).length
  rw[hl]
  exact Nat.le_refl _
 ·obtain⟨rfl,rfl⟩:=hy
  refine⟨fun _ _ z=>z,fun B' hB hBa=>?_⟩
  unfold rngD at hd
  rw[List.getElem?_map]at hd
  cases e:(List.range n)[i]? with
  |none=>rw[e]at hd;cases hd
  |some j =>
   rw[e]at hd
   have:j=i:=by
    obtain⟨h1,h2⟩:=List.getElem?_eq_some_iff.mp e
    rw[List.getElem_range]at h2
    exact h2.symm
   subst this
   cases hd
   exact .int _
theorem jbr {p:Pos} (hg:Gl X "range") (hm:X.mg "range"=none) (ha:DE X a ta wa) (hs:starEach [a] X.env=[(false,eval a X.env)]:=by rfl):DI X tg (.Call (.Name "range" p) [a] [] pos) (j0a (jcw ta tNil)) (jaz wa):=⟨jqz hg hm (jav ha.pe jb2 hs) hs,fun C H B σ δ n Q Q' R q k=>ha.sd C H B σ δ n _ _ R q fun v x H1 n1 R1 k1 r1 q1=>by
 split at q1
 ·rename_i j
  cases(show RdX H1 B v (.int j)from r1)
  refine⟨j,rfl,q1.1.1,by have:=q1.1.2;have:(2:Int)^62=4611686018427387904:=(by decide);omega,k _ (rngD 0 j.toNat) H1 n1 R1 k1 (fun fz _=>jub fz 0 j.toNat (by have:=q1.1.2;omega)) q1.2⟩
 ·exact q1.elim⟩
end
noncomputable abbrev DTG:=PyData→Sl→(Sl→Prop)→Prop
noncomputable def SndG (g:TG) (v:DTG):Prop:=∀(C:Ctx) (H:Hp) (B:Addr→Prop) (σ:St) (δ:Sl) (n:Int) (x:V) (d:PyData) (Q:Sl→Prop) (Q':St→Hp→Prop),Rel C H B σ δ n→RdX H B x d→v d δ Q →
 (∀σ' δ',Rel C H B σ' δ' n→Q δ'→Q' σ' H)→g x σ H Q'
structure DG (X:Cx) (tg:Expr) (g:TG) (v:DTG):Prop where
 pg:PG X tg g
 sd:SndG g v
section
variable {X:Cx} {pos:Pos}
noncomputable def jak (i:Nat):DTG:=fun d δ Q=>Q (δ.set i (some (.w (.d d))))
theorem ja5 {i:Nat} {x:Str} (hN:X.N.Nodup) (hi:X.N[i]?=some x) (hx:Loc X.env.scope x) (hf:X.fn x=true∨X.env.scope.names.lookup x=some .local:=by first | exact .inl rfl | exact .inr rfl | assumption):DG X (.Name x pos) (jgc i) (jak i) :=
 ⟨jw3 hN hi hx hf,fun C H B σ δ n x d Q Q' R r q k=>k _ _ (R.set (x:=.d d) r rfl) q⟩
end
noncomputable def forD (g:DTG) (W:DST) (K:DEnds):List PyData→Sl→Int→Prop
 |[],δ,n=>K.nx δ n
 |d::r,δ,n=>g d δ fun δ'=>W δ' n {K with nx:=forD g W K r,ct:=forD g W K r,bk:=K.nx}
noncomputable def sFor (v:DTI) (g:DTG) (W:DST):DST:=fun δ n K=>v δ n fun ds n1=>forD g W K ds δ n1
noncomputable def fzOf (H:Hp) (B:Addr→Prop):Hp:=fun b=>open Classical in if B b then none else H b
theorem jhd (H:Hp) (B:Addr→Prop):thaw H B (fzOf H B):=by
 refine⟨fun b o e=>?_,fun b o e n=>?_⟩
 ·unfold fzOf at e
  split at e
  ·cases e
  ·rename_i h
   exact⟨e,h⟩
 ·unfold fzOf
  rw[if_neg n]
  exact e
theorem Rel.refz {C:Ctx} {H:Hp} {B:Addr→Prop} {σ:St} {δ:Sl} {n:Int} (R:Rel C H B σ δ n):Rel {C with fz:=fzOf H B} H B σ δ n :=
 ⟨R.tp,R.kp,R.t0,R.l0,R.g0,(jhd H B).1,R.bt,R.b0,R.ba,R.a0,R.sl,R.ow,R.len⟩
theorem Rel.unfz {C:Ctx} {fz:Hp} {H:Hp} {B:Addr→Prop} {σ:St} {δ:Sl} {n:Int} (R:Rel {C with fz:=fz} H B σ δ n) (h:∀b o,C.fz b=some o→fz b=some o):Rel C H B σ δ n :=
 ⟨R.tp,R.kp,R.t0,R.l0,R.g0,fun b o e=>R.fz b o (h b o e),R.bt,R.b0,R.ba,R.a0,R.sl,R.ow,R.len⟩
theorem Rel.same {C:Ctx} {H H':Hp} {B:Addr→Prop} {σ:St} {δ:Sl} {n:Int} (R:Rel C H B σ δ n) (k:Same H H'):Rel C H' B σ δ n:=by
 obtain⟨a,b,e,h⟩:=R.tp.ob
 exact R.step ⟨⟨a,b,k _ _ e,h⟩,k _ _ R.tp.ls,R.tp.len,fun z=>k _ _ (R.tp.ag z),R.tp.gne⟩ fun b o e _=>k b o e
section
variable {X:Cx} {tg iter:Expr} {body:List Stmt} {wi:TI} {v:DTI} {g:TG} {gd:DTG} {T:TS} {W:DST} {pos:Pos}
theorem jec (hi:DI X tg iter wi v) (hg:DG X tg g gd) (hb:DSs X body T W) (hp:PassesOwn (model X.prog X.w) X.A X.env X.xe:=by exact PassesOwn.never) (hc:X.calm=true:=by rfl)
  (hs:∀x,foldedSetIterable iter X.env x=pure x:=by intro _;rfl):DS X (.For tg iter body [] pos) (tFor wi g T) (sFor v gd W):=⟨jy8 hp hc hi.pi hg.pg hb.ps hs,fun C H B σ δ n K D R q E =>
 hi.sd C H B σ δ n _ _ R q fun J ds H1 n1 R1 k1 hJ q1=>by
  have ok:=hJ (fzOf H1 B) (jhd H1 B)
  have R1':=R1.refz
  have back:∀{H B' σ δ n},Rel {C with fz:=fzOf H1 B} H B' σ δ n→Rel C H B' σ δ n:=fun R=>R.unfz fun b o e=>(jhd H1 B).2 b o (R1.fz b o e).1 (R1.fz b o e).2
  refine⟨fun i m σ H=>m=ds.length - i∧i≤ds.length∧∃B' δ n,Rel {C with fz:=fzOf H1 B} H B' σ δ n∧forD gd W K (ds.drop i) δ n,⟨ds.length,by simp,Nat.zero_le _,B,δ,n1,R1',by simpa using q1⟩,?_⟩
  rintro i m σ2 H2 ⟨rfl,hi,B2,δ2,n2,R2,q2⟩
  have hfz:∀b o,fzOf H1 B b=some o→H2 b=some o:=fun b o e=>(R2.fz b o e).1
  by_cases hlt:i < ds.length
  ·rw[List.drop_eq_getElem_cons hlt]at q2
   refine .inr ⟨ok.go i H2 hfz hlt,fun σ3 H3=>∃B' δ n,Rel {C with fz:=fzOf H1 B} H3 B' σ3 δ n∧forD gd W K (ds.drop (i+1)) δ n,fun σ' H' z=>⟨ds.length - (i+1),by omega,rfl,hlt,z⟩,fun x H' hy=>?_⟩
   obtain⟨sm,rd⟩:=ok.yld i H2 x H' ds[i] hfz (List.getElem?_eq_getElem hlt) hy
   have R3:=R2.same sm
   refine hg.sd _ H' B2 σ2 δ2 n2 x ds[i] _ _ R3 (rd B2 (fun b o e=>(R2.fz b o e).2) R2.ba) q2 fun σ' δ' R4 q4=>?_
   refine hb.sd _ H' B2 σ' δ' n2 _ _ R4 q4 ⟨?_,?_,?_,?_,fun H B σ δ n a xs ds R h0 h1 h2 h3 q=>E.rn H B σ δ n a xs ds (back R) h0 h1 h2 h3 q⟩
   ·exact fun H B σ δ n R q=>⟨B,δ,n,R,q⟩
   ·exact fun H B σ δ n v w R r q=>E.rt H B σ δ n v w (back R) r q
   ·exact fun H B σ δ n R q=>E.nx H B σ δ n (back R) q
   ·exact fun H B σ δ n R q=>⟨B,δ,n,R,q⟩
  ·have e:i=ds.length:=by omega
   subst e
   rw[List.drop_length]at q2
   exact .inl ⟨ok.stop H2 hfz,E.nx H2 B2 σ2 δ2 n2 (back R2) q2⟩⟩
end
noncomputable def jkr (fr:List (Option Nat)) (δ:Sl):Sl:=fr.map fun o=>o.bind fun i=>match δ[i]? with
 |some (some (.w x))=>some (.w x)
 |some (some (.odk kvs))=>some (.w (.dk kvs))
 |some (some (.own ds))=>some (.w (.ln ds))
 |_=>none
noncomputable def jdw (g:DTG) (c:DTT) (w:DT) (Q:List PyData→Int→Prop):List PyData→List PyData→Sl→Int→Prop
 |[],acc,_,n=>Q acc n
 |d::r,acc,δ,n=>g d δ fun δ'=>c δ' n fun b n1=>if b=true then w δ' n1 fun x n2=>match x with
   |.d y=>jdw g c w Q r (acc++[y]) δ' n2
   |_=>False
  else jdw g c w Q r acc δ' n1
noncomputable def jcy (fr:List (Option Nat)) (v:DTI) (g:DTG) (c:DTT) (w:DT):DTF:=fun δ n Q=>v δ n fun ds n1=>jdw g c w Q ds [] (jkr fr δ) n1
structure DIf (X:Cx) (ifs:List Expr) (t:TT) (c:DTT):Prop where
 pf:PIf X ifs t
 sd:SndT t c
noncomputable def cYes:DTT:=fun _ n Q=>Q true n
theorem jrq {X:Cx}:DIf X [] jyc cYes:=⟨jwz,fun C H B σ δ n Q Q' R q k=>k true H n R (Kp.refl _ _) q⟩
theorem jl3 {X:Cx} {c:Expr} {t:TT} {cc:DTT} (h:DC X c t cc):DIf X [c] t cc:=⟨jwy h.pt,h.sd⟩
theorem jup (fr:List (Option Nat)) (σ:St):(capt fr σ).length=fr.length:=by unfold capt;rw[List.length_map]
theorem jsj (fr:List (Option Nat)) (δ:Sl):(jkr fr δ).length=fr.length:=by unfold jkr;rw[List.length_map]
theorem jhv {fr:List (Option Nat)} {δ:Sl} {j:Nat} {x:SV} (h:(jkr fr δ)[j]?=some (some x)):∃i y,fr[j]?=some (some i)∧δ[i]?=some (some y)∧((∃z,x=.w z∧y=.w z)∨(∃kvs,x=.w (.dk kvs)∧y=.odk kvs)∨∃ds,x=.w (.ln ds)∧y=.own ds):=by
 unfold jkr at h
 rw[List.getElem?_map]at h
 cases e:fr[j]? with
 |none=>rw[e]at h;cases h
 |some o =>
  rw[e]at h
  cases o with
  |none=>cases h
  |some i =>
   have h':=Option.some.inj h
   dsimp only[Option.bind]at h'
   split at h'
   ·rename_i z ez
    cases h'
    exact⟨i,_,rfl,ez,.inl ⟨z,rfl,rfl⟩⟩
   ·rename_i kvs ez
    cases h'
    exact⟨i,_,rfl,ez,.inr (.inl ⟨kvs,rfl,rfl⟩)⟩
   ·rename_i ds ez
    cases h'
    exact⟨i,_,rfl,ez,.inr (.inr ⟨ds,rfl,rfl⟩)⟩
   ·cases h'
theorem jx2 {fr:List (Option Nat)} {σ:St} {j i:Nat} {v:V} (h:fr[j]?=some (some i)) (h2:σ[i]?=some (some v)):(capt fr σ)[j]?=some (some v):=by
 unfold capt
 rw[List.getElem?_map,h]
 show some ((σ[i]?).bind id)=_
 rw[h2]
 rfl
theorem jtg {C:Ctx} {H:Hp} {B:Addr→Prop} {σ:St} {δ:Sl} {n:Int} {L:Addr} {fr:List (Option Nat)} (R:Rel C H B σ δ n) (hL:H L=none) :
  Rel ⟨C.t,C.l,C.ns,H,B,fzOf H B⟩ (upd H L (.lst [])) (fun b=>B b∨b=L) (capt fr σ) (jkr fr δ) n where
 tp:=R.tp.new hL
 kp:=Kp.new hL
 t0:=R.ba _ R.bt
 l0:=by
  show H C.l.s≠none
  rw[R.tp.ls]
  exact fun z=>nomatch z
 g0:=fun e=>by
  show H C.l.g≠none
  rw[R.tp.ag e]
  exact fun z=>nomatch z
 fz:=fun b o e=>by
  obtain⟨e1,e2⟩:=(jhd H B).1 b o e
  exact⟨by rw[jal (jai e1 hL)];exact e1,fun z=>z.elim e2 fun q=>jai e1 hL q⟩
 bt:=.inl R.bt
 b0:=fun b z=>.inl z
 ba:=fun b z e=>by
  by_cases q:b=L
  ·rw[q,jan]at e;cases e
  ·rw[jal q]at e
   exact R.ba b (z.resolve_right q) e
 a0:=R.ba
 sl:=fun j x e=>by
  have mv:∀b o',H b=some o'→¬B b→upd H L (.lst []) b=some o'∧¬(B b∨b=L):=fun b o' e n=>⟨by rw[jal (jai e hL)];exact e,fun z=>z.elim n fun q=>jai e hL q⟩
  obtain⟨i,y,e1,e2,hy⟩:=jhv e
  obtain⟨v,f1,f2⟩:=R.sl i y e2
  refine⟨v,jx2 e1 f1,?_⟩
  rcases hy with⟨z,rfl,rfl⟩ | ⟨kvs,rfl,rfl⟩ | ⟨ds,rfl,rfl⟩
  ·cases z with
   |d d=>exact⟨f2.1.move mv,fun z=>by cases z⟩
   |tp=>exact⟨f2.1,fun z=>by cases z⟩
   |ln ds =>
    obtain⟨a,l,g1,g2,g3,g4,g5⟩:=f2.1
    exact⟨⟨a,l,g1,by rw[jal (jai g2 hL)];exact g2,g3,g4,g5.move mv⟩,fun _=>⟨a,g1,by show H a≠none;rw[g2];exact fun z=>nomatch z⟩⟩
   |dk kvs =>
    obtain⟨a,l,g1,g2,g3,g4⟩:=f2.1
    exact⟨⟨a,l,g1,by rw[jal (jai g2 hL)];exact g2,g3,g4.move mv⟩,fun _=>⟨a,g1,by show H a≠none;rw[g2];exact fun z=>nomatch z⟩⟩
   |ob o =>
    refine⟨?_,fun z=>by cases z⟩
    cases o with
    |none=>exact f2.1
    |some d =>
     obtain⟨a,x,y,g1,g2,g3,g4⟩:=f2.1
     exact⟨a,x,y,g1,(mv _ _ g2 g3).1,(mv _ _ g2 g3).2,g4.move mv⟩
  ·obtain⟨a,l,g1,g2,g3,g4,g5,g6⟩:=f2
   exact⟨⟨a,l,g1,by rw[jal (jai g2 hL)];exact g2,fun z=>R.t0 (z▸g4),g6.move mv⟩,fun _=>⟨a,g1,by show H a≠none;rw[g2];exact fun z=>nomatch z⟩⟩
  ·obtain⟨a,l,g1,g2,g3,g4,g5,g6⟩:=f2
   exact⟨⟨a,l,g1,by rw[jal (jai g2 hL)];exact g2,fun z=>R.t0 (z▸g4),g5,g6.move mv⟩,fun _=>⟨a,g1,by show H a≠none;rw[g2];exact fun z=>nomatch z⟩⟩
 ow:=fun i j x y v e1 e2 o1 o2 _ _=>by
  obtain⟨_,_,_,_,hy⟩:=jhv e1
  rcases hy with⟨z,rfl,_⟩ | ⟨kvs,rfl,_⟩ | ⟨ds,rfl,_⟩
  ·cases o1
  ·cases o1
  ·cases o1
 len:=by rw[jup,jsj]
section
variable {X:Cx} {elt tg iter:Expr} {ifs:List Expr} {scope:Scope} {cl:List (Str×Addr)} {pos:Pos} {N:List Str} {fr:List (Option Nat)} {wi:TI} {v:DTI} {g:TG} {gd:DTG} {tt:TT} {cc:DTT} {te:TE} {we:DT}
noncomputable def jt1 (δ:Sl):Prop:=∀(i:Nat) (x:SV),δ[i]?=some (some x)→x.isOwn=false
theorem jur (fr:List (Option Nat)) (δ:Sl):jt1 (jkr fr δ):=fun i x e=>by
 obtain⟨_,_,_,_,hy⟩:=jhv e
 rcases hy with⟨z,rfl,_⟩ | ⟨kvs,rfl,_⟩ | ⟨ds,rfl,_⟩<;>rfl
noncomputable def jos (v:DTG):Prop:=∀d δ Q,jt1 δ→v d δ Q→v d δ fun δ'=>jt1 δ'∧Q δ'
theorem jee (i:Nat):jos (jak i):=fun d δ Q h q=>⟨fun j x e=>by
 rcases jaw e with⟨_,rfl⟩ | ⟨_,e'⟩
 ·rfl
 ·exact h j x e',q⟩
theorem jhr (hc:X.calm=true) (S:CompSc X N scope cl fr) (hi:DI X tg iter wi v) (hg:∀s H fp,DG (jbh X N scope cl s H fp) tg g gd) (ht:∀s H fp,DIf (jbh X N scope cl s H fp) ifs tt cc)
  (he:∀s H fp,DE (jbh X N scope cl s H fp) elt te we) (hno:jos gd) (hs:∀x,foldedSetIterable iter X.env x=pure x:=by intro _;rfl) :
  DF X (.ListComp elt [⟨tg,iter,ifs,0⟩] scope pos) (jpw fr wi g tt te) (jcy fr v gd cc we):=by
 refine⟨jw7 hc S hi.pi (fun s H fp=>(hg s H fp).pg) (fun s H fp=>(ht s H fp).pf) (fun s H fp=>(he s H fp).pe) hs,fun C H B σ δ n Q Q' R q k=>hi.sd C H B σ δ n _ _ R q fun J ds H1 n1 R1 k1 hJ q1=>fun L hL=>?_⟩
 have sg:=(hg X.s₀ X.H₀ []).sd
 have st:=(ht X.s₀ X.H₀ []).sd
 have se:=(he X.s₀ X.H₀ []).sd
 have ok:=hJ (fzOf H1 B) (jhd H1 B)
 have hLt:L≠C.t:=fun z=>R1.ba _ R1.bt (z▸hL)
 refine⟨fun i m ys τ H=>m=ds.length - i∧i≤ds.length∧ys.length≤i∧∃δ' n' acc,Rel ⟨C.t,C.l,C.ns,H1,B,fzOf H1 B⟩ H (fun b=>B b∨b=L) τ δ' n'∧jt1 δ'∧H L=some (.lst ys)∧RdXs H (fun b=>B b∨b=L) ys acc∧jdw gd cc we Q (ds.drop i) acc δ' n',
  ⟨ds.length,by simp,Nat.zero_le _,Nat.zero_le _,jkr fr δ,n1,[],jtg R1 hL,jur fr δ,jan,.nil,by simpa using q1⟩,?_⟩
 rintro i m ys τ H2 ⟨rfl,hi,hys,δ2,n2,acc,R2,no2,hL2,rd2,q2⟩
 have hfz:∀b o,fzOf H1 B b=some o→H2 b=some o:=fun b o e=>(R2.fz b o e).1
 by_cases hlt:i < ds.length
 ·rw[List.drop_eq_getElem_cons hlt]at q2
  refine .inr ⟨ok.go i H2 hfz hlt,Nat.lt_of_lt_of_le (Nat.lt_of_le_of_lt hys hlt) ok.le,fun x H' hy=>?_⟩
  obtain⟨sm,rd⟩:=ok.yld i H2 x H' ds[i] hfz (List.getElem?_eq_getElem hlt) hy
  have R3:=R2.same sm
  refine sg _ H' _ τ δ2 n2 x ds[i] _ _ R3 (rd _ (fun b o e=>(R2.fz b o e).2) R2.ba) (hno _ _ _ no2 q2) fun τ3 δ3 R4 ⟨no3,q4⟩=>?_
  refine st _ H' _ τ3 δ3 n2 _ _ R4 q4 fun b H4 n4 R5 k5 q5=>?_
  have hL4:H4 L=some (.lst ys):=k5 _ _ (sm _ _ hL2) hLt
  have rd4:RdXs H4 (fun b=>B b∨b=L) ys acc:=(rd2.keep fun b o e _=>sm b o e).kp k5 R4.bt
  cases b with
  |false =>
   rw[if_neg Bool.false_ne_true]at q5 ⊢
   exact⟨ds.length - (i+1),by omega,rfl,hlt,by omega,δ3,n4,acc,R5,no3,hL4,rd4,q5⟩
  |true =>
   rw[if_pos rfl]at q5 ⊢
   refine se _ H4 _ τ3 δ3 n4 _ _ R5 q5 fun u y H5 n5 R6 k6 r6 q6=>?_
   cases y with
   |d y =>
    have hL5:H5 L=some (.lst ys):=k6 _ _ hL4 hLt
    refine⟨hL5,ds.length - (i+1),by omega,rfl,hlt,by rw[List.length_append,List.length_singleton];omega,δ3,n5,acc++[y],R6.mut (.inr rfl) hL fun j z e o=>absurd (no3 j z e) (by rw[o];exact fun q=>nomatch q),no3,jan,?_,q6⟩
    refine RdXs.keep (fun b o e n=>?_) ((rd4.kp k6 R5.bt).append (.cons r6 .nil))
    rw[jal fun(z:b=L)=>n (.inr z)]
    exact e
   |tp=>exact q6.elim
   |dk _=>exact q6.elim
   |ln _=>exact q6.elim
   |ob _=>exact q6.elim
 ·have e:i=ds.length:=by omega
  subst e
  rw[List.drop_length]at q2
  refine .inl ⟨ok.stop H2 hfz,k L ys acc H2 n2 (R1.step R2.tp R2.kp) (k1.trans R2.kp) (R1.was k1 hL) hL2 (Nat.le_trans hys ok.le) rd2 q2⟩
end
noncomputable abbrev DTGs:=List PyData→Sl→(Sl→Prop)→Prop
noncomputable def j1z (g:TGs) (v:DTGs):Prop:=∀(C:Ctx) (H:Hp) (B:Addr→Prop) (σ:St) (δ:Sl) (n:Int) (xs:List V) (ds:List PyData) (Q:Sl→Prop) (Q':St→Hp→Prop),Rel C H B σ δ n→RdXs H B xs ds→v ds δ Q →
 (∀σ' δ',Rel C H B σ' δ' n→Q δ'→Q' σ' H)→g xs σ H Q'
structure DGs (X:Cx) (ts:List Expr) (g:TGs) (v:DTGs):Prop where
 pg:PGs X ts g
 sd:j1z g v
noncomputable def jfe:DTGs:=fun ds δ Q=>match ds with
 |[]=>Q δ
 |_=>False
noncomputable def jbv (v:DTG) (r:DTGs):DTGs:=fun ds δ Q=>match ds with
 |d::ds=>v d δ fun δ'=>r ds δ' Q
 |[]=>False
noncomputable def jhp (n:Nat) (r:DTGs):DTG:=fun d δ Q=>match d with
 |.tuple ds=>ds.length=n∧r ds δ Q
 |_=>False
section
variable {X:Cx} {pos:Pos}
theorem jjm:DGs X [] gNil jfe:=⟨jw2,fun C H B σ δ n xs ds Q Q' R r q k=>by
 cases r with
 |nil=>exact⟨rfl,k σ δ R q⟩
 |cons _ _=>exact q.elim⟩
end
section
variable {X:Cx} {pos:Pos}
theorem jcs {e:Expr} {es:List Expr} {t:TG} {u:TGs} {v:DTG} {r:DTGs} (h1:DG X e t v) (h2:DGs X es u r)
  (hs:(assignEach (e::es) X.env).map (·.2)=assign e X.env::(assignEach es X.env).map (·.2):=by rfl):DGs X (e::es) (j0e t u) (jbv v r):=⟨jtp h1.pg h2.pg hs,fun C H B σ δ n xs ds Q Q' R rr q k=>by
 cases rr with
 |nil=>exact q.elim
 |cons r1 r2=>exact⟨_,_,rfl,h1.sd C H B σ δ n _ _ _ _ R r1 q fun σ' δ' R' q'=>h2.sd C H B σ' δ' n _ _ _ _ R' r2 q' k⟩⟩
theorem j1l {es:List Expr} {k:Nat} {t:TGs} {n:Nat} {r:DTGs} (h:DGs X es t r) (hc:X.calm=true:=by rfl)
  (hn:(assignEach es X.env).length=n:=by rfl) (hst:(assignEach es X.env).findIdx? (·.1)=none:=by rfl):DG X (.Tuple es k pos) (gTup X.K n t) (jhp n r):=⟨jzb hc h.pg hn hst,fun C H B σ δ n' x d Q Q' R rr q k=>by
 unfold jhp at q
 split at q
 ·rename_i ds
  cases rr with
  |@tup ay ys _ e1 e2 e3 e4=>exact⟨ay,ys,rfl,SqT.of e1,by rw[e4.len];exact q.1,h.sd C H B σ δ n' _ _ _ _ R e4 q.2 k⟩
 ·exact q.elim⟩
noncomputable def jwj:List PyData→Option (List Str)
 |[]=>some []
 |.str b::r=>(jwj r).map (b::·)
 |_::_=>none
noncomputable def j10 (w w':DT):DT:=fun δ n Q=>w δ n fun x n1=>match x with
 |.d (.str z)=>w' δ n1 fun y n2=>match y with
  |.d (.list ds)=>match jwj ds with
   |some ys=>(ys.map (·.length)).sum+ys.length*z.length≤16777216∧Q (.d (.str (Txt.join z ys))) n2
   |none=>False
  |.d (.tuple ds)=>match jwj ds with
   |some ys=>(ys.map (·.length)).sum+ys.length*z.length≤16777216∧Q (.d (.str (Txt.join z ys))) n2
   |none=>False
  |_=>False
 |_=>False
noncomputable def sPut (i:Nat) (wj w:DT):DST:=fun δ n K=>match δ[i]? with
 |some (some (.own ds))=>w δ n fun x n1=>wj δ n1 fun j n2=>match x,j with
  |.d d,.d (.int k)=>match ixN ds.length k with
   |some m=>K.nx (δ.set i (some (.own (ds.set m d)))) n2
   |none=>False
  |_,_=>False
 |_=>False
theorem j06 {i:Nat} {x:Str} {xp sp:Pos} {j e:Expr} {tj te:TE} {wj we:DT} (hN:X.N[i]?=some x) (hj:DE X j tj wj) (he:DE X e te we) (hv:Vis X.env.scope x:=by first | exact Or.inl rfl | exact Or.inr (Or.inl rfl) | exact Or.inr (Or.inr rfl)) (hd:(x==("__debug__":Str))=false:=by decide)
  (hcd:(x==("__classdict__":Str))=false:=by decide)
  (ha:∀v,assign (.Subscript (.Name x xp) j sp) X.env v=(do
   let ov ←holding [v] (eval (.Name x xp) X.env)
   let iv ←holding [v,ov] (eval j X.env)
   standAt sp
   holding [v,ov,iv] (setItem ov iv v)
   release [v,ov,iv] []):=by intro _;rfl)
  (hs:swapsWithSole [.Subscript (.Name x xp) j sp] e pos.line X.env=pure false:=by rfl) (hw:swappedStores [.Subscript (.Name x xp) j sp] e X.env=pure none:=by rfl)
  (h1:(assignEach [.Subscript (.Name x xp) j sp] X.env).map (·.2)=[assign (.Subscript (.Name x xp) j sp) X.env]:=by rfl) :
  DS X (.Assign [.Subscript (.Name x xp) j sp] e pos) (tAsg te (gSub (tVar i) tj jy1)) (sPut i wj we) :=
 ⟨jlm he.pe (jn0 (jdf hN hv hd hcd) hj.pe jg7 ha) hs hw h1,fun C H B σ δ n K D R q E=>by
  unfold sPut at q
  split at q
  ·rename_i ds ei
   refine he.sd C H B σ δ n _ _ R q fun u y H1 n1 R1 k1 r1 q1=>?_
   obtain⟨v,hv,a,xs,rfl,e2,e3,e4,e5,e6⟩:=R1.sl i _ ei
   refine⟨_,hv,hj.sd C H1 B σ δ n1 _ _ R1 q1 fun w z H2 n2 R2 k2 r2 q2=>?_⟩
   split at q2
   ·rename_i d k
    split at q2
    ·rename_i m em
     cases(show RdX H2 B w (.int k)from r2)
     have hat:a≠C.t:=fun z=>R.t0 (z▸e4)
     have e2':=k2 _ _ e2 hat
     have r1':RdX H2 B u d:=r1.kp k2 R1.bt
     refine⟨a,xs,k,m,rfl,rfl,e2',by rw[e6.len];exact em,?_⟩
     refine E.nx _ _ _ _ _ (R2.mutOwn ei rfl hv e3 e4 ?_ rfl) q2
     refine⟨a,xs.set m u,rfl,jan,e3,e4,by rw[List.length_set];exact e5,?_⟩
     refine RdXs.keep (fun b o e n=>?_) (RdXs.set m (e6.kp k2 R1.bt) r1')
     rw[jal fun(z:b=a)=>n (z▸e3)]
     exact e
    ·exact q2.elim
   ·exact q2.elim
  ·exact q.elim⟩
end
structure Has (P:Program) (w:World) (K:PySem.W.Frag) (mg:Str→Option Value) (base:Heap) (k:Nat) (x:Str) (ps:List Str) (S:DSp):Prop where
 ex:∃(f:Addr) (fd:FuncData),FnOk P w K mg base CX0 k f fd ps (spOf S)∧Binds K fd ps []∧mg x=some (.ref f)∧PySem.W.keepIn K (.ref f)=true
section
variable {P:Program} {w:World} {K:PySem.W.Frag} {mg:Str→Option Value} {base:Heap}
theorem Has.mk' {k:Nat} {x qual:Str} {st:Stmt} {ps:List Str} {S:DSp} {f:Addr} {fd:FuncData} (F:Fun K x qual st f fd) (m:mg x=some (.ref f)) (b:Binds K fd ps []) (h:FnOk P w K mg base CX0 k f fd ps (spOf S)):Has P w K mg base k x ps S:=⟨f,fd,h,b,m,F.kp⟩
end
theorem jam {X:Cx} {e:Expr} {es:List Expr} {pos p:Pos} {tR:TA} {wR:DTA} {k:Nat} {ps:List Str} {S:DSp} {x:Str} (h:Has X.prog X.w X.K X.mg X.base k x ps S) (hr:Room k X.A) (hg:Gl X x)
  (ha:DA X (e::es) tR wR) (hdb:(x==("__debug__":Str))=false:=by decide) (he:starEach (e::es) X.env=(false,eval e X.env)::starEach es X.env:=by rfl) (hpl:(backTo pos (starEach es X.env)).any (·.1)=false:=by rfl) :
  DE X (.Call (.Name x p) (e::es) [] pos) (jmy (spOf S) [] E0 tR) (jaq S wR):=by
 obtain⟨f,fd,h1,h2,h3,h4⟩:=h.ex
 exact j0r h1 hr hg h3 h4 h2 ha hdb he hpl
theorem jeu {cl cells:List (Str×Addr)} (h:∀y∈cl,cells.lookup y.1=some y.2):∀x c,cl.lookup x=some c→cells.lookup x=some c:=fun x c e=>h _ (jet e)
noncomputable def jay:DSp:=fun ws n Q=>match ws with
 |[.tp,.d (.int many)]=>(n < 2 ^ 40∧0 < many∧many < 1073741824)∧∀r:Int,0≤r→r < many→Q (.d (.int r)) (n+1)
 |_=>False
section
variable {P:Program} {w:World} {K:PySem.W.Frag} {mg:Str→Option Value} {base:Heap}
theorem jun {k:Nat} {f:Addr} {fd:FuncData} {ps:List Str} (h:FnOk P w K mg base CX0 k f fd ps ju6):FnOk P w K mg base CX0 k f fd ps (spOf jay):=h.imp fun vs H Q E hs=>by
 obtain⟨t,l,ns,B,ws,n,Q0,T,bt,ba,r,q,kk⟩:=hs
 unfold jay at q
 split at q
 ·rename_i many
  cases r with
  |cons r1 r2 =>
   cases r2 with
   |cons r3 r4 =>
    cases r4
    cases(show _=V.ref t from r1)
    cases(show RdX H B _ (.int many)from r3)
    exact⟨t,l,ns,n,many,rfl,T,q.1.1,q.1.2.1,q.1.2.2,fun r H' h0 h1 T' k'=>kk _ _ (q.2 r h0 h1) _ H' T' k' (.int r)⟩
 ·exact q.elim
noncomputable def spLaw (K:PySem.W.Frag):Sp:=fun vs H Q _=>∃(a:Addr) (ns:List Int),vs=[.ref a]∧SqL K H a (ns.map V.int)∧ns.length≤63∧∀H',Q (.bl true) H'
noncomputable def jke:DEnds:={ nx:=fun _ _=>False,rt:=fun w _=>w=.d (.bool true)}
theorem jwv {H:Hp} {t:Addr} {l:TL} {ns:List Int} {a:V} {k:Nat} (T:Tp H t l ns 0):Rel ⟨t,l,ns,H,fun b=>b=t,fun _=>none⟩ H (fun b=>b=t) (some a::some (.ref t)::List.replicate k none) (none::some (.w .tp)::List.replicate k none) 0 where
 tp:=T
 kp:=Kp.refl _ _
 t0:=by
  obtain⟨_,_,h,_⟩:=T.ob
  show H t≠none
  rw[h]
  exact fun z=>nomatch z
 l0:=by
  show H l.s≠none
  rw[T.ls]
  exact fun z=>nomatch z
 g0:=fun e=>by
  show H l.g≠none
  rw[T.ag e]
  exact fun z=>nomatch z
 fz:=fun b o e=>nomatch e
 bt:=rfl
 b0:=fun _ z=>z
 ba:=fun b z=>by
  obtain⟨_,_,h,_⟩:=T.ob
  rw[z,h]
  exact fun z=>nomatch z
 a0:=fun b z=>by
  obtain⟨_,_,h,_⟩:=T.ob
  show H b≠none
  rw[show b=t from z,h]
  exact fun z=>nomatch z
 sl:=fun i x e=>by
  rcases i with _ | _ | i
  ·cases e
  ·cases e
   exact⟨_,rfl,rfl,fun z=>by cases z⟩
  ·have e':(List.replicate k (none:Option SV))[i]?=some (some x):=e
   rw[List.getElem?_replicate]at e'
   split at e'
   ·cases e'
   ·cases e'
 ow:=fun i j x y v e1 e2 o1 o2 f1 f2=>by
  rcases i with _ | _ | i
  ·cases e1
  ·cases e1
   cases o1
  ·have e':(List.replicate k (none:Option SV))[i]?=some (some x):=e1
   rw[List.getElem?_replicate]at e'
   split at e'
   ·cases e'
   ·cases e'
 len:=by simp
theorem jzt {f fT:Addr} {fd fdT:FuncData} {st:Stmt} {N:List Str} {k:Nat} {W:DST} (F:Fun K "law" "law" st f fd) (Sc:FnScope N ["_law_script"] (jae st))
  (GT:FnOk P w K mg base CX0 1 fT fdT ["_law_script"] (jnr K)) (bT:Binds K fdT ["_law_script"] []) (mT:mg "_law_tape"=some (.ref fT)) (kT:PySem.W.keepIn K (.ref fT)=true)
  (hN:∀v,start N [v]=some v::none::List.replicate (N.length - 2) none)
  (hW:W (none::some (.w .tp)::List.replicate (N.length - 2) none) 0 jke)
  (hbody:∀(cdv:Value) (A:Around) (outer:List Env) (s:Shared) (H:Hp) (E:XK),Room k (A.deeper (PyProof.Rows.envOfC "law" (jae st) s.heap.objs.size f cdv)) →
   ∃s0 rest T,jat st=s0::rest∧PS (cxOf CX0 P w K mg base N "law" (jae st) f cdv A outer s H E).nox s0 (tAsg (jmy (jnr K) [] E0 (jcw (tVar 0) tNil)) (jgc 1))∧DSs (cxOf CX0 P w K mg base N "law" (jae st) f cdv A outer s H E).nox rest T W) :
  FnOk P w K mg base CX0 (k+1) f fd ["_law_script"] (spLaw K):=by
 refine F.ok Sc (fun vs H Q E h=>?_) (fun cdv A outer s H vs Q E hr h=>?_)
 ·obtain⟨a,ns,rfl,_⟩:=h
  rfl
 ·obtain⟨a,ns,rfl,hS,hl,kk⟩:=h
  obtain⟨s0,rest,T,e,p0,d⟩:=hbody cdv A outer s H E hr
  rw[e]
  refine⟨_,jb7 p0 d.ps,?_⟩
  rw[hN]
  refine⟨_,rfl,a,ns,rfl,hS,hl,fun t l H1 T1 _=>?_⟩
  refine d.sd ⟨t,l,ns,H1,fun b=>b=t,fun _=>none⟩ H1 (fun b=>b=t) _ _ 0 jke _ (jwv (a:=.ref a) (k:=N.length - 2) T1) hW ⟨?_,?_,?_,?_,fun _ _ _ _ _ _ _ _ _ _ _ _ _ z=>z.elim⟩
  ·exact fun _ _ _ _ _ _ z=>z.elim
  ·intro H B σ δ n v w R r z
   have z:w=.d (.bool true):=z
   subst z
   cases(show RdX H B v (.bool true)from r)
   exact kk H
  ·exact fun _ _ _ _ _ _ z=>z.elim
  ·exact fun _ _ _ _ _ _ z=>z.elim
end
section
variable {X:Cx} {elt tg iter:Expr} {ifs:List Expr} {scope:Scope} {cl:List (Str×Addr)} {cpos pos pos':Pos} {N:List Str} {fr:List (Option Nat)} {wi:TI} {v:DTI} {g:TG} {gd:DTG} {tt:TT} {cc:DTT} {te:TE} {we:DT} {i:Nat} {x:Str}
theorem jwl {t:TE} {w:DTF} (h:SndF t w):SndS (tAsg t (jgc i)) (sOwn i w):=fun C H B σ δ n K D R q E =>
 h C H B σ δ n _ _ R q fun a xs ds H1 n1 R1 k1 h0 h1 h2 h3 q1=>by
  refine E.nx _ _ _ _ _ (R.own R1 k1 h0 (by rw[h1];exact fun z=>nomatch z) rfl ?_) q1
  exact⟨a,xs,rfl,h1,.inr rfl,R.h0 h0,h2,h3⟩
theorem jwk {t:TE} {w:DT} (h:Snd t w):SndS (tAsg t (jgc i)) (sSet i w):=fun C H B σ δ n K D R q E =>
 h C H B σ δ n _ _ R q fun v x H1 n1 R1 _ r1 q1=>by
  cases x with
  |d d=>exact E.nx _ _ _ _ _ (R1.set r1 rfl) q1
  |tp=>exact E.nx _ _ _ _ _ (R1.set r1 rfl) q1
  |dk _=>exact q1.elim
  |ln _=>exact q1.elim
  |ob _=>exact E.nx _ _ _ _ _ (R1.set r1 rfl) q1
theorem jyq (hN:X.N.Nodup) (hix:X.N[i]?=some x) (hx:X.env.scope.names.lookup x=some .local) (hc:X.calm=true) (S:CompSc X N scope cl fr) (hi:DI X tg iter wi v) (hg:∀s H fp,DG (jbh X N scope cl s H fp) tg g gd) (ht:∀s H fp,DIf (jbh X N scope cl s H fp) ifs tt cc)
  (he:∀s H fp,DE (jbh X N scope cl s H fp) elt te we) (hno:jos gd) (hs:∀x,foldedSetIterable iter X.env x=pure x:=by intro _;rfl)
  (hsw:swapsWith (.ListComp elt [⟨tg,iter,ifs,0⟩] scope cpos) (some (.Name x pos')) pos.line X.env=pure true:=by rfl) :
  DS X (.Assign [.Name x pos'] (.ListComp elt [⟨tg,iter,ifs,0⟩] scope cpos) pos) (tAsg (jpw fr wi g tt te) (jgc i)) (sOwn i (jcy fr v gd cc we)) :=
 ⟨jja hN hix hx hc S hi.pi (fun s H fp=>(hg s H fp).pg) (fun s H fp=>(ht s H fp).pf) (fun s H fp=>(he s H fp).pe) hs hsw,jwl (jhr (pos:=cpos) hc S hi hg ht he hno hs).sd⟩
theorem ju8 (hN:X.N.Nodup) (hix:X.N[i]?=some x) (hx:X.env.scope.names.lookup x=some .local) (hc:X.calm=true) (S:CompSc X N scope cl fr) (hi:DI X tg iter wi v) (hg:∀s H fp,DG (jbh X N scope cl s H fp) tg g gd) (ht:∀s H fp,DIf (jbh X N scope cl s H fp) ifs tt cc)
  (he:∀s H fp,DE (jbh X N scope cl s H fp) elt te we) (hno:jos gd) (hs:∀x,foldedSetIterable iter X.env x=pure x:=by intro _;rfl)
  (hsw:swapsWith (.ListComp elt [⟨tg,iter,ifs,0⟩] scope cpos) (some (.Name x pos')) pos.line X.env=pure true:=by rfl) :
  DS X (.Assign [.Name x pos'] (.ListComp elt [⟨tg,iter,ifs,0⟩] scope cpos) pos) (tAsg (jpw fr wi g tt te) (jgc i)) (sSet i (wOf (jcy fr v gd cc we))) :=
 ⟨jja hN hix hx hc S hi.pi (fun s H fp=>(hg s H fp).pg) (fun s H fp=>(ht s H fp).pf) (fun s H fp=>(he s H fp).pe) hs hsw,jwk (jhr (pos:=cpos) hc S hi hg ht he hno hs).d.sd⟩
end
section
variable {X:Cx} {tg a b c e:Expr} {ta tb tc te:TE} {wa wb wc we:DT} {pos p:Pos} {K:PySem.W.Frag}
theorem jau (ha:DE X a ta wa) (hb:DE X b tb wb) (hK:X.K=K:=by rfl) (hs:jh9 b:=by exact fun _ _=>rfl):DE X (.Subscript a b pos) (tOp (rIx K) ta tb) (w2 wa wb gIx):=by subst hK;exact d_ix ha hb hs
noncomputable def rIsi (K:PySem.W.Frag) (T:String):List V→Hp→VK→Prop:=fun xs H Q=>∃x t b,xs=[x,.ty T]∧TyOf K H x t∧PySem.W.kitOne K t (.type T)=some b∧Q (.bl b) H
theorem jr9 {T:String} {x:Str} {p p2:Pos} (hT:T="int"∨T="bool"∨T="str"∨T="tuple"∨T="list") (hg:Gl X "isinstance") (hm:X.mg "isinstance"=none) (hg2:Gl X x) (hm2:X.mg x=none) (hv:bootBuiltins x=some (.type T)) (ha:DE X a ta wa) (hK:X.K=K:=by rfl) (hn:x≠"__name__":=by decide) (hdb:(x==("__debug__":Str))=false:=by decide)
  (he:starEach [a,.Name x p2] X.env=(false,eval a X.env)::starEach [.Name x p2] X.env:=by rfl) (he2:starEach [.Name x p2] X.env=(false,eval (.Name x p2) X.env)::starEach [] X.env:=by rfl) (hpl:(backTo pos (starEach [.Name x p2] X.env)).any (·.1)=false:=by rfl) :
  DE X (.Call (.Name "isinstance" p) [a,.Name x p2] [] pos) (tCB (rIsi K T) (jcw ta (jcw (tC (.ty T)) tNil))) (wIsi T wa):=by subst hK;exact j1r hT hg hm hg2 hm2 hv ha hn hdb he he2 hpl
noncomputable def rEqK (K:PySem.W.Frag):R2:=fun x y H Q=>rEq x y H Q∨jtj x y H Q∨jnw K x y H Q
theorem jbj (hu:X.A.units < cLine) (hK:X.K=K:=by rfl):OpR X (compareOp .Eq) (rEqK K):=by subst hK;exact jzk hu
theorem jbn:SndO (rEqK K) gEq:=jyl
theorem jje (hK:X.K=K:=by rfl):OpR X (compareOp .In) (rIn K false):=by subst hK;exact jq5
theorem jdz (hK:X.K=K:=by rfl):OpR X (compareOp .NotIn) (rIn K true):=by subst hK;exact jlq
noncomputable def jti (K:PySem.W.Frag):List V→Hp→VK→Prop:=fun xs H Q=>(∃z,xs=[.str z]∧z.length≤sizeLine∧Q (.int z.length) H)∨∃p ys,xs=[.ref p]∧(SqL K H p ys∨SqT K H p ys)∧Q (.int ys.length) H
theorem ja0 (hK:X.K=K:=by rfl):CallR X (.builtin "len") (jti K):=by subst hK;exact jsm
theorem jb0:SndB (jti K) gLen:=jwm
noncomputable def jqo (K:PySem.W.Frag):List V→Hp→VK→Prop:=fun xs H Q=>∃a d,xs=[.ref a]∧RdD K H (.ref a) d∧Small d∧Q (.str d.shown) H
theorem jju (hg:X.A.guards=some []) (hu:X.A.units+64 < cLine) (hK:X.K=K:=by rfl):CallR X (.builtin "repr") (jqo K):=by subst hK;exact jsl hg hu
theorem jqb:SndB (jqo K) juj:=js5
noncomputable def jm3 (K:PySem.W.Frag):List V→Hp→VK→Prop:=fun xs H Q=>∃p ys,xs=[.ref p]∧((SqL K H p ys∧∀l,H l=none→Q (.ref l) (upd H l (.tup ys)))∨(SqT K H p ys∧Q (.ref p) H))
theorem ja9 (hK:X.K=K:=by rfl):CallR X (.type "tuple") (jm3 K):=by subst hK;exact jks
theorem jc3:SndB (jm3 K) je0:=jqa
noncomputable def jvd (K:PySem.W.Frag):List V→Hp→VK→Prop:=fun xs H Q=>∃p ys,xs=[.ref p]∧(SqL K H p ys∨SqT K H p ys)∧∀l,H l=none→Q (.ref l) (upd H l (.lst ys))
theorem jpg (hK:X.K=K:=by rfl):CallR X (.type "list") (jvd K):=by subst hK;exact jmj
theorem jnb (ha:DE X a ta wa) (hK:X.K=K:=by rfl):DI X tg a (jxo K ta) (jim wa):=by subst hK;exact jz8 ha
theorem jl4 (ha:DE X a ta wa) (hK:X.K=K:=by rfl):DI X tg a (iTup K ta) (jef wa):=by subst hK;exact j1j ha
theorem jjn {es:List Expr} {k:Nat} {t:TGs} {n:Nat} {r:DTGs} (h:DGs X es t r) (hc:X.calm=true:=by rfl) (hK:X.K=K:=by rfl)
  (hn:(assignEach es X.env).length=n:=by rfl) (hst:(assignEach es X.env).findIdx? (·.1)=none:=by rfl):DG X (.Tuple es k pos) (gTup K n t) (jhp n r):=by subst hK;exact j1l h hc hn hst
end
end DL
namespace KS
open PySem PySem.W PyProof.Rows
noncomputable def run {α:Type} (c:Nat→Nat→Bool):KasT α→α
 |.ret a=>a
 |.ask i j k=>run c (k (c i j))
noncomputable def Wi {α:Type} (n:Nat) (P:α→Prop):KasT α→Prop
 |.ret a=>P a
 |.ask i j k=>i < n∧j < n∧∀b,Wi n P (k b)
theorem Wi.bind {α β:Type} {n:Nat} {P:α→Prop} {R:β→Prop} {f:α→KasT β} (hf:∀a,P a→Wi n R (f a)):∀{t:KasT α},Wi n P t→Wi n R (t.bind f)
 |.ret a,h=>hf a h
 |.ask i j k,h=>⟨h.1,h.2.1,fun b=>Wi.bind hf (h.2.2 b)⟩
theorem Wi.out {α:Type} {n:Nat} {P:α→Prop} (c:Nat→Nat→Bool):∀{t:KasT α},Wi n P t→P (run c t)
 |.ret a,h=>h
 |.ask i j k,h=>Wi.out c (t:=k (c i j)) (h.2.2 (c i j))
theorem wp_run {α:Type} {n:Nat} {P:α→Prop} {cmp:Nat→Nat→(Bool→Shared→Prop)→Shared→Prop} {c:Nat→Nat→Bool} {St:Shared→Prop} {Q:α→Shared→Prop}
  (hc:∀i j C s,i < n→j < n→St s→(∀s',St s'→C (c i j) s')→cmp i j C s):∀(t:KasT α) (s:Shared),Wi n P t→St s→(∀s',St s'→Q (run c t) s')→t.kasWp cmp Q s
 |.ret a,s,_,hs,h=>h s hs
 |.ask i j k,s,w,hs,h=>hc i j _ s w.1 w.2.1 hs fun s' hs'=>wp_run hc (k (c i j)) s' (w.2.2 _) hs' h
noncomputable def Lo (n:Nat) (p:Array Nat):Prop:=∀i,p.getD i 0 < n
theorem jxr (p:Array Nat) (i:Nat):p.getD i 0=(p[i]?).getD 0:=by simp
theorem jzq {n:Nat} {p:Array Nat} (hn:0 < n) (h:∀x∈p,x < n):Lo n p:=fun i=>by
 rw[jxr]
 cases e:p[i]? with
 |none=>exact hn
 |some x=>exact h x (Array.mem_of_getElem? e)
noncomputable def Pm (n:Nat) (p:Array Nat):Prop:=p.Perm (List.toArray (List.range n))
theorem Pm.size {n:Nat} {p:Array Nat} (h:Pm n p):p.size=n:=by rw[Array.Perm.size_eq h];simp
theorem Pm.lo {n:Nat} {p:Array Nat} (hn:0 < n) (h:Pm n p):Lo n p:=jzq hn fun x hx=>by
 have:x∈List.toArray (List.range n):=(Array.Perm.mem_iff h).mp hx
 simpa using this
theorem Pm.rev {n:Nat} {p:Array Nat} (h:Pm n p) (i j:Nat):Pm n (kas_rev p i j):=(mirror_perm p i j _).trans h
theorem Pm.bub {n:Nat} {p:Array Nat} (h:Pm n p) (i j:Nat):Pm n (bubble p i j):=(bubble_perm p i j).trans h
section
variable {n:Nat} (hn:0 < n)
include hn
theorem jpn {p:Array Nat} (h:Lo n p):∀f m,Wi n (fun _=>True) (kas_asc p f m)
 |0,m=>trivial
 |f+1,m=>⟨h _,h _,fun b=>by
  cases b with
  |true=>exact trivial
  |false=>exact jpn h f (m+1)⟩
theorem jjx:∀f (p:Array Nat) m q,Pm n p→Wi n (fun r=>Pm n r.1) (kas_desc f p m q)
 |0,p,m,q,h=>h
 |f+1,p,m,q,h=>⟨h.lo hn _,h.lo hn _,fun b=>by
  cases b with
  |true =>
   show Wi n _ (if q > 0 then _ else _)
   split
   ·exact jjx f _ _ _ (h.rev _ _)
   ·exact jjx f _ _ _ h
  |false=>exact⟨h.lo hn _,h.lo hn _,fun d=>by
    cases d with
    |true=>exact h
    |false=>exact jjx f _ _ _ h⟩⟩
theorem jnn (m nrem:Nat) {p:Array Nat} (h:Pm n p):Wi n (fun r=>Pm n r.2) (kas_tail3 m nrem p):=by
 unfold kas_tail3
 refine Wi.bind (P:=fun _=>True) (fun a _=>?_) (jpn hn ((h.rev 0 m).lo hn) _ _)
 show Pm n (kas_rev p 0 m)
 exact h.rev _ _
theorem jg9 (m nrem:Nat) {p:Array Nat} (h:Pm n p):Wi n (fun r=>Pm n r.2) (kas_descPart m nrem p) :=
 Wi.bind (fun r hr=>by
  show Wi n _ (if r.2.2 > 0 then _ else _)
  split
  ·exact jnn hn _ _ (Pm.rev hr _ _)
  ·exact jnn hn _ _ hr) (jjx hn _ p _ _ h)
theorem jsv (nrem:Nat) {p:Array Nat} (h:Pm n p):Wi n (fun r=>Pm n r.2) (kas_count nrem p) :=
 Wi.bind (fun m _=>by
  show Wi n _ (if (m==nrem)=true then _ else if m > 1 then _ else _)
  split
  ·exact h
  ·split
   ·exact⟨h.lo hn _,h.lo hn _,fun b=>by
     cases b with
     |true=>exact h
     |false=>exact jg9 hn _ _ (h.rev _ _)⟩
   ·exact jg9 hn _ _ h) (jpn hn (h.lo hn) _ _)
theorem jjw {p:Array Nat} (h:Lo n p) (k:Nat):∀f l r,Wi n (fun _=>True) (kas_place p k f l r)
 |0,l,r=>trivial
 |f+1,l,r=>by
  show Wi n _ (if l ≥ r then _ else _)
  split
  ·exact trivial
  ·exact⟨h _,h _,fun b=>by
    cases b with
    |true=>exact jjw h k f _ _
    |false=>exact jjw h k f _ _⟩
theorem ju0:∀f (p:Array Nat) k,Pm n p→Wi n (Pm n) (kas_bin f p k)
 |0,p,k,h=>h
 |f+1,p,k,h=>Wi.bind (fun l _=>ju0 f _ _ (h.bub _ _)) (jjw hn (h.lo hn) k _ _ _)
theorem wi_sort:Wi n (Pm n) (kas_sort n) :=
 Wi.bind (fun r hr=>by
  show Wi n _ (if r.1 < n then _ else _)
  split
  ·exact ju0 hn _ _ _ hr
  ·exact hr) (jsv hn n (Array.Perm.refl _))
end
theorem pwT {α:Type}:∀l:List α,l.Pairwise fun _ _=>True
 |[]=>.nil
 |a::r=>.cons (fun _ _=>True.intro) (pwT r)
end KS
namespace KS
open PySem PySem.W PySem.Calls PyProof.Rows
section
variable {prog:Program} {w:World} {A:Around} {E:Value→Shared→Prop} {s:Shared} {a:Addr} {vs:List Value}
theorem ls_sort {n:Nat} {P:PySem.Fin→Shared→Prop} (ho:s.heap.get? a=some (seqObj "list" vs.toArray n)) (h2:2≤vs.length) (h64:vs.length < 64)
  (h:∀e1 h',h'.get? a=some (seqObj "list" #[] e1)→(∀b o,b≠a→s.heap.get? b=some o→h'.get? b=some o) →
   wpAny (model prog w) A (keyKind' vs.toArray) (fun κ s'=>(kas_sort vs.length).kasWp (kas_ask prog w A κ vs)
    (fun p s''=>s''.heap.get? a=some (seqObj "list" #[] e1)∧∀h3 c,Heap.SameBut a s''.heap h3→h3.get? a=some (seqObj "list" (List.toArray (p.toList.map fun i=>vs.getD i Value.none)) c)→P (.done (.ret .none)) {s'' with heap:=h3}) s') (fun _ _=>False) {s with heap:=h'}) :
  wpAny (model prog w) A (Builtin.«list.sort» ⟨[.ref a],[]⟩) P E s:=by
 have ha:a < s.heap.objs.size:=Heap.lt_size ho
 have s1:=Heap.SameBut.update s.heap a (Obj.mapSeq fun _=>(#[]:Array Value))
 obtain⟨e1,ho1⟩:∃e1,(s.heap.update a (Obj.mapSeq fun _=>(#[]:Array Value))).get? a=some (seqObj "list" #[] e1):=⟨_,get?_update_seq ho fun _=>#[]⟩
 have ask:=h e1 (((s.heap.update a (Obj.mapSeq fun _=>(#[]:Array Value))).push (seqObj "tuple" vs.toArray 0)).push (seqObj "list" #[] 0)) (Heap.get?_push_of_some _ (Heap.get?_push_of_some _ ho1))
  fun b o hb e=>Heap.get?_push_of_some _ (Heap.get?_push_of_some _ ((s1.2 b hb).trans e))
 rw[list_sort_plain]
 refine wpAny_bind (listItems_at ho rfl ?_)
 refine wpAny_bind (listUpdate_at ho rfl ?_ (by rw[List.size_toArray,sizeLine_eq];omega) (Nat.zero_le _))
 refine wpAny_bind (seqEpoch_at ho1 rfl ?_)
 refine wpAny_bind (wpAny_newTuple ?_ (by show vs.length≤_;rw[sizeLine_eq];omega))
 refine wpAny_bind (wpAny_newList ?_ (Nat.zero_le _))
 refine wpAny_holding ?_
 show wpAny (model prog w) A _ P E {s with heap:=((s.heap.update a (Obj.mapSeq fun _=>(#[]:Array Value))).push (seqObj "tuple" vs.toArray 0)).push (seqObj "list" #[] 0)}
 dsimp only
 have hn2:¬vs.toArray.size < 2:=by rw[List.size_toArray];omega
 rw[if_neg hn2,if_neg hn2]
 refine wpAny_bind (wpAny_mono ask (fun κ s0 hk=>?_) fun _ _ x=>x.elim)
 refine wpAny_bind (wpAny_mono (kat_run (Q:=fun st' s'=>∃p:Array Nat,p.size=vs.length∧arrOf st'=p.map (kas_item (vs.toArray.zip vs.toArray))∧failedOf st'=none∧s'.heap.get? a=some (seqObj "list" #[] e1)∧∀h3 c,Heap.SameBut a s'.heap h3→h3.get? a=some (seqObj "list" (List.toArray (p.toList.map fun i=>vs.getD i Value.none)) c)→P (.done (.ret .none)) {s' with heap:=h3})
  rfl h2 h64 (fun p' st' s' a1 a2 a3 a4=>⟨p',a1,a2,a3,a4⟩) hk) ?_ fun _ _ e=>e)
 rintro⟨⟨⟩,st'⟩ s' ⟨p,hp,har,hf,na,k⟩
 dsimp only
 have hout:=kat_snds rfl har
 have hsz:(List.toArray (p.toList.map fun i=>vs.getD i Value.none)).size=vs.length:=by rw[List.size_toArray,List.length_map,Array.length_toList,hp]
 rw[hout]
 have s2:=Heap.SameBut.update s'.heap a (Obj.mapSeq fun _=>List.toArray (p.toList.map fun i=>vs.getD i Value.none))
 obtain⟨c2,hc2⟩:∃c2,(s'.heap.update a (Obj.mapSeq fun _=>List.toArray (p.toList.map fun i=>vs.getD i Value.none))).get? a=some (seqObj "list" (List.toArray (p.toList.map fun i=>vs.getD i Value.none)) c2):=⟨_,get?_update_seq na fun _=>List.toArray (p.toList.map fun i=>vs.getD i Value.none)⟩
 refine wpAny_bind (seqEpoch_at na rfl ?_)
 refine wpAny_bind (listUpdate_at na rfl ?_ (Nat.zero_le _) (Nat.le_trans (Nat.le_of_eq hsz) (by rw[sizeLine_eq];omega)))
 rw[hf]
 simp only[bne_self_eq_false,Bool.false_eq_true,if_false]
 exact wpAny_pure (k _ c2 s2 hc2)
theorem ls_short {n:Nat} {P:PySem.Fin→Shared→Prop} (ho:s.heap.get? a=some (seqObj "list" vs.toArray n)) (h2:vs.length < 2)
  (h:∀h' c,h'.get? a=some (seqObj "list" vs.toArray c)→(∀b o,b≠a→s.heap.get? b=some o→h'.get? b=some o)→P (.done (.ret .none)) {s with heap:=h'}) :
  wpAny (model prog w) A (Builtin.«list.sort» ⟨[.ref a],[]⟩) P E s:=by
 have ha:a < s.heap.objs.size:=Heap.lt_size ho
 have s1:=Heap.SameBut.update s.heap a (Obj.mapSeq fun _=>(#[]:Array Value))
 obtain⟨e1,ho1⟩:∃e1,(s.heap.update a (Obj.mapSeq fun _=>(#[]:Array Value))).get? a=some (seqObj "list" #[] e1):=⟨_,get?_update_seq ho fun _=>#[]⟩
 have ho6:(((s.heap.update a (Obj.mapSeq fun _=>(#[]:Array Value))).push (seqObj "tuple" vs.toArray 0)).push (seqObj "list" #[] 0)).get? a=some (seqObj "list" #[] e1):=Heap.get?_push_of_some _ (Heap.get?_push_of_some _ ho1)
 rw[list_sort_plain]
 refine wpAny_bind (listItems_at ho rfl ?_)
 refine wpAny_bind (listUpdate_at ho rfl ?_ (by rw[List.size_toArray,sizeLine_eq];omega) (Nat.zero_le _))
 refine wpAny_bind (seqEpoch_at ho1 rfl ?_)
 refine wpAny_bind (wpAny_newTuple ?_ (by show vs.length≤_;rw[sizeLine_eq];omega))
 refine wpAny_bind (wpAny_newList ?_ (Nat.zero_le _))
 refine wpAny_holding ?_
 show wpAny (model prog w) A _ P E {s with heap:=((s.heap.update a (Obj.mapSeq fun _=>(#[]:Array Value))).push (seqObj "tuple" vs.toArray 0)).push (seqObj "list" #[] 0)}
 dsimp only
 have hn2:vs.toArray.size < 2:=by rw[List.size_toArray];omega
 rw[if_pos hn2,if_pos hn2]
 refine wpAny_bind (wpAny_pure ?_)
 rw[StateT.run_pure]
 refine wpAny_bind (wpAny_pure ?_)
 dsimp only
 refine wpAny_bind (seqEpoch_at ho6 rfl ?_)
 refine wpAny_bind (listUpdate_at ho6 rfl ?_ (hsz2:=by rw[Array.size_map];show(pairsOf vs).size≤_;rw[pairsOf_size,sizeLine_eq];omega))
 simp only[bne_self_eq_false,Bool.false_eq_true,if_false]
 have e:(arrOf (SortSt.mk' general' (vs.toArray.zip vs.toArray) #[] 7 none)).map (·.2)=vs.toArray:=by
  show(vs.toArray.zip vs.toArray).map (·.2)=vs.toArray
  apply Array.toList_inj.mp
  simp only[Array.toList_map,Array.toList_zip]
  exact List.map_snd_zip (Nat.le_refl _)
 have s2:=Heap.SameBut.update (((s.heap.update a (Obj.mapSeq fun _=>(#[]:Array Value))).push (seqObj "tuple" vs.toArray 0)).push (seqObj "list" #[] 0)) a (Obj.mapSeq fun _=>(arrOf (SortSt.mk' general' (vs.toArray.zip vs.toArray) #[] 7 none)).map (·.2))
 refine wpAny_pure (h _ _ (by rw[e];exact get?_update_seq ho6 fun _=>vs.toArray) fun b o hb q=>(s2.2 b hb).trans (Heap.get?_push_of_some _ (Heap.get?_push_of_some _ ((s1.2 b hb).trans q))))
theorem sorted_of {r:Value} {Q:Value→Shared→Prop} {R:List Value→Shared→Prop} (hcol:wpAny (model prog w) A.in1 (collect r) R E s)
  (h:∀vs s1,R vs s1→vs.length≤sizeLine∧wpAny (model prog w) A.in1.in1 (Builtin.«list.sort» ⟨[.ref s1.heap.objs.size],[]⟩) (fun f s2=>f=.done (.ret .none)∧Q (.ref s1.heap.objs.size) s2) E {s1 with heap:=s1.heap.push (seqObj "list" vs.toArray 0)}) :
  wpAny (model prog w) A (call (.builtin "sorted") [r]) Q E s:=by
 refine Calls.call_function_entry kind_sorted plain_sorted entry_sorted (args_sorted1 _) ?_
 unfold Builtin.«sorted»
 refine wpAny_bind (m:=checkCount "sorted" 1 1 _) (wpAny_pure ?_)
 refine wpAny_bind (wpAny_mono hcol (fun vs s1 hr=>?_) fun _ _ e=>e)
 obtain⟨hl,hs⟩:=h vs s1 hr
 refine wpAny_bind (wpAny_newList ?_ hl)
 have hoL:(s1.heap.push (seqObj "list" vs.toArray 0)).get? s1.heap.objs.size=some (seqObj "list" vs.toArray 0):=Heap.get?_push_size _ rfl
 refine wpAny_bind (wpAny_holding (wpAny_call_entry (s:={ s1 with heap:=s1.heap.push (seqObj "list" vs.toArray 0)}) slot_list_sort ⟨_,hoL,rfl⟩ entry_list_sort ?body (args_list_sort _)))
 case body =>
  refine wpAny_mono hs (fun f s2 hf=>?_) fun _ _ e=>e
  obtain⟨rfl,hq⟩:=hf
  exact⟨_,rfl,wpAny_pure ⟨_,rfl,hq⟩⟩
noncomputable def ItsOk (h:Heap) (as:List Addr) (ks:List Str) (xs:List Value):Prop :=
 as.length=ks.length∧as.length=xs.length∧∀(j:Nat) (a:Addr),as[j]?=some a→∃k t x,ks[j]?=some k∧xs[j]?=some x∧h.get? a=some {cls:=.type "tuple",data:=.seq #[.str k t,x]}
noncomputable def ltK (ks:List Str) (i j:Nat):Bool:=decide ((ks.getD i ⟨#[]⟩).cps.toList < (ks.getD j ⟨#[]⟩).cps.toList)
theorem katTups {h:Heap}:∀{as:List Addr} {ks:List Str} {xs:List Value},ItsOk h as ks xs→∃fs:List Value,KatTups h (as.map Value.ref) fs∧fs.length=as.length∧∀f∈fs,∃k t,f=.str k t
 |[],ks,xs,_=>⟨[],trivial,rfl,fun f hf=>nomatch hf⟩
 |a::as,ks,xs,I=>by
  obtain⟨l1,l2,hp⟩:=I
  obtain⟨k,t,x,e1,e2,e3⟩:=hp 0 a rfl
  cases ks with
  |nil=>cases e1
  |cons k0 ks =>
   cases xs with
   |nil=>cases e2
   |cons x0 xs =>
    obtain⟨fs,f1,f2,f3⟩:=katTups (h:=h) (as:=as) (ks:=ks) (xs:=xs) ⟨by simpa using l1,by simpa using l2,fun j b hb=>by
     obtain⟨k',t',x',g1,g2,g3⟩:=hp (j+1) b (by simpa using hb)
     exact⟨k',t',x',by simpa using g1,by simpa using g2,g3⟩⟩
    refine⟨.str k t::fs,.cons e3 rfl rfl rfl f1,by simp[f2],fun f hf=>?_⟩
    rcases List.mem_cons.mp hf with rfl | z
    ·exact⟨k,t,rfl⟩
    ·exact f3 f z
end
section
variable {prog:Program} {w:World} {A:Around} {E:Value→Shared→Prop} {s:Shared} {a:Addr} {as:List Addr} {ks:List Str} {xs:List Value}
theorem ask_items (hI:ItsOk s.heap as ks xs) (nd:ks.Nodup) (hx:∀x∈xs,∀(s:Shared),SeqAt.EqAt A s x x true) {i j:Nat} (hi:i < as.length) (hj:j < as.length) {C:Bool→Shared→Prop} (h:C (ltK ks i j) s) :
  kas_ask prog w A (tuples' true) (as.map Value.ref) i j C s:=by
 obtain⟨l1,l2,hp⟩:=hI
 obtain⟨k1,t1,x1,e1,e2,e3⟩:=hp i as[i] (List.getElem?_eq_getElem hi)
 obtain⟨k2,t2,x2,f1,f2,f3⟩:=hp j as[j] (List.getElem?_eq_getElem hj)
 unfold kas_ask
 have g1:(as.map Value.ref).getD i Value.none=.ref as[i]:=by simp[hi]
 have g2:(as.map Value.ref).getD j Value.none=.ref as[j]:=by simp[hj]
 rw[g1,g2]
 have c1:ks.getD i ⟨#[]⟩=k1:=by simp[e1]
 have c2:ks.getD j ⟨#[]⟩=k2:=by simp[f1]
 have hc:ltK ks i j=decide (k1.cps.toList < k2.cps.toList):=by unfold ltK;rw[c1,c2]
 rw[hc]at h
 refine kat_lt e3 rfl f3 rfl ?_
 refine kat_cons (wpAny_eqBool_str ?_)
 by_cases e:k1=k2
 ·rw[decide_eq_true e]
  have hij:i=j:=by
   have hi':i < ks.length:=by omega
   have hj':j < ks.length:=by omega
   have q1:ks[i]=k1:=by have:=List.getElem?_eq_getElem hi';rw[e1]at this;exact(Option.some.inj this).symm
   have q2:ks[j]=k2:=by have:=List.getElem?_eq_getElem hj';rw[f1]at this;exact(Option.some.inj this).symm
   exact(List.getElem_inj nd).mp (q1.trans (e.trans q2.symm))
  subst hij
  rw[e2]at f2
  cases f2
  refine kat_yes (kat_cons ?_)
  refine hx x1 (List.mem_of_getElem? e2) s _ _ _ _ ?_
  refine kat_yes (kat_nil ?_)
  rw[e]at h
  have:decide (k2.cps.toList < k2.cps.toList)=false:=decide_eq_false (List.lt_irrefl _)
  rw[this]at h
  exact h
 ·rw[decide_eq_false e]
  exact kat_no (oneLt_str h)
end
end KS
namespace L2
open PySem PySem.Spec PyProof.Rows PySem.W
noncomputable def jk4 (d v:Addr):HO:=.ext fun h=>h.get? v=some {cls:=.type "dict_items",data:=.fields #[.ref d]}
theorem jt3 {X:Cx}:MtR X "dict.items" (fun x vs H Q=>∃d kvs,x=.ref d∧vs=[]∧H d=some (.dK kvs)∧∀v,H v=none→Q (.ref v) (upd H v (jk4 d v))):=by
 intro pins s σ H x xs v us Q I rx rv h
 obtain⟨d,kvs,rfl,rfl,hd,q⟩:=h
 cases rx
 cases rv.zero
 obtain⟨z,hsys,vs',rel,hD⟩:=I.hok d _ hd
 refine call_meetsIn PySem.F.slot_dict_items hD.typeIs PySem.F.entry_dict_items (PySem.F.args_dict_items_1 _) (meets_dict_items (jbk X.prog X.w) d hsys) ⟨⟨vs',hD⟩,?_⟩
 have e:(s.heap.push ({cls:=.type "dict_items",data:=.fields #[.ref d]}:Obj)).get? s.heap.objs.size=some {cls:=.type "dict_items",data:=.fields #[.ref d]}:=Heap.get?_push_size _ rfl
 exact⟨.ref s.heap.objs.size,_,I.laid (t':=s.toks) (o:=jk4 d s.heap.objs.size) (fun b ob q=>Heap.get?_push_of_some _ q) (Nat.le_refl _) ⟨e,⟨_,e⟩,fun h1 h2 q k=>k _ q⟩,rfl,q _ (I.hok.fresh (Nat.le_refl _))⟩
noncomputable def IxV (as:List Addr) (ks:List Str) (xv:List V) (i:Nat):Addr×Str×V:=(as.getD i 0,ks.getD i ⟨#[]⟩,xv.getD i .non)
noncomputable def newH (H:Hp) (D:Addr) (l:List V) (as:List Addr) (ks:List Str) (xv:List V):Hp:=fun b=>if b=D then some (.lst l)else match as.idxOf? b with
 |some j=>some (.tup [.str (ks.getD j ⟨#[]⟩),xv.getD j .non])
 |none=>H b
theorem jev {as:List Addr} {b:Addr} {j:Nat} (h:as.idxOf? b=some j):as[j]?=some b:=by
 unfold List.idxOf? at h
 obtain⟨h1,h2,_⟩:=List.findIdx?_eq_some_iff_getElem.mp h
 rw[List.getElem?_eq_getElem h1]
 rw[beq_iff_eq]at h2
 rw[h2]
theorem jo8 {as:List Addr} {b:Addr} (h:as.idxOf? b=none):b∉as:=fun hb=>by
 unfold List.idxOf? at h
 rw[List.findIdx?_eq_none_iff]at h
 have:=h b hb
 simp at this
theorem jrr {as:List Addr} (nd:as.Nodup) {j:Nat} {a:Addr} (h:as[j]?=some a):as.idxOf? a=some j:=by
 obtain⟨h1,h2⟩:=List.getElem?_eq_some_iff.mp h
 cases e:as.idxOf? a with
 |none=>exact absurd (List.mem_of_getElem? h) (jo8 e)
 |some i =>
  have e':=jev e
  obtain⟨h3,h4⟩:=List.getElem?_eq_some_iff.mp e'
  rw[(List.getElem_inj nd).mp (h4.trans h2.symm)]
section
variable {X:Cx} {pins:List (Addr×Obj)} {σ:St} {H:Hp} {s:Shared}
theorem jl0 {as:List Addr} {ks:List Str} {xv:List V} {xs:List Value} {D:Addr} {idx:List Nat} {h3:Heap} {tk c:Nat} {Q:VK} (I:Inv X pins σ H s) (hk:∀b o,s.heap.get? b=some o→h3.get? b=some o)
  (hI:KS.ItsOk h3 as ks xs) (hx:Vals xv xs) (hup:∀a∈as,s.heap.objs.size≤a) (nd:as.Nodup) (hD:∀b o,s.heap.get? b=some o→b≠D) (hDH:H D=none) (hDa:D∉as) (hl:as.length < 64) (hidx:idx.Perm (List.range as.length))
  (hL:h3.get? D=some (seqObj "list" (List.toArray (idx.map fun i=>(as.map Value.ref).getD i Value.none)) c))
  (q:∀H',Same H H'→H D=none→(∀a∈as,H a=none)→H' D=some (.lst (idx.map fun i=>V.ref (IxV as ks xv i).1))→(∀i∈idx,H' (IxV as ks xv i).1=some (.tup [.str (IxV as ks xv i).2.1,(IxV as ks xv i).2.2]))→Q (.ref D) H') :
  EP X pins σ Q (.ref D) {s with heap:=h3,toks:=tk}:=by
 obtain⟨l1,l2,hp⟩:=hI
 have lx:=hx.length
 have old:∀{b o},H b=some o→b < s.heap.objs.size:=fun e=>I.hok.lt e
 have hidlt:∀i∈idx,i < as.length:=fun i hi=>List.mem_range.mp (hidx.mem_iff.mp hi)
 have hlen:idx.length=as.length:=by rw[hidx.length_eq,List.length_range]
 have hsame:Same H (newH H D (idx.map fun i=>V.ref (IxV as ks xv i).1) as ks xv):=fun b o e=>by
  unfold newH
  rw[if_neg (fun z=>by rw[z,hDH]at e;cases e)]
  cases q:as.idxOf? b with
  |none=>exact e
  |some j =>
   have:=hup b (List.mem_of_getElem? (jev q))
   exact absurd (old e) (Nat.not_lt.mpr this)
 have hvals:Vals (idx.map fun i=>V.ref (IxV as ks xv i).1) (idx.map fun i=>(as.map Value.ref).getD i Value.none):=by
  have:∀l:List Nat,(∀i∈l,i < as.length)→Vals (l.map fun i=>V.ref (IxV as ks xv i).1) (l.map fun i=>(as.map Value.ref).getD i Value.none):=by
   intro l
   induction l with
   |nil=>intro _;exact .nil
   |cons i r ih =>
    intro hl
    have hi:=hl i List.mem_cons_self
    refine .cons ?_ (ih fun j hj=>hl j (List.mem_cons_of_mem _ hj))
    show(as.map Value.ref).getD i Value.none=Value.ref (as.getD i 0)
    simp[hi]
  exact this idx hidlt
 have hnew:HOk X.prog X.w (newH H D (idx.map fun i=>V.ref (IxV as ks xv i).1) as ks xv) h3:=fun b o e=>by
  by_cases hb:b=D
  ·subst hb
   unfold newH at e
   rw[if_pos rfl]at e
   cases e
   refine⟨?_,_,c,hvals,hL⟩
   rw[List.length_map,hlen]
   exact jbc (by omega)
  ·have e2:=e
   unfold newH at e2
   rw[if_neg hb]at e2
   cases qi:as.idxOf? b with
   |none =>
    rw[qi]at e2
    refine(I.hok b o e2).stay (fun cc u _ z=>hk cc u z) (fun cc z=>hsame _ _ z) fun cc ys z=>hsame _ _ z
   |some j =>
    rw[qi]at e2
    cases e2
    obtain⟨k,t,x,g1,g2,g3⟩:=hp j b (jev qi)
    have hjl:j < xv.length:=by
     have:=(List.getElem?_eq_some_iff.mp g2).1
     omega
    have ev:RelV (xv.getD j .non) x:=by
     obtain⟨u,hu,ru⟩:=hx.get (List.getElem?_eq_getElem hjl)
     rw[g2]at hu
     cases hu
     have:xv.getD j .non=xv[j]:=by simp[hjl]
     rw[this]
     exact ru
    have ek:ks.getD j ⟨#[]⟩=k:=by simp[g1]
    refine⟨by show 2≤sizeLine;decide,[.str k t,x],.cons (by rw[ek];exact⟨t,rfl⟩) (.cons ev .nil),?_⟩
    exact⟨_,g3,rfl,⟨_,rfl⟩,rfl⟩
 refine⟨.ref D,_,I.call' (s':={ s with heap:=h3,toks:=tk}) (ch:=[]) rfl ?_ hnew I.bare (fun b hb=>nomatch hb),rfl,q _ hsame hDH (fun a ha=>I.hok.fresh (hup a ha)) (by unfold newH;rw[if_pos rfl]) fun i hi=>?_⟩
 ·refine⟨fun b o e n _ _=>hk b o e,fun b o e n _ _=>⟨o.slots,hk b o e⟩,fun b o e n _=>?_,fun b o e _=>⟨o,hk b o e⟩,fun b ys z=>hsame _ _ z,fun b o' u z=>hsame _ _ z,fun b ps z=>⟨#[],by rw[Array.append_empty];exact hsame _ _ z⟩⟩
  have hlt:=Heap.lt_size e
  unfold newH
  rw[if_neg (hD b o e)]
  cases qi:as.idxOf? b with
  |none=>exact n
  |some j=>exact absurd hlt (Nat.not_lt.mpr (hup b (List.mem_of_getElem? (jev qi))))
 ·have hi':=hidlt i hi
  have ea:(IxV as ks xv i).1=as[i]:=by show as.getD i 0=_;simp[hi']
  have eg:as[i]?=some as[i]:=List.getElem?_eq_getElem hi'
  have ne:as[i]≠D:=fun z=>hDa (z▸List.getElem_mem hi')
  rw[ea]
  unfold newH
  rw[if_neg ne,jrr nd eg]
  rfl
end
noncomputable def ji9:List V→Hp→VK→Prop:=fun xs H Q=>∃(v d:Addr) (ks:List Str) (xv:List V),xs=[.ref v]∧H v=some (jk4 d v)∧ks.length=xv.length∧H d=some (.dK ((ks.zip xv).map fun p=>((Sum.inr p.1:Key),p.2)))∧ks.length < 64∧ks.Nodup∧xv.all jg2=true ∧
 ∀(D:Addr) (as:List Addr) (idx:List Nat) (H':Hp),as.length=ks.length→idx.Perm (List.range ks.length)→(idx.map fun i=>ks.getD i ⟨#[]⟩).Pairwise (fun _ _=>True)→Same H H'→H D=none→(∀a∈as,H a=none) →
  H' D=some (.lst (idx.map fun i=>V.ref (IxV as ks xv i).1))→(∀i∈idx,H' (IxV as ks xv i).1=some (.tup [.str (IxV as ks xv i).2.1,(IxV as ks xv i).2.2]))→Q (.ref D) H'
theorem jua {xs:List Value} {ks:List Str}:∀{xv:List V} {vs:List (Key×Value)},ks.length=xv.length→KV ((ks.zip xv).map fun p=>((Sum.inr p.1:Key),p.2)) vs→vs.length=ks.length∧Vals xv (vs.map (·.2))∧vs.map (·.1)=ks.map (Sum.inr:Str→Key):=by
 induction ks with
 |nil =>
  intro xv vs hl h
  cases xv with
  |nil=>cases h;exact⟨rfl,.nil,rfl⟩
  |cons _ _=>cases hl
 |cons k ks ih =>
  intro xv vs hl h
  cases xv with
  |nil=>cases hl
  |cons x xv =>
   cases h with
   |cons r rr =>
    obtain⟨h1,h2,h3⟩:=ih (by simpa using hl) rr
    refine⟨by simp[h1],.cons r.2 h2,?_⟩
    rw[List.map_cons,List.map_cons,h3,←r.1]
theorem jiw {X:Cx} (hh:X.A.handled=none):CallR X (.builtin "sorted") ji9:=by
 intro pins s σ H xs us Q I r h
 obtain⟨v,d,ks,xv,rfl,hv,hl,hd,h64,nd,fl,q⟩:=h
 obtain⟨u,rfl,ru⟩:=jia r
 cases(show u=Value.ref v from ru)
 have ov:s.heap.get? v=some {cls:=.type "dict_items",data:=.fields #[.ref d]}:=(I.hok v _ hv).1
 obtain⟨z,hsys,vs',rel,hDict⟩:=I.hok d _ hd
 obtain⟨ep,hat⟩:=hDict.dictAt
 obtain⟨lv,hvals,hkeys⟩:=jua (xs:=[]) hl rel
 refine KS.sorted_of (R:=fun vs s1=>∃(h':Heap) (tk:Nat) (as:List Addr),vs=as.map Value.ref∧s1={ s with heap:=h',toks:=tk}∧(∀b o,s.heap.get? b=some o→h'.get? b=some o)∧as.length=vs'.length∧KdxG (jbk X.prog X.w) vs' s.heap.objs.size h' as)
  (kdx_collect (knd:=jbk X.prog X.w) (kvs:=vs') (ep:=ep) hh ⟨_,ov,rfl,rfl⟩ hat (by rw[lv];exact jbc (by omega)) fun h' tk as hk hl hG=>⟨h',tk,as,rfl,rfl,hk,hl,hG⟩) ?_
 rintro vs s1 ⟨h',tk,as,rfl,rfl,hk,hla,hG⟩
 have hlen:as.length=ks.length:=hla.trans lv
 have its:KS.ItsOk h' as ks (vs'.map (·.2)):=⟨hlen,by rw[List.length_map,hla],fun j a ha=>by
  obtain⟨key,k,x,e1,e2,e3⟩:=hG.pairs j a ha
  have hk1:(vs'.map (·.1))[j]?=some k:=by rw[List.getElem?_map,e1];rfl
  rw[hkeys,List.getElem?_map]at hk1
  cases eq:ks[j]? with
  |none=>rw[eq]at hk1;cases hk1
  |some k0 =>
   rw[eq]at hk1
   have hk2:(Sum.inr k0:Key)=k:=Option.some.inj hk1
   subst hk2
   rcases jbl (k:=Sum.inr k0) (v:=key) (show jm9 (Sum.inr k0) key=true from e2)with⟨i,t,z,_⟩ | ⟨y,t,z,rfl⟩
   ·cases z
   ·cases z
    exact⟨k0,t,x,rfl,by rw[List.getElem?_map,e1];rfl,e3⟩⟩
 have hup:∀a∈as,s.heap.objs.size≤a:=fun a ha=>Nat.le_of_lt (hG.above a ha)
 have ndA:as.Nodup:=hG.rise.imp fun h=>Nat.ne_of_lt h
 have hDa:h'.objs.size∉as:=fun hm=>Nat.lt_irrefl _ (hG.there hm)
 have hs':∀b o,s.heap.get? b=some o→b≠h'.objs.size:=fun b o e=>Nat.ne_of_lt (Heap.lt_size (hk b o e))
 have hsH:H h'.objs.size=none:=(I.hok.kept hk).fresh (Nat.le_refl _)
 refine⟨by rw[List.length_map,hlen];exact jbc (by omega),?_⟩
 have hoL:(h'.push (seqObj "list" (as.map Value.ref).toArray 0)).get? h'.objs.size=some (seqObj "list" (as.map Value.ref).toArray 0):=Heap.get?_push_size _ rfl
 have its2:∀h4:Heap,(∀b o,b≠h'.objs.size→(h'.push (seqObj "list" (as.map Value.ref).toArray 0)).get? b=some o→h4.get? b=some o)→KS.ItsOk h4 as ks (vs'.map (·.2)):=fun h4 k4=>⟨its.1,its.2.1,fun j a ha=>by
  obtain⟨k,t,x,e1,e2,e3⟩:=its.2.2 j a ha
  exact⟨k,t,x,e1,e2,k4 a _ (fun z=>hDa (z▸List.mem_of_getElem? ha)) (Heap.get?_push_of_some _ e3)⟩⟩
 have keep4:∀h4:Heap,(∀b o,b≠h'.objs.size→(h'.push (seqObj "list" (as.map Value.ref).toArray 0)).get? b=some o→h4.get? b=some o)→∀b o,s.heap.get? b=some o→h4.get? b=some o:=fun h4 k4 b o e =>
  k4 b o (hs' b o e) (Heap.get?_push_of_some _ (hk b o e))
 by_cases h2:2≤(as.map Value.ref).length
 ·refine KS.ls_sort (s:={ s with heap:=h'.push (seqObj "list" (as.map Value.ref).toArray 0),toks:=tk}) hoL h2 (by rw[List.length_map];omega) fun e1 h4 ha4 k4=>?_
  have its4:=its2 h4 k4
  obtain⟨fs,f1,f2,f3⟩:=KS.katTups its4
  rw[List.length_map]at h2
  refine kat_kind (s:={ s with heap:=h4,toks:=tk}) (T:=Value.type "str") f1 (by omega) (fun f hf=>?_) rfl ?_
  ·obtain⟨k,t,rfl⟩:=f3 f hf
   exact .now
  ·rw[List.length_map]
   have hn:0 < as.length:=by omega
   have hwi:=KS.wi_sort hn
   refine KS.wp_run (n:=as.length) (P:=KS.Pm as.length) (c:=KS.ltK ks) (St:=fun s'=>s'={ s with heap:=h4,toks:=tk}) (fun i j C s' hi hj hs hC=>?_) _ _ hwi rfl fun s' hs'=>?_
   ·subst hs
    refine KS.ask_items its4 nd (fun x hx s''=>?_) hi hj (hC _ rfl)
    obtain⟨j,hj⟩:=List.mem_iff_getElem?.mp hx
    have hjl:j < xv.length:=by
     have:=(List.getElem?_eq_some_iff.mp hj).1
     rw[List.length_map]at this
     omega
    obtain⟨u,hu,ru⟩:=hvals.get (List.getElem?_eq_getElem hjl)
    rw[hj]at hu
    cases hu
    have fx:jg2 xv[j]=true:=List.all_eq_true.mp fl _ (List.getElem_mem hjl)
    have:=jvw (A:=X.A.in1.in1) (s:=s'') ru ru fx fx
    have e1:eqV xv[j] xv[j]=true:=by
     cases ex:xv[j]<;>simp[eqV]<;>(rw[ex]at fx;cases fx)
    rw[e1]at this
    exact this
   ·subst hs'
    refine⟨ha4,fun h3 c sb hL3=>⟨rfl,?_⟩⟩
    have hpm:KS.Pm as.length (KS.run (KS.ltK ks) (kas_sort as.length)):=KS.Wi.out _ hwi
    have hsz:=hpm.size
    have hidx:(KS.run (KS.ltK ks) (kas_sort as.length)).toList.Perm (List.range as.length):=by
     have:=Array.perm_iff_toList_perm.mp hpm
     simpa using this
    have k3:∀b o,b≠h'.objs.size→(h'.push (seqObj "list" (as.map Value.ref).toArray 0)).get? b=some o→h3.get? b=some o:=fun b o hb e=>(sb.2 b hb).trans (k4 b o hb e)
    exact jl0 (s:=s) (tk:=tk) (xv:=xv) I (keep4 h3 k3) (its2 h3 k3) hvals hup ndA hs' hsH hDa (by omega) hidx hL3 fun H' a1 a2 a3 a4 a5=>q _ as _ H' hlen (by rw[←hlen];exact hidx) (KS.pwT _) a1 a2 a3 a4 a5
 ·refine KS.ls_short (s:={ s with heap:=h'.push (seqObj "list" (as.map Value.ref).toArray 0),toks:=tk}) hoL (by omega) fun h4 c ha4 k4=>⟨rfl,?_⟩
  rw[List.length_map]at h2
  have el:as.map Value.ref=(List.range as.length).map fun i=>(as.map Value.ref).getD i Value.none:=by
   apply List.ext_getElem (by simp)
   intro i h1 h2
   simp at h1
   simp[h1]
  rw[el]at ha4
  refine jl0 (s:=s) (tk:=tk) (xv:=xv) (idx:=List.range as.length) I (keep4 h4 k4) (its2 h4 k4) hvals hup ndA hs' hsH hDa (by omega) (List.Perm.refl _) ha4 fun H' a1 a2 a3 a4 a5=>q _ as _ H' hlen (by rw[←hlen]) ?_ a1 a2 a3 a4 a5
  have:(List.range as.length).length≤1:=by simp;omega
  match hr:List.range as.length,this with
  |[],_=>exact .nil
  |[i],_=>exact List.pairwise_singleton _ _
noncomputable def TxOk (vs:List Value) (ks:List Str):Prop:=vs.length=ks.length∧∀(j:Nat) v,vs[j]?=some v→∃k t,ks[j]?=some k∧v=.str k t
theorem jln {vs:List Value} {ks:List Str} (h:TxOk vs ks):∀(idx:List Nat),(∀i∈idx,i < ks.length)→Vals ((idx.map fun i=>ks.getD i ⟨#[]⟩).map V.str) (idx.map fun i=>vs.getD i Value.none)
 |[],_=>.nil
 |i::r,hi=>by
  have h1:=hi i List.mem_cons_self
  have h2:i < vs.length:=by rw[h.1];exact h1
  obtain⟨k,t,e1,e2⟩:=h.2 i vs[i] (List.getElem?_eq_getElem h2)
  refine .cons ⟨t,?_⟩ (jln h r fun j hj=>hi j (List.mem_cons_of_mem _ hj))
  simp[h2,e1,e2]
theorem jq0 {ks:List Str} {idx:List Nat} (h:idx.Perm (List.range ks.length)):(idx.map fun i=>ks.getD i ⟨#[]⟩).Perm ks:=by
 have h1:=h.map fun i=>ks.getD i (⟨#[]⟩:Str)
 have h2:(List.range ks.length).map (fun i=>ks.getD i (⟨#[]⟩:Str))=ks:=by
  apply List.ext_getElem (by simp)
  intro i h1 h2
  simp[h2]
 rw[h2]at h1
 exact h1
theorem joy {X:Cx} {pins:List (Addr×Obj)} {σ:St} {H:Hp} {s:Shared} {h':Heap} {tk:Nat} {vs:List Value} {ks:List Str} {Q:VK} (I:Inv X pins σ H s) (hkp:∀b o,s.heap.get? b=some o→h'.get? b=some o) (hT:TxOk vs ks) (h64:ks.length < 64)
  (q:∀(D:Addr) (ys:List Str),ys.Perm ks→ys.Pairwise (fun _ _=>True)→H D=none→Q (.ref D) (upd H D (.lst (ys.map V.str)))) :
  vs.length≤sizeLine∧wpAny (model X.prog X.w) X.A.in1.in1 (Builtin.«list.sort» ⟨[.ref h'.objs.size],[]⟩) (fun f s2=>f=.done (.ret .none)∧EP X pins σ Q (.ref h'.objs.size) s2) X.xe {s with heap:=h'.push (seqObj "list" vs.toArray 0),toks:=tk}:=by
 have hl:=hT.1
 refine⟨by rw[hl];exact jbc (by omega),?_⟩
 have hoL:(h'.push (seqObj "list" vs.toArray 0)).get? h'.objs.size=some (seqObj "list" vs.toArray 0):=Heap.get?_push_size _ rfl
 have hs':∀b o,s.heap.get? b=some o→b≠h'.objs.size:=fun b o e=>Nat.ne_of_lt (Heap.lt_size (hkp b o e))
 have fin:∀(idx:List Nat) (h3:Heap) (c:Nat),idx.Perm (List.range ks.length)→(idx.map fun i=>ks.getD i ⟨#[]⟩).Pairwise (fun _ _=>True) →
   (∀b o,b≠h'.objs.size→(h'.push (seqObj "list" vs.toArray 0)).get? b=some o→h3.get? b=some o)→h3.get? h'.objs.size=some (seqObj "list" (List.toArray (idx.map fun i=>vs.getD i Value.none)) c)→EP X pins σ Q (.ref h'.objs.size) {s with heap:=h3,toks:=tk}:=fun idx h3 c hp hw k3 hL=>by
  have I1:Inv X pins σ H {s with heap:=h',toks:=tk}:=I.kept hkp
  have hn:H h'.objs.size=none:=I1.hok.fresh (Nat.le_refl _)
  refine⟨.ref h'.objs.size,_,I1.laid (t':=tk) (h':=h3) (o:=.lst ((idx.map fun i=>ks.getD i ⟨#[]⟩).map V.str)) (fun b o e=>k3 b o (Nat.ne_of_lt (Heap.lt_size e)) (Heap.get?_push_of_some _ e)) (Nat.le_refl _) ⟨?_,_,c,jln hT idx (fun i hi=>List.mem_range.mp (hp.mem_iff.mp hi)),hL⟩,rfl,q _ _ (jq0 hp) hw hn⟩
  rw[List.length_map,List.length_map,hp.length_eq,List.length_range]
  exact jbc (by omega)
 by_cases h2:2≤vs.length
 ·refine KS.ls_sort (s:={ s with heap:=h'.push (seqObj "list" vs.toArray 0),toks:=tk}) hoL h2 (by omega) fun e1 h4 ha4 k4=>?_
  refine kas_kind (s:={ s with heap:=h4,toks:=tk}) (T:=Value.type "str") h2 (fun f hf=>?_) rfl rfl ?_
  ·obtain⟨j,hj⟩:=List.mem_iff_getElem?.mp hf
   obtain⟨k,t,_,rfl⟩:=hT.2 j f hj
   exact .now
  ·have hn:0 < vs.length:=by omega
   have hwi:=KS.wi_sort hn
   refine KS.wp_run (n:=vs.length) (P:=KS.Pm vs.length) (c:=KS.ltK ks) (St:=fun s'=>s'={ s with heap:=h4,toks:=tk}) (fun i j C s' hi hj hs hC=>?_) _ _ hwi rfl fun s' hs'=>?_
   ·subst hs
    obtain⟨k1,t1,a1,a2⟩:=hT.2 i vs[i] (List.getElem?_eq_getElem hi)
    obtain⟨k2,t2,b1,b2⟩:=hT.2 j vs[j] (List.getElem?_eq_getElem hj)
    unfold kas_ask
    have g1:vs.getD i Value.none=.str k1 t1:=by simp[hi,a2]
    have g2:vs.getD j Value.none=.str k2 t2:=by simp[hj,b2]
    rw[g1,g2]
    have c1:ks.getD i ⟨#[]⟩=k1:=by simp[a1]
    have c2:ks.getD j ⟨#[]⟩=k2:=by simp[b1]
    have:=hC _ rfl
    unfold KS.ltK at this
    rw[c1,c2]at this
    exact kas_lt_str this
   ·subst hs'
    refine⟨ha4,fun h3 c sb hL3=>⟨rfl,?_⟩⟩
    have hpm:KS.Pm vs.length (KS.run (KS.ltK ks) (kas_sort vs.length)):=KS.Wi.out _ hwi
    have hsz:=hpm.size
    have hidx:(KS.run (KS.ltK ks) (kas_sort vs.length)).toList.Perm (List.range vs.length):=by
     have:=Array.perm_iff_toList_perm.mp hpm
     simpa using this
    refine fin _ h3 c (by rw[←hl];exact hidx) (KS.pwT _) (fun b o hb e=>(sb.2 b hb).trans (k4 b o hb e)) hL3
 ·refine KS.ls_short (s:={ s with heap:=h'.push (seqObj "list" vs.toArray 0),toks:=tk}) hoL (by omega) fun h4 c ha4 k4=>⟨rfl,?_⟩
  have el:vs=(List.range ks.length).map fun i=>vs.getD i Value.none:=by
   apply List.ext_getElem (by simp[hl])
   intro i h1 h2
   simp[h1]
  have ha5:h4.get? h'.objs.size=some (seqObj "list" (List.toArray ((List.range ks.length).map fun i=>vs.getD i Value.none)) c):=by rw[←el];exact ha4
  refine fin (List.range ks.length) h4 c (List.Perm.refl _) ?_ k4 ha5
  have:(List.range ks.length).length≤1:=by simp;omega
  match hr:List.range ks.length,this with
  |[],_=>exact .nil
  |[i],_=>exact List.pairwise_singleton _ _
end L2
namespace L2
open PySem PySem.Spec PyProof.Rows
section
variable {prog:Program} {w:World} {A:Around} {E:Value→Shared→Prop} {s:Shared}
theorem jcq {it t:Addr} {i:Nat} {items:Array Value} {x:Value} {Q:Value→Shared→Prop} (hit:s.heap.IsTupleIter it t i) (ht:s.heap.IsTuple t items) (hx:items[i]?=some x)
  (hQ:∀h',h'.IsTupleIter it t (i+1)→Heap.SameBut it s.heap h'→Q x {s with heap:=h'}):wpAny (model prog w) A (Builtin.SmallTypes.nextOf (.ref it)) Q E s:=by
 obtain⟨o,ho,hc,hd⟩:=id hit
 obtain⟨ol,hol,_,nl,hdl⟩:=ht
 unfold Builtin.SmallTypes.nextOf
 refine wpAny_bind (wpAny_callSpecial?_slot (name:=Str.ofString "__next__") hit.typeIs F.slot_tuple_iterator_next
  (wpAny_call_entry F.slot_tuple_iterator_next hit.typeIs F.entry_tuple_iterator_next ?_ (F.args_tuple_iterator_next_1 _)))
 show wpAny _ _ (field (.ref it) 0>>=_) _ _ s
 refine wpAny_bind (wpAny_field ho hd (x:=.ref t) rfl ?_)
 show wpAny _ _ (if (Value.ref t==Value.none)=true then _ else _) _ _ s
 rw[if_neg (show ¬((Value.ref t==Value.none)=true)from Bool.false_ne_true)]
 show wpAny _ _ (field (.ref it) 1>>=_) _ _ s
 refine wpAny_bind (wpAny_field ho hd (x:=.int i 0) rfl ?_)
 show wpAny _ _ (seqItems? (.ref t)>>=_) _ _ s
 refine wpAny_bind (wpAny_seqItems hol hdl ?_)
 simp only[Int.toNat_natCast,hx]
 refine wpAny_bind (wpAny_setField ho hd (by simp) (wpAny_pure ⟨x,rfl,wpAny_pure (hQ _ ?_ (Heap.SameBut.update ..))⟩))
 exact⟨_,Heap.get?_update_self _ ho (Obj.isFreed_of_fields (Obj.data_mapFields hd _)),(Obj.cls_mapFields ..).trans hc,by
  rw[Obj.data_mapFields hd];simp[rawInt]⟩
theorem jd9 {it t:Addr} {i:Nat} {items:Array Value} {Q:Value→Shared→Prop} (hh:A.handled=none) (hit:s.heap.IsTupleIter it t i) (ht:s.heap.IsTuple t items) (hx:items[i]?=none)
  (hE:∀h' e,Heap.ExtBut it s.heap h'→(∃o,h'.get? e=some o∧o.cls=.type "StopIteration")→E (.ref e) {s with heap:=h'}) :
  wpAny (model prog w) A (Builtin.SmallTypes.nextOf (.ref it)) Q E s:=by
 obtain⟨o,ho,hc,hd⟩:=id hit
 obtain⟨ol,hol,_,nl,hdl⟩:=ht
 unfold Builtin.SmallTypes.nextOf
 refine wpAny_bind (wpAny_callSpecial?_slot (name:=Str.ofString "__next__") hit.typeIs F.slot_tuple_iterator_next
  (wpAny_call_entry F.slot_tuple_iterator_next hit.typeIs F.entry_tuple_iterator_next ?_ (F.args_tuple_iterator_next_1 _)))
 show wpAny _ _ (field (.ref it) 0>>=_) _ _ s
 refine wpAny_bind (wpAny_field ho hd (x:=.ref t) rfl ?_)
 show wpAny _ _ (if (Value.ref t==Value.none)=true then _ else _) _ _ s
 rw[if_neg (show ¬((Value.ref t==Value.none)=true)from Bool.false_ne_true)]
 show wpAny _ _ (field (.ref it) 1>>=_) _ _ s
 refine wpAny_bind (wpAny_field ho hd (x:=.int i 0) rfl ?_)
 show wpAny _ _ (seqItems? (.ref t)>>=_) _ _ s
 refine wpAny_bind (wpAny_seqItems hol hdl ?_)
 simp only[Int.toNat_natCast,hx]
 refine wpAny_bind (wpAny_rule (wpAny_bind (wpAny_setField ho hd (by simp) ?_)))
 show wpAny _ _ (newExc (.type "StopIteration") []>>=_) _ _ _
 refine wpAny_bind ?_
 simp only[newExc,newTuple]
 refine wpAny_bind (wpAny_newObj_type ?_ (by size_fits))
 refine wpAny_bind (m:=firstArgMember _ _) (wpAny_of_eq (a:=Value.none) (by first | rfl | (simp only[firstArgMember];rfl)) ?_)
 refine wpAny_newObj_type ?_ (by size_fits)
 simp only[raiseNew]
 refine wpAny_bind (wpAny_handled ?_)
 first | rw[show A.in1.handled=none from hh] | rw[hh]
 refine wpAny_bind (wpAny_pure (wpAny_throw ?_))
 exact hE _ _ (((Heap.SameBut.update ..).extBut.push _).push _) ⟨_,Heap.get?_push_size _ rfl,rfl⟩
theorem jpm {z TI TO i1 i2 l1 l2:Addr} {k:Nat} {xs ys:Array Value} {x y a b:Value} {Q:Value→Shared→Prop} (D:ZipApart z TI TO i1 i2 l1 l2)
  (hz:IsZip s.heap z TI TO .none) (hTI:IsPair s.heap TI (.ref i1) (.ref i2)) (hTO:IsPair s.heap TO a b)
  (h1:s.heap.IsTupleIter i1 l1 k) (h2:s.heap.IsTupleIter i2 l2 k) (hl1:s.heap.IsTuple l1 xs) (hl2:s.heap.IsTuple l2 ys) (hx:xs[k]?=some x) (hy:ys[k]?=some y)
  (hQ:∀h',IsZip h' z TI TO (rawInt s.heap.objs.size)→IsPair h' TO x y→h'.IsTupleIter i1 l1 (k+1)→h'.IsTupleIter i2 l2 (k+1)→IsPair h' s.heap.objs.size x y→h'.objs.size=s.heap.objs.size+1 →
   (∀c o,c≠z→c≠TO→c≠i1→c≠i2→s.heap.get? c=some o→h'.get? c=some o)→Q (.ref s.heap.objs.size) {s with heap:=h'}) :
  wpAny (model prog w) A (Builtin.«zip.__next__» ⟨[.ref z],[]⟩) (fun fin s'=>∃v,fin=.done (.ret v)∧Q v s') E s:=by
 show wpAny _ _ (field (.ref z) 2>>=_) _ _ _
 refine wpAny_bind (wpAny_field hz rfl (x:=.bool false) rfl ?_)
 show wpAny _ _ (field (.ref z) 3>>=_) _ _ _
 refine wpAny_bind (wpAny_field hz rfl (x:=.ref TI) rfl ?_)
 refine wpAny_bind (wpAny_seqItems hTI rfl ?_)
 show wpAny _ _ (Builtin.SmallTypes.ownedTupleIsFree (.ref z)>>=_) _ _ _
 refine wpAny_bind ?_
 unfold Builtin.SmallTypes.ownedTupleIsFree
 refine wpAny_bind (wpAny_field hz rfl (x:=.none) rfl (wpAny_pure ?_))
 simp only[if_true]
 refine wpAny_bind (wpAny_rule ?_)
 refine wpAny_bind (wpAny_field hz rfl (x:=.ref TO) rfl ?_)
 refine wpAny_bind (wpAny_setField_rec hz (by simp) fun g1 hz1 s1=>?_)
 replace hz1:IsZip g1 z TI TO .ellipsis:=hz1
 refine wpAny_bind ?_
 simp only[List.zipIdx_cons,List.zipIdx_nil,List.forIn_cons,List.forIn_nil]
 refine wpAny_bind (wpAny_bind (wpAny_onRaise ?_))
 show wpAny _ _ (Builtin.SmallTypes.nextOf (.ref i1)>>=_) _ _ _
 refine wpAny_bind (jcq (h1.extBut s1.extBut D.i1z) (hl1.extBut s1.extBut D.l1z) hx fun g2 t2 s2=>wpAny_pure ?_)
 have p2:IsPair g2 TO a b:=s2.extBut _ _ D.TOi1 (s1.extBut _ _ D.TOz hTO)
 refine wpAny_bind (wpAny_seqItems p2 rfl ?_)
 refine wpAny_bind (wpAny_updateSeq_pair p2 fun g3 p3 s3=>?_)
 replace p3:IsPair g3 TO x b:=p3
 refine wpAny_bind (wpAny_letGo (wpAny_pure ?_))
 refine wpAny_bind (wpAny_bind (wpAny_onRaise ?_))
 show wpAny _ _ (Builtin.SmallTypes.nextOf (.ref i2)>>=_) _ _ _
 refine wpAny_bind (jcq (((h2.extBut s1.extBut D.i2z).extBut s2.extBut D.i12.symm).extBut s3.extBut D.TOi2.symm)
  (((hl2.extBut s1.extBut D.l2z).extBut s2.extBut D.l2i1).extBut s3.extBut D.l2TO) hy fun g4 t4 s4=>wpAny_pure ?_)
 have p4:IsPair g4 TO x b:=s4.extBut _ _ D.TOi2 p3
 refine wpAny_bind (wpAny_seqItems p4 rfl ?_)
 refine wpAny_bind (wpAny_updateSeq_pair p4 fun g5 p5 s5=>?_)
 replace p5:IsPair g5 TO x y:=p5
 refine wpAny_bind (wpAny_letGo (wpAny_pure (wpAny_pure ?_)))
 refine wpAny_bind (wpAny_seqItems p5 rfl ?_)
 refine wpAny_bind (wpAny_newTuple ?_)
 have sz:g5.objs.size=s.heap.objs.size:=by rw[s5.1,s4.1,s3.1,s2.1,s1.1]
 have z5:IsZip g5 z TI TO .ellipsis:=s5.extBut _ _ D.TOz.symm (s4.extBut _ _ D.i2z.symm (s3.extBut _ _ D.TOz.symm (s2.extBut _ _ D.i1z.symm hz1)))
 have k5:∀c o,c≠z→c≠TO→c≠i1→c≠i2→s.heap.get? c=some o→g5.get? c=some o:=fun c o c1 c2 c3 c4 e =>
  s5.extBut _ _ c2 (s4.extBut _ _ c4 (s3.extBut _ _ c2 (s2.extBut _ _ c3 (s1.extBut _ _ c1 e))))
 have u1:g5.IsTupleIter i1 l1 (k+1):=((t2.extBut s3.extBut D.TOi1.symm).extBut s4.extBut D.i12).extBut s5.extBut D.TOi1.symm
 have u2:g5.IsTupleIter i2 l2 (k+1):=t4.extBut s5.extBut D.TOi2.symm
 have zlt:z < g5.objs.size:=Heap.lt_size z5
 show wpAny _ _ (Builtin.SmallTypes.ownedTupleHandOut (.ref z) (.ref g5.objs.size)>>=_) _ _ _
 refine wpAny_bind ?_
 unfold Builtin.SmallTypes.ownedTupleHandOut
 have z6:IsZip (g5.push {cls:=.type "tuple",data:=.seq #[x,y]}) z TI TO .ellipsis:=Heap.get?_push_of_some _ z5
 refine wpAny_bind (wpAny_setField_rec z6 (by simp) fun g7 z7 s7=>?_)
 replace z7:IsZip g7 z TI TO (rawInt g5.objs.size):=z7
 refine wpAny_setField_rec z7 (by simp) fun g8 z8 s8=>?_
 replace z8:IsZip g8 z TI TO (rawInt g5.objs.size):=z8
 have up:∀c o,c≠z→g5.get? c=some o→g8.get? c=some o:=fun c o c1 e=>s8.extBut _ _ c1 (s7.extBut _ _ c1 (Heap.get?_push_of_some _ e))
 have T8:IsPair g8 g5.objs.size x y:=s8.extBut _ _ (Nat.ne_of_gt zlt) (s7.extBut _ _ (Nat.ne_of_gt zlt) (Heap.get?_push_size _ rfl))
 have e8:g8.objs.size=g5.objs.size+1:=by rw[s8.1,s7.1,Heap.size_push]
 rw[sz]at z8 T8 e8
 refine wpAny_pure ⟨_,rfl,?_⟩
 show Q (.ref g5.objs.size) _
 rw[sz]
 exact hQ g8 z8 (up _ _ D.TOz p5) (u1.at fun o e=>up _ o D.i1z e) (u2.at fun o e=>up _ o D.i2z e) T8 e8 fun c o c1 c2 c3 c4 e=>up c o c1 (k5 c o c1 c2 c3 c4 e)
theorem jsu {z TI TO i1 i2 l1 l2:Addr} {k:Nat} {xs:Array Value} {Q:Fin→Shared→Prop} (hh:A.handled=none) (D:ZipApart z TI TO i1 i2 l1 l2)
  (hz:IsZip s.heap z TI TO .none) (hTI:IsPair s.heap TI (.ref i1) (.ref i2)) (h1:s.heap.IsTupleIter i1 l1 k) (hl1:s.heap.IsTuple l1 xs) (hx:xs[k]?=none)
  (hE:∀h' e,(∀c o,c≠z→c≠i1→s.heap.get? c=some o→h'.get? c=some o)→(∃o,h'.get? e=some o∧o.cls=.type "StopIteration")→E (.ref e) {s with heap:=h'}) :
  wpAny (model prog w) A (Builtin.«zip.__next__» ⟨[.ref z],[]⟩) Q E s:=by
 show wpAny _ _ (field (.ref z) 2>>=_) _ _ _
 refine wpAny_bind (wpAny_field hz rfl (x:=.bool false) rfl ?_)
 show wpAny _ _ (field (.ref z) 3>>=_) _ _ _
 refine wpAny_bind (wpAny_field hz rfl (x:=.ref TI) rfl ?_)
 refine wpAny_bind (wpAny_seqItems hTI rfl ?_)
 show wpAny _ _ (Builtin.SmallTypes.ownedTupleIsFree (.ref z)>>=_) _ _ _
 refine wpAny_bind ?_
 unfold Builtin.SmallTypes.ownedTupleIsFree
 refine wpAny_bind (wpAny_field hz rfl (x:=.none) rfl (wpAny_pure ?_))
 simp only[if_true]
 refine wpAny_bind (wpAny_rule ?_)
 refine wpAny_bind (wpAny_field hz rfl (x:=.ref TO) rfl ?_)
 refine wpAny_bind (wpAny_setField_rec hz (by simp) fun g1 hz1 s1=>?_)
 replace hz1:IsZip g1 z TI TO .ellipsis:=hz1
 refine wpAny_bind ?_
 simp only[List.zipIdx_cons,List.zipIdx_nil,List.forIn_cons,List.forIn_nil]
 refine wpAny_bind (wpAny_bind (wpAny_onRaise ?_))
 show wpAny _ _ (Builtin.SmallTypes.nextOf (.ref i1)>>=_) _ _ _
 refine wpAny_bind (jd9 hh (h1.extBut s1.extBut D.i1z) (hl1.extBut s1.extBut D.l1z) hx fun g2 e s2 he=>?_)
 obtain⟨oe,hoe,hce⟩:=he
 have z2:IsZip g2 z TI TO .ellipsis:=s2 _ _ D.i1z.symm hz1
 have hez:e≠z:=fun x=>by subst x;rw[z2]at hoe;cases hoe;simp at hce
 refine wpAny_setField_rec z2 (by simp) fun g3 _ s3=>hE g3 e (fun c o c1 c3 x=>s3.extBut _ _ c1 (s2 _ _ c3 (s1.extBut _ _ c1 x))) ⟨oe,s3.extBut _ _ hez hoe,hce⟩
theorem jic {z TI TO i1 i2 l1 l2:Addr} {k:Nat} {xs ys:Array Value} {x y a b:Value} {Q:Option Value→Shared→Prop} (D:ZipApart z TI TO i1 i2 l1 l2)
  (hz:IsZip s.heap z TI TO .none) (hTI:IsPair s.heap TI (.ref i1) (.ref i2)) (hTO:IsPair s.heap TO a b)
  (h1:s.heap.IsTupleIter i1 l1 k) (h2:s.heap.IsTupleIter i2 l2 k) (hl1:s.heap.IsTuple l1 xs) (hl2:s.heap.IsTuple l2 ys) (hx:xs[k]?=some x) (hy:ys[k]?=some y)
  (hQ:∀h',IsZip h' z TI TO (rawInt s.heap.objs.size)→IsPair h' TO x y→h'.IsTupleIter i1 l1 (k+1)→h'.IsTupleIter i2 l2 (k+1)→IsPair h' s.heap.objs.size x y→h'.objs.size=s.heap.objs.size+1 →
   (∀c o,c≠z→c≠TO→c≠i1→c≠i2→s.heap.get? c=some o→h'.get? c=some o)→Q (some (.ref s.heap.objs.size)) {s with heap:=h'}) :
  wpAny (model prog w) A (pyNext (.ref z)) Q E s:=by
 have hT:s.TypeIs (.ref z) "zip":=⟨_,hz,rfl⟩
 unfold pyNext
 exact wpAny_bind (wpAny_attempt (wpAny_callSpecial?_slot (name:=Str.ofString "__next__") hT F.slot_zip_next
  (wpAny_call_entry F.slot_zip_next hT F.entry_zip_next
   (jpm D hz hTI hTO h1 h2 hl1 hl2 hx hy fun h' a1 a2 a3 a4 a5 a6 a7=>wpAny_pure (hQ h' a1 a2 a3 a4 a5 a6 a7)) (F.args_zip_next_1 _))))
theorem jj7 {z TI TO i1 i2 l1 l2:Addr} {k:Nat} {xs:Array Value} {Q:Option Value→Shared→Prop} (hh:A.handled=none) (D:ZipApart z TI TO i1 i2 l1 l2)
  (hz:IsZip s.heap z TI TO .none) (hTI:IsPair s.heap TI (.ref i1) (.ref i2)) (h1:s.heap.IsTupleIter i1 l1 k) (hl1:s.heap.IsTuple l1 xs) (hx:xs[k]?=none)
  (hQ:∀h',(∀c o,c≠z→c≠i1→s.heap.get? c=some o→h'.get? c=some o)→Q none {s with heap:=h'}):wpAny (model prog w) A (pyNext (.ref z)) Q E s:=by
 have hT:s.TypeIs (.ref z) "zip":=⟨_,hz,rfl⟩
 unfold pyNext
 refine wpAny_bind (wpAny_attempt (wpAny_callSpecial?_slot (name:=Str.ofString "__next__") hT F.slot_zip_next
  (wpAny_call_entry F.slot_zip_next hT F.entry_zip_next (jsu hh D hz hTI h1 hl1 hx fun h' e hk he=>?_) (F.args_zip_next_1 _))))
 obtain⟨o,ho,hc⟩:=he
 refine wpAny_bind (wpAny_isInstance (T:="StopIteration") (b:=true) ⟨o,ho,hc⟩ isSubtype_stop ?_)
 exact wpAny_pure (hQ _ hk)
end
noncomputable abbrev zt1 (h:Heap) (l1:Addr):Heap:=h.push {cls:=.type "tuple_iterator",data:=.fields #[.ref l1,.int 0 0]}
noncomputable abbrev zt2 (h:Heap) (l1 l2:Addr):Heap:=(zt1 h l1).push {cls:=.type "tuple_iterator",data:=.fields #[.ref l2,.int 0 0]}
noncomputable abbrev zt3 (h:Heap) (l1 l2:Addr):Heap:=(zt2 h l1 l2).push {cls:=.type "tuple",data:=.seq #[.ref h.objs.size,.ref (zt1 h l1).objs.size]}
noncomputable abbrev zt4 (h:Heap) (l1 l2:Addr):Heap:=(zt3 h l1 l2).push {cls:=.type "tuple",data:=.seq #[.none,.none]}
noncomputable abbrev zt5 (h:Heap) (l1 l2:Addr):Heap:=(zt4 h l1 l2).push {cls:=.type "zip",data:=.fields #[.none,.bool false,.bool false,.ref (zt2 h l1 l2).objs.size,.ref (zt3 h l1 l2).objs.size]}
theorem jid (l1 l2:Addr) (xs ys:Array Value) :
  Meets (Builtin.«zip.__new__» ⟨[.type "zip",.ref l1,.ref l2],[]⟩) (fun _ R s=>s.heap.IsTuple l1 xs∧s.heap.IsTuple l2 ys ∧
   R (.ok (.ret (.ref (zt4 s.heap l1 l2).objs.size))) {s with heap:=zt5 s.heap l1 l2}) :=
 .of_wp fun prog w A R s h=>by
  obtain⟨hp,g,d,tk,os⟩:=s;obtain⟨hl1,hl2,h⟩:=h
  have hsub:=sub_zip
  have hL1:Heap.IsTuple (Shared.heap ⟨hp,g,d,tk,os⟩) l1 xs:=hl1
  have hL2:Heap.IsTuple (Shared.heap ⟨hp.push {cls:=.type "tuple_iterator",data:=.fields #[.ref l1,.int 0 0]},g,d,tk,os⟩) l2 ys:=Heap.IsTuple.push hl2 _
  wp_walk using wpAny_pyIter_tuple hL1,wpAny_pyIter_tuple hL2
  exact⟨_,rfl,h⟩
section
variable {prog:Program} {w:World} {A:Around} {E:Value→Shared→Prop} {s:Shared}
theorem jsk {l1 l2:Addr} {xs ys:Array Value} {Q:Value→Shared→Prop} (hl1:s.heap.IsTuple l1 xs) (hl2:s.heap.IsTuple l2 ys)
  (h:∀h',IsZip h' (s.heap.objs.size+4) (s.heap.objs.size+2) (s.heap.objs.size+3) .none→IsPair h' (s.heap.objs.size+2) (.ref s.heap.objs.size) (.ref (s.heap.objs.size+1)) →
   IsPair h' (s.heap.objs.size+3) .none .none→h'.IsTupleIter s.heap.objs.size l1 0→h'.IsTupleIter (s.heap.objs.size+1) l2 0 →
   (∀c o,s.heap.get? c=some o→h'.get? c=some o)→Q (.ref (s.heap.objs.size+4)) {s with heap:=h'}) :
  wpAny (model prog w) A (call (.type "zip") [.ref l1,.ref l2]) Q E s:=by
 refine callType_new F.called_zip (by decide) (F.typeCall_zip_2 _ _) (F.newCall_zip_2 _ _) (fun obj=>F.args_object_init_3 obj _ _) F.entry_zip_new
  (jid l1 l2 xs ys) ⟨hl1,hl2,?_⟩
 have z1:(zt1 s.heap l1).objs.size=s.heap.objs.size+1:=Heap.size_push ..
 have z2:(zt2 s.heap l1 l2).objs.size=s.heap.objs.size+2:=by rw[Heap.size_push,z1]
 have z3:(zt3 s.heap l1 l2).objs.size=s.heap.objs.size+3:=by rw[Heap.size_push,z2]
 have z4:(zt4 s.heap l1 l2).objs.size=s.heap.objs.size+4:=by rw[Heap.size_push,z3]
 have g5:(zt5 s.heap l1 l2).get? (zt4 s.heap l1 l2).objs.size=some _:=Heap.get?_push_size _ rfl
 have g4:(zt5 s.heap l1 l2).get? (zt3 s.heap l1 l2).objs.size=some _:=Heap.get?_push_of_some _ (Heap.get?_push_size _ rfl)
 have g3:(zt5 s.heap l1 l2).get? (zt2 s.heap l1 l2).objs.size=some _:=Heap.get?_push_of_some _ (Heap.get?_push_of_some _ (Heap.get?_push_size _ rfl))
 have g2:(zt5 s.heap l1 l2).get? (zt1 s.heap l1).objs.size=some _:=Heap.get?_push_of_some _ (Heap.get?_push_of_some _ (Heap.get?_push_of_some _ (Heap.get?_push_size _ rfl)))
 have g1:(zt5 s.heap l1 l2).get? s.heap.objs.size=some _:=Heap.get?_push_of_some _ (Heap.get?_push_of_some _ (Heap.get?_push_of_some _ (Heap.get?_push_of_some _ (Heap.get?_push_size _ rfl))))
 show _∧_
 rw[z2,z3,z4]at g5
 rw[z1,z2]at g3
 rw[z3]at g4
 rw[z1]at g2
 rw[z4]
 exact⟨⟨_,g5,rfl⟩,h _ g5 g3 g4 ⟨_,g1,rfl,rfl⟩ ⟨_,g2,rfl,rfl⟩ fun c o x =>
  Heap.get?_push_of_some _ (Heap.get?_push_of_some _ (Heap.get?_push_of_some _ (Heap.get?_push_of_some _ (Heap.get?_push_of_some _ x))))⟩
end
noncomputable def Itz (K:PySem.W.Frag) (a b:Addr):It :=
 ⟨fun i H=>∃xs ys x y,SqT K H a xs∧SqT K H b ys∧xs[i]?=some x∧ys[i]?=some y,
  fun i H v H'=>∃T x y,v=.ref T∧H T=none∧H'=upd H T (.tup [x,y])∧(∀xs,SqT K H a xs→xs[i]?=some x)∧∀ys,SqT K H b ys→ys[i]?=some y,
  fun i H=>∃xs,SqT K H a xs∧xs.length≤i⟩
theorem Inv.many {X:Cx} {pins:List (Addr×Obj)} {σ:St} {H:Hp} {s:Shared} {h':Heap} {t':Nat} {fp:List Addr} {a:Addr} {o:HO} (I:Inv X pins σ H s) (hf:∀b∈fp,FpOk X pins H b) (k:∀b u,b∉fp→s.heap.get? b=some u→h'.get? b=some u)
  (ha:s.heap.objs.size≤a) (new:ObjOk X.prog X.w (upd H a o) h' a o):Inv X pins σ (upd H a o) {s with heap:=h',toks:=t'}:=by
 have hn:H a=none:=I.hok.fresh ha
 have nf:∀b u,H b=some u→b∉fp:=fun b u e z=>by rw[(hf b z).1]at e;cases e
 refine I.call' (s':={ s with heap:=h',toks:=t'}) (ch:=fp) rfl ⟨fun b u q _ _ z=>k b u z q,fun b u q _ _ z=>⟨u.slots,k b u z q⟩,fun b u q n _=>?_,fun b u q z=>⟨u,k b u z q⟩,fun b xs q=>?_,fun b u xs q=>?_,fun b ps q=>⟨#[],?_⟩⟩ (fun b u e=>?_) I.bare (fun b hb=>?_)
 ·rw[jal (Nat.ne_of_lt (Nat.lt_of_lt_of_le (Heap.lt_size q) ha))];exact n
 ·rw[jal (jai q hn)];exact q
 ·rw[jal (jai q hn)];exact q
 ·rw[jal (jai q hn),q];simp
 ·by_cases z:b=a
  ·subst z
   rw[jan]at e
   cases e
   exact new
  ·rw[jal z]at e
   refine(I.hok b u e).stay (fun c v hc q=>k c v ?_ q) (fun c q=>?_) fun c ys q=>?_
   ·rcases hc with z | z
    ·rw[z];exact nf b u e
    ·exact nf c _ z
   ·rw[jal (jai q hn)];exact q
   ·rw[jal (jai q hn)];exact q
 ·obtain⟨f0,f1,f2,f3,f4,f5⟩:=hf b hb
  exact⟨f3,f1,f4,f5⟩
theorem Inv.many0 {X:Cx} {pins:List (Addr×Obj)} {σ:St} {H:Hp} {s:Shared} {h':Heap} {t':Nat} {fp:List Addr} (I:Inv X pins σ H s) (hf:∀b∈fp,FpOk X pins H b) (k:∀b u,b∉fp→s.heap.get? b=some u→h'.get? b=some u):Inv X pins σ H {s with heap:=h',toks:=t'}:=by
 have nf:∀b u,H b=some u→b∉fp:=fun b u e z=>by rw[(hf b z).1]at e;cases e
 refine I.call' (s':={ s with heap:=h',toks:=t'}) (ch:=fp) rfl ⟨fun b u q _ _ z=>k b u z q,fun b u q _ _ z=>⟨u.slots,k b u z q⟩,fun b u q n _=>n,fun b u q z=>⟨u,k b u z q⟩,fun b xs q=>q,fun b u xs q=>q,fun b ps q=>⟨#[],by rw[q];simp⟩⟩ (fun b u e=>?_) I.bare (fun b hb=>?_)
 ·refine(I.hok b u e).stay (fun c v hc q=>k c v ?_ q) (fun c q=>q) fun c ys q=>q
  rcases hc with z | z
  ·rw[z];exact nf b u e
  ·exact nf c _ z
 ·obtain⟨f0,f1,f2,f3,f4,f5⟩:=hf b hb
  exact⟨f3,f1,f4,f5⟩
theorem js0 {P:Program} {w:World} {K:PySem.W.Frag} {elts:List Expr} {kk:Nat} {pos:Pos} {a b z TI TO i1 i2:Addr} (D:ZipApart z TI TO i1 i2 a b):Turn P w K (.Tuple elts kk pos) (Itz K a b) [z,TI,TO,i1,i2] z
  (fun i h=>IsZip h z TI TO .none∧IsPair h TI (.ref i1) (.ref i2)∧(∃x y,IsPair h TO x y)∧h.IsTupleIter i1 a i∧h.IsTupleIter i2 b i) where
 mem:=by simp
 obj:=fun i h st c hc=>by
  obtain⟨hz,hI,⟨x,y,hO⟩,⟨o1,e1,c1,d1⟩,⟨o2,e2,c2,d2⟩⟩:=st
  simp only[List.mem_cons,List.not_mem_nil,or_false]at hc
  rcases hc with rfl | rfl | rfl | rfl | rfl
  ·exact⟨_,hz,fun v q=>by have q':Data.fields _=Data.cell v:=q;cases q'⟩
  ·exact⟨_,hI,fun v q=>by have q':Data.seq _ _=Data.cell v:=q;cases q'⟩
  ·exact⟨_,hO,fun v q=>by have q':Data.seq _ _=Data.cell v:=q;cases q'⟩
  ·exact⟨o1,e1,fun v q=>by rw[d1]at q;cases q⟩
  ·exact⟨o2,e2,fun v q=>by rw[d2]at q;cases q⟩
 keep:=fun i h h' st k=>by
  obtain⟨hz,hI,⟨x,y,hO⟩,h1,h2⟩:=st
  exact⟨k z (by simp) _ hz,k TI (by simp) _ hI,⟨x,y,k TO (by simp) _ hO⟩,h1.at fun o e=>k i1 (by simp) o e,h2.at fun o e=>k i2 (by simp) o e⟩
 item:=by
  intro X hP hw hK hc i pins s σ H E I hf st hg
  subst hP hw hK
  obtain⟨hz,hI,⟨x0,y0,hO⟩,h1,h2⟩:=st
  obtain⟨xs,ys,x,y,qa,qb,ex,ey⟩:=hg
  obtain⟨its,rv,p,_⟩:=I.tuple qa
  obtain⟨jts,rw',p',_⟩:=I.tuple qb
  obtain⟨u,hu,ru⟩:=rv.get ex
  obtain⟨u',hu',ru'⟩:=rw'.get ey
  refine jic D hz hI hO h1 h2 (show s.heap.IsTuple a its.toArray from p) (show s.heap.IsTuple b jts.toArray from p') (x:=u) (y:=u') (by simpa using hu) (by simpa using hu') fun h' a1 a2 a3 a4 a5 a6 a7=>⟨_,rfl,?_⟩
  refine wpAny_letOwnedTupleGo_zip (s:={ s with heap:=h'}) a1 fun h'' b1 b2=>?_
  have T:h''.get? s.heap.objs.size=some {cls:=.type "tuple",data:=.seq #[u,u']}:=b2.extBut _ _ (Nat.ne_of_gt (Heap.lt_size hz)) a5
  have Tn:H s.heap.objs.size=none:=I.hok.fresh (Nat.le_refl _)
  have kp:∀c o,c∉[z,TI,TO,i1,i2]→s.heap.get? c=some o→h''.get? c=some o:=fun c o hc e=>by
   simp only[List.mem_cons,List.not_mem_nil,or_false,not_or]at hc
   exact b2.extBut _ _ hc.1 (a7 c o hc.1 hc.2.2.1 hc.2.2.2.1 hc.2.2.2.2 e)
  refine⟨.ref s.heap.objs.size,upd H s.heap.objs.size (.tup [x,y]),I.many (t':=s.toks) hf kp (Nat.le_refl _) ⟨by show 2≤sizeLine;decide,[u,u'],.cons ru (.cons ru' .nil),_,T,rfl,⟨_,rfl⟩,rfl⟩,rfl,⟨_,x,y,rfl,Tn,rfl,fun zs q=>by rw[I.tuple_inj q qa];exact ex,fun zs q=>by rw[I.tuple_inj q qb];exact ey⟩,
   ⟨b1,b2.extBut _ _ D.TIz (a7 _ _ D.TIz D.TITO D.TIi1 D.TIi2 hI),⟨_,_,b2.extBut _ _ D.TOz a2⟩,a3.extBut b2.extBut D.i1z,a4.extBut b2.extBut D.i2z⟩,fun c hc=>?_⟩
  have hlt:c < s.heap.objs.size:=by
   simp only[List.mem_cons,List.not_mem_nil,or_false]at hc
   rcases hc with rfl | rfl | rfl | rfl | rfl
   ·exact Heap.lt_size hz
   ·exact Heap.lt_size hI
   ·exact Heap.lt_size hO
   ·obtain⟨_,e,_⟩:=h1;exact Heap.lt_size e
   ·obtain⟨_,e,_⟩:=h2;exact Heap.lt_size e
  rw[jal (Nat.ne_of_lt hlt)]
  exact(hf c hc).1
 done:=by
  intro X hP hw hK hc i pins s σ H E I hf st hg
  subst hP hw hK
  obtain⟨hz,hI,_,h1,h2⟩:=st
  obtain⟨xs,hq,hx⟩:=hg
  obtain⟨its,rv,p,_⟩:=I.tuple hq
  have hl:=rv.length
  refine jj7 (I.ok.hd hc) D hz hI h1 (show s.heap.IsTuple a its.toArray from p) (by simp;omega) fun h' k=>⟨rfl,I.many0 (t':=s.toks) hf fun c o hc e=>?_⟩
  simp only[List.mem_cons,List.not_mem_nil,or_false,not_or]at hc
  exact k c o hc.1 hc.2.2.2.1 e
 self:=fun _ _ _ _ _ st h=>wpAny_pyIter_zip st.1 h
noncomputable def iZip (K:PySem.W.Frag) (ta:TA):TI:=fun σ H R=>ta σ H fun vs H1=>∃a b,vs=[.ref a,.ref b]∧(∃xs,SqT K H1 a xs)∧(∃ys,SqT K H1 b ys)∧R (Itz K a b) H1
theorem j0w:bootBuiltins "zip"=some (.type "zip"):=by decide +kernel
theorem jy9 {X:Cx} {elts:List Expr} {kk:Nat} {tpos:Pos} {e1 e2:Expr} {ta:TA} {p pos:Pos} (hg:Gl X "zip") (hm:X.mg "zip"=none) (ha:PA X [e1,e2] ta) (hs:starEach [e1,e2] X.env=[(false,eval e1 X.env),(false,eval e2 X.env)]:=by rfl) (hs2:starEach [e2] X.env=[(false,eval e2 X.env)]:=by rfl) :
  PI X (.Tuple elts kk tpos) (.Call (.Name "zip" p) [e1,e2] [] pos) (iZip X.K ta):=by
 intro pins s σ H R I h
 refine Call_ (jjh I hg hm j0w (PyProof.Rows.callWith_type1 (thn (ha pos pins s σ H _ I h) fun us s1 ⟨vs,H1,I1,r1,q1⟩=>?_) (by rw[hs,hs2]) (by rw[hs2];rfl)))
 obtain⟨a,b,e,⟨xs,qa⟩,⟨ys,qb⟩,q⟩:=q1
 subst e
 cases r1 with
 |cons r rr =>
  cases rr with
  |cons r' rr =>
   cases rr
   cases r
   cases r'
   obtain⟨its,rv,pp,_⟩:=I1.tuple qa
   obtain⟨jts,rw',pp',_⟩:=I1.tuple qb
   have la:a < s1.heap.objs.size:=by obtain⟨_,e,_⟩:=id pp;exact Heap.lt_size e
   have lb:b < s1.heap.objs.size:=by obtain⟨_,e,_⟩:=id pp';exact Heap.lt_size e
   refine jsk (show s1.heap.IsTuple a its.toArray from pp) (show s1.heap.IsTuple b jts.toArray from pp') fun h' a1 a2 a3 a4 a5 a6=>wpAny_pyIter_zip (s:={ s1 with heap:=h'}) a1 ?_
   refine⟨_,_,_,_,H1,rfl,I1.kept (t':=s1.toks) a6,js0 (zipApart_new la lb),⟨a1,a2,⟨_,_,a3⟩,a4,a5⟩,fun c hc=>?_,q⟩
   have hlt:s1.heap.objs.size≤c:=by
    simp only[List.mem_cons,List.not_mem_nil,or_false]at hc
    rcases hc with rfl | rfl | rfl | rfl | rfl<;>omega
   exact I1.fpOk hlt (I1.hok.fresh hlt)
theorem jmf {P:Program} {w:World} {A:Around} (hh:A.handled=none) (it t:Addr) (hne:t≠it) (xs:Array Value):Draws P w A it [it,t] xs.size (fun i v=>xs[i]?=some v) (fun i h=>h.IsTupleIter it t i∧h.IsTuple t xs) where
 live:=fun _ _ z=>by obtain⟨⟨o,q,_⟩,_⟩:=z;exact⟨o,q⟩
 frame:=fun _ _ _ z k=>⟨z.1.at fun o e=>k it (.head _) o e,z.2.at fun o e=>k t (.tail _ (.head _)) o e⟩
 item:=fun i s Q E hi z k=>jcq z.1 z.2 (x:=xs[i]) (Array.getElem?_eq_getElem hi) fun h' a b=>k _ h' s.toks (Array.getElem?_eq_getElem hi) ⟨a,z.2.extBut b.extBut hne⟩ b
 done:=fun s Q E z k=>jd9 hh z.1 z.2 (by simp) k
noncomputable abbrev et1 (h:Heap) (l:Addr):Heap:=h.push {cls:=.type "tuple_iterator",data:=.fields #[.ref l,.int 0 0]}
noncomputable abbrev et2 (h:Heap) (l:Addr):Heap:=(et1 h l).push {cls:=.type "enumerate",data:=.fields #[.none,.bool false,.ref h.objs.size,rawInt 0,.none,.none]}
theorem jhj (l:Addr) (xs:Array Value) (n:Nat) (dc:Option Addr) (sl:Array (Option Value)) :
  Meets (Builtin.«enumerate.__new__» ⟨[.type "enumerate",.ref l],[]⟩) (fun _ R s=>s.heap.get? l=some {cls:=.type "tuple",dict:=dc,data:=.seq xs n,slots:=sl} ∧
   R (.ok (.ret (.ref (et1 s.heap l).objs.size))) {s with heap:=et2 s.heap l}) :=
 .of_wp fun P w A R s h=>by
  obtain⟨hp,g,d,tk,os⟩:=s;obtain⟨hl,h⟩:=h
  have hsub:=sub_enumerate
  have hT:Heap.IsTuple (Shared.heap ⟨hp,g,d,tk,os⟩) l xs:=⟨_,hl,rfl,n,rfl⟩
  wp_walk using AutoSeq1.wpAny_loadPart' hl
  refine wpAny_stack_any fun st=>wpAny_pure ?_
  split
  ·rename_i c _ _ _ _ _
   cases(c==Value.type "enumerate")
   ·wp_walk using AutoSeq1.wpAny_loadPart' hl,wpAny_pyIter_tuple hT
    exact⟨_,rfl,h⟩
   ·wp_walk using AutoSeq1.wpAny_loadPart' hl,wpAny_pyIter_tuple hT
    exact⟨_,rfl,h⟩
  ·wp_walk using AutoSeq1.wpAny_loadPart' hl,wpAny_pyIter_tuple hT
   exact⟨_,rfl,h⟩
section
variable {prog:Program} {w:World} {A:Around} {E:Value→Shared→Prop} {s:Shared}
theorem jph {l:Addr} {xs:Array Value} {Q:Value→Shared→Prop} (hl:s.heap.IsTuple l xs)
  (h:∀h',IsEnum h' (s.heap.objs.size+1) s.heap.objs.size 0 .none→h'.IsTupleIter s.heap.objs.size l 0→(∀c o,s.heap.get? c=some o→h'.get? c=some o)→Q (.ref (s.heap.objs.size+1)) {s with heap:=h'}) :
  wpAny (model prog w) A (call (.type "enumerate") [.ref l]) Q E s:=by
 obtain⟨⟨c,dc,dt,sl⟩,hl,hc,n,hd⟩:=hl
 obtain rfl:c=.type "tuple":=hc
 obtain rfl:dt=.seq xs n:=hd
 refine callType_new F.called_enumerate (by decide) (F.typeCall_enumerate_1 _) (F.newCall_enumerate_1 _) (fun o=>F.args_object_init_2 o _) F.entry_enumerate_new (jhj l xs n dc sl) ⟨hl,?_⟩
 have z1:(et1 s.heap l).objs.size=s.heap.objs.size+1:=Heap.size_push ..
 have g2:(et2 s.heap l).get? (et1 s.heap l).objs.size=some _:=Heap.get?_push_size _ rfl
 have g1:(et2 s.heap l).get? s.heap.objs.size=some _:=Heap.get?_push_of_some _ (Heap.get?_push_size _ rfl)
 show _∧_
 rw[z1]at g2 ⊢
 exact⟨⟨_,g2,rfl⟩,h _ g2 ⟨_,g1,rfl,rfl⟩ fun c o x=>Heap.get?_push_of_some _ (Heap.get?_push_of_some _ x)⟩
end
noncomputable def Ite (K:PySem.W.Frag) (a:Addr):It :=
 ⟨fun i H=>∃xs x,SqT K H a xs∧xs[i]?=some x,
  fun i H v H'=>∃T x,v=.ref T∧H T=none∧H'=upd H T (.tup [.int i,x])∧∀xs,SqT K H a xs→xs[i]?=some x,
  fun i H=>∃xs,SqT K H a xs∧xs.length=i⟩
theorem jpt {P:Program} {w:World} {K:PySem.W.Frag} {elts:List Expr} {kk:Nat} {pos:Pos} {a e it:Addr} (h1:e≠it) (h2:a≠it) (h3:e≠a):Turn P w K (.Tuple elts kk pos) (Ite K a) [e,it] e
  (fun i h=>(∃old,IsEnum h e it i old)∧h.IsTupleIter it a i) where
 mem:=by simp
 obj:=fun i h st c hc=>by
  obtain⟨⟨x,he⟩,⟨o1,e1,c1,d1⟩⟩:=st
  simp only[List.mem_cons,List.not_mem_nil,or_false]at hc
  rcases hc with rfl | rfl
  ·exact⟨_,he,fun v q=>by have q':Data.fields _=Data.cell v:=q;cases q'⟩
  ·exact⟨o1,e1,fun v q=>by rw[d1]at q;cases q⟩
 keep:=fun i h h' st k=>⟨st.1.imp fun _ q=>k e (by simp) _ q,st.2.at fun o q=>k it (by simp) o q⟩
 item:=by
  intro X hP hw hK hc i pins s σ H E I hf st hg
  subst hP hw hK
  obtain⟨⟨old,he⟩,hi⟩:=st
  obtain⟨xs,x,qa,ex⟩:=hg
  obtain⟨its,rv,p,_⟩:=I.tuple qa
  obtain⟨u,hu,ru⟩:=rv.get ex
  have hlt:i < its.toArray.size:=by simpa using(List.getElem?_eq_some_iff.mp hu).1
  have hef:e∉[it,a]:=fun z=>by
   simp only[List.mem_cons,List.not_mem_nil,or_false]at z
   exact z.elim h1 h3
  refine wpAny_pyNext_enum_itemD (jmf (A:=X.A.in1) (I.ok.hd hc) it a h2 its.toArray) he ⟨hi,show s.heap.IsTuple a its.toArray from p⟩ hlt h1 hef fun y h' tk a1 a2 a3 a4 a5 a6=>⟨_,rfl,?_⟩
  obtain rfl:u=y:=by
   rw[List.getElem?_toArray,hu]at a1
   cases a1;rfl
  refine wpAny_letOwnedTupleGo_enum (s:={ s with heap:=h',toks:=tk+1}) a2 fun h'' b1 b2=>?_
  have T:h''.get? s.heap.objs.size=some {cls:=.type "tuple",data:=.seq #[.int i tk,u]}:=b2.extBut _ _ (Nat.ne_of_gt (Heap.lt_size he)) a4
  have Tn:H s.heap.objs.size=none:=I.hok.fresh (Nat.le_refl _)
  have kp:∀c o,c∉[e,it]→s.heap.get? c=some o→h''.get? c=some o:=fun c o hc e=>by
   simp only[List.mem_cons,List.not_mem_nil,or_false,not_or]at hc
   exact b2.extBut _ _ hc.1 (a6 c o hc.1 hc.2 e)
  refine⟨.ref s.heap.objs.size,upd H s.heap.objs.size (.tup [.int i,x]),I.many (t':=tk+1) hf kp (Nat.le_refl _) ⟨by show 2≤sizeLine;decide,[.int i tk,u],.cons ⟨tk,rfl⟩ (.cons ru .nil),_,T,rfl,⟨_,rfl⟩,rfl⟩,rfl,⟨_,x,rfl,Tn,rfl,fun zs q=>by rw[I.tuple_inj q qa];exact ex⟩,
   ⟨⟨u,by rw[show((i+1:Nat):Int)=(i:Int)+1 from rfl];exact b1⟩,a3.1.extBut b2.extBut h1.symm⟩,fun c hc=>?_⟩
  have hlt:c < s.heap.objs.size:=by
   simp only[List.mem_cons,List.not_mem_nil,or_false]at hc
   rcases hc with rfl | rfl
   ·exact Heap.lt_size he
   ·obtain⟨_,e,_⟩:=hi;exact Heap.lt_size e
  rw[jal (Nat.ne_of_lt hlt)]
  exact(hf c hc).1
 done:=by
  intro X hP hw hK hc i pins s σ H E I hf st hg
  subst hP hw hK
  obtain⟨⟨old,he⟩,hi⟩:=st
  obtain⟨xs,hq,hx⟩:=hg
  obtain⟨its,rv,p,_⟩:=I.tuple hq
  have hl:=rv.length
  have hs:its.toArray.size=i:=by simp;omega
  refine wpAny_pyNext_enum_endD (jmf (A:=X.A.in1) (I.ok.hd hc) it a h2 its.toArray) he (by rw[hs];exact⟨hi,p⟩) fun h' k=>⟨rfl,I.many0 (t':=s.toks) hf fun c o hc e=>?_⟩
  simp only[List.mem_cons,List.not_mem_nil,or_false,not_or]at hc
  exact k c o hc.2 e
 self:=fun _ _ _ _ _ st h=>wpAny_pyIter_enum st.1.choose_spec h
noncomputable def j0b (K:PySem.W.Frag) (ta:TA):TI:=fun σ H R=>ta σ H fun vs H1=>∃a,vs=[.ref a]∧(∃xs,SqT K H1 a xs)∧R (Ite K a) H1
theorem jw1 {X:Cx} {elts:List Expr} {kk:Nat} {tpos:Pos} {e1:Expr} {ta:TA} {p pos:Pos} (hg:Gl X "enumerate") (hm:X.mg "enumerate"=none) (ha:PA X [e1] ta) (hs:starEach [e1] X.env=[(false,eval e1 X.env)]:=by rfl) :
  PI X (.Tuple elts kk tpos) (.Call (.Name "enumerate" p) [e1] [] pos) (j0b X.K ta):=by
 intro pins s σ H R I h
 refine Call_ (jjh I hg hm boot_enumerate (PyProof.Rows.callWith_type1 (thn (ha pos pins s σ H _ I h) fun us s1 ⟨vs,H1,I1,r1,q1⟩=>?_) (by rw[hs];rfl) rfl))
 obtain⟨a,e,⟨xs,qa⟩,q⟩:=q1
 subst e
 cases r1 with
 |cons r rr =>
  cases rr
  cases r
  obtain⟨its,rv,pp,_⟩:=I1.tuple qa
  have la:a < s1.heap.objs.size:=by obtain⟨_,e,_⟩:=id pp;exact Heap.lt_size e
  refine jph (show s1.heap.IsTuple a its.toArray from pp) fun h' a1 a2 a3=>wpAny_pyIter_enum (s:={ s1 with heap:=h'}) a1 ?_
  refine⟨_,_,_,_,H1,rfl,I1.kept (t':=s1.toks) a3,jpt (Nat.succ_ne_self _) (Nat.ne_of_lt la) (Nat.ne_of_gt (Nat.lt_succ_of_lt la)),⟨⟨_,a1⟩,a2⟩,fun c hc=>?_,q⟩
  have hlt:s1.heap.objs.size≤c:=by
   simp only[List.mem_cons,List.not_mem_nil,or_false]at hc
   rcases hc with rfl | rfl<;>omega
  exact I1.fpOk hlt (I1.hok.fresh hlt)
end L2
namespace DL
open PySem L2 Nb
noncomputable def valD (kvs:List (Key×PyData)) (k:Key):Option PyData:=(kvs.find? fun kv=>decide (kv.1=k)).map (·.2)
noncomputable def putD (kvs:List (Key×PyData)) (k:Key) (v:PyData):List (Key×PyData) :=
 if (kvs.any fun kv=>decide (kv.1=k))=true then kvs.map (fun kv=>if kv.1=k then(kv.1,v)else kv)else kvs++[(k,v)]
noncomputable def jeb (kvs more:List (Key×PyData)):List (Key×PyData):=more.foldl (fun acc kv=>putD acc kv.1 kv.2) kvs
section
variable {H H':Hp} {B B':Addr→Prop} {l:List (Key×V)} {m:List (Key×PyData)} {v:V} {d:PyData} {t:Addr}
theorem RdK.len (h:RdK H B l m):l.length=m.length:=by
 unfold RdK at h
 induction h with
 |nil=>rfl
 |cons _ _ ih=>rw[List.length_cons,List.length_cons,ih]
theorem RdK.val (h:RdK H B l m) (k:Key):(valV l k=none∧valD m k=none)∨∃v d,valV l k=some v∧valD m k=some d∧RdX H B v d:=by
 unfold RdK at h
 induction h with
 |nil=>exact .inl ⟨rfl,rfl⟩
 |@cons p q ps qs r _ ih =>
  by_cases e:p.1=k
  ·have e':q.1=k:=r.1▸e
   exact .inr ⟨p.2,q.2,by simp[valV,List.find?_cons,e],by simp[valD,List.find?_cons,e'],r.2⟩
  ·have e':¬q.1=k:=r.1▸e
   have a1:valV (p::ps) k=valV ps k:=by simp[valV,List.find?_cons,e]
   have a2:valD (q::qs) k=valD qs k:=by simp[valD,List.find?_cons,e']
   rw[a1,a2]
   exact ih
theorem RdK.any (h:RdK H B l m) (k:Key):(l.any fun kv=>decide (kv.1=k))=(m.any fun kv=>decide (kv.1=k)):=by
 unfold RdK at h
 induction h with
 |nil=>rfl
 |cons r _ ih=>rw[List.any_cons,List.any_cons,ih,r.1]
theorem RdK.map (h:RdK H B l m) (r:RdX H B v d) (k:Key):RdK H B (l.map fun kv=>if kv.1=k then(kv.1,v)else kv) (m.map fun kv=>if kv.1=k then(kv.1,d)else kv):=by
 unfold RdK at h ⊢
 induction h with
 |nil=>exact .nil
 |@cons p q ps qs r' _ ih =>
  rw[List.map_cons,List.map_cons]
  refine .cons ?_ ih
  by_cases e:p.1=k
  ·rw[if_pos e,if_pos (r'.1▸e:q.1=k)]
   exact⟨r'.1,r⟩
  ·rw[if_neg e,if_neg (r'.1▸e:¬q.1=k)]
   exact r'
theorem RdK.append {l2:List (Key×V)} {m2:List (Key×PyData)} (h:RdK H B l m) (h2:RdK H B l2 m2):RdK H B (l++l2) (m++m2):=by
 unfold RdK at h ⊢
 induction h with
 |nil=>exact h2
 |cons r' _ ih=>exact .cons r' ih
theorem RdK.put (h:RdK H B l m) (r:RdX H B v d) (k:Key):RdK H B (putK l k v) (putD m k d):=by
 unfold putK putD
 rw[h.any k]
 split
 ·exact h.map r k
 ·exact h.append (.cons ⟨rfl,r⟩ .nil)
theorem RdK.merge {l2:List (Key×V)} {m2:List (Key×PyData)} (h2:RdK H B l2 m2):∀{l:List (Key×V)} {m:List (Key×PyData)},RdK H B l m→RdK H B (jea l l2) (jeb m m2):=by
 unfold RdK at h2
 induction h2 with
 |nil=>intro l m h;exact h
 |@cons p q ps qs r _ ih =>
  intro l m h
  show RdK H B (jea (putK l p.1 p.2) ps) (jeb (putD m q.1 q.2) qs)
  rw[r.1]
  exact ih (h.put r.2 _)
theorem jny (l:List (Key×V)) (k:Key) (v:V):(putK l k v).length≤l.length+1:=by
 unfold putK
 split
 ·rw[List.length_map];omega
 ·rw[List.length_append];exact Nat.le_refl _
theorem jo4 (l2:List (Key×V)):∀l:List (Key×V),(jea l l2).length≤l.length+l2.length:=by
 induction l2 with
 |nil=>intro l;exact Nat.le_refl _
 |cons p r ih =>
  intro l
  show(jea (putK l p.1 p.2) r).length≤_
  have:=ih (putK l p.1 p.2)
  have:=jny l p.1 p.2
  rw[List.length_cons]
  omega
end
section
variable {X:Cx} {a b c e o i f:Expr} {ta tb te td ty tx:TE} {wa wb we wd' wy wx:DT} {pos p:Pos} {K:PySem.W.Frag}
noncomputable def jdk (i:Nat):DT:=fun δ n Q=>match δ[i]? with
 |some (some (.odk kvs))=>Q (.dk kvs) n
 |some (some (.w x))=>Q x n
 |_=>False
theorem je3 (i:Nat) {x:Str} {p:Pos} (hN:X.N[i]?=some x:=by rfl) (hv:Vis X.env.scope x:=by first | exact Or.inl rfl | exact Or.inr (Or.inl rfl) | exact Or.inr (Or.inr rfl)) (hd:(x==("__debug__":Str))=false:=by decide)
  (hcd:(x==("__classdict__":Str))=false:=by decide):DE X (.Name x p) (tVar i) (jdk i):=⟨jdf hN hv hd hcd,fun C H B σ δ n Q Q' R h k=>by
 unfold jdk at h
 split at h
 ·rename_i kvs e
  obtain⟨v,h1,a,l,rfl,g2,g3,g4,g5,g6⟩:=R.sl i _ e
  exact⟨_,h1,k _ (.dk kvs) H n R (Kp.refl _ _) ⟨a,l,rfl,g2,fun z=>R.t0 (z▸g4),g6⟩ h⟩
 ·rename_i x e
  obtain⟨v,h1,h2⟩:=R.sl i _ e
  exact⟨v,h1,k v x H n R (Kp.refl _ _) h2.1 h⟩
 ·exact h.elim⟩
noncomputable def jiu:Wv→Wv→Int→DQ→Prop:=fun x y n Q=>match x,y with
 |.dk kvs,.d (.str k)=>match valD kvs (.inr k)with
  |some d=>Q (.d d) n
  |none=>False
 |_,_=>False
theorem jok (hu:X.A.units+64 < cLine) (ho:DE X o td wd') (hi:DE X i ty wy) (hs:NoSl i:=by exact fun _ _=>rfl):DE X (.Subscript o i pos) (jyf td ty) (w2 wd' wy jiu):=⟨jw6 (by omega) ho.pe hi.pe hs,fun C H B σ δ n Q Q' R h k =>
 ho.sd C H B σ δ n _ _ R h fun v x H1 n1 R1 k1 r1 q1=>hi.sd C H1 B σ δ n1 _ _ R1 q1 fun u y H2 n2 R2 k2 r2 q2=>by
  have r1':=r1.kp k2 R1.bt
  unfold jiu at q2
  split at q2
  ·rename_i kvs key
   obtain⟨a,l,rfl,g1,g2,g3⟩:=r1'
   cases(show RdX H2 B u (.str key)from r2)
   rcases g3.val (.inr key)with⟨e1,e2⟩ | ⟨v,d,e1,e2,e3⟩
   ·rw[e2]at q2;exact q2.elim
   ·rw[e2]at q2
    exact⟨a,v,rfl,.inl ⟨l,.inr key,.inl g1,rfl,e1.symm⟩,k v (.d d) H2 n2 R2 (k1.trans k2) e3 q2⟩
  ·exact q2.elim⟩
noncomputable def gDIn (neg:Bool):Wv→Wv→Int→DQ→Prop:=fun x y n Q=>match x,y with
 |.d (.str k),.dk kvs=>Q (.d (.bool (if neg then !(valD kvs (.inr k)).isSome else(valD kvs (.inr k)).isSome))) n
 |_,_=>False
theorem jwp (hi:DE X i ty wy) (ho:DE X o td wd'):Snd (tDIn ty td) (w2 wy wd' (gDIn false)):=fun C H B σ δ n Q Q' R h k =>
 hi.sd C H B σ δ n _ _ R h fun v x H1 n1 R1 k1 r1 q1=>ho.sd C H1 B σ δ n1 _ _ R1 q1 fun u y H2 n2 R2 k2 r2 q2=>by
  have r1':=r1.kp k2 R1.bt
  unfold gDIn at q2
  split at q2
  ·rename_i key kvs
   obtain⟨a,l,rfl,g1,g2,g3⟩:=r2
   cases(show RdX H2 B v (.str key)from r1')
   refine⟨a,valV l (.inr key),rfl,.inl ⟨l,.inr key,.inl g1,rfl,rfl⟩,k _ _ H2 n2 R2 (k1.trans k2) (wd (.bl _)) ?_⟩
   rcases g3.val (.inr key)with⟨e1,e2⟩ | ⟨v,d,e1,e2,e3⟩
   ·rw[e1];rw[e2]at q2;exact q2
   ·rw[e1];rw[e2]at q2;exact q2
  ·exact q2.elim
theorem js8 (hi:DE X i ty wy) (ho:DE X o td wd'):Snd (jhe ty td) (w2 wy wd' (gDIn true)):=fun C H B σ δ n Q Q' R h k =>
 hi.sd C H B σ δ n _ _ R h fun v x H1 n1 R1 k1 r1 q1=>ho.sd C H1 B σ δ n1 _ _ R1 q1 fun u y H2 n2 R2 k2 r2 q2=>by
  have r1':=r1.kp k2 R1.bt
  unfold gDIn at q2
  split at q2
  ·rename_i key kvs
   obtain⟨a,l,rfl,g1,g2,g3⟩:=r2
   cases(show RdX H2 B v (.str key)from r1')
   refine⟨a,valV l (.inr key),rfl,.inl ⟨l,.inr key,.inl g1,rfl,rfl⟩,k _ _ H2 n2 R2 (k1.trans k2) (wd (.bl _)) ?_⟩
   rcases g3.val (.inr key)with⟨e1,e2⟩ | ⟨v,d,e1,e2,e3⟩
   ·rw[e1];rw[e2]at q2;exact q2
   ·rw[e1];rw[e2]at q2;exact q2
  ·exact q2.elim
theorem j0q (hu:X.A.units+64 < cLine) (hi:DE X i ty wy) (ho:DE X o td wd') (hm:behindInMarks .In o=false:=by with_unfolding_all rfl):DE X (.Compare i [.In] [o] pos) (tDIn ty td) (w2 wy wd' (gDIn false)):=⟨jvh (jzf (by omega) hi.pe ho.pe) hm,jwp hi ho⟩
theorem j0p (hu:X.A.units+64 < cLine) (hi:DE X i ty wy) (ho:DE X o td wd') (hm:behindInMarks .NotIn o=false:=by with_unfolding_all rfl):DE X (.Compare i [.NotIn] [o] pos) (jhe ty td) (w2 wy wd' (gDIn true)):=⟨jvh (jlo (by omega) hi.pe ho.pe) hm,js8 hi ho⟩
noncomputable def jk3 (wd wy wx:DT):DT:=fun δ n Q=>wd δ n fun x n1=>match x with
 |.dk kvs=>wy δ n1 fun y n2=>wx δ n2 fun z n3=>match y,z with
  |.d (.str k),.d z=>Q (.d ((valD kvs (.inr k)).getD z)) n3
  |_,_=>False
 |_=>False
theorem jxz {ap cp:Pos} (hu:X.A.units+64 < cLine) (ho:DE X o td wd') (he:DE X e ty wy) (hf:DE X f tx wx) (m:M2 X o "get" ap e f cp:=by exact⟨rfl,rfl,rfl,rfl⟩):DE X (.Call (.Attribute o "get" ap) [e,f] [] cp) (ju5 td ty tx) (jk3 wd' wy wx):=⟨jtu (by omega) ho.pe he.pe hf.pe m,fun C H B σ δ n Q Q' R h k =>
 ho.sd C H B σ δ n _ _ R h fun v x H1 n1 R1 k1 r1 q1=>by
  cases x with
  |d _=>exact q1.elim
  |tp=>exact q1.elim
  |ln _=>exact q1.elim
  |ob _=>exact q1.elim
  |dk kvs =>
   obtain⟨a,l,rfl,g1,g2,g3⟩:=r1
   refine⟨a,rfl,.inl ⟨l,.inl g1⟩,he.sd C H1 B σ δ n1 _ _ R1 q1 fun u y H2 n2 R2 k2 r2 q2=>hf.sd C H2 B σ δ n2 _ _ R2 q2 fun w z H3 n3 R3 k3 r3 q3=>?_⟩
   have r2':=r2.kp k3 R2.bt
   have g1':=(k2.trans k3) _ _ g1 g2
   have g3':RdK H3 B l kvs:=g3.move fun b o e n=>⟨(k2.trans k3) b o e fun z=>n (z▸R1.bt),n⟩
   split at q3
   ·rename_i key dz
    cases(show RdX H3 B u (.str key)from r2')
    refine⟨valV l (.inr key),.inl ⟨l,.inr key,.inl g1',rfl,rfl⟩,?_⟩
    rcases g3'.val (.inr key)with⟨e1,e2⟩ | ⟨v,d,e1,e2,e3⟩
    ·rw[e1];rw[e2]at q3
     exact k w (.d dz) H3 n3 R3 ((k1.trans k2).trans k3) r3 q3
    ·rw[e1];rw[e2]at q3
     exact k v (.d d) H3 n3 R3 ((k1.trans k2).trans k3) e3 q3
   ·exact q3.elim⟩
noncomputable abbrev DTK:=Sl→Int→(List (Key×PyData)→Int→Prop)→Prop
noncomputable def SndK (t:TE) (w:DTK):Prop:=∀(C:Ctx) (H:Hp) (B:Addr→Prop) (σ:St) (δ:Sl) (n:Int) (Q:List (Key×PyData)→Int→Prop) (Q':VK),Rel C H B σ δ n→w δ n Q →
 (∀a l kvs H' n',Rel C H' B σ δ n'→Kp C.t H H'→H a=none→H' a=some (.dK l)→l.length≤1000→RdK H' (fun b=>B b∨b=a) l kvs→Q kvs n'→Q' (.ref a) H')→t σ H Q'
structure DN (X:Cx) (e:Expr) (t:TE) (w:DTK):Prop where
 pe:PE X e t
 sd:SndK t w
noncomputable def kNil:DTK:=fun _ n Q=>Q [] n
theorem j1f:DN X (.Dict [] [] pos) ju4 kNil:=⟨jtt,fun C H B σ δ n Q Q' R q k=>fun a ha=>k a [] [] _ n (R.new ha) (Kp.new ha) ha jan (Nat.zero_le _) .nil q⟩
noncomputable def jhg:List PyData→Option (List (Key×PyData))
 |[]=>some []
 |.tuple [.str k,d]::r=>(jhg r).map ((.inr k,d)::·)
 |_=>none
theorem jn5 {H:Hp} {B:Addr→Prop}:∀{xs:List V} {ds:List PyData} {ps:List (Key×PyData)},RdXs H B xs ds→jhg ds=some ps→∃qs:List (Addr×Key×V),xs=qs.map (fun p=>V.ref p.1)∧(∀p∈qs,H p.1=some (.tup [kV p.2.1,p.2.2]))∧RdK H B (qs.map (·.2)) ps
 |_,_,ps,.nil,h=>by
  cases h
  exact⟨[],rfl,fun p (hp:p∈[])=>absurd hp List.not_mem_nil,Paired.nil⟩
 |_,_,ps,.cons (d:=d) (ds:=ds) h1 h2,h=>by
  unfold jhg at h
  split at h
  ·rename_i e;cases e
  ·rename_i k d' r e
   cases e
   cases e2:jhg ds with
   |none=>rw[e2]at h;cases h
   |some ps' =>
    rw[e2]at h
    cases h
    obtain⟨qs,f1,f2,f3⟩:=jn5 h2 e2
    cases h1 with
    |@tup a ys _ g1 g2 g3 g4 =>
     cases g4 with
     |cons c1 c2 =>
      cases c2 with
      |cons c3 c4 =>
       cases c4
       cases c1
       refine⟨(a,.inr k,_)::qs,by rw[f1];rfl,fun p hp=>?_,.cons ⟨rfl,c3⟩ f3⟩
       rcases List.mem_cons.mp hp with rfl | z
       ·exact g1
       ·exact f2 p z
  ·cases h
noncomputable def jy3:List V→Hp→VK→Prop:=fun xs H Q=>∃(src:Addr) (ps:List (Addr×Key×V)),xs=[.ref src]∧H src=some (.tup (ps.map fun p=>V.ref p.1))∧(∀p∈ps,H p.1=some (.tup [kV p.2.1,p.2.2]))∧ps.length≤1000 ∧
  ∀l,H l=none→Q (.ref l) (L2.upd H l (.dK (jea [] (ps.map (·.2)))))
noncomputable def jo6 (w:DT):DTK:=fun δ n Q=>w δ n fun x n1=>match x with
 |.d (.tuple ds)=>match jhg ds with
  |some ps=>ds.length≤1000∧Q (jeb [] ps) n1
  |none=>False
 |_=>False
theorem jrk (hh:X.A.handled=none) (hg:Gl X "dict") (hm:X.mg "dict"=none) (he:DE X e te we) (hv:bootBuiltins "dict"=some (.type "dict"):=by decide +kernel)
  (he':starEach [e] X.env=(false,eval e X.env)::starEach [] X.env:=by rfl) (hpl:(backTo pos (starEach [] X.env)).any (·.1)=false:=by rfl):DN X (.Call (.Name "dict" p) [e] [] pos) (tCB jy3 (jcw te tNil)) (jo6 we) :=
 ⟨jfq (jpi hh) hg hm hv (jav he.pe jb2 he') (by decide) (by decide) he' hpl,fun C H B σ δ n Q Q' R q k =>
  he.sd C H B σ δ n _ _ R q fun v x H1 n1 R1 k1 r1 q1=>by
   split at q1
   ·rename_i ds
    split at q1
    ·rename_i ps ep
     cases(show RdX H1 B v (.tuple ds)from r1)with
     |@tup a ys _ g1 g2 g3 g4 =>
      obtain⟨qs,f1,f2,f3⟩:=jn5 g4 ep
      subst f1
      have hl:qs.length≤1000:=by have:=g4.len;rw[List.length_map]at this;rw[this];exact q1.1
      refine⟨a,qs,rfl,g1,f2,hl,fun l hl0=>?_⟩
      refine k l _ (jeb [] ps) _ n1 (R1.new hl0) (k1.trans (Kp.new hl0)) (R1.was k1 hl0) jan ?_ ?_ q1.2
      ·have:=jo4 (qs.map (·.2)) []
       rw[List.length_map]at this
       have z:([]:List (Key×V)).length=0:=rfl
       omega
      ·refine RdK.merge ?_ .nil
       exact f3.move fun b o e n=>⟨by rw[jal (jai e hl0)];exact e,fun z=>z.elim n fun q=>jai e hl0 q⟩
    ·exact q1.elim
   ·exact q1.elim⟩
noncomputable def jli (i:Nat) (w:DTK):DST:=fun δ n K=>w δ n fun kvs n1=>K.nx (δ.set i (some (.odk kvs))) n1
theorem jnv {i:Nat} {x:Str} {pos':Pos} {w:DTK} (hN:X.N.Nodup) (hi:X.N[i]?=some x) (hx:Loc X.env.scope x) (he:DN X e te w) (hs:swapsWith e (some (.Name x pos')) pos.line X.env=pure false:=by rfl) (hf:X.fn x=true∨X.env.scope.names.lookup x=some .local:=by first | exact .inl rfl | exact .inr rfl | assumption) :
  DS X (.Assign [.Name x pos'] e pos) (tAsg te (jgc i)) (jli i w):=⟨jez hN hi hx he.pe hs hf,fun C H B σ δ n K D R q E =>
 he.sd C H B σ δ n _ _ R q fun a l kvs H1 n1 R1 k1 h0 h1 h2 h3 q1=>by
  refine E.nx _ _ _ _ _ (R.own R1 k1 h0 (by rw[h1];exact fun z=>nomatch z) rfl ?_) q1
  exact⟨a,l,rfl,h1,.inr rfl,R.h0 h0,h2,h3⟩⟩
noncomputable def jib (i:Nat) (wy wv:DT):DST:=fun δ n K=>match δ[i]? with
 |some (some (.odk kvs))=>wv δ n fun v n1=>wy δ n1 fun y n2=>match v,y with
  |.d d,.d (.str k)=>kvs.length < 1000∧K.nx (δ.set i (some (.odk (putD kvs (.inr k) d)))) n2
  |_,_=>False
 |_=>False
theorem jnu {i:Nat} {x:Str} {xp sp:Pos} {j e:Expr} {tj te:TE} {wj we:DT} (hu:X.A.units+64 < cLine) (hN:X.N[i]?=some x) (hj:DE X j tj wj) (he:DE X e te we) (hv:Vis X.env.scope x:=by first | exact Or.inl rfl | exact Or.inr (Or.inl rfl) | exact Or.inr (Or.inr rfl)) (hd:(x==("__debug__":Str))=false:=by decide)
  (hcd:(x==("__classdict__":Str))=false:=by decide) (hs:swapsWith e (some (.Subscript (.Name x xp) j sp)) pos.line X.env=pure false:=by rfl) :
  DS X (.Assign [.Subscript (.Name x xp) j sp] e pos) (jwu (tVar i) tj te) (jib i wj we) :=
 ⟨jqv (by omega) (jdf hN hv hd hcd) hj.pe he.pe hs,fun C H B σ δ n K D R q E=>by
  unfold jib at q
  split at q
  ·rename_i kvs ei
   refine he.sd C H B σ δ n _ _ R q fun u y H1 n1 R1 k1 r1 q1=>?_
   obtain⟨v,hv,a,l,rfl,e2,e3,e4,e5,e6⟩:=R1.sl i _ ei
   refine⟨_,hv,hj.sd C H1 B σ δ n1 _ _ R1 q1 fun w z H2 n2 R2 k2 r2 q2=>?_⟩
   split at q2
   ·rename_i d key
    cases(show RdX H2 B w (.str key)from r2)
    have hat:a≠C.t:=fun z=>R.t0 (z▸e4)
    have e2':=k2 _ _ e2 hat
    have r1':RdX H2 B u d:=r1.kp k2 R1.bt
    have e6':RdK H2 B l kvs:=e6.move fun b o e n=>⟨k2 b o e fun z=>n (z▸R1.bt),n⟩
    have hl:l.length < 1000:=by rw[e6'.len];exact q2.1
    refine⟨a,_,rfl,DPut.k (k:=.inr key) e2' (Nat.lt_of_lt_of_le hl (jbc (Nat.le_refl _))),?_⟩
    refine E.nx _ _ _ _ _ (R2.mutOwn ei rfl hv e3 e4 ?_ rfl) q2.2
    refine⟨a,_,rfl,jan,e3,e4,?_,?_⟩
    ·have:=jny l (.inr key) u
     omega
    ·exact(e6'.put r1' _).move fun b o e n=>⟨by rw[jal fun(z:b=a)=>n (z▸e3)];exact e,n⟩
   ·exact q2.elim
  ·exact q.elim⟩
noncomputable def jha (i:Nat):DT:=fun δ n Q=>match δ[i]? with
 |some (some (.own ds))=>Q (.d (.int ds.length)) n
 |_=>False
theorem juo (i:Nat) {x:Str} {xp:Pos} (hg:Gl X "len") (hm:X.mg "len"=none) (hK:X.K=K:=by rfl) (hN:X.N[i]?=some x:=by rfl) (hv:Vis X.env.scope x:=by first | exact Or.inl rfl | exact Or.inr (Or.inl rfl) | exact Or.inr (Or.inr rfl)) (hd:(x==("__debug__":Str))=false:=by decide)
  (hcd:(x==("__classdict__":Str))=false:=by decide) (he':starEach [Expr.Name x xp] X.env=(false,eval (.Name x xp) X.env)::starEach [] X.env:=by rfl) (hpl:(backTo pos (starEach [] X.env)).any (·.1)=false:=by rfl) :
  DE X (.Call (.Name "len" p) [.Name x xp] [] pos) (tCB (jti K) (jcw (tVar i) tNil)) (jha i) :=
 ⟨jc2 (ja0 hK) hg hm PySem.boot_len (jav (jdf hN hv hd hcd) jb2 he') (by decide) (by decide) he' hpl,fun C H B σ δ n Q Q' R q k=>by
  unfold jha at q
  split at q
  ·rename_i ds e
   obtain⟨v,h1,a,xs,rfl,g2,g3,g4,g5,g6⟩:=R.sl i _ e
   refine⟨_,h1,.inr ⟨a,xs,rfl,.inl (SqL.of g2),k _ _ H n R (Kp.refl _ _) (wd (.int _)) ?_⟩⟩
   rw[g6.len]
   exact q
  ·exact q.elim⟩
noncomputable def ji2 (i:Nat) (w:DT):DT:=fun δ n Q=>w δ n fun x n1=>match x,δ[i]? with
 |.d a,some (some (.own ds))=>jd5 a=true∧ds.all jd5=true∧Q (.d (.bool (inD a ds))) n1
 |_,_=>False
theorem jqd {i:Nat} (h:Snd ta wa):Snd (tOp (rIn K false) ta (tVar i)) (ji2 i wa):=fun C H B σ δ n Q Q' R q k =>
 h C H B σ δ n _ _ R q fun v x H1 n1 R1 k1 r1 q1=>by
  split at q1
  ·rename_i da ds e
   have r1:RdX H1 B v da:=r1
   obtain⟨u,h1,a,xs,rfl,g2,g3,g4,g5,g6⟩:=R1.sl i _ e
   refine⟨_,h1,a,xs,rfl,.inl (SqL.of g2),jgd r1 q1.1,jd4 g6 q1.2.1,k _ _ H1 n1 R1 k1 (wd (.bl _)) ?_⟩
   rw[jjj r1 g6]
   exact q1.2.2
  ·exact q1.elim
theorem jx4 (i:Nat) {x:Str} {xp:Pos} (ha:DE X a ta wa) (hK:X.K=K:=by rfl) (hN:X.N[i]?=some x:=by rfl) (hv:Vis X.env.scope x:=by first | exact Or.inl rfl | exact Or.inr (Or.inl rfl) | exact Or.inr (Or.inr rfl)) (hd:(x==("__debug__":Str))=false:=by decide)
  (hcd:(x==("__classdict__":Str))=false:=by decide) (hm:behindInMarks .In (Expr.Name x xp)=false:=by with_unfolding_all rfl):DC X (.Compare a [.In] [.Name x xp] pos) (jmx (tOp (rIn K false) ta (tVar i))) (cT (ji2 i wa)) :=
 ⟨je7 (jje hK) ha.pe (jdf hN hv hd hcd) hm,jfm (jqd ha.sd)⟩
end
section
variable {X:Cx} {a b c e o i f:Expr} {ta tb te td ty tx:TE} {wa wb we wd' wy wx:DT} {pos p:Pos} {K:PySem.W.Frag}
noncomputable def txK (ps:List (Str×PyData)):List (Key×PyData):=ps.map fun p=>(Sum.inr p.1,p.2)
noncomputable def jyy (ps:List (Str×PyData)):Prop:=ps.Pairwise fun _ _=>True
noncomputable def jjo (w:DT):DTF:=fun δ n Q=>w δ n fun x n1=>match x with
 |.dk kvs=>∃ps:List (Str×PyData),kvs=txK ps∧ps.length < 64∧(ps.map (·.1)).Nodup∧(∀p∈ps,p.1.length≤1000∧jd5 p.2=true)∧∀ps':List (Str×PyData),ps'.Perm ps→jyy ps'→Q (ps'.map fun p=>.tuple [.str p.1,p.2]) n1
 |_=>False
theorem jvb {H:Hp} {B:Addr→Prop}:∀{l:List (Key×V)} {ps:List (Str×PyData)},RdK H B l (txK ps)→∃xv:List V,xv.length=ps.length∧l=(((ps.map (·.1)).zip xv).map fun p=>((Sum.inr p.1:Key),p.2))∧RdXs H B xv (ps.map (·.2))
 |[],[],_=>⟨[],rfl,rfl,.nil⟩
 |[],_::_,h=>nomatch h
 |_::_,[],h=>nomatch h
 |q::l,p::ps,.cons r h=>by
  obtain⟨xv,e1,e2,e3⟩:=jvb (l:=l) (ps:=ps) h
  refine⟨q.2::xv,by simp[e1],?_,.cons r.2 e3⟩
  rw[e2]
  have r1:q.1=(Sum.inr p.1:Key):=r.1
  have:q=((Sum.inr p.1:Key),q.2):=by rw[←r1]
  rw[this]
  rfl
noncomputable def jy2:V→List V→Hp→VK→Prop:=fun x vs H Q=>∃d kvs,x=.ref d∧vs=[]∧H d=some (.dK kvs)∧∀v,H v=none→Q (.ref v) (upd H v (jk4 d v))
theorem jnc {ap ip:Pos} (hh:X.A.handled=none) (hg:Gl X "sorted") (hm:X.mg "sorted"=none) (ho:DE X o td wd') (hv:bootBuiltins "sorted"=some (.builtin "sorted"):=by decide +kernel) (hK:X.K=K:=by rfl)
  (hbase:attributeBase o "items" X.env (eval o X.env)=eval o X.env:=by rfl) (hline:(ap.endLine==ip.line)=true:=by rfl)
  (he':starEach [Expr.Call (.Attribute o "items" ap) [] [] ip] X.env=(false,eval (Expr.Call (.Attribute o "items" ap) [] [] ip) X.env)::starEach [] X.env:=by rfl) (hpl:(backTo pos (starEach [] X.env)).any (·.1)=false:=by rfl) :
  DF X (.Call (.Name "sorted" p) [.Call (.Attribute o "items" ap) [] [] ip] [] pos) (tCB ji9 (jcw (tBM0 K "dict" jy2 td) tNil)) (jjo wd'):=by
 subst hK
 refine⟨jc2 (jiw hh) hg hm hv (jav (jzd PySem.F.plainAttrs_dict PySem.F.slot_dict_items PySem.F.type_dict_items jt3 ho.pe hbase hline) jb2 he') (by decide) (by decide) he' hpl,fun C H B σ δ n Q Q' R q k =>
  ho.sd C H B σ δ n _ _ R q fun v x H1 n1 R1 k1 r1 q1=>?_⟩
 cases x with
 |d _=>exact q1.elim
 |tp=>exact q1.elim
 |ln _=>exact q1.elim
 |ob _=>exact q1.elim
 |dk kvs =>
  obtain⟨a,l,rfl,g1,g2,g3⟩:=r1
  obtain⟨ps,rfl,h64,nd,hps,kq⟩:=q1
  obtain⟨xv,ex1,ex2,ex3⟩:=jvb g3
  refine⟨.inr (.inr (.inl ⟨rfl,.inl ⟨l,g1⟩⟩)),a,l,rfl,rfl,g1,fun v hv=>?_⟩
  have R2:=R1.new (o:=jk4 a v) hv
  have kp2:Kp C.t H1 (upd H1 v (jk4 a v)):=Kp.new hv
  have hne:a≠v:=jai g1 hv
  refine⟨v,a,ps.map (·.1),xv,rfl,jan,by rw[List.length_map,ex1],by rw[jal hne,g1,ex2],by rw[List.length_map];exact h64,nd,jd4 ex3 ?_,fun D as idx H' hla hidx hpw sm hD has hD' hit=>?_⟩
  ·rw[List.all_eq_true]
   intro d hd
   obtain⟨p,hp,rfl⟩:=List.mem_map.mp hd
   exact(hps p hp).2
  ·rw[List.length_map]at hla hidx
   have R3:=R2.same sm
   have k3:Kp C.t H H':=(k1.trans kp2).trans fun b o e _=>sm b o e
   have hDn:H D=none:=R1.was k1 (by
    cases q:H1 D with
    |none=>rfl
    |some o =>
     have:upd H1 v (jk4 a v) D=some o:=by rw[jal (jai q hv)];exact q
     rw[hD]at this;cases this)
   have hlt:∀i∈idx,i < ps.length:=fun i hi=>List.mem_range.mp (hidx.mem_iff.mp hi)
   have lidx:idx.length=ps.length:=by rw[hidx.length_eq,List.length_range]
   refine k D _ _ H' n1 R3 k3 hDn hD' (by rw[List.length_map,lidx];exact jbc (by omega)) ?_ (kq (idx.map fun i=>ps.getD i (⟨#[]⟩,.none)) ?_ ?_)
   ·rw[List.map_map]
    have key:∀m:List Nat,(∀i∈m,i∈idx)→RdXs H' (fun b=>B b∨b=D) (m.map fun i=>V.ref (IxV as (ps.map (·.1)) xv i).1) (m.map ((fun p=>PyData.tuple [.str p.1,p.2]) ∘ fun i=>ps.getD i (⟨#[]⟩,.none))):=by
     intro m
     induction m with
     |nil=>intro _;exact .nil
     |cons i r ih =>
      intro hm
      have hi:=hm i List.mem_cons_self
      have hil:=hlt i hi
      refine .cons ?_ (ih fun j hj=>hm j (List.mem_cons_of_mem _ hj))
      have ht:=hit i hi
      have hia:i < as.length:=by rw[hla];exact hil
      have eA:(IxV as (ps.map (·.1)) xv i).1=as[i]:=by show as.getD i 0=_;simp[hia]
      have eK:(IxV as (ps.map (·.1)) xv i).2.1=ps[i].1:=by show(ps.map (·.1)).getD i ⟨#[]⟩=_;simp[hil]
      have hix:i < xv.length:=by rw[ex1];exact hil
      have eX:(IxV as (ps.map (·.1)) xv i).2.2=xv[i]:=by show xv.getD i .non=_;simp[hix]
      rw[eA,eK,eX]at ht
      show RdX H' _ (.ref (IxV as (ps.map (·.1)) xv i).1) _
      rw[eA]
      have eP:ps.getD i (⟨#[]⟩,.none)=ps[i]:=by simp[hil]
      show RdX H' _ (.ref as[i]) (.tuple [.str (ps.getD i (⟨#[]⟩,.none)).1,(ps.getD i (⟨#[]⟩,.none)).2])
      rw[eP]
      have hAn:=has as[i] (List.getElem_mem hia)
      have nB:¬B as[i]:=R2.nb hAn
      have nD:as[i]≠D:=fun z=>by rw[z,hD']at ht;cases ht
      refine .tup ht (fun z=>z.elim nB nD) (by show 2≤sizeLine;decide) (.cons (.str _ (jbc (hps ps[i] (List.getElem_mem hil)).1)) (.cons ?_ .nil))
      obtain⟨d,f1,f2⟩:=ex3.get (List.getElem?_eq_getElem hix)
      rw[List.getElem?_map,List.getElem?_eq_getElem hil]at f1
      cases f1
      exact f2.move fun b o e n=>⟨sm b o (by rw[jal (jai e hv)];exact e),fun z=>z.elim n fun q=>by
       have e2:upd H1 v (jk4 a v) b=some o:=by rw[jal (jai e hv)];exact e
       rw[q,hD]at e2
       cases e2⟩
    exact key idx fun _ h=>h
   ·have h1:=hidx.map fun i=>ps.getD i ((⟨#[]⟩:Str),PyData.none)
    have h2:(List.range ps.length).map (fun i=>ps.getD i ((⟨#[]⟩:Str),PyData.none))=ps:=by
     apply List.ext_getElem (by simp)
     intro i h1 h2
     simp[h2]
    rw[h2]at h1
    exact h1
   ·exact KS.pwT _
theorem jm2 {H:Hp} {B:Addr→Prop}:∀{ys:List Str},(∀y∈ys,y.length≤1000)→RdXs H B (ys.map V.str) (ys.map .str)
 |[],_=>.nil
 |y::r,h=>.cons (.str _ (jbc (h y List.mem_cons_self))) (jm2 fun z hz=>h z (List.mem_cons_of_mem _ hz))
noncomputable def gInt:List Wv→Int→DQ→Prop:=fun xs n Q=>match xs with
 |[.d (.int i)]=>Q (.d (.int i)) n
 |[.d (.bool b)]=>Q (.d (.int (if b then 1 else 0))) n
 |_=>False
noncomputable def zipD (xs ys:List PyData):List PyData:=List.zipWith (fun x y=>.tuple [x,y]) xs ys
noncomputable def jrs (w w':DT):DTI:=fun δ n Q=>w δ n fun x n1=>w' δ n1 fun y n2=>match x,y with
 |.d (.tuple xs),.d (.tuple ys)=>xs.length=ys.length∧Q (zipD xs ys) n2
 |_,_=>False
theorem jz7 {elts:List Expr} {kk:Nat} {tpos:Pos} (hg:Gl X "zip") (hm:X.mg "zip"=none) (ha:DE X a ta wa) (hb:DE X b tb wb) (hK:X.K=K:=by rfl) (hs:starEach [a,b] X.env=[(false,eval a X.env),(false,eval b X.env)]:=by rfl) (hs2:starEach [b] X.env=[(false,eval b X.env)]:=by rfl)
  (he1:starEach [a,b] X.env=(false,eval a X.env)::starEach [b] X.env:=by rfl) (he2:starEach [b] X.env=(false,eval b X.env)::starEach [] X.env:=by rfl) :
  DI X (.Tuple elts kk tpos) (.Call (.Name "zip" p) [a,b] [] pos) (iZip K (jcw ta (jcw tb tNil))) (jrs wa wb):=by
 subst hK
 refine⟨jy9 hg hm (jav ha.pe (jav hb.pe jb2 he2) he1) hs hs2,fun C H B σ δ n Q Q' R q k=>ha.sd C H B σ δ n _ _ R q fun v x H1 n1 R1 k1 r1 q1=>hb.sd C H1 B σ δ n1 _ _ R1 q1 fun u y H2 n2 R2 k2 r2 q2=>?_⟩
 have r1':=r1.kp k2 R1.bt
 split at q2
 ·rename_i xs ys
  cases(show RdX H2 B v (.tuple xs)from r1')with
  |@tup aa vs _ e1 e2 e3 e4 =>
   cases(show RdX H2 B u (.tuple ys)from r2)with
   |@tup ab ws _ f1 f2 f3 f4 =>
    refine⟨aa,ab,rfl,⟨vs,SqT.of e1⟩,⟨ws,SqT.of f1⟩,k _ (zipD xs ys) H2 n2 R2 (k1.trans k2) (fun fz th=>?_) q2.2⟩
    have za:fz aa=some (.tup vs):=th.2 _ _ e1 e2
    have zb:fz ab=some (.tup ws):=th.2 _ _ f1 f2
    have lz:(zipD xs ys).length=xs.length:=by unfold zipD;rw[List.length_zipWith,q2.1,Nat.min_self]
    refine⟨by rw[lz,←e4.len];exact e3,fun i H hH hi=>?_,fun H hH=>?_,fun i H x H' d hH hd hy=>?_⟩
    ·rw[lz]at hi
     have h1:i < vs.length:=by rw[e4.len];exact hi
     have h2:i < ws.length:=by rw[f4.len,←q2.1];exact hi
     exact⟨vs,ws,vs[i],ws[i],SqT.of (hH _ _ za),SqT.of (hH _ _ zb),List.getElem?_eq_getElem h1,List.getElem?_eq_getElem h2⟩
    ·exact⟨vs,SqT.of (hH _ _ za),by rw[lz,e4.len];exact Nat.le_refl _⟩
    ·obtain⟨T,x1,y1,rfl,hT,rfl,hx,hy⟩:=hy
     refine⟨fun b o e=>by rw[jal (jai e hT)];exact e,fun B' hB hBa=>?_⟩
     have hi:i < xs.length:=by rw[←lz];exact(List.getElem?_eq_some_iff.mp hd).1
     have hi2:i < ys.length:=by rw[←q2.1];exact hi
     have ed:d=.tuple [xs[i],ys[i]]:=by
      unfold zipD at hd
      rw[List.getElem?_zipWith,List.getElem?_eq_getElem hi,List.getElem?_eq_getElem hi2]at hd
      exact(Option.some.inj hd).symm
     subst ed
     obtain⟨u1,hu1,ru1⟩:=e4.getD (List.getElem?_eq_getElem hi)
     obtain⟨u2,hu2,ru2⟩:=f4.getD (List.getElem?_eq_getElem hi2)
     have t1:=hx _ (SqT.of (hH _ _ za))
     have t2:=hy _ (SqT.of (hH _ _ zb))
     rw[hu1]at t1
     rw[hu2]at t2
     cases t1
     cases t2
     have mv:∀b o,H2 b=some o→¬B b→upd H T (.tup [x1,y1]) b=some o∧¬B' b:=fun b o e ne=>by
      have:=hH _ _ (th.2 _ _ e ne)
      exact⟨by rw[jal (jai this hT)];exact this,hB _ _ (th.2 _ _ e ne)⟩
     exact .tup jan (fun z=>hBa T z hT) (by show 2≤sizeLine;decide) (.cons (ru1.move mv) (.cons (ru2.move mv) .nil))
 ·exact q2.elim
end
end DL
namespace L2
open PySem PySem.Spec PyProof.Rows PySem.SeqAt
section
variable {A:Around} {s:Shared}
end
end L2
namespace DL
open PySem L2 Nb
section
variable {X:Cx} {K:PySem.W.Frag}
end
end DL
namespace L2
open PySem PySem.Spec PyProof.Rows PySem.W
section
variable {prog:Program} {w:World} {A:Around} {E:Value→Shared→Prop} {s:Shared}
theorem jp6 {src:Source} {n:Nat} {Q:Nat→Shared→Prop} (hn:n≠0) (h:∀i dr,i < n→Q i {s with drawn:=dr}):wpAny (model prog w) A (choose src n) Q E s :=
 fun _ _ _=>⟨hn,h _ _ (Nat.mod_lt _ (Nat.pos_of_ne_zero hn))⟩
theorem jho {α:Type}:∀(l:List α) (i:Nat) (h:i < l.length),(l[i]::l.eraseIdx i).Perm l
 |x::r,0,_=>List.Perm.refl _
 |x::r,i+1,h=>(List.Perm.swap x (r[i]'(Nat.lt_of_succ_lt_succ h)) (r.eraseIdx i)).trans ((jho r i (Nat.lt_of_succ_lt_succ h)).cons x)
theorem jp3 {α:Type}:∀(n:Nat) (xs:List α) (s:Shared) {Q:List α→Shared→Prop},xs.length=n→(∀ys dr,ys.Perm xs→Q ys {s with drawn:=dr})→wpAny (model prog w) A (drawOrder n xs) Q E s
 |0,xs,s,Q,hl,h=>by
  cases List.eq_nil_of_length_eq_zero hl
  exact wpAny_pure (h [] s.drawn (List.Perm.refl _))
 |n+1,[],s,Q,hl,h=>by cases hl
 |n+1,x::r,s,Q,hl,h=>by
  unfold drawOrder
  refine wpAny_bind (jp6 (by simp) fun i dr hi=>?_)
  rw[List.getElem?_eq_getElem hi]
  dsimp only
  refine wpAny_bind (jp3 n _ _ (by rw[List.length_eraseIdx_of_lt hi];simp at hl ⊢;omega) fun ys dr' hp=>wpAny_pure (h _ dr' ?_))
  exact(hp.cons _).trans (jho _ _ hi)
theorem jpy {α:Type} (next:Nat→Nat):∀(fuel k:Nat) (left:List α) (out:Array α),left.length=fuel→(pickOrder.go next fuel k left out).toList.Perm (out.toList++left)
 |0,k,left,out,hl=>by
  cases List.eq_nil_of_length_eq_zero hl
  simp[pickOrder.go]
 |fuel+1,k,left,out,hl=>by
  have hi:next k % left.length < left.length:=Nat.mod_lt _ (by omega)
  unfold pickOrder.go
  rw[List.getElem?_eq_getElem hi]
  dsimp only
  refine(jpy next fuel (k+1) _ _ (by rw[List.length_eraseIdx_of_lt hi];omega)).trans ?_
  rw[Array.toList_push,List.append_assoc]
  exact List.Perm.append_left _ (jho _ _ hi)
theorem jow {α:Type} (next:Nat→Nat) (xs:Array α):(pickOrder next xs).toList.Perm xs.toList:=by
 have:=jpy next xs.size 0 xs.toList #[] (by simp)
 simpa[pickOrder]using this
noncomputable def byTx (w:World):Bool:=w.params.followText "set-order"
theorem jj0 {Q:Bool→Shared→Prop} (h:Q (byTx w) s):wpAny (model prog w) A setsByText Q E s:=by
 unfold setsByText
 exact wpAny_bind (wpAny_askSetting (wpAny_pure h))
structure SetTb (w:World) (h:Heap) (a:Addr) (es:Array (Int×Value)) (ep:Nat) (t:SetTable):Prop where
 obj:∃o,h.get? a=some o∧o.ExactSet∧o.data=.set es ep t
 fits:t.fits es.size=true
 led:t.led=!byTx w
 plain:t.plain=true→es.size=0
theorem SetTb.move {h h':Heap} {a:Addr} {es:Array (Int×Value)} {ep:Nat} {t:SetTable} (x:SetTb w h a es ep t) (k:∀o,h.get? a=some o→h'.get? a=some o):SetTb w h' a es ep t :=
 ⟨let⟨o,e,r⟩:=x.obj;⟨o,k o e,r⟩,x.fits,x.led,x.plain⟩
theorem SetTb.typeIs {a:Addr} {es:Array (Int×Value)} {ep:Nat} {t:SetTable} (x:SetTb w s.heap a es ep t):s.TypeIs (.ref a) "set":=let⟨o,e,r,_⟩:=x.obj;⟨o,e,r.1⟩
theorem SetTb.lt {h:Heap} {a:Addr} {es:Array (Int×Value)} {ep:Nat} {t:SetTable} (x:SetTb w h a es ep t):a < h.objs.size:=let⟨_,e,_⟩:=x.obj;Heap.lt_size e
theorem jxb (t:SetTable) (n:Nat):(t.orStandIn n).led=t.led:=by
 unfold SetTable.orStandIn
 split<;>rfl
theorem jxk (t:SetTable) (es:Array (Int×Value)) (h:Int) (x:Value):(layNew t es h x).2.1.led=t.led:=by
 unfold layNew
 split
 ·exact jxb _ _
 ·rfl
theorem jo0 {t t':SetTable} {hs:Array Int} {n:Nat} {ord:Array Nat} (h:t.relaid hs n=some (t',ord)):t'.led=t.led∧t'.plain=t.plain:=by
 unfold SetTable.relaid SetTable.laid at h
 cases hc:SetTable.layClean (SetTable.sizeAbove n - 1) hs with
 |none=>rw[hc]at h;cases h
 |some ow =>
  rw[hc]at h
  cases h
  exact⟨rfl,rfl⟩
theorem jlj (t:SetTable) (es:Array (Int×Value)) (n:Nat):(relayAll t es n).2.1.led=t.led∧((relayAll t es n).2.1.plain=true→t.plain=true):=by
 unfold relayAll
 split
 ·rename_i t' ord he
  obtain⟨h1,h2⟩:=jo0 he
  dsimp only
  split
  ·exact⟨h1,fun z=>h2▸z⟩
  ·exact⟨rfl,fun z=>by simp[SetTable.standIn]at z⟩
 ·exact⟨rfl,fun z=>by simp[SetTable.standIn]at z⟩
noncomputable def txOf (v:Value):Str:=match v with
 |.str k _=>k
 |_=>⟨#[]⟩
noncomputable def ksOf (es:Array (Int×Value)):List Str:=es.toList.map fun e=>txOf e.2
noncomputable def TxEs (w:World) (es:Array (Int×Value)):Prop:=∀e∈es.toList,∃k t,e.2=.str k t∧e.1=hashStr w k
theorem TxEs.elems {es:Array (Int×Value)} (h:TxEs w es):ElemsOf (PySem.strKind prog w) es.toList:=fun e he=>by
 obtain⟨k,t,e1,e2⟩:=h e he
 refine⟨⟨k,?_,e2⟩,by rw[e1];rfl⟩
 rw[e1]
 simp[PySem.strKind,Value.isStrOf]
noncomputable def jh4 (w:World) (h:Heap) (a:Addr) (seen:List Str):Prop:=∃es ep t,SetTb w h a es ep t∧TxEs w es∧(ksOf es).Nodup∧(∀k,k∈ksOf es↔k∈seen)∧es.size≤seen.length
end
theorem jfw:entryFor table "set.update.loop"=some Builtin.«set.update.loop»:=entryFor_of_tree (by kernel_rfl)
theorem jd1:plainId "set.update.loop"=true:=by decide +kernel
section
variable {prog:Program} {w:World} {A:Around} {E:Value→Shared→Prop} {s:Shared}
theorem jwe {es es':Array (Int×Value)} {seen:List Str} {k:Str} {tk:Tok} (hx:TxEs w es) (nd:(ksOf es).Nodup) (hm:∀k,k∈ksOf es↔k∈seen) (hl:es.size≤seen.length) (hk:k∉ksOf es)
  (p:es'.toList.Perm (es.toList++[(hashStr w k,.str k tk)])):TxEs w es'∧(ksOf es').Nodup∧(∀k',k'∈ksOf es'↔k'∈seen++[k])∧es'.size≤(seen++[k]).length∧es'.size=es.size+1:=by
 have pk:(ksOf es').Perm (ksOf es++[k]):=by
  have:=p.map fun e=>txOf e.2
  rw[List.map_append]at this
  exact this
 have hz:es'.size=es.size+1:=by
  have:=p.length_eq
  simpa using this
 refine⟨fun e he=>?_,pk.nodup_iff.mpr ?_,fun k'=>?_,by rw[hz,List.length_append];exact Nat.succ_le_succ hl,hz⟩
 ·rcases List.mem_append.mp (p.mem_iff.mp he)with h | h
  ·exact hx e h
  ·rw[List.mem_singleton]at h
   subst h
   exact⟨k,tk,rfl,rfl⟩
 ·rw[List.nodup_append]
  exact⟨nd,List.pairwise_singleton _ _,fun a ha b hb e=>hk (by rw[List.mem_singleton]at hb;rw[←hb,←e];exact ha)⟩
 ·rw[pk.mem_iff,List.mem_append,List.mem_append,hm k']
theorem jpx {es es':Array (Int×Value)} (hx:TxEs w es) (nd:(ksOf es).Nodup) (p:es'.toList.Perm es.toList):TxEs w es'∧(ksOf es').Nodup∧(∀k',k'∈ksOf es'↔k'∈ksOf es)∧es'.size=es.size:=by
 have pk:(ksOf es').Perm (ksOf es):=List.Perm.map (fun e:Int×Value=>txOf e.2) p
 exact⟨fun e he=>hx e (p.mem_iff.mp he),pk.nodup_iff.mpr nd,fun k'=>pk.mem_iff,by have:=p.length_eq;simpa using this⟩
theorem jyi {a:Addr} {k:Str} {tk:Tok} {seen:List Str} {Q:Bool→Shared→Prop} (hS:jh4 w s.heap a seen) (hb:seen.length < 1000)
  (h:∀b h',Heap.SameBut a s.heap h'→jh4 w h' a (seen++[k])→Q b {s with heap:=h'}):wpAny (model prog w) A (setAddHashed a (.str k tk) (hashStr w k)) Q E s:=by
 obtain⟨es,ep,t,T,hx,nd,hm,hl⟩:=hS
 obtain⟨o,ho,hex,hd⟩:=T.obj
 have hel:ElemsOf (PySem.strKind prog w) es.toList:=hx.elems
 have hsz:es.size < scanBound:=by unfold scanBound;omega
 have hkey:(PySem.strKind prog w).is k (.str k tk)=true:=by simp[PySem.strKind,Value.isStrOf]
 unfold setAddHashed setAddHashedIn
 refine wpAny_holding (wpAny_bind (wpAny_setState_of ho hd T.fits ?_))
 dsimp only
 rw[byScan_of (knd:=PySem.strKind prog w) (x:=.str k tk) rfl hsz hel]
 simp only[↓reduceIte]
 unfold setAddByScan
 refine wpAny_bind (wpAny_bind (wpAny_rule (wpAny_bind (wpAny_setScan_of (knd:=PySem.strKind prog w) (k:=k) hkey ho hd T.fits hel ?_))))
 cases hr:es.toList.findIdx? (fun e=>(PySem.strKind prog w).is k e.2)with
 |some j =>
  dsimp only
  obtain⟨hj,hpj,_⟩:=List.findIdx?_eq_some_iff_getElem.mp hr
  have hk:k∈ksOf es:=by
   obtain⟨u,hu⟩:=Value.isStrOf_shape hpj
   exact List.mem_map.mpr ⟨es.toList[j],List.getElem_mem hj,by rw[hu];rfl⟩
  refine wpAny_pure (wpAny_pure (h _ s.heap (Heap.SameBut.refl a s.heap) ⟨es,ep,t,T,hx,nd,fun k'=>?_,by rw[List.length_append];omega⟩))
  rw[hm k',List.mem_append,List.mem_singleton]
  exact⟨.inl,fun z=>z.elim id fun e=>e▸(hm k).mp hk⟩
 |none =>
  dsimp only
  have hk:k∉ksOf es:=fun z=>by
   obtain⟨e,he,e2⟩:=List.mem_map.mp z
   obtain⟨k',t',e3,_⟩:=hx e he
   have q:=List.findIdx?_eq_none_iff.mp hr e he
   rw[e3]at e2 q
   have e2:k'=k:=e2
   subst e2
   simp[PySem.strKind,Value.isStrOf]at q
  have hgw:∀(b:Bool) {s₁:Shared} {Q':Unit→Shared→Prop},Q' () s₁→wpAny (model prog w) A (match b with | true=>rule "set.scan.the-table-gave-way" | false=>pure ()) Q' E s₁ :=
   fun b s₁ Q' hq=>by cases b with
    |true=>exact wpAny_rule hq
    |false=>exact wpAny_pure hq
  have hp:=layNew_perm t es (hashStr w k) (.str k tk)
  have hf:=layNew_fits t es (hashStr w k) (.str k tk)
  have hle:=jxk t es (hashStr w k) (.str k tk)
  have eh:(PySem.strKind prog w).hash k=hashStr w k:=rfl
  try rw[eh]
  generalize layNew t es (hashStr w k) (.str k tk)=L at hp hf hle ⊢
  obtain⟨es1,t1,wd,gave⟩:=L
  dsimp only at hp hf hle ⊢
  rw[Array.toList_push]at hp
  obtain⟨x1,n1,m1,l1,z1⟩:=jwe hx nd hm hl hk hp
  refine wpAny_bind (hgw _ ?_)
  split
  ·refine wpAny_bind ?_
   rw[hashByValue_scannable 8 rfl]
   refine wpAny_pure ?_
   have hpl:({t1 with plain:=false}:SetTable).plain=false:=rfl
   have hft:({t1 with plain:=false}:SetTable).fits es1.size=true:=SetTable.fits_plain_off hf
   have hld:({t1 with plain:=false}:SetTable).led=t.led:=hle
   simp only[plainKind,Bool.false_eq_true,↓reduceIte]
   generalize({t1 with plain:=false}:SetTable)=t2 at hpl hft hld ⊢
   have hb1:es1.size < scanBound:=by unfold scanBound;omega
   refine wpAny_bind (wpAny_storeSet_of ho hd ?_ (fits_of_scanBound hb1))
   have g1:(s.heap.update a (Obj.putSet es1 t2)).get? a=some {o with data:=.set es1 (ep+1) t2}:=by
    have:=Heap.get?_update_self (Obj.putSet es1 t2) ho (by rw[putSet_of es1 t2 hd];rfl)
    rw[putSet_of es1 t2 hd]at this
    exact this
   have sb1:=Heap.SameBut.update s.heap a (Obj.putSet es1 t2)
   split
   ·have hp2:=relayAll_perm t2 es1 (SetTable.grown es1.size)
    have hf2:=relayAll_fits t2 es1 (SetTable.grown es1.size)
    obtain⟨hl2,hq2⟩:=jlj t2 es1 (SetTable.grown es1.size)
    generalize relayAll t2 es1 (SetTable.grown es1.size)=R at hp2 hf2 hl2 hq2 ⊢
    obtain⟨es2,t3,gave2⟩:=R
    dsimp only at hp2 hf2 hl2 hq2 ⊢
    obtain⟨x2,n2,m2,z2⟩:=jpx x1 n1 hp2
    refine wpAny_bind (hgw _ ?_)
    refine wpAny_bind (wpAny_storeSet_of g1 rfl ?_ (fits_of_scanBound (by rw[z2];exact hb1)))
    have g2:((s.heap.update a (Obj.putSet es1 t2)).update a (Obj.putSet es2 t3)).get? a=some {o with data:=.set es2 (ep+1+1) t3}:=by
     have:=Heap.get?_update_self (Obj.putSet es2 t3) g1 (by rw[putSet_of es2 t3 rfl];rfl)
     rw[putSet_of es2 t3 rfl]at this
     exact this
    refine wpAny_pure (wpAny_pure (h _ _ (sb1.trans (Heap.SameBut.update _ a _)) ⟨es2,ep+1+1,t3,⟨⟨_,g2,hex,rfl⟩,hf2,by rw[hl2,hld];exact T.led,fun z=>?_⟩,x2,n2,fun k'=>(m2 k').trans (m1 k'),by rw[z2];exact l1⟩))
    have:=hq2 z
    rw[hpl]at this
    cases this
   ·refine wpAny_pure (wpAny_pure (h _ _ sb1 ⟨es1,ep+1,t2,⟨⟨_,g1,hex,rfl⟩,hft,by rw[hld];exact T.led,fun z=>?_⟩,x1,n1,m1,l1⟩))
    rw[hpl]at z
    cases z
  ·rename_i hpl0
   have hpl:t1.plain=false:=by simpa using hpl0
   have hft:=hf
   have hld:=hle
   refine wpAny_bind (wpAny_pure ?_)
   simp only[↓reduceIte]
   clear hf hle hpl0
   generalize t1=t2 at hpl hft hld ⊢
   have hb1:es1.size < scanBound:=by unfold scanBound;omega
   refine wpAny_bind (wpAny_storeSet_of ho hd ?_ (fits_of_scanBound hb1))
   have g1:(s.heap.update a (Obj.putSet es1 t2)).get? a=some {o with data:=.set es1 (ep+1) t2}:=by
    have:=Heap.get?_update_self (Obj.putSet es1 t2) ho (by rw[putSet_of es1 t2 hd];rfl)
    rw[putSet_of es1 t2 hd]at this
    exact this
   have sb1:=Heap.SameBut.update s.heap a (Obj.putSet es1 t2)
   split
   ·have hp2:=relayAll_perm t2 es1 (SetTable.grown es1.size)
    have hf2:=relayAll_fits t2 es1 (SetTable.grown es1.size)
    obtain⟨hl2,hq2⟩:=jlj t2 es1 (SetTable.grown es1.size)
    generalize relayAll t2 es1 (SetTable.grown es1.size)=R at hp2 hf2 hl2 hq2 ⊢
    obtain⟨es2,t3,gave2⟩:=R
    dsimp only at hp2 hf2 hl2 hq2 ⊢
    obtain⟨x2,n2,m2,z2⟩:=jpx x1 n1 hp2
    refine wpAny_bind (hgw _ ?_)
    refine wpAny_bind (wpAny_storeSet_of g1 rfl ?_ (fits_of_scanBound (by rw[z2];exact hb1)))
    have g2:((s.heap.update a (Obj.putSet es1 t2)).update a (Obj.putSet es2 t3)).get? a=some {o with data:=.set es2 (ep+1+1) t3}:=by
     have:=Heap.get?_update_self (Obj.putSet es2 t3) g1 (by rw[putSet_of es2 t3 rfl];rfl)
     rw[putSet_of es2 t3 rfl]at this
     exact this
    refine wpAny_pure (wpAny_pure (h _ _ (sb1.trans (Heap.SameBut.update _ a _)) ⟨es2,ep+1+1,t3,⟨⟨_,g2,hex,rfl⟩,hf2,by rw[hl2,hld];exact T.led,fun z=>?_⟩,x2,n2,fun k'=>(m2 k').trans (m1 k'),by rw[z2];exact l1⟩))
    have:=hq2 z
    rw[hpl]at this
    cases this
   ·refine wpAny_pure (wpAny_pure (h _ _ sb1 ⟨es1,ep+1,t2,⟨⟨_,g1,hex,rfl⟩,hft,by rw[hld];exact T.led,fun z=>?_⟩,x1,n1,m1,l1⟩))
    rw[hpl]at z
    cases z
noncomputable def SeqV (ks:List Str) (i:Nat) (v:Value):Prop:=∃k t,ks[i]?=some k∧v=.str k t
theorem jwf {R:Result→Shared→Prop} {I:Addr} {fp wr:List Addr} {G:Array GenState→Array GenState→Prop} {n:Nat} {St:Nat→Shared→Prop} {ks:List Str} (W:WalksS prog w A.in1 I fp wr G n (SeqV ks) St) (S:Addr) (hSf:S∉fp) (hn:ks.length=n) (hb:n < 64) :
  ∀(m i:Nat) (s:Shared),n - i=m→i≤n→St i s→jh4 w s.heap S (ks.take i) →
   (∀s',Moved (S::wr) G s s'→jh4 w s'.heap S ks→R (.ok (.ret .none)) s')→codeAny (model prog w) A (.builtin "set.update.loop" ⟨[.ref S,.ref I],[]⟩) R s:=by
 have hSw:S∉wr:=fun h=>hSf (W.sub _ h)
 have hsub:∀b∈wr,b∈S::wr:=fun b hb=>List.mem_cons_of_mem _ hb
 have mv:∀{h h':Heap} {seen:List Str},(∀o,h.get? S=some o→h'.get? S=some o)→jh4 w h S seen→jh4 w h' S seen:=fun k x=>by
  obtain⟨es,ep,t,T,r⟩:=x
  exact⟨es,ep,t,T.move k,r⟩
 intro m
 induction m with
 |zero =>
  intro i s hk hi hst hS hR
  have hin:i=n:=by omega
  subst hin
  refine codeAny_builtin jfw ?_
  rw[Around.under_plainId jd1 _]
  show wpAny _ A.in1 (pyNext (.ref I)>>=_) _ _ s
  refine wpAny_bind (W.done s _ _ hst fun s' hm=>?_)
  show wpAny _ A.in1 (ret Value.none) _ _ s'
  rw[←hn,List.take_length]at hS
  exact wpAny_pure (hR s' (hm.mono hsub) (mv (fun o e=>hm.heap S _ hSw e) hS))
 |succ m ih =>
  intro i s hk hi hst hS hR
  have hlt:i < n:=by omega
  refine codeAny_builtin jfw ?_
  rw[Around.under_plainId jd1 _]
  show wpAny _ A.in1 (pyNext (.ref I)>>=_) _ _ s
  refine wpAny_bind (W.item i s _ _ hlt hst fun v s' hP hst' hm=>?_)
  obtain⟨k,t,hk1,rfl⟩:=hP
  have hS':=mv (fun o e=>hm.heap S _ hSw e) hS
  show wpAny _ A.in1 (holding [Value.str k t] (setAdd S (.str k t))>>=_) _ _ s'
  refine wpAny_bind (wpAny_holding ?_)
  unfold setAdd
  refine wpAny_holding ?_
  refine wpAny_bind (wpAny_pyHash_str ?_)
  refine jyi (s:={ s' with toks:=s'.toks+1}) hS' (by rw[List.length_take];omega) fun b h' hsb hS2=>?_
  have et:ks.take i++[k]=ks.take (i+1):=by
   rw[List.take_add_one,hk1]
   rfl
  rw[et]at hS2
  refine wpAny_pure ⟨plainId_quiet jd1 _,ih (i+1) _ (by omega) hlt (W.frame _ s' _ _ hst' (Nat.le_succ _) fun b hb o e=>?_) hS2 fun s'' hm'' hS''=>?_⟩
  ·rw[hsb.2 b (fun h:b=S=>hSf (by rw[←h];exact hb))];exact e
  ·refine hR s'' (Moved.trans W.gtrans ((hm.mono hsub).then_heap (Nat.le_succ _) fun b o hb e=>?_) hm'') hS''
   rw[hsb.2 b (fun h:b=S=>hb (by rw[h];exact List.mem_cons_self))];exact e
end
theorem slot_setit_next:Slot "set_iterator" "__next__" "set_iterator.__next__":=Slot.of (owner:="set_iterator") (n:="__next__") (by rw[typeLookup_type,builtinLookup_eq_fast];kernel_rfl)
 (by decide +kernel) (by decide +kernel) (by decide +kernel) (by first | exact .inl (by decide +kernel) | exact .inr (by decide +kernel)) (by rw[isSubtype_type];kernel_rfl)
theorem jbi:entryFor table "set_iterator.__next__"=some Builtin.«set_iterator.__next__»:=entryFor_of_tree (by kernel_rfl)
theorem jbq (a:Value):argsOk "set_iterator.__next__" ⟨[a],[]⟩:=by unfold argsOk;kernel_rfl
theorem jed:Slot "set_iterator" "__iter__" "set_iterator.__iter__":=Slot.of (owner:="set_iterator") (n:="__iter__") (by rw[typeLookup_type,builtinLookup_eq_fast];kernel_rfl)
 (by decide +kernel) (by decide +kernel) (by decide +kernel) (by first | exact .inl (by decide +kernel) | exact .inr (by decide +kernel)) (by rw[isSubtype_type];kernel_rfl)
theorem jg3:entryFor table "set_iterator.__iter__"=some Builtin.«dict_keyiterator.__iter__»:=by exact entryFor_alias (id':="dict_keyiterator.__iter__") (by kernel_rfl) rfl (by decide +kernel) (by kernel_rfl)
theorem jh2 (a:Value):argsOk "set_iterator.__iter__" ⟨[a],[]⟩:=by unfold argsOk;kernel_rfl
theorem jht:entryFor table "set.__iter__"=some Builtin.«frozenset.__iter__»:=by exact entryFor_alias (id':="frozenset.__iter__") (by kernel_rfl) rfl (by decide +kernel) (by kernel_rfl)
noncomputable def SetIt (h:Heap) (I:Addr) (first:Value) (i:Nat) (a:Addr) (n ep:Nat):Prop:=∃o,h.get? I=some o∧o.cls=.type "set_iterator"∧o.data=.fields #[first,.int i 0,.ref a,.int n 0,.int ep 0]
section
variable {prog:Program} {w:World} {A:Around} {E:Value→Shared→Prop} {s:Shared} {I a T:Addr} {n ep i j:Nat} {es:Array (Int×Value)} {t:SetTable} {first:Value}
theorem SetIt.typeIs (x:SetIt s.heap I first i a n ep):s.TypeIs (.ref I) "set_iterator":=let⟨o,e,c,_⟩:=x;⟨o,e,c⟩
theorem SetIt.move {h h':Heap} (x:SetIt h I first i a n ep) (k:∀o,h.get? I=some o→h'.get? I=some o):SetIt h' I first i a n ep:=let⟨o,e,r⟩:=x;⟨o,k o e,r⟩
theorem jcx {Q:Value→Shared→Prop} (hit:SetIt s.heap I first i a n ep) (h:Q (.ref I) s):wpAny (model prog w) A (pyIter (.ref I)) Q E s:=by
 refine wpAny_pyIter_slot hit.typeIs jed (wpAny_call_entry jed hit.typeIs jg3 ?_ (jh2 _))
 show wpAny _ _ (ret (.ref I)) _ _ s
 exact wpAny_pure ⟨_,rfl,"set_iterator",_,hit.typeIs,slot_setit_next.lookup,h⟩
theorem jp0 {pl:Array Value} {x:Int×Value} {Q:Option Value→Shared→Prop} (hit:SetIt s.heap I (.ref T) i a n ep) (hs:SetTb w s.heap a es ep t) (hn:es.size=n) (hT:s.heap.IsTuple T pl) (hp:pl[i]?=some (.int j 0)) (hx:es[j]?=some x)
  (hQ:∀h',SetIt h' I (.ref T) (i+1) a n ep→Heap.SameBut I s.heap h'→Q (some x.2) {s with heap:=h'}):wpAny (model prog w) A (pyNext (.ref I)) Q E s:=by
 obtain⟨o,ho,hc,hd⟩:=id hit
 obtain⟨oa,hoa,_,hda⟩:=hs.obj
 obtain⟨ol,hol,_,nl,hdl⟩:=hT
 unfold pyNext
 refine wpAny_bind (wpAny_attempt (wpAny_callSpecial?_slot (name:=Str.ofString "__next__") hit.typeIs slot_setit_next (wpAny_call_entry slot_setit_next hit.typeIs jbi ?_ (jbq _))))
 refine wpAny_bind (wpAny_pure ?_)
 refine wpAny_bind (wpAny_fieldsOf ho hd ?_)
 dsimp only
 refine wpAny_bind (wpAny_setEntries_of hoa hda hs.fits ?_)
 rw[if_neg (by rw[hn];simp)]
 refine wpAny_bind (wpAny_seqItems hol hdl ?_)
 simp only[Int.toNat_natCast,hp]
 refine wpAny_bind ?_
 unfold setNextDrawn
 refine wpAny_bind (wpAny_setState_of hoa hda hs.fits ?_)
 simp only[Int.toNat_natCast,bne_self_eq_false,Bool.false_eq_true,if_false,hx]
 refine wpAny_pure ?_
 refine wpAny_bind (wpAny_setField ho hd (by simp) (wpAny_pure ⟨x.2,rfl,wpAny_pure (hQ _ ?_ (Heap.SameBut.update ..))⟩))
 exact⟨_,Heap.get?_update_self _ ho (Obj.isFreed_of_fields (Obj.data_mapFields hd _)),(Obj.cls_mapFields ..).trans hc,by
  rw[Obj.data_mapFields hd];simp[rawInt]⟩
theorem jp4 {pl:Array Value} {Q:Option Value→Shared→Prop} (hh:A.handled=none) (hit:SetIt s.heap I (.ref T) i a n ep) (hs:SetTb w s.heap a es ep t) (hn:es.size=n) (hT:s.heap.IsTuple T pl) (hp:pl[i]?=none)
  (hQ:∀h',Heap.ExtBut I s.heap h'→Q none {s with heap:=h'}):wpAny (model prog w) A (pyNext (.ref I)) Q E s:=by
 obtain⟨ol,hol,_,nl,hdl⟩:=hT
 obtain⟨o,ho,hc,hd⟩:=id hit
 obtain⟨oa,hoa,_,hda⟩:=hs.obj
 unfold pyNext
 refine wpAny_bind (wpAny_attempt (wpAny_callSpecial?_slot (name:=Str.ofString "__next__") hit.typeIs slot_setit_next (wpAny_call_entry slot_setit_next hit.typeIs jbi ?_ (jbq _))))
 refine wpAny_bind (wpAny_pure ?_)
 refine wpAny_bind (wpAny_fieldsOf ho hd ?_)
 dsimp only
 refine wpAny_bind (wpAny_setEntries_of hoa hda hs.fits ?_)
 rw[if_neg (by rw[hn];simp)]
 refine wpAny_bind (wpAny_seqItems hol hdl ?_)
 simp only[Int.toNat_natCast,hp]
 refine wpAny_bind (wpAny_setField ho hd (by simp) ?_)
 have ho2:=Heap.get?_update_self (Obj.mapFields (·.setIfInBounds 0 (rawInt 0))) ho (Obj.isFreed_of_fields (Obj.data_mapFields hd _))
 have hd2:=Obj.data_mapFields hd (·.setIfInBounds 0 (rawInt 0))
 refine wpAny_bind (wpAny_setField ho2 hd2 (by simp) ?_)
 refine wpAny_bind ?_
 simp only[newExc,newTuple]
 refine wpAny_bind (wpAny_newObj_type ?_ (by size_fits))
 refine wpAny_bind (m:=firstArgMember _ _) (wpAny_of_eq (a:=Value.none) (by first | rfl | (simp only[firstArgMember];rfl)) ?_)
 refine wpAny_newObj_type ?_ (by size_fits)
 simp only[raiseNew]
 refine wpAny_bind (wpAny_handled ?_)
 first | rw[show A.in1.handled=none from hh] | rw[hh]
 refine wpAny_bind (wpAny_pure (wpAny_throw ?_))
 refine wpAny_bind (wpAny_isInstance (T:="StopIteration") (b:=true) ⟨_,Heap.get?_push_size _ rfl,rfl⟩ isSubtype_stop ?_)
 exact wpAny_pure (hQ _ (((((Heap.SameBut.update ..).trans (Heap.SameBut.update ..)).extBut).push _).push _))
noncomputable def jgo (w:World) (a:Addr) (ep:Nat) (es:Array (Int×Value)):Array (Int×Value):=pickOrder (w.params.setOrder a ep) es
theorem jk8 {Q:Option (Value×Nat)→Shared→Prop} {k:Nat} (hb:byTx w=true) (hs:SetTb w s.heap a es ep t) (h:Q (((jgo w a ep es)[i]?).map fun e=>(e.2,k)) s):wpAny (model prog w) A (setNext a k i ep) Q E s:=by
 obtain⟨oa,hoa,_,hda⟩:=hs.obj
 unfold setNext
 refine wpAny_bind (wpAny_setState_of hoa hda hs.fits ?_)
 dsimp only
 refine wpAny_bind (jj0 ?_)
 rw[hb]
 simp only[↓reduceIte,bne_self_eq_false,Bool.false_eq_true,if_false]
 refine wpAny_bind ?_
 unfold setWalk
 refine wpAny_bind (wpAny_setState_of hoa hda hs.fits ?_)
 dsimp only
 refine wpAny_bind (jj0 ?_)
 rw[hb]
 simp only[↓reduceIte]
 refine wpAny_bind (wpAny_askSetting (wpAny_pure (wpAny_pure h)))
theorem jp1 {x:Int×Value} {Q:Option Value→Shared→Prop} (hb:byTx w=true) (hit:SetIt s.heap I (.int 0 0) i a n ep) (hs:SetTb w s.heap a es ep t) (hn:es.size=n) (hx:(jgo w a ep es)[i]?=some x)
  (hQ:∀h',SetIt h' I (.int 0 0) (i+1) a n ep→Heap.SameBut I s.heap h'→Q (some x.2) {s with heap:=h'}):wpAny (model prog w) A (pyNext (.ref I)) Q E s:=by
 obtain⟨o,ho,hc,hd⟩:=id hit
 obtain⟨oa,hoa,_,hda⟩:=hs.obj
 unfold pyNext
 refine wpAny_bind (wpAny_attempt (wpAny_callSpecial?_slot (name:=Str.ofString "__next__") hit.typeIs slot_setit_next (wpAny_call_entry slot_setit_next hit.typeIs jbi ?_ (jbq _))))
 refine wpAny_bind (wpAny_pure ?_)
 refine wpAny_bind (wpAny_fieldsOf ho hd ?_)
 dsimp only
 refine wpAny_bind (wpAny_setEntries_of hoa hda hs.fits ?_)
 rw[if_neg (by rw[hn];simp)]
 refine wpAny_bind (jk8 hb hs ?_)
 simp only[Int.toNat_natCast,hx,Option.map_some]
 refine wpAny_bind (wpAny_setField ho hd (by simp) ?_)
 have ho2:=Heap.get?_update_self (Obj.mapFields (·.setIfInBounds 0 (rawInt ((0:Int).toNat:Nat)))) ho (Obj.isFreed_of_fields (Obj.data_mapFields hd _))
 have hd2:=Obj.data_mapFields hd (·.setIfInBounds 0 (rawInt ((0:Int).toNat:Nat)))
 refine wpAny_bind (wpAny_setField ho2 hd2 (by simp) (wpAny_pure ⟨x.2,rfl,wpAny_pure (hQ _ ?_ ((Heap.SameBut.update ..).trans (Heap.SameBut.update ..)))⟩))
 exact⟨_,Heap.get?_update_self _ ho2 (Obj.isFreed_of_fields (Obj.data_mapFields hd2 _)),(Obj.cls_mapFields ..).trans ((Obj.cls_mapFields ..).trans hc),by
  rw[Obj.data_mapFields hd2];simp[rawInt]⟩
theorem jp5 {Q:Option Value→Shared→Prop} (hh:A.handled=none) (hb:byTx w=true) (hit:SetIt s.heap I (.int 0 0) i a n ep) (hs:SetTb w s.heap a es ep t) (hn:es.size=n) (hx:(jgo w a ep es)[i]?=none)
  (hQ:∀h',Heap.ExtBut I s.heap h'→Q none {s with heap:=h'}):wpAny (model prog w) A (pyNext (.ref I)) Q E s:=by
 obtain⟨o,ho,hc,hd⟩:=id hit
 obtain⟨oa,hoa,_,hda⟩:=hs.obj
 unfold pyNext
 refine wpAny_bind (wpAny_attempt (wpAny_callSpecial?_slot (name:=Str.ofString "__next__") hit.typeIs slot_setit_next (wpAny_call_entry slot_setit_next hit.typeIs jbi ?_ (jbq _))))
 refine wpAny_bind (wpAny_pure ?_)
 refine wpAny_bind (wpAny_fieldsOf ho hd ?_)
 dsimp only
 refine wpAny_bind (wpAny_setEntries_of hoa hda hs.fits ?_)
 rw[if_neg (by rw[hn];simp)]
 refine wpAny_bind (jk8 hb hs ?_)
 simp only[Int.toNat_natCast,hx,Option.map_none]
 refine wpAny_bind (wpAny_setField ho hd (by simp) ?_)
 refine wpAny_bind ?_
 simp only[newExc,newTuple]
 refine wpAny_bind (wpAny_newObj_type ?_ (by size_fits))
 refine wpAny_bind (m:=firstArgMember _ _) (wpAny_of_eq (a:=Value.none) (by first | rfl | (simp only[firstArgMember];rfl)) ?_)
 refine wpAny_newObj_type ?_ (by size_fits)
 simp only[raiseNew]
 refine wpAny_bind (wpAny_handled ?_)
 first | rw[show A.in1.handled=none from hh] | rw[hh]
 refine wpAny_bind (wpAny_pure (wpAny_throw ?_))
 refine wpAny_bind (wpAny_isInstance (T:="StopIteration") (b:=true) ⟨_,Heap.get?_push_size _ rfl,rfl⟩ isSubtype_stop ?_)
 exact wpAny_pure (hQ _ (((Heap.SameBut.update ..).extBut.push _).push _))
theorem jk7 {Q:Option (Value×Nat)→Shared→Prop} {k:Nat} (hb:byTx w=false) (h1:es.size≤1) (hs:SetTb w s.heap a es ep t)
  (h:Q (match es[SetTable.below t.place k]?,t.place[SetTable.below t.place k]? with
   |some (_,x),some j=>some (x,j+1)
   |_,_=>none) s):wpAny (model prog w) A (setNext a k i ep) Q E s:=by
 obtain⟨oa,hoa,_,hda⟩:=hs.obj
 have hl:t.led=true:=by rw[hs.led,hb];rfl
 unfold setNext
 refine wpAny_bind (wpAny_setState_of hoa hda hs.fits ?_)
 dsimp only
 refine wpAny_bind (jj0 ?_)
 rw[hb]
 simp only[Bool.false_eq_true,↓reduceIte]
 have hd:(!t.plain&&decide (es.size > 1))=false:=by
  have:decide (es.size > 1)=false:=decide_eq_false (by omega)
  rw[this,Bool.and_false]
 split
 ·rename_i z
  have z':(!t.plain&&decide (es.size > 1))=true:=z
  rw[hd]at z'
  cases z'
 ·refine wpAny_bind (wpAny_of_eq (a:=()) ?_ (wpAny_pure h))
  show(if (!t.led&&!es.isEmpty)=true then unsupported "set:maker-not-led" else pure ())=pure ()
  rw[hl]
  rfl
theorem jmo {j:Nat}:SetTable.below #[j] 0=0∧SetTable.below #[j] (j+1)=1:=by
 constructor
 ·simp[SetTable.below,SetTable.below.go]
 ·simp[SetTable.below,SetTable.below.go]
theorem jpz {x:Int×Value} {Q:Option Value→Shared→Prop} (hb:byTx w=false) (hp:t.place=#[j]) (he:es=#[x]) (hit:SetIt s.heap I (.int 0 0) 0 a 1 ep) (hs:SetTb w s.heap a es ep t)
  (hQ:∀h',SetIt h' I (.int ((j+1:Nat):Int) 0) 1 a 1 ep→Heap.SameBut I s.heap h'→Q (some x.2) {s with heap:=h'}):wpAny (model prog w) A (pyNext (.ref I)) Q E s:=by
 have hn:es.size=1:=by rw[he];rfl
 obtain⟨o,ho,hc,hd⟩:=id hit
 obtain⟨oa,hoa,_,hda⟩:=hs.obj
 unfold pyNext
 refine wpAny_bind (wpAny_attempt (wpAny_callSpecial?_slot (name:=Str.ofString "__next__") hit.typeIs slot_setit_next (wpAny_call_entry slot_setit_next hit.typeIs jbi ?_ (jbq _))))
 refine wpAny_bind (wpAny_pure ?_)
 refine wpAny_bind (wpAny_fieldsOf ho hd ?_)
 dsimp only
 refine wpAny_bind (wpAny_setEntries_of hoa hda hs.fits ?_)
 rw[if_neg (by rw[hn];simp)]
 refine wpAny_bind (jk7 hb (by omega) hs ?_)
 have b1:SetTable.below t.place (0:Int).toNat=0:=by rw[hp];exact jmo.1
 rw[b1,hp,he]
 show wpAny _ _ (setField (.ref I) 0 (rawInt ((j+1:Nat):Int))>>=_) _ _ _
 refine wpAny_bind (wpAny_setField ho hd (by simp) ?_)
 have ho2:=Heap.get?_update_self (Obj.mapFields (·.setIfInBounds 0 (rawInt ((j+1:Nat):Int)))) ho (Obj.isFreed_of_fields (Obj.data_mapFields hd _))
 have hd2:=Obj.data_mapFields hd (·.setIfInBounds 0 (rawInt ((j+1:Nat):Int)))
 refine wpAny_bind (wpAny_setField ho2 hd2 (by simp) (wpAny_pure ⟨x.2,rfl,wpAny_pure (hQ _ ?_ ((Heap.SameBut.update ..).trans (Heap.SameBut.update ..)))⟩))
 exact⟨_,Heap.get?_update_self _ ho2 (Obj.isFreed_of_fields (Obj.data_mapFields hd2 _)),(Obj.cls_mapFields ..).trans ((Obj.cls_mapFields ..).trans hc),by
  rw[Obj.data_mapFields hd2];simp[rawInt]⟩
theorem jk9 {k:Nat} {Q:Option Value→Shared→Prop} (hh:A.handled=none) (hb:byTx w=false) (h1:es.size≤1) (hk:es[SetTable.below t.place k]?=none) (hit:SetIt s.heap I (.int (k:Int) 0) i a n ep) (hs:SetTb w s.heap a es ep t) (hn:es.size=n)
  (hQ:∀h',Heap.ExtBut I s.heap h'→Q none {s with heap:=h'}):wpAny (model prog w) A (pyNext (.ref I)) Q E s:=by
 obtain⟨o,ho,hc,hd⟩:=id hit
 obtain⟨oa,hoa,_,hda⟩:=hs.obj
 unfold pyNext
 refine wpAny_bind (wpAny_attempt (wpAny_callSpecial?_slot (name:=Str.ofString "__next__") hit.typeIs slot_setit_next (wpAny_call_entry slot_setit_next hit.typeIs jbi ?_ (jbq _))))
 refine wpAny_bind (wpAny_pure ?_)
 refine wpAny_bind (wpAny_fieldsOf ho hd ?_)
 dsimp only
 refine wpAny_bind (wpAny_setEntries_of hoa hda hs.fits ?_)
 rw[if_neg (by rw[hn];simp)]
 refine wpAny_bind (jk7 hb h1 hs ?_)
 rw[Int.toNat_natCast,hk]
 dsimp only
 refine wpAny_bind (wpAny_setField ho hd (by simp) ?_)
 refine wpAny_bind ?_
 simp only[newExc,newTuple]
 refine wpAny_bind (wpAny_newObj_type ?_ (by size_fits))
 refine wpAny_bind (m:=firstArgMember _ _) (wpAny_of_eq (a:=Value.none) (by first | rfl | (simp only[firstArgMember];rfl)) ?_)
 refine wpAny_newObj_type ?_ (by size_fits)
 simp only[raiseNew]
 refine wpAny_bind (wpAny_handled ?_)
 first | rw[show A.in1.handled=none from hh] | rw[hh]
 refine wpAny_bind (wpAny_pure (wpAny_throw ?_))
 refine wpAny_bind (wpAny_isInstance (T:="StopIteration") (b:=true) ⟨_,Heap.get?_push_size _ rfl,rfl⟩ isSubtype_stop ?_)
 exact wpAny_pure (hQ _ (((Heap.SameBut.update ..).extBut.push _).push _))
end
section
variable {prog:Program} {w:World} {A:Around} {E:Value→Shared→Prop} {s:Shared} {a:Addr} {ep:Nat} {es:Array (Int×Value)} {t:SetTable}
noncomputable def jmp (vs:List (Int×Value)) (i:Nat) (v:Value):Prop:=∃e,vs[i]?=some e∧v=e.2
structure SetWk (prog:Program) (w:World) (sz:Nat) (h':Heap) (a I:Addr) (vs:List (Int×Value)):Prop where
 above:sz≤I
 walk:∃(fp:List Addr) (St:Nat→Heap→Prop),(∀b∈fp,b=a∨sz≤b)∧(∀b∈fp,b < h'.objs.size)∧(∀A:Around,A.handled=none→Walks prog w A I fp [I] vs.length (jmp vs) St)∧St 0 h'
theorem jxq {α:Type} {xs:Array α} {j:Nat} {d:α} (h:j < xs.size):xs[j]?=some (xs.getD j d):=by
 simp[h]
theorem jpc {ys:List Nat} {n:Nat} (hp:ys.Perm (List.range n)) (hn:es.size=n):(ys.map fun j=>es.getD j (0,Value.none)).Perm es.toList:=by
 have h1:=hp.map fun j=>es.getD j ((0:Int),Value.none)
 have h2:(List.range n).map (fun j=>es.getD j ((0:Int),Value.none))=es.toList:=by
  apply List.ext_getElem (by simp[hn])
  intro i h1 h2
  simp at h2
  simp[h2]
 rw[h2]at h1
 exact h1
theorem jv5 {I T:Addr} {ys:List Nat} {n:Nat} (hne:a≠I) (hTI:T≠I) (hp:ys.Perm (List.range n)) (hn:es.size=n) (A:Around) (hh:A.handled=none) :
  Walks prog w A I [I,a,T] [I] (ys.map fun j=>es.getD j (0,Value.none)).length (jmp (ys.map fun j=>es.getD j (0,Value.none)))
   (fun i h=>SetIt h I (.ref T) i a n ep∧SetTb w h a es ep t∧h.IsTuple T (ys.map fun(j:Nat)=>Value.int (j:Int) 0).toArray) where
 sub:=fun b hb=>by simp at hb;simp[hb]
 frame:=fun _ _ _ st hk=>⟨st.1.move fun o e=>hk I (by simp) o e,st.2.1.move fun o e=>hk a (by simp) o e,let⟨o,e,r⟩:=st.2.2;⟨o,hk T (by simp) o e,r⟩⟩
 item:=fun i s Q E hi st hQ=>by
  rw[List.length_map]at hi
  have hj:ys[i] < es.size:=by rw[hn];exact List.mem_range.mp (hp.mem_iff.mp (List.getElem_mem hi))
  refine jp0 (j:=ys[i]) st.1 st.2.1 hn st.2.2 (by simp[hi]) (jxq (d:=(0,Value.none)) hj) fun h' hit' hs'=>?_
  refine hQ _ h' s.toks ⟨_,by rw[List.getElem?_map,List.getElem?_eq_getElem hi];rfl,rfl⟩ ⟨hit',st.2.1.move fun o e=>(hs'.2 a hne).trans e,let⟨o,e,r⟩:=st.2.2;⟨o,(hs'.2 T hTI).trans e,r⟩⟩ fun b o hb e=>hs'.extBut b o (fun h=>hb (by simp[h])) e
 done:=fun s Q E st hQ=>jp4 hh st.1 st.2.1 hn st.2.2 (by simp) fun h' he'=>hQ h' s.toks fun b o hb e=>he' b o (fun h=>hb (by simp[h])) e
 self:=fun _ _ _ _ st hQ=>jcx st.1 hQ
theorem jv6 {I:Addr} {n:Nat} (hb:byTx w=true) (hne:a≠I) (hn:es.size=n) (A:Around) (hh:A.handled=none) :
  Walks prog w A I [I,a] [I] (jgo w a ep es).toList.length (jmp (jgo w a ep es).toList) (fun i h=>SetIt h I (.int 0 0) i a n ep∧SetTb w h a es ep t) where
 sub:=fun b hb=>by simp at hb;simp[hb]
 frame:=fun _ _ _ st hk=>⟨st.1.move fun o e=>hk I (by simp) o e,st.2.move fun o e=>hk a (by simp) o e⟩
 item:=fun i s Q E hi st hQ=>by
  rw[Array.length_toList]at hi
  have hx:(jgo w a ep es)[i]?=some (jgo w a ep es)[i]:=Array.getElem?_eq_getElem hi
  refine jp1 hb st.1 st.2 hn hx fun h' hit' hs'=>?_
  exact hQ _ h' s.toks ⟨_,by rw[Array.getElem?_toList];exact hx,rfl⟩ ⟨hit',st.2.move fun o e=>(hs'.2 a hne).trans e⟩ fun b o hb e=>hs'.extBut b o (fun h=>hb (by simp[h])) e
 done:=fun s Q E st hQ=>jp5 hh hb st.1 st.2 hn (by simp) fun h' he'=>hQ h' s.toks fun b o hb e=>he' b o (fun h=>hb (by simp[h])) e
 self:=fun _ _ _ _ st hQ=>jcx st.1 hQ
theorem jv8 {I:Addr} (hb:byTx w=false) (hn:es.size=0) (A:Around) (hh:A.handled=none) :
  Walks prog w A I [I,a] [I] ([]:List (Int×Value)).length (jmp []) (fun _ h=>SetIt h I (.int ((0:Nat):Int) 0) 0 a 0 ep∧SetTb w h a es ep t) where
 sub:=fun b hb=>by simp at hb;simp[hb]
 frame:=fun _ _ _ st hk=>⟨st.1.move fun o e=>hk I (by simp) o e,st.2.move fun o e=>hk a (by simp) o e⟩
 item:=fun i s Q E hi st hQ=>by simp at hi
 done:=fun s Q E st hQ=>jk9 (k:=0) hh hb (by omega) (by rw[Array.getElem?_eq_none];omega) st.1 st.2 hn fun h' he'=>hQ h' s.toks fun b o hb e=>he' b o (fun h=>hb (by simp[h])) e
 self:=fun _ _ _ _ st hQ=>jcx st.1 hQ
theorem jv7 {I:Addr} {x:Int×Value} {j:Nat} (hb:byTx w=false) (hne:a≠I) (he:es=#[x]) (hp:t.place=#[j]) (A:Around) (hh:A.handled=none) :
  Walks prog w A I [I,a] [I] [x].length (jmp [x]) (fun i h=>((i=0∧SetIt h I (.int 0 0) 0 a 1 ep)∨(i=1∧SetIt h I (.int ((j+1:Nat):Int) 0) 1 a 1 ep))∧SetTb w h a es ep t) where
 sub:=fun b hb=>by simp at hb;simp[hb]
 frame:=fun _ _ _ st hk=>⟨st.1.imp (fun z=>⟨z.1,z.2.move fun o e=>hk I (by simp) o e⟩) (fun z=>⟨z.1,z.2.move fun o e=>hk I (by simp) o e⟩),st.2.move fun o e=>hk a (by simp) o e⟩
 item:=fun i s Q E hi st hQ=>by
  have hi0:i=0:=by simpa using hi
  subst hi0
  rcases st.1 with⟨_,z⟩ | ⟨z,_⟩
  ·refine jpz hb hp he z st.2 fun h' hit' hs'=>?_
   exact hQ _ h' s.toks ⟨x,rfl,rfl⟩ ⟨.inr ⟨rfl,hit'⟩,st.2.move fun o e=>(hs'.2 a hne).trans e⟩ fun b o hb e=>hs'.extBut b o (fun h=>hb (by simp[h])) e
  ·cases z
 done:=fun s Q E st hQ=>by
  rcases st.1 with⟨z,_⟩ | ⟨_,z⟩
  ·cases z
  ·refine jk9 (k:=j+1) hh hb (by rw[he];exact Nat.le_refl 1) ?_ z st.2 (by rw[he];rfl) fun h' he'=>hQ h' s.toks fun b o hb e=>he' b o (fun h=>hb (by simp[h])) e
   rw[hp,jmo.2,he]
   rfl
 self:=fun i s Q E st hQ=>by
  rcases st.1 with⟨_,z⟩ | ⟨_,z⟩
  ·exact jcx z hQ
  ·exact jcx z hQ
theorem jwg {Q:Value→Shared→Prop} (hs:SetTb w s.heap a es ep t) (h64:es.size < 64)
  (h:∀(h':Heap) (dr:Drawn) (I:Addr) (vs:List (Int×Value)),vs.Perm es.toList→(∀b o,s.heap.get? b=some o→h'.get? b=some o)→SetWk prog w s.heap.objs.size h' a I vs→Q (.ref I) {s with heap:=h',drawn:=dr}) :
  wpAny (model prog w) A (pyIter (.ref a)) Q E s:=by
 obtain⟨oa,hoa,hex,hda⟩:=hs.obj
 have hlt:=hs.lt
 refine wpAny_pyIter_slot hs.typeIs F.slot_set_iter (wpAny_call_entry F.slot_set_iter hs.typeIs jht ?_ (F.args_set_iter_1 _))
 refine wpAny_bind (wpAny_pure ?_)
 refine wpAny_bind (wpAny_bind (wpAny_setEntries_of hoa hda hs.fits (wpAny_pure ?_)))
 refine wpAny_bind ?_
 unfold setDrawn
 refine wpAny_bind (wpAny_setState_of hoa hda hs.fits ?_)
 dsimp only
 refine wpAny_bind (jj0 ?_)
 refine wpAny_pure ?_
 split
 ·rename_i hd
  refine wpAny_bind (jp3 es.size (List.range es.size) s (by simp) fun ys dr hp=>?_)
  have hly:ys.length=es.size:=by rw[hp.length_eq,List.length_range]
  refine wpAny_bind (wpAny_newTuple ?_ (by rw[List.length_map,hly,sizeLine_eq];omega))
  have hoa1:=Heap.get?_push_of_some ({cls:=.type "tuple",data:=.seq (ys.map fun(i:Nat)=>rawInt i).toArray}:Obj) hoa
  refine wpAny_bind (wpAny_setEpoch_of hoa1 hda hs.fits ?_)
  refine wpAny_bind (wpAny_newObj_type (wpAny_pure ⟨_,rfl,"set_iterator",_,⟨_,Heap.get?_push_size _ rfl,rfl⟩,slot_setit_next.lookup,?_⟩))
  have hT:(s.heap.push ({cls:=.type "tuple",data:=.seq (ys.map fun(i:Nat)=>rawInt i).toArray}:Obj)).get? s.heap.objs.size=some {cls:=.type "tuple",data:=.seq (ys.map fun(i:Nat)=>rawInt i).toArray}:=Heap.get?_push_size _ rfl
  refine h _ dr _ (ys.map fun j=>es.getD j (0,Value.none)) (jpc hp rfl) (fun b o e=>Heap.get?_push_of_some _ (Heap.get?_push_of_some _ e)) ⟨by rw[Heap.size_push];exact Nat.le_succ _,[_,a,s.heap.objs.size],_,fun b hb=>?_,fun b hb=>?_,fun A hh=>jv5 (t:=t) (ep:=ep) (T:=s.heap.objs.size) (by rw[Heap.size_push];exact Nat.ne_of_lt (Nat.lt_succ_of_lt hlt)) (by rw[Heap.size_push];exact Nat.ne_of_lt (Nat.lt_succ_self _)) hp rfl A hh,⟨⟨_,Heap.get?_push_size _ rfl,rfl,rfl⟩,hs.move fun o e=>Heap.get?_push_of_some _ (Heap.get?_push_of_some _ e),⟨_,Heap.get?_push_of_some _ hT,rfl,_,rfl⟩⟩⟩
  ·simp only[List.mem_cons,List.not_mem_nil,or_false]at hb
   rcases hb with rfl | rfl | rfl
   ·rw[Heap.size_push];exact .inr (Nat.le_succ _)
   ·exact .inl rfl
   ·exact .inr (Nat.le_refl _)
  ·simp only[List.mem_cons,List.not_mem_nil,or_false]at hb
   rw[Heap.size_push,Heap.size_push]
   rcases hb with rfl | rfl | rfl
   ·rw[Heap.size_push];exact Nat.lt_succ_self _
   ·exact Nat.lt_succ_of_lt (Nat.lt_succ_of_lt hlt)
   ·exact Nat.lt_succ_of_lt (Nat.lt_succ_self _)
 ·rename_i hd
  refine wpAny_bind (wpAny_pure ?_)
  refine wpAny_bind (wpAny_setEpoch_of hoa hda hs.fits ?_)
  refine wpAny_bind (wpAny_newObj_type (wpAny_pure ⟨_,rfl,"set_iterator",_,⟨_,Heap.get?_push_size _ rfl,rfl⟩,slot_setit_next.lookup,?_⟩))
  have hit:SetIt (s.heap.push {cls:=.type "set_iterator",data:=.fields #[rawInt 0,rawInt 0,.ref a,rawInt es.size,rawInt ep]}) s.heap.objs.size (.int 0 0) 0 a es.size ep:=⟨_,Heap.get?_push_size _ rfl,rfl,rfl⟩
  have hst:SetTb w (s.heap.push {cls:=.type "set_iterator",data:=.fields #[rawInt 0,rawInt 0,.ref a,rawInt es.size,rawInt ep]}) a es ep t:=hs.move fun o e=>Heap.get?_push_of_some _ e
  have kp:∀b o,s.heap.get? b=some o→(s.heap.push {cls:=.type "set_iterator",data:=.fields #[rawInt 0,rawInt 0,.ref a,rawInt es.size,rawInt ep]}).get? b=some o:=fun b o e=>Heap.get?_push_of_some _ e
  have f1:∀b∈[s.heap.objs.size,a],b=a∨s.heap.objs.size≤b:=fun b hb=>by
   simp only[List.mem_cons,List.not_mem_nil,or_false]at hb
   rcases hb with rfl | rfl
   ·exact .inr (Nat.le_refl _)
   ·exact .inl rfl
  have f2:∀b∈[s.heap.objs.size,a],b < (s.heap.push {cls:=.type "set_iterator",data:=.fields #[rawInt 0,rawInt 0,.ref a,rawInt es.size,rawInt ep]}).objs.size:=fun b hb=>by
   simp only[List.mem_cons,List.not_mem_nil,or_false]at hb
   rw[Heap.size_push]
   rcases hb with rfl | rfl
   ·exact Nat.lt_succ_self _
   ·exact Nat.lt_succ_of_lt hlt
  have hne:a≠s.heap.objs.size:=Nat.ne_of_lt hlt
  cases hb:byTx w with
  |true=>exact h _ s.drawn _ (jgo w a ep es).toList (jow _ _) kp ⟨Nat.le_refl _,[s.heap.objs.size,a],_,f1,f2,fun A hh=>jv6 (t:=t) hb hne rfl A hh,⟨hit,hst⟩⟩
  |false =>
   have hd0:¬((!byTx w&&(!t.plain&&decide (es.size > 1)))=true):=hd
   have hd':(!byTx w&&(!t.plain&&decide (es.size > 1)))=false:=by simpa using hd0
   have h1:es.size≤1:=by
    rw[hb]at hd'
    by_cases hz:es.size≤1
    ·exact hz
    ·have hg:decide (es.size > 1)=true:=decide_eq_true (by omega)
     rw[hg]at hd'
     have hpl:t.plain=true:=by simpa using hd'
     have:=hs.plain hpl
     omega
   by_cases h0:es.size=0
   ·have e0:es.toList=[]:=List.eq_nil_of_length_eq_zero (by simpa using h0)
    refine h _ s.drawn _ [] (by rw[e0]) kp ⟨Nat.le_refl _,[s.heap.objs.size,a],_,f1,f2,fun A hh=>jv8 (t:=t) (ep:=ep) hb h0 A hh,⟨?_,hst⟩⟩
    rw[h0]at hit ⊢
    exact hit
   ·have h1':es.size=1:=by omega
    obtain⟨x,hx⟩:∃x,es=#[x]:=by
     have:es.toList.length=1:=by simpa using h1'
     obtain⟨x,hx⟩:=List.length_eq_one_iff.mp this
     exact⟨x,Array.toList_inj.mp hx⟩
    have hps:t.place.size=1:=by
     have:=hs.fits
     simp only[SetTable.fits,Bool.and_eq_true,beq_iff_eq]at this
     rw[this.1,h1']
    obtain⟨j,hj⟩:∃j,t.place=#[j]:=by
     have:t.place.toList.length=1:=by simpa using hps
     obtain⟨x,hx⟩:=List.length_eq_one_iff.mp this
     exact⟨x,Array.toList_inj.mp hx⟩
    refine h _ s.drawn _ [x] (by rw[hx]) kp ⟨Nat.le_refl _,[s.heap.objs.size,a],_,f1,f2,fun A hh=>jv7 (t:=t) (ep:=ep) hb hne hx hj A hh,⟨.inl ⟨rfl,?_⟩,hst⟩⟩
    rw[h1']at hit ⊢
    exact hit
end
theorem jkn:entryFor table "proto.collect"=some Builtin.«proto.collect»:=entryFor_of_tree (by kernel_rfl)
theorem jpb:entryFor table "list.__iadd__"=some Builtin.«list.__iadd__»:=entryFor_of_tree (by kernel_rfl)
section
variable {prog:Program} {w:World} {A:Around} {E:Value→Shared→Prop} {s:Shared} {a:Addr} {ep:Nat} {es:Array (Int×Value)} {t:SetTable}
theorem jwh {Q:Bool→Shared→Prop} (hT:s.TypeIs (.ref a) "set") (h:Q false s):wpAny (model prog w) A (Builtin.List.listLengthHint (.ref a)) Q E s:=by
 unfold Builtin.List.listLengthHint
 refine wpAny_bind (wpAny_specialOf hT F.slot_set_len.lookup ?_)
 generalize hid:("set.__len__":String)=id0
 wp_delta
 rw[show splitId id0=some ("set","__len__")from by subst hid;decide +kernel]
 subst hid
 refine wpAny_bind (wpAny_isInstance (T:="set") (b:=true) hT (by rw[isSubtype_type];kernel_rfl) ?_)
 refine wpAny_ite_split (fun hab=>absurd hab (by decide)) (fun _=>?_)
 refine wpAny_ite_split (fun _=>?_) (fun hab=>absurd (by decide +kernel) hab)
 refine wpAny_bind (wpAny_typeOf hT ?_)
 exact wpAny_pure h
theorem jp2 {R:Result→Shared→Prop} (hh:A.handled=none) (hs:SetTb w s.heap a es ep t) (h64:es.size < 64) (S:Addr) (hSa:S≠a) (res:Value) (hS:s.heap.get? S=some {cls:=.type "list",data:=.seq #[]})
  (hR:∀h' tk dr (vs:List (Int×Value)) acc c,vs.Perm es.toList→(∀b o,b≠S→s.heap.get? b=some o→h'.get? b=some o)→h'.get? S=some {cls:=.type "list",dict:=none,data:=.seq acc c,slots:=#[]}→ItemsOf (jmp vs) acc vs.length→R (.ok (.ret res)) {s with heap:=h',toks:=tk,drawn:=dr}) :
  wpAny (model prog w) A.in1 (Builtin.List.listExtendWith (.ref S) (.ref a) res)
   (fun fin s'=>match fin with | .done f=>R (.ok f) s' | .again c'=>c'.quiet=true∧codeAny (model prog w) A c' R s') (fun e s'=>R (.error e) s') s:=by
 unfold Builtin.List.listExtendWith
 refine wpAny_bind (wpAny_typeOf (T:="set") hs.typeIs ?_)
 have h1:Builtin.List.listSameRef (.ref S) (.ref a)=false:=by simp[Builtin.List.listSameRef,hSa]
 have h2:(Value.type "set"==Value.type "list")=false:=by decide
 have h3:(Value.type "set"==Value.type "tuple")=false:=by decide
 simp only[h1,h2,h3,Bool.or_false,Bool.false_eq_true,if_false]
 refine wpAny_bind (jwg (A:=A.in1) hs h64 fun h' dr I vs hp hk hw=>?_)
 obtain⟨hI,fp,St,hf1,hf2,W,st⟩:=hw
 have hSlt:S < s.heap.objs.size:=Heap.lt_size hS
 have hSf:S∉fp:=fun hm=>(hf1 S hm).elim hSa fun z=>Nat.lt_irrefl _ (Nat.lt_of_lt_of_le hSlt z)
 have hS1:=hk S _ hS
 have hlen:vs.length=es.size:=by rw[hp.length_eq,Array.length_toList]
 have key:∀(h:Heap) (c₁ tk:Nat),St 0 h→(∀b o,b≠S→s.heap.get? b=some o→h.get? b=some o) →
   h.get? S=some {cls:=.type "list",data:=.seq #[] c₁}→codeAny (model prog w) A (.builtin "list.extend.loop" ⟨[.ref S,.ref I,res],[]⟩) R {s with heap:=h,toks:=tk,drawn:=dr}:=by
  intro h c₁ tk hst hk2 hS₁
  refine codeAny_extend_loopS (W A.in1 hh).toS (by rw[hlen,sizeLine_eq];omega) S hSf res vs.length 0 _ #[] c₁ rfl (Nat.zero_le _) hst hS₁ (ItemsOf.nil _) fun s' acc' c' hm hS' hacc=>?_
  rw[Moved.eq_with hm]
  refine hR s'.heap s'.toks dr vs acc' c' hp (fun b o hb e=>hm.heap b o (fun hmem=>?_) (hk2 b o hb e)) hS' hacc
  rcases List.mem_cons.mp hmem with e' | hmem
  ·exact hb e'
  ·have hbI:=List.mem_singleton.mp hmem
   exact absurd (Heap.lt_size e) (by rw[hbI];exact Nat.not_lt.mpr hI)
 refine wpAny_bind (wpAny_holding (jwh (s:={ s with heap:=h',drawn:=dr}) (hs.move fun o e=>hk a o e).typeIs ?_))
 refine wpAny_ite_split (fun _=>?_) (fun _=>wpAny_pure ⟨plainId_quiet PySem.F.plain_extend_loop _,key _ 0 _ st (fun b o _ e=>hk b o e) hS1⟩)
 refine wpAny_bind (wpAny_rule ?_)
 refine wpAny_bind ?_
 show wpAny _ _ (updateSeq S (·.push .none)>>=fun _=>updateSeq S (·.pop)) _ _ _
 refine wpAny_bind (wpAny_updateSeq hS1 rfl ?_)
 have hS₂:=Heap.get?_update_self (Obj.mapSeq (·.push Value.none)) hS1 rfl
 refine wpAny_updateSeq (hz:=by seq_fits) hS₂ rfl ?_
 have hS₃:=Heap.get?_update_self (Obj.mapSeq (·.pop)) hS₂ rfl
 refine wpAny_pure ⟨plainId_quiet PySem.F.plain_extend_loop _,key _ _ _ ?_ (fun b o hb e=>?_) hS₃⟩
 ·refine(W A hh).frame 0 _ _ st fun b hb o e=>?_
  have hbS:b≠S:=fun h=>hSf (h▸hb)
  exact(Heap.get?_update_other _ _ (Ne.symm hbS)).trans ((Heap.get?_update_other _ _ (Ne.symm hbS)).trans e)
 ·exact(Heap.get?_update_other _ _ (Ne.symm hb)).trans ((Heap.get?_update_other _ _ (Ne.symm hb)).trans (hk b o e))
theorem jod {vs:List (Int×Value)} {acc:Array Value} (h:ItemsOf (jmp vs) acc vs.length):acc.toList=vs.map (·.2):=by
 apply List.ext_getElem?
 intro i
 by_cases hi:i < vs.length
 ·have hi2:i < acc.size:=by rw[h.1];exact hi
  obtain⟨e,e1,e2⟩:=h.2 i acc[i] (Array.getElem?_eq_getElem hi2)
  rw[List.getElem?_map,e1,Array.getElem?_toList,Array.getElem?_eq_getElem hi2,e2]
  rfl
 ·rw[List.getElem?_eq_none (by rw[Array.length_toList,h.1];omega),List.getElem?_eq_none (by rw[List.length_map];omega)]
theorem jox {R:List Value→Shared→Prop} (hh:A.handled=none) (hs:SetTb w s.heap a es ep t) (h64:es.size < 64)
  (h:∀(h':Heap) (tk:Nat) (dr:Drawn) (vs:List (Int×Value)),vs.Perm es.toList→(∀b o,s.heap.get? b=some o→h'.get? b=some o)→R (vs.map (·.2)) {s with heap:=h',toks:=tk,drawn:=dr}) :
  wpAny (model prog w) A (collect (.ref a)) R E s:=by
 unfold collect
 refine wpAny_bind (wpAny_runValue (codeAny_builtin jkn ?_))
 rw[Around.under_plainId PySem.F.plain_proto_collect _]
 show wpAny _ A.in1 (newList []>>=fun l=>again (.builtin "list.__iadd__" ⟨[l,.ref a],[]⟩)) _ _ s
 refine wpAny_bind (wpAny_newObj_type ?_)
 refine wpAny_pure ⟨plainId_quiet PySem.F.plain_list_iadd _,codeAny_builtin jpb ?_⟩
 rw[Around.under_plainId PySem.F.plain_list_iadd _]
 have hS₁:(s.heap.push {cls:=.type "list",data:=.seq ([]:List Value).toArray}).get? s.heap.objs.size=some {cls:=.type "list",data:=.seq #[]}:=Heap.get?_push_size _ rfl
 show wpAny _ A.in1 (Builtin.List.listExtendWith (.ref s.heap.objs.size) (.ref a) (.ref s.heap.objs.size)) _ _ _
 have key:=jp2 (prog:=prog) (A:=A) (s:={ s with heap:=s.heap.push {cls:=.type "list",data:=.seq ([]:List Value).toArray}})
  (R:=fun(q:Result) (s':Shared)=>∃(h':Heap) (tk:Nat) (dr:Drawn) (vs:List (Int×Value)) (acc':Array Value) (c':Nat),q=.ok (.ret (.ref s.heap.objs.size))∧s'={ s with heap:=h',toks:=tk,drawn:=dr}∧vs.Perm es.toList ∧
   (∀b o,s.heap.get? b=some o→h'.get? b=some o)∧h'.get? s.heap.objs.size=some {cls:=.type "list",dict:=none,data:=.seq acc' c',slots:=#[]}∧ItemsOf (jmp vs) acc' vs.length)
  hh (hs.move fun o e=>Heap.get?_push_of_some _ e) h64 s.heap.objs.size (Nat.ne_of_gt hs.lt) (.ref s.heap.objs.size) hS₁
  (fun h' tk dr vs acc' c' hp hk hS' hacc=>⟨h',tk,dr,vs,acc',c',rfl,rfl,hp,fun b o e=>hk b o (Nat.ne_of_lt (Heap.lt_size e)) (Heap.get?_push_of_some _ e),hS',hacc⟩)
 refine wpAny_mono key (fun fin s' x=>?_) fun e s' x=>?_
 ·cases fin with
  |done f =>
   obtain⟨h',tk,dr,vs,acc',c',e,rfl,hp,hk,hS',hacc⟩:=x
   cases e
   show wpAny _ A (load s.heap.objs.size>>=_) _ _ _
   refine wpAny_bind (wpAny_load hS' ?_)
   refine wpAny_pure ?_
   rw[jod hacc]
   exact h h' tk dr vs hp hk
  |again c₁ =>
   refine⟨x.1,codeAny_mono x.2 fun q s₂ y=>?_⟩
   obtain⟨h',tk,dr,vs,acc',c',rfl,rfl,hp,hk,hS',hacc⟩:=y
   show wpAny _ A (load s.heap.objs.size>>=_) _ _ _
   refine wpAny_bind (wpAny_load hS' ?_)
   refine wpAny_pure ?_
   rw[jod hacc]
   exact h h' tk dr vs hp hk
 ·obtain⟨_,_,_,_,_,_,z,_⟩:=x
  cases z
end
noncomputable def set0 (w:World):Obj:={ cls:=.type "set",dict:=none,data:=.set #[] 0 (.fresh 0 0 (!byTx w))}
section
variable {prog:Program} {w:World} {A:Around} {E:Value→Shared→Prop} {s:Shared}
theorem jws {h:Heap} {a:Addr} (e:h.get? a=some (set0 w)):jh4 w h a [] :=
 ⟨#[],0,.fresh 0 0 (!byTx w),⟨⟨_,e,⟨rfl,rfl,rfl⟩,rfl⟩,rfl,rfl,fun _=>rfl⟩,fun e he=>by simp at he,List.Pairwise.nil,fun k=>by simp[ksOf],Nat.le_refl _⟩
theorem jyh (a:Value) {Q₁:Value→Shared→Prop} (h:Q₁ (.ref s.heap.objs.size) {s with heap:=s.heap.push (set0 w)}) :
  codeAny (model prog w) A (.call (.builtin "set.__new__") ⟨[.type "set",a],[]⟩) (wants Q₁ E) s:=by
 refine codeAny_of_tree ?_
 show wpAny _ A.in1 (do checkBuiltinCall "set.__new__" ⟨[.type "set",a],[]⟩;again (.builtin "set.__new__" ⟨[.type "set",a],[]⟩)) _ _ s
 refine wpAny_bind (wpAny_of_eq (F.newCall_set_1 a) (wpAny_pure ⟨plainId_quiet F.plain_set_new _,codeAny_builtin F.entry_set_new ?_⟩))
 rw[Around.under_plainId F.plain_set_new _]
 unfold Builtin.«set.__new__» Builtin.Frozenset.newClass
 have hsub:=sub_set_self
 obtain⟨hp,g,d,tk,os⟩:=s
 dsimp only
 wp_walk
 refine wpAny_askSetting (wpAny_pure ?_)
 dsimp only
 simp only[newObj]
 exact wpAny_bind (wpAny_alloc (wpAny_pure (wpAny_pure h)))
structure TxSrc (prog:Program) (w:World) (T:String) (x:Addr) (ks:List Str) (OK:Heap→Prop):Prop where
 type:∀s:Shared,OK s.heap→s.TypeIs (.ref x) T
 there:∀h:Heap,OK h→x < h.objs.size
 keep:∀h h':Heap,OK h→(∀o,h.get? x=some o→h'.get? x=some o)→OK h'
 notSet:isSubtype (.type T) (.type "set")=pure false
 notFrozen:isSubtype (.type T) (.type "frozenset")=pure false
 notDict:(Value.type T==Value.type "dict")=false
 iter:∀s:Shared,OK s.heap→∃(oI:Obj) (St:Nat→Heap→Prop),
  (∀(A:Around) (E:Value→Shared→Prop) (Q:Value→Shared→Prop),Q (.ref s.heap.objs.size) {s with heap:=s.heap.push oI}→wpAny (model prog w) A (pyIter (.ref x)) Q E s) ∧
  (∀A:Around,A.handled=none→Walks prog w A s.heap.objs.size [s.heap.objs.size,x] [s.heap.objs.size] ks.length (SeqV ks) St)∧St 0 (s.heap.push oI)
set_option maxHeartbeats 3200000 in
theorem jmi {T:String} {x:Addr} {ks:List Str} {OK:Heap→Prop} {Q:Value→Shared→Prop} (K:TxSrc prog w T x ks OK) (hh:A.handled=none) (hok:OK s.heap) (h64:ks.length < 64)
  (h:∀(h':Heap) (tk:Nat),jh4 w h' s.heap.objs.size ks→(∀b o,b < s.heap.objs.size→s.heap.get? b=some o→h'.get? b=some o)→Q (.ref s.heap.objs.size) {s with heap:=h',toks:=tk}) :
  wpAny (model prog w) A (call (.type "set") [.ref x]) Q E s:=by
 obtain⟨c,tl,hmro⟩:=F.called_set.mro
 have hmade:=F.called_set.made
 have hsub:=F.called_set.sub
 refine wpAny_call (codeAny_of_tree ?_)
 show wpAny _ _ (callAny (.type "set") _) _ _ _
 refine wpAny_pure ⟨Code.quiet_builtin _ (by decide +kernel),codeAny_builtin F.entry_type_call ?_⟩
 rw[Around.under_plain (weight_type_call_type "set" [.ref x] []) rfl]
 have h1:=F.called_set.notType
 have h2:=F.called_set.canCreate
 have hct:=F.typeCall_set_1 (.ref x)
 repeat (any_goals (first | assumption | wp_step))
 refine codeAny_mono (jyh (.ref x) (E:=E) (Q₁:=fun obj s₁=>obj=.ref s.heap.objs.size∧s₁={ s with heap:=s.heap.push (set0 w)}) ⟨rfl,rfl⟩) fun r s₁ hr=>?_
 cases r with
 |error e=>exact hr
 |ok fl =>
  cases fl with
  |ret obj =>
   obtain⟨rfl,rfl⟩:=hr
   have hS:(s.heap.push (set0 w)).get? s.heap.objs.size=some (set0 w):=Heap.get?_push_size _ rfl
   have hT:Shared.TypeIs {s with heap:=s.heap.push (set0 w)} (.ref s.heap.objs.size) "set":=⟨_,hS,rfl⟩
   have hli:=F.called_set.init.lookup
   have hbi:=F.called_set.init.bind (.ref s.heap.objs.size)
   repeat (any_goals (first | assumption | wp_step))
   refine codeAny_mono (codeAny_call_builtin (R:=wants (fun r s₂=>r=.none∧∃h' tk,s₂={ s with heap:=h',toks:=tk}∧jh4 w h' s.heap.objs.size ks ∧
     (∀b o,b < s.heap.objs.size→s.heap.get? b=some o→h'.get? b=some o)) E) F.called_set.init.plain F.entry_set_init (check_set_init_1 hT ?_)) fun r₂ s₂ hr₂=>?_
   ·have hok1:OK (s.heap.push (set0 w)):=K.keep _ _ hok fun o e=>Heap.get?_push_of_some _ e
    have hTx:Shared.TypeIs {s with heap:=s.heap.push (set0 w)} (.ref x) T:=K.type {s with heap:=s.heap.push (set0 w)} hok1
    have hsls:=K.notSet
    have hslf:=K.notFrozen
    have hne:=K.notDict
    unfold Builtin.«set.__init__» noKeywords Builtin.Frozenset.updateFrom
    generalize hPI:pyIter=PI
    wp_walk
    subst hPI
    have hh3:A.in1.in1.in1.handled=none:=by simp[hh]
    obtain⟨oI,St,hit,W,st⟩:=K.iter {s with heap:=s.heap.push (set0 w)} hok1
    refine hit _ _ _ ?_
    refine wpAny_bind (wpAny_runValue ?_)
    have hxS:x < s.heap.objs.size:=K.there _ hok
    have hSf:s.heap.objs.size∉[(s.heap.push (set0 w)).objs.size,x]:=by
     rw[Heap.size_push];simp only[List.mem_cons,List.mem_singleton,List.not_mem_nil,or_false,not_or]
     exact⟨Nat.ne_of_lt (Nat.lt_succ_self _),Nat.ne_of_gt hxS⟩
    refine jwf (W _ hh3).toS s.heap.objs.size hSf rfl h64 (ks.length - 0) 0 _ (by omega) (Nat.zero_le _) st (jws (Heap.get?_push_of_some _ hS)) ?_
    intro s' hm hS'
    obtain⟨h',g',d',tk',os'⟩:=s'
    have eg:g'=s.gens:=hm.gens
    have ed:d'=s.drawn:=hm.drawn
    have eo:os'=s.os:=hm.os
    subst eg;subst ed;subst eo
    show wpAny _ _ _ _ _ _
    refine wpAny_pure ?_
    show wpAny _ _ (ret Value.none) _ _ _
    refine wpAny_pure ⟨rfl,h',tk',rfl,hS',fun b o hb e=>?_⟩
    have hb1:b≠s.heap.objs.size:=Nat.ne_of_lt hb
    have hb2:b≠(s.heap.push (set0 w)).objs.size:=by
     rw[Heap.size_push];exact Nat.ne_of_lt (Nat.lt_succ_of_lt hb)
    exact hm.heap b o (by simp only[List.mem_cons,List.mem_singleton,List.not_mem_nil,or_false,not_or];exact⟨hb1,hb2⟩) (Heap.get?_push_of_some _ (Heap.get?_push_of_some _ e))
   ·cases r₂ with
    |error e=>exact hr₂
    |ok fl₂ =>
     cases fl₂ with
     |ret r =>
      obtain⟨rfl,h',tk,rfl,hS',hk'⟩:=hr₂
      repeat (any_goals (first | assumption | wp_step))
      exact h _ _ hS' hk'
     |_=>exact hr₂.elim
  |_=>exact hr.elim
theorem js4 {x:Addr} {ks:List Str} {items:Array Value} (hk:∀i v,items[i]?=some v→SeqV ks i v) (hl:items.size=ks.length):TxSrc prog w "list" x ks (fun h=>h.IsList x items) where
 type:=fun s h=>h.typeIs
 there:=fun h hl=>let⟨_,e,_⟩:=hl;Heap.lt_size e
 keep:=fun h h' hl k=>let⟨o,e,r⟩:=hl;⟨o,k o e,r⟩
 notSet:=by rw[isSubtype_type];kernel_rfl
 notFrozen:=by rw[isSubtype_type];kernel_rfl
 notDict:=by decide
 iter:=fun s hok=>⟨_,(fun i h=>h.IsListIter s.heap.objs.size x i∧h.IsList x items),(fun A E Q hq=>wpAny_pyIter_list hok hq),(fun A hh=>by
  have W:=Walks.list (prog:=prog) (w:=w) hh s.heap.objs.size x (Nat.ne_of_lt (let⟨_,e,_⟩:=hok;Heap.lt_size e)) items
  refine⟨W.sub,W.frame,fun i s Q E hi st hQ=>W.item i s Q E (by rw[hl];exact hi) st fun v h' tk hv a b=>hQ v h' tk (hk i v hv) a b,?_,W.self⟩
  rw[←hl]
  exact W.done),⟨⟨_,Heap.get?_push_size _ rfl,rfl,rfl⟩,hok.push _⟩⟩
theorem jp8 {x:Addr} {ks:List Str} {items:Array Value} (hk:∀i v,items[i]?=some v→SeqV ks i v) (hl:items.size=ks.length):TxSrc prog w "tuple" x ks (fun h=>h.IsTuple x items) where
 type:=fun s h=>h.typeIs
 there:=fun h hl=>let⟨_,e,_⟩:=hl;Heap.lt_size e
 keep:=fun h h' hl k=>let⟨o,e,r⟩:=hl;⟨o,k o e,r⟩
 notSet:=by rw[isSubtype_type];kernel_rfl
 notFrozen:=by rw[isSubtype_type];kernel_rfl
 notDict:=by decide
 iter:=fun s hok=>⟨_,(fun i h=>h.IsTupleIter s.heap.objs.size x i∧h.IsTuple x items),(fun A E Q hq=>wpAny_pyIter_tuple hok hq),(fun A hh=>by
  have W:=Walks.tuple (prog:=prog) (w:=w) hh s.heap.objs.size x (Nat.ne_of_lt (let⟨_,e,_⟩:=hok;Heap.lt_size e)) items
  refine⟨W.sub,W.frame,fun i s Q E hi st hQ=>W.item i s Q E (by rw[hl];exact hi) st fun v h' tk hv a b=>hQ v h' tk (hk i v hv) a b,?_,W.self⟩
  rw[←hl]
  exact W.done),⟨⟨_,Heap.get?_push_size _ rfl,rfl,rfl⟩,hok.push _⟩⟩
end
noncomputable def setO (w:World) (v:Addr) (ks:List Str):HO:=.ext fun h=>jh4 w h v ks
noncomputable def jqp (w:World):List V→Hp→VK→Prop:=fun xs H Q=>∃(a:Addr) (ks:List Str),xs=[.ref a]∧(H a=some (.lst (ks.map V.str))∨H a=some (.tup (ks.map V.str)))∧ks.length < 64∧∀v,H v=none→Q (.ref v) (upd H v (setO w v ks))
theorem jql {ks:List Str} {vs:List Value} (h:Vals (ks.map V.str) vs) (i:Nat) (v:Value) (e:vs.toArray[i]?=some v):SeqV ks i v:=by
 have e':vs[i]?=some v:=by simpa using e
 have hl:=h.length
 rw[List.length_map]at hl
 have hi:i < ks.length:=by rw[hl];exact(List.getElem?_eq_some_iff.mp e').1
 obtain⟨u,hu,ru⟩:=h.get (show(ks.map V.str)[i]?=some (V.str ks[i]) by rw[List.getElem?_map,List.getElem?_eq_getElem hi];rfl)
 rw[e']at hu
 cases hu
 obtain⟨t,ht⟩:=ru
 exact⟨ks[i],t,List.getElem?_eq_getElem hi,ht⟩
theorem jqj {ks:List Str} {vs:List Value} (h:Vals (ks.map V.str) vs):vs.toArray.size=ks.length:=by
 have hl:=h.length
 rw[List.length_map]at hl
 rw[List.size_toArray,←hl]
theorem jpf {X:Cx} (hh:X.A.handled=none):CallR X (.type "set") (jqp X.w):=by
 intro pins s σ H xs us Q I r h
 obtain⟨a,ks,rfl,ha,h64,q⟩:=h
 obtain⟨u,rfl,ru⟩:=jia r
 cases(show u=Value.ref a from ru)
 have fin:∀(h':Heap) (tk:Nat),jh4 X.w h' s.heap.objs.size ks→(∀b o,b < s.heap.objs.size→s.heap.get? b=some o→h'.get? b=some o)→EP X pins σ Q (.ref s.heap.objs.size) {s with heap:=h',toks:=tk}:=fun h' tk hS hk=>by
  have hob:∃o,h'.get? s.heap.objs.size=some o:=by
   obtain⟨es,ep,t,T,_⟩:=hS
   obtain⟨o,e,_⟩:=T.obj
   exact⟨o,e⟩
  refine⟨.ref s.heap.objs.size,_,I.laid (t':=tk) (o:=setO X.w s.heap.objs.size ks) (fun b o e=>hk b o (Heap.lt_size e) e) (Nat.le_refl _) ⟨hS,hob,fun h1 h2 q k=>?_⟩,rfl,q _ (I.hok.fresh (Nat.le_refl _))⟩
  obtain⟨es,ep,t,T,r⟩:=q
  exact⟨es,ep,t,T.move fun o e=>k _ e,r⟩
 rcases ha with ha | ha
 ·obtain⟨hl,vs,c,hv,hL⟩:=I.hok a _ ha
  exact jmi (js4 (jql hv) (jqj hv)) hh ⟨_,hL,rfl,_,rfl⟩ h64 fin
 ·obtain⟨hl,vs,hv,o,ho,hc,⟨n,hd⟩,_⟩:=I.hok a _ ha
  exact jmi (jp8 (jql hv) (jqj hv)) hh ⟨o,ho,hc,n,hd⟩ h64 fin
theorem Inv.drew {X:Cx} {pins:List (Addr×Obj)} {σ:St} {H:Hp} {s:Shared} (I:Inv X pins σ H s) (dr:Drawn):Inv X pins σ H {s with drawn:=dr}:=⟨I.ok,I.os,I.bare,I.base,I.loc,I.cell,I.free,I.freeC,I.pin,I.hok,I.len⟩
noncomputable def jj3 (w:World):List V→Hp→VK→Prop:=fun xs H Q=>∃(v:Addr) (ks:List Str),xs=[.ref v]∧H v=some (setO w v ks)∧ks.length < 64 ∧
 ∀(D:Addr) (ys:List Str),ys.Nodup→(∀k,k∈ys↔k∈ks)→ys.Pairwise (fun _ _=>True)→H D=none→Q (.ref D) (upd H D (.lst (ys.map V.str)))
theorem jwc {w:World} {es vs:List (Int×Value)} (h:∀e∈es,∃k t,e.2=.str k t∧e.1=hashStr w k) (p:vs.Perm es):TxOk (vs.map (·.2)) (vs.map fun e=>txOf e.2):=by
 refine⟨by rw[List.length_map,List.length_map],fun j v hj=>?_⟩
 rw[List.getElem?_map]at hj
 cases e:vs[j]? with
 |none=>rw[e]at hj;cases hj
 |some x =>
  rw[e]at hj
  obtain⟨k,t,e1,_⟩:=h x (p.mem_iff.mp (List.mem_of_getElem? e))
  have hv:x.2=v:=Option.some.inj hj
  refine⟨k,t,?_,hv▸e1⟩
  rw[List.getElem?_map,e]
  show some (txOf x.2)=some k
  rw[e1]
  rfl
theorem jmh {X:Cx} (hh:X.A.handled=none):CallR X (.builtin "sorted") (jj3 X.w):=by
 intro pins s σ H xs us Q I r h
 obtain⟨v,ks,rfl,hv,h64,q⟩:=h
 obtain⟨u,rfl,ru⟩:=jia r
 cases(show u=Value.ref v from ru)
 obtain⟨es,ep,t,T,hx,nd,hm,hl⟩:=(I.hok v _ hv).1
 have h64':es.size < 64:=Nat.lt_of_le_of_lt hl h64
 refine KS.sorted_of (R:=fun vs s1=>∃(h':Heap) (tk:Nat) (dr:Drawn) (ys:List Str),s1={ s with heap:=h',toks:=tk,drawn:=dr}∧(∀b o,s.heap.get? b=some o→h'.get? b=some o)∧TxOk vs ys∧ys.Nodup∧(∀k,k∈ys↔k∈ks)∧ys.length < 64)
  (jox hh T h64' fun h' tk dr vs hp hk=>?_) ?_
 ·have pk:(vs.map fun e=>txOf e.2).Perm (ksOf es):=List.Perm.map (fun e:Int×Value=>txOf e.2) hp
  exact⟨h',tk,dr,vs.map fun e=>txOf e.2,rfl,hk,jwc hx hp,pk.nodup_iff.mpr nd,fun k=>pk.mem_iff.trans (hm k),by rw[List.length_map,hp.length_eq,Array.length_toList];exact h64'⟩
 rintro vs s1 ⟨h',tk,dr,ys,rfl,hkp,hT,nd',hm',h64'⟩
 exact joy (s:={ s with drawn:=dr}) (I.drew dr) hkp hT h64' fun D zs hp hw hD=>q D zs (hp.nodup_iff.mpr nd') (fun k=>hp.mem_iff.trans (hm' k)) hw hD
end L2
namespace DL
open PySem L2 Nb
section
variable {X:Cx} {o:Expr} {td:TE} {wd':DT} {pos p p2 ip:Pos} {W:World}
noncomputable def upT (ys:List Str):Prop:=ys.Pairwise fun _ _=>True
noncomputable def jkm (w:DT):DTF:=fun δ n Q=>w δ n fun x n1=>∃ks:List Str,(x=.d (.list (ks.map .str))∨x=.d (.tuple (ks.map .str)))∧ks.length < 64∧(∀k∈ks,k.length≤1000) ∧
 ∀ys:List Str,ys.Nodup→(∀k,k∈ys↔k∈ks)→upT ys→Q (ys.map .str) n1
theorem jvn {α:Type}:∀{xs ys:List α},xs.Nodup→(∀x∈xs,x∈ys)→xs.length≤ys.length
 |[],_,_,_=>Nat.zero_le _
 |x::xs,ys,nd,h=>by
  obtain⟨h1,h2⟩:=List.nodup_cons.mp nd
  obtain⟨l,r,e⟩:=List.append_of_mem (h x List.mem_cons_self)
  have:=jvn (ys:=l++r) h2 fun z hz=>by
   have hm:=h z (List.mem_cons_of_mem _ hz)
   rw[e]at hm
   rcases List.mem_append.mp hm with q | q
   ·exact List.mem_append_left _ q
   ·rcases List.mem_cons.mp q with q | q
    ·exact absurd (q▸hz) h1
    ·exact List.mem_append_right _ q
  rw[e]
  simp only[List.length_cons,List.length_append]at this ⊢
  omega
theorem je6 {H:Hp} {B:Addr→Prop}:∀{xs:List V} {ks:List Str},RdXs H B xs (ks.map .str)→xs=ks.map V.str
 |[],[],_=>rfl
 |_::_,[],h=>nomatch h
 |[],_::_,h=>nomatch h
 |x::xs,k::ks,.cons h t=>by
  cases h
  rw[je6 t]
  rfl
theorem jry (hh:X.A.handled=none) (hg:Gl X "sorted") (hm:X.mg "sorted"=none) (hg2:Gl X "set") (hm2:X.mg "set"=none) (ho:DE X o td wd') (hW:X.w=W:=by rfl) (hv:bootBuiltins "sorted"=some (.builtin "sorted"):=by decide +kernel) (hv2:bootBuiltins "set"=some (.type "set"):=by decide +kernel)
  (he2:starEach [o] X.env=(false,eval o X.env)::starEach [] X.env:=by rfl) (hpl2:(backTo ip (starEach [] X.env)).any (·.1)=false:=by rfl)
  (he':starEach [Expr.Call (.Name "set" p2) [o] [] ip] X.env=(false,eval (Expr.Call (.Name "set" p2) [o] [] ip) X.env)::starEach [] X.env:=by rfl) (hpl:(backTo pos (starEach [] X.env)).any (·.1)=false:=by rfl) :
  DF X (.Call (.Name "sorted" p) [.Call (.Name "set" p2) [o] [] ip] [] pos) (tCB (jj3 W) (jcw (tCB (jqp W) (jcw td tNil)) tNil)) (jkm wd'):=by
 subst hW
 refine⟨jc2 (jmh hh) hg hm hv (jav (jfq (jpf hh) hg2 hm2 hv2 (jav ho.pe jb2 he2) (by decide) (by decide) he2 hpl2) jb2 he') (by decide) (by decide) he' hpl,fun C H B σ δ n Q Q' R q k =>
  ho.sd C H B σ δ n _ _ R q fun v x H1 n1 R1 k1 r1 q1=>?_⟩
 obtain⟨ks,hx,h64,hk,kq⟩:=q1
 have key:∀a:Addr,v=.ref a→(H1 a=some (.lst (ks.map V.str))∨H1 a=some (.tup (ks.map V.str)))→tCB (jj3 X.w) (jcw (fun σ H Q=>jqp X.w [v] H Q) tNil) σ H1 Q':=fun a ea ha=>by
  subst ea
  refine⟨a,ks,rfl,ha,h64,fun u hu=>⟨u,ks,rfl,jan,h64,fun D ys nd hm hw hD=>?_⟩⟩
  have R2:=R1.new (o:=setO X.w u ks) hu
  have hD1:H1 D=none:=by
   cases e:H1 D with
   |none=>rfl
   |some ob =>
    have:upd H1 u (setO X.w u ks) D=some ob:=by rw[jal (jai e hu)];exact e
    rw[hD]at this
    cases this
  have hy:∀y∈ys,y.length≤1000:=fun y hy=>hk y ((hm y).mp hy)
  refine k D _ _ _ n1 (R2.new hD) ((k1.trans (Kp.new hu)).trans (Kp.new hD)) (R1.was k1 hD1) jan ?_ (jm2 hy) (kq ys nd hm hw)
  rw[List.length_map]
  have:ys.length≤ks.length:=jvn nd fun y hy=>(hm y).mp hy
  exact jbc (by omega)
 rcases hx with rfl | rfl
 ·cases(show RdX H1 B v (.list (ks.map .str))from r1)with
  |@lst a xs _ e1 e2 e3 e4=>exact key a rfl (.inl (by rw[e1,je6 e4]))
 ·cases(show RdX H1 B v (.tuple (ks.map .str))from r1)with
  |@tup a xs _ e1 e2 e3 e4=>exact key a rfl (.inr (by rw[e1,je6 e4]))
variable {a:Expr} {ta:TE} {wa:DT} {K:PySem.W.Frag}
end
section
variable {X:Cx} {a b c e o i f:Expr} {ta tb te td ty tx:TE} {wa wb we wd' wy wx:DT} {pos p:Pos} {K:PySem.W.Frag}
noncomputable def je5 (i:Nat):DT:=fun δ n Q=>match δ[i]? with
 |some (some (.own ds))=>Q (.ln ds) n
 |some (some (.w x))=>Q x n
 |_=>False
theorem jhu (i:Nat) {x:Str} {p:Pos} (hN:X.N[i]?=some x:=by rfl) (hv:Vis X.env.scope x:=by first | exact Or.inl rfl | exact Or.inr (Or.inl rfl) | exact Or.inr (Or.inr rfl)) (hd:(x==("__debug__":Str))=false:=by decide)
  (hcd:(x==("__classdict__":Str))=false:=by decide):DE X (.Name x p) (tVar i) (je5 i):=⟨jdf hN hv hd hcd,fun C H B σ δ n Q Q' R h k=>by
 unfold je5 at h
 split at h
 ·rename_i ds e
  obtain⟨v,h1,a,xs,rfl,g2,g3,g4,g5,g6⟩:=R.sl i _ e
  exact⟨_,h1,k _ (.ln ds) H n R (Kp.refl _ _) ⟨a,xs,rfl,g2,fun z=>R.t0 (z▸g4),g5,g6⟩ h⟩
 ·rename_i x e
  obtain⟨v,h1,h2⟩:=R.sl i _ e
  exact⟨v,h1,k v x H n R (Kp.refl _ _) h2.1 h⟩
 ·exact h.elim⟩
noncomputable def gIxL:Wv→Wv→Int→DQ→Prop:=fun x y n Q=>match x with
 |.ln ds=>match y with
  |.d (.int i)=>match atI ds i with
   |some d=>Q (.d d) n
   |none=>False
  |_=>False
 |x=>gIx x y n Q
theorem jwo:SndO (rIx K) gIxL:=fun C H B σ δ n x y p q Q Q' R rx ry h1 k=>by
 cases p with
 |ln ds =>
  unfold gIxL at h1
  dsimp only at h1
  split at h1
  ·rename_i i
   split at h1
   ·rename_i d e
    cases(show RdX H B y (.int i)from ry)
    obtain⟨ay,ys,rfl,e1,e2,e3,e4⟩:=rx
    obtain⟨v,f1,f2⟩:=jsq e4 e
    exact .inl ⟨ay,ys,i,v,rfl,rfl,SqL.of e1,f1,k _ _ H n R (Kp.refl _ _) (wd f2) h1⟩
   ·exact h1.elim
  ·exact h1.elim
 |d _=>exact ji5 C H B σ δ n x y _ q Q Q' R rx ry h1 k
 |tp=>exact ji5 C H B σ δ n x y _ q Q Q' R rx ry h1 k
 |dk _=>exact ji5 C H B σ δ n x y _ q Q Q' R rx ry h1 k
 |ob _=>exact ji5 C H B σ δ n x y _ q Q Q' R rx ry h1 k
theorem jel (ha:DE X a ta wa) (hb:DE X b tb wb) (hK:X.K=K:=by rfl) (hs:jh9 b:=by exact fun _ _=>rfl):DE X (.Subscript a b pos) (tOp (rIx K) ta tb) (w2 wa wb gIxL):=by
 subst hK
 exact⟨jf4 joc ha.pe hb.pe hs,ji4 jwo ha.sd hb.sd⟩
noncomputable def gInL (neg:Bool):Wv→Wv→Int→DQ→Prop:=fun x y n Q=>match y with
 |.ln ds=>match x with
  |.d a=>jd5 a=true∧ds.all jd5=true∧Q (.d (.bool (if neg then !inD a ds else inD a ds))) n
  |_=>False
 |y=>gIn neg x y n Q
theorem jqe {neg:Bool}:SndO (rIn K neg) (gInL neg):=fun C H B σ δ n x y p q Q Q' R rx ry h1 k=>by
 cases q with
 |ln ds =>
  unfold gInL at h1
  dsimp only at h1
  split at h1
  ·rename_i da
   obtain⟨f1,f2,q⟩:=h1
   have rx:RdX H B x da:=rx
   obtain⟨ay,ys,rfl,e1,e2,e3,e4⟩:=ry
   refine⟨ay,ys,rfl,.inl (SqL.of e1),jgd rx f1,jd4 e4 f2,?_⟩
   rw[jjj rx e4]
   exact k _ _ H n R (Kp.refl _ _) (wd (.bl _)) q
  ·exact h1.elim
 |d _=>exact jd7 C H B σ δ n x y p _ Q Q' R rx ry h1 k
 |tp=>exact jd7 C H B σ δ n x y p _ Q Q' R rx ry h1 k
 |dk _=>exact jd7 C H B σ δ n x y p _ Q Q' R rx ry h1 k
 |ob _=>exact jd7 C H B σ δ n x y p _ Q Q' R rx ry h1 k
noncomputable def jff:List Wv→Int→DQ→Prop:=fun xs n Q=>match xs with
 |[.ln ds]=>Q (.d (.int ds.length)) n
 |xs=>gLen xs n Q
theorem jdo:SndB (jti K) jff:=fun C H B σ δ n vs xs Q Q' R r h k=>by
 unfold jff at h
 split at h
 ·rename_i ds
  cases r with
  |cons r1 r2 =>
   cases r2
   obtain⟨ay,ys,rfl,e1,e2,e3,e4⟩:=r1
   refine .inr ⟨ay,ys,rfl,.inl (SqL.of e1),?_⟩
   rw[e4.len]
   exact k _ _ H n R (Kp.refl _ _) (wd (.int _)) h
 ·exact jb0 C H B σ δ n vs xs Q Q' R r h k
noncomputable def gEqL:Wv→Wv→Int→DQ→Prop:=fun x y n Q=>match x,y with
 |.ln ds,.d (.list [])=>Q (.d (.bool ds.isEmpty)) n
 |x,y=>gEq x y n Q
theorem jdt:SndO (rEqK K) gEqL:=fun C H B σ δ n x y p q Q Q' R rx ry h1 k=>by
 unfold gEqL at h1
 split at h1
 ·rename_i ds
  obtain⟨ax,xs,rfl,e1,e2,e3,e4⟩:=rx
  cases(show RdX H B y (.list [])from ry)with
  |@lst ay ys _ f1 f2 f3 f4 =>
   cases f4
   refine .inr (.inr ⟨ax,ay,xs,rfl,rfl,SqL.of e1,SqL.of f1,?_⟩)
   have:xs.isEmpty=ds.isEmpty:=by cases e4<;>rfl
   rw[this]
   exact k _ _ H n R (Kp.refl _ _) (wd (.bl _)) h1
 ·exact jbn C H B σ δ n x y p q Q Q' R rx ry h1 k
noncomputable def lsOf:Wv→Option (List PyData)
 |.ln ds=>some ds
 |.d (.list ds)=>some ds
 |_=>none
noncomputable def gCat:Wv→Wv→Int→DQ→Prop:=fun x y n Q=>match lsOf x,lsOf y with
 |some i,some j=>i.length+j.length≤sizeLine∧Q (.d (.list (i++j))) n
 |_,_=>False
theorem jvp {H:Hp} {B:Addr→Prop} {t:Addr} {v:V} {x:Wv} {ds:List PyData} (h:WRel H B t v x) (e:lsOf x=some ds):∃a xs,v=.ref a∧H a=some (.lst xs)∧xs.length≤sizeLine∧RdXs H B xs ds:=by
 cases x with
 |ln es =>
  cases e
  obtain⟨a,xs,h1,h2,h3,h4,h5⟩:=h
  exact⟨a,xs,h1,h2,h4,h5⟩
 |d y =>
  cases y with
  |list es =>
   cases e
   cases(show RdX H B v (.list ds)from h)with
   |@lst a xs _ e1 e2 e3 e4=>exact⟨a,xs,rfl,e1,e3,e4⟩
  |_=>cases e
 |tp=>cases e
 |dk _=>cases e
 |ob _=>cases e
theorem jwq:SndO rCat gCat:=fun C H B σ δ n x y p q Q Q' R rx ry h1 k=>by
 unfold gCat at h1
 split at h1
 ·rename_i i j ei ej
  obtain⟨ax,xs,rfl,e1,e3,e4⟩:=jvp rx ei
  obtain⟨ay,ys,rfl,f1,f3,f4⟩:=jvp ry ej
  obtain⟨hl,q⟩:=h1
  have hl':xs.length+ys.length≤sizeLine:=by rw[e4.len,f4.len];exact hl
  refine⟨ax,ay,xs,ys,rfl,rfl,e1,f1,hl',fun pn hp=>?_⟩
  refine k _ _ _ n (R.new hp) (Kp.new hp) (wd (show RdX _ B _ (.list (i++j))from .lst jan (R.nb hp) (by rw[List.length_append];exact hl') ?_)) q
  exact((e4.append f4).fresh hp).less fun b z=>.inl z
 ·exact h1.elim
theorem j1s (ha:DE X a ta wa) (hb:DE X b tb wb):DE X (.BinOp a .Add b pos) (tOp rCat ta tb) (w2 wa wb gCat):=d_op jzl jwq ha hb
end
section
variable {X:Cx} {a b c e o i f:Expr} {ta tb te td ty tx:TE} {wa wb we wd' wy wx:DT} {pos p:Pos} {K:PySem.W.Frag}
noncomputable def sUnp (w:DT) (g:DTG):DST:=fun δ n K=>w δ n fun x n1=>match x with
 |.d d=>g d δ fun δ'=>K.nx δ' n1
 |_=>False
theorem jwt {tg:Expr} {g:TG} {gd:DTG} (he:DE X e te we) (hg:DG X tg g gd) (hs:swapsWithSole [tg] e pos.line X.env=pure false:=by rfl) (hw:swappedStores [tg] e X.env=pure none:=by rfl)
  (h1:(assignEach [tg] X.env).map (·.2)=[assign tg X.env]:=by rfl):DS X (.Assign [tg] e pos) (tAsg te g) (sUnp we gd):=⟨jlm he.pe hg.pg hs hw h1,fun C H B σ δ n K D R q E =>
 he.sd C H B σ δ n _ _ R q fun v x H1 n1 R1 k1 r1 q1=>by
  cases x with
  |d d=>exact hg.sd C H1 B σ δ n1 v d _ _ R1 r1 q1 fun σ' δ' R' q'=>E.nx _ _ _ _ _ R' q'
  |tp=>exact q1.elim
  |dk _=>exact q1.elim
  |ln _=>exact q1.elim
  |ob _=>exact q1.elim⟩
noncomputable def sqOf:Wv→Option (List PyData)
 |.ln ds=>some ds
 |.d (.list ds)=>some ds
 |.d (.tuple ds)=>some ds
 |_=>none
theorem jyj {H:Hp} {B:Addr→Prop} {t:Addr} {v:V} {x:Wv} {ds:List PyData} (h:WRel H B t v x) (e:sqOf x=some ds):∃a xs,v=.ref a∧(SqL K H a xs∨SqT K H a xs)∧xs.length≤sizeLine∧RdXs H B xs ds:=by
 cases x with
 |ln es =>
  cases e
  obtain⟨a,xs,h1,h2,h3,h4,h5⟩:=h
  exact⟨a,xs,h1,.inl (SqL.of h2),h4,h5⟩
 |d y =>
  cases y with
  |list es =>
   cases e
   cases(show RdX H B v (.list ds)from h)with
   |@lst a xs _ e1 e2 e3 e4=>exact⟨a,xs,rfl,.inl (SqL.of e1),e3,e4⟩
  |tuple es =>
   cases e
   cases(show RdX H B v (.tuple ds)from h)with
   |@tup a xs _ e1 e2 e3 e4=>exact⟨a,xs,rfl,.inr (SqT.of e1),e3,e4⟩
  |_=>cases e
 |tp=>cases e
 |dk _=>cases e
 |ob _=>cases e
noncomputable def jd6 (w:DT):DTF:=fun δ n Q=>w δ n fun x n1=>match sqOf x with
 |some ds=>Q ds n1
 |none=>False
theorem jkl (hg:Gl X "list") (hm:X.mg "list"=none) (ho:DE X o td wd') (hK:X.K=K:=by rfl) (he:starEach [o] X.env=(false,eval o X.env)::starEach [] X.env:=by rfl) (hpl:(backTo pos (starEach [] X.env)).any (·.1)=false:=by rfl) :
  DF X (.Call (.Name "list" p) [o] [] pos) (tCB (jvd K) (jcw td tNil)) (jd6 wd') :=
 ⟨jfq (jpg hK) hg hm jsn (jav ho.pe jb2 he) (by decide) (by decide) he hpl,fun C H B σ δ n Q Q' R q k=>ho.sd C H B σ δ n _ _ R q fun v x H1 n1 R1 k1 r1 q1=>by
  split at q1
  ·rename_i ds ex
   obtain⟨a,xs,rfl,h1,h2,h3⟩:=jyj (K:=K) r1 ex
   refine⟨a,xs,rfl,h1,fun l hl=>?_⟩
   exact k l xs ds _ n1 (R1.new hl) (k1.trans (Kp.new hl)) (R1.was k1 hl) jan h2 (h3.fresh hl) q1
  ·exact q1.elim⟩
noncomputable def jc1:List Wv→Int→DQ→Prop:=fun xs n Q=>match xs with
 |[.ln ds]=>Q (.d (.tuple ds)) n
 |xs=>je0 xs n Q
theorem jcl:SndB (jm3 K) jc1:=fun C H B σ δ n vs xs Q Q' R r h k=>by
 unfold jc1 at h
 split at h
 ·rename_i ds
  cases r with
  |cons r1 r2 =>
   cases r2
   obtain⟨ay,ys,rfl,e1,e2,e3,e4⟩:=r1
   refine⟨ay,ys,rfl,.inl ⟨SqL.of e1,fun l hl=>?_⟩⟩
   refine k _ _ _ n (R.new hl) (Kp.new hl) (wd (show RdX _ B _ (.tuple ds)from .tup jan (R.nb hl) e3 ?_)) h
   exact(e4.fresh hl).less fun b z=>.inl z
 ·exact jc3 C H B σ δ n vs xs Q Q' R r h k
noncomputable def sExt (i:Nat) (w:DT):DST:=fun δ n K=>match δ[i]? with
 |some (some (.own ds))=>w δ n fun x n1=>match x with
  |.d (.list es)=>(ds.length < 1000000∧es.length < 1000000)∧K.nx (δ.set i (some (.own (ds++es)))) n1
  |_=>False
 |_=>False
theorem joi {n m:Nat} (h:n < 1000000) (h':m < 1000000):n+m≤sizeLine:=by
 have:2000000≤sizeLine:=by decide
 omega
theorem j08 {i:Nat} {x:Str} {xp ap cp:Pos} (hN:X.N[i]?=some x) (he:DE X e te we) (hv:Vis X.env.scope x:=by first | exact Or.inl rfl | exact Or.inr (Or.inl rfl) | exact Or.inr (Or.inr rfl)) (hd:(x==("__debug__":Str))=false:=by decide)
  (hcd:(x==("__classdict__":Str))=false:=by decide)
  (hbase:attributeBase (.Name x xp) "extend" X.env (eval (.Name x xp) X.env)=eval (.Name x xp) X.env:=by rfl)
  (hfew:((backTo cp (starEach [e] X.env)).all (fun x=>!x.1)&&(backToKw cp (keywordEach [] X.env)).all (fun x=>x.1.isSome)
   && decide ([e].length+([]:List Keyword).length+(if ([]:List Keyword).isEmpty then 0 else 1) < 30))=true:=by rfl)
  (hline:(ap.endLine==cp.line)=true:=by rfl) (hs:starEach [e] X.env=[(false,eval e X.env)]:=by rfl) (hplain:(backTo cp (starEach [] X.env)).any (·.1)=false:=by rfl)
  (hsw:swapsWith (.Call (.Attribute (.Name x xp) "extend" ap) [e] [] cp) none pos.line X.env=pure false:=by rfl) :
  DS X (.Expr (.Call (.Attribute (.Name x xp) "extend" ap) [e] [] cp) pos) (js2 (tBM X.K "list" jqs (tVar i) (jcw te tNil))) (sExt i we) :=
 ⟨jm5 (jw9 PySem.F.plainAttrs_list PySem.F.slot_list_extend PySem.F.type_list_extend jrc (jdf hN hv hd hcd) (jav he.pe jb2 hs) hbase hfew hline hs hplain) hsw,fun C H B σ δ n K D R q E=>by
  unfold sExt at q
  split at q
  ·rename_i ds ei
   obtain⟨v,hv,a,xs,rfl,e2,e3,e4,e5,e6⟩:=R.sl i _ ei
   refine⟨_,hv,.inl ⟨rfl,_,SqL.of e2⟩,he.sd C H B σ δ n _ _ R q fun u y H1 n1 R1 k1 r1 q1=>?_⟩
   split at q1
   ·rename_i es
    have hat:a≠C.t:=fun z=>R.t0 (z▸e4)
    have e2':=k1 _ _ e2 hat
    cases(show RdX H1 B u (.list es)from r1)with
    |@lst b zs _ f1 f2 f3 f4 =>
     have hl:xs.length+zs.length≤sizeLine:=by rw[e6.len,f4.len];exact joi q1.1.1 q1.1.2
     refine⟨a,b,xs,zs,rfl,rfl,e2',f1,hl,?_⟩
     refine E.nx _ _ _ _ _ (R1.mutOwn ei rfl hv e3 e4 ?_ rfl) q1.2
     refine⟨a,xs++zs,rfl,jan,e3,e4,by rw[List.length_append];exact hl,?_⟩
     refine RdXs.keep (fun b o e n=>?_) ((e6.kp k1 R.bt).append f4)
     rw[jal fun(z:b=a)=>n (z▸e3)]
     exact e
   ·exact q1.elim
  ·exact q.elim⟩
theorem jx7 (H:Hp) (B:Addr→Prop):RdXs H B jux jnk:=.cons .non (.cons .non (.cons .non (.cons (.int _) (.cons (.int _) (.cons (.int _) (.cons (.int _) .nil))))))
noncomputable def wTp3 (i:Nat):DT:=fun δ n Q=>match δ[i]? with
 |some (some (.w .tp))=>Q (.ln jnk) n
 |_=>False
theorem j0l (i:Nat) {x:Str} {ix:Int} {p p2:Pos} {jj} (hK:X.K=K:=by rfl) (hN:X.N[i]?=some x:=by rfl) (hv:Vis X.env.scope x:=by first | exact Or.inl rfl | exact Or.inr (Or.inl rfl) | exact Or.inr (Or.inr rfl)) (hd:(x==("__debug__":Str))=false:=by decide)
  (hcd:(x==("__classdict__":Str))=false:=by decide):DE X (.Subscript (.Name x p) (.Constant (.int 3) jj p2) pos) (tOp (rIx K) (tVar i) (tC (.int 3))) (wTp3 i):=by
 subst hK
 refine⟨jf4 joc (jdf hN hv hd hcd) ja4 (fun _ _=>rfl),fun C H B σ δ n Q Q' R h k=>?_⟩
 unfold wTp3 at h
 split at h
 ·rename_i e
  obtain⟨v,h1,h2⟩:=R.sl i _ e
  cases(show v=.ref C.t from h2.1)
  obtain⟨a,b,ho,_⟩:=R.tp.ob
  refine⟨_,h1,.inl ⟨C.t,_,3,.ref C.l.g,rfl,rfl,SqL.of ho,jby (j:=3) rfl,k _ (.ln jnk) H n R (Kp.refl _ _) ⟨C.l.g,jux,rfl,R.tp.ag rfl,R.tp.gne,by decide,jx7 _ _⟩ h⟩⟩
 ·exact h.elim
end
section
variable {X:Cx} {e:Expr} {st:Stmt} {sts:List Stmt}
end
end DL
namespace L2
open PySem PySem.Spec PyProof.Rows
section
variable {prog:Program} {w:World} {A:Around} {E:Value→Shared→Prop} {s:Shared}
end
end L2
namespace DL
open PySem L2 Nb
section
variable {X:Cx} {a b:Expr} {ta tb:TE} {wa wb:DT} {pos p:Pos} {K:PySem.W.Frag}
end
end DL
namespace HT
open PySem PyProof.Rows
open PySem.SeqAt
open PySem.AutoSeq1 (wpAny_loadPart')
open PySem.MeetsSeq PySem.MeetsSeq2 PySem.MeetsSeq3
section
variable {prog:Program} {w:World} {A:Around} {E:Value→Shared→Prop} {s:Shared}
theorem getItem_tuple_whole {t sl:Addr} {items:Array Value} {vl vu:Value} {lo hi:Option Int} {Q:Value→Shared→Prop} (ht:IsTup s.heap t items) (hs:s.heap.IsSliceOf sl vl vu .none) (pl:IsPart vl lo) (pu:IsPart vu hi)
  (h0:sIx items.size 0 lo=0) (h1:sIx items.size items.size hi=items.size) (h:Q (.ref t) s):wpAny (model prog w) A (getItem (.ref t) (.ref sl)) Q E s:=by
 obtain⟨os,hos,hcs,hds⟩:=id hs
 have hTs:s.TypeIs (.ref sl) "slice":=⟨os,hos,hcs⟩
 unfold getItem
 try with_reducible refine wpAny_holding ?_
 first | refine wpAny_bind (wpAny_pure ?_) | skip
 refine wpAny_bind (wpAny_sequenceKey ht.typeIs (by decide) ?_)
 refine wpAny_bind (wpAny_callSpecial?_slot (name:=Str.ofString "__getitem__") ht.typeIs PyProof.Rows.slot_tuple_getitem
  (wpAny_call_entry PyProof.Rows.slot_tuple_getitem ht.typeIs entry_tuple_getitem ?_ (args_tuple_getitem _ _)))
 show wpAny _ _ (Builtin.Tuple.tupleItemsOf (.ref t)>>=_) _ _ s
 refine wpAny_bind (tupleItemsOf_ ht ?_)
 refine wpAny_bind (wpAny_typeOf hTs ?_)
 rw[if_pos (by decide)]
 refine wpAny_bind (jd8 hs pl pu ?_)
 have hyes:(((sIx items.size 0 lo:Nat):Int)==0&&(1:Int)==1&&(sIx items.size items.size hi - sIx items.size 0 lo)==items.size)=true:=by
  rw[h0,h1];simp
 show wpAny _ _ (if (((sIx items.size 0 lo:Nat):Int)==0&&(1:Int)==1&&(sIx items.size items.size hi - sIx items.size 0 lo)==items.size)=true then _ else _) _ _ s
 rw[if_pos hyes]
 unfold Builtin.Tuple.tupleIsExact
 refine wpAny_bind (wpAny_bind (wpAny_typeOf ht.typeIs (wpAny_pure ?_)))
 rw[if_pos (by decide)]
 exact wpAny_bind (wpAny_rule (wpAny_pure ⟨_,rfl,wpAny_pure h⟩))
end
end HT
namespace L2
open PySem PySem.Spec PyProof.Rows
noncomputable def rSlW (K:PySem.W.Frag):V→Option Int→Option Int→Hp→VK→Prop:=fun x lo hi H Q=>∃a xs,x=.ref a∧SqT K H a xs∧HT.sIx xs.length 0 lo=0∧HT.sIx xs.length xs.length hi=xs.length∧Q (.ref a) H
theorem jtb {X:Cx}:SlR X (rSlW X.K):=by
 intro pins s σ H x v vl vu lo hi sl Q I rx hs pl pu h
 obtain⟨a,xs,rfl,hx,h0,h1,q⟩:=h
 cases rx
 obtain⟨its,r,ht,hz⟩:=I.tuple hx
 have hlen:its.toArray.size=xs.length:=by rw[List.size_toArray];exact r.length.symm
 refine⟨"tuple",_,PyProof.Rows.slot_tuple_getitem.lookup,ht.typeIs,?_⟩
 exact HT.getItem_tuple_whole ht hs pl pu (by rw[hlen];exact h0) (by rw[hlen];exact h1) ⟨.ref a,H,I,rfl,q⟩
end L2
namespace DL
open PySem L2 Nb
section
variable {X:Cx} {e:Expr} {te:TE} {we:DT} {pos p2:Pos} {K:PySem.W.Frag} {lo hi:Option Expr}
noncomputable abbrev DTO:=Sl→Int→(Option Int→Int→Prop)→Prop
noncomputable def jxi:DTO:=fun _ n Q=>Q none n
noncomputable def jxh (w:DT):DTO:=fun δ n Q=>w δ n fun x n1=>match x with
 |.d (.int i)=>Q (some i) n1
 |_=>False
noncomputable def j1y (t:TO) (w:DTO):Prop:=∀(C:Ctx) (H:Hp) (B:Addr→Prop) (σ:St) (δ:Sl) (n:Int) (Q:Option Int→Int→Prop) (Q':Option Int→Hp→Prop),Rel C H B σ δ n→w δ n Q →
 (∀o H' n',Rel C H' B σ δ n'→Kp C.t H H'→Q o n'→Q' o H')→t σ H Q'
structure DOp (X:Cx) (o:Option Expr) (t:TO) (w:DTO):Prop where
 po:PO X o t
 sd:j1y t w
theorem jzo:DOp X none jpv jxi:=⟨jqy,fun C H B σ δ n Q Q' R q k=>k none H n R (Kp.refl _ _) q⟩
theorem jzn (h:DE X e te we):DOp X (some e) (jyb te) (jxh we):=⟨jqx h.pe,fun C H B σ δ n Q Q' R q k=>h.sd C H B σ δ n _ _ R q fun v x H1 n1 R1 k1 r1 q1=>by
 split at q1
 ·rename_i i
  cases(show RdX H1 B v (.int i)from r1)
  exact⟨i,rfl,k (some i) H1 n1 R1 k1 q1⟩
 ·exact q1.elim⟩
noncomputable def cutD (xs:List PyData) (lo hi:Option Int):List PyData:=(xs.drop (HT.sIx xs.length 0 lo)).take (HT.sIx xs.length xs.length hi - HT.sIx xs.length 0 lo)
noncomputable def jpo (w:DT) (l u:DTO):DT:=fun δ n Q=>w δ n fun x n1=>l δ n1 fun a n2=>u δ n2 fun b n3=>match x with
 |.d (.tuple ds)=>Q (.d (.tuple (cutD ds a b))) n3
 |_=>False
noncomputable def rSlA (K:PySem.W.Frag):V→Option Int→Option Int→Hp→VK→Prop:=fun x lo hi H Q=>rSlT K x lo hi H Q∨rSlW K x lo hi H Q
theorem jxw {tl th:TO} {wl wh:DTO} (he:DE X e te we) (hl:DOp X lo tl wl) (hh:DOp X hi th wh) (hK:X.K=K:=by rfl):DE X (.Subscript e (.Slice lo hi none p2) pos) (tSl (rSlA K) te tl th) (jpo we wl wh):=by
 subst hK
 refine⟨jn2 (sl_tup.or jtb) he.pe hl.po hh.po,fun C H B σ δ n Q Q' R q k=>he.sd C H B σ δ n _ _ R q fun v x H1 n1 R1 k1 r1 q1 =>
  hl.sd C H1 B σ δ n1 _ _ R1 q1 fun a H2 n2 R2 k2 q2=>hh.sd C H2 B σ δ n2 _ _ R2 q2 fun b H3 n3 R3 k3 q3=>?_⟩
 split at q3
 ·rename_i ds
  have r3:RdX H3 B v (.tuple ds):=(r1.kp k2 R1.bt).kp k3 R2.bt
  cases r3 with
  |@tup aa xs _ e1 e2 e3 e4 =>
   have kk:=(k1.trans k2).trans k3
   by_cases hw:HT.sIx xs.length 0 a=0∧HT.sIx xs.length xs.length b=xs.length
   ·refine .inr ⟨aa,xs,rfl,SqT.of e1,hw.1,hw.2,k _ _ H3 n3 R3 kk (wd (show RdX H3 B _ (.tuple ds)from .tup e1 e2 e3 e4)) ?_⟩
    have:cutD ds a b=ds:=by
     unfold cutD
     rw[←e4.len,hw.1,hw.2,List.drop_zero,Nat.sub_zero,e4.len,List.take_length]
    rw[this]at q3
    exact q3
   ·refine .inl ⟨aa,xs,rfl,SqT.of e1,hw,fun p hp=>?_⟩
    refine k _ _ _ n3 (R3.new hp) (kk.trans (Kp.new hp)) (wd (show RdX _ B _ (.tuple (cutD ds a b))from .tup jan (R3.nb hp) (Nat.le_trans (jfg xs a b) e3) ?_)) q3
    unfold cutD cutV
    rw[←e4.len]
    exact(((e4.drop _).take _).fresh hp).less fun b z=>.inl z
 ·exact q3.elim
end
end DL
namespace Nb
open PySem L2
section
variable {X:Cx}
end
end Nb
namespace DL
open PySem L2 Nb
section
variable {X:Cx} {tg a b c e o i f:Expr} {ta tb te td ty tx:TE} {wa wb we wd' wy wx:DT} {pos p:Pos} {K:PySem.W.Frag}
end
noncomputable abbrev DSpN:=List Wv→Int→(List PyData→Int→Prop)→Prop
noncomputable def jp9 (S:DSpN):Sp:=fun vs H Q _=>∃(t:Addr) (l:TL) (ns:List Int) (B:Addr→Prop) (ws:List Wv) (n:Int) (Q0:List PyData→Int→Prop),Tp H t l ns n∧B t∧(∀b,B b→H b≠none)∧ARel H B t vs ws∧S ws n Q0 ∧
 ∀ds n',Q0 ds n'→∀a xs H',Tp H' t l ns n'→Kp t H H'→H a=none→H' a=some (.lst xs)→xs.length≤sizeLine→RdXs H' (fun b=>B b∨b=a) xs ds→Q (.ref a) H'
section
variable {X:Cx} {e:Expr} {es:List Expr} {pos p:Pos} {tR:TA} {wR:DTA} {te:TE} {we:DT}
noncomputable def jjp (S:DSpN) (w:DTA):DTF:=fun δ n Q=>w δ n fun xs n1=>S xs n1 Q
theorem jqg {S:DSpN} {t:TA} {w:DTA} (h:SndA t w):SndF (jmy (jp9 S) [] E0 t) (jjp S w):=fun C H B σ δ n Q Q' R q k =>
 h C H B σ δ n _ _ R q fun vs xs H1 n1 R1 k1 r1 q1=>by
  refine⟨C.t,C.l,C.ns,B,xs,n1,Q,R1.tp,R1.bt,R1.ba,by rw[List.append_nil];exact r1,q1,fun ds n' q2 a ys H' T' k' h0 h1 h2 h3=>?_⟩
  exact k a ys ds H' n' (R1.step T' k') (k1.trans k') (R1.was k1 h0) h1 h2 h3 q2
structure HasN (P:Program) (w:World) (K:PySem.W.Frag) (mg:Str→Option Value) (base:Heap) (k:Nat) (x:Str) (ps:List Str) (S:DSpN):Prop where
 ex:∃(f:Addr) (fd:FuncData),FnOk P w K mg base CX0 k f fd ps (jp9 S)∧Binds K fd ps []∧mg x=some (.ref f)∧PySem.W.keepIn K (.ref f)=true
theorem HasN.mk' {P:Program} {w:World} {K:PySem.W.Frag} {mg:Str→Option Value} {base:Heap} {k:Nat} {x qual:Str} {st:Stmt} {ps:List Str} {S:DSpN} {f:Addr} {fd:FuncData} (F:Fun K x qual st f fd) (m:mg x=some (.ref f)) (b:Binds K fd ps []) (h:FnOk P w K mg base CX0 k f fd ps (jp9 S)):HasN P w K mg base k x ps S:=⟨f,fd,h,b,m,F.kp⟩
theorem jrz {k:Nat} {ps:List Str} {S:DSpN} {x:Str} (h:HasN X.prog X.w X.K X.mg X.base k x ps S) (hr:Room k X.A) (hg:Gl X x)
  (ha:DA X (e::es) tR wR) (hdb:(x==("__debug__":Str))=false:=by decide) (he:starEach (e::es) X.env=(false,eval e X.env)::starEach es X.env:=by rfl) (hpl:(backTo pos (starEach es X.env)).any (·.1)=false:=by rfl) :
  DF X (.Call (.Name x p) (e::es) [] pos) (jmy (jp9 S) [] E0 tR) (jjp S wR):=by
 obtain⟨f,fd,h1,h2,h3,h4⟩:=h.ex
 exact⟨jm6 h1 hr hg h3 h4 h2 .nil jxa ha.pa hdb he hpl,jqg ha.sd⟩
noncomputable def jtd (w:DTF):DST:=fun δ n K=>w δ n K.rn
theorem jyo {w:DTF} (h:DF X e te w):DS X (.Return (some e) pos) (tRet te) (jtd w):=⟨jjb h.pe,fun C H B σ δ n K D R q E =>
 h.sd C H B σ δ n _ _ R q fun a xs ds H' n' R' k' h0 h1 h2 h3 q'=>E.rn H' B σ δ n' a xs ds R' (R.h0 h0) h1 h2 h3 q'⟩
end
section
variable {P:Program} {w:World} {K:PySem.W.Frag} {mg:Str→Option Value} {base:Heap}
theorem Fun.okN {x qual:Str} {st:Stmt} {f:Addr} {fd:FuncData} {N ps:List Str} {k:Nat} {S:DSpN} (F:Fun K x qual st f fd) (Sc:FnScope N ps (jae st)) (len:∀ws n Q,S ws n Q→ws.length=ps.length)
  (hbody:∀(cdv:Value) (A:Around) (outer:List Env) (s:Shared) (H:Hp) (E:XK),Room k (A.deeper (PyProof.Rows.envOfC qual (jae st) s.heap.objs.size f cdv)) →
   ∃T W,DSs (cxOf CX0 P w K mg base N qual (jae st) f cdv A outer s H E).nox (jat st) T W∧∀ws n Q,S ws n Q→W (jbf N ws) n {nx:=fun _ _=>False,rt:=fun _ _=>False,rn:=Q}):FnOk P w K mg base CX0 (k+1) f fd ps (jp9 S):=by
 refine F.ok Sc (fun vs H Q E h=>?_) (fun cdv A outer s H vs Q E hr h=>?_)
 ·obtain⟨t,l,ns,B,ws,n,Q0,_,_,_,r,q,_⟩:=h
  rw[r.len]
  exact len ws n Q0 q
 ·obtain⟨t,l,ns,B,ws,n,Q0,T,bt,ba,r,q,kk⟩:=h
  obtain⟨T',W,d,hw⟩:=hbody cdv A outer s H E hr
  refine⟨T',d.ps,d.sd ⟨t,l,ns,H,B,fun _=>none⟩ H B _ _ n _ _ (jlk T bt ba r) (hw ws n Q0 q) ⟨?_,?_,?_,?_,?_⟩⟩
  ·exact fun _ _ _ _ _ _ z=>z.elim
  ·exact fun _ _ _ _ _ _ _ _ _ z=>z.elim
  ·exact fun _ _ _ _ _ _ z=>z.elim
  ·exact fun _ _ _ _ _ _ z=>z.elim
  ·exact fun H' B' σ δ n' a xs ds R' h0 h1 h2 h3 q'=>kk _ _ q' a xs H' R'.tp R'.kp h0 h1 h2 (h3.less fun b z=>z.elim (fun z=>.inl (R'.b0 b z)) .inr)
end
end DL
namespace Nb
open PySem L2
section
variable {X:Cx} {pins:List (Addr×Obj)} {σ:St} {H:Hp} {s:Shared} {q:Addr} {D:List (Str×Str)}
end
end Nb
namespace DL
open PySem L2 Nb
section
variable {X:Cx} {a b c e o i f:Expr} {ta tb te ty:TE} {wa wb we wy:DT} {pos p xp:Pos} {K:PySem.W.Frag} {D:List (Str×Str)} {q:Addr} {x:Str}
theorem joa {n:Nat} (h:n≤1000):n≤sizeLine:=Nat.le_trans h (by decide)
noncomputable def gStr:List Wv→Int→DQ→Prop:=fun xs n Q=>match xs with
 |[.d (.int i)]=>(i.natAbs.log2 < 1920∧(Str.ofString (toString i)).length≤1000)∧Q (.d (.str (toString i))) n
 |[.d (.str x)]=>Q (.d (.str x)) n
 |_=>False
noncomputable def jog:List Wv→Int→DQ→Prop:=fun xs n Q=>match xs with
 |[.ln ds]=>Small (.list ds)∧Q (.d (.str (PyData.shown (.list ds)))) n
 |xs=>juj xs n Q
theorem jlc:SndB (jqo K) jog:=fun C H B σ δ n vs xs Q Q' R r h k=>by
 unfold jog at h
 split at h
 ·rename_i ds
  cases r with
  |cons r1 r2 =>
   cases r2
   obtain⟨ay,ys,rfl,e1,e2,e3,e4⟩:=r1
   exact⟨ay,.list ds,rfl,.lst (SqL.of e1) (RdXs.rd e4),h.1,k _ _ H n R (Kp.refl _ _) (wd (show RdX H B _ (.str _)from .str _ h.1.len)) h.2⟩
 ·exact jqb C H B σ δ n vs xs Q Q' R r h k
theorem jwb {H:Hp} {p:Addr} {x y:HO}:upd (upd H p x) p y=upd H p y:=by
 funext b
 by_cases e:b=p
 ·subst e;rw[jan,jan]
 ·rw[jal e,jal e,jal e]
end
end DL
namespace L2
open PySem PySem.Spec PyProof.Rows PySem.SeqAt PySem.W
section
variable {prog:Program} {w:World} {A:Around} {E:Value→Shared→Prop} {s:Shared}
end
end L2
namespace L2
open PySem PySem.Spec PyProof.Rows
section
variable {X:Cx} {pins:List (Addr×Obj)} {σ:St} {A:Around} {R:Result→Shared→Prop} {H:Hp} {s:Shared}
end
end L2
namespace L2
open PySem PySem.Spec PyProof.Rows PySem.W
section
variable {prog:Program} {w:World} {A:Around} {E:Value→Shared→Prop} {s:Shared} {d it:Addr} {es:Array DictEntry} {ep i:Nat}
end
end L2
namespace L2
open PySem PySem.Spec PyProof.Rows
end L2
namespace L2
open PySem PySem.Spec PyProof.Rows PySem.SeqAt PySem.W
section
variable {prog:Program} {w:World} {A:Around} {E:Value→Shared→Prop} {s:Shared}
end
section
variable {X:Cx} {pins:List (Addr×Obj)} {σ:St} {H:Hp} {s:Shared} {k:Nat} {f:Addr} {fd:FuncData} {ps:List Str} {sp:Sp}
end
section
variable {X:Cx} {pins:List (Addr×Obj)} {σ:St} {H:Hp} {s:Shared} {k:Nat} {f:Addr} {fd:FuncData} {ps:List Str} {sp:Sp}
end
section
variable {X:Cx}
theorem jpa {i:Int} (h0:0≤i) (h1:i≤1000):Builtin.List.listFitsIndex i=true:=fitsIndex_both (by omega) (by omega)
noncomputable def jqq:V→List V→Hp→VK→Prop:=fun x vs H Q=>∃l xs i y,x=.ref l∧vs=[.int i,y]∧H l=some (.lst xs)∧0≤i∧i≤xs.length∧xs.length < 1000∧Q .non (upd H l (.lst (xs.take i.toNat++y::xs.drop i.toNat)))
theorem jk5 {xs:List V} {vs:List Value} (h:Vals xs vs):∀k:Nat,Vals (xs.take k) (vs.take k)∧Vals (xs.drop k) (vs.drop k):=by
 induction h with
 |nil=>intro k;rw[List.take_nil,List.take_nil,List.drop_nil,List.drop_nil];exact⟨.nil,.nil⟩
 |cons r hr ih =>
  intro k
  cases k with
  |zero=>exact⟨.nil,.cons r hr⟩
  |succ k=>exact⟨.cons r (ih k).1,(ih k).2⟩
theorem jrb:MtM X "list.insert" jqq:=by
 intro pins s σ H x vs v us Q I rx rv h
 obtain⟨l,xs,i,y,rfl,rfl,hH,h0,h1,h2,q⟩:=h
 cases rx
 obtain⟨u1,u,rfl,⟨t,rfl⟩,ru⟩:=jwa rv
 obtain⟨z,its,n,r,hl,e⟩:=I.lstM hH
 refine call_meets F.slot_list_insert ⟨_,e,rfl⟩ F.entry_list_insert (F.args_list_insert_3 _ _ _) (AutoSeq1.list_insert_list_int_val_1 l its.toArray n i t u (by rw[jpa h0 (by omega)];simp) (by rw[List.size_toArray];omega)) ⟨e,?_⟩
 refine⟨.non,_,I.lset (its':=its.take i.toNat++u::its.drop i.toNat) hH e ?_ ((jk5 r _).1.append (.cons ru (jk5 r _).2)) ?_,rfl,q⟩
 ·have e1:(if i < 0 then(i+((its.toArray.size:Nat):Int)).toNat else min i.toNat its.toArray.size)=i.toNat:=by
   rw[if_neg (by omega),List.size_toArray]
   omega
  show(its.toArray.extract 0 (if i < 0 then(i+((its.toArray.size:Nat):Int)).toNat else min i.toNat its.toArray.size)).push u++its.toArray.extract (if i < 0 then(i+((its.toArray.size:Nat):Int)).toNat else min i.toNat its.toArray.size) its.toArray.size=_
  rw[e1]
  apply Array.toList_inj.mp
  simp
  exact List.take_of_length_le (by rw[List.length_drop];exact Nat.le_refl _)
 ·rw[List.length_append,List.length_cons,List.length_take,List.length_drop,sizeLine_eq]
  omega
end
end L2
namespace DL
open PySem L2 Nb
section
variable {X:Cx} {a b c e o i f:Expr} {ta tb te td ty tx:TE} {wa wb we wd' wy wx:DT} {pos p:Pos} {K:PySem.W.Frag}
noncomputable def sIns (i:Nat) (wa wb:DT):DST:=fun δ n K=>match δ[i]? with
 |some (some (.own ds))=>wa δ n fun x n1=>wb δ n1 fun y n2=>match x,y with
  |.d (.int k),.d d=>(0≤k∧k≤ds.length∧ds.length < 1000)∧K.nx (δ.set i (some (.own (ds.take k.toNat++d::ds.drop k.toNat)))) n2
  |_,_=>False
 |_=>False
theorem RdXs.takes {H:Hp} {B:Addr→Prop}:∀{vs:List V} {ds:List PyData},RdXs H B vs ds→∀k:Nat,RdXs H B (vs.take k) (ds.take k)∧RdXs H B (vs.drop k) (ds.drop k)
 |_,_,.nil,k=>by rw[List.take_nil,List.take_nil,List.drop_nil,List.drop_nil];exact⟨.nil,.nil⟩
 |_,_,.cons h r,0=>⟨.nil,.cons h r⟩
 |_,_,.cons h r,k+1=>⟨.cons h (RdXs.takes r k).1,(RdXs.takes r k).2⟩
theorem j07 {i:Nat} {x:Str} {xp ap cp:Pos} (hN:X.N[i]?=some x) (ha:DE X a ta wa) (hb:DE X b tb wb) (hv:Vis X.env.scope x:=by first | exact Or.inl rfl | exact Or.inr (Or.inl rfl) | exact Or.inr (Or.inr rfl)) (hd:(x==("__debug__":Str))=false:=by decide)
  (hcd:(x==("__classdict__":Str))=false:=by decide)
  (hbase:attributeBase (.Name x xp) "insert" X.env (eval (.Name x xp) X.env)=eval (.Name x xp) X.env:=by rfl)
  (hfew:((backTo cp (starEach [a,b] X.env)).all (fun x=>!x.1)&&(backToKw cp (keywordEach [] X.env)).all (fun x=>x.1.isSome)
   && decide ([a,b].length+([]:List Keyword).length+(if ([]:List Keyword).isEmpty then 0 else 1) < 30))=true:=by rfl)
  (hline:(ap.endLine==cp.line)=true:=by rfl) (hs:starEach [a,b] X.env=(false,eval a X.env)::starEach [b] X.env:=by rfl) (hs2:starEach [b] X.env=(false,eval b X.env)::starEach [] X.env:=by rfl) (hplain:(backTo cp (starEach [b] X.env)).any (·.1)=false:=by rfl)
  (hsw:swapsWith (.Call (.Attribute (.Name x xp) "insert" ap) [a,b] [] cp) none pos.line X.env=pure false:=by rfl) :
  DS X (.Expr (.Call (.Attribute (.Name x xp) "insert" ap) [a,b] [] cp) pos) (js2 (tBM X.K "list" jqq (tVar i) (jcw ta (jcw tb tNil)))) (sIns i wa wb) :=
 ⟨jm5 (jw9 PySem.F.plainAttrs_list PySem.F.slot_list_insert PySem.F.type_list_insert jrb (jdf hN hv hd hcd) (jav ha.pe (jav hb.pe jb2 hs2) hs) hbase hfew hline hs hplain) hsw,fun C H B σ δ n K D R q E=>by
  unfold sIns at q
  split at q
  ·rename_i ds ei
   obtain⟨v,hv,aa,xs,rfl,e2,e3,e4,e5,e6⟩:=R.sl i _ ei
   refine⟨_,hv,.inl ⟨rfl,_,SqL.of e2⟩,ha.sd C H B σ δ n _ _ R q fun u x H1 n1 R1 k1 r1 q1=>hb.sd C H1 B σ δ n1 _ _ R1 q1 fun u2 y H2 n2 R2 k2 r2 q2=>?_⟩
   split at q2
   ·rename_i kk d
    obtain⟨⟨q3,q4,q5⟩,q6⟩:=q2
    cases(show RdX H1 B u (.int kk)from r1)
    have hat:aa≠C.t:=fun z=>R.t0 (z▸e4)
    have e2':=k2 _ _ (k1 _ _ e2 hat) hat
    have hle:=e6.len
    have r3:RdXs H2 B xs ds:=(e6.kp k1 R.bt).kp k2 R.bt
    refine⟨aa,xs,kk,u2,rfl,rfl,e2',q3,by omega,by omega,?_⟩
    refine E.nx _ _ _ _ _ (R2.mutOwn ei rfl hv e3 e4 ?_ rfl) q6
    refine⟨aa,xs.take kk.toNat++u2::xs.drop kk.toNat,rfl,jan,e3,e4,?_,?_⟩
    ·rw[List.length_append,List.length_cons,List.length_take,List.length_drop]
     exact jbc (by omega)
    ·refine RdXs.keep (fun b o e n=>?_) ((r3.takes _).1.append (.cons r2 (r3.takes _).2))
     rw[jal fun(z:b=aa)=>n (z▸e3)]
     exact e
   ·exact q2.elim
  ·exact q.elim⟩
end
end DL
namespace L2
open PySem PySem.Spec PyProof.Rows PySem.SeqAt PySem.W
section
variable {X:Cx}
end
end L2
namespace DL
open PySem L2 Nb
section
variable {X:Cx} {a b c e o i f:Expr} {ta tb te td ty tx:TE} {wa wb we wd' wy wx:DT} {pos p:Pos} {K:PySem.W.Frag}
end
section
variable {X:Cx} {o:Expr} {td:TE} {wd':DT} {pos p p2:Pos} {K:PySem.W.Frag}
noncomputable def vD:Key→PyData
 |.inl i=>.int i
 |.inr x=>.str x
noncomputable def rowD (k:List Key):PyData:=.tuple (k.map vD)
theorem ju9 {H:Hp} {B:Addr→Prop} {k:List Key}:∀{vs:List V},RdXs H B vs (k.map vD)→vs=k.map kV:=by
 induction k with
 |nil=>intro vs h;cases h;rfl
 |cons x k ih =>
  intro vs h
  cases h with
  |cons h t =>
   rw[ih t]
   cases x with
   |inl i=>cases(show RdX H B _ (.int i)from h);rfl
   |inr x=>cases(show RdX H B _ (.str x)from h);rfl
end
end DL
namespace HT
open PySem PyProof.Rows
section
variable {prog:Program} {w:World} {A:Around} {E:Value→Shared→Prop} {s:Shared}
end
end HT
namespace L2
open PySem PySem.Spec PyProof.Rows
section
variable {X:Cx} {e st:Expr} {te ts:TE} {pos p2:Pos}
end
end L2
namespace DL
open PySem L2 Nb
section
variable {X:Cx} {a b c e o i f:Expr} {ta tb te td ty tx:TE} {wa wb we wd' wy wx:DT} {pos p p2 p3 p4:Pos} {K:PySem.W.Frag}
end
end DL
namespace L2
open PySem PySem.Spec PyProof.Rows PySem.SeqAt
section
variable {X:Cx} {K:PySem.W.Frag}
end
end L2
namespace DL
open PySem L2 Nb
section
variable {X:Cx} {K:PySem.W.Frag}
end
end DL
namespace L2
open PySem PySem.Spec PyProof.Rows
section
variable {prog:Program} {w:World} {A:Around} {E:Value→Shared→Prop} {s:Shared}
end
end L2
namespace DL
open PySem L2 Nb
section
variable {X:Cx} {a b:Expr} {ta tb:TE} {wa wb:DT} {pos p:Pos} {K:PySem.W.Frag}
end
end DL
namespace L2
open PySem PySem.Spec PyProof.Rows
end L2
namespace DL
open PySem L2 Nb
section
variable {X:Cx} {a b:Expr} {ta tb:TE} {wa wb:DT} {pos p:Pos} {K:PySem.W.Frag}
end
end DL
namespace L2
open PySem PySem.Spec PyProof.Rows
section
variable {X:Cx}
end
section
variable {prog:Program} {w:World} {A:Around} {E:Value→Shared→Prop} {s:Shared}
end
section
variable {X:Cx} {pins:List (Addr×Obj)} {σ:St} {A:Around} {R:Result→Shared→Prop}
end
section
variable {prog:Program} {w:World} {A:Around} {E:Value→Shared→Prop} {s:Shared}
end
section
variable {prog:Program} {w:World} {A:Around} {E:Value→Shared→Prop} {s:Shared}
end
end L2
namespace DL
open PySem L2 Nb
section
variable {X:Cx} {a b c e o i f:Expr} {ta tb tc te td ty tx:TE} {wa wb wc we wd' wy wx:DT} {pos p p2 p3 p4:Pos} {K:PySem.W.Frag}
end
section
variable {X:Cx} {a b c e o i f:Expr} {ta tb tc te td ty tx:TE} {wa wb wc we wd' wy wx:DT} {pos p p2 p3 p4:Pos} {K:PySem.W.Frag}
end
end DL
namespace L2
open PySem PySem.Spec PyProof.Rows
end L2
namespace DL
open PySem L2 Nb
section
variable {X:Cx} {a b c e o i f:Expr} {ta tb tc te td ty tx:TE} {wa wb wc we wd' wy wx:DT} {pos p p2 p3 p4:Pos} {K:PySem.W.Frag}
end
end DL
namespace L2
open PySem PySem.Spec PyProof.Rows
end L2
namespace DL
open PySem L2 Nb
end DL
namespace L2
open PySem PySem.Spec PyProof.Rows
section
variable {X:Cx} {e st:Expr} {te ts:TE} {pos p2:Pos}
end
end L2
namespace DL
open PySem L2 Nb
section
variable {X:Cx} {e:Expr} {te:TE} {we:DT} {pos p p2 p3 p4:Pos} {K:PySem.W.Frag}
end
theorem jsc {X:Cx} {a b:Expr} {ta tb:TE} {wa wb:DT} {pos:Pos} (ha:DE X a ta wa) (hb:DE X b tb wb):DE X (.BinOp a .Add b pos) (tOp (rI0 fun i j=>.int (i+j)) ta tb) (w2 wa wb (gI0 fun i j=>.int (i+j))):=d_op jls (jqc fun _ _ _ _=>.int _) ha hb
section
variable {X:Cx} {a b e o i f:Expr} {ta tb te td ty:TE} {wa wb we wd' wy:DT} {pos p p2:Pos} {K:PySem.W.Frag}
noncomputable def gIsO (neg:Bool):Wv→Wv→Int→DQ→Prop:=fun x y n Q=>(∃o,x=.ob o∧y=.d .none∧Q (.d (.bool neg)) n)∨gIsN neg x y n Q
theorem jvj {H:Hp} {B:Addr→Prop} {t:Addr} {v:V} {o:Option PyData} (h:WRel H B t v (.ob o)):∃a,v=.ref a:=by
 cases o with
 |none=>exact h
 |some d=>obtain⟨a,_,_,e,_⟩:=h;exact⟨a,e⟩
theorem jmz:SndO (fun x y H Q=>y=.non∧Q (.bl (decide (x=.non))) H) (gIsO false):=fun C H B σ δ n x y p q Q Q' R rx ry h1 k=>by
 rcases h1 with⟨o,rfl,rfl,h⟩ | h
 ·obtain⟨a,rfl⟩:=jvj rx
  cases(show RdX H B y .none from ry)
  exact⟨rfl,k _ _ H n R (Kp.refl _ _) (wd (.bl _)) h⟩
 ·exact jm0 C H B σ δ n x y p q Q Q' R rx ry h k
theorem jg5:SndO (fun x y H Q=>y=.non∧Q (.bl (!decide (x=.non))) H) (gIsO true):=fun C H B σ δ n x y p q Q Q' R rx ry h1 k=>by
 rcases h1 with⟨o,rfl,rfl,h⟩ | h
 ·obtain⟨a,rfl⟩:=jvj rx
  cases(show RdX H B y .none from ry)
  exact⟨rfl,k _ _ H n R (Kp.refl _ _) (wd (.bl _)) h⟩
 ·exact jg6 C H B σ δ n x y p q Q Q' R rx ry h k
noncomputable def wObK (i:Nat):DT:=fun δ n Q=>(∃kvs,δ[i]?=some (some (.odk kvs)))∧Q (.ob none) n
theorem j1p (i:Nat) {x:Str} {p:Pos} (hN:X.N[i]?=some x:=by rfl) (hv:Vis X.env.scope x:=by first | exact Or.inl rfl | exact Or.inr (Or.inl rfl) | exact Or.inr (Or.inr rfl)) (hd:(x==("__debug__":Str))=false:=by decide)
  (hcd:(x==("__classdict__":Str))=false:=by decide):DE X (.Name x p) (tVar i) (wObK i):=⟨jdf hN hv hd hcd,fun C H B σ δ n Q Q' R h k=>by
 obtain⟨⟨kvs,e⟩,q⟩:=h
 obtain⟨v,h1,a,l,rfl,_⟩:=R.sl i _ e
 exact⟨_,h1,k _ (.ob none) H n R (Kp.refl _ _) ⟨a,rfl⟩ q⟩⟩
noncomputable def jpp (w w':DT):DT:=fun δ n Q=>w δ n fun x n1=>w' δ n1 fun y n2=>∃d,x=.d d∧y=.ob none∧Q (.ob (some d)) n2
theorem jxx {x1} (ha:DE X a ta wa) (hb:DE X b tb wb) (he:starEach [a,b] X.env=(false,eval a X.env)::starEach [b] X.env:=by rfl) (he':starEach [b] X.env=(false,eval b X.env)::starEach [] X.env:=by rfl):DE X (.Tuple [a,b] x1 pos) (tTup (jcw ta (jcw tb tNil))) (jpp wa wb) :=
 ⟨jvg (jav ha.pe (jav hb.pe jb2 he') he),fun C H B σ δ n Q Q' R q k =>
  ha.sd C H B σ δ n _ _ R q fun v x H1 n1 R1 k1 r1 q1=>hb.sd C H1 B σ δ n1 _ _ R1 q1 fun u y H2 n2 R2 k2 r2 q2=>by
   obtain⟨d,rfl,rfl,q3⟩:=q2
   have r1':RdX H2 B v d:=r1.kp k2 R1.bt
   refine⟨jqi (show 2≤1000 by decide),fun p hp=>k _ (.ob (some d)) _ n2 (R2.new hp) ((k1.trans k2).trans (Kp.new hp)) ⟨p,v,u,rfl,jan,R2.nb hp,?_⟩ q3⟩
   exact r1'.kp (Kp.new (t:=C.t) hp) R2.bt⟩
noncomputable def gIxO:Wv→Wv→Int→DQ→Prop:=fun x y n Q=>(∃d,x=.ob (some d)∧y=.d (.int 0)∧Q (.d d) n)∨gIx x y n Q
theorem jwn:SndO (rIx K) gIxO:=fun C H B σ δ n x y p q Q Q' R rx ry h1 k=>by
 rcases h1 with⟨d,rfl,rfl,h⟩ | h
 ·obtain⟨a,v,u,rfl,e2,e3,e4⟩:=rx
  cases(show RdX H B y (.int 0)from ry)
  exact .inr (.inl ⟨a,[v,u],0,v,rfl,rfl,SqT.of e2,rfl,k _ _ H n R (Kp.refl _ _) (wd e4) h⟩)
 ·exact ji5 C H B σ δ n x y p q Q Q' R rx ry h k
theorem j1q (ha:DE X a ta wa) (hb:DE X b tb wb) (hK:X.K=K:=by rfl) (hs:jh9 b:=by exact fun _ _=>rfl):DE X (.Subscript a b pos) (tOp (rIx K) ta tb) (w2 wa wb gIxO):=by
 subst hK
 exact⟨jf4 joc ha.pe hb.pe hs,ji4 jwn ha.sd hb.sd⟩
end
section
variable {X:Cx} {a b e o:Expr} {ta tb te td ty:TE} {wa wb we wd' wy:DT} {pos p p2:Pos} {K:PySem.W.Frag} {H:Hp} {B:Addr→Prop} {l:List (List Key×V)} {m:List (List Key×PyData)}
noncomputable def inT (m:List (List Key×PyData)) (k:List Key):Bool:=m.any fun kv=>decide (kv.1=k)
noncomputable def putT (m:List (List Key×PyData)) (k:List Key) (d:PyData):List (List Key×PyData):=if inT m k=true then m.map (fun kv=>if kv.1=k then(kv.1,d)else kv)else m++[(k,d)]
theorem RdT.any (h:RdT H B l m) (k:List Key):(l.any fun kv=>decide (kv.1=k))=inT m k:=by
 unfold RdT at h
 unfold inT
 induction h with
 |nil=>rfl
 |cons r _ ih=>rw[List.any_cons,List.any_cons,ih,r.1]
theorem RdT.isSome (h:RdT H B l m) (k:List Key):(valV l k).isSome=inT m k:=by
 rw[←h.any k]
 unfold valV
 rw[Option.isSome_map,List.isSome_find?]
theorem RdT.len (h:RdT H B l m):l.length=m.length:=by
 unfold RdT at h
 induction h with
 |nil=>rfl
 |cons _ _ ih=>rw[List.length_cons,List.length_cons,ih]
theorem RdT.map {v:V} {d:PyData} (h:RdT H B l m) (r:RdX H B v d) (k:List Key):RdT H B (l.map fun kv=>if kv.1=k then(kv.1,v)else kv) (m.map fun kv=>if kv.1=k then(kv.1,d)else kv):=by
 unfold RdT at h ⊢
 induction h with
 |nil=>exact .nil
 |@cons p q ps qs z _ ih =>
  rw[List.map_cons,List.map_cons]
  refine .cons ?_ ih
  by_cases e:p.1=k
  ·have e':q.1=k:=z.1▸e
   rw[if_pos e,if_pos e']
   exact⟨z.1,r⟩
  ·have e':¬q.1=k:=z.1▸e
   rw[if_neg e,if_neg e']
   exact z
theorem RdT.snoc {v:V} {d:PyData} (h:RdT H B l m) (r:RdX H B v d) (k:List Key):RdT H B (l++[(k,v)]) (m++[(k,d)]):=by
 unfold RdT at h ⊢
 induction h with
 |nil=>exact .cons ⟨rfl,r⟩ .nil
 |cons z _ ih=>exact .cons z ih
theorem RdT.put {v:V} {d:PyData} (h:RdT H B l m) (r:RdX H B v d) (k:List Key):RdT H B (putK l k v) (putT m k d):=by
 unfold putK putT
 rw[h.any k]
 split
 ·exact h.map r k
 ·exact h.snoc r k
noncomputable def jte (i:Nat):DST:=fun δ n K=>K.nx (δ.set i (some (.odt []))) n
theorem jyr {i:Nat} {x:Str} {pos':Pos} (hN:X.N.Nodup) (hi:X.N[i]?=some x) (hx:Loc X.env.scope x) (hs:swapsWith (.Dict [] [] p) (some (.Name x pos')) pos.line X.env=pure false:=by rfl) (hf:X.fn x=true∨X.env.scope.names.lookup x=some .local:=by first | exact .inl rfl | exact .inr rfl | assumption) :
  DS X (.Assign [.Name x pos'] (.Dict [] [] p) pos) (tAsg ju3 (jgc i)) (jte i):=⟨jez hN hi hx jtr hs hf,fun C H B σ δ n K D R q E=>fun a ha=>by
  refine E.nx _ _ _ _ _ (R.own (R.new ha) (Kp.new ha) ha (by rw[jan];exact fun z=>nomatch z) rfl ?_) q
  exact⟨a,[],rfl,jan,.inr rfl,R.h0 ha,Nat.zero_le _,.nil⟩⟩
noncomputable def jsx (i:Nat) (w:DT):DT:=fun δ n Q=>w δ n fun x n1=>∃k kvs,x=.d (rowD k)∧δ[i]?=some (some (.odt kvs))∧Q (.d (.bool !inT kvs k)) n1
theorem js6 {i:Nat} (hi:DE X a ta wa):Snd (jhe ta (tVar i)) (jsx i wa):=fun C H B σ δ n Q Q' R h k =>
 hi.sd C H B σ δ n _ _ R h fun v x H1 n1 R1 k1 r1 q1=>by
  obtain⟨key,kvs,rfl,e,q⟩:=q1
  obtain⟨w,h1,b,l,rfl,g2,g3,g4,g5,g6⟩:=R1.sl i _ e
  refine⟨_,h1,?_⟩
  cases(show RdX H1 B v (.tuple (key.map vD))from r1)with
  |@tup c zs _ i1 i2 i3 i4 =>
   have ez:=ju9 i4
   subst ez
   refine⟨b,valV l key,rfl,DGet.t g2 i1,k _ _ H1 n1 R1 k1 (wd (.bl _)) ?_⟩
   rw[g6.isSome key]
   exact q
theorem j0u {i:Nat} {x:Str} {xp:Pos} (hu:X.A.units+64 < cLine) (hN:X.N[i]?=some x) (hi:DE X a ta wa) (hv:Vis X.env.scope x:=by first | exact Or.inl rfl | exact Or.inr (Or.inl rfl) | exact Or.inr (Or.inr rfl)) (hd:(x==("__debug__":Str))=false:=by decide)
  (hcd:(x==("__classdict__":Str))=false:=by decide) (hm:behindInMarks .NotIn (.Name x xp)=false:=by with_unfolding_all rfl):DC X (.Compare a [.NotIn] [.Name x xp] pos) (jmx (jhe ta (tVar i))) (cT (jsx i wa)):=⟨jy7 (jlo (by omega) hi.pe (jdf hN hv hd hcd)) hm,jfm (js6 hi)⟩
noncomputable def jyt (i:Nat) (wy wv:DT):DST:=fun δ n K=>wv δ n fun v n1=>∃kvs,δ[i]?=some (some (.odt kvs))∧wy δ n1 fun y n2=>∃k d,v=.d d∧y=.d (rowD k)∧kvs.length < 1000∧K.nx (δ.set i (some (.odt (putT kvs k d)))) n2
theorem jyp {i:Nat} {x:Str} {xp sp:Pos} {j e:Expr} {tj te:TE} {wj we:DT} (hu:X.A.units+64 < cLine) (hN:X.N[i]?=some x) (hj:DE X j tj wj) (he:DE X e te we) (hv:Vis X.env.scope x:=by first | exact Or.inl rfl | exact Or.inr (Or.inl rfl) | exact Or.inr (Or.inr rfl)) (hd:(x==("__debug__":Str))=false:=by decide)
  (hcd:(x==("__classdict__":Str))=false:=by decide) (hs:swapsWith e (some (.Subscript (.Name x xp) j sp)) pos.line X.env=pure false:=by rfl) :
  DS X (.Assign [.Subscript (.Name x xp) j sp] e pos) (jwu (tVar i) tj te) (jyt i wj we) :=
 ⟨jqv (by omega) (jdf hN hv hd hcd) hj.pe he.pe hs,fun C H B σ δ n K D R q E =>
  he.sd C H B σ δ n _ _ R q fun u y H1 n1 R1 k1 r1 q1=>by
   obtain⟨kvs,ei,q1⟩:=q1
   obtain⟨v,hv,a,l,rfl,e2,e3,e4,e5,e6⟩:=R1.sl i _ ei
   refine⟨_,hv,hj.sd C H1 B σ δ n1 _ _ R1 q1 fun w z H2 n2 R2 k2 r2 q2=>?_⟩
   obtain⟨key,d,rfl,rfl,hl0,q2⟩:=q2
   have hat:a≠C.t:=fun z=>R.t0 (z▸e4)
   have e2':=k2 _ _ e2 hat
   have r1':RdX H2 B u d:=RdX.kp k2 R1.bt r1
   have e6':RdT H2 B l kvs:=e6.move fun b o e n=>⟨k2 b o e fun z=>n (z▸R1.bt),n⟩
   have hl:l.length < 1000:=by rw[e6'.len];exact hl0
   cases(show RdX H2 B w (.tuple (key.map vD))from r2)with
   |@tup c zs _ i1 i2 i3 i4 =>
    have ez:=ju9 i4
    subst ez
    refine⟨a,_,rfl,DPut.t e2' i1 (Nat.lt_of_lt_of_le hl (jbc (Nat.le_refl _))),?_⟩
    refine E.nx _ _ _ _ _ (R2.mutOwn ei rfl hv e3 e4 ?_ rfl) q2
    refine⟨a,_,rfl,jan,e3,e4,?_,?_⟩
    ·have:=jdg l key u
     omega
    ·exact(e6'.put r1' _).move fun b o e n=>⟨by rw[jal fun(z:b=a)=>n (z▸e3)];exact e,n⟩⟩
end
section
variable {X:Cx} {a b e o i f:Expr} {ta tb te td ty:TE} {wa wb we wd' wy:DT} {pos p p2:Pos} {K:PySem.W.Frag}
noncomputable def jiv (k:Int) (xs:List PyData):List PyData:=xs.zipIdx.map fun q=>.tuple [.int (k+q.2),q.1]
theorem jhs {k:Int} {xs:List PyData}:(jiv k xs).length=xs.length:=by unfold jiv;rw[List.length_map,List.length_zipIdx]
theorem jr1 {k:Int} {xs:List PyData} {i:Nat} {d:PyData} (h:(jiv k xs)[i]?=some d):∃x,xs[i]?=some x∧d=.tuple [.int (k+i),x]:=by
 unfold jiv at h
 rw[List.getElem?_map,List.getElem?_zipIdx]at h
 cases e:xs[i]? with
 |none=>rw[e]at h;cases h
 |some x =>
  rw[e]at h
  refine⟨x,rfl,?_⟩
  have:=Option.some.inj h
  rw[←this,Nat.zero_add]
theorem jjq {k:Int} {x:PyData} {xs:List PyData}:jiv k (x::xs)=.tuple [.int k,x]::jiv (k+1) xs:=by
 refine List.ext_getElem? fun i=>?_
 unfold jiv
 cases i with
 |zero=>rw[List.zipIdx_cons,List.map_cons,List.getElem?_cons_zero,List.getElem?_cons_zero,Int.natCast_zero,Int.add_zero]
 |succ i =>
  rw[List.getElem?_cons_succ,List.getElem?_map,List.getElem?_map,List.getElem?_zipIdx,List.getElem?_zipIdx,List.getElem?_cons_succ]
  cases xs[i]? with
  |none=>rfl
  |some y =>
   show some (PyData.tuple [.int (k+(0+(i+1):Nat)),y])=some (.tuple [.int (k+1+(0+i:Nat)),y])
   have:k+(0+(i+1):Nat)=k+1+(0+i:Nat):=by omega
   rw[this]
noncomputable def jrt (w:DT):DTI:=fun δ n Q=>w δ n fun x n1=>∃xs,x=.d (.tuple xs)∧Q (jiv 0 xs) n1
theorem jz9 {elts:List Expr} {kk:Nat} {tpos:Pos} (hg:Gl X "enumerate") (hm:X.mg "enumerate"=none) (ha:DE X a ta wa) (hK:X.K=K:=by rfl) (hs:starEach [a] X.env=[(false,eval a X.env)]:=by rfl) (he1:starEach [a] X.env=(false,eval a X.env)::starEach [] X.env:=by rfl) :
  DI X (.Tuple elts kk tpos) (.Call (.Name "enumerate" p) [a] [] pos) (j0b K (jcw ta tNil)) (jrt wa):=by
 subst hK
 refine⟨jw1 hg hm (jav ha.pe jb2 he1) hs,fun C H B σ δ n Q Q' R q k=>ha.sd C H B σ δ n _ _ R q fun v x H1 n1 R1 k1 r1 q1=>?_⟩
 obtain⟨xs,rfl,q2⟩:=q1
 cases(show RdX H1 B v (.tuple xs)from r1)with
 |@tup aa vs _ e1 e2 e3 e4 =>
  refine⟨aa,rfl,⟨vs,SqT.of e1⟩,k _ (jiv 0 xs) H1 n1 R1 k1 (fun fz th=>?_) q2⟩
  have za:fz aa=some (.tup vs):=th.2 _ _ e1 e2
  refine⟨by rw[jhs,←e4.len];exact e3,fun i H hH hi=>?_,fun H hH=>?_,fun i H x H' d hH hd hy=>?_⟩
  ·rw[jhs]at hi
   have h1:i < vs.length:=by rw[e4.len];exact hi
   exact⟨vs,vs[i],SqT.of (hH _ _ za),List.getElem?_eq_getElem h1⟩
  ·exact⟨vs,SqT.of (hH _ _ za),by rw[jhs,e4.len]⟩
  ·obtain⟨T,x1,rfl,hT,rfl,hx⟩:=hy
   refine⟨fun b o e=>by rw[jal (jai e hT)];exact e,fun B' hB hBa=>?_⟩
   obtain⟨y,hy,rfl⟩:=jr1 hd
   obtain⟨u1,hu1,ru1⟩:=e4.getD hy
   have t1:=hx _ (SqT.of (hH _ _ za))
   rw[hu1]at t1
   cases t1
   have mv:∀b o,H1 b=some o→¬B b→upd H T (.tup [.int i,x1]) b=some o∧¬B' b:=fun b o e ne=>by
    have:=hH _ _ (th.2 _ _ e ne)
    exact⟨by rw[jal (jai this hT)];exact this,hB _ _ (th.2 _ _ e ne)⟩
   rw[Int.zero_add]
   exact .tup jan (fun z=>hBa T z hT) (by show 2≤sizeLine;decide) (.cons (.int _) (.cons (ru1.move mv) .nil))
noncomputable def jsw (k1 s1 k2:Str) (i2:Int):DT:=fun _ n Q=>Q (.dk (jeb [] [(.inr k1,.str s1),(.inr k2,.int i2)])) n
theorem j0m {k1 s1 k2:Str} {i2:Int} {e1 e2 v1 v2:Expr} (h:PPs X pos [some e1,some e2] [v1,v2] [(tC (.str k1),tC (.str s1)),(tC (.str k2),tC (.int i2))]) (hl:s1.length≤1000:=by decide +kernel) :
  DE X (.Dict [some e1,some e2] [v1,v2] pos) (jye [(tC (.str k1),tC (.str s1)),(tC (.str k2),tC (.int i2))]) (jsw k1 s1 k2 i2):=⟨jw5 h rfl rfl (fun z=>nomatch z) (show 2≤15 by decide),fun C H B σ δ n Q Q' R q k=>fun a ha=>by
 refine(show jnp [(tC (.str k1),tC (.str s1)),(tC (.str k2),tC (.int i2))] σ _ _ from⟨jan,[(Sum.inr k1,V.str s1),(Sum.inr k2,V.int i2)],rfl,by show 2≤15;decide,?_⟩)
 rw[jwb]
 exact k (.ref a) (.dk (jeb [] [(.inr k1,.str s1),(.inr k2,.int i2)])) _ n (R.new ha) (Kp.new ha) ⟨a,_,rfl,jan,fun z=>R.ba C.t R.bt (z▸ha),RdK.merge (.cons ⟨rfl,.str _ (joa hl)⟩ (.cons ⟨rfl,.int _⟩ .nil)) .nil⟩ q⟩
noncomputable def jv9 (w:DT):DT:=fun δ n Q=>w δ n fun x n1=>∃ds,x=.ln ds∧Q (.d (.bool true)) n1
theorem j0n {x:Str} (hg:Gl X "isinstance") (hm:X.mg "isinstance"=none) (hg2:Gl X x) (hm2:X.mg x=none) (hv:bootBuiltins x=some (.type "list")) (ha:DE X a ta wa) (hK:X.K=K:=by rfl) (hn:x≠"__name__":=by decide) (hdb:(x==("__debug__":Str))=false:=by decide)
  (he:starEach [a,.Name x p2] X.env=(false,eval a X.env)::starEach [.Name x p2] X.env:=by rfl) (he2:starEach [.Name x p2] X.env=(false,eval (.Name x p2) X.env)::starEach [] X.env:=by rfl) (hpl:(backTo pos (starEach [.Name x p2] X.env)).any (·.1)=false:=by rfl) :
  DE X (.Call (.Name "isinstance" p) [a,.Name x p2] [] pos) (tCB (rIsi K "list") (jcw ta (jcw (tC (.ty "list")) tNil))) (jv9 wa):=by
 subst hK
 exact⟨jc2 (joo (T:="list")) hg hm jv2 (jav ha.pe (jav (jq2 (v:=.ty "list") hg2 hm2 hv rfl hn hdb) jb2 he2) he) (by decide) (by decide) he hpl,fun C H B σ δ n Q Q' R q k=>ha.sd C H B σ δ n _ _ R q fun v x H1 n1 R1 k1 r1 q1=>by
  obtain⟨ds,rfl,q⟩:=q1
  obtain⟨a,xs,rfl,e1,_⟩:=r1
  exact⟨_,_,true,rfl,.lst e1,rfl,k _ _ H1 n1 R1 k1 (wd (.bl _)) q⟩⟩
noncomputable def jvc:List V→Hp→VK→Prop:=fun xs H Q=>∃i:Nat,xs=[.int i]∧i < 16∧Q (.str (toString (i:Int))) H
theorem jjv:CallR X (.builtin "repr") jvc:=by
 intro pins s σ H xs us Q I r h
 obtain⟨i,rfl,hz,q⟩:=h
 obtain⟨u,rfl,t,rfl⟩:=jia r
 refine PySem.P.repr_of_int (Nat.lt_of_le_of_lt (Nat.log2_le_self _) ?_) ⟨.str _,H,I.tok _,⟨_,rfl⟩,q⟩
 rw[Int.natAbs_natCast]
 omega
noncomputable def joh:List Wv→Int→DQ→Prop:=fun xs n Q=>∃i:Nat,xs=[.d (.int i)]∧i < 16∧Q (.d (.str (toString (i:Int)))) n
theorem jxj:∀i < 16,(Str.ofString (toString ((i:Nat):Int))).length≤1000:=by decide +kernel
theorem jld:SndB jvc joh:=fun C H B σ δ n vs xs Q Q' R r h k=>by
 obtain⟨i,rfl,hz,q⟩:=h
 cases r with
 |cons r1 r2 =>
  cases r2
  cases(show RdX H B _ (.int i)from r1)
  exact⟨i,rfl,hz,k _ _ H n R (Kp.refl _ _) (wd (.str _ (joa (jxj i hz)))) q⟩
noncomputable def jpq (hs:List Str) (w:DT):DT:=fun δ n Q=>w δ n fun x n1=>∃a,x=.d a∧jd5 a=true∧Q (.d (.bool !inD a (hs.map .str))) n1
theorem js7 {q:Addr} {hs:List Str} (hl:∀h∈hs,h.length≤1000) (hq:∀H,SqT K H q (hs.map V.str)) (h:Snd ta wa):Snd (tOp (rIn K true) ta (tC (.ref q))) (jpq hs wa):=fun C H B σ δ n Q Q' R z k =>
 h C H B σ δ n _ _ R z fun v x H1 n1 R1 k1 r1 q1=>by
  obtain⟨da,rfl,q1⟩:=q1
  have r1:RdX H1 B v da:=r1
  have rs:RdXs H1 B (hs.map V.str) (hs.map .str):=jm2 hl
  refine⟨q,_,rfl,.inr (hq H1),jgd r1 q1.1,jd4 rs ?_,k _ _ H1 n1 R1 k1 (wd (.bl _)) ?_⟩
  ·rw[List.all_map];exact List.all_eq_true.mpr fun _ _=>rfl
  ·rw[jjj r1 rs];exact q1.2
theorem j0v {q:Addr} {hs:List Str} {x:Str} {xp:Pos} (ha:DE X a ta wa) (hg:Gl X x) (hm:X.mg x=some (.ref q)) (hq:∀H,SqT K H q (hs.map V.str)) (hl:∀h∈hs,h.length≤1000:=by decide +kernel) (hK:X.K=K:=by rfl) (hd:(x==("__debug__":Str))=false:=by decide)
  (hmk:behindInMarks .NotIn (Expr.Name x xp)=false:=by with_unfolding_all rfl):DC X (.Compare a [.NotIn] [.Name x xp] pos) (jmx (tOp (rIn K true) ta (tC (.ref q)))) (cT (jpq hs wa)) :=
 ⟨je7 (jdz hK) ha.pe (jw4 hg hm rfl hd) hmk,jfm (js7 hl hq ha.sd)⟩
end
end DL
namespace Nb
open PySem L2 DL
theorem jdr {c:DTT} {w:DT} {Q:List PyData→Int→Prop} {rest:Sl} (P:PyData→Prop) (p:PyData→Bool) (f:PyData→PyData) (hp:∀d n Q',P d→Q' (p d) n→c (some (.w (.d d))::rest) n Q') (h:∀d n Q',P d→Q' (.d (f d)) n→w (some (.w (.d d))::rest) n Q') :
  ∀(items acc:List PyData) (x:Option SV) (n:Int),(∀d∈items,P d)→Q (acc++(items.filter p).map f) n→jdw (jak 0) c w Q items acc (x::rest) n
 |[],acc,x,n,hP,q=>by
  rw[List.filter_nil,List.map_nil,List.append_nil]at q
  exact q
 |d::r,acc,x,n,hP,q=>by
  simp only[jdw,jak,List.set_cons_zero]
  refine hp d n _ (hP d List.mem_cons_self) ?_
  cases e:p d with
  |true =>
   rw[if_pos rfl]
   refine h d n _ (hP d List.mem_cons_self) ?_
   refine jdr P p f hp h r (acc++[f d]) _ n (fun e he=>hP e (List.mem_cons_of_mem _ he)) ?_
   rw[List.filter_cons_of_pos e]at q
   rw[List.append_assoc]
   exact q
  |false =>
   rw[if_neg Bool.false_ne_true]
   refine jdr P p f hp h r acc _ n (fun e he=>hP e (List.mem_cons_of_mem _ he)) ?_
   rw[List.filter_cons_of_neg (by rw[e];exact Bool.false_ne_true)]at q
   exact q
noncomputable def okD:PyData→Bool
 |.str y=>!decide (y.cps.toList < ("a":Str).cps.toList)&&!decide (("z":Str).cps.toList < y.cps.toList)
 |_=>false
theorem jop {α:Type} {xs:List α} {r:Int} (h0:0≤r) (h1:r < xs.length):∃v,atI xs r=some v∧v∈xs:=by
 obtain⟨j,rfl⟩:=Int.eq_ofNat_of_zero_le h0
 have hj:j < xs.length:=by omega
 exact⟨xs[j],jby (List.getElem?_eq_getElem hj),List.getElem_mem hj⟩
theorem jkf (d:PyData):isiB "str" d=match d with | .str _=>true | _=>false:=by cases d<;>rfl
theorem ifb {b:Bool} {A B:Prop} (h1:b=true→A) (h2:b=false→B):if b=true then A else B:=by
 cases b with
 |true=>rw[if_pos rfl];exact h1 rfl
 |false=>rw[if_neg Bool.false_ne_true];exact h2 rfl
theorem jum {n many:Int} {Q:DQ} (h:n < 2 ^ 40) (h0:0 < many) (h1:many < 1073741824) (k:∀r:Int,0≤r→r < many→Q (.d (.int r)) (n+1)):jay [.tp,.d (.int many)] n Q:=⟨⟨h,h0,h1⟩,k⟩
theorem jrl {ds:List PyData} {r:Int} {n:Int} {Q:DQ} (h0:0≤r) (h1:r < (ds.length:Int)) (k:∀d∈ds,Q (.d d) n):gIx (.d (.list ds)) (.d (.int r)) n Q:=by
 obtain⟨v,hv,hm⟩:=jop h0 h1
 show match atI ds r with | some d=>Q (.d d) n | none=>False
 simp only[hv]
 exact k v hm
theorem jsh {w:DT} {Q:List PyData→Int→Prop} {rest:Sl} (c:Nat) (h:∀d n Q',n+(c:Int) < 2 ^ 39→(∀y n',n'≤n+(c:Int)→Q' (.d y) n')→w (some (.w (.d d))::rest) n Q') :
  ∀(items acc:List PyData) (x:Option SV) (n:Int),n+(c:Int)*(items.length:Int) < 2 ^ 39→(∀ds n',n'≤n+(c:Int)*(items.length:Int)→Q ds n')→jdw (jak 0) cYes w Q items acc (x::rest) n
 |[],acc,x,n,hn,q=>q acc n (by simp)
 |d::r,acc,x,n,hn,q=>by
  simp only[jdw,jak,cYes,if_true,List.set_cons_zero]
  rw[List.length_cons]at hn q
  have e:(c:Int)*((r.length+1:Nat):Int)=(c:Int)*(r.length:Int)+c:=by rw[Int.natCast_add,Int.mul_add];simp
  rw[e]at hn q
  have hc:0≤(c:Int)*(r.length:Int):=Int.mul_nonneg (Int.natCast_nonneg _) (Int.natCast_nonneg _)
  refine h d n _ (by omega) fun y n' hn'=>?_
  exact jsh c h r (acc++[y]) _ n' (by omega) fun ds n'' h''=>q ds n'' (by omega)
theorem jbx (n:Nat):(rngD 0 n).length=n:=by unfold rngD;simp
theorem jge {w:DT} {Q:List PyData→Int→Prop} {rest:Sl} (P:PyData→Prop) (c:Nat) (h:∀d n Q',n+(c:Int) < 2 ^ 39→(∀y n',P y→n'≤n+(c:Int)→Q' (.d y) n')→w (some (.w (.d d))::rest) n Q') :
  ∀(items acc:List PyData) (x:Option SV) (n:Int),n+(c:Int)*(items.length:Int) < 2 ^ 39→(∀ds n',ds.length=items.length→(∀d∈ds,P d)→n'≤n+(c:Int)*(items.length:Int)→Q (acc++ds) n')→jdw (jak 0) cYes w Q items acc (x::rest) n
 |[],acc,x,n,hn,q=>by
  have:=q [] n rfl (by simp) (by simp)
  rwa [List.append_nil]at this
 |d::r,acc,x,n,hn,q=>by
  simp only[jdw,jak,cYes,if_true,List.set_cons_zero]
  rw[List.length_cons]at hn q
  have e:(c:Int)*((r.length+1:Nat):Int)=(c:Int)*(r.length:Int)+c:=by rw[Int.natCast_add,Int.mul_add];simp
  rw[e]at hn q
  have hc:0≤(c:Int)*(r.length:Int):=Int.mul_nonneg (Int.natCast_nonneg _) (Int.natCast_nonneg _)
  refine h d n _ (by omega) fun y n' hy hn'=>?_
  refine jge P c h r (acc++[y]) _ n' (by omega) fun ds n'' hl hds h''=>?_
  rw[List.append_assoc]
  refine q (y::ds) n'' (by rw[List.length_cons,hl]) (fun d hd=>?_) (by omega)
  rcases List.mem_cons.mp hd with rfl | z
  ·exact hy
  ·exact hds d z
theorem eq_str (a:PyData) (h:Str):eqD a (.str h)=some (ja2 h a):=by cases a<;>rfl
theorem eq_int (i j:Int):eqD (.int i) (.int j)=some (decide (i=j)):=rfl
theorem at0 {α:Type} (a:α) (r:List α):atI (a::r) 0=some a:=jby (j:=0) rfl
theorem at1 {α:Type} (a b:α) (r:List α):atI (a::b::r) 1=some b:=jby (j:=1) rfl
section
variable {δ:Sl} {n:Int} {Q:DQ} {K:DEnds} {W V:DST} {i j:Nat} {a b d:PyData} {r ds:List PyData} {h:Str}
theorem jao (h:W δ n {K with nx:=fun δ n=>V δ n K}):sSeq W V δ n K:=h
theorem jad {x:Wv} (e:δ[i]?=some (some (.w x))) (k:Q x n):wVar i δ n Q:=by unfold wVar;rw[e];exact k
theorem ix_i {m:Nat} (e:δ[i]?=some (some (.w (.d (.tuple ds))))) (e2:ds[m]?=some a) (k:Q (.d a) n):w2 (wVar i) (wC (.int (m:Int))) gIx δ n Q:=by
 unfold w2
 refine jad e ?_
 unfold wC gIx
 simp only[jby e2]
 exact k
theorem jgy (e:δ[i]?=some (some (.w (.d (.tuple (a::r)))))) (k:Q (.d a) n):w2 (wVar i) (wC (.int 0)) gIx δ n Q:=ix_i (m:=0) e rfl k
theorem jfv (e:δ[i]?=some (some (.w (.d (.tuple (a::b::r)))))) (k:Q (.d b) n):w2 (wVar i) (wC (.int 1)) gIx δ n Q:=ix_i (m:=1) e rfl k
theorem jme {d:PyData} (e:δ[i]?=some (some (.w (.d d)))) (k:Q (.d (.bool (ja2 h d))) n):w2 (wVar i) (wC (.str h)) gEq δ n Q:=by
 unfold w2
 refine jad e ?_
 unfold wC gEq
 simp only[eq_str]
 exact k
theorem j0h (e:δ[i]?=some (some (.w (.d (.tuple (a::r)))))) (k:Q (.d (.bool (ja2 h a))) n):w2 (w2 (wVar i) (wC (.int 0)) gIx) (wC (.str h)) gEq δ n Q:=by
 show w2 (wVar i) (wC (.int 0)) gIx δ n fun x n1=>wC (.str h) δ n1 fun y n2=>gEq x y n2 Q
 refine jgy e ?_
 unfold wC gEq
 simp only[eq_str]
 exact k
theorem if_i {c:DTT} (k:c δ n fun b n1=>if b=true then W δ n1 K else V δ n1 K):sIf c W V δ n K:=k
theorem jz6 {d:PyData} (e:δ[i]?=some (some (.w (.d d)))) (hT:ja2 h d=true→W δ n K) (hF:ja2 h d=false→V δ n K):sIf (cT (w2 (wVar i) (wC (.str h)) gEq)) W V δ n K:=by
 unfold sIf cT
 exact jme e (ifb hT hF)
theorem jz4 (e:δ[i]?=some (some (.w (.d (.tuple (a::r)))))) (hT:ja2 h a=true→W δ n K) (hF:ja2 h a=false→V δ n K):sIf (cT (w2 (w2 (wVar i) (wC (.int 0)) gIx) (wC (.str h)) gEq)) W V δ n K:=by
 unfold sIf cT
 exact j0h e (ifb hT hF)
theorem jo7 {d:PyData} (e:δ[i]?=some (some (.w (.d d)))) (z:ja2 h d=false) (hF:V δ n K):sIf (cT (w2 (wVar i) (wC (.str h)) gEq)) W V δ n K:=jz6 e (fun q=>by rw[z]at q;cases q) fun _=>hF
theorem jz5 {d:PyData} (e:δ[i]?=some (some (.w (.d d)))) (z:ja2 h d=true) (hT:W δ n K):sIf (cT (w2 (wVar i) (wC (.str h)) gEq)) W V δ n K:=jz6 e (fun _=>hT) fun q=>by rw[z]at q;cases q
theorem jrp (e:δ[i]?=some (some (.w (.d (.tuple (a::r)))))) (z:ja2 h a=false) (hF:V δ n K):sIf (cT (w2 (w2 (wVar i) (wC (.int 0)) gIx) (wC (.str h)) gEq)) W V δ n K:=jz4 e (fun q=>by rw[z]at q;cases q) fun _=>hF
theorem jz3 (e:δ[i]?=some (some (.w (.d (.tuple (a::r)))))) (z:ja2 h a=true) (hT:W δ n K):sIf (cT (w2 (w2 (wVar i) (wC (.int 0)) gIx) (wC (.str h)) gEq)) W V δ n K:=jz4 e (fun _=>hT) fun q=>by rw[z]at q;cases q
end
theorem joe:ja2 "is" (.str "is")=true:=by decide +kernel
theorem jl6:ja2 "is" (.str "any")=false:=by decide +kernel
theorem jjk:ja2 "is" (.str "word")=false:=by decide +kernel
theorem jgs:ja2 "is" (.str "number")=false:=by decide +kernel
theorem jjl:ja2 "is" (.str "bind")=false:=by decide +kernel
theorem jof:ja2 "is" (.str "as")=false:=by decide +kernel
theorem jl5:ja2 "word" (.str "word")=true:=by decide +kernel
theorem jin:ja2 "word" (.str "number")=false:=by decide +kernel
theorem jo9:ja2 "as" (.str "bind")=false:=by decide +kernel
theorem jue:ja2 "as" (.str "as")=true:=by decide +kernel
theorem jeg:ja2 "bind" (.str "bind")=true:=by decide +kernel
section
variable {δ:Sl} {n:Int} {Q:DQ} {K:DEnds} {W V:DST} {i j:Nat} {a b d:PyData} {r ds:List PyData}
theorem w2_i {wa wb:DT} {g:Wv→Wv→Int→DQ→Prop} (k:wa δ n fun x n1=>wb δ n1 fun y n2=>g x y n2 Q):w2 wa wb g δ n Q:=k
theorem jb6 {w:DT} {x:PyData} (h:∀Q:DQ,Q (.d x) n→w δ n Q) (k:K.nx (δ.set i (some (.w (.d x)))) n):sSet i w δ n K:=h _ k
theorem jd2 (k:K.nx (δ.set i (some (.own []))) n):sOwn i (fLst aNil) δ n K:=⟨Nat.zero_le _,k⟩
theorem g0_i (k:Q (.d a) n):gIx (.d (.tuple (a::r))) (.d (.int 0)) n Q:=by
 show(match atI (a::r) 0 with | some d=>Q (.d d) n | none=>False)
 rw[at0];exact k
theorem g1_i (k:Q (.d b) n):gIx (.d (.tuple (a::b::r))) (.d (.int 1)) n Q:=by
 show(match atI (a::b::r) 1 with | some d=>Q (.d d) n | none=>False)
 rw[at1];exact k
theorem g2_i {c:PyData} (k:Q (.d c) n):gIx (.d (.tuple (a::b::c::r))) (.d (.int 2)) n Q:=by
 show(match atI (a::b::c::r) 2 with | some d=>Q (.d d) n | none=>False)
 rw[show atI (a::b::c::r) 2=some c from jby (j:=2) rfl];exact k
theorem c_i {c:PyData} (k:Q (.d c) n):wC c δ n Q:=k
theorem b1_i {w:DT} {g:List Wv→Int→DQ→Prop} (k:w δ n fun x n1=>g [x] n1 Q):wB g (jab w aNil) δ n Q:=k
theorem c1_i {w:DT} {S:DSp} (k:w δ n fun x n1=>S [x] n1 Q):jaq S (jab w aNil) δ n Q:=k
theorem c2_i {w w':DT} {S:DSp} (k:w δ n fun x n1=>w' δ n1 fun y n2=>S [x,y] n2 Q):jaq S (jab w (jab w' aNil)) δ n Q:=k
theorem c3_i {w w' w'':DT} {S:DSp} (k:w δ n fun x n1=>w' δ n1 fun y n2=>w'' δ n2 fun z n3=>S [x,y,z] n3 Q):jaq S (jab w (jab w' (jab w'' aNil))) δ n Q:=k
theorem of_i {w:DTF} (k:w δ n fun ds n1=>Q (.d (.list ds)) n1):wOf w δ n Q:=k
theorem jsg {fr:List (Option Nat)} {w e:DT} {g:DTG} {c:DTT} {Q:List PyData→Int→Prop} (hw:∀Q:DQ,Q (.d (.tuple ds)) n→w δ n Q) (k:jdw g c e Q ds [] (jkr fr δ) n):jcy fr (jef w) g c e δ n Q:=by
 unfold jcy jef
 exact hw _ k
theorem jzg (e:δ[j]?=some (some (.w (.d (.tuple ds))))) (k:K.nx (δ.set i (some (.own ds))) n):sOwn i (jd6 (wVar j)) δ n K:=by
 unfold sOwn jd6
 exact jad e k
theorem jb4 {w:DT} (k:w δ n K.rt):sRet w δ n K:=k
theorem jg1 (e:δ[i]?=some (some (.own ds))) (k:W (δ.set i (some (.w (.d (.list ds))))) n K):sFrz i W δ n K:=by
 unfold sFrz;rw[e];exact k
theorem ct_b {w:DT} {k:Bool} {Q:Bool→Int→Prop} (hw:∀Q':DQ,Q' (.d (.bool k)) n→w δ n Q') (q:Q k n):cT w δ n Q:=hw _ q
theorem jxn {C:DTT} (hc:∀Q:Bool→Int→Prop,Q true n→C δ n Q) (hF:V δ n K):sIf (cNot C) W V δ n K:=hc _ (by show if (!true)=true then _ else _;exact hF)
theorem if_n {C:DTT} (hc:∀Q:Bool→Int→Prop,Q false n→C δ n Q) (hF:V δ n K):sIf C W V δ n K:=hc _ (by show if false=true then _ else _;rw[if_neg Bool.false_ne_true];exact hF)
theorem if_y {C:DTT} (hc:∀Q:Bool→Int→Prop,Q true n→C δ n Q) (hT:W δ n K):sIf C W V δ n K:=hc _ (by show if true=true then _ else _;rw[if_pos rfl];exact hT)
theorem jfx {A B:DTT} {Q:Bool→Int→Prop} (ha:∀Q:Bool→Int→Prop,Q false n→A δ n Q) (hb:B δ n Q):cOr A B δ n Q:=ha _ (by show if false=true then _ else _;rw[if_neg Bool.false_ne_true];exact hb)
theorem jpd {A B:DTT} {Q:Bool→Int→Prop} (ha:∀Q:Bool→Int→Prop,Q true n→A δ n Q) (k:Q true n):cOr A B δ n Q:=ha _ (by show if true=true then _ else _;rw[if_pos rfl];exact k)
theorem jjt {A B:DTT} {Q:Bool→Int→Prop} (ha:∀Q:Bool→Int→Prop,Q true n→A δ n Q) (hb:B δ n Q):cAnd A B δ n Q:=ha _ (by show if true=true then _ else _;rw[if_pos rfl];exact hb)
theorem jvz {A:DTT} {k:Bool} {Q:Bool→Int→Prop} (ha:∀Q:Bool→Int→Prop,Q k n→A δ n Q) (q:Q (!k) n):cNot A δ n Q:=ha _ q
end
theorem jba {g:DTG} {W:DST} {K:DEnds} (I:List PyData→Sl→Int→Prop) (h0:∀δ n,I [] δ n→K.nx δ n)
  (h1:∀d r δ n (N:Sl→Int→Prop),I (d::r) δ n→(∀δ n,I r δ n→N δ n)→g d δ fun δ'=>W δ' n {K with nx:=N,ct:=N,bk:=K.nx}):∀ds δ n,I ds δ n→forD g W K ds δ n
 |[],δ,n,h=>h0 δ n h
 |d::r,δ,n,h=>h1 d r δ n (forD g W K r) h (jba I h0 h1 r)
section
variable {δ:Sl} {n m:Int} {Q:DQ} {K:DEnds} {W V:DST} {i j:Nat} {ds:List PyData}
theorem je2 {w:DT} (e0:δ[0]?=some (some (.w .tp))) (hw:∀Q:DQ,Q (.d (.int m)) n→w δ n Q) (h:n < 2 ^ 40) (h0:0 < m) (h1:m < 1073741824) (k:∀r:Int,0≤r→r < m→Q (.d (.int r)) (n+1)):jaq jay (jab (wVar 0) (jab w aNil)) δ n Q :=
 c2_i (jad e0 (hw _ (jum h h0 h1 k)))
theorem jek (e0:δ[0]?=some (some (.w .tp))) (h:n < 2 ^ 40) (h0:0 < m) (h1:m < 1073741824) (k:∀r:Int,0≤r→r < m→Q (.d (.int r)) (n+1)):jaq jay (jab (wVar 0) (jab (wC (.int m)) aNil)) δ n Q:=je2 e0 (fun Q q=>c_i q) h h0 h1 k
theorem jqk (e0:δ[0]?=some (some (.w .tp))) (h:n < 2 ^ 40) (h0:0 < m) (h1:m < 1073741824) (k:∀r:Int,0≤r→r < m→K.nx (δ.set i (some (.w (.d (.int r))))) (n+1)):sSet i (jaq jay (jab (wVar 0) (jab (wC (.int m)) aNil))) δ n K:=jek e0 h h0 h1 k
theorem jna {r:Int} (h0:0≤r) (h1:r < (ds.length:Int)) (k:∀d∈ds,Q (.d d) n):gIxL (.ln ds) (.d (.int r)) n Q:=by
 obtain⟨v,hv,hm⟩:=jop h0 h1
 show(match atI ds r with | some d=>Q (.d d) n | none=>False)
 rw[hv]
 exact k v hm
theorem jcv {r:Int} (h0:0≤r) (h1:r < (ds.length:Int)) (k:∀d∈ds,Q (.d d) n):gIxL (.d (.list ds)) (.d (.int r)) n Q:=jrl h0 h1 k
theorem jhl (e:δ[i]?=some (some (.own ds))) (k:Q (.ln ds) n):je5 i δ n Q:=by
 unfold je5;rw[e];exact k
theorem jnj {w:DT} {x:PyData} {es:List PyData} (e:δ[i]?=some (some (.own es))) (hw:∀Q:DQ,Q (.d x) m→w δ n Q) (hl:es.length < 1000000) (k:K.nx (δ.set i (some (.own (es++[x])))) m):sApp i w δ n K:=by
 unfold sApp;rw[e];exact hw _ (And.intro hl k)
theorem jk2 {w:DT} {es:List PyData} (e:δ[i]?=some (some (.own es))) (k:w δ n fun x n1=>match x with
  |.d d=>es.length < 1000000∧K.nx (δ.set i (some (.own (es++[d])))) n1
  |_=>False):sApp i w δ n K:=by
 unfold sApp;rw[e];exact k
theorem jdl {w w':DT} (k:w δ n fun x n1=>w' δ n1 fun y n2=>match jfp [x,y]with
  |some ds=>ds.length≤1000∧Q (.d (.tuple ds)) n2
  |none=>False):wTup (jab w (jab w' aNil)) δ n Q:=k
theorem jwd {w w' w'':DT} (k:w δ n fun x n1=>w' δ n1 fun y n2=>w'' δ n2 fun z n3=>match jfp [x,y,z]with
  |some ds=>ds.length≤1000∧Q (.d (.tuple ds)) n3
  |none=>False):wTup (jab w (jab w' (jab w'' aNil))) δ n Q:=k
theorem jhc (k:Q (.d (.tuple ds)) n):jc1 [.d (.list ds)] n Q:=k
theorem lt_i {a b:Int} (k:Q (.d (.bool (decide (a < b)))) n):gLt (.d (.int a)) (.d (.int b)) n Q:=k
theorem iflt {a b:Int} (e:δ[i]?=some (some (.w (.d (.int a))))) (hT:a < b→W δ n K) (hF:¬a < b→V δ n K):sIf (cT (w2 (wVar i) (wC (.int b)) gLt)) W V δ n K:=by
 refine if_i (w2_i (jad e (c_i ?_)))
 show if decide (a < b)=true then _ else _
 by_cases h:a < b
 ·rw[if_pos (decide_eq_true h)];exact hT h
 ·rw[if_neg (by simpa using h)];exact hF h
end
section
variable {δ:Sl} {n m:Int} {Q:DQ} {K:DEnds} {W V:DST} {i j:Nat} {ds:List PyData}
theorem j05 {w w' w'' v:DT} (k:w δ n fun x n1=>w' δ n1 fun y n2=>w'' δ n2 fun z n3=>v δ n3 fun u n4=>match jfp [x,y,z,u]with
  |some ds=>ds.length≤1000∧Q (.d (.tuple ds)) n4
  |none=>False):wTup (jab w (jab w' (jab w'' (jab v aNil)))) δ n Q:=k
theorem jfr (k:Q (.d (.list [])) n):wOf (fLst aNil) δ n Q:=And.intro (Nat.zero_le _) k
theorem eqLn (k:Q (.d (.bool ds.isEmpty)) n):gEqL (.ln ds) (.d (.list [])) n Q:=k
theorem eqLi {a b:Int} (k:Q (.d (.bool (decide (a=b)))) n):gEqL (.d (.int a)) (.d (.int b)) n Q:=k
theorem ifeq {a b:Int} (e:δ[i]?=some (some (.w (.d (.int a))))) (hT:a=b→W δ n K) (hF:¬a=b→V δ n K):sIf (cT (w2 (wVar i) (wC (.int b)) gEqL)) W V δ n K:=by
 refine if_i (w2_i (jad e (c_i ?_)))
 show if decide (a=b)=true then _ else _
 by_cases h:a=b
 ·rw[if_pos (decide_eq_true h)];exact hT h
 ·rw[if_neg (by simpa using h)];exact hF h
theorem ifgt {a b:Int} (e:δ[i]?=some (some (.w (.d (.int a))))) (hT:b < a→W δ n K) (hF:¬b < a→V δ n K):sIf (cT (w2 (wVar i) (wC (.int b)) gGt)) W V δ n K:=by
 refine if_i (w2_i (jad e (c_i ?_)))
 show if decide (b < a)=true then _ else _
 by_cases h:b < a
 ·rw[if_pos (decide_eq_true h)];exact hT h
 ·rw[if_neg (by simpa using h)];exact hF h
end
theorem jhq (hs:List Str):(hs.map PyData.str).all jd5=true:=by
 rw[List.all_eq_true]
 intro d hd
 obtain⟨x,_,rfl⟩:=List.mem_map.mp hd
 rfl
theorem jva {δ:Sl} {n m:Int} {K:DEnds} {W:DST} {g:DTG} {L:List PyData} {wl:DT} {M:Nat} (e:δ[0]?=some (some (.w .tp))) (hl:∀Q:DQ,Q (.d (.list L)) n→wl δ n Q) (hn:n < 2 ^ 40) (hm:m=L.length) (h0:0 < m) (h1:m < 1000) (hL:∀d∈L,∃j:Nat,j≤M∧d=.int j) (hM:M≤1000) (k:∀j:Nat,j≤M→forD g W K (rngD 0 j) δ (n+1)) :
  sFor (jaz (w2 wl (jaq jay (jab (wVar 0) (jab (wC (.int m)) aNil))) gIxL)) g W δ n K:=by
 unfold sFor jaz
 refine w2_i (hl _ (jek e hn h0 (by omega) fun r r0 r1=>jcv r0 (by omega) fun d hd=>?_))
 obtain⟨j,hj,rfl⟩:=hL d hd
 refine And.intro ⟨by omega,by omega⟩ ?_
 rw[Int.toNat_natCast]
 exact k j hj
theorem jzs {ds:List PyData} {n:Int} {Q:DQ} (k:Q (.d (.int ds.length)) n):jff [.ln ds] n Q:=k
theorem gN_i {n:Int} {Q:DQ} {i:Nat} {x:PyData} {xs:List PyData} (h:xs[i]?=some x) (k:Q (.d x) n):gIx (.d (.tuple xs)) (.d (.int (i:Nat))) n Q:=by
 show(match atI xs ((i:Nat):Int)with | some d=>Q (.d d) n | none=>False)
 rw[jby h];exact k
theorem j0t (xs:List PyData) {p:Nat} (hp:p≤xs.length):cutD xs none (some (p:Int))=xs.take p:=by
 unfold cutD
 rw[HT.sIx_nat]
 show(xs.drop 0).take (min p xs.length - 0)=_
 rw[List.drop_zero,Nat.sub_zero,Nat.min_eq_left hp]
noncomputable abbrev Nm:=List (Str×PyData)
inductive Fd where
 |is (v:PyData) | any | word | number | bind (x:Str) | as (x:Str)
noncomputable def Fd.d:Fd→PyData
 |.is v=>.tuple [.str "is",v]
 |.any=>.tuple [.str "any"]
 |.word=>.tuple [.str "word"]
 |.number=>.tuple [.str "number"]
 |.bind x=>.tuple [.str "bind",.str x]
 |.as x=>.tuple [.str "as",.str x]
noncomputable abbrev okX (x:Str):Prop:=x.length≤4∧PyData.strOk x=true
noncomputable def isV:PyData→Bool
 |.str x=>decide (x.length≤8)&&PyData.strOk x
 |.int i=>decide (PyData.weight (.int i)≤20)&&(PyData.intsShort 13 (.int i)&&PyData.showable (.int i))
 |_=>false
noncomputable def Fd.ok:Fd→Prop
 |.is v=>isV v=true
 |.bind x=>okX x
 |.as x=>okX x
 |_=>True
noncomputable def eqB (a b:PyData):Bool:=(eqD a b).getD false
theorem jr0 {a b:PyData} (ha:isV a=true) (hb:isV b=true):eqD a b=some (eqB a b):=by
 cases a<;>first | cases ha | (cases b<;>first | cases hb | rfl)
theorem j0j {a b:PyData} (ha:isV a=true) (hb:isV b=true) (h:eqB a b=true):a=b:=by
 cases a<;>first | cases ha | (cases b<;>first | cases hb | cases h | (rw[show _=_ from of_decide_eq_true h]))
theorem j0g {a:PyData} (ha:isV a=true):jd5 a=true:=by cases a<;>first | cases ha | rfl
noncomputable def isSt:PyData→Bool
 |.str _=>true
 |_=>false
noncomputable def isIn:PyData→Bool
 |.int _=>true
 |_=>false
noncomputable def look (ps:Nm) (x:Str):Option PyData:=(ps.find? fun p=>decide (p.1=x)).map (·.2)
noncomputable def put (ps:Nm) (x:Str) (v:PyData):Nm:=if (ps.any fun p=>decide (p.1=x))=true then ps.map (fun p=>if p.1=x then(p.1,v)else p)else ps++[(x,v)]
theorem jz2 (a b:Str):decide ((Sum.inr a:Key)=Sum.inr b)=decide (a=b):=by
 by_cases z:a=b
 ·rw[z,decide_eq_true rfl,decide_eq_true rfl]
 ·rw[decide_eq_false z,decide_eq_false fun w=>z (Sum.inr.inj w)]
theorem jhb (ps:Nm) (x:Str):valD (txK ps) (.inr x)=look ps x:=by
 induction ps with
 |nil=>rfl
 |cons p r ih =>
  by_cases e:p.1=x
  ·have a1:valD (txK (p::r)) (.inr x)=some p.2:=by simp[valD,txK,List.find?_cons,e]
   have a2:look (p::r) x=some p.2:=by simp[look,List.find?_cons,e]
   rw[a1,a2]
  ·have a1:valD (txK (p::r)) (.inr x)=valD (txK r) (.inr x):=by simp[valD,txK,List.find?_cons,e]
   have a2:look (p::r) x=look r x:=by simp[look,List.find?_cons,e]
   rw[a1,a2,ih]
theorem j01 (ps:Nm) (x:Str):((txK ps).any fun kv=>decide (kv.1=(Sum.inr x:Key)))=(ps.any fun p=>decide (p.1=x)):=by
 unfold txK
 rw[List.any_map]
 congr 1
 funext p
 exact jz2 _ _
theorem jll (ps:Nm) (x:Str) (v:PyData):putD (txK ps) (.inr x) v=txK (put ps x v):=by
 unfold putD put
 rw[j01]
 split
 ·unfold txK
  rw[List.map_map,List.map_map]
  apply List.map_congr_left
  intro p _
  show(if (Sum.inr p.1:Key)=Sum.inr x then _ else _)=_
  by_cases e:p.1=x
  ·rw[if_pos (congrArg Sum.inr e)]
   show _=(Sum.inr (if p.1=x then(p.1,v)else p).1,(if p.1=x then(p.1,v)else p).2)
   rw[if_pos e]
  ·rw[if_neg fun z=>e (Sum.inr.inj z)]
   show _=(Sum.inr (if p.1=x then(p.1,v)else p).1,(if p.1=x then(p.1,v)else p).2)
   rw[if_neg e]
 ·unfold txK
  rw[List.map_append]
  rfl
theorem jd0 {ps:Nm} {x:Str} {v:PyData} (h:look ps x=some v):(x,v)∈ps:=by
 unfold look at h
 cases e:ps.find? fun p=>decide (p.1=x)with
 |none=>rw[e]at h;cases h
 |some p =>
  rw[e]at h
  have h1:=List.find?_some e
  have h2:p.1=x:=of_decide_eq_true h1
  have h3:p.2=v:=Option.some.inj h
  have:=List.mem_of_find?_eq_some e
  rw[←h2,←h3]
  exact this
theorem jn9 (ps:Nm) (x:Str):(ps.any fun p=>decide (p.1=x))=(look ps x).isSome:=by
 induction ps with
 |nil=>rfl
 |cons p r ih =>
  by_cases e:p.1=x
  ·have a2:look (p::r) x=some p.2:=by simp[look,List.find?_cons,e]
   rw[a2,List.any_cons,decide_eq_true e];rfl
  ·have a2:look (p::r) x=look r x:=by simp[look,List.find?_cons,e]
   rw[a2,List.any_cons,decide_eq_false e,Bool.false_or,ih]
theorem jtl (ps:Nm) (x:Str) (v:PyData):(put ps x v).map (·.1)=if (ps.any fun p=>decide (p.1=x))=true then ps.map (·.1)else ps.map (·.1)++[x]:=by
 unfold put
 split
 ·rw[List.map_map]
  apply List.map_congr_left
  intro p _
  show(if p.1=x then(p.1,v)else p).1=p.1
  split<;>rfl
 ·rw[List.map_append];rfl
theorem jvf {ps:Nm} {x:Str} {v:PyData} (h:(ps.map (·.1)).Nodup):((put ps x v).map (·.1)).Nodup:=by
 rw[jtl]
 split
 ·exact h
 ·rename_i e
  rw[List.nodup_append]
  refine⟨h,by simp,fun a ha b hb z=>?_⟩
  have hb:b=x:=by simpa using hb
  obtain⟨p,hp,rfl⟩:=List.mem_map.mp ha
  exact e (List.any_eq_true.mpr ⟨p,hp,decide_eq_true (z.trans hb)⟩)
theorem jj4 (ps:Nm) (x:Str) (v:PyData):(put ps x v).length≤ps.length+1:=by
 unfold put
 split
 ·rw[List.length_map];omega
 ·rw[List.length_append];exact Nat.le_refl _
noncomputable def okV (p:Str×PyData):Prop:=okX p.1∧isV p.2=true
theorem jnx {ps:Nm} {x:Str} {v:PyData} (h:∀p∈ps,okV p) (hx:okX x) (hv:isV v=true):∀p∈put ps x v,okV p:=by
 intro p hp
 unfold put at hp
 split at hp
 ·obtain⟨q,hq,rfl⟩:=List.mem_map.mp hp
  split
  ·exact⟨(h q hq).1,hv⟩
  ·exact h q hq
 ·rcases List.mem_append.mp hp with hp | hp
  ·exact h p hp
  ·have:p=(x,v):=by simpa using hp
   subst this
   exact⟨hx,hv⟩
theorem jtk {ps:Nm} {x:Str} {v:PyData} (nd:(ps.map (·.1)).Nodup) (h:look ps x=some v):put ps x v=ps:=by
 unfold put
 rw[jn9,h,if_pos (show(some v).isSome=true from rfl)]
 have hm:=jd0 h
 have:ps.map (fun p=>if p.1=x then(p.1,v)else p)=ps.map id:=by
  apply List.map_congr_left
  intro p hp
  split
  ·rename_i e
   have:p=(x,v):=by
    obtain⟨i,hi⟩:=List.mem_iff_getElem?.mp hp
    obtain⟨j,hj⟩:=List.mem_iff_getElem?.mp hm
    have a1:(ps.map (·.1))[i]?=some x:=by rw[List.getElem?_map,hi];exact congrArg some e
    have a2:(ps.map (·.1))[j]?=some x:=by rw[List.getElem?_map,hj];rfl
    obtain⟨b1,b2⟩:=List.getElem?_eq_some_iff.mp a1
    obtain⟨c1,c2⟩:=List.getElem?_eq_some_iff.mp a2
    have:=(List.getElem_inj nd).mp (b2.trans c2.symm)
    rw[this,hj]at hi
    exact(Option.some.inj hi).symm
   rw[this]
   rfl
  ·rfl
 rw[this,List.map_id]
theorem jft (ps:Nm) (x:Str) (v:PyData):look (put ps x v) x=some v:=by
 unfold put
 rw[jn9]
 split
 ·rename_i e
  induction ps with
  |nil=>cases e
  |cons p r ih =>
   by_cases z:p.1=x
   ·simp[look,List.find?_cons,z]
   ·have a2:look (p::r) x=look r x:=by simp[look,List.find?_cons,z]
    rw[a2]at e
    rw[List.map_cons,if_neg z]
    have a3:look (p::r.map fun p=>if p.1=x then(p.1,v)else p) x=look (r.map fun p=>if p.1=x then(p.1,v)else p) x:=by simp[look,List.find?_cons,z]
    rw[a3]
    exact ih e
 ·rename_i e
  have:look ps x=none:=by cases q:look ps x with | none=>rfl | some _=>rw[q]at e;exact absurd rfl e
  unfold look at this ⊢
  rw[List.find?_append]
  cases q:ps.find? fun p=>decide (p.1=x)with
  |some p=>rw[q]at this;cases this
  |none=>simp
theorem jhk {ps:Nm} {x y:Str} {v:PyData} (h:y≠x):look (put ps x v) y=look ps y:=by
 unfold put
 split
 ·induction ps with
  |nil=>rfl
  |cons p r ih =>
   rw[List.map_cons]
   have key:look (r.map fun p=>if p.1=x then(p.1,v)else p) y=look r y:=by
    rename_i e
    by_cases q:(r.any fun p=>decide (p.1=x))=true
    ·exact ih q
    ·have:r.map (fun p=>if p.1=x then(p.1,v)else p)=r.map id:=by
      apply List.map_congr_left
      intro p hp
      rw[if_neg fun z=>q (List.any_eq_true.mpr ⟨p,hp,decide_eq_true z⟩)]
      rfl
     rw[this,List.map_id]
   by_cases z:p.1=x
   ·rw[if_pos z]
    have n1:¬p.1=y:=fun w=>h (w.symm.trans z)
    have a1:look ((p.1,v)::r.map fun p=>if p.1=x then(p.1,v)else p) y=look (r.map fun p=>if p.1=x then(p.1,v)else p) y:=by simp[look,List.find?_cons,n1]
    have a2:look (p::r) y=look r y:=by simp[look,List.find?_cons,n1]
    rw[a1,a2,key]
   ·rw[if_neg z]
    by_cases w:p.1=y
    ·simp[look,List.find?_cons,w]
    ·have a1:look (p::r.map fun p=>if p.1=x then(p.1,v)else p) y=look (r.map fun p=>if p.1=x then(p.1,v)else p) y:=by simp[look,List.find?_cons,w]
     have a2:look (p::r) y=look r y:=by simp[look,List.find?_cons,w]
     rw[a1,a2,key]
 ·unfold look
  rw[List.find?_append]
  have:[(x,v)].find? (fun p=>decide (p.1=y))=none:=by simp[fun z=>h (Eq.symm z),Ne.symm h]
  rw[this,Option.or_none]
noncomputable def ffB (f:Fd) (v:PyData) (h bs:Nm):Bool:=match f with
 |.is w=>eqB w v
 |.any=>true
 |.word=>isSt v
 |.number=>isIn v
 |.as x=>match look h x with
  |some w=>eqB w v
  |none=>false
 |.bind x=>match look bs x with
  |some w=>eqB w v
  |none=>true
noncomputable def wk:List (Fd×PyData)→Nm→List Str→Option Nm
 |[],h,_=>some h
 | (.is w,v)::r,h,hs=>if eqB w v=true then wk r h hs else none
 | (.any,_)::r,h,hs=>wk r h hs
 | (.word,v)::r,h,hs=>if isSt v=true then wk r h hs else none
 | (.number,v)::r,h,hs=>if isIn v=true then wk r h hs else none
 | (.as x,v)::r,h,hs=>match look h x with
  |some w=>if eqB w v=true then wk r h hs else none
  |none=>none
 | (.bind x,v)::r,h,hs=>if x∈hs then(match look h x with
   |some w=>if eqB w v=true then wk r h hs else none
   |none=>none)else wk r (put h x v) (hs++[x])
noncomputable def jo3 (p:Str×PyData):PyData:=.tuple [.str p.1,p.2]
noncomputable def jb3 (ps:Nm):PyData:=.tuple (ps.map jo3)
noncomputable def patD (fs:List Fd):PyData:=.tuple (fs.map Fd.d)
noncomputable def okN (ps:Nm):Prop:=ps.length≤40∧(ps.map (·.1)).Nodup∧∀p∈ps,okV p
noncomputable def okP (fs:List Fd):Prop:=1≤fs.length∧fs.length≤4∧∀f∈fs,f.ok
noncomputable def okR (row:List PyData):Prop:=row.length≤4∧∀d∈row,isV d=true
noncomputable def Fit (fs:List Fd) (row:List PyData) (ps:Nm) (r:PyData):Prop :=
 if fs.length=row.length then match wk (fs.zip row) ps []with
  |none=>r=.none
  |some _=>jb5 r=false
 else r=.none
noncomputable def S_ff:DSp:=fun ws n Q=>∃(f:Fd) (v:PyData) (hp bp:Nm),ws=[.d f.d,.d v,.dk (txK hp),.dk (txK bp)]∧f.ok∧isV v=true∧(∀p∈hp,okV p)∧(∀p∈bp,okV p)∧Q (.d (.bool (ffB f v hp bp))) n
noncomputable def jmw:DSp:=fun ws n Q=>∃(fs:List Fd) (row:List PyData) (nm:Nm),ws=[.d (patD fs),.d (.tuple row),.d (jb3 nm)]∧okP fs∧okR row∧okN nm∧∀r,Fit fs row nm r→Q (.d r) n
noncomputable def jc0 (ys:List Str):PyData:=.tuple (ys.map .str)
noncomputable def jsy:List PyData:=[.str "a",.int 0,.int 1,.str "ab",.str "go",.int 99]
inductive Fe where
 |any | word | num | isv (d:PyData) | bind (k:Str) | as (k:Str) | nx (k:Str)
noncomputable def Fe.hd:Fe→Str
 |.any=>"any"
 |.word=>"word"
 |.num=>"number"
 |.isv _=>"is"
 |.bind _=>"bind"
 |.as _=>"as"
 |.nx _=>"next"
noncomputable def Fe.tl:Fe→List PyData
 |.any=>[]
 |.word=>[]
 |.num=>[]
 |.isv d=>[d]
 |.bind k=>[.str k]
 |.as k=>[.str k]
 |.nx k=>[.str k]
noncomputable def Fe.d (f:Fe):PyData:=.tuple (.str f.hd::f.tl)
noncomputable abbrev okK (k:Str):Prop:=okX k
noncomputable def Fe.ok:Fe→Prop
 |.isv d=>isV d=true
 |.bind k=>okK k
 |.as k=>okK k
 |.nx k=>okK k
 |_=>True
noncomputable def Fe.bd:Fe→Option Str
 |.bind k=>some k
 |_=>none
noncomputable def Fe.us:Fe→Option Str
 |.as k=>some k
 |.nx k=>some k
 |_=>none
noncomputable def bndE (fs:List Fe):List Str:=fs.filterMap Fe.bd
noncomputable def Fe.pt:Fe→Bool
 |.nx _=>false
 |_=>true
noncomputable def okFs (fs:List Fe):Prop:=fs.length≤4∧∀f∈fs,f.ok
noncomputable def rF:List Str→List Fe→Prop
 |_,[]=>True
 |ks,f::r=>(∀k,f.us=some k→k∈ks)∧rF (ks++f.bd.toList) r
inductive Ac where
 |lay (fs:List Fe) (age:PyData) | take (fs:List Fe) | read (fs:List Fe) | look (fs:List Fe) (b:Nat) | same (f g:Fe) (b:Nat) | go (b:Nat)
noncomputable def fsD (fs:List Fe):PyData:=.tuple (fs.map Fe.d)
noncomputable def Ac.d:Ac→PyData
 |.lay fs age=>.tuple [.str "lay",fsD fs,age]
 |.take fs=>.tuple [.str "take",fsD fs]
 |.read fs=>.tuple [.str "read",fsD fs]
 |.look fs b=>.tuple [.str "look",fsD fs,.int b]
 |.same f g b=>.tuple [.str "same",f.d,g.d,.int b]
 |.go b=>.tuple [.str "go",.int b]
noncomputable def Ac.bs:Ac→List Str
 |.take fs=>bndE fs
 |.read fs=>bndE fs
 |.look fs _=>bndE fs
 |_=>[]
noncomputable def Ac.fs:Ac→List Fe
 |.lay fs _=>fs
 |.take fs=>fs
 |.read fs=>fs
 |.look fs _=>fs
 |.same f g _=>[f,g]
 |.go _=>[]
noncomputable def Ac.to:Ac→Option Nat
 |.look _ b=>some b
 |.same _ _ b=>some b
 |.go b=>some b
 |_=>none
noncomputable def Ac.right (wants:List (List Str)) (ks:List Str) (a:Ac):Prop:=rF ks a.fs∧∀b,a.to=some b→∃w,wants[b]?=some w∧∀k∈w,k∈ks
noncomputable def patO (fs:List Fe):Prop:=1≤fs.length∧∀f∈fs,f.pt=true
noncomputable def Ac.pat:Ac→Prop
 |.take fs=>patO fs
 |.read fs=>patO fs
 |.look fs _=>patO fs
 |_=>True
noncomputable def okA (a:Ac):Prop:=okFs a.fs∧a.pat
noncomputable abbrev Bl:=List Str×List Ac
noncomputable def blD (b:Bl):PyData:=.tuple [jc0 b.1,.tuple (b.2.map Ac.d)]
noncomputable def prD (bs:List Bl):PyData:=.tuple (bs.map blD)
noncomputable def kn (w:List Str) (as:List Ac) (p:Nat):List Str:=w++(as.take p).flatMap Ac.bs
noncomputable def okB (b:Bl):Prop:=b.1.length≤2∧(∀k∈b.1,okK k)∧b.2.length≤8∧∀a∈b.2,okA a
noncomputable def riB (wants:List (List Str)) (b:Bl):Prop:=∀(p:Nat) (a:Ac),b.2[p]?=some a→a.right wants (kn b.1 b.2 p)
noncomputable def jck:DSp:=fun ws n Q=>ws=[.tp]∧n < 2 ^ 39∧∀v∈jsy,Q (.d v) (n+1)
noncomputable def je4:DSp:=fun ws n Q=>ws=[.tp]∧n < 2 ^ 39∧∀m:Nat,1≤m→m≤4→Q (.d (.int m)) (n+1)
noncomputable def jmt:DSp:=fun ws n Q=>∃ks:List Str,ws=[.tp,.ln (ks.map .str)]∧ks.length≤1000∧(∀k∈ks,okK k)∧n+9 < 2 ^ 39∧∀(fs:List Fe) (n':Int),okFs fs→rF ks fs→n'≤n+9→Q (.d (fsD fs)) n'
noncomputable def jgn:DSp:=fun ws n Q=>∃ks:List Str,ws=[.tp,.ln (ks.map .str)]∧ks.length≤1000∧(∀k∈ks,okK k)∧n+2 < 2 ^ 39∧∀(f:Fe) (n':Int),f.ok→f.bd=none→(∀k,f.us=some k→k∈ks)→n'≤n+2→Q (.d f.d) n'
noncomputable def jh7:DSp:=fun ws n Q=>∃(ks:List Str) (os:List Nat) (wants:List (List Str)),ws=[.tp,.ln (ks.map .str),.d (.list (os.map fun b=>.int (b:Nat)))]∧ks.length≤1000∧(∀k∈ks,okK k)∧0 < os.length∧os.length≤1000 ∧
 (∀b∈os,∃w,wants[b]?=some w∧∀k∈w,k∈ks)∧n+11 < 2 ^ 39∧∀(a:Ac) (n':Int),okA a→a.right wants ks→n'≤n+11→Q (.d (.tuple [a.d,.list (a.bs.map .str)])) n'
noncomputable def okG (bs:List Bl):Prop:=1≤bs.length∧bs.length≤6∧∀b∈bs,okB b∧riB (bs.map (·.1)) b
noncomputable def jmu:DSp:=fun ws n Q=>∃(ks:List Str) (v:Wv),ws=[.tp,v]∧lsOf v=some (ks.map .str)∧ks.length≤1000∧(∀k∈ks,okK k)∧n+9 < 2 ^ 39∧∀(fs:List Fe) (n':Int),1≤fs.length→okFs fs→(∀f∈fs,f.pt=true)→rF ks fs→n'≤n+9→Q (.d (.tuple [fsD fs,.list ((bndE fs).map .str)])) n'
noncomputable def jmq:DSp:=fun ws n Q=>ws=[.tp]∧n+600 < 2 ^ 39∧∀(bs:List Bl) (n':Int),okG bs→n'≤n+600→Q (.d (prD bs)) n'
noncomputable abbrev Hn:=Nat×Nat×Nm
noncomputable def hnD (h:Hn):PyData:=.tuple [.int h.1,.int h.2.1,jb3 h.2.2]
noncomputable abbrev Nt:=List PyData×PyData
noncomputable def ntD (q:Nt):PyData:=.tuple [.tuple q.1,q.2]
noncomputable def nsD (ns:List Nt):PyData:=.tuple (ns.map ntD)
noncomputable def stD (hs:List Hn) (ns:List Nt):PyData:=.tuple [.tuple (hs.map hnD),nsD ns]
noncomputable abbrev Pg:=List (List Bl)
noncomputable def pgD (ps:Pg):PyData:=.tuple (ps.map prD)
noncomputable def okPg (ps:Pg):Prop:=ps.length≤5∧∀P∈ps,okG P
noncomputable def okNs (m:Nat) (ns:List Nt):Prop:=ns.length≤m∧∀q∈ns,okR q.1
noncomputable def okHs (ps:Pg) (hs:List Hn):Prop:=∀(i:Nat) (P:List Bl),ps[i]?=some P→∃(h:Hn) (b:Bl),hs[i]?=some h∧P[h.1]?=some b∧okN h.2.2
noncomputable def actO (ps:Pg) (hs:List Hn) (h:Nat):Option Ac:=ps[h]?.bind fun P=>hs[h]?.bind fun x=>P[x.1]?.bind fun b=>b.2[x.2.1]?
noncomputable def acD:Option Ac→PyData
 |none=>.none
 |some a=>a.d
noncomputable def Fe.fd:Fe→Fd
 |.any=>.any
 |.word=>.word
 |.num=>.number
 |.isv d=>.is d
 |.bind k=>.bind k
 |.as k=>.as k
 |.nx _=>.any
noncomputable def Ac.pf:Ac→Option (List Fd)
 |.take fs=>some (fs.map Fe.fd)
 |.read fs=>some (fs.map Fe.fd)
 |.look fs _=>some (fs.map Fe.fd)
 |_=>none
noncomputable def Ac.wt:Ac→Bool
 |.take _=>true
 |.read _=>true
 |_=>false
noncomputable def fitB (fs:List Fd) (row:List PyData) (nm:Nm):Bool:=decide (fs.length=row.length)&&(wk (fs.zip row) nm []).isSome
noncomputable def fstO (fs:List Fd) (nm:Nm) (ns:List Nt):Option Nat:=ns.findIdx? fun q=>fitB fs q.1 nm
noncomputable def nmO (hs:List Hn) (h:Nat):Nm:=(hs[h]?.map (·.2.2)).getD []
noncomputable def gotO (ps:Pg) (hs:List Hn) (ns:List Nt) (h:Nat):Option Nat:=(actO ps hs h).bind fun a=>a.pf.bind fun fs=>fstO fs (nmO hs h) ns
noncomputable def canB (ps:Pg) (hs:List Hn) (ns:List Nt) (h:Nat):Bool:=((actO ps hs h).map fun a=>!a.wt || (gotO ps hs ns h).isSome).getD false
noncomputable def natD:Option Nat→PyData
 |none=>.none
 |some i=>.int i
noncomputable def gotW:Option Nat→Wv
 |none=>.d .none
 |some i=>.ob (some (.int i))
noncomputable def fitW (b:Bool):Wv:=if b=true then .ob none else .d .none
noncomputable def rdyL (ps:Pg) (hs:List Hn) (ns:List Nt):List PyData:=((List.range ps.length).filter (canB ps hs ns)).map fun h=>.int (h:Nat)
noncomputable def okSt (ps:Pg) (hs:List Hn) (ns:List Nt):Prop:=okPg ps∧okHs ps hs∧okNs 11 ns
noncomputable def jcz:DSp:=fun ws n Q=>∃(ps:Pg) (hs:List Hn) (ns:List Nt) (h:Nat),ws=[.d (pgD ps),.d (stD hs ns),.d (.int h)]∧okHs ps hs∧h < ps.length∧Q (.d (acD (actO ps hs h))) n
noncomputable def jh8:DSp:=fun ws n Q=>∃(ps:Pg) (hs:List Hn) (ns:List Nt) (h:Nat),ws=[.d (pgD ps),.d (stD hs ns),.d (.int h)]∧okSt ps hs ns∧h < ps.length∧Q (.d (natD (gotO ps hs ns h))) n
noncomputable def jnm:DSp:=fun ws n Q=>∃(ps:Pg) (hs:List Hn) (ns:List Nt) (h:Nat),ws=[.d (pgD ps),.d (stD hs ns),.d (.int h)]∧okSt ps hs ns∧h < ps.length∧Q (gotW (gotO ps hs ns h)) n
noncomputable def jbz:DSp:=fun ws n Q=>∃(ps:Pg) (hs:List Hn) (ns:List Nt) (h:Nat),ws=[.d (pgD ps),.d (stD hs ns),.d (.int h)]∧okSt ps hs ns∧h < ps.length∧Q (.d (.bool (canB ps hs ns h))) n
noncomputable def jfl:DSpN:=fun ws n Q=>∃(ps:Pg) (hs:List Hn) (ns:List Nt),ws=[.d (pgD ps),.d (stD hs ns)]∧okSt ps hs ns∧Q (rdyL ps hs ns) n
noncomputable def S_gr:DSp:=fun ws n Q=>∃(ps:Pg) (hs:List Hn) (ns:List Nt),ws=[.d (pgD ps),.d (stD hs ns)]∧okSt ps hs ns∧Q (.d (.bool true)) n
noncomputable def jmv:DSp:=fun ws n Q=>∃(fs:List Fd) (row:List PyData) (nm:Nm),ws=[.d (patD fs),.d (.tuple row),.d (jb3 nm)]∧okP fs∧okR row∧okN nm∧Q (fitW (fitB fs row nm)) n
noncomputable def jms:DSp:=fun ws n Q=>∃(fs:List Fd) (nm:Nm),ws=[.tp,.d (patD fs),.d (jb3 nm)]∧okP fs∧okN nm∧n+4 < 2 ^ 39∧∀(row:List PyData) (n':Int),okR row→n'≤n+4→Q (.d (.tuple row)) n'
noncomputable def jh6:DSp:=fun ws n Q=>∃(ps:Pg) (hs:List Hn) (ns:List Nt),ws=[.tp,.d (pgD ps),.d (stD hs ns)]∧okPg ps∧okHs ps hs∧okNs 6 ns∧n+50 < 2 ^ 39∧∀(ns':List Nt) (n':Int),okNs 11 ns'→n'≤n+50→Q (.d (stD hs ns')) n'
noncomputable def ji1:DSp:=fun ws n Q=>ws=[.tp]∧n < 2 ^ 39∧∀v∈jnk,Q (.d v) (n+1)
noncomputable def jes:DSp:=fun ws n Q=>∃m:Nat,ws=[.tp,.d (.int m)]∧m≤12∧n+100 < 2 ^ 39∧∀(ns:List Nt) (n':Int),okNs m ns→n'≤n+100→Q (.d (nsD ns)) n'
noncomputable def jmr:DSp:=fun ws n Q=>ws=[.tp]∧n+4200 < 2 ^ 39∧∀(ps:Pg) (d:PyData) (n':Int),okPg ps→n'≤n+4200→Q (.d (.tuple [pgD ps,d])) n'
noncomputable def jf0:DSp:=fun ws n Q=>∃(P:List Bl) (i p:Nat) (b:Bl),ws=[.d (prD P),.d (.int i),.d (.int p)]∧P[i]?=some b∧okB b∧p≤b.2.length∧∀ys:List Str,ys.length≤40→ys.Nodup→(∀k∈ys,okK k)→Q (.d (.list (ys.map .str))) n
noncomputable def jh5:DSp:=fun ws n Q=>∃ps:Pg,ws=[.tp,.d (pgD ps)]∧okPg ps∧n+400 < 2 ^ 39∧∀(hs:List Hn) (ns:List Nt) (n':Int),okHs ps hs→okNs 6 ns→n'≤n+400→Q (.d (stD hs ns)) n'
noncomputable def jem:DST:=(sSeq (sSet 4 (w2 (wVar 0) (wC (.int (0))) gIx)) (sSeq (sIf (cT (w2 (wVar 4) (wC (.str "is")) gEq)) (sRet (w2 (w2 (wVar 0) (wC (.int (1))) gIx) (wVar 1) gEq)) ja6) (sSeq (sIf (cT (w2 (wVar 4) (wC (.str "word")) gEq)) (sRet (wIsi "str" (wVar 1))) ja6) (sSeq (sIf (cT (w2 (wVar 4) (wC (.str "number")) gEq)) (sRet (wIsi "int" (wVar 1))) ja6) (sSeq (sIf (cT (w2 (wVar 4) (wC (.str "as")) gEq)) (sRet (wAnd (w2 (w2 (wVar 0) (wC (.int (1))) gIx) (jdk 2) (gDIn false)) (w2 (w2 (jdk 2) (w2 (wVar 0) (wC (.int (1))) gIx) jiu) (wVar 1) gEq))) ja6) (sSeq (sIf (cT (w2 (wVar 4) (wC (.str "bind")) gEq)) (sRet (wOr (w2 (w2 (wVar 0) (wC (.int (1))) gIx) (jdk 3) (gDIn true)) (w2 (w2 (jdk 3) (w2 (wVar 0) (wC (.int (1))) gIx) jiu) (wVar 1) gEq))) ja6) (sRet (wC (.bool true)))))))))
noncomputable def jor:DST:=(sSeq (sIf (cT (w2 (wB gLen (jab (wVar 0) aNil)) (wB gLen (jab (wVar 1) aNil)) gNe)) (sRet (wC .none)) ja6) (sSeq (jli 3 (jo6 (wVar 2))) (sSeq (jli 4 kNil) (sSeq (sFor (jrs (wVar 0) (wVar 1)) (jhp 2 (jbv (jak 5) (jbv (jak 6) jfe))) (sSeq (sIf (cNot (cT (jaq S_ff (jab (wVar 5) (jab (wVar 6) (jab (jdk 3) (jab (jdk 4) aNil))))))) (sRet (wC .none)) ja6) (sIf (cT (w2 (w2 (wVar 5) (wC (.int (0))) gIx) (wC (.str "bind")) gEq)) (sSeq (jib 4 (w2 (wVar 5) (wC (.int (1))) gIx) (wVar 6)) (jib 3 (w2 (wVar 5) (wC (.int (1))) gIx) (wVar 6))) ja6))) (sRet (wB je0 (jab (wOf (jjo (jdk 3))) aNil)))))))
noncomputable def jgh:DST:=(sSeq (sSet 3 (w2 (w2 (w2 (wVar 1) (wC (.int (0))) gIx) (wVar 2) gIx) (wC (.int (0))) gIx)) (sSeq (sSet 4 (w2 (w2 (w2 (wVar 1) (wC (.int (0))) gIx) (wVar 2) gIx) (wC (.int (1))) gIx)) (sSeq (sSet 5 (w2 (w2 (w2 (wVar 0) (wVar 2) gIx) (wVar 3) gIx) (wC (.int (1))) gIx)) (sRet (wIf (cT (w2 (wVar 4) (wB gLen (jab (wVar 5) aNil)) gLt)) (w2 (wVar 5) (wVar 4) gIx) (wC .none))))))
noncomputable def jss:DST:=(sSeq (sSet 3 (jaq jcz (jab (wVar 0) (jab (wVar 1) (jab (wVar 2) aNil))))) (sSeq (sIf (cOr (cT (w2 (wVar 3) (wC .none) (gIsN false))) (cT (jpq ["take","read","look"] (w2 (wVar 3) (wC (.int (0))) gIx)))) (sRet (wC .none)) ja6) (sSeq (sSet 4 (w2 (w2 (w2 (wVar 1) (wC (.int (0))) gIx) (wVar 2) gIx) (wC (.int (2))) gIx)) (sSeq (jte 5) (sSeq (sFor (jrt (w2 (wVar 1) (wC (.int (1))) gIx)) (jhp 2 (jbv (jak 6) (jbv (jak 7) jfe))) (sIf (cT (jsx 5 (w2 (wVar 7) (wC (.int (0))) gIx))) (sSeq (sIf (cT (w2 (jaq jmw (jab (w2 (wVar 3) (wC (.int (1))) gIx) (jab (w2 (wVar 7) (wC (.int (0))) gIx) (jab (wVar 4) aNil)))) (wC .none) (gIsN true))) (sRet (wVar 6)) ja6) (jyt 5 (w2 (wVar 7) (wC (.int (0))) gIx) (wC (.bool true)))) ja6)) (sRet (wC .none)))))))
noncomputable def jgi:DST:=(sSeq (sSet 3 (jaq jcz (jab (wVar 0) (jab (wVar 1) (jab (wVar 2) aNil))))) (sSeq (sIf (cT (w2 (wVar 3) (wC .none) (gIsN false))) (sRet (wC (.bool false))) ja6) (sRet (wOr (w2 (w2 (wVar 3) (wC (.int (0))) gIx) (wTup (jab (wC (.str "take")) (jab (wC (.str "read")) aNil))) (gIn true)) (w2 (jaq jh8 (jab (wVar 0) (jab (wVar 1) (jab (wVar 2) aNil)))) (wC .none) (gIsN true))))))
noncomputable def jnl:DST:=(jtd (jcy [none,some 0,some 1] (jaz (wB gLen (jab (wVar 0) aNil))) (jak 0) (cT (jaq jbz (jab (wVar 1) (jab (wVar 2) (jab (wVar 0) aNil))))) (wVar 0)))
noncomputable def jen:DST:=(sRet (w2 (wOf (fLst (jab (wC (.str "a")) (jab (wC (.int (0))) (jab (wC (.str "a")) (jab (wC (.int (1))) (jab (wC (.str "ab")) (jab (wC (.str "go")) (jab (wC (.int (99))) (jab (wC (.int (0))) aNil)))))))))) (jaq jay (jab (wVar 0) (jab (wC (.int (8))) aNil))) gIx))
noncomputable def jfi:DST:=(sRet (w2 (wOf (fLst (jab (wC (.int (1))) (jab (wC (.int (2))) (jab (wC (.int (2))) (jab (wC (.int (2))) (jab (wC (.int (1))) (jab (wC (.int (3))) (jab (wC (.int (4))) aNil))))))))) (jaq jay (jab (wVar 0) (jab (wC (.int (7))) aNil))) gIx))
noncomputable def jgl:DST:=(sRet (w2 (wTp3 0) (jaq jay (jab (wVar 0) (jab (wB jff (jab (wTp3 0) aNil)) aNil))) gIxL))
noncomputable def jdy:DST:=(sSeq (sOwn 2 (fLst aNil)) (sSeq (sOwn 3 (fLst aNil)) (sSeq (sFor (jaz (jaq je4 (jab (wVar 0) aNil))) (jak 4) (sSeq (sSet 5 (jaq jay (jab (wVar 0) (jab (wC (.int (9))) aNil)))) (sSeq (sSet 6 (w2 (wVar 1) (je5 3) gCat)) (sIf (cT (w2 (wVar 5) (wC (.int (3))) gLt)) (sApp 2 (wTup (jab (wC (.str "is")) (jab (jaq jck (jab (wVar 0) aNil)) aNil)))) (sIf (cT (w2 (wVar 5) (wC (.int (6))) gLt)) (sApp 2 (w2 (wOf (fLst (jab (wTup (jab (wC (.str "any")) aNil)) (jab (wTup (jab (wC (.str "word")) aNil)) (jab (wTup (jab (wC (.str "number")) aNil)) aNil))))) (w2 (wVar 5) (wC (.int (3))) (gI0 fun i j=>.int (i - j))) gIxL)) (sIf (cOr (cT (w2 (wVar 5) (wC (.int (8))) gLt)) (cT (w2 (wVar 6) (wOf (fLst aNil)) gEqL))) (sSeq (sSet 7 (w2 (wOf (fLst (jab (wC (.str "n")) (jab (wC (.str "nm")) (jab (wC (.str "go")) (jab (wC (.str "m")) aNil)))))) (jaq jay (jab (wVar 0) (jab (wC (.int (4))) aNil))) gIxL)) (sSeq (sApp 3 (wVar 7)) (sApp 2 (wTup (jab (wC (.str "bind")) (jab (wVar 7) aNil)))))) (sApp 2 (wTup (jab (wC (.str "as")) (jab (w2 (wVar 6) (jaq jay (jab (wVar 0) (jab (wB jff (jab (wVar 6) aNil)) aNil))) gIxL) aNil)))))))))) (sFrz 2 (sFrz 3 (sRet (wTup (jab (wB jc1 (jab (wVar 2) aNil)) (jab (wVar 3) aNil)))))))))
noncomputable def jdi:DST:=(sSeq (sOwn 2 (fLst aNil)) (sSeq (sFor (jaz (jaq je4 (jab (wVar 0) aNil))) (jak 3) (sSeq (sSet 4 (jaq jay (jab (wVar 0) (jab (wC (.int (6))) aNil)))) (sIf (cOr (cT (w2 (wVar 4) (wC (.int (3))) gLt)) (cT (w2 (wVar 1) (wOf (fLst aNil)) gEqL))) (sApp 2 (wTup (jab (wC (.str "is")) (jab (jaq jck (jab (wVar 0) aNil)) aNil)))) (sApp 2 (wTup (jab (w2 (wOf (fLst (jab (wC (.str "as")) (jab (wC (.str "as")) (jab (wC (.str "next")) aNil))))) (w2 (wVar 4) (wC (.int (3))) (gI0 fun i j=>.int (i - j))) gIxL) (jab (w2 (wVar 1) (jaq jay (jab (wVar 0) (jab (wB jff (jab (wVar 1) aNil)) aNil))) gIxL) aNil))))))) (sFrz 2 (sRet (wB jc1 (jab (wVar 2) aNil))))))
noncomputable def jfh:DST:=(sSeq (sIf (cOr (cT (w2 (wVar 1) (wOf (fLst aNil)) gEqL)) (cT (w2 (jaq jay (jab (wVar 0) (jab (wC (.int (2))) aNil))) (wC (.int (0))) gEqL))) (sRet (wTup (jab (wC (.str "is")) (jab (jaq jck (jab (wVar 0) aNil)) aNil)))) ja6) (sRet (wTup (jab (wC (.str "as")) (jab (w2 (wVar 1) (jaq jay (jab (wVar 0) (jab (wB jff (jab (wVar 1) aNil)) aNil))) gIxL) aNil)))))
noncomputable def jgm:DST:=(sSeq (sSet 3 (jaq jay (jab (wVar 0) (jab (wC (.int (12))) aNil)))) (sSeq (sIf (cT (w2 (wVar 3) (wC (.int (4))) gLt)) (sRet (wTup (jab (wTup (jab (wC (.str "lay")) (jab (jaq jmt (jab (wVar 0) (jab (wVar 1) aNil))) (jab (jaq ji1 (jab (wVar 0) aNil)) aNil)))) (jab (wOf (fLst aNil)) aNil)))) ja6) (sSeq (sSet 4 (w2 (wVar 2) (jaq jay (jab (wVar 0) (jab (wB jff (jab (wVar 2) aNil)) aNil))) gIxL)) (sSeq (sIf (cT (w2 (wVar 3) (wC (.int (10))) gEqL)) (sRet (wTup (jab (wTup (jab (wC (.str "same")) (jab (jaq jgn (jab (wVar 0) (jab (wVar 1) aNil))) (jab (jaq jgn (jab (wVar 0) (jab (wVar 1) aNil))) (jab (wVar 4) aNil))))) (jab (wOf (fLst aNil)) aNil)))) ja6) (sSeq (sIf (cT (w2 (wVar 3) (wC (.int (11))) gEqL)) (sRet (wTup (jab (wTup (jab (wC (.str "go")) (jab (wVar 4) aNil))) (jab (wOf (fLst aNil)) aNil)))) ja6) (sSeq (sUnp (jaq jmu (jab (wVar 0) (jab (wVar 1) aNil))) (jhp 2 (jbv (jak 5) (jbv (jak 6) jfe)))) (sSeq (sIf (cT (w2 (wVar 3) (wC (.int (7))) gGt)) (sRet (wTup (jab (wTup (jab (wC (.str "look")) (jab (wVar 5) (jab (wVar 4) aNil)))) (jab (wVar 6) aNil)))) ja6) (sRet (wTup (jab (wTup (jab (w2 (wOf (fLst (jab (wC (.str "take")) (jab (wC (.str "take")) (jab (wC (.str "take")) (jab (wC (.str "read")) aNil)))))) (w2 (wVar 3) (wC (.int (4))) (gI0 fun i j=>.int (i - j))) gIxL) (jab (wVar 5) aNil))) (jab (wVar 6) aNil)))))))))))
noncomputable def jdx:DST:=(sSeq (sOwn 1 (fLst (jab (wTup aNil) aNil))) (sSeq (sFor (jaz (w2 (wOf (fLst (jab (wC (.int (0))) (jab (wC (.int (1))) (jab (wC (.int (2))) (jab (wC (.int (1))) (jab (wC (.int (0))) (jab (wC (.int (2))) (jab (wC (.int (5))) aNil))))))))) (jaq jay (jab (wVar 0) (jab (wC (.int (7))) aNil))) gIxL)) (jak 2) (sApp 1 (w2 (wOf (fLst (jab (wTup aNil) (jab (wTup (jab (wC (.str "n")) aNil)) (jab (wTup (jab (wC (.str "go")) (jab (wC (.str "n")) aNil))) (jab (wTup (jab (wC (.str "nm")) aNil)) (jab (wTup aNil) aNil))))))) (jaq jay (jab (wVar 0) (jab (wC (.int (5))) aNil))) gIxL))) (sSeq (sOwn 3 (fLst aNil)) (sFrz 1 (sSeq (sFor (jim (wVar 1)) (jak 4) (sSeq (sOwn 5 (jd6 (wVar 4))) (sSeq (sOwn 6 (fLst aNil)) (sSeq (sFor (jaz (w2 (wOf (fLst (jab (wC (.int (2))) (jab (wC (.int (3))) (jab (wC (.int (1))) (jab (wC (.int (4))) (jab (wC (.int (2))) (jab (wC (.int (0))) (jab (wC (.int (3))) (jab (wC (.int (8))) aNil)))))))))) (jaq jay (jab (wVar 0) (jab (wC (.int (8))) aNil))) gIxL)) (jak 2) (sSeq (sSet 8 (wOf (jcy [none,some 5,some 1] (jaz (wB jff (jab (wVar 1) aNil))) (jak 0) (cT (w2 (wOf (jcy [none,some 1] (jef (w2 (wVar 2) (wVar 0) gIxL)) (jak 0) (cT (w2 (wVar 0) (wVar 1) (gInL true))) (wVar 0))) (wOf (fLst aNil)) gEqL)) (wVar 0)))) (sSeq (sUnp (jaq jh7 (jab (wVar 0) (jab (je5 5) (jab (wVar 8) aNil)))) (jhp 2 (jbv (jak 9) (jbv (jak 10) jfe)))) (sSeq (sApp 6 (wVar 9)) (sFor (jim (wVar 10)) (jak 7) (sIf (cT (w2 (wVar 7) (je5 5) (gInL true))) (sApp 5 (wVar 7)) ja6)))))) (sFrz 6 (sApp 3 (wTup (jab (wVar 4) (jab (wB jc1 (jab (wVar 6) aNil)) aNil))))))))) (sFrz 3 (sRet (wB jc1 (jab (wVar 3) aNil)))))))))
noncomputable def jep:DST:=(sSeq (sOwn 2 (fLst aNil)) (sSeq (sFor (jaz (jaq jay (jab (wVar 0) (jab (w2 (wVar 1) (wC (.int (1))) (gI0 fun i j=>.int (i+j))) aNil)))) (jak 3) (sSeq (sSet 4 (wB jc1 (jab (wOf (jcy [none,some 0] (jaz (jaq je4 (jab (wVar 0) aNil))) (jak 0) cYes (jaq jck (jab (wVar 1) aNil)))) aNil))) (sApp 2 (wTup (jab (wVar 4) (jab (jaq ji1 (jab (wVar 0) aNil)) aNil)))))) (sFrz 2 (sRet (wB jc1 (jab (wVar 2) aNil))))))
noncomputable def jfj:DST:=(sSeq (sOwn 1 (jcy [none,some 0] (jaz (w2 (wOf (fLst (jab (wC (.int (2))) (jab (wC (.int (1))) (jab (wC (.int (2))) (jab (wC (.int (3))) (jab (wC (.int (2))) (jab (wC (.int (1))) (jab (wC (.int (0))) (jab (wC (.int (5))) aNil)))))))))) (jaq jay (jab (wVar 0) (jab (wC (.int (8))) aNil))) gIxL)) (jak 0) cYes (jaq jmq (jab (wVar 1) aNil)))) (sSeq (sIf (cAnd (cT (w2 (wB jff (jab (je5 1) aNil)) (wC (.int (2))) gEqL)) (cT (w2 (jaq jay (jab (wVar 0) (jab (wC (.int (4))) aNil))) (wC (.int (0))) gEqL))) (sPut 1 (wC (.int (1))) (w2 (je5 1) (wC (.int (0))) gIxL)) ja6) (sFrz 1 (sRet (wTup (jab (wB jc1 (jab (wVar 1) aNil)) (jab (jaq jes (jab (wVar 0) (jab (w2 (wOf (fLst (jab (wC (.int (4))) (jab (wC (.int (3))) (jab (wC (.int (6))) (jab (wC (.int (12))) aNil)))))) (jaq jay (jab (wVar 0) (jab (wC (.int (4))) aNil))) gIxL) aNil))) aNil)))))))
noncomputable def jer:DST:=(sSeq (sOwn 3 (jd6 (w2 (w2 (wVar 0) (wVar 1) gIx) (wC (.int (0))) gIx))) (sSeq (sFor (jef (jpo (w2 (w2 (wVar 0) (wVar 1) gIx) (wC (.int (1))) gIx) jxi (jxh (wVar 2)))) (jak 4) (sIf (cT (w2 (w2 (wVar 4) (wC (.int (0))) gIx) (wTup (jab (wC (.str "take")) (jab (wC (.str "read")) (jab (wC (.str "look")) aNil)))) (gIn false))) (sExt 3 (wOf (jcy [none] (jef (w2 (wVar 4) (wC (.int (1))) gIx)) (jak 0) (cT (w2 (w2 (wVar 0) (wC (.int (0))) gIx) (wC (.str "bind")) gEq)) (w2 (wVar 0) (wC (.int (1))) gIx)))) ja6)) (sFrz 3 (sRet (wOf (jkm (wVar 3)))))))
noncomputable def jeo:DST:=(sSeq (sOwn 2 (fLst aNil)) (sSeq (sFor (jef (wVar 1)) (jak 3) (sSeq (sSet 4 (jaq jay (jab (wVar 0) (jab (wB gLen (jab (wVar 3) aNil)) aNil)))) (sSeq (sSet 5 (jaq jay (jab (wVar 0) (jab (w2 (wB gLen (jab (w2 (w2 (wVar 3) (wVar 4) gIx) (wC (.int (1))) gIx) aNil)) (wC (.int (1))) (gI0 fun i j=>.int (i+j))) aNil)))) (sSeq (sSet 6 (wB je0 (jab (wOf (jcy [none,some 0] (jim (jaq jf0 (jab (wVar 3) (jab (wVar 4) (jab (wVar 5) aNil))))) (jak 0) cYes (wTup (jab (wVar 0) (jab (jaq jck (jab (wVar 1) aNil)) aNil))))) aNil))) (sApp 2 (wTup (jab (wVar 4) (jab (wVar 5) (jab (wVar 6) aNil))))))))) (sFrz 2 (sRet (wTup (jab (wB je0 (jab (wVar 2) aNil)) (jab (jaq jes (jab (wVar 0) (jab (wC (.int (6))) aNil))) aNil)))))))
noncomputable def jew:DST:=(sSeq (sIf (cT (w2 (wB gLen (jab (wVar 0) aNil)) (wB gLen (jab (wVar 1) aNil)) gNe)) (sRet (wC .none)) ja6) (sSeq (jli 3 (jo6 (wVar 2))) (sSeq (sOwn 4 (fLst aNil)) (sSeq (sFor (jrs (wVar 0) (wVar 1)) (jhp 2 (jbv (jak 5) (jbv (jak 6) jfe))) (sSeq (sSet 7 (w2 (wVar 5) (wC (.int (0))) gIx)) (sSeq (sSet 8 (wC (.bool true))) (sSeq (sIf (cT (w2 (wVar 7) (wC (.str "is")) gEq)) (sSet 8 (w2 (w2 (wVar 5) (wC (.int (1))) gIx) (wVar 6) gEq)) (sIf (cT (w2 (wVar 7) (wTup (jab (wC (.str "word")) (jab (wC (.str "number")) aNil))) (gIn false))) (sSet 8 (w2 (wIsi "str" (wVar 6)) (w2 (wVar 7) (wC (.str "word")) gEq) gEq)) (sIf (cOr (cT (w2 (wVar 7) (wC (.str "as")) gEq)) (cAnd (cT (w2 (wVar 7) (wC (.str "bind")) gEq)) (cT (ji2 4 (w2 (wVar 5) (wC (.int (1))) gIx))))) (sSet 8 (wAnd (w2 (w2 (wVar 5) (wC (.int (1))) gIx) (jdk 3) (gDIn false)) (w2 (w2 (jdk 3) (w2 (wVar 5) (wC (.int (1))) gIx) jiu) (wVar 6) gEq))) (sIf (cT (w2 (wVar 7) (wC (.str "bind")) gEq)) (sSeq (jib 3 (w2 (wVar 5) (wC (.int (1))) gIx) (wVar 6)) (sApp 4 (w2 (wVar 5) (wC (.int (1))) gIx))) ja6)))) (sIf (cNot (cT (wVar 8))) (sRet (wC .none)) ja6))))) (sRet (wObK 3))))))
noncomputable def jdj:DST:=(sSeq (sUnp (w2 (w2 (wVar 1) (wC (.int (0))) gIx) (wVar 2) gIx) (jhp 3 (jbv (jak 3) (jbv (jak 4) (jbv (jak 5) jfe))))) (sSeq (sSet 6 (w2 (w2 (w2 (wVar 0) (wVar 2) gIx) (wVar 3) gIx) (wC (.int (1))) gIx)) (sRet (wIf (cT (w2 (wVar 4) (wB gLen (jab (wVar 6) aNil)) gLt)) (w2 (wVar 6) (wVar 4) gIx) (wC .none)))))
noncomputable def jgj:DST:=(sSeq (sSet 3 (jaq jcz (jab (wVar 0) (jab (wVar 1) (jab (wVar 2) aNil))))) (sSeq (sIf (cOr (cT (w2 (wVar 3) (wC .none) (gIsO false))) (cT (w2 (w2 (wVar 3) (wC (.int (0))) gIx) (wTup (jab (wC (.str "take")) (jab (wC (.str "read")) (jab (wC (.str "look")) aNil)))) (gIn true)))) (sRet (wC .none)) ja6) (sSeq (sFor (jaz (wB gLen (jab (w2 (wVar 1) (wC (.int (1))) gIx) aNil))) (jak 4) (sSeq (sSet 5 (jaq jmv (jab (w2 (wVar 3) (wC (.int (1))) gIx) (jab (w2 (w2 (w2 (wVar 1) (wC (.int (1))) gIx) (wVar 4) gIx) (wC (.int (0))) gIx) (jab (w2 (w2 (w2 (wVar 1) (wC (.int (0))) gIx) (wVar 2) gIx) (wC (.int (2))) gIx) aNil))))) (sIf (cT (w2 (wVar 5) (wC .none) (gIsO true))) (sRet (jpp (wVar 4) (wVar 5))) ja6))) (sRet (wC .none)))))
noncomputable def jgk:DST:=(sSeq (sSet 3 (jaq jcz (jab (wVar 0) (jab (wVar 1) (jab (wVar 2) aNil))))) (sSeq (sIf (cT (w2 (wVar 3) (wC .none) (gIsO false))) (sRet (wC (.bool false))) ja6) (sRet (wOr (w2 (w2 (wVar 3) (wC (.int (0))) gIx) (wTup (jab (wC (.str "take")) (jab (wC (.str "read")) aNil))) (gIn true)) (w2 (jaq jnm (jab (wVar 0) (jab (wVar 1) (jab (wVar 2) aNil)))) (wC .none) (gIsO true))))))
noncomputable def jfk:DST:=(sSeq (jli 3 (jo6 (wVar 2))) (sSeq (sOwn 4 (fLst aNil)) (sSeq (sFor (jef (wVar 1)) (jak 5) (sSeq (sSet 6 (jaq jck (jab (wVar 0) aNil))) (sSeq (sIf (cT (w2 (w2 (wVar 5) (wC (.int (0))) gIx) (wC (.str "is")) gEq)) (sSet 6 (w2 (wVar 5) (wC (.int (1))) gIx)) (sIf (cT (w2 (w2 (wVar 5) (wC (.int (0))) gIx) (wTup (jab (wC (.str "word")) (jab (wC (.str "number")) aNil))) (gIn false))) (sSet 6 (w2 (jsw "word" "ab" "number" 99) (w2 (wVar 5) (wC (.int (0))) gIx) jiu)) (sIf (cT (w2 (w2 (wVar 5) (wC (.int (0))) gIx) (wTup (jab (wC (.str "bind")) (jab (wC (.str "as")) aNil))) (gIn false))) (sSeq (sSet 6 (jk3 (jdk 3) (w2 (wVar 5) (wC (.int (1))) gIx) (wVar 6))) (jib 3 (w2 (wVar 5) (wC (.int (1))) gIx) (wVar 6))) ja6))) (sApp 4 (wVar 6))))) (sFrz 4 (sRet (wB je0 (jab (wVar 4) aNil)))))))
noncomputable def jeq:DST:=(sSeq (sOwn 3 (jd6 (w2 (wVar 2) (wC (.int (1))) gIx))) (sSeq (sFor (jaz (wB gLen (jab (wVar 1) aNil))) (jak 4) (sSeq (sSet 5 (jaq jcz (jab (wVar 1) (jab (wVar 2) (jab (wVar 4) aNil))))) (sIf (cAnd (cT (w2 (wVar 5) (wC .none) (gIsN true))) (cAnd (cT (w2 (w2 (wVar 5) (wC (.int (0))) gIx) (wTup (jab (wC (.str "take")) (jab (wC (.str "read")) (jab (wC (.str "look")) aNil)))) (gIn false))) (cT (w2 (jaq jay (jab (wVar 0) (jab (wC (.int (3))) aNil))) (wC (.int (0))) gGt)))) (sSeq (sSet 6 (wTup (jab (jaq jms (jab (wVar 0) (jab (w2 (wVar 5) (wC (.int (1))) gIx) (jab (w2 (w2 (w2 (wVar 2) (wC (.int (0))) gIx) (wVar 4) gIx) (wC (.int (2))) gIx) aNil)))) (jab (jaq ji1 (jab (wVar 0) aNil)) aNil)))) (sIns 3 (jaq jay (jab (wVar 0) (jab (w2 (jha 3) (wC (.int (1))) (gI0 fun i j=>.int (i+j))) aNil))) (wVar 6))) ja6))) (sFrz 3 (sRet (wTup (jab (w2 (wVar 2) (wC (.int (0))) gIx) (jab (wB je0 (jab (wVar 3) aNil)) aNil)))))))
noncomputable def jct:DST:=(sSeq (sFor (jaz (wB gLen (jab (wVar 0) aNil))) (jak 2) (sSeq (sSet 3 (jaq jnm (jab (wVar 0) (jab (wVar 1) (jab (wVar 2) aNil))))) (sSeq (sSet 4 (jaq jh8 (jab (wVar 0) (jab (wVar 1) (jab (wVar 2) aNil))))) (sIf (cOr (cAnd (cT (w2 (wVar 3) (wC .none) (gIsO false))) (cT (w2 (wVar 4) (wC .none) (gIsO true)))) (cAnd (cT (w2 (wVar 3) (wC .none) (gIsO true))) (cT (w2 (wB joh (jab (wVar 4) aNil)) (wB joh (jab (w2 (wVar 3) (wC (.int (0))) gIxO) aNil)) gNe)))) (sRet (wC (.bool false))) ja6)))) (sRet (wC (.bool true))))
noncomputable def j03:DST:=(sSeq (sSet 2 (w2 (jaq jmr (jab (wVar 1) aNil)) (wC (.int (0))) gIxL)) (sSeq (sFor (jaz (wC (.int (5)))) (jak 3) (sSeq (sSet 4 (jaq jh6 (jab (wVar 1) (jab (wVar 2) (jab (jaq jh5 (jab (wVar 1) (jab (wVar 2) aNil))) aNil))))) (sSeq (sSet 5 (wOf (jcy [none,some 2,some 4] (jaz (wB jff (jab (wVar 2) aNil))) (jak 0) (cT (jaq jbz (jab (wVar 1) (jab (wVar 2) (jab (wVar 0) aNil))))) (wVar 0)))) (sFor (jaz (wC (.int (2)))) (jak 6) (sSeq (sOwn 7 (jjp jfl (jab (wVar 2) (jab (wVar 4) aNil)))) (sSeq (sIf (cOr (cNot (cT (jv9 (je5 7)))) (cT (w2 (wB jog (jab (je5 7) aNil)) (wB jog (jab (wVar 5) aNil)) gNe))) (sRet (wC (.bool false))) ja6) (sSeq (sApp 7 (wC (.int (0)))) (sIf (cNot (cT (jaq S_gr (jab (wVar 2) (jab (wVar 4) aNil))))) (sRet (wC (.bool false))) ja6)))))))) (sRet (w2 (wOf (jjp jfl (jab (wTup aNil) (jab (wTup (jab (wTup aNil) (jab (wTup aNil) aNil))) aNil)))) (wOf (fLst aNil)) gEqL))))
theorem jie:∀ws n Q,S_ff ws n Q→ws.length=4:=fun ws n Q h=>by
 obtain⟨_,_,_,_,rfl,_⟩:=h
 rfl
theorem jhw:∀ws n Q,S_ff ws n Q→jem (jbf ["field","value","having","bound","head"] ws) n {nx:=fun _ n=>Q (.d .none) n,rt:=Q}:=fun ws n Q h=>by
 obtain⟨f,v,hp,bp,rfl,fok,hv,hh,hb,k⟩:=h
 show jem [some (.w (.d f.d)),some (.w (.d v)),some (.w (.dk (txK hp))),some (.w (.dk (txK bp))),none] n {nx:=fun _ n=>Q (.d .none) n,rt:=Q}
 cases f with
 |is w =>
  show(match eqD w v with | some r=>Q (.d (.bool r)) n | none=>False)
  rw[jr0 (show isV w=true from fok) hv]
  exact k
 |any=>exact k
 |word =>
  show Q (.d (.bool (isiB "str" v))) n
  cases v<;>exact k
 |number =>
  show Q (.d (.bool (isiB "int" v))) n
  cases v<;>first | cases hv | exact k
 |as x =>
  show jk1 (.d (.bool (valD (txK hp) (.inr x)).isSome)) (match valD (txK hp) (.inr x)with | some d=>(match eqD d v with | some r=>Q (.d (.bool r)) n | none=>False) | none=>False) (Q (.d (.bool false)) n)
  rw[jhb]
  unfold ffB at k
  cases e:look hp x with
  |none =>
   simp only[e]at k
   exact k
  |some w =>
   simp only[e]at k
   show(match eqD w v with | some r=>Q (.d (.bool r)) n | none=>False)
   rw[jr0 (hh _ (jd0 e)).2 hv]
   exact k
 |bind x =>
  show jk1 (.d (.bool (!(valD (txK bp) (.inr x)).isSome))) (Q (.d (.bool true)) n) (match valD (txK bp) (.inr x)with | some d=>(match eqD d v with | some r=>Q (.d (.bool r)) n | none=>False) | none=>False)
  rw[jhb]
  unfold ffB at k
  cases e:look bp x with
  |none =>
   simp only[e]at k
   exact k
  |some w =>
   simp only[e]at k
   show(match eqD w v with | some r=>Q (.d (.bool r)) n | none=>False)
   rw[jr0 (hb _ (jd0 e)).2 hv]
   exact k
theorem jvx {p:Prop} [Decidable p] {A B:Prop} (h1:p→A) (h2:¬p→B):if decide p=true then A else B:=by
 by_cases z:p
 ·rw[if_pos (decide_eq_true z)];exact h1 z
 ·rw[if_neg (by rw[decide_eq_false z];exact Bool.false_ne_true)];exact h2 z
theorem jn4:∀ps:Nm,jhg (ps.map jo3)=some (txK ps)
 |[]=>rfl
 |p::r=>by
  show(jhg (r.map jo3)).map _=_
  rw[jn4 r]
  rfl
theorem jww {l:Nm} {x:Str} {v:PyData} (h:x∉l.map (·.1)):put l x v=l++[(x,v)]:=by
 unfold put
 rw[if_neg fun z=>by
  obtain⟨p,hp,e⟩:=List.any_eq_true.mp z
  exact h (List.mem_map.mpr ⟨p,hp,of_decide_eq_true e⟩)]
theorem jj8:∀(r l:Nm),((l++r).map (·.1)).Nodup→jeb (txK l) (txK r)=txK (l++r)
 |[],l,_=>by rw[List.append_nil];rfl
 |p::r,l,nd=>by
  have e:l++p::r=(l++[p])++r:=by simp
  show jeb (putD (txK l) (.inr p.1) p.2) (txK r)=_
  rw[jll,jww,e]
  ·exact jj8 r (l++[p]) (by rw[←e];exact nd)
  ·intro z
   rw[List.map_append,List.map_cons,List.nodup_append]at nd
   exact nd.2.2 _ z _ List.mem_cons_self rfl
theorem jj6 {δ:Sl} {n:Int} {K:DEnds} {i j:Nat} {ps:Nm} (e:δ[j]?=some (some (.w (.d (jb3 ps))))) (ok:okN ps) (k:K.nx (δ.set i (some (.odk (txK ps)))) n):jli i (jo6 (wVar j)) δ n K:=by
 unfold jli jo6
 refine jad e ?_
 unfold jb3
 simp only[jn4]
 refine⟨by rw[List.length_map];have:=ok.1;omega,?_⟩
 have:=jj8 ps [] (by rw[List.nil_append];exact ok.2.1)
 rw[List.nil_append]at this
 rw[show([]:List (Key×PyData))=txK []from rfl,this]
 exact k
section
variable {δ:Sl} {n:Int} {K:DEnds} {W V:DST} {Q:DQ}
theorem jxs {i j n:Int} {Q:DQ} (k:Q (.d (.bool (!decide (i=j)))) n):gNe (.d (.int i)) (.d (.int j)) n Q:=k
theorem jvs {xs ys:List PyData} (e0:δ[0]?=some (some (.w (.d (.tuple xs))))) (e1:δ[1]?=some (some (.w (.d (.tuple ys))))) (hT:xs.length≠ys.length→W δ n K) (hF:xs.length=ys.length→V δ n K) :
  sIf (cT (w2 (wB gLen (jab (wVar 0) aNil)) (wB gLen (jab (wVar 1) aNil)) gNe)) W V δ n K:=by
 unfold sIf cT w2 wB jab aNil
 refine jad e0 ?_
 show wVar 1 δ n _
 refine jad e1 ?_
 dsimp only[gLen]
 refine jxs ?_
 refine ifb (fun h=>hT fun z=>?_) fun h=>hF ?_
 ·rw[z,decide_eq_true rfl]at h;cases h
 ·by_cases z:(xs.length:Int)=(ys.length:Int)
  ·exact Int.ofNat.inj z
  ·rw[decide_eq_false z]at h;cases h
theorem j1i {g:Fd} {v:PyData} {hp bp:Nm} (e5:δ[5]?=some (some (.w (.d g.d)))) (e6:δ[6]?=some (some (.w (.d v)))) (e3:δ[3]?=some (some (.odk (txK hp)))) (e4:δ[4]?=some (some (.odk (txK bp)))) (gok:g.ok) (hv:isV v=true) (hh:∀p∈hp,okV p) (hb:∀p∈bp,okV p)
  (hT:ffB g v hp bp=false→W δ n K) (hF:ffB g v hp bp=true→V δ n K):sIf (cNot (cT (jaq S_ff (jab (wVar 5) (jab (wVar 6) (jab (jdk 3) (jab (jdk 4) aNil))))))) W V δ n K:=by
 unfold sIf cNot cT jaq jab aNil
 refine jad e5 ?_
 refine jad e6 ?_
 unfold jdk
 simp only[e3,e4]
 refine⟨g,v,hp,bp,rfl,gok,hv,hh,hb,?_⟩
 refine ifb (fun h=>hT ?_) fun h=>hF ?_
 ·cases q:ffB g v hp bp with | false=>rfl | true=>rw[q]at h;cases h
 ·cases q:ffB g v hp bp with | true=>rfl | false=>rw[q]at h;cases h
variable {xs:List PyData} {j:Nat} {a b v:PyData} {r:List PyData}
end
noncomputable def Res (gs:List Fd) (vs:List PyData) (hp:Nm) (hs:List Str) (r:PyData):Prop:=match wk (gs.zip vs) hp hs with
 |none=>r=.none
 |some _=>jb5 r=false
theorem jyz {g:Fd} {v:PyData} {gs:List Fd} {vs:List PyData} {hp bp:Nm} {hs:List Str} (h1:∀x,x∈hs↔(look bp x).isSome=true) (h2:∀x w,look bp x=some w→look hp x=some w) (h:ffB g v hp bp=false):Res (g::gs) (v::vs) hp hs .none:=by
 have key:wk ((g,v)::gs.zip vs) hp hs=none:=by
  cases g with
  |is w=>unfold wk;rw[if_neg (by rw[show eqB w v=false from h];exact Bool.false_ne_true)]
  |any=>cases h
  |word=>unfold wk;rw[if_neg (by rw[show isSt v=false from h];exact Bool.false_ne_true)]
  |number=>unfold wk;rw[if_neg (by rw[show isIn v=false from h];exact Bool.false_ne_true)]
  |as x =>
   unfold wk
   unfold ffB at h
   cases q:look hp x with
   |none=>rfl
   |some w =>
    simp only[q]at h
    simp only[h,Bool.false_eq_true,if_false]
  |bind x =>
   unfold wk
   unfold ffB at h
   cases q:look bp x with
   |none=>simp only[q]at h;cases h
   |some w =>
    simp only[q]at h
    rw[if_pos ((h1 x).mpr (by rw[q];rfl)),h2 x w q]
    simp only[h,Bool.false_eq_true,if_false]
 unfold Res
 rw[List.zip_cons_cons,key]
theorem jx8 {g:Fd} {v:PyData} {l:List (Fd×PyData)} {hp bp:Nm} {hs:List Str} (ng:∀x,g≠.bind x) (h:ffB g v hp bp=true):wk ((g,v)::l) hp hs=wk l hp hs:=by
 cases g with
 |is w=>rw[wk,if_pos (show eqB w v=true from h)]
 |any=>rw[wk]
 |word=>rw[wk,if_pos (show isSt v=true from h)]
 |number=>rw[wk,if_pos (show isIn v=true from h)]
 |as x =>
  rw[wk]
  unfold ffB at h
  cases q:look hp x with
  |none=>simp only[q]at h;cases h
  |some w =>
   simp only[q]at h
   simp only[h,if_true]
 |bind x=>exact absurd rfl (ng x)
noncomputable def Fd.hd:Fd→Str
 |.is _=>"is"
 |.any=>"any"
 |.word=>"word"
 |.number=>"number"
 |.bind _=>"bind"
 |.as _=>"as"
noncomputable def Fd.tl:Fd→List PyData
 |.is v=>[v]
 |.bind x=>[.str x]
 |.as x=>[.str x]
 |_=>[]
theorem Fd.parts (g:Fd):g.d=.tuple (.str g.hd::g.tl):=by cases g<;>rfl
theorem jhn (x:Str):∀hs:List Str,inD (.str x) (hs.map .str)=decide (x∈hs)
 |[]=>by simp[inD]
 |y::r=>by
  show(eqF (.str y) (.str x) || inD (.str x) (r.map .str))=_
  rw[jhn x r]
  have e:eqF (.str y) (.str x)=decide (x=y):=by
   show(y==x)=_
   by_cases z:x=y
   ·subst z;rw[decide_eq_true rfl];exact beq_self_eq_true _
   ·rw[decide_eq_false z];exact beq_eq_false_iff_ne.mpr fun w=>z w.symm
  rw[e]
  by_cases z:x=y
  ·subst z;simp
  ·rw[decide_eq_false z,Bool.false_or]
   by_cases q:x∈r
   ·rw[decide_eq_true q,decide_eq_true (List.mem_cons_of_mem _ q)]
   ·rw[decide_eq_false q,decide_eq_false (by simp[z,q])]
theorem jzh {δ:Sl} {n:Int} {K:DEnds} {i:Nat} (k:K.nx (δ.set i (some (.odk (txK [])))) n):jli i kNil δ n K:=k
theorem jrx {δ:Sl} {n:Int} {K:DEnds} {g:DTG} {W:DST} {xs ys:List PyData} (e0:δ[0]?=some (some (.w (.d (.tuple xs))))) (e1:δ[1]?=some (some (.w (.d (.tuple ys))))) (hl:xs.length=ys.length) (k:forD g W K (zipD xs ys) δ n):sFor (jrs (wVar 0) (wVar 1)) g W δ n K:=by
 unfold sFor jrs
 exact jad e0 (jad e1 ⟨hl,k⟩)
theorem jt7:∀ws n Q,jmw ws n Q→ws.length=3:=fun ws n Q h=>by
 obtain⟨_,_,_,rfl,_⟩:=h
 rfl
theorem jsp:∀ws n Q,jmw ws n Q→jor (jbf ["pattern","row","names","having","bound","field","value"] ws) n {nx:=fun _ n=>Q (.d .none) n,rt:=Q}:=fun ws n Q h=>by
 obtain⟨fs,row,nm,rfl,okp,okr,okn,k⟩:=h
 show jor [some (.w (.d (patD fs))),some (.w (.d (.tuple row))),some (.w (.d (jb3 nm))),none,none,none,none] n {nx:=fun _ n=>Q (.d .none) n,rt:=Q}
 unfold jor
 refine jao (jvs (xs:=fs.map Fd.d) (ys:=row) rfl rfl (fun ne=>?_) fun el=>?_)
 ·show Q (.d .none) n
  refine k .none ?_
  unfold Fit
  rw[List.length_map]at ne
  rw[if_neg ne]
 ·rw[List.length_map]at el
  dsimp only[ja6]
  refine jao (jj6 rfl okn ?_)
  dsimp only[List.set]
  refine jao (jzh ?_)
  dsimp only[List.set]
  refine jao (jrx (xs:=fs.map Fd.d) (ys:=row) rfl rfl (by rw[List.length_map];exact el) ?_)
  refine jba (fun ds δ m=>m=n∧∃(gs:List Fd) (vs:List PyData) (hp bp:Nm) (hs:List Str) (y z:Option SV),ds=zipD (gs.map Fd.d) vs∧gs.length=vs.length∧δ=[some (.w (.d (patD fs))),some (.w (.d (.tuple row))),some (.w (.d (jb3 nm))),some (.odk (txK hp)),some (.odk (txK bp)),y,z] ∧
   (∀g∈gs,g.ok)∧(∀d∈vs,isV d=true)∧(hp.map (·.1)).Nodup∧(∀p∈hp,okV p)∧(∀p∈bp,okV p)∧hp.length+gs.length≤48∧bp.length+gs.length≤48∧(∀x,x∈hs↔(look bp x).isSome=true)∧(∀x w,look bp x=some w→look hp x=some w)∧∀r,Res gs vs hp hs r→Q (.d r) n) ?_ ?_ _ _ _ ?_
  ·rintro δ m ⟨rfl,gs,vs,hp,bp,hs,y,z,e,hl,rfl,gok,vok,nd,hok,bok,l1,l2,i1,i2,kq⟩
   have:gs=[]:=by
    cases gs with
    |nil=>rfl
    |cons g gs=>cases vs with | nil=>cases hl | cons v vs=>cases e
   subst this
   rw[List.length_nil]at l1
   show ∃ps':Nm,txK hp=txK ps'∧_
   refine⟨hp,rfl,by omega,nd,fun p hp'=>⟨Nat.le_trans (hok p hp').1.1 (by decide),j0g (hok p hp').2⟩,fun ps' p1 r1=>?_⟩
   exact kq (.tuple (ps'.map jo3)) rfl
  ·rintro d r δ m N ⟨rfl,gs,vs,hp,bp,hs,y,z,e,hl,rfl,gok,vok,nd,hok,bok,l1,l2,i1,i2,kq⟩ hN
   cases gs with
   |nil=>cases e
   |cons g gs =>
    cases vs with
    |nil=>cases hl
    |cons v vs =>
     have e1:d=.tuple [g.d,v]:=by have:=congrArg (fun l=>l.head?) e;simpa[zipD]using this
     have e2:r=zipD (gs.map Fd.d) vs:=by have:=congrArg List.tail e;simpa[zipD]using this
     subst e1 e2
     rw[List.length_cons]at l1 l2
     rw[List.length_cons,List.length_cons]at hl
     have gk:=gok g List.mem_cons_self
     have vk:=vok v List.mem_cons_self
     refine⟨rfl,?_⟩
     dsimp only[jbv,jak,jfe,List.set]
     refine jao (j1i rfl rfl rfl rfl gk vk hok bok (fun ff=>?_) fun ff=>?_)
     ·exact kq .none (jyz i1 i2 ff)
     ·dsimp only[ja6]
      have go:(∀x,g≠.bind x)→N [some (.w (.d (patD fs))),some (.w (.d (.tuple row))),some (.w (.d (jb3 nm))),some (.odk (txK hp)),some (.odk (txK bp)),some (.w (.d g.d)),some (.w (.d v))] m:=fun ng=>by
       refine hN _ _ ⟨rfl,gs,vs,hp,bp,hs,_,_,rfl,by omega,rfl,fun g hg=>gok g (List.mem_cons_of_mem _ hg),fun d hd=>vok d (List.mem_cons_of_mem _ hd),nd,hok,bok,by omega,by omega,i1,i2,fun r hr=>kq r ?_⟩
       unfold Res at hr ⊢
       rw[List.zip_cons_cons,jx8 ng ff]
       exact hr
      cases g with
      |is w=>exact go fun x z=>nomatch z
      |any=>exact go fun x z=>nomatch z
      |word=>exact go fun x z=>nomatch z
      |number=>exact go fun x z=>nomatch z
      |as x=>exact go fun x z=>nomatch z
      |bind x =>
       refine jz3 (a:=.str "bind") (r:=[.str x]) rfl jeg ?_
       show(txK bp).length < 1000∧(txK hp).length < 1000∧N [some (.w (.d (patD fs))),some (.w (.d (.tuple row))),some (.w (.d (jb3 nm))),some (.odk (putD (txK hp) (.inr x) v)),some (.odk (putD (txK bp) (.inr x) v)),some (.w (.d (Fd.d (.bind x)))),some (.w (.d v))] m
       rw[jll,jll]
       refine⟨by unfold txK;rw[List.length_map];omega,by unfold txK;rw[List.length_map];omega,?_⟩
       have p1:=jj4 hp x v
       have p2:=jj4 bp x v
       refine hN _ _ ⟨rfl,gs,vs,put hp x v,put bp x v,if x∈hs then hs else hs++[x],_,_,rfl,by omega,rfl,fun g hg=>gok g (List.mem_cons_of_mem _ hg),fun d hd=>vok d (List.mem_cons_of_mem _ hd),jvf nd,jnx hok gk vk,jnx bok gk vk,by omega,by omega,fun y=>?_,fun y w hw=>?_,fun r hr=>kq r ?_⟩
       ·by_cases q:y=x
        ·subst q
         rw[jft]
         refine⟨fun _=>rfl,fun _=>?_⟩
         split
         ·assumption
         ·exact List.mem_append_right _ (List.mem_singleton.mpr rfl)
        ·rw[jhk q,←i1]
         split
         ·exact Iff.rfl
         ·simp[q]
       ·by_cases q:y=x
        ·subst q
         rw[jft]at hw ⊢
         exact hw
        ·rw[jhk q]at hw ⊢
         exact i2 y w hw
       ·unfold Res at hr ⊢
        rw[List.zip_cons_cons,wk]
        by_cases q:x∈hs
        ·rw[if_pos q]at hr ⊢
         cases lb:look bp x with
         |none=>rw[i1,lb]at q;cases q
         |some w =>
          have lh:=i2 x w lb
          unfold ffB at ff
          simp only[lb]at ff
          have wv:w=v:=j0j (bok _ (jd0 lb)).2 vk ff
          subst wv
          rw[jtk nd lh]at hr
          simp only[lh,ff,if_true]
          exact hr
        ·rw[if_neg q]at hr ⊢
         exact hr
  ·refine⟨rfl,fs,row,nm,[],[],none,none,rfl,el,rfl,okp.2.2,okr.2,okn.2.1,okn.2.2,fun _ z=>absurd z List.not_mem_nil,by have:=okp.2.1;have:=okn.1;omega,by have:=okp.2.1;simp;omega,fun x=>⟨fun z=>absurd z List.not_mem_nil,fun z=>by cases z⟩,fun x w z=>(nomatch z),fun r hr=>k r ?_⟩
   unfold Fit
   rw[if_pos el]
   exact hr
section
variable {δ:Sl} {n:Int} {Q:DQ} {K:DEnds} {W V:DST} {i j:Nat} {a b d:PyData} {r ds:List PyData}
end
section
variable {δ:Sl} {n m:Int} {Q:DQ} {K:DEnds} {W V:DST} {i j:Nat} {ds:List PyData}
end
theorem jif:∀ws n Q,jck ws n Q→ws.length=1:=fun ws n Q h=>by obtain⟨rfl,_⟩:=h;rfl
theorem jhx:∀ws n Q,jck ws n Q→jen (jbf ["_law_tape_here"] ws) n {nx:=fun _ n=>Q (.d .none) n,rt:=Q}:=fun ws n Q h=>by
 obtain⟨rfl,hn,k⟩:=h
 show jen [some (.w .tp)] n _
 refine jb4 (w2_i (of_i (And.intro (by decide) ?_)))
 dsimp only
 refine jek (m:=8) rfl (by omega) (by decide) (by decide) fun r h0 h1=>jrl (ds:=[.str "a",.int 0,.str "a",.int 1,.str "ab",.str "go",.int 99,.int 0]) h0 h1 fun d hd=>k d ?_
 simp only[List.mem_cons,List.not_mem_nil,or_false]at hd
 rcases hd with rfl | rfl | rfl | rfl | rfl | rfl | rfl | rfl<;>simp[jsy]
theorem jkb:∀ws n Q,je4 ws n Q→ws.length=1:=fun ws n Q h=>by obtain⟨rfl,_⟩:=h;rfl
theorem jiy:∀ws n Q,je4 ws n Q→jfi (jbf ["_law_tape_here"] ws) n {nx:=fun _ n=>Q (.d .none) n,rt:=Q}:=fun ws n Q h=>by
 obtain⟨rfl,hn,k⟩:=h
 show jfi [some (.w .tp)] n _
 refine jb4 (w2_i (of_i (And.intro (by decide) ?_)))
 dsimp only
 refine jek (m:=7) rfl (by omega) (by decide) (by decide) fun r h0 h1=>jrl (ds:=[.int 1,.int 2,.int 2,.int 2,.int 1,.int 3,.int 4]) h0 h1 fun d hd=>?_
 simp only[List.mem_cons,List.not_mem_nil,or_false]at hd
 rcases hd with rfl | rfl | rfl | rfl | rfl | rfl | rfl
 ·exact k 1 (by decide) (by decide)
 ·exact k 2 (by decide) (by decide)
 ·exact k 2 (by decide) (by decide)
 ·exact k 2 (by decide) (by decide)
 ·exact k 1 (by decide) (by decide)
 ·exact k 3 (by decide) (by decide)
 ·exact k 4 (by decide) (by decide)
theorem jyx {δ:Sl} {n:Int} {K:DEnds} {W:DST} {g:DTG} (e:δ[0]?=some (some (.w .tp))) (hn:n < 2 ^ 39) (k:∀m:Nat,1≤m→m≤4→forD g W K (rngD 0 m) δ (n+1)):sFor (jaz (jaq je4 (jab (wVar 0) aNil))) g W δ n K:=by
 unfold sFor jaz
 refine c1_i (jad e (And.intro rfl ⟨hn,fun m h1 h4=>?_⟩))
 refine And.intro ⟨by omega,by omega⟩ ?_
 rw[Int.toNat_natCast]
 exact k m h1 h4
section
variable {δ:Sl} {n m:Int} {Q:DQ} {K:DEnds} {W V:DST} {i j:Nat} {ds:List PyData}
end
theorem jng {c:DTT} {w:DT} {Q:List PyData→Int→Prop} {rest:Sl} (g:Fe→Option PyData) (hno:∀(f:Fe) (n:Int) (Q':Bool→Int→Prop),g f=none→Q' false n→c (some (.w (.d f.d))::rest) n Q')
  (hyes:∀(f:Fe) (n:Int) (Q':Bool→Int→Prop) (y:PyData),g f=some y→Q' true n→c (some (.w (.d f.d))::rest) n Q') (hw:∀(f:Fe) (n:Int) (Q':DQ) (y:PyData),g f=some y→Q' (.d y) n→w (some (.w (.d f.d))::rest) n Q') :
  ∀(fs:List Fe) (acc:List PyData) (x:Option SV) (n:Int),Q (acc++fs.filterMap g) n→jdw (jak 0) c w Q (fs.map Fe.d) acc (x::rest) n
 |[],acc,x,n,q=>by
  rw[List.filterMap_nil,List.append_nil]at q
  exact q
 |f::r,acc,x,n,q=>by
  rw[List.map_cons]
  simp only[jdw,jak,List.set_cons_zero]
  cases e:g f with
  |none =>
   refine hno f n _ e ?_
   rw[if_neg Bool.false_ne_true]
   refine jng g hno hyes hw r acc _ n ?_
   rw[List.filterMap_cons_none e]at q
   exact q
  |some y =>
   refine hyes f n _ y e ?_
   rw[if_pos rfl]
   refine hw f n _ y e ?_
   refine jng g hno hyes hw r (acc++[y]) _ n ?_
   rw[List.filterMap_cons_some e]at q
   rw[List.append_assoc]
   exact q
noncomputable def strO (o:Option Str):Option PyData:=o.map .str
theorem js3 (g:Fe→Option Str) (fs:List Fe):fs.filterMap (fun f=>strO (g f))=(fs.filterMap g).map .str:=by
 rw[List.map_filterMap]
 rfl
theorem j1w (f:Fe):ja2 "bind" (.str f.hd)=f.bd.isSome:=by
 cases f with
 |any=>exact(show ja2 "bind" (.str "any")=false by decide +kernel)
 |word=>exact(show ja2 "bind" (.str "word")=false by decide +kernel)
 |num=>exact(show ja2 "bind" (.str "number")=false by decide +kernel)
 |isv _=>exact(show ja2 "bind" (.str "is")=false by decide +kernel)
 |bind _=>exact(show ja2 "bind" (.str "bind")=true by decide +kernel)
 |as _=>exact(show ja2 "bind" (.str "as")=false by decide +kernel)
 |nx _=>exact(show ja2 "bind" (.str "next")=false by decide +kernel)
theorem j1v {f:Fe} {k:Str} (h:f.bd=some k):f.d=.tuple [.str f.hd,.str k]:=by
 cases f<;>cases h
 rfl
theorem jla {o:Option Str} {y:PyData} (h:strO o=some y):∃k,o=some k∧y=.str k:=by
 cases o with
 |none=>cases h
 |some k=>cases h;exact⟨k,rfl,rfl⟩
theorem jp7 {o:Option Str} (h:strO o=none):o=none:=by
 cases o with
 |none=>rfl
 |some k=>cases h
theorem jtz {fs:List Fe} (h:okFs fs):∀k∈bndE fs,okK k:=fun k hk=>by
 obtain⟨f,hf,e⟩:=List.mem_filterMap.mp hk
 have:=h.2 f hf
 cases f<;>cases e
 exact this
theorem jt5 {fs:List Fe} (h:okFs fs):(bndE fs).length≤4:=Nat.le_trans (List.length_filterMap_le _ _) h.1
theorem jz0 {δ:Sl} {n:Int} {Q:DQ} {a b:PyData} (e:δ[0]?=some (some (.w (.d (.tuple [a,b]))))) (k:Q (.d b) n):w2 (wVar 0) (wC (.int 1)) gIx δ n Q:=jfv (r:=[]) e k
theorem jv3 {f:Fe} {rest:Sl} {n:Int} {Q':Bool→Int→Prop} (k:Q' f.bd.isSome n):cT (w2 (w2 (wVar 0) (wC (.int 0)) gIx) (wC (.str "bind")) gEq) (some (.w (.d f.d))::rest) n Q':=by
 refine j0h (i:=0) (a:=.str f.hd) (r:=f.tl) rfl ?_
 show Q' (ja2 "bind" (.str f.hd)) n
 rw[j1w]
 exact k
theorem jpe {Q:List PyData→Int→Prop} (fs:List Fe) (n:Int) (k:Q ((bndE fs).map .str) n) :
  jdw (jak 0) (cT (w2 (w2 (wVar 0) (wC (.int 0)) gIx) (wC (.str "bind")) gEq)) (w2 (wVar 0) (wC (.int 1)) gIx) Q (fs.map Fe.d) [] [none] n:=by
 refine jng (fun f=>strO f.bd) (fun f n Q' e q=>jv3 ?_) (fun f n Q' y e q=>jv3 ?_) (fun f n Q' y e q=>?_) fs [] none n ?_
 ·rw[jp7 e];exact q
 ·obtain⟨x,e1,_⟩:=jla e;rw[e1];exact q
 ·obtain⟨x,e1,rfl⟩:=jla e
  exact jz0 (by rw[j1v e1];rfl) q
 ·rw[js3];exact k
theorem j0y {a:Ac} (h:okFs a.fs):(∀k∈a.bs,okK k)∧a.bs.length≤4:=by
 cases a with
 |take fs=>exact⟨jtz h,jt5 h⟩
 |read fs=>exact⟨jtz h,jt5 h⟩
 |look fs b=>exact⟨jtz h,jt5 h⟩
 |lay fs b=>exact⟨fun k hk=>by simp[Ac.bs]at hk,by simp[Ac.bs]⟩
 |same f g b=>exact⟨fun k hk=>by simp[Ac.bs]at hk,by simp[Ac.bs]⟩
 |go b=>exact⟨fun k hk=>by simp[Ac.bs]at hk,by simp[Ac.bs]⟩
theorem jlt:∀{ys ks:List Str},ys.Nodup→(∀k∈ys,k∈ks)→ys.length≤ks.length
 |[],_,_,_=>Nat.zero_le _
 |y::ys,ks,h,hs=>by
  obtain⟨h1,h2⟩:=List.nodup_cons.mp h
  have hm:=hs y List.mem_cons_self
  have:=jlt (ks:=ks.erase y) h2 fun k hk=>(List.mem_erase_of_ne (fun(e:k=y)=>h1 (e▸hk))).mpr (hs k (List.mem_cons_of_mem _ hk))
  rw[List.length_erase_of_mem hm]at this
  have:=List.length_pos_of_mem hm
  rw[List.length_cons]
  omega
structure KnI (w:List Str) (dn:List Ac) (L:List Str):Prop where
 mem:∀k,k∈L↔k∈w++dn.flatMap Ac.bs
 len:L.length≤2+4*dn.length
 ok:∀k∈L,okK k
theorem KnI.first {w:List Str} (h:w.length≤2) (ok:∀k∈w,okK k):KnI w [] w:=⟨fun k=>by simp,by simpa using h,ok⟩
theorem KnI.skip {w L:List Str} {dn:List Ac} {a:Ac} (I:KnI w dn L) (e:a.bs=[]):KnI w (dn++[a]) L :=
 ⟨fun k=>by rw[I.mem k,List.flatMap_append];simp[e],by rw[List.length_append,List.length_singleton];have:=I.len;omega,I.ok⟩
theorem KnI.more {w L ys:List Str} {dn:List Ac} {a:Ac} (I:KnI w dn L) (h:∀k,k∈ys↔k∈a.bs) (hl:ys.length≤4) (ok:okFs a.fs):KnI w (dn++[a]) (L++ys) :=
 ⟨fun k=>by rw[List.mem_append,I.mem k,h k,List.flatMap_append,←List.append_assoc];simp[or_assoc],by rw[List.length_append,List.length_append,List.length_singleton];have:=I.len;omega,fun k hk=>by
  rcases List.mem_append.mp hk with z | z
  ·exact I.ok k z
  ·exact(j0y ok).1 k ((h k).mp z)⟩
theorem ji3 {v:PyData} (h:v∈jsy):isV v=true:=by
 simp only[jsy,List.mem_cons,List.not_mem_nil,or_false]at h
 rcases h with rfl | rfl | rfl | rfl | rfl | rfl<;>decide +kernel
theorem j1u {v:Wv} {a b:List PyData} {n:Int} {Q:DQ} (hv:lsOf v=some a) (hl:a.length+b.length≤sizeLine) (q:Q (.d (.list (a++b))) n):gCat v (.ln b) n Q:=by
 unfold gCat
 rw[hv]
 exact⟨hl,q⟩
theorem j1x {δ:Sl} {n:Int} {Q:DQ} (e0:δ[0]?=some (some (.w .tp))) (h:n < 2 ^ 39) (k:∀v∈jnk,Q (.d v) (n+1)):w2 (wTp3 0) (jaq jay (jab (wVar 0) (jab (wB jff (jab (wTp3 0) aNil)) aNil))) gIxL δ n Q:=by
 have ht:∀(n:Int) (Q:DQ),Q (.ln jnk) n→wTp3 0 δ n Q:=fun n Q q=>by unfold wTp3;rw[e0];exact q
 exact w2_i (ht _ _ (je2 (m:=7) e0 (fun Q q=>b1_i (ht _ _ q)) (by omega) (by decide) (by decide) fun r h0 h1=>jna h0 h1 k))
theorem juw (f:Fe) (r:List Fe):bndE (f::r)=f.bd.toList++bndE r:=by cases f<;>rfl
theorem juv (fs:List Fe) (f:Fe):bndE (fs++[f])=bndE fs++f.bd.toList:=by
 unfold bndE
 rw[List.filterMap_append]
 cases f<;>rfl
theorem jm4:∀{fs:List Fe} {ks:List Str} {f:Fe},rF ks fs→(∀k,f.us=some k→k∈ks++bndE fs)→rF ks (fs++[f])
 |[],ks,f,_,h=>⟨fun k hk=>by simpa[bndE]using h k hk,trivial⟩
 |g::r,ks,f,h1,h2=>⟨h1.1,jm4 h1.2 fun k hk=>by
  have:=h2 k hk
  rw[juw,←List.append_assoc]at this
  exact this⟩
theorem jj9 {f:PyData} {ks:List Str} (h:f∈ks.map .str):∃s∈ks,f=.str s:=by
 obtain⟨s,hs,rfl⟩:=List.mem_map.mp h
 exact⟨s,hs,rfl⟩
noncomputable def PatI (kv:Wv) (ks:List Str) (n0:Int) (ds:List PyData) (δ:Sl) (n:Int):Prop:=∃(fs:List Fe) (x y z u:Option SV),δ=[some (.w .tp),some (.w kv),some (.own (fs.map Fe.d)),some (.own ((bndE fs).map .str)),x,y,z,u]∧1≤fs.length+ds.length∧fs.length+ds.length≤4∧(∀f∈fs,f.ok∧f.pt=true)∧rF ks fs∧n+2*(ds.length:Int)≤n0+9
theorem jgx:∀ws n Q,jmu ws n Q→ws.length=2:=fun ws n Q h=>by obtain⟨_,_,rfl,_⟩:=h;rfl
theorem jgg:∀ws n Q,jmu ws n Q→jdy (jbf ["_law_tape_here","_law_known_here","_law_fields","_law_bound","_law_k","_law_way","_law_some","_law_name"] ws) n {nx:=fun _ n=>Q (.d .none) n,rt:=Q}:=fun ws n0 Q h=>by
 obtain⟨ks,kv,rfl,hkv,hks,hok,hn0,k⟩:=h
 show jdy [some (.w .tp),some (.w kv),none,none,none,none,none,none] n0 _
 refine jao (jd2 ?_)
 dsimp only[List.set]
 refine jao (jd2 ?_)
 dsimp only[List.set]
 refine jao (jyx rfl (by omega) fun m h1 h4=>?_)
 refine jba (PatI kv ks n0) (fun δ n I=>?_) (fun d r δ n N I kN=>?_) _ _ _ ⟨[],none,none,none,none,rfl,by rw[jbx];simpa using h1,by rw[jbx];simpa using h4,fun f hf=>(by simp at hf),trivial,by rw[jbx];omega⟩
 ·obtain⟨fs,x,y,z,u,rfl,hf1,hf,hfo,hr,hn⟩:=I
  dsimp only
  refine jg1 rfl ?_
  dsimp only[List.set]
  refine jg1 rfl ?_
  dsimp only[List.set]
  exact jb4 (jdl (b1_i (jad rfl (jhc (jad rfl (And.intro (show 2≤1000 by decide) (k fs n (by simpa using hf1) ⟨by simpa using hf,fun f z=>(hfo f z).1⟩ (fun f z=>(hfo f z).2) hr (by simpa using hn))))))))
 ·obtain⟨fs,x,y,z,u,rfl,hf1,hf,hfo,hr,hn⟩:=I
  rw[List.length_cons]at hf1 hf hn
  dsimp only[jak,List.set]
  have hfl:(fs.map Fe.d).length < 1000000:=by rw[List.length_map];omega
  have hbl:(bndE fs).length≤4:=Nat.le_trans (List.length_filterMap_le _ _) (by omega)
  have hbo:∀s∈ks++bndE fs,okK s:=fun s hs=>(List.mem_append.mp hs).elim (hok s) fun z=>jtz (fs:=fs) ⟨by omega,fun f z=>(hfo f z).1⟩ s z
  have nxt:∀(f:Fe) (n':Int) (y z u:Option SV) (B:List PyData),f.ok∧f.pt=true→(∀k,f.us=some k→k∈ks++bndE fs)→n'≤n+2→B=(bndE fs).map .str++f.bd.toList.map .str→N [some (.w .tp),some (.w kv),some (.own (fs.map Fe.d++[f.d])),some (.own B),some (.w (.d d)),y,z,u] n':=fun f n' y z u B fo fu hn' hB =>
   kN _ _ ⟨fs++[f],some (.w (.d d)),y,z,u,by rw[hB,List.map_append,juv,List.map_append];rfl,by rw[List.length_append,List.length_singleton];omega,by rw[List.length_append,List.length_singleton];omega,fun g hg=>(List.mem_append.mp hg).elim (hfo g) fun z=>by rw[List.mem_singleton]at z;subst z;exact fo,jm4 hr fu,by omega⟩
  have nxtN:∀(f:Fe) (n':Int) (y z u:Option SV),f.bd=none→f.ok∧f.pt=true→(∀k,f.us=some k→k∈ks++bndE fs)→n'≤n+2→N [some (.w .tp),some (.w kv),some (.own (fs.map Fe.d++[f.d])),some (.own ((bndE fs).map .str)),some (.w (.d d)),y,z,u] n':=fun f n' y z u fb fo fu hn' =>
   nxt f n' y z u _ fo fu hn' (by rw[fb];exact(List.append_nil _).symm)
  refine jao (jqk (m:=9) rfl (by omega) (by decide) (by decide) fun w w0 w1=>?_)
  dsimp only[List.set]
  refine jao (jb6 (x:=.list (ks.map .str++(bndE fs).map .str)) (fun Q q=>w2_i (jad rfl (jhl rfl (j1u hkv (joi (by rw[List.length_map];omega) (by rw[List.length_map];omega)) q)))) ?_)
  dsimp only[List.set]
  refine iflt rfl (fun hw=>?_) (fun hw=>?_)
  ·refine jk2 rfl (jdl (c_i (c1_i (jad rfl (And.intro rfl ⟨by omega,fun v hv=>?_⟩)))))
   exact And.intro (show 2≤1000 by decide) (And.intro hfl (nxtN (.isv v) _ _ _ _ rfl ⟨ji3 hv,rfl⟩ (fun k hk=>by cases hk) (by omega)))
  ·refine iflt rfl (fun hw6=>?_) (fun hw6=>?_)
   ·refine jk2 rfl (w2_i (of_i (And.intro (by decide) (And.intro (by decide) (And.intro (by decide) (And.intro (by decide) ?_))))))
    dsimp only
    refine w2_i (jad rfl (c_i ?_))
    dsimp only[gI0]
    refine jcv (ds:=[.tuple [.str "any"],.tuple [.str "word"],.tuple [.str "number"]]) (r:=w - 3) (by omega) (show w - 3 < 3 by omega) fun f hf'=>?_
    simp only[List.mem_cons,List.not_mem_nil,or_false]at hf'
    rcases hf' with rfl | rfl | rfl
    ·exact And.intro hfl (nxtN .any _ _ _ _ rfl ⟨trivial,rfl⟩ (fun k hk=>by cases hk) (by omega))
    ·exact And.intro hfl (nxtN .word _ _ _ _ rfl ⟨trivial,rfl⟩ (fun k hk=>by cases hk) (by omega))
    ·exact And.intro hfl (nxtN .num _ _ _ _ rfl ⟨trivial,rfl⟩ (fun k hk=>by cases hk) (by omega))
   ·have bind:∀(K:DEnds) (L:List PyData),(∀δ n,N δ n→K.nx δ n)→sSeq (sSet 7 (w2 (wOf (fLst (jab (wC (.str "n")) (jab (wC (.str "nm")) (jab (wC (.str "go")) (jab (wC (.str "m")) aNil)))))) (jaq jay (jab (wVar 0) (jab (wC (.int (4))) aNil))) gIxL)) (sSeq (sApp 3 (wVar 7)) (sApp 2 (wTup (jab (wC (.str "bind")) (jab (wVar 7) aNil)))))
      [some (.w .tp),some (.w kv),some (.own (fs.map Fe.d)),some (.own ((bndE fs).map .str)),some (.w (.d d)),some (.w (.d (.int w))),some (.w (.d (.list L))),u] (n+1) K:=fun K L hK=>by
     refine jao (show w2 _ _ _ _ _ _ from w2_i (of_i (And.intro (by decide) ?_)))
     dsimp only
     refine jek (m:=4) rfl (by omega) (by decide) (by decide) fun r r0 r1=>jcv (ds:=[.str "n",.str "nm",.str "go",.str "m"]) r0 r1 fun f hf'=>?_
     have:∃s:Str,f=.str s∧okK s:=by
      simp only[List.mem_cons,List.not_mem_nil,or_false]at hf'
      rcases hf' with rfl | rfl | rfl | rfl<;>exact⟨_,rfl,by decide +kernel,by decide +kernel⟩
     obtain⟨s,rfl,so⟩:=this
     dsimp only[List.set]
     refine jao (jnj rfl (fun Q q=>jad rfl q) (by rw[List.length_map];omega) ?_)
     dsimp only[List.set]
     refine jnj (x:=.tuple [.str "bind",.str s]) rfl (fun Q q=>jdl (c_i (jad rfl (And.intro (show 2≤1000 by decide) q)))) hfl (hK _ _ ?_)
     exact nxt (.bind s) (n+1+1) _ _ _ _ ⟨so,rfl⟩ (fun k hk=>by cases hk) (by omega) rfl
    by_cases hw8:w < 8
    ·refine if_y (fun Q q=>jpd (fun Q q=>ct_b (k:=true) (fun Q q=>w2_i (jad rfl (c_i ?_))) q) q) (bind _ _ fun _ _ z=>z)
     show Q (.d (.bool (decide (w < 8)))) _
     rw[decide_eq_true hw8];exact q
    ·have hmem:∀f∈ks.map PyData.str++(bndE fs).map PyData.str,∃s∈ks++bndE fs,f=.str s:=fun f hf=>jj9 (by rw[List.map_append];exact hf)
     have hlen:(ks.map PyData.str++(bndE fs).map PyData.str).length≤2000:=by rw[List.length_append,List.length_map,List.length_map];omega
     generalize(ks.map PyData.str++(bndE fs).map PyData.str)=L at hmem hlen
     cases L with
     |nil =>
      refine if_y (fun Q q=>jfx (fun Q q=>ct_b (k:=false) (fun Q q=>w2_i (jad rfl (c_i ?_))) q) (ct_b (k:=true) (fun Q q=>w2_i (jad rfl (of_i (And.intro (Nat.zero_le _) q)))) q)) (bind _ _ fun _ _ z=>z)
      show Q (.d (.bool (decide (w < 8)))) _
      rw[decide_eq_false hw8];exact q
     |cons a l =>
      refine if_n (fun Q q=>jfx (fun Q q=>ct_b (k:=false) (fun Q q=>w2_i (jad rfl (c_i ?_))) q) (ct_b (k:=false) (fun Q q=>w2_i (jad rfl (of_i (And.intro (Nat.zero_le _) q)))) q)) ?_
      ·show Q (.d (.bool (decide (w < 8)))) _
       rw[decide_eq_false hw8];exact q
      ·refine jk2 rfl (jdl (c_i (w2_i (jad rfl ?_))))
       refine je2 (m:=(a::l).length) rfl (fun Q q=>b1_i (jad rfl q)) (by omega) (by rw[List.length_cons];omega) (by omega) fun r r0 r1=>jcv r0 r1 fun f hf'=>?_
       obtain⟨s,hs,rfl⟩:=hmem f hf'
       exact And.intro (show 2≤1000 by decide) (And.intro hfl (nxtN (.as s) _ _ _ _ rfl ⟨hbo s hs,rfl⟩ (fun k hk=>by cases hk;exact hs) (by omega)))
theorem jlx:∀ws n Q,ji1 ws n Q→ws.length=1:=fun ws n Q h=>by obtain⟨rfl,_⟩:=h;rfl
theorem jkz:∀ws n Q,ji1 ws n Q→jgl (jbf ["_law_tape_here"] ws) n {nx:=fun _ n=>Q (.d .none) n,rt:=Q}:=fun ws n Q h=>by
 obtain⟨rfl,hn,k⟩:=h
 show jgl [some (.w .tp)] n _
 exact jb4 (j1x rfl hn k)
theorem jx3 {δ:Sl} {n:Int} {Q:DQ} (e0:δ[0]?=some (some (.w .tp))) (h:n < 2 ^ 39) (k:∀v∈jnk,Q (.d v) (n+1)):jaq ji1 (jab (wVar 0) aNil) δ n Q:=c1_i (jad e0 ⟨rfl,h,k⟩)
noncomputable def TemI (ks:List Str) (n0:Int) (ds:List PyData) (δ:Sl) (n:Int):Prop:=∃(fs:List Fe) (x y:Option SV),δ=[some (.w .tp),some (.w (.ln (ks.map .str))),some (.own (fs.map Fe.d)),x,y]∧fs.length+ds.length≤4∧(∀f∈fs,f.ok)∧rF ks fs∧n+2*(ds.length:Int)≤n0+9
theorem jf5:∀ws n Q,jmt ws n Q→ws.length=2:=fun ws n Q h=>by obtain⟨_,rfl,_⟩:=h;rfl
theorem jfy:∀ws n Q,jmt ws n Q→jdi (jbf ["_law_tape_here","_law_known_here","_law_fields","_law_k","_law_way"] ws) n {nx:=fun _ n=>Q (.d .none) n,rt:=Q}:=fun ws n0 Q h=>by
 obtain⟨ks,rfl,hks,hok,hn0,k⟩:=h
 show jdi [some (.w .tp),some (.w (.ln (ks.map .str))),none,none,none] n0 _
 refine jao (jd2 ?_)
 dsimp only[List.set]
 refine jao (jyx rfl (by omega) fun m h1 h4=>?_)
 refine jba (TemI ks n0) (fun δ n I=>?_) (fun d r δ n N I kN=>?_) _ _ _ ⟨[],none,none,rfl,by rw[jbx];simpa using h4,fun f hf=>(by simp at hf),trivial,by rw[jbx];omega⟩
 ·obtain⟨fs,x,y,rfl,hf,hfo,hr,hn⟩:=I
  dsimp only
  refine jg1 rfl ?_
  dsimp only[List.set]
  exact jb4 (b1_i (jad rfl (jhc (k fs n ⟨by simpa using hf,hfo⟩ hr (by simpa using hn)))))
 ·obtain⟨fs,x,y,rfl,hf,hfo,hr,hn⟩:=I
  rw[List.length_cons]at hf hn
  dsimp only[jak,List.set]
  have hfl:(fs.map Fe.d).length < 1000000:=by rw[List.length_map];omega
  have nxt:∀(f:Fe) (n':Int) (y:Option SV),f.ok→(∀k,f.us=some k→k∈ks)→n'≤n+2→N [some (.w .tp),some (.w (.ln (ks.map .str))),some (.own (fs.map Fe.d++[f.d])),some (.w (.d d)),y] n':=fun f n' y fo fu hn' =>
   kN _ _ ⟨fs++[f],some (.w (.d d)),y,by rw[List.map_append];rfl,by rw[List.length_append,List.length_singleton];omega,fun g hg=>(List.mem_append.mp hg).elim (hfo g) fun z=>by rw[List.mem_singleton]at z;subst z;exact fo,jm4 hr fun k hk=>List.mem_append_left _ (fu k hk),by omega⟩
  refine jao (jqk (m:=6) rfl (by omega) (by decide) (by decide) fun w w0 w1=>?_)
  dsimp only[List.set]
  have isv:∀K:DEnds,(∀δ n,N δ n→K.nx δ n)→sApp 2 (wTup (jab (wC (.str "is")) (jab (jaq jck (jab (wVar 0) aNil)) aNil))) [some (.w .tp),some (.w (.ln (ks.map .str))),some (.own (fs.map Fe.d)),some (.w (.d d)),some (.w (.d (.int w)))] (n+1) K:=fun K hK =>
   jk2 rfl (jdl (c_i (c1_i (jad rfl (And.intro rfl ⟨by omega,fun v hv=>And.intro (show 2≤1000 by decide) (And.intro hfl (hK _ _ (nxt (.isv v) _ _ (ji3 hv) (fun k hk=>by cases hk) (by omega))))⟩)))))
  by_cases hw3:w < 3
  ·refine if_y (fun Q q=>jpd (fun Q q=>ct_b (k:=true) (fun Q q=>w2_i (jad rfl (c_i ?_))) q) q) (isv _ fun _ _ z=>z)
   show Q (.d (.bool (decide (w < 3)))) _
   rw[decide_eq_true hw3];exact q
  ·have ct3:∀Q:DQ,Q (.d (.bool false)) (n+1)→w2 (wVar 4) (wC (.int 3)) gLt [some (.w .tp),some (.w (.ln (ks.map .str))),some (.own (fs.map Fe.d)),some (.w (.d d)),some (.w (.d (.int w)))] (n+1) Q:=fun Q q=>w2_i (jad rfl (c_i (by
    show Q (.d (.bool (decide (w < 3)))) _
    rw[decide_eq_false hw3];exact q)))
   cases ks with
   |nil=>exact if_y (fun Q q=>jfx (fun Q q=>ct_b (k:=false) ct3 q) (ct_b (k:=true) (fun Q q=>w2_i (jad rfl (jfr (eqLn q)))) q)) (isv _ fun _ _ z=>z)
   |cons a l =>
    refine if_n (fun Q q=>jfx (fun Q q=>ct_b (k:=false) ct3 q) (ct_b (k:=false) (fun Q q=>w2_i (jad rfl (jfr (eqLn q)))) q)) ?_
    refine jk2 rfl (jdl (w2_i (of_i (And.intro (by decide) ?_))))
    dsimp only
    refine w2_i (jad rfl (c_i ?_))
    dsimp only[gI0]
    refine jcv (ds:=[.str "as",.str "as",.str "next"]) (r:=w - 3) (by omega) (show w - 3 < 3 by omega) fun f hf'=>?_
    refine w2_i (jad rfl ?_)
    have hl:((a::l).map PyData.str).length≤1000:=by rw[List.length_map];exact hks
    refine je2 (m:=((a::l).map PyData.str).length) rfl (fun Q q=>b1_i (jad rfl q)) (by omega) (by rw[List.length_map,List.length_cons];omega) (by omega) fun r r0 r1=>jna r0 r1 fun f' hf''=>?_
    obtain⟨s,hs,rfl⟩:=jj9 hf''
    simp only[List.mem_cons,List.not_mem_nil,or_false]at hf'
    rcases hf' with rfl | rfl | rfl
    ·exact And.intro (show 2≤1000 by decide) (And.intro hfl (nxt (.as s) _ _ (hok s hs) (fun k hk=>by cases hk;exact hs) (by omega)))
    ·exact And.intro (show 2≤1000 by decide) (And.intro hfl (nxt (.as s) _ _ (hok s hs) (fun k hk=>by cases hk;exact hs) (by omega)))
    ·exact And.intro (show 2≤1000 by decide) (And.intro hfl (nxt (.nx s) _ _ (hok s hs) (fun k hk=>by cases hk;exact hs) (by omega)))
theorem jka:∀ws n Q,jgn ws n Q→ws.length=2:=fun ws n Q h=>by obtain⟨_,rfl,_⟩:=h;rfl
theorem jix:∀ws n Q,jgn ws n Q→jfh (jbf ["_law_tape_here","_law_known_here"] ws) n {nx:=fun _ n=>Q (.d .none) n,rt:=Q}:=fun ws n Q h=>by
 obtain⟨ks,rfl,hks,hok,hn0,k⟩:=h
 show jfh [some (.w .tp),some (.w (.ln (ks.map .str)))] n _
 have isv:∀n',n'≤n+1→sRet (wTup (jab (wC (.str "is")) (jab (jaq jck (jab (wVar 0) aNil)) aNil))) [some (.w .tp),some (.w (.ln (ks.map .str)))] n' {nx:=fun _ n=>Q (.d .none) n,rt:=Q}:=fun n' hn' =>
  jb4 (jdl (c_i (c1_i (jad rfl (And.intro rfl ⟨by omega,fun v hv=>And.intro (show 2≤1000 by decide) (k (.isv v) _ (ji3 hv) rfl (fun k hk=>by cases hk) (by omega))⟩)))))
 cases ks with
 |nil=>exact jao (if_y (fun Q q=>jpd (fun Q q=>ct_b (k:=true) (fun Q q=>w2_i (jad rfl (jfr (eqLn q)))) q) q) (isv n (by omega)))
 |cons a l =>
  refine jao (if_i (jfx (fun Q q=>ct_b (k:=false) (fun Q q=>w2_i (jad rfl (jfr (eqLn q)))) q) ?_))
  refine w2_i (jek (m:=2) rfl (by omega) (by decide) (by decide) fun r r0 r1=>c_i (eqLi ?_))
  show if decide (r=0)=true then _ else _
  by_cases h:r=0
  ·rw[if_pos (decide_eq_true h)];exact isv (n+1) (by omega)
  ·rw[if_neg (by simpa using h)]
   dsimp only[ja6]
   refine jb4 (jdl (c_i (w2_i (jad rfl ?_))))
   have hl:((a::l).map PyData.str).length≤1000:=by rw[List.length_map];exact hks
   refine je2 (m:=((a::l).map PyData.str).length) rfl (fun Q q=>b1_i (jad rfl q)) (by omega) (by rw[List.length_map,List.length_cons];omega) (by omega) fun r r0 r1=>jna r0 r1 fun f' hf''=>?_
   obtain⟨s,hs,rfl⟩:=jj9 hf''
   exact And.intro (show 2≤1000 by decide) (k (.as s) _ (hok s hs) rfl (fun k hk=>by cases hk;exact hs) (by omega))
theorem jly:∀ws n Q,jh7 ws n Q→ws.length=3:=fun ws n Q h=>by obtain⟨_,_,_,rfl,_⟩:=h;rfl
theorem jk0:∀ws n Q,jh7 ws n Q→jgm (jbf ["_law_tape_here","_law_known_here","_law_open_ones","_law_way","_law_block","_law_pattern_here","_law_bound"] ws) n {nx:=fun _ n=>Q (.d .none) n,rt:=Q}:=fun ws n Q h=>by
 obtain⟨ks,os,wants,rfl,hks,hok,ho,ho',hop,hn0,k⟩:=h
 show jgm [some (.w .tp),some (.w (.ln (ks.map .str))),some (.w (.d (.list (os.map fun b=>.int (b:Nat))))),none,none,none,none] n _
 refine jao (jqk (m:=12) rfl (by omega) (by decide) (by decide) fun w w0 w1=>?_)
 dsimp only[List.set]
 refine jao (iflt rfl (fun hw=>?_) (fun hw=>?_))
 ·refine jb4 (jdl (jwd (c_i (c2_i (jad rfl (jad rfl (Exists.intro ks ⟨rfl,hks,hok,by omega,fun fs n' hfs hrf hn'=>?_⟩)))))))
  refine jx3 rfl (by omega) fun v hv=>?_
  exact And.intro (show 3≤1000 by decide) (jfr (And.intro (show 2≤1000 by decide) (k (.lay fs v) _ ⟨hfs,trivial⟩ ⟨hrf,fun b hb=>by cases hb⟩ (by omega))))
 dsimp only[ja6]
 refine jao (show sSet 4 _ _ _ _ from w2_i (jad rfl ?_))
 refine je2 (m:=(os.map fun b:Nat=>PyData.int (b:Nat)).length) rfl (fun Q q=>b1_i (jad rfl q)) (by omega) (by rw[List.length_map];omega) (by rw[List.length_map];omega) fun r r0 r1=>jcv r0 r1 fun b hb=>?_
 obtain⟨b,hbo,rfl⟩:=List.mem_map.mp hb
 have hto:=hop b hbo
 dsimp only[List.set]
 refine jao (ifeq rfl (fun h10=>?_) (fun h10=>?_))
 ·refine jb4 (jdl (j05 (c_i (c2_i (jad rfl (jad rfl (Exists.intro ks ⟨rfl,hks,hok,by omega,fun f n' fo fb fu hn'=>?_⟩)))))))
  refine c2_i (jad rfl (jad rfl (Exists.intro ks ⟨rfl,hks,hok,by omega,fun g n'' go gb gu hn''=>?_⟩)))
  refine jad rfl (And.intro (show 4≤1000 by decide) (jfr (And.intro (show 2≤1000 by decide) (k (.same f g b) _ ⟨⟨show 2≤4 by decide,fun e he=>?_⟩,trivial⟩ ⟨⟨fu,fun k hk=>List.mem_append_left _ (gu k hk),trivial⟩,fun b' hb'=>by cases hb';exact hto⟩ (by omega)))))
  simp only[Ac.fs,List.mem_cons,List.not_mem_nil,or_false]at he
  rcases he with rfl | rfl
  ·exact fo
  ·exact go
 dsimp only[ja6]
 refine jao (ifeq rfl (fun h11=>?_) (fun h11=>?_))
 ·exact jb4 (jdl (jdl (c_i (jad rfl (And.intro (show 2≤1000 by decide) (jfr (And.intro (show 2≤1000 by decide) (k (.go b) _ ⟨⟨show 0≤4 by decide,fun e he=>by simp[Ac.fs]at he⟩,trivial⟩ ⟨trivial,fun b' hb'=>by cases hb';exact hto⟩ (by omega)))))))))
 dsimp only[ja6]
 refine jao ?_
 unfold sUnp
 refine c2_i (jad rfl (jad rfl (Exists.intro ks ⟨.ln (ks.map .str),rfl,rfl,hks,hok,by omega,fun fs n' hf1 hfs hpt hrf hn'=>?_⟩)))
 refine And.intro rfl ?_
 dsimp only[jbv,jfe,jak,List.set]
 refine jao (ifgt rfl (fun h7=>?_) (fun h7=>?_))
 ·exact jb4 (jdl (jwd (c_i (jad rfl (jad rfl (And.intro (show 3≤1000 by decide) (jad rfl (And.intro (show 2≤1000 by decide) (k (.look fs b) _ ⟨hfs,hf1,hpt⟩ ⟨hrf,fun b' hb'=>by cases hb';exact hto⟩ (by omega))))))))))
 dsimp only[ja6]
 refine jb4 (jdl (jdl (w2_i (of_i (And.intro (by decide) ?_)))))
 dsimp only
 refine w2_i (jad rfl (c_i ?_))
 dsimp only[gI0]
 refine jcv (ds:=[.str "take",.str "take",.str "take",.str "read"]) (r:=w - 4) (by omega) (show w - 4 < 4 by omega) fun f hf'=>?_
 simp only[List.mem_cons,List.not_mem_nil,or_false]at hf'
 rcases hf' with rfl | rfl | rfl | rfl
 ·exact jad rfl (And.intro (show 2≤1000 by decide) (jad rfl (And.intro (show 2≤1000 by decide) (k (.take fs) _ ⟨hfs,hf1,hpt⟩ ⟨hrf,fun b' hb'=>by cases hb'⟩ (by omega)))))
 ·exact jad rfl (And.intro (show 2≤1000 by decide) (jad rfl (And.intro (show 2≤1000 by decide) (k (.take fs) _ ⟨hfs,hf1,hpt⟩ ⟨hrf,fun b' hb'=>by cases hb'⟩ (by omega)))))
 ·exact jad rfl (And.intro (show 2≤1000 by decide) (jad rfl (And.intro (show 2≤1000 by decide) (k (.take fs) _ ⟨hfs,hf1,hpt⟩ ⟨hrf,fun b' hb'=>by cases hb'⟩ (by omega)))))
 ·exact jad rfl (And.intro (show 2≤1000 by decide) (jad rfl (And.intro (show 2≤1000 by decide) (k (.read fs) _ ⟨hfs,hf1,hpt⟩ ⟨hrf,fun b' hb'=>by cases hb'⟩ (by omega)))))
noncomputable def jgu:List (List Str):=[[],["n"],["go","n"],["nm"]]
theorem jv4 {w:List Str} (h:w∈jgu):w.length≤2∧∀k∈w,okK k:=by
 simp only[jgu,List.mem_cons,List.not_mem_nil,or_false]at h
 rcases h with rfl | rfl | rfl | rfl
 ·exact⟨by decide,fun k hk=>by simp at hk⟩
 ·exact⟨by decide,fun k hk=>by simp only[List.mem_cons,List.not_mem_nil,or_false]at hk;subst hk;exact⟨by decide +kernel,by decide +kernel⟩⟩
 ·exact⟨by decide,fun k hk=>by simp only[List.mem_cons,List.not_mem_nil,or_false]at hk;rcases hk with rfl | rfl<;>exact⟨by decide +kernel,by decide +kernel⟩⟩
 ·exact⟨by decide,fun k hk=>by simp only[List.mem_cons,List.not_mem_nil,or_false]at hk;subst hk;exact⟨by decide +kernel,by decide +kernel⟩⟩
theorem jsf {Q:List PyData→Int→Prop} {n:Int} (ss ks:List Str) (k:Q ((ss.map PyData.str).filter fun x=>!inD x (ks.map .str)) n) :
  jdw (jak 0) (cT (w2 (wVar 0) (wVar 1) (gInL true))) (wVar 0) Q (ss.map .str) [] [none,some (.w (.ln (ks.map .str)))] n:=by
 refine jdr (fun d=>∃s:Str,d=.str s) (fun x=>!inD x (ks.map .str)) id (fun d n Q' hd q=>?_) (fun d n Q' hd q=>jad rfl q) _ [] none n (fun d hd=>?_) ?_
 ·obtain⟨s,rfl⟩:=hd
  exact ct_b (k:=!inD (.str s) (ks.map .str)) (fun Q q=>w2_i (jad rfl (jad rfl (And.intro rfl ⟨jhq ks,q⟩)))) q
 ·obtain⟨s,_,rfl⟩:=List.mem_map.mp hd
  exact⟨s,rfl⟩
 ·rw[List.nil_append,List.map_id];exact k
theorem jt4 (ss ks:List Str):((ss.map PyData.str).filter fun x=>!inD x (ks.map .str)).isEmpty=decide (∀k∈ss,k∈ks):=by
 rw[Bool.eq_iff_iff,List.isEmpty_iff,List.filter_eq_nil_iff,decide_eq_true_iff]
 constructor
 ·intro h k hk
  have:=h (.str k) (List.mem_map.mpr ⟨k,hk,rfl⟩)
  rw[jhn]at this
  simpa using this
 ·intro h d hd
  obtain⟨k,hk,rfl⟩:=List.mem_map.mp hd
  rw[jhn,decide_eq_true (h k hk)]
  simp
noncomputable def jtw (ws:List (List Str)) (ks:List Str):PyData→Bool
 |.int j=>decide (∀k∈ws.getD j.toNat [],k∈ks)
 |_=>false
noncomputable def jlp (ws:List (List Str)) (ks:List Str):List Nat:=(List.range ws.length).filter fun b=>decide (∀k∈ws.getD b [],k∈ks)
theorem jtv (ws:List (List Str)) (ks:List Str):(rngD 0 ws.length).filter (jtw ws ks)=(jlp ws ks).map fun b=>.int (b:Nat):=by
 unfold rngD jlp
 rw[List.filter_map]
 have e:(fun i:Nat=>PyData.int (0+(i:Int)))=fun b=>.int (b:Nat):=funext fun i=>by rw[Int.zero_add]
 rw[e]
 rfl
theorem jsd {Q:List PyData→Int→Prop} {n:Int} (ws:List (List Str)) (ks:List Str) (k:Q ((jlp ws ks).map fun b=>.int (b:Nat)) n) :
  jdw (jak 0) (cT (w2 (wOf (jcy [none,some 1] (jef (w2 (wVar 2) (wVar 0) gIxL)) (jak 0) (cT (w2 (wVar 0) (wVar 1) (gInL true))) (wVar 0))) (wOf (fLst aNil)) gEqL)) (wVar 0) Q (rngD 0 ws.length) [] [none,some (.w (.ln (ks.map .str))),some (.w (.d (.list (ws.map jc0))))] n:=by
 refine jdr (fun d=>∃j:Nat,j < ws.length∧d=.int j) (jtw ws ks) id (fun d n Q' hd q=>?_) (fun d n Q' hd q=>jad rfl q) _ [] none n (fun d hd=>?_) ?_
 ·obtain⟨j,hj,rfl⟩:=hd
  have hg:(ws.map jc0)[j]?=some (.tuple (ws[j].map .str)):=by rw[List.getElem?_map,List.getElem?_eq_getElem hj];rfl
  refine ct_b (k:=jtw ws ks (.int j)) (fun Q q=>w2_i (of_i (jsg (ds:=ws[j].map .str) (fun Q q=>w2_i (jad rfl (jad rfl ?_))) (jsf ws[j] ks (jfr ?_))))) q
  ·show(match atI (ws.map jc0) (j:Int)with | some d=>Q (.d d) n | none=>False)
   rw[jby hg];exact q
  ·have eo:jtw ws ks (.int j)=((ws[j].map PyData.str).filter fun x=>!inD x (ks.map .str)).isEmpty:=by
    rw[jt4]
    show decide (∀k∈ws.getD (j:Int).toNat [],k∈ks)=_
    rw[Int.toNat_natCast,List.getD_eq_getElem?_getD,List.getElem?_eq_getElem hj,Option.getD_some]
   rw[eo]at q
   exact q
 ·unfold rngD at hd
  obtain⟨j,hj,rfl⟩:=List.mem_map.mp hd
  exact⟨j,List.mem_range.mp hj,by rw[Int.zero_add]⟩
 ·rw[List.nil_append,List.map_id,jtv];exact k
theorem jq3 {ws w0:List (List Str)} {ks:List Str} (h:ws=[]::w0):0 < (jlp ws ks).length :=
 List.length_pos_of_mem (a:=0) (List.mem_filter.mpr ⟨List.mem_range.mpr (by rw[h];simp),by subst h;simp⟩)
theorem jxc {ws:List (List Str)} {ks:List Str} {b:Nat} (h:b∈jlp ws ks):∃w,ws[b]?=some w∧∀k∈w,k∈ks:=by
 obtain⟨h1,h2⟩:=List.mem_filter.mp h
 have hj:=List.mem_range.mp h1
 refine⟨ws[b],List.getElem?_eq_getElem hj,?_⟩
 have:=of_decide_eq_true h2
 rw[List.getD_eq_getElem?_getD,List.getElem?_eq_getElem hj,Option.getD_some]at this
 exact this
theorem jqr:∀{fs:List Fe} {ks ks':List Str},(∀k∈ks,k∈ks')→rF ks fs→rF ks' fs
 |[],_,_,_,_=>trivial
 |f::r,ks,ks',h,z=>⟨fun k hk=>h k (z.1 k hk),jqr (fun k hk=>(List.mem_append.mp hk).elim (fun q=>List.mem_append_left _ (h k q)) fun q=>List.mem_append_right _ q) z.2⟩
theorem Ac.right_mono {ws:List (List Str)} {ks ks':List Str} {a:Ac} (h:∀k∈ks,k∈ks') (z:a.right ws ks):a.right ws ks' :=
 ⟨jqr h z.1,fun b hb=>by obtain⟨w,h1,h2⟩:=z.2 b hb;exact⟨w,h1,fun k hk=>h k (h2 k hk)⟩⟩
theorem jtf {ws:List (List Str)} {w ks:List Str} {as:List Ac} {a:Ac} (h:riB ws (w,as)) (hk:∀k∈ks,k∈w++as.flatMap Ac.bs) (ha:a.right ws ks):riB ws (w,as++[a]):=fun p b hb=>by
 dsimp only at hb ⊢
 by_cases hp:p < as.length
 ·rw[List.getElem?_append_left hp]at hb
  have:=h p b hb
  unfold kn at this ⊢
  rw[List.take_append_of_le_length (Nat.le_of_lt hp)]
  exact this
 ·rw[List.getElem?_append_right (by omega)]at hb
  have e0:p - as.length=0:=by
   by_cases e:p - as.length=0
   ·exact e
   ·rw[List.getElem?_eq_none (by rw[List.length_singleton];omega)]at hb;cases hb
  rw[e0]at hb
  cases hb
  have ep:p=as.length:=by omega
  subst ep
  refine Ac.right_mono (fun k z=>?_) ha
  unfold kn
  rw[List.take_append_of_le_length (Nat.le_refl _),List.take_length]
  exact hk k z
structure ActO (ws:List (List Str)) (want ks:List Str) (acts:List Ac):Prop where
 mem:∀k,k∈ks↔k∈want++acts.flatMap Ac.bs
 ok:∀k∈ks,okK k
 fs:∀a∈acts,okA a
 ri:riB ws (want,acts)
noncomputable def ActI (ws:List (List Str)) (bl:List PyData) (want:List Str) (nb:Int) (ds:List PyData) (δ:Sl) (n:Int):Prop:=∃(ks:List Str) (acts:List Ac) (x2 x7 x8 x9 x10:Option SV),
 δ=[some (.w .tp),some (.w (.d (.list (ws.map jc0)))),x2,some (.own bl),some (.w (.d (jc0 want))),some (.own (ks.map .str)),some (.own (acts.map Ac.d)),x7,x8,x9,x10]∧ActO ws want ks acts∧ks.length+4*ds.length≤40∧acts.length+ds.length≤8∧n+11*(ds.length:Int)≤nb+89
theorem juy {ws w0:List (List Str)} {bl r:List PyData} {want:List Str} {d:PyData} {ks:List Str} {acts:List Ac} {nb n:Int} {x7 x8 x9 x10:Option SV} {K:DEnds} (hw0:ws=[]::w0) (hwl:ws.length≤6) (hnb:nb+89 < 2 ^ 39) (O:ActO ws want ks acts) (hk:ks.length+4*(r.length+1)≤40) (ha:acts.length+(r.length+1)≤8) (hn:n+11*((r.length:Int)+1)≤nb+89)
  (kN:∀δ n,ActI ws bl want nb r δ n→K.nx δ n) :
  sSeq (sSet 8 (wOf (jcy [none,some 5,some 1] (jaz (wB jff (jab (wVar 1) aNil))) (jak 0) (cT (w2 (wOf (jcy [none,some 1] (jef (w2 (wVar 2) (wVar 0) gIxL)) (jak 0) (cT (w2 (wVar 0) (wVar 1) (gInL true))) (wVar 0))) (wOf (fLst aNil)) gEqL)) (wVar 0)))) (sSeq (sUnp (jaq jh7 (jab (wVar 0) (jab (je5 5) (jab (wVar 8) aNil)))) (jhp 2 (jbv (jak 9) (jbv (jak 10) jfe)))) (sSeq (sApp 6 (wVar 9)) (sFor (jim (wVar 10)) (jak 7) (sIf (cT (w2 (wVar 7) (je5 5) (gInL true))) (sApp 5 (wVar 7)) ja6))))
   [some (.w .tp),some (.w (.d (.list (ws.map jc0)))),some (.w (.d d)),some (.own bl),some (.w (.d (jc0 want))),some (.own (ks.map .str)),some (.own (acts.map Ac.d)),x7,x8,x9,x10] n K:=by
 refine jao (show sSet 8 _ _ _ _ from of_i ?_)
 unfold jcy jaz
 refine b1_i (jad rfl ?_)
 refine And.intro ⟨by omega,by rw[List.length_map];omega⟩ ?_
 rw[Int.toNat_natCast,List.length_map]
 refine jsd ws ks ?_
 dsimp only[List.set]
 refine jao ?_
 unfold sUnp
 have ol:(jlp ws ks).length≤6:=Nat.le_trans (List.length_filter_le _ _) (by rw[List.length_range];exact hwl)
 refine c3_i (jad rfl (jhl rfl (jad rfl ?_)))
 refine Exists.intro ks (Exists.intro (jlp ws ks) (Exists.intro ws ⟨rfl,by omega,O.ok,jq3 hw0,by omega,fun b hb=>jxc hb,by omega,fun act n' hfs hri hn'=>?_⟩))
 refine And.intro rfl ?_
 dsimp only[jbv,jfe,jak,List.set]
 refine jao (jnj rfl (fun Q q=>jad rfl q) (by rw[List.length_map];omega) ?_)
 dsimp only[List.set]
 unfold sFor jim
 refine jad rfl ?_
 dsimp only
 have hbs:=j0y hfs.1
 refine jba (fun ds δ n''=>∃(ks' dn bs':List Str) (x7:Option SV),ds=bs'.map .str∧dn++bs'=act.bs∧(∀k,k∈ks'↔k∈ks++dn)∧n''=n'∧δ=[some (.w .tp),some (.w (.d (.list (ws.map jc0)))),some (.w (.d d)),some (.own bl),some (.w (.d (jc0 want))),some (.own (ks'.map .str)),some (.own (acts.map Ac.d++[act.d])),x7,some (.w (.d (.list ((jlp ws ks).map fun b=>.int (b:Nat))))),some (.w (.d act.d)),some (.w (.d (.list (act.bs.map .str))))]∧ks'.length+bs'.length≤ks.length+4)
  (fun δ n'' I=>?_) (fun e r' δ n'' N I kN'=>?_) _ _ _ ⟨ks,[],act.bs,x7,rfl,rfl,fun k=>by simp,rfl,rfl,by have:=hbs.2;omega⟩
 ·obtain⟨ks',dn,bs',x7,e,hdn,hm,rfl,rfl,hk'⟩:=I
  cases List.map_eq_nil_iff.mp e.symm
  rw[List.append_nil]at hdn
  subst hdn
  have hm':∀k,k∈ks'↔k∈want++(acts++[act]).flatMap Ac.bs:=fun k=>by
   rw[hm k,List.mem_append,O.mem k,List.flatMap_append,←List.append_assoc,List.mem_append (s:=want++acts.flatMap Ac.bs)]
   simp
  refine kN _ _ ⟨ks',acts++[act],_,_,_,_,_,by rw[List.map_append];rfl,⟨hm',fun k z=>?_,fun a z=>?_,jtf O.ri (fun k z=>(O.mem k).mp z) hri⟩,by omega,by rw[List.length_append,List.length_singleton];omega,by omega⟩
  ·exact(List.mem_append.mp ((hm k).mp z)).elim (O.ok k) (hbs.1 k)
  ·rcases List.mem_append.mp z with z | z
   ·exact O.fs a z
   ·rw[List.mem_singleton]at z;subst z;exact hfs
 ·obtain⟨ks',dn,bs',x7,e',hdn,hm,rfl,rfl,hk'⟩:=I
  obtain⟨s,bs'',rfl,rfl,rfl⟩:=List.map_eq_cons_iff.mp e'.symm
  rw[List.length_cons]at hk'
  dsimp only[jak,List.set]
  have hdn':(dn++[s])++bs''=act.bs:=by rw[List.append_assoc];exact hdn
  refine if_i (w2_i (jad rfl (jhl rfl (And.intro rfl ⟨jhq ks',?_⟩))))
  refine ifb (fun z=>?_) (fun z=>?_)
  ·refine jnj rfl (fun Q q=>jad rfl q) (by rw[List.length_map];omega) (kN' _ _ ⟨ks'++[s],dn++[s],bs'',some (.w (.d (.str s))),rfl,hdn',fun k=>?_,rfl,?_,by rw[List.length_append,List.length_singleton];omega⟩)
   ·rw[List.mem_append,hm k,←List.append_assoc,List.mem_append (s:=ks++dn)]
   ·rw[List.map_append];rfl
  ·have hs:s∈ks':=by
    have z':(!inD (.str s) (ks'.map .str))=false:=z
    rw[jhn]at z'
    simpa using z'
   refine kN' _ _ ⟨ks',dn++[s],bs'',some (.w (.d (.str s))),rfl,hdn',fun k=>?_,rfl,rfl,by omega⟩
   rw[←List.append_assoc,List.mem_append (s:=ks++dn),List.mem_singleton,←hm k]
   exact⟨.inl,fun q=>q.elim id fun e=>e▸hs⟩
noncomputable def WanI (n0:Int) (ds:List PyData) (δ:Sl) (n:Int):Prop:=∃(more:List (List Str)) (x2:Option SV),δ=[some (.w .tp),some (.own (([]::more).map jc0)),x2,none,none,none,none,none,none,none,none]∧more.length+ds.length≤5∧(∀w∈more,w∈jgu)∧n+(ds.length:Int)≤n0+6
noncomputable def BlkI (ws:List (List Str)) (n0:Int) (ds:List PyData) (δ:Sl) (n:Int):Prop:=∃(bl:List Bl) (re:List (List Str)) (x2 x4 x5 x6 x7 x8 x9 x10:Option SV),
 δ=[some (.w .tp),some (.w (.d (.list (ws.map jc0)))),x2,some (.own (bl.map blD)),x4,x5,x6,x7,x8,x9,x10]∧ds=re.map jc0∧bl.map (·.1)++re=ws∧(∀b∈bl,okB b∧riB ws b)∧n+90*(ds.length:Int)≤n0+600
theorem jgw:∀ws n Q,jmq ws n Q→ws.length=1:=fun ws n Q h=>by obtain⟨rfl,_⟩:=h;rfl
theorem juu {ws w0 re:List (List Str)} {bl:List Bl} {want:List Str} {n0 n:Int} {x2 x5 x6 x7 x8 x9 x10:Option SV} {K:DEnds} (hw:∀w∈ws,w∈jgu) (hw0:ws=[]::w0) (hwl:ws.length≤6) (hn0:n0+600 < 2 ^ 39) (hb:bl.map (·.1)++want::re=ws) (hbo:∀b∈bl,okB b∧riB ws b) (hn:n+90*((re.length:Int)+1)≤n0+600)
  (kN:∀δ n,BlkI ws n0 (re.map jc0) δ n→K.nx δ n) :
  sSeq (sOwn 5 (jd6 (wVar 4))) (sSeq (sOwn 6 (fLst aNil)) (sSeq (sFor (jaz (w2 (wOf (fLst (jab (wC (.int (2))) (jab (wC (.int (3))) (jab (wC (.int (1))) (jab (wC (.int (4))) (jab (wC (.int (2))) (jab (wC (.int (0))) (jab (wC (.int (3))) (jab (wC (.int (8))) aNil)))))))))) (jaq jay (jab (wVar 0) (jab (wC (.int (8))) aNil))) gIxL)) (jak 2) (sSeq (sSet 8 (wOf (jcy [none,some 5,some 1] (jaz (wB jff (jab (wVar 1) aNil))) (jak 0) (cT (w2 (wOf (jcy [none,some 1] (jef (w2 (wVar 2) (wVar 0) gIxL)) (jak 0) (cT (w2 (wVar 0) (wVar 1) (gInL true))) (wVar 0))) (wOf (fLst aNil)) gEqL)) (wVar 0)))) (sSeq (sUnp (jaq jh7 (jab (wVar 0) (jab (je5 5) (jab (wVar 8) aNil)))) (jhp 2 (jbv (jak 9) (jbv (jak 10) jfe)))) (sSeq (sApp 6 (wVar 9)) (sFor (jim (wVar 10)) (jak 7) (sIf (cT (w2 (wVar 7) (je5 5) (gInL true))) (sApp 5 (wVar 7)) ja6)))))) (sFrz 6 (sApp 3 (wTup (jab (wVar 4) (jab (wB jc1 (jab (wVar 6) aNil)) aNil)))))))
   [some (.w .tp),some (.w (.d (.list (ws.map jc0)))),x2,some (.own (bl.map blD)),some (.w (.d (jc0 want))),x5,x6,x7,x8,x9,x10] n K:=by
 obtain⟨hss,hso⟩:=jv4 (hw want (by rw[←hb];exact List.mem_append_right _ List.mem_cons_self))
 have hbl:bl.length+(re.length+1)≤6:=by rw[←hb,List.length_append,List.length_map,List.length_cons]at hwl;exact hwl
 refine jao (jzg (ds:=want.map .str) rfl ?_)
 dsimp only[List.set]
 refine jao (jd2 ?_)
 dsimp only[List.set]
 refine jao (jva (L:=[.int 2,.int 3,.int 1,.int 4,.int 2,.int 0,.int 3,.int 8]) (M:=8) rfl (fun Q q=>of_i (And.intro (by decide) q)) (by omega) rfl (by decide) (by decide) (fun d hd=>?_) (by decide) fun j hj=>?_)
 ·simp only[List.mem_cons,List.not_mem_nil,or_false]at hd
  rcases hd with rfl | rfl | rfl | rfl | rfl | rfl | rfl | rfl
  ·exact⟨2,by decide,rfl⟩
  ·exact⟨3,by decide,rfl⟩
  ·exact⟨1,by decide,rfl⟩
  ·exact⟨4,by decide,rfl⟩
  ·exact⟨2,by decide,rfl⟩
  ·exact⟨0,by decide,rfl⟩
  ·exact⟨3,by decide,rfl⟩
  ·exact⟨8,by decide,rfl⟩
 refine jba (ActI ws (bl.map blD) want n) (fun δ n' I=>?_) (fun d r' δ n' N I kN'=>?_) _ _ _ ⟨want,[],_,_,_,_,_,rfl,⟨fun k=>by simp,hso,fun a ha=>by simp at ha,fun p a ha=>by simp at ha⟩,by rw[jbx];omega,by rw[jbx];simpa using hj,by rw[jbx];omega⟩
 ·obtain⟨ks,acts,y2,y7,y8,y9,y10,rfl,O,_,ha,hn'⟩:=I
  dsimp only
  refine jg1 rfl ?_
  dsimp only[List.set]
  refine jk2 rfl (jdl (jad rfl (b1_i (jad rfl (jhc ?_)))))
  have ha':acts.length≤8:=by simpa using ha
  refine And.intro (show 2≤1000 by decide) (And.intro (by rw[List.length_map];omega) (kN _ _ ⟨bl++[(want,acts)],re,_,_,_,_,_,_,_,_,by rw[List.map_append];rfl,rfl,by rw[List.map_append,List.append_assoc];exact hb,fun b z=>?_,?_⟩))
  ·rcases List.mem_append.mp z with z | z
   ·exact hbo b z
   ·rw[List.mem_singleton]at z;subst z;exact⟨⟨hss,hso,ha',O.fs⟩,O.ri⟩
  ·have h0:n'≤n+89:=by simpa using hn'
   rw[List.length_map]
   omega
 ·obtain⟨ks,acts,y2,y7,y8,y9,y10,rfl,O,hk,ha,hn'⟩:=I
  rw[List.length_cons]at hk ha hn'
  dsimp only[jak,List.set]
  exact juy hw0 hwl (by omega) O hk ha (by omega) kN'
theorem jgf:∀ws n Q,jmq ws n Q→jdx (jbf ["_law_tape_here","_law_wants","_law_k","_law_blocks","_law_want","_law_known_here","_law_acts","_law_name","_law_open_ones","_law_act_here","_law_bound"] ws) n {nx:=fun _ n=>Q (.d .none) n,rt:=Q}:=fun ws n0 Q h=>by
 obtain⟨rfl,hn0,k⟩:=h
 show jdx [some (.w .tp),none,none,none,none,none,none,none,none,none,none] n0 _
 refine jao (show sOwn 1 _ _ _ _ from And.intro (Nat.zero_le _) (And.intro (by decide) ?_))
 dsimp only[List.set]
 refine jao (jva (L:=[.int 0,.int 1,.int 2,.int 1,.int 0,.int 2,.int 5]) (M:=5) rfl (fun Q q=>of_i (And.intro (by decide) q)) (by omega) rfl (by decide) (by decide) (fun d hd=>?_) (by decide) fun j hj=>?_)
 ·simp only[List.mem_cons,List.not_mem_nil,or_false]at hd
  rcases hd with rfl | rfl | rfl | rfl | rfl | rfl | rfl
  ·exact⟨0,by decide,rfl⟩
  ·exact⟨1,by decide,rfl⟩
  ·exact⟨2,by decide,rfl⟩
  ·exact⟨1,by decide,rfl⟩
  ·exact⟨0,by decide,rfl⟩
  ·exact⟨2,by decide,rfl⟩
  ·exact⟨5,by decide,rfl⟩
 refine jba (WanI n0) (fun δ n I=>?_) (fun d r δ n N I kN=>?_) _ _ _ ⟨[],none,rfl,by rw[jbx];simpa using hj,fun d hd=>by simp at hd,by rw[jbx];omega⟩
 ·obtain⟨more,x2,rfl,hl,hm,hn⟩:=I
  dsimp only
  refine jao (jd2 ?_)
  dsimp only[List.set]
  refine jg1 rfl ?_
  dsimp only[List.set]
  refine jao ?_
  unfold sFor jim
  refine jad rfl ?_
  dsimp only
  have hw:∀w∈([]:List Str)::more,w∈jgu:=fun d hd=>by
   rcases List.mem_cons.mp hd with rfl | z
   ·simp[jgu]
   ·exact hm d z
  have hwl:(([]:List Str)::more).length≤6:=by rw[List.length_cons];simp at hl;omega
  refine jba (BlkI ([]::more) n0) (fun δ n' I=>?_) (fun d r δ n' N I kN=>?_) _ _ _ ⟨[],[]::more,_,_,_,_,_,_,_,_,rfl,rfl,rfl,fun b hb=>by simp at hb,?_⟩
  ·obtain⟨bl,re,y2,y4,y5,y6,y7,y8,y9,y10,rfl,er,hb,hbo,hn'⟩:=I
   cases List.map_eq_nil_iff.mp er.symm
   rw[List.append_nil]at hb
   dsimp only
   refine jg1 rfl ?_
   dsimp only[List.set]
   refine jb4 (b1_i (jad rfl (jhc (k bl n' ⟨by have:=congrArg List.length hb;simp at this;omega,?_,fun b z=>⟨(hbo b z).1,by rw[hb];exact(hbo b z).2⟩⟩ (by simpa using hn')))))
   rw[←hb,List.length_map]at hwl
   exact hwl
  ·obtain⟨bl,re,y2,y4,y5,y6,y7,y8,y9,y10,rfl,er,hb,hbo,hn'⟩:=I
   obtain⟨want,re,rfl,rfl,rfl⟩:=List.map_eq_cons_iff.mp er.symm
   rw[List.length_cons,List.length_map]at hn'
   dsimp only[jak,List.set]
   exact juu hw rfl hwl hn0 hb hbo (by omega) kN
  ·have h1:n≤n0+6:=by simpa using hn
   have h2:(((([]:List Str)::more).map jc0).length:Int)≤6:=by rw[List.length_map];omega
   omega
 ·obtain⟨more,x2,rfl,hl,hm,hn⟩:=I
  rw[List.length_cons]at hl hn
  dsimp only[jak,List.set]
  refine jk2 rfl (w2_i (of_i (And.intro (by decide) (And.intro (by decide) (And.intro (by decide) (And.intro (by decide) (And.intro (by decide) (And.intro (by decide) ?_))))))))
  dsimp only
  refine jek (m:=5) rfl (by omega) (by decide) (by decide) fun q q0 q1=>jcv (ds:=[jc0 [],jc0 ["n"],jc0 ["go","n"],jc0 ["nm"],jc0 []]) q0 q1 fun w hw=>?_
  have:∃v∈jgu,w=jc0 v:=by
   simp only[List.mem_cons,List.not_mem_nil,or_false]at hw
   rcases hw with rfl | rfl | rfl | rfl | rfl
   ·exact⟨[],by simp[jgu],rfl⟩
   ·exact⟨["n"],by simp[jgu],rfl⟩
   ·exact⟨["go","n"],by simp[jgu],rfl⟩
   ·exact⟨["nm"],by simp[jgu],rfl⟩
   ·exact⟨[],by simp[jgu],rfl⟩
  obtain⟨v,hv,rfl⟩:=this
  refine And.intro (by rw[List.length_map,List.length_cons];omega) (kN _ _ ⟨more++[v],some (.w (.d d)),?_,by rw[List.length_append,List.length_singleton];omega,fun e he=>?_,by omega⟩)
  ·rw[show([]::(more++[v]):List (List Str))=([]::more)++[v]from rfl,List.map_append];rfl
  rcases List.mem_append.mp he with z | z
  ·exact hm e z
  ·rw[List.mem_singleton]at z
   subst z
   exact hv
section
variable {δ:Sl} {n:Int} {K:DEnds} {i:Nat} {s a b c:Str} {r:List PyData} {k:Bool} {Q:Bool→Int→Prop}
theorem jud (e:δ[i]?=some (some (.w (.d (.tuple (.str s::r)))))) (h:inD (.str s) [.str a,.str b,.str c]=k) (q:Q k n):cT (w2 (w2 (wVar i) (wC (.int 0)) gIx) (wTup (jab (wC (.str a)) (jab (wC (.str b)) (jab (wC (.str c)) aNil)))) (gIn false)) δ n Q:=by
 refine w2_i (jgy e ?_)
 show 3≤1000∧jd5 (.str s)=true∧_∧Q (inD (.str s) [.str a,.str b,.str c]) n
 exact⟨by decide,rfl,rfl,by rw[h];exact q⟩
theorem jl2 (e:δ[i]?=some (some (.w (.d (.tuple (.str s::r)))))) (h:inD (.str s) [.str a,.str b]=k) (q:Q k n):cT (w2 (w2 (wVar i) (wC (.int 0)) gIx) (wTup (jab (wC (.str a)) (jab (wC (.str b)) aNil))) (gIn false)) δ n Q:=by
 refine w2_i (jgy e ?_)
 show 2≤1000∧jd5 (.str s)=true∧_∧Q (inD (.str s) [.str a,.str b]) n
 exact⟨by decide,rfl,rfl,by rw[h];exact q⟩
theorem jmg {A B:DTT} (ha:∀Q:Bool→Int→Prop,Q false n→A δ n Q) (q:Q false n):cAnd A B δ n Q:=ha _ (by show if false=true then _ else _;rw[if_neg Bool.false_ne_true];exact q)
end
theorem j1n {δ:Sl} {n:Int} {K:DEnds} {i:Nat} {w:DT} {es:List PyData} (e:δ[i]?=some (some (.own es))) (k:w δ n fun x n1=>match x with
  |.d (.list fs)=>(es.length < 1000000∧fs.length < 1000000)∧K.nx (δ.set i (some (.own (es++fs)))) n1
  |_=>False):sExt i w δ n K:=by
 unfold sExt;rw[e];exact k
theorem jij:∀ws n Q,jf0 ws n Q→ws.length=3:=fun ws n Q h=>by obtain⟨_,_,_,_,rfl,_⟩:=h;rfl
theorem jh1:∀ws n Q,jf0 ws n Q→jer (jbf ["_law_program_here","_law_block","_law_place","_law_found","_law_act_here"] ws) n {nx:=fun _ n=>Q (.d .none) n,rt:=Q}:=fun ws n Q h=>by
 obtain⟨bs,i,p,⟨w,as⟩,rfl,hi,⟨hb1,hb2,hb3,hb4⟩,hp,k⟩:=h
 dsimp only at hb1 hb2 hb3 hb4 hp k
 have hi':(bs.map blD)[i]?=some (blD (w,as)):=by rw[List.getElem?_map,hi];rfl
 show jer [some (.w (.d (.tuple (bs.map blD)))),some (.w (.d (.int i))),some (.w (.d (.int p))),none,none] n _
 refine jao (show sOwn 3 (jd6 _) _ _ _ from w2_i (w2_i (jad rfl (jad rfl (gN_i hi' (c_i (g0_i ?_)))))))
 dsimp only[jc0,List.set]
 refine jao ?_
 unfold sFor jef jpo
 refine w2_i (w2_i (jad rfl (jad rfl (gN_i hi' (c_i (g1_i ?_))))))
 dsimp only[jxi,jxh]
 refine jad rfl ?_
 dsimp only
 rw[j0t _ (by rw[List.length_map];exact hp),←List.map_take]
 refine jba (fun ds δ n'=>∃(dn re:List Ac) (L:List Str) (x:Option SV),ds=re.map Ac.d∧dn++re=as.take p∧n'=n∧δ=[some (.w (.d (.tuple (bs.map blD)))),some (.w (.d (.int i))),some (.w (.d (.int p))),some (.own (L.map .str)),x]∧KnI w dn L) (fun δ n' I=>?_) (fun d r δ n' N I kN=>?_) _ _ _
  ⟨[],as.take p,w,none,rfl,rfl,rfl,rfl,KnI.first hb1 hb2⟩
 ·obtain⟨dn,re,L,x,e,hdn,rfl,rfl,I⟩:=I
  cases List.map_eq_nil_iff.mp e.symm
  rw[List.append_nil]at hdn
  subst hdn
  dsimp only
  refine jg1 rfl ?_
  dsimp only[List.set]
  have hl:(as.take p).length≤8:=Nat.le_trans (List.length_take_le _ _) (by omega)
  have hI:=I.len
  refine jb4 (of_i (show jkm _ _ _ _ from jad rfl ?_))
  exact Exists.intro L ⟨.inl rfl,by omega,fun x hx=>Nat.le_trans (I.ok x hx).1 (by decide),fun ys a b c=>k ys (Nat.le_trans (jlt a fun z hz=>(b z).mp hz) (by omega)) a fun z hz=>I.ok z ((b z).mp hz)⟩
 ·obtain⟨dn,re,L,x,e,hdn,rfl,rfl,I⟩:=I
  obtain⟨a,re,rfl,rfl,rfl⟩:=List.map_eq_cons_iff.mp e.symm
  dsimp only[jak,List.set]
  have ha:okFs a.fs:=(hb4 a (List.mem_of_mem_take (i:=p) (by rw[←hdn];exact List.mem_append_right _ List.mem_cons_self))).1
  have hlen:L.length≤34:=by
   have h1:dn.length+(re.length+1)=(as.take p).length:=by rw[←hdn,List.length_append,List.length_cons]
   have h3:=I.len
   have h4:(as.take p).length≤as.length:=List.length_take_le' _ _
   omega
  have hdn':(dn++[a])++re=as.take p:=by rw[List.append_assoc];exact hdn
  have nxt:∀L',KnI w (dn++[a]) L'→N [some (.w (.d (.tuple (bs.map blD)))),some (.w (.d (.int i))),some (.w (.d (.int p))),some (.own (L'.map .str)),some (.w (.d a.d))] n':=fun L' I'=>kN _ _ ⟨dn++[a],re,L',_,rfl,hdn',rfl,rfl,I'⟩
  have get:∀(K:DEnds) (hK:∀δ n,N δ n→K.nx δ n) (s:Str) (fs:List Fe) (r:List PyData),a.d=.tuple (.str s::fsD fs::r)→inD (.str s) [.str "take",.str "read",.str "look"]=true→a.bs=bndE fs→a.fs=fs→sIf (cT (w2 (w2 (wVar 4) (wC (.int (0))) gIx) (wTup (jab (wC (.str "take")) (jab (wC (.str "read")) (jab (wC (.str "look")) aNil)))) (gIn false))) (sExt 3 (wOf (jcy [none] (jef (w2 (wVar 4) (wC (.int (1))) gIx)) (jak 0) (cT (w2 (w2 (wVar 0) (wC (.int (0))) gIx) (wC (.str "bind")) gEq)) (w2 (wVar 0) (wC (.int (1))) gIx)))) ja6
    [some (.w (.d (.tuple (bs.map blD)))),some (.w (.d (.int i))),some (.w (.d (.int p))),some (.own (L.map .str)),some (.w (.d a.d))] n' K:=fun K hK s fs r e1 e2 e3 e4=>by
   rw[e1]at nxt ⊢
   refine if_y (fun Q q=>jud rfl e2 q) ?_
   have hb:(bndE fs).length≤4:=jt5 (e4▸ha)
   refine j1n rfl (of_i (jsg (ds:=fs.map Fe.d) (fun Q q=>jfv rfl q) (jpe fs n' ?_)))
   refine And.intro ⟨by rw[List.length_map];omega,by rw[List.length_map];omega⟩ ?_
   have:=nxt (L++bndE fs) (I.more (fun k=>by rw[e3]) hb ha)
   rw[List.map_append]at this
   exact hK _ _ this
  have skip:∀(K:DEnds) (hK:∀δ n,N δ n→K.nx δ n) (s:Str) (r:List PyData),a.d=.tuple (.str s::r)→inD (.str s) [.str "take",.str "read",.str "look"]=false→a.bs=[]→sIf (cT (w2 (w2 (wVar 4) (wC (.int (0))) gIx) (wTup (jab (wC (.str "take")) (jab (wC (.str "read")) (jab (wC (.str "look")) aNil)))) (gIn false))) (sExt 3 (wOf (jcy [none] (jef (w2 (wVar 4) (wC (.int (1))) gIx)) (jak 0) (cT (w2 (w2 (wVar 0) (wC (.int (0))) gIx) (wC (.str "bind")) gEq)) (w2 (wVar 0) (wC (.int (1))) gIx)))) ja6
    [some (.w (.d (.tuple (bs.map blD)))),some (.w (.d (.int i))),some (.w (.d (.int p))),some (.own (L.map .str)),some (.w (.d a.d))] n' K:=fun K hK s r e1 e2 e3=>by
   rw[e1]at nxt ⊢
   refine if_n (fun Q q=>jud rfl e2 q) (hK _ _ (nxt L (I.skip e3)))
  cases a with
  |lay fs age=>exact skip _ (fun _ _ z=>z) "lay" [fsD fs,age] rfl (by decide +kernel) rfl
  |take fs=>exact get _ (fun _ _ z=>z) "take" fs [] rfl (by decide +kernel) rfl rfl
  |read fs=>exact get _ (fun _ _ z=>z) "read" fs [] rfl (by decide +kernel) rfl rfl
  |look fs b=>exact get _ (fun _ _ z=>z) "look" fs [.int b] rfl (by decide +kernel) rfl rfl
  |same f g b=>exact skip _ (fun _ _ z=>z) "same" [f.d,g.d,.int b] rfl (by decide +kernel) rfl
  |go b=>exact skip _ (fun _ _ z=>z) "go" [.int b] rfl (by decide +kernel) rfl
theorem jvo {α:Type} {f:α→PyData} {P:α→Prop}:∀{ds:List PyData},(∀d∈ds,∃x,P x∧d=f x)→∃xs:List α,ds=xs.map f∧∀x∈xs,P x
 |[],_=>⟨[],rfl,fun x hx=>by simp at hx⟩
 |d::r,h=>by
  obtain⟨x,hx,rfl⟩:=h d List.mem_cons_self
  obtain⟨xs,rfl,hxs⟩:=jvo fun e he=>h e (List.mem_cons_of_mem _ he)
  exact⟨x::xs,rfl,fun y hy=>(List.mem_cons.mp hy).elim (fun e=>e▸hx) (hxs y)⟩
theorem jih:∀ws n Q,jes ws n Q→ws.length=2:=fun ws n Q h=>by obtain⟨_,rfl,_⟩:=h;rfl
noncomputable def NotI (m:Nat) (n0:Int) (ds:List PyData) (δ:Sl) (n:Int):Prop:=∃(ns:List Nt) (x y:Option SV),δ=[some (.w .tp),some (.w (.d (.int m))),some (.own (ns.map ntD)),x,y]∧ns.length+ds.length≤m∧(∀q∈ns,okR q.1)∧n+6*(ds.length:Int)≤n0+100
theorem jhz:∀ws n Q,jes ws n Q→jep (jbf ["_law_tape_here","_law_most","_law_found","_law_k","_law_row"] ws) n {nx:=fun _ n=>Q (.d .none) n,rt:=Q}:=fun ws n0 Q h=>by
 obtain⟨m,rfl,hm,hn0,k⟩:=h
 show jep [some (.w .tp),some (.w (.d (.int m))),none,none,none] n0 _
 refine jao (jd2 ?_)
 dsimp only[List.set]
 refine jao ?_
 unfold sFor jaz
 refine je2 (m:=(m:Int)+1) rfl (fun Q q=>w2_i (jad rfl (c_i q))) (by omega) (by omega) (by omega) fun r r0 r1=>?_
 refine And.intro ⟨by omega,by omega⟩ ?_
 have hr:r.toNat≤m:=by omega
 refine jba (NotI m n0) (fun δ n I=>?_) (fun d r' δ n N I kN=>?_) _ _ _ ⟨[],none,none,rfl,by rw[jbx];simpa using hr,fun d hd=>by simp at hd,by rw[jbx];omega⟩
 ·obtain⟨ns,x,y,rfl,hl,hns,hn⟩:=I
  dsimp only
  refine jg1 rfl ?_
  dsimp only[List.set]
  exact jb4 (b1_i (jad rfl (jhc (k ns n ⟨by simpa using hl,hns⟩ (by simpa using hn)))))
 ·obtain⟨ns,x,y,rfl,hl,hns,hn⟩:=I
  rw[List.length_cons]at hl hn
  dsimp only[jak,List.set]
  refine jao (show sSet 4 _ _ _ _ from b1_i (of_i ?_))
  unfold jcy
  dsimp only
  refine c1_i (jad rfl (And.intro rfl ⟨by omega,fun s s1 s4=>?_⟩))
  refine And.intro ⟨by omega,by omega⟩ ?_
  rw[Int.toNat_natCast]
  refine jge (fun v=>isV v=true) 1 (fun d n Q' hn q=>c1_i (jad rfl (And.intro rfl ⟨by omega,fun v hv=>q v _ (ji3 hv) (by omega)⟩))) _ [] none _ (by rw[jbx];omega) fun row n' hrl hrow hn'=>?_
  rw[jbx]at hrl hn'
  rw[List.nil_append]
  refine jhc ?_
  dsimp only[List.set]
  refine jk2 rfl (jdl (jad rfl (jx3 rfl (by omega) fun v hv=>?_)))
  refine And.intro (show 2≤1000 by decide) (And.intro (by rw[List.length_map];omega) (kN _ _ ⟨ns++[(row,v)],_,_,by rw[List.map_append];rfl,by rw[List.length_append,List.length_singleton];omega,fun e he=>?_,by omega⟩))
  rcases List.mem_append.mp he with z | z
  ·exact hns e z
  ·rw[List.mem_singleton]at z
   subst z
   exact⟨by show row.length≤4;omega,hrow⟩
theorem jkc:∀ws n Q,jmr ws n Q→ws.length=1:=fun ws n Q h=>by obtain⟨rfl,_⟩:=h;rfl
theorem jiz:∀ws n Q,jmr ws n Q→jfj (jbf ["_law_tape_here","_law_programs"] ws) n {nx:=fun _ n=>Q (.d .none) n,rt:=Q}:=fun ws n0 Q h=>by
 obtain⟨rfl,hn0,k⟩:=h
 show jfj [some (.w .tp),none] n0 _
 refine jao (show sOwn 1 _ _ _ _ from ?_)
 unfold sOwn jcy jaz
 refine w2_i (of_i (And.intro (by decide) ?_))
 dsimp only
 refine jek (m:=8) rfl (by omega) (by decide) (by decide) fun q q0 q1=>jcv (ds:=[.int 2,.int 1,.int 2,.int 3,.int 2,.int 1,.int 0,.int 5]) q0 q1 fun d hd=>?_
 have hj:∃j:Nat,j≤5∧d=.int j:=by
  simp only[List.mem_cons,List.not_mem_nil,or_false]at hd
  rcases hd with rfl | rfl | rfl | rfl | rfl | rfl | rfl | rfl
  ·exact⟨2,by decide,rfl⟩
  ·exact⟨1,by decide,rfl⟩
  ·exact⟨2,by decide,rfl⟩
  ·exact⟨3,by decide,rfl⟩
  ·exact⟨2,by decide,rfl⟩
  ·exact⟨1,by decide,rfl⟩
  ·exact⟨0,by decide,rfl⟩
  ·exact⟨5,by decide,rfl⟩
 obtain⟨j,hj,rfl⟩:=hj
 refine And.intro ⟨by omega,by omega⟩ ?_
 rw[Int.toNat_natCast]
 refine jge (fun d=>∃P,okG P∧d=prD P) 600 (fun d n Q' hn q=>c1_i (jad rfl (And.intro rfl ⟨by omega,fun P n' hP hn'=>q (prD P) n' ⟨P,hP,rfl⟩ (by omega)⟩))) _ [] none _ (by rw[jbx];omega) fun ds n1 hpl hps0 hn1=>?_
 rw[jbx]at hpl hn1
 rw[List.nil_append]
 obtain⟨ps,rfl,hps⟩:=jvo hps0
 clear hps0
 rw[List.length_map]at hpl
 dsimp only[List.set]
 have rest:∀(ps':Pg) (n2:Int),ps'.length≤5→(∀P∈ps',okG P)→n2≤n1+1→sFrz 1 (sRet (wTup (jab (wB jc1 (jab (wVar 1) aNil)) (jab (jaq jes (jab (wVar 0) (jab (w2 (wOf (fLst (jab (wC (.int (4))) (jab (wC (.int (3))) (jab (wC (.int (6))) (jab (wC (.int (12))) aNil)))))) (jaq jay (jab (wVar 0) (jab (wC (.int (4))) aNil))) gIxL) aNil))) aNil)))) [some (.w .tp),some (.own (ps'.map prD))] n2 {nx:=fun _ n=>Q (.d .none) n,rt:=Q}:=fun ps' n2 hl' hp' hn2=>by
  refine jg1 rfl ?_
  dsimp only[List.set]
  refine jb4 (jdl (b1_i (jad rfl (jhc (c2_i (jad rfl (w2_i (of_i (And.intro (by decide) ?_)))))))))
  dsimp only
  refine jek (m:=4) rfl (by omega) (by decide) (by decide) fun r r0 r1=>jcv (ds:=[.int 4,.int 3,.int 6,.int 12]) r0 r1 fun d hd=>?_
  have hm:∃m:Nat,m≤12∧d=.int m:=by
   simp only[List.mem_cons,List.not_mem_nil,or_false]at hd
   rcases hd with rfl | rfl | rfl | rfl
   ·exact⟨4,by decide,rfl⟩
   ·exact⟨3,by decide,rfl⟩
   ·exact⟨6,by decide,rfl⟩
   ·exact⟨12,by decide,rfl⟩
  obtain⟨m,hm,rfl⟩:=hm
  exact Exists.intro m ⟨rfl,hm,by omega,fun ns n' hns hn'=>And.intro (show 2≤1000 by decide) (k ps' _ n' ⟨hl',hp'⟩ (by omega))⟩
 refine jao (if_i ?_)
 refine(show cT _ _ _ _ from w2_i (b1_i (jhl rfl (jzs (c_i (eqLi ?_))))))
 rw[List.length_map]
 show if decide ((ps.length:Int)=2)=true then _ else _
 by_cases h2:(ps.length:Int)=2
 ·rw[if_pos (decide_eq_true h2)]
  refine w2_i (jek (m:=4) rfl (by omega) (by decide) (by decide) fun q q0 q1=>c_i (eqLi ?_))
  show if decide (q=0)=true then _ else _
  by_cases hq:q=0
  ·rw[if_pos (decide_eq_true hq)]
   have hl2:ps.length=2:=by omega
   obtain⟨P,P',rfl⟩:∃P P',ps=[P,P']:=by
    match ps,hl2 with
    |[P,P'],_=>exact⟨P,P',rfl⟩
   refine(show sPut 1 _ _ _ _ _ from w2_i (jhl rfl (c_i ?_)))
   refine(show gIxL (.ln [prD P,prD P']) (.d (.int 0)) _ _ from ?_)
   refine rest [P,P] _ (show 2≤5 by decide) (fun R hR=>?_) (by omega)
   simp only[List.mem_cons,List.not_mem_nil,or_false,or_self]at hR
   subst hR
   exact hps _ List.mem_cons_self
  ·rw[if_neg (by simpa using hq)]
   exact rest ps _ (by omega) hps (by omega)
 ·rw[if_neg (by simpa using h2)]
  exact rest ps _ (by omega) hps (by omega)
theorem addI {i j n:Int} {Q:DQ} (k:Q (.d (.int (i+j))) n):gI0 (fun i j=>.int (i+j)) (.d (.int i)) (.d (.int j)) n Q:=k
theorem jse {Q:List PyData→Int→Prop}:∀(ys:List Str) (acc:Nm) (x:Option SV) (n:Int),n+(ys.length:Int) < 2 ^ 39→(∀p∈acc,isV p.2=true)→(∀(nm:Nm) (n':Int),nm.map (·.1)=acc.map (·.1)++ys→(∀p∈nm,isV p.2=true)→n'≤n+(ys.length:Int)→Q (nm.map jo3) n') →
  jdw (jak 0) cYes (wTup (jab (wVar 0) (jab (jaq jck (jab (wVar 1) aNil)) aNil))) Q (ys.map .str) (acc.map jo3) [x,some (.w .tp)] n
 |[],acc,x,n,_,ha,q=>q acc n (by rw[List.append_nil]) ha (by omega)
 |y::ys,acc,x,n,hn,ha,q=>by
  rw[List.length_cons]at hn q
  simp only[List.map_cons,jdw,jak,cYes,if_true,List.set_cons_zero]
  refine jdl (jad rfl (c1_i (jad rfl (And.intro rfl ⟨by omega,fun v hv=>And.intro (show 2≤1000 by decide) ?_⟩))))
  have:=jse (Q:=Q) ys (acc++[(y,v)]) (some (.w (.d (.str y)))) (n+1) (by omega) (fun p hp=>(List.mem_append.mp hp).elim (ha p) fun z=>by rw[List.mem_singleton.mp z];exact ji3 hv) fun nm n' e hm hn'=>q nm n' (by rw[e,List.map_append,List.append_assoc];rfl) hm (by omega)
  rw[List.map_append]at this
  exact this
theorem jig:∀ws n Q,jh5 ws n Q→ws.length=2:=fun ws n Q h=>by obtain⟨_,rfl,_⟩:=h;rfl
noncomputable def StI (ps:Pg) (n0:Int) (ds:List PyData) (δ:Sl) (n:Int):Prop:=∃(hs:List Hn) (re:Pg) (x4 x5 x6 x7:Option SV),δ=[some (.w .tp),some (.w (.d (pgD ps))),some (.own (hs.map hnD)),x4,x5,x6,x7]∧ds=re.map prD∧re=ps.drop hs.length∧hs.length≤ps.length ∧
 (∀(i:Nat) (P:List Bl),i < hs.length→ps[i]?=some P→∃(h:Hn) (b:Bl),hs[i]?=some h∧P[h.1]?=some b∧okN h.2.2)∧n+42*(ds.length:Int)≤n0+210
theorem jhy:∀ws n Q,jh5 ws n Q→jeo (jbf ["_law_tape_here","_law_programs","_law_hands","_law_program_here","_law_block","_law_place","_law_names"] ws) n {nx:=fun _ n=>Q (.d .none) n,rt:=Q}:=fun ws n0 Q h=>by
 obtain⟨ps,rfl,⟨hpl,hps⟩,hn0,k⟩:=h
 show jeo [some (.w .tp),some (.w (.d (pgD ps))),none,none,none,none,none] n0 _
 refine jao (jd2 ?_)
 dsimp only[List.set]
 refine jao ?_
 unfold sFor jef
 refine jad rfl ?_
 dsimp only[pgD]
 refine jba (StI ps n0) (fun δ n I=>?_) (fun d r δ n N I kN=>?_) _ _ _ ⟨[],ps,none,none,none,none,rfl,rfl,rfl,Nat.zero_le _,fun i P hi=>absurd hi (Nat.not_lt_zero _),by rw[List.length_map];omega⟩
 ·obtain⟨hs,re,x4,x5,x6,x7,rfl,er,hre,hle,hok,hn⟩:=I
  have e0:=List.map_eq_nil_iff.mp er.symm
  rw[e0]at hre
  have hlen:ps.length≤hs.length:=List.drop_eq_nil_iff.mp hre.symm
  dsimp only
  refine jg1 rfl ?_
  dsimp only[List.set]
  refine jb4 (jdl (b1_i (jad rfl (c2_i (jad rfl (c_i (Exists.intro 6 ⟨rfl,by decide,by simp at hn;omega,fun ns n' hns hn'=>?_⟩)))))))
  exact And.intro (show 2≤1000 by decide) (k hs ns n' (fun i P hi=>hok i P (by have:=(List.getElem?_eq_some_iff.mp hi).1;omega) hi) hns (by simp at hn;omega))
 ·obtain⟨hs,re,x4,x5,x6,x7,rfl,er,hre,hle,hok,hn⟩:=I
  obtain⟨P,re',rfl,rfl,rfl⟩:=List.map_eq_cons_iff.mp er.symm
  rw[List.length_cons,List.length_map]at hn
  have hlt:hs.length < ps.length:=by
   have:=congrArg List.length hre
   rw[List.length_cons,List.length_drop]at this
   omega
  have hcons:=List.drop_eq_getElem_cons hlt
  rw[←hre]at hcons
  obtain⟨hP,hre'⟩:=List.cons.inj hcons
  have hPg:ps[hs.length]?=some P:=by rw[List.getElem?_eq_getElem hlt,hP]
  obtain⟨g1,g2,g3⟩:=hps P (List.mem_of_getElem? hPg)
  dsimp only[jak,List.set]
  refine jao (show sSet 4 _ _ _ _ from je2 (m:=(P.map blD).length) rfl (fun Q q=>b1_i (jad rfl q)) (by omega) (by rw[List.length_map];omega) (by rw[List.length_map];omega) fun r r0 r1=>?_)
  rw[List.length_map]at r1
  obtain⟨b,hb⟩:∃b:Nat,r=(b:Int):=⟨r.toNat,by omega⟩
  subst hb
  have hbl:b < P.length:=by omega
  obtain⟨bl,hbl'⟩:∃bl:Bl,P[b]?=some bl:=⟨P[b],List.getElem?_eq_getElem hbl⟩
  obtain⟨w,as⟩:=bl
  have hi':(P.map blD)[b]?=some (blD (w,as)):=by rw[List.getElem?_map,hbl'];rfl
  obtain⟨ob,_⟩:=g3 (w,as) (List.mem_of_getElem? hbl')
  have has:as.length≤8:=ob.2.2.1
  dsimp only[List.set]
  refine jao (show sSet 5 _ _ _ _ from je2 (m:=((as.map Ac.d).length:Int)+1) rfl (fun Q q=>w2_i (b1_i (w2_i (w2_i (jad rfl (jad rfl (gN_i hi' (c_i (g1_i ?_)))))))) ) (by omega) (by omega) (by rw[List.length_map];omega) fun r r0' r1'=>?_)
  ·exact addI q
  rw[List.length_map]at r1'
  obtain⟨p,hp⟩:∃p:Nat,r=(p:Int):=⟨r.toNat,by omega⟩
  subst hp
  dsimp only[List.set]
  refine jao (show sSet 6 _ _ _ _ from b1_i (of_i ?_))
  unfold jcy jim
  dsimp only
  refine c3_i (jad rfl (jad rfl (jad rfl (Exists.intro P ⟨b,p,(w,as),rfl,hbl',ob,by show p≤as.length;omega,fun ys hys hnd hyo=>?_⟩))))
  dsimp only
  refine jse ys [] none _ (by omega) (fun p hp=>by simp at hp) fun nm n' hnm hnv hn'=>?_
  rw[List.map_nil,List.nil_append]at hnm
  have hnl:nm.length=ys.length:=by rw[←hnm,List.length_map]
  have onm:okN nm:=⟨by omega,by rw[hnm];exact hnd,fun q hq=>⟨hyo _ (by rw[←hnm];exact List.mem_map.mpr ⟨q,hq,rfl⟩),hnv q hq⟩⟩
  dsimp only[je0,List.set]
  refine jk2 rfl (jwd (jad rfl (jad rfl (jad rfl ?_))))
  refine And.intro (show 3≤1000 by decide) (And.intro (by rw[List.length_map];omega) (kN _ _ ⟨hs++[(b,p,nm)],re',_,_,_,_,by rw[List.map_append];rfl,rfl,by rw[List.length_append,List.length_singleton];exact hre',by rw[List.length_append,List.length_singleton];omega,fun i P' hi hP'=>?_,by rw[List.length_map];omega⟩))
  rw[List.length_append,List.length_singleton]at hi
  by_cases z:i < hs.length
  ·obtain⟨h,b',q1,q2,q3⟩:=hok i P' z hP'
   exact⟨h,b',by rw[List.getElem?_append_left z];exact q1,q2,q3⟩
  ·have z':i=hs.length:=by omega
   subst z'
   rw[hPg]at hP'
   cases hP'
   exact⟨(b,p,nm),(w,as),by simp,hbl',onm⟩
theorem j04 {δ:Sl} {n:Int} {Q:DQ} {u:DTT} {v w:DT} {b:Bool} (hu:∀Q:Bool→Int→Prop,Q b n→u δ n Q) (k:if b=true then v δ n Q else w δ n Q):wIf u v w δ n Q:=hu _ k
theorem jx1 {α:Type} {c:DTT} {w:DT} {Q:List PyData→Int→Prop} {rest:Sl} (f g:α→PyData) (p:α→Bool):∀(xs:List α) (acc:List PyData) (x:Option SV) (n:Int),(∀a∈xs,∀(n:Int) (Q':Bool→Int→Prop),Q' (p a) n→c (some (.w (.d (f a)))::rest) n Q')→(∀a∈xs,∀(n:Int) (Q':DQ),Q' (.d (g a)) n→w (some (.w (.d (f a)))::rest) n Q')→Q (acc++(xs.filter p).map g) n→jdw (jak 0) c w Q (xs.map f) acc (x::rest) n
 |[],acc,x,n,_,_,q=>by rw[List.filter_nil,List.map_nil,List.append_nil]at q;exact q
 |a::r,acc,x,n,hp,h,q=>by
  simp only[List.map_cons,jdw,jak,List.set_cons_zero]
  refine hp a List.mem_cons_self n _ ?_
  cases e:p a with
  |true =>
   simp only[if_true]
   refine h a List.mem_cons_self n _ (jx1 f g p r (acc++[g a]) _ n (fun b hb=>hp b (List.mem_cons_of_mem _ hb)) (fun b hb=>h b (List.mem_cons_of_mem _ hb)) ?_)
   rw[List.filter_cons,if_pos e,List.map_cons]at q
   rw[List.append_assoc]
   exact q
  |false =>
   simp only[Bool.false_eq_true,if_false]
   refine jx1 f g p r acc _ n (fun b hb=>hp b (List.mem_cons_of_mem _ hb)) (fun b hb=>h b (List.mem_cons_of_mem _ hb)) ?_
   rw[List.filter_cons,if_neg (by rw[e];exact Bool.false_ne_true)]at q
   exact q
structure HandAt (ps:Pg) (hs:List Hn) (h:Nat) (P:List Bl) (xb xp:Nat) (nm:Nm) (w:List Str) (as:List Ac):Prop where
 prog:ps[h]?=some P
 hand:hs[h]?=some (xb,xp,nm)
 blk:P[xb]?=some (w,as)
 nms:okN nm
theorem jfb {ps:Pg} {hs:List Hn} (ok:okHs ps hs) {h:Nat} (hh:h < ps.length):∃P xb xp nm w as,HandAt ps hs h P xb xp nm w as:=by
 have hP:ps[h]?=some ps[h]:=List.getElem?_eq_getElem hh
 obtain⟨⟨xb,xp,xn⟩,⟨w,as⟩,e1,e2,e3⟩:=ok h _ hP
 exact⟨_,xb,xp,xn,w,as,hP,e1,e2,e3⟩
section
variable {ps:Pg} {hs:List Hn} {h:Nat} {P:List Bl} {xb xp:Nat} {nm:Nm} {w:List Str} {as:List Ac}
theorem HandAt.act (H:HandAt ps hs h P xb xp nm w as):actO ps hs h=as[xp]?:=by
 unfold actO
 rw[H.prog,H.hand]
 show(P[xb]?.bind fun b=>b.2[xp]?)=_
 rw[H.blk]
 rfl
theorem HandAt.nmq (H:HandAt ps hs h P xb xp nm w as):nmO hs h=nm:=by unfold nmO;rw[H.hand];rfl
theorem HandAt.ok (H:HandAt ps hs h P xb xp nm w as) (ok:okPg ps) {a:Ac} (e:actO ps hs h=some a):okA a:=by
 rw[H.act]at e
 have hP:=(ok.2 P (List.mem_of_getElem? H.prog)).2.2 (w,as) (List.mem_of_getElem? H.blk)
 exact hP.1.2.2.2 a (List.mem_of_getElem? e)
theorem HandAt.hD (H:HandAt ps hs h P xb xp nm w as):(hs.map hnD)[h]?=some (.tuple [.int xb,.int xp,jb3 nm]):=by rw[List.getElem?_map,H.hand];rfl
theorem HandAt.pD (H:HandAt ps hs h P xb xp nm w as):(ps.map prD)[h]?=some (.tuple (P.map blD)):=by rw[List.getElem?_map,H.prog];rfl
theorem HandAt.bD (H:HandAt ps hs h P xb xp nm w as):(P.map blD)[xb]?=some (.tuple [jc0 w,.tuple (as.map Ac.d)]):=by rw[List.getElem?_map,H.blk];rfl
end
theorem jsr {δ:Sl} {n:Int} {Q:DQ} {i j xp:Nat} {as:List Ac} (e4:δ[j]?=some (some (.w (.d (.int xp))))) (e5:δ[i]?=some (some (.w (.d (.tuple (as.map Ac.d)))))) (k:Q (.d (acD as[xp]?)) n):wIf (cT (w2 (wVar j) (wB gLen (jab (wVar i) aNil)) gLt)) (w2 (wVar i) (wVar j) gIx) (wC .none) δ n Q:=by
 refine j04 (b:=decide ((xp:Int) < ((as.map Ac.d).length:Nat))) (fun Q q=>ct_b (fun Q q=>w2_i (jad e4 (b1_i (jad e5 (lt_i q))))) q) ?_
 rw[List.length_map]
 by_cases z:(xp:Int) < (as.length:Nat)
 ·rw[if_pos (decide_eq_true z)]
  have zl:xp < as.length:=by omega
  have ha:(as.map Ac.d)[xp]?=some (Ac.d as[xp]):=by rw[List.getElem?_map,List.getElem?_eq_getElem zl];rfl
  rw[List.getElem?_eq_getElem zl]at k
  exact w2_i (jad e5 (jad e4 (gN_i ha k)))
 ·rw[if_neg (by simpa using z)]
  rw[List.getElem?_eq_none (by omega)]at k
  exact c_i k
theorem jgq:∀ws n Q,jcz ws n Q→ws.length=3:=fun ws n Q h=>by obtain⟨_,_,_,_,rfl,_⟩:=h;rfl
theorem jf6:∀ws n Q,jcz ws n Q→ws.length=3:=jgq
theorem jku:∀ws n Q,jcz ws n Q→jgh (jbf ["programs","stand","hand","block","place","acts"] ws) n {nx:=fun _ n=>Q (.d .none) n,rt:=Q}:=fun ws n Q h=>by
 obtain⟨ps,hs,ns,h,rfl,hok,hh,k⟩:=h
 obtain⟨P,xb,xp,nm,w,as,H⟩:=jfb hok hh
 rw[H.act]at k
 show jgh [some (.w (.d (pgD ps))),some (.w (.d (stD hs ns))),some (.w (.d (.int h))),none,none,none] n _
 refine jao (jb6 (x:=.int xb) (fun Q q=>w2_i (w2_i (w2_i (jad rfl (c_i (g0_i (jad rfl (gN_i H.hD (c_i (g0_i q)))))))))) ?_)
 dsimp only[List.set]
 refine jao (jb6 (x:=.int xp) (fun Q q=>w2_i (w2_i (w2_i (jad rfl (c_i (g0_i (jad rfl (gN_i H.hD (c_i (g1_i q)))))))))) ?_)
 dsimp only[List.set]
 refine jao (jb6 (x:=.tuple (as.map Ac.d)) (fun Q q=>w2_i (w2_i (w2_i (jad rfl (jad rfl (gN_i H.pD (jad rfl (gN_i H.bD (c_i (g1_i q)))))))))) ?_)
 dsimp only[List.set]
 exact jb4 (jsr rfl rfl k)
theorem jfz:∀ws n Q,jcz ws n Q→jdj (jbf ["_law_programs","_law_stand_here","_law_hand","_law_block","_law_place","_law_names","_law_acts"] ws) n {nx:=fun _ n=>Q (.d .none) n,rt:=Q}:=fun ws n Q h=>by
 obtain⟨ps,hs,ns,h,rfl,hok,hh,k⟩:=h
 obtain⟨P,xb,xp,nm,w,as,H⟩:=jfb hok hh
 rw[H.act]at k
 show jdj [some (.w (.d (pgD ps))),some (.w (.d (stD hs ns))),some (.w (.d (.int h))),none,none,none,none] n _
 refine jao ?_
 unfold sUnp
 refine w2_i (w2_i (jad rfl (c_i (g0_i (jad rfl (gN_i H.hD ?_))))))
 refine And.intro rfl ?_
 dsimp only[jbv,jfe,jak,List.set]
 refine jao (jb6 (x:=.tuple (as.map Ac.d)) (fun Q q=>w2_i (w2_i (w2_i (jad rfl (jad rfl (gN_i H.pD (jad rfl (gN_i H.bD (c_i (g1_i q)))))))))) ?_)
 dsimp only[List.set]
 exact jb4 (jsr rfl rfl k)
section
variable {δ:Sl} {n:Int} {K:DEnds} {a v:PyData} {r:List PyData} {x:Str} {hp:Nm} {hs:List Str} {W V:DST}
theorem jvt {b:Bool} (e:δ[8]?=some (some (.w (.d (.bool b))))) (kT:b=true→K.nx δ n) (kF:b=false→K.rt (.d .none) n):sIf (cNot (cT (wVar 8))) (sRet (wC .none)) ja6 δ n K:=by
 refine if_i (jvz (k:=b) (fun Q q=>ct_b (fun Q q=>jad e q) q) ?_)
 cases b with
 |true=>exact kT rfl
 |false=>exact kF rfl
noncomputable def knB (hp:Nm) (x:Str) (v:PyData):Bool:=((look hp x).map fun w=>eqB w v).getD false
theorem jvr (e5:δ[5]?=some (some (.w (.d (.tuple (a::.str x::r)))))) (e3:δ[3]?=some (some (.odk (txK hp)))) (e6:δ[6]?=some (some (.w (.d v)))) (hv:isV v=true) (hok:∀p∈hp,okV p) (k:K.nx (δ.set 8 (some (.w (.d (.bool (knB hp x v)))))) n) :
  sSet 8 (wAnd (w2 (w2 (wVar 5) (wC (.int 1)) gIx) (jdk 3) (gDIn false)) (w2 (w2 (jdk 3) (w2 (wVar 5) (wC (.int 1)) gIx) jiu) (wVar 6) gEq)) δ n K:=by
 unfold sSet wAnd
 refine w2_i (jfv e5 ?_)
 have pk:∀(n:Int) (Q:DQ),Q (.dk (txK hp)) n→jdk 3 δ n Q:=fun n Q q=>by unfold jdk;rw[e3];exact q
 refine pk _ _ ?_
 show jk1 (.d (.bool (valD (txK hp) (.inr x)).isSome)) _ _
 rw[jhb]
 unfold knB at k
 cases q:look hp x with
 |none=>rw[q]at k;exact k
 |some w =>
  rw[q]at k
  rw[Option.isSome_some,jnh,if_pos rfl]
  refine w2_i (w2_i (pk _ _ (jfv e5 ?_)))
  unfold jiu
  simp only[jhb,q]
  refine jad e6 ?_
  unfold gEq
  simp only[jr0 (hok _ (jd0 q)).2 hv]
  exact k
theorem jzu {l:List (Fd×PyData)} {g:Fd} (hg:g=.as x∨g=.bind x∧x∈hs):wk ((g,v)::l) hp hs=if knB hp x v=true then wk l hp hs else none:=by
 unfold knB
 rcases hg with rfl | ⟨rfl,hx⟩
 ·rw[wk]
  cases q:look hp x with
  |none=>rw[Option.map_none,Option.getD_none,if_neg Bool.false_ne_true]
  |some w=>rw[Option.map_some,Option.getD_some]
 ·rw[wk,if_pos hx]
  cases q:look hp x with
  |none=>rw[Option.map_none,Option.getD_none,if_neg Bool.false_ne_true]
  |some w=>rw[Option.map_some,Option.getD_some]
theorem inv2 {s a b:Str} {k:Bool} {Q:Bool→Int→Prop} {i:Nat} (e:δ[i]?=some (some (.w (.d (.str s))))) (h:inD (.str s) [.str a,.str b]=k) (q:Q k n):cT (w2 (wVar i) (wTup (jab (wC (.str a)) (jab (wC (.str b)) aNil))) (gIn false)) δ n Q:=by
 refine w2_i (jad e ?_)
 show 2≤1000∧jd5 (.str s)=true∧_∧Q (inD (.str s) [.str a,.str b]) n
 exact⟨by decide,rfl,rfl,by rw[h];exact q⟩
theorem j0z (s:Str) (e7:δ[7]?=some (some (.w (.d (.str s))))) (h1:ja2 "as" (.str s)=false) (h2:ja2 "bind" (.str s)=false) (hF:V δ n K) :
  sIf (cOr (cT (w2 (wVar 7) (wC (.str "as")) gEq)) (cAnd (cT (w2 (wVar 7) (wC (.str "bind")) gEq)) (cT (ji2 4 (w2 (wVar 5) (wC (.int 1)) gIx))))) W V δ n K:=by
 refine if_n (fun Q q=>jfx (fun Q q=>jme e7 ?_) (jmg (fun Q q=>jme e7 ?_) q)) hF
 ·show Q (ja2 "as" (.str s)) n
  rw[h1];exact q
 ·show Q (ja2 "bind" (.str s)) n
  rw[h2];exact q
theorem j00 (e7:δ[7]?=some (some (.w (.d (.str "bind"))))) (e5:δ[5]?=some (some (.w (.d (.tuple [.str "bind",.str x]))))) (e4:δ[4]?=some (some (.own (hs.map .str)))) (hT:x∈hs→W δ n K) (hF:x∉hs→V δ n K) :
  sIf (cOr (cT (w2 (wVar 7) (wC (.str "as")) gEq)) (cAnd (cT (w2 (wVar 7) (wC (.str "bind")) gEq)) (cT (ji2 4 (w2 (wVar 5) (wC (.int 1)) gIx))))) W V δ n K:=by
 refine if_i (jfx (fun Q q=>jme e7 ?_) (jjt (fun Q q=>jme e7 ?_) ?_))
 ·show Q (ja2 "as" (.str "bind")) n
  rw[jo9];exact q
 ·show Q (ja2 "bind" (.str "bind")) n
  rw[jeg];exact q
 ·unfold cT ji2
  refine jfv e5 ?_
  rw[e4]
  refine⟨rfl,jhq hs,?_⟩
  show if inD (.str x) (hs.map .str)=true then _ else _
  rw[jhn]
  exact jvx hT hF
end
theorem ob_i {δ:Sl} {n:Int} {Q:DQ} {i:Nat} {kvs:List (Key×PyData)} (e:δ[i]?=some (some (.odk kvs))) (k:Q (.ob none) n):wObK i δ n Q:=⟨⟨kvs,e⟩,k⟩
theorem jlv:∀ws n Q,jmv ws n Q→ws.length=3:=fun ws n Q h=>by obtain⟨_,_,_,rfl,_⟩:=h;rfl
theorem jkx:∀ws n Q,jmv ws n Q→jew (jbf ["_law_pattern_here","_law_row","_law_names","_law_has","_law_mine","_law_field","_law_value_here","_law_word","_law_good"] ws) n {nx:=fun _ n=>Q (.d .none) n,rt:=Q}:=fun ws n Q h=>by
 obtain⟨fs,row,nm,rfl,okp,okr,okn,k⟩:=h
 show jew [some (.w (.d (patD fs))),some (.w (.d (.tuple row))),some (.w (.d (jb3 nm))),none,none,none,none,none,none] n {nx:=fun _ n=>Q (.d .none) n,rt:=Q}
 unfold jew
 refine jao (jvs (xs:=fs.map Fd.d) (ys:=row) rfl rfl (fun ne=>?_) fun el=>?_)
 ·show Q (.d .none) n
  unfold fitB at k
  rw[List.length_map]at ne
  rw[decide_eq_false ne]at k
  exact k
 ·rw[List.length_map]at el
  unfold fitB at k
  rw[decide_eq_true el,Bool.true_and]at k
  dsimp only[ja6]
  refine jao (jj6 rfl okn ?_)
  dsimp only[List.set]
  refine jao (jd2 ?_)
  dsimp only[List.set]
  refine jao (jrx (xs:=fs.map Fd.d) (ys:=row) rfl rfl (by rw[List.length_map];exact el) ?_)
  refine jba (fun ds δ m=>m=n∧∃(gs:List Fd) (vs:List PyData) (hp:Nm) (hs:List Str) (y z u t:Option SV),ds=zipD (gs.map Fd.d) vs∧gs.length=vs.length∧δ=[some (.w (.d (patD fs))),some (.w (.d (.tuple row))),some (.w (.d (jb3 nm))),some (.odk (txK hp)),some (.own (hs.map .str)),y,z,u,t] ∧
   (∀g∈gs,g.ok)∧(∀d∈vs,isV d=true)∧(hp.map (·.1)).Nodup∧(∀p∈hp,okV p)∧hp.length+gs.length≤48∧hs.length+gs.length≤48∧Q (fitW (wk (gs.zip vs) hp hs).isSome) n) ?_ ?_ _ _ _ ?_
  ·rintro δ m ⟨rfl,gs,vs,hp,hs,y,z,u,t,e,hl,rfl,gok,vok,nd,hok,l1,l2,kq⟩
   have:gs=[]:=by
    cases gs with
    |nil=>rfl
    |cons g gs=>cases vs with | nil=>cases hl | cons v vs=>cases e
   subst this
   exact jb4 (ob_i rfl kq)
  ·rintro d r δ m N ⟨rfl,gs,vs,hp,hs,y,z,u,t,e,hl,rfl,gok,vok,nd,hok,l1,l2,kq⟩ hN
   cases gs with
   |nil=>cases e
   |cons g gs =>
    cases vs with
    |nil=>cases hl
    |cons v vs =>
     have e1:d=.tuple [g.d,v]:=by have:=congrArg (fun l=>l.head?) e;simpa[zipD]using this
     have e2:r=zipD (gs.map Fd.d) vs:=by have:=congrArg List.tail e;simpa[zipD]using this
     subst e1 e2
     rw[List.length_cons]at l1 l2
     rw[List.length_cons,List.length_cons]at hl
     have gk:=gok g List.mem_cons_self
     have vk:=vok v List.mem_cons_self
     rw[List.zip_cons_cons]at kq
     have no:(wk ((g,v)::gs.zip vs) hp hs=none)→Q (.d .none) m:=fun w=>by rw[w]at kq;exact kq
     have go:∀(hp':Nm) (hs':List Str) (y z u t:Option SV),wk ((g,v)::gs.zip vs) hp hs=wk (gs.zip vs) hp' hs'→(hp'.map (·.1)).Nodup→(∀p∈hp',okV p)→hp'.length≤hp.length+1→hs'.length≤hs.length+1 →
       N [some (.w (.d (patD fs))),some (.w (.d (.tuple row))),some (.w (.d (jb3 nm))),some (.odk (txK hp')),some (.own (hs'.map .str)),y,z,u,t] m:=fun hp' hs' y z u t hw a1 a2 a3 a4 =>
      hN _ _ ⟨rfl,gs,vs,hp',hs',y,z,u,t,rfl,by omega,rfl,fun g hg=>gok g (List.mem_cons_of_mem _ hg),fun d hd=>vok d (List.mem_cons_of_mem _ hd),a1,a2,by omega,by omega,by rw[←hw];exact kq⟩
     have fin:∀(b:Bool) (y z u:Option SV) (hw:wk ((g,v)::gs.zip vs) hp hs=if b=true then wk (gs.zip vs) hp hs else none),sIf (cNot (cT (wVar 8))) (sRet (wC .none)) ja6 [some (.w (.d (patD fs))),some (.w (.d (.tuple row))),some (.w (.d (jb3 nm))),some (.odk (txK hp)),some (.own (hs.map .str)),y,z,u,some (.w (.d (.bool b)))] m {nx:=N,ct:=N,bk:=fun δ n_1=>sRet (wObK 3) δ n_1 {nx:=fun _ n=>Q (.d .none) n,rt:=Q},rt:=Q}:=fun b y z u hw =>
      jvt rfl (fun z'=>go hp hs _ _ _ _ (by rw[hw,if_pos z']) nd hok (by omega) (by omega)) (fun z'=>no (by rw[hw,if_neg (by rw[z'];exact Bool.false_ne_true)]))
     refine⟨rfl,?_⟩
     dsimp only[jbv,jak,jfe,List.set]
     refine jao (jb6 (x:=.str g.hd) (fun Q q=>jgy (r:=g.tl) (by rw[Fd.parts];rfl) q) ?_)
     dsimp only[List.set]
     refine jao (jb6 (x:=.bool true) (fun Q q=>c_i q) ?_)
     dsimp only[List.set]
     cases g with
     |any =>
      refine jao (jo7 (d:=.str "any") rfl jl6 (if_n (fun Q q=>inv2 (s:="any") rfl (by decide +kernel) q) (j0z "any" rfl (by decide +kernel) (by decide +kernel) (jo7 (d:=.str "any") rfl (by decide +kernel) ?_))))
      dsimp only[ja6]
      exact fin true _ _ _ (by rw[wk,if_pos rfl])
     |is w =>
      refine jao (jz5 (d:=.str "is") rfl joe (jb6 (x:=.bool (eqB w v)) (fun Q q=>w2_i (jfv (a:=.str "is") (b:=w) (r:=[]) rfl (jad rfl ?_))) ?_))
      ·unfold gEq
       simp only[jr0 (show isV w=true from gk) vk]
       exact q
      dsimp only[List.set]
      exact fin _ _ _ _ (by rw[wk])
     |word =>
      refine jao (jo7 (d:=.str "word") rfl jjk (if_y (fun Q q=>inv2 (s:="word") rfl (by decide +kernel) q) (jb6 (x:=.bool (isSt v)) (fun Q q=>w2_i ?_) ?_)))
      ·unfold wIsi
       refine jad rfl (jme (d:=.str "word") rfl ?_)
       rw[jl5]
       cases v with
       |str s=>rw[jkf];exact q
       |int i=>rw[jkf];exact q
       |_=>cases vk
      dsimp only[List.set]
      exact fin _ _ _ _ (by rw[wk])
     |number =>
      refine jao (jo7 (d:=.str "number") rfl jgs (if_y (fun Q q=>inv2 (s:="number") rfl (by decide +kernel) q) (jb6 (x:=.bool (isIn v)) (fun Q q=>w2_i ?_) ?_)))
      ·unfold wIsi
       refine jad rfl (jme (d:=.str "number") rfl ?_)
       rw[jin]
       cases v with
       |str s=>rw[jkf];exact q
       |int i=>rw[jkf];exact q
       |_=>cases vk
      dsimp only[List.set]
      exact fin _ _ _ _ (by rw[wk])
     |as x =>
      refine jao (jo7 (d:=.str "as") rfl jof (if_n (fun Q q=>inv2 (s:="as") rfl (by decide +kernel) q) (if_y (fun Q q=>jpd (fun Q q=>jme (d:=.str "as") rfl ?_) q) (jvr (a:=.str "as") (x:=x) (r:=[]) rfl rfl rfl vk hok ?_))))
      ·show Q (ja2 "as" (.str "as")) m
       rw[jue];exact q
      dsimp only[List.set]
      exact fin _ _ _ _ (jzu (.inl rfl))
     |bind x =>
      refine jao (jo7 (d:=.str "bind") rfl jjl (if_n (fun Q q=>inv2 (s:="bind") rfl (by decide +kernel) q) (j00 (hs:=hs) rfl rfl rfl (fun hx=>jvr (a:=.str "bind") (x:=x) (r:=[]) rfl rfl rfl vk hok ?_) fun hx=>jz5 (d:=.str "bind") rfl jeg ?_)))
      ·dsimp only[List.set]
       exact fin _ _ _ _ (jzu (.inr ⟨rfl,hx⟩))
      ·refine jao ?_
       unfold jib
       refine(show(match some (some (SV.odk (txK hp)))with | some (some (.odk kvs))=>_ | _=>False)from ?_)
       refine jad rfl (jfv (a:=.str "bind") (b:=.str x) (r:=[]) rfl ⟨by unfold txK;rw[List.length_map];omega,?_⟩)
       rw[jll]
       dsimp only[List.set]
       refine jnj (x:=.str x) (es:=hs.map .str) rfl (fun Q q=>jfv (a:=.str "bind") (b:=.str x) (r:=[]) rfl q) (by rw[List.length_map];omega) ?_
       dsimp only[List.set]
       have:=go (put hp x v) (hs++[x]) (some (.w (.d (.tuple [.str "bind",.str x])))) (some (.w (.d v))) (some (.w (.d (.str "bind")))) (some (.w (.d (.bool true)))) (by rw[wk,if_neg hx]) (jvf nd) (jnx hok gk vk) (jj4 _ _ _) (by rw[List.length_append];exact Nat.le_refl _)
       rw[List.map_append]at this
       exact jvt (b:=true) rfl (fun _=>this) (fun z=>by cases z)
  ·exact⟨rfl,fs,row,nm,[],none,none,none,none,rfl,el,rfl,okp.2.2,okr.2,okn.2.1,okn.2.2,by have:=okp.2.1;have:=okn.1;omega,by have:=okp.2.1;simpa using Nat.le_trans this (by decide),k⟩
theorem job:∀{row:List PyData},(∀d∈row,isV d=true)→∃k:List Key,row=k.map DL.vD
 |[],_=>⟨[],rfl⟩
 |d::r,h=>by
  obtain⟨k,rfl⟩:=job fun e he=>h e (List.mem_cons_of_mem _ he)
  have hd:=h d List.mem_cons_self
  cases d with
  |int i=>exact⟨.inl i::k,rfl⟩
  |str x=>exact⟨.inr x::k,rfl⟩
  |_=>cases hd
theorem jfo (k:Int) (m:Nat):rngD k (m+1)=.int k::rngD (k+1) m:=by
 unfold rngD
 rw[List.range_succ_eq_map,List.map_cons,List.map_map]
 congr 1
 ·rw[show((0:Nat):Int)=0 from rfl,Int.add_zero]
 ·refine List.map_congr_left fun i _=>?_
  show PyData.int (k+((i+1:Nat):Int))=.int (k+1+(i:Int))
  have:k+((i+1:Nat):Int)=k+1+(i:Int):=by omega
  rw[this]
theorem fd_d {f:Fe} (h:f.pt=true):(Fe.fd f).d=f.d:=by cases f<;>first | rfl | cases h
theorem jrw {fs:List Fe} (ok:okFs fs) (h:patO fs):fsD fs=patD (fs.map Fe.fd)∧okP (fs.map Fe.fd):=by
 refine⟨?_,by rw[List.length_map];exact h.1,by rw[List.length_map];exact ok.1,fun g hg=>?_⟩
 ·unfold fsD patD
  rw[List.map_map]
  congr 1
  exact List.map_congr_left fun f hf=>(fd_d (h.2 f hf)).symm
 ·obtain⟨f,hf,rfl⟩:=List.mem_map.mp hg
  have:=ok.2 f hf
  cases f<;>first | exact this | trivial
theorem juz {a:Ac} (h:a.pf=none):a.wt=false∧∃s r,a.d=.tuple (.str s::r)∧inD (.str s) [.str "take",.str "read",.str "look"]=false∧inD (.str s) [.str "take",.str "read"]=false:=by
 cases a with
 |lay fs age=>exact⟨rfl,"lay",_,rfl,by decide +kernel,by decide +kernel⟩
 |same f g b=>exact⟨rfl,"same",_,rfl,by decide +kernel,by decide +kernel⟩
 |go b=>exact⟨rfl,"go",_,rfl,by decide +kernel,by decide +kernel⟩
 |take fs=>cases h
 |read fs=>cases h
 |look fs b=>cases h
theorem joq {a:Ac} {fs:List Fd} (h:a.pf=some fs) (ok:okA a):okP fs∧∃s r,a.d=.tuple (.str s::patD fs::r)∧inD (.str s) [.str "take",.str "read",.str "look"]=true∧inD (.str s) [.str "take",.str "read"]=a.wt:=by
 cases a with
 |lay fs age=>cases h
 |same f g b=>cases h
 |go b=>cases h
 |take gs =>
  cases h
  obtain⟨e,o⟩:=jrw (fs:=gs) ok.1 ok.2
  exact⟨o,"take",[],by rw[←e];rfl,by decide +kernel,show inD (.str "take") [.str "take",.str "read"]=true by decide +kernel⟩
 |read gs =>
  cases h
  obtain⟨e,o⟩:=jrw (fs:=gs) ok.1 ok.2
  exact⟨o,"read",[],by rw[←e];rfl,by decide +kernel,show inD (.str "read") [.str "take",.str "read"]=true by decide +kernel⟩
 |look gs b =>
  cases h
  obtain⟨e,o⟩:=jrw (fs:=gs) ok.1 ok.2
  exact⟨o,"look",[.int b],by rw[←e];rfl,by decide +kernel,show inD (.str "look") [.str "take",.str "read"]=false by decide +kernel⟩
theorem juk {fs:List Fd} {row:List PyData} {nm:Nm} {r:PyData} (h:Fit fs row nm r):jb5 r=!fitB fs row nm:=by
 unfold Fit at h
 unfold fitB
 by_cases e:fs.length=row.length
 ·rw[if_pos e]at h
  rw[decide_eq_true e,Bool.true_and]
  cases q:wk (fs.zip row) nm []with
  |none=>rw[q]at h;cases h;rfl
  |some x=>rw[q]at h;exact h
 ·rw[if_neg e]at h
  rw[decide_eq_false e,h]
  rfl
theorem jg8 {fs:List Fd} {nm:Nm} {q:Nt} {r:List Nt}:fstO fs nm (q::r)=if fitB fs q.1 nm=true then some 0 else(fstO fs nm r).map (·+1):=by
 unfold fstO
 rw[List.findIdx?_cons]
theorem j0f {fs:List Fd} {nm:Nm} {ns:List Nt} {i:Nat} (h:fstO fs nm ns=some i):i < ns.length:=(List.findIdx?_eq_some_iff_findIdx_eq.mp h).1
theorem jxm {m:List (List Key×PyData)} {k k':List Key} {d:PyData} (h:inT (putT m k d) k'=true):k'=k∨inT m k'=true:=by
 unfold putT at h
 split at h
 ·unfold inT at h ⊢
  rw[List.any_map,List.any_eq_true]at h
  obtain⟨p,hp,e⟩:=h
  refine .inr (List.any_eq_true.mpr ⟨p,hp,?_⟩)
  have e':=of_decide_eq_true e
  dsimp only at e'
  by_cases z:p.1=k
  ·rw[if_pos z]at e';exact decide_eq_true e'
  ·rw[if_neg z]at e';exact decide_eq_true e'
 ·unfold inT at h ⊢
  rw[List.any_append,Bool.or_eq_true]at h
  rcases h with h | h
  ·exact .inr h
  ·simp at h
   exact .inl h.symm
theorem jtm {m:List (List Key×PyData)} {k:List Key} {d:PyData}:(putT m k d).length≤m.length+1:=by
 unfold putT
 split
 ·rw[List.length_map];omega
 ·rw[List.length_append];exact Nat.le_refl _
section
variable {δ:Sl} {n:Int} {Q:DQ} {K:DEnds} {W V:DST} {i:Nat}
theorem jil {neg:Bool} {a:PyData} (k:Q (.d (.bool (if neg then !jb5 a else jb5 a))) n):gIsN neg (.d a) (.d .none) n Q:=k
theorem jik {neg:Bool} {a:PyData} (k:Q (.d (.bool (if neg then !jb5 a else jb5 a))) n):gIsO neg (.d a) (.d .none) n Q:=.inr k
theorem juc {neg:Bool} {o:Option PyData} (k:Q (.d (.bool neg)) n):gIsO neg (.ob o) (.d .none) n Q:=.inl ⟨o,rfl,rfl,k⟩
theorem jvl {s a b c:Str} {r:List PyData} {k:Bool} {Q:Bool→Int→Prop} (e:δ[i]?=some (some (.w (.d (.tuple (.str s::r)))))) (h:inD (.str s) [.str a,.str b,.str c]=k) (q:Q (!k) n):cT (w2 (w2 (wVar i) (wC (.int 0)) gIx) (wTup (jab (wC (.str a)) (jab (wC (.str b)) (jab (wC (.str c)) aNil)))) (gIn true)) δ n Q:=by
 refine w2_i (jgy e ?_)
 show 3≤1000∧jd5 (.str s)=true∧_∧Q (!inD (.str s) [.str a,.str b,.str c]) n
 exact⟨by decide,rfl,rfl,by rw[h];exact q⟩
theorem jvm {s a b:Str} {r:List PyData} {k:Bool} (e:δ[i]?=some (some (.w (.d (.tuple (.str s::r)))))) (h:inD (.str s) [.str a,.str b]=k) (q:Q (.d (.bool !k)) n):w2 (w2 (wVar i) (wC (.int 0)) gIx) (wTup (jab (wC (.str a)) (jab (wC (.str b)) aNil))) (gIn true) δ n Q:=by
 refine w2_i (jgy e ?_)
 show 2≤1000∧jd5 (.str s)=true∧_∧Q (.d (.bool !inD (.str s) [.str a,.str b])) n
 exact⟨by decide,rfl,rfl,by rw[h];exact q⟩
theorem jvk {s:Str} {hs:List Str} {r:List PyData} {k:Bool} {Q:Bool→Int→Prop} (e:δ[i]?=some (some (.w (.d (.tuple (.str s::r)))))) (h:inD (.str s) (hs.map .str)=k) (q:Q (!k) n):cT (jpq hs (w2 (wVar i) (wC (.int 0)) gIx)) δ n Q:=by
 unfold cT jpq
 exact jgy e ⟨_,rfl,rfl,by rw[h];exact q⟩
theorem jq9 {ps:Pg} {hs:List Hn} {ns:List Nt} {h i j l:Nat} (e0:δ[i]?=some (some (.w (.d (pgD ps))))) (e1:δ[j]?=some (some (.w (.d (stD hs ns))))) (e2:δ[l]?=some (some (.w (.d (.int h))))) (ok:okHs ps hs) (hh:h < ps.length) (k:Q (.d (acD (actO ps hs h))) n):jaq jcz (jab (wVar i) (jab (wVar j) (jab (wVar l) aNil))) δ n Q :=
 c3_i (jad e0 (jad e1 (jad e2 ⟨ps,hs,ns,h,rfl,ok,hh,k⟩)))
end
theorem jt6:∀ws n Q,jh8 ws n Q→ws.length=3:=fun ws n Q h=>by obtain⟨_,_,_,_,rfl,_⟩:=h;rfl
theorem jso:∀ws n Q,jh8 ws n Q→jss (jbf ["programs","stand","hand","act","names","tried","place","note"] ws) n {nx:=fun _ n=>Q (.d .none) n,rt:=Q}:=fun ws n Q h=>by
 obtain⟨ps,hs,ns,h,rfl,⟨okp,okh,okn⟩,hh,k⟩:=h
 obtain⟨P,xb,xp,nm,w,as,H⟩:=jfb okh hh
 unfold gotO at k
 rw[H.nmq]at k
 show jss [some (.w (.d (pgD ps))),some (.w (.d (stD hs ns))),some (.w (.d (.int h))),none,none,none,none,none] n _
 refine jao (jb6 (fun Q q=>jq9 rfl rfl rfl okh hh q) ?_)
 dsimp only[List.set]
 cases ea:actO ps hs h with
 |none =>
  rw[ea]at k
  exact jao (if_y (fun Q q=>jpd (fun Q q=>ct_b (k:=true) (fun Q q=>w2_i (jad rfl (c_i (jil q)))) q) q) (jb4 (c_i k)))
 |some a =>
  rw[ea]at k
  have k:Q (.d (natD (a.pf.bind fun fs=>fstO fs nm ns))) n:=k
  have oa:=H.ok okp ea
  show sSeq _ _ [some (.w (.d (pgD ps))),some (.w (.d (stD hs ns))),some (.w (.d (.int h))),some (.w (.d a.d)),none,none,none,none] n _
  have g1:∀(s:Str) (r:List PyData),jb5 (PyData.tuple (.str s::r))=false:=fun _ _=>rfl
  cases ef:a.pf with
  |none =>
   rw[ef]at k
   obtain⟨_,s,r,e,h1,_⟩:=juz ef
   rw[e]
   exact jao (if_y (fun Q q=>jfx (fun Q q=>ct_b (k:=false) (fun Q q=>w2_i (jad rfl (c_i (jil q)))) q) (jvk rfl h1 q)) (jb4 (c_i k)))
  |some fs =>
   rw[ef]at k
   have k:Q (.d (natD (fstO fs nm ns))) n:=k
   obtain⟨of,s,r,e,h1,_⟩:=joq ef oa
   rw[e]
   refine jao (if_n (fun Q q=>jfx (fun Q q=>ct_b (k:=false) (fun Q q=>w2_i (jad rfl (c_i (jil q)))) q) (jvk rfl h1 q)) ?_)
   dsimp only[ja6]
   refine jao (jb6 (x:=jb3 nm) (fun Q q=>w2_i (w2_i (w2_i (jad rfl (c_i (g0_i (jad rfl (gN_i H.hD (c_i (g2_i q)))))))))) ?_)
   dsimp only[List.set]
   refine jao (show jte 5 _ _ _ from ?_)
   unfold jte
   dsimp only[List.set]
   refine jao ?_
   unfold sFor jrt
   refine w2_i (jad rfl (c_i (g1_i ⟨ns.map ntD,rfl,?_⟩)))
   refine jba (fun ds δ m=>m=n∧∃(re:List Nt) (j:Nat) (kvs:List (List Key×PyData)) (x6 x7:Option SV),ds=jiv j (re.map ntD)∧δ=[some (.w (.d (pgD ps))),some (.w (.d (stD hs ns))),some (.w (.d (.int h))),some (.w (.d (.tuple (.str s::patD fs::r)))),some (.w (.d (jb3 nm))),some (.odt kvs),x6,x7] ∧
    (∀q∈re,okR q.1)∧kvs.length+re.length≤11∧(∀key,inT kvs key=true→fitB fs (key.map DL.vD) nm=false)∧Q (.d (natD ((fstO fs nm re).map (·+j)))) n) (fun δ m I=>?_) (fun d r' δ m N I kN=>?_) _ _ _ ⟨rfl,ns,0,[],none,none,rfl,rfl,okn.2,by have:=okn.1;simpa using this,fun key z=>(by cases z),?_⟩
   ·obtain⟨rfl,re,j,kvs,x6,x7,ed,rfl,_,_,_,kq⟩:=I
    have:re=[]:=by
     cases re with
     |nil=>rfl
     |cons q re=>rw[List.map_cons,jjq]at ed;cases ed
    subst this
    exact(show Q (.d .none) m from kq)
   ·obtain⟨rfl,re,j,kvs,x6,x7,ed,rfl,hre,hl,ht,kq⟩:=I
    cases re with
    |nil=>cases ed
    |cons q re =>
     rw[List.map_cons,jjq]at ed
     obtain⟨rfl,rfl⟩:=List.cons.inj ed
     rw[List.length_cons]at hl
     have oq:=hre q List.mem_cons_self
     obtain⟨key,ek⟩:=job oq.2
     have nxt:∀kvs',kvs'.length≤kvs.length+1→(∀key,inT kvs' key=true→fitB fs (key.map DL.vD) nm=false)→fitB fs q.1 nm=false→N [some (.w (.d (pgD ps))),some (.w (.d (stD hs ns))),some (.w (.d (.int h))),some (.w (.d (.tuple (.str s::patD fs::r)))),some (.w (.d (jb3 nm))),some (.odt kvs'),some (.w (.d (.int j))),some (.w (.d (ntD q)))] m:=fun kvs' a1 a2 a3=>by
      refine kN _ _ ⟨rfl,re,j+1,kvs',_,_,by rw[show((j+1:Nat):Int)=(j:Int)+1 from rfl],rfl,fun x hx=>hre x (List.mem_cons_of_mem _ hx),by omega,a2,?_⟩
      rw[jg8,if_neg (by rw[a3];exact Bool.false_ne_true),Option.map_map]at kq
      have:((fun x=>x+j) ∘ fun x=>x+1)=fun x=>x+(j+1):=funext fun x=>by show x+1+j=x+(j+1);omega
      rw[this]at kq
      exact kq
     refine⟨rfl,?_⟩
     dsimp only[jbv,jfe,jak,List.set]
     refine if_i (show jsx 5 _ _ _ _ from jgy rfl ⟨key,kvs,by rw[ek];rfl,rfl,?_⟩)
     show if (!inT kvs key)=true then _ else _
     cases et:inT kvs key with
     |true =>
      rw[if_neg (by rw[Bool.not_true];exact Bool.false_ne_true)]
      exact nxt kvs (by omega) ht (by rw[ek];exact ht key et)
     |false =>
      rw[if_pos (show(!false)=true from rfl)]
      refine jao (if_i (w2_i (c3_i (jfv rfl (jgy rfl (jad rfl ⟨fs,q.1,nm,rfl,of,oq,H.nms,fun r0 hr=>?_⟩))))))
      refine c_i (jil ?_)
      show if (!jb5 r0)=true then _ else _
      rw[juk hr,Bool.not_not]
      cases eb:fitB fs q.1 nm with
      |true =>
       rw[if_pos rfl]
       rw[jg8,if_pos eb,Option.map_some,Nat.zero_add]at kq
       exact jb4 (jad rfl kq)
      |false =>
       rw[if_neg Bool.false_ne_true]
       dsimp only[ja6]
       refine c_i ⟨kvs,rfl,jgy rfl ⟨key,.bool true,rfl,by rw[ek];rfl,by omega,?_⟩⟩
       dsimp only[List.set]
       refine nxt _ jtm (fun key' z=>?_) eb
       rcases jxm z with rfl | z
       ·rw[←ek];exact eb
       ·exact ht key' z
   ·have:(fun x:Nat=>x+0)=id:=rfl
    rw[this,Option.map_id]
    exact k
theorem setw {δ:Sl} {n:Int} {K:DEnds} {i:Nat} {w:DT} {b:Bool} (h:∀Q:DQ,Q (fitW b) n→w δ n Q) (k:K.nx (δ.set i (some (.w (fitW b)))) n):sSet i w δ n K:=by
 refine h _ ?_
 cases b<;>exact k
theorem sets {δ:Sl} {n:Int} {K:DEnds} {i:Nat} {w:DT} {o:Option Nat} (h:∀Q:DQ,Q (gotW o) n→w δ n Q) (k:K.nx (δ.set i (some (.w (gotW o)))) n):sSet i w δ n K:=by
 refine h _ ?_
 cases o<;>exact k
theorem jlu:∀ws n Q,jnm ws n Q→ws.length=3:=fun ws n Q h=>by obtain⟨_,_,_,_,rfl,_⟩:=h;rfl
theorem jkw:∀ws n Q,jnm ws n Q→jgj (jbf ["_law_programs","_law_stand_here","_law_hand","_law_act_here","_law_place","_law_has"] ws) n {nx:=fun _ n=>Q (.d .none) n,rt:=Q}:=fun ws n Q h=>by
 obtain⟨ps,hs,ns,h,rfl,⟨okp,okh,okn⟩,hh,k⟩:=h
 obtain⟨P,xb,xp,nm,w,as,H⟩:=jfb okh hh
 unfold gotO at k
 rw[H.nmq]at k
 show jgj [some (.w (.d (pgD ps))),some (.w (.d (stD hs ns))),some (.w (.d (.int h))),none,none,none] n _
 refine jao (jb6 (fun Q q=>jq9 rfl rfl rfl okh hh q) ?_)
 dsimp only[List.set]
 cases ea:actO ps hs h with
 |none =>
  rw[ea]at k
  exact jao (if_y (fun Q q=>jpd (fun Q q=>ct_b (k:=true) (fun Q q=>w2_i (jad rfl (c_i (jik q)))) q) q) (jb4 (c_i k)))
 |some a =>
  rw[ea]at k
  have k:Q (gotW (a.pf.bind fun fs=>fstO fs nm ns)) n:=k
  have oa:=H.ok okp ea
  show sSeq _ _ [some (.w (.d (pgD ps))),some (.w (.d (stD hs ns))),some (.w (.d (.int h))),some (.w (.d a.d)),none,none] n _
  cases ef:a.pf with
  |none =>
   rw[ef]at k
   obtain⟨_,s,r,e,h1,_⟩:=juz ef
   rw[e]
   exact jao (if_y (fun Q q=>jfx (fun Q q=>ct_b (k:=false) (fun Q q=>w2_i (jad rfl (c_i (jik q)))) q) (jvl rfl h1 q)) (jb4 (c_i k)))
  |some fs =>
   rw[ef]at k
   have k:Q (gotW (fstO fs nm ns)) n:=k
   obtain⟨of,s,r,e,h1,_⟩:=joq ef oa
   rw[e]
   refine jao (if_n (fun Q q=>jfx (fun Q q=>ct_b (k:=false) (fun Q q=>w2_i (jad rfl (c_i (jik q)))) q) (jvl rfl h1 q)) ?_)
   dsimp only[ja6]
   refine jao ?_
   unfold sFor jaz
   refine b1_i (w2_i (jad rfl (c_i (g1_i ?_))))
   refine And.intro ⟨by omega,by rw[List.length_map];have:=okn.1;omega⟩ ?_
   rw[Int.toNat_natCast,List.length_map]
   refine jba (fun ds δ m=>m=n∧∃(dn re:List Nt) (x6 x7:Option SV),ds=rngD (dn.length:Nat) re.length∧dn++re=ns∧δ=[some (.w (.d (pgD ps))),some (.w (.d (stD hs ns))),some (.w (.d (.int h))),some (.w (.d (.tuple (.str s::patD fs::r)))),x6,x7] ∧
    Q (gotW ((fstO fs nm re).map (·+dn.length))) n) (fun δ m I=>?_) (fun d r' δ m N I kN=>?_) _ _ _ ⟨rfl,[],ns,none,none,rfl,rfl,rfl,?_⟩
   ·obtain⟨rfl,dn,re,x6,x7,ed,en,rfl,kq⟩:=I
    have:re=[]:=by
     cases re with
     |nil=>rfl
     |cons q re=>rw[List.length_cons,jfo]at ed;cases ed
    subst this
    exact(show Q (.d .none) m from kq)
   ·obtain⟨rfl,dn,re,x6,x7,ed,en,rfl,kq⟩:=I
    cases re with
    |nil=>cases ed
    |cons q re =>
     rw[List.length_cons,jfo]at ed
     obtain⟨rfl,rfl⟩:=List.cons.inj ed
     have hq:ns[dn.length]?=some q:=by rw[←en];simp
     have oq:=okn.2 q (List.mem_of_getElem? hq)
     have hq':(ns.map ntD)[dn.length]?=some (.tuple [.tuple q.1,q.2]):=by rw[List.getElem?_map,hq];rfl
     dsimp only[jak,List.set]
     refine jao (setw (b:=fitB fs q.1 nm) (fun Q q'=>?_) ?_)
     ·refine c3_i (jfv rfl ?_)
      refine w2_i (w2_i (w2_i (jad rfl (c_i (g1_i (jad rfl (gN_i hq' (c_i (g0_i ?_)))))))))
      refine w2_i (w2_i (w2_i (jad rfl (c_i (g0_i (jad rfl (gN_i H.hD (c_i (g2_i ?_)))))))))
      exact⟨fs,q.1,nm,rfl,of,oq,H.nms,q'⟩
     dsimp only[List.set]
     cases eb:fitB fs q.1 nm with
     |true =>
      rw[jg8,if_pos eb,Option.map_some,Nat.zero_add]at kq
      refine if_y (fun Q q=>ct_b (k:=true) (fun Q q=>w2_i (jad rfl (c_i (juc q)))) q) (jb4 (show jpp _ _ _ _ _ from jad rfl (jad rfl ⟨_,rfl,rfl,kq⟩)))
     |false =>
      refine if_n (fun Q q=>ct_b (k:=false) (fun Q q=>w2_i (jad rfl (c_i (jik q)))) q) (kN _ _ ⟨rfl,dn++[q],re,_,_,?_,by rw[List.append_assoc];exact en,rfl,?_⟩)
      ·rw[List.length_append,List.length_singleton]
       rw[show((dn.length+1:Nat):Int)=(dn.length:Int)+1 from rfl]
      ·rw[jg8,if_neg (by rw[eb];exact Bool.false_ne_true),Option.map_map]at kq
       have:((fun x=>x+dn.length) ∘ fun x=>x+1)=fun x=>x+(dn++[q]).length:=funext fun x=>by show x+1+dn.length=x+(dn++[q]).length;rw[List.length_append,List.length_singleton];omega
       rw[this]at kq
       exact kq
   ·have:(fun x:Nat=>x+([]:List Nt).length)=id:=rfl
    rw[this,Option.map_id]
    exact k
theorem jv0 {ps:Pg} {hs:List Hn} {ns:List Nt} {h:Nat} {a:Ac} (e:actO ps hs h=some a):canB ps hs ns h=(!a.wt || (gotO ps hs ns h).isSome):=by unfold canB;rw[e];rfl
theorem jgr:∀ws n Q,jbz ws n Q→ws.length=3:=fun ws n Q h=>by obtain⟨_,_,_,_,rfl,_⟩:=h;rfl
theorem jlw:∀ws n Q,jbz ws n Q→ws.length=3:=jgr
theorem j0c {a:Ac} (oa:okA a):∃s r,a.d=.tuple (.str s::r)∧inD (.str s) [.str "take",.str "read"]=a.wt:=by
 cases ef:a.pf with
 |none =>
  obtain⟨hw,s,r,e,_,h2⟩:=juz ef
  exact⟨s,r,e,by rw[h2,hw]⟩
 |some fs =>
  obtain⟨_,s,r,e,_,h2⟩:=joq ef oa
  exact⟨s,_,e,h2⟩
theorem jt2 (o:Option Nat):(!jb5 (natD o))=o.isSome:=by cases o<;>rfl
theorem jkv:∀ws n Q,jbz ws n Q→jgi (jbf ["programs","stand","hand","act"] ws) n {nx:=fun _ n=>Q (.d .none) n,rt:=Q}:=fun ws n Q h=>by
 obtain⟨ps,hs,ns,h,rfl,ok,hh,k⟩:=h
 obtain⟨P,xb,xp,nm,w,as,H⟩:=jfb ok.2.1 hh
 show jgi [some (.w (.d (pgD ps))),some (.w (.d (stD hs ns))),some (.w (.d (.int h))),none] n _
 refine jao (jb6 (fun Q q=>jq9 rfl rfl rfl ok.2.1 hh q) ?_)
 dsimp only[List.set]
 cases ea:actO ps hs h with
 |none =>
  unfold canB at k
  rw[ea]at k
  exact jao (if_y (fun Q q=>ct_b (k:=true) (fun Q q=>w2_i (jad rfl (c_i (jil q)))) q) (jb4 (c_i k)))
 |some a =>
  rw[jv0 ea]at k
  obtain⟨s,r,e,h2⟩:=j0c (H.ok ok.1 ea)
  show sSeq _ _ [some (.w (.d (pgD ps))),some (.w (.d (stD hs ns))),some (.w (.d (.int h))),some (.w (.d a.d))] n _
  rw[e]
  refine jao (if_n (fun Q q=>ct_b (k:=false) (fun Q q=>w2_i (jad rfl (c_i (jil q)))) q) ?_)
  dsimp only[ja6]
  refine jb4 (show wOr _ _ _ _ _ from jvm rfl h2 ?_)
  rw[jnh]
  cases hw:a.wt with
  |false=>rw[hw]at k;exact k
  |true =>
   rw[hw]at k
   rw[if_neg (by decide)]
   refine w2_i (c3_i (jad rfl (jad rfl (jad rfl ⟨ps,hs,ns,h,rfl,ok,hh,c_i (jil ?_)⟩))))
   show Q (.d (.bool (!jb5 (natD (gotO ps hs ns h))))) n
   rw[jt2]
   exact k
theorem jky:∀ws n Q,jbz ws n Q→jgk (jbf ["_law_programs","_law_stand_here","_law_hand","_law_act_here"] ws) n {nx:=fun _ n=>Q (.d .none) n,rt:=Q}:=fun ws n Q h=>by
 obtain⟨ps,hs,ns,h,rfl,ok,hh,k⟩:=h
 obtain⟨P,xb,xp,nm,w,as,H⟩:=jfb ok.2.1 hh
 show jgk [some (.w (.d (pgD ps))),some (.w (.d (stD hs ns))),some (.w (.d (.int h))),none] n _
 refine jao (jb6 (fun Q q=>jq9 rfl rfl rfl ok.2.1 hh q) ?_)
 dsimp only[List.set]
 cases ea:actO ps hs h with
 |none =>
  unfold canB at k
  rw[ea]at k
  exact jao (if_y (fun Q q=>ct_b (k:=true) (fun Q q=>w2_i (jad rfl (c_i (jik q)))) q) (jb4 (c_i k)))
 |some a =>
  rw[jv0 ea]at k
  obtain⟨s,r,e,h2⟩:=j0c (H.ok ok.1 ea)
  show sSeq _ _ [some (.w (.d (pgD ps))),some (.w (.d (stD hs ns))),some (.w (.d (.int h))),some (.w (.d a.d))] n _
  rw[e]
  refine jao (if_n (fun Q q=>ct_b (k:=false) (fun Q q=>w2_i (jad rfl (c_i (jik q)))) q) ?_)
  dsimp only[ja6]
  refine jb4 (show wOr _ _ _ _ _ from jvm rfl h2 ?_)
  rw[jnh]
  cases hw:a.wt with
  |false=>rw[hw]at k;exact k
  |true =>
   rw[hw]at k
   rw[if_neg (by decide)]
   refine w2_i (c3_i (jad rfl (jad rfl (jad rfl ⟨ps,hs,ns,h,rfl,ok,hh,c_i ?_⟩))))
   cases eg:gotO ps hs ns h with
   |none=>rw[eg]at k;exact jik k
   |some i=>rw[eg]at k;exact juc k
theorem jol {Q:List PyData→Int→Prop} {ps:Pg} {hs:List Hn} {ns:List Nt} {n:Int} (ok:okSt ps hs ns) (k:Q (rdyL ps hs ns) n):jdw (jak 0) (cT (jaq jbz (jab (wVar 1) (jab (wVar 2) (jab (wVar 0) aNil))))) (wVar 0) Q (rngD 0 ps.length) [] [none,some (.w (.d (pgD ps))),some (.w (.d (stD hs ns)))] n:=by
 have e:rngD 0 ps.length=(List.range ps.length).map fun h=>.int (h:Nat):=by
  unfold rngD
  exact List.map_congr_left fun i _=>by rw[Int.zero_add]
 rw[e]
 refine jx1 (fun h:Nat=>PyData.int (h:Nat)) (fun h:Nat=>PyData.int (h:Nat)) (canB ps hs ns) _ [] none n (fun h hh n Q' q=>?_) (fun h hh n Q' q=>jad rfl q) (by rw[List.nil_append];exact k)
 exact c3_i (jad rfl (jad rfl (jad rfl ⟨ps,hs,ns,h,rfl,ok,List.mem_range.mp hh,q⟩)))
theorem jrf:∀ws n Q,jfl ws n Q→ws.length=2:=fun ws n Q h=>by obtain⟨_,_,_,rfl,_⟩:=h;rfl
theorem jpk:∀ws n Q,jfl ws n Q→jnl (jbf ["programs","stand"] ws) n {nx:=fun _ _=>False,rt:=fun _ _=>False,rn:=Q}:=fun ws n Q h=>by
 obtain⟨ps,hs,ns,rfl,ok,k⟩:=h
 show jnl [some (.w (.d (pgD ps))),some (.w (.d (stD hs ns)))] n _
 refine(show jtd _ _ _ _ from ?_)
 unfold jtd jcy jaz
 refine b1_i (jad rfl ?_)
 refine And.intro ⟨by omega,by rw[List.length_map];have:=ok.1.1;omega⟩ ?_
 rw[Int.toNat_natCast,List.length_map]
 exact jol ok k
theorem ju2:jeb [] [(.inr "word",.str "ab"),(.inr "number",.int 99)]=txK [("word",.str "ab"),("number",.int 99)]:=jj8 [("word",.str "ab"),("number",.int 99)] [] (by decide +kernel)
theorem js1:valD (jeb [] [(.inr "word",.str "ab"),(.inr "number",.int 99)]) (.inr "word")=some (.str "ab"):=by
 rw[ju2,jhb]
 unfold look
 rw[List.find?_cons_of_pos (by exact decide_eq_true rfl)]
 rfl
theorem jov:valD (jeb [] [(.inr "word",.str "ab"),(.inr "number",.int 99)]) (.inr "number")=some (.int 99):=by
 rw[ju2,jhb]
 unfold look
 rw[List.find?_cons_of_neg (by rw[decide_eq_false (show ¬("word":Str)="number" by decide +kernel)];exact Bool.false_ne_true),List.find?_cons_of_pos (by exact decide_eq_true rfl)]
 rfl
section
variable {δ:Sl} {n:Int} {Q:DQ} {K:DEnds} {a v:PyData} {r:List PyData} {x:Str} {hp:Nm}
theorem jya {s:Str} {d:PyData} (e5:δ[5]?=some (some (.w (.d (.tuple (.str s::r)))))) (h:valD (jeb [] [(.inr "word",.str "ab"),(.inr "number",.int 99)]) (.inr s)=some d) (k:Q (.d d) n):w2 (jsw "word" "ab" "number" 99) (w2 (wVar 5) (wC (.int 0)) gIx) jiu δ n Q:=by
 unfold w2 jsw
 refine(show w2 (wVar 5) (wC (.int 0)) gIx δ n _ from jgy e5 ?_)
 unfold jiu
 simp only[h]
 exact k
theorem jxu (e5:δ[5]?=some (some (.w (.d (.tuple (a::.str x::r)))))) (e3:δ[3]?=some (some (.odk (txK hp)))) (e6:δ[6]?=some (some (.w (.d v)))) (k:Q (.d ((look hp x).getD v)) n):jk3 (jdk 3) (w2 (wVar 5) (wC (.int 1)) gIx) (wVar 6) δ n Q:=by
 unfold jk3 jdk
 rw[e3]
 refine jfv e5 (jad e6 ?_)
 dsimp only
 rw[jhb]
 exact k
theorem j1a (e5:δ[5]?=some (some (.w (.d (.tuple (a::.str x::r)))))) (e3:δ[3]?=some (some (.odk (txK hp)))) (e6:δ[6]?=some (some (.w (.d v)))) (hl:hp.length < 1000) (k:K.nx (δ.set 3 (some (.odk (txK (put hp x v))))) n):jib 3 (w2 (wVar 5) (wC (.int 1)) gIx) (wVar 6) δ n K:=by
 unfold jib
 rw[e3]
 refine jad e6 (jfv e5 ⟨by unfold txK;rw[List.length_map];exact hl,?_⟩)
 rw[jll]
 exact k
end
theorem jt8 {δ:Sl} {n:Int} {Q:DQ} {i:Nat} {ds:List PyData} (e:δ[i]?=some (some (.own ds))) (k:Q (.d (.int ds.length)) n):jha i δ n Q:=by unfold jha;rw[e];exact k
theorem jvq {hp:Nm} {x:Str} {v:PyData} (hok:∀p∈hp,okV p) (hv:isV v=true):isV ((look hp x).getD v)=true:=by
 cases e:look hp x with
 |none=>exact hv
 |some w=>exact(hok _ (jd0 e)).2
theorem jkd:∀ws n Q,jms ws n Q→ws.length=3:=fun ws n Q h=>by obtain⟨_,_,rfl,_⟩:=h;rfl
theorem ji0:∀ws n Q,jms ws n Q→jfk (jbf ["_law_tape_here","_law_pattern_here","_law_names","_law_has","_law_row","_law_field","_law_value_here"] ws) n {nx:=fun _ n=>Q (.d .none) n,rt:=Q}:=fun ws n0 Q h=>by
 obtain⟨fs,nm,rfl,okp,okn,hn0,k⟩:=h
 show jfk [some (.w .tp),some (.w (.d (patD fs))),some (.w (.d (jb3 nm))),none,none,none,none] n0 _
 refine jao (jj6 rfl okn ?_)
 dsimp only[List.set]
 refine jao (jd2 ?_)
 dsimp only[List.set]
 refine jao ?_
 unfold sFor jef
 refine jad rfl ?_
 dsimp only[patD]
 refine jba (fun ds δ m=>∃(gs:List Fd) (hp:Nm) (row:List PyData) (x y:Option SV),ds=gs.map Fd.d∧δ=[some (.w .tp),some (.w (.d (.tuple (fs.map Fd.d)))),some (.w (.d (jb3 nm))),some (.odk (txK hp)),some (.own row),x,y]∧(∀g∈gs,g.ok)∧(∀p∈hp,okV p)∧hp.length+gs.length≤48∧row.length+gs.length≤4∧(∀d∈row,isV d=true)∧m+(gs.length:Int)≤n0+4)
  (fun δ m I=>?_) (fun d r δ m N I kN=>?_) _ _ _ ⟨fs,nm,[],none,none,rfl,rfl,okp.2.2,okn.2.2,by have:=okp.2.1;have:=okn.1;omega,by have:=okp.2.1;simpa using this,fun d hd=>by simp at hd,by have:=okp.2.1;omega⟩
 ·obtain⟨gs,hp,row,x,y,ed,rfl,gok,hok,l1,l2,hrow,hm⟩:=I
  cases List.map_eq_nil_iff.mp ed.symm
  dsimp only
  refine jg1 rfl ?_
  dsimp only[List.set]
  exact jb4 (b1_i (jad rfl (k row m ⟨by simpa using l2,hrow⟩ (by simpa using hm))))
 ·obtain⟨gs,hp,row,x,y,ed,rfl,gok,hok,l1,l2,hrow,hm⟩:=I
  obtain⟨g,gs,rfl,rfl,rfl⟩:=List.map_eq_cons_iff.mp ed.symm
  rw[List.length_cons]at l1 l2 hm
  have gk:=gok g List.mem_cons_self
  dsimp only[jak,List.set]
  refine jao (show sSet 6 _ _ _ _ from c1_i (jad rfl (And.intro rfl ⟨by omega,fun v hv=>?_⟩)))
  dsimp only[List.set]
  have vk:=ji3 hv
  have fin:∀(hp':Nm) (w:PyData) (K:DEnds),(∀δ n,N δ n→K.nx δ n)→(∀p∈hp',okV p)→hp'.length≤hp.length+1→isV w=true→sApp 4 (wVar 6) [some (.w .tp),some (.w (.d (.tuple (fs.map Fd.d)))),some (.w (.d (jb3 nm))),some (.odk (txK hp')),some (.own row),some (.w (.d g.d)),some (.w (.d w))] (m+1) K:=fun hp' w K hK a1 a2 a3=>by
   refine jnj rfl (fun Q q=>jad rfl q) (by omega) (hK _ _ (kN _ _ ⟨gs,hp',row++[w],_,_,rfl,rfl,fun f hf=>gok f (List.mem_cons_of_mem _ hf),a1,by omega,by rw[List.length_append,List.length_singleton];omega,fun d hd=>?_,by omega⟩))
   rcases List.mem_append.mp hd with z | z
   ·exact hrow d z
   ·rw[List.mem_singleton.mp z];exact a3
  have named:∀(s x:Str) (K:DEnds),(∀δ n,N δ n→K.nx δ n)→g.d=.tuple [.str s,.str x]→okX x→sSeq (sSet 6 (jk3 (jdk 3) (w2 (wVar 5) (wC (.int 1)) gIx) (wVar 6))) (jib 3 (w2 (wVar 5) (wC (.int 1)) gIx) (wVar 6)) [some (.w .tp),some (.w (.d (.tuple (fs.map Fd.d)))),some (.w (.d (jb3 nm))),some (.odk (txK hp)),some (.own row),some (.w (.d g.d)),some (.w (.d v))] (m+1) {K with nx:=fun δ n=>sApp 4 (wVar 6) δ n K}:=fun s x K hK eg hx=>by
   have fin':=fin (put hp x ((look hp x).getD v)) ((look hp x).getD v) K hK (jnx hok hx (jvq hok vk)) (jj4 _ _ _) (jvq hok vk)
   rw[eg]at fin' ⊢
   refine jao (jb6 (x:=(look hp x).getD v) (fun Q q=>jxu (a:=.str s) (x:=x) (r:=[]) rfl rfl rfl q) ?_)
   dsimp only[List.set]
   exact j1a (a:=.str s) (x:=x) (r:=[]) rfl rfl rfl (by omega) fin'
  cases g with
  |any =>
   refine jao (jrp (a:=.str "any") (r:=[]) rfl jl6 (if_n (fun Q q=>jl2 (s:="any") (r:=[]) rfl (by decide +kernel) q) (if_n (fun Q q=>jl2 (s:="any") (r:=[]) rfl (by decide +kernel) q) ?_)))
   exact fin hp v _ (fun _ _ z=>z) hok (by omega) vk
  |is w =>
   refine jao (jz3 (a:=.str "is") (r:=[w]) rfl joe (jb6 (x:=w) (fun Q q=>jfv (a:=.str "is") (b:=w) (r:=[]) rfl q) ?_))
   exact fin hp w _ (fun _ _ z=>z) hok (by omega) gk
  |word =>
   refine jao (jrp (a:=.str "word") (r:=[]) rfl jjk (if_y (fun Q q=>jl2 (s:="word") (r:=[]) rfl (by decide +kernel) q) (jb6 (x:=.str "ab") (fun Q q=>jya (s:="word") (r:=[]) rfl js1 q) ?_)))
   exact fin hp (.str "ab") _ (fun _ _ z=>z) hok (by omega) (by decide +kernel)
  |number =>
   refine jao (jrp (a:=.str "number") (r:=[]) rfl jgs (if_y (fun Q q=>jl2 (s:="number") (r:=[]) rfl (by decide +kernel) q) (jb6 (x:=.int 99) (fun Q q=>jya (s:="number") (r:=[]) rfl jov q) ?_)))
   exact fin hp (.int 99) _ (fun _ _ z=>z) hok (by omega) (by decide +kernel)
  |as x =>
   refine jao (jrp (a:=.str "as") (r:=[.str x]) rfl jof (if_n (fun Q q=>jl2 (s:="as") (r:=[.str x]) rfl (by decide +kernel) q) (if_y (fun Q q=>jl2 (s:="as") (r:=[.str x]) rfl (by decide +kernel) q) ?_)))
   exact named "as" x _ (fun _ _ z=>z) rfl gk
  |bind x =>
   refine jao (jrp (a:=.str "bind") (r:=[.str x]) rfl jjl (if_n (fun Q q=>jl2 (s:="bind") (r:=[.str x]) rfl (by decide +kernel) q) (if_y (fun Q q=>jl2 (s:="bind") (r:=[.str x]) rfl (by decide +kernel) q) ?_)))
   exact named "bind" x _ (fun _ _ z=>z) rfl gk
theorem jii:∀ws n Q,jh6 ws n Q→ws.length=3:=fun ws n Q h=>by obtain⟨_,_,_,rfl,_⟩:=h;rfl
theorem jh0:∀ws n Q,jh6 ws n Q→jeq (jbf ["_law_tape_here","_law_programs","_law_stand_here","_law_notes_here","_law_hand","_law_act_here","_law_note"] ws) n {nx:=fun _ n=>Q (.d .none) n,rt:=Q}:=fun ws n0 Q h=>by
 obtain⟨ps,hs,ns,rfl,okp,okh,okn,hn0,k⟩:=h
 show jeq [some (.w .tp),some (.w (.d (pgD ps))),some (.w (.d (stD hs ns))),none,none,none,none] n0 _
 refine jao (show sOwn 3 (jd6 _) _ _ _ from w2_i (jad rfl (c_i (g1_i ?_))))
 dsimp only[nsD,List.set]
 refine jao ?_
 unfold sFor jaz
 refine b1_i (jad rfl ?_)
 refine And.intro ⟨by omega,by rw[List.length_map];have:=okp.1;omega⟩ ?_
 rw[Int.toNat_natCast,List.length_map]
 refine jba (fun ds δ m=>∃(j l:Nat) (ns':List Nt) (x y z:Option SV),ds=rngD (j:Nat) l∧j+l=ps.length∧δ=[some (.w .tp),some (.w (.d (pgD ps))),some (.w (.d (stD hs ns))),some (.own (ns'.map ntD)),x,y,z]∧ns'.length+l≤11∧(∀q∈ns',okR q.1)∧m+8*(l:Int)≤n0+50)
  (fun δ m I=>?_) (fun d r δ m N I kN=>?_) _ _ _ ⟨0,ps.length,ns,none,none,none,rfl,by omega,rfl,by have:=okn.1;have:=okp.1;omega,okn.2,by have:=okp.1;omega⟩
 ·obtain⟨j,l,ns',x,y,z,ed,hj,rfl,hl,hr,hm⟩:=I
  have:l=0:=by
   cases l with
   |zero=>rfl
   |succ l=>rw[jfo]at ed;cases ed
  subst this
  dsimp only
  refine jg1 rfl ?_
  dsimp only[List.set]
  exact jb4 (jdl (jgy rfl (b1_i (jad rfl (And.intro (show 2≤1000 by decide) (k ns' m ⟨by omega,hr⟩ (by omega)))))))
 ·obtain⟨j,l,ns',x,y,z,ed,hj,rfl,hl,hr,hm⟩:=I
  cases l with
  |zero=>cases ed
  |succ l =>
   rw[jfo]at ed
   obtain⟨rfl,rfl⟩:=List.cons.inj ed
   have hjl:j < ps.length:=by omega
   obtain⟨P,xb,xp,nm,w,as,H⟩:=jfb okh hjl
   dsimp only[jak,List.set]
   refine jao (jb6 (fun Q q=>jq9 (i:=1) (j:=2) (l:=4) rfl rfl rfl okh hjl q) ?_)
   dsimp only[List.set]
   have nxt:∀(ns'':List Nt) (y z:Option SV) (n':Int),ns''.length≤ns'.length+1→(∀q∈ns'',okR q.1)→n'≤m+8→N [some (.w .tp),some (.w (.d (pgD ps))),some (.w (.d (stD hs ns))),some (.own (ns''.map ntD)),some (.w (.d (.int j))),y,z] n':=fun ns'' y z n' a1 a2 a3 =>
    kN _ _ ⟨j+1,l,ns'',_,_,_,by rw[show((j+1:Nat):Int)=(j:Int)+1 from rfl],by omega,rfl,by omega,a2,by omega⟩
   cases ea:actO ps hs j with
   |none=>exact if_n (fun Q q=>jmg (fun Q q=>ct_b (k:=false) (fun Q q=>w2_i (jad rfl (c_i (jil q)))) q) q) (nxt ns' _ _ m (by omega) hr (by omega))
   |some a =>
    have oa:=H.ok okp ea
    show sIf _ _ _ [some (.w .tp),some (.w (.d (pgD ps))),some (.w (.d (stD hs ns))),some (.own (ns'.map ntD)),some (.w (.d (.int j))),some (.w (.d a.d)),z] m _
    cases ef:a.pf with
    |none =>
     obtain⟨_,s,r,e,h1,_⟩:=juz ef
     rw[e]
     exact if_n (fun Q q=>jjt (fun Q q=>ct_b (k:=true) (fun Q q=>w2_i (jad rfl (c_i (jil q)))) q) (jmg (fun Q q=>jud rfl h1 q) q)) (nxt ns' _ _ m (by omega) hr (by omega))
    |some fs =>
     obtain⟨of,s,r,e,h1,_⟩:=joq ef oa
     rw[e]
     refine if_i (jjt (fun Q q=>ct_b (k:=true) (fun Q q=>w2_i (jad rfl (c_i (jil q)))) q) (jjt (fun Q q=>jud rfl h1 q) ?_))
     refine w2_i (jek (m:=3) rfl (by omega) (by decide) (by decide) fun t t0 t1=>c_i ?_)
     show if decide (0 < t)=true then _ else _
     refine jvx (fun _=>?_) (fun _=>nxt ns' _ _ _ (by omega) hr (by omega))
     refine jao (show sSet 6 _ _ _ _ from jdl (c3_i (jad rfl (jfv rfl ?_))))
     refine w2_i (w2_i (w2_i (jad rfl (c_i (g0_i (jad rfl (gN_i H.hD (c_i (g2_i ?_)))))))))
     refine⟨fs,nm,rfl,of,H.nms,by omega,fun row n' hrow hn'=>jx3 rfl (by omega) fun v hv=>And.intro (show 2≤1000 by decide) ?_⟩
     dsimp only[List.set]
     unfold sIns
     refine(show(match some (some (SV.own (ns'.map ntD)))with | some (some (.own ds))=>_ | _=>False)from ?_)
     refine je2 (m:=((ns'.map ntD).length:Int)+1) rfl (fun Q q=>w2_i (jt8 rfl (c_i (addI q)))) (by omega) (by omega) (by rw[List.length_map];omega) fun t t0 t1=>?_
     refine jad rfl ⟨⟨t0,by omega,by rw[List.length_map];omega⟩,?_⟩
     dsimp only[List.set]
     have en:(ns'.map ntD).take t.toNat++PyData.tuple [.tuple row,v]::(ns'.map ntD).drop t.toNat=(ns'.take t.toNat++(row,v)::ns'.drop t.toNat).map ntD:=by
      rw[List.map_append,List.map_cons,List.map_take,List.map_drop];rfl
     rw[en]
     refine nxt _ _ _ _ ?_ (fun q hq=>?_) (by omega)
     ·rw[List.length_append,List.length_cons,List.length_take,List.length_drop];omega
     ·rcases List.mem_append.mp hq with hq | hq
      ·exact hr q (List.mem_of_mem_take hq)
      ·rcases List.mem_cons.mp hq with rfl | hq
       ·exact hrow
       ·exact hr q (List.mem_of_mem_drop hq)
theorem jra {s:Str} {n:Int} {Q:DQ} (k:Q (.d (.bool false)) n):gNe (.d (.str s)) (.d (.str s)) n Q:=by
 show Q (.d (.bool (!ja2 s (.str s)))) n
 have:ja2 s (.str s)=true:=by unfold ja2;exact decide_eq_true rfl
 rw[this]
 exact k
theorem jqn {i:Nat} {n:Int} {Q:DQ} (h:i < 16) (k:Q (.d (.str (toString (i:Int)))) n):joh [.d (.int i)] n Q:=⟨i,rfl,h,k⟩
theorem j1g {d:PyData} {n:Int} {Q:DQ} (k:Q (.d d) n):gIxO (.ob (some d)) (.d (.int 0)) n Q:=.inl ⟨d,rfl,rfl,k⟩
theorem j0d {ps:Pg} {hs:List Hn} {ns:List Nt} {h i:Nat} (e:gotO ps hs ns h=some i):i < ns.length:=by
 unfold gotO at e
 rw[Option.bind_eq_some_iff]at e
 obtain⟨a,_,e⟩:=e
 rw[Option.bind_eq_some_iff]at e
 obtain⟨fs,_,e⟩:=e
 exact j0f e
theorem je9:∀ws n Q,S_gr ws n Q→ws.length=2:=fun ws n Q h=>by obtain⟨_,_,_,rfl,_⟩:=h;rfl
theorem jey:∀ws n Q,S_gr ws n Q→jct (jbf ["_law_programs","_law_stand_here","_law_hand","_law_due","_law_found"] ws) n {nx:=fun _ n=>Q (.d .none) n,rt:=Q}:=fun ws n Q h=>by
 obtain⟨ps,hs,ns,rfl,ok,k⟩:=h
 show jct [some (.w (.d (pgD ps))),some (.w (.d (stD hs ns))),none,none,none] n _
 refine jao ?_
 unfold sFor jaz
 refine b1_i (jad rfl ?_)
 refine And.intro ⟨by omega,by rw[List.length_map];have:=ok.1.1;omega⟩ ?_
 rw[Int.toNat_natCast,List.length_map]
 refine jba (fun ds δ m=>m=n∧∃(j l:Nat) (x y z:Option SV),ds=rngD (j:Nat) l∧j+l=ps.length∧δ=[some (.w (.d (pgD ps))),some (.w (.d (stD hs ns))),x,y,z]) (fun δ m I=>?_) (fun d r δ m N I kN=>?_) _ _ _ ⟨rfl,0,ps.length,none,none,none,rfl,by omega,rfl⟩
 ·obtain⟨rfl,j,l,x,y,z,ed,hj,rfl⟩:=I
  exact(show Q (.d (.bool true)) m from k)
 ·obtain⟨rfl,j,l,x,y,z,ed,hj,rfl⟩:=I
  cases l with
  |zero=>cases ed
  |succ l =>
   rw[jfo]at ed
   obtain⟨rfl,rfl⟩:=List.cons.inj ed
   have hjl:j < ps.length:=by omega
   dsimp only[jak,List.set]
   refine jao (sets (o:=gotO ps hs ns j) (fun Q q=>c3_i (jad rfl (jad rfl (jad rfl ⟨ps,hs,ns,j,rfl,ok,hjl,q⟩)))) ?_)
   dsimp only[List.set]
   refine jao (jb6 (x:=natD (gotO ps hs ns j)) (fun Q q=>c3_i (jad rfl (jad rfl (jad rfl ⟨ps,hs,ns,j,rfl,ok,hjl,q⟩)))) ?_)
   dsimp only[List.set]
   have nxt:∀(y z:Option SV),N [some (.w (.d (pgD ps))),some (.w (.d (stD hs ns))),some (.w (.d (.int j))),y,z] m:=fun y z =>
    kN _ _ ⟨rfl,j+1,l,_,_,_,by rw[show((j+1:Nat):Int)=(j:Int)+1 from rfl],by omega,rfl⟩
   cases eg:gotO ps hs ns j with
   |none =>
    refine if_n (fun Q q=>jfx (fun Q q=>jjt (fun Q q=>ct_b (k:=true) (fun Q q=>w2_i (jad rfl (c_i (jik q)))) q) (ct_b (k:=false) (fun Q q=>w2_i (jad rfl (c_i (jik q)))) q)) (jmg (fun Q q=>ct_b (k:=false) (fun Q q=>w2_i (jad rfl (c_i (jik q)))) q) q)) (nxt _ _)
   |some i =>
    have hi:i < 16:=by have:=j0d eg;have:=ok.2.2.1;omega
    refine if_n (fun Q q=>jfx (fun Q q=>jmg (fun Q q=>ct_b (k:=false) (fun Q q=>w2_i (jad rfl (c_i (juc q)))) q) q) (jjt (fun Q q=>ct_b (k:=true) (fun Q q=>w2_i (jad rfl (c_i (juc q)))) q) (ct_b (k:=false) (fun Q q=>w2_i (b1_i (jad rfl (jqn hi (b1_i (w2_i (jad rfl (c_i (j1g (jqn hi (jra q))))))))))) q))) (nxt _ _)
theorem j1h:∀i < 16,isV (.int ((i:Nat):Int))=true:=by decide +kernel
theorem joz (l:List Nat) (hl:l.length≤100) (h:∀i∈l,i < 16):Small (.list (l.map fun i=>.int (i:Nat))):=by
 have key:∀l:List Nat,(∀i∈l,i < 16)→PyData.canLayAll0 (l.map fun i=>.int (i:Nat))=true∧PyData.depthAll (l.map fun i=>.int (i:Nat))=0∧PyData.weightAll (l.map fun i=>.int (i:Nat))≤21*l.length∧PyData.intsShortAll 13 (l.map fun i=>.int (i:Nat))=true∧PyData.showableAll (l.map fun i=>.int (i:Nat))=true:=by
  intro l
  induction l with
  |nil=>intro _;exact⟨rfl,rfl,Nat.le_refl _,rfl,rfl⟩
  |cons b r ih =>
   intro h
   obtain⟨a1,a2,a3,a4,a5⟩:=ih fun i hi=>h i (List.mem_cons_of_mem _ hi)
   have hb:=j1h b (h b List.mem_cons_self)
   simp only[isV,Bool.and_eq_true,decide_eq_true_eq]at hb
   rw[List.map_cons]
   refine⟨?_,?_,?_,?_,?_⟩
   ·rw[PyData.canLayAll0,a1,PyData.canLay0];rfl
   ·rw[PyData.depthAll,a2,PyData.depth];rfl
   ·rw[PyData.weightAll,List.length_cons]
    have:=hb.1
    omega
   ·rw[PyData.intsShortAll,a4,hb.2.1];rfl
   ·rw[PyData.showableAll,a5,hb.2.2];rfl
 obtain⟨a1,a2,a3,a4,a5⟩:=key l h
 refine⟨?_,?_,?_,?_,?_⟩
 ·rw[PyData.canLay0];exact a1
 ·rw[PyData.depth,a2];decide
 ·rw[PyData.weight]
  have:(2:Nat) ^ 20=1048576:=by decide
  omega
 ·rw[PyData.intsShort];exact a4
 ·rw[PyData.showable];exact a5
theorem jqh {ps:Pg} {hs:List Hn} {ns:List Nt} (h:ps.length≤5):Small (.list (rdyL ps hs ns)):=by
 refine joz _ (Nat.le_trans (List.length_filter_le _ _) (by rw[List.length_range];omega)) fun i hi=>?_
 have:=List.mem_range.mp (List.mem_filter.mp hi).1
 omega
theorem ix0L {a:PyData} {r:List PyData} {n:Int} {Q:DQ} (k:Q (.d a) n):gIxL (.d (.tuple (a::r))) (.d (.int 0)) n Q:=g0_i k
theorem jzr {ds:List PyData} {n:Int} {Q:DQ} (k:Q (.d (.int ds.length)) n):jff [.d (.tuple ds)] n Q:=k
theorem cN2 {δ:Sl} {n:Int} {S:DSpN} {w w':DT} {Q:List PyData→Int→Prop} (k:w δ n fun x n1=>w' δ n1 fun y n2=>S [x,y] n2 Q):jjp S (jab w (jab w' aNil)) δ n Q:=k
theorem jvu {δ:Sl} {n:Int} {K:DEnds} {W:DST} {g:DTG} {j:Int} (m:Nat) (ej:j=m) (hm:m≤1000) (k:forD g W K (rngD 0 m) δ n):sFor (jaz (wC (.int j))) g W δ n K:=by
 subst ej
 exact⟨⟨by omega,by omega⟩,by rw[Int.toNat_natCast];exact k⟩
theorem jut:j03 (none::some (.w .tp)::List.replicate (List.length ["_law_script","_law_tape_here","_law_programs","_law_k","_law_stand_here","_law_due","_law_turn","_law_found"] - 2) none) 0 jke:=by
 show j03 [none,some (.w .tp),none,none,none,none,none,none] 0 jke
 refine jao (show sSet 2 _ _ _ _ from w2_i (c1_i (jad rfl (And.intro rfl ⟨by decide,fun ps d n0 hp hn0=>c_i (ix0L ?_)⟩))))
 dsimp only[List.set]
 refine jao (jvu 5 rfl (by decide) ?_)
 refine jba (fun ds δ n=>∃x3 x4 x5 x6 x7:Option SV,δ=[none,some (.w .tp),some (.w (.d (pgD ps))),x3,x4,x5,x6,x7]∧n+450*(ds.length:Int)≤7000) (fun δ n I=>?_) (fun d' r δ n N I kN=>?_) _ _ _ ⟨none,none,none,none,none,rfl,by rw[jbx];omega⟩
 ·obtain⟨x3,x4,x5,x6,x7,rfl,hn⟩:=I
  dsimp only
  refine jb4 (w2_i (of_i (show jjp jfl _ _ _ _ from ?_)))
  refine⟨by decide,by decide,by decide,by decide,?_⟩
  refine⟨[],[],[],rfl,⟨⟨by decide,fun P hP=>by simp at hP⟩,fun i P hi=>by simp at hi,by decide,fun q hq=>by simp at hq⟩,?_⟩
  exact jfr rfl
 ·obtain⟨x3,x4,x5,x6,x7,rfl,hn⟩:=I
  rw[List.length_cons]at hn
  dsimp only[jak,List.set]
  refine jao (show sSet 4 _ _ _ _ from c3_i (jad rfl (jad rfl (c2_i (jad rfl (jad rfl ⟨ps,rfl,hp,by omega,fun hs ns n1 okh okn hn1=>⟨ps,hs,ns,rfl,hp,okh,okn,by omega,fun ns' n2 okn' hn2=>?_⟩⟩))))))
  dsimp only[List.set]
  have ok:okSt ps hs ns':=⟨hp,okh,okn'⟩
  refine jao (show sSet 5 _ _ _ _ from of_i ?_)
  unfold jcy jaz
  refine b1_i (jad rfl (jzr ?_))
  refine And.intro ⟨by omega,by rw[List.length_map];have:=hp.1;omega⟩ ?_
  rw[Int.toNat_natCast,List.length_map]
  refine jol ok ?_
  dsimp only[List.set]
  refine jvu 2 rfl (by decide) ?_
  refine jba (fun ds δ n=>n=n2∧∃x6 x7:Option SV,δ=[none,some (.w .tp),some (.w (.d (pgD ps))),some (.w (.d d')),some (.w (.d (stD hs ns'))),some (.w (.d (.list (rdyL ps hs ns')))),x6,x7]) (fun δ n I=>?_) (fun d'' r' δ n N' I kN'=>?_) _ _ _ ⟨rfl,x6,x7,rfl⟩
  ·obtain⟨rfl,x6,x7,rfl⟩:=I
   exact kN _ _ ⟨_,_,_,_,_,rfl,by omega⟩
  ·obtain⟨rfl,x6,x7,rfl⟩:=I
   dsimp only[jak,List.set]
   refine jao (show sOwn 7 _ _ _ _ from cN2 (jad rfl (jad rfl ⟨ps,hs,ns',rfl,ok,?_⟩)))
   dsimp only[List.set]
   have sm:=jqh (ps:=ps) (hs:=hs) (ns:=ns') hp.1
   refine jao (if_n (fun Q q=>jfx (fun Q q=>jvz (k:=true) (fun Q q=>ct_b (k:=true) (fun Q q=>show jv9 _ _ _ _ from jhl rfl ⟨_,rfl,q⟩) q) q) (ct_b (k:=false) (fun Q q=>w2_i (b1_i (jhl rfl (And.intro sm (b1_i (jad rfl (And.intro sm (jra q)))))))) q)) ?_)
   dsimp only[ja6]
   refine jao (jnj (x:=.int 0) rfl (fun Q q=>c_i q) (by unfold rdyL;rw[List.length_map];have:=List.length_filter_le (canB ps hs ns') (List.range ps.length);rw[List.length_range]at this;have:=hp.1;omega) ?_)
   dsimp only[List.set]
   exact jxn (fun Q q=>ct_b (k:=true) (fun Q q=>c2_i (jad rfl (jad rfl ⟨ps,hs,ns',rfl,ok,q⟩))) q) (kN' _ _ ⟨rfl,_,_,rfl⟩)
noncomputable def top (i:Nat):Stmt:=PySem.Challenge.pw_noteboard_k21_who_is_ready_and_gets.main.body.getD i (.Pass ⟨0,0,0,0⟩)
noncomputable abbrev jcc:Stmt:=top 1
noncomputable abbrev ji8:Stmt:=top 2
noncomputable abbrev jc4:Stmt:=top 5
noncomputable abbrev ji7:Stmt:=top 6
noncomputable abbrev jc5:Stmt:=top 7
noncomputable abbrev jf1:Stmt:=top 8
noncomputable abbrev jdd:Stmt:=top 10
noncomputable abbrev jde:Stmt:=top 11
noncomputable abbrev jcd:Stmt:=top 12
noncomputable abbrev jcn:Stmt:=top 13
noncomputable abbrev jc9:Stmt:=top 14
noncomputable abbrev jbu:Stmt:=top 15
noncomputable abbrev jbo:Stmt:=top 16
noncomputable abbrev jcm:Stmt:=top 17
noncomputable abbrev jda:Stmt:=top 18
noncomputable abbrev jbt:Stmt:=top 19
noncomputable abbrev jcf:Stmt:=top 20
noncomputable abbrev jco:Stmt:=top 21
noncomputable abbrev jch:Stmt:=top 22
noncomputable abbrev jce:Stmt:=top 23
noncomputable abbrev jc7:Stmt:=top 24
noncomputable abbrev jbp:Stmt:=top 25
noncomputable abbrev jc6:Stmt:=top 26
noncomputable abbrev jc8:Stmt:=top 27
noncomputable abbrev jcp:Stmt:=top 28
noncomputable abbrev jcg:Stmt:=top 29
noncomputable abbrev jbe:Stmt:=top 30
noncomputable abbrev jf2:Stmt:=top 31
noncomputable abbrev jys:Stmt:=jdd
noncomputable abbrev jyv:Stmt:=jde
end Nb
namespace Nb
open PySem L2
section
variable {P:Program} {w:World} {K:PySem.W.Frag} {mg:Str→Option Value} {base:Heap}
theorem jyn:FnScope ["_law_script"] ["_law_script"] (jae jys):=⟨rfl,rfl,rfl,by decide +kernel,rfl,by decide +kernel,by decide +kernel⟩
theorem jxe {f:Addr} {fd:FuncData} (F:Fun K "_law_tape" "_law_tape" jys f fd):FnOk P w K mg base CX0 1 f fd ["_law_script"] (jnr K):=by
 refine F.ok jyn (fun vs H Q E h=>?_) (fun cdv A outer s H vs Q E hr h=>?_)
 ·obtain⟨a,ns,rfl,_⟩:=h
  rfl
 ·obtain⟨a,ns,rfl,hS,hl,k⟩:=h
  refine⟨_,jf3 (jjb (jq1 (jav (jn2 jwr (pv 0) jqy (jqx ja4)) (jav ja4 (jav ja4 (jav (jq1 (jav jn3 (jav jn3 (jav jn3 (jav ja4 (jav ja4 (jav ja4 (jav ja4 jb2)))))))) jb2)))))),?_⟩
  refine⟨_,rfl,_,rfl,a,_,rfl,hS,fun p hp=>⟨jqi (by simp),fun g hg=>⟨jqi (by simp),fun q hq=>?_⟩⟩⟩
  rw[j1t (by rw[List.length_map];exact hl)]at hg hq ⊢
  have hgp:g≠p:=fun z=>by rw[z,jan]at hg;cases hg
  have hg0:H g=none:=by rw[jal hgp]at hg;exact hg
  have hqg:q≠g:=fun z=>by rw[z,jan]at hq;cases hq
  rw[jal hqg]at hq
  have hqp:q≠p:=fun z=>by rw[z,jan]at hq;cases hq
  have hq0:H q=none:=by rw[jal hqp]at hq;exact hq
  refine k q ⟨p,g⟩ _ ⟨⟨0,0,jan,Int.le_refl _,Int.le_refl _⟩,by rw[jal hqp.symm,jal hgp.symm,jan],hl,(fun z=>by rw[jal hqg.symm,jan];rfl),hqg.symm⟩ fun b o e=>?_
  rw[jal (jai e hq0),jal (jai e hg0),jal (jai e hp)]
  exact e
theorem scDraw:FnScope ["_law_tape_here","_law_many","_law_found","_law_spot","_law_cell","_law_mixed"] ["_law_tape_here","_law_many"] (jae jyv):=⟨rfl,rfl,rfl,by decide +kernel,rfl,by decide +kernel,by decide +kernel⟩
theorem jui {R:Prop} {G:Int→Prop} (use:(∀c,G c)→R) (fin:∀c,G c):R:=use fin
theorem j1k {R G:Prop} (use:G→R) (fin:G):R:=use fin
theorem jxf {f:Addr} {fd:FuncData} (F:Fun K "_law_draw" "_law_draw" jyv f fd) (zl:mg "len"=none):FnOk P w K mg base CX0 1 f fd ["_law_tape_here","_law_many"] ju6:=by
 refine F.ok scDraw (fun vs H Q E h=>?_) (fun cdv A outer s H vs Q E hr h=>?_)
 ·obtain⟨t,l,ns,n,many,rfl,_⟩:=h
  rfl
 ·obtain⟨t,l,ns,n,many,rfl,T,hn,hm0,hm1,k⟩:=h
  obtain⟨a,b,ht,ha0,ha1⟩:=T.ob
  have ntl:=T.ne
  have hl:=T.ls
  have hlen:=T.len
  refine⟨_,jb7 (jtn (je7 op_gt (jf4 ix_list (pv 0) ja4 (fun _ _=>rfl)) ja4 (jar _))
    (jb7 (jez (i:=2) scDraw.nd rfl (Or.inl rfl) (jdm jgp (jf4 ix_list (pv 0) ja4 (fun _ _=>rfl)) (pv 1)))
     (jb7 (jlm (jdm jq7 (jf4 ix_list (pv 0) ja4 (fun _ _=>rfl)) (pv 1)) (jn0 (pv 0) ja4 jg7))
     (jf3 (jjb (pv 2))))) jj5)
   (jb7 (jez (i:=3) scDraw.nd rfl (Or.inl rfl) (jf4 ix_list (pv 0) ja4 (fun _ _=>rfl)))
   (jb7 (jlm (jdm jls (pv 3) ja4) (jn0 (pv 0) ja4 jg7))
   (jb7 (jez (i:=4) scDraw.nd rfl (Or.inl rfl) ja4)
   (jb7 (jtn (je7 op_gt (jc2 jds (by rfl) zl PySem.boot_len (jav (jf4 ix_list (pv 0) ja4 (fun _ _=>rfl)) jb2)) ja4 (jar _))
    (jf3 (jez (i:=4) scDraw.nd rfl (Or.inl rfl) (jf4 ix_list (jf4 ix_list (pv 0) ja4 (fun _ _=>rfl))
     (jdm jgp (pv 3) (jc2 jds (by rfl) zl PySem.boot_len (jav (jf4 ix_list (pv 0) ja4 (fun _ _=>rfl)) jb2))) (fun _ _=>rfl)))) jj5)
   (jb7 (jtn (PW.pt (jve (je7 j1d (pv 4) (jdm jzj ja4 ja4) (jar _))
     (jqu (je7 op_lt (pv 3) (jc2 jds (by rfl) zl PySem.boot_len (jav (jf4 ix_list (pv 0) ja4 (fun _ _=>rfl)) jb2)) (jar _)))))
    (jb7 (jlm (jdm jq7 (pv 4) (pv 1)) (jn0 (pv 0) ja4 jg7)) (jf3 (jjb (jdm jgp (pv 4) (pv 1))))) jj5)
   (jb7 (jez (i:=5) scDraw.nd rfl (Or.inl rfl) (jdm jgp (jdm jjd (jdm jls (jdm jls (jdm jgp (pv 4) ja4) (jdm jjd (jdm jjd ja4 (pv 3)) (pv 3))) ja4) ja4) ja4))
   (jf3 (jjb (jdm jgp (jdm jgp (jdm jjd (jdm jgp (jdm jls (jdm jjd (pv 5) ja4) (jdm jjd (pv 3) ja4)) ja4) ja4) ja4) (pv 1)))))))))),?_⟩
  -- tape[2] > 0
  refine⟨_,rfl,t,_,2,_,rfl,rfl,SqL.of ht,jby (j:=2) rfl,_,_,rfl,rfl,_,rfl,?_⟩
  refine ite2 (fun _=>?_) (fun _=>?_)
  ·-- found=tape[2] % many;tape[2]=tape[2] // many;return found
   refine⟨_,rfl,t,_,2,_,rfl,rfl,SqL.of ht,jby (j:=2) rfl,_,rfl,_,_,rfl,rfl,hm0,?_⟩
   refine⟨_,rfl,t,_,2,_,rfl,rfl,SqL.of ht,jby (j:=2) rfl,_,rfl,_,_,rfl,rfl,⟨hm0,hm1⟩,?_⟩
   refine⟨_,rfl,t,_,2,2,rfl,rfl,ht,rfl,?_⟩
   refine⟨_,rfl,?_⟩
   refine k _ _ (Int.emod_nonneg _ (by omega)) (Int.emod_lt_of_pos _ hm0) ⟨⟨a,b / many,jan,ha0,by omega⟩,by rw[jal ntl.symm];exact hl,hlen,(fun z=>by rw[jal T.gne];exact T.ag z),T.gne⟩ Kp.tape
  ·-- spot=tape[1];tape[1]=spot+1;cell=0
   refine⟨_,rfl,t,_,1,_,rfl,rfl,SqL.of ht,jby (j:=1) rfl,?_⟩
   refine⟨_,rfl,_,_,rfl,rfl,_,rfl,t,_,1,1,rfl,rfl,ht,rfl,?_⟩
   have ht1:∀o,upd H t o t=some o:=fun o=>jan
   have hl1:∀o,upd H t o l.s=some (.lst (ns.map V.int)):=fun o=>by rw[jal ntl.symm];exact hl
   generalize hH1:upd H t (.lst (((.ref l.s::.int a::.int b::exOf l:List V)).set 1 (.int (a+1))))=H1
   have g1:H1 t=some (.lst (.ref l.s::.int (a+1)::.int b::exOf l)):=by rw[←hH1];exact jan
   have g2:H1 l.s=some (.lst (ns.map V.int)):=by rw[←hH1];exact hl1 _
   have g3:Kp t H H1:=by rw[←hH1];exact Kp.tape
   have g4:jpu=true→H1 l.g=some (.lst jux):=fun z=>by rw[←hH1,jal T.gne];exact T.ag z
   refine⟨_,rfl,t,_,0,_,rfl,rfl,SqL.of g1,jby (j:=0) rfl,l.s,_,rfl,.inl (SqL.of g2),_,_,rfl,rfl,_,rfl,?_⟩
   apply jui
   case use =>
    intro fin
    refine ite2 (fun hp=>?_) (fun _=>?_)
    ·have hpos:(0:Int) < ((ns.map V.int).length:Int):=of_decide_eq_true hp
     obtain⟨v,hv,hm⟩:=jx5 (xs:=ns.map V.int) (r:=a % ((ns.map V.int).length:Int)) (Int.emod_nonneg _ (by omega)) (Int.emod_lt_of_pos _ hpos)
     obtain⟨c,_,rfl⟩:=List.mem_map.mp hm
     refine⟨_,rfl,t,_,0,_,rfl,rfl,SqL.of g1,jby (j:=0) rfl,_,rfl,_,rfl,t,_,0,_,rfl,rfl,SqL.of g1,jby (j:=0) rfl,l.s,_,rfl,.inl (SqL.of g2),_,_,rfl,rfl,hpos,l.s,_,_,.int c,rfl,rfl,SqL.of g2,hv,?_⟩
     exact fin c
    ·exact fin 0
   case fin =>
    intro c
    refine⟨_,rfl,_,_,rfl,rfl,⟨by decide,by decide,by decide⟩,_,_,rfl,rfl,_,rfl,?_⟩
    apply j1k
    case use =>
     intro fin
     refine ite2 (fun _=>?_) (fun _=>?_)
     ·refine⟨_,rfl,_,rfl,t,_,0,_,rfl,rfl,SqL.of g1,jby (j:=0) rfl,l.s,_,rfl,.inl (SqL.of g2),_,_,rfl,rfl,_,rfl,?_⟩
      refine ite2 (fun _=>?_) (fun _=>fin)
      refine⟨_,rfl,_,rfl,_,_,rfl,rfl,⟨hm0,hm1⟩,_,rfl,t,_,2,2,rfl,rfl,g1,rfl,_,rfl,_,rfl,_,_,rfl,rfl,hm0,?_⟩
      exact k _ _ (Int.emod_nonneg _ (by omega)) (Int.emod_lt_of_pos _ hm0) ⟨⟨a+1,_,jan,by omega,by omega⟩,by rw[jal ntl.symm];exact g2,hlen,(fun z=>by rw[jal T.gne];exact g4 z),T.gne⟩ (g3.trans Kp.tape)
     ·exact iteF fin
    case fin =>
     refine⟨_,rfl,_,_,rfl,rfl,(by show(0:Int) < 999331;decide),_,rfl,_,_,rfl,rfl,.inl ⟨by decide,by decide⟩,_,rfl,_,_,rfl,rfl,.inl ⟨by omega,by omega⟩,_,_,rfl,rfl,_,_,rfl,rfl,_,_,rfl,rfl,.inr ⟨by decide,by decide⟩,_,_,rfl,rfl,(by show(0:Int) < 999961;decide),?_⟩
     refine⟨_,rfl,_,_,rfl,rfl,.inr ⟨by decide,by decide⟩,_,rfl,_,_,rfl,rfl,.inr ⟨by decide,by decide⟩,_,_,rfl,rfl,_,_,rfl,rfl,(by show(0:Int) < 999953;decide),_,_,rfl,rfl,.inr ⟨by decide,by decide⟩,_,_,rfl,rfl,(by show(0:Int) < 524287;decide),_,rfl,_,_,rfl,rfl,hm0,?_⟩
     exact k _ _ (Int.emod_nonneg _ (by omega)) (Int.emod_lt_of_pos _ hm0) ⟨⟨a+1,b,g1,by omega,by omega⟩,g2,hlen,g4,T.gne⟩ g3
end
end Nb
namespace Nb
open PySem L2 DL
section
variable {P:Program} {w:World} {K:PySem.W.Frag} {mg:Str→Option Value} {base:Heap}
theorem sc_field_fits:FnScope ["field","value","having","bound","head"] ["field","value","having","bound"] (jae jcc):=⟨rfl,rfl,rfl,by decide +kernel,rfl,by decide +kernel,by decide +kernel⟩
theorem jio {fa:Addr} {fd:FuncData} (F:Fun K "field_fits" "field_fits" jcc fa fd) (m:mg "field_fits"=some (.ref fa)) (b:Binds K fd ["field","value","having","bound"] []) (z_int:mg "int"=none) (z_isinstance:mg "isinstance"=none) (z_str:mg "str"=none):Has P w K mg base 1 "field_fits" ["field","value","having","bound"] S_ff:=by
 refine Has.mk' F m b (Fun.okD F sc_field_fits jie ?_)
 intro cdv A outer s H E hr
 exact⟨_,jem,(jah (jbw (i:=4) sc_field_fits.nd rfl (Or.inl rfl) (jau (K:=K) (jac 0) (jaj))) (jah (s_if (ja7 (jbj (K:=K) hr.units0) jbn (jac 4) (ja1) (jar _)) (jap (jbd (jg4 (jbj (K:=K) hr.units0) jbn (jau (K:=K) (jac 0) (jaj)) (jac 1) (jar _)))) jca) (jah (s_if (ja7 (jbj (K:=K) hr.units0) jbn (jac 4) (ja1) (jar _)) (jap (jbd (jr9 (K:=K) (T:="str") (.inr (.inr (.inl rfl))) (by rfl) z_isinstance (by rfl) z_str jv1 (jac 1)))) jca) (jah (s_if (ja7 (jbj (K:=K) hr.units0) jbn (jac 4) (ja1) (jar _)) (jap (jbd (jr9 (K:=K) (T:="int") (.inl rfl) (by rfl) z_isinstance (by rfl) z_int j0x (jac 1)))) jca) (jah (s_if (ja7 (jbj (K:=K) hr.units0) jbn (jac 4) (ja1) (jar _)) (jap (jbd (j0s (j0q hr.units (jau (K:=K) (jac 0) (jaj)) (je3 2)) (jr8 (jg4 (jbj (K:=K) hr.units0) jbn (jok hr.units (je3 2) (jau (K:=K) (jac 0) (jaj))) (jac 1) (jar _)))))) jca) (jah (s_if (ja7 (jbj (K:=K) hr.units0) jbn (jac 4) (ja1) (jar _)) (jap (jbd (d_or (j0p hr.units (jau (K:=K) (jac 0) (jaj)) (je3 3)) (jr8 (jg4 (jbj (K:=K) hr.units0) jbn (jok hr.units (je3 3) (jau (K:=K) (jac 0) (jaj))) (jac 1) (jar _)))))) jca) (jap (jbd (d_bl))))))))),jhw⟩
theorem sc_fits:FnScope ["pattern","row","names","having","bound","field","value"] ["pattern","row","names"] (jae ji8):=⟨rfl,rfl,rfl,by decide +kernel,rfl,by decide +kernel,by decide +kernel⟩
theorem juh {fa:Addr} {fd:FuncData} (F:Fun K "fits" "fits" ji8 fa fd) (m:mg "fits"=some (.ref fa)) (b:Binds K fd ["pattern","row","names"] []) (h_field_fits:Has P w K mg base 1 "field_fits" ["field","value","having","bound"] S_ff) (z_dict:mg "dict"=none) (z_len:mg "len"=none) (z_sorted:mg "sorted"=none) (z_tuple:mg "tuple"=none) (z_zip:mg "zip"=none):Has P w K mg base 2 "fits" ["pattern","row","names"] jmw:=by
 refine Has.mk' F m b (Fun.okD F sc_fits jt7 ?_)
 intro cdv A outer s H E hr
 exact⟨_,jor,(jah (s_if (ja7 jtx jns (jbb (ja0 (K:=K)) jb0 (by rfl) z_len PySem.boot_len (jaa (jac 0) jag)) (jbb (ja0 (K:=K)) jb0 (by rfl) z_len PySem.boot_len (jaa (jac 1) jag)) (jar _)) (jap (jbd (jdn))) jca) (jah (jnv (i:=3) sc_fits.nd rfl (Or.inl rfl) (jrk hr.hd (by rfl) z_dict (jac 2))) (jah (jnv (i:=4) sc_fits.nd rfl (Or.inl rfl) j1f) (jah (jec (jz7 (K:=K) (by rfl) z_zip (jac 0) (jac 1)) (jjn (K:=K) (jcs (ja5 (i:=5) sc_fits.nd rfl (Or.inl rfl)) (jcs (ja5 (i:=6) sc_fits.nd rfl (Or.inl rfl)) jjm))) (jah (s_if (jus (jpj (jam h_field_fits (hr.mono (by decide)) (by rfl) (jaa (jac 5) (jaa (jac 6) (jaa (je3 3) (jaa (je3 4) jag))))))) (jap (jbd (jdn))) jca) (jap (s_if (ja7 (jbj (K:=K) hr.units0) jbn (jau (K:=K) (jac 5) (jaj)) (ja1) (jar _)) (jah (jnu (i:=4) hr.units rfl (jau (K:=K) (jac 5) (jaj)) (jac 6)) (jap (jnu (i:=3) hr.units rfl (jau (K:=K) (jac 5) (jaj)) (jac 6)))) jca)))) (jap (jbd (jb8 (ja9 (K:=K)) jc3 (by rfl) z_tuple jb9 (jaa (DF.d (jnc (K:=K) hr.hd (by rfl) z_sorted (je3 3))) jag)))))))),jsp⟩
theorem sc_next_act:FnScope ["programs","stand","hand","block","place","acts"] ["programs","stand","hand"] (jae jc4):=⟨rfl,rfl,rfl,by decide +kernel,rfl,by decide +kernel,by decide +kernel⟩
theorem jl7 {fa:Addr} {fd:FuncData} (F:Fun K "next_act" "next_act" jc4 fa fd) (m:mg "next_act"=some (.ref fa)) (b:Binds K fd ["programs","stand","hand"] []) (z_len:mg "len"=none):Has P w K mg base 1 "next_act" ["programs","stand","hand"] jcz:=by
 refine Has.mk' F m b (Fun.okD F sc_next_act jgq ?_)
 intro cdv A outer s H E hr
 exact⟨_,jgh,(jah (jbw (i:=3) sc_next_act.nd rfl (Or.inl rfl) (jau (K:=K) (jau (K:=K) (jau (K:=K) (jac 1) (jaj)) (jac 2)) (jaj))) (jah (jbw (i:=4) sc_next_act.nd rfl (Or.inl rfl) (jau (K:=K) (jau (K:=K) (jau (K:=K) (jac 1) (jaj)) (jac 2)) (jaj))) (jah (jbw (i:=5) sc_next_act.nd rfl (Or.inl rfl) (jau (K:=K) (jau (K:=K) (jau (K:=K) (jac 0) (jac 2)) (jac 3)) (jaj))) (jap (jbd (jsa (ja7 jhh jhf (jac 4) (jbb (ja0 (K:=K)) jb0 (by rfl) z_len PySem.boot_len (jaa (jac 5) jag)) (jar _)) (jau (K:=K) (jac 5) (jac 4)) (jdn))))))),jku⟩
theorem sc_gets:FnScope ["programs","stand","hand","act","names","tried","place","note"] ["programs","stand","hand"] (jae ji7):=⟨rfl,rfl,rfl,by decide +kernel,rfl,by decide +kernel,by decide +kernel⟩
theorem jug {fa:Addr} {fd:FuncData} (F:Fun K "gets" "gets" ji7 fa fd) (m:mg "gets"=some (.ref fa)) (b:Binds K fd ["programs","stand","hand"] []) (h_fits:Has P w K mg base 2 "fits" ["pattern","row","names"] jmw) (h_next_act:Has P w K mg base 1 "next_act" ["programs","stand","hand"] jcz) (z_enumerate:mg "enumerate"=none) {q_GETTING:Addr} (g_GETTING:mg "GETTING"=some (.ref q_GETTING)) (t_GETTING:∀H,SqT K H q_GETTING ((["take","read","look"]:List Str).map V.str)):Has P w K mg base 3 "gets" ["programs","stand","hand"] jh8:=by
 refine Has.mk' F m b (Fun.okD F sc_gets jt6 ?_)
 intro cdv A outer s H E hr
 exact⟨_,jss,(jah (jbw (i:=3) sc_gets.nd rfl (Or.inl rfl) (jam h_next_act (hr.mono (by decide)) (by rfl) (jaa (jac 0) (jaa (jac 1) (jaa (jac 2) jag))))) (jah (s_if (DCW.cc (cw_or (ja7 jlr jm0 (jac 3) (jdn) (jar _)) (cw_or1 (j0v (K:=K) (hs:=["take","read","look"]) (jau (K:=K) (jac 3) (jaj)) (by rfl) g_GETTING t_GETTING)))) (jap (jbd (jdn))) jca) (jah (jbw (i:=4) sc_gets.nd rfl (Or.inl rfl) (jau (K:=K) (jau (K:=K) (jau (K:=K) (jac 1) (jaj)) (jac 2)) (jaj))) (jah (jyr (i:=5) sc_gets.nd rfl (Or.inl rfl)) (jah (jec (jz9 (K:=K) (by rfl) z_enumerate (jau (K:=K) (jac 1) (jaj))) (jjn (K:=K) (jcs (ja5 (i:=6) sc_gets.nd rfl (Or.inl rfl)) (jcs (ja5 (i:=7) sc_gets.nd rfl (Or.inl rfl)) jjm))) (jap (s_if (j0u (i:=5) hr.units rfl (jau (K:=K) (jac 7) (jaj))) (jah (s_if (ja7 je8 jg6 (jam h_fits (hr.mono (by decide)) (by rfl) (jaa (jau (K:=K) (jac 3) (jaj)) (jaa (jau (K:=K) (jac 7) (jaj)) (jaa (jac 4) jag)))) (jdn) (jar _)) (jap (jbd (jac 6))) jca) (jap (jyp (i:=5) hr.units rfl (jau (K:=K) (jac 7) (jaj)) (d_bl)))) jca))) (jap (jbd (jdn)))))))),jso⟩
theorem sc_is_ready:FnScope ["programs","stand","hand","act"] ["programs","stand","hand"] (jae jc5):=⟨rfl,rfl,rfl,by decide +kernel,rfl,by decide +kernel,by decide +kernel⟩
theorem jl8 {fa:Addr} {fd:FuncData} (F:Fun K "is_ready" "is_ready" jc5 fa fd) (m:mg "is_ready"=some (.ref fa)) (b:Binds K fd ["programs","stand","hand"] []) (h_gets:Has P w K mg base 3 "gets" ["programs","stand","hand"] jh8) (h_next_act:Has P w K mg base 1 "next_act" ["programs","stand","hand"] jcz):Has P w K mg base 4 "is_ready" ["programs","stand","hand"] jbz:=by
 refine Has.mk' F m b (Fun.okD F sc_is_ready jgr ?_)
 intro cdv A outer s H E hr
 exact⟨_,jgi,(jah (jbw (i:=3) sc_is_ready.nd rfl (Or.inl rfl) (jam h_next_act (hr.mono (by decide)) (by rfl) (jaa (jac 0) (jaa (jac 1) (jaa (jac 2) jag))))) (jah (s_if (ja7 jlr jm0 (jac 3) (jdn) (jar _)) (jap (jbd (d_bl))) jca) (jap (jbd (d_or (jg4 (jdz (K:=K)) jd7 (jau (K:=K) (jac 3) (jaj)) (jbg (jaa (ja1) (jaa (ja1) jag))) (by with_unfolding_all rfl)) (jr8 (jg4 je8 jg6 (jam h_gets (hr.mono (by decide)) (by rfl) (jaa (jac 0) (jaa (jac 1) (jaa (jac 2) jag)))) (jdn) (jar _)))))))),jkv⟩
theorem jtc:FnScope ["programs","stand"] ["programs","stand"] (jae jf1):=⟨rfl,rfl,rfl,by decide +kernel,rfl,by decide +kernel,by decide +kernel⟩
theorem jrv {fa:Addr} {fd:FuncData} (F:Fun K "ready" "ready" jf1 fa fd) (m:mg "ready"=some (.ref fa)) (b:Binds K fd ["programs","stand"] []) (h_is_ready:Has P w K mg base 4 "is_ready" ["programs","stand","hand"] jbz) (z_len:mg "len"=none) (z_range:mg "range"=none):HasN P w K mg base 5 "ready" ["programs","stand"] jfl:=by
 refine HasN.mk' F m b (Fun.okN F jtc jrf ?_)
 intro cdv A outer s H E hr
 exact⟨_,jnl,(jap (jyo (jhr (N:=["hand","programs","stand"]) (cl:=[("stand",s.heap.objs.size+2),("programs",s.heap.objs.size+1)]) (fr:=[none,some 0,some 1]) rfl ⟨by rfl,rfl,by decide +kernel,by decide +kernel,(jeu (by intro y hy;simp only[List.mem_cons,List.not_mem_nil,or_false]at hy;rcases hy with rfl | rfl<;>rfl)),jdq [(".0",.local),("hand",.local),("is_ready",.globalImplicit),("programs",.cell),("stand",.cell)] ["stand","programs"] rfl rfl (by decide +kernel),rfl,(fun j i h=>match j,h with | 0,h=>(by cases h) | 1,h=>(by cases(Option.some.inj (Option.some.inj h)).symm;exact⟨"programs",rfl,rfl,Or.inr (Or.inl rfl),Or.inl rfl,Or.inl rfl,rfl⟩) | 2,h=>(by cases(Option.some.inj (Option.some.inj h)).symm;exact⟨"stand",rfl,rfl,Or.inr (Or.inl rfl),Or.inl rfl,Or.inl rfl,rfl⟩) | (j+3),h=>(by have h2:(none:Option (Option Nat))=some (some i):=h;cases h2))⟩ (jbr (by rfl) z_range (jbb (ja0 (K:=K)) jb0 (by rfl) z_len PySem.boot_len (jaa (jac 0) jag))) (fun _ _ _=>(ja5 (i:=0) (show(["hand","programs","stand"]:List Str).Nodup by decide +kernel) rfl (Or.inl rfl))) (fun _ _ _=>(jl3 (jpj (jam h_is_ready (hr.mono (by decide)) (by rfl) (jaa (jac 1) (jaa (jac 2) (jaa (jac 0) jag))))))) (fun _ _ _=>(jac 0)) (jee 0)))),jpk⟩
theorem jj2:FnScope ["_law_tape_here"] ["_law_tape_here"] (jae jcd):=⟨rfl,rfl,rfl,by decide +kernel,rfl,by decide +kernel,by decide +kernel⟩
theorem jip {fa:Addr} {fd:FuncData} (F:Fun K "_law_value" "_law_value" jcd fa fd) (m:mg "_law_value"=some (.ref fa)) (b:Binds K fd ["_law_tape_here"] []) (jaf:Has P w K mg base 1 "_law_draw" ["_law_tape_here","_law_many"] jay):Has P w K mg base 2 "_law_value" ["_law_tape_here"] jck:=by
 refine Has.mk' F m b (Fun.okD F jj2 jif ?_)
 intro cdv A outer s H E hr
 exact⟨_,jen,(jap (jbd (jau (K:=K) (DF.d (jcj (jaa (ja1) (jaa (jaj) (jaa (ja1) (jaa (jaj) (jaa (ja1) (jaa (ja1) (jaa (jaj) (jaa (jaj) jag)))))))))) (jam jaf (hr.mono (by decide)) (by rfl) (jaa (jac 0) (jaa (jaj) jag)))))),jhx⟩
theorem jlh:FnScope ["_law_tape_here"] ["_law_tape_here"] (jae jcn):=⟨rfl,rfl,rfl,by decide +kernel,rfl,by decide +kernel,by decide +kernel⟩
theorem jkh {fa:Addr} {fd:FuncData} (F:Fun K "_law_size" "_law_size" jcn fa fd) (m:mg "_law_size"=some (.ref fa)) (b:Binds K fd ["_law_tape_here"] []) (jaf:Has P w K mg base 1 "_law_draw" ["_law_tape_here","_law_many"] jay):Has P w K mg base 2 "_law_size" ["_law_tape_here"] je4:=by
 refine Has.mk' F m b (Fun.okD F jlh jkb ?_)
 intro cdv A outer s H E hr
 exact⟨_,jfi,(jap (jbd (jau (K:=K) (DF.d (jcj (jaa (jaj) (jaa (jaj) (jaa (jaj) (jaa (jaj) (jaa (jaj) (jaa (jaj) (jaa (jaj) jag))))))))) (jam jaf (hr.mono (by decide)) (by rfl) (jaa (jac 0) (jaa (jaj) jag)))))),jiy⟩
theorem jm1:FnScope ["_law_tape_here"] ["_law_tape_here"] (jae jc9):=⟨rfl,rfl,rfl,by decide +kernel,rfl,by decide +kernel,by decide +kernel⟩
theorem jmc {fa:Addr} {fd:FuncData} (F:Fun K "_law_age" "_law_age" jc9 fa fd) (m:mg "_law_age"=some (.ref fa)) (b:Binds K fd ["_law_tape_here"] []) (jaf:Has P w K mg base 1 "_law_draw" ["_law_tape_here","_law_many"] jay) (z_len:mg "len"=none):Has P w K mg base 2 "_law_age" ["_law_tape_here"] ji1:=by
 refine Has.mk' F m b (Fun.okD F jm1 jlx ?_)
 intro cdv A outer s H E hr
 exact⟨_,jgl,(jap (jbd (jel (K:=K) (j0l (K:=K) (ix:=3) 0) (jam jaf (hr.mono (by decide)) (by rfl) (jaa (jac 0) (jaa (jbb (ja0 (K:=K)) jdo (by rfl) z_len PySem.boot_len (jaa (j0l (K:=K) (ix:=3) 0) jag)) jag)))))),jkz⟩
theorem sc__law_pattern:FnScope ["_law_tape_here","_law_known_here","_law_fields","_law_bound","_law_k","_law_way","_law_some","_law_name"] ["_law_tape_here","_law_known_here"] (jae jbu):=⟨rfl,rfl,rfl,by decide +kernel,rfl,by decide +kernel,by decide +kernel⟩
theorem jg0 {fa:Addr} {fd:FuncData} (F:Fun K "_law_pattern" "_law_pattern" jbu fa fd) (m:mg "_law_pattern"=some (.ref fa)) (b:Binds K fd ["_law_tape_here","_law_known_here"] []) (jaf:Has P w K mg base 1 "_law_draw" ["_law_tape_here","_law_many"] jay) (jbs:Has P w K mg base 2 "_law_size" ["_law_tape_here"] je4) (jas:Has P w K mg base 2 "_law_value" ["_law_tape_here"] jck) (z_len:mg "len"=none) (z_range:mg "range"=none) (z_tuple:mg "tuple"=none):Has P w K mg base 3 "_law_pattern" ["_law_tape_here","_law_known_here"] jmu:=by
 refine Has.mk' F m b (Fun.okD F sc__law_pattern jgx ?_)
 intro cdv A outer s H E hr
 exact⟨_,jdy,(jah (jfn (i:=2) sc__law_pattern.nd rfl (Or.inl rfl) (jcj jag)) (jah (jfn (i:=3) sc__law_pattern.nd rfl (Or.inl rfl) (jcj jag)) (jah (jec (jbr (by rfl) z_range (jam jbs (hr.mono (by decide)) (by rfl) (jaa (jac 0) jag))) (ja5 (i:=4) sc__law_pattern.nd rfl (Or.inl rfl)) (jah (jbw (i:=5) sc__law_pattern.nd rfl (Or.inl rfl) (jam jaf (hr.mono (by decide)) (by rfl) (jaa (jac 0) (jaa (jaj) jag)))) (jah (jbw (i:=6) sc__law_pattern.nd rfl (Or.inl rfl) (j1s (jac 1) (jhu 3))) (jap (s_if (ja7 jhh jhf (jac 5) (jaj) (jar _)) (jap (jex (i:=2) rfl (jbg (jaa (ja1) (jaa (jam jas (hr.mono (by decide)) (by rfl) (jaa (jac 0) jag)) jag))))) (jap (s_if (ja7 jhh jhf (jac 5) (jaj) (jar _)) (jap (jex (i:=2) rfl (jel (K:=K) (DF.d (jcj (jaa (jbg (jaa (ja1) jag)) (jaa (jbg (jaa (ja1) jag)) (jaa (jbg (jaa (ja1) jag)) jag))))) (jxv (jac 5) (jaj))))) (jap (s_if (DCW.cc (cw_or (ja7 jhh jhf (jac 5) (jaj) (jar _)) (cw_or1 (ja7 (jbj (K:=K) hr.units0) jdt (jac 6) (DF.d (jcj jag)) (jar _))))) (jah (jbw (i:=7) sc__law_pattern.nd rfl (Or.inl rfl) (jel (K:=K) (DF.d (jcj (jaa (ja1) (jaa (ja1) (jaa (ja1) (jaa (ja1) jag)))))) (jam jaf (hr.mono (by decide)) (by rfl) (jaa (jac 0) (jaa (jaj) jag))))) (jah (jex (i:=3) rfl (jac 7)) (jap (jex (i:=2) rfl (jbg (jaa (ja1) (jaa (jac 7) jag))))))) (jap (jex (i:=2) rfl (jbg (jaa (ja1) (jaa (jel (K:=K) (jac 6) (jam jaf (hr.mono (by decide)) (by rfl) (jaa (jac 0) (jaa (jbb (ja0 (K:=K)) jdo (by rfl) z_len PySem.boot_len (jaa (jac 6) jag)) jag)))) jag)))))))))))))) (jgv 2 (jgv 3 (jap (jbd (jbg (jaa (jb8 (ja9 (K:=K)) jcl (by rfl) z_tuple jb9 (jaa (jac 2) jag)) (jaa (jac 3) jag)))))))))),jgg⟩
theorem sc__law_template:FnScope ["_law_tape_here","_law_known_here","_law_fields","_law_k","_law_way"] ["_law_tape_here","_law_known_here"] (jae jbo):=⟨rfl,rfl,rfl,by decide +kernel,rfl,by decide +kernel,by decide +kernel⟩
theorem jf7 {fa:Addr} {fd:FuncData} (F:Fun K "_law_template" "_law_template" jbo fa fd) (m:mg "_law_template"=some (.ref fa)) (b:Binds K fd ["_law_tape_here","_law_known_here"] []) (jaf:Has P w K mg base 1 "_law_draw" ["_law_tape_here","_law_many"] jay) (jbs:Has P w K mg base 2 "_law_size" ["_law_tape_here"] je4) (jas:Has P w K mg base 2 "_law_value" ["_law_tape_here"] jck) (z_len:mg "len"=none) (z_range:mg "range"=none) (z_tuple:mg "tuple"=none):Has P w K mg base 3 "_law_template" ["_law_tape_here","_law_known_here"] jmt:=by
 refine Has.mk' F m b (Fun.okD F sc__law_template jf5 ?_)
 intro cdv A outer s H E hr
 exact⟨_,jdi,(jah (jfn (i:=2) sc__law_template.nd rfl (Or.inl rfl) (jcj jag)) (jah (jec (jbr (by rfl) z_range (jam jbs (hr.mono (by decide)) (by rfl) (jaa (jac 0) jag))) (ja5 (i:=3) sc__law_template.nd rfl (Or.inl rfl)) (jah (jbw (i:=4) sc__law_template.nd rfl (Or.inl rfl) (jam jaf (hr.mono (by decide)) (by rfl) (jaa (jac 0) (jaa (jaj) jag)))) (jap (s_if (DCW.cc (cw_or (ja7 jhh jhf (jac 4) (jaj) (jar _)) (cw_or1 (ja7 (jbj (K:=K) hr.units0) jdt (jac 1) (DF.d (jcj jag)) (jar _))))) (jap (jex (i:=2) rfl (jbg (jaa (ja1) (jaa (jam jas (hr.mono (by decide)) (by rfl) (jaa (jac 0) jag)) jag))))) (jap (jex (i:=2) rfl (jbg (jaa (jel (K:=K) (DF.d (jcj (jaa (ja1) (jaa (ja1) (jaa (ja1) jag))))) (jxv (jac 4) (jaj))) (jaa (jel (K:=K) (jac 1) (jam jaf (hr.mono (by decide)) (by rfl) (jaa (jac 0) (jaa (jbb (ja0 (K:=K)) jdo (by rfl) z_len PySem.boot_len (jaa (jac 1) jag)) jag)))) jag))))))))) (jgv 2 (jap (jbd (jb8 (ja9 (K:=K)) jcl (by rfl) z_tuple jb9 (jaa (jac 2) jag))))))),jfy⟩
theorem jlg:FnScope ["_law_tape_here","_law_known_here"] ["_law_tape_here","_law_known_here"] (jae jcm):=⟨rfl,rfl,rfl,by decide +kernel,rfl,by decide +kernel,by decide +kernel⟩
theorem jkg {fa:Addr} {fd:FuncData} (F:Fun K "_law_term" "_law_term" jcm fa fd) (m:mg "_law_term"=some (.ref fa)) (b:Binds K fd ["_law_tape_here","_law_known_here"] []) (jaf:Has P w K mg base 1 "_law_draw" ["_law_tape_here","_law_many"] jay) (jas:Has P w K mg base 2 "_law_value" ["_law_tape_here"] jck) (z_len:mg "len"=none):Has P w K mg base 3 "_law_term" ["_law_tape_here","_law_known_here"] jgn:=by
 refine Has.mk' F m b (Fun.okD F jlg jka ?_)
 intro cdv A outer s H E hr
 exact⟨_,jfh,(jah (s_if (DCW.cc (cw_or (ja7 (jbj (K:=K) hr.units0) jdt (jac 1) (DF.d (jcj jag)) (jar _)) (cw_or1 (ja7 (jbj (K:=K) hr.units0) jdt (jam jaf (hr.mono (by decide)) (by rfl) (jaa (jac 0) (jaa (jaj) jag))) (jaj) (jar _))))) (jap (jbd (jbg (jaa (ja1) (jaa (jam jas (hr.mono (by decide)) (by rfl) (jaa (jac 0) jag)) jag))))) jca) (jap (jbd (jbg (jaa (ja1) (jaa (jel (K:=K) (jac 1) (jam jaf (hr.mono (by decide)) (by rfl) (jaa (jac 0) (jaa (jbb (ja0 (K:=K)) jdo (by rfl) z_len PySem.boot_len (jaa (jac 1) jag)) jag)))) jag)))))),jix⟩
theorem sc__law_act:FnScope ["_law_tape_here","_law_known_here","_law_open_ones","_law_way","_law_block","_law_pattern_here","_law_bound"] ["_law_tape_here","_law_known_here","_law_open_ones"] (jae jda):=⟨rfl,rfl,rfl,by decide +kernel,rfl,by decide +kernel,by decide +kernel⟩
theorem jmd {fa:Addr} {fd:FuncData} (F:Fun K "_law_act" "_law_act" jda fa fd) (m:mg "_law_act"=some (.ref fa)) (b:Binds K fd ["_law_tape_here","_law_known_here","_law_open_ones"] []) (jb1:Has P w K mg base 2 "_law_age" ["_law_tape_here"] ji1) (jaf:Has P w K mg base 1 "_law_draw" ["_law_tape_here","_law_many"] jay) (jdv:Has P w K mg base 3 "_law_pattern" ["_law_tape_here","_law_known_here"] jmu) (jdh:Has P w K mg base 3 "_law_template" ["_law_tape_here","_law_known_here"] jmt) (jd3:Has P w K mg base 3 "_law_term" ["_law_tape_here","_law_known_here"] jgn) (z_len:mg "len"=none):Has P w K mg base 4 "_law_act" ["_law_tape_here","_law_known_here","_law_open_ones"] jh7:=by
 refine Has.mk' F m b (Fun.okD F sc__law_act jly ?_)
 intro cdv A outer s H E hr
 exact⟨_,jgm,(jah (jbw (i:=3) sc__law_act.nd rfl (Or.inl rfl) (jam jaf (hr.mono (by decide)) (by rfl) (jaa (jac 0) (jaa (jaj) jag)))) (jah (s_if (ja7 jhh jhf (jac 3) (jaj) (jar _)) (jap (jbd (jbg (jaa (jbg (jaa (ja1) (jaa (jam jdh (hr.mono (by decide)) (by rfl) (jaa (jac 0) (jaa (jac 1) jag))) (jaa (jam jb1 (hr.mono (by decide)) (by rfl) (jaa (jac 0) jag)) jag)))) (jaa (DF.d (jcj jag)) jag))))) jca) (jah (jbw (i:=4) sc__law_act.nd rfl (Or.inl rfl) (jel (K:=K) (jac 2) (jam jaf (hr.mono (by decide)) (by rfl) (jaa (jac 0) (jaa (jbb (ja0 (K:=K)) jdo (by rfl) z_len PySem.boot_len (jaa (jac 2) jag)) jag))))) (jah (s_if (ja7 (jbj (K:=K) hr.units0) jdt (jac 3) (jaj) (jar _)) (jap (jbd (jbg (jaa (jbg (jaa (ja1) (jaa (jam jd3 (hr.mono (by decide)) (by rfl) (jaa (jac 0) (jaa (jac 1) jag))) (jaa (jam jd3 (hr.mono (by decide)) (by rfl) (jaa (jac 0) (jaa (jac 1) jag))) (jaa (jac 4) jag))))) (jaa (DF.d (jcj jag)) jag))))) jca) (jah (s_if (ja7 (jbj (K:=K) hr.units0) jdt (jac 3) (jaj) (jar _)) (jap (jbd (jbg (jaa (jbg (jaa (ja1) (jaa (jac 4) jag))) (jaa (DF.d (jcj jag)) jag))))) jca) (jah (jwt (jam jdv (hr.mono (by decide)) (by rfl) (jaa (jac 0) (jaa (jac 1) jag))) (jjn (K:=K) (jcs (ja5 (i:=5) sc__law_act.nd rfl (Or.inl rfl)) (jcs (ja5 (i:=6) sc__law_act.nd rfl (Or.inl rfl)) jjm)))) (jah (s_if (ja7 jvi ju7 (jac 3) (jaj) (jar _)) (jap (jbd (jbg (jaa (jbg (jaa (ja1) (jaa (jac 5) (jaa (jac 4) jag)))) (jaa (jac 6) jag))))) jca) (jap (jbd (jbg (jaa (jbg (jaa (jel (K:=K) (DF.d (jcj (jaa (ja1) (jaa (ja1) (jaa (ja1) (jaa (ja1) jag)))))) (jxv (jac 3) (jaj))) (jaa (jac 5) jag))) (jaa (jac 6) jag)))))))))))),jk0⟩
theorem sc__law_program:FnScope ["_law_tape_here","_law_wants","_law_k","_law_blocks","_law_want","_law_known_here","_law_acts","_law_name","_law_open_ones","_law_act_here","_law_bound"] ["_law_tape_here"] (jae jbt):=⟨rfl,rfl,rfl,by decide +kernel,rfl,by decide +kernel,by decide +kernel⟩
theorem jgz {fa:Addr} {fd:FuncData} (F:Fun K "_law_program" "_law_program" jbt fa fd) (m:mg "_law_program"=some (.ref fa)) (b:Binds K fd ["_law_tape_here"] []) (jgb:Has P w K mg base 4 "_law_act" ["_law_tape_here","_law_known_here","_law_open_ones"] jh7) (jaf:Has P w K mg base 1 "_law_draw" ["_law_tape_here","_law_many"] jay) (z_len:mg "len"=none) (z_list:mg "list"=none) (z_range:mg "range"=none) (z_tuple:mg "tuple"=none):Has P w K mg base 5 "_law_program" ["_law_tape_here"] jmq:=by
 refine Has.mk' F m b (Fun.okD F sc__law_program jgw ?_)
 intro cdv A outer s H E hr
 exact⟨_,jdx,(jah (jfn (i:=1) sc__law_program.nd rfl (Or.inr rfl) (jcj (jaa (jbg jag) jag))) (jah (jec (jbr (by rfl) z_range (jel (K:=K) (DF.d (jcj (jaa (jaj) (jaa (jaj) (jaa (jaj) (jaa (jaj) (jaa (jaj) (jaa (jaj) (jaa (jaj) jag))))))))) (jam jaf (hr.mono (by decide)) (by rfl) (jaa (jac 0) (jaa (jaj) jag))))) (ja5 (i:=2) sc__law_program.nd rfl (Or.inl rfl)) (jap (jex (i:=1) rfl (jel (K:=K) (DF.d (jcj (jaa (jbg jag) (jaa (jbg (jaa (ja1) jag)) (jaa (jbg (jaa (ja1) (jaa (ja1) jag))) (jaa (jbg (jaa (ja1) jag)) (jaa (jbg jag) jag))))))) (jam jaf (hr.mono (by decide)) (by rfl) (jaa (jac 0) (jaa (jaj) jag))))))) (jah (jfn (i:=3) sc__law_program.nd rfl (Or.inl rfl) (jcj jag)) (jgv 1 (jah (jec (jnb (K:=K) (jac 1)) (ja5 (i:=4) sc__law_program.nd rfl (Or.inl rfl)) (jah (jfn (i:=5) sc__law_program.nd rfl (Or.inr rfl) (jkl (K:=K) (by rfl) z_list (jac 4))) (jah (jfn (i:=6) sc__law_program.nd rfl (Or.inl rfl) (jcj jag)) (jah (jec (jbr (by rfl) z_range (jel (K:=K) (DF.d (jcj (jaa (jaj) (jaa (jaj) (jaa (jaj) (jaa (jaj) (jaa (jaj) (jaa (jaj) (jaa (jaj) (jaa (jaj) jag)))))))))) (jam jaf (hr.mono (by decide)) (by rfl) (jaa (jac 0) (jaa (jaj) jag))))) (ja5 (i:=2) sc__law_program.nd rfl (Or.inl rfl)) (jah (ju8 (i:=8) (N:=["_law_b","_law_known_here","_law_wants"]) (cl:=[("_law_wants",s.heap.objs.size+1),("_law_known_here",s.heap.objs.size+2)]) (fr:=[none,some 5,some 1]) sc__law_program.nd rfl rfl rfl ⟨by rfl,rfl,by decide +kernel,by decide +kernel,(jeu (by intro y hy;simp only[List.mem_cons,List.not_mem_nil,or_false]at hy;rcases hy with rfl | rfl<;>rfl)),jdq [(".0",.local),("_law_b",.local),("_law_known_here",.cell),("_law_wants",.cell)] ["_law_wants","_law_known_here"] rfl rfl (by decide +kernel),rfl,(fun j i h=>match j,h with | 0,h=>(by cases h) | 1,h=>(by cases(Option.some.inj (Option.some.inj h)).symm;exact⟨"_law_known_here",rfl,rfl,Or.inr (Or.inl rfl),Or.inl rfl,Or.inl rfl,rfl⟩) | 2,h=>(by cases(Option.some.inj (Option.some.inj h)).symm;exact⟨"_law_wants",rfl,rfl,Or.inr (Or.inl rfl),Or.inl rfl,Or.inl rfl,rfl⟩) | (j+3),h=>(by have h2:(none:Option (Option Nat))=some (some i):=h;cases h2))⟩ (jbr (by rfl) z_range (jbb (ja0 (K:=K)) jdo (by rfl) z_len PySem.boot_len (jaa (jac 1) jag))) (fun _ _ _=>(ja5 (i:=0) (show(["_law_b","_law_known_here","_law_wants"]:List Str).Nodup by decide +kernel) rfl (Or.inl rfl))) (fun _ _ _=>(jl3 (ja7 (jbj (K:=K) hr.units0) jdt (DF.d (jhr (N:=["_law_name","_law_known_here"]) (cl:=[("_law_known_here",s.heap.objs.size+2)]) (fr:=[none,some 1]) rfl ⟨by rfl,rfl,by decide +kernel,by decide +kernel,(jeu (by intro y hy;simp only[List.mem_cons,List.not_mem_nil,or_false]at hy;rcases hy with rfl<;>rfl)),jdq [(".0",.local),("_law_name",.local),("_law_known_here",.cell)] ["_law_known_here"] rfl rfl (by decide +kernel),rfl,(fun j i h=>match j,h with | 0,h=>(by cases h) | 1,h=>(by cases(Option.some.inj (Option.some.inj h)).symm;exact⟨"_law_known_here",rfl,rfl,Or.inr (Or.inl rfl),Or.inl rfl,Or.inl rfl,rfl⟩) | (j+2),h=>(by have h2:(none:Option (Option Nat))=some (some i):=h;cases h2))⟩ (jl4 (K:=K) (jel (K:=K) (jac 2) (jac 0))) (fun _ _ _=>(ja5 (i:=0) (show(["_law_name","_law_known_here"]:List Str).Nodup by decide +kernel) rfl (Or.inl rfl))) (fun _ _ _=>(jl3 (ja7 (jdz (K:=K)) jqe (jac 0) (jac 1) (by with_unfolding_all rfl)))) (fun _ _ _=>(jac 0)) (jee 0))) (DF.d (jcj jag)) (jar _)))) (fun _ _ _=>(jac 0)) (jee 0)) (jah (jwt (jam jgb (hr.mono (by decide)) (by rfl) (jaa (jac 0) (jaa (jhu 5) (jaa (jac 8) jag)))) (jjn (K:=K) (jcs (ja5 (i:=9) sc__law_program.nd rfl (Or.inl rfl)) (jcs (ja5 (i:=10) sc__law_program.nd rfl (Or.inl rfl)) jjm)))) (jah (jex (i:=6) rfl (jac 9)) (jap (jec (jnb (K:=K) (jac 10)) (ja5 (i:=7) sc__law_program.nd rfl (Or.inl rfl)) (jap (s_if (ja7 (jdz (K:=K)) jqe (jac 7) (jhu 5) (by with_unfolding_all rfl)) (jap (jex (i:=5) rfl (jac 7))) jca)))))))) (jgv 6 (jap (jex (i:=3) rfl (jbg (jaa (jac 4) (jaa (jb8 (ja9 (K:=K)) jcl (by rfl) z_tuple jb9 (jaa (jac 6) jag)) jag)))))))))) (jgv 3 (jap (jbd (jb8 (ja9 (K:=K)) jcl (by rfl) z_tuple jb9 (jaa (jac 3) jag)))))))))),jgf⟩
theorem sc__law_notes:FnScope ["_law_tape_here","_law_most","_law_found","_law_k","_law_row"] ["_law_tape_here","_law_most"] (jae jcf):=⟨rfl,rfl,rfl,by decide +kernel,rfl,by decide +kernel,by decide +kernel⟩
theorem jir {fa:Addr} {fd:FuncData} (F:Fun K "_law_notes" "_law_notes" jcf fa fd) (m:mg "_law_notes"=some (.ref fa)) (b:Binds K fd ["_law_tape_here","_law_most"] []) (jb1:Has P w K mg base 2 "_law_age" ["_law_tape_here"] ji1) (jaf:Has P w K mg base 1 "_law_draw" ["_law_tape_here","_law_many"] jay) (jbs:Has P w K mg base 2 "_law_size" ["_law_tape_here"] je4) (jas:Has P w K mg base 2 "_law_value" ["_law_tape_here"] jck) (z_range:mg "range"=none) (z_tuple:mg "tuple"=none):Has P w K mg base 3 "_law_notes" ["_law_tape_here","_law_most"] jes:=by
 refine Has.mk' F m b (Fun.okD F sc__law_notes jih ?_)
 intro cdv A outer s H E hr
 exact⟨_,jep,(jah (jfn (i:=2) sc__law_notes.nd rfl (Or.inl rfl) (jcj jag)) (jah (jec (jbr (by rfl) z_range (jam jaf (hr.mono (by decide)) (by rfl) (jaa (jac 0) (jaa (jsc (jac 1) (jaj)) jag)))) (ja5 (i:=3) sc__law_notes.nd rfl (Or.inl rfl)) (jah (jbw (i:=4) sc__law_notes.nd rfl (Or.inl rfl) (jb8 (ja9 (K:=K)) jcl (by rfl) z_tuple jb9 (jaa (DF.d (jhr (N:=["_law_j","_law_tape_here"]) (cl:=[("_law_tape_here",s.heap.objs.size+1)]) (fr:=[none,some 0]) rfl ⟨by rfl,rfl,by decide +kernel,by decide +kernel,(fun x c h=>h),jdq [(".0",.local),("_law_j",.local),("_law_value",.globalImplicit),("_law_tape_here",.cell)] ["_law_tape_here"] rfl rfl (by decide +kernel),rfl,(fun j i h=>match j,h with | 0,h=>(by cases h) | 1,h=>(by cases(Option.some.inj (Option.some.inj h)).symm;exact⟨"_law_tape_here",rfl,rfl,Or.inr (Or.inl rfl),Or.inl rfl,Or.inl rfl,rfl⟩) | (j+2),h=>(by have h2:(none:Option (Option Nat))=some (some i):=h;cases h2))⟩ (jbr (by rfl) z_range (jam jbs (hr.mono (by decide)) (by rfl) (jaa (jac 0) jag))) (fun _ _ _=>(ja5 (i:=0) (show(["_law_j","_law_tape_here"]:List Str).Nodup by decide +kernel) rfl (Or.inl rfl))) (fun _ _ _=>jrq) (fun _ _ _=>(jam jas (hr.mono (by decide)) (by rfl) (jaa (jac 1) jag))) (jee 0))) jag))) (jap (jex (i:=2) rfl (jbg (jaa (jac 4) (jaa (jam jb1 (hr.mono (by decide)) (by rfl) (jaa (jac 0) jag)) jag))))))) (jgv 2 (jap (jbd (jb8 (ja9 (K:=K)) jcl (by rfl) z_tuple jb9 (jaa (jac 2) jag))))))),jhz⟩
theorem sc__law_plan:FnScope ["_law_tape_here","_law_programs"] ["_law_tape_here"] (jae jco):=⟨rfl,rfl,rfl,by decide +kernel,rfl,by decide +kernel,by decide +kernel⟩
theorem jki {fa:Addr} {fd:FuncData} (F:Fun K "_law_plan" "_law_plan" jco fa fd) (m:mg "_law_plan"=some (.ref fa)) (b:Binds K fd ["_law_tape_here"] []) (jaf:Has P w K mg base 1 "_law_draw" ["_law_tape_here","_law_many"] jay) (jci:Has P w K mg base 3 "_law_notes" ["_law_tape_here","_law_most"] jes) (jdu:Has P w K mg base 5 "_law_program" ["_law_tape_here"] jmq) (z_len:mg "len"=none) (z_range:mg "range"=none) (z_tuple:mg "tuple"=none):Has P w K mg base 6 "_law_plan" ["_law_tape_here"] jmr:=by
 refine Has.mk' F m b (Fun.okD F sc__law_plan jkc ?_)
 intro cdv A outer s H E hr
 exact⟨_,jfj,(jah (jyq (i:=1) (N:=["_law_k","_law_tape_here"]) (cl:=[("_law_tape_here",s.heap.objs.size+1)]) (fr:=[none,some 0]) sc__law_plan.nd rfl rfl rfl ⟨by rfl,rfl,by decide +kernel,by decide +kernel,(fun x c h=>h),jdq [(".0",.local),("_law_k",.local),("_law_program",.globalImplicit),("_law_tape_here",.cell)] ["_law_tape_here"] rfl rfl (by decide +kernel),rfl,(fun j i h=>match j,h with | 0,h=>(by cases h) | 1,h=>(by cases(Option.some.inj (Option.some.inj h)).symm;exact⟨"_law_tape_here",rfl,rfl,Or.inr (Or.inl rfl),Or.inl rfl,Or.inl rfl,rfl⟩) | (j+2),h=>(by have h2:(none:Option (Option Nat))=some (some i):=h;cases h2))⟩ (jbr (by rfl) z_range (jel (K:=K) (DF.d (jcj (jaa (jaj) (jaa (jaj) (jaa (jaj) (jaa (jaj) (jaa (jaj) (jaa (jaj) (jaa (jaj) (jaa (jaj) jag)))))))))) (jam jaf (hr.mono (by decide)) (by rfl) (jaa (jac 0) (jaa (jaj) jag))))) (fun _ _ _=>(ja5 (i:=0) (show(["_law_k","_law_tape_here"]:List Str).Nodup by decide +kernel) rfl (Or.inl rfl))) (fun _ _ _=>jrq) (fun _ _ _=>(jam jdu (hr.mono (by decide)) (by rfl) (jaa (jac 1) jag))) (jee 0)) (jah (s_if (DCW.cc (cw_and (ja7 (jbj (K:=K) hr.units0) jdt (jbb (ja0 (K:=K)) jdo (by rfl) z_len PySem.boot_len (jaa (jhu 1) jag)) (jaj) (jar _)) (cw_and1 (ja7 (jbj (K:=K) hr.units0) jdt (jam jaf (hr.mono (by decide)) (by rfl) (jaa (jac 0) (jaa (jaj) jag))) (jaj) (jar _))))) (jap (j06 (i:=1) rfl (jaj) (jel (K:=K) (jhu 1) (jaj)))) jca) (jgv 1 (jap (jbd (jbg (jaa (jb8 (ja9 (K:=K)) jcl (by rfl) z_tuple jb9 (jaa (jac 1) jag)) (jaa (jam jci (hr.mono (by decide)) (by rfl) (jaa (jac 0) (jaa (jel (K:=K) (DF.d (jcj (jaa (jaj) (jaa (jaj) (jaa (jaj) (jaa (jaj) jag)))))) (jam jaf (hr.mono (by decide)) (by rfl) (jaa (jac 0) (jaa (jaj) jag)))) jag))) jag)))))))),jiz⟩
theorem sc__law_known:FnScope ["_law_program_here","_law_block","_law_place","_law_found","_law_act_here"] ["_law_program_here","_law_block","_law_place"] (jae jch):=⟨rfl,rfl,rfl,by decide +kernel,rfl,by decide +kernel,by decide +kernel⟩
theorem jit {fa:Addr} {fd:FuncData} (F:Fun K "_law_known" "_law_known" jch fa fd) (m:mg "_law_known"=some (.ref fa)) (b:Binds K fd ["_law_program_here","_law_block","_law_place"] []) (z_list:mg "list"=none) (z_set:mg "set"=none) (z_sorted:mg "sorted"=none):Has P w K mg base 1 "_law_known" ["_law_program_here","_law_block","_law_place"] jf0:=by
 refine Has.mk' F m b (Fun.okD F sc__law_known jij ?_)
 intro cdv A outer s H E hr
 exact⟨_,jer,(jah (jfn (i:=3) sc__law_known.nd rfl (Or.inl rfl) (jkl (K:=K) (by rfl) z_list (jau (K:=K) (jau (K:=K) (jac 0) (jac 1)) (jaj)))) (jah (jec (jl4 (K:=K) (jxw (K:=K) (jau (K:=K) (jau (K:=K) (jac 0) (jac 1)) (jaj)) jzo (jzn (jac 2)))) (ja5 (i:=4) sc__law_known.nd rfl (Or.inl rfl)) (jap (s_if (ja7 (jje (K:=K)) jd7 (jau (K:=K) (jac 4) (jaj)) (jbg (jaa (ja1) (jaa (ja1) (jaa (ja1) jag)))) (by with_unfolding_all rfl)) (jap (j08 (i:=3) rfl (DF.d (jhr (N:=["_law_field"]) (cl:=[]) (fr:=[none]) rfl ⟨by rfl,rfl,by decide +kernel,by decide +kernel,(fun x c h=>nomatch h),jdq [(".0",.local),("_law_field",.local)] [] rfl rfl (by decide +kernel),rfl,(fun j i h=>match j,h with | 0,h=>(by cases h) | (j+1),h=>(by have h2:(none:Option (Option Nat))=some (some i):=h;cases h2))⟩ (jl4 (K:=K) (jau (K:=K) (jac 4) (jaj))) (fun _ _ _=>(ja5 (i:=0) (show(["_law_field"]:List Str).Nodup by decide +kernel) rfl (Or.inl rfl))) (fun _ _ _=>(jl3 (ja7 (jbj (K:=K) hr.units0) jbn (jau (K:=K) (jac 0) (jaj)) (ja1) (jar _)))) (fun _ _ _=>(jau (K:=K) (jac 0) (jaj))) (jee 0))))) jca))) (jgv 3 (jap (jbd (DF.d (jry (W:=w) hr.hd (by rfl) z_sorted (by rfl) z_set (jac 3)))))))),jh1⟩
theorem sc__law_stand:FnScope ["_law_tape_here","_law_programs","_law_hands","_law_program_here","_law_block","_law_place","_law_names"] ["_law_tape_here","_law_programs"] (jae jce):=⟨rfl,rfl,rfl,by decide +kernel,rfl,by decide +kernel,by decide +kernel⟩
theorem jiq {fa:Addr} {fd:FuncData} (F:Fun K "_law_stand" "_law_stand" jce fa fd) (m:mg "_law_stand"=some (.ref fa)) (b:Binds K fd ["_law_tape_here","_law_programs"] []) (jaf:Has P w K mg base 1 "_law_draw" ["_law_tape_here","_law_many"] jay) (jej:Has P w K mg base 1 "_law_known" ["_law_program_here","_law_block","_law_place"] jf0) (jci:Has P w K mg base 3 "_law_notes" ["_law_tape_here","_law_most"] jes) (jas:Has P w K mg base 2 "_law_value" ["_law_tape_here"] jck) (z_len:mg "len"=none) (z_tuple:mg "tuple"=none):Has P w K mg base 4 "_law_stand" ["_law_tape_here","_law_programs"] jh5:=by
 refine Has.mk' F m b (Fun.okD F sc__law_stand jig ?_)
 intro cdv A outer s H E hr
 exact⟨_,jeo,(jah (jfn (i:=2) sc__law_stand.nd rfl (Or.inl rfl) (jcj jag)) (jah (jec (jl4 (K:=K) (jac 1)) (ja5 (i:=3) sc__law_stand.nd rfl (Or.inl rfl)) (jah (jbw (i:=4) sc__law_stand.nd rfl (Or.inl rfl) (jam jaf (hr.mono (by decide)) (by rfl) (jaa (jac 0) (jaa (jbb (ja0 (K:=K)) jb0 (by rfl) z_len PySem.boot_len (jaa (jac 3) jag)) jag)))) (jah (jbw (i:=5) sc__law_stand.nd rfl (Or.inl rfl) (jam jaf (hr.mono (by decide)) (by rfl) (jaa (jac 0) (jaa (jsc (jbb (ja0 (K:=K)) jb0 (by rfl) z_len PySem.boot_len (jaa (jau (K:=K) (jau (K:=K) (jac 3) (jac 4)) (jaj)) jag)) (jaj)) jag)))) (jah (jbw (i:=6) sc__law_stand.nd rfl (Or.inl rfl) (jb8 (ja9 (K:=K)) jc3 (by rfl) z_tuple jb9 (jaa (DF.d (jhr (N:=["_law_name","_law_tape_here"]) (cl:=[("_law_tape_here",s.heap.objs.size+1)]) (fr:=[none,some 0]) rfl ⟨by rfl,rfl,by decide +kernel,by decide +kernel,(fun x c h=>h),jdq [(".0",.local),("_law_name",.local),("_law_value",.globalImplicit),("_law_tape_here",.cell)] ["_law_tape_here"] rfl rfl (by decide +kernel),rfl,(fun j i h=>match j,h with | 0,h=>(by cases h) | 1,h=>(by cases(Option.some.inj (Option.some.inj h)).symm;exact⟨"_law_tape_here",rfl,rfl,Or.inr (Or.inl rfl),Or.inl rfl,Or.inl rfl,rfl⟩) | (j+2),h=>(by have h2:(none:Option (Option Nat))=some (some i):=h;cases h2))⟩ (jnb (K:=K) (jam jej (hr.mono (by decide)) (by rfl) (jaa (jac 3) (jaa (jac 4) (jaa (jac 5) jag))))) (fun _ _ _=>(ja5 (i:=0) (show(["_law_name","_law_tape_here"]:List Str).Nodup by decide +kernel) rfl (Or.inl rfl))) (fun _ _ _=>jrq) (fun _ _ _=>(jbg (jaa (jac 0) (jaa (jam jas (hr.mono (by decide)) (by rfl) (jaa (jac 1) jag)) jag)))) (jee 0))) jag))) (jap (jex (i:=2) rfl (jbg (jaa (jac 4) (jaa (jac 5) (jaa (jac 6) jag)))))))))) (jgv 2 (jap (jbd (jbg (jaa (jb8 (ja9 (K:=K)) jc3 (by rfl) z_tuple jb9 (jaa (jac 2) jag)) (jaa (jam jci (hr.mono (by decide)) (by rfl) (jaa (jac 0) (jaa (jaj) jag))) jag)))))))),jhy⟩
theorem sc__law_fit:FnScope ["_law_pattern_here","_law_row","_law_names","_law_has","_law_mine","_law_field","_law_value_here","_law_word","_law_good"] ["_law_pattern_here","_law_row","_law_names"] (jae jc7):=⟨rfl,rfl,rfl,by decide +kernel,rfl,by decide +kernel,by decide +kernel⟩
theorem jma {fa:Addr} {fd:FuncData} (F:Fun K "_law_fit" "_law_fit" jc7 fa fd) (m:mg "_law_fit"=some (.ref fa)) (b:Binds K fd ["_law_pattern_here","_law_row","_law_names"] []) (z_dict:mg "dict"=none) (z_isinstance:mg "isinstance"=none) (z_len:mg "len"=none) (z_str:mg "str"=none) (z_zip:mg "zip"=none):Has P w K mg base 1 "_law_fit" ["_law_pattern_here","_law_row","_law_names"] jmv:=by
 refine Has.mk' F m b (Fun.okD F sc__law_fit jlv ?_)
 intro cdv A outer s H E hr
 exact⟨_,jew,(jah (s_if (ja7 jtx jns (jbb (ja0 (K:=K)) jb0 (by rfl) z_len PySem.boot_len (jaa (jac 0) jag)) (jbb (ja0 (K:=K)) jb0 (by rfl) z_len PySem.boot_len (jaa (jac 1) jag)) (jar _)) (jap (jbd (jdn))) jca) (jah (jnv (i:=3) sc__law_fit.nd rfl (Or.inl rfl) (jrk hr.hd (by rfl) z_dict (jac 2))) (jah (jfn (i:=4) sc__law_fit.nd rfl (Or.inl rfl) (jcj jag)) (jah (jec (jz7 (K:=K) (by rfl) z_zip (jac 0) (jac 1)) (jjn (K:=K) (jcs (ja5 (i:=5) sc__law_fit.nd rfl (Or.inl rfl)) (jcs (ja5 (i:=6) sc__law_fit.nd rfl (Or.inl rfl)) jjm))) (jah (jbw (i:=7) sc__law_fit.nd rfl (Or.inl rfl) (jau (K:=K) (jac 5) (jaj))) (jah (jbw (i:=8) sc__law_fit.nd rfl (Or.inl rfl) (d_bl)) (jah (s_if (ja7 (jbj (K:=K) hr.units0) jbn (jac 7) (ja1) (jar _)) (jap (jbw (i:=8) sc__law_fit.nd rfl (Or.inl rfl) (jg4 (jbj (K:=K) hr.units0) jbn (jau (K:=K) (jac 5) (jaj)) (jac 6) (jar _)))) (jap (s_if (ja7 (jje (K:=K)) jd7 (jac 7) (jbg (jaa (ja1) (jaa (ja1) jag))) (by with_unfolding_all rfl)) (jap (jbw (i:=8) sc__law_fit.nd rfl (Or.inl rfl) (jg4 (jbj (K:=K) hr.units0) jbn (jr9 (K:=K) (T:="str") (.inr (.inr (.inl rfl))) (by rfl) z_isinstance (by rfl) z_str jv1 (jac 6)) (jg4 (jbj (K:=K) hr.units0) jbn (jac 7) (ja1) (jar _)) (jar _)))) (jap (s_if (DCW.cc (cw_or (ja7 (jbj (K:=K) hr.units0) jbn (jac 7) (ja1) (jar _)) (cw_or1 (DCW.cc (cw_and (ja7 (jbj (K:=K) hr.units0) jbn (jac 7) (ja1) (jar _)) (cw_and1 (jx4 (K:=K) 4 (jau (K:=K) (jac 5) (jaj))))))))) (jap (jbw (i:=8) sc__law_fit.nd rfl (Or.inl rfl) (j0s (j0q hr.units (jau (K:=K) (jac 5) (jaj)) (je3 3)) (jr8 (jg4 (jbj (K:=K) hr.units0) jbn (jok hr.units (je3 3) (jau (K:=K) (jac 5) (jaj))) (jac 6) (jar _)))))) (jap (s_if (ja7 (jbj (K:=K) hr.units0) jbn (jac 7) (ja1) (jar _)) (jah (jnu (i:=3) hr.units rfl (jau (K:=K) (jac 5) (jaj)) (jac 6)) (jap (jex (i:=4) rfl (jau (K:=K) (jac 5) (jaj))))) jca))))))) (jap (s_if (jus (jpj (jac 8))) (jap (jbd (jdn))) jca)))))) (jap (jbd (j1p 3))))))),jkx⟩
theorem sc__law_next_act:FnScope ["_law_programs","_law_stand_here","_law_hand","_law_block","_law_place","_law_names","_law_acts"] ["_law_programs","_law_stand_here","_law_hand"] (jae jbp):=⟨rfl,rfl,rfl,by decide +kernel,rfl,by decide +kernel,by decide +kernel⟩
theorem jf8 {fa:Addr} {fd:FuncData} (F:Fun K "_law_next_act" "_law_next_act" jbp fa fd) (m:mg "_law_next_act"=some (.ref fa)) (b:Binds K fd ["_law_programs","_law_stand_here","_law_hand"] []) (z_len:mg "len"=none):Has P w K mg base 1 "_law_next_act" ["_law_programs","_law_stand_here","_law_hand"] jcz:=by
 refine Has.mk' F m b (Fun.okD F sc__law_next_act jf6 ?_)
 intro cdv A outer s H E hr
 exact⟨_,jdj,(jah (jwt (jau (K:=K) (jau (K:=K) (jac 1) (jaj)) (jac 2)) (jjn (K:=K) (jcs (ja5 (i:=3) sc__law_next_act.nd rfl (Or.inl rfl)) (jcs (ja5 (i:=4) sc__law_next_act.nd rfl (Or.inl rfl)) (jcs (ja5 (i:=5) sc__law_next_act.nd rfl (Or.inl rfl)) jjm))))) (jah (jbw (i:=6) sc__law_next_act.nd rfl (Or.inl rfl) (jau (K:=K) (jau (K:=K) (jau (K:=K) (jac 0) (jac 2)) (jac 3)) (jaj))) (jap (jbd (jsa (ja7 jhh jhf (jac 4) (jbb (ja0 (K:=K)) jb0 (by rfl) z_len PySem.boot_len (jaa (jac 6) jag)) (jar _)) (jau (K:=K) (jac 6) (jac 4)) (jdn)))))),jfz⟩
theorem sc__law_got:FnScope ["_law_programs","_law_stand_here","_law_hand","_law_act_here","_law_place","_law_has"] ["_law_programs","_law_stand_here","_law_hand"] (jae jc6):=⟨rfl,rfl,rfl,by decide +kernel,rfl,by decide +kernel,by decide +kernel⟩
theorem jl9 {fa:Addr} {fd:FuncData} (F:Fun K "_law_got" "_law_got" jc6 fa fd) (m:mg "_law_got"=some (.ref fa)) (b:Binds K fd ["_law_programs","_law_stand_here","_law_hand"] []) (jf9:Has P w K mg base 1 "_law_fit" ["_law_pattern_here","_law_row","_law_names"] jmv) (ja3:Has P w K mg base 1 "_law_next_act" ["_law_programs","_law_stand_here","_law_hand"] jcz) (z_len:mg "len"=none) (z_range:mg "range"=none):Has P w K mg base 2 "_law_got" ["_law_programs","_law_stand_here","_law_hand"] jnm:=by
 refine Has.mk' F m b (Fun.okD F sc__law_got jlu ?_)
 intro cdv A outer s H E hr
 exact⟨_,jgj,(jah (jbw (i:=3) sc__law_got.nd rfl (Or.inl rfl) (jam ja3 (hr.mono (by decide)) (by rfl) (jaa (jac 0) (jaa (jac 1) (jaa (jac 2) jag))))) (jah (s_if (DCW.cc (cw_or (ja7 jlr jmz (jac 3) (jdn) (jar _)) (cw_or1 (ja7 (jdz (K:=K)) jd7 (jau (K:=K) (jac 3) (jaj)) (jbg (jaa (ja1) (jaa (ja1) (jaa (ja1) jag)))) (by with_unfolding_all rfl))))) (jap (jbd (jdn))) jca) (jah (jec (jbr (by rfl) z_range (jbb (ja0 (K:=K)) jb0 (by rfl) z_len PySem.boot_len (jaa (jau (K:=K) (jac 1) (jaj)) jag))) (ja5 (i:=4) sc__law_got.nd rfl (Or.inl rfl)) (jah (jbw (i:=5) sc__law_got.nd rfl (Or.inl rfl) (jam jf9 (hr.mono (by decide)) (by rfl) (jaa (jau (K:=K) (jac 3) (jaj)) (jaa (jau (K:=K) (jau (K:=K) (jau (K:=K) (jac 1) (jaj)) (jac 4)) (jaj)) (jaa (jau (K:=K) (jau (K:=K) (jau (K:=K) (jac 1) (jaj)) (jac 2)) (jaj)) jag))))) (jap (s_if (ja7 je8 jg5 (jac 5) (jdn) (jar _)) (jap (jbd (jxx (jac 4) (jac 5)))) jca)))) (jap (jbd (jdn)))))),jkw⟩
theorem sc__law_can:FnScope ["_law_programs","_law_stand_here","_law_hand","_law_act_here"] ["_law_programs","_law_stand_here","_law_hand"] (jae jc8):=⟨rfl,rfl,rfl,by decide +kernel,rfl,by decide +kernel,by decide +kernel⟩
theorem jmb {fa:Addr} {fd:FuncData} (F:Fun K "_law_can" "_law_can" jc8 fa fd) (m:mg "_law_can"=some (.ref fa)) (b:Binds K fd ["_law_programs","_law_stand_here","_law_hand"] []) (jdc:Has P w K mg base 2 "_law_got" ["_law_programs","_law_stand_here","_law_hand"] jnm) (ja3:Has P w K mg base 1 "_law_next_act" ["_law_programs","_law_stand_here","_law_hand"] jcz):Has P w K mg base 3 "_law_can" ["_law_programs","_law_stand_here","_law_hand"] jbz:=by
 refine Has.mk' F m b (Fun.okD F sc__law_can jlw ?_)
 intro cdv A outer s H E hr
 exact⟨_,jgk,(jah (jbw (i:=3) sc__law_can.nd rfl (Or.inl rfl) (jam ja3 (hr.mono (by decide)) (by rfl) (jaa (jac 0) (jaa (jac 1) (jaa (jac 2) jag))))) (jah (s_if (ja7 jlr jmz (jac 3) (jdn) (jar _)) (jap (jbd (d_bl))) jca) (jap (jbd (d_or (jg4 (jdz (K:=K)) jd7 (jau (K:=K) (jac 3) (jaj)) (jbg (jaa (ja1) (jaa (ja1) jag))) (by with_unfolding_all rfl)) (jr8 (jg4 je8 jg5 (jam jdc (hr.mono (by decide)) (by rfl) (jaa (jac 0) (jaa (jac 1) (jaa (jac 2) jag)))) (jdn) (jar _)))))))),jky⟩
theorem sc__law_lure:FnScope ["_law_tape_here","_law_pattern_here","_law_names","_law_has","_law_row","_law_field","_law_value_here"] ["_law_tape_here","_law_pattern_here","_law_names"] (jae jcp):=⟨rfl,rfl,rfl,by decide +kernel,rfl,by decide +kernel,by decide +kernel⟩
theorem jkj {fa:Addr} {fd:FuncData} (F:Fun K "_law_lure" "_law_lure" jcp fa fd) (m:mg "_law_lure"=some (.ref fa)) (b:Binds K fd ["_law_tape_here","_law_pattern_here","_law_names"] []) (jas:Has P w K mg base 2 "_law_value" ["_law_tape_here"] jck) (z_dict:mg "dict"=none) (z_tuple:mg "tuple"=none):Has P w K mg base 3 "_law_lure" ["_law_tape_here","_law_pattern_here","_law_names"] jms:=by
 refine Has.mk' F m b (Fun.okD F sc__law_lure jkd ?_)
 intro cdv A outer s H E hr
 exact⟨_,jfk,(jah (jnv (i:=3) sc__law_lure.nd rfl (Or.inl rfl) (jrk hr.hd (by rfl) z_dict (jac 2))) (jah (jfn (i:=4) sc__law_lure.nd rfl (Or.inl rfl) (jcj jag)) (jah (jec (jl4 (K:=K) (jac 1)) (ja5 (i:=5) sc__law_lure.nd rfl (Or.inl rfl)) (jah (jbw (i:=6) sc__law_lure.nd rfl (Or.inl rfl) (jam jas (hr.mono (by decide)) (by rfl) (jaa (jac 0) jag))) (jah (s_if (ja7 (jbj (K:=K) hr.units0) jbn (jau (K:=K) (jac 5) (jaj)) (ja1) (jar _)) (jap (jbw (i:=6) sc__law_lure.nd rfl (Or.inl rfl) (jau (K:=K) (jac 5) (jaj)))) (jap (s_if (ja7 (jje (K:=K)) jd7 (jau (K:=K) (jac 5) (jaj)) (jbg (jaa (ja1) (jaa (ja1) jag))) (by with_unfolding_all rfl)) (jap (jbw (i:=6) sc__law_lure.nd rfl (Or.inl rfl) (jok hr.units (j0m (jnz jn1 jn1 (jnz jn1 ja4 jwx))) (jau (K:=K) (jac 5) (jaj))))) (jap (s_if (ja7 (jje (K:=K)) jd7 (jau (K:=K) (jac 5) (jaj)) (jbg (jaa (ja1) (jaa (ja1) jag))) (by with_unfolding_all rfl)) (jah (jbw (i:=6) sc__law_lure.nd rfl (Or.inl rfl) (jxz hr.units (je3 3) (jau (K:=K) (jac 5) (jaj)) (jac 6))) (jap (jnu (i:=3) hr.units rfl (jau (K:=K) (jac 5) (jaj)) (jac 6)))) jca))))) (jap (jex (i:=4) rfl (jac 6)))))) (jgv 4 (jap (jbd (jb8 (ja9 (K:=K)) jc3 (by rfl) z_tuple jb9 (jaa (jac 4) jag)))))))),ji0⟩
theorem sc__law_lured:FnScope ["_law_tape_here","_law_programs","_law_stand_here","_law_notes_here","_law_hand","_law_act_here","_law_note"] ["_law_tape_here","_law_programs","_law_stand_here"] (jae jcg):=⟨rfl,rfl,rfl,by decide +kernel,rfl,by decide +kernel,by decide +kernel⟩
theorem jis {fa:Addr} {fd:FuncData} (F:Fun K "_law_lured" "_law_lured" jcg fa fd) (m:mg "_law_lured"=some (.ref fa)) (b:Binds K fd ["_law_tape_here","_law_programs","_law_stand_here"] []) (jb1:Has P w K mg base 2 "_law_age" ["_law_tape_here"] ji1) (jaf:Has P w K mg base 1 "_law_draw" ["_law_tape_here","_law_many"] jay) (jfd:Has P w K mg base 3 "_law_lure" ["_law_tape_here","_law_pattern_here","_law_names"] jms) (ja3:Has P w K mg base 1 "_law_next_act" ["_law_programs","_law_stand_here","_law_hand"] jcz) (z_len:mg "len"=none) (z_list:mg "list"=none) (z_range:mg "range"=none) (z_tuple:mg "tuple"=none):Has P w K mg base 4 "_law_lured" ["_law_tape_here","_law_programs","_law_stand_here"] jh6:=by
 refine Has.mk' F m b (Fun.okD F sc__law_lured jii ?_)
 intro cdv A outer s H E hr
 exact⟨_,jeq,(jah (jfn (i:=3) sc__law_lured.nd rfl (Or.inl rfl) (jkl (K:=K) (by rfl) z_list (jau (K:=K) (jac 2) (jaj)))) (jah (jec (jbr (by rfl) z_range (jbb (ja0 (K:=K)) jb0 (by rfl) z_len PySem.boot_len (jaa (jac 1) jag))) (ja5 (i:=4) sc__law_lured.nd rfl (Or.inl rfl)) (jah (jbw (i:=5) sc__law_lured.nd rfl (Or.inl rfl) (jam ja3 (hr.mono (by decide)) (by rfl) (jaa (jac 1) (jaa (jac 2) (jaa (jac 4) jag))))) (jap (s_if (DCW.cc (cw_and (ja7 je8 jg6 (jac 5) (jdn) (jar _)) (cw_and (ja7 (jje (K:=K)) jd7 (jau (K:=K) (jac 5) (jaj)) (jbg (jaa (ja1) (jaa (ja1) (jaa (ja1) jag)))) (by with_unfolding_all rfl)) (cw_and1 (ja7 jvi ju7 (jam jaf (hr.mono (by decide)) (by rfl) (jaa (jac 0) (jaa (jaj) jag))) (jaj) (jar _)))))) (jah (jbw (i:=6) sc__law_lured.nd rfl (Or.inl rfl) (jbg (jaa (jam jfd (hr.mono (by decide)) (by rfl) (jaa (jac 0) (jaa (jau (K:=K) (jac 5) (jaj)) (jaa (jau (K:=K) (jau (K:=K) (jau (K:=K) (jac 2) (jaj)) (jac 4)) (jaj)) jag)))) (jaa (jam jb1 (hr.mono (by decide)) (by rfl) (jaa (jac 0) jag)) jag)))) (jap (j07 (i:=3) rfl (jam jaf (hr.mono (by decide)) (by rfl) (jaa (jac 0) (jaa (jsc (juo (K:=K) 3 (by rfl) z_len) (jaj)) jag))) (jac 6)))) jca)))) (jgv 3 (jap (jbd (jbg (jaa (jau (K:=K) (jac 2) (jaj)) (jaa (jb8 (ja9 (K:=K)) jc3 (by rfl) z_tuple jb9 (jaa (jac 3) jag)) jag)))))))),jh0⟩
theorem sc__law_gets_right:FnScope ["_law_programs","_law_stand_here","_law_hand","_law_due","_law_found"] ["_law_programs","_law_stand_here"] (jae jbe):=⟨rfl,rfl,rfl,by decide +kernel,rfl,by decide +kernel,by decide +kernel⟩
theorem jfa {fa:Addr} {fd:FuncData} (F:Fun K "_law_gets_right" "_law_gets_right" jbe fa fd) (m:mg "_law_gets_right"=some (.ref fa)) (b:Binds K fd ["_law_programs","_law_stand_here"] []) (jdc:Has P w K mg base 2 "_law_got" ["_law_programs","_law_stand_here","_law_hand"] jnm) (h_gets:Has P w K mg base 3 "gets" ["programs","stand","hand"] jh8) (z_len:mg "len"=none) (z_range:mg "range"=none) (z_repr:mg "repr"=none):Has P w K mg base 4 "_law_gets_right" ["_law_programs","_law_stand_here"] S_gr:=by
 refine Has.mk' F m b (Fun.okD F sc__law_gets_right je9 ?_)
 intro cdv A outer s H E hr
 exact⟨_,jct,(jah (jec (jbr (by rfl) z_range (jbb (ja0 (K:=K)) jb0 (by rfl) z_len PySem.boot_len (jaa (jac 0) jag))) (ja5 (i:=2) sc__law_gets_right.nd rfl (Or.inl rfl)) (jah (jbw (i:=3) sc__law_gets_right.nd rfl (Or.inl rfl) (jam jdc (hr.mono (by decide)) (by rfl) (jaa (jac 0) (jaa (jac 1) (jaa (jac 2) jag))))) (jah (jbw (i:=4) sc__law_gets_right.nd rfl (Or.inl rfl) (jam h_gets (hr.mono (by decide)) (by rfl) (jaa (jac 0) (jaa (jac 1) (jaa (jac 2) jag))))) (jap (s_if (DCW.cc (cw_or (DCW.cc (cw_and (ja7 jlr jmz (jac 3) (jdn) (jar _)) (cw_and1 (ja7 je8 jg5 (jac 4) (jdn) (jar _))))) (cw_or1 (DCW.cc (cw_and (ja7 je8 jg5 (jac 3) (jdn) (jar _)) (cw_and1 (ja7 jtx jns (jbb jjv jld (by rfl) z_repr jkt (jaa (jac 4) jag)) (jbb jjv jld (by rfl) z_repr jkt (jaa (j1q (K:=K) (jac 3) (jaj)) jag)) (jar _)))))))) (jap (jbd (d_bl))) jca))))) (jap (jbd (d_bl)))),jey⟩
theorem sc_law:FnScope ["_law_script","_law_tape_here","_law_programs","_law_k","_law_stand_here","_law_due","_law_turn","_law_found"] ["_law_script"] (jae jf2):=⟨rfl,rfl,rfl,by decide +kernel,rfl,by decide +kernel,by decide +kernel⟩
theorem jzm {fa fT:Addr} {fd fdT:FuncData} (F:Fun K "law" "law" jf2 fa fd) (GT:FnOk P w K mg base CX0 1 fT fdT ["_law_script"] (jnr K)) (bT:Binds K fdT ["_law_script"] []) (mT:mg "_law_tape"=some (.ref fT)) (kT:PySem.W.keepIn K (.ref fT)=true) (jga:Has P w K mg base 3 "_law_can" ["_law_programs","_law_stand_here","_law_hand"] jbz) (jcr:Has P w K mg base 4 "_law_gets_right" ["_law_programs","_law_stand_here"] S_gr) (jei:Has P w K mg base 4 "_law_lured" ["_law_tape_here","_law_programs","_law_stand_here"] jh6) (jfc:Has P w K mg base 6 "_law_plan" ["_law_tape_here"] jmr) (jeh:Has P w K mg base 4 "_law_stand" ["_law_tape_here","_law_programs"] jh5) (h_ready:HasN P w K mg base 5 "ready" ["programs","stand"] jfl) (z_isinstance:mg "isinstance"=none) (z_len:mg "len"=none) (z_list:mg "list"=none) (z_range:mg "range"=none) (z_repr:mg "repr"=none):FnOk P w K mg base CX0 7 fa fd ["_law_script"] (DL.spLaw K):=by
 refine jzt F sc_law GT bT mT kT (fun v=>rfl) jut ?_
 intro cdv A outer s H E hr
 exact⟨_,_,_,rfl,jez (i:=1) sc_law.nd rfl (Or.inl rfl) (jm6 GT (hr.mono (by decide)) rfl mT kT bT .nil jxa (jav (pv 0) jb2)),(jah (jbw (i:=2) sc_law.nd rfl (Or.inr rfl) (jel (K:=K) (jam jfc (hr.mono (by decide)) (by rfl) (jaa (jac 1) jag)) (jaj))) (jah (jec (jbr (by rfl) z_range (jaj)) (ja5 (i:=3) sc_law.nd rfl (Or.inl rfl)) (jah (jbw (i:=4) sc_law.nd rfl (Or.inr rfl) (jam jei (hr.mono (by decide)) (by rfl) (jaa (jac 1) (jaa (jac 2) (jaa (jam jeh (hr.mono (by decide)) (by rfl) (jaa (jac 1) (jaa (jac 2) jag))) jag))))) (jah (ju8 (i:=5) (N:=["_law_hand","_law_programs","_law_stand_here"]) (cl:=[("_law_stand_here",s.heap.objs.size+2),("_law_programs",s.heap.objs.size+1)]) (fr:=[none,some 2,some 4]) sc_law.nd rfl rfl rfl ⟨by rfl,rfl,by decide +kernel,by decide +kernel,(jeu (by intro y hy;simp only[List.mem_cons,List.not_mem_nil,or_false]at hy;rcases hy with rfl | rfl<;>rfl)),jdq [(".0",.local),("_law_hand",.local),("_law_can",.globalImplicit),("_law_programs",.cell),("_law_stand_here",.cell)] ["_law_stand_here","_law_programs"] rfl rfl (by decide +kernel),rfl,(fun j i h=>match j,h with | 0,h=>(by cases h) | 1,h=>(by cases(Option.some.inj (Option.some.inj h)).symm;exact⟨"_law_programs",rfl,rfl,Or.inr (Or.inl rfl),Or.inl rfl,Or.inl rfl,rfl⟩) | 2,h=>(by cases(Option.some.inj (Option.some.inj h)).symm;exact⟨"_law_stand_here",rfl,rfl,Or.inr (Or.inl rfl),Or.inl rfl,Or.inl rfl,rfl⟩) | (j+3),h=>(by have h2:(none:Option (Option Nat))=some (some i):=h;cases h2))⟩ (jbr (by rfl) z_range (jbb (ja0 (K:=K)) jdo (by rfl) z_len PySem.boot_len (jaa (jac 2) jag))) (fun _ _ _=>(ja5 (i:=0) (show(["_law_hand","_law_programs","_law_stand_here"]:List Str).Nodup by decide +kernel) rfl (Or.inl rfl))) (fun _ _ _=>(jl3 (jpj (jam jga (hr.mono (by decide)) (by rfl) (jaa (jac 1) (jaa (jac 2) (jaa (jac 0) jag))))))) (fun _ _ _=>(jac 0)) (jee 0)) (jap (jec (jbr (by rfl) z_range (jaj)) (ja5 (i:=6) sc_law.nd rfl (Or.inl rfl)) (jah (jfn (i:=7) sc_law.nd rfl (Or.inl rfl) (jrz h_ready (hr.mono (by decide)) (by rfl) (jaa (jac 2) (jaa (jac 4) jag)))) (jah (s_if (DCW.cc (cw_or (jus (jpj (j0n (K:=K) (by rfl) z_isinstance (by rfl) z_list jsn (jhu 7)))) (cw_or1 (ja7 jtx jns (jbb (jju (K:=K) hr.gd hr.units) jlc (by rfl) z_repr jkt (jaa (jhu 7) jag)) (jbb (jju (K:=K) hr.gd hr.units) jlc (by rfl) z_repr jkt (jaa (jac 5) jag)) (jar _))))) (jap (jbd (d_bl))) jca) (jah (jex (i:=7) rfl (jaj)) (jap (s_if (jus (jpj (jam jcr (hr.mono (by decide)) (by rfl) (jaa (jac 2) (jaa (jac 4) jag))))) (jap (jbd (d_bl))) jca)))))))))) (jap (jbd (jg4 (jbj (K:=K) hr.units0) jdt (DF.d (jrz h_ready (hr.mono (by decide)) (by rfl) (jaa (jbg jag) (jaa (jbg (jaa (jbg jag) (jaa (jbg jag) jag))) jag)))) (DF.d (jcj jag)) (jar _))))))⟩
end
theorem j02 {l:PySem.W.OpenLaw} {w:World} {K:PySem.W.Frag} {h:Heap} {mg:Str→Option Value} {fa f0 f1 f2 f3 f4 f5 f6 f7 f8 f9 f10 f11 f12 f13 f14 f15 f16 f17 f18 f19 f20 f21 f22 f23 f24 f25 f26 f27:Addr} (X:K.In h) (G:h.Ns mainGlobals mg) (hfa:mg "law"=some (.ref fa))
  {od0 an0 od1 an1 od2 an2 od3 an3 od4 an4 od5 an5 od6 an6 od7 an7 od8 an8 od9 an9 od10 an10 od11 an11 od12 an12 od13 an13 od14 an14 od15 an15 od16 an16 od17 an17 od18 an18 od19 an19 od20 an20 od21 an21 od22 an22 od23 an23 od24 an24 od25 an25 od26 an26 od27 an27:Option Addr} {sl0 sl1 sl2 sl3 sl4 sl5 sl6 sl7 sl8 sl9 sl10 sl11 sl12 sl13 sl14 sl15 sl16 sl17 sl18 sl19 sl20 sl21 sl22 sl23 sl24 sl25 sl26 sl27:Array (Option Value)} {oc0 kV0 dc0 pm0 cd0 ct0 oc1 kV1 dc1 pm1 cd1 ct1 oc2 kV2 dc2 pm2 cd2 ct2 oc3 kV3 dc3 pm3 cd3 ct3 oc4 kV4 dc4 pm4 cd4 ct4 oc5 kV5 dc5 pm5 cd5 ct5 oc6 kV6 dc6 pm6 cd6 ct6 oc7 kV7 dc7 pm7 cd7 ct7 oc8 kV8 dc8 pm8 cd8 ct8 oc9 kV9 dc9 pm9 cd9 ct9 oc10 kV10 dc10 pm10 cd10 ct10 oc11 kV11 dc11 pm11 cd11 ct11 oc12 kV12 dc12 pm12 cd12 ct12 oc13 kV13 dc13 pm13 cd13 ct13 oc14 kV14 dc14 pm14 cd14 ct14 oc15 kV15 dc15 pm15 cd15 ct15 oc16 kV16 dc16 pm16 cd16 ct16 oc17 kV17 dc17 pm17 cd17 ct17 oc18 kV18 dc18 pm18 cd18 ct18 oc19 kV19 dc19 pm19 cd19 ct19 oc20 kV20 dc20 pm20 cd20 ct20 oc21 kV21 dc21 pm21 cd21 ct21 oc22 kV22 dc22 pm22 cd22 ct22 oc23 kV23 dc23 pm23 cd23 ct23 oc24 kV24 dc24 pm24 cd24 ct24 oc25 kV25 dc25 pm25 cd25 ct25 oc26 kV26 dc26 pm26 cd26 ct26 oc27 kV27 dc27 pm27 cd27 ct27:Value} {q_GETTING:Addr} {qo_GETTING:Option Addr} {qs_GETTING:Array (Option Value)} {qn_GETTING:Nat} {qt_GETTING_0 qt_GETTING_1 qt_GETTING_2:Tok}
  (a0:PySem.W.nsIn K mainGlobals "field_fits"=some (some (.ref f0))) (l0:K.lookup f0=some ⟨oc0,od0,.func (PySem.W.fnOf "field_fits" "field_fits" (jax jcc) (jat jcc) (jae jcc) .none kV0 dc0 pm0 an0 cd0 ct0),sl0⟩) (c0:PySem.W.codeIn K cd0 "field_fits"=true) (k0:PySem.W.keepIn K (.ref f0)=true)
  (a1:PySem.W.nsIn K mainGlobals "fits"=some (some (.ref f1))) (l1:K.lookup f1=some ⟨oc1,od1,.func (PySem.W.fnOf "fits" "fits" (jax ji8) (jat ji8) (jae ji8) .none kV1 dc1 pm1 an1 cd1 ct1),sl1⟩) (c1:PySem.W.codeIn K cd1 "fits"=true) (k1:PySem.W.keepIn K (.ref f1)=true)
  (a2:PySem.W.nsIn K mainGlobals "next_act"=some (some (.ref f2))) (l2:K.lookup f2=some ⟨oc2,od2,.func (PySem.W.fnOf "next_act" "next_act" (jax jc4) (jat jc4) (jae jc4) .none kV2 dc2 pm2 an2 cd2 ct2),sl2⟩) (c2:PySem.W.codeIn K cd2 "next_act"=true) (k2:PySem.W.keepIn K (.ref f2)=true)
  (a3:PySem.W.nsIn K mainGlobals "gets"=some (some (.ref f3))) (l3:K.lookup f3=some ⟨oc3,od3,.func (PySem.W.fnOf "gets" "gets" (jax ji7) (jat ji7) (jae ji7) .none kV3 dc3 pm3 an3 cd3 ct3),sl3⟩) (c3:PySem.W.codeIn K cd3 "gets"=true) (k3:PySem.W.keepIn K (.ref f3)=true)
  (a4:PySem.W.nsIn K mainGlobals "is_ready"=some (some (.ref f4))) (l4:K.lookup f4=some ⟨oc4,od4,.func (PySem.W.fnOf "is_ready" "is_ready" (jax jc5) (jat jc5) (jae jc5) .none kV4 dc4 pm4 an4 cd4 ct4),sl4⟩) (c4:PySem.W.codeIn K cd4 "is_ready"=true) (k4:PySem.W.keepIn K (.ref f4)=true)
  (a5:PySem.W.nsIn K mainGlobals "ready"=some (some (.ref f5))) (l5:K.lookup f5=some ⟨oc5,od5,.func (PySem.W.fnOf "ready" "ready" (jax jf1) (jat jf1) (jae jf1) .none kV5 dc5 pm5 an5 cd5 ct5),sl5⟩) (c5:PySem.W.codeIn K cd5 "ready"=true) (k5:PySem.W.keepIn K (.ref f5)=true)
  (a6:PySem.W.nsIn K mainGlobals "_law_tape"=some (some (.ref f6))) (l6:K.lookup f6=some ⟨oc6,od6,.func (PySem.W.fnOf "_law_tape" "_law_tape" (jax jdd) (jat jdd) (jae jdd) .none kV6 dc6 pm6 an6 cd6 ct6),sl6⟩) (c6:PySem.W.codeIn K cd6 "_law_tape"=true) (k6:PySem.W.keepIn K (.ref f6)=true)
  (a7:PySem.W.nsIn K mainGlobals "_law_draw"=some (some (.ref f7))) (l7:K.lookup f7=some ⟨oc7,od7,.func (PySem.W.fnOf "_law_draw" "_law_draw" (jax jde) (jat jde) (jae jde) .none kV7 dc7 pm7 an7 cd7 ct7),sl7⟩) (c7:PySem.W.codeIn K cd7 "_law_draw"=true) (k7:PySem.W.keepIn K (.ref f7)=true)
  (a8:PySem.W.nsIn K mainGlobals "_law_value"=some (some (.ref f8))) (l8:K.lookup f8=some ⟨oc8,od8,.func (PySem.W.fnOf "_law_value" "_law_value" (jax jcd) (jat jcd) (jae jcd) .none kV8 dc8 pm8 an8 cd8 ct8),sl8⟩) (c8:PySem.W.codeIn K cd8 "_law_value"=true) (k8:PySem.W.keepIn K (.ref f8)=true)
  (a9:PySem.W.nsIn K mainGlobals "_law_size"=some (some (.ref f9))) (l9:K.lookup f9=some ⟨oc9,od9,.func (PySem.W.fnOf "_law_size" "_law_size" (jax jcn) (jat jcn) (jae jcn) .none kV9 dc9 pm9 an9 cd9 ct9),sl9⟩) (c9:PySem.W.codeIn K cd9 "_law_size"=true) (k9:PySem.W.keepIn K (.ref f9)=true)
  (a10:PySem.W.nsIn K mainGlobals "_law_age"=some (some (.ref f10))) (l10:K.lookup f10=some ⟨oc10,od10,.func (PySem.W.fnOf "_law_age" "_law_age" (jax jc9) (jat jc9) (jae jc9) .none kV10 dc10 pm10 an10 cd10 ct10),sl10⟩) (c10:PySem.W.codeIn K cd10 "_law_age"=true) (k10:PySem.W.keepIn K (.ref f10)=true)
  (a11:PySem.W.nsIn K mainGlobals "_law_pattern"=some (some (.ref f11))) (l11:K.lookup f11=some ⟨oc11,od11,.func (PySem.W.fnOf "_law_pattern" "_law_pattern" (jax jbu) (jat jbu) (jae jbu) .none kV11 dc11 pm11 an11 cd11 ct11),sl11⟩) (c11:PySem.W.codeIn K cd11 "_law_pattern"=true) (k11:PySem.W.keepIn K (.ref f11)=true)
  (a12:PySem.W.nsIn K mainGlobals "_law_template"=some (some (.ref f12))) (l12:K.lookup f12=some ⟨oc12,od12,.func (PySem.W.fnOf "_law_template" "_law_template" (jax jbo) (jat jbo) (jae jbo) .none kV12 dc12 pm12 an12 cd12 ct12),sl12⟩) (c12:PySem.W.codeIn K cd12 "_law_template"=true) (k12:PySem.W.keepIn K (.ref f12)=true)
  (a13:PySem.W.nsIn K mainGlobals "_law_term"=some (some (.ref f13))) (l13:K.lookup f13=some ⟨oc13,od13,.func (PySem.W.fnOf "_law_term" "_law_term" (jax jcm) (jat jcm) (jae jcm) .none kV13 dc13 pm13 an13 cd13 ct13),sl13⟩) (c13:PySem.W.codeIn K cd13 "_law_term"=true) (k13:PySem.W.keepIn K (.ref f13)=true)
  (a14:PySem.W.nsIn K mainGlobals "_law_act"=some (some (.ref f14))) (l14:K.lookup f14=some ⟨oc14,od14,.func (PySem.W.fnOf "_law_act" "_law_act" (jax jda) (jat jda) (jae jda) .none kV14 dc14 pm14 an14 cd14 ct14),sl14⟩) (c14:PySem.W.codeIn K cd14 "_law_act"=true) (k14:PySem.W.keepIn K (.ref f14)=true)
  (a15:PySem.W.nsIn K mainGlobals "_law_program"=some (some (.ref f15))) (l15:K.lookup f15=some ⟨oc15,od15,.func (PySem.W.fnOf "_law_program" "_law_program" (jax jbt) (jat jbt) (jae jbt) .none kV15 dc15 pm15 an15 cd15 ct15),sl15⟩) (c15:PySem.W.codeIn K cd15 "_law_program"=true) (k15:PySem.W.keepIn K (.ref f15)=true)
  (a16:PySem.W.nsIn K mainGlobals "_law_notes"=some (some (.ref f16))) (l16:K.lookup f16=some ⟨oc16,od16,.func (PySem.W.fnOf "_law_notes" "_law_notes" (jax jcf) (jat jcf) (jae jcf) .none kV16 dc16 pm16 an16 cd16 ct16),sl16⟩) (c16:PySem.W.codeIn K cd16 "_law_notes"=true) (k16:PySem.W.keepIn K (.ref f16)=true)
  (a17:PySem.W.nsIn K mainGlobals "_law_plan"=some (some (.ref f17))) (l17:K.lookup f17=some ⟨oc17,od17,.func (PySem.W.fnOf "_law_plan" "_law_plan" (jax jco) (jat jco) (jae jco) .none kV17 dc17 pm17 an17 cd17 ct17),sl17⟩) (c17:PySem.W.codeIn K cd17 "_law_plan"=true) (k17:PySem.W.keepIn K (.ref f17)=true)
  (a18:PySem.W.nsIn K mainGlobals "_law_known"=some (some (.ref f18))) (l18:K.lookup f18=some ⟨oc18,od18,.func (PySem.W.fnOf "_law_known" "_law_known" (jax jch) (jat jch) (jae jch) .none kV18 dc18 pm18 an18 cd18 ct18),sl18⟩) (c18:PySem.W.codeIn K cd18 "_law_known"=true) (k18:PySem.W.keepIn K (.ref f18)=true)
  (a19:PySem.W.nsIn K mainGlobals "_law_stand"=some (some (.ref f19))) (l19:K.lookup f19=some ⟨oc19,od19,.func (PySem.W.fnOf "_law_stand" "_law_stand" (jax jce) (jat jce) (jae jce) .none kV19 dc19 pm19 an19 cd19 ct19),sl19⟩) (c19:PySem.W.codeIn K cd19 "_law_stand"=true) (k19:PySem.W.keepIn K (.ref f19)=true)
  (a20:PySem.W.nsIn K mainGlobals "_law_fit"=some (some (.ref f20))) (l20:K.lookup f20=some ⟨oc20,od20,.func (PySem.W.fnOf "_law_fit" "_law_fit" (jax jc7) (jat jc7) (jae jc7) .none kV20 dc20 pm20 an20 cd20 ct20),sl20⟩) (c20:PySem.W.codeIn K cd20 "_law_fit"=true) (k20:PySem.W.keepIn K (.ref f20)=true)
  (a21:PySem.W.nsIn K mainGlobals "_law_next_act"=some (some (.ref f21))) (l21:K.lookup f21=some ⟨oc21,od21,.func (PySem.W.fnOf "_law_next_act" "_law_next_act" (jax jbp) (jat jbp) (jae jbp) .none kV21 dc21 pm21 an21 cd21 ct21),sl21⟩) (c21:PySem.W.codeIn K cd21 "_law_next_act"=true) (k21:PySem.W.keepIn K (.ref f21)=true)
  (a22:PySem.W.nsIn K mainGlobals "_law_got"=some (some (.ref f22))) (l22:K.lookup f22=some ⟨oc22,od22,.func (PySem.W.fnOf "_law_got" "_law_got" (jax jc6) (jat jc6) (jae jc6) .none kV22 dc22 pm22 an22 cd22 ct22),sl22⟩) (c22:PySem.W.codeIn K cd22 "_law_got"=true) (k22:PySem.W.keepIn K (.ref f22)=true)
  (a23:PySem.W.nsIn K mainGlobals "_law_can"=some (some (.ref f23))) (l23:K.lookup f23=some ⟨oc23,od23,.func (PySem.W.fnOf "_law_can" "_law_can" (jax jc8) (jat jc8) (jae jc8) .none kV23 dc23 pm23 an23 cd23 ct23),sl23⟩) (c23:PySem.W.codeIn K cd23 "_law_can"=true) (k23:PySem.W.keepIn K (.ref f23)=true)
  (a24:PySem.W.nsIn K mainGlobals "_law_lure"=some (some (.ref f24))) (l24:K.lookup f24=some ⟨oc24,od24,.func (PySem.W.fnOf "_law_lure" "_law_lure" (jax jcp) (jat jcp) (jae jcp) .none kV24 dc24 pm24 an24 cd24 ct24),sl24⟩) (c24:PySem.W.codeIn K cd24 "_law_lure"=true) (k24:PySem.W.keepIn K (.ref f24)=true)
  (a25:PySem.W.nsIn K mainGlobals "_law_lured"=some (some (.ref f25))) (l25:K.lookup f25=some ⟨oc25,od25,.func (PySem.W.fnOf "_law_lured" "_law_lured" (jax jcg) (jat jcg) (jae jcg) .none kV25 dc25 pm25 an25 cd25 ct25),sl25⟩) (c25:PySem.W.codeIn K cd25 "_law_lured"=true) (k25:PySem.W.keepIn K (.ref f25)=true)
  (a26:PySem.W.nsIn K mainGlobals "_law_gets_right"=some (some (.ref f26))) (l26:K.lookup f26=some ⟨oc26,od26,.func (PySem.W.fnOf "_law_gets_right" "_law_gets_right" (jax jbe) (jat jbe) (jae jbe) .none kV26 dc26 pm26 an26 cd26 ct26),sl26⟩) (c26:PySem.W.codeIn K cd26 "_law_gets_right"=true) (k26:PySem.W.keepIn K (.ref f26)=true)
  (a27:PySem.W.nsIn K mainGlobals "law"=some (some (.ref f27))) (l27:K.lookup f27=some ⟨oc27,od27,.func (PySem.W.fnOf "law" "law" (jax jf2) (jat jf2) (jae jf2) .none kV27 dc27 pm27 an27 cd27 ct27),sl27⟩) (c27:PySem.W.codeIn K cd27 "law"=true) (k27:PySem.W.keepIn K (.ref f27)=true)
  (zz_dict:PySem.W.nsIn K mainGlobals "dict"=some none)
  (zz_enumerate:PySem.W.nsIn K mainGlobals "enumerate"=some none)
  (zz_int:PySem.W.nsIn K mainGlobals "int"=some none)
  (zz_isinstance:PySem.W.nsIn K mainGlobals "isinstance"=some none)
  (zz_len:PySem.W.nsIn K mainGlobals "len"=some none)
  (zz_list:PySem.W.nsIn K mainGlobals "list"=some none)
  (zz_range:PySem.W.nsIn K mainGlobals "range"=some none)
  (zz_repr:PySem.W.nsIn K mainGlobals "repr"=some none)
  (zz_set:PySem.W.nsIn K mainGlobals "set"=some none)
  (zz_sorted:PySem.W.nsIn K mainGlobals "sorted"=some none)
  (zz_str:PySem.W.nsIn K mainGlobals "str"=some none)
  (zz_tuple:PySem.W.nsIn K mainGlobals "tuple"=some none)
  (zz_zip:PySem.W.nsIn K mainGlobals "zip"=some none)
  (gg_GETTING:PySem.W.nsIn K mainGlobals "GETTING"=some (some (.ref q_GETTING))) (gl_GETTING:K.lookup q_GETTING=some ⟨.type "tuple",qo_GETTING,.seq #[.str "take" qt_GETTING_0,.str "read" qt_GETTING_1,.str "look" qt_GETTING_2] qn_GETTING,qs_GETTING⟩)
  : ∃fd:FuncData,(∀(s:Shared) (v:Value),BindsTo s fd ⟨[v],[]⟩ [("_law_script",v)])∧∀base:Heap,K.In base→base.Ns mainGlobals mg→FnOk l.prog w K mg base CX0 7 fa fd ["_law_script"] (DL.spLaw K):=by
 have e:=hfa.symm.trans (PySem.W.mg_of X G a27)
 cases e
 have F0:=jbm (st:=jcc) l0 c0 k0
 have b0:=F0.binds (ps:=["field","value","having","bound"]) fun _ _ _ _ _ _ us hl=>match us,hl with | [_,_,_,_],_=>rfl
 have m0:=PySem.W.mg_of X G a0
 have F1:=jbm (st:=ji8) l1 c1 k1
 have b1:=F1.binds (ps:=["pattern","row","names"]) fun _ _ _ _ _ _ us hl=>match us,hl with | [_,_,_],_=>rfl
 have m1:=PySem.W.mg_of X G a1
 have F2:=jbm (st:=jc4) l2 c2 k2
 have b2:=F2.binds (ps:=["programs","stand","hand"]) fun _ _ _ _ _ _ us hl=>match us,hl with | [_,_,_],_=>rfl
 have m2:=PySem.W.mg_of X G a2
 have F3:=jbm (st:=ji7) l3 c3 k3
 have b3:=F3.binds (ps:=["programs","stand","hand"]) fun _ _ _ _ _ _ us hl=>match us,hl with | [_,_,_],_=>rfl
 have m3:=PySem.W.mg_of X G a3
 have F4:=jbm (st:=jc5) l4 c4 k4
 have b4:=F4.binds (ps:=["programs","stand","hand"]) fun _ _ _ _ _ _ us hl=>match us,hl with | [_,_,_],_=>rfl
 have m4:=PySem.W.mg_of X G a4
 have F5:=jbm (st:=jf1) l5 c5 k5
 have b5:=F5.binds (ps:=["programs","stand"]) fun _ _ _ _ _ _ us hl=>match us,hl with | [_,_],_=>rfl
 have m5:=PySem.W.mg_of X G a5
 have F6:=jbm (st:=jdd) l6 c6 k6
 have b6:=F6.binds (ps:=["_law_script"]) fun _ _ _ _ _ _ us hl=>match us,hl with | [_],_=>rfl
 have m6:=PySem.W.mg_of X G a6
 have F7:=jbm (st:=jde) l7 c7 k7
 have b7:=F7.binds (ps:=["_law_tape_here","_law_many"]) fun _ _ _ _ _ _ us hl=>match us,hl with | [_,_],_=>rfl
 have m7:=PySem.W.mg_of X G a7
 have F8:=jbm (st:=jcd) l8 c8 k8
 have b8:=F8.binds (ps:=["_law_tape_here"]) fun _ _ _ _ _ _ us hl=>match us,hl with | [_],_=>rfl
 have m8:=PySem.W.mg_of X G a8
 have F9:=jbm (st:=jcn) l9 c9 k9
 have b9:=F9.binds (ps:=["_law_tape_here"]) fun _ _ _ _ _ _ us hl=>match us,hl with | [_],_=>rfl
 have m9:=PySem.W.mg_of X G a9
 have F10:=jbm (st:=jc9) l10 c10 k10
 have b10:=F10.binds (ps:=["_law_tape_here"]) fun _ _ _ _ _ _ us hl=>match us,hl with | [_],_=>rfl
 have m10:=PySem.W.mg_of X G a10
 have F11:=jbm (st:=jbu) l11 c11 k11
 have b11:=F11.binds (ps:=["_law_tape_here","_law_known_here"]) fun _ _ _ _ _ _ us hl=>match us,hl with | [_,_],_=>rfl
 have m11:=PySem.W.mg_of X G a11
 have F12:=jbm (st:=jbo) l12 c12 k12
 have b12:=F12.binds (ps:=["_law_tape_here","_law_known_here"]) fun _ _ _ _ _ _ us hl=>match us,hl with | [_,_],_=>rfl
 have m12:=PySem.W.mg_of X G a12
 have F13:=jbm (st:=jcm) l13 c13 k13
 have b13:=F13.binds (ps:=["_law_tape_here","_law_known_here"]) fun _ _ _ _ _ _ us hl=>match us,hl with | [_,_],_=>rfl
 have m13:=PySem.W.mg_of X G a13
 have F14:=jbm (st:=jda) l14 c14 k14
 have b14:=F14.binds (ps:=["_law_tape_here","_law_known_here","_law_open_ones"]) fun _ _ _ _ _ _ us hl=>match us,hl with | [_,_,_],_=>rfl
 have m14:=PySem.W.mg_of X G a14
 have F15:=jbm (st:=jbt) l15 c15 k15
 have b15:=F15.binds (ps:=["_law_tape_here"]) fun _ _ _ _ _ _ us hl=>match us,hl with | [_],_=>rfl
 have m15:=PySem.W.mg_of X G a15
 have F16:=jbm (st:=jcf) l16 c16 k16
 have b16:=F16.binds (ps:=["_law_tape_here","_law_most"]) fun _ _ _ _ _ _ us hl=>match us,hl with | [_,_],_=>rfl
 have m16:=PySem.W.mg_of X G a16
 have F17:=jbm (st:=jco) l17 c17 k17
 have b17:=F17.binds (ps:=["_law_tape_here"]) fun _ _ _ _ _ _ us hl=>match us,hl with | [_],_=>rfl
 have m17:=PySem.W.mg_of X G a17
 have F18:=jbm (st:=jch) l18 c18 k18
 have b18:=F18.binds (ps:=["_law_program_here","_law_block","_law_place"]) fun _ _ _ _ _ _ us hl=>match us,hl with | [_,_,_],_=>rfl
 have m18:=PySem.W.mg_of X G a18
 have F19:=jbm (st:=jce) l19 c19 k19
 have b19:=F19.binds (ps:=["_law_tape_here","_law_programs"]) fun _ _ _ _ _ _ us hl=>match us,hl with | [_,_],_=>rfl
 have m19:=PySem.W.mg_of X G a19
 have F20:=jbm (st:=jc7) l20 c20 k20
 have b20:=F20.binds (ps:=["_law_pattern_here","_law_row","_law_names"]) fun _ _ _ _ _ _ us hl=>match us,hl with | [_,_,_],_=>rfl
 have m20:=PySem.W.mg_of X G a20
 have F21:=jbm (st:=jbp) l21 c21 k21
 have b21:=F21.binds (ps:=["_law_programs","_law_stand_here","_law_hand"]) fun _ _ _ _ _ _ us hl=>match us,hl with | [_,_,_],_=>rfl
 have m21:=PySem.W.mg_of X G a21
 have F22:=jbm (st:=jc6) l22 c22 k22
 have b22:=F22.binds (ps:=["_law_programs","_law_stand_here","_law_hand"]) fun _ _ _ _ _ _ us hl=>match us,hl with | [_,_,_],_=>rfl
 have m22:=PySem.W.mg_of X G a22
 have F23:=jbm (st:=jc8) l23 c23 k23
 have b23:=F23.binds (ps:=["_law_programs","_law_stand_here","_law_hand"]) fun _ _ _ _ _ _ us hl=>match us,hl with | [_,_,_],_=>rfl
 have m23:=PySem.W.mg_of X G a23
 have F24:=jbm (st:=jcp) l24 c24 k24
 have b24:=F24.binds (ps:=["_law_tape_here","_law_pattern_here","_law_names"]) fun _ _ _ _ _ _ us hl=>match us,hl with | [_,_,_],_=>rfl
 have m24:=PySem.W.mg_of X G a24
 have F25:=jbm (st:=jcg) l25 c25 k25
 have b25:=F25.binds (ps:=["_law_tape_here","_law_programs","_law_stand_here"]) fun _ _ _ _ _ _ us hl=>match us,hl with | [_,_,_],_=>rfl
 have m25:=PySem.W.mg_of X G a25
 have F26:=jbm (st:=jbe) l26 c26 k26
 have b26:=F26.binds (ps:=["_law_programs","_law_stand_here"]) fun _ _ _ _ _ _ us hl=>match us,hl with | [_,_],_=>rfl
 have m26:=PySem.W.mg_of X G a26
 have F27:=jbm (st:=jf2) l27 c27 k27
 have z_dict:=PySem.W.mg_none_of X G zz_dict
 have z_enumerate:=PySem.W.mg_none_of X G zz_enumerate
 have z_int:=PySem.W.mg_none_of X G zz_int
 have z_isinstance:=PySem.W.mg_none_of X G zz_isinstance
 have z_len:=PySem.W.mg_none_of X G zz_len
 have z_list:=PySem.W.mg_none_of X G zz_list
 have z_range:=PySem.W.mg_none_of X G zz_range
 have z_repr:=PySem.W.mg_none_of X G zz_repr
 have z_set:=PySem.W.mg_none_of X G zz_set
 have z_sorted:=PySem.W.mg_none_of X G zz_sorted
 have z_str:=PySem.W.mg_none_of X G zz_str
 have z_tuple:=PySem.W.mg_none_of X G zz_tuple
 have z_zip:=PySem.W.mg_none_of X G zz_zip
 have g_GETTING:=PySem.W.mg_of X G gg_GETTING
 have t_GETTING:∀H,SqT K H q_GETTING ((["take","read","look"]:List Str).map V.str):=fun H=>.inr ⟨_,_,_,gl_GETTING,rfl,rfl,show 3≤sizeLine by decide,(.cons ⟨_,rfl⟩ (.cons ⟨_,rfl⟩ (.cons ⟨_,rfl⟩ .nil)))⟩
 refine⟨PySem.W.fnOf "law" "law" (jax jf2) (jat jf2) (jae jf2) .none kV27 dc27 pm27 an27 cd27 ct27,fun s v=>.of_eq rfl,fun base _ _=>?_⟩
 have h_field_fits:=jio (P:=l.prog) (w:=w) (base:=base) F0 m0 b0 z_int z_isinstance z_str
 have h_fits:=juh (P:=l.prog) (w:=w) (base:=base) F1 m1 b1 h_field_fits z_dict z_len z_sorted z_tuple z_zip
 have h_next_act:=jl7 (P:=l.prog) (w:=w) (base:=base) F2 m2 b2 z_len
 have h_gets:=jug (P:=l.prog) (w:=w) (base:=base) F3 m3 b3 h_fits h_next_act z_enumerate g_GETTING t_GETTING
 have h_is_ready:=jl8 (P:=l.prog) (w:=w) (base:=base) F4 m4 b4 h_gets h_next_act
 have h_ready:=jrv (P:=l.prog) (w:=w) (base:=base) F5 m5 b5 h_is_ready z_len z_range
 have GT:=jxe (P:=l.prog) (w:=w) (mg:=mg) (base:=base) F6
 have jaf:Has l.prog w K mg base 1 "_law_draw" ["_law_tape_here","_law_many"] jay:=Has.mk' F7 m7 b7 (jun (jxf (P:=l.prog) (w:=w) (base:=base) F7 z_len))
 have jas:=jip (P:=l.prog) (w:=w) (base:=base) F8 m8 b8 jaf
 have jbs:=jkh (P:=l.prog) (w:=w) (base:=base) F9 m9 b9 jaf
 have jb1:=jmc (P:=l.prog) (w:=w) (base:=base) F10 m10 b10 jaf z_len
 have jdv:=jg0 (P:=l.prog) (w:=w) (base:=base) F11 m11 b11 jaf jbs jas z_len z_range z_tuple
 have jdh:=jf7 (P:=l.prog) (w:=w) (base:=base) F12 m12 b12 jaf jbs jas z_len z_range z_tuple
 have jd3:=jkg (P:=l.prog) (w:=w) (base:=base) F13 m13 b13 jaf jas z_len
 have jgb:=jmd (P:=l.prog) (w:=w) (base:=base) F14 m14 b14 jb1 jaf jdv jdh jd3 z_len
 have jdu:=jgz (P:=l.prog) (w:=w) (base:=base) F15 m15 b15 jgb jaf z_len z_list z_range z_tuple
 have jci:=jir (P:=l.prog) (w:=w) (base:=base) F16 m16 b16 jb1 jaf jbs jas z_range z_tuple
 have jfc:=jki (P:=l.prog) (w:=w) (base:=base) F17 m17 b17 jaf jci jdu z_len z_range z_tuple
 have jej:=jit (P:=l.prog) (w:=w) (base:=base) F18 m18 b18 z_list z_set z_sorted
 have jeh:=jiq (P:=l.prog) (w:=w) (base:=base) F19 m19 b19 jaf jej jci jas z_len z_tuple
 have jf9:=jma (P:=l.prog) (w:=w) (base:=base) F20 m20 b20 z_dict z_isinstance z_len z_str z_zip
 have ja3:=jf8 (P:=l.prog) (w:=w) (base:=base) F21 m21 b21 z_len
 have jdc:=jl9 (P:=l.prog) (w:=w) (base:=base) F22 m22 b22 jf9 ja3 z_len z_range
 have jga:=jmb (P:=l.prog) (w:=w) (base:=base) F23 m23 b23 jdc ja3
 have jfd:=jkj (P:=l.prog) (w:=w) (base:=base) F24 m24 b24 jas z_dict z_tuple
 have jei:=jis (P:=l.prog) (w:=w) (base:=base) F25 m25 b25 jb1 jaf jfd ja3 z_len z_list z_range z_tuple
 have jcr:=jfa (P:=l.prog) (w:=w) (base:=base) F26 m26 b26 jdc h_gets z_len z_range z_repr
 exact jzm F27 GT b6 m6 k6 jga jcr jei jfc jeh h_ready z_isinstance z_len z_list z_range z_repr
theorem walk {l:PySem.W.OpenLaw} {q:Program} {loose:List Str} {XP:(Str→Option Value)→Heap→Prop} {YP:World→Heap→Prop} {d:DefRec} {K:Params→PySem.W.Frag} (hn:l.most=some 63) (hdf:d.params.defaults=[])
  (hY:∀(w:World) (h:Heap),YP w h→(K w.params).In h)
  (F:∀(w:World) (mg:Str→Option Value) (fa:Addr) (h:Heap),(K w.params).In h→h.Ns mainGlobals mg→mg d.name=some (.ref fa) →
   ∃fd:FuncData,(∀(s:Shared) (u:Value),BindsTo s fd ⟨[u],[]⟩ [("_law_script",u)])∧∀base:Heap,(K w.params).In base→base.Ns mainGlobals mg→FnOk l.prog w (K w.params) mg base CX0 7 fa fd ["_law_script"] (DL.spLaw (K w.params))) :
  PySem.W.WalkO q loose XP YP l.row.toRowW d [] (fun f vs=>PySem.call f vs) :=
 L2.walk_of (n:=63) (k:=7) (x:="_law_script") (CX:=fun _=>CX0) (sp:=fun w=>DL.spLaw (K w.params)) hn (by decide) hdf ⟨rfl,by decide,by decide,rfl⟩ hY F (fun _ _ a ns hl _ hS=>⟨a,ns,rfl,hS,hl,fun _=>rfl⟩) fun _ _ _ _ _ z=>z
noncomputable abbrev oT (t:String) (d:Data):Obj:=⟨.type t,none,d,#[]⟩
noncomputable abbrev oF (i:Nat) (x:Str) (m:Value) (c:Nat):Obj:=oT "function" (.func (PySem.W.fnOf x x (jax (top i)) (jat (top i)) (jae (top i)) .none .none .none m none (.ref c) .none))
noncomputable def KK (P:Params):PySem.W.Frag:=let e (x:Str) (t:Nat) (v:Value):DictEntry:=⟨PyData.keyHash P x,.str x t,v⟩
 [(3,oT "dict" (.dict #[e "__name__" 165 (.str "law_noteboard_k21_who_is_ready_and_gets" 261),
 e "__doc__" 166 .none,
 e "__package__" 167 .none,
 e "__loader__" 168 (.builtin "__main__.__loader__#opaque"),
 e "__spec__" 169 .none,
 e "__annotations__" 170 (.ref 6),
 e "__builtins__" 171 (.ref 4),
 e "__file__" 173 (.str "/claim/cut.py" 172),
 e "__cached__" 174 .none,
 e "field_fits" 199 (.ref 21),
 e "fits" 212 (.ref 28),
 e "GETTING" 216 (.ref 29),
 e "next_act" 230 (.ref 36),
 e "gets" 244 (.ref 43),
 e "is_ready" 254 (.ref 50),
 e "ready" 260 (.ref 55),
 e "_law_tape" 269 (.ref 62),
 e "_law_draw" 281 (.ref 69),
 e "_law_value" 288 (.ref 76),
 e "_law_size" 295 (.ref 83),
 e "_law_age" 302 (.ref 90),
 e "_law_pattern" 316 (.ref 97),
 e "_law_template" 327 (.ref 104),
 e "_law_term" 335 (.ref 111),
 e "_law_act" 348 (.ref 118),
 e "_law_program" 354 (.ref 123),
 e "_law_notes" 360 (.ref 128),
 e "_law_plan" 366 (.ref 133),
 e "_law_known" 372 (.ref 138),
 e "_law_stand" 378 (.ref 143),
 e "_law_fit" 393 (.ref 150),
 e "_law_next_act" 406 (.ref 157),
 e "_law_got" 418 (.ref 164),
 e "_law_can" 428 (.ref 171),
 e "_law_lure" 441 (.ref 178),
 e "_law_lured" 454 (.ref 185),
 e "_law_gets_right" 465 (.ref 192),
 e "law" 471 (.ref 197)] 38)),
 (20,oT "code" (.fields #[(.str "field_fits" 189),(.str "field_fits" 190),(.str "/claim/cut.py" 191),(.int 2 0),(.int 4 0),(.int 0 0),(.int 0 0),(.int 3 0),(.ref 15),(.bool true),(.int 181 0),(.ref 16),.none,(.ref 17),(.ref 18),(.ref 19),(.int 197 0),(.int 2 0),(.str "/claim/cut.py" 198)])),
 (21,oF 1 "field_fits" (.str "noteboard.patterns" 187) 20),
 (27,oT "code" (.fields #[(.str "fits" 200),(.str "fits" 201),(.str "/claim/cut.py" 202),(.int 15 0),(.int 3 0),(.int 0 0),(.int 0 0),(.int 3 0),(.ref 22),(.bool true),(.int 181 0),(.ref 23),.none,(.ref 24),(.ref 25),(.ref 26),(.int 210 0),(.int 15 0),(.str "/claim/cut.py" 211)])),
 (28,oF 2 "fits" (.str "noteboard.patterns" 187) 27),
 (29,oT "tuple" (.seq #[(.str "take" 213),(.str "read" 214),(.str "look" 215)] 0)),
 (35,oT "code" (.fields #[(.str "next_act" 219),(.str "next_act" 220),(.str "/claim/cut.py" 221),(.int 29 0),(.int 3 0),(.int 0 0),(.int 0 0),(.int 3 0),(.ref 30),(.bool true),(.int 181 0),(.ref 31),.none,(.ref 32),(.ref 33),(.ref 34),(.int 228 0),(.int 29 0),(.str "/claim/cut.py" 229)])),
 (36,oF 5 "next_act" (.str "noteboard.moving" 217) 35),
 (42,oT "code" (.fields #[(.str "gets" 231),(.str "gets" 232),(.str "/claim/cut.py" 233),(.int 34 0),(.int 3 0),(.int 0 0),(.int 0 0),(.int 3 0),(.ref 37),(.bool true),(.int 181 0),(.ref 38),.none,(.ref 39),(.ref 40),(.ref 41),(.int 242 0),(.int 34 0),(.str "/claim/cut.py" 243)])),
 (43,oF 6 "gets" (.str "noteboard.moving" 217) 42),
 (49,oT "code" (.fields #[(.str "is_ready" 245),(.str "is_ready" 246),(.str "/claim/cut.py" 247),(.int 46 0),(.int 3 0),(.int 0 0),(.int 0 0),(.int 3 0),(.ref 44),(.bool true),(.int 181 0),(.ref 45),.none,(.ref 46),(.ref 47),(.ref 48),(.int 252 0),(.int 46 0),(.str "/claim/cut.py" 253)])),
 (50,oF 7 "is_ready" (.str "noteboard.moving" 217) 49),
 (54,oT "code" (.fields #[(.str "ready" 255),(.str "ready" 256),(.str "/claim/cut.py" 257),(.int 51 0),(.int 2 0),(.int 0 0),(.int 0 0),(.int 3 0),(.ref 51),(.bool true),(.int 181 0),(.ref 52),.none,.none,.none,(.ref 53),(.int 258 0),(.int 51 0),(.str "/claim/cut.py" 259)])),
 (55,oF 8 "ready" (.str "noteboard.moving" 217) 54),
 (61,oT "code" (.fields #[(.str "_law_tape" 263),(.str "_law_tape" 264),(.str "/claim/cut.py" 265),(.int 54 0),(.int 1 0),(.int 0 0),(.int 0 0),(.int 3 0),(.ref 56),(.bool true),(.int 181 0),(.ref 57),.none,(.ref 58),(.ref 59),(.ref 60),(.int 267 0),(.int 54 0),(.str "/claim/cut.py" 268)])),
 (62,oF 10 "_law_tape" (.str "law_noteboard_k21_who_is_ready_and_gets" 261) 61),
 (68,oT "code" (.fields #[(.str "_law_draw" 270),(.str "_law_draw" 271),(.str "/claim/cut.py" 272),(.int 56 0),(.int 2 0),(.int 0 0),(.int 0 0),(.int 3 0),(.ref 63),(.bool true),(.int 181 0),(.ref 64),.none,(.ref 65),(.ref 66),(.ref 67),(.int 279 0),(.int 56 0),(.str "/claim/cut.py" 280)])),
 (69,oF 11 "_law_draw" (.str "law_noteboard_k21_who_is_ready_and_gets" 261) 68),
 (75,oT "code" (.fields #[(.str "_law_value" 282),(.str "_law_value" 283),(.str "/claim/cut.py" 284),(.int 71 0),(.int 1 0),(.int 0 0),(.int 0 0),(.int 3 0),(.ref 70),(.bool true),(.int 181 0),(.ref 71),.none,(.ref 72),(.ref 73),(.ref 74),(.int 286 0),(.int 71 0),(.str "/claim/cut.py" 287)])),
 (76,oF 12 "_law_value" (.str "law_noteboard_k21_who_is_ready_and_gets" 261) 75),
 (82,oT "code" (.fields #[(.str "_law_size" 289),(.str "_law_size" 290),(.str "/claim/cut.py" 291),(.int 73 0),(.int 1 0),(.int 0 0),(.int 0 0),(.int 3 0),(.ref 77),(.bool true),(.int 181 0),(.ref 78),.none,(.ref 79),(.ref 80),(.ref 81),(.int 293 0),(.int 73 0),(.str "/claim/cut.py" 294)])),
 (83,oF 13 "_law_size" (.str "law_noteboard_k21_who_is_ready_and_gets" 261) 82),
 (89,oT "code" (.fields #[(.str "_law_age" 296),(.str "_law_age" 297),(.str "/claim/cut.py" 298),(.int 75 0),(.int 1 0),(.int 0 0),(.int 0 0),(.int 3 0),(.ref 84),(.bool true),(.int 181 0),(.ref 85),.none,(.ref 86),(.ref 87),(.ref 88),(.int 300 0),(.int 75 0),(.str "/claim/cut.py" 301)])),
 (90,oF 14 "_law_age" (.str "law_noteboard_k21_who_is_ready_and_gets" 261) 89),
 (96,oT "code" (.fields #[(.str "_law_pattern" 303),(.str "_law_pattern" 304),(.str "/claim/cut.py" 305),(.int 77 0),(.int 2 0),(.int 0 0),(.int 0 0),(.int 3 0),(.ref 91),(.bool true),(.int 181 0),(.ref 92),.none,(.ref 93),(.ref 94),(.ref 95),(.int 314 0),(.int 77 0),(.str "/claim/cut.py" 315)])),
 (97,oF 15 "_law_pattern" (.str "law_noteboard_k21_who_is_ready_and_gets" 261) 96),
 (103,oT "code" (.fields #[(.str "_law_template" 317),(.str "_law_template" 318),(.str "/claim/cut.py" 319),(.int 94 0),(.int 2 0),(.int 0 0),(.int 0 0),(.int 3 0),(.ref 98),(.bool true),(.int 181 0),(.ref 99),.none,(.ref 100),(.ref 101),(.ref 102),(.int 325 0),(.int 94 0),(.str "/claim/cut.py" 326)])),
 (104,oF 16 "_law_template" (.str "law_noteboard_k21_who_is_ready_and_gets" 261) 103),
 (110,oT "code" (.fields #[(.str "_law_term" 328),(.str "_law_term" 329),(.str "/claim/cut.py" 330),(.int 103 0),(.int 2 0),(.int 0 0),(.int 0 0),(.int 3 0),(.ref 105),(.bool true),(.int 181 0),(.ref 106),.none,(.ref 107),(.ref 108),(.ref 109),(.int 333 0),(.int 103 0),(.str "/claim/cut.py" 334)])),
 (111,oF 17 "_law_term" (.str "law_noteboard_k21_who_is_ready_and_gets" 261) 110),
 (117,oT "code" (.fields #[(.str "_law_act" 336),(.str "_law_act" 337),(.str "/claim/cut.py" 338),(.int 107 0),(.int 3 0),(.int 0 0),(.int 0 0),(.int 3 0),(.ref 112),(.bool true),(.int 181 0),(.ref 113),.none,(.ref 114),(.ref 115),(.ref 116),(.int 346 0),(.int 107 0),(.str "/claim/cut.py" 347)])),
 (118,oF 18 "_law_act" (.str "law_noteboard_k21_who_is_ready_and_gets" 261) 117),
 (122,oT "code" (.fields #[(.str "_law_program" 349),(.str "_law_program" 350),(.str "/claim/cut.py" 351),(.int 120 0),(.int 1 0),(.int 0 0),(.int 0 0),(.int 3 0),(.ref 119),(.bool true),(.int 181 0),(.ref 120),.none,.none,.none,(.ref 121),(.int 352 0),(.int 120 0),(.str "/claim/cut.py" 353)])),
 (123,oF 19 "_law_program" (.str "law_noteboard_k21_who_is_ready_and_gets" 261) 122),
 (127,oT "code" (.fields #[(.str "_law_notes" 355),(.str "_law_notes" 356),(.str "/claim/cut.py" 357),(.int 137 0),(.int 2 0),(.int 0 0),(.int 0 0),(.int 3 0),(.ref 124),(.bool true),(.int 181 0),(.ref 125),.none,.none,.none,(.ref 126),(.int 358 0),(.int 137 0),(.str "/claim/cut.py" 359)])),
 (128,oF 20 "_law_notes" (.str "law_noteboard_k21_who_is_ready_and_gets" 261) 127),
 (132,oT "code" (.fields #[(.str "_law_plan" 361),(.str "_law_plan" 362),(.str "/claim/cut.py" 363),(.int 143 0),(.int 1 0),(.int 0 0),(.int 0 0),(.int 3 0),(.ref 129),(.bool true),(.int 181 0),(.ref 130),.none,.none,.none,(.ref 131),(.int 364 0),(.int 143 0),(.str "/claim/cut.py" 365)])),
 (133,oF 21 "_law_plan" (.str "law_noteboard_k21_who_is_ready_and_gets" 261) 132),
 (137,oT "code" (.fields #[(.str "_law_known" 367),(.str "_law_known" 368),(.str "/claim/cut.py" 369),(.int 148 0),(.int 3 0),(.int 0 0),(.int 0 0),(.int 3 0),(.ref 134),(.bool true),(.int 181 0),(.ref 135),.none,.none,.none,(.ref 136),(.int 370 0),(.int 148 0),(.str "/claim/cut.py" 371)])),
 (138,oF 22 "_law_known" (.str "law_noteboard_k21_who_is_ready_and_gets" 261) 137),
 (142,oT "code" (.fields #[(.str "_law_stand" 373),(.str "_law_stand" 374),(.str "/claim/cut.py" 375),(.int 154 0),(.int 2 0),(.int 0 0),(.int 0 0),(.int 3 0),(.ref 139),(.bool true),(.int 181 0),(.ref 140),.none,.none,.none,(.ref 141),(.int 376 0),(.int 154 0),(.str "/claim/cut.py" 377)])),
 (143,oF 23 "_law_stand" (.str "law_noteboard_k21_who_is_ready_and_gets" 261) 142),
 (149,oT "code" (.fields #[(.str "_law_fit" 379),(.str "_law_fit" 380),(.str "/claim/cut.py" 381),(.int 162 0),(.int 3 0),(.int 0 0),(.int 0 0),(.int 3 0),(.ref 144),(.bool true),(.int 181 0),(.ref 145),.none,(.ref 146),(.ref 147),(.ref 148),(.int 391 0),(.int 162 0),(.str "/claim/cut.py" 392)])),
 (150,oF 24 "_law_fit" (.str "law_noteboard_k21_who_is_ready_and_gets" 261) 149),
 (156,oT "code" (.fields #[(.str "_law_next_act" 394),(.str "_law_next_act" 395),(.str "/claim/cut.py" 396),(.int 182 0),(.int 3 0),(.int 0 0),(.int 0 0),(.int 3 0),(.ref 151),(.bool true),(.int 181 0),(.ref 152),.none,(.ref 153),(.ref 154),(.ref 155),(.int 404 0),(.int 182 0),(.str "/claim/cut.py" 405)])),
 (157,oF 25 "_law_next_act" (.str "law_noteboard_k21_who_is_ready_and_gets" 261) 156),
 (163,oT "code" (.fields #[(.str "_law_got" 407),(.str "_law_got" 408),(.str "/claim/cut.py" 409),(.int 186 0),(.int 3 0),(.int 0 0),(.int 0 0),(.int 3 0),(.ref 158),(.bool true),(.int 181 0),(.ref 159),.none,(.ref 160),(.ref 161),(.ref 162),(.int 416 0),(.int 186 0),(.str "/claim/cut.py" 417)])),
 (164,oF 26 "_law_got" (.str "law_noteboard_k21_who_is_ready_and_gets" 261) 163),
 (170,oT "code" (.fields #[(.str "_law_can" 419),(.str "_law_can" 420),(.str "/claim/cut.py" 421),(.int 195 0),(.int 3 0),(.int 0 0),(.int 0 0),(.int 3 0),(.ref 165),(.bool true),(.int 181 0),(.ref 166),.none,(.ref 167),(.ref 168),(.ref 169),(.int 426 0),(.int 195 0),(.str "/claim/cut.py" 427)])),
 (171,oF 27 "_law_can" (.str "law_noteboard_k21_who_is_ready_and_gets" 261) 170),
 (177,oT "code" (.fields #[(.str "_law_lure" 429),(.str "_law_lure" 430),(.str "/claim/cut.py" 431),(.int 200 0),(.int 3 0),(.int 0 0),(.int 0 0),(.int 3 0),(.ref 172),(.bool true),(.int 181 0),(.ref 173),.none,(.ref 174),(.ref 175),(.ref 176),(.int 439 0),(.int 200 0),(.str "/claim/cut.py" 440)])),
 (178,oF 28 "_law_lure" (.str "law_noteboard_k21_who_is_ready_and_gets" 261) 177),
 (184,oT "code" (.fields #[(.str "_law_lured" 442),(.str "_law_lured" 443),(.str "/claim/cut.py" 444),(.int 214 0),(.int 3 0),(.int 0 0),(.int 0 0),(.int 3 0),(.ref 179),(.bool true),(.int 181 0),(.ref 180),.none,(.ref 181),(.ref 182),(.ref 183),(.int 452 0),(.int 214 0),(.str "/claim/cut.py" 453)])),
 (185,oF 29 "_law_lured" (.str "law_noteboard_k21_who_is_ready_and_gets" 261) 184),
 (191,oT "code" (.fields #[(.str "_law_gets_right" 455),(.str "_law_gets_right" 456),(.str "/claim/cut.py" 457),(.int 222 0),(.int 2 0),(.int 0 0),(.int 0 0),(.int 3 0),(.ref 186),(.bool true),(.int 181 0),(.ref 187),.none,(.ref 188),(.ref 189),(.ref 190),(.int 463 0),(.int 222 0),(.str "/claim/cut.py" 464)])),
 (192,oF 30 "_law_gets_right" (.str "law_noteboard_k21_who_is_ready_and_gets" 261) 191),
 (196,oT "code" (.fields #[(.str "law" 466),(.str "law" 467),(.str "/claim/cut.py" 468),(.int 229 0),(.int 1 0),(.int 0 0),(.int 0 0),(.int 3 0),(.ref 193),(.bool true),(.int 181 0),(.ref 194),.none,.none,.none,(.ref 195),(.int 469 0),(.int 229 0),(.str "/claim/cut.py" 470)])),
 (197,oF 31 "law" (.str "law_noteboard_k21_who_is_ready_and_gets" 261) 196)]
noncomputable def aS:List Addr:=[3,20,21,27,28,29,35,36,42,43,49,50,54,55,61,62,68,69,75,76,82,83,89,90,96,97,103,104,110,111,117,118,122,123,127,128,132,133,137,138,142,143,149,150,156,157,163,164,170,171,177,178,184,185,191,192,196,197]
noncomputable abbrev pp:Program:=PySem.Challenge.pw_noteboard_k21_who_is_ready_and_gets
noncomputable abbrev qq:Program:=PySem.W.view pp [31]
noncomputable def lO:List Str:=["field_fits","fits","GETTING","next_act","gets","is_ready","ready","_law_tape","_law_draw","_law_value","_law_size","_law_age","_law_pattern","_law_template","_law_term","_law_act","_law_program","_law_notes","_law_plan","_law_known","_law_stand","_law_fit","_law_next_act","_law_got","_law_can","_law_lure","_law_lured","_law_gets_right"]
noncomputable abbrev xT:Shared→Bool:=fun s=>PySem.W.xlAt qq [] s&&PySem.W.recOk (PySem.W.RowW.records PySem.Challenge.rw_noteboard_k21_who_is_ready_and_gets.row.toRowW) s
theorem aK:∀P,aS=(KK P).map (·.1):=fun P=>by kernel_rfl
noncomputable abbrev hK:PySem.W.Hook:=PySem.W.kHook KK aS aK
theorem left_:PySem.W.LeftO pp qq lO xT hK.obs hK.val 2000:=fun w=>by kernel_rfl
noncomputable def j0k (s:Stmt):Pos:=match s with
 |.FunctionDef _ _ _ _ _ _ _ _ _ p=>p
 |_=>⟨0,0,0,0⟩
noncomputable def dL:DefRec:=⟨"law",jax jf2,jat jf2,jae jf2,j0k jf2⟩
theorem said_:PySem.Challenge.rw_noteboard_k21_who_is_ready_and_gets.wellSaid=true:=by kernel_rfl
theorem all_K (w:World) (mg:Str→Option Value) (fa:Addr) (h:Heap) (KX:(KK w.params).In h) (G:h.Ns mainGlobals mg) (hmg:mg "law"=some (.ref fa)) :
  ∃fd:FuncData,(∀(s:Shared) (u:Value),BindsTo s fd ⟨[u],[]⟩ [("_law_script",u)])∧∀base:Heap,(KK w.params).In base→base.Ns mainGlobals mg→FnOk (PySem.W.OpenLaw.prog PySem.Challenge.rw_noteboard_k21_who_is_ready_and_gets) w (KK w.params) mg base CX0 7 fa fd ["_law_script"] (DL.spLaw (KK w.params)) :=
 j02 (l:=PySem.Challenge.rw_noteboard_k21_who_is_ready_and_gets) KX G hmg (f0:=21) (f1:=28) (f2:=36) (f3:=43) (f4:=50) (f5:=55) (f6:=62) (f7:=69) (f8:=76) (f9:=83) (f10:=90) (f11:=97) (f12:=104) (f13:=111) (f14:=118) (f15:=123) (f16:=128) (f17:=133) (f18:=138) (f19:=143) (f20:=150) (f21:=157) (f22:=164) (f23:=171) (f24:=178) (f25:=185) (f26:=192) (f27:=197) (q_GETTING:=29) (by kernel_rfl) rfl (by kernel_rfl) (by kernel_rfl) (by kernel_rfl) rfl (by kernel_rfl) (by kernel_rfl) (by kernel_rfl) rfl (by kernel_rfl) (by kernel_rfl) (by kernel_rfl) rfl (by kernel_rfl) (by kernel_rfl) (by kernel_rfl) rfl (by kernel_rfl) (by kernel_rfl) (by kernel_rfl) rfl (by kernel_rfl) (by kernel_rfl) (by kernel_rfl) rfl (by kernel_rfl) (by kernel_rfl) (by kernel_rfl) rfl (by kernel_rfl) (by kernel_rfl) (by kernel_rfl) rfl (by kernel_rfl) (by kernel_rfl) (by kernel_rfl) rfl (by kernel_rfl) (by kernel_rfl) (by kernel_rfl) rfl (by kernel_rfl) (by kernel_rfl) (by kernel_rfl) rfl (by kernel_rfl) (by kernel_rfl) (by kernel_rfl) rfl (by kernel_rfl) (by kernel_rfl) (by kernel_rfl) rfl (by kernel_rfl) (by kernel_rfl) (by kernel_rfl) rfl (by kernel_rfl) (by kernel_rfl) (by kernel_rfl) rfl (by kernel_rfl) (by kernel_rfl) (by kernel_rfl) rfl (by kernel_rfl) (by kernel_rfl) (by kernel_rfl) rfl (by kernel_rfl) (by kernel_rfl) (by kernel_rfl) rfl (by kernel_rfl) (by kernel_rfl) (by kernel_rfl) rfl (by kernel_rfl) (by kernel_rfl) (by kernel_rfl) rfl (by kernel_rfl) (by kernel_rfl) (by kernel_rfl) rfl (by kernel_rfl) (by kernel_rfl) (by kernel_rfl) rfl (by kernel_rfl) (by kernel_rfl) (by kernel_rfl) rfl (by kernel_rfl) (by kernel_rfl) (by kernel_rfl) rfl (by kernel_rfl) (by kernel_rfl) (by kernel_rfl) rfl (by kernel_rfl) (by kernel_rfl) (by kernel_rfl) rfl (by kernel_rfl) (by kernel_rfl) (by kernel_rfl) rfl (by kernel_rfl) (by kernel_rfl) (by kernel_rfl) (by kernel_rfl) (by kernel_rfl) (by kernel_rfl) (by kernel_rfl) (by kernel_rfl) (by kernel_rfl) (by kernel_rfl) (by kernel_rfl) (by kernel_rfl) (by kernel_rfl) (by kernel_rfl) (by kernel_rfl) (by kernel_rfl) rfl
end Nb
open PySem PySem.W PyProof.Rows
set_option maxRecDepth 100000 in
set_option maxHeartbeats 0 in
theorem PySem.Challenge.cw_noteboard_k21_who_is_ready_and_gets_holds : PySem.Challenge.rw_noteboard_k21_who_is_ready_and_gets.Holds := by
 refine holds_law Nb.said_ fun said=>?_
 refine holds_open (q:=Nb.qq) (loose:=Nb.lO) (Xt:=Nb.xT) (XP:=XL Nb.qq []) (Yf:=Hook.obs Nb.hK) (Ya:=Hook.val Nb.hK) (YP:=Hook.says Nb.hK) (d:=Nb.dL) (kwd:=[]) (N:=2000) Nb.left_ (Hook.of Nb.hK) (Hook.keeps Nb.hK) (fun s e=>xl_of s (Bool.and_eq_true_iff.mp e).1) XL.keeps (by kernel_rfl) (by kernel_rfl) (by kernel_rfl) (fun s e=>recFacts_of (Bool.and_eq_true_iff.mp e).2) (by kernel_rfl) said (by decide +kernel) ⟨rfl,rfl,rfl,rfl,rfl,by decide +kernel⟩ ?hw ?hc
 (case hw=>w_witness2)
 exact Nb.walk (l:=PySem.Challenge.rw_noteboard_k21_who_is_ready_and_gets) (by kernel_rfl) (by kernel_rfl) (fun w h Y=>kIn_of Y) Nb.all_K
