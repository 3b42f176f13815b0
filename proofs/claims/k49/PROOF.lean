import PyProof.Rows.All
import Wide.All
import OpenK.AllK
import Wide.FinOn
import Lean
import PyProof.EqAt
import PyProof.EqKinds
import PyProof.TupleCall
import PyProof.AttrMissHeap
import PyProof.Rows.RegFStrParts
import PySem.Challenge.RW_noteboard_k49_entries_see
set_option Elab.async false
set_option linter.all false
set_option maxRecDepth 100000
namespace L2
open PySem PySem.Spec PyProof.Rows
noncomputable abbrev Key:=Sum Int Str
noncomputable def jmf:Key→Value→Bool
 |.inl k,v=>Value.isInt k v
 |.inr x,v=>Value.isStrOf x v
noncomputable def keyH (w:World):Key→Int
 |.inl k=>hashInt k
 |.inr x=>hashStr w x
theorem jbg:∀{k:Key} {v:Value},jmf k v=true→(∃i t,k=Sum.inl i∧v=Value.int i t)∨(∃x t,k=Sum.inr x∧v=Value.str x t)
 |.inl i,v,h=>by
  obtain⟨t,e⟩:=Value.isInt_shape (k:=i) (v:=v) h
  exact .inl ⟨i,t,rfl,e⟩
 |.inr x,v,h=>by
  obtain⟨t,e⟩:=Value.isStrOf_shape (x:=x) (v:=v) h
  exact .inr ⟨x,t,rfl,e⟩
theorem jr9 (i:Int) (t:Tok):jmf (.inl i) (.int i t)=true:=by simp[jmf,Value.isInt]
theorem jr8 (x:Str) (t:Tok):jmf (.inr x) (.str x t)=true:=by simp[jmf,Value.isStrOf]
theorem jz8 (a b:Int):decide ((Sum.inl a:Key)=Sum.inl b)=(a==b):=by
 by_cases e:a=b
 ·subst e;simp
 ·have h:¬(Sum.inl a:Key)=Sum.inl b:=fun q=>e (Sum.inl.inj q)
  rw[decide_eq_false h]
  exact(beq_eq_false_iff_ne.mpr e).symm
theorem jz5 (a b:Str):decide ((Sum.inr a:Key)=Sum.inr b)=decide (a=b):=by
 by_cases e:a=b
 ·subst e;simp
 ·have h:¬(Sum.inr a:Key)=Sum.inr b:=fun q=>e (Sum.inr.inj q)
  rw[decide_eq_false h,decide_eq_false e]
theorem jz7 (a:Int) (b:Str):decide ((Sum.inl a:Key)=Sum.inr b)=false:=decide_eq_false (fun q=>nomatch q)
theorem jz6 (a:Str) (b:Int):decide ((Sum.inr a:Key)=Sum.inl b)=false:=decide_eq_false (fun q=>nomatch q)
noncomputable def jbf (prog:Program) (w:World):PySem.KeyKind prog w Key where
 is:=jmf
 hash:=keyH w
 inj:=fun v a b ha hb=>by
  rcases jbg ha with⟨i,t,rfl,rfl⟩ | ⟨x,t,rfl,rfl⟩
  ·rcases jbg hb with⟨j,u,rfl,e⟩ | ⟨y,u,rfl,e⟩
   ·injection e with e1 _;rw[e1]
   ·exact nomatch e
  ·rcases jbg hb with⟨j,u,rfl,e⟩ | ⟨y,u,rfl,e⟩
   ·exact nomatch e
   ·injection e with e1 _;rw[e1]
 byValue:=fun k v h=>by
  rcases jbg h with⟨i,t,rfl,rfl⟩ | ⟨x,t,rfl,rfl⟩<;>rfl
 pyHash:=fun hv h=>by
  rcases jbg hv with⟨i,t,rfl,rfl⟩ | ⟨x,t,rfl,rfl⟩
  ·exact wpAny_pyHash_int h
  ·exact wpAny_pyHash_str h
 eqBool:=fun hu hv h=>by
  rcases jbg hu with⟨i,t,rfl,rfl⟩ | ⟨x,t,rfl,rfl⟩
  ·rcases jbg hv with⟨j,u,rfl,rfl⟩ | ⟨y,u,rfl,rfl⟩
   ·rw[jz8]at h;exact wpAny_eqBool_int h
   ·rw[jz7]at h;exact SeqAt.EqAt.int_str i t y u _ _ _ _ h
  ·rcases jbg hv with⟨j,u,rfl,rfl⟩ | ⟨y,u,rfl,rfl⟩
   ·rw[jz6]at h;exact SeqAt.EqAt.str_int x t j u _ _ _ _ h
   ·rw[jz5]at h;exact wpAny_eqBool_str h
 «strs»:=fun k x t v h=>by
  rcases jbg h with⟨i,u,rfl,e⟩ | ⟨y,u,rfl,e⟩
  ·exact nomatch e
  ·injection e with e1 _
   subst e1
   cases v<;>rfl
theorem jnl (prog:Program) (w:World) (i:Int) (t:Tok):(jbf prog w).is (.inl i) (.int i t)=true:=jr9 i t
theorem jnk (prog:Program) (w:World) (x:Str) (t:Tok):(jbf prog w).is (.inr x) (.str x t)=true:=jr8 x t
inductive V where
 |non | bl (b:Bool) | int (i:Int) | str (x:Str) | byt (b:Array UInt8) | flt (b:UInt64) | ref (a:Addr) | ty (n:String)
 deriving DecidableEq
noncomputable def RelV:V→Value→Prop
 |.non,u=>u=Value.none
 |.bl b,u=>u=Value.bool b
 |.int i,u=>∃t,u=Value.int i t
 |.str x,u=>∃t,u=Value.str x t
 |.byt b,u=>∃t,u=Value.bytes b t
 |.flt b,u=>∃t,u=Value.float b t
 |.ref a,u=>u=Value.ref a
 |.ty n,u=>u=Value.type n
noncomputable abbrev Vals:List V→List Value→Prop:=Paired RelV
theorem Vals.length {xs:List V} {us:List Value} (r:Vals xs us):xs.length=us.length:=Paired.length r
theorem Vals.get:∀{xs:List V} {us:List Value} {i:Nat} {x:V},Vals xs us→xs[i]?=some x→∃u,us[i]?=some u∧RelV x u
 |_,_,_,_,.nil,e=>by simp at e
 |_,_,0,_,.cons r _,e=>by simp at e;subst e;exact⟨_,rfl,r⟩
 |_,_,i+1,x,.cons _ t,e=>by
  obtain⟨u,h1,h2⟩:=Vals.get (i:=i) (x:=x) t (by simpa using e)
  exact⟨u,by simpa using h1,h2⟩
theorem Vals.set {x:V} {u:Value} (r:RelV x u):∀{xs:List V} {us:List Value} (i:Nat),Vals xs us→Vals (xs.set i x) (us.set i u)
 |_,_,_,.nil=>.nil
 |_,_,0,.cons _ t=>.cons r t
 |_,_,i+1,.cons q t=>.cons q (Vals.set r i t)
theorem Vals.append:∀{xs ys:List V} {us ws:List Value},Vals xs us→Vals ys ws→Vals (xs++ys) (us++ws)
 |_,_,_,_,.nil,s=>s
 |_,_,_,_,.cons r t,s=>.cons r (Vals.append t s)
theorem Vals.take:∀{xs:List V} {us:List Value} (n:Nat),Vals xs us→Vals (xs.take n) (us.take n)
 |_,_,0,_=>.nil
 |_,_,_+1,.nil=>.nil
 |_,_,n+1,.cons r t=>.cons r (Vals.take n t)
theorem Vals.drop:∀{xs:List V} {us:List Value} (n:Nat),Vals xs us→Vals (xs.drop n) (us.drop n)
 |_,_,0,r=>r
 |_,_,_+1,.nil=>.nil
 |_,_,n+1,.cons _ t=>Vals.drop n t
noncomputable def RelO:Option V→Option Value→Prop
 |some v,some u=>RelV v u
 |none,none=>True
 |_,_=>False
noncomputable def KV {κ:Type}:List (κ×V)→List (κ×Value)→Prop:=Paired fun(p:κ×V) (q:κ×Value)=>p.1=q.1∧RelV p.2 q.2
noncomputable def kV:Key→V
 |.inl i=>.int i
 |.inr x=>.str x
inductive HO where
 |lst (xs:List V)
 |tup (xs:List V)
 |dK (kvs:List (Key×V)) | dT (kvs:List (List Key×V))
 |set (S:Int→Bool) (n:Nat)
 |ins (C dx:Addr) (fs:List (Str×V))
 |own (x:Addr)
 |xd (fs:List (Str×V))
 |met (f x:Addr)
 |rng (lo hi:Int)
 |frz (o:Obj) (u:HO)
 |tbl (ps:Array Value)
 |ext (φ:Heap→Prop)
noncomputable abbrev Hp:=Addr→Option HO
noncomputable def upd (H:Hp) (a:Addr) (o:HO):Hp:=fun b=>if b=a then some o else H b
theorem jar {H:Hp} {a:Addr} {o:HO}:upd H a o a=some o:=by unfold upd;rw[if_pos rfl]
theorem jal {H:Hp} {a b:Addr} {o:HO} (h:b≠a):upd H a o b=H b:=by unfold upd;rw[if_neg h]
theorem jzz {H:Hp} {a b:Addr} {o u:HO} (h:H a=some o) (h':H b=some u) (d:o≠u):a≠b:=by
 intro e;subst e;rw[h]at h';exact d (Option.some.inj h')
theorem jak {H:Hp} {a b:Addr} {o:HO} (h:H a=some o) (h':H b=none):a≠b:=by
 intro e;subst e;rw[h]at h';cases h'
noncomputable def IsTupP (h:Heap) (a:Addr) (items:Array Value):Prop:=∃o,h.get? a=some o∧o.cls=.type "tuple"∧(∃n,o.data=.seq items n)∧o.dict=none
theorem IsTupP.tup {h:Heap} {a:Addr} {items:Array Value} (x:IsTupP h a items):IsTup h a items:=let⟨o,e,c,d,_⟩:=x;⟨o,e,c,d⟩
theorem IsTupP.lt {h:Heap} {a:Addr} {items:Array Value} (x:IsTupP h a items):a < h.objs.size:=let⟨_,e,_⟩:=x;Heap.lt_size e
theorem IsTupP.new (h:Heap) (items:Array Value):IsTupP (h.push {cls:=.type "tuple",data:=.seq items}) h.objs.size items:=⟨_,Heap.get?_push_size _ rfl,rfl,⟨_,rfl⟩,rfl⟩
section
variable (P:Program) (w:World)
noncomputable def ObjOk (H:Hp) (h:Heap) (a:Addr):HO→Prop
 |.lst xs=>xs.length≤sizeLine∧∃(its:List Value) (n:Nat),Vals xs its∧h.get? a=some {cls:=.type "list",data:=.seq its.toArray n}
 |.tup xs=>xs.length≤sizeLine∧∃its:List Value,Vals xs its∧IsTupP h a its.toArray
 |.dK kvs=>kvs.length≤sizeLine∧(a==sysModules)=false∧∃vs,KV kvs vs∧h.DictOf (jbf P w) a vs
 |.dT kvs=>kvs.length≤sizeLine∧(a==sysModules)=false∧∃xs:List (List Key×Addr×Value),
   Paired (fun(p:List Key×V) (q:List Key×Addr×Value)=>p.1=q.1∧H q.2.1=some (.tup (p.1.map kV))∧RelV p.2 q.2.2) kvs xs ∧
   ∃o es ep,h.get? a=some o∧o.ExactDict∧o.data=.dict es ep∧es.toList=xs.map (entryOfKey (tupleKind (jbf P w)))∧(xs.map (·.1)).Nodup
 |.set S n=>h.SetOf (intKind P w) a S n
 |.ins C dx fs=>H dx=some (.own a)∧fs.length≤1000∧dx≠a∧h.get? a=some (PySem.W.instObj C dx) ∧
   ∃mA,h.Ns1 dx mA∧(∀f,RelO (fs.lookup f) (mA f))∧PySem.Within mA (fs.map (·.1))
 |.own _=>∃o,h.get? a=some o
 |.xd fs=>∃mA,h.Ns1 a mA∧∀f,RelO (fs.lookup f) (mA f)
 |.rng lo hi=>∃t u v,h.get? a=some {cls:=.type "range",data:=.fields #[.int lo t,.int hi u,.int 1 v]}
 |.frz o u=>h.get? a=some o∧ObjOk H h a u
 |.tbl ps=>h.get? a=some {cls:=.none,data:=.fields ps}
 |.met f x=>h.get? a=some (PySem.W.methodObj (.ref f) (.ref x))
 |.ext φ=>φ h∧(∃o,h.get? a=some o)∧∀h1 h2:Heap,φ h1→(∀o,h1.get? a=some o→h2.get? a=some o)→φ h2
noncomputable def HOk (H:Hp) (h:Heap):Prop:=∀a o,H a=some o→ObjOk P w H h a o
end
section
variable {P:Program} {w:World} {H H':Hp} {h h':Heap} {a:Addr} {o:HO}
theorem ObjOk.lt (x:ObjOk P w H h a o):a < h.objs.size:=by
 cases o with
 |lst xs=>obtain⟨_,_,_,_,e⟩:=x;exact Heap.lt_size e
 |tup xs=>obtain⟨_,_,_,p⟩:=x;exact p.lt
 |dK kvs=>obtain⟨_,_,_,_,o,_,_,e,_⟩:=x;exact Heap.lt_size e
 |dT kvs=>obtain⟨_,_,_,_,o,_,_,e,_⟩:=x;exact Heap.lt_size e
 |set S n=>obtain⟨o,_,_,_,e,_⟩:=x;exact Heap.lt_size e
 |ins C dx fs=>obtain⟨_,_,_,e,_⟩:=x;exact Heap.lt_size e
 |own y=>obtain⟨_,e⟩:=x;exact Heap.lt_size e
 |xd fs=>obtain⟨_,⟨_,_,_,e,_⟩,_⟩:=x;exact Heap.lt_size e
 |rng lo hi=>obtain⟨_,_,_,e⟩:=x;exact Heap.lt_size e
 |frz ob u=>obtain⟨e,_⟩:=x;exact Heap.lt_size e
 |tbl ps=>exact Heap.lt_size (show h.get? a=some _ from x)
 |met f y=>exact Heap.lt_size (show h.get? a=some _ from x)
 |ext φ=>obtain⟨_,⟨_,e⟩,_⟩:=x;exact Heap.lt_size e
theorem Paired.mapP {α β:Type} {F G:α→β→Prop}:∀{l₁:List α} {l₂:List β},Paired F l₁ l₂→(∀a b,F a b→G a b)→Paired G l₁ l₂
 |_,_,.nil,_=>.nil
 |_,_,.cons r t,f=>.cons (f _ _ r) (Paired.mapP t f)
theorem ObjOk.stay (x:ObjOk P w H h a o) (k:∀b u,(b=a∨H b=some (.own a))→h.get? b=some u→h'.get? b=some u)
  (ho:∀b,H b=some (.own a)→H' b=some (.own a)) (ht:∀b xs,H b=some (.tup xs)→H' b=some (.tup xs)):ObjOk P w H' h' a o:=by
 induction o with
 |lst xs=>obtain⟨z,its,n,r,e⟩:=x;exact⟨z,its,n,r,k _ _ (.inl rfl) e⟩
 |tup xs=>obtain⟨z,its,r,ob,e,c⟩:=x;exact⟨z,its,r,ob,k _ _ (.inl rfl) e,c⟩
 |dK kvs=>obtain⟨z,y,vs,r,ob,es,ep,e,c⟩:=x;exact⟨z,y,vs,r,ob,es,ep,k _ _ (.inl rfl) e,c⟩
 |dT kvs =>
  obtain⟨z,y,xs,r,ob,es,ep,e,c⟩:=x
  exact⟨z,y,xs,Paired.mapP r fun p q z=>⟨z.1,ht _ _ z.2.1,z.2.2⟩,ob,es,ep,k _ _ (.inl rfl) e,c⟩
 |set S n=>obtain⟨ob,es,ep,t,e,c⟩:=x;exact⟨ob,es,ep,t,k _ _ (.inl rfl) e,c⟩
 |ins C dx fs =>
  obtain⟨d,z,ne,e,mA,⟨od,es,ep,e2,c⟩,r⟩:=x
  exact⟨ho _ d,z,ne,k _ _ (.inl rfl) e,mA,⟨od,es,ep,k _ _ (.inr d) e2,c⟩,r⟩
 |own y=>obtain⟨ob,e⟩:=x;exact⟨ob,k _ _ (.inl rfl) e⟩
 |xd fs=>obtain⟨mA,⟨od,es,ep,e,c⟩,r⟩:=x;exact⟨mA,⟨od,es,ep,k _ _ (.inl rfl) e,c⟩,r⟩
 |rng lo hi=>obtain⟨t,u,v,e⟩:=x;exact⟨t,u,v,k _ _ (.inl rfl) e⟩
 |frz ob u ih=>obtain⟨e,q⟩:=x;exact⟨k _ _ (.inl rfl) e,ih q⟩
 |tbl ps =>
  have e:h.get? a=some {cls:=.none,data:=.fields ps}:=x
  show h'.get? a=some {cls:=.none,data:=.fields ps}
  exact k a _ (.inl rfl) e
 |met f y =>
  have e:h.get? a=some (PySem.W.methodObj (.ref f) (.ref y)):=x
  show h'.get? a=some (PySem.W.methodObj (.ref f) (.ref y))
  exact k a _ (.inl rfl) e
 |ext φ=>obtain⟨p,⟨o,e⟩,st⟩:=x;exact⟨st _ _ p fun o q=>k _ _ (.inl rfl) q,⟨o,k _ _ (.inl rfl) e⟩,st⟩
theorem HOk.lt (x:HOk P w H h) (e:H a=some o):a < h.objs.size:=(x a o e).lt
theorem HOk.fresh (x:HOk P w H h) (e:h.objs.size≤a):H a=none:=by
 cases q:H a with
 |none=>rfl
 |some u=>exact absurd (Nat.lt_of_lt_of_le (x.lt q) e) (Nat.lt_irrefl _)
theorem HOk.kept (x:HOk P w H h) (k:∀b u,h.get? b=some u→h'.get? b=some u):HOk P w H h':=fun a o e =>
 (x a o e).stay (fun b u _ q=>k b u q) (fun _ q=>q) fun _ _ q=>q
theorem HOk.laid (x:HOk P w H h) (k:∀b u,h.get? b=some u→h'.get? b=some u) (hp:h.objs.size≤a) (new:ObjOk P w (upd H a o) h' a o):HOk P w (upd H a o) h':=fun b u e=>by
 have hn:=x.fresh hp
 by_cases hb:b=a
 ·subst hb;rw[jar]at e;cases e;exact new
 ·rw[jal hb]at e
  exact(x b u e).stay (fun c v _ q=>k c v q) (fun c q=>by rw[jal (jak q hn)];exact q) fun c xs q=>by rw[jal (jak q hn)];exact q
end
noncomputable def Rd (H:Hp) (a:Addr) (u:HO):Prop:=H a=some u∨∃o,H a=some (.frz o u)
theorem Rd.ok {P:Program} {w:World} {H:Hp} {h:Heap} {a:Addr} {u:HO} (r:Rd H a u) (x:HOk P w H h):ObjOk P w H h a u:=by
 rcases r with r | ⟨o,r⟩
 ·exact x a u r
 ·obtain⟨_,q⟩:=x a _ r
  exact q
noncomputable def Mut:Option HO→Prop
 |some (.lst _)=>True
 |some (.dK _)=>True
 |some (.dT _)=>True
 |some (.set _ _)=>True
 |some (.ins _ _ _)=>True
 |some (.ext _)=>True
 |_=>False
section
variable {P:Program} {w:World} {H:Hp} {h h':Heap} {x e:Addr} {o':HO}
theorem HOk.write (ok:HOk P w H h) (mu:Mut (H x)) (he:e=x∨H e=some (.own x)) (k:∀b u,b≠e→h.get? b=some u→h'.get? b=some u) (heo:∃u,h'.get? e=some u)
  (new:ObjOk P w (upd H x o') h' x o'):HOk P w (upd H x o') h':=fun b u q=>by
 have nown:∀c y,H c=some (.own y)→c≠x:=fun c y r z=>by subst z;rw[r]at mu;exact mu
 have ntup:∀c xs,H c=some (.tup xs)→c≠x:=fun c xs r z=>by subst z;rw[r]at mu;exact mu
 by_cases hb:b=x
 ·subst hb;rw[jar]at q;cases q;exact new
 ·rw[jal hb]at q
  by_cases hbe:b=e
  ·have q':H b=some (.own x):=by
    rcases he with z | z
    ·exact absurd (hbe.trans z) hb
    ·rw[hbe];exact z
   rw[q]at q';cases q'
   obtain⟨v,hv⟩:=heo
   exact⟨v,by rw[hbe];exact hv⟩
  ·refine(ok b u q).stay (fun c v hc r=>k c v ?_ r) (fun c r=>by rw[jal (nown c b r)];exact r) fun c xs r=>by rw[jal (ntup c xs r)];exact r
   rcases hc with rfl | hc
   ·exact hbe
   ·rintro rfl
    rcases he with z | z
    ·exact nown c b hc z
    ·rw[hc]at z;cases z;exact hb rfl
end
structure Un (fs ex:List Addr) (H H':Hp) (h h':Heap):Prop where
 keep:∀b o,h.get? b=some o→H b=none→b∉fs→b∉ex→h'.get? b=some o
 slot:∀b o,h.get? b=some o→H b=none→b∈fs→b∉ex→∃sl,h'.get? b=some {o with slots:=sl}
 free:∀b o,h.get? b=some o→H b=none→b∉ex→H' b=none
 there:∀b o,h.get? b=some o→b∉ex→∃o',h'.get? b=some o'
 tups:∀b xs,H b=some (.tup xs)→H' b=some (.tup xs)
 frzs:∀b o u,H b=some (.frz o u)→H' b=some (.frz o u)
 tbls:∀b ps,H b=some (.tbl ps)→∃more,H' b=some (.tbl (ps++more))
section
variable {fs fs' ex ex':List Addr} {H H1 H2:Hp} {h h1 h2 h':Heap} {a x e:Addr} {o:HO}
theorem Un.any (u:Un fs ex H H1 h h1) {b:Addr} {ob:Obj} (q:h.get? b=some ob) (n:H b=none) (hx:b∉ex):∃sl,h1.get? b=some {ob with slots:=sl}:=by
 by_cases hb:b∈fs
 ·exact u.slot b ob q n hb hx
 ·exact⟨ob.slots,u.keep b ob q n hb hx⟩
theorem Un.kept (k:∀b u,h.get? b=some u→h'.get? b=some u):Un fs ex H H h h' :=
 ⟨fun b ob q _ _ _=>k b ob q,fun b ob q _ _ _=>⟨ob.slots,k b ob q⟩,fun _ _ _ n _=>n,fun b ob q _=>⟨ob,k b ob q⟩,fun _ _ q=>q,fun _ _ _ q=>q,fun _ ps q=>⟨#[],by rw[q];simp⟩⟩
theorem Un.refl:Un fs ex H H h h:=Un.kept fun _ _ q=>q
theorem Un.laid (k:∀b u,h.get? b=some u→h'.get? b=some u) (hp:h.objs.size≤a) (hn:H a=none):Un fs ex H (upd H a o) h h' where
 keep:=fun b u q _ _ _=>k b u q
 slot:=fun b u q _ _ _=>⟨u.slots,k b u q⟩
 free:=fun b u q n _=>by rw[jal (Nat.ne_of_lt (Nat.lt_of_lt_of_le (Heap.lt_size q) hp))];exact n
 there:=fun b u q _=>⟨u,k b u q⟩
 tups:=fun b xs q=>by rw[jal (jak q hn)];exact q
 frzs:=fun b u xs q=>by rw[jal (jak q hn)];exact q
 tbls:=fun b ps q=>⟨#[],by rw[jal (jak q hn),q];simp⟩
theorem Un.write (mu:Mut (H x)) (he:e=x∨H e=some (.own x)) (k:∀b u,b≠e→h.get? b=some u→h'.get? b=some u) (heo:∃u,h'.get? e=some u):Un fs ex H (upd H x o) h h':=by
 have hx:∀b,H b=none→b≠x:=fun b n z=>by subst z;rw[n]at mu;exact mu
 have hb:∀b,H b=none→b≠e:=fun b n z=>by
  subst z
  rcases he with r | r
  ·exact hx b n r
  ·rw[n]at r;cases r
 have hm:∀b u,H b=some u→¬Mut (some u)→b≠x:=fun b u q nm z=>by subst z;rw[q]at mu;exact nm mu
 refine⟨fun b u q n _ _=>k b u (hb b n) q,fun b u q n _ _=>⟨u.slots,k b u (hb b n) q⟩,fun b u q n _=>by rw[jal (hx b n)];exact n,fun b u q _=>?_,
  fun b xs q=>by rw[jal (hm b _ q fun z=>z)];exact q,fun b u xs q=>by rw[jal (hm b _ q fun z=>z)];exact q,fun b ps q=>⟨#[],by rw[jal (hm b _ q fun z=>z),q];simp⟩⟩
 by_cases hbe:b=e
 ·subst hbe;exact heo
 ·exact⟨u,k b u hbe q⟩
end
noncomputable def trk (h:Heap) (H:Hp):List Addr:=(List.range h.objs.size).filter fun a=>(H a).isSome
noncomputable def hidT (h:Heap) (H:Hp):Heap:=PySem.W.hideAll h (trk h H)
theorem jsm (h:Heap) (H:Hp):(hidT h H).objs.size=h.objs.size:=PySem.W.hideAll_size _ _
theorem juw {h:Heap} {H:Hp} {b:Addr} {o:Obj} (e:h.get? b=some o) (n:H b=none):(hidT h H).get? b=some o :=
 PySem.W.hideAll_get _ e fun hm=>by
  have q:(H b).isSome=true:=(List.mem_filter.mp hm).2
  rw[n]at q;simp at q
theorem jxh {h:Heap} {H:Hp} {b:Addr} {o:Obj} (e:(hidT h H).get? b=some o):h.get? b=some o∧H b=none:=by
 have e':h.get? b=some o:=PySem.W.of_hideAll (trk h H) e
 refine⟨e',?_⟩
 cases q:H b with
 |none=>rfl
 |some x =>
  have hm:b∈trk h H:=List.mem_filter.mpr ⟨List.mem_range.mpr (Heap.lt_size e'),by simp[q]⟩
  have z:(hidT h H).get? b=none:=PySem.W.hideAll_none (trk h H) hm
  rw[z]at e;cases e
noncomputable def jx7 (g h:Heap) (L:Addr):List (Addr×Obj):=(List.range h.objs.size).filterMap fun a=>if a=L∨(g.get? a).isSome=true then none else(h.get? a).map fun o=>(a,o)
noncomputable def rest (g h:Heap) (L d:Addr):List (Addr×Obj):=(jx7 g h L).filter fun p=>decide (p.1≠d)
structure Mod (K:PySem.W.Frag) (mg:Str→Option Value) (base:Heap):Prop where
 kin:K.In base
 glob:base.Ns mainGlobals mg
 blt:∃mb,base.Ns builtinsNs mb∧∀x:Str,x≠"__name__"→mb x=bootBuiltins x
 nolimit:base.NoLimit
structure Cx where
 prog:Program
 w:World
 K:PySem.W.Frag
 mg:Str→Option Value
 base:Heap
 A:Around
 N:List Str
 s₀:Shared
 H₀:Hp
 env:Env
 outer:List Env
 stack:List Env
 ex:List Addr
 fn:Str→Bool
 calm:Bool
 pn:List (Addr×Obj)
 xe:Value→Shared→Prop
noncomputable def frs (l:List Env):List Addr:=l.filterMap (·.frame)
noncomputable abbrev Cx.fs (X:Cx):List Addr:=frs X.outer
noncomputable def Vis (sc:Scope) (x:Str):Prop:=sc.names.lookup x=some .local∨sc.names.lookup x=some .cell∨sc.names.lookup x=some .free
noncomputable def Loc (sc:Scope) (x:Str):Prop:=sc.names.lookup x=some .local∨sc.names.lookup x=some .cell
noncomputable def Look (env:Env) (h:Heap) (m:Str→Option Value) (x:Str) (u:Value):Prop :=
 (env.kindOf x=some .local∧m x=some u)∨((env.kindOf x=some .cell∨env.kindOf x=some .free)∧∃c,env.cells.lookup x=some c∧h.IsCell c (some u))
structure Cx.Ok (X:Cx):Prop where
 mod:Mod X.K X.mg X.base
 kind:X.env.scope.kind=.function
 glob:X.env.globals=mainGlobals
 blt:X.env.builtins=builtinsNs
 above:X.s₀.heap.objs.size≤X.env.locals
 inj:∀x y c,X.env.cells.lookup x=some c→X.env.cells.lookup y=some c→x=y
 has:∀x,(X.env.kindOf x=some .cell∨X.env.kindOf x=some .free)→∃c,X.env.cells.lookup x=some c
 cab:∀x c,X.fn x=true→X.env.cells.lookup x=some c→X.s₀.heap.objs.size≤c
 hd:X.calm=true→X.A.handled=none
 frames:X.A.frames=some X.stack
 stk:X.stack=X.outer∨(X.stack=X.env::X.outer∧X.env.frame=some X.env.locals)
 exf:∀b∈X.ex,b≠X.env.locals∧∀x c,X.env.cells.lookup x=some c→c≠b
 bs:∀b o,X.base.get? b=some o→X.s₀.heap.get? b=some o∧X.H₀ b=none
 bsz:X.base.objs.size≤X.s₀.heap.objs.size
 noex:∀b o,X.base.get? b=some o→b∉X.ex
 exfs:∀b∈X.ex,b∉X.fs
 funs:X.s₀.heap.FunFrames X.base X.outer
 frf:∀b∈X.fs,X.H₀ b=none
structure Inv (X:Cx) (pins:List (Addr×Obj)) (σ:List (Option V)) (H:Hp) (s:Shared):Prop where
 ok:X.Ok
 os:s.os=X.s₀.os
 bare:AllBare s.gens
 base:Un X.fs X.ex X.H₀ H X.s₀.heap s.heap
 loc:∃m,s.heap.Ns X.env.locals m∧∀(i:Nat) (x:Str) (v:V),X.N[i]?=some x→σ[i]?=some (some v)→Vis X.env.scope x→∃u,RelV v u∧Look X.env s.heap m x u
 cell:∀x c,X.env.cells.lookup x=some c→∃v,s.heap.IsCell c v
 free:H X.env.locals=none
 freeC:∀x c,X.env.cells.lookup x=some c→H c=none
 pin:∀p∈X.pn++pins,s.heap.get? p.1=some p.2∧H p.1=none∧p.1≠X.env.locals∧p.1∉X.fs∧∀v,p.2.data≠.cell v
 hok:HOk X.prog X.w H s.heap
 len:σ.length=X.N.length
section
variable {X:Cx} {pins:List (Addr×Obj)} {σ:List (Option V)} {H H':Hp} {s:Shared} {h':Heap}
theorem Cx.Ok.nofr (ok:X.Ok) {b:Addr} {o:Obj} (e:X.base.get? b=some o):b∉X.fs:=fun hb=>by
 have:=(ok.funs.mem hb).1
 rw[e]at this;cases this
theorem Inv.bs (I:Inv X pins σ H s):∀b o,X.base.get? b=some o→s.heap.get? b=some o∧H b=none:=fun b o e =>
 ⟨I.base.keep b o (I.ok.bs b o e).1 (I.ok.bs b o e).2 (I.ok.nofr e) (I.ok.noex b o e),I.base.free b o (I.ok.bs b o e).1 (I.ok.bs b o e).2 (I.ok.noex b o e)⟩
theorem Inv.bk (I:Inv X pins σ H s):∀b o,X.base.get? b=some o→s.heap.get? b=some o:=fun b o e=>(I.bs b o e).1
theorem Inv.mod (I:Inv X pins σ H s):Mod X.K X.mg X.base:=I.ok.mod
theorem Inv.kIn (I:Inv X pins σ H s):X.K.In s.heap:=I.ok.mod.kin.keeps I.bk
theorem Inv.lt (I:Inv X pins σ H s):X.env.locals < s.heap.objs.size:=let⟨_,hn,_⟩:=I.loc;hn.lt
theorem Inv.sz (I:Inv X pins σ H s):X.s₀.heap.objs.size≤s.heap.objs.size:=Nat.le_trans I.ok.above (Nat.le_of_lt I.lt)
theorem Inv.nofs (I:Inv X pins σ H s) {a:Addr} (h:s.heap.objs.size≤a):a∉X.fs:=fun hb=>by
 obtain⟨_,o,ho,_⟩:=I.ok.funs.mem hb
 exact absurd (Nat.lt_of_lt_of_le (Heap.lt_size ho) (Nat.le_trans I.sz h)) (Nat.lt_irrefl _)
theorem Inv.cne (I:Inv X pins σ H s):∀x c,X.env.cells.lookup x=some c→c≠X.env.locals:=fun x c e z=>by
 obtain⟨v,o,ho,hd⟩:=I.cell x c e
 obtain⟨m,⟨o',es,ep,ho',hd',_⟩,_⟩:=I.loc
 rw[z,ho']at ho;cases ho;rw[hd']at hd;cases hd
theorem Inv.funs (I:Inv X pins σ H s):s.heap.FunFrames X.base X.outer:=by
 have all:∀(l:List Env),(∀b∈frs l,b∈X.fs)→X.s₀.heap.FunFrames X.base l→s.heap.FunFrames X.base l:=by
  intro l
  induction l with
  |nil=>intro _ _;trivial
  |cons env r ih =>
   intro hs hl
   obtain⟨hk,⟨L,o,hf,hn,ho,hd⟩,hr⟩:=hl
   have hL:L∈X.fs:=hs L (by unfold frs;rw[List.filterMap_cons,hf];exact List.mem_cons_self)
   obtain⟨sl,e⟩:=I.base.slot L o ho (I.ok.frf L hL) hL fun z=>I.ok.exfs L z hL
   exact⟨hk,⟨L,_,hf,hn,e,hd⟩,ih (fun b hb=>hs b (by unfold frs;rw[List.filterMap_cons,hf];exact List.mem_cons_of_mem _ hb)) hr⟩
 exact all X.outer (fun _ hb=>hb) I.ok.funs
theorem Inv.stack (I:Inv X pins σ H s):s.heap.FunFrames X.base X.stack:=by
 rcases I.ok.stk with e | ⟨e,hf⟩
 ·rw[e];exact I.funs
 ·rw[e]
  obtain⟨m,hn,_⟩:=I.loc
  refine .cons (by rw[I.ok.kind];decide) hf hn ?_ I.funs
  exact Heap.get?_none_of_le (Nat.le_trans I.ok.bsz I.ok.above)
theorem Inv.stkSub (I:Inv X pins σ H s):∀b∈frs X.stack,b∈X.env.locals::X.fs:=fun b hb=>by
 rcases I.ok.stk with e | ⟨e,hf⟩
 ·rw[e]at hb;exact List.mem_cons_of_mem _ hb
 ·rw[e]at hb
  unfold frs at hb
  rw[List.filterMap_cons,hf]at hb
  exact hb
theorem Inv.stkFree (I:Inv X pins σ H s):∀b∈frs X.stack,H b=none:=fun b hb=>by
 rcases List.mem_cons.mp (I.stkSub b hb)with e | hb
 ·rw[e];exact I.free
 ·obtain⟨_,o,ho,_⟩:=I.ok.funs.mem hb
  exact I.base.free b o ho (I.ok.frf b hb) fun z=>I.ok.exfs b z hb
theorem Inv.step {g':Array GenState} {t':Nat} {d':Drawn} {ch:List Addr} (I:Inv X pins σ H s)
  (hch:∀b∈ch,(b∈X.ex∨X.s₀.heap.objs.size≤b)∧b≠X.env.locals∧(∀x c,X.env.cells.lookup x=some c→c≠b)∧∀p∈X.pn++pins,p.1≠b)
  (keep:∀b o,b≠X.env.locals→b∉X.fs→b∉ch→s.heap.get? b=some o→H b=none→h'.get? b=some o)
  (slot:∀b o,b≠X.env.locals→b∈X.fs→b∉ch→s.heap.get? b=some o→H b=none→∃sl,h'.get? b=some {o with slots:=sl}) (free:∀b o,b∉ch→s.heap.get? b=some o→H b=none→H' b=none)
  (there:∀b o,b∉ch→s.heap.get? b=some o→∃o',h'.get? b=some o')
  (tups:∀b xs,H b=some (.tup xs)→H' b=some (.tup xs)) (frzs:∀b o u,H b=some (.frz o u)→H' b=some (.frz o u)) (tbls:∀b ps,H b=some (.tbl ps)→∃more,H' b=some (.tbl (ps++more)))
  (ns:∀m,s.heap.Ns X.env.locals m→h'.Ns X.env.locals m) (hok:HOk X.prog X.w H' h') (hg:AllBare g') :
  Inv X pins σ H' {s with heap:=h',gens:=g',drawn:=d',toks:=t'}:=by
 have neL:∀b o,X.s₀.heap.get? b=some o→b≠X.env.locals:=fun b o e=>Nat.ne_of_lt (Nat.lt_of_lt_of_le (Heap.lt_size e) I.ok.above)
 have neC:∀b o,X.s₀.heap.get? b=some o→b∉X.ex→b∉ch:=fun b o e hx hb=>by
  rcases(hch b hb).1 with z | z
  ·exact hx z
  ·exact absurd (Nat.lt_of_lt_of_le (Heap.lt_size e) z) (Nat.lt_irrefl _)
 have cellK:∀x c,X.env.cells.lookup x=some c→∀v,s.heap.IsCell c v→h'.IsCell c v:=fun x c e v ⟨o,ho,hd⟩=>by
  have nch:c∉ch:=fun z=>(hch c z).2.2.1 x c e rfl
  by_cases hc:c∈X.fs
  ·obtain⟨sl,q⟩:=slot c o (I.cne x c e) hc nch ho (I.freeC x c e)
   exact⟨_,q,hd⟩
  ·exact⟨o,keep c o (I.cne x c e) hc nch ho (I.freeC x c e),hd⟩
 refine⟨I.ok,I.os,hg,⟨fun b o e n hb hx=>?_,fun b o e n hb hx=>?_,fun b o e n hx=>?_,fun b o e hx=>?_,fun b xs e=>tups b xs (I.base.tups b xs e),fun b o xs e=>frzs b o xs (I.base.frzs b o xs e),fun b ps e=>?_⟩,?_,fun x c e=>?_,?_,fun x c e=>?_,fun p hp=>?_,hok,I.len⟩
 ·exact keep b o (neL b o e) hb (neC b o e hx) (I.base.keep b o e n hb hx) (I.base.free b o e n hx)
 ·obtain⟨sl,e1⟩:=I.base.slot b o e n hb hx
  obtain⟨sl',e2⟩:=slot b _ (neL b o e) hb (neC b o e hx) e1 (I.base.free b o e n hx)
  exact⟨sl',e2⟩
 ·obtain⟨o',e1⟩:=I.base.there b o e hx
  exact free b o' (neC b o e hx) e1 (I.base.free b o e n hx)
 ·obtain⟨o',e1⟩:=I.base.there b o e hx
  exact there b o' (neC b o e hx) e1
 ·obtain⟨m1,e1⟩:=I.base.tbls b ps e
  obtain⟨m2,e2⟩:=tbls b _ e1
  exact⟨m1++m2,by rw[e2,Array.append_assoc]⟩
 ·obtain⟨m,hn,hl⟩:=I.loc
  refine⟨m,ns m hn,fun i x v e1 e2 e3=>?_⟩
  obtain⟨u,r,l⟩:=hl i x v e1 e2 e3
  refine⟨u,r,?_⟩
  rcases l with l | ⟨k,c,e,z⟩
  ·exact .inl l
  ·exact .inr ⟨k,c,e,cellK x c e _ z⟩
 ·obtain⟨v,z⟩:=I.cell x c e
  exact⟨v,cellK x c e v z⟩
 ·obtain⟨m,⟨o,_,_,ho,_⟩,_⟩:=I.loc
  exact free _ o (fun z=>(hch _ z).2.1 rfl) ho I.free
 ·obtain⟨v,o,ho,hd⟩:=I.cell x c e
  exact free c o (fun z=>(hch c z).2.2.1 x c e rfl) ho (I.freeC x c e)
 ·obtain⟨e,n,ne,nf,d⟩:=I.pin p hp
  have nch:p.1∉ch:=fun z=>(hch p.1 z).2.2.2 p hp rfl
  exact⟨keep p.1 p.2 ne nf nch e n,free p.1 p.2 nch e n,ne,nf,d⟩
theorem Inv.un {t':Nat} (I:Inv X pins σ H s) (u:Un X.fs [] H H' s.heap h') (hok:HOk X.prog X.w H' h'):Inv X pins σ H' {s with heap:=h',toks:=t'}:=by
 obtain⟨m,⟨o,es,ep,ho,r⟩,_⟩:=id I.loc
 obtain⟨sl,hL⟩:=u.any ho I.free (by simp)
 exact I.step (g':=s.gens) (d':=s.drawn) (ch:=[]) (fun _ z=>nomatch z) (fun b o _ hb _ e n=>u.keep b o e n hb (by simp)) (fun b o _ hb _ e n=>u.slot b o e n hb (by simp)) (fun b o _ e n=>u.free b o e n (by simp)) (fun b o _ e=>u.there b o e (by simp)) u.tups u.frzs u.tbls (fun m' hm=>by
  obtain⟨o',es',ep',ho',r'⟩:=hm
  rw[ho]at ho';cases ho'
  exact⟨_,es',ep',hL,r'⟩) hok I.bare
theorem Inv.call {g':Array GenState} {t':Nat} {d':Drawn} {ch:List Addr} (I:Inv X pins σ H s) (u:Un (frs X.stack) ch H H' s.heap h') (hok:HOk X.prog X.w H' h') (hg:AllBare g')
  (hch:∀b∈ch,(b∈X.ex∨X.s₀.heap.objs.size≤b)∧b≠X.env.locals∧(∀x c,X.env.cells.lookup x=some c→c≠b)∧∀p∈X.pn++pins,p.1≠b) :
  Inv X pins σ H' {s with heap:=h',gens:=g',drawn:=d',toks:=t'}:=by
 obtain⟨m,⟨o,es,ep,ho,r⟩,_⟩:=id I.loc
 obtain⟨sl,hL⟩:=u.any ho I.free fun z=>(hch _ z).2.1 rfl
 exact I.step (ch:=ch) hch (fun b o hL hb hc e n=>u.keep b o e n (fun z=>(List.mem_cons.mp (I.stkSub b z)).elim hL hb) hc) (fun b o _ _ hc e n=>u.any e n hc) (fun b o hc e n=>u.free b o e n hc) (fun b o hc e=>u.there b o e hc) u.tups u.frzs u.tbls (fun m' hm=>by
  obtain⟨o',es',ep',ho',r'⟩:=hm
  rw[ho]at ho';cases ho'
  exact⟨_,es',ep',hL,r'⟩) hok hg
theorem Inv.turned {t':Nat} {it:Addr} (I:Inv X pins σ H s) (k:∀b o,b≠it→s.heap.get? b=some o→h'.get? b=some o) (hn:H it=none) (hL:it≠X.env.locals)
  (h1:it∈X.ex∨X.s₀.heap.objs.size≤it) (h2:∀x c,X.env.cells.lookup x=some c→c≠it) (h3:∀p∈X.pn++pins,p.1≠it):Inv X pins σ H {s with heap:=h',toks:=t'}:=by
 have nit:∀b u,H b=some u→b≠it:=fun b u e z=>by rw[z,hn]at e;cases e
 refine I.step (g':=s.gens) (d':=s.drawn) (ch:=[it]) (fun b hb=>?_) (fun b o _ _ hc e _=>k b o (fun z=>hc (by simp[z])) e) (fun b o _ _ hc e _=>⟨o.slots,k b o (fun z=>hc (by simp[z])) e⟩) (fun _ _ _ _ n=>n)
  (fun b o hc e=>⟨o,k b o (fun z=>hc (by simp[z])) e⟩) (fun _ _ e=>e) (fun _ _ _ e=>e) (fun b ps e=>⟨#[],by rw[e];simp⟩) (fun m hm=>?_) (fun b u e=>?_) I.bare
 ·have e:b=it:=by simpa using hb
  subst e
  exact⟨h1,hL,h2,h3⟩
 ·obtain⟨o,es,ep,ho,r⟩:=hm
  exact⟨o,es,ep,k _ o (Ne.symm hL) ho,r⟩
 ·refine(I.hok b u e).stay (fun c v hc q=>k c v ?_ q) (fun _ q=>q) fun _ _ q=>q
  rcases hc with z | z
  ·rw[z];exact nit b u e
  ·exact nit c _ z
theorem Inv.tok (I:Inv X pins σ H s) (t:Nat):Inv X pins σ H {s with toks:=t}:=I.un (h':=s.heap) (t':=t) Un.refl I.hok
theorem Inv.kept {t':Nat} (I:Inv X pins σ H s) (k:∀b u,s.heap.get? b=some u→h'.get? b=some u):Inv X pins σ H {s with heap:=h',toks:=t'}:=I.un (Un.kept k) (I.hok.kept k)
theorem Inv.laid {a:Addr} {o:HO} {t':Nat} (I:Inv X pins σ H s) (k:∀b u,s.heap.get? b=some u→h'.get? b=some u) (hp:s.heap.objs.size≤a) (new:ObjOk X.prog X.w (upd H a o) h' a o) :
  Inv X pins σ (upd H a o) {s with heap:=h',toks:=t'}:=I.un (Un.laid k hp (I.hok.fresh hp)) (I.hok.laid k hp new)
theorem Inv.write {x e:Addr} {o:HO} {t':Nat} (I:Inv X pins σ H s) (mu:Mut (H x)) (he:e=x∨H e=some (.own x)) (k:∀b u,b≠e→s.heap.get? b=some u→h'.get? b=some u) (heo:∃u,h'.get? e=some u)
  (new:ObjOk X.prog X.w (upd H x o) h' x o):Inv X pins σ (upd H x o) {s with heap:=h',toks:=t'}:=I.un (Un.write mu he k heo) (I.hok.write mu he k heo new)
theorem Inv.pins_of {pins':List (Addr×Obj)} (I:Inv X pins σ H s) (h:∀p∈pins',s.heap.get? p.1=some p.2∧H p.1=none∧p.1≠X.env.locals∧p.1∉X.fs∧∀v,p.2.data≠.cell v):Inv X pins' σ H s :=
 ⟨I.ok,I.os,I.bare,I.base,I.loc,I.cell,I.free,I.freeC,fun p hp=>(List.mem_append.mp hp).elim (fun z=>I.pin p (List.mem_append_left _ z)) (h p),I.hok,I.len⟩
theorem joe {N:List Str} (hN:N.Nodup) {i j:Nat} {x:Str} (a:N[i]?=some x) (b:N[j]?=some x):i=j:=by
 obtain⟨h1,e1⟩:=List.getElem?_eq_some_iff.mp a
 obtain⟨h2,e2⟩:=List.getElem?_eq_some_iff.mp b
 exact(List.getElem_inj hN).mp (e1.trans e2.symm)
theorem jlq {M:Model} {A:Around} {E:Value→Shared→Prop} {i:Nat} {x:Str} {v:V} {u:Value} {Q:Unit→Shared→Prop} (I:Inv X pins σ H s) (hN:X.N.Nodup) (hi:X.N[i]?=some x) (hx:Loc X.env.scope x) (r:RelV v u)
  (h:∀s',Inv X pins (σ.set i (some v)) H s'→(∃a,Heap.SameBut a s.heap s'.heap∧(a=X.env.locals∨X.env.cells.lookup x=some a))→Q () s') (hf:X.fn x=true∨X.env.scope.names.lookup x=some .local:=by first | exact .inl rfl | exact .inr rfl | assumption):wpAny M A (storeName X.env x u) Q E s:=by
 obtain⟨m,hn,hl⟩:=id I.loc
 have hcls:(X.env.scope.kind==.class || (X.env.scope.kind==.module&&X.env.locals != X.env.globals))=false:=by rw[I.ok.kind];rfl
 have hiσ:i < σ.length:=by rw[I.len];exact(List.getElem?_eq_some_iff.mp hi).1
 have cne:=I.cne
 have tracked:∀{a:Addr} {h':Heap},(∃o,s.heap.get? a=some o∧H a=none)→Heap.SameBut a s.heap h'→HOk X.prog X.w H h':=fun{a h'} ha hs b ob e=>by
  obtain⟨_,_,hfree⟩:=ha
  refine(I.hok b ob e).stay (fun c w' hc q=>(hs.2 c ?_).trans q) (fun _ q=>q) fun _ _ q=>q
  rintro rfl
  rcases hc with rfl | hc
  ·rw[hfree]at e;cases e
  ·rw[hfree]at hc;cases hc
 rcases hx with hk | hk
 ·refine wpAny_storeName_local hk hn (fun h' hn' hs=>?_) hcls
  obtain⟨oL,_,_,hoL,_⟩:=id hn
  refine h _ ⟨I.ok,I.os,I.bare,⟨fun b o e n hb hx=>?_,fun b o e n hb hx=>?_,I.base.free,fun b o e hx=>?_,I.base.tups,I.base.frzs,I.base.tbls⟩,⟨_,hn',fun j y v' e1 e2 e3=>?_⟩,fun y c e=>?_,I.free,I.freeC,fun p hp=>?_,tracked ⟨oL,hoL,I.free⟩ hs,by simpa using I.len⟩ ⟨_,hs,.inl rfl⟩
  ·exact(hs.2 b (Nat.ne_of_lt (Nat.lt_of_lt_of_le (Heap.lt_size e) I.ok.above))).trans (I.base.keep b o e n hb hx)
  ·obtain⟨sl,e1⟩:=I.base.slot b o e n hb hx
   exact⟨sl,(hs.2 b (Nat.ne_of_lt (Nat.lt_of_lt_of_le (Heap.lt_size e) I.ok.above))).trans e1⟩
  ·obtain⟨o',e1⟩:=I.base.there b o e hx
   exact⟨o',(hs.2 b (Nat.ne_of_lt (Nat.lt_of_lt_of_le (Heap.lt_size e) I.ok.above))).trans e1⟩
  ·by_cases hj:j=i
   ·subst hj
    rw[hi]at e1;cases e1
    rw[List.getElem?_set_self hiσ]at e2
    cases e2
    exact⟨u,r,.inl ⟨hk,by simp⟩⟩
   ·rw[List.getElem?_set_ne (Ne.symm hj)]at e2
    obtain⟨u',r',q⟩:=hl j y v' e1 e2 e3
    refine⟨u',r',?_⟩
    rcases q with⟨k,e⟩ | ⟨k,c,e,z⟩
    ·refine .inl ⟨k,?_⟩
     have:y≠x:=fun e=>hj (joe hN e1 (e▸hi))
     simp[this,e]
    ·exact .inr ⟨k,c,e,z.sameBut hs (cne y c e)⟩
  ·obtain⟨w',z⟩:=I.cell y c e
   exact⟨w',z.sameBut hs (cne y c e)⟩
  ·obtain⟨e,n,ne,nf,d⟩:=I.pin p hp
   exact⟨(hs.2 p.1 ne).trans e,n,ne,nf,d⟩
 ·have hfn:X.fn x=true:=by
   rcases hf with z | z
   ·exact z
   ·rw[z]at hk;cases hk
  obtain⟨c,hc⟩:=I.ok.has x (.inl hk)
  obtain⟨w',z⟩:=I.cell x c hc
  refine wpAny_storeName_cell I.ok.kind hk hc z (fun h' hc' hs=>?_)
  obtain⟨oc,hoc,hocd⟩:=id z
  refine h {s with heap:=h'} ⟨I.ok,I.os,I.bare,⟨fun b o e n hb hx=>?_,fun b o e n hb hx=>?_,I.base.free,fun b o e hx=>?_,I.base.tups,I.base.frzs,I.base.tbls⟩,⟨m,hn.sameBut hs (Ne.symm (cne x c hc)),fun j y v' e1 e2 e3=>?_⟩,fun y c' e=>?_,I.free,I.freeC,fun p hp=>?_,tracked ⟨oc,hoc,I.freeC x c hc⟩ hs,by simpa using I.len⟩ ⟨c,hs,.inr hc⟩
  ·exact(hs.2 b (Nat.ne_of_lt (Nat.lt_of_lt_of_le (Heap.lt_size e) (I.ok.cab x c hfn hc)))).trans (I.base.keep b o e n hb hx)
  ·obtain⟨sl,e1⟩:=I.base.slot b o e n hb hx
   exact⟨sl,(hs.2 b (Nat.ne_of_lt (Nat.lt_of_lt_of_le (Heap.lt_size e) (I.ok.cab x c hfn hc)))).trans e1⟩
  ·obtain⟨o',e1⟩:=I.base.there b o e hx
   exact⟨o',(hs.2 b (Nat.ne_of_lt (Nat.lt_of_lt_of_le (Heap.lt_size e) (I.ok.cab x c hfn hc)))).trans e1⟩
  ·by_cases hj:j=i
   ·subst hj
    rw[hi]at e1;cases e1
    rw[List.getElem?_set_self hiσ]at e2
    cases e2
    exact⟨u,r,.inr ⟨.inl hk,c,hc,hc'⟩⟩
   ·rw[List.getElem?_set_ne (Ne.symm hj)]at e2
    obtain⟨u',r',q⟩:=hl j y v' e1 e2 e3
    refine⟨u',r',?_⟩
    rcases q with q | ⟨k,c',e,z'⟩
    ·exact .inl q
    ·refine .inr ⟨k,c',e,z'.sameBut hs ?_⟩
     rintro rfl
     exact hj (joe hN e1 (I.ok.inj _ _ _ e hc▸hi))
  ·by_cases hcc:c'=c
   ·subst hcc;exact⟨_,hc'⟩
   ·obtain⟨w2,z2⟩:=I.cell y c' e
    exact⟨w2,z2.sameBut hs hcc⟩
  ·obtain⟨e,n,ne,nf,d⟩:=I.pin p hp
   refine⟨(hs.2 p.1 ?_).trans e,n,ne,nf,d⟩
   intro q
   rw[q,hoc]at e
   have q':oc=p.2:=Option.some.inj e
   exact d w' (by rw[←q'];exact hocd)
theorem jn2 {M:Model} {A:Around} {E:Value→Shared→Prop} {i:Nat} {x:Str} {v:V} {u:Value} {Q:Unit→Shared→Prop} (I:Inv X pins σ H s) (hN:X.N.Nodup) (hi:X.N[i]?=some x) (hx:Loc X.env.scope x) (r:RelV v u)
  (h:∀s',Inv X pins (σ.set i (some v)) H s'→Q () s') (hf:X.fn x=true∨X.env.scope.names.lookup x=some .local:=by first | exact .inl rfl | exact .inr rfl | assumption):wpAny M A (storeName X.env x u) Q E s :=
 jlq I hN hi hx r (fun s' I' _=>h s' I') hf
theorem Inv.call' {s':Shared} {ch:List Addr} (I:Inv X pins σ H s) (ho:s'.os=s.os) (u:Un (frs X.stack) ch H H' s.heap s'.heap) (hok:HOk X.prog X.w H' s'.heap) (hg:AllBare s'.gens)
  (hch:∀b∈ch,(b∈X.ex∨X.s₀.heap.objs.size≤b)∧b≠X.env.locals∧(∀x c,X.env.cells.lookup x=some c→c≠b)∧∀p∈X.pn++pins,p.1≠b):Inv X pins σ H' s':=by
 obtain⟨h',g',d',t',o'⟩:=s'
 have e:o'=s.os:=ho
 subst e
 exact I.call (g':=g') (t':=t') (d':=d') u hok hg hch
end
noncomputable abbrev XK:=Value→Option Addr→Hp→Prop
noncomputable abbrev St:=List (Option V)
noncomputable abbrev VK:=V→Hp→Prop
noncomputable abbrev TE:=St→Hp→VK→Prop
noncomputable abbrev TT:=St→Hp→(Bool→Hp→Prop)→Prop
noncomputable abbrev TA:=St→Hp→(List V→Hp→Prop)→Prop
structure Ends where
 nx:St→Hp→Prop
 rt:VK
 bk:St→Hp→Prop:=fun _ _=>False
 ct:St→Hp→Prop:=fun _ _=>False
noncomputable abbrev TS:=Ends→St→Hp→Prop
noncomputable def EP (X:Cx) (pins:List (Addr×Obj)) (σ:St) (Q:VK) (u:Value) (s':Shared):Prop:=∃v H',Inv X pins σ H' s'∧RelV v u∧Q v H'
noncomputable def TP (X:Cx) (pins:List (Addr×Obj)) (σ:St) (Q:Bool→Hp→Prop) (b:Bool) (s':Shared):Prop:=∃H',Inv X pins σ H' s'∧Q b H'
noncomputable def AP (X:Cx) (pins:List (Addr×Obj)) (σ:St) (Q:List V→Hp→Prop) (us:List Value) (s':Shared):Prop:=∃vs H',Inv X pins σ H' s'∧Vals vs us∧Q vs H'
noncomputable def SP (X:Cx) (pins:List (Addr×Obj)) (D:Ends) (f:Flow) (s':Shared):Prop :=
 match f with
 |.next=>∃σ' H',Inv X pins σ' H' s'∧D.nx σ' H'
 |.brk=>∃σ' H',Inv X pins σ' H' s'∧D.bk σ' H'
 |.cont=>∃σ' H',Inv X pins σ' H' s'∧D.ct σ' H'
 |.ret u=>∃v σ' H',Inv X pins σ' H' s'∧RelV v u∧D.rt v H'
noncomputable def PE (X:Cx) (e:Expr) (t:TE):Prop :=
 ∀(pins:List (Addr×Obj)) (s:Shared) (σ:St) (H:Hp) (Q:VK),Inv X pins σ H s→t σ H Q→wpAny (model X.prog X.w) X.A (eval e X.env) (EP X pins σ Q) X.xe s
noncomputable def PT (X:Cx) (e:Expr) (t:TT):Prop :=
 ∀(pins:List (Addr×Obj)) (s:Shared) (σ:St) (H:Hp) (Q:Bool→Hp→Prop),Inv X pins σ H s→t σ H Q→wpAny (model X.prog X.w) X.A (isTrue e X.env (eval e X.env)) (TP X pins σ Q) X.xe s
noncomputable def PW (X:Cx) (e:Expr) (t:TT):Prop :=
 ∀(whole:Sem Value) (pins:List (Addr×Obj)) (s:Shared) (σ:St) (H:Hp) (Q:Bool→Hp→Prop),Inv X pins σ H s→t σ H Q→wpAny (model X.prog X.w) X.A (isTrue e X.env whole) (TP X pins σ Q) X.xe s
theorem PW.pt {X:Cx} {e:Expr} {t:TT} (h:PW X e t):PT X e t:=h _
noncomputable def PA (X:Cx) (es:List Expr) (t:TA):Prop :=
 ∀(pos:Pos) (pins:List (Addr×Obj)) (s:Shared) (σ:St) (H:Hp) (Q:List V→Hp→Prop),Inv X pins σ H s→t σ H Q→wpAny (model X.prog X.w) X.A (spliced (backTo pos (starEach es X.env))) (AP X pins σ Q) X.xe s
noncomputable def PS (X:Cx) (st:Stmt) (t:TS):Prop :=
 ∀(pins:List (Addr×Obj)) (s:Shared) (σ:St) (H:Hp) (D:Ends),Inv X pins σ H s→t D σ H→wpAny (model X.prog X.w) X.A (exec st X.env) (SP X pins D) X.xe s
noncomputable def PSs (X:Cx) (st:List Stmt) (t:TS):Prop :=
 ∀(pins:List (Addr×Obj)) (s:Shared) (σ:St) (H:Hp) (D:Ends),Inv X pins σ H s→t D σ H→wpAny (model X.prog X.w) X.A (execs st X.env) (SP X pins D) X.xe s
theorem thn {α:Type} {t:Sem α} {Q Q':α→Shared→Prop} {M:Model} {A:Around} {E:Value→Shared→Prop} {s:Shared} (h:wpAny M A t Q E s) (hQ:∀a s,Q a s→Q' a s):wpAny M A t Q' E s:=wpAny_mono h hQ fun _ _ x=>x
section
variable {X:Cx}
theorem bin {a b:Expr} {ta tb:TE} (ha:PE X a ta) (hb:PE X b tb) {pins:List (Addr×Obj)} {s:Shared} {σ:St} {H:Hp} {R:V→V→Hp→Prop} (I:Inv X pins σ H s) (h:ta σ H fun x H1=>tb σ H1 fun y H2=>R x y H2)
  {α:Type} {Q:α→Shared→Prop} {f:Value→Value→Sem α}
  (hf:∀v u s2 x y H2,Inv X pins σ H2 s2→RelV x v→RelV y u→R x y H2→wpAny (model X.prog X.w) X.A (f v u) Q X.xe s2) :
  wpAny (model X.prog X.w) X.A (eval a X.env) (fun v s₁=>wpAny (model X.prog X.w) X.A (eval b X.env) (fun u s₂=>wpAny (model X.prog X.w) X.A (f v u) Q X.xe s₂) X.xe s₁) X.xe s:=by
 refine thn (ha pins s σ H _ I h) fun v s1 ⟨x,H1,I1,r1,q1⟩=>?_
 refine thn (hb pins s1 σ H1 _ I1 q1) fun u s2 ⟨y,H2,I2,r2,q2⟩=>?_
 exact hf v u s2 x y H2 I2 r1 r2 q2
noncomputable def tVar (i:Nat):TE:=fun σ H Q=>∃v,σ[i]?=some (some v)∧Q v H
noncomputable def tC (v:V):TE:=fun _ H Q=>Q v H
theorem je9 {i:Nat} {x:Str} {pos:Pos} (hN:X.N[i]?=some x) (hv:Vis X.env.scope x) (hd:(x==("__debug__":Str))=false:=by decide) (hcd:(x==("__classdict__":Str))=false:=by decide):PE X (.Name x pos) (tVar i):=by
 intro pins s σ H Q I h
 obtain⟨v,e,h⟩:=h
 obtain⟨m,hn,hl⟩:=I.loc
 obtain⟨u,r,l⟩:=hl i x v hN e hv
 have fin:EP X pins σ Q u s:=⟨v,H,I,r,h⟩
 rcases l with⟨hk,hm⟩ | ⟨hk,c,hc,hcell⟩
 ·exact wpAny_Name (wpAny_loadName_local I.ok.kind hk hn hm fin) hd
 ·rcases hk with hk | hk
  ·exact wpAny_Name (wpAny_loadName_cell I.ok.kind hk hc hcell fin) hd
  ·exact wpAny_Name (wpAny_loadName_free I.ok.kind hk hc hcell fin hcd) hd
theorem ja9 {i j pos}:PE X (.Constant (.int i) j pos) (tC (.int i)):=fun _ _ _ H _ I h=>wpAny_Constant_int ⟨.int i,H,I.tok _,⟨_,rfl⟩,h⟩
theorem j1i {b j pos}:PE X (.Constant (.bool b) j pos) (tC (.bl b)):=fun _ _ _ H _ I h=>Constant_bool ⟨.bl b,H,I,rfl,h⟩
theorem joc {j pos}:PE X (.Constant .none j pos) (tC .non):=fun _ _ _ H _ I h=>Constant_none ⟨.non,H,I,rfl,h⟩
theorem jzg {x j pos}:PE X (.Constant (.str x) j pos) (tC (.str x)):=fun _ _ _ H _ I h=>Calls.Constant_str ⟨.str x,H,I.tok _,⟨_,rfl⟩,h⟩
noncomputable def Gl (X:Cx) (x:Str):Prop:=X.env.kindOf x=some .globalImplicit
theorem jr6 {E:Value→Shared→Prop} {pins:List (Addr×Obj)} {s:Shared} {σ:St} {H:Hp} {x:Str} {u:Value} {pos:Pos} {Q:Value→Shared→Prop} (I:Inv X pins σ H s) (hg:Gl X x) (hm:X.mg x=some u) (h:Q u s)
  (hd:(x==("__debug__":Str))=false:=by decide):wpAny (model X.prog X.w) X.A (eval (.Name x pos) X.env) Q E s :=
 Calls.Name_function_global I.ok.kind hg (Calls.loadGlobal_global (by rw[I.ok.glob];exact I.mod.glob.keeps I.bk) hm h) hd
theorem jj4 {E:Value→Shared→Prop} {pins:List (Addr×Obj)} {s:Shared} {σ:St} {H:Hp} {x:Str} {u:Value} {pos:Pos} {Q:Value→Shared→Prop} (I:Inv X pins σ H s) (hg:Gl X x) (hm:X.mg x=none) (hv:bootBuiltins x=some u) (h:Q u s)
  (hn:x≠"__name__":=by decide) (hd:(x==("__debug__":Str))=false:=by decide):wpAny (model X.prog X.w) X.A (eval (.Name x pos) X.env) Q E s:=by
 obtain⟨mb,h1,h2⟩:=I.mod.blt
 exact Calls.Name_function_global I.ok.kind hg (Calls.loadGlobal_builtin (by rw[I.ok.glob];exact I.mod.glob.keeps I.bk) hm (by rw[I.ok.blt];exact h1.keeps I.bk) ((h2 x hn).trans hv) h) hd
theorem jxa {x:Str} {v:V} {u:Value} {pos:Pos} (hg:Gl X x) (hm:X.mg x=none) (hv:bootBuiltins x=some u) (r:RelV v u) (hn:x≠"__name__":=by decide) (hd:(x==("__debug__":Str))=false:=by decide):PE X (.Name x pos) (tC v) :=
 fun _ _ _ H _ I h=>jj4 I hg hm hv ⟨v,H,I,r,h⟩ hn hd
variable {a b:Expr} {ta tb:TE} {pos:Pos}
noncomputable def PC (X:Cx) (op:CmpOp) (a b:Expr) (t:TE):Prop :=
 ∀(pins:List (Addr×Obj)) (s:Shared) (σ:St) (H:Hp) (Q:VK),Inv X pins σ H s→t σ H Q →
  wpAny (model X.prog X.w) X.A (eval a X.env) (fun v s₁=>wpAny (model X.prog X.w) X.A (eval b X.env) (fun u s₂=>wpAny (model X.prog X.w) X.A (compareOp op v u) (EP X pins σ Q) X.xe s₂) X.xe s₁) X.xe s
theorem jof (b:Expr) {op:CmpOp} (h:op≠.In) (h2:op≠.NotIn):behindInMarks op b=false:=by
 have e1:(op==CmpOp.In)=false:=by cases op<;>first | rfl | exact absurd rfl h
 have e2:(op==CmpOp.NotIn)=false:=by cases op<;>first | rfl | exact absurd rfl h2
 cases b<;>simp[behindInMarks,e1,e2]
noncomputable def tB (t:TE):TT:=fun σ H Q=>t σ H fun x H1=>∃c,x=.bl c∧Q c H1
theorem jvr {op:CmpOp} {t:TE} (h:PC X op a b t) (h1:behindInMarks op b=false:=by first | exact jof _ (by decide) (by decide) | rfl):PE X (.Compare a [op] [b] pos) t:=fun pins s σ H Q I hw=>wpAny_Compare1 (h pins s σ H Q I hw) h1
theorem j19 {op:CmpOp} {t:TE} (h:PC X op a b t) (h1:behindInMarks op b=false:=by first | exact jof _ (by decide) (by decide) | rfl):PT X (.Compare a [op] [b] pos) (tB t):=by
 intro pins s σ H Q I hw
 refine wpAny_isTrue_Compare1 (thn (h pins s σ H _ I hw) fun v s1 h1=>thn h1 fun u s2 h2=>thn h2 fun c s3 ⟨x,H1,I1,r1,q1⟩=>?_) h1
 obtain⟨d,rfl,q⟩:=q1
 cases r1
 exact wpAny_truthy_bool ⟨H1,I1,q⟩
theorem jy9 {e:Expr} {t:TE} (h:PE X e t) (he:∀whole,isTrue e X.env whole=(do let v ←whole;standAt e.pos;holding [v] (truthy v)):=by intro _;rfl):PT X e (tB t):=by
 intro pins s σ H Q I hw
 refine isTrue_plain (thn (h pins s σ H _ I hw) fun v s1 ⟨x,H1,I1,r1,q1⟩=>?_) (he _)
 obtain⟨d,rfl,q⟩:=q1
 cases r1
 exact wpAny_truthy_bool ⟨H1,I1,q⟩
variable {tA tB':TT} {rest:List Expr}
noncomputable def tAnd (t u:TT):TT:=fun σ H Q=>t σ H fun c H1=>if c=true then u σ H1 Q else Q false H1
noncomputable def tOr (t u:TT):TT:=fun σ H Q=>t σ H fun c H1=>if c=true then Q true H1 else u σ H1 Q
noncomputable def tNot (t:TT):TT:=fun σ H Q=>t σ H fun c H1=>Q (!c) H1
theorem jrd (ha:PT X a tA):PW X (.BoolOp .And [a] pos) tA:=by
 intro wh pins s σ H Q I h
 refine isTrue_and (thn (ha pins s σ H Q I h) fun c s1 e=>?_)
 cases c with
 |true=>exact isTrue_and_nil e
 |false=>exact e
theorem jy8 (ha:PT X a tA):PW X (.BoolOp .Or [a] pos) tA:=by
 intro wh pins s σ H Q I h
 refine isTrue_or (thn (ha pins s σ H Q I h) fun c s1 e=>?_)
 cases c with
 |false=>exact isTrue_or_nil e
 |true=>exact e
theorem jvp (ha:PT X a tA) (hb:PW X (.BoolOp .And (b::rest) pos) tB'):PW X (.BoolOp .And (a::b::rest) pos) (tAnd tA tB'):=by
 intro wh pins s σ H Q I h
 refine isTrue_and (thn (ha pins s σ H _ I h) fun c s1 ⟨H1,I1,q1⟩=>?_)
 cases c with
 |true=>exact hb wh pins s1 σ H1 Q I1 q1
 |false=>exact⟨H1,I1,q1⟩
theorem j1f (ha:PT X a tA) (hb:PW X (.BoolOp .Or (b::rest) pos) tB'):PW X (.BoolOp .Or (a::b::rest) pos) (tOr tA tB'):=by
 intro wh pins s σ H Q I h
 refine isTrue_or (thn (ha pins s σ H _ I h) fun c s1 ⟨H1,I1,q1⟩=>?_)
 cases c with
 |true=>exact⟨H1,I1,q1⟩
 |false=>exact hb wh pins s1 σ H1 Q I1 q1
theorem jza (ha:PT X a tA):PT X (.UnaryOp .Not a pos) (tNot tA):=by
 intro pins s σ H Q I h
 exact isTrue_not (ha pins s σ H (fun c H1=>Q (!c) H1) I h)
noncomputable def jyk (ta tb:TE):TE:=fun σ H Q=>ta σ H fun x H1=>∃c,x=.bl c∧if c=true then tb σ H1 Q else Q (.bl false) H1
noncomputable def tOrV (ta tb:TE):TE:=fun σ H Q=>ta σ H fun x H1=>∃c,x=.bl c∧if c=true then Q (.bl true) H1 else tb σ H1 Q
noncomputable def jyg (ta:TE):TE:=fun σ H Q=>ta σ H fun x H1=>∃c,x=.bl c∧Q (.bl (!c)) H1
theorem jzh {op} {t:TE} (h:PE X a t):PE X (.BoolOp op [a] pos) t:=fun pins s σ H Q I hw=>BoolOp_one (h pins s σ H Q I hw)
theorem jzl (ha:PE X a ta) (hb:PE X (.BoolOp .And (b::rest) pos) tb):PE X (.BoolOp .And (a::b::rest) pos) (jyk ta tb):=by
 intro pins s σ H Q I h
 refine BoolOp_and (thn (ha pins s σ H _ I h) fun v s1 ⟨x,H1,I1,r1,q1⟩=>?_)
 obtain⟨c,rfl,q1⟩:=q1
 cases r1
 refine wpAny_truthy_bool ?_
 cases c with
 |true=>exact hb pins s1 σ H1 Q I1 q1
 |false=>exact⟨.bl false,H1,I1,rfl,q1⟩
theorem j1h (ha:PE X a ta) (hb:PE X (.BoolOp .Or (b::rest) pos) tb):PE X (.BoolOp .Or (a::b::rest) pos) (tOrV ta tb):=by
 intro pins s σ H Q I h
 refine BoolOp_or (thn (ha pins s σ H _ I h) fun v s1 ⟨x,H1,I1,r1,q1⟩=>?_)
 obtain⟨c,rfl,q1⟩:=q1
 cases r1
 refine wpAny_truthy_bool ?_
 cases c with
 |false=>exact hb pins s1 σ H1 Q I1 q1
 |true=>exact⟨.bl true,H1,I1,rfl,q1⟩
theorem jzi (ha:PE X a ta):PE X (.UnaryOp .Not a pos) (jyg ta):=by
 intro pins s σ H Q I h
 refine UnaryOp_ (thn (ha pins s σ H _ I h) fun v s1 ⟨x,H1,I1,r1,q1⟩=>?_)
 obtain⟨c,rfl,q1⟩:=q1
 cases r1
 exact not_of (wpAny_truthy_bool ⟨.bl (!c),H1,I1,rfl,q1⟩)
noncomputable def tIf (t:TT) (ta tb:TE):TE:=fun σ H Q=>t σ H fun c H1=>if c=true then ta σ H1 Q else tb σ H1 Q
theorem jud {c:Expr} (hc:PT X c tA) (ha:PE X a ta) (hb:PE X b tb):PE X (.IfExp c a b pos) (tIf tA ta tb):=by
 intro pins s σ H Q I h
 refine wpAny_IfExp (thn (hc pins s σ H _ I h) fun d s1 ⟨H1,I1,q1⟩=>?_)
 cases d with
 |true=>exact ha pins s1 σ H1 Q I1 q1
 |false=>exact hb pins s1 σ H1 Q I1 q1
end
noncomputable def SqL (K:PySem.W.Frag) (H:Hp) (a:Addr) (xs:List V):Prop :=
 Rd H a (.lst xs) ∨
  ∃(o:Obj) (its:Array Value) (n:Nat),K.lookup a=some o∧o.cls=.type "list"∧o.dict=none∧o.data=.seq its n∧its.size≤sizeLine∧Vals xs its.toList
noncomputable def SqT (K:PySem.W.Frag) (H:Hp) (a:Addr) (xs:List V):Prop :=
 Rd H a (.tup xs) ∨
  ∃(o:Obj) (its:Array Value) (n:Nat),K.lookup a=some o∧o.cls=.type "tuple"∧o.data=.seq its n∧its.size≤sizeLine∧Vals xs its.toList
noncomputable def absV:Value→Option V
 |.none=>some .non
 |.bool b=>some (.bl b)
 |.int i _=>some (.int i)
 |.str x _=>some (.str x)
 |.bytes b _=>some (.byt b)
 |.float b _=>some (.flt b)
 |.ref a=>some (.ref a)
 |.type n=>some (.ty n)
 |_=>none
theorem RelV.abs {x:V} {u:Value} (r:RelV x u):absV u=some x:=by
 cases x with
 |non=>cases r;rfl
 |bl _=>cases r;rfl
 |int _=>obtain⟨t,rfl⟩:=r;rfl
 |str _=>obtain⟨t,rfl⟩:=r;rfl
 |byt _=>obtain⟨t,rfl⟩:=r;rfl
 |flt _=>obtain⟨t,rfl⟩:=r;rfl
 |ref _=>cases r;rfl
 |ty _=>cases r;rfl
theorem RelV.inj {x y:V} {u:Value} (r:RelV x u) (q:RelV y u):x=y:=Option.some.inj (r.abs.symm.trans q.abs)
theorem Vals.inj:∀{xs ys:List V} {us:List Value},Vals xs us→Vals ys us→xs=ys
 |_,_,_,.nil,.nil=>rfl
 |_,_,_,.cons r t,.cons r' t'=>by rw[r.inj r',Vals.inj t t']
section
variable {X:Cx} {pins:List (Addr×Obj)} {σ:St} {H:Hp} {s:Shared} {a:Addr} {xs ys:List V}
theorem SqL.of {K:PySem.W.Frag} (h:H a=some (.lst xs)):SqL K H a xs:=.inl (.inl h)
theorem SqT.of {K:PySem.W.Frag} (h:H a=some (.tup xs)):SqT K H a xs:=.inl (.inl h)
theorem Inv.list (I:Inv X pins σ H s) (h:SqL X.K H a xs):∃its:List Value,Vals xs its∧PlainL s.heap a its.toArray∧xs.length≤sizeLine:=by
 rcases h with h | ⟨o,its,n,hk,hc,hd,hs,hz,r⟩
 ·obtain⟨z,its,n,r,e⟩:=h.ok I.hok
  exact⟨its,r,⟨_,n,e,rfl,rfl,rfl⟩,z⟩
 ·refine⟨its.toList,r,⟨o,n,I.kIn a o hk,hc,hd,by simpa using hs⟩,?_⟩
  have e:=r.length
  simp only[Array.length_toList]at e
  omega
theorem Inv.tuple (I:Inv X pins σ H s) (h:SqT X.K H a xs):∃its:List Value,Vals xs its∧IsTup s.heap a its.toArray∧xs.length≤sizeLine:=by
 rcases h with h | ⟨o,its,n,hk,hc,hs,hz,r⟩
 ·obtain⟨z,its,r,p⟩:=h.ok I.hok
  exact⟨its,r,p.tup,z⟩
 ·refine⟨its.toList,r,⟨o,I.kIn a o hk,hc,n,by simpa using hs⟩,?_⟩
  have e:=r.length
  simp only[Array.length_toList]at e
  omega
theorem Inv.list_inj (I:Inv X pins σ H s) (h:SqL X.K H a xs) (h':SqL X.K H a ys):xs=ys:=by
 obtain⟨its,r,⟨o,n,e,_,_,d⟩,_⟩:=I.list h
 obtain⟨its',r',⟨o',n',e',_,_,d'⟩,_⟩:=I.list h'
 rw[e]at e';cases e'
 rw[d]at d'
 injection d' with d1 _
 have:its=its':=by simpa using congrArg Array.toList d1
 subst this
 exact r.inj r'
theorem Inv.tuple_inj (I:Inv X pins σ H s) (h:SqT X.K H a xs) (h':SqT X.K H a ys):xs=ys:=by
 obtain⟨its,r,⟨o,e,_,n,d⟩,_⟩:=I.tuple h
 obtain⟨its',r',⟨o',e',_,n',d'⟩,_⟩:=I.tuple h'
 rw[e]at e';cases e'
 rw[d]at d'
 injection d' with d1 _
 have:its=its':=by simpa using congrArg Array.toList d1
 subst this
 exact r.inj r'
end
noncomputable abbrev Cx.wish (X:Cx) (E:Value→Shared→Prop):Cx:={ X with xe:=E}
noncomputable abbrev Cx.nox (X:Cx):Cx:=X.wish fun _ _=>False
theorem Cx.Ok.wish {X:Cx} (ok:X.Ok) (E:Value→Shared→Prop):(X.wish E).Ok :=
 ⟨ok.mod,ok.kind,ok.glob,ok.blt,ok.above,ok.inj,ok.has,ok.cab,ok.hd,ok.frames,ok.stk,ok.exf,ok.bs,ok.bsz,ok.noex,ok.exfs,ok.funs,ok.frf⟩
theorem Cx.Ok.unwish {X:Cx} {E:Value→Shared→Prop} (ok:(X.wish E).Ok):X.Ok :=
 ⟨ok.mod,ok.kind,ok.glob,ok.blt,ok.above,ok.inj,ok.has,ok.cab,ok.hd,ok.frames,ok.stk,ok.exf,ok.bs,ok.bsz,ok.noex,ok.exfs,ok.funs,ok.frf⟩
section
variable {X:Cx} {pins:List (Addr×Obj)} {σ:St} {H:Hp} {s:Shared} {E:Value→Shared→Prop}
theorem Inv.wish (I:Inv X pins σ H s) (E:Value→Shared→Prop):Inv (X.wish E) pins σ H s:=⟨I.ok.wish E,I.os,I.bare,I.base,I.loc,I.cell,I.free,I.freeC,I.pin,I.hok,I.len⟩
theorem Inv.unwish (I:Inv (X.wish E) pins σ H s):Inv X pins σ H s:=⟨I.ok.unwish,I.os,I.bare,I.base,I.loc,I.cell,I.free,I.freeC,I.pin,I.hok,I.len⟩
theorem SP.unwish {D:Ends} {f:Flow} {s':Shared} (h:SP (X.wish E) pins D f s'):SP X pins D f s':=by
 cases f with
 |next=>obtain⟨σ',H',I,q⟩:=h;exact⟨σ',H',I.unwish,q⟩
 |brk=>obtain⟨σ',H',I,q⟩:=h;exact⟨σ',H',I.unwish,q⟩
 |cont=>obtain⟨σ',H',I,q⟩:=h;exact⟨σ',H',I.unwish,q⟩
 |ret u=>obtain⟨v,σ',H',I,r,q⟩:=h;exact⟨v,σ',H',I.unwish,r,q⟩
theorem PSs.nox {st:List Stmt} {t:TS} (h:PSs X.nox st t):PSs X st t:=fun pins s σ H D I hw =>
 wpAny_mono (h pins s σ H D (I.wish _) hw) (fun _ _ q=>q.unwish) fun _ _ z=>False.elim z
end
section
variable {X:Cx} {st:Stmt} {rest:List Stmt} {t u:TS} {e:Expr} {te:TE} {pos:Pos}
noncomputable def jyi:TS:=fun D σ H=>D.nx σ H
noncomputable def tSeq (t u:TS):TS:=fun D σ H=>t {D with nx:=u D} σ H
theorem jkn:PSs X [] jyi:=fun _ _ σ H _ I h=>wpAny_execs_nil ⟨σ,H,I,h⟩
theorem jb2 (h1:PS X st t) (h2:PSs X rest u):PSs X (st::rest) (tSeq t u):=by
 intro pins s σ H D I h
 refine wpAny_execs_cons (thn (h1 pins s σ H {D with nx:=u D} I h) fun f s1 q=>?_)
 cases f with
 |next =>
  obtain⟨σ',H',I',q⟩:=q
  exact h2 pins s1 σ' H' D I' q
 |ret v=>exact q
 |brk=>exact q
 |cont=>exact q
theorem jf8 (h1:PS X st t):PSs X [st] t:=by
 intro pins s σ H D I h
 refine wpAny_execs_cons (thn (h1 pins s σ H D I h) fun f s1 q=>?_)
 cases f with
 |next=>exact wpAny_execs_nil q
 |ret v=>exact q
 |brk=>exact q
 |cont=>exact q
theorem Inv.quiet {pins:List (Addr×Obj)} {σ:St} {H:Hp} {s:Shared} (I:Inv X pins σ H s):interactive X.env=false:=by simp[interactive,I.ok.kind]
noncomputable def jwf (te:TE):TS:=fun D σ H=>te σ H fun _ H1=>D.nx σ H1
theorem jrg (he:PE X e te) (hs:swapsWith e none pos.line X.env=pure false:=by rfl):PS X (.Expr e pos) (jwf te):=by
 intro pins s σ H D I h
 exact wpAny_Expr_any (thn (he pins s σ H _ I h) fun v s1 ⟨x,H1,I1,r1,q1⟩=>⟨σ,H1,I1,q1⟩) I.quiet hs
noncomputable def tRet (te:TE):TS:=fun D σ H=>te σ H D.rt
theorem jl2 (he:PE X e te):PS X (.Return (some e) pos) (tRet te):=by
 intro pins s σ H D I h
 exact wpAny_Return_some (thn (he pins s σ H _ I h) fun v s1 ⟨x,H1,I1,r1,q1⟩=>⟨x,σ,H1,I1,r1,q1⟩)
noncomputable def tIfS (c:TT) (t u:TS):TS:=fun D σ H=>c σ H fun b H1=>if b=true then t D σ H1 else u D σ H1
theorem jt8 {c:Expr} {a b:List Stmt} {tc:TT} (hc:PT X c tc) (ha:PSs X a t) (hb:PSs X b u):PS X (.If c a b pos) (tIfS tc t u):=by
 intro pins s σ H D I h
 refine wpAny_If (thn (hc pins s σ H _ I h) fun d s1 ⟨H1,I1,q1⟩=>?_)
 cases d with
 |true=>exact ha pins s1 σ H1 D I1 q1
 |false=>exact hb pins s1 σ H1 D I1 q1
end
noncomputable abbrev TG:=V→St→Hp→(St→Hp→Prop)→Prop
noncomputable abbrev TGs:=List V→St→Hp→(St→Hp→Prop)→Prop
noncomputable def PG (X:Cx) (target:Expr) (t:TG):Prop :=
 ∀(pins:List (Addr×Obj)) (s:Shared) (σ:St) (H:Hp) (v:V) (u:Value) (Q:St→Hp→Prop),Inv X pins σ H s→RelV v u→t v σ H Q →
  wpAny (model X.prog X.w) X.A (assign target X.env u) (fun _ s'=>∃σ' H',Inv X pins σ' H' s'∧Q σ' H') X.xe s
noncomputable def PGs (X:Cx) (ts:List Expr) (t:TGs):Prop :=
 ∀(pins:List (Addr×Obj)) (s:Shared) (σ:St) (H:Hp) (vs:List V) (us:List Value) (Q:St→Hp→Prop),Inv X pins σ H s→Vals vs us→t vs σ H Q →
  wpAny (model X.prog X.w) X.A (assignInOrder ((assignEach ts X.env).map (·.2)) us) (fun _ s'=>∃σ' H',Inv X pins σ' H' s'∧Q σ' H') X.xe s
noncomputable abbrev TSet:=V→V→V→Hp→(Hp→Prop)→Prop
noncomputable def PSet (X:Cx) (t:TSet):Prop :=
 ∀(pins:List (Addr×Obj)) (s:Shared) (σ:St) (H:Hp) (o i v:V) (ov iv u:Value) (Q:Hp→Prop),Inv X pins σ H s→RelV o ov→RelV i iv→RelV v u→t o i v H Q →
  wpAny (model X.prog X.w) X.A (setItem ov iv u) (fun _ s'=>∃H',Inv X pins σ H' s'∧Q H') X.xe s
section
variable {X:Cx} {pos:Pos}
noncomputable def jhb (i:Nat):TG:=fun v σ H Q=>Q (σ.set i (some v)) H
theorem jw6 {i:Nat} {x:Str} (hN:X.N.Nodup) (hi:X.N[i]?=some x) (hx:Loc X.env.scope x) (hf:X.fn x=true∨X.env.scope.names.lookup x=some .local:=by first | exact .inl rfl | exact .inr rfl | assumption):PG X (.Name x pos) (jhb i):=by
 intro pins s σ H v u Q I r h
 exact wpAny_assign_Name (jn2 I hN hi hx r (fun s' I'=>⟨_,H,I',h⟩) hf)
noncomputable def gNil:TGs:=fun vs σ H Q=>vs=[]∧Q σ H
noncomputable def j0k (t:TG) (u:TGs):TGs:=fun vs σ H Q=>∃v r,vs=v::r∧t v σ H fun σ' H'=>u r σ' H' Q
theorem jw5:PGs X [] gNil:=by
 intro pins s σ H vs us Q I r h
 obtain⟨e,h⟩:=h
 subst e
 cases r
 exact assignInOrder_nil ⟨σ,H,I,h⟩
theorem jub {e:Expr} {es:List Expr} {t:TG} {u:TGs} (h1:PG X e t) (h2:PGs X es u)
  (hs:(assignEach (e::es) X.env).map (·.2)=assign e X.env::(assignEach es X.env).map (·.2):=by rfl):PGs X (e::es) (j0k t u):=by
 intro pins s σ H vs us Q I r h
 obtain⟨v,vr,e1,h⟩:=h
 subst e1
 cases r with
 |cons r rr =>
  rw[hs]
  refine assignInOrder_cons (thn (h1 pins s σ H _ _ _ I r h) fun _ s1 ⟨σ1,H1,I1,q1⟩=>?_)
  exact h2 pins s1 σ1 H1 _ _ Q I1 rr q1
noncomputable def gTup (K:PySem.W.Frag) (n:Nat) (t:TGs):TG:=fun v σ H Q=>∃a xs,v=.ref a∧SqT K H a xs∧xs.length=n∧t xs σ H Q
theorem jze {es:List Expr} {k:Nat} {t:TGs} {n:Nat} (hc:X.calm=true) (h:PGs X es t)
  (hn:(assignEach es X.env).length=n:=by rfl) (hst:(assignEach es X.env).findIdx? (·.1)=none:=by rfl):PG X (.Tuple es k pos) (gTup X.K n t):=by
 intro pins s σ H v u Q I r hw
 obtain⟨a,xs,e1,hq,hl,hw⟩:=hw
 subst e1
 cases r
 obtain⟨its,rv,ht,hz⟩:=I.tuple hq
 refine assign_Tuple_tuple (I.ok.hd hc) ht (by simp[hn,←hl,rv.length]) hst fun h' hx=>?_
 have I1:Inv X pins σ H {s with heap:=h'}:=I.kept (t':=s.toks) fun b o e=>hx b o (Nat.ne_of_lt (Heap.lt_size e)) e
 exact h pins _ σ H xs _ Q I1 (by simpa using rv) hw
noncomputable def gSub (to ti:TE) (t:TSet):TG:=fun v σ H Q=>to σ H fun o H1=>ti σ H1 fun i H2=>t o i v H2 fun H3=>Q σ H3
theorem joa {o i:Expr} {to ti:TE} {t:TSet} (ho:PE X o to) (hi:PE X i ti) (hs:PSet X t)
  (ha:∀v,assign (.Subscript o i pos) X.env v=(do
   let ov ←holding [v] (eval o X.env)
   let iv ←holding [v,ov] (eval i X.env)
   standAt pos
   holding [v,ov,iv] (setItem ov iv v)
   release [v,ov,iv] []):=by intro _;rfl):PG X (.Subscript o i pos) (gSub to ti t):=by
 intro pins s σ H v u Q I r h
 rw[ha]
 refine wpAny_bind (wpAny_holding (thn (ho pins s σ H _ I h) fun ov s1 ⟨x,H1,I1,r1,q1⟩=>?_))
 refine wpAny_bind (wpAny_holding (thn (hi pins s1 σ H1 _ I1 q1) fun iv s2 ⟨y,H2,I2,r2,q2⟩=>?_))
 refine wpAny_bind (wpAny_standAt (wpAny_bind (wpAny_holding (thn (hs pins s2 σ H2 x y v ov iv u _ I2 r1 r2 r q2) fun _ s3 ⟨H3,I3,q3⟩=>?_))))
 exact wpAny_release ⟨σ,H3,I3,q3⟩
noncomputable def tAsg (te:TE) (g:TG):TS:=fun D σ H=>te σ H fun x H1=>g x σ H1 D.nx
theorem jl3 {tg e:Expr} {te:TE} {g:TG} (he:PE X e te) (hg:PG X tg g) (hs:swapsWithSole [tg] e pos.line X.env=pure false:=by rfl) (hw:swappedStores [tg] e X.env=pure none:=by rfl)
  (h1:(assignEach [tg] X.env).map (·.2)=[assign tg X.env]:=by rfl):PS X (.Assign [tg] e pos) (tAsg te g):=by
 intro pins s σ H D I h
 refine wpAny_Assign_stores (thn (he pins s σ H _ I h) fun v s1 ⟨x,H1,I1,r1,q1⟩=>?_) hs hw
 rw[h1]
 exact thn (hg pins s1 σ H1 x v _ I1 r1 q1) fun _ s2 q=>q
theorem jfu {i:Nat} {x:Str} {e:Expr} {te:TE} {pos':Pos} (hN:X.N.Nodup) (hi:X.N[i]?=some x) (hx:Loc X.env.scope x) (he:PE X e te) (hs:swapsWith e (some (.Name x pos')) pos.line X.env=pure false:=by rfl) (hf:X.fn x=true∨X.env.scope.names.lookup x=some .local:=by first | exact .inl rfl | exact .inr rfl | assumption) :
  PS X (.Assign [.Name x pos'] e pos) (tAsg te (jhb i)):=by
 intro pins s σ H D I h
 refine wpAny_Assign_Name (thn (he pins s σ H _ I h) fun v s1 ⟨y,H1,I1,r1,q1⟩=>?_) hs
 exact jn2 I1 hN hi hx r1 (fun s2 I2=>⟨_,H1,I2,q1⟩) hf
end
section
variable {X:Cx} {pos:Pos}
end
structure It where
 go:Nat→Hp→Prop
 yld:Nat→Hp→V→Hp→Prop
 stop:Nat→Hp→Prop
noncomputable def FpOk (X:Cx) (pins:List (Addr×Obj)) (H:Hp) (b:Addr):Prop :=
 H b=none∧b≠X.env.locals∧b∉X.fs∧(b∈X.ex∨X.s₀.heap.objs.size≤b)∧(∀x c,X.env.cells.lookup x=some c→c≠b)∧∀p∈X.pn++pins,p.1≠b
theorem Inv.fpOk {X:Cx} {pins:List (Addr×Obj)} {σ:St} {H H':Hp} {s:Shared} {b:Addr} (I:Inv X pins σ H s) (hb:s.heap.objs.size≤b) (hn:H' b=none):FpOk X pins H' b:=by
 refine⟨hn,Nat.ne_of_gt (Nat.lt_of_lt_of_le I.lt hb),I.nofs hb,.inr (Nat.le_trans I.sz hb),fun x c e z=>?_,fun p hp z=>?_⟩
 ·obtain⟨v,q⟩:=I.cell x c e
  exact absurd (Nat.lt_of_lt_of_le q.lt (by rw[z];exact hb)) (Nat.lt_irrefl _)
 ·exact absurd (Nat.lt_of_lt_of_le (Heap.lt_size (I.pin p hp).1) (by rw[z];exact hb)) (Nat.lt_irrefl _)
structure Turn (P:Program) (w:World) (K:PySem.W.Frag) (tg:Expr) (J:It) (fp:List Addr) (it:Addr) (tn:Nat→Heap→Prop):Prop where
 mem:it∈fp
 obj:∀i h,tn i h→∀b∈fp,∃o,h.get? b=some o∧∀v,o.data≠.cell v
 keep:∀i h h',tn i h→(∀b∈fp,∀o,h.get? b=some o→h'.get? b=some o)→tn i h'
 item:∀(X:Cx),X.prog=P→X.w=w→X.K=K→X.calm=true→∀(i:Nat) (pins:List (Addr×Obj)) (s:Shared) (σ:St) (H:Hp) (E:Value→Shared→Prop),Inv X pins σ H s→(∀b∈fp,FpOk X pins H b)→tn i s.heap→J.go i H →
  wpAny (model P w) X.A (pyNext (.ref it)) (fun r s1=>∃u,r=some u ∧
   wpAny (model P w) X.A (letOwnedTupleGo tg (.ref it) u) (fun _ s2=>∃x H',Inv X pins σ H' s2∧RelV x u∧J.yld i H x H'∧tn (i+1) s2.heap∧∀b∈fp,H' b=none) E s1) E s
 done:∀(X:Cx),X.prog=P→X.w=w→X.K=K→X.calm=true→∀(i:Nat) (pins:List (Addr×Obj)) (s:Shared) (σ:St) (H:Hp) (E:Value→Shared→Prop),Inv X pins σ H s→(∀b∈fp,FpOk X pins H b)→tn i s.heap→J.stop i H →
  wpAny (model P w) X.A (pyNext (.ref it)) (fun r s1=>r=none∧Inv X pins σ H s1) E s
 self:∀(A:Around) (i:Nat) (s:Shared) (Q:Value→Shared→Prop) (E:Value→Shared→Prop),tn i s.heap→Q (.ref it) s→wpAny (model P w) A (pyIter (.ref it)) Q E s
noncomputable abbrev TI:=St→Hp→(It→Hp→Prop)→Prop
noncomputable def PIE (X:Cx) (pins:List (Addr×Obj)) (σ:St) (tg:Expr) (R:It→Hp→Prop) (itv:Value) (s2:Shared):Prop :=
 ∃(it:Addr) (fp:List Addr) (tn:Nat→Heap→Prop) (J:It) (H':Hp),itv=.ref it∧Inv X pins σ H' s2∧Turn X.prog X.w X.K tg J fp it tn∧tn 0 s2.heap∧(∀b∈fp,FpOk X pins H' b)∧R J H'
noncomputable def PI (X:Cx) (tg iter:Expr) (wi:TI):Prop :=
 ∀(pins:List (Addr×Obj)) (s:Shared) (σ:St) (H:Hp) (R:It→Hp→Prop),Inv X pins σ H s→wi σ H R →
  wpAny (model X.prog X.w) X.A (eval iter X.env) (fun v s1=>wpAny (model X.prog X.w) X.A (pyIter v) (PIE X pins σ tg R) X.xe s1) X.xe s
theorem jxp {M:Model} {A:Around} {E:Value→Shared→Prop} {s:Shared} {tg:Expr} {it:Addr} {u:Value} {o:Obj} {n:String} {vs:Array Value} {Q:Unit→Shared→Prop} (ho:s.heap.get? it=some o) (hc:o.cls=.type n) (hd:o.data=.fields vs)
  (hn:["enumerate","zip","dict_itemiterator","dict_reverseitemiterator","odict_iterator","itertools.zip_longest","itertools.pairwise"].contains n=false) (hQ:Q () s):wpAny M A (letOwnedTupleGo tg (.ref it) u) Q E s:=by
 unfold letOwnedTupleGo
 cases tg<;>first
  |exact wpAny_pure hQ
  | (cases u<;>first
    |exact wpAny_pure hQ
    | (refine wpAny_bind (wpAny_load ho ?_)
       rw[hc,hd]
       show wpAny M A (if (["enumerate","zip","dict_itemiterator","dict_reverseitemiterator","odict_iterator","itertools.zip_longest","itertools.pairwise"].contains n&&vs[0]?==some (rawInt _))=true then _ else _) Q E s
       rw[if_neg (by intro h;rw[hn,Bool.false_and]at h;cases h)]
       exact wpAny_pure hQ))
noncomputable def Itl (K:PySem.W.Frag) (a:Addr):It :=
 ⟨fun i H=>∃xs x,SqL K H a xs∧xs[i]?=some x,fun i H x H'=>H'=H∧∀xs,SqL K H a xs→xs[i]?=some x,fun i H=>∃xs,SqL K H a xs∧xs.length≤i⟩
noncomputable def Itt (K:PySem.W.Frag) (a:Addr):It :=
 ⟨fun i H=>∃xs x,SqT K H a xs∧xs[i]?=some x,fun i H x H'=>H'=H∧∀xs,SqT K H a xs→xs[i]?=some x,fun i H=>∃xs,SqT K H a xs∧xs.length≤i⟩
noncomputable def Itr (lo:Int) (n:Nat):It:=⟨fun i _=>i < n,fun i H x H'=>H'=H∧x=.int (lo+i),fun i _=>n≤i⟩
theorem jp2 {P:Program} {w:World} {K:PySem.W.Frag} {tg:Expr} (a it:Addr):Turn P w K tg (Itl K a) [it] it (fun i h=>h.IsListIter it a i) where
 mem:=by simp
 obj:=fun i h st b hb=>by
  have e:b=it:=by simpa using hb
  subst e
  obtain⟨o,e,c,d⟩:=st
  exact⟨o,e,fun v z=>by rw[d]at z;cases z⟩
 keep:=fun i h h' st k=>st.at fun o e=>k it (by simp) o e
 item:=by
  intro X hP hw hK hc i pins s σ H E I hf st hg
  subst hP hw hK
  obtain⟨xs,x,hq,hx⟩:=hg
  obtain⟨its,rv,p,hz⟩:=I.list hq
  obtain⟨u,hu,ru⟩:=rv.get hx
  obtain⟨f0,f1,f2,f3,f4,f5⟩:=hf it (by simp)
  refine wpAny_pyNext_list_item st p.isList (x:=u) (by simpa using hu) fun h' st' sb=>?_
  have I1:Inv X pins σ H {s with heap:=h'}:=I.turned (t':=s.toks) (fun b o hb e=>(sb.2 b hb).trans e) f0 f1 f3 f4 f5
  obtain⟨o,e,c,d⟩:=id st'
  exact⟨u,rfl,jxp (s:={ s with heap:=h'}) e c d (by decide) ⟨x,H,I1,ru,⟨rfl,fun ys hy=>by rw[I.list_inj hy hq];exact hx⟩,st',fun b hb=>(hf b hb).1⟩⟩
 done:=by
  intro X hP hw hK hc i pins s σ H E I hf st hg
  subst hP hw hK
  obtain⟨xs,hq,hx⟩:=hg
  obtain⟨its,rv,p,hz⟩:=I.list hq
  obtain⟨f0,f1,f2,f3,f4,f5⟩:=hf it (by simp)
  have hl:=rv.length
  exact wpAny_pyNext_list_end (I.ok.hd hc) st p.isList (by simp;omega) fun h' eb=>⟨rfl,I.turned (t':=s.toks) (fun b o hb e=>eb b o hb e) f0 f1 f3 f4 f5⟩
 self:=fun _ _ _ _ _ st h=>wpAny_pyIter_listiter st h
theorem joy {P:Program} {w:World} {K:PySem.W.Frag} {tg:Expr} (a it:Addr):Turn P w K tg (Itt K a) [it] it (fun i h=>h.IsTupleIter it a i) where
 mem:=by simp
 obj:=fun i h st b hb=>by
  have e:b=it:=by simpa using hb
  subst e
  obtain⟨o,e,c,d⟩:=st
  exact⟨o,e,fun v z=>by rw[d]at z;cases z⟩
 keep:=fun i h h' st k=>st.at fun o e=>k it (by simp) o e
 item:=by
  intro X hP hw hK hc i pins s σ H E I hf st hg
  subst hP hw hK
  obtain⟨xs,x,hq,hx⟩:=hg
  obtain⟨its,rv,p,hz⟩:=I.tuple hq
  obtain⟨u,hu,ru⟩:=rv.get hx
  obtain⟨f0,f1,f2,f3,f4,f5⟩:=hf it (by simp)
  refine wpAny_pyNext_tuple_item st (show s.heap.IsTuple a its.toArray from p) (x:=u) (by simpa using hu) fun h' st' sb=>?_
  have I1:Inv X pins σ H {s with heap:=h'}:=I.turned (t':=s.toks) (fun b o hb e=>(sb.2 b hb).trans e) f0 f1 f3 f4 f5
  obtain⟨o,e,c,d⟩:=id st'
  exact⟨u,rfl,jxp (s:={ s with heap:=h'}) e c d (by decide) ⟨x,H,I1,ru,⟨rfl,fun ys hy=>by rw[I.tuple_inj hy hq];exact hx⟩,st',fun b hb=>(hf b hb).1⟩⟩
 done:=by
  intro X hP hw hK hc i pins s σ H E I hf st hg
  subst hP hw hK
  obtain⟨xs,hq,hx⟩:=hg
  obtain⟨its,rv,p,hz⟩:=I.tuple hq
  obtain⟨f0,f1,f2,f3,f4,f5⟩:=hf it (by simp)
  have hl:=rv.length
  exact wpAny_pyNext_tuple_end (I.ok.hd hc) st (show s.heap.IsTuple a its.toArray from p) (by simp;omega) fun h' eb=>⟨rfl,I.turned (t':=s.toks) (fun b o hb e=>eb b o hb e) f0 f1 f3 f4 f5⟩
 self:=fun _ _ _ _ _ st h=>wpAny_pyIter_tupleiter st h
theorem joz {P:Program} {w:World} {K:PySem.W.Frag} {tg:Expr} (it:Addr) (lo:Int) (n:Nat):Turn P w K tg (Itr lo n) [it] it (fun i h=>IsRangeIter h it (lo+(i:Nat)*1) ((n:Int) - (i:Nat)) 1) where
 mem:=by simp
 obj:=fun i h st b hb=>by
  have e:b=it:=by simpa using hb
  subst e
  exact⟨_,st,fun v z=>by
   have z':Data.fields _=Data.cell v:=z
   cases z'⟩
 keep:=fun i h h' st k=>k it (by simp) _ st
 item:=by
  intro X hP hw hK hc i pins s σ H E I hf st hg
  subst hP hw hK
  obtain⟨f0,f1,f2,f3,f4,f5⟩:=hf it (by simp)
  have W:=Walks.range (prog:=X.prog) (w:=X.w) (I.ok.hd hc) it lo 1 n
  refine W.item i s _ _ hg st fun v h' tk hv st' kk=>?_
  obtain⟨t,rfl⟩:=hv
  have I1:Inv X pins σ H {s with heap:=h',toks:=tk}:=I.turned (fun b o hb e=>kk b o (by simpa using hb) e) f0 f1 f3 f4 f5
  refine⟨_,rfl,jxp (s:={ s with heap:=h',toks:=tk}) (n:="range_iterator") st' rfl rfl (by decide) ⟨.int (lo+i),H,I1,⟨t,?_⟩,⟨rfl,rfl⟩,st',fun b hb=>(hf b hb).1⟩⟩
  rw[Int.mul_one]
 done:=by
  intro X hP hw hK hc i pins s σ H E I hf st hg
  subst hP hw hK
  obtain⟨f0,f1,f2,f3,f4,f5⟩:=hf it (by simp)
  exact wpAny_pyNext_range_end (I.ok.hd hc) st (by have:n≤i:=hg;omega) fun h' eb=>⟨rfl,I.turned (t':=s.toks) (fun b o hb e=>eb b o hb e) f0 f1 f3 f4 f5⟩
 self:=fun _ _ _ _ _ st h=>wpAny_pyIter_rangeiter st h
section
variable {X:Cx} {tg:Expr}
noncomputable def jxn (K:PySem.W.Frag) (tl:TE):TI:=fun σ H R=>tl σ H fun x H1=>∃a,x=.ref a∧(∃xs,SqL K H1 a xs)∧R (Itl K a) H1
noncomputable def iTup (K:PySem.W.Frag) (tl:TE):TI:=fun σ H R=>tl σ H fun x H1=>∃a,x=.ref a∧(∃xs,SqT K H1 a xs)∧R (Itt K a) H1
theorem jw4 {l:Expr} {tl:TE} (hl:PE X l tl):PI X tg l (jxn X.K tl):=by
 intro pins s σ H R I h
 refine thn (hl pins s σ H _ I h) fun v s1 ⟨x,H1,I1,r1,q1⟩=>?_
 obtain⟨a,e,⟨xs,hq⟩,q⟩:=q1
 subst e
 cases r1
 obtain⟨its,rv,p,hz⟩:=I1.list hq
 refine wpAny_pyIter_list p.isList ?_
 refine⟨s1.heap.objs.size,[s1.heap.objs.size],_,_,H1,rfl,I1.kept (t':=s1.toks) fun b o e=>Heap.get?_push_of_some _ e,jp2 a _,⟨_,Heap.get?_push_size _ rfl,rfl,rfl⟩,fun b hb=>?_,q⟩
 have e:b=s1.heap.objs.size:=by simpa using hb
 subst e
 exact I1.fpOk (Nat.le_refl _) (I1.hok.fresh (Nat.le_refl _))
theorem jzd {l:Expr} {tl:TE} (hl:PE X l tl):PI X tg l (iTup X.K tl):=by
 intro pins s σ H R I h
 refine thn (hl pins s σ H _ I h) fun v s1 ⟨x,H1,I1,r1,q1⟩=>?_
 obtain⟨a,e,⟨xs,hq⟩,q⟩:=q1
 subst e
 cases r1
 obtain⟨its,rv,p,hz⟩:=I1.tuple hq
 refine wpAny_pyIter_tuple (show s1.heap.IsTuple a its.toArray from p) ?_
 refine⟨s1.heap.objs.size,[s1.heap.objs.size],_,_,H1,rfl,I1.kept (t':=s1.toks) fun b o e=>Heap.get?_push_of_some _ e,joy a _,⟨_,Heap.get?_push_size _ rfl,rfl,rfl⟩,fun b hb=>?_,q⟩
 have e:b=s1.heap.objs.size:=by simpa using hb
 subst e
 exact I1.fpOk (Nat.le_refl _) (I1.hok.fresh (Nat.le_refl _))
theorem jt3 {pins:List (Addr×Obj)} {σ:St} {H:Hp} {s:Shared} {R:It→Hp→Prop} {E:Value→Shared→Prop} {lo hi:Int} {t u v:Tok} {tk:Nat} (I:Inv X pins σ H s) (h1:-(2 ^ 62)≤lo) (h2:lo < 2 ^ 62) (h3:-(2 ^ 62)≤hi) (h4:hi < 2 ^ 62)
  (q:R (Itr lo (hi - lo).toNat) H):wpAny (model X.prog X.w) X.A (pyIter (.ref s.heap.objs.size)) (PIE X pins σ tg R) E {s with heap:=s.heap.push {cls:=.type "range",data:=.fields #[.int lo t,.int hi u,.int 1 v]},toks:=tk}:=by
 refine wpAny_pyIter_range (IsRange.new ..) (small_one h1 h2 h3 h4) ?_
 have I1:Inv X pins σ H {s with heap:=s.heap.push {cls:=.type "range",data:=.fields #[.int lo t,.int hi u,.int 1 v]},toks:=tk}:=I.kept fun b o e=>Heap.get?_push_of_some _ e
 refine⟨(s.heap.push {cls:=.type "range",data:=.fields #[.int lo t,.int hi u,.int 1 v]}).objs.size,[(s.heap.push {cls:=.type "range",data:=.fields #[.int lo t,.int hi u,.int 1 v]}).objs.size],_,_,H,rfl,
  I1.kept (t':=tk) fun b o e=>Heap.get?_push_of_some _ e,joz _ lo (hi - lo).toNat,?_,fun b hb=>?_,q⟩
 ·have e1:lo+((0:Nat):Int)*1=lo:=by simp
  have e2:(((hi - lo).toNat:Nat):Int) - ((0:Nat):Int)=Builtin.Range.rangeSize lo hi 1:=by rw[rangeSize_one];split<;>omega
  show IsRangeIter _ _ (lo+((0:Nat):Int)*1) ((((hi - lo).toNat:Nat):Int) - ((0:Nat):Int)) 1
  rw[e1,e2]
  exact Heap.get?_push_size _ rfl
 ·have e:b=(s.heap.push {cls:=.type "range",data:=.fields #[.int lo t,.int hi u,.int 1 v]}).objs.size:=by simpa using hb
  subst e
  exact I1.fpOk (Nat.le_refl _) (I1.hok.fresh (Nat.le_refl _))
noncomputable def j0i (ta:TA):TI:=fun σ H R=>ta σ H fun vs H1=>∃j:Int,vs=[.int j]∧-(2 ^ 62)≤j∧j < 2 ^ 62∧R (Itr 0 j.toNat) H1
theorem jrk {a:Expr} {ta:TA} {p pos:Pos} (hg:Gl X "range") (hm:X.mg "range"=none) (ha:PA X [a] ta) (hs:starEach [a] X.env=[(false,eval a X.env)]:=by rfl):PI X tg (.Call (.Name "range" p) [a] [] pos) (j0i ta):=by
 intro pins s σ H R I h
 refine Call_ (jj4 I hg hm boot_range (PyProof.Rows.callWith_type1 (thn (ha pos pins s σ H _ I h) fun us s1 ⟨vs,H1,I1,r1,q1⟩=>?_) hs rfl))
 obtain⟨j,e,q1,q2,q⟩:=q1
 subst e
 cases r1 with
 |cons r rr =>
  cases rr
  obtain⟨t,rfl⟩:=r
  exact call_range_1 (jt3 I1 (by omega) (by omega) q1 q2 (by simpa using q))
noncomputable def tFor (wi:TI) (g:TG) (tb:TS):TS:=fun D σ H=>wi σ H fun J H1=>∃W:Nat→Nat→St→Hp→Prop,(∃m,W 0 m σ H1)∧∀i m σ H,W i m σ H →
 (J.stop i H∧D.nx σ H)∨(J.go i H∧∃N:St→Hp→Prop,(∀σ' H',N σ' H'→∃m',m' < m∧W (i+1) m' σ' H')∧∀x H',J.yld i H x H'→g x σ H' fun σ2 H2=>tb {D with nx:=N,ct:=N,bk:=D.nx} σ2 H2)
noncomputable def jjx (fp:List Addr) (h:Heap):List (Addr×Obj):=fp.filterMap fun b=>(h.get? b).map fun o=>(b,o)
theorem jcz {fp:List Addr} {h:Heap} {b:Addr} {o:Obj} (hb:b∈fp) (e:h.get? b=some o):(b,o)∈jjx fp h:=List.mem_filterMap.mpr ⟨b,hb,by rw[e];rfl⟩
theorem jrw {fp:List Addr} {h:Heap} {p:Addr×Obj} (hp:p∈jjx fp h):p.1∈fp∧h.get? p.1=some p.2:=by
 obtain⟨b,hb,e⟩:=List.mem_filterMap.mp hp
 cases q:h.get? b with
 |none=>rw[q]at e;cases e
 |some o =>
  rw[q]at e
  have e':(b,o)=p:=Option.some.inj e
  subst e'
  exact⟨hb,q⟩
theorem Inv.pinned {pins:List (Addr×Obj)} {σ:St} {H:Hp} {s:Shared} {fp:List Addr} (I:Inv X pins σ H s) (hf:∀b∈fp,FpOk X pins H b) (ho:∀b∈fp,∃o,s.heap.get? b=some o∧∀v,o.data≠.cell v):Inv X (pins++jjx fp s.heap) σ H s :=
 I.pins_of fun p hp=>(List.mem_append.mp hp).elim (fun z=>I.pin p (List.mem_append_right _ z)) fun z=>by
  obtain⟨hb,e⟩:=jrw z
  obtain⟨f0,f1,f2,_⟩:=hf p.1 hb
  obtain⟨o,e',d⟩:=ho p.1 hb
  rw[e]at e';cases e'
  exact⟨e,f0,f1,f2,d⟩
theorem Inv.unpinned {pins pl:List (Addr×Obj)} {σ:St} {H:Hp} {s:Shared} (I:Inv X (pins++pl) σ H s):Inv X pins σ H s:=I.pins_of fun p hp=>I.pin p (List.mem_append_right _ (List.mem_append_left _ hp))
theorem jzb {iter:Expr} {body:List Stmt} {wi:TI} {g:TG} {tb:TS} {pos:Pos} (hp:PassesOwn (model X.prog X.w) X.A X.env X.xe) (hc:X.calm=true) (hi:PI X tg iter wi) (hg:PG X tg g) (hb:PSs X body tb)
  (hs:∀x,foldedSetIterable iter X.env x=pure x:=by intro _;rfl):PS X (.For tg iter body [] pos) (tFor wi g tb):=by
 intro pins s σ H D I h
 refine wpAny_For (thn (hi pins s σ H _ I h) fun v s1 h1=>thn h1 fun itv s2 h2=>?_) hs
 obtain⟨it,fp,tn,J,H2,e,I2,T,st2,f2,W,⟨m0,w0⟩,turn⟩:=h2
 subst e
 -- what stays true of the iterator's objects through the loop
 have stat:∀{H':Hp},(∀b∈fp,H' b=none)→∀b∈fp,FpOk X pins H' b:=fun hn b hb=>⟨hn b hb,(f2 b hb).2⟩
 refine codeAny_forLoop_any (fun n s'=>∃i σ' H',Inv X pins σ' H' s'∧tn i s'.heap∧(∀b∈fp,H' b=none)∧W i n σ' H') ?_ m0 ⟨0,σ,H2,I2,st2,fun b hb=>(f2 b hb).1,w0⟩
 rintro n s3 ⟨i,σ3,H3,I3,st3,fr3,w3⟩
 rcases turn i n σ3 H3 w3 with⟨stop,qn⟩ | ⟨go,N,hN,step⟩
 ·refine wpAny_passesOwn hp (thn (T.done X rfl rfl rfl hc i pins s3 σ3 H3 X.xe I3 (stat fr3) st3 stop) fun r s4 ⟨hr,I4⟩=>?_)
  subst hr
  exact wpAny_execs_nil ⟨σ3,H3,I4,qn⟩
 ·refine wpAny_passesOwn hp (thn (T.item X rfl rfl rfl hc i pins s3 σ3 H3 X.xe I3 (stat fr3) st3 go) fun r s4 ⟨u,hr,h4⟩=>?_)
  subst hr
  refine wpAny_passesOwn hp (thn h4 fun _ s5 ⟨x,H5,I5,r5,y5,st5,fr5⟩=>?_)
  have I5':=I5.pinned (stat fr5) (T.obj _ _ st5)
  refine wpAny_passesOwn hp (thn (hg _ s5 σ3 H5 x u _ I5' r5 (step x H5 y5)) fun _ s6 ⟨σ6,H6,I6,q6⟩=>?_)
  refine wpAny_passesOwn hp (thn (hb _ s6 σ6 H6 _ I6 q6) fun f s7 q7=>?_)
  have again:∀{σ7:St} {H7:Hp},Inv X (pins++jjx fp s5.heap) σ7 H7 s7→N σ7 H7→∃m,m < n∧∃i σ' H',Inv X pins σ' H' s7∧tn i s7.heap∧(∀b∈fp,H' b=none)∧W i m σ' H':=fun{σ7 H7} I7 n7=>by
   obtain⟨m',hm,w7⟩:=hN σ7 H7 n7
   refine⟨m',hm,i+1,σ7,H7,I7.unpinned,T.keep _ _ _ st5 fun b hb o e=>(I7.pin (b,o) (List.mem_append_right _ (List.mem_append_right _ (jcz hb e)))).1,fun b hb=>?_,w7⟩
   obtain⟨o,e,d⟩:=T.obj _ _ st5 b hb
   exact(I7.pin (b,o) (List.mem_append_right _ (List.mem_append_right _ (jcz hb e)))).2.1
  cases f with
  |next=>obtain⟨σ7,H7,I7,n7⟩:=q7;exact again I7 n7
  |cont=>obtain⟨σ7,H7,I7,n7⟩:=q7;exact again I7 n7
  |brk=>obtain⟨σ7,H7,I7,q7⟩:=q7;exact⟨σ7,H7,I7.unpinned,q7⟩
  |ret v=>obtain⟨x7,σ7,H7,I7,r7,q7⟩:=q7;exact⟨x7,σ7,H7,I7.unpinned,r7,q7⟩
end
noncomputable abbrev R2:=V→V→Hp→VK→Prop
noncomputable def OpR (X:Cx) (f:Value→Value→Sem Value) (r:R2):Prop :=
 ∀(pins:List (Addr×Obj)) (s:Shared) (σ:St) (H:Hp) (x y:V) (v u:Value) (Q:VK),Inv X pins σ H s→RelV x v→RelV y u→r x y H Q →
  wpAny (model X.prog X.w) X.A (f v u) (EP X pins σ Q) X.xe s
noncomputable def CallR (X:Cx) (f:Value) (r:List V→Hp→VK→Prop):Prop :=
 ∀(pins:List (Addr×Obj)) (s:Shared) (σ:St) (H:Hp) (xs:List V) (us:List Value) (Q:VK),Inv X pins σ H s→Vals xs us→r xs H Q →
  wpAny (model X.prog X.w) X.A (call f us) (EP X pins σ Q) X.xe s
noncomputable def tOp (r:R2) (ta tb:TE):TE:=fun σ H Q=>ta σ H fun x H1=>tb σ H1 fun y H2=>r x y H2 Q
noncomputable def rI (C:Int→Int→Prop) (g:Int→Int→V):R2:=fun x y H Q=>∃i j,x=.int i∧y=.int j∧C i j∧Q (g i j) H
noncomputable def rI0 (g:Int→Int→V):R2:=fun x y H Q=>∃i j,x=.int i∧y=.int j∧Q (g i j) H
section
variable {X:Cx} {a b c:Expr} {ta tb tc:TE} {pos:Pos}
theorem binT (ha:PE X a ta) (hb:PE X b tb) {pins:List (Addr×Obj)} {s:Shared} {σ:St} {H:Hp} {R:V→V→Hp→Prop} (I:Inv X pins σ H s)
  (h:ta σ H fun x H1=>tb σ H1 fun y H2=>R x y H2) {Q:Value→Shared→Prop} {f:Value→Value→Sem Value}
  (hf:∀v u s2 x y H2,Inv X pins σ H2 s2→RelV x v→RelV y u→R x y H2→wpAny (model X.prog X.w) X.A (f v u) Q X.xe s2) :
  wpAny (model X.prog X.w) X.A (eval a X.env) (fun v s₁=>wpAny (model X.prog X.w) X.A (eval b X.env) (fun u s₂=>wpAny (model X.prog X.w) X.A (f v u) Q X.xe s₂) X.xe s₁) X.xe s:=by
 refine thn (ha pins s σ H _ I h) fun v s1 ⟨x,H1,I1,r1,q1⟩=>?_
 refine thn (hb pins s1 σ H1 _ I1 q1) fun u s2 ⟨y,H2,I2,r2,q2⟩=>?_
 exact hf v u s2 x y H2 I2 r1 r2 q2
theorem jc7 {op:Operator} {r:R2} (ho:OpR X (binaryOp op) r) (ha:PE X a ta) (hb:PE X b tb):PE X (.BinOp a op b pos) (tOp r ta tb):=by
 intro pins s σ H Q I h
 exact wpAny_BinOp (binT ha hb I h fun v u s2 x y H2 I2 rx ry q=>ho pins s2 σ H2 x y v u Q I2 rx ry q)
theorem opI {f:Value→Value→Sem Value} {C:Int→Int→Prop} {g:Int→Int→Int}
  (rule:∀(i j:Int) (t u:Tok) (s:Shared) (Q:Value→Shared→Prop) (E:Value→Shared→Prop),C i j→Q (.int (g i j) s.toks) {s with toks:=s.toks+1}→wpAny (model X.prog X.w) X.A (f (.int i t) (.int j u)) Q E s) :
  OpR X f (rI C fun i j=>.int (g i j)):=by
 intro pins s σ H x y v u Q I rx ry h
 obtain⟨i,j,rfl,rfl,hc,q⟩:=h
 obtain⟨t,rfl⟩:=rx
 obtain⟨t',rfl⟩:=ry
 exact rule i j t t' s _ _ hc ⟨.int (g i j),H,I.tok _,⟨_,rfl⟩,q⟩
theorem opI0 {f:Value→Value→Sem Value} {g:Int→Int→Int}
  (rule:∀(i j:Int) (t u:Tok) (s:Shared) (Q:Value→Shared→Prop) (E:Value→Shared→Prop),Q (.int (g i j) s.toks) {s with toks:=s.toks+1}→wpAny (model X.prog X.w) X.A (f (.int i t) (.int j u)) Q E s) :
  OpR X f (rI0 fun i j=>.int (g i j)):=by
 intro pins s σ H x y v u Q I rx ry h
 obtain⟨i,j,rfl,rfl,q⟩:=h
 obtain⟨t,rfl⟩:=rx
 obtain⟨t',rfl⟩:=ry
 exact rule i j t t' s _ _ ⟨.int (g i j),H,I.tok _,⟨_,rfl⟩,q⟩
theorem opB0 {f:Value→Value→Sem Value} {g:Int→Int→Bool}
  (rule:∀(i j:Int) (t u:Tok) (s:Shared) (Q:Value→Shared→Prop) (E:Value→Shared→Prop),Q (.bool (g i j)) s→wpAny (model X.prog X.w) X.A (f (.int i t) (.int j u)) Q E s) :
  OpR X f (rI0 fun i j=>.bl (g i j)):=by
 intro pins s σ H x y v u Q I rx ry h
 obtain⟨i,j,rfl,rfl,q⟩:=h
 obtain⟨t,rfl⟩:=rx
 obtain⟨t',rfl⟩:=ry
 exact rule i j t t' s _ _ ⟨.bl (g i j),H,I,rfl,q⟩
noncomputable def CDiv (i j:Int):Prop:=0 < j∧j < 1073741824
noncomputable def CPow (i j:Int):Prop:=0≤j∧j≤1000000∧i.natAbs < 2 ^ 64
noncomputable def CMul (i j:Int):Prop:=(-(2 ^ 64) < i∧i < 2 ^ 64)∨(-(2 ^ 64) < j∧j < 2 ^ 64)
theorem CMul.ok {i j:Int} (h:CMul i j):IntMulOk i j:=by
 rcases h with⟨h1,h2⟩ | ⟨h1,h2⟩
 ·exact .of_left (intBits_le_64 h1 h2)
 ·exact .of_right (intBits_le_64 h1 h2)
theorem jl7:OpR X (binaryOp .Add) (rI0 fun i j=>.int (i+j)):=opI0 fun _ _ _ _ _ _ _ q=>add_int q
theorem jzr:OpR X (binaryOp .Sub) (rI0 fun i j=>.int (i - j)):=opI0 fun _ _ _ _ _ _ _ q=>sub_int q
theorem jjy:OpR X (binaryOp .Mult) (rI CMul fun i j=>.int (i*j)):=opI fun _ _ _ _ _ _ _ hc q=>mul_int q hc.ok
theorem jrv:OpR X (binaryOp .FloorDiv) (rI CDiv fun i j=>.int (i / j)):=opI fun i j _ _ _ _ _ hc q=>by
 have h1:(0:Int) < j:=hc.1
 have h2:j < 1073741824:=hc.2
 exact floordiv_int (by omega) (by rw[Int.fdiv_eq_ediv_of_nonneg i (by omega)];exact q) (.inl (PyProof.noPylong_small (by omega)))
theorem jgu:OpR X (binaryOp .Mod) (rI (fun _ j=>0 < j) fun i j=>.int (i % j)):=opI fun i j _ _ _ _ _ hc q=>by
 have h1:(0:Int) < j:=hc
 exact mod_int' (by omega) (by rw[Int.fmod_eq_emod_of_nonneg i (by omega)];exact q)
theorem jzs:OpR X (binaryOp .Pow) (rI CPow fun i j=>.int (i ^ j.toNat)):=opI fun _ _ _ _ _ _ _ hc q=>pow_int_small hc.1 hc.2.1 hc.2.2 q
end
noncomputable def scal:V→V→Bool
 |.non,.non=>true | .non,.int _=>true | .int _,.non=>true | .non,.bl _=>true | .bl _,.non=>true | .non,.str _=>true | .str _,.non=>true
 |.int _,.int _=>true | .bl _,.bl _=>true | .str _,.str _=>true | .byt _,.byt _=>true
 |.int _,.str _=>true | .str _,.int _=>true | .bl _,.str _=>true | .str _,.bl _=>true
 |_,_=>false
noncomputable def rEq:R2:=fun x y H Q=>scal x y=true∧Q (.bl (decide (x=y))) H
noncomputable def rNe:R2:=fun x y H Q=>scal x y=true∧Q (.bl (!decide (x=y))) H
theorem jsx {i j:Int}:decide (V.int i=V.int j)=(i==j):=by
 rw[Bool.eq_iff_iff]
 simp
theorem jv2 {i j:Bool}:decide (V.bl i=V.bl j)=(i==j):=by
 rw[Bool.eq_iff_iff]
 simp
theorem jsw {i j:Str}:decide (V.str i=V.str j)=(i==j):=by
 rw[Bool.eq_iff_iff]
 simp
theorem jsy {i j:Array UInt8}:decide (V.byt i=V.byt j)=(i.toList==j.toList):=by
 rw[Bool.eq_iff_iff]
 cases i
 cases j
 simp
section
variable {X:Cx} {a b c:Expr} {ta tb tc:TE} {pos:Pos}
theorem jba {pins:List (Addr×Obj)} {σ:St} {H:Hp} {s:Shared} {Q:VK} {k k':Bool} (I:Inv X pins σ H s) (q:Q (.bl k) H) (e:k=k'):EP X pins σ Q (.bool k') s:=by
 subst e
 exact⟨.bl k,H,I,rfl,q⟩
theorem op_eq:OpR X (compareOp .Eq) rEq:=by
 intro pins s σ H x y v u Q I rx ry h
 obtain⟨hs,q⟩:=h
 cases x with
 |non =>
  cases rx
  cases y with
  |non=>cases ry;exact PySem.EqNone.eq_none_none (jba I q (by simp))
  |bl j=>cases ry;exact PySem.EqNone.eq_none_bool (jba I q (by simp))
  |int j=>obtain⟨t',rfl⟩:=ry;exact PySem.EqNone.eq_none_int (jba I q (by simp))
  |str j=>obtain⟨t',rfl⟩:=ry;exact PySem.EqNone.eq_none_str (jba I q (by simp))
  |_=>exact absurd (show false=true from hs) Bool.false_ne_true
 |bl i =>
  cases rx
  cases y with
  |non=>cases ry;exact PySem.EqNone.eq_bool_none (jba I q (by simp))
  |bl j=>cases ry;exact eq_bool (jba I q jv2)
  |str j=>obtain⟨t',rfl⟩:=ry;exact PySem.EqMixed.eq_bool_str (jba I q (by simp))
  |_=>exact absurd (show false=true from hs) Bool.false_ne_true
 |int i =>
  obtain⟨t,rfl⟩:=rx
  cases y with
  |non=>cases ry;exact PySem.EqNone.eq_int_none (jba I q (by simp))
  |int j=>obtain⟨t',rfl⟩:=ry;exact eq_int (jba I q jsx)
  |str j=>obtain⟨t',rfl⟩:=ry;exact PySem.EqMixed.eq_int_str (jba I q (by simp))
  |_=>exact absurd (show false=true from hs) Bool.false_ne_true
 |str i =>
  obtain⟨t,rfl⟩:=rx
  cases y with
  |non=>cases ry;exact PySem.EqNone.eq_str_none (jba I q (by simp))
  |bl j=>cases ry;exact PySem.EqMixed.eq_str_bool (jba I q (by simp))
  |int j=>obtain⟨t',rfl⟩:=ry;exact PySem.EqMixed.eq_str_int (jba I q (by simp))
  |str j=>obtain⟨t',rfl⟩:=ry;exact eq_str (jba I q jsw)
  |_=>exact absurd (show false=true from hs) Bool.false_ne_true
 |byt i =>
  obtain⟨t,rfl⟩:=rx
  cases y with
  |byt j=>obtain⟨t',rfl⟩:=ry;exact PySem.W.eq_bytes (jba I q jsy)
  |_=>exact absurd (show false=true from hs) Bool.false_ne_true
 |_=>cases y<;>exact absurd (show false=true from hs) Bool.false_ne_true
theorem jxd:OpR X (compareOp .NotEq) rNe:=by
 intro pins s σ H x y v u Q I rx ry h
 obtain⟨hs,q⟩:=h
 cases x with
 |non =>
  cases rx
  cases y with
  |non=>cases ry;exact PySem.EqNone.ne_none_none (jba I q (by simp))
  |bl j=>cases ry;exact PySem.EqNone.ne_none_bool (jba I q (by simp))
  |int j=>obtain⟨t',rfl⟩:=ry;exact PySem.EqNone.ne_none_int (jba I q (by simp))
  |str j=>obtain⟨t',rfl⟩:=ry;exact PySem.EqNone.ne_none_str (jba I q (by simp))
  |_=>exact absurd (show false=true from hs) Bool.false_ne_true
 |bl i =>
  cases rx
  cases y with
  |non=>cases ry;exact PySem.EqNone.ne_bool_none (jba I q (by simp))
  |bl j=>cases ry;exact ne_bool (jba I q (congrArg not jv2))
  |str j=>obtain⟨t',rfl⟩:=ry;exact PySem.EqMixed.ne_bool_str (jba I q (by simp))
  |_=>exact absurd (show false=true from hs) Bool.false_ne_true
 |int i =>
  obtain⟨t,rfl⟩:=rx
  cases y with
  |non=>cases ry;exact PySem.EqNone.ne_int_none (jba I q (by simp))
  |int j=>obtain⟨t',rfl⟩:=ry;exact ne_int (jba I q (congrArg not jsx))
  |str j=>obtain⟨t',rfl⟩:=ry;exact PySem.EqMixed.ne_int_str (jba I q (by simp))
  |_=>exact absurd (show false=true from hs) Bool.false_ne_true
 |str i =>
  obtain⟨t,rfl⟩:=rx
  cases y with
  |non=>cases ry;exact PySem.EqNone.ne_str_none (jba I q (by simp))
  |bl j=>cases ry;exact PySem.EqMixed.ne_str_bool (jba I q (by simp))
  |int j=>obtain⟨t',rfl⟩:=ry;exact PySem.EqMixed.ne_str_int (jba I q (by simp))
  |str j=>obtain⟨t',rfl⟩:=ry;exact ne_str (jba I q (congrArg not jsw))
  |_=>exact absurd (show false=true from hs) Bool.false_ne_true
 |byt i =>
  obtain⟨t,rfl⟩:=rx
  cases y with
  |byt j=>obtain⟨t',rfl⟩:=ry;exact PySem.W.ne_bytes (jba I q (congrArg not jsy))
  |_=>exact absurd (show false=true from hs) Bool.false_ne_true
 |_=>cases y<;>exact absurd (show false=true from hs) Bool.false_ne_true
theorem op_lt:OpR X (compareOp .Lt) (rI0 fun i j=>.bl (decide (i < j))):=opB0 fun _ _ _ _ _ _ _ q=>lt_int q
theorem op_gt:OpR X (compareOp .Gt) (rI0 fun i j=>.bl (decide (j < i))):=opB0 fun _ _ _ _ _ _ _ q=>gt_int q
theorem op_ge:OpR X (compareOp .GtE) (rI0 fun i j=>.bl (decide (j≤i))):=opB0 fun _ _ _ _ _ _ _ q=>ge_int q
theorem jrq:OpR X (compareOp .Lt) (fun x y H Q=>∃i j,x=.str i∧y=.str j∧Q (.bl (decide (i.cps.toList < j.cps.toList))) H):=by
 intro pins s σ H x y v u Q I rx ry h
 obtain⟨i,j,rfl,rfl,q⟩:=h
 obtain⟨t,rfl⟩:=rx
 obtain⟨t',rfl⟩:=ry
 exact lt_str (jba I q rfl)
theorem jzt:OpR X (compareOp .Is) (fun x y H Q=>y=.non∧Q (.bl (decide (x=.non))) H):=by
 intro pins s σ H x y v u Q I rx ry h
 obtain⟨rfl,q⟩:=h
 cases ry
 refine is_none_gen (jba I q ?_)
 cases x<;>first
  | (cases rx;rfl)
  | (obtain⟨t,rfl⟩:=rx;rfl)
theorem jnj:OpR X (compareOp .IsNot) (fun x y H Q=>y=.non∧Q (.bl (!decide (x=.non))) H):=by
 intro pins s σ H x y v u Q I rx ry h
 obtain⟨rfl,q⟩:=h
 cases ry
 refine isnot_none_gen (jba I q ?_)
 cases x<;>first
  | (cases rx;rfl)
  | (obtain⟨t,rfl⟩:=rx;rfl)
theorem OpR.or {f:Value→Value→Sem Value} {r r':R2} (h:OpR X f r) (h':OpR X f r'):OpR X f (fun x y H Q=>r x y H Q∨r' x y H Q):=by
 intro pins s σ H x y v u Q I rx ry q
 rcases q with q | q
 ·exact h pins s σ H x y v u Q I rx ry q
 ·exact h' pins s σ H x y v u Q I rx ry q
theorem jan (b:Expr) {op:CmpOp} (h:op≠.In:=by decide) (h2:op≠.NotIn:=by decide):behindInMarks op b=false:=by
 have e1:(op==CmpOp.In)=false:=by cases op<;>first | rfl | exact absurd rfl h
 have e2:(op==CmpOp.NotIn)=false:=by cases op<;>first | rfl | exact absurd rfl h2
 cases b<;>simp[behindInMarks,e1,e2]
theorem jw9 {op:CmpOp} {r:R2} (ho:OpR X (compareOp op) r) (ha:PE X a ta) (hb:PE X b tb) (hm:behindInMarks op b=false):PE X (.Compare a [op] [b] pos) (tOp r ta tb):=by
 intro pins s σ H Q I h
 exact wpAny_Compare1 (binT ha hb I h fun v u s2 x y H2 I2 rx ry q=>ho pins s2 σ H2 x y v u Q I2 rx ry q) hm
noncomputable def jp7 (t:TE):TT:=fun σ H Q=>t σ H fun x H'=>∃k,x=.bl k∧Q k H'
theorem jf7 {op:CmpOp} {r:R2} (ho:OpR X (compareOp op) r) (ha:PE X a ta) (hb:PE X b tb) (hm:behindInMarks op b=false):PT X (.Compare a [op] [b] pos) (jp7 (tOp r ta tb)):=by
 intro pins s σ H Q I h
 refine wpAny_isTrue_Compare1 (thn (ha pins s σ H _ I h) fun v s1 ⟨x,H1,I1,r1,q1⟩=>thn (hb pins s1 σ H1 _ I1 q1) fun u s2 ⟨y,H2,I2,r2,q2⟩ =>
  thn (ho pins s2 σ H2 x y v u _ I2 r1 r2 q2) fun c s3 ⟨z,H3,I3,r3,k,e,q3⟩=>?_) hm
 subst e
 cases r3
 exact wpAny_truthy_bool ⟨H3,I3,q3⟩
theorem jj3:(sizeLine:Nat) < 2 ^ 63:=by rw[sizeLine_eq];decide
theorem jee {x:V} {us:List Value} (r:Vals [x] us):∃u,us=[u]∧RelV x u:=by
 cases r with
 |cons r1 r2=>cases r2;exact⟨_,rfl,r1⟩
theorem jyc {x y:V} {us:List Value} (r:Vals [x,y] us):∃u w',us=[u,w']∧RelV x u∧RelV y w':=by
 cases r with
 |cons r1 r2 =>
  cases r2 with
  |cons r3 r4=>cases r4;exact⟨_,_,rfl,r1,r3⟩
theorem jtb:CallR X (.type "int") (fun xs H Q=>(∃i,xs=[.int i]∧Q (.int i) H)∨∃k,xs=[.bl k]∧Q (.int (if k then 1 else 0)) H):=by
 intro pins s σ H xs us Q I r h
 rcases h with⟨i,rfl,q⟩ | ⟨k,rfl,q⟩
 ·obtain⟨u,rfl,t,rfl⟩:=jee r
  exact call_int_int ⟨.int i,H,I,⟨_,rfl⟩,q⟩
 ·obtain⟨u,rfl,r1⟩:=jee r
  cases r1
  exact call_int_bool ⟨.int (if k then 1 else 0),H,I.tok _,⟨_,rfl⟩,q⟩
end
structure ObjM (h:Heap) (x dx C:Addr) (mA:Str→Option Value):Prop where
 obj:h.get? x=some (PySem.W.instObj C dx)
 ns:h.Ns1 dx mA
 ne:dx≠x
theorem jr5 {h:Heap} {dx:Addr} {mA:Str→Option Value} (n:h.Ns1 dx mA):∃od,h.get? dx=some od∧∀name,PySem.W.lookIn name od=some (mA name):=by
 obtain⟨o,es,ep,ho,hd,hk,_,hm⟩:=n
 refine⟨o,ho,fun name=>?_⟩
 have e:=hm name
 unfold nsFind findBy at e
 rw[←Array.find?_toList]at e
 unfold PySem.W.lookIn
 rw[hd]
 dsimp only
 split
 ·rename_i y q
  rw[q]at e
  exact congrArg some e
 ·rename_i q
  rw[q]at e
  have a:es.toList.any (·.refKey)=false:=by
   rw[List.any_eq_false]
   intro y hy
   obtain⟨z,t,hkey⟩:=hk y (Array.mem_toList_iff.mp hy)
   simp[DictEntry.refKey,hkey]
  have a':¬es.toList.any (·.refKey)=true:=by rw[a];exact Bool.false_ne_true
  rw[if_neg a']
  exact congrArg some e
theorem ObjM.look {h:Heap} {x dx C:Addr} {mA:Str→Option Value} (I:ObjM h x dx C mA):∃od,PySem.W.InstAt h x (PySem.W.instObj C dx) C (some od)∧∀name,PySem.W.lookIn name od=some (mA name) :=
 let⟨od,ho,hl⟩:=jr5 I.ns
 ⟨od,⟨I.obj,rfl,rfl,ho⟩,hl⟩
section
variable {prog:Program} {w:World} {A:Around} {E:Value→Shared→Prop} {s:Shared} {K:PySem.W.Frag} {x dx C f:Addr} {mA:Str→Option Value} {name:Str} {v:Value}
end
theorem RelO.some_of {v:V} {o:Option Value} (r:RelO (some v) o):∃u,o=some u∧RelV v u:=by
 cases o with
 |none=>exact(show False from r).elim
 |some u=>exact⟨u,rfl,r⟩
section
variable {P:Program} {w:World} {H H':Hp} {h h':Heap} {a C dx:Addr} {fs fs':List (Str×V)}
theorem jxm (hok:HOk P w H h) (e:H a=some (.ins C dx fs)):∃mA,ObjM h a dx C mA∧(∀f,RelO (fs.lookup f) (mA f))∧PySem.Within mA (fs.map (·.1))∧fs.length≤1000∧H dx=some (.own a):=by
 obtain⟨d,z,ne,ob,mA,n,r,q⟩:=(show ObjOk P w H h a (.ins C dx fs)from hok a _ e)
 exact⟨mA,⟨ob,n,ne⟩,r,q,z,d⟩
end
structure Cls (K:PySem.W.Frag) (C:Addr):Prop where
 pg:PySem.W.plainGet K C Str.empty=true
 hd:PySem.W.hasDictIn K C=true
 po:PySem.W.plainOver K C=true
 sa:PySem.W.findIn K (.ref C) "__setattr__"=some (some (.builtin "object.__setattr__"))
theorem Cls.get {K:PySem.W.Frag} {C:Addr} (c:Cls K C) (f:Str):PySem.W.plainGet K C f=true:=c.pg
section
variable {X:Cx} {pins:List (Addr×Obj)} {σ:St} {H:Hp} {s:Shared} {a C dx:Addr} {fs:List (Str×V)} {f:Str} {v:V} {A:Around} {E:Value→Shared→Prop}
end
section
variable {X:Cx} {o e value:Expr} {f:Str} {pos pos' tpos:Pos} {ta tv:TE}
end
section
variable {X:Cx} {pins:List (Addr×Obj)} {σ:St} {H:Hp} {s:Shared} {A:Around} {E:Value→Shared→Prop} {Q:Value→Shared→Prop} {c:Value} {b:Bool}
inductive TyOf (K:PySem.W.Frag) (H:Hp):V→Value→Prop where
 |non:TyOf K H .non (.type "NoneType")
 |bl (x:Bool):TyOf K H (.bl x) (.type "bool")
 |int (i:Int):TyOf K H (.int i) (.type "int")
 |str (x:Str):TyOf K H (.str x) (.type "str")
 |flt (x:UInt64):TyOf K H (.flt x) (.type "float")
 |lst {a:Addr} {xs:List V} (e:H a=some (.lst xs)):TyOf K H (.ref a) (.type "list")
 |frz {a:Addr} {o:Obj} {xs:List V} (e:H a=some (.frz o (.lst xs))):TyOf K H (.ref a) (.type "list")
 |tup {a:Addr} {xs:List V} (e:H a=some (.tup xs)):TyOf K H (.ref a) (.type "tuple")
 |dK {a:Addr} {kvs:List (Key×V)} (e:H a=some (.dK kvs)):TyOf K H (.ref a) (.type "dict")
 |dT {a:Addr} {kvs:List (List Key×V)} (e:H a=some (.dT kvs)):TyOf K H (.ref a) (.type "dict")
 |ins {a C dx:Addr} {fs:List (Str×V)} (e:H a=some (.ins C dx fs)) (cl:Cls K C) (ha:PySem.W.findIn K (.ref C) "__class__"=some (some (.builtin "object.__class__")))
   (hn:PySem.W.specialIn K (.builtin "object.__class__") "__get__"=some (some (.builtin "getset_descriptor.__get__"))) (htk:PySem.W.takesIn K (.builtin "object.__class__")=some true)
   (hm:PySem.W.mroIn K C (.type "object")=some true):TyOf K H (.ref a) (.ref C)
theorem jsf {x:V} {u t:Value} (I:Inv X pins σ H s) (rx:RelV x u) (ty:TyOf X.K H x t) (e:PySem.W.kitOne X.K t c=some b) (h:∀tk,Q (.bool b) {s with toks:=tk}) :
  wpAny (model X.prog X.w) A (call (.builtin "isinstance") [u,c]) Q E s:=by
 cases ty with
 |non=>cases(show u=Value.none from rx);exact PySem.W.kia_one PySem.W.kitx_none I.kIn True.intro e (fun z=>nomatch z) h
 |bl y=>cases(show u=Value.bool y from rx);exact PySem.W.kia_one PySem.W.kitx_bool I.kIn True.intro e (fun z=>nomatch z) h
 |int i=>obtain⟨t,q⟩:=(show ∃t,u=Value.int i t from rx);cases q;exact PySem.W.kia_one PySem.W.kitx_int I.kIn True.intro e (fun z=>nomatch z) h
 |str y=>obtain⟨t,q⟩:=(show ∃t,u=Value.str y t from rx);cases q;exact PySem.W.kia_one PySem.W.kitx_str I.kIn True.intro e (fun z=>nomatch z) h
 |flt y=>obtain⟨t,q⟩:=(show ∃t,u=Value.float y t from rx);cases q;exact PySem.W.kia_one PySem.W.kitx_float I.kIn True.intro e (fun z=>nomatch z) h
 |@lst a xs ea =>
  cases(show u=Value.ref a from rx)
  obtain⟨_,_,n,_,h1⟩:=(show ObjOk X.prog X.w H s.heap a (.lst xs)from I.hok a _ ea)
  exact PySem.W.kia_one PySem.W.kitx_list I.kIn ⟨_,h1,rfl⟩ e (fun z=>nomatch z) h
 |@frz a ob xs ea =>
  cases(show u=Value.ref a from rx)
  obtain⟨_,_,_,n,_,h1⟩:=(show ObjOk X.prog X.w H s.heap a (.frz ob (.lst xs))from I.hok a _ ea)
  exact PySem.W.kia_one PySem.W.kitx_list I.kIn ⟨_,h1,rfl⟩ e (fun z=>nomatch z) h
 |@tup a xs ea =>
  cases(show u=Value.ref a from rx)
  obtain⟨_,_,_,p⟩:=(show ObjOk X.prog X.w H s.heap a (.tup xs)from I.hok a _ ea)
  obtain⟨o,h1,h2,_⟩:=p
  exact PySem.W.kia_one PySem.W.kitx_tuple I.kIn ⟨o,h1,h2⟩ e (fun z=>nomatch z) h
 |@dK a kvs ea =>
  cases(show u=Value.ref a from rx)
  obtain⟨_,_,vs,_,p⟩:=(show ObjOk X.prog X.w H s.heap a (.dK kvs)from I.hok a _ ea)
  obtain⟨o,es,ep,h1,h2,_⟩:=p
  exact PySem.W.kia_one PySem.W.kitx_dict I.kIn ⟨o,h1,h2.1⟩ e (fun z=>nomatch z) h
 |@dT a kvs ea =>
  cases(show u=Value.ref a from rx)
  obtain⟨_,_,xs,_,o,es,ep,h1,h2,_⟩:=(show ObjOk X.prog X.w H s.heap a (.dT kvs)from I.hok a _ ea)
  exact PySem.W.kia_one PySem.W.kitx_dict I.kIn ⟨o,h1,h2.1⟩ e (fun z=>nomatch z) h
 |@ins a C dx fs ea cl ha hn htk hm =>
  cases(show u=Value.ref a from rx)
  obtain⟨mA,O,_⟩:=jxm I.hok ea
  obtain⟨od,J,_⟩:=O.look
  exact PySem.W.kia_one (PySem.W.kitx_own (cl.get _) cl.hd ha hn htk hm) I.kIn J e (fun z=>nomatch z) h
end
structure Room (k:Nat) (A:Around):Prop where
 hd:A.handled=none
 dp:A.depth+3*k+5 < recursionLimit
 un:A.units+16*k+200 < cLine
 gd:A.guards=some []
theorem Room.mono {j k:Nat} {A:Around} (r:Room k A) (h:j≤k):Room j A:=⟨r.hd,by have:=r.dp;omega,by have:=r.un;omega,r.gd⟩
theorem Room.deeper {k:Nat} {A:Around} (r:Room (k+1) A) (env:Env):Room k (A.deeper env) :=
 ⟨r.hd,by have:=r.dp;show A.depth+1+3*k+5 < _;omega,by have:=r.un;show A.units+3+16*k+200 < _;omega,r.gd⟩
theorem Room.in1 {k:Nat} {A:Around} (r:Room (k+1) A):Room k A.in1 :=
 ⟨r.hd,by have:=r.dp;show A.depth+3*k+5 < _;omega,by have:=r.un;show A.units+1+16*k+200 < _;omega,r.gd⟩
theorem Room.depth {k:Nat} {A:Around} (r:Room k A):A.depth < recursionLimit:=by have:=r.dp;omega
theorem Room.units {k:Nat} {A:Around} (r:Room k A):A.units+64 < cLine:=by have:=r.un;omega
theorem Room.units0 {k:Nat} {A:Around} (r:Room k A):A.units < cLine:=by have:=r.un;omega
noncomputable def tNil:TA:=fun _ H Q=>Q [] H
noncomputable def jds (ta:TE) (tr:TA):TA:=fun σ H Q=>ta σ H fun x H1=>tr σ H1 fun xs H2=>Q (x::xs) H2
section
variable {X:Cx} {e:Expr} {es:List Expr} {te:TE} {t:TA} {pos:Pos}
theorem jb6:PA X [] tNil:=fun _ _ _ _ H Q I h=>Calls.spliced_nil ⟨[],H,I,.nil,h⟩
theorem ja4 (ha:PE X e te) (hr:PA X es t) (hs:starEach (e::es) X.env=(false,eval e X.env)::starEach es X.env:=by rfl):PA X (e::es) (jds te t):=by
 intro pos pins s σ H Q I h
 rw[hs]
 show wpAny _ _ (spliced ((false,eval e X.env)::backTo pos (starEach es X.env))) _ _ s
 refine Calls.spliced_cons (thn (ha pins s σ H _ I h) fun u s1 ⟨x,H1,I1,r1,q1⟩=>?_)
 exact thn (hr pos pins s1 σ H1 _ I1 q1) fun us s2 ⟨xs,H2,I2,r2,q2⟩=>⟨x::xs,H2,I2,.cons r1 r2,q2⟩
noncomputable def tTup (t:TA):TE:=fun σ H Q=>t σ H fun xs H1=>xs.length≤sizeLine∧∀p,H1 p=none→Q (.ref p) (upd H1 p (.tup xs))
noncomputable def tLst (t:TA):TE:=fun σ H Q=>t σ H fun xs H1=>xs.length≤sizeLine∧∀p,H1 p=none→Q (.ref p) (upd H1 p (.lst xs))
theorem jzf {x1} (h:PA X es t):PE X (.Tuple es x1 pos) (tTup t):=by
 intro pins s σ H Q I hq
 refine wpAny_Tuple_spliced (thn (h pos pins s σ H _ I hq) fun us s1 ⟨xs,H1,I1,r,z,q⟩=>⟨by rw[←r.length];exact z,?_⟩)
 have hf:H1 s1.heap.objs.size=none:=I1.hok.fresh (Nat.le_refl _)
 refine⟨.ref s1.heap.objs.size,upd H1 s1.heap.objs.size (.tup xs),I1.laid (t':=s1.toks) (fun b u e=>Heap.get?_push_of_some _ e) (Nat.le_refl _) ?_,rfl,q _ hf⟩
 exact⟨z,us,r,IsTupP.new _ _⟩
theorem jrm (h:PA X es t):PE X (.List es pos) (tLst t):=by
 intro pins s σ H Q I hq
 refine wpAny_List_spliced (thn (h pos pins s σ H _ I hq) fun us s1 ⟨xs,H1,I1,r,z,q⟩=>⟨by rw[←r.length];exact z,?_⟩)
 have hf:H1 s1.heap.objs.size=none:=I1.hok.fresh (Nat.le_refl _)
 refine⟨.ref s1.heap.objs.size,upd H1 s1.heap.objs.size (.lst xs),I1.laid (t':=s1.toks) (fun b u e=>Heap.get?_push_of_some _ e) (Nat.le_refl _) ?_,rfl,q _ hf⟩
 exact⟨z,us,0,r,Heap.get?_push_size _ rfl⟩
end
noncomputable abbrev Sp:=List V→Hp→VK→XK→Prop
noncomputable abbrev CXT:=List Env→Hp→Shared→XK→Value→Shared→Prop
structure Env0 (P:Program) (w:World) (K:PySem.W.Frag) (mg:Str→Option Value) (base:Heap) (A:Around) (outer:List Env) (s:Shared) (H:Hp):Prop where
 frames:A.frames=some outer
 mod:Mod K mg base
 bs:∀b o,base.get? b=some o→s.heap.get? b=some o∧H b=none
 bsz:base.objs.size≤s.heap.objs.size
 funs:s.heap.FunFrames base outer
 frf:∀b∈frs outer,H b=none
 hok:HOk P w H s.heap
 bare:AllBare s.gens
noncomputable def CE (outer:List Env) (P:Program) (w:World) (H:Hp) (s:Shared) (Q:VK) (u:Value) (s':Shared):Prop :=
 ∃v H',s'.os=s.os∧AllBare s'.gens∧Un (frs outer) [] H H' s.heap s'.heap∧HOk P w H' s'.heap∧RelV v u∧Q v H'
noncomputable def CR (CX:CXT) (outer:List Env) (P:Program) (w:World) (H:Hp) (s:Shared) (Q:VK) (E:XK) (r:Result) (s':Shared):Prop :=
 match r with
 |.ok (.ret u)=>CE outer P w H s Q u s'
 |.ok _=>False
 |.error e=>CX outer H s E e s'
structure FnOk (P:Program) (w:World) (K:PySem.W.Frag) (mg:Str→Option Value) (base:Heap) (CX:CXT) (k:Nat) (f:Addr) (fd:FuncData) (ps:List Str) (sp:Sp):Prop where
 len:∀vs H Q E,sp vs H Q E→vs.length=ps.length
 run:∀(A:Around) (outer:List Env) (s:Shared) (H:Hp) (args:Args) (us:List Value) (vs:List V) (Q:VK) (E:XK),Room k A→Env0 P w K mg base A outer s H→BindsTo s fd args (ps.zip us)→Vals vs us→sp vs H Q E →
  codeAny (model P w) A (.call (.ref f) args) (CR CX outer P w H s Q E) s
theorem FnOk.imp {P:Program} {w:World} {K:PySem.W.Frag} {mg:Str→Option Value} {base:Heap} {CX:CXT} {k:Nat} {f:Addr} {fd:FuncData} {ps:List Str} {sp sp':Sp} (F:FnOk P w K mg base CX k f fd ps sp)
  (h:∀vs H Q E,sp' vs H Q E→sp vs H Q E):FnOk P w K mg base CX k f fd ps sp' :=
 ⟨fun vs H Q E q=>F.len vs H Q E (h _ _ _ _ q),fun A outer s H args us vs Q E hr he hb hv hs=>F.run A outer s H args us vs Q E hr he hb hv (h _ _ _ _ hs)⟩
theorem Env0.in1 {P:Program} {w:World} {K:PySem.W.Frag} {mg:Str→Option Value} {base:Heap} {A:Around} {outer:List Env} {s:Shared} {H:Hp} (e:Env0 P w K mg base A outer s H) :
  Env0 P w K mg base A.in1 outer s H:=⟨e.frames,e.mod,e.bs,e.bsz,e.funs,e.frf,e.hok,e.bare⟩
section
variable {X:Cx} {pins:List (Addr×Obj)} {σ:St} {H:Hp} {s s':Shared}
theorem Inv.env0 (I:Inv X pins σ H s):Env0 X.prog X.w X.K X.mg X.base X.A X.stack s H :=
 ⟨I.ok.frames,I.ok.mod,I.bs,Nat.le_trans I.ok.bsz I.sz,I.stack,I.stkFree,I.hok,I.bare⟩
theorem Inv.after {Q:VK} {u:Value} (I:Inv X pins σ H s) (h:CE X.stack X.prog X.w H s Q u s'):EP X pins σ Q u s':=by
 obtain⟨v,H',os,bare,un,hok,r,q⟩:=h
 obtain⟨hh,g,d,t,os'⟩:=s'
 obtain rfl:os'=s.os:=os
 exact⟨v,H',I.call (h':=hh) (g':=g) (d':=d) (t':=t) (ch:=[]) un hok bare (fun b z=>absurd z (by simp)),r,q⟩
end
noncomputable def jqa (sp:Sp) (dvs:List V) (E:XK) (t:TA):TE:=fun σ H Q=>t σ H fun vs H1=>sp (vs++dvs) H1 Q E
noncomputable def Binds (K:PySem.W.Frag) (fd:FuncData) (ps:List Str) (ds:List Value):Prop :=
 ∀(s:Shared) (us:List Value),K.In s.heap→(us++ds).length=ps.length→BindsTo s fd ⟨us,[]⟩ (ps.zip (us++ds))
theorem Binds.all {K:PySem.W.Frag} {fd:FuncData} {ps:List Str} (h:∀us:List Value,us.length=ps.length→bindArgs fd ⟨us,[]⟩=pure (ps.zip us)):Binds K fd ps []:=fun s us _ hl=>by
 rw[List.append_nil]at hl ⊢
 exact .of_eq (h us hl)
noncomputable def jtj (CX:CXT) (X:Cx) (E:XK):Prop:=∀(pins:List (Addr×Obj)) (σ:St) (H:Hp) (s:Shared) (e:Value) (s':Shared),Inv X pins σ H s→CX X.stack H s E e s'→X.xe e s'
section
variable {X:Cx} {CX:CXT} {k:Nat} {f C:Addr} {fd:FuncData} {ps:List Str} {sp:Sp} {dvs:List V} {ds:List Value} {E:XK} {x m:Str} {p pos apos:Pos} {e o:Expr} {es:List Expr} {ta:TE} {t:TA}
theorem jyz {pins:List (Addr×Obj)} {σ:St} {H:Hp} {s:Shared} {Q:VK} {us:List Value} {vs:List V} (F:FnOk X.prog X.w X.K X.mg X.base CX k f fd ps sp) (hr:Room k X.A) (hb:Binds X.K fd ps ds) (hd:Vals dvs ds) (hx:jtj CX X E)
  (I:Inv X pins σ H s) (r:Vals vs us) (h:sp (vs++dvs) H Q E):wpAny (model X.prog X.w) X.A (call (.ref f) us) (EP X pins σ Q) X.xe s:=by
 have r2:Vals (vs++dvs) (us++ds):=r.append hd
 have hl:(us++ds).length=ps.length:=by rw[←r2.length];exact F.len _ _ _ _ h
 refine wpAny_call (codeAny_mono (F.run X.A X.stack s H ⟨us,[]⟩ (us++ds) (vs++dvs) Q E hr I.env0 (hb s us I.kIn hl) r2 h) fun r s' hq=>?_)
 cases r with
 |error e=>exact hx pins σ H s e s' I hq
 |ok fl =>
  cases fl with
  |ret u=>exact I.after hq
  |next=>exact False.elim hq
  |brk=>exact False.elim hq
  |cont=>exact False.elim hq
theorem jrn (F:FnOk X.prog X.w X.K X.mg X.base CX k f fd ps sp) (hr:Room k X.A) (hg:Gl X x) (hm:X.mg x=some (.ref f)) (hk:PySem.W.keepIn X.K (.ref f)=true) (hb:Binds X.K fd ps ds) (hd:Vals dvs ds) (hx:jtj CX X E)
  (ha:PA X (e::es) t) (hdb:(x==("__debug__":Str))=false:=by decide) (he:starEach (e::es) X.env=(false,eval e X.env)::starEach es X.env:=by rfl) (hpl:(backTo pos (starEach es X.env)).any (·.1)=false:=by rfl) :
  PE X (.Call (.Name x p) (e::es) [] pos) (jqa sp dvs E t):=by
 intro pins s σ H Q I h
 refine wpAny_Call_Name_kw (jr6 I hg hm ?_ hdb)
 refine PySem.W.callWith_K (h₀:=X.base) I.ok.mod.kin hk (thn (ha pos pins s σ H _ I h) fun us s1 ⟨vs,H1,I1,r,q⟩=>⟨I1.kIn,?_⟩) he hpl
 exact jyz F hr hb hd hx I1 r q
end
section
variable {X:Cx} {CX:CXT} {k:Nat} {f C:Addr} {fd:FuncData} {ps ks:List Str} {sp:Sp} {E:XK} {x m:Str} {p pos apos kpos:Pos} {e o:Expr} {es:List Expr} {kws:List Keyword} {te ta:TE} {t tk:TA} {nm:Option Str}
variable {g:List Value→List Value→List Value} {gV:List V→List V→List V}
end
structure FnScope (N P:List Str) (sc:Scope):Prop where
 kind:sc.kind=.function
 co:sc.isCoroutine=false
 gen:sc.isGenerator=false
 nd:N.Nodup
 pre:N.take P.length=P
 par:∀x∈P,sc.names.lookup x=some .local∨sc.names.lookup x=some .cell
 nofree:∀y∈sc.names,y.2≠.free
theorem jm1 {kindOf:Str→Option NameKind} {x:Str}:∀{binds:List (Str×Value)} {m:Str→Option Value},(∀v,(x,v)∉binds)→bindL kindOf binds m x=m x
 |[],_,_=>rfl
 | (n,v)::r,m,h=>by
  unfold bindL
  rw[jm1 fun w hw=>h w (List.mem_cons_of_mem _ hw)]
  split
  ·have:x≠n:=by rintro rfl;exact h v List.mem_cons_self
   simp[this]
  ·rfl
theorem jm3 {kindOf:Str→Option NameKind} {x:Str}:∀{binds:List (Str×Value)} {m:Str→Option Value},(∀v,(x,v)∉binds)→bindC kindOf binds m x=m x
 |[],_,_=>rfl
 | (n,v)::r,m,h=>by
  unfold bindC
  rw[jm3 fun w hw=>h w (List.mem_cons_of_mem _ hw)]
  split
  ·rfl
  ·have:x≠n:=by rintro rfl;exact h v List.mem_cons_self
   simp[this]
theorem jm2 {kindOf:Str→Option NameKind} {x:Str} {v:Value}:∀{P:List Str} {vs:List Value} {i:Nat} {m:Str→Option Value},P.Nodup→P[i]?=some x→vs[i]?=some v→kindOf x=some .local →
  bindL kindOf (P.zip vs) m x=some v
 |[],_,_,_,_,h,_,_=>by simp at h
 |_::_,[],_,_,_,_,h,_=>by simp at h
 |p::P,w::vs,0,m,nd,h1,h2,hk=>by
  simp at h1 h2;subst h1;subst h2
  show bindL kindOf ((p,w)::P.zip vs) m p=_
  unfold bindL
  rw[jm1 fun v hv=>(List.nodup_cons.mp nd).1 (List.of_mem_zip hv).1,if_pos hk]
  simp
 |p::P,w::vs,i+1,m,nd,h1,h2,hk=>by
  show bindL kindOf ((p,w)::P.zip vs) m x=_
  unfold bindL
  exact jm2 (i:=i) (List.nodup_cons.mp nd).2 (by simpa using h1) (by simpa using h2) hk
theorem jm4 {kindOf:Str→Option NameKind} {x:Str} {v:Value}:∀{P:List Str} {vs:List Value} {i:Nat} {m:Str→Option Value},P.Nodup→P[i]?=some x→vs[i]?=some v→kindOf x≠some .local →
  bindC kindOf (P.zip vs) m x=some v
 |[],_,_,_,_,h,_,_=>by simp at h
 |_::_,[],_,_,_,_,h,_=>by simp at h
 |p::P,w::vs,0,m,nd,h1,h2,hk=>by
  simp at h1 h2;subst h1;subst h2
  show bindC kindOf ((p,w)::P.zip vs) m p=_
  unfold bindC
  rw[jm3 fun v hv=>(List.nodup_cons.mp nd).1 (List.of_mem_zip hv).1,if_neg hk]
  simp
 |p::P,w::vs,i+1,m,nd,h1,h2,hk=>by
  show bindC kindOf ((p,w)::P.zip vs) m x=_
  unfold bindC
  exact jm4 (i:=i) (List.nodup_cons.mp nd).2 (by simpa using h1) (by simpa using h2) hk
noncomputable def start (N:List Str) (vs:List V):St:=vs.map some++List.replicate (N.length - vs.length) none
noncomputable def cxOf (CX:CXT) (P:Program) (w:World) (K:PySem.W.Frag) (mg:Str→Option Value) (base:Heap) (N:List Str) (qual:Str) (scope:Scope) (f:Addr) (cd:Value) (A:Around) (outer:List Env) (s:Shared) (H:Hp) (E:XK):Cx where
 prog:=P
 w:=w
 K:=K
 mg:=mg
 base:=base
 A:=A.deeper (envOfC qual scope s.heap.objs.size f cd)
 N:=N
 s₀:=s
 H₀:=H
 env:=envOfC qual scope s.heap.objs.size f cd
 outer:=outer
 stack:=envOfC qual scope s.heap.objs.size f cd::outer
 ex:=[]
 calm:=true
 fn:=fun _=>true
 pn:=[]
 xe:=fun e s'=>wpAny (model P w) (A.deeper (envOfC qual scope s.heap.objs.size f cd)) (leaving (envOfC qual scope s.heap.objs.size f cd) e) (fun _ s''=>CX outer H s E e s'') (fun e' s''=>CX outer H s E e' s'') s'
theorem jot {sc:Scope} {n:Nat} {x:Str} (h:sc.names.lookup x=some .cell):∃c,(cellsFrom n sc.names []).lookup x=some c:=by
 have q:=PySem.W.cellsFrom_some sc.names n [] (.inl h)
 exact Option.isSome_iff_exists.mp q
theorem jsg {CX:CXT} {P:Program} {w:World} {K:PySem.W.Frag} {mg:Str→Option Value} {base:Heap} {N ps:List Str} {qual:Str} {scope:Scope} {f:Addr} {cd:Value} {A:Around} {outer:List Env} {s s1:Shared} {H:Hp} {E:XK} {us:List Value} {vs:List V}
  (S:FnScope N ps scope) (hd:A.handled=none) (e0:Env0 P w K mg base A outer s H) (hl:vs.length=ps.length) (r:Vals vs us)
  (x:InCallC s s.heap.objs.size (bindL (envOfC qual scope s.heap.objs.size f cd).kindOf (ps.zip us) fun _=>none) (cellsFrom (s.heap.objs.size+1) scope.names []) (bindC (envOfC qual scope s.heap.objs.size f cd).kindOf (ps.zip us) fun _=>none) s1) :
  Inv (cxOf CX P w K mg base N qual scope f cd A outer s H E) [] (start N vs) H s1:=by
 have hpl:ps.length≤N.length:=by have:=congrArg List.length S.pre;rw[List.length_take]at this;omega
 obtain⟨h1,tk,rfl,hk⟩:=x.done
 have noA:∀b:Addr,b∉(cxOf CX P w K mg base N qual scope f cd A outer s H E).ex:=fun b z=>absurd (show b∈([]:List Addr)from z) (by simp)
 refine⟨⟨e0.mod,S.kind,rfl,rfl,Nat.le_refl _,fun y z c h1 h2=>?_,fun y hy=>?_,fun y c _ h=>?_,fun _=>hd,Around.frames_deeper e0.frames,.inr ⟨rfl,rfl⟩,fun b z=>absurd z (noA b),e0.bs,e0.bsz,fun b _ _=>noA b,fun b z=>absurd z (noA b),e0.funs,e0.frf⟩,
  rfl,e0.bare,Un.kept hk,⟨_,x.toInCall.ns,fun i y v h1 h2 h3=>?_⟩,fun y c h=>⟨_,x.cell y c h⟩,e0.hok.fresh (Nat.le_refl _),fun y c h=>?_,fun p hp=>absurd (show p∈([]:List (Addr×Obj))from hp) (by simp),e0.hok.kept hk,?_⟩
 ·exact name_of_addr x.apart (PySem.mem_of_lookup h1) (PySem.mem_of_lookup h2)
 ·have hy:scope.names.lookup y=some .cell∨scope.names.lookup y=some .free:=hy
  rcases hy with hy | hy
  ·exact jot hy
  ·exact absurd rfl (S.nofree _ (PySem.mem_of_lookup hy))
 ·exact Nat.le_of_lt (x.above y c (PySem.mem_of_lookup h))
 ·have hi:i < vs.length:=by
   unfold start at h2
   by_cases hi:i < vs.length
   ·exact hi
   ·rw[List.getElem?_append_right (by simpa using hi)]at h2
    rw[List.getElem?_replicate]at h2
    split at h2<;>cases h2
  have ha:vs[i]?=some v:=by
   unfold start at h2
   rw[List.getElem?_append_left (by simpa using hi),List.getElem?_map]at h2
   cases e:vs[i]? with
   |none=>rw[e]at h2;cases h2
   |some a=>rw[e]at h2;cases h2;rfl
  obtain⟨u,hu,rv⟩:=r.get ha
  have hp:ps[i]?=some y:=by
   rw[←S.pre,List.getElem?_take_of_lt (by omega)];exact h1
  have ndP:ps.Nodup:=by rw[←S.pre];exact S.nd.sublist (List.take_sublist _ _)
  refine⟨u,rv,?_⟩
  rcases S.par y (List.mem_of_getElem? hp)with k | k
  ·exact .inl ⟨k,jm2 ndP hp hu k⟩
  ·obtain⟨c,e⟩:=jot (n:=s.heap.objs.size+1) k
   refine .inr ⟨.inl k,c,e,?_⟩
   have q:=x.cell y c e
   rw[jm4 ndP hp hu (by show scope.names.lookup y≠_;rw[k];decide)]at q
   exact q
 ·exact e0.hok.fresh (Nat.le_of_lt (x.above y c (PySem.mem_of_lookup h)))
 ·unfold start
  show _=N.length
  rw[List.length_append,List.length_map,List.length_replicate]
  omega
theorem j1s {CX:CXT} {P:Program} {w:World} {K:PySem.W.Frag} {mg:Str→Option Value} {base:Heap} {k:Nat} {f:Addr} {name qual:Str} {params:Arguments} {body:List Stmt} {scope:Scope} {dV kV doc pm cdv ct oc:Value} {an od:Option Addr}
  {osl:Array (Option Value)} {N ps:List Str} {sp:Sp} (lk:K.lookup f=some ⟨oc,od,.func (PySem.W.fnOf name qual params body scope dV kV doc pm an cdv ct),osl⟩) (hcd:PySem.W.codeIn K cdv qual=true) (S:FnScope N ps scope)
  (len:∀vs H Q E,sp vs H Q E→vs.length=ps.length)
  (hbody:∀(A:Around) (outer:List Env) (s:Shared) (H:Hp) (vs:List V) (Q:VK) (E:XK),Room k (A.deeper (envOfC qual scope s.heap.objs.size f cdv))→sp vs H Q E →
   ∃t,PSs (cxOf CX P w K mg base N qual scope f cdv A outer s H E) body t∧t {nx:=fun _ H'=>Q .non H',rt:=Q} (start N vs) H) :
  FnOk P w K mg base CX (k+1) f (PySem.W.fnOf name qual params body scope dV kV doc pm an cdv ct) ps sp:=by
 refine⟨len,fun A outer s H args us vs Q E hr e0 hb r hsp=>?_⟩
 have hl:=len _ _ _ _ hsp
 have KX:K.In s.heap:=e0.mod.kin.keeps fun b o e=>(e0.bs b o e).1
 have lim:s.heap.NoLimit:=e0.mod.nolimit.keeps fun b o e=>(e0.bs b o e).1
 have hkind:∀y∈ps.zip us,scope.names.lookup y.1=some .local∨(scope.names.lookup y.1=some .cell∧((cellsFrom (s.heap.objs.size+1) scope.names []).lookup y.1).isSome=true):=fun⟨n,v⟩ hy=>by
  rcases S.par n (List.of_mem_zip hy).1 with q | q
  ·exact .inl q
  ·exact .inr ⟨q,PySem.W.cellsFrom_some _ _ _ (.inl q)⟩
 refine codeAny_call_function hr.depth (KX _ _ lk) rfl S.co S.gen rfl (PySem.W.codeRec_of KX hcd) (hb _ _ _ _ ?_)
 refine wpAny_newFunctionEnv_cells S.kind hkind fun env he s1 x=>?_
 subst he
 refine⟨lim.keeps x.toInCall.keep,codeAny_func ?_⟩
 obtain⟨t,ht,hq⟩:=hbody A outer s H vs Q E (hr.deeper _) hsp
 have I:Inv (cxOf CX P w K mg base N qual scope f cdv A outer s H E) [] (start N vs) H s1:=jsg S hr.hd e0 hl r x
 refine wpAny_mono (ht [] s1 (start N vs) H _ I hq) (fun fl s' hs=>?_) fun e s' hs=>hs
 have fin:∀{σ':St} {H':Hp} {v:V} {u:Value},Inv (cxOf CX P w K mg base N qual scope f cdv A outer s H E) [] σ' H' s'→RelV v u→Q v H'→CE outer P w H s Q u s' :=
  fun{σ' H' v u} J rv q=>⟨v,H',J.os,J.bare,J.base,J.hok,rv,q⟩
 cases fl with
 |ret u =>
  obtain⟨v,σ',H',J,rv,q⟩:=hs
  exact fin J rv q
 |next =>
  obtain⟨σ',H',J,q⟩:=hs
  exact fin (v:=V.non) (u:=Value.none) J rfl q
 |brk =>
  obtain⟨_,_,_,q⟩:=hs
  exact False.elim q
 |cont =>
  obtain⟨_,_,_,q⟩:=hs
  exact False.elim q
section
variable {X:Cx} {x:Str} {p pos:Pos} {e:Expr} {es:List Expr} {t:TA} {id T:String} {r:List V→Hp→VK→Prop}
noncomputable def tCB (r:List V→Hp→VK→Prop) (t:TA):TE:=fun σ H Q=>t σ H fun vs H1=>r vs H1 Q
theorem jdh (hc:CallR X (.builtin id) r) (hg:Gl X x) (hm:X.mg x=none) (hv:bootBuiltins x=some (.builtin id)) (ha:PA X (e::es) t) (hn:x≠"__name__":=by decide) (hdb:(x==("__debug__":Str))=false:=by decide)
  (he:starEach (e::es) X.env=(false,eval e X.env)::starEach es X.env:=by rfl) (hpl:(backTo pos (starEach es X.env)).any (·.1)=false:=by rfl):PE X (.Call (.Name x p) (e::es) [] pos) (tCB r t):=by
 intro pins s σ H Q I h
 refine wpAny_Call_Name_kw (jj4 I hg hm hv ?_ hn hdb)
 exact PyProof.Rows.callWith_builtin1 (thn (ha pos pins s σ H _ I h) fun us s1 ⟨vs,H1,I1,r1,q1⟩=>hc pins s1 σ H1 vs us Q I1 r1 q1) he hpl
theorem jeg (hc:CallR X (.type T) r) (hg:Gl X x) (hm:X.mg x=none) (hv:bootBuiltins x=some (.type T)) (ha:PA X (e::es) t) (hn:x≠"__name__":=by decide) (hdb:(x==("__debug__":Str))=false:=by decide)
  (he:starEach (e::es) X.env=(false,eval e X.env)::starEach es X.env:=by rfl) (hpl:(backTo pos (starEach es X.env)).any (·.1)=false:=by rfl):PE X (.Call (.Name x p) (e::es) [] pos) (tCB r t):=by
 intro pins s σ H Q I h
 refine wpAny_Call_Name_kw (jj4 I hg hm hv ?_ hn hdb)
 exact PyProof.Rows.callWith_type1 (thn (ha pos pins s σ H _ I h) fun us s1 ⟨vs,H1,I1,r1,q1⟩=>hc pins s1 σ H1 vs us Q I1 r1 q1) he hpl
end
end L2
namespace HT
open PySem PyProof.Rows
section
open PySem.SeqAt
open PySem.AutoSeq1 (wpAny_loadPart')
open PySem.MeetsSeq PySem.MeetsSeq2 PySem.MeetsSeq3
end
section
variable {prog:Program} {w:World} {A:Around} {E:Value→Shared→Prop} {s:Shared}
noncomputable def sIx (n d:Nat):Option Int→Nat
 |none=>d
 |some v=>if v < 0 then(v+(n:Int)).toNat else min v.toNat n
theorem sIx_nat (n d k:Nat):sIx n d (some (k:Int))=min k n:=by
 show(if (k:Int) < 0 then((k:Int)+(n:Int)).toNat else min (k:Int).toNat n)=min k n
 rw[if_neg (by omega),Int.toNat_natCast]
theorem jyw (n d:Nat) (hd:d≤n) (o:Option Int):sIx n d o≤n:=by
 cases o with
 |none=>exact hd
 |some v =>
  show(if v < 0 then(v+(n:Int)).toNat else min v.toNat n)≤n
  by_cases hv:v < 0
  ·rw[if_pos hv];omega
  ·rw[if_neg hv];exact Nat.min_le_right _ _
theorem js6 (v:Int) (n d:Nat):(if v < 0 then max (v+(n:Int)) 0 else min v (n:Int))=((sIx n d (some v):Nat):Int):=by
 show(if v < 0 then max (v+(n:Int)) 0 else min v (n:Int))=(((if v < 0 then(v+(n:Int)).toNat else min v.toNat n):Nat):Int)
 by_cases hv:v < 0
 ·simp only[if_pos hv];omega
 ·simp only[if_neg hv];omega
theorem jpw (lo hi:Option Int) (n:Nat):Builtin.Slice.sliceAdjust lo hi 1 (n:Int)=(((sIx n 0 lo:Nat):Int),((sIx n n hi:Nat):Int)):=by
 have h1:¬((1:Int) < 0):=by omega
 unfold Builtin.Slice.sliceAdjust
 simp only[h1,if_false]
 refine Prod.ext ?_ ?_
 ·cases lo with
  |none=>rfl
  |some v=>exact js6 v n 0
 ·cases hi with
  |none=>rfl
  |some v=>exact js6 v n n
theorem jo7 (i j:Nat):Builtin.Slice.slicePlaces (i:Int) (j:Int) 1=j - i:=by
 unfold Builtin.Slice.slicePlaces
 have h1:(1:Int) > 0:=by omega
 simp only[h1,if_true,Int.ediv_one]
 split<;>omega
theorem jjt {v:Value} {o:Option Int} {Q:Option Int→Shared→Prop} (p:IsPart v o) (h:Q o s):wpAny (model prog w) A (Builtin.Slice.slicePartIndex v) Q E s:=by
 cases p with
 |none=>exact slicePart_none h
 |int i t=>exact slicePart_int h
theorem jeb {sl:Addr} {vl vu:Value} {lo hi:Option Int} {n:Nat} {Q:Int×Int×Nat→Shared→Prop} (hs:s.heap.IsSliceOf sl vl vu .none) (pl:IsPart vl lo) (pu:IsPart vu hi)
  (h:Q (((sIx n 0 lo:Nat):Int),1,sIx n n hi - sIx n 0 lo) s):wpAny (model prog w) A (Builtin.Slice.sliceApplied (.ref sl) (pure (n:Int))) Q E s:=by
 obtain⟨os,hos,hcs,hds⟩:=id hs
 unfold Builtin.Slice.sliceApplied Builtin.Slice.sliceFields
 refine wpAny_bind (wpAny_bind (wpAny_field hos hds (x:=vl) rfl (wpAny_bind (wpAny_field hos hds (x:=vu) rfl (wpAny_bind (wpAny_field hos hds (x:=.none) rfl (wpAny_pure ?_)))))))
 refine wpAny_bind (slicePart_none ?_)
 show wpAny _ _ (if ((1:Int)==0)=true then _ else _) _ _ s
 rw[if_neg (by decide)]
 refine wpAny_bind (jjt pl (wpAny_bind (jjt pu (wpAny_bind (wpAny_pure ?_)))))
 show wpAny _ _ (match Builtin.Slice.sliceAdjust lo hi 1 (n:Int)with | (lo,hi)=>pure (lo,(1:Int),Builtin.Slice.slicePlaces lo hi 1)) _ _ s
 rw[jpw lo hi n]
 show wpAny _ _ (pure (((sIx n 0 lo:Nat):Int),(1:Int),Builtin.Slice.slicePlaces ((sIx n 0 lo:Nat):Int) ((sIx n n hi:Nat):Int) 1)) _ _ s
 rw[jo7]
 exact wpAny_pure h
theorem jua (xs:Array Value) (i k:Nat):((List.range k).filterMap fun(m:Nat)=>xs[((i:Int)+(m:Int)*1).toNat]?).toArray=((xs.toList.drop i).take k).toArray:=by
 have e:(fun(m:Nat)=>xs[((i:Int)+(m:Int)*1).toNat]?)=fun m=>xs[i+m]?:=by
  funext m
  have:((i:Int)+(m:Int)*1).toNat=i+m:=by omega
  rw[this]
 rw[e]
 have:=pick_run xs i k
 rw[List.filterMap_map]at this
 have e2:((fun x=>xs[x]?) ∘ fun x=>i+x)=fun m=>xs[i+m]?:=rfl
 rw[e2]at this
 rw[this]
theorem getItem_tuple_cut {t sl:Addr} {items:Array Value} {vl vu:Value} {lo hi:Option Int} {Q:Value→Shared→Prop} (ht:IsTup s.heap t items) (hs:s.heap.IsSliceOf sl vl vu .none) (pl:IsPart vl lo) (pu:IsPart vu hi)
  (hw:¬(sIx items.size 0 lo=0∧sIx items.size items.size hi=items.size))
  (h:Q (.ref s.heap.objs.size) {s with heap:=s.heap.push {cls:=.type "tuple",data:=.seq ((items.toList.drop (sIx items.size 0 lo)).take (sIx items.size items.size hi - sIx items.size 0 lo)).toArray}})
  (hsz:items.size≤sizeLine):wpAny (model prog w) A (getItem (.ref t) (.ref sl)) Q E s:=by
 have htake:sizeOk (.seq ((items.toList.drop (sIx items.size 0 lo)).take (sIx items.size items.size hi - sIx items.size 0 lo)).toArray):=by
  show((items.toList.drop (sIx items.size 0 lo)).take (sIx items.size items.size hi - sIx items.size 0 lo)).toArray.size≤sizeLine
  rw[List.size_toArray,List.length_take,List.length_drop,Array.length_toList]
  omega
 have hj:sIx items.size items.size hi≤items.size:=jyw _ _ (Nat.le_refl _) hi
 obtain⟨os,hos,hcs,hds⟩:=id hs
 have hTs:s.TypeIs (.ref sl) "slice":=⟨os,hos,hcs⟩
 unfold getItem
 try with_reducible refine wpAny_holding ?_
 first | refine wpAny_bind (wpAny_pure ?_) | skip
 refine wpAny_bind (wpAny_sequenceKey ht.typeIs (by decide) ?_)
 refine wpAny_bind (wpAny_callSpecial?_slot (name:=Str.ofString "__getitem__") ht.typeIs PyProof.Rows.slot_tuple_getitem
  (wpAny_call_entry PyProof.Rows.slot_tuple_getitem ht.typeIs entry_tuple_getitem ?_ (args_tuple_getitem _ _)))
 show wpAny _ _ (Builtin.Tuple.tupleItemsOf (.ref t)>>=_) _ _ s
 refine wpAny_bind (tupleItemsOf_ ht ?_)
 refine wpAny_bind (wpAny_typeOf hTs ?_)
 rw[if_pos (by decide)]
 refine wpAny_bind (jeb hs pl pu ?_)
 have hno:¬((((sIx items.size 0 lo:Nat):Int)==0&&(1:Int)==1&&(sIx items.size items.size hi - sIx items.size 0 lo)==items.size)=true):=by
  intro q
  rw[Bool.and_eq_true,Bool.and_eq_true]at q
  have q1:((sIx items.size 0 lo:Nat):Int)=0:=eq_of_beq q.1.1
  have q2:sIx items.size items.size hi - sIx items.size 0 lo=items.size:=eq_of_beq q.2
  exact hw ⟨by omega,by omega⟩
 show wpAny _ _ (if (((sIx items.size 0 lo:Nat):Int)==0&&(1:Int)==1&&(sIx items.size items.size hi - sIx items.size 0 lo)==items.size)=true then _ else _) _ _ s
 rw[if_neg hno,jua]
 first
  |exact wpAny_bind (m:=Builtin.Tuple.tupleExact _) (wpAny_newObj_type (wpAny_pure ⟨_,rfl,wpAny_pure h⟩) htake)
  |exact wpAny_bind (m:=Builtin.Tuple.tupleExact _) (wpAny_newObj_type (wpAny_bind (wpAny_pure (wpAny_pure ⟨_,rfl,wpAny_pure h⟩))) htake)
  |exact wpAny_bind (wpAny_bind (m:=Builtin.Tuple.tupleExact _) (wpAny_newObj_type (wpAny_pure (wpAny_pure ⟨_,rfl,wpAny_pure h⟩)) htake))
  |exact wpAny_bind (wpAny_bind (m:=Builtin.Tuple.tupleExact _) (wpAny_newObj_type (wpAny_pure ⟨_,rfl,wpAny_pure h⟩) htake))
end
end HT
namespace L2
open PySem PySem.Spec PyProof.Rows
noncomputable abbrev TO:=St→Hp→(Option Int→Hp→Prop)→Prop
noncomputable def PO (X:Cx) (e:Option Expr) (t:TO):Prop :=
 ∀(pins:List (Addr×Obj)) (s:Shared) (σ:St) (H:Hp) (Q:Option Int→Hp→Prop),Inv X pins σ H s→t σ H Q →
  wpAny (model X.prog X.w) X.A (evalPart e X.env) (fun u s'=>∃o H',Inv X pins σ H' s'∧IsPart u o∧Q o H') X.xe s
noncomputable def jp8:TO:=fun _ H Q=>Q none H
noncomputable def jyf (t:TE):TO:=fun σ H Q=>t σ H fun x H1=>∃i,x=.int i∧Q (some i) H1
theorem jpd {ns:List Int}:∀{us:List Value},Vals (ns.map V.int) us→IntsAre us ns:=by
 induction ns with
 |nil=>intro us r;rw[List.map_nil]at r;cases r;exact .nil
 |cons n ns ih =>
  intro us r
  rw[List.map_cons]at r
  cases r with
  |cons r1 r2 =>
   obtain⟨t,e⟩:=r1
   subst e
   exact .cons n t (ih r2)
section
variable {X:Cx} {e:Expr} {te:TE} {lo hi:Option Expr} {tl th:TO} {pos p2:Pos}
theorem jrj:PO X none jp8:=by
 intro pins s σ H Q I h
 rw[evalPart_none]
 exact wpAny_pure ⟨none,H,I,.none,h⟩
theorem jri (h:PE X e te):PO X (some e) (jyf te):=by
 intro pins s σ H Q I hw
 rw[evalPart_some]
 refine thn (h pins s σ H _ I hw) fun u s1 ⟨x,H1,I1,r1,q1⟩=>?_
 obtain⟨i,rfl,q⟩:=q1
 obtain⟨t,rfl⟩:=r1
 exact⟨some i,H1,I1,.int i t,q⟩
noncomputable def SlR (X:Cx) (r:V→Option Int→Option Int→Hp→VK→Prop):Prop :=
 ∀(pins:List (Addr×Obj)) (s:Shared) (σ:St) (H:Hp) (x:V) (v vl vu:Value) (lo hi:Option Int) (sl:Addr) (Q:VK),Inv X pins σ H s→RelV x v→s.heap.IsSliceOf sl vl vu .none→IsPart vl lo→IsPart vu hi→r x lo hi H Q →
  ∃T id,typeLookup (.type T) "__getitem__"=pure (some (.builtin id))∧s.TypeIs v T∧wpAny (model X.prog X.w) X.A (getItem v (.ref sl)) (EP X pins σ Q) X.xe s
theorem SlR.or {r r':V→Option Int→Option Int→Hp→VK→Prop} (h:SlR X r) (h':SlR X r'):SlR X (fun x lo hi H Q=>r x lo hi H Q∨r' x lo hi H Q):=by
 intro pins s σ H x v vl vu lo hi sl Q I rx hs pl pu q
 rcases q with q | q
 ·exact h pins s σ H x v vl vu lo hi sl Q I rx hs pl pu q
 ·exact h' pins s σ H x v vl vu lo hi sl Q I rx hs pl pu q
noncomputable def tSl (r:V→Option Int→Option Int→Hp→VK→Prop) (te:TE) (tl th:TO):TE:=fun σ H Q=>te σ H fun x H1=>tl σ H1 fun l H2=>th σ H2 fun u H3=>r x l u H3 Q
theorem job {r:V→Option Int→Option Int→Hp→VK→Prop} (hr:SlR X r) (he:PE X e te) (hl:PO X lo tl) (hu:PO X hi th):PE X (.Subscript e (.Slice lo hi none p2) pos) (tSl r te tl th):=by
 intro pins s σ H Q I h
 refine Subscript_ (thn (he pins s σ H _ I h) fun v s1 ⟨x,H1,I1,r1,q1⟩=>?_)
 refine wpAny_Slice (thn (hl pins s1 σ H1 _ I1 q1) fun vl s2 ⟨l,H2,I2,pl,q2⟩=>thn (hu pins s2 σ H2 _ I2 q2) fun vu s3 ⟨u,H3,I3,pu,q3⟩=>?_)
 rw[evalPart_none]
 refine wpAny_pure ?_
 have I4:Inv X pins σ H3 {s3 with heap:=s3.heap.push {cls:=.type "slice",data:=.fields #[vl,vu,.none]}}:=I3.kept (t':=s3.toks) fun b ob q=>Heap.get?_push_of_some _ q
 obtain⟨T,id,hT,ht,hg⟩:=hr pins {s3 with heap:=s3.heap.push {cls:=.type "slice",data:=.fields #[vl,vu,.none]}} σ H3 x v vl vu l u s3.heap.objs.size Q I4 r1 (Heap.IsSliceOf.new ..) pl pu q3
 show wpAny (model X.prog X.w) X.A (subscriptTail e (.Slice lo hi none p2) v (.ref s3.heap.objs.size)) (EP X pins σ Q) X.xe {s3 with heap:=s3.heap.push {cls:=.type "slice",data:=.fields #[vl,vu,.none]}}
 exact tail_any (ops:=[.ref s3.heap.objs.size,v]) ht hT hg (by with_unfolding_all rfl)
noncomputable def cutV (xs:List V) (lo hi:Option Int):List V:=(xs.drop (HT.sIx xs.length 0 lo)).take (HT.sIx xs.length xs.length hi - HT.sIx xs.length 0 lo)
theorem jfp (xs:List V) (lo hi:Option Int):(cutV xs lo hi).length≤xs.length:=by
 unfold cutV
 rw[List.length_take,List.length_drop]
 omega
noncomputable def rSlT (K:PySem.W.Frag):V→Option Int→Option Int→Hp→VK→Prop:=fun x lo hi H Q=>∃a xs,x=.ref a∧SqT K H a xs ∧
 ¬(HT.sIx xs.length 0 lo=0∧HT.sIx xs.length xs.length hi=xs.length)∧∀p,H p=none→Q (.ref p) (upd H p (.tup (cutV xs lo hi)))
theorem sl_tup:SlR X (rSlT X.K):=by
 intro pins s σ H x v vl vu lo hi sl Q I rx hs pl pu h
 obtain⟨a,xs,rfl,hx,hw,q⟩:=h
 cases rx
 obtain⟨its,r,ht,hz⟩:=I.tuple hx
 have hlen:its.toArray.size=xs.length:=by rw[List.size_toArray];exact r.length.symm
 refine⟨"tuple",_,PyProof.Rows.slot_tuple_getitem.lookup,ht.typeIs,?_⟩
 refine HT.getItem_tuple_cut ht hs pl pu (by rw[hlen];exact hw) ?_ (by rw[hlen];exact hz)
 rw[hlen]
 refine⟨.ref s.heap.objs.size,_,I.laid (t':=s.toks) (o:=.tup (cutV xs lo hi)) (fun b ob q=>Heap.get?_push_of_some _ q) (Nat.le_refl _) ?_,rfl,q _ (I.hok.fresh (Nat.le_refl _))⟩
 exact⟨Nat.le_trans (jfp xs lo hi) hz,_,(r.drop (HT.sIx xs.length 0 lo)).take (HT.sIx xs.length xs.length hi - HT.sIx xs.length 0 lo),IsTupP.new _ _⟩
end
noncomputable def ixN (n:Nat) (i:Int):Option Nat:=if 0≤i then(if i < n then some i.toNat else none)else if -(n:Int)≤i then some (i+n).toNat else none
noncomputable def atI {α:Type} (xs:List α) (i:Int):Option α:=(ixN xs.length i).bind fun j=>xs[j]?
theorem jse {n:Nat} {i:Int} {j:Nat} (h:ixN n i=some j):seqIndex? i n=some j∧j < n∧-(n:Int)≤i∧i < n:=by
 unfold ixN at h
 by_cases h0:0≤i
 ·rw[if_pos h0]at h
  by_cases h1:i < n
  ·rw[if_pos h1]at h
   have e:i.toNat=j:=Option.some.inj h
   exact⟨by rw[seqIndex_of h0 h1,e],by omega,by omega,h1⟩
  ·rw[if_neg h1]at h;cases h
 ·rw[if_neg h0]at h
  by_cases h1:-(n:Int)≤i
  ·rw[if_pos h1]at h
   have e:(i+n).toNat=j:=Option.some.inj h
   exact⟨by rw[seqIndex_neg (by omega) h1,e],by omega,h1,by omega⟩
  ·rw[if_neg h1]at h;cases h
theorem jnw {α:Type} {xs:List α} {i:Int} {v:α} (h:atI xs i=some v):∃j,seqIndex? i xs.length=some j∧xs[j]?=some v∧j < xs.length∧-(xs.length:Int)≤i∧i < xs.length:=by
 unfold atI at h
 cases e:ixN xs.length i with
 |none=>rw[e]at h;cases h
 |some j =>
  rw[e]at h
  obtain⟨h1,h2,h3,h4⟩:=jse e
  exact⟨j,h1,h,h2,h3,h4⟩
theorem jb1 {α:Type} {xs:List α} {j:Nat} {v:α} (h:xs[j]?=some v):atI xs (j:Int)=some v:=by
 have hj:j < xs.length:=(List.getElem?_eq_some_iff.mp h).1
 have e:ixN xs.length (j:Int)=some j:=by
  unfold ixN
  rw[if_pos (by omega),if_pos (by omega)];simp
 unfold atI;rw[e];exact h
noncomputable def jlg (b:Expr):Prop:=∀o i,subscripted b false o i=operate [o,i] (getItem o i)
noncomputable def IxR (X:Cx) (r:R2):Prop :=
 ∀(value slice:Expr) (pins:List (Addr×Obj)) (s:Shared) (σ:St) (H:Hp) (x y:V) (v u:Value) (Q:VK),Inv X pins σ H s→RelV x v→RelV y u→r x y H Q →
  subscripted slice false v u=operate [v,u] (getItem v u)→wpAny (model X.prog X.w) X.A (subscriptTail value slice v u) (EP X pins σ Q) X.xe s
noncomputable def MtR (X:Cx) (id:String) (r:V→List V→Hp→VK→Prop):Prop :=
 ∀(pins:List (Addr×Obj)) (s:Shared) (σ:St) (H:Hp) (x:V) (xs:List V) (v:Value) (us:List Value) (Q:VK),Inv X pins σ H s→RelV x v→Vals xs us→r x xs H Q →
  wpAny (model X.prog X.w) X.A (call (.builtin id) (v::us)) (EP X pins σ Q) X.xe s
section
variable {X:Cx} {a b:Expr} {ta tb:TE} {pos:Pos}
theorem IxR.or {r r':R2} (h:IxR X r) (h':IxR X r'):IxR X (fun x y H Q=>r x y H Q∨r' x y H Q):=by
 intro value slice pins s σ H x y v u Q I rx ry q hs
 rcases q with q | q
 ·exact h value slice pins s σ H x y v u Q I rx ry q hs
 ·exact h' value slice pins s σ H x y v u Q I rx ry q hs
theorem jg0 {r:R2} (hr:IxR X r) (ha:PE X a ta) (hb:PE X b tb) (hs:jlg b):PE X (.Subscript a b pos) (tOp r ta tb):=by
 intro pins s σ H Q I h
 exact Subscript_ (binT ha hb I h fun v u s2 x y H2 I2 rx ry q=>hr a b pins s2 σ H2 x y v u Q I2 rx ry q (hs _ _))
noncomputable def rIxL (K:PySem.W.Frag):R2:=fun x y H Q=>∃p xs i v,x=.ref p∧y=.int i∧SqL K H p xs∧atI xs i=some v∧Q v H
noncomputable def rIxT (K:PySem.W.Frag):R2:=fun x y H Q=>∃p xs i v,x=.ref p∧y=.int i∧SqT K H p xs∧atI xs i=some v∧Q v H
noncomputable def rIxS:R2:=fun x y H Q=>∃z i c,x=.str z∧y=.int i∧z.length≤sizeLine∧atI z.cps.toList i=some c∧Q (.str ⟨#[c]⟩) H
theorem ix_list:IxR X (rIxL X.K):=by
 intro value slice pins s σ H x y v u Q I rx ry h hs
 obtain⟨p,xs,i,z,rfl,rfl,hq,he,q⟩:=h
 cases rx
 obtain⟨t,rfl⟩:=ry
 obtain⟨its,r,pl,hz⟩:=I.list hq
 obtain⟨j,h1,h2,h3,h4,h5⟩:=jnw he
 obtain⟨w,ew,rw'⟩:=r.get h2
 have hl:=r.length
 have hn:=jj3
 have fin:EP X pins σ Q w s:=⟨z,H,I,rw',q⟩
 by_cases h0:0≤i
 ·have hj:i.toNat=j:=by
   rw[seqIndex_of h0 h5]at h1
   exact Option.some.inj h1
  exact item_listR pl.isList h0 (by omega) (by rw[hj];simpa using ew) fin hs
 ·have hj:(i+(its.toArray.size:Int)).toNat=j:=by
   rw[seqIndex_neg (by omega) h4]at h1
   rw[List.size_toArray,←hl]
   exact Option.some.inj h1
  exact subscriptTail_builtinR (x:=w) pl.isList.typeIs slot_list_getitem.lookup
   (wpAny_getItem_list_neg (Q:=fun r s'=>r=w∧EP X pins σ Q r s') pl.isList (by omega) (by rw[List.size_toArray]<;>omega) (by omega) (by rw[hj];simpa using ew) ⟨rfl,fin⟩) hs
theorem ix_tup:IxR X (rIxT X.K):=by
 intro value slice pins s σ H x y v u Q I rx ry h hs
 obtain⟨p,xs,i,z,rfl,rfl,hq,he,q⟩:=h
 cases rx
 obtain⟨t,rfl⟩:=ry
 obtain⟨its,r,pl,hz⟩:=I.tuple hq
 obtain⟨j,h1,h2,h3,h4,h5⟩:=jnw he
 obtain⟨w,ew,rw'⟩:=r.get h2
 have hl:=r.length
 have hn:=jj3
 have fin:EP X pins σ Q w s:=⟨z,H,I,rw',q⟩
 exact subscriptTail_builtinR (x:=w) pl.typeIs slot_tuple_getitem.lookup
  (getItem_tuple (j:=j) (Q:=fun r s'=>r=w∧EP X pins σ Q r s') pl (by omega) (by omega) (by rw[List.size_toArray,←hl];exact h1) (by simpa using ew) ⟨rfl,fin⟩) hs
theorem jz9:IxR X rIxS:=by
 intro value slice pins s σ H x y v u Q I rx ry h hs
 obtain⟨z,i,c,rfl,rfl,hz,he,q⟩:=h
 obtain⟨t,rfl⟩:=rx
 obtain⟨t',rfl⟩:=ry
 obtain⟨j,h1,h2,h3,h4,h5⟩:=jnw he
 have hl:z.cps.toList.length=z.length:=by simp[Str.length]
 rw[hl]at h1 h4 h5
 have hn:=jj3
 exact tail_any (typeIs_str s z t) slot_str_getitem.lookup (getItem_str (c:=c) (by
  have e1:decide (i < -(2 ^ 63:Int))=false:=decide_eq_false (by omega)
  have e2:decide (i ≥ 2 ^ 63)=false:=decide_eq_false (by omega)
  rw[e1,e2,Bool.or_false]) (by rw[h1];simpa using h2) ⟨.str ⟨#[c]⟩,H,I.tok _,⟨_,rfl⟩,q⟩) hs
noncomputable def rIx (K:PySem.W.Frag):R2:=fun x y H Q=>rIxL K x y H Q∨rIxT K x y H Q∨rIxS x y H Q
theorem jsd:IxR X (rIx X.K):=ix_list.or (ix_tup.or jz9)
theorem jpb (its:List Value) (n j:Nat) (u:Value):Obj.mapSeq (·.setIfInBounds j u) {cls:=.type "list",data:=.seq its.toArray n}={ cls:=.type "list",data:=.seq (its.set j u).toArray n}:=by
 simp[Obj.mapSeq]
theorem Inv.lst {pins:List (Addr×Obj)} {σ:St} {H:Hp} {s:Shared} {p:Addr} {xs:List V} (I:Inv X pins σ H s) (h:H p=some (.lst xs)) :
  ∃(its:List Value) (n:Nat),Vals xs its∧s.heap.get? p=some {cls:=.type "list",data:=.seq its.toArray n}∧xs.length≤sizeLine:=by
 obtain⟨z,its,n,r,e⟩:=I.hok p _ h
 exact⟨its,n,r,e,z⟩
theorem Inv.lstUpd {pins:List (Addr×Obj)} {σ:St} {H:Hp} {s:Shared} {p:Addr} {xs ys:List V} {its its':List Value} {n n':Nat} {f:Obj→Obj} (I:Inv X pins σ H s) (h:H p=some (.lst xs))
  (ho:s.heap.get? p=some {cls:=.type "list",data:=.seq its.toArray n}) (hf:f {cls:=.type "list",data:=.seq its.toArray n}={ cls:=.type "list",data:=.seq its'.toArray n'}) (r:Vals ys its') (hz:ys.length≤sizeLine) (t:Nat) :
  Inv X pins σ (upd H p (.lst ys)) {s with heap:=s.heap.update p f,toks:=t}:=by
 have e:(s.heap.update p f).get? p=some {cls:=.type "list",data:=.seq its'.toArray n'}:=by
  rw[Heap.get?_update_self f ho (by rw[hf]<;>rfl),hf]
 refine I.write (x:=p) (e:=p) (by rw[h];trivial) (.inl rfl) (fun b u hb q=>(Heap.get?_update_other _ _ (Ne.symm hb)).trans q) ⟨_,e⟩ ?_
 exact⟨hz,its',n',r,e⟩
noncomputable def jy5:V→V→V→Hp→(Hp→Prop)→Prop:=fun o i v H Q=>∃p xs k j,o=.ref p∧i=.int k∧H p=some (.lst xs)∧ixN xs.length k=some j∧Q (upd H p (.lst (xs.set j v)))
theorem jhg:PSet X jy5:=by
 intro pins s σ H o i v ov iv u Q I ro ri rv h
 obtain⟨p,xs,k,j,rfl,rfl,hp,hj,q⟩:=h
 cases ro
 obtain⟨t,rfl⟩:=ri
 obtain⟨its,n,r,ho,hz⟩:=I.lst hp
 obtain⟨h1,h2,h3,h4⟩:=jse hj
 have hl:=r.length
 have hn:=jj3
 have I':Inv X pins σ (upd H p (.lst (xs.set j v))) {s with heap:=s.heap.update p (Obj.mapSeq (·.setIfInBounds j u))} :=
  I.lstUpd hp ho (jpb its n j u) (r.set rv j) (by rw[List.length_set];exact hz) s.toks
 by_cases h0:0≤k
 ·have hk:k.toNat=j:=by
   rw[seqIndex_of h0 h4]at h1
   exact Option.some.inj h1
  exact PySem.W.ki_setAt ho h0 (by omega) (by rw[List.size_toArray,←hl];exact h4) (by rw[hk];exact⟨_,I',q⟩)
 ·have hk:(k+(its.toArray.size:Int)).toNat=j:=by
   rw[seqIndex_neg (by omega) h3]at h1
   rw[List.size_toArray,←hl]
   exact Option.some.inj h1
  exact PySem.W.ki_setBack ho (by omega) (by rw[List.size_toArray,←hl];exact h3) (by omega) (by rw[hk];exact⟨_,I',q⟩)
theorem jlu (lo hi:Option Int) (n:Nat):(sliceBounds lo hi none n).1=((HT.sIx n 0 lo:Nat):Int)∧(sliceBounds lo hi none n).2.1=((HT.sIx n n hi:Nat):Int)∧(sliceBounds lo hi none n).2.2=1:=by
 refine⟨?_,?_,rfl⟩
 ·cases lo with
  |none=>simp[sliceBounds,HT.sIx]
  |some i =>
   simp only[sliceBounds,HT.sIx,Option.getD_none,show(1:Int) > 0 by decide,if_true]
   by_cases h:i < 0
   ·simp only[h,if_true]<;>omega
   ·simp only[h,if_false]<;>omega
 ·cases hi with
  |none=>simp[sliceBounds,HT.sIx]
  |some i =>
   simp only[sliceBounds,HT.sIx,Option.getD_none,show(1:Int) > 0 by decide,if_true]
   by_cases h:i < 0
   ·simp only[h,if_true]<;>omega
   ·simp only[h,if_false]<;>omega
theorem jkj (its:List Value) (lo hi:Option Int):slicePick its.toArray lo hi none=((its.drop (HT.sIx its.length 0 lo)).take (HT.sIx its.length its.length hi - HT.sIx its.length 0 lo)).toArray:=by
 obtain⟨h1,h2,h3⟩:=jlu lo hi its.toArray.size
 unfold slicePick
 rw[h1,h2,h3]
 simp only[sliceRange_one,pick_run,List.size_toArray]<;>rfl
noncomputable def rSlL (K:PySem.W.Frag):V→Option Int→Option Int→Hp→VK→Prop:=fun x lo hi H Q=>∃a xs,x=.ref a∧SqL K H a xs∧∀p,H p=none→Q (.ref p) (upd H p (.lst (cutV xs lo hi)))
theorem jwu:SlR X (rSlL X.K):=by
 intro pins s σ H x v vl vu lo hi sl Q I rx hs pl pu h
 obtain⟨a,xs,rfl,hx,q⟩:=h
 cases rx
 obtain⟨its,r,ht,hz⟩:=I.list hx
 have hlen:=r.length
 refine⟨"list",_,slot_list_getitem.lookup,ht.isList.typeIs,?_⟩
 refine wpAny_getItem_list_slice ht.isList hs pl pu .none (by simp) ?_ (by rw[List.size_toArray]<;>omega)
 rw[jkj,←hlen]
 refine⟨.ref s.heap.objs.size,_,I.laid (t':=s.toks) (o:=.lst (cutV xs lo hi)) (fun b ob q=>Heap.get?_push_of_some _ q) (Nat.le_refl _) ?_,rfl,q _ (I.hok.fresh (Nat.le_refl _))⟩
 exact⟨Nat.le_trans (jfp xs lo hi) hz,_,0,(r.drop (HT.sIx xs.length 0 lo)).take (HT.sIx xs.length xs.length hi - HT.sIx xs.length 0 lo),Heap.get?_push_size _ rfl⟩
noncomputable def jhd:V→Bool
 |.non=>true
 |.bl _=>true
 |.int _=>true
 |.str _=>true
 |_=>false
noncomputable def eqV:V→V→Bool
 |.non,.non=>true
 |.bl a,.bl b=>a==b
 |.bl a,.int b=>(if a then 1 else 0)==b
 |.int a,.bl b=>a==(if b then 1 else 0)
 |.int a,.int b=>a==b
 |.str a,.str b=>a==b
 |_,_=>false
theorem jv0 {A:Around} {s:Shared} {y x:V} {u v:Value} (ry:RelV y u) (rx:RelV x v) (fy:jhd y=true) (fx:jhd x=true):SeqAt.EqAt A s u v (eqV y x):=by
 cases y with
 |non =>
  cases ry
  cases x with
  |non=>cases rx;exact SeqAt.EqAt.same _
  |bl b=>cases rx;exact SeqAt.EqAt.none_bool b
  |int b=>obtain⟨t,rfl⟩:=rx;exact SeqAt.EqAt.none_int b t
  |str b=>obtain⟨t,rfl⟩:=rx;exact SeqAt.EqAt.none_str b t
  |_=>exact absurd (show false=true from fx) Bool.false_ne_true
 |bl a =>
  cases ry
  cases x with
  |non=>cases rx;exact SeqAt.EqAt.bool_none a
  |bl b=>cases rx;exact SeqAt.EqAt.bool_bool a b
  |int b=>obtain⟨t,rfl⟩:=rx;exact SeqAt.EqAt.bool_int a b t
  |str b=>obtain⟨t,rfl⟩:=rx;exact SeqAt.EqAt.bool_str a b t
  |_=>exact absurd (show false=true from fx) Bool.false_ne_true
 |int a =>
  obtain⟨t',rfl⟩:=ry
  cases x with
  |non=>cases rx;exact SeqAt.EqAt.int_none a t'
  |bl b=>cases rx;exact SeqAt.EqAt.int_bool a t' b
  |int b=>obtain⟨t,rfl⟩:=rx;exact SeqAt.EqAt.int_int a t' b t
  |str b=>obtain⟨t,rfl⟩:=rx;exact SeqAt.EqAt.int_str a t' b t
  |_=>exact absurd (show false=true from fx) Bool.false_ne_true
 |str a =>
  obtain⟨t',rfl⟩:=ry
  cases x with
  |non=>cases rx;exact SeqAt.EqAt.str_none a t'
  |bl b=>cases rx;exact SeqAt.EqAt.str_bool a t' b
  |int b=>obtain⟨t,rfl⟩:=rx;exact SeqAt.EqAt.str_int a t' b t
  |str b=>obtain⟨t,rfl⟩:=rx;exact SeqAt.EqAt.str_str a t' b t
  |_=>exact absurd (show false=true from fx) Bool.false_ne_true
 |_=>exact absurd (show false=true from fy) Bool.false_ne_true
noncomputable def eqU (x:V) (u:Value):Bool:=match u with
 |.none=>eqV .non x
 |.bool b=>eqV (.bl b) x
 |.int i _=>eqV (.int i) x
 |.str z _=>eqV (.str z) x
 |_=>false
theorem jvz {x y:V} {u:Value} (r:RelV y u) (f:jhd y=true):eqU x u=eqV y x:=by
 cases y with
 |non=>cases r;rfl
 |bl b=>cases r;rfl
 |int i=>obtain⟨t,rfl⟩:=r;rfl
 |str z=>obtain⟨t,rfl⟩:=r;rfl
 |_=>exact absurd (show false=true from f) Bool.false_ne_true
theorem jik {x:V}:∀{xs:List V} {us:List Value},Vals xs us→xs.all jhd=true→us.any (eqU x)=xs.any fun y=>eqV y x
 |_,_,.nil,_=>rfl
 |y::xs,u::us,.cons r t,f=>by
  rw[List.all_cons,Bool.and_eq_true]at f
  rw[List.any_cons,List.any_cons,jvz r f.1,jik t f.2]
theorem jfx {A:Around} {s:Shared} {x:V} {v:Value} (rx:RelV x v) (fx:jhd x=true):∀{xs:List V} {us:List Value},Vals xs us→xs.all jhd=true→∀u∈us,SeqAt.EqAt A s u v (eqU x u)
 |_,_,.nil,_=>fun u hu=>by cases hu
 |y::xs,u::us,.cons r t,f=>fun u' hu=>by
  rw[List.all_cons,Bool.and_eq_true]at f
  rcases List.mem_cons.mp hu with rfl | hu
  ·rw[jvz r f.1];exact jv0 r rx f.1 fx
  ·exact jfx rx fx t f.2 u' hu
noncomputable def inV (x:V) (xs:List V):Bool:=xs.any fun y=>eqV y x
noncomputable def rIn (K:PySem.W.Frag) (neg:Bool):R2:=fun x y H Q=>∃p xs,y=.ref p∧(SqL K H p xs∨SqT K H p xs)∧jhd x=true∧xs.all jhd=true∧Q (.bl (if neg then !inV x xs else inV x xs)) H
theorem jrr:OpR X (compareOp .In) (rIn X.K false):=by
 intro pins s σ H x y v u Q I rx ry h
 obtain⟨p,xs,rfl,hq,fx,fs,q⟩:=h
 cases ry
 rcases hq with hq | hq
 ·obtain⟨its,r,pl,hz⟩:=I.list hq
  refine SeqAt.in_listAt (eqU x) pl.isList (fun w hw=>jfx rx fx r fs w (by simpa using hw)) ⟨.bl _,H,I,rfl,?_⟩
  rw[show its.toArray.any (eqU x)=its.any (eqU x) by simp,jik r fs]
  exact q
 ·obtain⟨its,r,pl,hz⟩:=I.tuple hq
  refine SeqAt.in_tupleAt (eqU x) pl (fun w hw=>jfx rx fx r fs w (by simpa using hw)) ⟨.bl _,H,I,rfl,?_⟩
  rw[show its.toArray.any (eqU x)=its.any (eqU x) by simp,jik r fs]
  exact q
theorem jl6:OpR X (compareOp .NotIn) (rIn X.K true):=by
 intro pins s σ H x y v u Q I rx ry h
 obtain⟨p,xs,rfl,hq,fx,fs,q⟩:=h
 cases ry
 rcases hq with hq | hq
 ·obtain⟨its,r,pl,hz⟩:=I.list hq
  refine SeqAt.notIn_listAt (eqU x) pl.isList (fun w hw=>jfx rx fx r fs w (by simpa using hw)) ⟨.bl _,H,I,rfl,?_⟩
  rw[show its.toArray.any (eqU x)=its.any (eqU x) by simp,jik r fs]
  exact q
 ·obtain⟨its,r,pl,hz⟩:=I.tuple hq
  refine SeqAt.notIn_tupleAt (eqU x) pl (fun w hw=>jfx rx fx r fs w (by simpa using hw)) ⟨.bl _,H,I,rfl,?_⟩
  rw[show its.toArray.any (eqU x)=its.any (eqU x) by simp,jik r fs]
  exact q
theorem jdk:CallR X (.builtin "len") (fun xs H Q=>∃p ys,xs=[.ref p]∧(SqL X.K H p ys∨SqT X.K H p ys)∧Q (.int ys.length) H):=by
 intro pins s σ H xs us Q I r h
 obtain⟨p,ys,rfl,hq,q⟩:=h
 obtain⟨u,rfl,rx⟩:=jee r
 cases rx
 have hn:=jj3
 rcases hq with hq | hq
 ·obtain⟨its,r',pl,hz⟩:=I.list hq
  have hlen:=r'.length
  exact Calls.call_len_list pl.isList (by simp only[List.size_toArray]<;>omega) ⟨.int ys.length,H,I.tok _,⟨s.toks+1,by rw[List.size_toArray,hlen]⟩,q⟩
 ·obtain⟨its,r',pl,hz⟩:=I.tuple hq
  have hlen:=r'.length
  exact len_tuple pl (by simp only[List.size_toArray]<;>omega) ⟨.int ys.length,H,I.tok _,⟨s.toks+1,by rw[List.size_toArray,hlen]⟩,q⟩
theorem call_len_str:CallR X (.builtin "len") (fun xs H Q=>∃z,xs=[.str z]∧z.length≤sizeLine∧Q (.int z.length) H):=by
 intro pins s σ H xs us Q I r h
 obtain⟨z,rfl,hz,q⟩:=h
 obtain⟨u,rfl,t,rfl⟩:=jee r
 have hn:=jj3
 exact len_str (by omega) ⟨.int z.length,H,I.tok _,⟨_,rfl⟩,q⟩
theorem CallR.or {f:Value} {r r':List V→Hp→VK→Prop} (h:CallR X f r) (h':CallR X f r'):CallR X f (fun xs H Q=>r xs H Q∨r' xs H Q):=by
 intro pins s σ H xs us Q I rs q
 rcases q with q | q
 ·exact h pins s σ H xs us Q I rs q
 ·exact h' pins s σ H xs us Q I rs q
theorem jmy:CallR X (.type "list") (fun xs H Q=>∃p ys,xs=[.ref p]∧(SqL X.K H p ys∨SqT X.K H p ys)∧∀l,H l=none→Q (.ref l) (upd H l (.lst ys))):=by
 intro pins s σ H xs us Q I r h
 obtain⟨p,ys,rfl,hq,q⟩:=h
 obtain⟨u,rfl,rx⟩:=jee r
 cases rx
 have fin:∀(its:List Value),Vals ys its→ys.length≤sizeLine→∀(h':Heap) (c':Nat),(∀b o',s.heap.get? b=some o'→h'.get? b=some o') →
   h'.get? s.heap.objs.size=some {cls:=.type "list",dict:=none,data:=.seq its.toArray c',slots:=#[]}→EP X pins σ Q (.ref s.heap.objs.size) {s with heap:=h'}:=fun its r' hz h' c' kp e =>
  ⟨.ref s.heap.objs.size,_,I.laid (t':=s.toks) kp (Nat.le_refl _) (show ObjOk X.prog X.w _ h' _ (.lst ys)from⟨hz,its,c',r',e⟩),rfl,q _ (I.hok.fresh (Nat.le_refl _))⟩
 rcases hq with hq | hq
 ·obtain⟨its,r',pl,hz⟩:=I.list hq
  have hlen:=r'.length
  obtain⟨o,ho,hc,n,hd⟩:=pl.isList
  exact call_list_seq p (.inl rfl) ho hc hd (fun h' c' kp e=>fin its r' hz h' c' kp e) (by simp only[List.size_toArray]<;>omega)
 ·obtain⟨its,r',pl,hz⟩:=I.tuple hq
  have hlen:=r'.length
  obtain⟨o,ho,hc,n,hd⟩:=pl
  exact call_list_seq p (.inr rfl) ho hc hd (fun h' c' kp e=>fin its r' hz h' c' kp e) (by simp only[List.size_toArray]<;>omega)
theorem jk9:CallR X (.type "tuple") (fun xs H Q=>∃p ys,xs=[.ref p]∧((SqL X.K H p ys∧∀l,H l=none→Q (.ref l) (upd H l (.tup ys)))∨(SqT X.K H p ys∧Q (.ref p) H))):=by
 intro pins s σ H xs us Q I r h
 obtain⟨p,ys,rfl,h⟩:=h
 obtain⟨u,rfl,rx⟩:=jee r
 cases rx
 rcases h with⟨hq,q⟩ | ⟨hq,q⟩
 ·obtain⟨its,r',pl,hz⟩:=I.list hq
  have hlen:=r'.length
  refine call_tuple_list pl.isList (fun h' kp=>?_) (by simp only[List.size_toArray]<;>omega)
  have I1:Inv X pins σ H {s with heap:=h'}:=I.kept (t':=s.toks) kp
  have I2:Inv X pins σ (upd H h'.objs.size (.tup ys)) {s with heap:=h'.push {cls:=.type "tuple",data:=.seq its.toArray}} :=
   I1.laid (t':=s.toks) (fun b o e=>Heap.get?_push_of_some _ e) (Nat.le_refl _) (show ObjOk X.prog X.w _ _ _ (.tup ys)from⟨hz,its,r',IsTupP.new _ _⟩)
  exact⟨.ref h'.objs.size,_,I2,rfl,q _ (I1.hok.fresh (Nat.le_refl _))⟩
 ·obtain⟨its,r',pl,hz⟩:=I.tuple hq
  exact call_tuple_same pl ⟨.ref p,H,I,rfl,q⟩
noncomputable def tyV (K:PySem.W.Frag) (T:String) (x:V) (H:Hp):Prop:=match x with
 |.str _=>T="str"
 |.int _=>T="int"
 |.ref p=>(T="list"∧∃xs,SqL K H p xs)∨(T="tuple"∧∃o,K.lookup p=some o∧o.cls=.type "tuple"∧o.dict=none) ∨
   (T="dict"∧((∃kvs,H p=some (.dK kvs))∨∃kvs,H p=some (.dT kvs)))∨(T="set"∧∃S n,H p=some (.set S n))
 |_=>False
theorem jvh {pins:List (Addr×Obj)} {σ:St} {H:Hp} {s:Shared} {T:String} {x:V} {v:Value} (I:Inv X pins σ H s) (r:RelV x v) (ty:tyV X.K T x H) :
  s.TypeIs v T∧∀a,v=.ref a→∃ob,s.heap.get? a=some ob∧ob.dict=none:=by
 cases x with
 |str z =>
  obtain⟨t,rfl⟩:=r
  cases(show T="str" from ty)
  exact⟨typeIs_str s z t,fun _ e=>nomatch e⟩
 |int i =>
  obtain⟨t,rfl⟩:=r
  cases(show T="int" from ty)
  exact⟨typeIs_int s i t,fun _ e=>nomatch e⟩
 |ref p =>
  cases r
  rcases ty with⟨rfl,xs,hq⟩ | ⟨rfl,o,hk,hc,hd⟩ | ⟨rfl,hk⟩ | ⟨rfl,S,n,hk⟩
  ·obtain⟨its,_,pl,_⟩:=I.list hq
   refine⟨pl.isList.typeIs,fun a e=>?_⟩
   cases e
   obtain⟨o,n,e,c,hd,_⟩:=pl
   exact⟨o,e,hd⟩
  ·refine⟨⟨o,I.kIn p o hk,hc⟩,fun a e=>?_⟩
   cases e
   exact⟨o,I.kIn _ o hk,hd⟩
  ·have z:∃o,s.heap.get? p=some o∧o.ExactDict:=by
    rcases hk with⟨kvs,hk⟩ | ⟨kvs,hk⟩
    ·obtain⟨_,_,_,_,o,_,_,e,ex,_⟩:=I.hok p _ hk
     exact⟨o,e,ex⟩
    ·obtain⟨_,_,_,_,o,_,_,e,ex,_⟩:=I.hok p _ hk
     exact⟨o,e,ex⟩
   obtain⟨o,e,ex⟩:=z
   refine⟨⟨o,e,ex.1⟩,fun a e2=>?_⟩
   cases e2
   exact⟨o,e,ex.2.1⟩
  ·obtain⟨o,_,_,_,e,ex,_⟩:=I.hok p _ hk
   refine⟨⟨o,e,ex.1⟩,fun a e2=>?_⟩
   cases e2
   exact⟨o,e,ex.2.1⟩
 |_=>exact False.elim ty
noncomputable def tBM0 (K:PySem.W.Frag) (T:String) (r:V→List V→Hp→VK→Prop) (to:TE):TE:=fun σ H Q=>to σ H fun x H1=>tyV K T x H1∧r x [] H1 Q
noncomputable def tBM (K:PySem.W.Frag) (T:String) (r:V→List V→Hp→VK→Prop) (to:TE) (t:TA):TE:=fun σ H Q=>to σ H fun x H1=>tyV K T x H1∧t σ H1 fun xs H2=>r x xs H2 Q
variable {o e:Expr} {es:List Expr} {to:TE} {t:TA} {name:Str} {apos cpos:Pos} {T id:String} {r:V→List V→Hp→VK→Prop}
theorem jzj (pa:PlainAttrs T) (slot:Slot T name id) (hty:typeOf (.builtin id)=pure (.type "method_descriptor")) (hm:MtR X id r) (ho:PE X o to)
  (hbase:attributeBase o name X.env (eval o X.env)=eval o X.env:=by rfl) (hline:(apos.endLine==cpos.line)=true:=by rfl):PE X (.Call (.Attribute o name apos) [] [] cpos) (tBM0 X.K T r to):=by
 intro pins s σ H Q I h
 refine wpAny_Call_method0_late hbase hline (thn (ho pins s σ H _ I h) fun v s1 ⟨x,H1,I1,r1,ty,q1⟩=>?_)
 obtain⟨h1,h2⟩:=jvh I1 r1 ty
 exact⟨T,id,pa,slot,hty,h1,h2,Calls.callWith_builtin rfl (PySem.evalArgs_none (hm pins s1 σ H1 x [] v [] Q I1 r1 .nil q1))⟩
theorem jzk (pa:PlainAttrs T) (slot:Slot T name id) (hty:typeOf (.builtin id)=pure (.type "method_descriptor")) (hm:MtR X id r) (ho:PE X o to) (ha:PA X (e::es) t)
  (hbase:attributeBase o name X.env (eval o X.env)=eval o X.env:=by rfl)
  (hfew:((backTo cpos (starEach (e::es) X.env)).all (fun x=>!x.1)&&(backToKw cpos (keywordEach [] X.env)).all (fun x=>x.1.isSome)
   && decide ((e::es).length+([]:List Keyword).length+(if ([]:List Keyword).isEmpty then 0 else 1) < 30))=true:=by rfl)
  (hline:(apos.endLine==cpos.line)=true:=by rfl) (hs:starEach (e::es) X.env=(false,eval e X.env)::starEach es X.env:=by rfl) (hplain:(backTo cpos (starEach es X.env)).any (·.1)=false:=by rfl) :
  PE X (.Call (.Attribute o name apos) (e::es) [] cpos) (tBM X.K T r to t):=by
 intro pins s σ H Q I h
 refine wpAny_Call_method_late hbase hfew hline rfl (thn (ho pins s σ H _ I h) fun v s1 ⟨x,H1,I1,r1,ty,q1⟩=>?_)
 obtain⟨h1,h2⟩:=jvh I1 r1 ty
 refine⟨T,id,pa,slot,hty,h1,h2,?_⟩
 have hA:=ha cpos pins s1 σ H1 _ I1 q1
 rw[hs]at hA ⊢
 refine Calls.callWith_builtin (by show(false || (backTo cpos (starEach es X.env)).any (·.1))=false;rw[hplain]<;>rfl) (Calls.evalArgs_plain ?_)
 exact thn hA fun us s2 ⟨vs,H2,I2,r2,q2⟩=>hm pins s2 σ H2 x vs v us Q I2 r1 r2 q2
end
noncomputable def MtM (X:Cx) (id:String) (r:V→List V→Hp→VK→Prop):Prop :=
 ∀(pins:List (Addr×Obj)) (s:Shared) (σ:St) (H:Hp) (x:V) (xs:List V) (v:Value) (us:List Value) (Q:VK),Inv X pins σ H s→RelV x v→Vals xs us→r x xs H Q →
  wpAny (model X.prog X.w) X.A (call (.builtin id) (v::us)) (EP X pins σ Q) X.xe s
theorem Vals.one:∀{x:V} {us:List Value},Vals [x] us→∃u,us=[u]∧RelV x u
 |_,_,.cons r .nil=>⟨_,rfl,r⟩
theorem Vals.zero:∀{us:List Value},Vals [] us→us=[]
 |_,.nil=>rfl
section
variable {X:Cx} {pins:List (Addr×Obj)} {σ:St} {H:Hp} {s:Shared} {l b:Addr} {xs ys zs:List V}
theorem Inv.lset {its its':List Value} {n:Nat} {f:Array Value→Array Value} {t':Nat} (I:Inv X pins σ H s) (hH:H l=some (.lst xs))
  (e:s.heap.get? l=some {cls:=.type "list",data:=.seq its.toArray n}) (hf:f its.toArray=its'.toArray) (hv:Vals ys its') (hz:ys.length≤sizeLine) :
  Inv X pins σ (upd H l (.lst ys)) {s with heap:=s.heap.update l (Obj.mapSeq f),toks:=t'}:=by
 have q:=PySem.IsL.update e f
 rw[hf]at q
 refine I.write (x:=l) (e:=l) (by rw[hH];exact trivial) (.inl rfl) (fun b' u hb hu=>(Heap.get?_update_other s.heap (Obj.mapSeq f) (Ne.symm hb)).trans hu) ⟨_,q⟩ ?_
 exact⟨hz,its',_,hv,q⟩
theorem Inv.lnew {its:List Value} {t':Nat} (I:Inv X pins σ H s) (hv:Vals ys its) (hz:ys.length≤sizeLine) :
  Inv X pins σ (upd H s.heap.objs.size (.lst ys)) {s with heap:=s.heap.push {cls:=.type "list",data:=.seq its.toArray},toks:=t'} :=
 I.laid (fun _ _ q=>Heap.get?_push_of_some _ q) (Nat.le_refl _) ⟨hz,its,0,hv,Heap.get?_push_size _ rfl⟩
theorem Inv.fresh (I:Inv X pins σ H s):H s.heap.objs.size=none:=I.hok.fresh (Nat.le_refl _)
theorem Inv.lstM (I:Inv X pins σ H s) (hH:H l=some (.lst xs)):xs.length≤sizeLine∧∃(its:List Value) (n:Nat),Vals xs its∧xs.length=its.length∧s.heap.get? l=some {cls:=.type "list",data:=.seq its.toArray n}:=by
 obtain⟨z,its,n,r,e⟩:=I.hok l _ hH
 exact⟨z,its,n,r,r.length,e⟩
theorem juj {n:Nat} (h:n≤sizeLine):Builtin.List.listTooLong n=false:=by
 unfold Builtin.List.listTooLong
 exact decide_eq_false (by omega)
end
section
variable {X:Cx}
noncomputable def jrc:V→List V→Hp→VK→Prop:=fun x vs H Q=>∃l xs y,x=.ref l∧vs=[y]∧H l=some (.lst xs)∧xs.length < sizeLine∧Q .non (upd H l (.lst (xs++[y])))
theorem jhs:MtM X "list.append" jrc:=by
 intro pins s σ H x vs v us Q I rx rv h
 obtain⟨l,xs,y,rfl,rfl,hH,hz,q⟩:=h
 cases rx
 obtain⟨u,rfl,ru⟩:=rv.one
 obtain⟨z,its,n,r,hl,e⟩:=I.lstM hH
 refine call_meets F.slot_list_append ⟨_,e,rfl⟩ F.entry_list_append (F.args_list_append_2 _ _) (PySem.list_append l its.toArray n u (by rw[List.size_toArray];omega)) ⟨e,?_⟩
 refine⟨.non,_,I.lset (its':=its++[u]) hH e (by simp) (r.append (.cons ru .nil)) ?_,rfl,q⟩
 rw[List.length_append,List.length_singleton]
 omega
noncomputable def jrb:V→List V→Hp→VK→Prop:=fun x vs H Q=>∃l b xs zs,x=.ref l∧vs=[.ref b]∧H l=some (.lst xs)∧H b=some (.lst zs)∧xs.length+zs.length≤sizeLine∧Q .non (upd H l (.lst (xs++zs)))
theorem jr1:MtM X "list.extend" jrb:=by
 intro pins s σ H x vs v us Q I rx rv h
 obtain⟨l,b,xs,zs,rfl,rfl,hH,hB,hz,q⟩:=h
 cases rx
 obtain⟨u,rfl,ru⟩:=rv.one
 cases ru
 obtain⟨z,its,n,r,hl,e⟩:=I.lstM hH
 obtain⟨z2,its2,n2,r2,hl2,e2⟩:=I.lstM hB
 have hsz:its.toArray.size+its2.toArray.size≤sizeLine:=by rw[List.size_toArray,List.size_toArray];omega
 have hlong:¬(!its.toArray.isEmpty&&Builtin.List.listTooLong (its.toArray.size+its2.toArray.size))=true:=by
  rw[juj hsz,Bool.and_false]
  exact Bool.false_ne_true
 refine call_meets F.slot_list_extend ⟨_,e,rfl⟩ F.entry_list_extend (F.args_list_extend_2 _ _)
  (AutoSeq1.list_extend_list_list_0 l its.toArray n b its2.toArray n2 hlong (by rw[List.size_toArray];omega) (by omega)) ⟨e,e2,?_⟩
 refine⟨.non,_,I.lset (its':=its++its2) hH e (by simp) (r.append r2) ?_,rfl,q⟩
 rw[List.length_append]
 omega
noncomputable def rCat:R2:=fun x y H Q=>∃l b xs zs,x=.ref l∧y=.ref b∧H l=some (.lst xs)∧H b=some (.lst zs)∧xs.length+zs.length≤sizeLine∧∀p,H p=none→Q (.ref p) (upd H p (.lst (xs++zs)))
theorem jzv:OpR X (binaryOp .Add) rCat:=by
 intro pins s σ H x y v u Q I rx ry h
 obtain⟨l,b,xs,zs,rfl,rfl,hH,hB,hz,q⟩:=h
 cases rx
 cases ry
 obtain⟨z,its,n,r,hl,e⟩:=I.lstM hH
 obtain⟨z2,its2,n2,r2,hl2,e2⟩:=I.lstM hB
 refine PySem.P.add_list e e2 ?_ (by rw[List.size_toArray,List.size_toArray];omega)
 have ea:its.toArray++its2.toArray=(its++its2).toArray:=by simp
 rw[ea]
 exact⟨.ref _,_,I.lnew (t':=s.toks) (r.append r2) (by rw[List.length_append];omega),rfl,q _ I.fresh⟩
end
section
variable {prog:Program} {w:World} {A:Around} {E:Value→Shared→Prop} {s:Shared}
set_option maxRecDepth 100000 in
end
section
variable {X:Cx}
end
section
variable {κ:Type} [DecidableEq κ]
noncomputable def valV (kvs:List (κ×V)) (k:κ):Option V:=(kvs.find? fun kv=>decide (kv.1=k)).map (·.2)
noncomputable def putK (kvs:List (κ×V)) (k:κ) (v:V):List (κ×V) :=
 if (kvs.any fun kv=>decide (kv.1=k))=true then kvs.map (fun kv=>if kv.1=k then(kv.1,v)else kv)else kvs++[(k,v)]
theorem jke {p:κ×V} {r:List (κ×V)} {k:κ} (e:p.1=k):valV (p::r) k=some p.2:=by simp[valV,List.find?_cons,e]
theorem jkf {p:κ×V} {r:List (κ×V)} {k:κ} (e:¬p.1=k):valV (p::r) k=valV r k:=by simp[valV,List.find?_cons,e]
theorem jn1 (k:κ):∀kvs:List (κ×V),(kvs.any fun kv=>decide (kv.1=k))=(valV kvs k).isSome
 |[]=>rfl
 |p::r=>by
  rw[List.any_cons]
  by_cases e:p.1=k
  ·simp only[jke e,decide_eq_true e,Bool.true_or,Option.isSome_some]
  ·rw[jkf e,decide_eq_false e,Bool.false_or];exact jn1 k r
theorem jhu (kvs:List (κ×V)) (k:κ) (v:V):(putK kvs k v).length≤kvs.length+1:=by
 unfold putK
 split
 ·rw[List.length_map];omega
 ·rw[List.length_append,List.length_cons,List.length_nil];omega
theorem RelO.isSome_eq {o:Option V} {u:Option Value} (r:RelO o u):o.isSome=u.isSome:=by
 cases o with
 |none=>cases u with
  |none=>rfl
  |some _=>exact(show False from r).elim
 |some _=>cases u with
  |none=>exact(show False from r).elim
  |some _=>rfl
theorem KV.val {kvs:List (κ×V)} {vs:List (κ×Value)} (r:KV kvs vs) (k:κ):RelO (valV kvs k) (valueAt vs k):=by
 unfold KV at r
 induction r with
 |nil=>exact True.intro
 |@cons p q ps qs h t ih =>
  obtain⟨h1,h2⟩:=h
  by_cases e:p.1=k
  ·have e':q.1=k:=h1.symm.trans e
   have b:valueAt (q::qs) k=some q.2:=by simp[valueAt,List.find?_cons,e']
   rw[jke e,b];exact h2
  ·have e':¬q.1=k:=fun z=>e (h1.trans z)
   have b:valueAt (q::qs) k=valueAt qs k:=by simp[valueAt,List.find?_cons,e']
   rw[jkf e,b];exact ih
theorem KV.any {kvs:List (κ×V)} {vs:List (κ×Value)} (r:KV kvs vs) (k:κ):(kvs.any fun kv=>decide (kv.1=k))=vs.any fun kv=>decide (kv.1=k):=by
 unfold KV at r
 induction r with
 |nil=>rfl
 |cons h t ih=>rw[List.any_cons,List.any_cons,ih,h.1]
theorem KV.repl {kvs:List (κ×V)} {vs:List (κ×Value)} (r:KV kvs vs) (k:κ) {y:V} {u:Value} (ry:RelV y u) :
  KV (kvs.map fun kv=>if kv.1=k then(kv.1,y)else kv) (vs.map fun kv=>if kv.1=k then(kv.1,u)else kv):=by
 unfold KV at r ⊢
 induction r with
 |nil=>exact .nil
 |@cons p q ps qs h t ih =>
  rw[List.map_cons,List.map_cons]
  refine .cons ?_ ih
  obtain⟨h1,h2⟩:=h
  by_cases e:p.1=k
  ·rw[if_pos e,if_pos (h1.symm.trans e)];exact⟨h1,ry⟩
  ·rw[if_neg e,if_neg (fun z=>e (h1.trans z))];exact⟨h1,h2⟩
theorem KV.put {kvs:List (κ×V)} {vs:List (κ×Value)} (r:KV kvs vs) (k:κ) {y:V} {u:Value} (ry:RelV y u):KV (putK kvs k y) (stored vs k u):=by
 unfold putK stored
 rw[r.any k]
 by_cases e:(vs.any fun kv=>decide (kv.1=k))=true
 ·rw[if_pos e,if_pos e];exact r.repl k ry
 ·rw[if_neg e,if_neg e];exact Paired.snoc r ⟨rfl,ry⟩
theorem KV.length {kvs:List (κ×V)} {vs:List (κ×Value)} (r:KV kvs vs):kvs.length=vs.length:=Paired.length r
end
theorem jsc {P:Program} {w:World} {k:Key} {u:Value} (r:RelV (kV k) u):(jbf P w).is k u=true:=by
 cases k with
 |inl i=>obtain⟨t,e⟩:=(show ∃t,u=Value.int i t from r);subst e;exact jnl P w i t
 |inr x=>obtain⟨t,e⟩:=(show ∃t,u=Value.str x t from r);subst e;exact jnk P w x t
theorem jmi {P:Program} {w:World}:∀{ks:List Key} {us:List Value},Vals (ks.map kV) us→ItemsAre (jbf P w) ks us
 |[],_,r=>by rw[List.map_nil]at r;cases r;exact .nil
 |k::ks,_,r=>by
  rw[List.map_cons]at r
  cases r with
  |cons h t=>exact .cons (jsc h) (jmi t)
noncomputable abbrev KT (H:Hp):List (List Key×V)→List (List Key×Addr×Value)→Prop:=Paired fun p q=>p.1=q.1∧H q.2.1=some (.tup (p.1.map kV))∧RelV p.2 q.2.2
theorem KT.val {H:Hp} {kvs:List (List Key×V)} {xs:List (List Key×Addr×Value)} (r:KT H kvs xs) (k:List Key):RelO (valV kvs k) ((atKey xs k).map (·.2)):=by
 induction r with
 |nil=>exact True.intro
 |@cons p q ps qs h t ih =>
  obtain⟨h1,_,h2⟩:=h
  by_cases e:p.1=k
  ·have e':q.1=k:=h1.symm.trans e
   have b:atKey (q::qs) k=some q.2:=by simp[atKey,List.find?_cons,e']
   rw[jke e,b];exact h2
  ·have e':¬q.1=k:=fun z=>e (h1.trans z)
   have b:atKey (q::qs) k=atKey qs k:=by simp[atKey,List.find?_cons,e']
   rw[jkf e,b];exact ih
theorem KT.repl {H:Hp} {kvs:List (List Key×V)} {xs:List (List Key×Addr×Value)} (r:KT H kvs xs) (k:List Key) {y:V} {u:Value} (ry:RelV y u) :
  KT H (kvs.map fun kv=>if kv.1=k then(kv.1,y)else kv) (xs.map (putAt k u)):=by
 induction r with
 |nil=>exact .nil
 |@cons p q ps qs h t ih =>
  rw[List.map_cons,List.map_cons]
  refine .cons ?_ ih
  obtain⟨h1,h2,h3⟩:=h
  unfold putAt
  by_cases e:p.1=k
  ·rw[if_pos e,if_pos (h1.symm.trans e)];exact⟨h1,h2,ry⟩
  ·rw[if_neg e,if_neg (fun z=>e (h1.trans z))];exact⟨h1,h2,h3⟩
theorem KT.put {H:Hp} {kvs:List (List Key×V)} {xs:List (List Key×Addr×Value)} (r:KT H kvs xs) (k:List Key) {b:Addr} {y:V} {u:Value} (hb:H b=some (.tup (k.map kV))) (ry:RelV y u) :
  KT H (putK kvs k y) (storedH xs k b u):=by
 have e:(kvs.any fun kv=>decide (kv.1=k))=(atKey xs k).isSome:=by
  rw[jn1,(r.val k).isSome_eq,Option.isSome_map]
 unfold putK storedH
 rw[e]
 by_cases q:(atKey xs k).isSome=true
 ·rw[if_pos q,if_pos q];exact r.repl k ry
 ·rw[if_neg q,if_neg q];exact Paired.snoc r ⟨rfl,hb,ry⟩
theorem KT.keeps {H H':Hp} {kvs:List (List Key×V)} {xs:List (List Key×Addr×Value)} (r:KT H kvs xs) (ht:∀b ys,H b=some (.tup ys)→H' b=some (.tup ys)):KT H' kvs xs :=
 Paired.mapP r fun _ _ z=>⟨z.1,ht _ _ z.2.1,z.2.2⟩
section
variable {P:Program} {w:World} {H:Hp} {h:Heap} {a:Addr}
theorem jy4 {u:HO} (ok:HOk P w H h) (e:Rd H a u):ObjOk P w H h a u:=e.ok ok
theorem jsv {kvs:List (Key×V)} (ok:HOk P w H h) (e:Rd H a (.dK kvs)):kvs.length≤sizeLine∧(a==sysModules)=false∧∃vs,KV kvs vs∧h.DictOf (jbf P w) a vs :=
 show ObjOk P w H h a (.dK kvs)from jy4 ok e
theorem j1w {kvs:List (Key×V)} (ok:HOk P w H h) (e:H a=some (.dK kvs)):kvs.length≤sizeLine∧(a==sysModules)=false∧∃vs,KV kvs vs∧h.DictOf (jbf P w) a vs:=jsv ok (.inl e)
theorem jhv {ks:List Key} (ok:HOk P w H h) (e:H a=some (.tup (ks.map kV))):(tupleKind (jbf P w)).is h ks a:=by
 obtain⟨_,its,r,o,h1,h2,⟨n,h3⟩,_⟩:=(show ObjOk P w H h a (.tup (ks.map kV))from ok a _ e)
 exact⟨o,its.toArray,n,h1,h2,h3,by simpa using jmi r⟩
theorem jsu {kvs:List (List Key×V)} (ok:HOk P w H h) (e:Rd H a (.dT kvs)):kvs.length≤sizeLine∧(a==sysModules)=false ∧
  ∃xs,KT H kvs xs∧h.DictOfH (tupleKind (jbf P w)) a xs:=by
 obtain⟨z,y,xs,r,o,es,ep,h1,h2,h3,h4,h5⟩:=(show ObjOk P w H h a (.dT kvs)from jy4 ok e)
 refine⟨z,y,xs,r,o,es,ep,h1,h2,h3,h4,fun x hx=>?_,h5⟩
 have all:∀{l:List (List Key×V)} {m:List (List Key×Addr×Value)},KT H l m→∀x∈m,(tupleKind (jbf P w)).is h x.1 x.2.1:=by
  intro l m q
  induction q with
  |nil=>intro x hx;exact nomatch hx
  |@cons p q ps qs hq t ih =>
   intro x hx
   rcases List.mem_cons.mp hx with e | hx
   ·subst e
    exact jhv ok (by rw[←hq.1];exact hq.2.1)
   ·exact ih x hx
 exact all r x hx
theorem j1v {kvs:List (List Key×V)} (ok:HOk P w H h) (e:H a=some (.dT kvs)):kvs.length≤sizeLine∧(a==sysModules)=false ∧
  ∃xs,KT H kvs xs∧h.DictOfH (tupleKind (jbf P w)) a xs:=jsu ok (.inl e)
end
noncomputable def DGet (H:Hp) (a:Addr) (y:V) (r:Option V):Prop :=
 (∃kvs k,Rd H a (.dK kvs)∧y=kV k∧r=valV kvs k)∨∃kvs k b,Rd H a (.dT kvs)∧y=.ref b∧H b=some (.tup (k.map kV))∧r=valV kvs k
noncomputable def DPut (H:Hp) (a:Addr) (y v:V) (H':Hp):Prop :=
 (∃kvs k,H a=some (.dK kvs)∧y=kV k∧kvs.length < sizeLine∧H'=upd H a (.dK (putK kvs k v))) ∨
 ∃kvs k b,H a=some (.dT kvs)∧y=.ref b∧H b=some (.tup (k.map kV))∧kvs.length < sizeLine∧H'=upd H a (.dT (putK kvs k v))
theorem DPut.k {H:Hp} {a:Addr} {kvs:List (Key×V)} {k:Key} {v:V} (e:H a=some (.dK kvs)) (hl:kvs.length < sizeLine):DPut H a (kV k) v (upd H a (.dK (putK kvs k v))):=.inl ⟨kvs,k,e,rfl,hl,rfl⟩
section
variable {X:Cx} {pins:List (Addr×Obj)} {σ:St} {H:Hp} {s:Shared} {a:Addr} {y v:V} {u r:Value} {o:Option V} {A:Around} {E:Value→Shared→Prop}
theorem Inv.big (I:Inv X pins σ H s):sysModules < s.heap.objs.size:=by
 have h:mainGlobals < s.heap.objs.size:=(I.mod.glob.keeps I.bk).lt
 exact Nat.lt_trans (by decide) h
theorem js2 {Q:Value→Shared→Prop} (hu:A.units+1 < cLine) (I:Inv X pins σ H s) (g:DGet H a y (some v)) (ry:RelV y u) (h:∀w' s',Inv X pins σ H s'→RelV v w'→Q w' s') :
  wpAny (model X.prog X.w) A (getItem (.ref a) u) Q E s:=by
 rcases g with⟨kvs,k,e,ey,l⟩ | ⟨kvs,k,b,e,ey,eb,l⟩
 ·subst ey
  obtain⟨z,hd,vs,rel,dd⟩:=jsv I.hok e
  obtain⟨w',hw,rw'⟩:=RelO.some_of (v:=v) (o:=valueAt vs k) (by rw[l];exact rel.val k)
  exact wpAny_getItem_of (jsc ry) dd.mapOf hw (h w' _ (I.tok _) rw')
 ·subst ey
  cases(show u=Value.ref b from ry)
  obtain⟨z,hd,xs,rel,dd⟩:=jsu I.hok e
  obtain⟨w',hw,rw'⟩:=RelO.some_of (v:=v) (o:=(atKey xs k).map (·.2)) (by rw[l];exact rel.val k)
  obtain⟨p,hp,hp2⟩:=Option.map_eq_some_iff.mp hw
  refine wpAny_getItem_heap (tupleKind_room_in1 hu) (jhv I.hok eb) dd hp ?_
  rw[hp2]
  exact h w' _ (I.tok _) rw'
theorem d_in {Q:Value→Shared→Prop} (hu:A.units+1 < cLine) (I:Inv X pins σ H s) (g:DGet H a y o) (ry:RelV y u) (h:∀s',Inv X pins σ H s'→Q (.bool o.isSome) s') :
  wpAny (model X.prog X.w) A (compareOp .In u (.ref a)) Q E s:=by
 rcases g with⟨kvs,k,e,ey,l⟩ | ⟨kvs,k,b,e,ey,eb,l⟩
 ·subst ey
  obtain⟨z,hd,vs,rel,dd⟩:=jsv I.hok e
  refine wpAny_in_of (jsc ry) hd dd.mapOf ?_
  rw[←(rel.val k).isSome_eq,←l]
  exact h _ (I.tok _)
 ·subst ey
  cases(show u=Value.ref b from ry)
  obtain⟨z,hd,xs,rel,dd⟩:=jsu I.hok e
  refine wpAny_in_heap (tupleKind_room_in1 hu) (jhv I.hok eb) hd dd ?_
  have q:=(rel.val k).isSome_eq
  rw[Option.isSome_map]at q
  rw[←q,←l]
  exact h _ (I.tok _)
theorem jxx {Q:Value→Shared→Prop} (hu:A.units+1 < cLine) (I:Inv X pins σ H s) (g:DGet H a y o) (ry:RelV y u) (h:∀s',Inv X pins σ H s'→Q (.bool (!o.isSome)) s') :
  wpAny (model X.prog X.w) A (compareOp .NotIn u (.ref a)) Q E s:=by
 rcases g with⟨kvs,k,e,ey,l⟩ | ⟨kvs,k,b,e,ey,eb,l⟩
 ·subst ey
  obtain⟨z,hd,vs,rel,dd⟩:=jsv I.hok e
  refine wpAny_notIn_of (jsc ry) hd dd.mapOf ?_
  rw[←(rel.val k).isSome_eq,←l]
  exact h _ (I.tok _)
 ·subst ey
  cases(show u=Value.ref b from ry)
  obtain⟨z,hd,xs,rel,dd⟩:=jsu I.hok e
  refine wpAny_notIn_heap (tupleKind_room_in1 hu) (jhv I.hok eb) hd dd ?_
  have q:=(rel.val k).isSome_eq
  rw[Option.isSome_map]at q
  rw[←q,←l]
  exact h _ (I.tok _)
theorem js0 {h':Heap} {t':Nat} {ob:HO} (I:Inv X pins σ H s) (mu:Mut (H a)) (hs:Heap.SameBut a s.heap h') (he:∃q,h'.get? a=some q) (new:ObjOk X.prog X.w (upd H a ob) h' a ob) :
  Inv X pins σ (upd H a ob) {s with heap:=h',toks:=t'} :=
 I.write (x:=a) (e:=a) mu (.inl rfl) (fun b q hb z=>(hs.2 b hb).trans z) he new
theorem jv1 {P:Program} {w:World} {H':Hp} {h':Heap} {kvs:List (Key×V)} {vs:List (Key×Value)} (z:kvs.length≤sizeLine) (hd:(a==sysModules)=false) (rel:KV kvs vs) (dd:h'.DictOf (jbf P w) a vs) :
  ObjOk P w H' h' a (.dK kvs):=⟨z,hd,vs,rel,dd⟩
theorem js1 {H':Hp} {Q:Unit→Shared→Prop} (hu:A.units+1 < cLine) (I:Inv X pins σ H s) (g:DPut H a y v H') (ry:RelV y u) (rv:RelV v r) (h:∀s',Inv X pins σ H' s'→Q () s') :
  wpAny (model X.prog X.w) A (setItem (.ref a) u r) Q E s:=by
 rcases g with⟨kvs,k,e,ey,l,eH⟩ | ⟨kvs,k,b,e,ey,eb,l,eH⟩
 ·subst ey eH
  obtain⟨z,hd,vs,rel,dd⟩:=j1w I.hok e
  have hz:vs.length≤sizeLine:=by rw[←rel.length];exact z
  have hl:(putK kvs k v).length≤sizeLine:=by have:=jhu kvs k v;omega
  refine wpAny_setItem_pairs (hsz:=hz) (jsc ry) dd fun h' dd' hs=>h _ ?_
  have he:∃q,h'.get? a=some q:=let⟨q,_,_,hq,_⟩:=dd';⟨q,hq⟩
  exact js0 I (by rw[e];exact True.intro) hs he (jv1 hl hd (rel.put k rv) dd')
 ·subst ey eH
  cases(show u=Value.ref b from ry)
  obtain⟨z,hd,xs,rel,dd⟩:=j1v I.hok e
  have hz:xs.length≤sizeLine:=by rw[←Paired.length rel];exact z
  have hl:(putK kvs k v).length≤sizeLine:=by have:=jhu kvs k v;omega
  refine wpAny_setItem_heap (hsz:=hz) (tupleKind_room_in1 hu) (jhv I.hok eb) dd fun h' dd' hs=>h _ ?_
  obtain⟨q,es,ep,hq,h2,h3,h4,_,h5⟩:=dd'
  refine js0 I (by rw[e];exact True.intro) hs ⟨q,hq⟩ ⟨hl,hd,_,(rel.put k eb rv).keeps fun c ys ec=>?_,q,es,ep,hq,h2,h3,h4,h5⟩
  rw[jal (jzz ec e (fun z=>nomatch z))]
  exact ec
end
section
variable {X:Cx} {pins:List (Addr×Obj)} {σ:St} {H:Hp} {s:Shared} {a:Addr} {kvs:List (Key×V)} {k:Key} {u:Value} {A:Around} {E:Value→Shared→Prop}
end
noncomputable def NoSl (i:Expr):Prop:=∀ov iv,subscripted i false ov iv=operate [ov,iv] (getItem ov iv)
theorem jwk {prog:Program} {w:World} {A:Around} {E:Value→Shared→Prop} {s:Shared} {env:Env} {value slice:Expr} {pos:Pos} {T id:String} {Q:Value→Shared→Prop}
  (hl:typeLookup (.type T) "__getitem__"=pure (some (.builtin id))) (hs:NoSl slice)
  (h:wpAny (model prog w) A (eval value env) (fun o s₁=>wpAny (model prog w) A (eval slice env) (fun i s₂=>s₂.TypeIs o T∧wpAny (model prog w) A (getItem o i) Q E s₂) E s₁) E s) :
  wpAny (model prog w) A (eval (.Subscript value slice pos) env) Q E s:=by
 refine Subscript_ (wpAny_mono h (fun o s₁ h₁=>wpAny_mono h₁ (fun i s₂ h₂=>?_) fun _ _ x=>x) fun _ _ x=>x)
 obtain⟨hT,h₂⟩:=h₂
 unfold subscriptTail
 refine wpAny_bind ?_
 rw[getitemInPython_of_ne hT.not_modules]
 refine wpAny_bind (wpAny_specialOf hT hl ?_)
 have fin:wpAny (model prog w) A (subscripted slice false o i) (fun r s₃=>wpAny (model prog w) A (letTemporaryGo value o r>>=fun _=>pure r) Q E s₃) E s₂:=by
  rw[hs o i]
  exact wpAny_operating (wpAny_mono h₂ (fun r s₃ h₃=>wpAny_bind (wpAny_letTemporaryGo (wpAny_pure h₃))) fun _ _ x=>x)
 first
  |exact wpAny_pure (wpAny_bind fin)
  |exact wpAny_bind (wpAny_pure (wpAny_bind fin))
  |exact wpAny_bind fin
theorem jnr {X:Cx} {pins:List (Addr×Obj)} {σ:St} {H:Hp} {s:Shared} {a:Addr} {y:V} {o:Option V} (I:Inv X pins σ H s) (g:DGet H a y o):s.TypeIs (.ref a) "dict":=by
 rcases g with⟨kvs,k,e,_,_⟩ | ⟨kvs,k,b,e,_,_,_⟩
 ·obtain⟨_,_,vs,_,dd⟩:=jsv I.hok e
  exact dd.typeIs
 ·obtain⟨_,_,xs,_,dd⟩:=jsu I.hok e
  exact dd.typeIs
noncomputable def jyj (td ty:TE):TE:=fun σ H Q=>td σ H fun x H1=>ty σ H1 fun y H2=>∃a v,x=.ref a∧DGet H2 a y (some v)∧Q v H2
noncomputable def tDIn (ty td:TE):TE:=fun σ H Q=>ty σ H fun y H1=>td σ H1 fun x H2=>∃a o,x=.ref a∧DGet H2 a y o∧Q (.bl o.isSome) H2
noncomputable def jna (ty td:TE):TE:=fun σ H Q=>ty σ H fun y H1=>td σ H1 fun x H2=>∃a o,x=.ref a∧DGet H2 a y o∧Q (.bl (!o.isSome)) H2
noncomputable def jyy (td ty tv:TE):TS:=fun D σ H=>tv σ H fun v H1=>td σ H1 fun x H2=>ty σ H2 fun y H3=>∃a H4,x=.ref a∧DPut H3 a y v H4∧D.nx σ H4
section
variable {X:Cx} {o i e value:Expr} {pos pos' tpos:Pos} {td ty tv:TE}
theorem jw7 (hu:X.A.units+1 < cLine) (ho:PE X o td) (hi:PE X i ty) (hs:NoSl i):PE X (.Subscript o i pos) (jyj td ty):=by
 intro pins s σ H Q I h
 refine jwk PySem.F.slot_dict_getitem.lookup hs (thn (ho pins s σ H _ I h) fun u s1 ⟨x,H1,I1,rx,q1⟩=>thn (hi pins s1 σ H1 _ I1 q1) fun iv s2 ⟨y,H2,I2,ry,a,v,ex,g,q2⟩=>?_)
 subst ex
 obtain rfl:u=Value.ref a:=rx
 exact⟨jnr I2 g,js2 hu I2 g ry fun w' s3 I3 rw'=>⟨v,H2,I3,rw',q2⟩⟩
theorem jzm (hu:X.A.units+1 < cLine) (hi:PE X i ty) (ho:PE X o td):PC X .In i o (tDIn ty td):=by
 intro pins s σ H Q I h
 refine thn (hi pins s σ H _ I h) fun iv s1 ⟨y,H1,I1,ry,q1⟩=>thn (ho pins s1 σ H1 _ I1 q1) fun u s2 ⟨x,H2,I2,rx,a,ov,ex,g,q2⟩=>?_
 subst ex
 obtain rfl:u=Value.ref a:=rx
 exact d_in hu I2 g ry fun s3 I3=>⟨.bl ov.isSome,H2,I3,rfl,q2⟩
theorem jro (hu:X.A.units+1 < cLine) (hi:PE X i ty) (ho:PE X o td):PC X .NotIn i o (jna ty td):=by
 intro pins s σ H Q I h
 refine thn (hi pins s σ H _ I h) fun iv s1 ⟨y,H1,I1,ry,q1⟩=>thn (ho pins s1 σ H1 _ I1 q1) fun u s2 ⟨x,H2,I2,rx,a,ov,ex,g,q2⟩=>?_
 subst ex
 obtain rfl:u=Value.ref a:=rx
 exact jxx hu I2 g ry fun s3 I3=>⟨.bl (!ov.isSome),H2,I3,rfl,q2⟩
theorem jw1 (hu:X.A.units+1 < cLine) (ho:PE X o td) (hi:PE X i ty) (hv:PE X value tv) (hs:swapsWith value (some (.Subscript o i pos')) pos.line X.env=pure false) :
  PS X (.Assign [.Subscript o i pos'] value pos) (jyy td ty tv):=by
 intro pins s σ H D I h
 refine wpAny_Assign_Subscript (thn (hv pins s σ H _ I h) fun r s1 ⟨v,H1,I1,rv,q1⟩=>thn (ho pins s1 σ H1 _ I1 q1) fun u s2 ⟨x,H2,I2,rx,q2⟩=>thn (hi pins s2 σ H2 _ I2 q2) fun iv s3 ⟨y,H3,I3,ry,a,H4,ex,g,q3⟩=>?_) hs
 subst ex
 obtain rfl:u=Value.ref a:=rx
 exact js1 hu I3 g ry rv fun s4 I4=>⟨σ,H4,I4,q3⟩
end
theorem ju2 {P:Program} {w:World} {H:Hp} (h:Heap) (hb:sysModules < h.objs.size):ObjOk P w H (h.push {cls:=.type "dict",data:=.dict #[]}) h.objs.size (.dK []) :=
 ⟨Nat.zero_le _,beq_eq_false_iff_ne.mpr (Ne.symm (Nat.ne_of_lt hb)),[],.nil,Heap.DictOf.new h⟩
noncomputable def jvj:TE:=fun _ H Q=>∀p,H p=none→Q (.ref p) (upd H p (.dK []))
section
variable {X:Cx} {pos:Pos}
theorem jue:PE X (.Dict [] [] pos) jvj:=fun pins s σ H Q I h =>
 wpAny_Dict_empty ⟨.ref s.heap.objs.size,_,I.laid (a:=s.heap.objs.size) (o:=.dK []) (t':=s.toks) (fun _ _ q=>Heap.get?_push_of_some _ q) (Nat.le_refl _) (ju2 s.heap I.big),rfl,h _ (I.hok.fresh (Nat.le_refl _))⟩
end
section
variable {X:Cx} {pins:List (Addr×Obj)} {σ:St} {H:Hp} {s:Shared} {a:Addr} {y d:V} {u r:Value} {o:Option V} {A:Around} {E:Value→Shared→Prop}
end
section
variable {X:Cx} {o e f:Expr} {apos cpos:Pos} {td ty tx:TE}
end
section
variable {X:Cx} {pins:List (Addr×Obj)} {σ:St} {H:Hp} {s:Shared} {a:Addr} {kvs:List (Key×V)} {A:Around} {E:Value→Shared→Prop}
end
section
variable {X:Cx} {pins:List (Addr×Obj)} {σ:St} {H:Hp} {s:Shared} {a:Addr} {y:V} {u:Value} {A:Around} {E:Value→Shared→Prop}
end
end L2
namespace Att
open PySem PySem.W PySem.Calls PyProof.Rows
theorem jhw {P:Params} {h:Heap}:∀(ns:List Int) (vs:List Value),WellAll P h vs (ns.map WData.int)→IntsAre vs ns:=by
 intro ns
 induction ns with
 |nil =>
  intro vs w
  rw[List.map_nil]at w
  cases w
  exact .nil
 |cons n ns ih =>
  intro vs w
  rw[List.map_cons]at w
  cases w with
  |cons a b =>
   cases a
   exact .cons _ _ (ih _ b)
theorem jq0 {l:OpenLaw} {n:Nat} (hn:l.most=some n) {P:Params} {h:Heap} {args:List WData} {vals:List Value}
  (hpre:l.row.toRowW.claim.pre args=true) (hwl:WellAll P h vals args) :
  ∃a vs ns,vals=[Value.ref a]∧args=[WData.list (ns.map WData.int)]∧h.get? a=some {cls:=.type "list",data:=.seq vs.toArray}∧IntsAre vs ns∧ns.length≤n:=by
 have hsh:WShape.hasAll [] args [.list .int]=true:=(pre_splitW hpre).1
 have hc:l.pre.holds [] {args:=args}=true:=(pre_splitW hpre).2
 obtain⟨d,r,rfl,h1,h2⟩:=hasAllW_cons hsh
 obtain rfl:=hasAllW_nil h2
 obtain⟨xs,rfl,h3⟩:=hasW_list h1
 obtain⟨ns,rfl⟩:=items_int h3
 have hlen:ns.length≤n:=by
  unfold OpenLaw.pre at hc
  have h4:(WTm.not (.lt (.lit (.int (n:Int))) (.len (.arg 0)))).holds [] {args:=[.list (ns.map .int)]}=true:=by
   have h4:=(holds_andW hc).1
   rw[hn]at h4
   exact h4
  have h5:=condW_of h4 (w_not (w_lt w_lit (w_len_list (w_arg rfl))))
  rw[List.length_map]at h5
  refine Nat.le_of_not_lt fun q=>?_
  have q':(n:Int) < ((ns.length:Nat):Int):=by omega
  first
   | (rw[decide_eq_true q']at h5;exact absurd h5 (by decide))
   | (simp at h5;omega)
 cases hwl with
 |cons w1 w2 =>
  cases w2
  cases w1 with
  |list ho hall=>exact⟨_,_,ns,rfl,rfl,ho,jhw ns _ hall,hlen⟩
theorem jrh (l:OpenLaw) (args:List WData):l.row.toRowW.claim.post args (.bool true) args=true :=
 postW_of (r:=l.row.toRowW) (X:=(true==true))
  (show WShape.has [] (.bool true) .bool=true by first | rfl | decide | simp[WShape.has,WShape.arms,WShape.armsAll])
  (show(WTm.eq .res (.lit (.bool true))).value [] {args:=args,res:=some (.bool true),after:=args}=some (.bool (true==true))from w_eq_bool (w_res rfl) w_lit) rfl
theorem attach_call {l:OpenLaw} {n:Nat} {q:Program} {loose:List Str} {XP:(Str→Option Value)→Heap→Prop} {YP:World→Heap→Prop} {d:DefRec}
  (hn:l.most=some n) (hdf:d.params.defaults=[])
  (call:∀(w:World) (s₀ s₁:Shared) (mg mb:Str→Option Value) (fa:Addr) (o:Obj) (pm cd doc:Value) (a:Addr) (vs:List Value) (ns:List Int),
   Ground q loose [] XP w s₀ mg mb s₁.heap→YP w s₁.heap →
   s₁.heap.get? fa=some o→o.data=.func (docDef d.name d.params d.body d.scope pm cd doc)→s₁.heap.CodeRec cd d.name→mg d.name=some (.ref fa) →
   s₁.heap.get? a=some {cls:=.type "list",data:=.seq vs.toArray}→IntsAre vs ns→ns.length≤n→s₁.gens=#[] →
   codeAny (model l.prog w) callerA (.call (.ref fa) ⟨[.ref a],[]⟩) (fun r s'=>r=.ok (.ret (.bool true))∧OldK s₁.heap s'.heap∧s'.os=s₁.os∧AllBare s'.gens) s₁) :
  WalkO q loose XP YP l.row.toRowW d [] (fun f vs=>PySem.call f vs):=by
 intro w s₀ s₁ mg mb G Y fa o pm cd doc dV kV ho hd hcd hD hmg hg args vals as hpre hlay hrd hwl hlo
 obtain rfl:dV=.none:=Dflts.none hD hdf
 obtain rfl:kV=.none:=Dflts.noKw hD
 obtain⟨a,vs,ns,rfl,rfl,hobj,hints,hlen⟩:=jq0 hn hpre hwl
 refine enter_call (codeAny_mono (call w s₀ s₁ mg mb fa o pm cd doc a vs ns G Y ho (fd_plain hd) hcd hmg hobj hints hlen hg) fun r s' hq=>?_)
 obtain⟨rfl,h2,h3,h4⟩:=hq
 exact⟨.inl ⟨.bool true,.bool true,[],rfl,fun _=>rfl,.bool true,jrh l _,fun _=>⟨List.Pairwise.nil,fun _ hm=>(nomatch hm)⟩⟩,h2,h3,h4⟩
section
variable {prog:Program} {w:World} {A:Around} {E:Value→Shared→Prop} {s:Shared} {K:Frag}
end
end Att
namespace L2
open PySem PySem.Spec PyProof.Rows
theorem jlk:∀{vs:List Value} {ns:List Int},IntsAre vs ns→Vals (ns.map V.int) vs
 |_,_,.nil=>.nil
 |_,_,.cons n t h=>.cons ⟨t,rfl⟩ (jlk h)
noncomputable def Only (H:Hp):Prop:=∀b,H b=none∨∃o xs,H b=some (.frz o (.lst xs))
theorem jur {P:Program} {w:World} {K:PySem.W.Frag} {mg mb:Str→Option Value} {CX:CXT} {k:Nat} {fa a:Addr} {fd:FuncData} {x:Str} {sp:Sp} {s₁:Shared} {vs:List Value} {ns:List Int}
  (KX:K.In s₁.heap) (hns:s₁.heap.Ns mainGlobals mg) (hb:s₁.heap.Ns builtinsNs mb) (hbb:∀x:Str,x≠"__name__"→mb x=bootBuiltins x) (hlim:s₁.heap.NoLimit) (hg:s₁.gens=#[])
  (ha:s₁.heap.get? a=some {cls:=.type "list",data:=.seq vs.toArray}) (hi:IntsAre vs ns) (hl:ns.length≤sizeLine) (hr:Room k callerA)
  (F:∀base:Heap,K.In base→base.Ns mainGlobals mg→FnOk P w K mg base CX k fa fd [x] sp) (hbind:∀(s:Shared) (u:Value),BindsTo s fd ⟨[u],[]⟩ [(x,u)])
  (hsp:∀H:Hp,Only H→SqL K H a (ns.map V.int)→sp [.ref a] H (fun v _=>v=.bl true) fun _ _ _=>False)
  (hCX:∀H e s',CX [] H s₁ (fun _ _ _=>False) e s'→False) :
  codeAny (model P w) callerA (.call (.ref fa) ⟨[.ref a],[]⟩) (fun r s'=>r=.ok (.ret (.bool true))∧OldK s₁.heap s'.heap∧s'.os=s₁.os∧AllBare s'.gens) s₁:=by
 have rv:=jlk hi
 have lenV:=hi.length
 -- from an abstract heap in which nothing but the script may be tracked
 have core:∀H:Hp,Only H→SqL K H a (ns.map V.int)→HOk P w H s₁.heap→(∀b,H b≠none→b=a)→(H a≠none→K.lookup a=none) →
   codeAny (model P w) callerA (.call (.ref fa) ⟨[.ref a],[]⟩) (fun r s'=>r=.ok (.ret (.bool true))∧OldK s₁.heap s'.heap∧s'.os=s₁.os∧AllBare s'.gens) s₁:=by
  intro H hO hS hok hA hK
  have base_of:∀{b:Addr} {o:Obj},s₁.heap.get? b=some o→H b=none→(hidT s₁.heap H).get? b=some o:=fun e n=>juw e n
  have noA:∀{b:Addr} {o:Obj} {es:Array DictEntry} {ep:Nat},s₁.heap.get? b=some o→o.data=.dict es ep→H b=none:=fun{b o es ep} e d=>by
   cases q:H b with
   |none=>rfl
   |some u =>
    have e':b=a:=hA b (by rw[q];simp)
    subst e'
    rw[ha]at e;cases e
    have d':Data.seq vs.toArray _=Data.dict es ep:=d
    cases d'
  have nsK:∀{b:Addr} {m:Str→Option Value},s₁.heap.Ns b m→(hidT s₁.heap H).Ns b m:=fun{b m} ⟨o,es,ep,e,d,r⟩=>⟨o,es,ep,base_of e (noA e d),d,r⟩
  have hKb:K.In (hidT s₁.heap H):=fun b o e=>base_of (KX b o e) (by
   cases q:H b with
   |none=>rfl
   |some u =>
    have e':b=a:=hA b (by rw[q];simp)
    subst e'
    rw[hK (by rw[q];simp)]at e;cases e)
  have hM:Mod K mg (hidT s₁.heap H):=⟨hKb,nsK hns,⟨mb,nsK hb,hbb⟩,let⟨mc,h1,h2⟩:=hlim;⟨mc,nsK h1,h2⟩⟩
  have e0:Env0 P w K mg (hidT s₁.heap H) callerA [] s₁ H:=⟨rfl,hM,fun b o e=>jxh e,Nat.le_of_eq (jsm _ _),trivial,fun b hb=>absurd (show b∈([]:List Addr)from hb) (by simp),hok,.of_eq hg⟩
  refine codeAny_mono ((F _ hKb (nsK hns)).run callerA [] s₁ H ⟨[.ref a],[]⟩ [.ref a] [.ref a] _ _ hr e0 (hbind s₁ (.ref a)) (.cons rfl .nil) (hsp H hO hS)) fun r s' h=>?_
  cases r with
  |error e=>exact(hCX H e s' h).elim
  |ok fl =>
   cases fl with
   |next=>exact False.elim h
   |brk=>exact False.elim h
   |cont=>exact False.elim h
   |ret u =>
    obtain⟨v,H',os,bare,un,hok',r',q⟩:=h
    have q':v=.bl true:=q
    subst q'
    obtain rfl:u=Value.bool true:=r'
    refine⟨rfl,OldK.of_keep fun b o e=>?_,os,bare⟩
    cases q:H b with
    |none=>exact un.keep b o e q (by intro z;exact absurd (show b∈([]:List Addr)from z) (by simp)) (by simp)
    |some u =>
     rcases hO b with z | ⟨ob,xs,z⟩
     ·rw[q]at z;cases z
     ·have z2:=un.frzs b ob _ z
      obtain⟨e1,_⟩:=hok b _ z
      obtain⟨e2,_⟩:=hok' b _ z2
      rw[e]at e1;cases e1
      exact e2
 cases hk:K.lookup a with
 |some o =>
  -- the script is one of the module's own objects
  have e:=KX a o hk
  rw[ha]at e
  cases e
  refine core (fun _=>none) (fun _=>.inl rfl) (.inr ⟨_,vs.toArray,_,hk,rfl,rfl,rfl,by rw[List.size_toArray,lenV];exact hl,by simpa using rv⟩) (fun b u z=>by have z':(none:Option HO)=some u:=z;cases z') (fun b z=>absurd rfl z) fun z=>absurd rfl z
 |none =>
  refine core (fun b=>if b=a then some (.frz {cls:=.type "list",data:=.seq vs.toArray} (.lst (ns.map V.int)))else none) (fun b=>?_) (.inl (.inr ⟨{cls:=.type "list",data:=.seq vs.toArray},if_pos rfl⟩)) (fun b u z=>?_) (fun b z=>?_) fun _=>hk
  ·by_cases hb:b=a
   ·exact .inr ⟨_,_,if_pos hb⟩
   ·exact .inl (if_neg hb)
  ·by_cases hb:b=a
   ·have z':=(if_pos hb).symm.trans z
    cases z'
    subst hb
    exact⟨ha,by rw[List.length_map];exact hl,vs,_,rv,ha⟩
   ·have z':=(if_neg hb).symm.trans z
    cases z'
  ·by_cases hb:b=a
   ·exact hb
   ·exact absurd (if_neg hb) z
theorem walk_of {l:PySem.W.OpenLaw} {n k:Nat} {q:Program} {loose:List Str} {XP:(Str→Option Value)→Heap→Prop} {YP:World→Heap→Prop} {d:DefRec} {K:Params→PySem.W.Frag} {CX:World→CXT} {sp:World→Sp} {x:Str}
  (hn:l.most=some n) (hn2:n≤sizeLine) (hdf:d.params.defaults=[]) (hr:Room k callerA)
  (hY:∀(w:World) (h:Heap),YP w h→(K w.params).In h)
  (F:∀(w:World) (mg:Str→Option Value) (fa:Addr) (h:Heap),(K w.params).In h→h.Ns mainGlobals mg→mg d.name=some (.ref fa) →
   ∃fd:FuncData,(∀(s:Shared) (u:Value),BindsTo s fd ⟨[u],[]⟩ [(x,u)]) ∧
    ∀base:Heap,(K w.params).In base→base.Ns mainGlobals mg→FnOk l.prog w (K w.params) mg base (CX w) k fa fd [x] (sp w))
  (hsp:∀(w:World) (H:Hp) (a:Addr) (ns:List Int),ns.length≤n→Only H→SqL (K w.params) H a (ns.map V.int)→sp w [.ref a] H (fun v _=>v=.bl true) fun _ _ _=>False)
  (hCX:∀(w:World) (H:Hp) (s:Shared) (e:Value) (s':Shared),CX w [] H s (fun _ _ _=>False) e s'→False) :
  PySem.W.WalkO q loose XP YP l.row.toRowW d [] (fun f vs=>PySem.call f vs):=by
 refine Att.attach_call hn hdf fun w s₀ s₁ mg mb fa o pm cd doc a vs ns G Y ho hd hcd hmg hobj hints hlen hg=>?_
 have KX:=hY w _ Y
 obtain⟨fd,hb,hF⟩:=F w mg fa _ KX G.T.g hmg
 exact jur KX G.T.g G.T.b G.T.builtins G.T.nolimit hg hobj hints (Nat.le_trans hlen hn2) hr hF hb (fun H hO hS=>hsp w H a ns hlen hO hS) fun H e s'=>hCX w H s₁ e s'
noncomputable def jgi (s:Stmt):Arguments:=match s with
 |.FunctionDef _ a _ _ _ _ _ _ _ _=>a
 |_=>{ posonlyargs:=[],args:=[],vararg:=none,kwonlyargs:=[],kw_defaults:=[],kwarg:=none,defaults:=[]}
noncomputable def jd7 (s:Stmt):List Stmt:=match s with
 |.FunctionDef _ _ b _ _ _ _ _ _ _=>b
 |_=>[]
noncomputable def jao (s:Stmt):Scope:=match s with
 |.FunctionDef _ _ _ _ _ _ sc _ _ _=>sc
 |_=>{ kind:=.function,names:=[],isGenerator:=false,isCoroutine:=false}
noncomputable abbrev CX0:CXT:=fun _ _ _ _ _ _=>False
noncomputable abbrev E0:XK:=fun _ _ _=>False
theorem jzn {X:Cx}:jtj CX0 X E0:=fun _ _ _ _ _ _ _ h=>h.elim
structure Fun (K:PySem.W.Frag) (x qual:Str) (st:Stmt) (f:Addr) (fd:FuncData):Prop where
 ex:∃(oc:Value) (od:Option Addr) (kV doc pm:Value) (an:Option Addr) (cdv ct:Value) (osl:Array (Option Value)),
  fd=PySem.W.fnOf x qual (jgi st) (jd7 st) (jao st) .none kV doc pm an cdv ct∧K.lookup f=some ⟨oc,od,.func fd,osl⟩∧PySem.W.codeIn K cdv qual=true
 kp:PySem.W.keepIn K (.ref f)=true
section
variable {P:Program} {w:World} {K:PySem.W.Frag} {mg:Str→Option Value} {base:Heap}
theorem Fun.ok {x qual:Str} {st:Stmt} {f:Addr} {fd:FuncData} {N ps:List Str} {k:Nat} {sp:Sp} (F:Fun K x qual st f fd) (S:FnScope N ps (jao st)) (len:∀vs H Q E,sp vs H Q E→vs.length=ps.length)
  (hbody:∀(cdv:Value) (A:Around) (outer:List Env) (s:Shared) (H:Hp) (vs:List V) (Q:VK) (E:XK),Room k (A.deeper (envOfC qual (jao st) s.heap.objs.size f cdv))→sp vs H Q E →
   ∃t,PSs (cxOf CX0 P w K mg base N qual (jao st) f cdv A outer s H E).nox (jd7 st) t∧t {nx:=fun _ H'=>Q .non H',rt:=Q} (start N vs) H):FnOk P w K mg base CX0 (k+1) f fd ps sp:=by
 obtain⟨oc,od,kV,doc,pm,an,cdv,ct,osl,rfl,lk,hcd⟩:=F.ex
 refine j1s lk hcd S len fun A outer s H vs Q E hr hsp=>?_
 obtain⟨t,h,q⟩:=hbody cdv A outer s H vs Q E hr hsp
 exact⟨t,h.nox,q⟩
theorem Fun.binds {x qual:Str} {st:Stmt} {f:Addr} {fd:FuncData} {ps:List Str} (F:Fun K x qual st f fd)
  (h:∀(kV doc pm:Value) (an:Option Addr) (cdv ct:Value) (us:List Value),us.length=ps.length→bindArgs (PySem.W.fnOf x qual (jgi st) (jd7 st) (jao st) .none kV doc pm an cdv ct) ⟨us,[]⟩=pure (ps.zip us)):Binds K fd ps []:=by
 obtain⟨oc,od,kV,doc,pm,an,cdv,ct,osl,rfl,lk,hcd⟩:=F.ex
 exact .all (h kV doc pm an cdv ct)
theorem jbp {x qual:Str} {st:Stmt} {f:Addr} {oc:Value} {od an:Option Addr} {osl:Array (Option Value)} {kV doc pm cdv ct:Value} (l:K.lookup f=some ⟨oc,od,.func (PySem.W.fnOf x qual (jgi st) (jd7 st) (jao st) .none kV doc pm an cdv ct),osl⟩)
  (c:PySem.W.codeIn K cdv qual=true) (k:PySem.W.keepIn K (.ref f)=true):Fun K x qual st f (PySem.W.fnOf x qual (jgi st) (jd7 st) (jao st) .none kV doc pm an cdv ct):=⟨⟨oc,od,kV,doc,pm,an,cdv,ct,osl,rfl,l,c⟩,k⟩
end
theorem jlt {n:Nat} (h:n≤1000):n < sizeLine:=Nat.lt_of_le_of_lt h (by decide)
section
variable {X:Cx}
theorem pv (i:Nat) {x:Str} {pos:Pos} (hN:X.N[i]?=some x:=by rfl) (hv:Vis X.env.scope x:=by first | exact Or.inl rfl | exact Or.inr (Or.inl rfl) | exact Or.inr (Or.inr rfl)) (hd:(x==("__debug__":Str))=false:=by decide)
  (hcd:(x==("__classdict__":Str))=false:=by decide):PE X (.Name x pos) (tVar i):=je9 hN hv hd hcd
end
theorem iteF {A B:Prop} (h:B):if false=true then A else B:=by
 rw[if_neg Bool.false_ne_true]
 exact h
theorem ite2 {c A B:Prop} [Decidable c] (h1:c→A) (h2:¬c→B):if c then A else B:=by
 by_cases h:c
 ·rw[if_pos h]
  exact h1 h
 ·rw[if_neg h]
  exact h2 h
noncomputable def Same (H H':Hp):Prop:=∀b o,H b=some o→H' b=some o
section
variable {X:Cx}
end
section
variable {κ:Type} [DecidableEq κ]
end
end L2
set_option maxHeartbeats 4000000
set_option maxHeartbeats 4000000
namespace Nb
open PySem L2
noncomputable def jp6:Bool:=true
noncomputable def jve:List V:=[.non,.non,.non,.int 1,.int 2,.int 3,.int 20]
noncomputable def jth:List PyData:=[.none,.none,.none,.int 1,.int 2,.int 3,.int 20]
end Nb
namespace L2
open PySem PySem.Spec PyProof.Rows
section
variable {prog:Program} {w:World} {A:Around} {R:Result→Shared→Prop} {s:Shared}
theorem jgv {elt target iter:Expr} {ifs:List Expr} {scope:Scope} {pos:Pos} {it acc:Value} {env:Env} (I:Nat→Shared→Prop)
  (turn:∀n s,I n s→wpAny (model prog w) A (pyNext it) (fun r s₁=>match r with
   |none=>R (.ok .next) s₁
   |some v=>wpAny (model prog w) A (letOwnedTupleGo target it v) (fun _ s₁'=>wpAny (model prog w) A (assign target env v) (fun _ s₂ =>
     wpAny (model prog w) A (forIn ifs true fun c r=>if r=true then do let ok ←isTrue c env (eval c env);pure (ForInStep.yield ok)else pure (ForInStep.yield r)) (fun ok s₃ =>
      if ok=true then wpAny (model prog w) A (eval elt env) (fun x s₄ =>
       wpAny (model prog w) A (call (.builtin "list.append") [acc,x]) (fun _ s₅=>∃m,m < n∧I m s₅) (fun _ _=>False) s₄) (fun _ _=>False) s₃
      else ∃m,m < n∧I m s₃) (fun _ _=>False) s₂) (fun _ _=>False) s₁') (fun _ _=>False) s₁) (fun _ _=>False) s)
  (n:Nat) (h:I n s):codeAny (model prog w) A (.compLoop (.ListComp elt [⟨target,iter,ifs,0⟩] scope pos) 0 it acc env) R s:=by
 refine codeAny_loop rfl I (fun n s hI=>?_) n h
 show wpAny _ A ((compTurn (.ListComp elt [⟨target,iter,ifs,0⟩] scope pos) 0 it acc env).onRaise (fun x=>do noteFrame x env;theTreesLotGoes x)) _ _ s
 refine wpAny_noted ?_
 rw[compTurn_list]
 refine wpAny_bind (wpAny_standAt (wpAny_bind (wpAny_mono (turn n s hI) (fun r s₁ h₁=>?_) fun _ _ f=>f.elim)))
 cases r with
 |none=>exact wpAny_pure h₁
 |some v =>
  refine wpAny_bind (wpAny_mono h₁ (fun _ s₁' h₁'=>?_) fun _ _ f=>f.elim)
  refine wpAny_bind (wpAny_mono h₁' (fun _ s₂ h₂=>wpAny_bind (wpAny_mono h₂ (fun ok s₃ h₃=>?_) fun _ _ f=>f.elim)) fun _ _ f=>f.elim)
  cases ok with
  |false=>exact wpAny_pure ⟨rfl,h₃⟩
  |true =>
   exact wpAny_bind (wpAny_bind (wpAny_mono h₃ (fun x s₄ h₄=>wpAny_bind (wpAny_mono h₄ (fun _ s₅ h₅=>wpAny_pure (wpAny_pure ⟨rfl,h₅⟩)) fun _ _ f=>f.elim)) fun _ _ f=>f.elim))
end
noncomputable def jbi (X:Cx) (N:List Str) (scope:Scope) (cl:List (Str×Addr)) (s:Shared) (H:Hp) (fp:List Addr):Cx :=
 { X with N:=N,s₀:=s,H₀:=H,env:=compEnvC scope cl s.heap.objs.size X.env,outer:=X.stack,ex:=fp,fn:=fun _=>false,pn:=[],xe:=fun _ _=>False}
structure CompSc (X:Cx) (N:List Str) (scope:Scope) (cl:List (Str×Addr)) (fr:List (Option Nat)):Prop where
 clos:closureFor scope X.env=pure cl
 kind:scope.kind=.function
 nocell:∀y∈scope.names,y.2≠.cell
 names:∀y∈scope.names,y.2=.local→scope.names.lookup y.1=some .local
 sub:∀x c,cl.lookup x=some c→X.env.cells.lookup x=some c
 has:∀x,((relabel scope X.env).names.lookup x=some .cell∨(relabel scope X.env).names.lookup x=some .free)→∃c,cl.lookup x=some c
 len:fr.length=N.length
 fre:∀(j i:Nat),fr[j]?=some (some i)→∃x,N[j]?=some x∧X.N[i]?=some x∧Vis X.env.scope x∧(X.env.kindOf x=some .cell∨X.env.kindOf x=some .free) ∧
  ((relabel scope X.env).names.lookup x=some .cell∨(relabel scope X.env).names.lookup x=some .free)∧cl.lookup x=X.env.cells.lookup x
theorem je2 {κ:Type}:∀{l:List (Str×κ)} {x:Str} {k:κ},l.lookup x=some k→(x,k)∈l
 |[],_,_,h=>nomatch h
 | (y,k')::r,x,k,h=>by
  rw[List.lookup_cons]at h
  cases e:x==y with
  |true =>
   rw[e]at h
   have e':x=y:=by simpa using e
   have h':k'=k:=Option.some.inj h
   rw[e',h']
   exact List.mem_cons_self
  |false =>
   rw[e]at h
   exact List.mem_cons_of_mem _ (je2 h)
theorem jj2 {κ:Type}:∀{l:List (Str×κ)} {x:Str},x∈l.map (·.1)→∃k,l.lookup x=some k
 |[],_,h=>absurd h (by simp)
 | (y,k')::r,x,h=>by
  rw[List.lookup_cons]
  cases e:x==y with
  |true=>exact⟨k',rfl⟩
  |false =>
   have ne:¬x=y:=fun z=>by rw[z]at e;simp at e
   have h':x∈y::r.map (·.1):=h
   rcases List.mem_cons.mp h' with z | z
   ·exact absurd z ne
   ·exact jj2 z
theorem jbm {X:Cx} {scope:Scope} {cl:List (Str×Addr)} (nm:List (Str×NameKind)) (ks:List Str) (hrel:(relabel scope X.env).names=nm) (hks:cl.map (·.1)=ks) (h3:∀y∈nm,(y.2=.cell∨y.2=.free)→y.1∈ks) :
  ∀x,((relabel scope X.env).names.lookup x=some .cell∨(relabel scope X.env).names.lookup x=some .free)→∃c,cl.lookup x=some c:=by
 intro x h
 rw[hrel]at h
 refine jj2 ?_
 rw[hks]
 rcases h with h | h
 ·exact h3 _ (je2 h) (.inl rfl)
 ·exact h3 _ (je2 h) (.inr rfl)
noncomputable def capt (fr:List (Option Nat)) (σ:St):St:=fr.map fun o=>o.bind fun i=>(σ[i]?).bind id
theorem ju7 {fr:List (Option Nat)} {σ:St} {j:Nat} {v:V} (h:(capt fr σ)[j]?=some (some v)):∃i,fr[j]?=some (some i)∧σ[i]?=some (some v):=by
 unfold capt at h
 rw[List.getElem?_map]at h
 cases e:fr[j]? with
 |none=>rw[e]at h;cases h
 |some o =>
  rw[e]at h
  cases o with
  |none=>cases h
  |some i =>
   refine⟨i,rfl,?_⟩
   have h':(σ[i]?).bind id=some v:=Option.some.inj h
   cases e2:σ[i]? with
   |none=>rw[e2]at h';cases h'
   |some o2 =>
    rw[e2]at h'
    have h2:o2=some v:=h'
    rw[h2]
noncomputable def PIf (X:Cx) (ifs:List Expr) (tt:TT):Prop :=
 ∀(pins:List (Addr×Obj)) (s:Shared) (σ:St) (H:Hp) (Q:Bool→Hp→Prop),Inv X pins σ H s→tt σ H Q →
  wpAny (model X.prog X.w) X.A (forIn ifs true fun c r=>if r=true then do let ok ←isTrue c X.env (eval c X.env);pure (ForInStep.yield ok)else pure (ForInStep.yield r)) (TP X pins σ Q) X.xe s
noncomputable def jyh:TT:=fun _ H Q=>Q true H
theorem jw3 {X:Cx}:PIf X [] jyh:=fun _ _ _ H _ I h=>wpAny_tests_nil ⟨H,I,h⟩
theorem jw2 {X:Cx} {c:Expr} {tt:TT} (h:PT X c tt):PIf X [c] tt:=fun pins s σ H Q I q=>wpAny_tests_one (h pins s σ H Q I q)
noncomputable def jp9 (fr:List (Option Nat)) (wi:TI) (g:TG) (tt:TT) (te:TE):TE:=fun σ H Q=>wi σ H fun J H1=>∀D,H1 D=none →
 ∃W:Nat→Nat→List V→St→Hp→Prop,(∃m,W 0 m [] (capt fr σ) (upd H1 D (.lst [])))∧∀i m ys τ H,W i m ys τ H →
  ((J.stop i H∧Q (.ref D) H)∨(J.go i H∧ys.length < sizeLine∧∀x H',J.yld i H x H'→g x τ H' fun τ2 H2=>tt τ2 H2 fun b H3 =>
   if b=true then te τ2 H3 (fun y H4=>H4 D=some (.lst ys)∧∃m',m' < m∧W (i+1) m' (ys++[y]) τ2 (upd H4 D (.lst (ys++[y]))))else ∃m',m' < m∧W (i+1) m' ys τ2 H3))
section
variable {X:Cx} {N:List Str} {scope:Scope} {cl:List (Str×Addr)} {fr:List (Option Nat)} {pins:List (Addr×Obj)} {σ:St} {H:Hp} {s:Shared} {fp:List Addr}
theorem jxz (S:CompSc X N scope cl fr) (I:Inv X pins σ H s) (hf:∀b∈fp,FpOk X pins H b) (hlt:∀b∈fp,b < s.heap.objs.size):(jbi X N scope cl s H fp).Ok where
 mod:=I.ok.mod
 kind:=S.kind
 glob:=I.ok.glob
 blt:=I.ok.blt
 above:=Nat.le_refl _
 inj:=fun x y c a b=>I.ok.inj x y c (S.sub x c a) (S.sub y c b)
 has:=fun x h=>S.has x h
 cab:=fun x c h=>nomatch h
 hd:=I.ok.hd
 frames:=I.ok.frames
 stk:=.inl rfl
 exf:=fun b hb=>⟨Nat.ne_of_lt (hlt b hb),fun x c e=>(hf b hb).2.2.2.2.1 x c (S.sub x c e)⟩
 bs:=I.bs
 bsz:=Nat.le_trans I.ok.bsz I.sz
 noex:=fun b o e hb=>by
  rcases(hf b hb).2.2.2.1 with z | z
  ·exact I.ok.noex b o e z
  ·exact absurd (Nat.lt_of_lt_of_le (Heap.lt_size (I.ok.bs b o e).1) z) (Nat.lt_irrefl _)
 exfs:=fun b hb z=>by
  rcases List.mem_cons.mp (I.stkSub b z)with e | e
  ·exact(hf b hb).2.1 e
  ·exact(hf b hb).2.2.1 e
 funs:=I.stack
 frf:=I.stkFree
theorem jj8 {h₁:Heap} {t':Nat} (S:CompSc X N scope cl fr) (I:Inv X pins σ H s) (hf:∀b∈fp,FpOk X pins H b) (hlt:∀b∈fp,b < s.heap.objs.size)
  {ob:Obj} (hsb:Heap.SameBut s.heap.objs.size (s.heap.push ob) h₁) {m:Str→Option Value} (hn:h₁.Ns s.heap.objs.size m) :
  Inv (jbi X N scope cl s H fp) [] (capt fr σ) H {s with heap:=h₁,toks:=t'}:=by
 have old:∀b o,s.heap.get? b=some o→h₁.get? b=some o:=fun b o e=>(hsb.2 b (Nat.ne_of_lt (Heap.lt_size e))).trans (Heap.get?_push_of_some _ e)
 refine⟨jxz S I hf hlt,rfl,I.bare,Un.kept old,⟨m,hn,fun j x v e1 e2 e3=>?_⟩,fun x c e=>?_,I.fresh,fun x c e=>I.freeC x c (S.sub x c e),fun p hp=>?_,I.hok.kept old,?_⟩
 ·obtain⟨i,f1,f2⟩:=ju7 e2
  obtain⟨y,g1,g2,g3,g4,g5,g6⟩:=S.fre j i f1
  have e1':N[j]?=some x:=e1
  rw[g1]at e1'
  have exy:y=x:=Option.some.inj e1'
  subst exy
  obtain⟨m0,hn0,hl⟩:=I.loc
  obtain⟨u,r,l⟩:=hl i y v g2 f2 g3
  refine⟨u,r,.inr ⟨g5,?_⟩⟩
  rcases l with⟨k,_⟩ | ⟨k,c,e,z⟩
  ·rcases g4 with q | q
   ·rw[q]at k;cases k
   ·rw[q]at k;cases k
  ·exact⟨c,g6.trans e,z.keeps old⟩
 ·obtain⟨v,z⟩:=I.cell x c (S.sub x c e)
  exact⟨v,z.keeps old⟩
 ·exact absurd hp (by simp[jbi])
 ·show(capt fr σ).length=N.length
  unfold capt
  rw[List.length_map,S.len]
theorem jos {H':Hp} {τ:St} {s0 s':Shared} {h':Heap} (I:Inv X pins σ H s0) (hf:∀b∈fp,FpOk X pins H b) (I':Inv (jbi X N scope cl s0 H fp) [] τ H' s') (hs:Heap.SameBut s0.heap.objs.size s'.heap h') :
  Inv X pins σ H' {s' with heap:=h'}:=by
 have hC:H' s0.heap.objs.size=none:=I'.free
 have u:Un (frs X.stack) fp H H' s0.heap s'.heap:=I'.base
 have ne:∀b o,s0.heap.get? b=some o→b≠s0.heap.objs.size:=fun b o e=>Nat.ne_of_lt (Heap.lt_size e)
 have hok':HOk X.prog X.w H' h':=fun b o e=>by
  have q:ObjOk X.prog X.w H' s'.heap b o:=I'.hok b o e
  refine q.stay (fun c v hc z=>(hs.2 c ?_).trans z) (fun _ z=>z) fun _ _ z=>z
  rintro rfl
  rcases hc with z | z
  ·rw[←z,hC]at e;cases e
  ·rw[hC]at z;cases z
 refine I.call' (s':={ s' with heap:=h'}) (ch:=fp) I'.os ?_ hok' I'.bare fun b hb=>?_
 ·refine⟨fun b o e n h1 h2=>(hs.2 b (ne b o e)).trans (u.keep b o e n h1 h2),fun b o e n h1 h2=>?_,u.free,fun b o e h2=>?_,u.tups,u.frzs,u.tbls⟩
  ·obtain⟨sl,z⟩:=u.slot b o e n h1 h2
   exact⟨sl,(hs.2 b (ne b o e)).trans z⟩
  ·obtain⟨o',z⟩:=u.there b o e h2
   exact⟨o',(hs.2 b (ne b o e)).trans z⟩
 ·obtain⟨_,f1,_,f3,f4,f5⟩:=hf b hb
  exact⟨f3,f1,f4,f5⟩
end
theorem jw8 {X:Cx} {elt tg iter:Expr} {ifs:List Expr} {scope:Scope} {cl:List (Str×Addr)} {pos:Pos} {N:List Str} {fr:List (Option Nat)} {wi:TI} {g:TG} {tt:TT} {te:TE}
  (hc:X.calm=true) (S:CompSc X N scope cl fr) (hi:PI X tg iter wi) (hg:∀s H fp,PG (jbi X N scope cl s H fp) tg g) (ht:∀s H fp,PIf (jbi X N scope cl s H fp) ifs tt)
  (he:∀s H fp,PE (jbi X N scope cl s H fp) elt te) (hs:∀x,foldedSetIterable iter X.env x=pure x:=by intro _;rfl) :
  PE X (.ListComp elt [⟨tg,iter,ifs,0⟩] scope pos) (jp9 fr wi g tt te):=by
 intro pins s σ H Q I h
 rw[eval_ListComp]
 refine wpAny_comprehension_free (use:=none) (cl:=cl) rfl hs S.clos S.kind S.names (thn (hi pins s σ H _ I h) fun v s1 h1=>thn h1 fun itv s2 h2=>?_)
 obtain⟨it,fp,tn,J,H2,e,I2,T,st2,f2,q⟩:=h2
 subst e
 refine wpAny_newObj_type (wpAny_newFunctionEnv S.nocell (by intro y hy;simp at hy) (fun h₁ hn hsb=>?_) S.kind)
 dsimp only at hn hsb ⊢
 obtain⟨W,⟨m0,w0⟩,turn⟩:=q s2.heap.objs.size I2.fresh
 -- the state with the new list
 have I3:Inv X pins σ (upd H2 s2.heap.objs.size (.lst [])) {s2 with heap:=s2.heap.push {cls:=.type "list",dict:=none,data:=.seq ([]:List Value).toArray}}:=I2.lnew (its:=[]) (t':=s2.toks) .nil (Nat.zero_le _)
 have key:∀s3:Shared,s3={ s2 with heap:=s2.heap.push {cls:=.type "list",dict:=none,data:=.seq ([]:List Value).toArray}}→Inv X pins σ (upd H2 s2.heap.objs.size (.lst [])) s3 →
   ∀(ob:Obj) (mm:Str→Option Value),Heap.SameBut s3.heap.objs.size (s3.heap.push ob) h₁→h₁.Ns s3.heap.objs.size mm →
   codeAny (model X.prog X.w) X.A (.compStart (.ListComp elt [⟨tg,iter,ifs,0⟩] scope pos) 0 (.ref it) (.ref s2.heap.objs.size) (compEnvC scope cl s3.heap.objs.size X.env))
    (compPost (model X.prog X.w) X.A X.xe none (EP X pins σ Q) (.ref s2.heap.objs.size) s3.heap.objs.size) {s3 with heap:=h₁,toks:=s3.toks+([]:List (Str×Value)).length}:=?key
 ·exact key _ rfl I3 _ _ hsb hn
 clear I3 hn hsb
 intro s3 hs3 I3 ob mm hsb hn
 have hfp:∀b∈fp,∃o,s2.heap.get? b=some o:=fun b hb=>let⟨o,e,_⟩:=T.obj _ _ st2 b hb;⟨o,e⟩
 have up:∀b o,s2.heap.get? b=some o→s3.heap.get? b=some o:=fun b o e=>by rw[hs3];exact Heap.get?_push_of_some _ e
 have f3:∀b∈fp,FpOk X pins (upd H2 s2.heap.objs.size (.lst [])) b:=fun b hb=>by
  obtain⟨o,e⟩:=hfp b hb
  obtain⟨g0,gr⟩:=f2 b hb
  exact⟨by rw[jal (Nat.ne_of_lt (Heap.lt_size e))];exact g0,gr⟩
 have hlt:∀b∈fp,b < s3.heap.objs.size:=fun b hb=>let⟨o,e⟩:=hfp b hb;Heap.lt_size (up b o e)
 generalize hH3:upd H2 s2.heap.objs.size (.lst [])=H3 at I3 f3 w0
 have I4:=jj8 (t':=s3.toks+([]:List (Str×Value)).length) S I3 f3 hlt hsb hn
 have st4:tn 0 h₁:=T.keep _ _ _ st2 fun b hb o e=>(hsb.2 b (Nat.ne_of_lt (Heap.lt_size (up b o e)))).trans (Heap.get?_push_of_some _ (up b o e))
 have stat:∀{H':Hp},(∀b∈fp,H' b=none)→∀b∈fp,FpOk (jbi X N scope cl s3 H3 fp) [] H' b:=fun hn b hb=>by
  obtain⟨_,k1,k2,k3,k4,k5⟩:=f3 b hb
  refine⟨hn b hb,Nat.ne_of_lt (hlt b hb),fun z=>?_,.inl hb,fun x c e=>k4 x c (S.sub x c e),fun p hp=>absurd hp (by simp[jbi])⟩
  rcases List.mem_cons.mp (I3.stkSub b z)with e | e
  ·exact k1 e
  ·exact k2 e
 have loop:codeAny (model X.prog X.w) X.A (.compLoop (.ListComp elt [⟨tg,iter,ifs,0⟩] scope pos) 0 (.ref it) (.ref s2.heap.objs.size) (compEnvC scope cl s3.heap.objs.size X.env))
   (compPost (model X.prog X.w) X.A X.xe none (EP X pins σ Q) (.ref s2.heap.objs.size) s3.heap.objs.size) {s3 with heap:=h₁,toks:=s3.toks+([]:List (Str×Value)).length}:=by
  refine jgv (fun n s'=>∃i ys τ Hc,Inv (jbi X N scope cl s3 H3 fp) [] τ Hc s'∧tn i s'.heap∧(∀b∈fp,Hc b=none)∧W i n ys τ Hc) ?_ m0 ⟨0,[],capt fr σ,H3,I4,st4,fun b hb=>(f3 b hb).1,w0⟩
  rintro n s5 ⟨i,ys,τ,Hc,I5,st5,fr5,w5⟩
  rcases turn i n ys τ Hc w5 with⟨stop,qn⟩ | ⟨go,hz,step⟩
  ·refine thn (T.done (jbi X N scope cl s3 H3 fp) rfl rfl rfl hc i [] s5 τ Hc (fun _ _=>False) I5 (stat fr5) st5 stop) fun r s6 ⟨hr,I6⟩=>?_
   subst hr
   obtain⟨mm,hm,_⟩:=I6.loc
   exact⟨mm,hm,fun h' hs'=>⟨.ref s2.heap.objs.size,Hc,jos I3 f3 I6 hs',rfl,qn⟩⟩
  ·refine thn (T.item (jbi X N scope cl s3 H3 fp) rfl rfl rfl hc i [] s5 τ Hc (fun _ _=>False) I5 (stat fr5) st5 go) fun r s6 ⟨u,hr,h6⟩=>?_
   subst hr
   refine thn h6 fun _ s7 ⟨x,H7,I7,r7,y7,st7,fr7⟩=>?_
   have I7':=I7.pinned (stat fr7) (T.obj _ _ st7)
   refine thn (hg s3 H3 fp _ s7 τ H7 x u _ I7' r7 (step x H7 y7)) fun _ s8 ⟨τ8,H8,I8,q8⟩=>?_
   refine thn (ht s3 H3 fp _ s8 τ8 H8 _ I8 q8) fun ok s9 ⟨H9,I9,q9⟩=>?_
   have keep:∀{st:Shared} {τ':St} {H':Hp},Inv (jbi X N scope cl s3 H3 fp) ([]++jjx fp s7.heap) τ' H' st→tn (i+1) st.heap∧∀b∈fp,H' b=none:=fun{st τ' H'} Ix=>by
    refine⟨T.keep _ _ _ st7 fun b hb o e=>(Ix.pin (b,o) (List.mem_append_right _ (List.mem_append_right _ (jcz hb e)))).1,fun b hb=>?_⟩
    obtain⟨o,e,d⟩:=T.obj _ _ st7 b hb
    exact(Ix.pin (b,o) (List.mem_append_right _ (List.mem_append_right _ (jcz hb e)))).2.1
   cases ok with
   |false =>
    rw[if_neg Bool.false_ne_true]at q9 ⊢
    obtain⟨m',hm,w9⟩:=q9
    obtain⟨k1,k2⟩:=keep I9
    exact⟨m',hm,i+1,ys,τ8,H9,I9.unpinned,k1,k2,w9⟩
   |true =>
    rw[if_pos rfl]at q9 ⊢
    refine thn (he s3 H3 fp _ s9 τ8 H9 _ I9 q9) fun xv s10 ⟨y,H10,I10,r10,hD,m',hm,w10⟩=>?_
    refine thn (jhs _ s10 τ8 H10 (.ref s2.heap.objs.size) [y] (.ref s2.heap.objs.size) [xv] (fun z H'=>∃m',m' < n∧W (i+1) m' (ys++[y]) τ8 H') I10 rfl (.cons r10 .nil) ⟨_,ys,y,rfl,rfl,hD,hz,m',hm,w10⟩) fun z s11 ⟨z',H11,I11,_,m'',hm',w11⟩=>?_
    obtain⟨k1,k2⟩:=keep I11
    exact⟨m'',hm',i+1,ys++[y],τ8,H11,I11.unpinned,k1,k2,w11⟩
 exact codeAny_compStart_list loop (T.self _ 0 _ _ _ st4 loop)
mutual
inductive RdD (K:PySem.W.Frag) (H:Hp):V→PyData→Prop
 |non:RdD K H .non .none
 |bl (b:Bool):RdD K H (.bl b) (.bool b)
 |int (i:Int):RdD K H (.int i) (.int i)
 |str (x:Str):RdD K H (.str x) (.str x)
 |lst {a:Addr} {xs:List V} {ds:List PyData}:SqL K H a xs→RdAll K H xs ds→RdD K H (.ref a) (.list ds)
 |tup {a:Addr} {xs:List V} {ds:List PyData}:SqT K H a xs→RdAll K H xs ds→RdD K H (.ref a) (.tuple ds)
inductive RdAll (K:PySem.W.Frag) (H:Hp):List V→List PyData→Prop
 |nil:RdAll K H [] []
 |cons {x:V} {xs:List V} {d:PyData} {ds:List PyData}:RdD K H x d→RdAll K H xs ds→RdAll K H (x::xs) (d::ds)
end
section
variable {X:Cx} {pins:List (Addr×Obj)} {σ:St} {H:Hp} {s:Shared}
mutual
theorem RdD.reads (I:Inv X pins σ H s):∀{v:V} {d:PyData} {u:Value},RdD X.K H v d→RelV v u→∃as,Reads s.heap u d as
 |_,_,u,.non,r=>by
  cases(show u=Value.none from r)
  exact⟨_,.none⟩
 |_,_,u,.bl b,r=>by
  cases(show u=Value.bool b from r)
  exact⟨_,.bool b⟩
 |_,_,u,.int i,r=>by
  obtain⟨t,rfl⟩:=(show ∃t,u=Value.int i t from r)
  exact⟨_,.int i t⟩
 |_,_,u,.str x,r=>by
  obtain⟨t,rfl⟩:=(show ∃t,u=Value.str x t from r)
  exact⟨_,.str x t⟩
 |_,_,u,.lst (a:=a) h1 h2,r=>by
  cases(show u=Value.ref a from r)
  obtain⟨its,rv,⟨o,n,e,c,_,d⟩,_⟩:=I.list h1
  obtain⟨as,ha⟩:=RdAll.reads I h2 rv
  exact⟨_,.list e c d (by simpa using ha)⟩
 |_,_,u,.tup (a:=a) h1 h2,r=>by
  cases(show u=Value.ref a from r)
  obtain⟨its,rv,⟨o,e,c,n,d⟩,_⟩:=I.tuple h1
  obtain⟨as,ha⟩:=RdAll.reads I h2 rv
  exact⟨_,.tuple e c d (by simpa using ha)⟩
theorem RdAll.reads (I:Inv X pins σ H s):∀{vs:List V} {ds:List PyData} {us:List Value},RdAll X.K H vs ds→Vals vs us→∃as,ReadsAll s.heap us ds as
 |_,_,_,.nil,.nil=>⟨_,.nil⟩
 |_,_,_,.cons h1 h2,.cons r1 r2=>by
  obtain⟨as,ha⟩:=RdD.reads I h1 r1
  obtain⟨bs,hb⟩:=RdAll.reads I h2 r2
  exact⟨_,.cons ha hb⟩
end
end
noncomputable def j08 (d:PyData):Prop:=PyData.canLay0 d=true∧PyData.depth d≤20∧PyData.weight d≤2 ^ 20∧PyData.intsShort 13 d=true∧PyData.showable d=true
noncomputable def jn9 (K:PySem.W.Frag):R2:=fun x y H Q=>∃a b xs,x=.ref a∧y=.ref b∧SqL K H a xs∧SqL K H b []∧Q (.bl xs.isEmpty) H
theorem juh {X:Cx} (hu:X.A.units < cLine):OpR X (compareOp .Eq) (jn9 X.K):=by
 intro pins s σ H x y v u Q I rx ry h
 obtain⟨a,b,xs,rfl,rfl,ha,hb,q⟩:=h
 cases(show v=Value.ref a from rx)
 cases(show u=Value.ref b from ry)
 obtain⟨its,r1,p1,_⟩:=I.list ha
 obtain⟨its2,r2,p2,_⟩:=I.list hb
 have e2:its2=[]:=Vals.zero r2
 subst e2
 cases r1 with
 |nil=>exact PySem.SeqAt.eq_listAt (e:=fun _=>true) p1.isList p2.isList rfl hu (fun j h1=>absurd h1 (by simp)) ⟨.bl true,H,I,(by rfl),q⟩
 |cons r1 r3=>exact PySem.SeqAt.eq_list_lengthsAt p1.isList p2.isList (by simp) hu ⟨.bl false,H,I,rfl,q⟩
theorem ju9 {X:Cx} {T:String}:CallR X (.builtin "isinstance") (fun xs H Q=>∃x t b,xs=[x,.ty T]∧TyOf X.K H x t∧PySem.W.kitOne X.K t (.type T)=some b∧Q (.bl b) H):=by
 intro pins s σ H xs us Q I r h
 obtain⟨x,t,b,rfl,ty,e,q⟩:=h
 obtain⟨u,u',rfl,ru,ru'⟩:=jyc r
 cases(show u'=Value.type T from ru')
 exact jsf I ru ty e fun tk=>⟨.bl b,H,I.tok tk,rfl,q⟩
section
variable {prog:Program} {w:World} {A:Around} {E:Value→Shared→Prop} {s:Shared}
theorem jfe:entryFor table "dict.update.loop"=some Builtin.«dict.update.loop»:=entryFor_of_tree (by kernel_rfl)
theorem jck:plainId "dict.update.loop"=true:=by decide +kernel
theorem jr7:typeLookup (.type "tuple") "keys"=pure none:=by rw[typeLookup_type,builtinLookup_eq_fast];kernel_rfl
theorem jo8 {a:Addr} {its:List Value} {Q:List Value→Shared→Prop} (p:IsTup s.heap a its.toArray) (h:Q its s):wpAny (model prog w) A (Builtin.Dict.pairItems (.ref a)) Q E s:=by
 obtain⟨o,ho,hc,n,hd⟩:=id p
 unfold Builtin.Dict.pairItems
 refine wpAny_bind (wpAny_typeOf (show s.TypeIs (.ref a) "tuple" from⟨o,ho,hc⟩) ?_)
 rw[if_pos (by decide)]
 refine wpAny_bind (wpAny_seqItems ho hd (wpAny_pure ?_))
 simpa using h
set_option maxRecDepth 8000 in
theorem jk3 {a:Addr} {o:Obj} {xs:Array Value} {k:Nat} {name:Str} {Q:Option Value→Shared→Prop}
  (hx:s.heap.get? a=some o) (hc:o.cls=.type "tuple") (hdat:o.data=.seq xs k) (hd:o.dict=none) (hmiss:typeLookup (.type "tuple") name=pure none) (hname:(["__module__","__name__","__qualname__","__doc__","__annotations__"]:List Str).contains name=false) (hA:A.handled=none)
  (h:∀h' tk e,Heap.NewExcOf s.heap h' e "AttributeError"→Q none {s with heap:=h',toks:=tk}) (hsz:name.length+100≤sizeLine:=by size_fits) :
  wpAny (model prog w) A (getAttr? (.ref a) name) Q E s:=by
 obtain⟨c,dct,dat,sl⟩:=o
 simp only at hc hdat hd
 subst hc hdat hd
 obtain⟨hp,g,d,tk,os⟩:=s
 have hT:∀tk',(⟨hp,g,d,tk',os⟩:Shared).TypeIs (.ref a) "tuple":=fun _=>⟨_,hx,rfl⟩
 have f1:=sub_AttributeError
 have f3:=F.slot_tuple_getattribute.lookup
 have f4:=F.slot_tuple_getattribute.bind (.ref a)
 have f5:=am_tuple_getattr_none
 unfold getAttr? getAttrBy? getAttrBy
 repeat (any_goals (first | assumption | exact hT _ | ((with_reducible show wpAny _ _ (call (Value.builtin "tuple.__getattribute__") _ _) _ _ _);refine call_meets F.slot_tuple_getattribute (hT _) am_entry_tuple_getattribute (F.args_tuple_getattribute_2 _ _) (meets_getattribute_miss_tuple a xs k sl name _ hmiss hname hsz) ⟨hx,hA,fun h' tk' e hx'=>?_⟩) | wp_step))
 obtain⟨t',u',he⟩:=hx'.there
 show wpAny _ _ (getattributeRaised _ _ _ _ _ _ _) _ _ _
 unfold getattributeRaised
 repeat (any_goals (first | assumption | wp_step))
 exact h _ _ _ hx'.of
end
section
variable {X:Cx} {pins:List (Addr×Obj)} {σ:St} {A:Around} {R:Result→Shared→Prop}
theorem jbb {n:Nat} (h:n≤1000):n≤sizeLine:=Nat.le_of_lt (jlt h)
end
theorem jo6 (bs:List Bool):((List.range bs.length).all fun i=>(bs[i]?).getD true)=bs.all id:=by
 rw[Bool.eq_iff_iff,List.all_eq_true,List.all_eq_true]
 constructor
 ·intro h b hb
  obtain⟨i,hi,rfl⟩:=List.mem_iff_getElem.mp hb
  have:=h i (List.mem_range.mpr hi)
  rw[List.getElem?_eq_getElem hi]at this
  exact this
 ·intro h i hi
  have hi':=List.mem_range.mp hi
  rw[List.getElem?_eq_getElem hi']
  exact h _ (List.getElem_mem hi')
theorem jm0 {X:Cx} (hh:X.A.handled=none):CallR X (.builtin "all") (fun xs H Q=>∃(p:Addr) (bs:List Bool),xs=[.ref p]∧H p=some (.lst (bs.map V.bl))∧Q (.bl (bs.all id)) H):=by
 intro pins s σ H xs us Q I r h
 obtain⟨p,bs,rfl,hp,q⟩:=h
 obtain⟨u,rfl,ru⟩:=jee r
 cases(show u=Value.ref p from ru)
 obtain⟨its,rv,pl,_⟩:=I.list (SqL.of (K:=X.K) hp)
 have hl:s.heap.IsList p its.toArray:=pl.isList
 have hlt:p < s.heap.objs.size:=by obtain⟨_,e,_⟩:=hl;exact Heap.lt_size e
 have hlen:bs.length=its.length:=by have:=rv.length;rwa [List.length_map]at this
 refine call_all_walk (wpAny_pyIter_list hl ?_)
 refine⟨s.heap.objs.size,[s.heap.objs.size,p],[s.heap.objs.size],its.toArray.size,_,_,fun i=>(bs[i]?).getD true,rfl,Walks.list (A:=X.A.in1) hh _ p (Nat.ne_of_lt hlt) its.toArray,
  ⟨⟨_,Heap.get?_push_size _ rfl,rfl,rfl⟩,hl.push _⟩,fun i v s' Q' E' hP hQ=>?_,fun h' tk hk=>?_⟩
 ·have hi:its[i]?=some v:=by simpa using hP
  have hib:i < bs.length:=by rw[hlen];exact(List.getElem?_eq_some_iff.mp hi).1
  have hx:(bs.map V.bl)[i]?=some (V.bl bs[i]):=by simp[hib]
  obtain⟨u,hu,ru⟩:=rv.get hx
  rw[hi]at hu
  cases(Option.some.inj hu)
  cases(show v=Value.bool bs[i]from ru)
  dsimp only at hQ
  rw[List.getElem?_eq_getElem hib,Option.getD_some]at hQ
  exact wpAny_truthy_bool hQ
 ·have e:((List.range its.toArray.size).all fun i=>(bs[i]?).getD true)=bs.all id:=by
   rw[List.size_toArray,←hlen]
   exact jo6 bs
  rw[e]
  refine⟨.bl (bs.all id),H,I.kept fun b x e=>hk b x (fun hm=>?_) (Heap.get?_push_of_some _ e),rfl,q⟩
  rw[List.mem_singleton.mp hm]at e
  exact Nat.lt_irrefl _ (Heap.lt_size e)
theorem jrs {X:Cx}:OpR X (compareOp .Gt) (fun x y H Q=>∃i j,x=.str i∧y=.str j∧Q (.bl (decide (j.cps.toList < i.cps.toList))) H):=by
 intro pins s σ H x y v u Q I rx ry h
 obtain⟨i,j,rfl,rfl,q⟩:=h
 obtain⟨t,rfl⟩:=rx
 obtain⟨t',rfl⟩:=ry
 exact P.gt_str (jba I q rfl)
noncomputable def tyD:PyData→String
 |.none=>"NoneType"
 |.bool _=>"bool"
 |.int _=>"int"
 |.str _=>"str"
 |.list _=>"list"
 |.tuple _=>"tuple"
 |.dict _=>"dict"
noncomputable def isiB (T:String) (d:PyData):Bool:=tyD d==T || (T=="int"&&tyD d=="bool")
noncomputable def jav (h:Str):PyData→Bool
 |.str x=>decide (x=h)
 |_=>false
theorem jjw {X:Cx} {elt tg iter:Expr} {ifs:List Expr} {scope:Scope} {cl:List (Str×Addr)} {cpos pos pos':Pos} {N:List Str} {fr:List (Option Nat)} {wi:TI} {g:TG} {tt:TT} {te:TE} {i:Nat} {x:Str}
  (hN:X.N.Nodup) (hix:X.N[i]?=some x) (hx:X.env.scope.names.lookup x=some .local)
  (hc:X.calm=true) (S:CompSc X N scope cl fr) (hi:PI X tg iter wi) (hg:∀s H fp,PG (jbi X N scope cl s H fp) tg g) (ht:∀s H fp,PIf (jbi X N scope cl s H fp) ifs tt)
  (he:∀s H fp,PE (jbi X N scope cl s H fp) elt te) (hs:∀x,foldedSetIterable iter X.env x=pure x:=by intro _;rfl)
  (hsw:swapsWith (.ListComp elt [⟨tg,iter,ifs,0⟩] scope cpos) (some (.Name x pos')) pos.line X.env=pure true:=by rfl) :
  PS X (.Assign [.Name x pos'] (.ListComp elt [⟨tg,iter,ifs,0⟩] scope cpos) pos) (tAsg (jp9 fr wi g tt te) (jhb i)):=by
 intro pins s σ H D I h
 rw[exec_Assign_Name_used _ _ _ _ hsw]
 refine wpAny_bind (wpAny_standAt (wpAny_bind ?_))
 show wpAny _ _ (do let _ ←comprehension (.ListComp elt [⟨tg,iter,ifs,0⟩] scope cpos) scope X.env (firstIterPos [⟨tg,iter,ifs,0⟩] cpos) (newList []) (firstAsync [⟨tg,iter,ifs,0⟩]) (firstIter [⟨tg,iter,ifs,0⟩] X.env) (some (assign (.Name x pos') X.env))) _ _ s
 refine wpAny_bind ?_
 have fin:∀(u:Unit) (s':Shared),SP X pins D .next s'→wpAny (model X.prog X.w) X.A (pure Flow.next) (SP X pins D) X.xe s':=fun _ s' z=>wpAny_pure z
 refine thn (Q:=fun _ s'=>SP X pins D .next s') ?_ fun _ s' z=>wpAny_pure (wpAny_pure z)
 refine wpAny_comprehension_free (use:=some (assign (.Name x pos') X.env)) (cl:=cl) rfl hs S.clos S.kind S.names (thn (hi pins s σ H _ I h) fun v s1 h1=>thn h1 fun itv s2 h2=>?_)
 obtain⟨it,fp,tn,J,H2,e,I2,T,st2,f2,q⟩:=h2
 subst e
 refine wpAny_newObj_type (wpAny_newFunctionEnv S.nocell (by intro y hy;simp at hy) (fun h₁ hn hsb=>?_) S.kind)
 dsimp only at hn hsb ⊢
 obtain⟨W,⟨m0,w0⟩,turn⟩:=q s2.heap.objs.size I2.fresh
 -- the state with the new list
 have I3:Inv X pins σ (upd H2 s2.heap.objs.size (.lst [])) {s2 with heap:=s2.heap.push {cls:=.type "list",dict:=none,data:=.seq ([]:List Value).toArray}}:=I2.lnew (its:=[]) (t':=s2.toks) .nil (Nat.zero_le _)
 have key:∀s3:Shared,s3={ s2 with heap:=s2.heap.push {cls:=.type "list",dict:=none,data:=.seq ([]:List Value).toArray}}→Inv X pins σ (upd H2 s2.heap.objs.size (.lst [])) s3 →
   ∀(ob:Obj) (mm:Str→Option Value),Heap.SameBut s3.heap.objs.size (s3.heap.push ob) h₁→h₁.Ns s3.heap.objs.size mm →
   codeAny (model X.prog X.w) X.A (.compStart (.ListComp elt [⟨tg,iter,ifs,0⟩] scope cpos) 0 (.ref it) (.ref s2.heap.objs.size) (compEnvC scope cl s3.heap.objs.size X.env))
    (compPost (model X.prog X.w) X.A X.xe (some (assign (.Name x pos') X.env)) (fun _ s'=>SP X pins D .next s') (.ref s2.heap.objs.size) s3.heap.objs.size) {s3 with heap:=h₁,toks:=s3.toks+([]:List (Str×Value)).length}:=?key
 ·exact key _ rfl I3 _ _ hsb hn
 clear I3 hn hsb
 intro s3 hs3 I3 ob mm hsb hn
 have hfp:∀b∈fp,∃o,s2.heap.get? b=some o:=fun b hb=>let⟨o,e,_⟩:=T.obj _ _ st2 b hb;⟨o,e⟩
 have up:∀b o,s2.heap.get? b=some o→s3.heap.get? b=some o:=fun b o e=>by rw[hs3];exact Heap.get?_push_of_some _ e
 have f3:∀b∈fp,FpOk X pins (upd H2 s2.heap.objs.size (.lst [])) b:=fun b hb=>by
  obtain⟨o,e⟩:=hfp b hb
  obtain⟨g0,gr⟩:=f2 b hb
  exact⟨by rw[jal (Nat.ne_of_lt (Heap.lt_size e))];exact g0,gr⟩
 have hlt:∀b∈fp,b < s3.heap.objs.size:=fun b hb=>let⟨o,e⟩:=hfp b hb;Heap.lt_size (up b o e)
 generalize hH3:upd H2 s2.heap.objs.size (.lst [])=H3 at I3 f3 w0
 have I4:=jj8 (t':=s3.toks+([]:List (Str×Value)).length) S I3 f3 hlt hsb hn
 have st4:tn 0 h₁:=T.keep _ _ _ st2 fun b hb o e=>(hsb.2 b (Nat.ne_of_lt (Heap.lt_size (up b o e)))).trans (Heap.get?_push_of_some _ (up b o e))
 have stat:∀{H':Hp},(∀b∈fp,H' b=none)→∀b∈fp,FpOk (jbi X N scope cl s3 H3 fp) [] H' b:=fun hn b hb=>by
  obtain⟨_,k1,k2,k3,k4,k5⟩:=f3 b hb
  refine⟨hn b hb,Nat.ne_of_lt (hlt b hb),fun z=>?_,.inl hb,fun x c e=>k4 x c (S.sub x c e),fun p hp=>absurd hp (by simp[jbi])⟩
  rcases List.mem_cons.mp (I3.stkSub b z)with e | e
  ·exact k1 e
  ·exact k2 e
 have loop:codeAny (model X.prog X.w) X.A (.compLoop (.ListComp elt [⟨tg,iter,ifs,0⟩] scope cpos) 0 (.ref it) (.ref s2.heap.objs.size) (compEnvC scope cl s3.heap.objs.size X.env))
   (compPost (model X.prog X.w) X.A X.xe (some (assign (.Name x pos') X.env)) (fun _ s'=>SP X pins D .next s') (.ref s2.heap.objs.size) s3.heap.objs.size) {s3 with heap:=h₁,toks:=s3.toks+([]:List (Str×Value)).length}:=by
  refine jgv (fun n s'=>∃i ys τ Hc,Inv (jbi X N scope cl s3 H3 fp) [] τ Hc s'∧tn i s'.heap∧(∀b∈fp,Hc b=none)∧W i n ys τ Hc) ?_ m0 ⟨0,[],capt fr σ,H3,I4,st4,fun b hb=>(f3 b hb).1,w0⟩
  rintro n s5 ⟨i,ys,τ,Hc,I5,st5,fr5,w5⟩
  rcases turn i n ys τ Hc w5 with⟨stop,qn⟩ | ⟨go,hz,step⟩
  ·refine thn (T.done (jbi X N scope cl s3 H3 fp) rfl rfl rfl hc i [] s5 τ Hc (fun _ _=>False) I5 (stat fr5) st5 stop) fun r s6 ⟨hr,I6⟩=>?_
   subst hr
   obtain⟨mm,hm,_⟩:=I6.loc
   have I6x:Inv X pins σ Hc s6:=jos I3 f3 I6 (Heap.SameBut.refl _ _)
   have hC:Hc s3.heap.objs.size=none:=I6.free
   obtain⟨_,c1,_,c3,c4,c5⟩:=I3.fpOk (H':=Hc) (Nat.le_refl _) hC
   show wpAny (model X.prog X.w) X.A (assign (.Name x pos') X.env (.ref s2.heap.objs.size)) _ X.xe s6
   refine wpAny_assign_Name (jlq I6x hN hix (.inl hx) (show RelV (.ref s2.heap.objs.size) (Value.ref s2.heap.objs.size)from rfl) (fun s7 I7 hsb=>?_) (.inr hx))
   obtain⟨ad,hsb,had⟩:=hsb
   have hne:s3.heap.objs.size≠ad:=by
    rcases had with z | z
    ·rw[z];exact c1
    ·exact fun q=>c4 x ad z q.symm
   obtain⟨oo,es,ep,ho,rr⟩:=hm
   refine⟨mm,⟨oo,es,ep,(hsb.2 _ hne).trans ho,rr⟩,fun h' hs'=>⟨_,Hc,?_,qn⟩⟩
   have ne:∀b,b∉[s3.heap.objs.size]→b≠s3.heap.objs.size:=fun b z q=>z (by rw[q];exact List.mem_singleton.mpr rfl)
   have hok':HOk X.prog X.w Hc h':=fun b o e=>by
    refine(I7.hok b o e).stay (fun c v hc z=>(hs'.2 c ?_).trans z) (fun _ z=>z) fun _ _ z=>z
    rintro rfl
    rcases hc with z | z
    ·rw[←z,hC]at e;cases e
    ·rw[hC]at z;cases z
   refine I7.call' (s':={ s7 with heap:=h'}) (ch:=[s3.heap.objs.size]) rfl ?_ hok' I7.bare fun b hb=>?_
   ·exact⟨fun b o e n h1 h2=>(hs'.2 b (ne b h2)).trans e,fun b o e n h1 h2=>⟨o.slots,(hs'.2 b (ne b h2)).trans e⟩,fun b o e n h2=>n,fun b o e h2=>⟨o,(hs'.2 b (ne b h2)).trans e⟩,fun _ _ z=>z,fun _ _ _ z=>z,fun b ps z=>⟨#[],by rw[Array.append_empty];exact z⟩⟩
   ·cases List.mem_singleton.mp hb
    exact⟨c3,c1,c4,c5⟩
  ·refine thn (T.item (jbi X N scope cl s3 H3 fp) rfl rfl rfl hc i [] s5 τ Hc (fun _ _=>False) I5 (stat fr5) st5 go) fun r s6 ⟨u,hr,h6⟩=>?_
   subst hr
   refine thn h6 fun _ s7 ⟨x,H7,I7,r7,y7,st7,fr7⟩=>?_
   have I7':=I7.pinned (stat fr7) (T.obj _ _ st7)
   refine thn (hg s3 H3 fp _ s7 τ H7 x u _ I7' r7 (step x H7 y7)) fun _ s8 ⟨τ8,H8,I8,q8⟩=>?_
   refine thn (ht s3 H3 fp _ s8 τ8 H8 _ I8 q8) fun ok s9 ⟨H9,I9,q9⟩=>?_
   have keep:∀{st:Shared} {τ':St} {H':Hp},Inv (jbi X N scope cl s3 H3 fp) ([]++jjx fp s7.heap) τ' H' st→tn (i+1) st.heap∧∀b∈fp,H' b=none:=fun{st τ' H'} Ix=>by
    refine⟨T.keep _ _ _ st7 fun b hb o e=>(Ix.pin (b,o) (List.mem_append_right _ (List.mem_append_right _ (jcz hb e)))).1,fun b hb=>?_⟩
    obtain⟨o,e,d⟩:=T.obj _ _ st7 b hb
    exact(Ix.pin (b,o) (List.mem_append_right _ (List.mem_append_right _ (jcz hb e)))).2.1
   cases ok with
   |false =>
    rw[if_neg Bool.false_ne_true]at q9 ⊢
    obtain⟨m',hm,w9⟩:=q9
    obtain⟨k1,k2⟩:=keep I9
    exact⟨m',hm,i+1,ys,τ8,H9,I9.unpinned,k1,k2,w9⟩
   |true =>
    rw[if_pos rfl]at q9 ⊢
    refine thn (he s3 H3 fp _ s9 τ8 H9 _ I9 q9) fun xv s10 ⟨y,H10,I10,r10,hD,m',hm,w10⟩=>?_
    refine thn (jhs _ s10 τ8 H10 (.ref s2.heap.objs.size) [y] (.ref s2.heap.objs.size) [xv] (fun z H'=>∃m',m' < n∧W (i+1) m' (ys++[y]) τ8 H') I10 rfl (.cons r10 .nil) ⟨_,ys,y,rfl,rfl,hD,hz,m',hm,w10⟩) fun z s11 ⟨z',H11,I11,_,m'',hm',w11⟩=>?_
    obtain⟨k1,k2⟩:=keep I11
    exact⟨m'',hm',i+1,ys++[y],τ8,H11,I11.unpinned,k1,k2,w11⟩
 exact codeAny_compStart_list loop (T.self _ 0 _ _ _ st4 loop)
end L2
set_option Elab.async false
set_option maxRecDepth 100000
namespace Nb
open PySem L2
noncomputable def Kp (t:Addr) (H H':Hp):Prop:=∀b o,H b=some o→b≠t→H' b=some o
theorem Kp.refl (t:Addr) (H:Hp):Kp t H H:=fun _ _ h _=>h
theorem Kp.trans {t:Addr} {H H1 H2:Hp} (a:Kp t H H1) (b:Kp t H1 H2):Kp t H H2:=fun c o h n=>b c o (a c o h n) n
theorem Kp.new {t p:Addr} {H:Hp} {o:HO} (h:H p=none):Kp t H (upd H p o):=fun c o' e _=>by
 rw[jal (jak e h)]
 exact e
theorem Kp.tape {t:Addr} {H:Hp} {o:HO}:Kp t H (upd H t o):=fun c o' e n=>by
 rw[jal n]
 exact e
structure TL where
 s:Addr
 g:Addr
noncomputable def exOf (l:TL):List V:=if jp6=true then[.ref l.g]else[]
structure Tp (H:Hp) (t:Addr) (l:TL) (ns:List Int) (n:Int):Prop where
 ob:∃a b:Int,H t=some (.lst (.ref l.s::.int a::.int b::exOf l))∧0≤a∧a≤n
 ls:H l.s=some (.lst (ns.map V.int))
 len:ns.length≤63
 ag:jp6=true→H l.g=some (.lst jve)
 gne:l.g≠t
theorem Tp.ne {H:Hp} {t:Addr} {l:TL} {ns:List Int} {n:Int} (T:Tp H t l ns n):t≠l.s:=by
 obtain⟨a,b,h,_⟩:=T.ob
 refine jzz h T.ls fun z=>?_
 have z':(.ref l.s::.int a::.int b::exOf l:List V)=ns.map V.int:=HO.lst.inj z
 cases ns with
 |nil=>cases z'
 |cons m r =>
  rw[List.map_cons]at z'
  have:=(List.cons.inj z').1
  cases this
theorem Tp.other {H:Hp} {t p:Addr} {l:TL} {ns:List Int} {n:Int} {o:HO} (T:Tp H t l ns n) (h1:t≠p) (h2:l.s≠p) (h3:jp6=true→l.g≠p):Tp (upd H p o) t l ns n:=by
 obtain⟨a,b,e,h⟩:=T.ob
 exact⟨⟨a,b,by rw[jal h1];exact e,h⟩,by rw[jal h2];exact T.ls,T.len,fun z=>by rw[jal (h3 z)];exact T.ag z,T.gne⟩
theorem Tp.new {H:Hp} {t p:Addr} {l:TL} {ns:List Int} {n:Int} {o:HO} (T:Tp H t l ns n) (h:H p=none):Tp (upd H p o) t l ns n:=by
 obtain⟨a,b,e,_⟩:=T.ob
 exact T.other (jak e h) (jak T.ls h) fun z=>jak (T.ag z) h
theorem jx6 {xs:List V} {r:Int} (h0:0≤r) (h1:r < xs.length):∃v,atI xs r=some v∧v∈xs:=by
 obtain⟨j,rfl⟩:=Int.eq_ofNat_of_zero_le h0
 have hj:j < xs.length:=by omega
 exact⟨xs[j],jb1 (List.getElem?_eq_getElem hj),List.getElem_mem hj⟩
theorem jtw {n:Nat} (h:n≤1000):n≤sizeLine:=Nat.le_of_lt (jlt h)
theorem jbn:bootBuiltins "tuple"=some (.type "tuple"):=by decide +kernel
theorem jv4:bootBuiltins "int"=some (.type "int"):=by decide +kernel
theorem jov:bootBuiltins "str"=some (.type "str"):=by decide +kernel
theorem jtc:bootBuiltins "repr"=some (.builtin "repr"):=by decide +kernel
theorem j0y:bootBuiltins "isinstance"=some (.builtin "isinstance"):=by decide +kernel
theorem jv6:bootBuiltins "all"=some (.builtin "all"):=by decide +kernel
theorem jx4:bootBuiltins "list"=some (.type "list"):=by decide +kernel
theorem j12 {xs:List V} (h:xs.length≤63):cutV xs none (some 63)=xs:=by
 unfold cutV
 have e1:HT.sIx xs.length 0 none=0:=rfl
 have e2:HT.sIx xs.length xs.length (some 63)=xs.length:=by
  have e:=HT.sIx_nat xs.length xs.length 63
  rw[show((63:Nat):Int)=63 from rfl]at e
  rw[e]
  omega
 rw[e1,e2,List.drop_zero,Nat.sub_zero,List.take_length]
noncomputable def jn3 (K:PySem.W.Frag):Sp:=fun vs H Q _=>∃(a:Addr) (ns:List Int),vs=[.ref a]∧SqL K H a (ns.map V.int)∧ns.length≤63 ∧
 ∀(t:Addr) (l:TL) (H':Hp),Tp H' t l ns 0→(∀b o,H b=some o→H' b=some o)→Q (.ref t) H'
noncomputable def jvk:Sp:=fun vs H Q _=>∃(t:Addr) (l:TL) (ns:List Int) (n many:Int),vs=[.ref t,.int many]∧Tp H t l ns n∧n < 2 ^ 40∧0 < many∧many < 1073741824 ∧
 ∀(r:Int) (H':Hp),0≤r→r < many→Tp H' t l ns (n+1)→Kp t H H'→Q (.int r) H'
end Nb
namespace DL
open PySem L2 Nb
noncomputable abbrev D:=PyData
mutual
inductive RdX (H:Hp) (B:Addr→Prop):V→PyData→Prop
 |non:RdX H B .non .none
 |bl (b:Bool):RdX H B (.bl b) (.bool b)
 |int (i:Int):RdX H B (.int i) (.int i)
 |str (x:Str) (h:x.length≤sizeLine):RdX H B (.str x) (.str x)
 |lst {a:Addr} {xs:List V} {ds:List PyData}:H a=some (.lst xs)→¬B a→xs.length≤sizeLine→RdXs H B xs ds→RdX H B (.ref a) (.list ds)
 |tup {a:Addr} {xs:List V} {ds:List PyData}:H a=some (.tup xs)→¬B a→xs.length≤sizeLine→RdXs H B xs ds→RdX H B (.ref a) (.tuple ds)
inductive RdXs (H:Hp) (B:Addr→Prop):List V→List PyData→Prop
 |nil:RdXs H B [] []
 |cons {x:V} {xs:List V} {d:PyData} {ds:List PyData}:RdX H B x d→RdXs H B xs ds→RdXs H B (x::xs) (d::ds)
end
mutual
theorem RdX.move {H H':Hp} {B B':Addr→Prop} (k:∀b o,H b=some o→¬B b→H' b=some o∧¬B' b):∀{v:V} {d:PyData},RdX H B v d→RdX H' B' v d
 |_,_,.non=>.non
 |_,_,.bl b=>.bl b
 |_,_,.int i=>.int i
 |_,_,.str x h=>.str x h
 |_,_,.lst h1 h2 h3 h4=>.lst (k _ _ h1 h2).1 (k _ _ h1 h2).2 h3 (RdXs.move k h4)
 |_,_,.tup h1 h2 h3 h4=>.tup (k _ _ h1 h2).1 (k _ _ h1 h2).2 h3 (RdXs.move k h4)
theorem RdXs.move {H H':Hp} {B B':Addr→Prop} (k:∀b o,H b=some o→¬B b→H' b=some o∧¬B' b):∀{vs:List V} {ds:List PyData},RdXs H B vs ds→RdXs H' B' vs ds
 |_,_,.nil=>.nil
 |_,_,.cons h1 h2=>.cons (RdX.move k h1) (RdXs.move k h2)
end
section
variable {H H':Hp} {B B':Addr→Prop} {v:V} {d:PyData} {vs ws:List V} {ds es:List PyData} {t:Addr}
theorem RdX.kp (k:Kp t H H') (ht:B t) (h:RdX H B v d):RdX H' B v d:=h.move fun b o e n=>⟨k b o e fun z=>n (z▸ht),n⟩
theorem RdXs.kp (k:Kp t H H') (ht:B t) (h:RdXs H B vs ds):RdXs H' B vs ds:=h.move fun b o e n=>⟨k b o e fun z=>n (z▸ht),n⟩
theorem RdX.less (k:∀b,B' b→B b) (h:RdX H B v d):RdX H B' v d:=h.move fun b o e n=>⟨e,fun z=>n (k b z)⟩
theorem RdXs.less (k:∀b,B' b→B b) (h:RdXs H B vs ds):RdXs H B' vs ds:=h.move fun b o e n=>⟨e,fun z=>n (k b z)⟩
theorem RdXs.keep (k:∀b o,H b=some o→¬B b→H' b=some o) (h:RdXs H B vs ds):RdXs H' B vs ds:=h.move fun b o e n=>⟨k b o e n,n⟩
theorem RdXs.len:∀{vs:List V} {ds:List PyData},RdXs H B vs ds→vs.length=ds.length
 |_,_,.nil=>rfl
 |_,_,.cons _ t=>by rw[List.length_cons,List.length_cons,RdXs.len t]
theorem RdXs.get:∀{vs:List V} {ds:List PyData} {i:Nat} {v:V},RdXs H B vs ds→vs[i]?=some v→∃d,ds[i]?=some d∧RdX H B v d
 |_,_,_,_,.nil,e=>by simp at e
 |_,_,0,_,.cons h _,e=>by
  simp at e
  subst e
  exact⟨_,rfl,h⟩
 |_,_,i+1,v,.cons _ t,e=>by
  obtain⟨d,h1,h2⟩:=RdXs.get (i:=i) (v:=v) t (by simpa using e)
  exact⟨d,by simpa using h1,h2⟩
theorem RdXs.getD:∀{vs:List V} {ds:List PyData} {i:Nat} {d:PyData},RdXs H B vs ds→ds[i]?=some d→∃v,vs[i]?=some v∧RdX H B v d
 |_,_,_,_,.nil,e=>by simp at e
 |_,_,0,_,.cons h _,e=>by
  simp at e
  subst e
  exact⟨_,rfl,h⟩
 |_,_,i+1,d,.cons _ t,e=>by
  obtain⟨v,h1,h2⟩:=RdXs.getD (i:=i) (d:=d) t (by simpa using e)
  exact⟨v,by simpa using h1,h2⟩
theorem RdXs.append:∀{vs ws:List V} {ds es:List PyData},RdXs H B vs ds→RdXs H B ws es→RdXs H B (vs++ws) (ds++es)
 |_,_,_,_,.nil,h=>h
 |_,_,_,_,.cons h1 h2,h=>.cons h1 (RdXs.append h2 h)
theorem RdXs.set:∀{vs:List V} {ds:List PyData} (i:Nat) {v:V} {d:PyData},RdXs H B vs ds→RdX H B v d→RdXs H B (vs.set i v) (ds.set i d)
 |_,_,_,_,_,.nil,_=>.nil
 |_,_,0,_,_,.cons _ t,h=>.cons h t
 |_,_,i+1,_,_,.cons q t,h=>.cons q (RdXs.set i t h)
theorem RdXs.take:∀{vs:List V} {ds:List PyData} (n:Nat),RdXs H B vs ds→RdXs H B (vs.take n) (ds.take n)
 |_,_,0,_=>.nil
 |_,_,_+1,.nil=>.nil
 |_,_,n+1,.cons r t=>.cons r (RdXs.take n t)
theorem RdXs.drop:∀{vs:List V} {ds:List PyData} (n:Nat),RdXs H B vs ds→RdXs H B (vs.drop n) (ds.drop n)
 |_,_,0,r=>r
 |_,_,_+1,.nil=>.nil
 |_,_,n+1,.cons _ t=>RdXs.drop n t
end
mutual
theorem RdX.rd {K:PySem.W.Frag} {H:Hp} {B:Addr→Prop}:∀{v:V} {d:PyData},RdX H B v d→RdD K H v d
 |_,_,.non=>.non
 |_,_,.bl b=>.bl b
 |_,_,.int i=>.int i
 |_,_,.str x h=>.str x
 |_,_,.lst h1 h2 h3 h4=>.lst (SqL.of h1) (RdXs.rd h4)
 |_,_,.tup h1 h2 h3 h4=>.tup (SqT.of h1) (RdXs.rd h4)
theorem RdXs.rd {K:PySem.W.Frag} {H:Hp} {B:Addr→Prop}:∀{vs:List V} {ds:List PyData},RdXs H B vs ds→RdAll K H vs ds
 |_,_,.nil=>.nil
 |_,_,.cons h1 h2=>.cons (RdX.rd h1) (RdXs.rd h2)
end
inductive Wv where
 |d (x:PyData) | tp | dk (kvs:List (Key×PyData)) | ln (ds:List PyData)
noncomputable def Wv.lent:Wv→Bool
 |.dk _=>true
 |.ln _=>true
 |_=>false
inductive SV where
 |w (x:Wv) | own (ds:List PyData) | odk (kvs:List (Key×PyData)) | odt (kvs:List (List Key×PyData))
noncomputable abbrev Sl:=List (Option SV)
noncomputable def RdK (H:Hp) (B:Addr→Prop):List (Key×V)→List (Key×PyData)→Prop:=Paired fun p q=>p.1=q.1∧RdX H B p.2 q.2
theorem RdK.move {H H':Hp} {B B':Addr→Prop} (k:∀b o,H b=some o→¬B b→H' b=some o∧¬B' b) {l:List (Key×V)} {m:List (Key×PyData)} (h:RdK H B l m):RdK H' B' l m :=
 Paired.mapP h fun _ _ z=>⟨z.1,z.2.move k⟩
noncomputable def RdT (H:Hp) (B:Addr→Prop):List (List Key×V)→List (List Key×PyData)→Prop:=Paired fun p q=>p.1=q.1∧RdX H B p.2 q.2
theorem RdT.move {H H':Hp} {B B':Addr→Prop} (k:∀b o,H b=some o→¬B b→H' b=some o∧¬B' b) {l:List (List Key×V)} {m:List (List Key×PyData)} (h:RdT H B l m):RdT H' B' l m :=
 Paired.mapP h fun _ _ z=>⟨z.1,z.2.move k⟩
noncomputable def WRel (H:Hp) (B:Addr→Prop) (t:Addr) (v:V):Wv→Prop
 |.d x=>RdX H B v x
 |.tp=>v=.ref t
 |.dk kvs=>∃a l,v=.ref a∧H a=some (.dK l)∧a≠t∧RdK H B l kvs
 |.ln ds=>∃a xs,v=.ref a∧H a=some (.lst xs)∧a≠t∧xs.length≤sizeLine∧RdXs H B xs ds
noncomputable def SRel (H0:Hp) (H:Hp) (B:Addr→Prop) (t:Addr) (v:V):SV→Prop
 |.w x=>WRel H B t v x∧(x.lent=true→∃a,v=.ref a∧H0 a≠none)
 |.own ds=>∃a xs,v=.ref a∧H a=some (.lst xs)∧B a∧H0 a=none∧xs.length≤sizeLine∧RdXs H B xs ds
 |.odk kvs=>∃a l,v=.ref a∧H a=some (.dK l)∧B a∧H0 a=none∧l.length≤1000∧RdK H B l kvs
 |.odt kvs=>∃a l,v=.ref a∧H a=some (.dT l)∧B a∧H0 a=none∧l.length≤1000∧RdT H B l kvs
noncomputable def SV.isOwn:SV→Bool
 |.w _=>false
 |_=>true
structure Ctx where
 t:Addr
 l:TL
 ns:List Int
 H0:Hp
 B0:Addr→Prop
 fz:Hp
structure Rel (C:Ctx) (H:Hp) (B:Addr→Prop) (σ:St) (δ:Sl) (n:Int):Prop where
 tp:Tp H C.t C.l C.ns n
 kp:Kp C.t C.H0 H
 t0:C.H0 C.t≠none
 l0:C.H0 C.l.s≠none
 g0:jp6=true→C.H0 C.l.g≠none
 fz:∀b o,C.fz b=some o→H b=some o∧¬B b
 bt:B C.t
 b0:∀b,C.B0 b→B b
 ba:∀b,B b→H b≠none
 a0:∀b,C.B0 b→C.H0 b≠none
 sl:∀(i:Nat) (x:SV),δ[i]?=some (some x)→∃v,σ[i]?=some (some v)∧SRel C.H0 H B C.t v x
 ow:∀(i j:Nat) (x y:SV) (v:V),δ[i]?=some (some x)→δ[j]?=some (some y)→x.isOwn=true→y.isOwn=true→σ[i]?=some (some v)→σ[j]?=some (some v)→i=j
 len:σ.length=δ.length
theorem WRel.kp {H H':Hp} {B:Addr→Prop} {t:Addr} {v:V} {x:Wv} (k:Kp t H H') (ht:B t) (h:WRel H B t v x):WRel H' B t v x:=by
 cases x with
 |d x=>exact RdX.kp k ht h
 |tp=>exact h
 |dk kvs =>
  obtain⟨a,l,e,h1,h2,h3⟩:=h
  exact⟨a,l,e,k _ _ h1 h2,h2,h3.move fun b o e n=>⟨k b o e fun z=>n (z▸ht),n⟩⟩
 |ln ds =>
  obtain⟨a,l,e,h1,h2,h3,h4⟩:=h
  exact⟨a,l,e,k _ _ h1 h2,h2,h3,h4.kp k ht⟩
theorem WRel.less {H:Hp} {B B':Addr→Prop} {t:Addr} {v:V} {x:Wv} (k:∀b,B' b→B b) (h:WRel H B t v x):WRel H B' t v x:=by
 cases x with
 |d x=>exact RdX.less k h
 |tp=>exact h
 |dk kvs =>
  obtain⟨a,l,e,h1,h2,h3⟩:=h
  exact⟨a,l,e,h1,h2,h3.move fun b o e n=>⟨e,fun z=>n (k b z)⟩⟩
 |ln ds =>
  obtain⟨a,l,e,h1,h2,h3,h4⟩:=h
  exact⟨a,l,e,h1,h2,h3,h4.less k⟩
theorem SRel.kp {H0 H H':Hp} {B:Addr→Prop} {t:Addr} {v:V} {x:SV} (k:Kp t H H') (ht:B t) (t0:H0 t≠none) (h:SRel H0 H B t v x):SRel H0 H' B t v x:=by
 cases x with
 |w x=>exact⟨h.1.kp k ht,h.2⟩
 |own ds =>
  obtain⟨a,xs,e,h1,h2,h3,h4,h5⟩:=h
  exact⟨a,xs,e,k _ _ h1 (fun z=>t0 (z▸h3)),h2,h3,h4,h5.kp k ht⟩
 |odk kvs =>
  obtain⟨a,l,e,h1,h2,h3,h4,h5⟩:=h
  exact⟨a,l,e,k _ _ h1 (fun z=>t0 (z▸h3)),h2,h3,h4,h5.move fun b o e n=>⟨k b o e fun z=>n (z▸ht),n⟩⟩
 |odt kvs =>
  obtain⟨a,l,e,h1,h2,h3,h4,h5⟩:=h
  exact⟨a,l,e,k _ _ h1 (fun z=>t0 (z▸h3)),h2,h3,h4,h5.move fun b o e n=>⟨k b o e fun z=>n (z▸ht),n⟩⟩
theorem Rel.step {C:Ctx} {H H':Hp} {B:Addr→Prop} {σ:St} {δ:Sl} {n n':Int} (R:Rel C H B σ δ n) (T:Tp H' C.t C.l C.ns n') (k:Kp C.t H H'):Rel C H' B σ δ n' where
 tp:=T
 kp:=R.kp.trans k
 t0:=R.t0
 l0:=R.l0
 g0:=R.g0
 fz:=fun b o e=>⟨k b o (R.fz b o e).1 fun z=>(R.fz b o e).2 (z▸R.bt),(R.fz b o e).2⟩
 bt:=R.bt
 b0:=R.b0
 ba:=fun b hb e=>by
  by_cases z:b=C.t
  ·subst z
   obtain⟨x,y,h,_⟩:=T.ob
   rw[h]at e
   cases e
  ·cases q:H b with
   |none=>exact R.ba b hb q
   |some o=>rw[k b o q z]at e;cases e
 a0:=R.a0
 sl:=fun i x e=>by
  obtain⟨v,h1,h2⟩:=R.sl i x e
  exact⟨v,h1,h2.kp k R.bt R.t0⟩
 ow:=R.ow
 len:=R.len
theorem Rel.new {C:Ctx} {H:Hp} {B:Addr→Prop} {σ:St} {δ:Sl} {n:Int} {p:Addr} {o:HO} (R:Rel C H B σ δ n) (h:H p=none):Rel C (upd H p o) B σ δ n:=R.step (R.tp.new h) (Kp.new h)
theorem Rel.nb {C:Ctx} {H:Hp} {B:Addr→Prop} {σ:St} {δ:Sl} {n:Int} {p:Addr} (R:Rel C H B σ δ n) (h:H p=none):¬B p:=fun z=>R.ba p z h
theorem jay {α:Type} {l:List (Option α)} {i j:Nat} {x y:α} (h:(l.set i (some x))[j]?=some (some y)):(j=i∧y=x)∨(j≠i∧l[j]?=some (some y)):=by
 by_cases e:i=j
 ·subst e
  rw[List.getElem?_set_self']at h
  cases q:l[i]? with
  |none=>rw[q]at h;cases h
  |some z =>
   rw[q]at h
   exact .inl ⟨rfl,(Option.some.inj (Option.some.inj h)).symm⟩
 ·rw[List.getElem?_set_ne e]at h
  exact .inr ⟨fun z=>e z.symm,h⟩
theorem jn7 {α:Type} {l:List (Option α)} {i:Nat} {x y:Option α} (h:(l.set i x)[i]?=some y):i < l.length:=by
 have:=(List.getElem?_eq_some_iff.mp h).1
 rwa [List.length_set]at this
theorem jda {α:Type} {l:List (Option α)} {i:Nat} {x:α} (h:i < l.length):(l.set i (some x))[i]?=some (some x):=by simp[h]
theorem jb5 {α:Type} {l:List (Option α)} {i j:Nat} {x:α} (h:j≠i):(l.set i (some x))[j]?=l[j]?:=List.getElem?_set_ne (fun z=>h z.symm)
theorem Rel.set {C:Ctx} {H:Hp} {B:Addr→Prop} {σ:St} {δ:Sl} {n:Int} {i:Nat} {v:V} {x:Wv} (R:Rel C H B σ δ n) (h:WRel H B C.t v x) (hx:x.lent=false):Rel C H B (σ.set i (some v)) (δ.set i (some (.w x))) n where
 tp:=R.tp
 kp:=R.kp
 t0:=R.t0
 l0:=R.l0
 g0:=R.g0
 fz:=R.fz
 bt:=R.bt
 b0:=R.b0
 ba:=R.ba
 a0:=R.a0
 sl:=fun j y e=>by
  rcases jay e with⟨rfl,rfl⟩ | ⟨ne,e'⟩
  ·exact⟨v,jda (by rw[R.len];exact jn7 e),h,fun z=>by rw[hx]at z;cases z⟩
  ·obtain⟨u,h1,h2⟩:=R.sl j y e'
   exact⟨u,by rw[jb5 ne];exact h1,h2⟩
 ow:=fun j k y z u e1 e2 o1 o2 f1 f2=>by
  rcases jay e1 with⟨rfl,rfl⟩ | ⟨ne1,e1'⟩
  ·cases o1
  ·rcases jay e2 with⟨rfl,rfl⟩ | ⟨ne2,e2'⟩
   ·cases o2
   ·rw[jb5 ne1]at f1
    rw[jb5 ne2]at f2
    exact R.ow j k y z u e1' e2' o1 o2 f1 f2
 len:=by rw[List.length_set,List.length_set];exact R.len
theorem Rel.mut {C:Ctx} {H:Hp} {B:Addr→Prop} {σ:St} {δ:Sl} {n:Int} {a:Addr} {o:HO} (R:Rel C H B σ δ n) (hb:B a) (h0:C.H0 a=none)
  (ho:∀(i:Nat) (x:SV),δ[i]?=some (some x)→x.isOwn=true→σ[i]?≠some (some (.ref a))):Rel C (upd H a o) B σ δ n where
 tp:=R.tp.other (fun z=>R.t0 (z▸h0)) (fun z=>R.l0 (z▸h0)) (fun e z=>R.g0 e (z▸h0))
 kp:=fun b o' e ne=>by
  rw[jal (jak e h0)]
  exact R.kp b o' e ne
 t0:=R.t0
 l0:=R.l0
 g0:=R.g0
 fz:=fun b o' e=>⟨by rw[jal fun(z:b=a)=>(R.fz b o' e).2 (z▸hb)];exact(R.fz b o' e).1,(R.fz b o' e).2⟩
 bt:=R.bt
 b0:=R.b0
 ba:=fun b hb' e=>by
  by_cases z:b=a
  ·rw[z,jar]at e;cases e
  ·rw[jal z]at e;exact R.ba b hb' e
 a0:=R.a0
 sl:=fun i x e=>by
  obtain⟨v,h1,h2⟩:=R.sl i x e
  have mv:∀b o',H b=some o'→¬B b→upd H a o b=some o'∧¬B b:=fun b o' e n=>⟨by rw[jal fun(z:b=a)=>n (z▸hb)];exact e,n⟩
  refine⟨v,h1,?_⟩
  cases x with
  |w x =>
   refine⟨?_,h2.2⟩
   cases x with
   |d x=>exact h2.1.move mv
   |tp=>exact h2.1
   |dk kvs =>
    obtain⟨a',l,e1,e2,e3,e4⟩:=h2.1
    obtain⟨a'',f1,f2⟩:=h2.2 rfl
    rw[e1]at f1
    cases f1
    exact⟨a',l,e1,by rw[jal fun(z:a'=a)=>f2 (z▸h0)];exact e2,e3,e4.move mv⟩
   |ln ds =>
    obtain⟨a',l,e1,e2,e3,e4,e5⟩:=h2.1
    obtain⟨a'',f1,f2⟩:=h2.2 rfl
    rw[e1]at f1
    cases f1
    exact⟨a',l,e1,by rw[jal fun(z:a'=a)=>f2 (z▸h0)];exact e2,e3,e4,e5.move mv⟩
  |own ds =>
   obtain⟨a',xs,e1,e2,e3,e4,e5,e6⟩:=h2
   have ne:a'≠a:=fun z=>ho i _ e rfl (by rw[h1,e1,z])
   exact⟨a',xs,e1,by rw[jal ne];exact e2,e3,e4,e5,e6.move mv⟩
  |odk kvs =>
   obtain⟨a',xs,e1,e2,e3,e4,e5,e6⟩:=h2
   have ne:a'≠a:=fun z=>ho i _ e rfl (by rw[h1,e1,z])
   exact⟨a',xs,e1,by rw[jal ne];exact e2,e3,e4,e5,e6.move mv⟩
  |odt kvs =>
   obtain⟨a',xs,e1,e2,e3,e4,e5,e6⟩:=h2
   have ne:a'≠a:=fun z=>ho i _ e rfl (by rw[h1,e1,z])
   exact⟨a',xs,e1,by rw[jal ne];exact e2,e3,e4,e5,e6.move mv⟩
 ow:=R.ow
 len:=R.len
theorem Rel.mutOwn {C:Ctx} {H:Hp} {B:Addr→Prop} {σ:St} {δ:Sl} {n:Int} {i:Nat} {x x':SV} {a:Addr} {o:HO} (R:Rel C H B σ δ n) (hi:δ[i]?=some (some x)) (hx:x.isOwn=true) (hσ:σ[i]?=some (some (.ref a))) (hb:B a) (h0:C.H0 a=none)
  (h:SRel C.H0 (upd H a o) B C.t (.ref a) x') (hx':x'.isOwn=true):Rel C (upd H a o) B σ (δ.set i (some x')) n:=by
 -- first the other slots: slot i is taken out
 have R1:Rel C H B σ (δ.set i none) n:={
  tp:=R.tp,kp:=R.kp,t0:=R.t0,l0:=R.l0,g0:=R.g0,fz:=R.fz,bt:=R.bt,b0:=R.b0,ba:=R.ba,a0:=R.a0
  sl:=fun j y e=>by
   by_cases z:i=j
   ·subst z
    rw[List.getElem?_set_self']at e
    rw[hi]at e
    cases e
   ·rw[List.getElem?_set_ne z]at e
    exact R.sl j y e
  ow:=fun j k y z u e1 e2 o1 o2 f1 f2=>by
   have g:∀{m:Nat} {w:SV},(δ.set i none)[m]?=some (some w)→δ[m]?=some (some w):=fun{m w} e=>by
    by_cases q:i=m
    ·subst q
     rw[List.getElem?_set_self',hi]at e
     cases e
    ·rwa [List.getElem?_set_ne q]at e
   exact R.ow j k y z u (g e1) (g e2) o1 o2 f1 f2
  len:=by rw[List.length_set];exact R.len}
 have R2:Rel C (upd H a o) B σ (δ.set i none) n:=R1.mut hb h0 fun j y e oy f=>by
  by_cases z:i=j
  ·subst z
   rw[List.getElem?_set_self',hi]at e
   cases e
  ·rw[List.getElem?_set_ne z]at e
   exact z (R.ow i j x y _ hi e hx oy hσ f)
 have hlt:i < δ.length:=(List.getElem?_eq_some_iff.mp hi).1
 exact{
  tp:=R2.tp,kp:=R2.kp,t0:=R2.t0,l0:=R2.l0,g0:=R2.g0,fz:=R2.fz,bt:=R2.bt,b0:=R2.b0,ba:=R2.ba,a0:=R2.a0
  sl:=fun j y e=>by
   rcases jay e with⟨rfl,rfl⟩ | ⟨ne,e'⟩
   ·exact⟨_,hσ,h⟩
   ·exact R2.sl j y (by rw[List.getElem?_set_ne fun z=>ne z.symm];exact e')
  ow:=fun j k y z u e1 e2 o1 o2 f1 f2=>by
   rcases jay e1 with⟨rfl,rfl⟩ | ⟨ne1,e1'⟩
   ·rcases jay e2 with⟨rfl,rfl⟩ | ⟨ne2,e2'⟩
    ·rfl
    ·exact R.ow _ _ x z u hi e2' hx o2 f1 f2
   ·rcases jay e2 with⟨rfl,rfl⟩ | ⟨ne2,e2'⟩
    ·exact R.ow _ _ y x u e1' hi o1 hx f1 f2
    ·exact R.ow j k y z u e1' e2' o1 o2 f1 f2
  len:=by rw[List.length_set];exact R.len}
theorem Rel.own {C:Ctx} {H H':Hp} {B:Addr→Prop} {σ:St} {δ:Sl} {n n':Int} {i:Nat} {a:Addr} {x:SV} (R:Rel C H B σ δ n) (R':Rel C H' B σ δ n') (k:Kp C.t H H') (h0:H a=none) (h1:H' a≠none) (hx:x.isOwn=true)
  (h:SRel C.H0 H' (fun b=>B b∨b=a) C.t (.ref a) x):Rel C H' (fun b=>B b∨b=a) (σ.set i (some (.ref a))) (δ.set i (some x)) n' where
 tp:=R'.tp
 kp:=R'.kp
 t0:=R'.t0
 l0:=R'.l0
 g0:=R'.g0
 fz:=fun b o e=>⟨(R'.fz b o e).1,fun z=>z.elim (R'.fz b o e).2 fun q=>jak (R.fz b o e).1 h0 q⟩
 bt:=.inl R.bt
 b0:=fun b z=>.inl (R.b0 b z)
 ba:=fun b z=>z.elim (R'.ba b) fun q=>q▸h1
 a0:=R.a0
 sl:=fun j y e=>by
  have hta:C.t≠a:=fun z=>by
   obtain⟨_,_,q,_⟩:=R.tp.ob
   rw[z,h0]at q
   cases q
  have mv:∀b o',H b=some o'→¬B b→H' b=some o'∧¬(B b∨b=a):=fun b o' e n=>⟨k b o' e fun z=>n (z▸R.bt),fun z=>z.elim n fun q=>jak e h0 q⟩
  rcases jay e with⟨rfl,rfl⟩ | ⟨ne,e'⟩
  ·exact⟨_,jda (by rw[R.len];exact jn7 e),h⟩
  ·obtain⟨v,f1,f2⟩:=R.sl j y e'
   refine⟨v,by rw[jb5 ne];exact f1,?_⟩
   cases y with
   |w y =>
    refine⟨?_,f2.2⟩
    cases y with
    |d y=>exact f2.1.move mv
    |tp=>exact f2.1
    |dk kvs =>
     obtain⟨a',l,e1,e2,e3,e4⟩:=f2.1
     exact⟨a',l,e1,k _ _ e2 e3,e3,e4.move mv⟩
    |ln ds =>
     obtain⟨a',l,e1,e2,e3,e4,e5⟩:=f2.1
     exact⟨a',l,e1,k _ _ e2 e3,e3,e4,e5.move mv⟩
   |own ds =>
    obtain⟨a',xs,e1,e2,e3,e4,e5,e6⟩:=f2
    exact⟨a',xs,e1,k _ _ e2 (fun z=>R.t0 (z▸e4)),.inl e3,e4,e5,e6.move mv⟩
   |odk kvs =>
    obtain⟨a',xs,e1,e2,e3,e4,e5,e6⟩:=f2
    exact⟨a',xs,e1,k _ _ e2 (fun z=>R.t0 (z▸e4)),.inl e3,e4,e5,e6.move mv⟩
   |odt kvs =>
    obtain⟨a',xs,e1,e2,e3,e4,e5,e6⟩:=f2
    exact⟨a',xs,e1,k _ _ e2 (fun z=>R.t0 (z▸e4)),.inl e3,e4,e5,e6.move mv⟩
 ow:=fun j m y z u e1 e2 o1 o2 f1 f2=>by
  have out:∀{p:Nat} {w:SV},δ[p]?=some (some w)→w.isOwn=true→σ[p]?=some (some (.ref a))→False:=fun{p w} e ow f=>by
   obtain⟨v,g1,g2⟩:=R.sl p w e
   rw[f]at g1
   cases g1
   cases w with
   |w _=>cases ow
   |own ds =>
    obtain⟨a',xs,e1,e2,_⟩:=g2
    cases e1
    rw[h0]at e2
    cases e2
   |odk ds =>
    obtain⟨a',xs,e1,e2,_⟩:=g2
    cases e1
    rw[h0]at e2
    cases e2
   |odt ds =>
    obtain⟨a',xs,e1,e2,_⟩:=g2
    cases e1
    rw[h0]at e2
    cases e2
  rcases jay e1 with⟨rfl,rfl⟩ | ⟨ne1,e1'⟩
  ·rcases jay e2 with⟨rfl,rfl⟩ | ⟨ne2,e2'⟩
   ·rfl
   ·rw[jda (by rw[R.len];exact jn7 e1)]at f1
    rw[jb5 ne2]at f2
    cases f1
    exact(out e2' o2 f2).elim
  ·rcases jay e2 with⟨rfl,rfl⟩ | ⟨ne2,e2'⟩
   ·rw[jda (by rw[R.len];exact jn7 e2)]at f2
    rw[jb5 ne1]at f1
    cases f2
    exact(out e1' o1 f1).elim
   ·rw[jb5 ne1]at f1
    rw[jb5 ne2]at f2
    exact R.ow j m y z u e1' e2' o1 o2 f1 f2
 len:=by rw[List.length_set,List.length_set];exact R.len
theorem Rel.frz {C:Ctx} {H:Hp} {B:Addr→Prop} {σ:St} {δ:Sl} {n:Int} {i:Nat} {ds:List PyData} (R:Rel C H B σ δ n) (hi:δ[i]?=some (some (.own ds))):∃B',Rel C H B' σ (δ.set i (some (.w (.d (.list ds))))) n:=by
 obtain⟨v,hv,a,xs,rfl,e2,e3,e4,e5,e6⟩:=R.sl i _ hi
 refine⟨fun b=>B b∧b≠a,?_⟩
 have less:∀b,(B b∧b≠a)→B b:=fun b z=>z.1
 exact{
  tp:=R.tp,kp:=R.kp,t0:=R.t0,l0:=R.l0,g0:=R.g0
  fz:=fun b o e=>⟨(R.fz b o e).1,fun z=>(R.fz b o e).2 z.1⟩
  bt:=⟨R.bt,fun z=>R.t0 (z▸e4)⟩
  b0:=fun b z=>⟨R.b0 b z,fun q=>R.a0 b z (q▸e4)⟩
  ba:=fun b z=>R.ba b z.1
  a0:=R.a0
  sl:=fun j y e=>by
   rcases jay e with⟨rfl,rfl⟩ | ⟨ne,e'⟩
   ·exact⟨_,hv,(show RdX H _ (.ref a) (.list ds)from .lst e2 (fun z=>z.2 rfl) e5 (e6.less less)),fun z=>by cases z⟩
   ·obtain⟨u,f1,f2⟩:=R.sl j y e'
    refine⟨u,f1,?_⟩
    cases y with
    |w y=>exact⟨f2.1.less less,f2.2⟩
    |own ds' =>
     obtain⟨a',xs',g1,g2,g3,g4,g5,g6⟩:=f2
     refine⟨a',xs',g1,g2,⟨g3,fun z=>?_⟩,g4,g5,g6.less less⟩
     exact ne (R.ow j i _ _ _ e' hi rfl rfl f1 (by rw[hv,g1,z]))
    |odk ds' =>
     obtain⟨a',xs',g1,g2,g3,g4,g5,g6⟩:=f2
     refine⟨a',xs',g1,g2,⟨g3,fun z=>?_⟩,g4,g5,g6.move fun b o e n=>⟨e,fun z=>n z.1⟩⟩
     exact ne (R.ow j i _ _ _ e' hi rfl rfl f1 (by rw[hv,g1,z]))
    |odt ds' =>
     obtain⟨a',xs',g1,g2,g3,g4,g5,g6⟩:=f2
     refine⟨a',xs',g1,g2,⟨g3,fun z=>?_⟩,g4,g5,g6.move fun b o e n=>⟨e,fun z=>n z.1⟩⟩
     exact ne (R.ow j i _ _ _ e' hi rfl rfl f1 (by rw[hv,g1,z]))
  ow:=fun j k y z u e1 e2 o1 o2 f1 f2=>by
   rcases jay e1 with⟨rfl,rfl⟩ | ⟨ne1,e1'⟩
   ·cases o1
   ·rcases jay e2 with⟨rfl,rfl⟩ | ⟨ne2,e2'⟩
    ·cases o2
    ·exact R.ow j k y z u e1' e2' o1 o2 f1 f2
  len:=by rw[List.length_set];exact R.len}
noncomputable abbrev DQ:=Wv→Int→Prop
noncomputable abbrev DT:=Sl→Int→DQ→Prop
noncomputable abbrev DTT:=Sl→Int→(Bool→Int→Prop)→Prop
noncomputable abbrev DTA:=Sl→Int→(List Wv→Int→Prop)→Prop
inductive ARel (H:Hp) (B:Addr→Prop) (t:Addr):List V→List Wv→Prop
 |nil:ARel H B t [] []
 |cons {v:V} {vs:List V} {x:Wv} {xs:List Wv}:WRel H B t v x→ARel H B t vs xs→ARel H B t (v::vs) (x::xs)
theorem ARel.kp {H H':Hp} {B:Addr→Prop} {t:Addr} (k:Kp t H H') (ht:B t):∀{vs:List V} {xs:List Wv},ARel H B t vs xs→ARel H' B t vs xs
 |_,_,.nil=>.nil
 |_,_,.cons a b=>.cons (a.kp k ht) (ARel.kp k ht b)
theorem ARel.len {H:Hp} {B:Addr→Prop} {t:Addr}:∀{vs:List V} {xs:List Wv},ARel H B t vs xs→vs.length=xs.length
 |_,_,.nil=>rfl
 |_,_,.cons _ b=>by rw[List.length_cons,List.length_cons,ARel.len b]
noncomputable def Snd (t:TE) (w:DT):Prop:=∀(C:Ctx) (H:Hp) (B:Addr→Prop) (σ:St) (δ:Sl) (n:Int) (Q:DQ) (Q':VK),Rel C H B σ δ n→w δ n Q →
 (∀v x H' n',Rel C H' B σ δ n'→Kp C.t H H'→WRel H' B C.t v x→Q x n'→Q' v H')→t σ H Q'
noncomputable def SndT (t:TT) (w:DTT):Prop:=∀(C:Ctx) (H:Hp) (B:Addr→Prop) (σ:St) (δ:Sl) (n:Int) (Q:Bool→Int→Prop) (Q':Bool→Hp→Prop),Rel C H B σ δ n→w δ n Q →
 (∀b H' n',Rel C H' B σ δ n'→Kp C.t H H'→Q b n'→Q' b H')→t σ H Q'
noncomputable def SndA (t:TA) (w:DTA):Prop:=∀(C:Ctx) (H:Hp) (B:Addr→Prop) (σ:St) (δ:Sl) (n:Int) (Q:List Wv→Int→Prop) (Q':List V→Hp→Prop),Rel C H B σ δ n→w δ n Q →
 (∀vs xs H' n',Rel C H' B σ δ n'→Kp C.t H H'→ARel H' B C.t vs xs→Q xs n'→Q' vs H')→t σ H Q'
noncomputable abbrev DTF:=Sl→Int→(List PyData→Int→Prop)→Prop
noncomputable def SndF (t:TE) (w:DTF):Prop:=∀(C:Ctx) (H:Hp) (B:Addr→Prop) (σ:St) (δ:Sl) (n:Int) (Q:List PyData→Int→Prop) (Q':VK),Rel C H B σ δ n→w δ n Q →
 (∀a xs ds H' n',Rel C H' B σ δ n'→Kp C.t H H'→H a=none→H' a=some (.lst xs)→xs.length≤sizeLine→RdXs H' (fun b=>B b∨b=a) xs ds→Q ds n'→Q' (.ref a) H')→t σ H Q'
structure DE (X:Cx) (e:Expr) (t:TE) (w:DT):Prop where
 pe:PE X e t
 sd:Snd t w
structure DC (X:Cx) (e:Expr) (t:TT) (w:DTT):Prop where
 pt:PT X e t
 sd:SndT t w
structure DCW (X:Cx) (e:Expr) (t:TT) (w:DTT):Prop where
 pw:PW X e t
 sd:SndT t w
structure DA (X:Cx) (es:List Expr) (t:TA) (w:DTA):Prop where
 pa:PA X es t
 sd:SndA t w
structure DF (X:Cx) (e:Expr) (t:TE) (w:DTF):Prop where
 pe:PE X e t
 sd:SndF t w
variable {X:Cx} {a b c e:Expr} {ta tb tc te:TE} {wa wb wc we:DT} {pos:Pos}
noncomputable def wVar (i:Nat):DT:=fun δ n Q=>match δ[i]? with
 |some (some (.w x))=>Q x n
 |_=>False
theorem jac (i:Nat) {x:Str} {p:Pos} (hN:X.N[i]?=some x:=by rfl) (hv:Vis X.env.scope x:=by first | exact Or.inl rfl | exact Or.inr (Or.inl rfl) | exact Or.inr (Or.inr rfl)) (hd:(x==("__debug__":Str))=false:=by decide)
  (hcd:(x==("__classdict__":Str))=false:=by decide):DE X (.Name x p) (tVar i) (wVar i):=⟨je9 hN hv hd hcd,fun C H B σ δ n Q Q' R h k=>by
 unfold wVar at h
 split at h
 ·rename_i x e
  obtain⟨v,h1,h2⟩:=R.sl i _ e
  exact⟨v,h1,k v x H n R (Kp.refl _ _) h2.1 h⟩
 ·exact h.elim⟩
noncomputable def wC (d:PyData):DT:=fun _ n Q=>Q (.d d) n
theorem jtv {v:V} {d:PyData} (h:∀H B,RdX H B v d):Snd (tC v) (wC d):=fun C H B σ δ n Q Q' R q k=>k v (.d d) H n R (Kp.refl _ _) (h H B) q
theorem jag {i j p}:DE X (.Constant (.int i) j p) (tC (.int i)) (wC (.int i)):=⟨ja9,jtv fun _ _=>.int i⟩
theorem d_bl {i j p}:DE X (.Constant (.bool i) j p) (tC (.bl i)) (wC (.bool i)):=⟨j1i,jtv fun _ _=>.bl i⟩
theorem jhf {j p}:DE X (.Constant .none j p) (tC .non) (wC .none):=⟨joc,jtv fun _ _=>.non⟩
theorem jat {x j p} (h:Str.length x≤sizeLine:=by decide +kernel):DE X (.Constant (.str x) j p) (tC (.str x)) (wC (.str x)):=⟨jzg,jtv fun _ _=>.str x h⟩
noncomputable def w2 (wa wb:DT) (g:Wv→Wv→Int→DQ→Prop):DT:=fun δ n Q=>wa δ n fun x n1=>wb δ n1 fun y n2=>g x y n2 Q
noncomputable def SndO (r:R2) (g:Wv→Wv→Int→DQ→Prop):Prop:=∀(C:Ctx) (H:Hp) (B:Addr→Prop) (σ:St) (δ:Sl) (n:Int) (x y:V) (p q:Wv) (Q:DQ) (Q':VK),Rel C H B σ δ n→WRel H B C.t x p→WRel H B C.t y q→g p q n Q →
 (∀v x H' n',Rel C H' B σ δ n'→Kp C.t H H'→WRel H' B C.t v x→Q x n'→Q' v H')→r x y H Q'
theorem jls {r:R2} {g:Wv→Wv→Int→DQ→Prop} (hr:SndO r g) (ha:Snd ta wa) (hb:Snd tb wb):Snd (tOp r ta tb) (w2 wa wb g):=fun C H B σ δ n Q Q' R h k =>
 ha C H B σ δ n _ _ R h fun v x H1 n1 R1 k1 r1 q1=>hb C H1 B σ δ n1 _ _ R1 q1 fun u y H2 n2 R2 k2 r2 q2 =>
  hr C H2 B σ δ n2 v u x y Q Q' R2 (r1.kp k2 R1.bt) r2 q2 fun z p H3 n3 R3 k3 r3 q3=>k z p H3 n3 R3 ((k1.trans k2).trans k3) r3 q3
theorem d_op {op:Operator} {r:R2} {g:Wv→Wv→Int→DQ→Prop} (ho:OpR X (binaryOp op) r) (hr:SndO r g) (ha:DE X a ta wa) (hb:DE X b tb wb):DE X (.BinOp a op b pos) (tOp r ta tb) (w2 wa wb g) :=
 ⟨jc7 ho ha.pe hb.pe,jls hr ha.sd hb.sd⟩
theorem jd8 {op:CmpOp} {r:R2} {g:Wv→Wv→Int→DQ→Prop} (ho:OpR X (compareOp op) r) (hr:SndO r g) (ha:DE X a ta wa) (hb:DE X b tb wb) (hm:behindInMarks op b=false):DE X (.Compare a [op] [b] pos) (tOp r ta tb) (w2 wa wb g) :=
 ⟨jw9 ho ha.pe hb.pe hm,jls hr ha.sd hb.sd⟩
noncomputable def cT (w:DT):DTT:=fun δ n Q=>w δ n fun x n'=>match x with
 |.d (.bool k)=>Q k n'
 |_=>False
theorem wd {H:Hp} {B:Addr→Prop} {t:Addr} {v:V} {d:PyData} (h:RdX H B v d):WRel H B t v (.d d):=h
theorem jkh {t:TE} {w:DT} (h:Snd t w):SndT (jp7 t) (cT w):=fun C H B σ δ n Q Q' R q k =>
 h C H B σ δ n _ _ R q fun v x H' n' R' k' r' q'=>by
  split at q'
  ·rename_i b
   cases(show RdX H' B v (.bool b)from r')
   exact⟨b,rfl,k b H' n' R' k' q'⟩
  ·exact q'.elim
theorem ja6 {op:CmpOp} {r:R2} {g:Wv→Wv→Int→DQ→Prop} (ho:OpR X (compareOp op) r) (hr:SndO r g) (ha:DE X a ta wa) (hb:DE X b tb wb) (hm:behindInMarks op b=false):DC X (.Compare a [op] [b] pos) (jp7 (tOp r ta tb)) (cT (w2 wa wb g)) :=
 ⟨jf7 ho ha.pe hb.pe hm,jkh (jls hr ha.sd hb.sd)⟩
theorem jx2 {t:TE} {w:DT} (h:DE X e t w) (he:∀whole,isTrue e X.env whole=(do let v ←whole;standAt e.pos;holding [v] (truthy v)):=by intro _;rfl):DC X e (jp7 t) (cT w):=⟨jy9 h.pe he,jkh h.sd⟩
noncomputable def jlf (x:Wv) (A B:Prop):Prop:=match x with
 |.d (.bool true)=>A
 |.d (.bool false)=>B
 |_=>False
theorem jx5 (b:Bool) (A B:Prop):jlf (.d (.bool b)) A B=if b=true then A else B:=by cases b<;>simp[jlf]
variable {tA tB':TT} {cA cB:DTT} {rest:List Expr}
noncomputable def cAnd (u v:DTT):DTT:=fun δ n Q=>u δ n fun b n1=>if b=true then v δ n1 Q else Q false n1
noncomputable def cOr (u v:DTT):DTT:=fun δ n Q=>u δ n fun b n1=>if b=true then Q true n1 else v δ n1 Q
noncomputable def cNot (u:DTT):DTT:=fun δ n Q=>u δ n fun b n1=>Q (!b) n1
theorem cw_and1 (h:DC X a tA cA):DCW X (.BoolOp .And [a] pos) tA cA:=⟨jrd h.pt,h.sd⟩
theorem cw_or1 (h:DC X a tA cA):DCW X (.BoolOp .Or [a] pos) tA cA:=⟨jy8 h.pt,h.sd⟩
theorem cw_and (h:DC X a tA cA) (h2:DCW X (.BoolOp .And (b::rest) pos) tB' cB):DCW X (.BoolOp .And (a::b::rest) pos) (tAnd tA tB') (cAnd cA cB):=⟨jvp h.pt h2.pw,fun C H B σ δ n Q Q' R q k =>
 h.sd C H B σ δ n _ _ R q fun b H1 n1 R1 k1 q1=>by
  cases b with
  |true =>
   rw[if_pos rfl]at q1 ⊢
   exact h2.sd C H1 B σ δ n1 _ _ R1 q1 fun b H2 n2 R2 k2 q2=>k b H2 n2 R2 (k1.trans k2) q2
  |false =>
   rw[if_neg Bool.false_ne_true]at q1 ⊢
   exact k false H1 n1 R1 k1 q1⟩
theorem cw_or (h:DC X a tA cA) (h2:DCW X (.BoolOp .Or (b::rest) pos) tB' cB):DCW X (.BoolOp .Or (a::b::rest) pos) (tOr tA tB') (cOr cA cB):=⟨j1f h.pt h2.pw,fun C H B σ δ n Q Q' R q k =>
 h.sd C H B σ δ n _ _ R q fun b H1 n1 R1 k1 q1=>by
  cases b with
  |true =>
   rw[if_pos rfl]at q1 ⊢
   exact k true H1 n1 R1 k1 q1
  |false =>
   rw[if_neg Bool.false_ne_true]at q1 ⊢
   exact h2.sd C H1 B σ δ n1 _ _ R1 q1 fun b H2 n2 R2 k2 q2=>k b H2 n2 R2 (k1.trans k2) q2⟩
theorem DCW.cc (h:DCW X a tA cA):DC X a tA cA:=⟨h.pw.pt,h.sd⟩
theorem j0w (h:DC X a tA cA):DC X (.UnaryOp .Not a pos) (tNot tA) (cNot cA):=⟨jza h.pt,fun C H B σ δ n Q Q' R q k=>h.sd C H B σ δ n _ _ R q fun b H1 n1 R1 k1 q1=>k (!b) H1 n1 R1 k1 q1⟩
noncomputable def wAnd (u v:DT):DT:=fun δ n Q=>u δ n fun x n1=>jlf x (v δ n1 Q) (Q (.d (.bool false)) n1)
noncomputable def wOr (u v:DT):DT:=fun δ n Q=>u δ n fun x n1=>jlf x (Q (.d (.bool true)) n1) (v δ n1 Q)
noncomputable def wNot (u:DT):DT:=fun δ n Q=>u δ n fun x n1=>match x with
 |.d (.bool b)=>Q (.d (.bool !b)) n1
 |_=>False
theorem jpn {op} (h:DE X a ta wa):DE X (.BoolOp op [a] pos) ta wa:=⟨jzh h.pe,h.sd⟩
theorem jxy (h:DE X a ta wa) (h2:DE X (.BoolOp .And (b::rest) pos) tb wb):DE X (.BoolOp .And (a::b::rest) pos) (jyk ta tb) (wAnd wa wb):=⟨jzl h.pe h2.pe,fun C H B σ δ n Q Q' R q k =>
 h.sd C H B σ δ n _ _ R q fun v x H1 n1 R1 k1 r1 q1=>by
  unfold jlf at q1
  split at q1
  ·cases(show RdX H1 B v (.bool true)from r1)
   refine⟨true,rfl,?_⟩
   rw[if_pos rfl]
   exact h2.sd C H1 B σ δ n1 _ _ R1 q1 fun v x H2 n2 R2 k2 r2 q2=>k v x H2 n2 R2 (k1.trans k2) r2 q2
  ·cases(show RdX H1 B v (.bool false)from r1)
   refine⟨false,rfl,?_⟩
   rw[if_neg Bool.false_ne_true]
   exact k _ _ H1 n1 R1 k1 (wd (.bl false)) q1
  ·exact q1.elim⟩
theorem d_or (h:DE X a ta wa) (h2:DE X (.BoolOp .Or (b::rest) pos) tb wb):DE X (.BoolOp .Or (a::b::rest) pos) (tOrV ta tb) (wOr wa wb):=⟨j1h h.pe h2.pe,fun C H B σ δ n Q Q' R q k =>
 h.sd C H B σ δ n _ _ R q fun v x H1 n1 R1 k1 r1 q1=>by
  unfold jlf at q1
  split at q1
  ·cases(show RdX H1 B v (.bool true)from r1)
   refine⟨true,rfl,?_⟩
   rw[if_pos rfl]
   exact k _ _ H1 n1 R1 k1 (wd (.bl true)) q1
  ·cases(show RdX H1 B v (.bool false)from r1)
   refine⟨false,rfl,?_⟩
   rw[if_neg Bool.false_ne_true]
   exact h2.sd C H1 B σ δ n1 _ _ R1 q1 fun v x H2 n2 R2 k2 r2 q2=>k v x H2 n2 R2 (k1.trans k2) r2 q2
  ·exact q1.elim⟩
theorem j1x (h:DE X a ta wa):DE X (.UnaryOp .Not a pos) (jyg ta) (wNot wa):=⟨jzi h.pe,fun C H B σ δ n Q Q' R q k =>
 h.sd C H B σ δ n _ _ R q fun v x H1 n1 R1 k1 r1 q1=>by
  split at q1
  ·rename_i b
   cases(show RdX H1 B v (.bool b)from r1)
   exact⟨b,rfl,k _ _ H1 n1 R1 k1 (wd (.bl _)) q1⟩
  ·exact q1.elim⟩
noncomputable def wIf (u:DTT) (v w:DT):DT:=fun δ n Q=>u δ n fun b n1=>if b=true then v δ n1 Q else w δ n1 Q
theorem jfo (h:DC X c tA cA) (h1:DE X a ta wa) (h2:DE X b tb wb):DE X (.IfExp c a b pos) (tIf tA ta tb) (wIf cA wa wb):=⟨jud h.pt h1.pe h2.pe,fun C H B σ δ n Q Q' R q k =>
 h.sd C H B σ δ n _ _ R q fun b H1 n1 R1 k1 q1=>by
  cases b with
  |true =>
   rw[if_pos rfl]at q1 ⊢
   exact h1.sd C H1 B σ δ n1 _ _ R1 q1 fun v x H2 n2 R2 k2 r2 q2=>k v x H2 n2 R2 (k1.trans k2) r2 q2
  |false =>
   rw[if_neg Bool.false_ne_true]at q1 ⊢
   exact h2.sd C H1 B σ δ n1 _ _ R1 q1 fun v x H2 n2 R2 k2 r2 q2=>k v x H2 n2 R2 (k1.trans k2) r2 q2⟩
variable {es:List Expr} {tR:TA} {wR:DTA}
noncomputable def aNil:DTA:=fun _ n Q=>Q [] n
noncomputable def jab (w:DT) (r:DTA):DTA:=fun δ n Q=>w δ n fun x n1=>r δ n1 fun xs n2=>Q (x::xs) n2
theorem jae:DA X [] tNil aNil:=⟨jb6,fun C H B σ δ n Q Q' R q k=>k [] [] H n R (Kp.refl _ _) .nil q⟩
theorem jaa (h:DE X e te we) (hr:DA X es tR wR) (hs:starEach (e::es) X.env=(false,eval e X.env)::starEach es X.env:=by rfl):DA X (e::es) (jds te tR) (jab we wR):=⟨ja4 h.pe hr.pa hs,fun C H B σ δ n Q Q' R q k =>
 h.sd C H B σ δ n _ _ R q fun v x H1 n1 R1 k1 r1 q1=>hr.sd C H1 B σ δ n1 _ _ R1 q1 fun vs xs H2 n2 R2 k2 r2 q2=>k (v::vs) (x::xs) H2 n2 R2 (k1.trans k2) (.cons (r1.kp k2 R1.bt) r2) q2⟩
noncomputable def jfv:List Wv→Option (List PyData)
 |[]=>some []
 |.d x::r=>(jfv r).map (x::·)
 |_::_=>none
theorem ARel.plain {H:Hp} {B:Addr→Prop} {t:Addr}:∀{vs:List V} {xs:List Wv} {ds:List PyData},ARel H B t vs xs→jfv xs=some ds→RdXs H B vs ds
 |_,_,_,.nil,h=>by
  cases h
  exact .nil
 |_,_,ds,.cons (x:=x) (xs:=xs) a b,h=>by
  cases x with
  |d x =>
   have h':(jfv xs).map (x::·)=some ds:=h
   cases e:jfv xs with
   |none=>rw[e]at h';cases h'
   |some es =>
    rw[e]at h'
    cases h'
    exact .cons a (ARel.plain b e)
  |tp=>cases h
  |dk _=>cases h
  |ln _=>cases h
theorem RdXs.fresh {H:Hp} {B:Addr→Prop} {vs:List V} {ds:List PyData} {p:Addr} {o:HO} (h:RdXs H B vs ds) (hp:H p=none):RdXs (upd H p o) (fun b=>B b∨b=p) vs ds :=
 h.move fun b o' e n=>⟨by rw[jal (jak e hp)];exact e,fun z=>z.elim n fun q=>jak e hp q⟩
noncomputable def wTup (w:DTA):DT:=fun δ n Q=>w δ n fun xs n1=>match jfv xs with
 |some ds=>ds.length≤1000∧Q (.d (.tuple ds)) n1
 |none=>False
theorem ja3 {x1} (h:DA X es tR wR):DE X (.Tuple es x1 pos) (tTup tR) (wTup wR):=⟨jzf h.pa,fun C H B σ δ n Q Q' R q k =>
 h.sd C H B σ δ n _ _ R q fun vs xs H1 n1 R1 k1 r1 q1=>by
  split at q1
  ·rename_i ds e
   have r:=r1.plain e
   have hl:vs.length≤sizeLine:=by rw[r.len];exact jtw q1.1
   refine⟨hl,fun p hp=>k _ _ _ n1 (R1.new hp) (k1.trans (Kp.new hp)) (wd (show RdX _ B (.ref p) (.tuple ds)from ?_)) q1.2⟩
   exact .tup jar (R1.nb hp) hl ((r.fresh hp).less fun b z=>.inl z)
  ·exact q1.elim⟩
noncomputable def fLst (w:DTA):DTF:=fun δ n Q=>w δ n fun xs n1=>match jfv xs with
 |some ds=>ds.length≤1000∧Q ds n1
 |none=>False
theorem jb0 (h:DA X es tR wR):DF X (.List es pos) (tLst tR) (fLst wR):=⟨jrm h.pa,fun C H B σ δ n Q Q' R q k =>
 h.sd C H B σ δ n _ _ R q fun vs xs H1 n1 R1 k1 r1 q1=>by
  split at q1
  ·rename_i ds e
   have r:=r1.plain e
   have hl:vs.length≤sizeLine:=by rw[r.len];exact jtw q1.1
   have hn:∀p,H1 p=none→H p=none:=fun p hp=>by
    cases q:H p with
    |none=>rfl
    |some o =>
     by_cases z:p=C.t
     ·subst z
      obtain⟨_,_,h,_⟩:=R1.tp.ob
      rw[h]at hp
      cases hp
     ·rw[k1 p o q z]at hp;cases hp
   exact⟨hl,fun p hp=>k p vs ds _ n1 (R1.new hp) (k1.trans (Kp.new hp)) (hn p hp) jar hl (r.fresh hp) q1.2⟩
  ·exact q1.elim⟩
noncomputable def wOf (w:DTF):DT:=fun δ n Q=>w δ n fun ds n1=>Q (.d (.list ds)) n1
theorem jyo {t:TE} {w:DTF} (h:SndF t w):Snd t (wOf w):=fun C H B σ δ n Q Q' R q k =>
 h C H B σ δ n _ _ R q fun a xs ds H' n' R' k' h0 h1 h2 h3 q'=>k _ _ H' n' R' k' (wd (show RdX H' B (.ref a) (.list ds)from .lst h1 (R.nb h0) h2 (h3.less fun b z=>.inl z))) q'
theorem DF.d {w:DTF} {t:TE} (h:DF X e t w):DE X e t (wOf w):=⟨h.pe,jyo h.sd⟩
theorem Rel.was {C:Ctx} {H H1:Hp} {B:Addr→Prop} {σ:St} {δ:Sl} {n1:Int} (R1:Rel C H1 B σ δ n1) (k1:Kp C.t H H1) {p:Addr} (hp:H1 p=none):H p=none:=by
 cases q:H p with
 |none=>rfl
 |some o =>
  by_cases z:p=C.t
  ·subst z
   obtain⟨_,_,h,_⟩:=R1.tp.ob
   rw[h]at hp
   cases hp
  ·rw[k1 p o q z]at hp;cases hp
noncomputable abbrev DSp:=List Wv→Int→DQ→Prop
noncomputable def spOf (S:DSp):Sp:=fun vs H Q _=>∃(t:Addr) (l:TL) (ns:List Int) (B:Addr→Prop) (ws:List Wv) (n:Int) (Q0:DQ),Tp H t l ns n∧B t∧(∀b,B b→H b≠none)∧ARel H B t vs ws∧S ws n Q0 ∧
 ∀w n',Q0 w n'→∀v H',Tp H' t l ns n'→Kp t H H'→WRel H' B t v w→Q v H'
section
variable {X:Cx} {e:Expr} {es:List Expr} {pos p:Pos} {tR:TA} {wR:DTA}
noncomputable def jaq (S:DSp) (w:DTA):DT:=fun δ n Q=>w δ n fun xs n1=>S xs n1 Q
theorem jtu {S:DSp} {t:TA} {w:DTA} (h:SndA t w):Snd (jqa (spOf S) [] E0 t) (jaq S w):=fun C H B σ δ n Q Q' R q k =>
 h C H B σ δ n _ _ R q fun vs xs H1 n1 R1 k1 r1 q1=>by
  refine⟨C.t,C.l,C.ns,B,xs,n1,Q,R1.tp,R1.bt,R1.ba,by rw[List.append_nil];exact r1,q1,fun w n' q2 v H' T' k' r'=>?_⟩
  exact k v w H' n' (R1.step T' k') (k1.trans k') r' q2
theorem j0u {k:Nat} {f:Addr} {fd:FuncData} {ps:List Str} {S:DSp} {x:Str} (F:FnOk X.prog X.w X.K X.mg X.base CX0 k f fd ps (spOf S)) (hr:Room k X.A) (hg:Gl X x) (hm:X.mg x=some (.ref f)) (hk:PySem.W.keepIn X.K (.ref f)=true) (hb:Binds X.K fd ps [])
  (ha:DA X (e::es) tR wR) (hdb:(x==("__debug__":Str))=false:=by decide) (he:starEach (e::es) X.env=(false,eval e X.env)::starEach es X.env:=by rfl) (hpl:(backTo pos (starEach es X.env)).any (·.1)=false:=by rfl) :
  DE X (.Call (.Name x p) (e::es) [] pos) (jqa (spOf S) [] E0 tR) (jaq S wR):=⟨jrn F hr hg hm hk hb .nil jzn ha.pa hdb he hpl,jtu ha.sd⟩
noncomputable def SndB (r:List V→Hp→VK→Prop) (g:List Wv→Int→DQ→Prop):Prop:=∀(C:Ctx) (H:Hp) (B:Addr→Prop) (σ:St) (δ:Sl) (n:Int) (vs:List V) (xs:List Wv) (Q:DQ) (Q':VK),Rel C H B σ δ n→ARel H B C.t vs xs→g xs n Q →
 (∀v x H' n',Rel C H' B σ δ n'→Kp C.t H H'→WRel H' B C.t v x→Q x n'→Q' v H')→r vs H Q'
noncomputable def wB (g:List Wv→Int→DQ→Prop) (w:DTA):DT:=fun δ n Q=>w δ n fun xs n1=>g xs n1 Q
theorem jyq {r:List V→Hp→VK→Prop} {g:List Wv→Int→DQ→Prop} {t:TA} {w:DTA} (hr:SndB r g) (h:SndA t w):Snd (tCB r t) (wB g w):=fun C H B σ δ n Q Q' R q k =>
 h C H B σ δ n _ _ R q fun vs xs H1 n1 R1 k1 r1 q1=>hr C H1 B σ δ n1 vs xs Q Q' R1 r1 q1 fun v x H2 n2 R2 k2 r2 q2=>k v x H2 n2 R2 (k1.trans k2) r2 q2
theorem ja5 {id:String} {x:Str} {r:List V→Hp→VK→Prop} {g:List Wv→Int→DQ→Prop} (hc:CallR X (.builtin id) r) (hr:SndB r g) (hg:Gl X x) (hm:X.mg x=none) (hv:bootBuiltins x=some (.builtin id)) (ha:DA X (e::es) tR wR) (hn:x≠"__name__":=by decide) (hdb:(x==("__debug__":Str))=false:=by decide)
  (he:starEach (e::es) X.env=(false,eval e X.env)::starEach es X.env:=by rfl) (hpl:(backTo pos (starEach es X.env)).any (·.1)=false:=by rfl):DE X (.Call (.Name x p) (e::es) [] pos) (tCB r tR) (wB g wR):=⟨jdh hc hg hm hv ha.pa hn hdb he hpl,jyq hr ha.sd⟩
theorem jbj {T:String} {x:Str} {r:List V→Hp→VK→Prop} {g:List Wv→Int→DQ→Prop} (hc:CallR X (.type T) r) (hr:SndB r g) (hg:Gl X x) (hm:X.mg x=none) (hv:bootBuiltins x=some (.type T)) (ha:DA X (e::es) tR wR) (hn:x≠"__name__":=by decide) (hdb:(x==("__debug__":Str))=false:=by decide)
  (he:starEach (e::es) X.env=(false,eval e X.env)::starEach es X.env:=by rfl) (hpl:(backTo pos (starEach es X.env)).any (·.1)=false:=by rfl):DE X (.Call (.Name x p) (e::es) [] pos) (tCB r tR) (wB g wR):=⟨jeg hc hg hm hv ha.pa hn hdb he hpl,jyq hr ha.sd⟩
end
structure DEnds where
 nx:Sl→Int→Prop
 rt:DQ
 bk:Sl→Int→Prop:=fun _ _=>False
 ct:Sl→Int→Prop:=fun _ _=>False
 rn:List PyData→Int→Prop:=fun _ _=>False
noncomputable abbrev DST:=Sl→Int→DEnds→Prop
structure EndsOk (C:Ctx) (K:DEnds) (D:Ends):Prop where
 nx:∀H B σ δ n,Rel C H B σ δ n→K.nx δ n→D.nx σ H
 rt:∀H B σ δ n v w,Rel C H B σ δ n→WRel H B C.t v w→K.rt w n→D.rt v H
 bk:∀H B σ δ n,Rel C H B σ δ n→K.bk δ n→D.bk σ H
 ct:∀H B σ δ n,Rel C H B σ δ n→K.ct δ n→D.ct σ H
 rn:∀H B σ δ n a xs ds,Rel C H B σ δ n→C.H0 a=none→H a=some (.lst xs)→xs.length≤sizeLine→RdXs H (fun b=>B b∨b=a) xs ds→K.rn ds n→D.rt (.ref a) H
noncomputable def SndS (T:TS) (W:DST):Prop:=∀(C:Ctx) (H:Hp) (B:Addr→Prop) (σ:St) (δ:Sl) (n:Int) (K:DEnds) (D:Ends),Rel C H B σ δ n→W δ n K→EndsOk C K D→T D σ H
structure DS (X:Cx) (st:Stmt) (T:TS) (W:DST):Prop where
 ps:PS X st T
 sd:SndS T W
structure DSs (X:Cx) (st:List Stmt) (T:TS) (W:DST):Prop where
 ps:PSs X st T
 sd:SndS T W
section
variable {X:Cx} {st:Stmt} {rest:List Stmt} {T U:TS} {W V':DST} {e:Expr} {te:TE} {we:DT} {pos:Pos}
noncomputable def jaw:DST:=fun δ n K=>K.nx δ n
noncomputable def sSeq (W V:DST):DST:=fun δ n K=>W δ n {K with nx:=fun δ n=>V δ n K}
theorem jbx:DSs X [] jyi jaw:=⟨jkn,fun C H B σ δ n K D R h E=>E.nx H B σ δ n R h⟩
theorem jah (h:DS X st T W) (h2:DSs X rest U V'):DSs X (st::rest) (tSeq T U) (sSeq W V'):=⟨jb2 h.ps h2.ps,fun C H B σ δ n K D R q E =>
 h.sd C H B σ δ n _ _ R q ⟨fun H B σ δ n R q=>h2.sd C H B σ δ n K D R q E,E.rt,E.bk,E.ct,E.rn⟩⟩
theorem jas (h:DS X st T W):DSs X [st] T W:=⟨jf8 h.ps,h.sd⟩
noncomputable def sRet (w:DT):DST:=fun δ n K=>w δ n K.rt
theorem ja8 (h:DE X e te we):DS X (.Return (some e) pos) (tRet te) (sRet we):=⟨jl2 h.pe,fun C H B σ δ n K D R q E =>
 h.sd C H B σ δ n _ _ R q fun v x H' n' R' _ r' q'=>E.rt H' B σ δ n' v x R' r' q'⟩
noncomputable def sIf (c:DTT) (W V:DST):DST:=fun δ n K=>c δ n fun b n1=>if b=true then W δ n1 K else V δ n1 K
theorem s_if {c:Expr} {a b:List Stmt} {tc:TT} {cc:DTT} (hc:DC X c tc cc) (ha:DSs X a T W) (hb:DSs X b U V'):DS X (.If c a b pos) (tIfS tc T U) (sIf cc W V'):=⟨jt8 hc.pt ha.ps hb.ps,fun C H B σ δ n K D R q E =>
 hc.sd C H B σ δ n _ _ R q fun b H1 n1 R1 _ q1=>by
  cases b with
  |true =>
   rw[if_pos rfl]at q1 ⊢
   exact ha.sd C H1 B σ δ n1 K D R1 q1 E
  |false =>
   rw[if_neg Bool.false_ne_true]at q1 ⊢
   exact hb.sd C H1 B σ δ n1 K D R1 q1 E⟩
noncomputable def sSet (i:Nat) (w:DT):DST:=fun δ n K=>w δ n fun x n1=>match x with
 |.d d=>K.nx (δ.set i (some (.w (.d d)))) n1
 |.tp=>K.nx (δ.set i (some (.w .tp))) n1
 |.dk _=>False
 |.ln _=>False
theorem jb8 {i:Nat} {x:Str} {pos':Pos} (hN:X.N.Nodup) (hi:X.N[i]?=some x) (hx:Loc X.env.scope x) (he:DE X e te we) (hs:swapsWith e (some (.Name x pos')) pos.line X.env=pure false:=by rfl) (hf:X.fn x=true∨X.env.scope.names.lookup x=some .local:=by first | exact .inl rfl | exact .inr rfl | assumption) :
  DS X (.Assign [.Name x pos'] e pos) (tAsg te (jhb i)) (sSet i we):=⟨jfu hN hi hx he.pe hs hf,fun C H B σ δ n K D R q E =>
 he.sd C H B σ δ n _ _ R q fun v x H1 n1 R1 _ r1 q1=>by
  cases x with
  |d d=>exact E.nx _ _ _ _ _ (R1.set r1 rfl) q1
  |tp=>exact E.nx _ _ _ _ _ (R1.set r1 rfl) q1
  |dk _=>exact q1.elim
  |ln _=>exact q1.elim⟩
noncomputable def sOwn (i:Nat) (w:DTF):DST:=fun δ n K=>w δ n fun ds n1=>K.nx (δ.set i (some (.own ds))) n1
theorem Rel.h0 {C:Ctx} {H:Hp} {B:Addr→Prop} {σ:St} {δ:Sl} {n:Int} {a:Addr} (R:Rel C H B σ δ n) (h:H a=none):C.H0 a=none:=R.was R.kp h
theorem jf6 {i:Nat} {x:Str} {pos':Pos} {w:DTF} (hN:X.N.Nodup) (hi:X.N[i]?=some x) (hx:Loc X.env.scope x) (he:DF X e te w) (hs:swapsWith e (some (.Name x pos')) pos.line X.env=pure false:=by rfl) (hf:X.fn x=true∨X.env.scope.names.lookup x=some .local:=by first | exact .inl rfl | exact .inr rfl | assumption) :
  DS X (.Assign [.Name x pos'] e pos) (tAsg te (jhb i)) (sOwn i w):=⟨jfu hN hi hx he.pe hs hf,fun C H B σ δ n K D R q E =>
 he.sd C H B σ δ n _ _ R q fun a xs ds H1 n1 R1 k1 h0 h1 h2 h3 q1=>by
  refine E.nx _ _ _ _ _ (R.own R1 k1 h0 (by rw[h1];exact fun z=>nomatch z) rfl ?_) q1
  exact⟨a,xs,rfl,h1,.inr rfl,R.h0 h0,h2,h3⟩⟩
noncomputable def sFrz (i:Nat) (W:DST):DST:=fun δ n K=>match δ[i]? with
 |some (some (.own ds))=>W (δ.set i (some (.w (.d (.list ds))))) n K
 |_=>W δ n K
theorem jgz (i:Nat) {sts:List Stmt} (h:DSs X sts T W):DSs X sts T (sFrz i W):=⟨h.ps,fun C H B σ δ n K D R q E=>by
 unfold sFrz at q
 split at q
 ·rename_i ds e
  obtain⟨B',R'⟩:=R.frz e
  exact h.sd C H B' σ _ n K D R' q E
 ·exact h.sd C H B σ δ n K D R q E⟩
noncomputable def sApp (i:Nat) (w:DT):DST:=fun δ n K=>match δ[i]? with
 |some (some (.own ds))=>w δ n fun x n1=>match x with
  |.d d=>ds.length < 1000000∧K.nx (δ.set i (some (.own (ds++[d])))) n1
  |_=>False
 |_=>False
theorem jr4 {n:Nat} (h:n < 1000000):n < sizeLine:=Nat.lt_trans h (by decide)
theorem je6 {i:Nat} {x:Str} {xp ap cp:Pos} (hN:X.N[i]?=some x) (he:DE X e te we) (hv:Vis X.env.scope x:=by first | exact Or.inl rfl | exact Or.inr (Or.inl rfl) | exact Or.inr (Or.inr rfl)) (hd:(x==("__debug__":Str))=false:=by decide)
  (hcd:(x==("__classdict__":Str))=false:=by decide)
  (hbase:attributeBase (.Name x xp) "append" X.env (eval (.Name x xp) X.env)=eval (.Name x xp) X.env:=by rfl)
  (hfew:((backTo cp (starEach [e] X.env)).all (fun x=>!x.1)&&(backToKw cp (keywordEach [] X.env)).all (fun x=>x.1.isSome)
   && decide ([e].length+([]:List Keyword).length+(if ([]:List Keyword).isEmpty then 0 else 1) < 30))=true:=by rfl)
  (hline:(ap.endLine==cp.line)=true:=by rfl) (hs:starEach [e] X.env=[(false,eval e X.env)]:=by rfl) (hplain:(backTo cp (starEach [] X.env)).any (·.1)=false:=by rfl)
  (hsw:swapsWith (.Call (.Attribute (.Name x xp) "append" ap) [e] [] cp) none pos.line X.env=pure false:=by rfl) :
  DS X (.Expr (.Call (.Attribute (.Name x xp) "append" ap) [e] [] cp) pos) (jwf (tBM X.K "list" jrc (tVar i) (jds te tNil))) (sApp i we) :=
 ⟨jrg (jzk PySem.F.plainAttrs_list PySem.F.slot_list_append PySem.F.type_list_append jhs (je9 hN hv hd hcd) (ja4 he.pe jb6 hs) hbase hfew hline hs hplain) hsw,fun C H B σ δ n K D R q E=>by
  unfold sApp at q
  split at q
  ·rename_i ds ei
   obtain⟨v,hv,a,xs,rfl,e2,e3,e4,e5,e6⟩:=R.sl i _ ei
   refine⟨_,hv,.inl ⟨rfl,_,SqL.of e2⟩,he.sd C H B σ δ n _ _ R q fun u y H1 n1 R1 k1 r1 q1=>?_⟩
   cases y with
   |d d =>
    have hat:a≠C.t:=fun z=>R.t0 (z▸e4)
    have e2':=k1 _ _ e2 hat
    refine⟨a,xs,u,rfl,rfl,e2',jr4 (by rw[e6.len];exact q1.1),?_⟩
    refine E.nx _ _ _ _ _ (R1.mutOwn ei rfl hv e3 e4 ?_ rfl) q1.2
    refine⟨a,xs++[u],rfl,jar,e3,e4,?_,?_⟩
    ·rw[List.length_append,e6.len]
     exact jr4 q1.1
    ·refine RdXs.keep (fun b o e n=>?_) ((e6.kp k1 R.bt).append (.cons r1 .nil))
     rw[jal fun(z:b=a)=>n (z▸e3)]
     exact e
   |tp=>exact q1.elim
   |dk _=>exact q1.elim
   |ln _=>exact q1.elim
  ·exact q.elim⟩
end
noncomputable def jbk (N:List Str) (ws:List Wv):Sl:=ws.map (fun x=>some (.w x))++List.replicate (N.length - ws.length) none
theorem ARel.get {H:Hp} {B:Addr→Prop} {t:Addr}:∀{vs:List V} {xs:List Wv} {i:Nat} {x:Wv},ARel H B t vs xs→xs[i]?=some x→∃v,vs[i]?=some v∧WRel H B t v x
 |_,_,_,_,.nil,e=>by simp at e
 |_,_,0,_,.cons h _,e=>by
  simp at e
  subst e
  exact⟨_,rfl,h⟩
 |_,_,i+1,x,.cons _ r,e=>by
  obtain⟨v,h1,h2⟩:=ARel.get (i:=i) (x:=x) r (by simpa using e)
  exact⟨v,by simpa using h1,h2⟩
theorem jq4 {H:Hp} {t:Addr} {l:TL} {ns:List Int} {B:Addr→Prop} {vs:List V} {ws:List Wv} {n:Int} {N:List Str} (T:Tp H t l ns n) (bt:B t) (ba:∀b,B b→H b≠none) (r:ARel H B t vs ws):Rel ⟨t,l,ns,H,B,fun _=>none⟩ H B (L2.start N vs) (jbk N ws) n where
 tp:=T
 kp:=Kp.refl _ _
 t0:=by
  obtain⟨_,_,h,_⟩:=T.ob
  show H t≠none
  rw[h]
  exact fun z=>nomatch z
 l0:=by
  show H l.s≠none
  rw[T.ls]
  exact fun z=>nomatch z
 g0:=fun e=>by
  show H l.g≠none
  rw[T.ag e]
  exact fun z=>nomatch z
 fz:=fun b o e=>nomatch e
 bt:=bt
 b0:=fun _ z=>z
 ba:=ba
 a0:=ba
 sl:=fun i x e=>by
  have hl:=r.len
  unfold jbk at e
  rw[List.getElem?_append]at e
  split at e
  ·rename_i hi
   rw[List.length_map]at hi
   rw[List.getElem?_map]at e
   cases q:ws[i]? with
   |none=>rw[q]at e;cases e
   |some y =>
    rw[q]at e
    cases e
    obtain⟨v,h1,h2⟩:=r.get q
    refine⟨v,?_,h2,fun z=>?_⟩
    ·unfold L2.start
     rw[List.getElem?_append_left (by rw[List.length_map,hl];exact hi),List.getElem?_map,h1]
     rfl
    ·cases y with
     |d _=>cases z
     |tp=>cases z
     |dk _ =>
      obtain⟨a,l',f1,f2,_⟩:=h2
      exact⟨a,f1,by show H a≠none;rw[f2];exact fun z=>nomatch z⟩
     |ln _ =>
      obtain⟨a,l',f1,f2,_⟩:=h2
      exact⟨a,f1,by show H a≠none;rw[f2];exact fun z=>nomatch z⟩
  ·rw[List.getElem?_replicate]at e
   split at e
   ·cases e
   ·cases e
 ow:=fun i j x y v e1 e2 o1 o2 _ _=>by
  unfold jbk at e1
  rw[List.getElem?_append]at e1
  split at e1
  ·rw[List.getElem?_map]at e1
   cases q:ws[i]? with
   |none=>rw[q]at e1;cases e1
   |some y =>
    rw[q]at e1
    cases e1
    cases o1
  ·rw[List.getElem?_replicate]at e1
   split at e1
   ·cases e1
   ·cases e1
 len:=by
  unfold L2.start jbk
  rw[List.length_append,List.length_append,List.length_map,List.length_map,List.length_replicate,List.length_replicate,r.len]
section
variable {P:Program} {w:World} {K:PySem.W.Frag} {mg:Str→Option Value} {base:Heap}
theorem Fun.okD {x qual:Str} {st:Stmt} {f:Addr} {fd:FuncData} {N ps:List Str} {k:Nat} {S:DSp} (F:Fun K x qual st f fd) (Sc:FnScope N ps (jao st)) (len:∀ws n Q,S ws n Q→ws.length=ps.length)
  (hbody:∀(cdv:Value) (A:Around) (outer:List Env) (s:Shared) (H:Hp) (E:XK),Room k (A.deeper (PyProof.Rows.envOfC qual (jao st) s.heap.objs.size f cdv)) →
   ∃T W,DSs (cxOf CX0 P w K mg base N qual (jao st) f cdv A outer s H E).nox (jd7 st) T W∧∀ws n Q,S ws n Q→W (jbk N ws) n {nx:=fun _ n=>Q (.d .none) n,rt:=Q}):FnOk P w K mg base CX0 (k+1) f fd ps (spOf S):=by
 refine F.ok Sc (fun vs H Q E h=>?_) (fun cdv A outer s H vs Q E hr h=>?_)
 ·obtain⟨t,l,ns,B,ws,n,Q0,_,_,_,r,q,_⟩:=h
  rw[r.len]
  exact len ws n Q0 q
 ·obtain⟨t,l,ns,B,ws,n,Q0,T,bt,ba,r,q,kk⟩:=h
  obtain⟨T',W,d,hw⟩:=hbody cdv A outer s H E hr
  refine⟨T',d.ps,d.sd ⟨t,l,ns,H,B,fun _=>none⟩ H B _ _ n _ _ (jq4 T bt ba r) (hw ws n Q0 q) ⟨?_,?_,?_,?_,fun _ _ _ _ _ _ _ _ _ _ _ _ _ z=>z.elim⟩⟩
  ·exact fun H' B' σ δ n' R' q'=>kk _ _ q' .non H' R'.tp R'.kp (show RdX H' B .non .none from .non)
  ·exact fun H' B' σ δ n' v x R' r' q'=>kk _ _ q' v H' R'.tp R'.kp (r'.less R'.b0)
  ·exact fun _ _ _ _ _ _ z=>z.elim
  ·exact fun _ _ _ _ _ _ z=>z.elim
end
section
variable {X:Cx} {a b c e:Expr} {ta tb tc te:TE} {wa wb wc we:DT} {pos p:Pos}
noncomputable def gI (Cd:Int→Int→Prop) (f:Int→Int→PyData):Wv→Wv→Int→DQ→Prop:=fun x y n Q=>match x,y with
 |.d (.int i),.d (.int j)=>Cd i j∧Q (.d (f i j)) n
 |_,_=>False
noncomputable def gI0 (f:Int→Int→PyData):Wv→Wv→Int→DQ→Prop:=fun x y n Q=>match x,y with
 |.d (.int i),.d (.int j)=>Q (.d (f i j)) n
 |_,_=>False
theorem jqq {g:Int→Int→V} {f:Int→Int→PyData} (h:∀i j H B,RdX H B (g i j) (f i j)):SndO (rI0 g) (gI0 f):=fun C H B σ δ n x y p q Q Q' R rx ry h1 k=>by
 unfold gI0 at h1
 split at h1
 ·rename_i i j
  cases(show RdX H B x (.int i)from rx)
  cases(show RdX H B y (.int j)from ry)
  exact⟨i,j,rfl,rfl,k _ _ H n R (Kp.refl _ _) (wd (h i j H B)) h1⟩
 ·exact h1.elim
theorem jpm (ha:DE X a ta wa) (hb:DE X b tb wb):DE X (.BinOp a .Sub b pos) (tOp (rI0 fun i j=>.int (i - j)) ta tb) (w2 wa wb (gI0 fun i j=>.int (i - j))):=d_op jzr (jqq fun _ _ _ _=>.int _) ha hb
noncomputable def gAdd:Wv→Wv→Int→DQ→Prop:=fun x y n Q=>match x,y with
 |.d (.int i),.d (.int j)=>Q (.d (.int (i+j))) n
 |.d (.str i),.d (.str j)=>i.length+j.length≤sizeLine∧Q (.d (.str (i++j))) n
 |.d (.tuple i),.d (.tuple j)=>(i≠[]∨j≠[])∧i.length+j.length≤sizeLine∧Q (.d (.tuple (i++j))) n
 |.d (.list i),.d (.list j)=>i.length+j.length≤sizeLine∧Q (.d (.list (i++j))) n
 |_,_=>False
noncomputable def gCmp (f:Int→Int→Bool) (h:List Nat→List Nat→Bool):Wv→Wv→Int→DQ→Prop:=fun x y n Q=>match x,y with
 |.d (.int i),.d (.int j)=>Q (.d (.bool (f i j))) n
 |.d (.str i),.d (.str j)=>Q (.d (.bool (h i.cps.toList j.cps.toList))) n
 |_,_=>False
theorem jnb {f:Int→Int→Bool} {h:List Nat→List Nat→Bool}:SndO (fun x y H Q=>(rI0 fun i j=>.bl (f i j)) x y H Q∨∃i j,x=.str i∧y=.str j∧Q (.bl (h i.cps.toList j.cps.toList)) H) (gCmp f h):=fun C H B σ δ n x y p q Q Q' R rx ry h1 k=>by
 unfold gCmp at h1
 split at h1
 ·rename_i i j
  cases(show RdX H B x (.int i)from rx)
  cases(show RdX H B y (.int j)from ry)
  exact .inl ⟨i,j,rfl,rfl,k _ _ H n R (Kp.refl _ _) (wd (.bl _)) h1⟩
 ·rename_i i j
  cases(show RdX H B x (.str i)from rx)
  cases(show RdX H B y (.str j)from ry)
  exact .inr ⟨i,j,rfl,rfl,k _ _ H n R (Kp.refl _ _) (wd (.bl _)) h1⟩
 ·exact h1.elim
theorem jrt:OpR X (compareOp .GtE) (fun x y H Q=>∃i j,x=.str i∧y=.str j∧Q (.bl (!decide (i.cps.toList < j.cps.toList))) H):=by
 intro pins s σ H x y v u Q I rx ry h
 obtain⟨i,j,rfl,rfl,q⟩:=h
 obtain⟨t,rfl⟩:=rx
 obtain⟨t',rfl⟩:=ry
 exact P.ge_str (jba I q rfl)
noncomputable abbrev gLt:=gCmp (fun i j=>decide (i < j)) (fun i j=>decide (i < j))
noncomputable abbrev gGt:=gCmp (fun i j=>decide (j < i)) (fun i j=>decide (j < i))
noncomputable abbrev gGe:=gCmp (fun i j=>decide (j≤i)) (fun i j=>!decide (i < j))
noncomputable def rLtA:R2:=fun x y H Q=>(rI0 fun i j=>.bl (decide (i < j))) x y H Q∨∃i j,x=.str i∧y=.str j∧Q (.bl (decide (i.cps.toList < j.cps.toList))) H
theorem jhr:OpR X (compareOp .Lt) rLtA:=op_lt.or jrq
noncomputable def rGtA:R2:=fun x y H Q=>(rI0 fun i j=>.bl (decide (j < i))) x y H Q∨∃i j,x=.str i∧y=.str j∧Q (.bl (decide (j.cps.toList < i.cps.toList))) H
theorem jjz:OpR X (compareOp .Gt) rGtA:=op_gt.or jrs
noncomputable def rGeA:R2:=fun x y H Q=>(rI0 fun i j=>.bl (decide (j≤i))) x y H Q∨∃i j,x=.str i∧y=.str j∧Q (.bl (!decide (i.cps.toList < j.cps.toList))) H
theorem jru:OpR X (compareOp .GtE) rGeA:=op_ge.or jrt
theorem jho:SndO rLtA gLt:=jnb (f:=fun i j=>decide (i < j)) (h:=fun i j=>decide (i < j))
theorem jjr:SndO rGtA gGt:=jnb (f:=fun i j=>decide (j < i)) (h:=fun i j=>decide (j < i))
theorem jqu:SndO rGeA gGe:=jnb (f:=fun i j=>decide (j≤i)) (h:=fun i j=>!decide (i < j))
noncomputable def eqD:PyData→PyData→Option Bool
 |.none,.none=>some true
 |.none,.int _=>some false
 |.int _,.none=>some false
 |.none,.bool _=>some false
 |.bool _,.none=>some false
 |.none,.str _=>some false
 |.str _,.none=>some false
 |.int i,.int j=>some (decide (i=j))
 |.bool i,.bool j=>some (decide (i=j))
 |.str i,.str j=>some (decide (i=j))
 |.int _,.str _=>some false
 |.str _,.int _=>some false
 |.bool _,.str _=>some false
 |.str _,.bool _=>some false
 |.list _,.str _=>some false
 |.tuple _,.str _=>some false
 |.dict _,.str _=>some false
 |.list xs,.list []=>some xs.isEmpty
 |_,_=>none
noncomputable def jt4:R2:=fun x y H Q=>∃d h B,RdX H B x d∧y=.str h∧Q (.bl (jav h d)) H
theorem jk7 (x y:Str):decide (V.str x=V.str y)=decide (x=y):=by
 by_cases z:x=y
 ·rw[z,decide_eq_true rfl,decide_eq_true rfl]
 ·rw[decide_eq_false z,decide_eq_false fun w=>z (V.str.inj w)]
theorem jop (x y:Int):decide (V.int x=V.int y)=decide (x=y):=by
 by_cases z:x=y
 ·rw[z,decide_eq_true rfl,decide_eq_true rfl]
 ·rw[decide_eq_false z,decide_eq_false fun w=>z (V.int.inj w)]
theorem jsz (x y:Bool):decide (V.bl x=V.bl y)=decide (x=y):=by
 by_cases z:x=y
 ·rw[z,decide_eq_true rfl,decide_eq_true rfl]
 ·rw[decide_eq_false z,decide_eq_false fun w=>z (V.bl.inj w)]
theorem jxe (hu:X.A.units < cLine):OpR X (compareOp .Eq) jt4:=by
 intro pins s σ H x y v u Q I rx ry h
 obtain⟨d,hh,B,hd,rfl,q⟩:=h
 cases hd with
 |non=>exact op_eq pins s σ H _ _ v u Q I rx ry ⟨rfl,q⟩
 |bl b=>exact op_eq pins s σ H _ _ v u Q I rx ry ⟨rfl,q⟩
 |int i=>exact op_eq pins s σ H _ _ v u Q I rx ry ⟨rfl,q⟩
 |str x hx =>
  refine op_eq pins s σ H _ _ v u Q I rx ry ⟨rfl,?_⟩
  rw[jk7]
  exact q
 |@lst a xs ds h1 h2 h3 h4 =>
  cases(show v=Value.ref a from rx)
  obtain⟨t,rfl⟩:=(show ∃t,u=Value.str hh t from ry)
  obtain⟨its,_,p,_⟩:=I.list (SqL.of (K:=X.K) h1)
  exact PySem.SeqAt.RcAt.list_str hh t p.isList hu _ _ _ _ ⟨.bl false,H,I,rfl,q⟩
 |@tup a xs ds h1 h2 h3 h4 =>
  cases(show v=Value.ref a from rx)
  obtain⟨t,rfl⟩:=(show ∃t,u=Value.str hh t from ry)
  obtain⟨its,_,p,_⟩:=I.tuple (SqT.of (K:=X.K) h1)
  exact PySem.SeqAt.RcAt.tuple_str hh t (show s.heap.IsTuple a its.toArray from p) hu _ _ _ _ ⟨.bl false,H,I,rfl,q⟩
noncomputable def gEq:Wv→Wv→Int→DQ→Prop:=fun x y n Q=>match x,y with
 |.d a,.d b=>match eqD a b with
  |some r=>Q (.d (.bool r)) n
  |none=>False
 |_,_=>False
theorem jzu (hu:X.A.units < cLine):OpR X (compareOp .Eq) (fun x y H Q=>rEq x y H Q∨jt4 x y H Q∨jn9 X.K x y H Q):=op_eq.or ((jxe hu).or (juh hu))
theorem jyp {K:PySem.W.Frag}:SndO (fun x y H Q=>rEq x y H Q∨jt4 x y H Q∨jn9 K x y H Q) gEq:=fun C H B σ δ n x y p q Q Q' R rx ry h1 k=>by
 unfold gEq at h1
 split at h1
 ·rename_i da db
  have rx:RdX H B x da:=rx
  have ry:RdX H B y db:=ry
  have fin:∀r:Bool,Q (.d (.bool r)) n→Q' (.bl r) H:=fun r q=>k _ _ H n R (Kp.refl _ _) (wd (.bl r)) q
  split at h1
  ·rename_i r er
   have h1:=fin r h1
   cases rx with
   |non=>cases ry<;>first | (cases er;done) | (cases er;exact .inl ⟨rfl,h1⟩)
   |bl i=>cases ry<;>first | (cases er;done) | (cases er;exact .inl ⟨rfl,by first | exact h1 | (rw[jsz];exact h1)⟩)
   |int i=>cases ry<;>first | (cases er;done) | (cases er;exact .inl ⟨rfl,by first | exact h1 | (rw[jop];exact h1)⟩)
   |str i hi=>cases ry<;>first | (cases er;done) | (cases er;exact .inl ⟨rfl,by first | exact h1 | (rw[jk7];exact h1)⟩)
   |@lst ax xs ds e1 e2 e3 e4 =>
    cases ry with
    |str j hj=>cases er;exact .inr (.inl ⟨_,j,B,.lst e1 e2 e3 e4,rfl,h1⟩)
    |@lst ay ys es f1 f2 f3 f4 =>
     cases f4 with
     |nil =>
      have er:some ds.isEmpty=some r:=er
      cases er
      refine .inr (.inr ⟨ax,ay,xs,rfl,rfl,SqL.of e1,SqL.of f1,?_⟩)
      have:xs.isEmpty=ds.isEmpty:=by cases e4<;>rfl
      rw[this]
      exact h1
     |cons _ _=>cases er
    |_=>cases er
   |@tup ax xs ds e1 e2 e3 e4 =>
    cases ry with
    |str j hj=>cases er;exact .inr (.inl ⟨_,j,B,.tup e1 e2 e3 e4,rfl,h1⟩)
    |_=>cases er
  ·exact h1.elim
 ·exact h1.elim
noncomputable def neD (a b:PyData):Option Bool:=match a,b with
 |.list _,_=>none
 |.tuple _,_=>none
 |a,b=>(eqD a b).map not
noncomputable def gNe:Wv→Wv→Int→DQ→Prop:=fun x y n Q=>match x,y with
 |.d a,.d b=>match neD a b with
  |some r=>Q (.d (.bool r)) n
  |none=>False
 |_,_=>False
theorem jqr:SndO rNe gNe:=fun C H B σ δ n x y p q Q Q' R rx ry h1 k=>by
 unfold gNe at h1
 split at h1
 ·rename_i da db
  have rx:RdX H B x da:=rx
  have ry:RdX H B y db:=ry
  have fin:∀r:Bool,Q (.d (.bool r)) n→Q' (.bl r) H:=fun r q=>k _ _ H n R (Kp.refl _ _) (wd (.bl r)) q
  split at h1
  ·rename_i r er
   have h1:=fin r h1
   cases rx with
   |non=>cases ry<;>first | (cases er;done) | (cases er;exact⟨rfl,h1⟩)
   |bl i=>cases ry<;>first | (cases er;done) | (cases er;exact⟨rfl,by first | exact h1 | (rw[jsz];exact h1)⟩)
   |int i=>cases ry<;>first | (cases er;done) | (cases er;exact⟨rfl,by first | exact h1 | (rw[jop];exact h1)⟩)
   |str i hi=>cases ry<;>first | (cases er;done) | (cases er;exact⟨rfl,by first | exact h1 | (rw[jk7];exact h1)⟩)
   |lst _ _ _ _=>cases er
   |tup _ _ _ _=>cases er
  ·exact h1.elim
 ·exact h1.elim
noncomputable def jcb:PyData→Bool
 |.none=>true
 |_=>false
noncomputable def gIsN (neg:Bool):Wv→Wv→Int→DQ→Prop:=fun x y n Q=>match x,y with
 |.d a,.d .none=>Q (.d (.bool (if neg then !jcb a else jcb a))) n
 |_,_=>False
theorem jod {H:Hp} {B:Addr→Prop} {v:V} {d:PyData} (h:RdX H B v d):decide (v=.non)=jcb d:=by cases h<;>rfl
theorem jwq:SndO (fun x y H Q=>y=.non∧Q (.bl (decide (x=.non))) H) (gIsN false):=fun C H B σ δ n x y p q Q Q' R rx ry h1 k=>by
 unfold gIsN at h1
 split at h1
 ·rename_i da
  cases(show RdX H B y .none from ry)
  exact⟨rfl,k _ _ H n R (Kp.refl _ _) (wd (show RdX H B _ (.bool (jcb da))from by rw[jod rx];exact .bl _)) h1⟩
 ·exact h1.elim
theorem jki:SndO (fun x y H Q=>y=.non∧Q (.bl (!decide (x=.non))) H) (gIsN true):=fun C H B σ δ n x y p q Q Q' R rx ry h1 k=>by
 unfold gIsN at h1
 split at h1
 ·rename_i da
  cases(show RdX H B y .none from ry)
  exact⟨rfl,k _ _ H n R (Kp.refl _ _) (wd (show RdX H B _ (.bool (!jcb da))from by rw[jod rx];exact .bl _)) h1⟩
 ·exact h1.elim
noncomputable def jed:PyData→Bool
 |.none=>true
 |.bool _=>true
 |.int _=>true
 |.str _=>true
 |_=>false
noncomputable def eqF:PyData→PyData→Bool
 |.none,.none=>true
 |.bool a,.bool b=>a==b
 |.bool a,.int b=>(if a then 1 else 0)==b
 |.int a,.bool b=>a==(if b then 1 else 0)
 |.int a,.int b=>a==b
 |.str a,.str b=>a==b
 |_,_=>false
noncomputable def inD (x:PyData) (ds:List PyData):Bool:=ds.any fun y=>eqF y x
theorem jh4 {H:Hp} {B:Addr→Prop} {v:V} {d:PyData} (h:RdX H B v d) (f:jed d=true):jhd v=true:=by cases h<;>first | rfl | cases f
theorem je4 {H:Hp} {B:Addr→Prop}:∀{vs:List V} {ds:List PyData},RdXs H B vs ds→ds.all jed=true→vs.all jhd=true
 |_,_,.nil,_=>rfl
 |_,_,.cons h r,f=>by
  rw[List.all_cons,Bool.and_eq_true]at f ⊢
  exact⟨jh4 h f.1,je4 r f.2⟩
theorem j0o {H:Hp} {B:Addr→Prop} {v u:V} {d e:PyData} (h:RdX H B v d) (h2:RdX H B u e):eqV v u=eqF d e:=by cases h<;>cases h2<;>rfl
theorem jmj {H:Hp} {B:Addr→Prop} {v:V} {d:PyData} (h:RdX H B v d):∀{vs:List V} {ds:List PyData},RdXs H B vs ds→inV v vs=inD d ds
 |_,_,.nil=>rfl
 |_,_,.cons h1 r=>by
  have:=jmj h r
  unfold inV inD at this ⊢
  rw[List.any_cons,List.any_cons,this,j0o h1 h]
noncomputable def gIn (neg:Bool):Wv→Wv→Int→DQ→Prop:=fun x y n Q=>match x,y with
 |.d a,.d (.tuple ds)=>jed a=true∧ds.all jed=true∧Q (.d (.bool (if neg then !inD a ds else inD a ds))) n
 |.d a,.d (.list ds)=>jed a=true∧ds.all jed=true∧Q (.d (.bool (if neg then !inD a ds else inD a ds))) n
 |_,_=>False
theorem jdt {K:PySem.W.Frag} {neg:Bool}:SndO (rIn K neg) (gIn neg):=fun C H B σ δ n x y p q Q Q' R rx ry h1 k=>by
 unfold gIn at h1
 split at h1
 ·rename_i da ds
  obtain⟨f1,f2,q⟩:=h1
  have rx:RdX H B x da:=rx
  cases(show RdX H B y (.tuple ds)from ry)with
  |@tup ay ys _ e1 e2 e3 e4 =>
   refine⟨ay,ys,rfl,.inr (SqT.of e1),jh4 rx f1,je4 e4 f2,?_⟩
   rw[jmj rx e4]
   exact k _ _ H n R (Kp.refl _ _) (wd (.bl _)) q
 ·rename_i da ds
  obtain⟨f1,f2,q⟩:=h1
  have rx:RdX H B x da:=rx
  cases(show RdX H B y (.list ds)from ry)with
  |@lst ay ys _ e1 e2 e3 e4 =>
   refine⟨ay,ys,rfl,.inl (SqL.of e1),jh4 rx f1,je4 e4 f2,?_⟩
   rw[jmj rx e4]
   exact k _ _ H n R (Kp.refl _ _) (wd (.bl _)) q
 ·exact h1.elim
noncomputable def gIx:Wv→Wv→Int→DQ→Prop:=fun x y n Q=>match x,y with
 |.d (.list ds),.d (.int i)=>match atI ds i with
  |some d=>Q (.d d) n
  |none=>False
 |.d (.tuple ds),.d (.int i)=>match atI ds i with
  |some d=>Q (.d d) n
  |none=>False
 |.d (.str z),.d (.int i)=>match atI z.cps.toList i with
  |some c=>Q (.d (.str ⟨#[c]⟩)) n
  |none=>False
 |_,_=>False
theorem jtf {H:Hp} {B:Addr→Prop} {vs:List V} {ds:List PyData} {i:Int} {d:PyData} (r:RdXs H B vs ds) (h:atI ds i=some d):∃v,atI vs i=some v∧RdX H B v d:=by
 unfold atI at h ⊢
 rw[r.len]
 cases e:ixN ds.length i with
 |none=>rw[e]at h;cases h
 |some j =>
  rw[e]at h
  exact r.getD h
theorem jn4 {K:PySem.W.Frag}:SndO (rIx K) gIx:=fun C H B σ δ n x y p q Q Q' R rx ry h1 k=>by
 unfold gIx at h1
 split at h1
 ·rename_i ds i
  split at h1
  ·rename_i d e
   cases(show RdX H B y (.int i)from ry)
   cases(show RdX H B x (.list ds)from rx)with
   |@lst ay ys _ e1 e2 e3 e4 =>
    obtain⟨v,f1,f2⟩:=jtf e4 e
    exact .inl ⟨ay,ys,i,v,rfl,rfl,SqL.of e1,f1,k _ _ H n R (Kp.refl _ _) (wd f2) h1⟩
  ·exact h1.elim
 ·rename_i ds i
  split at h1
  ·rename_i d e
   cases(show RdX H B y (.int i)from ry)
   cases(show RdX H B x (.tuple ds)from rx)with
   |@tup ay ys _ e1 e2 e3 e4 =>
    obtain⟨v,f1,f2⟩:=jtf e4 e
    exact .inr (.inl ⟨ay,ys,i,v,rfl,rfl,SqT.of e1,f1,k _ _ H n R (Kp.refl _ _) (wd f2) h1⟩)
  ·exact h1.elim
 ·rename_i z i
  split at h1
  ·rename_i c e
   cases(show RdX H B y (.int i)from ry)
   cases(show RdX H B x (.str z)from rx)with
   |str _ hz=>exact .inr (.inr ⟨z,i,c,rfl,rfl,hz,e,k _ _ H n R (Kp.refl _ _) (wd (show RdX H B _ (.str ⟨#[c]⟩)from .str _ (by show 1≤sizeLine;decide))) h1⟩)
  ·exact h1.elim
 ·exact h1.elim
theorem d_ix (ha:DE X a ta wa) (hb:DE X b tb wb) (hs:jlg b:=by exact fun _ _=>rfl):DE X (.Subscript a b pos) (tOp (rIx X.K) ta tb) (w2 wa wb gIx):=⟨jg0 jsd ha.pe hb.pe hs,jls jn4 ha.sd hb.sd⟩
noncomputable def gLen:List Wv→Int→DQ→Prop:=fun xs n Q=>match xs with
 |[.d (.str x)]=>Q (.d (.int x.length)) n
 |[.d (.list ds)]=>Q (.d (.int ds.length)) n
 |[.d (.tuple ds)]=>Q (.d (.int ds.length)) n
 |_=>False
theorem jta:CallR X (.builtin "len") (fun xs H Q=>(∃z,xs=[.str z]∧z.length≤sizeLine∧Q (.int z.length) H)∨∃p ys,xs=[.ref p]∧(SqL X.K H p ys∨SqT X.K H p ys)∧Q (.int ys.length) H):=call_len_str.or jdk
theorem jwo {K:PySem.W.Frag}:SndB (fun xs H Q=>(∃z,xs=[.str z]∧z.length≤sizeLine∧Q (.int z.length) H)∨∃p ys,xs=[.ref p]∧(SqL K H p ys∨SqT K H p ys)∧Q (.int ys.length) H) gLen:=fun C H B σ δ n vs xs Q Q' R r h k=>by
 unfold gLen at h
 split at h
 ·rename_i x
  cases r with
  |cons r1 r2 =>
   cases r2
   cases(show RdX H B _ (.str x)from r1)with
   |str _ hz=>exact .inl ⟨x,rfl,hz,k _ _ H n R (Kp.refl _ _) (wd (.int _)) h⟩
 ·rename_i ds
  cases r with
  |cons r1 r2 =>
   cases r2
   cases(show RdX H B _ (.list ds)from r1)with
   |@lst ay ys _ e1 e2 e3 e4 =>
    refine .inr ⟨ay,ys,rfl,.inl (SqL.of e1),?_⟩
    rw[e4.len]
    exact k _ _ H n R (Kp.refl _ _) (wd (.int _)) h
 ·rename_i ds
  cases r with
  |cons r1 r2 =>
   cases r2
   cases(show RdX H B _ (.tuple ds)from r1)with
   |@tup ay ys _ e1 e2 e3 e4 =>
    refine .inr ⟨ay,ys,rfl,.inr (SqT.of e1),?_⟩
    rw[e4.len]
    exact k _ _ H n R (Kp.refl _ _) (wd (.int _)) h
 ·exact h.elim
theorem jyd {K:PySem.W.Frag} {H:Hp} {B:Addr→Prop} {v:V} {d:PyData} (h:RdX H B v d):TyOf K H v (.type (tyD d)):=by
 cases h with
 |non=>exact .non
 |bl b=>exact .bl b
 |int i=>exact .int i
 |str x h=>exact .str x
 |lst h1 h2 h3 h4=>exact .lst h1
 |tup h1 h2 h3 h4=>exact .tup h1
theorem j1l {K:PySem.W.Frag} {H:Hp} {B:Addr→Prop} {v:V} {d:PyData} (h:RdX H B v d) {T:String} (hT:T="int"∨T="bool"∨T="str"∨T="tuple"∨T="list"):PySem.W.kitOne K (.type (tyD d)) (.type T)=some (isiB T d):=by
 cases h<;>rcases hT with rfl | rfl | rfl | rfl | rfl<;>rfl
noncomputable def wIsi (T:String) (w:DT):DT:=fun δ n Q=>w δ n fun x n1=>match x with
 |.d d=>Q (.d (.bool (isiB T d))) n1
 |_=>False
theorem j1y {T:String} {x:Str} {p p2:Pos} (hT:T="int"∨T="bool"∨T="str"∨T="tuple"∨T="list") (hg:Gl X "isinstance") (hm:X.mg "isinstance"=none) (hg2:Gl X x) (hm2:X.mg x=none) (hv:bootBuiltins x=some (.type T)) (ha:DE X a ta wa) (hn:x≠"__name__":=by decide) (hdb:(x==("__debug__":Str))=false:=by decide)
  (he:starEach [a,.Name x p2] X.env=(false,eval a X.env)::starEach [.Name x p2] X.env:=by rfl) (he2:starEach [.Name x p2] X.env=(false,eval (.Name x p2) X.env)::starEach [] X.env:=by rfl) (hpl:(backTo pos (starEach [.Name x p2] X.env)).any (·.1)=false:=by rfl) :
  DE X (.Call (.Name "isinstance" p) [a,.Name x p2] [] pos) (tCB (fun xs H Q=>∃x t b,xs=[x,.ty T]∧TyOf X.K H x t∧PySem.W.kitOne X.K t (.type T)=some b∧Q (.bl b) H) (jds ta (jds (tC (.ty T)) tNil))) (wIsi T wa) :=
 ⟨jdh (ju9 (T:=T)) hg hm j0y (ja4 ha.pe (ja4 (jxa (v:=.ty T) hg2 hm2 hv rfl hn hdb) jb6 he2) he) (by decide) (by decide) he hpl,fun C H B σ δ n Q Q' R q k=>ha.sd C H B σ δ n _ _ R q fun v x H1 n1 R1 k1 r1 q1=>by
  cases x with
  |d d=>exact⟨v,_,_,rfl,jyd r1,j1l (show RdX H1 B v d from r1) hT,k _ _ H1 n1 R1 k1 (wd (.bl _)) q1⟩
  |tp=>exact q1.elim
  |dk _=>exact q1.elim
  |ln _=>exact q1.elim⟩
noncomputable def j2c:List Wv→Int→DQ→Prop:=fun xs n Q=>match xs with
 |[.d (.list ds)]=>j08 (.list ds)∧Q (.d (.str (PyData.shown (.list ds)))) n
 |[.d (.tuple ds)]=>j08 (.tuple ds)∧Q (.d (.str (PyData.shown (.tuple ds)))) n
 |_=>False
noncomputable def jff:List PyData→Option (List Bool)
 |[]=>some []
 |.bool b::r=>(jff r).map (b::·)
 |_::_=>none
theorem jlb {H:Hp} {B:Addr→Prop}:∀{vs:List V} {ds:List PyData} {bs:List Bool},RdXs H B vs ds→jff ds=some bs→vs=bs.map V.bl
 |_,_,bs,.nil,h=>by
  cases h
  rfl
 |_,_,bs,.cons (d:=d) (ds:=ds) h1 h2,h=>by
  cases h1 with
  |bl b =>
   have h':(jff ds).map (b::·)=some bs:=h
   cases e:jff ds with
   |none=>rw[e]at h';cases h'
   |some cs =>
    rw[e]at h'
    cases h'
    rw[jlb h2 e]
    rfl
  |_=>cases h
noncomputable def gAll:List Wv→Int→DQ→Prop:=fun xs n Q=>match xs with
 |[.d (.list ds)]=>match jff ds with
  |some bs=>Q (.d (.bool (bs.all id))) n
  |none=>False
 |_=>False
theorem jqw:SndB (fun xs H Q=>∃(p:Addr) (bs:List Bool),xs=[.ref p]∧H p=some (.lst (bs.map V.bl))∧Q (.bl (bs.all id)) H) gAll:=fun C H B σ δ n vs xs Q Q' R r h k=>by
 unfold gAll at h
 split at h
 ·rename_i ds
  split at h
  ·rename_i bs e
   cases r with
   |cons r1 r2 =>
    cases r2
    cases(show RdX H B _ (.list ds)from r1)with
    |@lst ay ys _ e1 e2 e3 e4 =>
     exact⟨ay,bs,rfl,by rw[←jlb e4 e];exact e1,k _ _ H n R (Kp.refl _ _) (wd (.bl _)) h⟩
  ·exact h.elim
 ·exact h.elim
noncomputable def jcc:List Wv→Int→DQ→Prop:=fun xs n Q=>match xs with
 |[.d (.list ds)]=>Q (.d (.tuple ds)) n
 |[.d (.tuple ds)]=>Q (.d (.tuple ds)) n
 |_=>False
theorem jqo {K:PySem.W.Frag}:SndB (fun xs H Q=>∃p ys,xs=[.ref p]∧((SqL K H p ys∧∀l,H l=none→Q (.ref l) (upd H l (.tup ys)))∨(SqT K H p ys∧Q (.ref p) H))) jcc:=fun C H B σ δ n vs xs Q Q' R r h k=>by
 unfold jcc at h
 split at h
 ·rename_i ds
  cases r with
  |cons r1 r2 =>
   cases r2
   cases(show RdX H B _ (.list ds)from r1)with
   |@lst ay ys _ e1 e2 e3 e4 =>
    refine⟨ay,ys,rfl,.inl ⟨SqL.of e1,fun l hl=>?_⟩⟩
    exact k _ _ _ n (R.new hl) (Kp.new hl) (wd (show RdX _ B _ (.tuple ds)from .tup jar (R.nb hl) e3 ((e4.fresh hl).less fun b z=>.inl z))) h
 ·rename_i ds
  cases r with
  |cons r1 r2 =>
   cases r2
   cases(show RdX H B _ (.tuple ds)from r1)with
   |@tup ay ys _ e1 e2 e3 e4=>exact⟨ay,ys,rfl,.inr ⟨SqT.of e1,k _ _ H n R (Kp.refl _ _) (wd (show RdX H B _ (.tuple ds)from .tup e1 e2 e3 e4)) h⟩⟩
 ·exact h.elim
end
structure ItOk (fz:Hp) (J:It) (ds:List PyData):Prop where
 le:ds.length≤sizeLine
 go:∀i H,(∀b o,fz b=some o→H b=some o)→i < ds.length→J.go i H
 stop:∀H,(∀b o,fz b=some o→H b=some o)→J.stop ds.length H
 yld:∀i H x H' d,(∀b o,fz b=some o→H b=some o)→ds[i]?=some d→J.yld i H x H'→Same H H'∧∀B,(∀b o,fz b=some o→¬B b)→(∀b,B b→H b≠none)→RdX H' B x d
noncomputable def thaw (H:Hp) (B:Addr→Prop) (fz:Hp):Prop:=(∀b o,fz b=some o→H b=some o∧¬B b)∧∀b o,H b=some o→¬B b→fz b=some o
noncomputable abbrev DTI:=Sl→Int→(List PyData→Int→Prop)→Prop
noncomputable def SndI (wi:TI) (v:DTI):Prop:=∀(C:Ctx) (H:Hp) (B:Addr→Prop) (σ:St) (δ:Sl) (n:Int) (Q:List PyData→Int→Prop) (Q':It→Hp→Prop),Rel C H B σ δ n→v δ n Q →
 (∀J ds H' n',Rel C H' B σ δ n'→Kp C.t H H'→(∀fz,thaw H' B fz→ItOk fz J ds)→Q ds n'→Q' J H')→wi σ H Q'
structure DI (X:Cx) (tg iter:Expr) (wi:TI) (v:DTI):Prop where
 pi:PI X tg iter wi
 sd:SndI wi v
section
variable {X:Cx} {tg a b c e:Expr} {ta tb te:TE} {wa wb we:DT} {pos p:Pos}
noncomputable def jgc (w:DT):DTI:=fun δ n Q=>w δ n fun x n1=>match x with
 |.d (.list ds)=>Q ds n1
 |_=>False
noncomputable def jcg (w:DT):DTI:=fun δ n Q=>w δ n fun x n1=>match x with
 |.d (.tuple ds)=>Q ds n1
 |_=>False
theorem j0h (ha:DE X a ta wa):DI X tg a (jxn X.K ta) (jgc wa):=⟨jw4 ha.pe,fun C H B σ δ n Q Q' R q k=>ha.sd C H B σ δ n _ _ R q fun v x H1 n1 R1 k1 r1 q1=>by
 split at q1
 ·rename_i ds
  cases(show RdX H1 B v (.list ds)from r1)with
  |@lst ay ys _ e1 e2 e3 e4 =>
   refine⟨ay,rfl,⟨ys,SqL.of e1⟩,k _ ds H1 n1 R1 k1 (fun fz th=>?_) q1⟩
   have hfz:fz ay=some (.lst ys):=th.2 _ _ e1 e2
   refine⟨by rw[←e4.len];exact e3,fun i H hH hi=>?_,fun H hH=>?_,fun i H x H' d hH hd hy=>?_⟩
   ·rw[←e4.len]at hi
    exact⟨ys,ys[i],SqL.of (hH _ _ hfz),List.getElem?_eq_getElem hi⟩
   ·exact⟨ys,SqL.of (hH _ _ hfz),by rw[e4.len];exact Nat.le_refl _⟩
   ·obtain⟨rfl,hy⟩:=hy
    refine⟨fun _ _ z=>z,fun B' hB hBa=>?_⟩
    obtain⟨u,hu,ru⟩:=e4.getD hd
    have:=hy _ (SqL.of (hH _ _ hfz))
    rw[hu]at this
    cases this
    exact ru.move fun b o e ne=>⟨hH _ _ (th.2 _ _ e ne),hB _ _ (th.2 _ _ e ne)⟩
 ·exact q1.elim⟩
theorem j1p (ha:DE X a ta wa):DI X tg a (iTup X.K ta) (jcg wa):=⟨jzd ha.pe,fun C H B σ δ n Q Q' R q k=>ha.sd C H B σ δ n _ _ R q fun v x H1 n1 R1 k1 r1 q1=>by
 split at q1
 ·rename_i ds
  cases(show RdX H1 B v (.tuple ds)from r1)with
  |@tup ay ys _ e1 e2 e3 e4 =>
   refine⟨ay,rfl,⟨ys,SqT.of e1⟩,k _ ds H1 n1 R1 k1 (fun fz th=>?_) q1⟩
   have hfz:fz ay=some (.tup ys):=th.2 _ _ e1 e2
   refine⟨by rw[←e4.len];exact e3,fun i H hH hi=>?_,fun H hH=>?_,fun i H x H' d hH hd hy=>?_⟩
   ·rw[←e4.len]at hi
    exact⟨ys,ys[i],SqT.of (hH _ _ hfz),List.getElem?_eq_getElem hi⟩
   ·exact⟨ys,SqT.of (hH _ _ hfz),by rw[e4.len];exact Nat.le_refl _⟩
   ·obtain⟨rfl,hy⟩:=hy
    refine⟨fun _ _ z=>z,fun B' hB hBa=>?_⟩
    obtain⟨u,hu,ru⟩:=e4.getD hd
    have:=hy _ (SqT.of (hH _ _ hfz))
    rw[hu]at this
    cases this
    exact ru.move fun b o e ne=>⟨hH _ _ (th.2 _ _ e ne),hB _ _ (th.2 _ _ e ne)⟩
 ·exact q1.elim⟩
noncomputable def rngD (lo:Int) (n:Nat):List PyData:=(List.range n).map fun i=>.int (lo+(i:Nat))
noncomputable def jbh (w:DT):DTI:=fun δ n Q=>w δ n fun x n1=>match x with
 |.d (.int j)=>(-(2 ^ 62)≤j∧j≤1000000)∧Q (rngD 0 j.toNat) n1
 |_=>False
theorem jut (fz:Hp) (lo:Int) (n:Nat) (hn:n≤1000000):ItOk fz (Itr lo n) (rngD lo n):=by
 have hl:(rngD lo n).length=n:=by unfold rngD;simp
 refine⟨?_,fun i H hH hi=>?_,fun H hH=>?_,fun i H y H' d hH hd hy=>?_⟩
 ·rw[hl];exact Nat.le_trans hn (by decide)
 ·rw[hl]at hi;exact hi
 ·show n≤(rngD lo n).length
  rw[hl]
  exact Nat.le_refl _
 ·obtain⟨rfl,rfl⟩:=hy
  refine⟨fun _ _ z=>z,fun B' hB hBa=>?_⟩
  unfold rngD at hd
  rw[List.getElem?_map]at hd
  cases e:(List.range n)[i]? with
  |none=>rw[e]at hd;cases hd
  |some j =>
   rw[e]at hd
   have:j=i:=by
    obtain⟨h1,h2⟩:=List.getElem?_eq_some_iff.mp e
    rw[List.getElem_range]at h2
    exact h2.symm
   subst this
   cases hd
   exact .int _
theorem jcl {p:Pos} (hg:Gl X "range") (hm:X.mg "range"=none) (ha:DE X a ta wa) (hs:starEach [a] X.env=[(false,eval a X.env)]:=by rfl):DI X tg (.Call (.Name "range" p) [a] [] pos) (j0i (jds ta tNil)) (jbh wa):=⟨jrk hg hm (ja4 ha.pe jb6 hs) hs,fun C H B σ δ n Q Q' R q k=>ha.sd C H B σ δ n _ _ R q fun v x H1 n1 R1 k1 r1 q1=>by
 split at q1
 ·rename_i j
  cases(show RdX H1 B v (.int j)from r1)
  refine⟨j,rfl,q1.1.1,by have:=q1.1.2;have:(2:Int)^62=4611686018427387904:=(by decide);omega,k _ (rngD 0 j.toNat) H1 n1 R1 k1 (fun fz _=>jut fz 0 j.toNat (by have:=q1.1.2;omega)) q1.2⟩
 ·exact q1.elim⟩
end
noncomputable abbrev DTG:=PyData→Sl→(Sl→Prop)→Prop
noncomputable def SndG (g:TG) (v:DTG):Prop:=∀(C:Ctx) (H:Hp) (B:Addr→Prop) (σ:St) (δ:Sl) (n:Int) (x:V) (d:PyData) (Q:Sl→Prop) (Q':St→Hp→Prop),Rel C H B σ δ n→RdX H B x d→v d δ Q →
 (∀σ' δ',Rel C H B σ' δ' n→Q δ'→Q' σ' H)→g x σ H Q'
structure DG (X:Cx) (tg:Expr) (g:TG) (v:DTG):Prop where
 pg:PG X tg g
 sd:SndG g v
section
variable {X:Cx} {pos:Pos}
noncomputable def jai (i:Nat):DTG:=fun d δ Q=>Q (δ.set i (some (.w (.d d))))
theorem ja2 {i:Nat} {x:Str} (hN:X.N.Nodup) (hi:X.N[i]?=some x) (hx:Loc X.env.scope x) (hf:X.fn x=true∨X.env.scope.names.lookup x=some .local:=by first | exact .inl rfl | exact .inr rfl | assumption):DG X (.Name x pos) (jhb i) (jai i) :=
 ⟨jw6 hN hi hx hf,fun C H B σ δ n x d Q Q' R r q k=>k _ _ (R.set (x:=.d d) r rfl) q⟩
end
noncomputable def forD (g:DTG) (W:DST) (K:DEnds):List PyData→Sl→Int→Prop
 |[],δ,n=>K.nx δ n
 |d::r,δ,n=>g d δ fun δ'=>W δ' n {K with nx:=forD g W K r,ct:=forD g W K r,bk:=K.nx}
noncomputable def sFor (v:DTI) (g:DTG) (W:DST):DST:=fun δ n K=>v δ n fun ds n1=>forD g W K ds δ n1
noncomputable def fzOf (H:Hp) (B:Addr→Prop):Hp:=fun b=>open Classical in if B b then none else H b
theorem jhj (H:Hp) (B:Addr→Prop):thaw H B (fzOf H B):=by
 refine⟨fun b o e=>?_,fun b o e n=>?_⟩
 ·unfold fzOf at e
  split at e
  ·cases e
  ·rename_i h
   exact⟨e,h⟩
 ·unfold fzOf
  rw[if_neg n]
  exact e
theorem Rel.refz {C:Ctx} {H:Hp} {B:Addr→Prop} {σ:St} {δ:Sl} {n:Int} (R:Rel C H B σ δ n):Rel {C with fz:=fzOf H B} H B σ δ n :=
 ⟨R.tp,R.kp,R.t0,R.l0,R.g0,(jhj H B).1,R.bt,R.b0,R.ba,R.a0,R.sl,R.ow,R.len⟩
theorem Rel.unfz {C:Ctx} {fz:Hp} {H:Hp} {B:Addr→Prop} {σ:St} {δ:Sl} {n:Int} (R:Rel {C with fz:=fz} H B σ δ n) (h:∀b o,C.fz b=some o→fz b=some o):Rel C H B σ δ n :=
 ⟨R.tp,R.kp,R.t0,R.l0,R.g0,fun b o e=>R.fz b o (h b o e),R.bt,R.b0,R.ba,R.a0,R.sl,R.ow,R.len⟩
theorem Rel.same {C:Ctx} {H H':Hp} {B:Addr→Prop} {σ:St} {δ:Sl} {n:Int} (R:Rel C H B σ δ n) (k:Same H H'):Rel C H' B σ δ n:=by
 obtain⟨a,b,e,h⟩:=R.tp.ob
 exact R.step ⟨⟨a,b,k _ _ e,h⟩,k _ _ R.tp.ls,R.tp.len,fun z=>k _ _ (R.tp.ag z),R.tp.gne⟩ fun b o e _=>k b o e
section
variable {X:Cx} {tg iter:Expr} {body:List Stmt} {wi:TI} {v:DTI} {g:TG} {gd:DTG} {T:TS} {W:DST} {pos:Pos}
theorem jft (hi:DI X tg iter wi v) (hg:DG X tg g gd) (hb:DSs X body T W) (hp:PassesOwn (model X.prog X.w) X.A X.env X.xe:=by exact PassesOwn.never) (hc:X.calm=true:=by rfl)
  (hs:∀x,foldedSetIterable iter X.env x=pure x:=by intro _;rfl):DS X (.For tg iter body [] pos) (tFor wi g T) (sFor v gd W):=⟨jzb hp hc hi.pi hg.pg hb.ps hs,fun C H B σ δ n K D R q E =>
 hi.sd C H B σ δ n _ _ R q fun J ds H1 n1 R1 k1 hJ q1=>by
  have ok:=hJ (fzOf H1 B) (jhj H1 B)
  have R1':=R1.refz
  have back:∀{H B' σ δ n},Rel {C with fz:=fzOf H1 B} H B' σ δ n→Rel C H B' σ δ n:=fun R=>R.unfz fun b o e=>(jhj H1 B).2 b o (R1.fz b o e).1 (R1.fz b o e).2
  refine⟨fun i m σ H=>m=ds.length - i∧i≤ds.length∧∃B' δ n,Rel {C with fz:=fzOf H1 B} H B' σ δ n∧forD gd W K (ds.drop i) δ n,⟨ds.length,by simp,Nat.zero_le _,B,δ,n1,R1',by simpa using q1⟩,?_⟩
  rintro i m σ2 H2 ⟨rfl,hi,B2,δ2,n2,R2,q2⟩
  have hfz:∀b o,fzOf H1 B b=some o→H2 b=some o:=fun b o e=>(R2.fz b o e).1
  by_cases hlt:i < ds.length
  ·rw[List.drop_eq_getElem_cons hlt]at q2
   refine .inr ⟨ok.go i H2 hfz hlt,fun σ3 H3=>∃B' δ n,Rel {C with fz:=fzOf H1 B} H3 B' σ3 δ n∧forD gd W K (ds.drop (i+1)) δ n,fun σ' H' z=>⟨ds.length - (i+1),by omega,rfl,hlt,z⟩,fun x H' hy=>?_⟩
   obtain⟨sm,rd⟩:=ok.yld i H2 x H' ds[i] hfz (List.getElem?_eq_getElem hlt) hy
   have R3:=R2.same sm
   refine hg.sd _ H' B2 σ2 δ2 n2 x ds[i] _ _ R3 (rd B2 (fun b o e=>(R2.fz b o e).2) R2.ba) q2 fun σ' δ' R4 q4=>?_
   refine hb.sd _ H' B2 σ' δ' n2 _ _ R4 q4 ⟨?_,?_,?_,?_,fun H B σ δ n a xs ds R h0 h1 h2 h3 q=>E.rn H B σ δ n a xs ds (back R) h0 h1 h2 h3 q⟩
   ·exact fun H B σ δ n R q=>⟨B,δ,n,R,q⟩
   ·exact fun H B σ δ n v w R r q=>E.rt H B σ δ n v w (back R) r q
   ·exact fun H B σ δ n R q=>E.nx H B σ δ n (back R) q
   ·exact fun H B σ δ n R q=>⟨B,δ,n,R,q⟩
  ·have e:i=ds.length:=by omega
   subst e
   rw[List.drop_length]at q2
   exact .inl ⟨ok.stop H2 hfz,E.nx H2 B2 σ2 δ2 n2 (back R2) q2⟩⟩
end
noncomputable def jk8 (fr:List (Option Nat)) (δ:Sl):Sl:=fr.map fun o=>o.bind fun i=>match δ[i]? with
 |some (some (.w x))=>some (.w x)
 |some (some (.odk kvs))=>some (.w (.dk kvs))
 |some (some (.own ds))=>some (.w (.ln ds))
 |_=>none
noncomputable def jcy (g:DTG) (c:DTT) (w:DT) (Q:List PyData→Int→Prop):List PyData→List PyData→Sl→Int→Prop
 |[],acc,_,n=>Q acc n
 |d::r,acc,δ,n=>g d δ fun δ'=>c δ' n fun b n1=>if b=true then w δ' n1 fun x n2=>match x with
   |.d y=>jcy g c w Q r (acc++[y]) δ' n2
   |_=>False
  else jcy g c w Q r acc δ' n1
noncomputable def jbz (fr:List (Option Nat)) (v:DTI) (g:DTG) (c:DTT) (w:DT):DTF:=fun δ n Q=>v δ n fun ds n1=>jcy g c w Q ds [] (jk8 fr δ) n1
structure DIf (X:Cx) (ifs:List Expr) (t:TT) (c:DTT):Prop where
 pf:PIf X ifs t
 sd:SndT t c
noncomputable def cYes:DTT:=fun _ n Q=>Q true n
theorem jei {X:Cx}:DIf X [] jyh cYes:=⟨jw3,fun C H B σ δ n Q Q' R q k=>k true H n R (Kp.refl _ _) q⟩
theorem jj5 {X:Cx} {c:Expr} {t:TT} {cc:DTT} (h:DC X c t cc):DIf X [c] t cc:=⟨jw2 h.pt,h.sd⟩
theorem ju6 (fr:List (Option Nat)) (σ:St):(capt fr σ).length=fr.length:=by unfold capt;rw[List.length_map]
theorem js7 (fr:List (Option Nat)) (δ:Sl):(jk8 fr δ).length=fr.length:=by unfold jk8;rw[List.length_map]
theorem jh7 {fr:List (Option Nat)} {δ:Sl} {j:Nat} {x:SV} (h:(jk8 fr δ)[j]?=some (some x)):∃i y,fr[j]?=some (some i)∧δ[i]?=some (some y)∧((∃z,x=.w z∧y=.w z)∨(∃kvs,x=.w (.dk kvs)∧y=.odk kvs)∨∃ds,x=.w (.ln ds)∧y=.own ds):=by
 unfold jk8 at h
 rw[List.getElem?_map]at h
 cases e:fr[j]? with
 |none=>rw[e]at h;cases h
 |some o =>
  rw[e]at h
  cases o with
  |none=>cases h
  |some i =>
   have h':=Option.some.inj h
   dsimp only[Option.bind]at h'
   split at h'
   ·rename_i z ez
    cases h'
    exact⟨i,_,rfl,ez,.inl ⟨z,rfl,rfl⟩⟩
   ·rename_i kvs ez
    cases h'
    exact⟨i,_,rfl,ez,.inr (.inl ⟨kvs,rfl,rfl⟩)⟩
   ·rename_i ds ez
    cases h'
    exact⟨i,_,rfl,ez,.inr (.inr ⟨ds,rfl,rfl⟩)⟩
   ·cases h'
theorem jx1 {fr:List (Option Nat)} {σ:St} {j i:Nat} {v:V} (h:fr[j]?=some (some i)) (h2:σ[i]?=some (some v)):(capt fr σ)[j]?=some (some v):=by
 unfold capt
 rw[List.getElem?_map,h]
 show some ((σ[i]?).bind id)=_
 rw[h2]
 rfl
theorem jt1 {C:Ctx} {H:Hp} {B:Addr→Prop} {σ:St} {δ:Sl} {n:Int} {L:Addr} {fr:List (Option Nat)} (R:Rel C H B σ δ n) (hL:H L=none) :
  Rel ⟨C.t,C.l,C.ns,H,B,fzOf H B⟩ (upd H L (.lst [])) (fun b=>B b∨b=L) (capt fr σ) (jk8 fr δ) n where
 tp:=R.tp.new hL
 kp:=Kp.new hL
 t0:=R.ba _ R.bt
 l0:=by
  show H C.l.s≠none
  rw[R.tp.ls]
  exact fun z=>nomatch z
 g0:=fun e=>by
  show H C.l.g≠none
  rw[R.tp.ag e]
  exact fun z=>nomatch z
 fz:=fun b o e=>by
  obtain⟨e1,e2⟩:=(jhj H B).1 b o e
  exact⟨by rw[jal (jak e1 hL)];exact e1,fun z=>z.elim e2 fun q=>jak e1 hL q⟩
 bt:=.inl R.bt
 b0:=fun b z=>.inl z
 ba:=fun b z e=>by
  by_cases q:b=L
  ·rw[q,jar]at e;cases e
  ·rw[jal q]at e
   exact R.ba b (z.resolve_right q) e
 a0:=R.ba
 sl:=fun j x e=>by
  have mv:∀b o',H b=some o'→¬B b→upd H L (.lst []) b=some o'∧¬(B b∨b=L):=fun b o' e n=>⟨by rw[jal (jak e hL)];exact e,fun z=>z.elim n fun q=>jak e hL q⟩
  obtain⟨i,y,e1,e2,hy⟩:=jh7 e
  obtain⟨v,f1,f2⟩:=R.sl i y e2
  refine⟨v,jx1 e1 f1,?_⟩
  rcases hy with⟨z,rfl,rfl⟩ | ⟨kvs,rfl,rfl⟩ | ⟨ds,rfl,rfl⟩
  ·cases z with
   |d d=>exact⟨f2.1.move mv,fun z=>by cases z⟩
   |tp=>exact⟨f2.1,fun z=>by cases z⟩
   |ln ds =>
    obtain⟨a,l,g1,g2,g3,g4,g5⟩:=f2.1
    exact⟨⟨a,l,g1,by rw[jal (jak g2 hL)];exact g2,g3,g4,g5.move mv⟩,fun _=>⟨a,g1,by show H a≠none;rw[g2];exact fun z=>nomatch z⟩⟩
   |dk kvs =>
    obtain⟨a,l,g1,g2,g3,g4⟩:=f2.1
    exact⟨⟨a,l,g1,by rw[jal (jak g2 hL)];exact g2,g3,g4.move mv⟩,fun _=>⟨a,g1,by show H a≠none;rw[g2];exact fun z=>nomatch z⟩⟩
  ·obtain⟨a,l,g1,g2,g3,g4,g5,g6⟩:=f2
   exact⟨⟨a,l,g1,by rw[jal (jak g2 hL)];exact g2,fun z=>R.t0 (z▸g4),g6.move mv⟩,fun _=>⟨a,g1,by show H a≠none;rw[g2];exact fun z=>nomatch z⟩⟩
  ·obtain⟨a,l,g1,g2,g3,g4,g5,g6⟩:=f2
   exact⟨⟨a,l,g1,by rw[jal (jak g2 hL)];exact g2,fun z=>R.t0 (z▸g4),g5,g6.move mv⟩,fun _=>⟨a,g1,by show H a≠none;rw[g2];exact fun z=>nomatch z⟩⟩
 ow:=fun i j x y v e1 e2 o1 o2 _ _=>by
  obtain⟨_,_,_,_,hy⟩:=jh7 e1
  rcases hy with⟨z,rfl,_⟩ | ⟨kvs,rfl,_⟩ | ⟨ds,rfl,_⟩
  ·cases o1
  ·cases o1
  ·cases o1
 len:=by rw[ju6,js7]
section
variable {X:Cx} {elt tg iter:Expr} {ifs:List Expr} {scope:Scope} {cl:List (Str×Addr)} {pos:Pos} {N:List Str} {fr:List (Option Nat)} {wi:TI} {v:DTI} {g:TG} {gd:DTG} {tt:TT} {cc:DTT} {te:TE} {we:DT}
noncomputable def jg1 (δ:Sl):Prop:=∀(i:Nat) (x:SV),δ[i]?=some (some x)→x.isOwn=false
theorem ju8 (fr:List (Option Nat)) (δ:Sl):jg1 (jk8 fr δ):=fun i x e=>by
 obtain⟨_,_,_,_,hy⟩:=jh7 e
 rcases hy with⟨z,rfl,_⟩ | ⟨kvs,rfl,_⟩ | ⟨ds,rfl,_⟩<;>rfl
noncomputable def jis (v:DTG):Prop:=∀d δ Q,jg1 δ→v d δ Q→v d δ fun δ'=>jg1 δ'∧Q δ'
theorem jby (i:Nat):jis (jai i):=fun d δ Q h q=>⟨fun j x e=>by
 rcases jay e with⟨_,rfl⟩ | ⟨_,e'⟩
 ·rfl
 ·exact h j x e',q⟩
theorem jfd (hc:X.calm=true) (S:CompSc X N scope cl fr) (hi:DI X tg iter wi v) (hg:∀s H fp,DG (jbi X N scope cl s H fp) tg g gd) (ht:∀s H fp,DIf (jbi X N scope cl s H fp) ifs tt cc)
  (he:∀s H fp,DE (jbi X N scope cl s H fp) elt te we) (hno:jis gd) (hs:∀x,foldedSetIterable iter X.env x=pure x:=by intro _;rfl) :
  DF X (.ListComp elt [⟨tg,iter,ifs,0⟩] scope pos) (jp9 fr wi g tt te) (jbz fr v gd cc we):=by
 refine⟨jw8 hc S hi.pi (fun s H fp=>(hg s H fp).pg) (fun s H fp=>(ht s H fp).pf) (fun s H fp=>(he s H fp).pe) hs,fun C H B σ δ n Q Q' R q k=>hi.sd C H B σ δ n _ _ R q fun J ds H1 n1 R1 k1 hJ q1=>fun L hL=>?_⟩
 have sg:=(hg X.s₀ X.H₀ []).sd
 have st:=(ht X.s₀ X.H₀ []).sd
 have se:=(he X.s₀ X.H₀ []).sd
 have ok:=hJ (fzOf H1 B) (jhj H1 B)
 have hLt:L≠C.t:=fun z=>R1.ba _ R1.bt (z▸hL)
 refine⟨fun i m ys τ H=>m=ds.length - i∧i≤ds.length∧ys.length≤i∧∃δ' n' acc,Rel ⟨C.t,C.l,C.ns,H1,B,fzOf H1 B⟩ H (fun b=>B b∨b=L) τ δ' n'∧jg1 δ'∧H L=some (.lst ys)∧RdXs H (fun b=>B b∨b=L) ys acc∧jcy gd cc we Q (ds.drop i) acc δ' n',
  ⟨ds.length,by simp,Nat.zero_le _,Nat.zero_le _,jk8 fr δ,n1,[],jt1 R1 hL,ju8 fr δ,jar,.nil,by simpa using q1⟩,?_⟩
 rintro i m ys τ H2 ⟨rfl,hi,hys,δ2,n2,acc,R2,no2,hL2,rd2,q2⟩
 have hfz:∀b o,fzOf H1 B b=some o→H2 b=some o:=fun b o e=>(R2.fz b o e).1
 by_cases hlt:i < ds.length
 ·rw[List.drop_eq_getElem_cons hlt]at q2
  refine .inr ⟨ok.go i H2 hfz hlt,Nat.lt_of_lt_of_le (Nat.lt_of_le_of_lt hys hlt) ok.le,fun x H' hy=>?_⟩
  obtain⟨sm,rd⟩:=ok.yld i H2 x H' ds[i] hfz (List.getElem?_eq_getElem hlt) hy
  have R3:=R2.same sm
  refine sg _ H' _ τ δ2 n2 x ds[i] _ _ R3 (rd _ (fun b o e=>(R2.fz b o e).2) R2.ba) (hno _ _ _ no2 q2) fun τ3 δ3 R4 ⟨no3,q4⟩=>?_
  refine st _ H' _ τ3 δ3 n2 _ _ R4 q4 fun b H4 n4 R5 k5 q5=>?_
  have hL4:H4 L=some (.lst ys):=k5 _ _ (sm _ _ hL2) hLt
  have rd4:RdXs H4 (fun b=>B b∨b=L) ys acc:=(rd2.keep fun b o e _=>sm b o e).kp k5 R4.bt
  cases b with
  |false =>
   rw[if_neg Bool.false_ne_true]at q5 ⊢
   exact⟨ds.length - (i+1),by omega,rfl,hlt,by omega,δ3,n4,acc,R5,no3,hL4,rd4,q5⟩
  |true =>
   rw[if_pos rfl]at q5 ⊢
   refine se _ H4 _ τ3 δ3 n4 _ _ R5 q5 fun u y H5 n5 R6 k6 r6 q6=>?_
   cases y with
   |d y =>
    have hL5:H5 L=some (.lst ys):=k6 _ _ hL4 hLt
    refine⟨hL5,ds.length - (i+1),by omega,rfl,hlt,by rw[List.length_append,List.length_singleton];omega,δ3,n5,acc++[y],R6.mut (.inr rfl) hL fun j z e o=>absurd (no3 j z e) (by rw[o];exact fun q=>nomatch q),no3,jar,?_,q6⟩
    refine RdXs.keep (fun b o e n=>?_) ((rd4.kp k6 R5.bt).append (.cons r6 .nil))
    rw[jal fun(z:b=L)=>n (.inr z)]
    exact e
   |tp=>exact q6.elim
   |dk _=>exact q6.elim
   |ln _=>exact q6.elim
 ·have e:i=ds.length:=by omega
  subst e
  rw[List.drop_length]at q2
  refine .inl ⟨ok.stop H2 hfz,k L ys acc H2 n2 (R1.step R2.tp R2.kp) (k1.trans R2.kp) (R1.was k1 hL) hL2 (Nat.le_trans hys ok.le) rd2 q2⟩
end
noncomputable abbrev DTGs:=List PyData→Sl→(Sl→Prop)→Prop
noncomputable def j18 (g:TGs) (v:DTGs):Prop:=∀(C:Ctx) (H:Hp) (B:Addr→Prop) (σ:St) (δ:Sl) (n:Int) (xs:List V) (ds:List PyData) (Q:Sl→Prop) (Q':St→Hp→Prop),Rel C H B σ δ n→RdXs H B xs ds→v ds δ Q →
 (∀σ' δ',Rel C H B σ' δ' n→Q δ'→Q' σ' H)→g xs σ H Q'
structure DGs (X:Cx) (ts:List Expr) (g:TGs) (v:DTGs):Prop where
 pg:PGs X ts g
 sd:j18 g v
noncomputable def jc8:DTGs:=fun ds δ Q=>match ds with
 |[]=>Q δ
 |_=>False
noncomputable def jbc (v:DTG) (r:DTGs):DTGs:=fun ds δ Q=>match ds with
 |d::ds=>v d δ fun δ'=>r ds δ' Q
 |[]=>False
noncomputable def je7 (n:Nat) (r:DTGs):DTG:=fun d δ Q=>match d with
 |.tuple ds=>ds.length=n∧r ds δ Q
 |_=>False
theorem jnx:∀ds δ Q,jg1 δ→jc8 ds δ Q→jc8 ds δ fun δ'=>jg1 δ'∧Q δ':=fun ds δ Q h q=>by
 cases ds with
 |nil=>exact⟨h,q⟩
 |cons _ _=>exact q
theorem jgx {v:DTG} {r:DTGs} (mono:∀d δ (Q Q':Sl→Prop),(∀δ',Q δ'→Q' δ')→v d δ Q→v d δ Q') (hv:jis v) (hr:∀ds δ Q,jg1 δ→r ds δ Q→r ds δ fun δ'=>jg1 δ'∧Q δ'):∀ds δ Q,jg1 δ→jbc v r ds δ Q→jbc v r ds δ fun δ'=>jg1 δ'∧Q δ':=fun ds δ Q h q=>by
 cases ds with
 |nil=>exact q
 |cons d ds=>exact mono d δ _ _ (fun δ' z=>hr ds δ' Q z.1 z.2) (hv d δ _ h q)
theorem jzx {n:Nat} {r:DTGs} (hr:∀ds δ Q,jg1 δ→r ds δ Q→r ds δ fun δ'=>jg1 δ'∧Q δ'):jis (je7 n r):=fun d δ Q h q=>by
 unfold je7 at q ⊢
 split at q
 ·exact⟨q.1,hr _ _ _ h q.2⟩
 ·exact q.elim
theorem jxi (i j n:Nat):jis (je7 n (jbc (jai i) (jbc (jai j) jc8))) :=
 jzx (jgx (fun _ _ _ _ h q=>h _ q) (jby i) (jgx (fun _ _ _ _ h q=>h _ q) (jby j) jnx))
section
variable {X:Cx} {pos:Pos}
theorem jhz:DGs X [] gNil jc8:=⟨jw5,fun C H B σ δ n xs ds Q Q' R r q k=>by
 cases r with
 |nil=>exact⟨rfl,k σ δ R q⟩
 |cons _ _=>exact q.elim⟩
end
section
variable {X:Cx} {pos:Pos}
theorem jb4 {e:Expr} {es:List Expr} {t:TG} {u:TGs} {v:DTG} {r:DTGs} (h1:DG X e t v) (h2:DGs X es u r)
  (hs:(assignEach (e::es) X.env).map (·.2)=assign e X.env::(assignEach es X.env).map (·.2):=by rfl):DGs X (e::es) (j0k t u) (jbc v r):=⟨jub h1.pg h2.pg hs,fun C H B σ δ n xs ds Q Q' R rr q k=>by
 cases rr with
 |nil=>exact q.elim
 |cons r1 r2=>exact⟨_,_,rfl,h1.sd C H B σ δ n _ _ _ _ R r1 q fun σ' δ' R' q'=>h2.sd C H B σ' δ' n _ _ _ _ R' r2 q' k⟩⟩
theorem j1r {es:List Expr} {k:Nat} {t:TGs} {n:Nat} {r:DTGs} (h:DGs X es t r) (hc:X.calm=true:=by rfl)
  (hn:(assignEach es X.env).length=n:=by rfl) (hst:(assignEach es X.env).findIdx? (·.1)=none:=by rfl):DG X (.Tuple es k pos) (gTup X.K n t) (je7 n r):=⟨jze hc h.pg hn hst,fun C H B σ δ n' x d Q Q' R rr q k=>by
 unfold je7 at q
 split at q
 ·rename_i ds
  cases rr with
  |@tup ay ys _ e1 e2 e3 e4=>exact⟨ay,ys,rfl,SqT.of e1,by rw[e4.len];exact q.1,h.sd C H B σ δ n' _ _ _ _ R e4 q.2 k⟩
 ·exact q.elim⟩
noncomputable def jwl:List PyData→Option (List Str)
 |[]=>some []
 |.str b::r=>(jwl r).map (b::·)
 |_::_=>none
noncomputable def j2b (w w':DT):DT:=fun δ n Q=>w δ n fun x n1=>match x with
 |.d (.str z)=>w' δ n1 fun y n2=>match y with
  |.d (.list ds)=>match jwl ds with
   |some ys=>(ys.map (·.length)).sum+ys.length*z.length≤16777216∧Q (.d (.str (Txt.join z ys))) n2
   |none=>False
  |.d (.tuple ds)=>match jwl ds with
   |some ys=>(ys.map (·.length)).sum+ys.length*z.length≤16777216∧Q (.d (.str (Txt.join z ys))) n2
   |none=>False
  |_=>False
 |_=>False
noncomputable def sPut (i:Nat) (wj w:DT):DST:=fun δ n K=>match δ[i]? with
 |some (some (.own ds))=>w δ n fun x n1=>wj δ n1 fun j n2=>match x,j with
  |.d d,.d (.int k)=>match ixN ds.length k with
   |some m=>K.nx (δ.set i (some (.own (ds.set m d)))) n2
   |none=>False
  |_,_=>False
 |_=>False
theorem j1d {i:Nat} {x:Str} {xp sp:Pos} {j e:Expr} {tj te:TE} {wj we:DT} (hN:X.N[i]?=some x) (hj:DE X j tj wj) (he:DE X e te we) (hv:Vis X.env.scope x:=by first | exact Or.inl rfl | exact Or.inr (Or.inl rfl) | exact Or.inr (Or.inr rfl)) (hd:(x==("__debug__":Str))=false:=by decide)
  (hcd:(x==("__classdict__":Str))=false:=by decide)
  (ha:∀v,assign (.Subscript (.Name x xp) j sp) X.env v=(do
   let ov ←holding [v] (eval (.Name x xp) X.env)
   let iv ←holding [v,ov] (eval j X.env)
   standAt sp
   holding [v,ov,iv] (setItem ov iv v)
   release [v,ov,iv] []):=by intro _;rfl)
  (hs:swapsWithSole [.Subscript (.Name x xp) j sp] e pos.line X.env=pure false:=by rfl) (hw:swappedStores [.Subscript (.Name x xp) j sp] e X.env=pure none:=by rfl)
  (h1:(assignEach [.Subscript (.Name x xp) j sp] X.env).map (·.2)=[assign (.Subscript (.Name x xp) j sp) X.env]:=by rfl) :
  DS X (.Assign [.Subscript (.Name x xp) j sp] e pos) (tAsg te (gSub (tVar i) tj jy5)) (sPut i wj we) :=
 ⟨jl3 he.pe (joa (je9 hN hv hd hcd) hj.pe jhg ha) hs hw h1,fun C H B σ δ n K D R q E=>by
  unfold sPut at q
  split at q
  ·rename_i ds ei
   refine he.sd C H B σ δ n _ _ R q fun u y H1 n1 R1 k1 r1 q1=>?_
   obtain⟨v,hv,a,xs,rfl,e2,e3,e4,e5,e6⟩:=R1.sl i _ ei
   refine⟨_,hv,hj.sd C H1 B σ δ n1 _ _ R1 q1 fun w z H2 n2 R2 k2 r2 q2=>?_⟩
   split at q2
   ·rename_i d k
    split at q2
    ·rename_i m em
     cases(show RdX H2 B w (.int k)from r2)
     have hat:a≠C.t:=fun z=>R.t0 (z▸e4)
     have e2':=k2 _ _ e2 hat
     have r1':RdX H2 B u d:=r1.kp k2 R1.bt
     refine⟨a,xs,k,m,rfl,rfl,e2',by rw[e6.len];exact em,?_⟩
     refine E.nx _ _ _ _ _ (R2.mutOwn ei rfl hv e3 e4 ?_ rfl) q2
     refine⟨a,xs.set m u,rfl,jar,e3,e4,by rw[List.length_set];exact e5,?_⟩
     refine RdXs.keep (fun b o e n=>?_) (RdXs.set m (e6.kp k2 R1.bt) r1')
     rw[jal fun(z:b=a)=>n (z▸e3)]
     exact e
    ·exact q2.elim
   ·exact q2.elim
  ·exact q.elim⟩
end
structure Has (P:Program) (w:World) (K:PySem.W.Frag) (mg:Str→Option Value) (base:Heap) (k:Nat) (x:Str) (ps:List Str) (S:DSp):Prop where
 ex:∃(f:Addr) (fd:FuncData),FnOk P w K mg base CX0 k f fd ps (spOf S)∧Binds K fd ps []∧mg x=some (.ref f)∧PySem.W.keepIn K (.ref f)=true
section
variable {P:Program} {w:World} {K:PySem.W.Frag} {mg:Str→Option Value} {base:Heap}
theorem Has.mk' {k:Nat} {x qual:Str} {st:Stmt} {ps:List Str} {S:DSp} {f:Addr} {fd:FuncData} (F:Fun K x qual st f fd) (m:mg x=some (.ref f)) (b:Binds K fd ps []) (h:FnOk P w K mg base CX0 k f fd ps (spOf S)):Has P w K mg base k x ps S:=⟨f,fd,h,b,m,F.kp⟩
end
theorem jaj {X:Cx} {e:Expr} {es:List Expr} {pos p:Pos} {tR:TA} {wR:DTA} {k:Nat} {ps:List Str} {S:DSp} {x:Str} (h:Has X.prog X.w X.K X.mg X.base k x ps S) (hr:Room k X.A) (hg:Gl X x)
  (ha:DA X (e::es) tR wR) (hdb:(x==("__debug__":Str))=false:=by decide) (he:starEach (e::es) X.env=(false,eval e X.env)::starEach es X.env:=by rfl) (hpl:(backTo pos (starEach es X.env)).any (·.1)=false:=by rfl) :
  DE X (.Call (.Name x p) (e::es) [] pos) (jqa (spOf S) [] E0 tR) (jaq S wR):=by
 obtain⟨f,fd,h1,h2,h3,h4⟩:=h.ex
 exact j0u h1 hr hg h3 h4 h2 ha hdb he hpl
theorem jcf {cl cells:List (Str×Addr)} (h:∀y∈cl,cells.lookup y.1=some y.2):∀x c,cl.lookup x=some c→cells.lookup x=some c:=fun x c e=>h _ (je2 e)
noncomputable def jau:DSp:=fun ws n Q=>match ws with
 |[.tp,.d (.int many)]=>(n < 2 ^ 40∧0 < many∧many < 1073741824)∧∀r:Int,0≤r→r < many→Q (.d (.int r)) (n+1)
 |_=>False
section
variable {P:Program} {w:World} {K:PySem.W.Frag} {mg:Str→Option Value} {base:Heap}
theorem ju1 {k:Nat} {f:Addr} {fd:FuncData} {ps:List Str} (h:FnOk P w K mg base CX0 k f fd ps jvk):FnOk P w K mg base CX0 k f fd ps (spOf jau):=h.imp fun vs H Q E hs=>by
 obtain⟨t,l,ns,B,ws,n,Q0,T,bt,ba,r,q,kk⟩:=hs
 unfold jau at q
 split at q
 ·rename_i many
  cases r with
  |cons r1 r2 =>
   cases r2 with
   |cons r3 r4 =>
    cases r4
    cases(show _=V.ref t from r1)
    cases(show RdX H B _ (.int many)from r3)
    exact⟨t,l,ns,n,many,rfl,T,q.1.1,q.1.2.1,q.1.2.2,fun r H' h0 h1 T' k'=>kk _ _ (q.2 r h0 h1) _ H' T' k' (.int r)⟩
 ·exact q.elim
noncomputable def spLaw (K:PySem.W.Frag):Sp:=fun vs H Q _=>∃(a:Addr) (ns:List Int),vs=[.ref a]∧SqL K H a (ns.map V.int)∧ns.length≤63∧∀H',Q (.bl true) H'
noncomputable def jkw:DEnds:={ nx:=fun _ _=>False,rt:=fun w _=>w=.d (.bool true)}
theorem jwz {H:Hp} {t:Addr} {l:TL} {ns:List Int} {a:V} {k:Nat} (T:Tp H t l ns 0):Rel ⟨t,l,ns,H,fun b=>b=t,fun _=>none⟩ H (fun b=>b=t) (some a::some (.ref t)::List.replicate k none) (none::some (.w .tp)::List.replicate k none) 0 where
 tp:=T
 kp:=Kp.refl _ _
 t0:=by
  obtain⟨_,_,h,_⟩:=T.ob
  show H t≠none
  rw[h]
  exact fun z=>nomatch z
 l0:=by
  show H l.s≠none
  rw[T.ls]
  exact fun z=>nomatch z
 g0:=fun e=>by
  show H l.g≠none
  rw[T.ag e]
  exact fun z=>nomatch z
 fz:=fun b o e=>nomatch e
 bt:=rfl
 b0:=fun _ z=>z
 ba:=fun b z=>by
  obtain⟨_,_,h,_⟩:=T.ob
  rw[z,h]
  exact fun z=>nomatch z
 a0:=fun b z=>by
  obtain⟨_,_,h,_⟩:=T.ob
  show H b≠none
  rw[show b=t from z,h]
  exact fun z=>nomatch z
 sl:=fun i x e=>by
  rcases i with _ | _ | i
  ·cases e
  ·cases e
   exact⟨_,rfl,rfl,fun z=>by cases z⟩
  ·have e':(List.replicate k (none:Option SV))[i]?=some (some x):=e
   rw[List.getElem?_replicate]at e'
   split at e'
   ·cases e'
   ·cases e'
 ow:=fun i j x y v e1 e2 o1 o2 f1 f2=>by
  rcases i with _ | _ | i
  ·cases e1
  ·cases e1
   cases o1
  ·have e':(List.replicate k (none:Option SV))[i]?=some (some x):=e1
   rw[List.getElem?_replicate]at e'
   split at e'
   ·cases e'
   ·cases e'
 len:=by simp
theorem jz3 {f fT:Addr} {fd fdT:FuncData} {st:Stmt} {N:List Str} {k:Nat} {W:DST} (F:Fun K "law" "law" st f fd) (Sc:FnScope N ["_law_script"] (jao st))
  (GT:FnOk P w K mg base CX0 1 fT fdT ["_law_script"] (jn3 K)) (bT:Binds K fdT ["_law_script"] []) (mT:mg "_law_tape"=some (.ref fT)) (kT:PySem.W.keepIn K (.ref fT)=true)
  (hN:∀v,start N [v]=some v::none::List.replicate (N.length - 2) none)
  (hW:W (none::some (.w .tp)::List.replicate (N.length - 2) none) 0 jkw)
  (hbody:∀(cdv:Value) (A:Around) (outer:List Env) (s:Shared) (H:Hp) (E:XK),Room k (A.deeper (PyProof.Rows.envOfC "law" (jao st) s.heap.objs.size f cdv)) →
   ∃s0 rest T,jd7 st=s0::rest∧PS (cxOf CX0 P w K mg base N "law" (jao st) f cdv A outer s H E).nox s0 (tAsg (jqa (jn3 K) [] E0 (jds (tVar 0) tNil)) (jhb 1))∧DSs (cxOf CX0 P w K mg base N "law" (jao st) f cdv A outer s H E).nox rest T W) :
  FnOk P w K mg base CX0 (k+1) f fd ["_law_script"] (spLaw K):=by
 refine F.ok Sc (fun vs H Q E h=>?_) (fun cdv A outer s H vs Q E hr h=>?_)
 ·obtain⟨a,ns,rfl,_⟩:=h
  rfl
 ·obtain⟨a,ns,rfl,hS,hl,kk⟩:=h
  obtain⟨s0,rest,T,e,p0,d⟩:=hbody cdv A outer s H E hr
  rw[e]
  refine⟨_,jb2 p0 d.ps,?_⟩
  rw[hN]
  refine⟨_,rfl,a,ns,rfl,hS,hl,fun t l H1 T1 _=>?_⟩
  refine d.sd ⟨t,l,ns,H1,fun b=>b=t,fun _=>none⟩ H1 (fun b=>b=t) _ _ 0 jkw _ (jwz (a:=.ref a) (k:=N.length - 2) T1) hW ⟨?_,?_,?_,?_,fun _ _ _ _ _ _ _ _ _ _ _ _ _ z=>z.elim⟩
  ·exact fun _ _ _ _ _ _ z=>z.elim
  ·intro H B σ δ n v w R r z
   have z:w=.d (.bool true):=z
   subst z
   cases(show RdX H B v (.bool true)from r)
   exact kk H
  ·exact fun _ _ _ _ _ _ z=>z.elim
  ·exact fun _ _ _ _ _ _ z=>z.elim
end
section
variable {X:Cx} {elt tg iter:Expr} {ifs:List Expr} {scope:Scope} {cl:List (Str×Addr)} {cpos pos pos':Pos} {N:List Str} {fr:List (Option Nat)} {wi:TI} {v:DTI} {g:TG} {gd:DTG} {tt:TT} {cc:DTT} {te:TE} {we:DT} {i:Nat} {x:Str}
theorem jwn {t:TE} {w:DTF} (h:SndF t w):SndS (tAsg t (jhb i)) (sOwn i w):=fun C H B σ δ n K D R q E =>
 h C H B σ δ n _ _ R q fun a xs ds H1 n1 R1 k1 h0 h1 h2 h3 q1=>by
  refine E.nx _ _ _ _ _ (R.own R1 k1 h0 (by rw[h1];exact fun z=>nomatch z) rfl ?_) q1
  exact⟨a,xs,rfl,h1,.inr rfl,R.h0 h0,h2,h3⟩
theorem jwm {t:TE} {w:DT} (h:Snd t w):SndS (tAsg t (jhb i)) (sSet i w):=fun C H B σ δ n K D R q E =>
 h C H B σ δ n _ _ R q fun v x H1 n1 R1 _ r1 q1=>by
  cases x with
  |d d=>exact E.nx _ _ _ _ _ (R1.set r1 rfl) q1
  |tp=>exact E.nx _ _ _ _ _ (R1.set r1 rfl) q1
  |dk _=>exact q1.elim
  |ln _=>exact q1.elim
theorem jyu (hN:X.N.Nodup) (hix:X.N[i]?=some x) (hx:X.env.scope.names.lookup x=some .local) (hc:X.calm=true) (S:CompSc X N scope cl fr) (hi:DI X tg iter wi v) (hg:∀s H fp,DG (jbi X N scope cl s H fp) tg g gd) (ht:∀s H fp,DIf (jbi X N scope cl s H fp) ifs tt cc)
  (he:∀s H fp,DE (jbi X N scope cl s H fp) elt te we) (hno:jis gd) (hs:∀x,foldedSetIterable iter X.env x=pure x:=by intro _;rfl)
  (hsw:swapsWith (.ListComp elt [⟨tg,iter,ifs,0⟩] scope cpos) (some (.Name x pos')) pos.line X.env=pure true:=by rfl) :
  DS X (.Assign [.Name x pos'] (.ListComp elt [⟨tg,iter,ifs,0⟩] scope cpos) pos) (tAsg (jp9 fr wi g tt te) (jhb i)) (sOwn i (jbz fr v gd cc we)) :=
 ⟨jjw hN hix hx hc S hi.pi (fun s H fp=>(hg s H fp).pg) (fun s H fp=>(ht s H fp).pf) (fun s H fp=>(he s H fp).pe) hs hsw,jwn (jfd (pos:=cpos) hc S hi hg ht he hno hs).sd⟩
theorem jgt (hN:X.N.Nodup) (hix:X.N[i]?=some x) (hx:X.env.scope.names.lookup x=some .local) (hc:X.calm=true) (S:CompSc X N scope cl fr) (hi:DI X tg iter wi v) (hg:∀s H fp,DG (jbi X N scope cl s H fp) tg g gd) (ht:∀s H fp,DIf (jbi X N scope cl s H fp) ifs tt cc)
  (he:∀s H fp,DE (jbi X N scope cl s H fp) elt te we) (hno:jis gd) (hs:∀x,foldedSetIterable iter X.env x=pure x:=by intro _;rfl)
  (hsw:swapsWith (.ListComp elt [⟨tg,iter,ifs,0⟩] scope cpos) (some (.Name x pos')) pos.line X.env=pure true:=by rfl) :
  DS X (.Assign [.Name x pos'] (.ListComp elt [⟨tg,iter,ifs,0⟩] scope cpos) pos) (tAsg (jp9 fr wi g tt te) (jhb i)) (sSet i (wOf (jbz fr v gd cc we))) :=
 ⟨jjw hN hix hx hc S hi.pi (fun s H fp=>(hg s H fp).pg) (fun s H fp=>(ht s H fp).pf) (fun s H fp=>(he s H fp).pe) hs hsw,jwm (jfd (pos:=cpos) hc S hi hg ht he hno hs).d.sd⟩
end
section
variable {X:Cx} {tg a b c e:Expr} {ta tb tc te:TE} {wa wb wc we:DT} {pos p:Pos} {K:PySem.W.Frag}
theorem jap (ha:DE X a ta wa) (hb:DE X b tb wb) (hK:X.K=K:=by rfl) (hs:jlg b:=by exact fun _ _=>rfl):DE X (.Subscript a b pos) (tOp (rIx K) ta tb) (w2 wa wb gIx):=by subst hK;exact d_ix ha hb hs
noncomputable def rIsi (K:PySem.W.Frag) (T:String):List V→Hp→VK→Prop:=fun xs H Q=>∃x t b,xs=[x,.ty T]∧TyOf K H x t∧PySem.W.kitOne K t (.type T)=some b∧Q (.bl b) H
theorem jmt {T:String} {x:Str} {p p2:Pos} (hT:T="int"∨T="bool"∨T="str"∨T="tuple"∨T="list") (hg:Gl X "isinstance") (hm:X.mg "isinstance"=none) (hg2:Gl X x) (hm2:X.mg x=none) (hv:bootBuiltins x=some (.type T)) (ha:DE X a ta wa) (hK:X.K=K:=by rfl) (hn:x≠"__name__":=by decide) (hdb:(x==("__debug__":Str))=false:=by decide)
  (he:starEach [a,.Name x p2] X.env=(false,eval a X.env)::starEach [.Name x p2] X.env:=by rfl) (he2:starEach [.Name x p2] X.env=(false,eval (.Name x p2) X.env)::starEach [] X.env:=by rfl) (hpl:(backTo pos (starEach [.Name x p2] X.env)).any (·.1)=false:=by rfl) :
  DE X (.Call (.Name "isinstance" p) [a,.Name x p2] [] pos) (tCB (rIsi K T) (jds ta (jds (tC (.ty T)) tNil))) (wIsi T wa):=by subst hK;exact j1y hT hg hm hg2 hm2 hv ha hn hdb he he2 hpl
noncomputable def rEqK (K:PySem.W.Frag):R2:=fun x y H Q=>rEq x y H Q∨jt4 x y H Q∨jn9 K x y H Q
theorem ja7 (hu:X.A.units < cLine) (hK:X.K=K:=by rfl):OpR X (compareOp .Eq) (rEqK K):=by subst hK;exact jzu hu
theorem ja1:SndO (rEqK K) gEq:=jyp
theorem jfa (hK:X.K=K:=by rfl):OpR X (compareOp .In) (rIn K false):=by subst hK;exact jrr
theorem jhq (hK:X.K=K:=by rfl):OpR X (compareOp .NotIn) (rIn K true):=by subst hK;exact jl6
noncomputable def jw0 (K:PySem.W.Frag):List V→Hp→VK→Prop:=fun xs H Q=>(∃z,xs=[.str z]∧z.length≤sizeLine∧Q (.int z.length) H)∨∃p ys,xs=[.ref p]∧(SqL K H p ys∨SqT K H p ys)∧Q (.int ys.length) H
theorem ja0 (hK:X.K=K:=by rfl):CallR X (.builtin "len") (jw0 K):=by subst hK;exact jta
theorem jbq:SndB (jw0 K) gLen:=jwo
noncomputable def jng (K:PySem.W.Frag):List V→Hp→VK→Prop:=fun xs H Q=>∃p ys,xs=[.ref p]∧((SqL K H p ys∧∀l,H l=none→Q (.ref l) (upd H l (.tup ys)))∨(SqT K H p ys∧Q (.ref p) H))
theorem jaz (hK:X.K=K:=by rfl):CallR X (.type "tuple") (jng K):=by subst hK;exact jk9
theorem jbr:SndB (jng K) jcc:=jqo
noncomputable def jvn (K:PySem.W.Frag):List V→Hp→VK→Prop:=fun xs H Q=>∃p ys,xs=[.ref p]∧(SqL K H p ys∨SqT K H p ys)∧∀l,H l=none→Q (.ref l) (upd H l (.lst ys))
theorem jps (hK:X.K=K:=by rfl):CallR X (.type "list") (jvn K):=by subst hK;exact jmy
theorem jhy (ha:DE X a ta wa) (hK:X.K=K:=by rfl):DI X tg a (jxn K ta) (jgc wa):=by subst hK;exact j0h ha
theorem jdi (ha:DE X a ta wa) (hK:X.K=K:=by rfl):DI X tg a (iTup K ta) (jcg wa):=by subst hK;exact j1p ha
theorem jh2 {es:List Expr} {k:Nat} {t:TGs} {n:Nat} {r:DTGs} (h:DGs X es t r) (hc:X.calm=true:=by rfl) (hK:X.K=K:=by rfl)
  (hn:(assignEach es X.env).length=n:=by rfl) (hst:(assignEach es X.env).findIdx? (·.1)=none:=by rfl):DG X (.Tuple es k pos) (gTup K n t) (je7 n r):=by subst hK;exact j1r h hc hn hst
end
end DL
namespace KS
open PySem PySem.W PyProof.Rows
noncomputable def run {α:Type} (c:Nat→Nat→Bool):KasT α→α
 |.ret a=>a
 |.ask i j k=>run c (k (c i j))
noncomputable def Wi {α:Type} (n:Nat) (P:α→Prop):KasT α→Prop
 |.ret a=>P a
 |.ask i j k=>i < n∧j < n∧∀b,Wi n P (k b)
theorem Wi.bind {α β:Type} {n:Nat} {P:α→Prop} {R:β→Prop} {f:α→KasT β} (hf:∀a,P a→Wi n R (f a)):∀{t:KasT α},Wi n P t→Wi n R (t.bind f)
 |.ret a,h=>hf a h
 |.ask i j k,h=>⟨h.1,h.2.1,fun b=>Wi.bind hf (h.2.2 b)⟩
theorem Wi.out {α:Type} {n:Nat} {P:α→Prop} (c:Nat→Nat→Bool):∀{t:KasT α},Wi n P t→P (run c t)
 |.ret a,h=>h
 |.ask i j k,h=>Wi.out c (t:=k (c i j)) (h.2.2 (c i j))
theorem wp_run {α:Type} {n:Nat} {P:α→Prop} {cmp:Nat→Nat→(Bool→Shared→Prop)→Shared→Prop} {c:Nat→Nat→Bool} {St:Shared→Prop} {Q:α→Shared→Prop}
  (hc:∀i j C s,i < n→j < n→St s→(∀s',St s'→C (c i j) s')→cmp i j C s):∀(t:KasT α) (s:Shared),Wi n P t→St s→(∀s',St s'→Q (run c t) s')→t.kasWp cmp Q s
 |.ret a,s,_,hs,h=>h s hs
 |.ask i j k,s,w,hs,h=>hc i j _ s w.1 w.2.1 hs fun s' hs'=>wp_run hc (k (c i j)) s' (w.2.2 _) hs' h
noncomputable def Lo (n:Nat) (p:Array Nat):Prop:=∀i,p.getD i 0 < n
theorem jxr (p:Array Nat) (i:Nat):p.getD i 0=(p[i]?).getD 0:=by simp
theorem jz0 {n:Nat} {p:Array Nat} (hn:0 < n) (h:∀x∈p,x < n):Lo n p:=fun i=>by
 rw[jxr]
 cases e:p[i]? with
 |none=>exact hn
 |some x=>exact h x (Array.mem_of_getElem? e)
noncomputable def Pm (n:Nat) (p:Array Nat):Prop:=p.Perm (List.toArray (List.range n))
theorem Pm.size {n:Nat} {p:Array Nat} (h:Pm n p):p.size=n:=by rw[Array.Perm.size_eq h];simp
theorem Pm.lo {n:Nat} {p:Array Nat} (hn:0 < n) (h:Pm n p):Lo n p:=jz0 hn fun x hx=>by
 have:x∈List.toArray (List.range n):=(Array.Perm.mem_iff h).mp hx
 simpa using this
theorem Pm.rev {n:Nat} {p:Array Nat} (h:Pm n p) (i j:Nat):Pm n (kas_rev p i j):=(mirror_perm p i j _).trans h
theorem Pm.bub {n:Nat} {p:Array Nat} (h:Pm n p) (i j:Nat):Pm n (bubble p i j):=(bubble_perm p i j).trans h
section
variable {n:Nat} (hn:0 < n)
include hn
theorem jpz {p:Array Nat} (h:Lo n p):∀f m,Wi n (fun _=>True) (kas_asc p f m)
 |0,m=>trivial
 |f+1,m=>⟨h _,h _,fun b=>by
  cases b with
  |true=>exact trivial
  |false=>exact jpz h f (m+1)⟩
theorem jkd:∀f (p:Array Nat) m q,Pm n p→Wi n (fun r=>Pm n r.1) (kas_desc f p m q)
 |0,p,m,q,h=>h
 |f+1,p,m,q,h=>⟨h.lo hn _,h.lo hn _,fun b=>by
  cases b with
  |true =>
   show Wi n _ (if q > 0 then _ else _)
   split
   ·exact jkd f _ _ _ (h.rev _ _)
   ·exact jkd f _ _ _ h
  |false=>exact⟨h.lo hn _,h.lo hn _,fun d=>by
    cases d with
    |true=>exact h
    |false=>exact jkd f _ _ _ h⟩⟩
theorem jnz (m nrem:Nat) {p:Array Nat} (h:Pm n p):Wi n (fun r=>Pm n r.2) (kas_tail3 m nrem p):=by
 unfold kas_tail3
 refine Wi.bind (P:=fun _=>True) (fun a _=>?_) (jpz hn ((h.rev 0 m).lo hn) _ _)
 show Pm n (kas_rev p 0 m)
 exact h.rev _ _
theorem jhh (m nrem:Nat) {p:Array Nat} (h:Pm n p):Wi n (fun r=>Pm n r.2) (kas_descPart m nrem p) :=
 Wi.bind (fun r hr=>by
  show Wi n _ (if r.2.2 > 0 then _ else _)
  split
  ·exact jnz hn _ _ (Pm.rev hr _ _)
  ·exact jnz hn _ _ hr) (jkd hn _ p _ _ h)
theorem jtm (nrem:Nat) {p:Array Nat} (h:Pm n p):Wi n (fun r=>Pm n r.2) (kas_count nrem p) :=
 Wi.bind (fun m _=>by
  show Wi n _ (if (m==nrem)=true then _ else if m > 1 then _ else _)
  split
  ·exact h
  ·split
   ·exact⟨h.lo hn _,h.lo hn _,fun b=>by
     cases b with
     |true=>exact h
     |false=>exact jhh hn _ _ (h.rev _ _)⟩
   ·exact jhh hn _ _ h) (jpz hn (h.lo hn) _ _)
theorem jkc {p:Array Nat} (h:Lo n p) (k:Nat):∀f l r,Wi n (fun _=>True) (kas_place p k f l r)
 |0,l,r=>trivial
 |f+1,l,r=>by
  show Wi n _ (if l ≥ r then _ else _)
  split
  ·exact trivial
  ·exact⟨h _,h _,fun b=>by
    cases b with
    |true=>exact jkc h k f _ _
    |false=>exact jkc h k f _ _⟩
theorem jvg:∀f (p:Array Nat) k,Pm n p→Wi n (Pm n) (kas_bin f p k)
 |0,p,k,h=>h
 |f+1,p,k,h=>Wi.bind (fun l _=>jvg f _ _ (h.bub _ _)) (jkc hn (h.lo hn) k _ _ _)
theorem wi_sort:Wi n (Pm n) (kas_sort n) :=
 Wi.bind (fun r hr=>by
  show Wi n _ (if r.1 < n then _ else _)
  split
  ·exact jvg hn _ _ _ hr
  ·exact hr) (jtm hn n (Array.Perm.refl _))
end
theorem pwT {α:Type}:∀l:List α,l.Pairwise fun _ _=>True
 |[]=>.nil
 |a::r=>.cons (fun _ _=>True.intro) (pwT r)
end KS
namespace KS
open PySem PySem.W PySem.Calls PyProof.Rows
section
variable {prog:Program} {w:World} {A:Around} {E:Value→Shared→Prop} {s:Shared} {a:Addr} {vs:List Value}
theorem ls_sort {n:Nat} {P:PySem.Fin→Shared→Prop} (ho:s.heap.get? a=some (seqObj "list" vs.toArray n)) (h2:2≤vs.length) (h64:vs.length < 64)
  (h:∀e1 h',h'.get? a=some (seqObj "list" #[] e1)→(∀b o,b≠a→s.heap.get? b=some o→h'.get? b=some o) →
   wpAny (model prog w) A (keyKind' vs.toArray) (fun κ s'=>(kas_sort vs.length).kasWp (kas_ask prog w A κ vs)
    (fun p s''=>s''.heap.get? a=some (seqObj "list" #[] e1)∧∀h3 c,Heap.SameBut a s''.heap h3→h3.get? a=some (seqObj "list" (List.toArray (p.toList.map fun i=>vs.getD i Value.none)) c)→P (.done (.ret .none)) {s'' with heap:=h3}) s') (fun _ _=>False) {s with heap:=h'}) :
  wpAny (model prog w) A (Builtin.«list.sort» ⟨[.ref a],[]⟩) P E s:=by
 have ha:a < s.heap.objs.size:=Heap.lt_size ho
 have s1:=Heap.SameBut.update s.heap a (Obj.mapSeq fun _=>(#[]:Array Value))
 obtain⟨e1,ho1⟩:∃e1,(s.heap.update a (Obj.mapSeq fun _=>(#[]:Array Value))).get? a=some (seqObj "list" #[] e1):=⟨_,get?_update_seq ho fun _=>#[]⟩
 have ask:=h e1 (((s.heap.update a (Obj.mapSeq fun _=>(#[]:Array Value))).push (seqObj "tuple" vs.toArray 0)).push (seqObj "list" #[] 0)) (Heap.get?_push_of_some _ (Heap.get?_push_of_some _ ho1))
  fun b o hb e=>Heap.get?_push_of_some _ (Heap.get?_push_of_some _ ((s1.2 b hb).trans e))
 rw[list_sort_plain]
 refine wpAny_bind (listItems_at ho rfl ?_)
 refine wpAny_bind (listUpdate_at ho rfl ?_ (by rw[List.size_toArray,sizeLine_eq];omega) (Nat.zero_le _))
 refine wpAny_bind (seqEpoch_at ho1 rfl ?_)
 refine wpAny_bind (wpAny_newTuple ?_ (by show vs.length≤_;rw[sizeLine_eq];omega))
 refine wpAny_bind (wpAny_newList ?_ (Nat.zero_le _))
 refine wpAny_holding ?_
 show wpAny (model prog w) A _ P E {s with heap:=((s.heap.update a (Obj.mapSeq fun _=>(#[]:Array Value))).push (seqObj "tuple" vs.toArray 0)).push (seqObj "list" #[] 0)}
 dsimp only
 have hn2:¬vs.toArray.size < 2:=by rw[List.size_toArray];omega
 rw[if_neg hn2,if_neg hn2]
 refine wpAny_bind (wpAny_mono ask (fun κ s0 hk=>?_) fun _ _ x=>x.elim)
 refine wpAny_bind (wpAny_mono (kat_run (Q:=fun st' s'=>∃p:Array Nat,p.size=vs.length∧arrOf st'=p.map (kas_item (vs.toArray.zip vs.toArray))∧failedOf st'=none∧s'.heap.get? a=some (seqObj "list" #[] e1)∧∀h3 c,Heap.SameBut a s'.heap h3→h3.get? a=some (seqObj "list" (List.toArray (p.toList.map fun i=>vs.getD i Value.none)) c)→P (.done (.ret .none)) {s' with heap:=h3})
  rfl h2 h64 (fun p' st' s' a1 a2 a3 a4=>⟨p',a1,a2,a3,a4⟩) hk) ?_ fun _ _ e=>e)
 rintro⟨⟨⟩,st'⟩ s' ⟨p,hp,har,hf,na,k⟩
 dsimp only
 have hout:=kat_snds rfl har
 have hsz:(List.toArray (p.toList.map fun i=>vs.getD i Value.none)).size=vs.length:=by rw[List.size_toArray,List.length_map,Array.length_toList,hp]
 rw[hout]
 have s2:=Heap.SameBut.update s'.heap a (Obj.mapSeq fun _=>List.toArray (p.toList.map fun i=>vs.getD i Value.none))
 obtain⟨c2,hc2⟩:∃c2,(s'.heap.update a (Obj.mapSeq fun _=>List.toArray (p.toList.map fun i=>vs.getD i Value.none))).get? a=some (seqObj "list" (List.toArray (p.toList.map fun i=>vs.getD i Value.none)) c2):=⟨_,get?_update_seq na fun _=>List.toArray (p.toList.map fun i=>vs.getD i Value.none)⟩
 refine wpAny_bind (seqEpoch_at na rfl ?_)
 refine wpAny_bind (listUpdate_at na rfl ?_ (Nat.zero_le _) (Nat.le_trans (Nat.le_of_eq hsz) (by rw[sizeLine_eq];omega)))
 rw[hf]
 simp only[bne_self_eq_false,Bool.false_eq_true,if_false]
 exact wpAny_pure (k _ c2 s2 hc2)
theorem ls_short {n:Nat} {P:PySem.Fin→Shared→Prop} (ho:s.heap.get? a=some (seqObj "list" vs.toArray n)) (h2:vs.length < 2)
  (h:∀h' c,h'.get? a=some (seqObj "list" vs.toArray c)→(∀b o,b≠a→s.heap.get? b=some o→h'.get? b=some o)→P (.done (.ret .none)) {s with heap:=h'}) :
  wpAny (model prog w) A (Builtin.«list.sort» ⟨[.ref a],[]⟩) P E s:=by
 have ha:a < s.heap.objs.size:=Heap.lt_size ho
 have s1:=Heap.SameBut.update s.heap a (Obj.mapSeq fun _=>(#[]:Array Value))
 obtain⟨e1,ho1⟩:∃e1,(s.heap.update a (Obj.mapSeq fun _=>(#[]:Array Value))).get? a=some (seqObj "list" #[] e1):=⟨_,get?_update_seq ho fun _=>#[]⟩
 have ho6:(((s.heap.update a (Obj.mapSeq fun _=>(#[]:Array Value))).push (seqObj "tuple" vs.toArray 0)).push (seqObj "list" #[] 0)).get? a=some (seqObj "list" #[] e1):=Heap.get?_push_of_some _ (Heap.get?_push_of_some _ ho1)
 rw[list_sort_plain]
 refine wpAny_bind (listItems_at ho rfl ?_)
 refine wpAny_bind (listUpdate_at ho rfl ?_ (by rw[List.size_toArray,sizeLine_eq];omega) (Nat.zero_le _))
 refine wpAny_bind (seqEpoch_at ho1 rfl ?_)
 refine wpAny_bind (wpAny_newTuple ?_ (by show vs.length≤_;rw[sizeLine_eq];omega))
 refine wpAny_bind (wpAny_newList ?_ (Nat.zero_le _))
 refine wpAny_holding ?_
 show wpAny (model prog w) A _ P E {s with heap:=((s.heap.update a (Obj.mapSeq fun _=>(#[]:Array Value))).push (seqObj "tuple" vs.toArray 0)).push (seqObj "list" #[] 0)}
 dsimp only
 have hn2:vs.toArray.size < 2:=by rw[List.size_toArray];omega
 rw[if_pos hn2,if_pos hn2]
 refine wpAny_bind (wpAny_pure ?_)
 rw[StateT.run_pure]
 refine wpAny_bind (wpAny_pure ?_)
 dsimp only
 refine wpAny_bind (seqEpoch_at ho6 rfl ?_)
 refine wpAny_bind (listUpdate_at ho6 rfl ?_ (hsz2:=by rw[Array.size_map];show(pairsOf vs).size≤_;rw[pairsOf_size,sizeLine_eq];omega))
 simp only[bne_self_eq_false,Bool.false_eq_true,if_false]
 have e:(arrOf (SortSt.mk' general' (vs.toArray.zip vs.toArray) #[] 7 none)).map (·.2)=vs.toArray:=by
  show(vs.toArray.zip vs.toArray).map (·.2)=vs.toArray
  apply Array.toList_inj.mp
  simp only[Array.toList_map,Array.toList_zip]
  exact List.map_snd_zip (Nat.le_refl _)
 have s2:=Heap.SameBut.update (((s.heap.update a (Obj.mapSeq fun _=>(#[]:Array Value))).push (seqObj "tuple" vs.toArray 0)).push (seqObj "list" #[] 0)) a (Obj.mapSeq fun _=>(arrOf (SortSt.mk' general' (vs.toArray.zip vs.toArray) #[] 7 none)).map (·.2))
 refine wpAny_pure (h _ _ (by rw[e];exact get?_update_seq ho6 fun _=>vs.toArray) fun b o hb q=>(s2.2 b hb).trans (Heap.get?_push_of_some _ (Heap.get?_push_of_some _ ((s1.2 b hb).trans q))))
theorem sorted_of {r:Value} {Q:Value→Shared→Prop} {R:List Value→Shared→Prop} (hcol:wpAny (model prog w) A.in1 (collect r) R E s)
  (h:∀vs s1,R vs s1→vs.length≤sizeLine∧wpAny (model prog w) A.in1.in1 (Builtin.«list.sort» ⟨[.ref s1.heap.objs.size],[]⟩) (fun f s2=>f=.done (.ret .none)∧Q (.ref s1.heap.objs.size) s2) E {s1 with heap:=s1.heap.push (seqObj "list" vs.toArray 0)}) :
  wpAny (model prog w) A (call (.builtin "sorted") [r]) Q E s:=by
 refine Calls.call_function_entry kind_sorted plain_sorted entry_sorted (args_sorted1 _) ?_
 unfold Builtin.«sorted»
 refine wpAny_bind (m:=checkCount "sorted" 1 1 _) (wpAny_pure ?_)
 refine wpAny_bind (wpAny_mono hcol (fun vs s1 hr=>?_) fun _ _ e=>e)
 obtain⟨hl,hs⟩:=h vs s1 hr
 refine wpAny_bind (wpAny_newList ?_ hl)
 have hoL:(s1.heap.push (seqObj "list" vs.toArray 0)).get? s1.heap.objs.size=some (seqObj "list" vs.toArray 0):=Heap.get?_push_size _ rfl
 refine wpAny_bind (wpAny_holding (wpAny_call_entry (s:={ s1 with heap:=s1.heap.push (seqObj "list" vs.toArray 0)}) slot_list_sort ⟨_,hoL,rfl⟩ entry_list_sort ?body (args_list_sort _)))
 case body =>
  refine wpAny_mono hs (fun f s2 hf=>?_) fun _ _ e=>e
  obtain⟨rfl,hq⟩:=hf
  exact⟨_,rfl,wpAny_pure ⟨_,rfl,hq⟩⟩
noncomputable def ItsOk (h:Heap) (as:List Addr) (ks:List Str) (xs:List Value):Prop :=
 as.length=ks.length∧as.length=xs.length∧∀(j:Nat) (a:Addr),as[j]?=some a→∃k t x,ks[j]?=some k∧xs[j]?=some x∧h.get? a=some {cls:=.type "tuple",data:=.seq #[.str k t,x]}
noncomputable def ltK (ks:List Str) (i j:Nat):Bool:=decide ((ks.getD i ⟨#[]⟩).cps.toList < (ks.getD j ⟨#[]⟩).cps.toList)
theorem katTups {h:Heap}:∀{as:List Addr} {ks:List Str} {xs:List Value},ItsOk h as ks xs→∃fs:List Value,KatTups h (as.map Value.ref) fs∧fs.length=as.length∧∀f∈fs,∃k t,f=.str k t
 |[],ks,xs,_=>⟨[],trivial,rfl,fun f hf=>nomatch hf⟩
 |a::as,ks,xs,I=>by
  obtain⟨l1,l2,hp⟩:=I
  obtain⟨k,t,x,e1,e2,e3⟩:=hp 0 a rfl
  cases ks with
  |nil=>cases e1
  |cons k0 ks =>
   cases xs with
   |nil=>cases e2
   |cons x0 xs =>
    obtain⟨fs,f1,f2,f3⟩:=katTups (h:=h) (as:=as) (ks:=ks) (xs:=xs) ⟨by simpa using l1,by simpa using l2,fun j b hb=>by
     obtain⟨k',t',x',g1,g2,g3⟩:=hp (j+1) b (by simpa using hb)
     exact⟨k',t',x',by simpa using g1,by simpa using g2,g3⟩⟩
    refine⟨.str k t::fs,.cons e3 rfl rfl rfl f1,by simp[f2],fun f hf=>?_⟩
    rcases List.mem_cons.mp hf with rfl | z
    ·exact⟨k,t,rfl⟩
    ·exact f3 f z
end
section
variable {prog:Program} {w:World} {A:Around} {E:Value→Shared→Prop} {s:Shared} {a:Addr} {as:List Addr} {ks:List Str} {xs:List Value}
theorem ask_items (hI:ItsOk s.heap as ks xs) (nd:ks.Nodup) (hx:∀x∈xs,∀(s:Shared),SeqAt.EqAt A s x x true) {i j:Nat} (hi:i < as.length) (hj:j < as.length) {C:Bool→Shared→Prop} (h:C (ltK ks i j) s) :
  kas_ask prog w A (tuples' true) (as.map Value.ref) i j C s:=by
 obtain⟨l1,l2,hp⟩:=hI
 obtain⟨k1,t1,x1,e1,e2,e3⟩:=hp i as[i] (List.getElem?_eq_getElem hi)
 obtain⟨k2,t2,x2,f1,f2,f3⟩:=hp j as[j] (List.getElem?_eq_getElem hj)
 unfold kas_ask
 have g1:(as.map Value.ref).getD i Value.none=.ref as[i]:=by simp[hi]
 have g2:(as.map Value.ref).getD j Value.none=.ref as[j]:=by simp[hj]
 rw[g1,g2]
 have c1:ks.getD i ⟨#[]⟩=k1:=by simp[e1]
 have c2:ks.getD j ⟨#[]⟩=k2:=by simp[f1]
 have hc:ltK ks i j=decide (k1.cps.toList < k2.cps.toList):=by unfold ltK;rw[c1,c2]
 rw[hc]at h
 refine kat_lt e3 rfl f3 rfl ?_
 refine kat_cons (wpAny_eqBool_str ?_)
 by_cases e:k1=k2
 ·rw[decide_eq_true e]
  have hij:i=j:=by
   have hi':i < ks.length:=by omega
   have hj':j < ks.length:=by omega
   have q1:ks[i]=k1:=by have:=List.getElem?_eq_getElem hi';rw[e1]at this;exact(Option.some.inj this).symm
   have q2:ks[j]=k2:=by have:=List.getElem?_eq_getElem hj';rw[f1]at this;exact(Option.some.inj this).symm
   exact(List.getElem_inj nd).mp (q1.trans (e.trans q2.symm))
  subst hij
  rw[e2]at f2
  cases f2
  refine kat_yes (kat_cons ?_)
  refine hx x1 (List.mem_of_getElem? e2) s _ _ _ _ ?_
  refine kat_yes (kat_nil ?_)
  rw[e]at h
  have:decide (k2.cps.toList < k2.cps.toList)=false:=decide_eq_false (List.lt_irrefl _)
  rw[this]at h
  exact h
 ·rw[decide_eq_false e]
  exact kat_no (oneLt_str h)
end
end KS
namespace L2
open PySem PySem.Spec PyProof.Rows PySem.W
noncomputable def jli (d v:Addr):HO:=.ext fun h=>h.get? v=some {cls:=.type "dict_items",data:=.fields #[.ref d]}
theorem juk {X:Cx}:MtR X "dict.items" (fun x vs H Q=>∃d kvs,x=.ref d∧vs=[]∧H d=some (.dK kvs)∧∀v,H v=none→Q (.ref v) (upd H v (jli d v))):=by
 intro pins s σ H x xs v us Q I rx rv h
 obtain⟨d,kvs,rfl,rfl,hd,q⟩:=h
 cases rx
 cases rv.zero
 obtain⟨z,hsys,vs',rel,hD⟩:=I.hok d _ hd
 refine call_meetsIn PySem.F.slot_dict_items hD.typeIs PySem.F.entry_dict_items (PySem.F.args_dict_items_1 _) (meets_dict_items (jbf X.prog X.w) d hsys) ⟨⟨vs',hD⟩,?_⟩
 have e:(s.heap.push ({cls:=.type "dict_items",data:=.fields #[.ref d]}:Obj)).get? s.heap.objs.size=some {cls:=.type "dict_items",data:=.fields #[.ref d]}:=Heap.get?_push_size _ rfl
 exact⟨.ref s.heap.objs.size,_,I.laid (t':=s.toks) (o:=jli d s.heap.objs.size) (fun b ob q=>Heap.get?_push_of_some _ q) (Nat.le_refl _) ⟨e,⟨_,e⟩,fun h1 h2 q k=>k _ q⟩,rfl,q _ (I.hok.fresh (Nat.le_refl _))⟩
noncomputable def IxV (as:List Addr) (ks:List Str) (xv:List V) (i:Nat):Addr×Str×V:=(as.getD i 0,ks.getD i ⟨#[]⟩,xv.getD i .non)
noncomputable def newH (H:Hp) (D:Addr) (l:List V) (as:List Addr) (ks:List Str) (xv:List V):Hp:=fun b=>if b=D then some (.lst l)else match as.idxOf? b with
 |some j=>some (.tup [.str (ks.getD j ⟨#[]⟩),xv.getD j .non])
 |none=>H b
theorem je3 {as:List Addr} {b:Addr} {j:Nat} (h:as.idxOf? b=some j):as[j]?=some b:=by
 unfold List.idxOf? at h
 obtain⟨h1,h2,_⟩:=List.findIdx?_eq_some_iff_getElem.mp h
 rw[List.getElem?_eq_getElem h1]
 rw[beq_iff_eq]at h2
 rw[h2]
theorem jpf {as:List Addr} {b:Addr} (h:as.idxOf? b=none):b∉as:=fun hb=>by
 unfold List.idxOf? at h
 rw[List.findIdx?_eq_none_iff]at h
 have:=h b hb
 simp at this
theorem jsj {as:List Addr} (nd:as.Nodup) {j:Nat} {a:Addr} (h:as[j]?=some a):as.idxOf? a=some j:=by
 obtain⟨h1,h2⟩:=List.getElem?_eq_some_iff.mp h
 cases e:as.idxOf? a with
 |none=>exact absurd (List.mem_of_getElem? h) (jpf e)
 |some i =>
  have e':=je3 e
  obtain⟨h3,h4⟩:=List.getElem?_eq_some_iff.mp e'
  rw[(List.getElem_inj nd).mp (h4.trans h2.symm)]
section
variable {X:Cx} {pins:List (Addr×Obj)} {σ:St} {H:Hp} {s:Shared}
theorem jmh {as:List Addr} {ks:List Str} {xv:List V} {xs:List Value} {D:Addr} {idx:List Nat} {h3:Heap} {tk c:Nat} {Q:VK} (I:Inv X pins σ H s) (hk:∀b o,s.heap.get? b=some o→h3.get? b=some o)
  (hI:KS.ItsOk h3 as ks xs) (hx:Vals xv xs) (hup:∀a∈as,s.heap.objs.size≤a) (nd:as.Nodup) (hD:∀b o,s.heap.get? b=some o→b≠D) (hDH:H D=none) (hDa:D∉as) (hl:as.length < 64) (hidx:idx.Perm (List.range as.length))
  (hL:h3.get? D=some (seqObj "list" (List.toArray (idx.map fun i=>(as.map Value.ref).getD i Value.none)) c))
  (q:∀H',Same H H'→H D=none→(∀a∈as,H a=none)→H' D=some (.lst (idx.map fun i=>V.ref (IxV as ks xv i).1))→(∀i∈idx,H' (IxV as ks xv i).1=some (.tup [.str (IxV as ks xv i).2.1,(IxV as ks xv i).2.2]))→Q (.ref D) H') :
  EP X pins σ Q (.ref D) {s with heap:=h3,toks:=tk}:=by
 obtain⟨l1,l2,hp⟩:=hI
 have lx:=hx.length
 have old:∀{b o},H b=some o→b < s.heap.objs.size:=fun e=>I.hok.lt e
 have hidlt:∀i∈idx,i < as.length:=fun i hi=>List.mem_range.mp (hidx.mem_iff.mp hi)
 have hlen:idx.length=as.length:=by rw[hidx.length_eq,List.length_range]
 have hsame:Same H (newH H D (idx.map fun i=>V.ref (IxV as ks xv i).1) as ks xv):=fun b o e=>by
  unfold newH
  rw[if_neg (fun z=>by rw[z,hDH]at e;cases e)]
  cases q:as.idxOf? b with
  |none=>exact e
  |some j =>
   have:=hup b (List.mem_of_getElem? (je3 q))
   exact absurd (old e) (Nat.not_lt.mpr this)
 have hvals:Vals (idx.map fun i=>V.ref (IxV as ks xv i).1) (idx.map fun i=>(as.map Value.ref).getD i Value.none):=by
  have:∀l:List Nat,(∀i∈l,i < as.length)→Vals (l.map fun i=>V.ref (IxV as ks xv i).1) (l.map fun i=>(as.map Value.ref).getD i Value.none):=by
   intro l
   induction l with
   |nil=>intro _;exact .nil
   |cons i r ih =>
    intro hl
    have hi:=hl i List.mem_cons_self
    refine .cons ?_ (ih fun j hj=>hl j (List.mem_cons_of_mem _ hj))
    show(as.map Value.ref).getD i Value.none=Value.ref (as.getD i 0)
    simp[hi]
  exact this idx hidlt
 have hnew:HOk X.prog X.w (newH H D (idx.map fun i=>V.ref (IxV as ks xv i).1) as ks xv) h3:=fun b o e=>by
  by_cases hb:b=D
  ·subst hb
   unfold newH at e
   rw[if_pos rfl]at e
   cases e
   refine⟨?_,_,c,hvals,hL⟩
   rw[List.length_map,hlen]
   exact jbb (by omega)
  ·have e2:=e
   unfold newH at e2
   rw[if_neg hb]at e2
   cases qi:as.idxOf? b with
   |none =>
    rw[qi]at e2
    refine(I.hok b o e2).stay (fun cc u _ z=>hk cc u z) (fun cc z=>hsame _ _ z) fun cc ys z=>hsame _ _ z
   |some j =>
    rw[qi]at e2
    cases e2
    obtain⟨k,t,x,g1,g2,g3⟩:=hp j b (je3 qi)
    have hjl:j < xv.length:=by
     have:=(List.getElem?_eq_some_iff.mp g2).1
     omega
    have ev:RelV (xv.getD j .non) x:=by
     obtain⟨u,hu,ru⟩:=hx.get (List.getElem?_eq_getElem hjl)
     rw[g2]at hu
     cases hu
     have:xv.getD j .non=xv[j]:=by simp[hjl]
     rw[this]
     exact ru
    have ek:ks.getD j ⟨#[]⟩=k:=by simp[g1]
    refine⟨by show 2≤sizeLine;decide,[.str k t,x],.cons (by rw[ek];exact⟨t,rfl⟩) (.cons ev .nil),?_⟩
    exact⟨_,g3,rfl,⟨_,rfl⟩,rfl⟩
 refine⟨.ref D,_,I.call' (s':={ s with heap:=h3,toks:=tk}) (ch:=[]) rfl ?_ hnew I.bare (fun b hb=>nomatch hb),rfl,q _ hsame hDH (fun a ha=>I.hok.fresh (hup a ha)) (by unfold newH;rw[if_pos rfl]) fun i hi=>?_⟩
 ·refine⟨fun b o e n _ _=>hk b o e,fun b o e n _ _=>⟨o.slots,hk b o e⟩,fun b o e n _=>?_,fun b o e _=>⟨o,hk b o e⟩,fun b ys z=>hsame _ _ z,fun b o' u z=>hsame _ _ z,fun b ps z=>⟨#[],by rw[Array.append_empty];exact hsame _ _ z⟩⟩
  have hlt:=Heap.lt_size e
  unfold newH
  rw[if_neg (hD b o e)]
  cases qi:as.idxOf? b with
  |none=>exact n
  |some j=>exact absurd hlt (Nat.not_lt.mpr (hup b (List.mem_of_getElem? (je3 qi))))
 ·have hi':=hidlt i hi
  have ea:(IxV as ks xv i).1=as[i]:=by show as.getD i 0=_;simp[hi']
  have eg:as[i]?=some as[i]:=List.getElem?_eq_getElem hi'
  have ne:as[i]≠D:=fun z=>hDa (z▸List.getElem_mem hi')
  rw[ea]
  unfold newH
  rw[if_neg ne,jsj nd eg]
  rfl
end
noncomputable def jjv:List V→Hp→VK→Prop:=fun xs H Q=>∃(v d:Addr) (ks:List Str) (xv:List V),xs=[.ref v]∧H v=some (jli d v)∧ks.length=xv.length∧H d=some (.dK ((ks.zip xv).map fun p=>((Sum.inr p.1:Key),p.2)))∧ks.length < 64∧ks.Nodup∧xv.all jhd=true ∧
 ∀(D:Addr) (as:List Addr) (idx:List Nat) (H':Hp),as.length=ks.length→idx.Perm (List.range ks.length)→(idx.map fun i=>ks.getD i ⟨#[]⟩).Pairwise (fun _ _=>True)→Same H H'→H D=none→(∀a∈as,H a=none) →
  H' D=some (.lst (idx.map fun i=>V.ref (IxV as ks xv i).1))→(∀i∈idx,H' (IxV as ks xv i).1=some (.tup [.str (IxV as ks xv i).2.1,(IxV as ks xv i).2.2]))→Q (.ref D) H'
theorem jus {xs:List Value} {ks:List Str}:∀{xv:List V} {vs:List (Key×Value)},ks.length=xv.length→KV ((ks.zip xv).map fun p=>((Sum.inr p.1:Key),p.2)) vs→vs.length=ks.length∧Vals xv (vs.map (·.2))∧vs.map (·.1)=ks.map (Sum.inr:Str→Key):=by
 induction ks with
 |nil =>
  intro xv vs hl h
  cases xv with
  |nil=>cases h;exact⟨rfl,.nil,rfl⟩
  |cons _ _=>cases hl
 |cons k ks ih =>
  intro xv vs hl h
  cases xv with
  |nil=>cases hl
  |cons x xv =>
   cases h with
   |cons r rr =>
    obtain⟨h1,h2,h3⟩:=ih (by simpa using hl) rr
    refine⟨by simp[h1],.cons r.2 h2,?_⟩
    rw[List.map_cons,List.map_cons,h3,←r.1]
theorem jjg {X:Cx} (hh:X.A.handled=none):CallR X (.builtin "sorted") jjv:=by
 intro pins s σ H xs us Q I r h
 obtain⟨v,d,ks,xv,rfl,hv,hl,hd,h64,nd,fl,q⟩:=h
 obtain⟨u,rfl,ru⟩:=jee r
 cases(show u=Value.ref v from ru)
 have ov:s.heap.get? v=some {cls:=.type "dict_items",data:=.fields #[.ref d]}:=(I.hok v _ hv).1
 obtain⟨z,hsys,vs',rel,hDict⟩:=I.hok d _ hd
 obtain⟨ep,hat⟩:=hDict.dictAt
 obtain⟨lv,hvals,hkeys⟩:=jus (xs:=[]) hl rel
 refine KS.sorted_of (R:=fun vs s1=>∃(h':Heap) (tk:Nat) (as:List Addr),vs=as.map Value.ref∧s1={ s with heap:=h',toks:=tk}∧(∀b o,s.heap.get? b=some o→h'.get? b=some o)∧as.length=vs'.length∧KdxG (jbf X.prog X.w) vs' s.heap.objs.size h' as)
  (kdx_collect (knd:=jbf X.prog X.w) (kvs:=vs') (ep:=ep) hh ⟨_,ov,rfl,rfl⟩ hat (by rw[lv];exact jbb (by omega)) fun h' tk as hk hl hG=>⟨h',tk,as,rfl,rfl,hk,hl,hG⟩) ?_
 rintro vs s1 ⟨h',tk,as,rfl,rfl,hk,hla,hG⟩
 have hlen:as.length=ks.length:=hla.trans lv
 have its:KS.ItsOk h' as ks (vs'.map (·.2)):=⟨hlen,by rw[List.length_map,hla],fun j a ha=>by
  obtain⟨key,k,x,e1,e2,e3⟩:=hG.pairs j a ha
  have hk1:(vs'.map (·.1))[j]?=some k:=by rw[List.getElem?_map,e1];rfl
  rw[hkeys,List.getElem?_map]at hk1
  cases eq:ks[j]? with
  |none=>rw[eq]at hk1;cases hk1
  |some k0 =>
   rw[eq]at hk1
   have hk2:(Sum.inr k0:Key)=k:=Option.some.inj hk1
   subst hk2
   rcases jbg (k:=Sum.inr k0) (v:=key) (show jmf (Sum.inr k0) key=true from e2)with⟨i,t,z,_⟩ | ⟨y,t,z,rfl⟩
   ·cases z
   ·cases z
    exact⟨k0,t,x,rfl,by rw[List.getElem?_map,e1];rfl,e3⟩⟩
 have hup:∀a∈as,s.heap.objs.size≤a:=fun a ha=>Nat.le_of_lt (hG.above a ha)
 have ndA:as.Nodup:=hG.rise.imp fun h=>Nat.ne_of_lt h
 have hDa:h'.objs.size∉as:=fun hm=>Nat.lt_irrefl _ (hG.there hm)
 have hs':∀b o,s.heap.get? b=some o→b≠h'.objs.size:=fun b o e=>Nat.ne_of_lt (Heap.lt_size (hk b o e))
 have hsH:H h'.objs.size=none:=(I.hok.kept hk).fresh (Nat.le_refl _)
 refine⟨by rw[List.length_map,hlen];exact jbb (by omega),?_⟩
 have hoL:(h'.push (seqObj "list" (as.map Value.ref).toArray 0)).get? h'.objs.size=some (seqObj "list" (as.map Value.ref).toArray 0):=Heap.get?_push_size _ rfl
 have its2:∀h4:Heap,(∀b o,b≠h'.objs.size→(h'.push (seqObj "list" (as.map Value.ref).toArray 0)).get? b=some o→h4.get? b=some o)→KS.ItsOk h4 as ks (vs'.map (·.2)):=fun h4 k4=>⟨its.1,its.2.1,fun j a ha=>by
  obtain⟨k,t,x,e1,e2,e3⟩:=its.2.2 j a ha
  exact⟨k,t,x,e1,e2,k4 a _ (fun z=>hDa (z▸List.mem_of_getElem? ha)) (Heap.get?_push_of_some _ e3)⟩⟩
 have keep4:∀h4:Heap,(∀b o,b≠h'.objs.size→(h'.push (seqObj "list" (as.map Value.ref).toArray 0)).get? b=some o→h4.get? b=some o)→∀b o,s.heap.get? b=some o→h4.get? b=some o:=fun h4 k4 b o e =>
  k4 b o (hs' b o e) (Heap.get?_push_of_some _ (hk b o e))
 by_cases h2:2≤(as.map Value.ref).length
 ·refine KS.ls_sort (s:={ s with heap:=h'.push (seqObj "list" (as.map Value.ref).toArray 0),toks:=tk}) hoL h2 (by rw[List.length_map];omega) fun e1 h4 ha4 k4=>?_
  have its4:=its2 h4 k4
  obtain⟨fs,f1,f2,f3⟩:=KS.katTups its4
  rw[List.length_map]at h2
  refine kat_kind (s:={ s with heap:=h4,toks:=tk}) (T:=Value.type "str") f1 (by omega) (fun f hf=>?_) rfl ?_
  ·obtain⟨k,t,rfl⟩:=f3 f hf
   exact .now
  ·rw[List.length_map]
   have hn:0 < as.length:=by omega
   have hwi:=KS.wi_sort hn
   refine KS.wp_run (n:=as.length) (P:=KS.Pm as.length) (c:=KS.ltK ks) (St:=fun s'=>s'={ s with heap:=h4,toks:=tk}) (fun i j C s' hi hj hs hC=>?_) _ _ hwi rfl fun s' hs'=>?_
   ·subst hs
    refine KS.ask_items its4 nd (fun x hx s''=>?_) hi hj (hC _ rfl)
    obtain⟨j,hj⟩:=List.mem_iff_getElem?.mp hx
    have hjl:j < xv.length:=by
     have:=(List.getElem?_eq_some_iff.mp hj).1
     rw[List.length_map]at this
     omega
    obtain⟨u,hu,ru⟩:=hvals.get (List.getElem?_eq_getElem hjl)
    rw[hj]at hu
    cases hu
    have fx:jhd xv[j]=true:=List.all_eq_true.mp fl _ (List.getElem_mem hjl)
    have:=jv0 (A:=X.A.in1.in1) (s:=s'') ru ru fx fx
    have e1:eqV xv[j] xv[j]=true:=by
     cases ex:xv[j]<;>simp[eqV]<;>(rw[ex]at fx;cases fx)
    rw[e1]at this
    exact this
   ·subst hs'
    refine⟨ha4,fun h3 c sb hL3=>⟨rfl,?_⟩⟩
    have hpm:KS.Pm as.length (KS.run (KS.ltK ks) (kas_sort as.length)):=KS.Wi.out _ hwi
    have hsz:=hpm.size
    have hidx:(KS.run (KS.ltK ks) (kas_sort as.length)).toList.Perm (List.range as.length):=by
     have:=Array.perm_iff_toList_perm.mp hpm
     simpa using this
    have k3:∀b o,b≠h'.objs.size→(h'.push (seqObj "list" (as.map Value.ref).toArray 0)).get? b=some o→h3.get? b=some o:=fun b o hb e=>(sb.2 b hb).trans (k4 b o hb e)
    exact jmh (s:=s) (tk:=tk) (xv:=xv) I (keep4 h3 k3) (its2 h3 k3) hvals hup ndA hs' hsH hDa (by omega) hidx hL3 fun H' a1 a2 a3 a4 a5=>q _ as _ H' hlen (by rw[←hlen];exact hidx) (KS.pwT _) a1 a2 a3 a4 a5
 ·refine KS.ls_short (s:={ s with heap:=h'.push (seqObj "list" (as.map Value.ref).toArray 0),toks:=tk}) hoL (by omega) fun h4 c ha4 k4=>⟨rfl,?_⟩
  rw[List.length_map]at h2
  have el:as.map Value.ref=(List.range as.length).map fun i=>(as.map Value.ref).getD i Value.none:=by
   apply List.ext_getElem (by simp)
   intro i h1 h2
   simp at h1
   simp[h1]
  rw[el]at ha4
  refine jmh (s:=s) (tk:=tk) (xv:=xv) (idx:=List.range as.length) I (keep4 h4 k4) (its2 h4 k4) hvals hup ndA hs' hsH hDa (by omega) (List.Perm.refl _) ha4 fun H' a1 a2 a3 a4 a5=>q _ as _ H' hlen (by rw[←hlen]) ?_ a1 a2 a3 a4 a5
  have:(List.range as.length).length≤1:=by simp;omega
  match hr:List.range as.length,this with
  |[],_=>exact .nil
  |[i],_=>exact List.pairwise_singleton _ _
noncomputable def TxOk (vs:List Value) (ks:List Str):Prop:=vs.length=ks.length∧∀(j:Nat) v,vs[j]?=some v→∃k t,ks[j]?=some k∧v=.str k t
theorem jl4 {vs:List Value} {ks:List Str} (h:TxOk vs ks):∀(idx:List Nat),(∀i∈idx,i < ks.length)→Vals ((idx.map fun i=>ks.getD i ⟨#[]⟩).map V.str) (idx.map fun i=>vs.getD i Value.none)
 |[],_=>.nil
 |i::r,hi=>by
  have h1:=hi i List.mem_cons_self
  have h2:i < vs.length:=by rw[h.1];exact h1
  obtain⟨k,t,e1,e2⟩:=h.2 i vs[i] (List.getElem?_eq_getElem h2)
  refine .cons ⟨t,?_⟩ (jl4 h r fun j hj=>hi j (List.mem_cons_of_mem _ hj))
  simp[h2,e1,e2]
theorem jrl {ks:List Str} {idx:List Nat} (h:idx.Perm (List.range ks.length)):(idx.map fun i=>ks.getD i ⟨#[]⟩).Perm ks:=by
 have h1:=h.map fun i=>ks.getD i (⟨#[]⟩:Str)
 have h2:(List.range ks.length).map (fun i=>ks.getD i (⟨#[]⟩:Str))=ks:=by
  apply List.ext_getElem (by simp)
  intro i h1 h2
  simp[h2]
 rw[h2]at h1
 exact h1
noncomputable def jl1:List V→Hp→VK→Prop:=fun xs H Q=>∃(d:Addr) (l:List (Key×V)) (ks:List Str),xs=[.ref d]∧H d=some (.dK l)∧l.map (·.1)=ks.map (Sum.inr:Str→Key)∧ks.length < 64 ∧
 ∀(D:Addr) (ys:List Str),ys.Perm ks→ys.Pairwise (fun _ _=>True)→H D=none→Q (.ref D) (upd H D (.lst (ys.map V.str)))
theorem jxl {l:List (Key×V)} {vs:List (Key×Value)} (h:KV l vs):vs.map (·.1)=l.map (·.1):=by
 unfold KV at h
 induction h with
 |nil=>rfl
 |cons r _ ih=>rw[List.map_cons,List.map_cons,ih,r.1]
theorem jjp {X:Cx} {pins:List (Addr×Obj)} {σ:St} {H:Hp} {s:Shared} {h':Heap} {tk:Nat} {vs:List Value} {ks:List Str} {Q:VK} (I:Inv X pins σ H s) (hkp:∀b o,s.heap.get? b=some o→h'.get? b=some o) (hT:TxOk vs ks) (h64:ks.length < 64)
  (q:∀(D:Addr) (ys:List Str),ys.Perm ks→ys.Pairwise (fun _ _=>True)→H D=none→Q (.ref D) (upd H D (.lst (ys.map V.str)))) :
  vs.length≤sizeLine∧wpAny (model X.prog X.w) X.A.in1.in1 (Builtin.«list.sort» ⟨[.ref h'.objs.size],[]⟩) (fun f s2=>f=.done (.ret .none)∧EP X pins σ Q (.ref h'.objs.size) s2) X.xe {s with heap:=h'.push (seqObj "list" vs.toArray 0),toks:=tk}:=by
 have hl:=hT.1
 refine⟨by rw[hl];exact jbb (by omega),?_⟩
 have hoL:(h'.push (seqObj "list" vs.toArray 0)).get? h'.objs.size=some (seqObj "list" vs.toArray 0):=Heap.get?_push_size _ rfl
 have hs':∀b o,s.heap.get? b=some o→b≠h'.objs.size:=fun b o e=>Nat.ne_of_lt (Heap.lt_size (hkp b o e))
 have fin:∀(idx:List Nat) (h3:Heap) (c:Nat),idx.Perm (List.range ks.length)→(idx.map fun i=>ks.getD i ⟨#[]⟩).Pairwise (fun _ _=>True) →
   (∀b o,b≠h'.objs.size→(h'.push (seqObj "list" vs.toArray 0)).get? b=some o→h3.get? b=some o)→h3.get? h'.objs.size=some (seqObj "list" (List.toArray (idx.map fun i=>vs.getD i Value.none)) c)→EP X pins σ Q (.ref h'.objs.size) {s with heap:=h3,toks:=tk}:=fun idx h3 c hp hw k3 hL=>by
  have I1:Inv X pins σ H {s with heap:=h',toks:=tk}:=I.kept hkp
  have hn:H h'.objs.size=none:=I1.hok.fresh (Nat.le_refl _)
  refine⟨.ref h'.objs.size,_,I1.laid (t':=tk) (h':=h3) (o:=.lst ((idx.map fun i=>ks.getD i ⟨#[]⟩).map V.str)) (fun b o e=>k3 b o (Nat.ne_of_lt (Heap.lt_size e)) (Heap.get?_push_of_some _ e)) (Nat.le_refl _) ⟨?_,_,c,jl4 hT idx (fun i hi=>List.mem_range.mp (hp.mem_iff.mp hi)),hL⟩,rfl,q _ _ (jrl hp) hw hn⟩
  rw[List.length_map,List.length_map,hp.length_eq,List.length_range]
  exact jbb (by omega)
 by_cases h2:2≤vs.length
 ·refine KS.ls_sort (s:={ s with heap:=h'.push (seqObj "list" vs.toArray 0),toks:=tk}) hoL h2 (by omega) fun e1 h4 ha4 k4=>?_
  refine kas_kind (s:={ s with heap:=h4,toks:=tk}) (T:=Value.type "str") h2 (fun f hf=>?_) rfl rfl ?_
  ·obtain⟨j,hj⟩:=List.mem_iff_getElem?.mp hf
   obtain⟨k,t,_,rfl⟩:=hT.2 j f hj
   exact .now
  ·have hn:0 < vs.length:=by omega
   have hwi:=KS.wi_sort hn
   refine KS.wp_run (n:=vs.length) (P:=KS.Pm vs.length) (c:=KS.ltK ks) (St:=fun s'=>s'={ s with heap:=h4,toks:=tk}) (fun i j C s' hi hj hs hC=>?_) _ _ hwi rfl fun s' hs'=>?_
   ·subst hs
    obtain⟨k1,t1,a1,a2⟩:=hT.2 i vs[i] (List.getElem?_eq_getElem hi)
    obtain⟨k2,t2,b1,b2⟩:=hT.2 j vs[j] (List.getElem?_eq_getElem hj)
    unfold kas_ask
    have g1:vs.getD i Value.none=.str k1 t1:=by simp[hi,a2]
    have g2:vs.getD j Value.none=.str k2 t2:=by simp[hj,b2]
    rw[g1,g2]
    have c1:ks.getD i ⟨#[]⟩=k1:=by simp[a1]
    have c2:ks.getD j ⟨#[]⟩=k2:=by simp[b1]
    have:=hC _ rfl
    unfold KS.ltK at this
    rw[c1,c2]at this
    exact kas_lt_str this
   ·subst hs'
    refine⟨ha4,fun h3 c sb hL3=>⟨rfl,?_⟩⟩
    have hpm:KS.Pm vs.length (KS.run (KS.ltK ks) (kas_sort vs.length)):=KS.Wi.out _ hwi
    have hsz:=hpm.size
    have hidx:(KS.run (KS.ltK ks) (kas_sort vs.length)).toList.Perm (List.range vs.length):=by
     have:=Array.perm_iff_toList_perm.mp hpm
     simpa using this
    refine fin _ h3 c (by rw[←hl];exact hidx) (KS.pwT _) (fun b o hb e=>(sb.2 b hb).trans (k4 b o hb e)) hL3
 ·refine KS.ls_short (s:={ s with heap:=h'.push (seqObj "list" vs.toArray 0),toks:=tk}) hoL (by omega) fun h4 c ha4 k4=>⟨rfl,?_⟩
  have el:vs=(List.range ks.length).map fun i=>vs.getD i Value.none:=by
   apply List.ext_getElem (by simp[hl])
   intro i h1 h2
   simp[h1]
  have ha5:h4.get? h'.objs.size=some (seqObj "list" (List.toArray ((List.range ks.length).map fun i=>vs.getD i Value.none)) c):=by rw[←el];exact ha4
  refine fin (List.range ks.length) h4 c (List.Perm.refl _) ?_ k4 ha5
  have:(List.range ks.length).length≤1:=by simp;omega
  match hr:List.range ks.length,this with
  |[],_=>exact .nil
  |[i],_=>exact List.pairwise_singleton _ _
theorem jla {X:Cx} (hh:X.A.handled=none):CallR X (.builtin "sorted") jl1:=by
 intro pins s σ H xs us Q I r h
 obtain⟨d,l,ks,rfl,hd,hk,h64,q⟩:=h
 obtain⟨u,rfl,ru⟩:=jee r
 cases(show u=Value.ref d from ru)
 obtain⟨z,hsys,vs',rel,hDict⟩:=I.hok d _ hd
 obtain⟨ep,hat⟩:=hDict.dictAt
 have hkeys:vs'.map (·.1)=ks.map (Sum.inr:Str→Key):=(jxl rel).trans hk
 have hlen:vs'.length=ks.length:=by have:=congrArg List.length hkeys;simpa using this
 refine KS.sorted_of (R:=fun vs s1=>∃(h':Heap) (tk:Nat),s1={ s with heap:=h',toks:=tk}∧(∀b o,s.heap.get? b=some o→h'.get? b=some o)∧TxOk vs ks)
  (kdu_collect (kdl_dict (knd:=jbf X.prog X.w) (kvs:=vs') (ep:=ep) hsys) hh hat (by rw[hlen];exact jbb (by omega)) fun h' tk acc hk' hI=>⟨h',tk,rfl,hk',?_⟩) ?_
 ·refine⟨by rw[Array.length_toList,hI.1,hlen],fun j v hj=>?_⟩
  obtain⟨k,x,e1,e2⟩:=hI.2 j v (by simpa using hj)
  have hk1:(vs'.map (·.1))[j]?=some k:=by rw[List.getElem?_map,e1];rfl
  rw[hkeys,List.getElem?_map]at hk1
  cases eq:ks[j]? with
  |none=>rw[eq]at hk1;cases hk1
  |some k0 =>
   rw[eq]at hk1
   have hk2:(Sum.inr k0:Key)=k:=Option.some.inj hk1
   subst hk2
   rcases jbg (k:=Sum.inr k0) (v:=v) (show jmf (Sum.inr k0) v=true from e2)with⟨i,t,z,_⟩ | ⟨y,t,z,rfl⟩
   ·cases z
   ·cases z
    exact⟨k0,t,rfl,rfl⟩
 rintro vs s1 ⟨h',tk,rfl,hkp,hT⟩
 exact jjp (s:=s) (h':=h') (tk:=tk) I hkp hT h64 q
end L2
namespace L2
open PySem PySem.Spec PyProof.Rows
section
variable {prog:Program} {w:World} {A:Around} {E:Value→Shared→Prop} {s:Shared}
theorem jdu {it t:Addr} {i:Nat} {items:Array Value} {x:Value} {Q:Value→Shared→Prop} (hit:s.heap.IsTupleIter it t i) (ht:s.heap.IsTuple t items) (hx:items[i]?=some x)
  (hQ:∀h',h'.IsTupleIter it t (i+1)→Heap.SameBut it s.heap h'→Q x {s with heap:=h'}):wpAny (model prog w) A (Builtin.SmallTypes.nextOf (.ref it)) Q E s:=by
 obtain⟨o,ho,hc,hd⟩:=id hit
 obtain⟨ol,hol,_,nl,hdl⟩:=ht
 unfold Builtin.SmallTypes.nextOf
 refine wpAny_bind (wpAny_callSpecial?_slot (name:=Str.ofString "__next__") hit.typeIs F.slot_tuple_iterator_next
  (wpAny_call_entry F.slot_tuple_iterator_next hit.typeIs F.entry_tuple_iterator_next ?_ (F.args_tuple_iterator_next_1 _)))
 show wpAny _ _ (field (.ref it) 0>>=_) _ _ s
 refine wpAny_bind (wpAny_field ho hd (x:=.ref t) rfl ?_)
 show wpAny _ _ (if (Value.ref t==Value.none)=true then _ else _) _ _ s
 rw[if_neg (show ¬((Value.ref t==Value.none)=true)from Bool.false_ne_true)]
 show wpAny _ _ (field (.ref it) 1>>=_) _ _ s
 refine wpAny_bind (wpAny_field ho hd (x:=.int i 0) rfl ?_)
 show wpAny _ _ (seqItems? (.ref t)>>=_) _ _ s
 refine wpAny_bind (wpAny_seqItems hol hdl ?_)
 simp only[Int.toNat_natCast,hx]
 refine wpAny_bind (wpAny_setField ho hd (by simp) (wpAny_pure ⟨x,rfl,wpAny_pure (hQ _ ?_ (Heap.SameBut.update ..))⟩))
 exact⟨_,Heap.get?_update_self _ ho (Obj.isFreed_of_fields (Obj.data_mapFields hd _)),(Obj.cls_mapFields ..).trans hc,by
  rw[Obj.data_mapFields hd];simp[rawInt]⟩
theorem jg2 {it t:Addr} {i:Nat} {items:Array Value} {Q:Value→Shared→Prop} (hh:A.handled=none) (hit:s.heap.IsTupleIter it t i) (ht:s.heap.IsTuple t items) (hx:items[i]?=none)
  (hE:∀h' e,Heap.ExtBut it s.heap h'→(∃o,h'.get? e=some o∧o.cls=.type "StopIteration")→E (.ref e) {s with heap:=h'}) :
  wpAny (model prog w) A (Builtin.SmallTypes.nextOf (.ref it)) Q E s:=by
 obtain⟨o,ho,hc,hd⟩:=id hit
 obtain⟨ol,hol,_,nl,hdl⟩:=ht
 unfold Builtin.SmallTypes.nextOf
 refine wpAny_bind (wpAny_callSpecial?_slot (name:=Str.ofString "__next__") hit.typeIs F.slot_tuple_iterator_next
  (wpAny_call_entry F.slot_tuple_iterator_next hit.typeIs F.entry_tuple_iterator_next ?_ (F.args_tuple_iterator_next_1 _)))
 show wpAny _ _ (field (.ref it) 0>>=_) _ _ s
 refine wpAny_bind (wpAny_field ho hd (x:=.ref t) rfl ?_)
 show wpAny _ _ (if (Value.ref t==Value.none)=true then _ else _) _ _ s
 rw[if_neg (show ¬((Value.ref t==Value.none)=true)from Bool.false_ne_true)]
 show wpAny _ _ (field (.ref it) 1>>=_) _ _ s
 refine wpAny_bind (wpAny_field ho hd (x:=.int i 0) rfl ?_)
 show wpAny _ _ (seqItems? (.ref t)>>=_) _ _ s
 refine wpAny_bind (wpAny_seqItems hol hdl ?_)
 simp only[Int.toNat_natCast,hx]
 refine wpAny_bind (wpAny_rule (wpAny_bind (wpAny_setField ho hd (by simp) ?_)))
 show wpAny _ _ (newExc (.type "StopIteration") []>>=_) _ _ _
 refine wpAny_bind ?_
 simp only[newExc,newTuple]
 refine wpAny_bind (wpAny_newObj_type ?_ (by size_fits))
 refine wpAny_bind (m:=firstArgMember _ _) (wpAny_of_eq (a:=Value.none) (by first | rfl | (simp only[firstArgMember];rfl)) ?_)
 refine wpAny_newObj_type ?_ (by size_fits)
 simp only[raiseNew]
 refine wpAny_bind (wpAny_handled ?_)
 first | rw[show A.in1.handled=none from hh] | rw[hh]
 refine wpAny_bind (wpAny_pure (wpAny_throw ?_))
 exact hE _ _ (((Heap.SameBut.update ..).extBut.push _).push _) ⟨_,Heap.get?_push_size _ rfl,rfl⟩
theorem jpy {z TI TO i1 i2 l1 l2:Addr} {k:Nat} {xs ys:Array Value} {x y a b:Value} {Q:Value→Shared→Prop} (D:ZipApart z TI TO i1 i2 l1 l2)
  (hz:IsZip s.heap z TI TO .none) (hTI:IsPair s.heap TI (.ref i1) (.ref i2)) (hTO:IsPair s.heap TO a b)
  (h1:s.heap.IsTupleIter i1 l1 k) (h2:s.heap.IsTupleIter i2 l2 k) (hl1:s.heap.IsTuple l1 xs) (hl2:s.heap.IsTuple l2 ys) (hx:xs[k]?=some x) (hy:ys[k]?=some y)
  (hQ:∀h',IsZip h' z TI TO (rawInt s.heap.objs.size)→IsPair h' TO x y→h'.IsTupleIter i1 l1 (k+1)→h'.IsTupleIter i2 l2 (k+1)→IsPair h' s.heap.objs.size x y→h'.objs.size=s.heap.objs.size+1 →
   (∀c o,c≠z→c≠TO→c≠i1→c≠i2→s.heap.get? c=some o→h'.get? c=some o)→Q (.ref s.heap.objs.size) {s with heap:=h'}) :
  wpAny (model prog w) A (Builtin.«zip.__next__» ⟨[.ref z],[]⟩) (fun fin s'=>∃v,fin=.done (.ret v)∧Q v s') E s:=by
 show wpAny _ _ (field (.ref z) 2>>=_) _ _ _
 refine wpAny_bind (wpAny_field hz rfl (x:=.bool false) rfl ?_)
 show wpAny _ _ (field (.ref z) 3>>=_) _ _ _
 refine wpAny_bind (wpAny_field hz rfl (x:=.ref TI) rfl ?_)
 refine wpAny_bind (wpAny_seqItems hTI rfl ?_)
 show wpAny _ _ (Builtin.SmallTypes.ownedTupleIsFree (.ref z)>>=_) _ _ _
 refine wpAny_bind ?_
 unfold Builtin.SmallTypes.ownedTupleIsFree
 refine wpAny_bind (wpAny_field hz rfl (x:=.none) rfl (wpAny_pure ?_))
 simp only[if_true]
 refine wpAny_bind (wpAny_rule ?_)
 refine wpAny_bind (wpAny_field hz rfl (x:=.ref TO) rfl ?_)
 refine wpAny_bind (wpAny_setField_rec hz (by simp) fun g1 hz1 s1=>?_)
 replace hz1:IsZip g1 z TI TO .ellipsis:=hz1
 refine wpAny_bind ?_
 simp only[List.zipIdx_cons,List.zipIdx_nil,List.forIn_cons,List.forIn_nil]
 refine wpAny_bind (wpAny_bind (wpAny_onRaise ?_))
 show wpAny _ _ (Builtin.SmallTypes.nextOf (.ref i1)>>=_) _ _ _
 refine wpAny_bind (jdu (h1.extBut s1.extBut D.i1z) (hl1.extBut s1.extBut D.l1z) hx fun g2 t2 s2=>wpAny_pure ?_)
 have p2:IsPair g2 TO a b:=s2.extBut _ _ D.TOi1 (s1.extBut _ _ D.TOz hTO)
 refine wpAny_bind (wpAny_seqItems p2 rfl ?_)
 refine wpAny_bind (wpAny_updateSeq_pair p2 fun g3 p3 s3=>?_)
 replace p3:IsPair g3 TO x b:=p3
 refine wpAny_bind (wpAny_letGo (wpAny_pure ?_))
 refine wpAny_bind (wpAny_bind (wpAny_onRaise ?_))
 show wpAny _ _ (Builtin.SmallTypes.nextOf (.ref i2)>>=_) _ _ _
 refine wpAny_bind (jdu (((h2.extBut s1.extBut D.i2z).extBut s2.extBut D.i12.symm).extBut s3.extBut D.TOi2.symm)
  (((hl2.extBut s1.extBut D.l2z).extBut s2.extBut D.l2i1).extBut s3.extBut D.l2TO) hy fun g4 t4 s4=>wpAny_pure ?_)
 have p4:IsPair g4 TO x b:=s4.extBut _ _ D.TOi2 p3
 refine wpAny_bind (wpAny_seqItems p4 rfl ?_)
 refine wpAny_bind (wpAny_updateSeq_pair p4 fun g5 p5 s5=>?_)
 replace p5:IsPair g5 TO x y:=p5
 refine wpAny_bind (wpAny_letGo (wpAny_pure (wpAny_pure ?_)))
 refine wpAny_bind (wpAny_seqItems p5 rfl ?_)
 refine wpAny_bind (wpAny_newTuple ?_)
 have sz:g5.objs.size=s.heap.objs.size:=by rw[s5.1,s4.1,s3.1,s2.1,s1.1]
 have z5:IsZip g5 z TI TO .ellipsis:=s5.extBut _ _ D.TOz.symm (s4.extBut _ _ D.i2z.symm (s3.extBut _ _ D.TOz.symm (s2.extBut _ _ D.i1z.symm hz1)))
 have k5:∀c o,c≠z→c≠TO→c≠i1→c≠i2→s.heap.get? c=some o→g5.get? c=some o:=fun c o c1 c2 c3 c4 e =>
  s5.extBut _ _ c2 (s4.extBut _ _ c4 (s3.extBut _ _ c2 (s2.extBut _ _ c3 (s1.extBut _ _ c1 e))))
 have u1:g5.IsTupleIter i1 l1 (k+1):=((t2.extBut s3.extBut D.TOi1.symm).extBut s4.extBut D.i12).extBut s5.extBut D.TOi1.symm
 have u2:g5.IsTupleIter i2 l2 (k+1):=t4.extBut s5.extBut D.TOi2.symm
 have zlt:z < g5.objs.size:=Heap.lt_size z5
 show wpAny _ _ (Builtin.SmallTypes.ownedTupleHandOut (.ref z) (.ref g5.objs.size)>>=_) _ _ _
 refine wpAny_bind ?_
 unfold Builtin.SmallTypes.ownedTupleHandOut
 have z6:IsZip (g5.push {cls:=.type "tuple",data:=.seq #[x,y]}) z TI TO .ellipsis:=Heap.get?_push_of_some _ z5
 refine wpAny_bind (wpAny_setField_rec z6 (by simp) fun g7 z7 s7=>?_)
 replace z7:IsZip g7 z TI TO (rawInt g5.objs.size):=z7
 refine wpAny_setField_rec z7 (by simp) fun g8 z8 s8=>?_
 replace z8:IsZip g8 z TI TO (rawInt g5.objs.size):=z8
 have up:∀c o,c≠z→g5.get? c=some o→g8.get? c=some o:=fun c o c1 e=>s8.extBut _ _ c1 (s7.extBut _ _ c1 (Heap.get?_push_of_some _ e))
 have T8:IsPair g8 g5.objs.size x y:=s8.extBut _ _ (Nat.ne_of_gt zlt) (s7.extBut _ _ (Nat.ne_of_gt zlt) (Heap.get?_push_size _ rfl))
 have e8:g8.objs.size=g5.objs.size+1:=by rw[s8.1,s7.1,Heap.size_push]
 rw[sz]at z8 T8 e8
 refine wpAny_pure ⟨_,rfl,?_⟩
 show Q (.ref g5.objs.size) _
 rw[sz]
 exact hQ g8 z8 (up _ _ D.TOz p5) (u1.at fun o e=>up _ o D.i1z e) (u2.at fun o e=>up _ o D.i2z e) T8 e8 fun c o c1 c2 c3 c4 e=>up c o c1 (k5 c o c1 c2 c3 c4 e)
theorem jtl {z TI TO i1 i2 l1 l2:Addr} {k:Nat} {xs:Array Value} {Q:Fin→Shared→Prop} (hh:A.handled=none) (D:ZipApart z TI TO i1 i2 l1 l2)
  (hz:IsZip s.heap z TI TO .none) (hTI:IsPair s.heap TI (.ref i1) (.ref i2)) (h1:s.heap.IsTupleIter i1 l1 k) (hl1:s.heap.IsTuple l1 xs) (hx:xs[k]?=none)
  (hE:∀h' e,(∀c o,c≠z→c≠i1→s.heap.get? c=some o→h'.get? c=some o)→(∃o,h'.get? e=some o∧o.cls=.type "StopIteration")→E (.ref e) {s with heap:=h'}) :
  wpAny (model prog w) A (Builtin.«zip.__next__» ⟨[.ref z],[]⟩) Q E s:=by
 show wpAny _ _ (field (.ref z) 2>>=_) _ _ _
 refine wpAny_bind (wpAny_field hz rfl (x:=.bool false) rfl ?_)
 show wpAny _ _ (field (.ref z) 3>>=_) _ _ _
 refine wpAny_bind (wpAny_field hz rfl (x:=.ref TI) rfl ?_)
 refine wpAny_bind (wpAny_seqItems hTI rfl ?_)
 show wpAny _ _ (Builtin.SmallTypes.ownedTupleIsFree (.ref z)>>=_) _ _ _
 refine wpAny_bind ?_
 unfold Builtin.SmallTypes.ownedTupleIsFree
 refine wpAny_bind (wpAny_field hz rfl (x:=.none) rfl (wpAny_pure ?_))
 simp only[if_true]
 refine wpAny_bind (wpAny_rule ?_)
 refine wpAny_bind (wpAny_field hz rfl (x:=.ref TO) rfl ?_)
 refine wpAny_bind (wpAny_setField_rec hz (by simp) fun g1 hz1 s1=>?_)
 replace hz1:IsZip g1 z TI TO .ellipsis:=hz1
 refine wpAny_bind ?_
 simp only[List.zipIdx_cons,List.zipIdx_nil,List.forIn_cons,List.forIn_nil]
 refine wpAny_bind (wpAny_bind (wpAny_onRaise ?_))
 show wpAny _ _ (Builtin.SmallTypes.nextOf (.ref i1)>>=_) _ _ _
 refine wpAny_bind (jg2 hh (h1.extBut s1.extBut D.i1z) (hl1.extBut s1.extBut D.l1z) hx fun g2 e s2 he=>?_)
 obtain⟨oe,hoe,hce⟩:=he
 have z2:IsZip g2 z TI TO .ellipsis:=s2 _ _ D.i1z.symm hz1
 have hez:e≠z:=fun x=>by subst x;rw[z2]at hoe;cases hoe;simp at hce
 refine wpAny_setField_rec z2 (by simp) fun g3 _ s3=>hE g3 e (fun c o c1 c3 x=>s3.extBut _ _ c1 (s2 _ _ c3 (s1.extBut _ _ c1 x))) ⟨oe,s3.extBut _ _ hez hoe,hce⟩
theorem jiu {z TI TO i1 i2 l1 l2:Addr} {k:Nat} {xs ys:Array Value} {x y a b:Value} {Q:Option Value→Shared→Prop} (D:ZipApart z TI TO i1 i2 l1 l2)
  (hz:IsZip s.heap z TI TO .none) (hTI:IsPair s.heap TI (.ref i1) (.ref i2)) (hTO:IsPair s.heap TO a b)
  (h1:s.heap.IsTupleIter i1 l1 k) (h2:s.heap.IsTupleIter i2 l2 k) (hl1:s.heap.IsTuple l1 xs) (hl2:s.heap.IsTuple l2 ys) (hx:xs[k]?=some x) (hy:ys[k]?=some y)
  (hQ:∀h',IsZip h' z TI TO (rawInt s.heap.objs.size)→IsPair h' TO x y→h'.IsTupleIter i1 l1 (k+1)→h'.IsTupleIter i2 l2 (k+1)→IsPair h' s.heap.objs.size x y→h'.objs.size=s.heap.objs.size+1 →
   (∀c o,c≠z→c≠TO→c≠i1→c≠i2→s.heap.get? c=some o→h'.get? c=some o)→Q (some (.ref s.heap.objs.size)) {s with heap:=h'}) :
  wpAny (model prog w) A (pyNext (.ref z)) Q E s:=by
 have hT:s.TypeIs (.ref z) "zip":=⟨_,hz,rfl⟩
 unfold pyNext
 exact wpAny_bind (wpAny_attempt (wpAny_callSpecial?_slot (name:=Str.ofString "__next__") hT F.slot_zip_next
  (wpAny_call_entry F.slot_zip_next hT F.entry_zip_next
   (jpy D hz hTI hTO h1 h2 hl1 hl2 hx hy fun h' a1 a2 a3 a4 a5 a6 a7=>wpAny_pure (hQ h' a1 a2 a3 a4 a5 a6 a7)) (F.args_zip_next_1 _))))
theorem jko {z TI TO i1 i2 l1 l2:Addr} {k:Nat} {xs:Array Value} {Q:Option Value→Shared→Prop} (hh:A.handled=none) (D:ZipApart z TI TO i1 i2 l1 l2)
  (hz:IsZip s.heap z TI TO .none) (hTI:IsPair s.heap TI (.ref i1) (.ref i2)) (h1:s.heap.IsTupleIter i1 l1 k) (hl1:s.heap.IsTuple l1 xs) (hx:xs[k]?=none)
  (hQ:∀h',(∀c o,c≠z→c≠i1→s.heap.get? c=some o→h'.get? c=some o)→Q none {s with heap:=h'}):wpAny (model prog w) A (pyNext (.ref z)) Q E s:=by
 have hT:s.TypeIs (.ref z) "zip":=⟨_,hz,rfl⟩
 unfold pyNext
 refine wpAny_bind (wpAny_attempt (wpAny_callSpecial?_slot (name:=Str.ofString "__next__") hT F.slot_zip_next
  (wpAny_call_entry F.slot_zip_next hT F.entry_zip_next (jtl hh D hz hTI h1 hl1 hx fun h' e hk he=>?_) (F.args_zip_next_1 _))))
 obtain⟨o,ho,hc⟩:=he
 refine wpAny_bind (wpAny_isInstance (T:="StopIteration") (b:=true) ⟨o,ho,hc⟩ isSubtype_stop ?_)
 exact wpAny_pure (hQ _ hk)
end
noncomputable abbrev zt1 (h:Heap) (l1:Addr):Heap:=h.push {cls:=.type "tuple_iterator",data:=.fields #[.ref l1,.int 0 0]}
noncomputable abbrev zt2 (h:Heap) (l1 l2:Addr):Heap:=(zt1 h l1).push {cls:=.type "tuple_iterator",data:=.fields #[.ref l2,.int 0 0]}
noncomputable abbrev zt3 (h:Heap) (l1 l2:Addr):Heap:=(zt2 h l1 l2).push {cls:=.type "tuple",data:=.seq #[.ref h.objs.size,.ref (zt1 h l1).objs.size]}
noncomputable abbrev zt4 (h:Heap) (l1 l2:Addr):Heap:=(zt3 h l1 l2).push {cls:=.type "tuple",data:=.seq #[.none,.none]}
noncomputable abbrev zt5 (h:Heap) (l1 l2:Addr):Heap:=(zt4 h l1 l2).push {cls:=.type "zip",data:=.fields #[.none,.bool false,.bool false,.ref (zt2 h l1 l2).objs.size,.ref (zt3 h l1 l2).objs.size]}
theorem jiv (l1 l2:Addr) (xs ys:Array Value) :
  Meets (Builtin.«zip.__new__» ⟨[.type "zip",.ref l1,.ref l2],[]⟩) (fun _ R s=>s.heap.IsTuple l1 xs∧s.heap.IsTuple l2 ys ∧
   R (.ok (.ret (.ref (zt4 s.heap l1 l2).objs.size))) {s with heap:=zt5 s.heap l1 l2}) :=
 .of_wp fun prog w A R s h=>by
  obtain⟨hp,g,d,tk,os⟩:=s;obtain⟨hl1,hl2,h⟩:=h
  have hsub:=sub_zip
  have hL1:Heap.IsTuple (Shared.heap ⟨hp,g,d,tk,os⟩) l1 xs:=hl1
  have hL2:Heap.IsTuple (Shared.heap ⟨hp.push {cls:=.type "tuple_iterator",data:=.fields #[.ref l1,.int 0 0]},g,d,tk,os⟩) l2 ys:=Heap.IsTuple.push hl2 _
  wp_walk using wpAny_pyIter_tuple hL1,wpAny_pyIter_tuple hL2
  exact⟨_,rfl,h⟩
section
variable {prog:Program} {w:World} {A:Around} {E:Value→Shared→Prop} {s:Shared}
theorem js9 {l1 l2:Addr} {xs ys:Array Value} {Q:Value→Shared→Prop} (hl1:s.heap.IsTuple l1 xs) (hl2:s.heap.IsTuple l2 ys)
  (h:∀h',IsZip h' (s.heap.objs.size+4) (s.heap.objs.size+2) (s.heap.objs.size+3) .none→IsPair h' (s.heap.objs.size+2) (.ref s.heap.objs.size) (.ref (s.heap.objs.size+1)) →
   IsPair h' (s.heap.objs.size+3) .none .none→h'.IsTupleIter s.heap.objs.size l1 0→h'.IsTupleIter (s.heap.objs.size+1) l2 0 →
   (∀c o,s.heap.get? c=some o→h'.get? c=some o)→Q (.ref (s.heap.objs.size+4)) {s with heap:=h'}) :
  wpAny (model prog w) A (call (.type "zip") [.ref l1,.ref l2]) Q E s:=by
 refine callType_new F.called_zip (by decide) (F.typeCall_zip_2 _ _) (F.newCall_zip_2 _ _) (fun obj=>F.args_object_init_3 obj _ _) F.entry_zip_new
  (jiv l1 l2 xs ys) ⟨hl1,hl2,?_⟩
 have z1:(zt1 s.heap l1).objs.size=s.heap.objs.size+1:=Heap.size_push ..
 have z2:(zt2 s.heap l1 l2).objs.size=s.heap.objs.size+2:=by rw[Heap.size_push,z1]
 have z3:(zt3 s.heap l1 l2).objs.size=s.heap.objs.size+3:=by rw[Heap.size_push,z2]
 have z4:(zt4 s.heap l1 l2).objs.size=s.heap.objs.size+4:=by rw[Heap.size_push,z3]
 have g5:(zt5 s.heap l1 l2).get? (zt4 s.heap l1 l2).objs.size=some _:=Heap.get?_push_size _ rfl
 have g4:(zt5 s.heap l1 l2).get? (zt3 s.heap l1 l2).objs.size=some _:=Heap.get?_push_of_some _ (Heap.get?_push_size _ rfl)
 have g3:(zt5 s.heap l1 l2).get? (zt2 s.heap l1 l2).objs.size=some _:=Heap.get?_push_of_some _ (Heap.get?_push_of_some _ (Heap.get?_push_size _ rfl))
 have g2:(zt5 s.heap l1 l2).get? (zt1 s.heap l1).objs.size=some _:=Heap.get?_push_of_some _ (Heap.get?_push_of_some _ (Heap.get?_push_of_some _ (Heap.get?_push_size _ rfl)))
 have g1:(zt5 s.heap l1 l2).get? s.heap.objs.size=some _:=Heap.get?_push_of_some _ (Heap.get?_push_of_some _ (Heap.get?_push_of_some _ (Heap.get?_push_of_some _ (Heap.get?_push_size _ rfl))))
 show _∧_
 rw[z2,z3,z4]at g5
 rw[z1,z2]at g3
 rw[z3]at g4
 rw[z1]at g2
 rw[z4]
 exact⟨⟨_,g5,rfl⟩,h _ g5 g3 g4 ⟨_,g1,rfl,rfl⟩ ⟨_,g2,rfl,rfl⟩ fun c o x =>
  Heap.get?_push_of_some _ (Heap.get?_push_of_some _ (Heap.get?_push_of_some _ (Heap.get?_push_of_some _ (Heap.get?_push_of_some _ x))))⟩
end
noncomputable def Itz (K:PySem.W.Frag) (a b:Addr):It :=
 ⟨fun i H=>∃xs ys x y,SqT K H a xs∧SqT K H b ys∧xs[i]?=some x∧ys[i]?=some y,
  fun i H v H'=>∃T x y,v=.ref T∧H T=none∧H'=upd H T (.tup [x,y])∧(∀xs,SqT K H a xs→xs[i]?=some x)∧∀ys,SqT K H b ys→ys[i]?=some y,
  fun i H=>∃xs,SqT K H a xs∧xs.length≤i⟩
theorem Inv.many {X:Cx} {pins:List (Addr×Obj)} {σ:St} {H:Hp} {s:Shared} {h':Heap} {t':Nat} {fp:List Addr} {a:Addr} {o:HO} (I:Inv X pins σ H s) (hf:∀b∈fp,FpOk X pins H b) (k:∀b u,b∉fp→s.heap.get? b=some u→h'.get? b=some u)
  (ha:s.heap.objs.size≤a) (new:ObjOk X.prog X.w (upd H a o) h' a o):Inv X pins σ (upd H a o) {s with heap:=h',toks:=t'}:=by
 have hn:H a=none:=I.hok.fresh ha
 have nf:∀b u,H b=some u→b∉fp:=fun b u e z=>by rw[(hf b z).1]at e;cases e
 refine I.call' (s':={ s with heap:=h',toks:=t'}) (ch:=fp) rfl ⟨fun b u q _ _ z=>k b u z q,fun b u q _ _ z=>⟨u.slots,k b u z q⟩,fun b u q n _=>?_,fun b u q z=>⟨u,k b u z q⟩,fun b xs q=>?_,fun b u xs q=>?_,fun b ps q=>⟨#[],?_⟩⟩ (fun b u e=>?_) I.bare (fun b hb=>?_)
 ·rw[jal (Nat.ne_of_lt (Nat.lt_of_lt_of_le (Heap.lt_size q) ha))];exact n
 ·rw[jal (jak q hn)];exact q
 ·rw[jal (jak q hn)];exact q
 ·rw[jal (jak q hn),q];simp
 ·by_cases z:b=a
  ·subst z
   rw[jar]at e
   cases e
   exact new
  ·rw[jal z]at e
   refine(I.hok b u e).stay (fun c v hc q=>k c v ?_ q) (fun c q=>?_) fun c ys q=>?_
   ·rcases hc with z | z
    ·rw[z];exact nf b u e
    ·exact nf c _ z
   ·rw[jal (jak q hn)];exact q
   ·rw[jal (jak q hn)];exact q
 ·obtain⟨f0,f1,f2,f3,f4,f5⟩:=hf b hb
  exact⟨f3,f1,f4,f5⟩
theorem Inv.many0 {X:Cx} {pins:List (Addr×Obj)} {σ:St} {H:Hp} {s:Shared} {h':Heap} {t':Nat} {fp:List Addr} (I:Inv X pins σ H s) (hf:∀b∈fp,FpOk X pins H b) (k:∀b u,b∉fp→s.heap.get? b=some u→h'.get? b=some u):Inv X pins σ H {s with heap:=h',toks:=t'}:=by
 have nf:∀b u,H b=some u→b∉fp:=fun b u e z=>by rw[(hf b z).1]at e;cases e
 refine I.call' (s':={ s with heap:=h',toks:=t'}) (ch:=fp) rfl ⟨fun b u q _ _ z=>k b u z q,fun b u q _ _ z=>⟨u.slots,k b u z q⟩,fun b u q n _=>n,fun b u q z=>⟨u,k b u z q⟩,fun b xs q=>q,fun b u xs q=>q,fun b ps q=>⟨#[],by rw[q];simp⟩⟩ (fun b u e=>?_) I.bare (fun b hb=>?_)
 ·refine(I.hok b u e).stay (fun c v hc q=>k c v ?_ q) (fun c q=>q) fun c ys q=>q
  rcases hc with z | z
  ·rw[z];exact nf b u e
  ·exact nf c _ z
 ·obtain⟨f0,f1,f2,f3,f4,f5⟩:=hf b hb
  exact⟨f3,f1,f4,f5⟩
theorem jto {P:Program} {w:World} {K:PySem.W.Frag} {elts:List Expr} {kk:Nat} {pos:Pos} {a b z TI TO i1 i2:Addr} (D:ZipApart z TI TO i1 i2 a b):Turn P w K (.Tuple elts kk pos) (Itz K a b) [z,TI,TO,i1,i2] z
  (fun i h=>IsZip h z TI TO .none∧IsPair h TI (.ref i1) (.ref i2)∧(∃x y,IsPair h TO x y)∧h.IsTupleIter i1 a i∧h.IsTupleIter i2 b i) where
 mem:=by simp
 obj:=fun i h st c hc=>by
  obtain⟨hz,hI,⟨x,y,hO⟩,⟨o1,e1,c1,d1⟩,⟨o2,e2,c2,d2⟩⟩:=st
  simp only[List.mem_cons,List.not_mem_nil,or_false]at hc
  rcases hc with rfl | rfl | rfl | rfl | rfl
  ·exact⟨_,hz,fun v q=>by have q':Data.fields _=Data.cell v:=q;cases q'⟩
  ·exact⟨_,hI,fun v q=>by have q':Data.seq _ _=Data.cell v:=q;cases q'⟩
  ·exact⟨_,hO,fun v q=>by have q':Data.seq _ _=Data.cell v:=q;cases q'⟩
  ·exact⟨o1,e1,fun v q=>by rw[d1]at q;cases q⟩
  ·exact⟨o2,e2,fun v q=>by rw[d2]at q;cases q⟩
 keep:=fun i h h' st k=>by
  obtain⟨hz,hI,⟨x,y,hO⟩,h1,h2⟩:=st
  exact⟨k z (by simp) _ hz,k TI (by simp) _ hI,⟨x,y,k TO (by simp) _ hO⟩,h1.at fun o e=>k i1 (by simp) o e,h2.at fun o e=>k i2 (by simp) o e⟩
 item:=by
  intro X hP hw hK hc i pins s σ H E I hf st hg
  subst hP hw hK
  obtain⟨hz,hI,⟨x0,y0,hO⟩,h1,h2⟩:=st
  obtain⟨xs,ys,x,y,qa,qb,ex,ey⟩:=hg
  obtain⟨its,rv,p,_⟩:=I.tuple qa
  obtain⟨jts,rw',p',_⟩:=I.tuple qb
  obtain⟨u,hu,ru⟩:=rv.get ex
  obtain⟨u',hu',ru'⟩:=rw'.get ey
  refine jiu D hz hI hO h1 h2 (show s.heap.IsTuple a its.toArray from p) (show s.heap.IsTuple b jts.toArray from p') (x:=u) (y:=u') (by simpa using hu) (by simpa using hu') fun h' a1 a2 a3 a4 a5 a6 a7=>⟨_,rfl,?_⟩
  refine wpAny_letOwnedTupleGo_zip (s:={ s with heap:=h'}) a1 fun h'' b1 b2=>?_
  have T:h''.get? s.heap.objs.size=some {cls:=.type "tuple",data:=.seq #[u,u']}:=b2.extBut _ _ (Nat.ne_of_gt (Heap.lt_size hz)) a5
  have Tn:H s.heap.objs.size=none:=I.hok.fresh (Nat.le_refl _)
  have kp:∀c o,c∉[z,TI,TO,i1,i2]→s.heap.get? c=some o→h''.get? c=some o:=fun c o hc e=>by
   simp only[List.mem_cons,List.not_mem_nil,or_false,not_or]at hc
   exact b2.extBut _ _ hc.1 (a7 c o hc.1 hc.2.2.1 hc.2.2.2.1 hc.2.2.2.2 e)
  refine⟨.ref s.heap.objs.size,upd H s.heap.objs.size (.tup [x,y]),I.many (t':=s.toks) hf kp (Nat.le_refl _) ⟨by show 2≤sizeLine;decide,[u,u'],.cons ru (.cons ru' .nil),_,T,rfl,⟨_,rfl⟩,rfl⟩,rfl,⟨_,x,y,rfl,Tn,rfl,fun zs q=>by rw[I.tuple_inj q qa];exact ex,fun zs q=>by rw[I.tuple_inj q qb];exact ey⟩,
   ⟨b1,b2.extBut _ _ D.TIz (a7 _ _ D.TIz D.TITO D.TIi1 D.TIi2 hI),⟨_,_,b2.extBut _ _ D.TOz a2⟩,a3.extBut b2.extBut D.i1z,a4.extBut b2.extBut D.i2z⟩,fun c hc=>?_⟩
  have hlt:c < s.heap.objs.size:=by
   simp only[List.mem_cons,List.not_mem_nil,or_false]at hc
   rcases hc with rfl | rfl | rfl | rfl | rfl
   ·exact Heap.lt_size hz
   ·exact Heap.lt_size hI
   ·exact Heap.lt_size hO
   ·obtain⟨_,e,_⟩:=h1;exact Heap.lt_size e
   ·obtain⟨_,e,_⟩:=h2;exact Heap.lt_size e
  rw[jal (Nat.ne_of_lt hlt)]
  exact(hf c hc).1
 done:=by
  intro X hP hw hK hc i pins s σ H E I hf st hg
  subst hP hw hK
  obtain⟨hz,hI,_,h1,h2⟩:=st
  obtain⟨xs,hq,hx⟩:=hg
  obtain⟨its,rv,p,_⟩:=I.tuple hq
  have hl:=rv.length
  refine jko (I.ok.hd hc) D hz hI h1 (show s.heap.IsTuple a its.toArray from p) (by simp;omega) fun h' k=>⟨rfl,I.many0 (t':=s.toks) hf fun c o hc e=>?_⟩
  simp only[List.mem_cons,List.not_mem_nil,or_false,not_or]at hc
  exact k c o hc.1 hc.2.2.2.1 e
 self:=fun _ _ _ _ _ st h=>wpAny_pyIter_zip st.1 h
noncomputable def iZip (K:PySem.W.Frag) (ta:TA):TI:=fun σ H R=>ta σ H fun vs H1=>∃a b,vs=[.ref a,.ref b]∧(∃xs,SqT K H1 a xs)∧(∃ys,SqT K H1 b ys)∧R (Itz K a b) H1
theorem j0x:bootBuiltins "zip"=some (.type "zip"):=by decide +kernel
theorem jzc {X:Cx} {elts:List Expr} {kk:Nat} {tpos:Pos} {e1 e2:Expr} {ta:TA} {p pos:Pos} (hg:Gl X "zip") (hm:X.mg "zip"=none) (ha:PA X [e1,e2] ta) (hs:starEach [e1,e2] X.env=[(false,eval e1 X.env),(false,eval e2 X.env)]:=by rfl) (hs2:starEach [e2] X.env=[(false,eval e2 X.env)]:=by rfl) :
  PI X (.Tuple elts kk tpos) (.Call (.Name "zip" p) [e1,e2] [] pos) (iZip X.K ta):=by
 intro pins s σ H R I h
 refine Call_ (jj4 I hg hm j0x (PyProof.Rows.callWith_type1 (thn (ha pos pins s σ H _ I h) fun us s1 ⟨vs,H1,I1,r1,q1⟩=>?_) (by rw[hs,hs2]) (by rw[hs2];rfl)))
 obtain⟨a,b,e,⟨xs,qa⟩,⟨ys,qb⟩,q⟩:=q1
 subst e
 cases r1 with
 |cons r rr =>
  cases rr with
  |cons r' rr =>
   cases rr
   cases r
   cases r'
   obtain⟨its,rv,pp,_⟩:=I1.tuple qa
   obtain⟨jts,rw',pp',_⟩:=I1.tuple qb
   have la:a < s1.heap.objs.size:=by obtain⟨_,e,_⟩:=id pp;exact Heap.lt_size e
   have lb:b < s1.heap.objs.size:=by obtain⟨_,e,_⟩:=id pp';exact Heap.lt_size e
   refine js9 (show s1.heap.IsTuple a its.toArray from pp) (show s1.heap.IsTuple b jts.toArray from pp') fun h' a1 a2 a3 a4 a5 a6=>wpAny_pyIter_zip (s:={ s1 with heap:=h'}) a1 ?_
   refine⟨_,_,_,_,H1,rfl,I1.kept (t':=s1.toks) a6,jto (zipApart_new la lb),⟨a1,a2,⟨_,_,a3⟩,a4,a5⟩,fun c hc=>?_,q⟩
   have hlt:s1.heap.objs.size≤c:=by
    simp only[List.mem_cons,List.not_mem_nil,or_false]at hc
    rcases hc with rfl | rfl | rfl | rfl | rfl<;>omega
   exact I1.fpOk hlt (I1.hok.fresh hlt)
end L2
namespace DL
open PySem L2 Nb
noncomputable def valD (kvs:List (Key×PyData)) (k:Key):Option PyData:=(kvs.find? fun kv=>decide (kv.1=k)).map (·.2)
noncomputable def putD (kvs:List (Key×PyData)) (k:Key) (v:PyData):List (Key×PyData) :=
 if (kvs.any fun kv=>decide (kv.1=k))=true then kvs.map (fun kv=>if kv.1=k then(kv.1,v)else kv)else kvs++[(k,v)]
section
variable {H H':Hp} {B B':Addr→Prop} {l:List (Key×V)} {m:List (Key×PyData)} {v:V} {d:PyData} {t:Addr}
theorem RdK.len (h:RdK H B l m):l.length=m.length:=by
 unfold RdK at h
 induction h with
 |nil=>rfl
 |cons _ _ ih=>rw[List.length_cons,List.length_cons,ih]
theorem RdK.val (h:RdK H B l m) (k:Key):(valV l k=none∧valD m k=none)∨∃v d,valV l k=some v∧valD m k=some d∧RdX H B v d:=by
 unfold RdK at h
 induction h with
 |nil=>exact .inl ⟨rfl,rfl⟩
 |@cons p q ps qs r _ ih =>
  by_cases e:p.1=k
  ·have e':q.1=k:=r.1▸e
   exact .inr ⟨p.2,q.2,by simp[valV,List.find?_cons,e],by simp[valD,List.find?_cons,e'],r.2⟩
  ·have e':¬q.1=k:=r.1▸e
   have a1:valV (p::ps) k=valV ps k:=by simp[valV,List.find?_cons,e]
   have a2:valD (q::qs) k=valD qs k:=by simp[valD,List.find?_cons,e']
   rw[a1,a2]
   exact ih
theorem RdK.any (h:RdK H B l m) (k:Key):(l.any fun kv=>decide (kv.1=k))=(m.any fun kv=>decide (kv.1=k)):=by
 unfold RdK at h
 induction h with
 |nil=>rfl
 |cons r _ ih=>rw[List.any_cons,List.any_cons,ih,r.1]
theorem RdK.map (h:RdK H B l m) (r:RdX H B v d) (k:Key):RdK H B (l.map fun kv=>if kv.1=k then(kv.1,v)else kv) (m.map fun kv=>if kv.1=k then(kv.1,d)else kv):=by
 unfold RdK at h ⊢
 induction h with
 |nil=>exact .nil
 |@cons p q ps qs r' _ ih =>
  rw[List.map_cons,List.map_cons]
  refine .cons ?_ ih
  by_cases e:p.1=k
  ·rw[if_pos e,if_pos (r'.1▸e:q.1=k)]
   exact⟨r'.1,r⟩
  ·rw[if_neg e,if_neg (r'.1▸e:¬q.1=k)]
   exact r'
theorem RdK.append {l2:List (Key×V)} {m2:List (Key×PyData)} (h:RdK H B l m) (h2:RdK H B l2 m2):RdK H B (l++l2) (m++m2):=by
 unfold RdK at h ⊢
 induction h with
 |nil=>exact h2
 |cons r' _ ih=>exact .cons r' ih
theorem RdK.put (h:RdK H B l m) (r:RdX H B v d) (k:Key):RdK H B (putK l k v) (putD m k d):=by
 unfold putK putD
 rw[h.any k]
 split
 ·exact h.map r k
 ·exact h.append (.cons ⟨rfl,r⟩ .nil)
theorem jt7 (l:List (Key×V)) (k:Key) (v:V):(putK l k v).length≤l.length+1:=by
 unfold putK
 split
 ·rw[List.length_map];omega
 ·rw[List.length_append];exact Nat.le_refl _
end
section
variable {X:Cx} {a b c e o i f:Expr} {ta tb te td ty tx:TE} {wa wb we wd' wy wx:DT} {pos p:Pos} {K:PySem.W.Frag}
noncomputable def jdm (i:Nat):DT:=fun δ n Q=>match δ[i]? with
 |some (some (.odk kvs))=>Q (.dk kvs) n
 |some (some (.w x))=>Q x n
 |_=>False
theorem jeq (i:Nat) {x:Str} {p:Pos} (hN:X.N[i]?=some x:=by rfl) (hv:Vis X.env.scope x:=by first | exact Or.inl rfl | exact Or.inr (Or.inl rfl) | exact Or.inr (Or.inr rfl)) (hd:(x==("__debug__":Str))=false:=by decide)
  (hcd:(x==("__classdict__":Str))=false:=by decide):DE X (.Name x p) (tVar i) (jdm i):=⟨je9 hN hv hd hcd,fun C H B σ δ n Q Q' R h k=>by
 unfold jdm at h
 split at h
 ·rename_i kvs e
  obtain⟨v,h1,a,l,rfl,g2,g3,g4,g5,g6⟩:=R.sl i _ e
  exact⟨_,h1,k _ (.dk kvs) H n R (Kp.refl _ _) ⟨a,l,rfl,g2,fun z=>R.t0 (z▸g4),g6⟩ h⟩
 ·rename_i x e
  obtain⟨v,h1,h2⟩:=R.sl i _ e
  exact⟨v,h1,k v x H n R (Kp.refl _ _) h2.1 h⟩
 ·exact h.elim⟩
noncomputable def jk4:Wv→Wv→Int→DQ→Prop:=fun x y n Q=>match x,y with
 |.dk kvs,.d (.str k)=>match valD kvs (.inr k)with
  |some d=>Q (.d d) n
  |none=>False
 |_,_=>False
theorem joq (hu:X.A.units+64 < cLine) (ho:DE X o td wd') (hi:DE X i ty wy) (hs:NoSl i:=by exact fun _ _=>rfl):DE X (.Subscript o i pos) (jyj td ty) (w2 wd' wy jk4):=⟨jw7 (by omega) ho.pe hi.pe hs,fun C H B σ δ n Q Q' R h k =>
 ho.sd C H B σ δ n _ _ R h fun v x H1 n1 R1 k1 r1 q1=>hi.sd C H1 B σ δ n1 _ _ R1 q1 fun u y H2 n2 R2 k2 r2 q2=>by
  have r1':=r1.kp k2 R1.bt
  unfold jk4 at q2
  split at q2
  ·rename_i kvs key
   obtain⟨a,l,rfl,g1,g2,g3⟩:=r1'
   cases(show RdX H2 B u (.str key)from r2)
   rcases g3.val (.inr key)with⟨e1,e2⟩ | ⟨v,d,e1,e2,e3⟩
   ·rw[e2]at q2;exact q2.elim
   ·rw[e2]at q2
    exact⟨a,v,rfl,.inl ⟨l,.inr key,.inl g1,rfl,e1.symm⟩,k v (.d d) H2 n2 R2 (k1.trans k2) e3 q2⟩
  ·exact q2.elim⟩
noncomputable def gDIn (neg:Bool):Wv→Wv→Int→DQ→Prop:=fun x y n Q=>match x,y with
 |.d (.str k),.dk kvs=>Q (.d (.bool (if neg then !(valD kvs (.inr k)).isSome else(valD kvs (.inr k)).isSome))) n
 |_,_=>False
theorem jws (hi:DE X i ty wy) (ho:DE X o td wd'):Snd (tDIn ty td) (w2 wy wd' (gDIn false)):=fun C H B σ δ n Q Q' R h k =>
 hi.sd C H B σ δ n _ _ R h fun v x H1 n1 R1 k1 r1 q1=>ho.sd C H1 B σ δ n1 _ _ R1 q1 fun u y H2 n2 R2 k2 r2 q2=>by
  have r1':=r1.kp k2 R1.bt
  unfold gDIn at q2
  split at q2
  ·rename_i key kvs
   obtain⟨a,l,rfl,g1,g2,g3⟩:=r2
   cases(show RdX H2 B v (.str key)from r1')
   refine⟨a,valV l (.inr key),rfl,.inl ⟨l,.inr key,.inl g1,rfl,rfl⟩,k _ _ H2 n2 R2 (k1.trans k2) (wd (.bl _)) ?_⟩
   rcases g3.val (.inr key)with⟨e1,e2⟩ | ⟨v,d,e1,e2,e3⟩
   ·rw[e1];rw[e2]at q2;exact q2
   ·rw[e1];rw[e2]at q2;exact q2
  ·exact q2.elim
theorem jtt (hi:DE X i ty wy) (ho:DE X o td wd'):Snd (jna ty td) (w2 wy wd' (gDIn true)):=fun C H B σ δ n Q Q' R h k =>
 hi.sd C H B σ δ n _ _ R h fun v x H1 n1 R1 k1 r1 q1=>ho.sd C H1 B σ δ n1 _ _ R1 q1 fun u y H2 n2 R2 k2 r2 q2=>by
  have r1':=r1.kp k2 R1.bt
  unfold gDIn at q2
  split at q2
  ·rename_i key kvs
   obtain⟨a,l,rfl,g1,g2,g3⟩:=r2
   cases(show RdX H2 B v (.str key)from r1')
   refine⟨a,valV l (.inr key),rfl,.inl ⟨l,.inr key,.inl g1,rfl,rfl⟩,k _ _ H2 n2 R2 (k1.trans k2) (wd (.bl _)) ?_⟩
   rcases g3.val (.inr key)with⟨e1,e2⟩ | ⟨v,d,e1,e2,e3⟩
   ·rw[e1];rw[e2]at q2;exact q2
   ·rw[e1];rw[e2]at q2;exact q2
  ·exact q2.elim
theorem j0t (hu:X.A.units+64 < cLine) (hi:DE X i ty wy) (ho:DE X o td wd') (hm:behindInMarks .In o=false:=by with_unfolding_all rfl):DE X (.Compare i [.In] [o] pos) (tDIn ty td) (w2 wy wd' (gDIn false)):=⟨jvr (jzm (by omega) hi.pe ho.pe) hm,jws hi ho⟩
theorem j0s (hu:X.A.units+64 < cLine) (hi:DE X i ty wy) (ho:DE X o td wd') (hm:behindInMarks .NotIn o=false:=by with_unfolding_all rfl):DE X (.Compare i [.NotIn] [o] pos) (jna ty td) (w2 wy wd' (gDIn true)):=⟨jvr (jro (by omega) hi.pe ho.pe) hm,jtt hi ho⟩
noncomputable abbrev DTK:=Sl→Int→(List (Key×PyData)→Int→Prop)→Prop
noncomputable def SndK (t:TE) (w:DTK):Prop:=∀(C:Ctx) (H:Hp) (B:Addr→Prop) (σ:St) (δ:Sl) (n:Int) (Q:List (Key×PyData)→Int→Prop) (Q':VK),Rel C H B σ δ n→w δ n Q →
 (∀a l kvs H' n',Rel C H' B σ δ n'→Kp C.t H H'→H a=none→H' a=some (.dK l)→l.length≤1000→RdK H' (fun b=>B b∨b=a) l kvs→Q kvs n'→Q' (.ref a) H')→t σ H Q'
structure DN (X:Cx) (e:Expr) (t:TE) (w:DTK):Prop where
 pe:PE X e t
 sd:SndK t w
noncomputable def kNil:DTK:=fun _ n Q=>Q [] n
theorem j1m:DN X (.Dict [] [] pos) jvj kNil:=⟨jue,fun C H B σ δ n Q Q' R q k=>fun a ha=>k a [] [] _ n (R.new ha) (Kp.new ha) ha jar (Nat.zero_le _) .nil q⟩
noncomputable def jne (i:Nat) (w:DTK):DST:=fun δ n K=>w δ n fun kvs n1=>K.nx (δ.set i (some (.odk kvs))) n1
theorem jq3 {i:Nat} {x:Str} {pos':Pos} {w:DTK} (hN:X.N.Nodup) (hi:X.N[i]?=some x) (hx:Loc X.env.scope x) (he:DN X e te w) (hs:swapsWith e (some (.Name x pos')) pos.line X.env=pure false:=by rfl) (hf:X.fn x=true∨X.env.scope.names.lookup x=some .local:=by first | exact .inl rfl | exact .inr rfl | assumption) :
  DS X (.Assign [.Name x pos'] e pos) (tAsg te (jhb i)) (jne i w):=⟨jfu hN hi hx he.pe hs hf,fun C H B σ δ n K D R q E =>
 he.sd C H B σ δ n _ _ R q fun a l kvs H1 n1 R1 k1 h0 h1 h2 h3 q1=>by
  refine E.nx _ _ _ _ _ (R.own R1 k1 h0 (by rw[h1];exact fun z=>nomatch z) rfl ?_) q1
  exact⟨a,l,rfl,h1,.inr rfl,R.h0 h0,h2,h3⟩⟩
noncomputable def jo2 (i:Nat) (wy wv:DT):DST:=fun δ n K=>match δ[i]? with
 |some (some (.odk kvs))=>wv δ n fun v n1=>wy δ n1 fun y n2=>match v,y with
  |.d d,.d (.str k)=>kvs.length < 1000∧K.nx (δ.set i (some (.odk (putD kvs (.inr k) d)))) n2
  |_,_=>False
 |_=>False
theorem jq2 {i:Nat} {x:Str} {xp sp:Pos} {j e:Expr} {tj te:TE} {wj we:DT} (hu:X.A.units+64 < cLine) (hN:X.N[i]?=some x) (hj:DE X j tj wj) (he:DE X e te we) (hv:Vis X.env.scope x:=by first | exact Or.inl rfl | exact Or.inr (Or.inl rfl) | exact Or.inr (Or.inr rfl)) (hd:(x==("__debug__":Str))=false:=by decide)
  (hcd:(x==("__classdict__":Str))=false:=by decide) (hs:swapsWith e (some (.Subscript (.Name x xp) j sp)) pos.line X.env=pure false:=by rfl) :
  DS X (.Assign [.Subscript (.Name x xp) j sp] e pos) (jyy (tVar i) tj te) (jo2 i wj we) :=
 ⟨jw1 (by omega) (je9 hN hv hd hcd) hj.pe he.pe hs,fun C H B σ δ n K D R q E=>by
  unfold jo2 at q
  split at q
  ·rename_i kvs ei
   refine he.sd C H B σ δ n _ _ R q fun u y H1 n1 R1 k1 r1 q1=>?_
   obtain⟨v,hv,a,l,rfl,e2,e3,e4,e5,e6⟩:=R1.sl i _ ei
   refine⟨_,hv,hj.sd C H1 B σ δ n1 _ _ R1 q1 fun w z H2 n2 R2 k2 r2 q2=>?_⟩
   split at q2
   ·rename_i d key
    cases(show RdX H2 B w (.str key)from r2)
    have hat:a≠C.t:=fun z=>R.t0 (z▸e4)
    have e2':=k2 _ _ e2 hat
    have r1':RdX H2 B u d:=r1.kp k2 R1.bt
    have e6':RdK H2 B l kvs:=e6.move fun b o e n=>⟨k2 b o e fun z=>n (z▸R1.bt),n⟩
    have hl:l.length < 1000:=by rw[e6'.len];exact q2.1
    refine⟨a,_,rfl,DPut.k (k:=.inr key) e2' (Nat.lt_of_lt_of_le hl (jbb (Nat.le_refl _))),?_⟩
    refine E.nx _ _ _ _ _ (R2.mutOwn ei rfl hv e3 e4 ?_ rfl) q2.2
    refine⟨a,_,rfl,jar,e3,e4,?_,?_⟩
    ·have:=jt7 l (.inr key) u
     omega
    ·exact(e6'.put r1' _).move fun b o e n=>⟨by rw[jal fun(z:b=a)=>n (z▸e3)];exact e,n⟩
   ·exact q2.elim
  ·exact q.elim⟩
noncomputable def j1a (i:Nat):DT:=fun δ n Q=>match δ[i]? with
 |some (some (.own ds))=>Q (.d (.int ds.length)) n
 |_=>False
noncomputable def jjn (i:Nat) (w:DT):DT:=fun δ n Q=>w δ n fun x n1=>match x,δ[i]? with
 |.d a,some (some (.own ds))=>jed a=true∧ds.all jed=true∧Q (.d (.bool (inD a ds))) n1
 |_,_=>False
theorem jqs {i:Nat} (h:Snd ta wa):Snd (tOp (rIn K false) ta (tVar i)) (jjn i wa):=fun C H B σ δ n Q Q' R q k =>
 h C H B σ δ n _ _ R q fun v x H1 n1 R1 k1 r1 q1=>by
  split at q1
  ·rename_i da ds e
   have r1:RdX H1 B v da:=r1
   obtain⟨u,h1,a,xs,rfl,g2,g3,g4,g5,g6⟩:=R1.sl i _ e
   refine⟨_,h1,a,xs,rfl,.inl (SqL.of g2),jh4 r1 q1.1,je4 g6 q1.2.1,k _ _ H1 n1 R1 k1 (wd (.bl _)) ?_⟩
   rw[jmj r1 g6]
   exact q1.2.2
  ·exact q1.elim
theorem jx3 (i:Nat) {x:Str} {xp:Pos} (ha:DE X a ta wa) (hK:X.K=K:=by rfl) (hN:X.N[i]?=some x:=by rfl) (hv:Vis X.env.scope x:=by first | exact Or.inl rfl | exact Or.inr (Or.inl rfl) | exact Or.inr (Or.inr rfl)) (hd:(x==("__debug__":Str))=false:=by decide)
  (hcd:(x==("__classdict__":Str))=false:=by decide) (hm:behindInMarks .In (Expr.Name x xp)=false:=by with_unfolding_all rfl):DC X (.Compare a [.In] [.Name x xp] pos) (jp7 (tOp (rIn K false) ta (tVar i))) (cT (jjn i wa)) :=
 ⟨jf7 (jfa hK) ha.pe (je9 hN hv hd hcd) hm,jkh (jqs ha.sd)⟩
end
section
variable {X:Cx} {a b c e o i f:Expr} {ta tb te td ty tx:TE} {wa wb we wd' wy wx:DT} {pos p:Pos} {K:PySem.W.Frag}
noncomputable def txK (ps:List (Str×PyData)):List (Key×PyData):=ps.map fun p=>(Sum.inr p.1,p.2)
noncomputable def jy2 (ps:List (Str×PyData)):Prop:=ps.Pairwise fun _ _=>True
noncomputable def jj7 (w:DT):DTF:=fun δ n Q=>w δ n fun x n1=>match x with
 |.dk kvs=>∃ps:List (Str×PyData),kvs=txK ps∧ps.length < 64∧(ps.map (·.1)).Nodup∧(∀p∈ps,p.1.length≤1000∧jed p.2=true)∧∀ps':List (Str×PyData),ps'.Perm ps→jy2 ps'→Q (ps'.map fun p=>.tuple [.str p.1,p.2]) n1
 |_=>False
theorem jq5 {H:Hp} {B:Addr→Prop}:∀{l:List (Key×V)} {ps:List (Str×PyData)},RdK H B l (txK ps)→∃xv:List V,xv.length=ps.length∧l=(((ps.map (·.1)).zip xv).map fun p=>((Sum.inr p.1:Key),p.2))∧RdXs H B xv (ps.map (·.2))
 |[],[],_=>⟨[],rfl,rfl,.nil⟩
 |[],_::_,h=>nomatch h
 |_::_,[],h=>nomatch h
 |q::l,p::ps,.cons r h=>by
  obtain⟨xv,e1,e2,e3⟩:=jq5 (l:=l) (ps:=ps) h
  refine⟨q.2::xv,by simp[e1],?_,.cons r.2 e3⟩
  rw[e2]
  have r1:q.1=(Sum.inr p.1:Key):=r.1
  have:q=((Sum.inr p.1:Key),q.2):=by rw[←r1]
  rw[this]
  rfl
noncomputable def jy6:V→List V→Hp→VK→Prop:=fun x vs H Q=>∃d kvs,x=.ref d∧vs=[]∧H d=some (.dK kvs)∧∀v,H v=none→Q (.ref v) (upd H v (jli d v))
theorem jnp {ap ip:Pos} (hh:X.A.handled=none) (hg:Gl X "sorted") (hm:X.mg "sorted"=none) (ho:DE X o td wd') (hv:bootBuiltins "sorted"=some (.builtin "sorted"):=by decide +kernel) (hK:X.K=K:=by rfl)
  (hbase:attributeBase o "items" X.env (eval o X.env)=eval o X.env:=by rfl) (hline:(ap.endLine==ip.line)=true:=by rfl)
  (he':starEach [Expr.Call (.Attribute o "items" ap) [] [] ip] X.env=(false,eval (Expr.Call (.Attribute o "items" ap) [] [] ip) X.env)::starEach [] X.env:=by rfl) (hpl:(backTo pos (starEach [] X.env)).any (·.1)=false:=by rfl) :
  DF X (.Call (.Name "sorted" p) [.Call (.Attribute o "items" ap) [] [] ip] [] pos) (tCB jjv (jds (tBM0 K "dict" jy6 td) tNil)) (jj7 wd'):=by
 subst hK
 refine⟨jdh (jjg hh) hg hm hv (ja4 (jzj PySem.F.plainAttrs_dict PySem.F.slot_dict_items PySem.F.type_dict_items juk ho.pe hbase hline) jb6 he') (by decide) (by decide) he' hpl,fun C H B σ δ n Q Q' R q k =>
  ho.sd C H B σ δ n _ _ R q fun v x H1 n1 R1 k1 r1 q1=>?_⟩
 cases x with
 |d _=>exact q1.elim
 |tp=>exact q1.elim
 |ln _=>exact q1.elim
 |dk kvs =>
  obtain⟨a,l,rfl,g1,g2,g3⟩:=r1
  obtain⟨ps,rfl,h64,nd,hps,kq⟩:=q1
  obtain⟨xv,ex1,ex2,ex3⟩:=jq5 g3
  refine⟨.inr (.inr (.inl ⟨rfl,.inl ⟨l,g1⟩⟩)),a,l,rfl,rfl,g1,fun v hv=>?_⟩
  have R2:=R1.new (o:=jli a v) hv
  have kp2:Kp C.t H1 (upd H1 v (jli a v)):=Kp.new hv
  have hne:a≠v:=jak g1 hv
  refine⟨v,a,ps.map (·.1),xv,rfl,jar,by rw[List.length_map,ex1],by rw[jal hne,g1,ex2],by rw[List.length_map];exact h64,nd,je4 ex3 ?_,fun D as idx H' hla hidx hpw sm hD has hD' hit=>?_⟩
  ·rw[List.all_eq_true]
   intro d hd
   obtain⟨p,hp,rfl⟩:=List.mem_map.mp hd
   exact(hps p hp).2
  ·rw[List.length_map]at hla hidx
   have R3:=R2.same sm
   have k3:Kp C.t H H':=(k1.trans kp2).trans fun b o e _=>sm b o e
   have hDn:H D=none:=R1.was k1 (by
    cases q:H1 D with
    |none=>rfl
    |some o =>
     have:upd H1 v (jli a v) D=some o:=by rw[jal (jak q hv)];exact q
     rw[hD]at this;cases this)
   have hlt:∀i∈idx,i < ps.length:=fun i hi=>List.mem_range.mp (hidx.mem_iff.mp hi)
   have lidx:idx.length=ps.length:=by rw[hidx.length_eq,List.length_range]
   refine k D _ _ H' n1 R3 k3 hDn hD' (by rw[List.length_map,lidx];exact jbb (by omega)) ?_ (kq (idx.map fun i=>ps.getD i (⟨#[]⟩,.none)) ?_ ?_)
   ·rw[List.map_map]
    have key:∀m:List Nat,(∀i∈m,i∈idx)→RdXs H' (fun b=>B b∨b=D) (m.map fun i=>V.ref (IxV as (ps.map (·.1)) xv i).1) (m.map ((fun p=>PyData.tuple [.str p.1,p.2]) ∘ fun i=>ps.getD i (⟨#[]⟩,.none))):=by
     intro m
     induction m with
     |nil=>intro _;exact .nil
     |cons i r ih =>
      intro hm
      have hi:=hm i List.mem_cons_self
      have hil:=hlt i hi
      refine .cons ?_ (ih fun j hj=>hm j (List.mem_cons_of_mem _ hj))
      have ht:=hit i hi
      have hia:i < as.length:=by rw[hla];exact hil
      have eA:(IxV as (ps.map (·.1)) xv i).1=as[i]:=by show as.getD i 0=_;simp[hia]
      have eK:(IxV as (ps.map (·.1)) xv i).2.1=ps[i].1:=by show(ps.map (·.1)).getD i ⟨#[]⟩=_;simp[hil]
      have hix:i < xv.length:=by rw[ex1];exact hil
      have eX:(IxV as (ps.map (·.1)) xv i).2.2=xv[i]:=by show xv.getD i .non=_;simp[hix]
      rw[eA,eK,eX]at ht
      show RdX H' _ (.ref (IxV as (ps.map (·.1)) xv i).1) _
      rw[eA]
      have eP:ps.getD i (⟨#[]⟩,.none)=ps[i]:=by simp[hil]
      show RdX H' _ (.ref as[i]) (.tuple [.str (ps.getD i (⟨#[]⟩,.none)).1,(ps.getD i (⟨#[]⟩,.none)).2])
      rw[eP]
      have hAn:=has as[i] (List.getElem_mem hia)
      have nB:¬B as[i]:=R2.nb hAn
      have nD:as[i]≠D:=fun z=>by rw[z,hD']at ht;cases ht
      refine .tup ht (fun z=>z.elim nB nD) (by show 2≤sizeLine;decide) (.cons (.str _ (jbb (hps ps[i] (List.getElem_mem hil)).1)) (.cons ?_ .nil))
      obtain⟨d,f1,f2⟩:=ex3.get (List.getElem?_eq_getElem hix)
      rw[List.getElem?_map,List.getElem?_eq_getElem hil]at f1
      cases f1
      exact f2.move fun b o e n=>⟨sm b o (by rw[jal (jak e hv)];exact e),fun z=>z.elim n fun q=>by
       have e2:upd H1 v (jli a v) b=some o:=by rw[jal (jak e hv)];exact e
       rw[q,hD]at e2
       cases e2⟩
    exact key idx fun _ h=>h
   ·have h1:=hidx.map fun i=>ps.getD i ((⟨#[]⟩:Str),PyData.none)
    have h2:(List.range ps.length).map (fun i=>ps.getD i ((⟨#[]⟩:Str),PyData.none))=ps:=by
     apply List.ext_getElem (by simp)
     intro i h1 h2
     simp[h2]
    rw[h2]at h1
    exact h1
   ·exact KS.pwT _
noncomputable def jmp (w:DT):DTF:=fun δ n Q=>w δ n fun x n1=>match x with
 |.dk kvs=>∃ps:List (Str×PyData),kvs=txK ps∧ps.length < 64∧(∀p∈ps,p.1.length≤1000)∧∀ys:List Str,ys.Perm (ps.map (·.1))→ys.Pairwise (fun _ _=>True)→Q (ys.map .str) n1
 |_=>False
theorem jnf {H:Hp} {B:Addr→Prop}:∀{ys:List Str},(∀y∈ys,y.length≤1000)→RdXs H B (ys.map V.str) (ys.map .str)
 |[],_=>.nil
 |y::r,h=>.cons (.str _ (jbb (h y List.mem_cons_self))) (jnf fun z hz=>h z (List.mem_cons_of_mem _ hz))
theorem jpj (hh:X.A.handled=none) (hg:Gl X "sorted") (hm:X.mg "sorted"=none) (ho:DE X o td wd') (hv:bootBuiltins "sorted"=some (.builtin "sorted"):=by decide +kernel)
  (he':starEach [o] X.env=(false,eval o X.env)::starEach [] X.env:=by rfl) (hpl:(backTo pos (starEach [] X.env)).any (·.1)=false:=by rfl) :
  DF X (.Call (.Name "sorted" p) [o] [] pos) (tCB jl1 (jds td tNil)) (jmp wd'):=by
 refine⟨jdh (jla hh) hg hm hv (ja4 ho.pe jb6 he') (by decide) (by decide) he' hpl,fun C H B σ δ n Q Q' R q k =>
  ho.sd C H B σ δ n _ _ R q fun v x H1 n1 R1 k1 r1 q1=>?_⟩
 cases x with
 |d _=>exact q1.elim
 |tp=>exact q1.elim
 |ln _=>exact q1.elim
 |dk kvs =>
  obtain⟨a,l,rfl,g1,g2,g3⟩:=r1
  obtain⟨ps,rfl,h64,hps,kq⟩:=q1
  obtain⟨xv,ex1,ex2,ex3⟩:=jq5 g3
  refine⟨a,l,ps.map (·.1),rfl,g1,?_,by rw[List.length_map];exact h64,fun D ys hp hw hD=>?_⟩
  ·rw[ex2,List.map_map]
   show((ps.map (·.1)).zip xv).map (Sum.inr ∘ Prod.fst)=_
   rw[←List.map_map,List.map_fst_zip (by rw[List.length_map,ex1];exact Nat.le_refl _)]
  ·have hy:∀y∈ys,y.length≤1000:=fun y hy=>by
    obtain⟨p,hp',rfl⟩:=List.mem_map.mp (hp.mem_iff.mp hy)
    exact hps p hp'
   refine k D _ _ _ n1 (R1.new hD) (k1.trans (Kp.new hD)) (R1.was k1 hD) jar ?_ (jnf hy) (kq ys hp hw)
   rw[List.length_map,hp.length_eq,List.length_map]
   exact jbb (by omega)
noncomputable def gInt:List Wv→Int→DQ→Prop:=fun xs n Q=>match xs with
 |[.d (.int i)]=>Q (.d (.int i)) n
 |[.d (.bool b)]=>Q (.d (.int (if b then 1 else 0))) n
 |_=>False
noncomputable def jy7:List V→Hp→VK→Prop:=fun xs H Q=>(∃i,xs=[.int i]∧Q (.int i) H)∨∃k,xs=[.bl k]∧Q (.int (if k then 1 else 0)) H
theorem jpt:CallR X (.type "int") jy7:=jtb
theorem jwr:SndB jy7 gInt:=fun C H B σ δ n vs xs Q Q' R r h k=>by
 unfold gInt at h
 split at h
 ·rename_i i
  cases r with
  |cons r1 r2 =>
   cases r2
   cases(show RdX H B _ (.int i)from r1)
   exact .inl ⟨i,rfl,k _ _ H n R (Kp.refl _ _) (wd (.int _)) h⟩
 ·rename_i i
  cases r with
  |cons r1 r2 =>
   cases r2
   cases(show RdX H B _ (.bool i)from r1)
   exact .inr ⟨i,rfl,k _ _ H n R (Kp.refl _ _) (wd (.int _)) h⟩
 ·exact h.elim
noncomputable def zipD (xs ys:List PyData):List PyData:=List.zipWith (fun x y=>.tuple [x,y]) xs ys
noncomputable def jsk (w w':DT):DTI:=fun δ n Q=>w δ n fun x n1=>w' δ n1 fun y n2=>match x,y with
 |.d (.tuple xs),.d (.tuple ys)=>xs.length=ys.length∧Q (zipD xs ys) n2
 |_,_=>False
theorem j0g {elts:List Expr} {kk:Nat} {tpos:Pos} (hg:Gl X "zip") (hm:X.mg "zip"=none) (ha:DE X a ta wa) (hb:DE X b tb wb) (hK:X.K=K:=by rfl) (hs:starEach [a,b] X.env=[(false,eval a X.env),(false,eval b X.env)]:=by rfl) (hs2:starEach [b] X.env=[(false,eval b X.env)]:=by rfl)
  (he1:starEach [a,b] X.env=(false,eval a X.env)::starEach [b] X.env:=by rfl) (he2:starEach [b] X.env=(false,eval b X.env)::starEach [] X.env:=by rfl) :
  DI X (.Tuple elts kk tpos) (.Call (.Name "zip" p) [a,b] [] pos) (iZip K (jds ta (jds tb tNil))) (jsk wa wb):=by
 subst hK
 refine⟨jzc hg hm (ja4 ha.pe (ja4 hb.pe jb6 he2) he1) hs hs2,fun C H B σ δ n Q Q' R q k=>ha.sd C H B σ δ n _ _ R q fun v x H1 n1 R1 k1 r1 q1=>hb.sd C H1 B σ δ n1 _ _ R1 q1 fun u y H2 n2 R2 k2 r2 q2=>?_⟩
 have r1':=r1.kp k2 R1.bt
 split at q2
 ·rename_i xs ys
  cases(show RdX H2 B v (.tuple xs)from r1')with
  |@tup aa vs _ e1 e2 e3 e4 =>
   cases(show RdX H2 B u (.tuple ys)from r2)with
   |@tup ab ws _ f1 f2 f3 f4 =>
    refine⟨aa,ab,rfl,⟨vs,SqT.of e1⟩,⟨ws,SqT.of f1⟩,k _ (zipD xs ys) H2 n2 R2 (k1.trans k2) (fun fz th=>?_) q2.2⟩
    have za:fz aa=some (.tup vs):=th.2 _ _ e1 e2
    have zb:fz ab=some (.tup ws):=th.2 _ _ f1 f2
    have lz:(zipD xs ys).length=xs.length:=by unfold zipD;rw[List.length_zipWith,q2.1,Nat.min_self]
    refine⟨by rw[lz,←e4.len];exact e3,fun i H hH hi=>?_,fun H hH=>?_,fun i H x H' d hH hd hy=>?_⟩
    ·rw[lz]at hi
     have h1:i < vs.length:=by rw[e4.len];exact hi
     have h2:i < ws.length:=by rw[f4.len,←q2.1];exact hi
     exact⟨vs,ws,vs[i],ws[i],SqT.of (hH _ _ za),SqT.of (hH _ _ zb),List.getElem?_eq_getElem h1,List.getElem?_eq_getElem h2⟩
    ·exact⟨vs,SqT.of (hH _ _ za),by rw[lz,e4.len];exact Nat.le_refl _⟩
    ·obtain⟨T,x1,y1,rfl,hT,rfl,hx,hy⟩:=hy
     refine⟨fun b o e=>by rw[jal (jak e hT)];exact e,fun B' hB hBa=>?_⟩
     have hi:i < xs.length:=by rw[←lz];exact(List.getElem?_eq_some_iff.mp hd).1
     have hi2:i < ys.length:=by rw[←q2.1];exact hi
     have ed:d=.tuple [xs[i],ys[i]]:=by
      unfold zipD at hd
      rw[List.getElem?_zipWith,List.getElem?_eq_getElem hi,List.getElem?_eq_getElem hi2]at hd
      exact(Option.some.inj hd).symm
     subst ed
     obtain⟨u1,hu1,ru1⟩:=e4.getD (List.getElem?_eq_getElem hi)
     obtain⟨u2,hu2,ru2⟩:=f4.getD (List.getElem?_eq_getElem hi2)
     have t1:=hx _ (SqT.of (hH _ _ za))
     have t2:=hy _ (SqT.of (hH _ _ zb))
     rw[hu1]at t1
     rw[hu2]at t2
     cases t1
     cases t2
     have mv:∀b o,H2 b=some o→¬B b→upd H T (.tup [x1,y1]) b=some o∧¬B' b:=fun b o e ne=>by
      have:=hH _ _ (th.2 _ _ e ne)
      exact⟨by rw[jal (jak this hT)];exact this,hB _ _ (th.2 _ _ e ne)⟩
     exact .tup jar (fun z=>hBa T z hT) (by show 2≤sizeLine;decide) (.cons (ru1.move mv) (.cons (ru2.move mv) .nil))
 ·exact q2.elim
end
end DL
namespace L2
open PySem PySem.Spec PyProof.Rows PySem.SeqAt
noncomputable def LtAt (A:Around) (s:Shared) (x y:Value) (b:Bool):Prop:=∀(prog:Program) (w:World) (E:Value→Shared→Prop) (Q:Value→Shared→Prop),Q (.bool b) s→wpAny (model prog w) A (richCompare .Lt x y) Q E s
inductive LexAt (A:Around) (s:Shared) (fin:Bool):List (Value×Value)→Bool→Prop
 |nil:LexAt A s fin [] fin
 |same {x y:Value} {r:List (Value×Value)} {b:Bool}:EqAt A s x y true→LexAt A s fin r b→LexAt A s fin ((x,y)::r) b
 |parts {x y:Value} {r:List (Value×Value)} {b:Bool}:EqAt A s x y false→LtAt A s x y b→LexAt A s fin ((x,y)::r) b
theorem jit (l b:Addr) (xs ys:Array Value) (n n2:Nat) (dd dd2:Option Addr) (sl sl2:Array (Option Value)) (k:Bool) :
  Meets (Builtin.«tuple.__lt__» ⟨[.ref l,.ref b],[]⟩)
   (fun A R s=>s.heap.get? l=some {cls:=.type "tuple",dict:=dd,data:=.seq xs n,slots:=sl}∧s.heap.get? b=some {cls:=.type "tuple",dict:=dd2,data:=.seq ys n2,slots:=sl2} ∧
    LexAt A.in1 s (decide (xs.size < ys.size)) (xs.toList.zip ys.toList) k∧R (.ok (.ret (.bool k))) s) :=
 .of_wp fun prog w A R s h=>by
  obtain⟨hp,g,d,tk,os⟩:=s
  obtain⟨hl,hb,he,h⟩:=h
  have f2:=AutoSeq1.sub_tuple_tuple
  wp_walk using wpAny_loadPart' hl,wpAny_loadPart' hb,wpAny_forIn_list _ (fun rest b s'=>b.1=none∧s'=⟨hp,g,d,tk,os⟩∧LexAt A.in1 ⟨hp,g,d,tk,os⟩ (decide (xs.size < ys.size)) rest k) _
  case turn =>
   rintro⟨x,y⟩ rest b s' ⟨_,rfl,hm⟩
   cases hm with
   |same e1 hm' =>
    refine wpAny_bind (e1 prog w _ _ ?_)
    wp_walk
    exact⟨rfl,rfl,hm'⟩
   |parts e1 e3 =>
    refine wpAny_bind (e1 prog w _ _ ?_)
    show wpAny _ _ (rule _>>=fun _=>_) _ _ _
    refine wpAny_bind (wpAny_rule ?_)
    refine wpAny_bind (e3 prog w _ _ ?_)
    wp_walk
    exact⟨_,rfl,h⟩
  case fin =>
   rintro⟨b1,b2⟩ s' ⟨hb',rfl,hm⟩
   simp only at hb'
   subst hb'
   cases hm
   wp_walk
   exact⟨_,rfl,by simpa[Builtin.Tuple.tupleCompareSizes]using h⟩
  case h =>
   exact⟨rfl,rfl,he⟩
section
variable {A:Around} {s:Shared}
theorem LtAt.tuples {l b:Addr} {xs ys:Array Value} {k:Bool} (hl:s.heap.IsTuple l xs) (hb:s.heap.IsTuple b ys) (hu:A.units < cLine)
  (he:LexAt A.in1 s (decide (xs.size < ys.size)) (xs.toList.zip ys.toList) k):LtAt A s (.ref l) (.ref b) k:=fun prog w E Q h=>by
 obtain⟨⟨cls,dd,data,sl⟩,ho,hc,n,hd⟩:=id hl
 obtain⟨⟨cls2,dd2,data2,sl2⟩,ho2,hc2,n2,hd2⟩:=id hb
 simp only at hc hd hc2 hd2
 subst hc hd hc2 hd2
 exact richCompare_meets_room (op:=.Lt) ⟨_,ho,rfl⟩ ⟨_,ho2,rfl⟩ F.slot_tuple_lt F.entry_tuple_lt (F.args_tuple_lt_2 _ _) (jit l b xs ys n n2 dd dd2 sl sl2 k)
  ⟨ho,ho2,he,show Value.bool _≠Value.notImplemented∧Q (.bool _) s from⟨(fun x=>nomatch x),h⟩⟩ hu
theorem LtAt.int (i j:Int) (t u:Tok):LtAt A s (.int i t) (.int j u) (decide (i < j)):=fun _ _ _ _ h=>P.lt_int h
theorem LtAt.str (x y:Str) (t u:Tok):LtAt A s (.str x t) (.str y u) (decide (x.cps.toList < y.cps.toList)):=fun _ _ _ _ h=>P.lt_str h
end
mutual
noncomputable def ltd:PyData→PyData→Option Bool
 |.int i,.int j=>some (decide (i < j))
 |.str x,.str y=>some (decide (x.cps.toList < y.cps.toList))
 |.tuple xs,.tuple ys=>jcd xs ys
 |_,_=>none
noncomputable def jcd:List PyData→List PyData→Option Bool
 |[],[]=>some false
 |[],_::_=>some true
 |_::_,[]=>some false
 |x::xs,y::ys=>if PyData.eqv x y=true then jcd xs ys else ltd x y
end
mutual
theorem jpc:∀(d e:PyData) (A:Around) (s:Shared) (a b:Value) (as bs:List Addr) (k:Bool),Reads s.heap a d as→Reads s.heap b e bs→d.canLay0=true→e.canLay0=true→A.units+d.depth+e.depth < cLine→ltd d e=some k→LtAt A s a b k
 |.int i,e,A,s,_,_,_,_,k,ra,rb,_,_,_,h=>by
  cases e<;>first | (simp[ltd]at h;done) | skip
  cases ra
  cases rb
  simp only[ltd,Option.some.injEq]at h
  subst h
  exact LtAt.int _ _ _ _
 |.str x,e,A,s,_,_,_,_,k,ra,rb,_,_,_,h=>by
  cases e<;>first | (simp[ltd]at h;done) | skip
  cases ra
  cases rb
  simp only[ltd,Option.some.injEq]at h
  subst h
  exact LtAt.str _ _ _ _
 |.tuple xs,e,A,s,_,_,_,_,k,ra,rb,ca,cb,hu,h=>by
  cases e<;>first | (simp[ltd]at h;done) | skip
  rename_i ys
  cases ra with
  |tuple h1 h2 h3 h4 =>
   cases rb with
   |tuple g1 g2 g3 g4 =>
    rename_i o1 vs n1 a2 o2 ws n2
    simp only[ltd]at h
    rw[PyData.canLay0]at ca cb
    rw[PyData.depth,PyData.depth]at hu
    refine LtAt.tuples (xs:=vs) (ys:=ws) ⟨_,h1,h2,_,h3⟩ ⟨_,g1,g2,_,g3⟩ (by omega) ?_
    have hsz:decide (vs.size < ws.size)=decide (xs.length < ys.length):=by
     have e1:=ReadsAll.length _ _ _ h4
     have e2:=ReadsAll.length _ _ _ g4
     rw[Array.length_toList]at e1 e2
     rw[e1,e2]
    rw[hsz]
    exact jfl xs ys A.in1 s _ _ _ _ k _ h4 g4 ca cb (by show A.units+1+_+_ < _;omega) h 0 (by simp)
 |.none,e,_,_,_,_,_,_,_,_,_,_,_,_,h=>by cases e<;>(simp[ltd]at h)
 |.bool _,e,_,_,_,_,_,_,_,_,_,_,_,_,h=>by cases e<;>(simp[ltd]at h)
 |.list _,e,_,_,_,_,_,_,_,_,_,_,_,_,h=>by cases e<;>(simp[ltd]at h)
 |.dict _,e,_,_,_,_,_,_,_,_,_,_,_,_,h=>by cases e<;>(simp[ltd]at h)
theorem jfl:∀(xs ys:List PyData) (A:Around) (s:Shared) (vs ws:List Value) (as bs:List Addr) (k fin:Bool),ReadsAll s.heap vs xs as→ReadsAll s.heap ws ys bs→PyData.canLayAll0 xs=true→PyData.canLayAll0 ys=true→A.units+PyData.depthAll xs+PyData.depthAll ys < cLine→jcd xs ys=some k →
  ∀m:Nat,fin=decide (m+xs.length < m+ys.length)→LexAt A s fin (vs.zip ws) k
 |[],ys,A,s,_,_,_,_,k,fin,ra,rb,_,_,_,h,m,hf=>by
  cases ra
  rw[List.zip_nil_left]
  cases ys with
  |nil=>rw[jcd]at h;cases h;rw[show fin=false by rw[hf];simp];exact .nil
  |cons y ys=>rw[jcd]at h;cases h;rw[show fin=true by rw[hf];simp];exact .nil
 |x::xs,[],A,s,_,_,_,_,k,fin,ra,rb,_,_,_,h,m,hf=>by
  cases rb
  rw[List.zip_nil_right]
  rw[jcd]at h;cases h;rw[show fin=false by rw[hf];simp];exact .nil
 |x::xs,y::ys,A,s,_,_,_,_,k,fin,ra,rb,ca,cb,hu,h,m,hf=>by
  cases ra with
  |cons r1 r2 =>
   cases rb with
   |cons t1 t2 =>
    rw[PyData.canLayAll0,Bool.and_eq_true]at ca cb
    rw[PyData.depthAll,PyData.depthAll]at hu
    rw[List.zip_cons_cons]
    have he:=eqAt_reads x y A s _ _ _ _ r1 t1 ca.1 cb.1 (by omega)
    rw[jcd]at h
    cases q:PyData.eqv x y with
    |true =>
     rw[q]at he
     rw[if_pos q]at h
     exact .same he (jfl xs ys A s _ _ _ _ k fin r2 t2 ca.2 cb.2 (by omega) h m (by rw[hf,List.length_cons,List.length_cons];simp))
    |false =>
     rw[q]at he
     rw[if_neg (by rw[q];exact Bool.false_ne_true)]at h
     exact .parts he (jpc x y A s _ _ _ _ k r1 t1 ca.1 cb.1 (by omega) h)
end
end L2
namespace DL
open PySem L2 Nb
section
variable {X:Cx} {K:PySem.W.Frag}
noncomputable def rXX (K:PySem.W.Frag) (f:PyData→PyData→Option Bool):R2:=fun x y H Q=>∃d e b,RdD K H x d∧RdD K H y e∧d.canLay0=true∧e.canLay0=true∧d.depth≤20∧e.depth≤20∧f d e=some b∧Q (.bl b) H
theorem jj0 (hu:X.A.units+64 < cLine) (hK:X.K=K:=by rfl):OpR X (compareOp .Eq) (rXX K fun d e=>some (PyData.eqv d e)):=by
 subst hK
 intro pins s σ H x y v u Q I rx ry h
 obtain⟨d,e,b,h1,h2,h3,h4,h5,h6,h7,q⟩:=h
 cases h7
 obtain⟨as,r1⟩:=RdD.reads I h1 rx
 obtain⟨bs,r2⟩:=RdD.reads I h2 ry
 exact SeqAt.compareEq_reads r1 r2 h3 h4 (by omega) ⟨.bl _,H,I,rfl,q⟩
noncomputable def gXX (f:PyData→PyData→Option Bool):Wv→Wv→Int→DQ→Prop:=fun x y n Q=>match x,y with
 |.d d,.d e=>d.canLay0=true∧e.canLay0=true∧d.depth≤20∧e.depth≤20∧∃b,f d e=some b∧Q (.d (.bool b)) n
 |_,_=>False
theorem jjs {f:PyData→PyData→Option Bool}:SndO (rXX K f) (gXX f):=fun C H B σ δ n x y p q Q Q' R rx ry h1 k=>by
 unfold gXX at h1
 split at h1
 ·rename_i d e
  obtain⟨a1,a2,a3,a4,b,a5,a6⟩:=h1
  exact⟨d,e,b,RdX.rd rx,RdX.rd ry,a1,a2,a3,a4,a5,k _ _ H n R (Kp.refl _ _) (wd (.bl b)) a6⟩
 ·exact h1.elim
end
end DL
namespace L2
open PySem PySem.Spec PyProof.Rows PySem.W
section
variable {prog:Program} {w:World} {A:Around} {E:Value→Shared→Prop} {s:Shared}
theorem jqk {src:Source} {n:Nat} {Q:Nat→Shared→Prop} (hn:n≠0) (h:∀i dr,i < n→Q i {s with drawn:=dr}):wpAny (model prog w) A (choose src n) Q E s :=
 fun _ _ _=>⟨hn,h _ _ (Nat.mod_lt _ (Nat.pos_of_ne_zero hn))⟩
theorem jh1 {α:Type}:∀(l:List α) (i:Nat) (h:i < l.length),(l[i]::l.eraseIdx i).Perm l
 |x::r,0,_=>List.Perm.refl _
 |x::r,i+1,h=>(List.Perm.swap x (r[i]'(Nat.lt_of_succ_lt_succ h)) (r.eraseIdx i)).trans ((jh1 r i (Nat.lt_of_succ_lt_succ h)).cons x)
theorem jqh {α:Type}:∀(n:Nat) (xs:List α) (s:Shared) {Q:List α→Shared→Prop},xs.length=n→(∀ys dr,ys.Perm xs→Q ys {s with drawn:=dr})→wpAny (model prog w) A (drawOrder n xs) Q E s
 |0,xs,s,Q,hl,h=>by
  cases List.eq_nil_of_length_eq_zero hl
  exact wpAny_pure (h [] s.drawn (List.Perm.refl _))
 |n+1,[],s,Q,hl,h=>by cases hl
 |n+1,x::r,s,Q,hl,h=>by
  unfold drawOrder
  refine wpAny_bind (jqk (by simp) fun i dr hi=>?_)
  rw[List.getElem?_eq_getElem hi]
  dsimp only
  refine wpAny_bind (jqh n _ _ (by rw[List.length_eraseIdx_of_lt hi];simp at hl ⊢;omega) fun ys dr' hp=>wpAny_pure (h _ dr' ?_))
  exact(hp.cons _).trans (jh1 _ _ hi)
theorem jqc {α:Type} (next:Nat→Nat):∀(fuel k:Nat) (left:List α) (out:Array α),left.length=fuel→(pickOrder.go next fuel k left out).toList.Perm (out.toList++left)
 |0,k,left,out,hl=>by
  cases List.eq_nil_of_length_eq_zero hl
  simp[pickOrder.go]
 |fuel+1,k,left,out,hl=>by
  have hi:next k % left.length < left.length:=Nat.mod_lt _ (by omega)
  unfold pickOrder.go
  rw[List.getElem?_eq_getElem hi]
  dsimp only
  refine(jqc next fuel (k+1) _ _ (by rw[List.length_eraseIdx_of_lt hi];omega)).trans ?_
  rw[Array.toList_push,List.append_assoc]
  exact List.Perm.append_left _ (jh1 _ _ hi)
theorem jo0 {α:Type} (next:Nat→Nat) (xs:Array α):(pickOrder next xs).toList.Perm xs.toList:=by
 have:=jqc next xs.size 0 xs.toList #[] (by simp)
 simpa[pickOrder]using this
noncomputable def byTx (w:World):Bool:=w.params.followText "set-order"
theorem jkg {Q:Bool→Shared→Prop} (h:Q (byTx w) s):wpAny (model prog w) A setsByText Q E s:=by
 unfold setsByText
 exact wpAny_bind (wpAny_askSetting (wpAny_pure h))
structure SetTb (w:World) (h:Heap) (a:Addr) (es:Array (Int×Value)) (ep:Nat) (t:SetTable):Prop where
 obj:∃o,h.get? a=some o∧o.ExactSet∧o.data=.set es ep t
 fits:t.fits es.size=true
 led:t.led=!byTx w
 plain:t.plain=true→es.size=0
theorem SetTb.move {h h':Heap} {a:Addr} {es:Array (Int×Value)} {ep:Nat} {t:SetTable} (x:SetTb w h a es ep t) (k:∀o,h.get? a=some o→h'.get? a=some o):SetTb w h' a es ep t :=
 ⟨let⟨o,e,r⟩:=x.obj;⟨o,k o e,r⟩,x.fits,x.led,x.plain⟩
theorem SetTb.typeIs {a:Addr} {es:Array (Int×Value)} {ep:Nat} {t:SetTable} (x:SetTb w s.heap a es ep t):s.TypeIs (.ref a) "set":=let⟨o,e,r,_⟩:=x.obj;⟨o,e,r.1⟩
theorem SetTb.lt {h:Heap} {a:Addr} {es:Array (Int×Value)} {ep:Nat} {t:SetTable} (x:SetTb w h a es ep t):a < h.objs.size:=let⟨_,e,_⟩:=x.obj;Heap.lt_size e
theorem jxb (t:SetTable) (n:Nat):(t.orStandIn n).led=t.led:=by
 unfold SetTable.orStandIn
 split<;>rfl
theorem jxk (t:SetTable) (es:Array (Int×Value)) (h:Int) (x:Value):(layNew t es h x).2.1.led=t.led:=by
 unfold layNew
 split
 ·exact jxb _ _
 ·rfl
theorem jo3 {t t':SetTable} {hs:Array Int} {n:Nat} {ord:Array Nat} (h:t.relaid hs n=some (t',ord)):t'.led=t.led∧t'.plain=t.plain:=by
 unfold SetTable.relaid SetTable.laid at h
 cases hc:SetTable.layClean (SetTable.sizeAbove n - 1) hs with
 |none=>rw[hc]at h;cases h
 |some ow =>
  rw[hc]at h
  cases h
  exact⟨rfl,rfl⟩
theorem jl0 (t:SetTable) (es:Array (Int×Value)) (n:Nat):(relayAll t es n).2.1.led=t.led∧((relayAll t es n).2.1.plain=true→t.plain=true):=by
 unfold relayAll
 split
 ·rename_i t' ord he
  obtain⟨h1,h2⟩:=jo3 he
  dsimp only
  split
  ·exact⟨h1,fun z=>h2▸z⟩
  ·exact⟨rfl,fun z=>by simp[SetTable.standIn]at z⟩
 ·exact⟨rfl,fun z=>by simp[SetTable.standIn]at z⟩
noncomputable def txOf (v:Value):Str:=match v with
 |.str k _=>k
 |_=>⟨#[]⟩
noncomputable def ksOf (es:Array (Int×Value)):List Str:=es.toList.map fun e=>txOf e.2
noncomputable def TxEs (w:World) (es:Array (Int×Value)):Prop:=∀e∈es.toList,∃k t,e.2=.str k t∧e.1=hashStr w k
theorem TxEs.elems {es:Array (Int×Value)} (h:TxEs w es):ElemsOf (PySem.strKind prog w) es.toList:=fun e he=>by
 obtain⟨k,t,e1,e2⟩:=h e he
 refine⟨⟨k,?_,e2⟩,by rw[e1];rfl⟩
 rw[e1]
 simp[PySem.strKind,Value.isStrOf]
noncomputable def jil (w:World) (h:Heap) (a:Addr) (seen:List Str):Prop:=∃es ep t,SetTb w h a es ep t∧TxEs w es∧(ksOf es).Nodup∧(∀k,k∈ksOf es↔k∈seen)∧es.size≤seen.length
end
theorem jf1:entryFor table "set.update.loop"=some Builtin.«set.update.loop»:=entryFor_of_tree (by kernel_rfl)
theorem jd5:plainId "set.update.loop"=true:=by decide +kernel
section
variable {prog:Program} {w:World} {A:Around} {E:Value→Shared→Prop} {s:Shared}
theorem jwg {es es':Array (Int×Value)} {seen:List Str} {k:Str} {tk:Tok} (hx:TxEs w es) (nd:(ksOf es).Nodup) (hm:∀k,k∈ksOf es↔k∈seen) (hl:es.size≤seen.length) (hk:k∉ksOf es)
  (p:es'.toList.Perm (es.toList++[(hashStr w k,.str k tk)])):TxEs w es'∧(ksOf es').Nodup∧(∀k',k'∈ksOf es'↔k'∈seen++[k])∧es'.size≤(seen++[k]).length∧es'.size=es.size+1:=by
 have pk:(ksOf es').Perm (ksOf es++[k]):=by
  have:=p.map fun e=>txOf e.2
  rw[List.map_append]at this
  exact this
 have hz:es'.size=es.size+1:=by
  have:=p.length_eq
  simpa using this
 refine⟨fun e he=>?_,pk.nodup_iff.mpr ?_,fun k'=>?_,by rw[hz,List.length_append];exact Nat.succ_le_succ hl,hz⟩
 ·rcases List.mem_append.mp (p.mem_iff.mp he)with h | h
  ·exact hx e h
  ·rw[List.mem_singleton]at h
   subst h
   exact⟨k,tk,rfl,rfl⟩
 ·rw[List.nodup_append]
  exact⟨nd,List.pairwise_singleton _ _,fun a ha b hb e=>hk (by rw[List.mem_singleton]at hb;rw[←hb,←e];exact ha)⟩
 ·rw[pk.mem_iff,List.mem_append,List.mem_append,hm k']
theorem jqb {es es':Array (Int×Value)} (hx:TxEs w es) (nd:(ksOf es).Nodup) (p:es'.toList.Perm es.toList):TxEs w es'∧(ksOf es').Nodup∧(∀k',k'∈ksOf es'↔k'∈ksOf es)∧es'.size=es.size:=by
 have pk:(ksOf es').Perm (ksOf es):=List.Perm.map (fun e:Int×Value=>txOf e.2) p
 exact⟨fun e he=>hx e (p.mem_iff.mp he),pk.nodup_iff.mpr nd,fun k'=>pk.mem_iff,by have:=p.length_eq;simpa using this⟩
theorem jym {a:Addr} {k:Str} {tk:Tok} {seen:List Str} {Q:Bool→Shared→Prop} (hS:jil w s.heap a seen) (hb:seen.length < 1000)
  (h:∀b h',Heap.SameBut a s.heap h'→jil w h' a (seen++[k])→Q b {s with heap:=h'}):wpAny (model prog w) A (setAddHashed a (.str k tk) (hashStr w k)) Q E s:=by
 obtain⟨es,ep,t,T,hx,nd,hm,hl⟩:=hS
 obtain⟨o,ho,hex,hd⟩:=T.obj
 have hel:ElemsOf (PySem.strKind prog w) es.toList:=hx.elems
 have hsz:es.size < scanBound:=by unfold scanBound;omega
 have hkey:(PySem.strKind prog w).is k (.str k tk)=true:=by simp[PySem.strKind,Value.isStrOf]
 unfold setAddHashed setAddHashedIn
 refine wpAny_holding (wpAny_bind (wpAny_setState_of ho hd T.fits ?_))
 dsimp only
 rw[byScan_of (knd:=PySem.strKind prog w) (x:=.str k tk) rfl hsz hel]
 simp only[↓reduceIte]
 unfold setAddByScan
 refine wpAny_bind (wpAny_bind (wpAny_rule (wpAny_bind (wpAny_setScan_of (knd:=PySem.strKind prog w) (k:=k) hkey ho hd T.fits hel ?_))))
 cases hr:es.toList.findIdx? (fun e=>(PySem.strKind prog w).is k e.2)with
 |some j =>
  dsimp only
  obtain⟨hj,hpj,_⟩:=List.findIdx?_eq_some_iff_getElem.mp hr
  have hk:k∈ksOf es:=by
   obtain⟨u,hu⟩:=Value.isStrOf_shape hpj
   exact List.mem_map.mpr ⟨es.toList[j],List.getElem_mem hj,by rw[hu];rfl⟩
  refine wpAny_pure (wpAny_pure (h _ s.heap (Heap.SameBut.refl a s.heap) ⟨es,ep,t,T,hx,nd,fun k'=>?_,by rw[List.length_append];omega⟩))
  rw[hm k',List.mem_append,List.mem_singleton]
  exact⟨.inl,fun z=>z.elim id fun e=>e▸(hm k).mp hk⟩
 |none =>
  dsimp only
  have hk:k∉ksOf es:=fun z=>by
   obtain⟨e,he,e2⟩:=List.mem_map.mp z
   obtain⟨k',t',e3,_⟩:=hx e he
   have q:=List.findIdx?_eq_none_iff.mp hr e he
   rw[e3]at e2 q
   have e2:k'=k:=e2
   subst e2
   simp[PySem.strKind,Value.isStrOf]at q
  have hgw:∀(b:Bool) {s₁:Shared} {Q':Unit→Shared→Prop},Q' () s₁→wpAny (model prog w) A (match b with | true=>rule "set.scan.the-table-gave-way" | false=>pure ()) Q' E s₁ :=
   fun b s₁ Q' hq=>by cases b with
    |true=>exact wpAny_rule hq
    |false=>exact wpAny_pure hq
  have hp:=layNew_perm t es (hashStr w k) (.str k tk)
  have hf:=layNew_fits t es (hashStr w k) (.str k tk)
  have hle:=jxk t es (hashStr w k) (.str k tk)
  have eh:(PySem.strKind prog w).hash k=hashStr w k:=rfl
  try rw[eh]
  generalize layNew t es (hashStr w k) (.str k tk)=L at hp hf hle ⊢
  obtain⟨es1,t1,wd,gave⟩:=L
  dsimp only at hp hf hle ⊢
  rw[Array.toList_push]at hp
  obtain⟨x1,n1,m1,l1,z1⟩:=jwg hx nd hm hl hk hp
  refine wpAny_bind (hgw _ ?_)
  split
  ·refine wpAny_bind ?_
   rw[hashByValue_scannable 8 rfl]
   refine wpAny_pure ?_
   have hpl:({t1 with plain:=false}:SetTable).plain=false:=rfl
   have hft:({t1 with plain:=false}:SetTable).fits es1.size=true:=SetTable.fits_plain_off hf
   have hld:({t1 with plain:=false}:SetTable).led=t.led:=hle
   simp only[plainKind,Bool.false_eq_true,↓reduceIte]
   generalize({t1 with plain:=false}:SetTable)=t2 at hpl hft hld ⊢
   have hb1:es1.size < scanBound:=by unfold scanBound;omega
   refine wpAny_bind (wpAny_storeSet_of ho hd ?_ (fits_of_scanBound hb1))
   have g1:(s.heap.update a (Obj.putSet es1 t2)).get? a=some {o with data:=.set es1 (ep+1) t2}:=by
    have:=Heap.get?_update_self (Obj.putSet es1 t2) ho (by rw[putSet_of es1 t2 hd];rfl)
    rw[putSet_of es1 t2 hd]at this
    exact this
   have sb1:=Heap.SameBut.update s.heap a (Obj.putSet es1 t2)
   split
   ·have hp2:=relayAll_perm t2 es1 (SetTable.grown es1.size)
    have hf2:=relayAll_fits t2 es1 (SetTable.grown es1.size)
    obtain⟨hl2,hq2⟩:=jl0 t2 es1 (SetTable.grown es1.size)
    generalize relayAll t2 es1 (SetTable.grown es1.size)=R at hp2 hf2 hl2 hq2 ⊢
    obtain⟨es2,t3,gave2⟩:=R
    dsimp only at hp2 hf2 hl2 hq2 ⊢
    obtain⟨x2,n2,m2,z2⟩:=jqb x1 n1 hp2
    refine wpAny_bind (hgw _ ?_)
    refine wpAny_bind (wpAny_storeSet_of g1 rfl ?_ (fits_of_scanBound (by rw[z2];exact hb1)))
    have g2:((s.heap.update a (Obj.putSet es1 t2)).update a (Obj.putSet es2 t3)).get? a=some {o with data:=.set es2 (ep+1+1) t3}:=by
     have:=Heap.get?_update_self (Obj.putSet es2 t3) g1 (by rw[putSet_of es2 t3 rfl];rfl)
     rw[putSet_of es2 t3 rfl]at this
     exact this
    refine wpAny_pure (wpAny_pure (h _ _ (sb1.trans (Heap.SameBut.update _ a _)) ⟨es2,ep+1+1,t3,⟨⟨_,g2,hex,rfl⟩,hf2,by rw[hl2,hld];exact T.led,fun z=>?_⟩,x2,n2,fun k'=>(m2 k').trans (m1 k'),by rw[z2];exact l1⟩))
    have:=hq2 z
    rw[hpl]at this
    cases this
   ·refine wpAny_pure (wpAny_pure (h _ _ sb1 ⟨es1,ep+1,t2,⟨⟨_,g1,hex,rfl⟩,hft,by rw[hld];exact T.led,fun z=>?_⟩,x1,n1,m1,l1⟩))
    rw[hpl]at z
    cases z
  ·rename_i hpl0
   have hpl:t1.plain=false:=by simpa using hpl0
   have hft:=hf
   have hld:=hle
   refine wpAny_bind (wpAny_pure ?_)
   simp only[↓reduceIte]
   clear hf hle hpl0
   generalize t1=t2 at hpl hft hld ⊢
   have hb1:es1.size < scanBound:=by unfold scanBound;omega
   refine wpAny_bind (wpAny_storeSet_of ho hd ?_ (fits_of_scanBound hb1))
   have g1:(s.heap.update a (Obj.putSet es1 t2)).get? a=some {o with data:=.set es1 (ep+1) t2}:=by
    have:=Heap.get?_update_self (Obj.putSet es1 t2) ho (by rw[putSet_of es1 t2 hd];rfl)
    rw[putSet_of es1 t2 hd]at this
    exact this
   have sb1:=Heap.SameBut.update s.heap a (Obj.putSet es1 t2)
   split
   ·have hp2:=relayAll_perm t2 es1 (SetTable.grown es1.size)
    have hf2:=relayAll_fits t2 es1 (SetTable.grown es1.size)
    obtain⟨hl2,hq2⟩:=jl0 t2 es1 (SetTable.grown es1.size)
    generalize relayAll t2 es1 (SetTable.grown es1.size)=R at hp2 hf2 hl2 hq2 ⊢
    obtain⟨es2,t3,gave2⟩:=R
    dsimp only at hp2 hf2 hl2 hq2 ⊢
    obtain⟨x2,n2,m2,z2⟩:=jqb x1 n1 hp2
    refine wpAny_bind (hgw _ ?_)
    refine wpAny_bind (wpAny_storeSet_of g1 rfl ?_ (fits_of_scanBound (by rw[z2];exact hb1)))
    have g2:((s.heap.update a (Obj.putSet es1 t2)).update a (Obj.putSet es2 t3)).get? a=some {o with data:=.set es2 (ep+1+1) t3}:=by
     have:=Heap.get?_update_self (Obj.putSet es2 t3) g1 (by rw[putSet_of es2 t3 rfl];rfl)
     rw[putSet_of es2 t3 rfl]at this
     exact this
    refine wpAny_pure (wpAny_pure (h _ _ (sb1.trans (Heap.SameBut.update _ a _)) ⟨es2,ep+1+1,t3,⟨⟨_,g2,hex,rfl⟩,hf2,by rw[hl2,hld];exact T.led,fun z=>?_⟩,x2,n2,fun k'=>(m2 k').trans (m1 k'),by rw[z2];exact l1⟩))
    have:=hq2 z
    rw[hpl]at this
    cases this
   ·refine wpAny_pure (wpAny_pure (h _ _ sb1 ⟨es1,ep+1,t2,⟨⟨_,g1,hex,rfl⟩,hft,by rw[hld];exact T.led,fun z=>?_⟩,x1,n1,m1,l1⟩))
    rw[hpl]at z
    cases z
noncomputable def SeqV (ks:List Str) (i:Nat) (v:Value):Prop:=∃k t,ks[i]?=some k∧v=.str k t
theorem jwh {R:Result→Shared→Prop} {I:Addr} {fp wr:List Addr} {G:Array GenState→Array GenState→Prop} {n:Nat} {St:Nat→Shared→Prop} {ks:List Str} (W:WalksS prog w A.in1 I fp wr G n (SeqV ks) St) (S:Addr) (hSf:S∉fp) (hn:ks.length=n) (hb:n < 64) :
  ∀(m i:Nat) (s:Shared),n - i=m→i≤n→St i s→jil w s.heap S (ks.take i) →
   (∀s',Moved (S::wr) G s s'→jil w s'.heap S ks→R (.ok (.ret .none)) s')→codeAny (model prog w) A (.builtin "set.update.loop" ⟨[.ref S,.ref I],[]⟩) R s:=by
 have hSw:S∉wr:=fun h=>hSf (W.sub _ h)
 have hsub:∀b∈wr,b∈S::wr:=fun b hb=>List.mem_cons_of_mem _ hb
 have mv:∀{h h':Heap} {seen:List Str},(∀o,h.get? S=some o→h'.get? S=some o)→jil w h S seen→jil w h' S seen:=fun k x=>by
  obtain⟨es,ep,t,T,r⟩:=x
  exact⟨es,ep,t,T.move k,r⟩
 intro m
 induction m with
 |zero =>
  intro i s hk hi hst hS hR
  have hin:i=n:=by omega
  subst hin
  refine codeAny_builtin jf1 ?_
  rw[Around.under_plainId jd5 _]
  show wpAny _ A.in1 (pyNext (.ref I)>>=_) _ _ s
  refine wpAny_bind (W.done s _ _ hst fun s' hm=>?_)
  show wpAny _ A.in1 (ret Value.none) _ _ s'
  rw[←hn,List.take_length]at hS
  exact wpAny_pure (hR s' (hm.mono hsub) (mv (fun o e=>hm.heap S _ hSw e) hS))
 |succ m ih =>
  intro i s hk hi hst hS hR
  have hlt:i < n:=by omega
  refine codeAny_builtin jf1 ?_
  rw[Around.under_plainId jd5 _]
  show wpAny _ A.in1 (pyNext (.ref I)>>=_) _ _ s
  refine wpAny_bind (W.item i s _ _ hlt hst fun v s' hP hst' hm=>?_)
  obtain⟨k,t,hk1,rfl⟩:=hP
  have hS':=mv (fun o e=>hm.heap S _ hSw e) hS
  show wpAny _ A.in1 (holding [Value.str k t] (setAdd S (.str k t))>>=_) _ _ s'
  refine wpAny_bind (wpAny_holding ?_)
  unfold setAdd
  refine wpAny_holding ?_
  refine wpAny_bind (wpAny_pyHash_str ?_)
  refine jym (s:={ s' with toks:=s'.toks+1}) hS' (by rw[List.length_take];omega) fun b h' hsb hS2=>?_
  have et:ks.take i++[k]=ks.take (i+1):=by
   rw[List.take_add_one,hk1]
   rfl
  rw[et]at hS2
  refine wpAny_pure ⟨plainId_quiet jd5 _,ih (i+1) _ (by omega) hlt (W.frame _ s' _ _ hst' (Nat.le_succ _) fun b hb o e=>?_) hS2 fun s'' hm'' hS''=>?_⟩
  ·rw[hsb.2 b (fun h:b=S=>hSf (by rw[←h];exact hb))];exact e
  ·refine hR s'' (Moved.trans W.gtrans ((hm.mono hsub).then_heap (Nat.le_succ _) fun b o hb e=>?_) hm'') hS''
   rw[hsb.2 b (fun h:b=S=>hb (by rw[h];exact List.mem_cons_self))];exact e
end
theorem slot_setit_next:Slot "set_iterator" "__next__" "set_iterator.__next__":=Slot.of (owner:="set_iterator") (n:="__next__") (by rw[typeLookup_type,builtinLookup_eq_fast];kernel_rfl)
 (by decide +kernel) (by decide +kernel) (by decide +kernel) (by first | exact .inl (by decide +kernel) | exact .inr (by decide +kernel)) (by rw[isSubtype_type];kernel_rfl)
theorem jbl:entryFor table "set_iterator.__next__"=some Builtin.«set_iterator.__next__»:=entryFor_of_tree (by kernel_rfl)
theorem jbs (a:Value):argsOk "set_iterator.__next__" ⟨[a],[]⟩:=by unfold argsOk;kernel_rfl
theorem jef:Slot "set_iterator" "__iter__" "set_iterator.__iter__":=Slot.of (owner:="set_iterator") (n:="__iter__") (by rw[typeLookup_type,builtinLookup_eq_fast];kernel_rfl)
 (by decide +kernel) (by decide +kernel) (by decide +kernel) (by first | exact .inl (by decide +kernel) | exact .inr (by decide +kernel)) (by rw[isSubtype_type];kernel_rfl)
theorem jhe:entryFor table "set_iterator.__iter__"=some Builtin.«dict_keyiterator.__iter__»:=by exact entryFor_alias (id':="dict_keyiterator.__iter__") (by kernel_rfl) rfl (by decide +kernel) (by kernel_rfl)
theorem jii (a:Value):argsOk "set_iterator.__iter__" ⟨[a],[]⟩:=by unfold argsOk;kernel_rfl
theorem jh5:entryFor table "set.__iter__"=some Builtin.«frozenset.__iter__»:=by exact entryFor_alias (id':="frozenset.__iter__") (by kernel_rfl) rfl (by decide +kernel) (by kernel_rfl)
noncomputable def SetIt (h:Heap) (I:Addr) (first:Value) (i:Nat) (a:Addr) (n ep:Nat):Prop:=∃o,h.get? I=some o∧o.cls=.type "set_iterator"∧o.data=.fields #[first,.int i 0,.ref a,.int n 0,.int ep 0]
section
variable {prog:Program} {w:World} {A:Around} {E:Value→Shared→Prop} {s:Shared} {I a T:Addr} {n ep i j:Nat} {es:Array (Int×Value)} {t:SetTable} {first:Value}
theorem SetIt.typeIs (x:SetIt s.heap I first i a n ep):s.TypeIs (.ref I) "set_iterator":=let⟨o,e,c,_⟩:=x;⟨o,e,c⟩
theorem SetIt.move {h h':Heap} (x:SetIt h I first i a n ep) (k:∀o,h.get? I=some o→h'.get? I=some o):SetIt h' I first i a n ep:=let⟨o,e,r⟩:=x;⟨o,k o e,r⟩
theorem jco {Q:Value→Shared→Prop} (hit:SetIt s.heap I first i a n ep) (h:Q (.ref I) s):wpAny (model prog w) A (pyIter (.ref I)) Q E s:=by
 refine wpAny_pyIter_slot hit.typeIs jef (wpAny_call_entry jef hit.typeIs jhe ?_ (jii _))
 show wpAny _ _ (ret (.ref I)) _ _ s
 exact wpAny_pure ⟨_,rfl,"set_iterator",_,hit.typeIs,slot_setit_next.lookup,h⟩
theorem jqe {pl:Array Value} {x:Int×Value} {Q:Option Value→Shared→Prop} (hit:SetIt s.heap I (.ref T) i a n ep) (hs:SetTb w s.heap a es ep t) (hn:es.size=n) (hT:s.heap.IsTuple T pl) (hp:pl[i]?=some (.int j 0)) (hx:es[j]?=some x)
  (hQ:∀h',SetIt h' I (.ref T) (i+1) a n ep→Heap.SameBut I s.heap h'→Q (some x.2) {s with heap:=h'}):wpAny (model prog w) A (pyNext (.ref I)) Q E s:=by
 obtain⟨o,ho,hc,hd⟩:=id hit
 obtain⟨oa,hoa,_,hda⟩:=hs.obj
 obtain⟨ol,hol,_,nl,hdl⟩:=hT
 unfold pyNext
 refine wpAny_bind (wpAny_attempt (wpAny_callSpecial?_slot (name:=Str.ofString "__next__") hit.typeIs slot_setit_next (wpAny_call_entry slot_setit_next hit.typeIs jbl ?_ (jbs _))))
 refine wpAny_bind (wpAny_pure ?_)
 refine wpAny_bind (wpAny_fieldsOf ho hd ?_)
 dsimp only
 refine wpAny_bind (wpAny_setEntries_of hoa hda hs.fits ?_)
 rw[if_neg (by rw[hn];simp)]
 refine wpAny_bind (wpAny_seqItems hol hdl ?_)
 simp only[Int.toNat_natCast,hp]
 refine wpAny_bind ?_
 unfold setNextDrawn
 refine wpAny_bind (wpAny_setState_of hoa hda hs.fits ?_)
 simp only[Int.toNat_natCast,bne_self_eq_false,Bool.false_eq_true,if_false,hx]
 refine wpAny_pure ?_
 refine wpAny_bind (wpAny_setField ho hd (by simp) (wpAny_pure ⟨x.2,rfl,wpAny_pure (hQ _ ?_ (Heap.SameBut.update ..))⟩))
 exact⟨_,Heap.get?_update_self _ ho (Obj.isFreed_of_fields (Obj.data_mapFields hd _)),(Obj.cls_mapFields ..).trans hc,by
  rw[Obj.data_mapFields hd];simp[rawInt]⟩
theorem jqi {pl:Array Value} {Q:Option Value→Shared→Prop} (hh:A.handled=none) (hit:SetIt s.heap I (.ref T) i a n ep) (hs:SetTb w s.heap a es ep t) (hn:es.size=n) (hT:s.heap.IsTuple T pl) (hp:pl[i]?=none)
  (hQ:∀h',Heap.ExtBut I s.heap h'→Q none {s with heap:=h'}):wpAny (model prog w) A (pyNext (.ref I)) Q E s:=by
 obtain⟨ol,hol,_,nl,hdl⟩:=hT
 obtain⟨o,ho,hc,hd⟩:=id hit
 obtain⟨oa,hoa,_,hda⟩:=hs.obj
 unfold pyNext
 refine wpAny_bind (wpAny_attempt (wpAny_callSpecial?_slot (name:=Str.ofString "__next__") hit.typeIs slot_setit_next (wpAny_call_entry slot_setit_next hit.typeIs jbl ?_ (jbs _))))
 refine wpAny_bind (wpAny_pure ?_)
 refine wpAny_bind (wpAny_fieldsOf ho hd ?_)
 dsimp only
 refine wpAny_bind (wpAny_setEntries_of hoa hda hs.fits ?_)
 rw[if_neg (by rw[hn];simp)]
 refine wpAny_bind (wpAny_seqItems hol hdl ?_)
 simp only[Int.toNat_natCast,hp]
 refine wpAny_bind (wpAny_setField ho hd (by simp) ?_)
 have ho2:=Heap.get?_update_self (Obj.mapFields (·.setIfInBounds 0 (rawInt 0))) ho (Obj.isFreed_of_fields (Obj.data_mapFields hd _))
 have hd2:=Obj.data_mapFields hd (·.setIfInBounds 0 (rawInt 0))
 refine wpAny_bind (wpAny_setField ho2 hd2 (by simp) ?_)
 refine wpAny_bind ?_
 simp only[newExc,newTuple]
 refine wpAny_bind (wpAny_newObj_type ?_ (by size_fits))
 refine wpAny_bind (m:=firstArgMember _ _) (wpAny_of_eq (a:=Value.none) (by first | rfl | (simp only[firstArgMember];rfl)) ?_)
 refine wpAny_newObj_type ?_ (by size_fits)
 simp only[raiseNew]
 refine wpAny_bind (wpAny_handled ?_)
 first | rw[show A.in1.handled=none from hh] | rw[hh]
 refine wpAny_bind (wpAny_pure (wpAny_throw ?_))
 refine wpAny_bind (wpAny_isInstance (T:="StopIteration") (b:=true) ⟨_,Heap.get?_push_size _ rfl,rfl⟩ isSubtype_stop ?_)
 exact wpAny_pure (hQ _ (((((Heap.SameBut.update ..).trans (Heap.SameBut.update ..)).extBut).push _).push _))
noncomputable def jgs (w:World) (a:Addr) (ep:Nat) (es:Array (Int×Value)):Array (Int×Value):=pickOrder (w.params.setOrder a ep) es
theorem jln {Q:Option (Value×Nat)→Shared→Prop} {k:Nat} (hb:byTx w=true) (hs:SetTb w s.heap a es ep t) (h:Q (((jgs w a ep es)[i]?).map fun e=>(e.2,k)) s):wpAny (model prog w) A (setNext a k i ep) Q E s:=by
 obtain⟨oa,hoa,_,hda⟩:=hs.obj
 unfold setNext
 refine wpAny_bind (wpAny_setState_of hoa hda hs.fits ?_)
 dsimp only
 refine wpAny_bind (jkg ?_)
 rw[hb]
 simp only[↓reduceIte,bne_self_eq_false,Bool.false_eq_true,if_false]
 refine wpAny_bind ?_
 unfold setWalk
 refine wpAny_bind (wpAny_setState_of hoa hda hs.fits ?_)
 dsimp only
 refine wpAny_bind (jkg ?_)
 rw[hb]
 simp only[↓reduceIte]
 refine wpAny_bind (wpAny_askSetting (wpAny_pure (wpAny_pure h)))
theorem jqf {x:Int×Value} {Q:Option Value→Shared→Prop} (hb:byTx w=true) (hit:SetIt s.heap I (.int 0 0) i a n ep) (hs:SetTb w s.heap a es ep t) (hn:es.size=n) (hx:(jgs w a ep es)[i]?=some x)
  (hQ:∀h',SetIt h' I (.int 0 0) (i+1) a n ep→Heap.SameBut I s.heap h'→Q (some x.2) {s with heap:=h'}):wpAny (model prog w) A (pyNext (.ref I)) Q E s:=by
 obtain⟨o,ho,hc,hd⟩:=id hit
 obtain⟨oa,hoa,_,hda⟩:=hs.obj
 unfold pyNext
 refine wpAny_bind (wpAny_attempt (wpAny_callSpecial?_slot (name:=Str.ofString "__next__") hit.typeIs slot_setit_next (wpAny_call_entry slot_setit_next hit.typeIs jbl ?_ (jbs _))))
 refine wpAny_bind (wpAny_pure ?_)
 refine wpAny_bind (wpAny_fieldsOf ho hd ?_)
 dsimp only
 refine wpAny_bind (wpAny_setEntries_of hoa hda hs.fits ?_)
 rw[if_neg (by rw[hn];simp)]
 refine wpAny_bind (jln hb hs ?_)
 simp only[Int.toNat_natCast,hx,Option.map_some]
 refine wpAny_bind (wpAny_setField ho hd (by simp) ?_)
 have ho2:=Heap.get?_update_self (Obj.mapFields (·.setIfInBounds 0 (rawInt ((0:Int).toNat:Nat)))) ho (Obj.isFreed_of_fields (Obj.data_mapFields hd _))
 have hd2:=Obj.data_mapFields hd (·.setIfInBounds 0 (rawInt ((0:Int).toNat:Nat)))
 refine wpAny_bind (wpAny_setField ho2 hd2 (by simp) (wpAny_pure ⟨x.2,rfl,wpAny_pure (hQ _ ?_ ((Heap.SameBut.update ..).trans (Heap.SameBut.update ..)))⟩))
 exact⟨_,Heap.get?_update_self _ ho2 (Obj.isFreed_of_fields (Obj.data_mapFields hd2 _)),(Obj.cls_mapFields ..).trans ((Obj.cls_mapFields ..).trans hc),by
  rw[Obj.data_mapFields hd2];simp[rawInt]⟩
theorem jqj {Q:Option Value→Shared→Prop} (hh:A.handled=none) (hb:byTx w=true) (hit:SetIt s.heap I (.int 0 0) i a n ep) (hs:SetTb w s.heap a es ep t) (hn:es.size=n) (hx:(jgs w a ep es)[i]?=none)
  (hQ:∀h',Heap.ExtBut I s.heap h'→Q none {s with heap:=h'}):wpAny (model prog w) A (pyNext (.ref I)) Q E s:=by
 obtain⟨o,ho,hc,hd⟩:=id hit
 obtain⟨oa,hoa,_,hda⟩:=hs.obj
 unfold pyNext
 refine wpAny_bind (wpAny_attempt (wpAny_callSpecial?_slot (name:=Str.ofString "__next__") hit.typeIs slot_setit_next (wpAny_call_entry slot_setit_next hit.typeIs jbl ?_ (jbs _))))
 refine wpAny_bind (wpAny_pure ?_)
 refine wpAny_bind (wpAny_fieldsOf ho hd ?_)
 dsimp only
 refine wpAny_bind (wpAny_setEntries_of hoa hda hs.fits ?_)
 rw[if_neg (by rw[hn];simp)]
 refine wpAny_bind (jln hb hs ?_)
 simp only[Int.toNat_natCast,hx,Option.map_none]
 refine wpAny_bind (wpAny_setField ho hd (by simp) ?_)
 refine wpAny_bind ?_
 simp only[newExc,newTuple]
 refine wpAny_bind (wpAny_newObj_type ?_ (by size_fits))
 refine wpAny_bind (m:=firstArgMember _ _) (wpAny_of_eq (a:=Value.none) (by first | rfl | (simp only[firstArgMember];rfl)) ?_)
 refine wpAny_newObj_type ?_ (by size_fits)
 simp only[raiseNew]
 refine wpAny_bind (wpAny_handled ?_)
 first | rw[show A.in1.handled=none from hh] | rw[hh]
 refine wpAny_bind (wpAny_pure (wpAny_throw ?_))
 refine wpAny_bind (wpAny_isInstance (T:="StopIteration") (b:=true) ⟨_,Heap.get?_push_size _ rfl,rfl⟩ isSubtype_stop ?_)
 exact wpAny_pure (hQ _ (((Heap.SameBut.update ..).extBut.push _).push _))
theorem jlm {Q:Option (Value×Nat)→Shared→Prop} {k:Nat} (hb:byTx w=false) (h1:es.size≤1) (hs:SetTb w s.heap a es ep t)
  (h:Q (match es[SetTable.below t.place k]?,t.place[SetTable.below t.place k]? with
   |some (_,x),some j=>some (x,j+1)
   |_,_=>none) s):wpAny (model prog w) A (setNext a k i ep) Q E s:=by
 obtain⟨oa,hoa,_,hda⟩:=hs.obj
 have hl:t.led=true:=by rw[hs.led,hb];rfl
 unfold setNext
 refine wpAny_bind (wpAny_setState_of hoa hda hs.fits ?_)
 dsimp only
 refine wpAny_bind (jkg ?_)
 rw[hb]
 simp only[Bool.false_eq_true,↓reduceIte]
 have hd:(!t.plain&&decide (es.size > 1))=false:=by
  have:decide (es.size > 1)=false:=decide_eq_false (by omega)
  rw[this,Bool.and_false]
 split
 ·rename_i z
  have z':(!t.plain&&decide (es.size > 1))=true:=z
  rw[hd]at z'
  cases z'
 ·refine wpAny_bind (wpAny_of_eq (a:=()) ?_ (wpAny_pure h))
  show(if (!t.led&&!es.isEmpty)=true then unsupported "set:maker-not-led" else pure ())=pure ()
  rw[hl]
  rfl
theorem jm5 {j:Nat}:SetTable.below #[j] 0=0∧SetTable.below #[j] (j+1)=1:=by
 constructor
 ·simp[SetTable.below,SetTable.below.go]
 ·simp[SetTable.below,SetTable.below.go]
theorem jqd {x:Int×Value} {Q:Option Value→Shared→Prop} (hb:byTx w=false) (hp:t.place=#[j]) (he:es=#[x]) (hit:SetIt s.heap I (.int 0 0) 0 a 1 ep) (hs:SetTb w s.heap a es ep t)
  (hQ:∀h',SetIt h' I (.int ((j+1:Nat):Int) 0) 1 a 1 ep→Heap.SameBut I s.heap h'→Q (some x.2) {s with heap:=h'}):wpAny (model prog w) A (pyNext (.ref I)) Q E s:=by
 have hn:es.size=1:=by rw[he];rfl
 obtain⟨o,ho,hc,hd⟩:=id hit
 obtain⟨oa,hoa,_,hda⟩:=hs.obj
 unfold pyNext
 refine wpAny_bind (wpAny_attempt (wpAny_callSpecial?_slot (name:=Str.ofString "__next__") hit.typeIs slot_setit_next (wpAny_call_entry slot_setit_next hit.typeIs jbl ?_ (jbs _))))
 refine wpAny_bind (wpAny_pure ?_)
 refine wpAny_bind (wpAny_fieldsOf ho hd ?_)
 dsimp only
 refine wpAny_bind (wpAny_setEntries_of hoa hda hs.fits ?_)
 rw[if_neg (by rw[hn];simp)]
 refine wpAny_bind (jlm hb (by omega) hs ?_)
 have b1:SetTable.below t.place (0:Int).toNat=0:=by rw[hp];exact jm5.1
 rw[b1,hp,he]
 show wpAny _ _ (setField (.ref I) 0 (rawInt ((j+1:Nat):Int))>>=_) _ _ _
 refine wpAny_bind (wpAny_setField ho hd (by simp) ?_)
 have ho2:=Heap.get?_update_self (Obj.mapFields (·.setIfInBounds 0 (rawInt ((j+1:Nat):Int)))) ho (Obj.isFreed_of_fields (Obj.data_mapFields hd _))
 have hd2:=Obj.data_mapFields hd (·.setIfInBounds 0 (rawInt ((j+1:Nat):Int)))
 refine wpAny_bind (wpAny_setField ho2 hd2 (by simp) (wpAny_pure ⟨x.2,rfl,wpAny_pure (hQ _ ?_ ((Heap.SameBut.update ..).trans (Heap.SameBut.update ..)))⟩))
 exact⟨_,Heap.get?_update_self _ ho2 (Obj.isFreed_of_fields (Obj.data_mapFields hd2 _)),(Obj.cls_mapFields ..).trans ((Obj.cls_mapFields ..).trans hc),by
  rw[Obj.data_mapFields hd2];simp[rawInt]⟩
theorem jlo {k:Nat} {Q:Option Value→Shared→Prop} (hh:A.handled=none) (hb:byTx w=false) (h1:es.size≤1) (hk:es[SetTable.below t.place k]?=none) (hit:SetIt s.heap I (.int (k:Int) 0) i a n ep) (hs:SetTb w s.heap a es ep t) (hn:es.size=n)
  (hQ:∀h',Heap.ExtBut I s.heap h'→Q none {s with heap:=h'}):wpAny (model prog w) A (pyNext (.ref I)) Q E s:=by
 obtain⟨o,ho,hc,hd⟩:=id hit
 obtain⟨oa,hoa,_,hda⟩:=hs.obj
 unfold pyNext
 refine wpAny_bind (wpAny_attempt (wpAny_callSpecial?_slot (name:=Str.ofString "__next__") hit.typeIs slot_setit_next (wpAny_call_entry slot_setit_next hit.typeIs jbl ?_ (jbs _))))
 refine wpAny_bind (wpAny_pure ?_)
 refine wpAny_bind (wpAny_fieldsOf ho hd ?_)
 dsimp only
 refine wpAny_bind (wpAny_setEntries_of hoa hda hs.fits ?_)
 rw[if_neg (by rw[hn];simp)]
 refine wpAny_bind (jlm hb h1 hs ?_)
 rw[Int.toNat_natCast,hk]
 dsimp only
 refine wpAny_bind (wpAny_setField ho hd (by simp) ?_)
 refine wpAny_bind ?_
 simp only[newExc,newTuple]
 refine wpAny_bind (wpAny_newObj_type ?_ (by size_fits))
 refine wpAny_bind (m:=firstArgMember _ _) (wpAny_of_eq (a:=Value.none) (by first | rfl | (simp only[firstArgMember];rfl)) ?_)
 refine wpAny_newObj_type ?_ (by size_fits)
 simp only[raiseNew]
 refine wpAny_bind (wpAny_handled ?_)
 first | rw[show A.in1.handled=none from hh] | rw[hh]
 refine wpAny_bind (wpAny_pure (wpAny_throw ?_))
 refine wpAny_bind (wpAny_isInstance (T:="StopIteration") (b:=true) ⟨_,Heap.get?_push_size _ rfl,rfl⟩ isSubtype_stop ?_)
 exact wpAny_pure (hQ _ (((Heap.SameBut.update ..).extBut.push _).push _))
end
section
variable {prog:Program} {w:World} {A:Around} {E:Value→Shared→Prop} {s:Shared} {a:Addr} {ep:Nat} {es:Array (Int×Value)} {t:SetTable}
noncomputable def jm6 (vs:List (Int×Value)) (i:Nat) (v:Value):Prop:=∃e,vs[i]?=some e∧v=e.2
structure SetWk (prog:Program) (w:World) (sz:Nat) (h':Heap) (a I:Addr) (vs:List (Int×Value)):Prop where
 above:sz≤I
 walk:∃(fp:List Addr) (St:Nat→Heap→Prop),(∀b∈fp,b=a∨sz≤b)∧(∀b∈fp,b < h'.objs.size)∧(∀A:Around,A.handled=none→Walks prog w A I fp [I] vs.length (jm6 vs) St)∧St 0 h'
theorem jxq {α:Type} {xs:Array α} {j:Nat} {d:α} (h:j < xs.size):xs[j]?=some (xs.getD j d):=by
 simp[h]
theorem jpl {ys:List Nat} {n:Nat} (hp:ys.Perm (List.range n)) (hn:es.size=n):(ys.map fun j=>es.getD j (0,Value.none)).Perm es.toList:=by
 have h1:=hp.map fun j=>es.getD j ((0:Int),Value.none)
 have h2:(List.range n).map (fun j=>es.getD j ((0:Int),Value.none))=es.toList:=by
  apply List.ext_getElem (by simp[hn])
  intro i h1 h2
  simp at h2
  simp[h2]
 rw[h2]at h1
 exact h1
theorem jwa {I T:Addr} {ys:List Nat} {n:Nat} (hne:a≠I) (hTI:T≠I) (hp:ys.Perm (List.range n)) (hn:es.size=n) (A:Around) (hh:A.handled=none) :
  Walks prog w A I [I,a,T] [I] (ys.map fun j=>es.getD j (0,Value.none)).length (jm6 (ys.map fun j=>es.getD j (0,Value.none)))
   (fun i h=>SetIt h I (.ref T) i a n ep∧SetTb w h a es ep t∧h.IsTuple T (ys.map fun(j:Nat)=>Value.int (j:Int) 0).toArray) where
 sub:=fun b hb=>by simp at hb;simp[hb]
 frame:=fun _ _ _ st hk=>⟨st.1.move fun o e=>hk I (by simp) o e,st.2.1.move fun o e=>hk a (by simp) o e,let⟨o,e,r⟩:=st.2.2;⟨o,hk T (by simp) o e,r⟩⟩
 item:=fun i s Q E hi st hQ=>by
  rw[List.length_map]at hi
  have hj:ys[i] < es.size:=by rw[hn];exact List.mem_range.mp (hp.mem_iff.mp (List.getElem_mem hi))
  refine jqe (j:=ys[i]) st.1 st.2.1 hn st.2.2 (by simp[hi]) (jxq (d:=(0,Value.none)) hj) fun h' hit' hs'=>?_
  refine hQ _ h' s.toks ⟨_,by rw[List.getElem?_map,List.getElem?_eq_getElem hi];rfl,rfl⟩ ⟨hit',st.2.1.move fun o e=>(hs'.2 a hne).trans e,let⟨o,e,r⟩:=st.2.2;⟨o,(hs'.2 T hTI).trans e,r⟩⟩ fun b o hb e=>hs'.extBut b o (fun h=>hb (by simp[h])) e
 done:=fun s Q E st hQ=>jqi hh st.1 st.2.1 hn st.2.2 (by simp) fun h' he'=>hQ h' s.toks fun b o hb e=>he' b o (fun h=>hb (by simp[h])) e
 self:=fun _ _ _ _ st hQ=>jco st.1 hQ
theorem jwb {I:Addr} {n:Nat} (hb:byTx w=true) (hne:a≠I) (hn:es.size=n) (A:Around) (hh:A.handled=none) :
  Walks prog w A I [I,a] [I] (jgs w a ep es).toList.length (jm6 (jgs w a ep es).toList) (fun i h=>SetIt h I (.int 0 0) i a n ep∧SetTb w h a es ep t) where
 sub:=fun b hb=>by simp at hb;simp[hb]
 frame:=fun _ _ _ st hk=>⟨st.1.move fun o e=>hk I (by simp) o e,st.2.move fun o e=>hk a (by simp) o e⟩
 item:=fun i s Q E hi st hQ=>by
  rw[Array.length_toList]at hi
  have hx:(jgs w a ep es)[i]?=some (jgs w a ep es)[i]:=Array.getElem?_eq_getElem hi
  refine jqf hb st.1 st.2 hn hx fun h' hit' hs'=>?_
  exact hQ _ h' s.toks ⟨_,by rw[Array.getElem?_toList];exact hx,rfl⟩ ⟨hit',st.2.move fun o e=>(hs'.2 a hne).trans e⟩ fun b o hb e=>hs'.extBut b o (fun h=>hb (by simp[h])) e
 done:=fun s Q E st hQ=>jqj hh hb st.1 st.2 hn (by simp) fun h' he'=>hQ h' s.toks fun b o hb e=>he' b o (fun h=>hb (by simp[h])) e
 self:=fun _ _ _ _ st hQ=>jco st.1 hQ
theorem jwd {I:Addr} (hb:byTx w=false) (hn:es.size=0) (A:Around) (hh:A.handled=none) :
  Walks prog w A I [I,a] [I] ([]:List (Int×Value)).length (jm6 []) (fun _ h=>SetIt h I (.int ((0:Nat):Int) 0) 0 a 0 ep∧SetTb w h a es ep t) where
 sub:=fun b hb=>by simp at hb;simp[hb]
 frame:=fun _ _ _ st hk=>⟨st.1.move fun o e=>hk I (by simp) o e,st.2.move fun o e=>hk a (by simp) o e⟩
 item:=fun i s Q E hi st hQ=>by simp at hi
 done:=fun s Q E st hQ=>jlo (k:=0) hh hb (by omega) (by rw[Array.getElem?_eq_none];omega) st.1 st.2 hn fun h' he'=>hQ h' s.toks fun b o hb e=>he' b o (fun h=>hb (by simp[h])) e
 self:=fun _ _ _ _ st hQ=>jco st.1 hQ
theorem jwc {I:Addr} {x:Int×Value} {j:Nat} (hb:byTx w=false) (hne:a≠I) (he:es=#[x]) (hp:t.place=#[j]) (A:Around) (hh:A.handled=none) :
  Walks prog w A I [I,a] [I] [x].length (jm6 [x]) (fun i h=>((i=0∧SetIt h I (.int 0 0) 0 a 1 ep)∨(i=1∧SetIt h I (.int ((j+1:Nat):Int) 0) 1 a 1 ep))∧SetTb w h a es ep t) where
 sub:=fun b hb=>by simp at hb;simp[hb]
 frame:=fun _ _ _ st hk=>⟨st.1.imp (fun z=>⟨z.1,z.2.move fun o e=>hk I (by simp) o e⟩) (fun z=>⟨z.1,z.2.move fun o e=>hk I (by simp) o e⟩),st.2.move fun o e=>hk a (by simp) o e⟩
 item:=fun i s Q E hi st hQ=>by
  have hi0:i=0:=by simpa using hi
  subst hi0
  rcases st.1 with⟨_,z⟩ | ⟨z,_⟩
  ·refine jqd hb hp he z st.2 fun h' hit' hs'=>?_
   exact hQ _ h' s.toks ⟨x,rfl,rfl⟩ ⟨.inr ⟨rfl,hit'⟩,st.2.move fun o e=>(hs'.2 a hne).trans e⟩ fun b o hb e=>hs'.extBut b o (fun h=>hb (by simp[h])) e
  ·cases z
 done:=fun s Q E st hQ=>by
  rcases st.1 with⟨z,_⟩ | ⟨_,z⟩
  ·cases z
  ·refine jlo (k:=j+1) hh hb (by rw[he];exact Nat.le_refl 1) ?_ z st.2 (by rw[he];rfl) fun h' he'=>hQ h' s.toks fun b o hb e=>he' b o (fun h=>hb (by simp[h])) e
   rw[hp,jm5.2,he]
   rfl
 self:=fun i s Q E st hQ=>by
  rcases st.1 with⟨_,z⟩ | ⟨_,z⟩
  ·exact jco z hQ
  ·exact jco z hQ
theorem jwi {Q:Value→Shared→Prop} (hs:SetTb w s.heap a es ep t) (h64:es.size < 64)
  (h:∀(h':Heap) (dr:Drawn) (I:Addr) (vs:List (Int×Value)),vs.Perm es.toList→(∀b o,s.heap.get? b=some o→h'.get? b=some o)→SetWk prog w s.heap.objs.size h' a I vs→Q (.ref I) {s with heap:=h',drawn:=dr}) :
  wpAny (model prog w) A (pyIter (.ref a)) Q E s:=by
 obtain⟨oa,hoa,hex,hda⟩:=hs.obj
 have hlt:=hs.lt
 refine wpAny_pyIter_slot hs.typeIs F.slot_set_iter (wpAny_call_entry F.slot_set_iter hs.typeIs jh5 ?_ (F.args_set_iter_1 _))
 refine wpAny_bind (wpAny_pure ?_)
 refine wpAny_bind (wpAny_bind (wpAny_setEntries_of hoa hda hs.fits (wpAny_pure ?_)))
 refine wpAny_bind ?_
 unfold setDrawn
 refine wpAny_bind (wpAny_setState_of hoa hda hs.fits ?_)
 dsimp only
 refine wpAny_bind (jkg ?_)
 refine wpAny_pure ?_
 split
 ·rename_i hd
  refine wpAny_bind (jqh es.size (List.range es.size) s (by simp) fun ys dr hp=>?_)
  have hly:ys.length=es.size:=by rw[hp.length_eq,List.length_range]
  refine wpAny_bind (wpAny_newTuple ?_ (by rw[List.length_map,hly,sizeLine_eq];omega))
  have hoa1:=Heap.get?_push_of_some ({cls:=.type "tuple",data:=.seq (ys.map fun(i:Nat)=>rawInt i).toArray}:Obj) hoa
  refine wpAny_bind (wpAny_setEpoch_of hoa1 hda hs.fits ?_)
  refine wpAny_bind (wpAny_newObj_type (wpAny_pure ⟨_,rfl,"set_iterator",_,⟨_,Heap.get?_push_size _ rfl,rfl⟩,slot_setit_next.lookup,?_⟩))
  have hT:(s.heap.push ({cls:=.type "tuple",data:=.seq (ys.map fun(i:Nat)=>rawInt i).toArray}:Obj)).get? s.heap.objs.size=some {cls:=.type "tuple",data:=.seq (ys.map fun(i:Nat)=>rawInt i).toArray}:=Heap.get?_push_size _ rfl
  refine h _ dr _ (ys.map fun j=>es.getD j (0,Value.none)) (jpl hp rfl) (fun b o e=>Heap.get?_push_of_some _ (Heap.get?_push_of_some _ e)) ⟨by rw[Heap.size_push];exact Nat.le_succ _,[_,a,s.heap.objs.size],_,fun b hb=>?_,fun b hb=>?_,fun A hh=>jwa (t:=t) (ep:=ep) (T:=s.heap.objs.size) (by rw[Heap.size_push];exact Nat.ne_of_lt (Nat.lt_succ_of_lt hlt)) (by rw[Heap.size_push];exact Nat.ne_of_lt (Nat.lt_succ_self _)) hp rfl A hh,⟨⟨_,Heap.get?_push_size _ rfl,rfl,rfl⟩,hs.move fun o e=>Heap.get?_push_of_some _ (Heap.get?_push_of_some _ e),⟨_,Heap.get?_push_of_some _ hT,rfl,_,rfl⟩⟩⟩
  ·simp only[List.mem_cons,List.not_mem_nil,or_false]at hb
   rcases hb with rfl | rfl | rfl
   ·rw[Heap.size_push];exact .inr (Nat.le_succ _)
   ·exact .inl rfl
   ·exact .inr (Nat.le_refl _)
  ·simp only[List.mem_cons,List.not_mem_nil,or_false]at hb
   rw[Heap.size_push,Heap.size_push]
   rcases hb with rfl | rfl | rfl
   ·rw[Heap.size_push];exact Nat.lt_succ_self _
   ·exact Nat.lt_succ_of_lt (Nat.lt_succ_of_lt hlt)
   ·exact Nat.lt_succ_of_lt (Nat.lt_succ_self _)
 ·rename_i hd
  refine wpAny_bind (wpAny_pure ?_)
  refine wpAny_bind (wpAny_setEpoch_of hoa hda hs.fits ?_)
  refine wpAny_bind (wpAny_newObj_type (wpAny_pure ⟨_,rfl,"set_iterator",_,⟨_,Heap.get?_push_size _ rfl,rfl⟩,slot_setit_next.lookup,?_⟩))
  have hit:SetIt (s.heap.push {cls:=.type "set_iterator",data:=.fields #[rawInt 0,rawInt 0,.ref a,rawInt es.size,rawInt ep]}) s.heap.objs.size (.int 0 0) 0 a es.size ep:=⟨_,Heap.get?_push_size _ rfl,rfl,rfl⟩
  have hst:SetTb w (s.heap.push {cls:=.type "set_iterator",data:=.fields #[rawInt 0,rawInt 0,.ref a,rawInt es.size,rawInt ep]}) a es ep t:=hs.move fun o e=>Heap.get?_push_of_some _ e
  have kp:∀b o,s.heap.get? b=some o→(s.heap.push {cls:=.type "set_iterator",data:=.fields #[rawInt 0,rawInt 0,.ref a,rawInt es.size,rawInt ep]}).get? b=some o:=fun b o e=>Heap.get?_push_of_some _ e
  have f1:∀b∈[s.heap.objs.size,a],b=a∨s.heap.objs.size≤b:=fun b hb=>by
   simp only[List.mem_cons,List.not_mem_nil,or_false]at hb
   rcases hb with rfl | rfl
   ·exact .inr (Nat.le_refl _)
   ·exact .inl rfl
  have f2:∀b∈[s.heap.objs.size,a],b < (s.heap.push {cls:=.type "set_iterator",data:=.fields #[rawInt 0,rawInt 0,.ref a,rawInt es.size,rawInt ep]}).objs.size:=fun b hb=>by
   simp only[List.mem_cons,List.not_mem_nil,or_false]at hb
   rw[Heap.size_push]
   rcases hb with rfl | rfl
   ·exact Nat.lt_succ_self _
   ·exact Nat.lt_succ_of_lt hlt
  have hne:a≠s.heap.objs.size:=Nat.ne_of_lt hlt
  cases hb:byTx w with
  |true=>exact h _ s.drawn _ (jgs w a ep es).toList (jo0 _ _) kp ⟨Nat.le_refl _,[s.heap.objs.size,a],_,f1,f2,fun A hh=>jwb (t:=t) hb hne rfl A hh,⟨hit,hst⟩⟩
  |false =>
   have hd0:¬((!byTx w&&(!t.plain&&decide (es.size > 1)))=true):=hd
   have hd':(!byTx w&&(!t.plain&&decide (es.size > 1)))=false:=by simpa using hd0
   have h1:es.size≤1:=by
    rw[hb]at hd'
    by_cases hz:es.size≤1
    ·exact hz
    ·have hg:decide (es.size > 1)=true:=decide_eq_true (by omega)
     rw[hg]at hd'
     have hpl:t.plain=true:=by simpa using hd'
     have:=hs.plain hpl
     omega
   by_cases h0:es.size=0
   ·have e0:es.toList=[]:=List.eq_nil_of_length_eq_zero (by simpa using h0)
    refine h _ s.drawn _ [] (by rw[e0]) kp ⟨Nat.le_refl _,[s.heap.objs.size,a],_,f1,f2,fun A hh=>jwd (t:=t) (ep:=ep) hb h0 A hh,⟨?_,hst⟩⟩
    rw[h0]at hit ⊢
    exact hit
   ·have h1':es.size=1:=by omega
    obtain⟨x,hx⟩:∃x,es=#[x]:=by
     have:es.toList.length=1:=by simpa using h1'
     obtain⟨x,hx⟩:=List.length_eq_one_iff.mp this
     exact⟨x,Array.toList_inj.mp hx⟩
    have hps:t.place.size=1:=by
     have:=hs.fits
     simp only[SetTable.fits,Bool.and_eq_true,beq_iff_eq]at this
     rw[this.1,h1']
    obtain⟨j,hj⟩:∃j,t.place=#[j]:=by
     have:t.place.toList.length=1:=by simpa using hps
     obtain⟨x,hx⟩:=List.length_eq_one_iff.mp this
     exact⟨x,Array.toList_inj.mp hx⟩
    refine h _ s.drawn _ [x] (by rw[hx]) kp ⟨Nat.le_refl _,[s.heap.objs.size,a],_,f1,f2,fun A hh=>jwc (t:=t) (ep:=ep) hb hne hx hj A hh,⟨.inl ⟨rfl,?_⟩,hst⟩⟩
    rw[h1']at hit ⊢
    exact hit
end
theorem jk6:entryFor table "proto.collect"=some Builtin.«proto.collect»:=entryFor_of_tree (by kernel_rfl)
theorem jpk:entryFor table "list.__iadd__"=some Builtin.«list.__iadd__»:=entryFor_of_tree (by kernel_rfl)
section
variable {prog:Program} {w:World} {A:Around} {E:Value→Shared→Prop} {s:Shared} {a:Addr} {ep:Nat} {es:Array (Int×Value)} {t:SetTable}
theorem jwj {Q:Bool→Shared→Prop} (hT:s.TypeIs (.ref a) "set") (h:Q false s):wpAny (model prog w) A (Builtin.List.listLengthHint (.ref a)) Q E s:=by
 unfold Builtin.List.listLengthHint
 refine wpAny_bind (wpAny_specialOf hT F.slot_set_len.lookup ?_)
 generalize hid:("set.__len__":String)=id0
 wp_delta
 rw[show splitId id0=some ("set","__len__")from by subst hid;decide +kernel]
 subst hid
 refine wpAny_bind (wpAny_isInstance (T:="set") (b:=true) hT (by rw[isSubtype_type];kernel_rfl) ?_)
 refine wpAny_ite_split (fun hab=>absurd hab (by decide)) (fun _=>?_)
 refine wpAny_ite_split (fun _=>?_) (fun hab=>absurd (by decide +kernel) hab)
 refine wpAny_bind (wpAny_typeOf hT ?_)
 exact wpAny_pure h
theorem jqg {R:Result→Shared→Prop} (hh:A.handled=none) (hs:SetTb w s.heap a es ep t) (h64:es.size < 64) (S:Addr) (hSa:S≠a) (res:Value) (hS:s.heap.get? S=some {cls:=.type "list",data:=.seq #[]})
  (hR:∀h' tk dr (vs:List (Int×Value)) acc c,vs.Perm es.toList→(∀b o,b≠S→s.heap.get? b=some o→h'.get? b=some o)→h'.get? S=some {cls:=.type "list",dict:=none,data:=.seq acc c,slots:=#[]}→ItemsOf (jm6 vs) acc vs.length→R (.ok (.ret res)) {s with heap:=h',toks:=tk,drawn:=dr}) :
  wpAny (model prog w) A.in1 (Builtin.List.listExtendWith (.ref S) (.ref a) res)
   (fun fin s'=>match fin with | .done f=>R (.ok f) s' | .again c'=>c'.quiet=true∧codeAny (model prog w) A c' R s') (fun e s'=>R (.error e) s') s:=by
 unfold Builtin.List.listExtendWith
 refine wpAny_bind (wpAny_typeOf (T:="set") hs.typeIs ?_)
 have h1:Builtin.List.listSameRef (.ref S) (.ref a)=false:=by simp[Builtin.List.listSameRef,hSa]
 have h2:(Value.type "set"==Value.type "list")=false:=by decide
 have h3:(Value.type "set"==Value.type "tuple")=false:=by decide
 simp only[h1,h2,h3,Bool.or_false,Bool.false_eq_true,if_false]
 refine wpAny_bind (jwi (A:=A.in1) hs h64 fun h' dr I vs hp hk hw=>?_)
 obtain⟨hI,fp,St,hf1,hf2,W,st⟩:=hw
 have hSlt:S < s.heap.objs.size:=Heap.lt_size hS
 have hSf:S∉fp:=fun hm=>(hf1 S hm).elim hSa fun z=>Nat.lt_irrefl _ (Nat.lt_of_lt_of_le hSlt z)
 have hS1:=hk S _ hS
 have hlen:vs.length=es.size:=by rw[hp.length_eq,Array.length_toList]
 have key:∀(h:Heap) (c₁ tk:Nat),St 0 h→(∀b o,b≠S→s.heap.get? b=some o→h.get? b=some o) →
   h.get? S=some {cls:=.type "list",data:=.seq #[] c₁}→codeAny (model prog w) A (.builtin "list.extend.loop" ⟨[.ref S,.ref I,res],[]⟩) R {s with heap:=h,toks:=tk,drawn:=dr}:=by
  intro h c₁ tk hst hk2 hS₁
  refine codeAny_extend_loopS (W A.in1 hh).toS (by rw[hlen,sizeLine_eq];omega) S hSf res vs.length 0 _ #[] c₁ rfl (Nat.zero_le _) hst hS₁ (ItemsOf.nil _) fun s' acc' c' hm hS' hacc=>?_
  rw[Moved.eq_with hm]
  refine hR s'.heap s'.toks dr vs acc' c' hp (fun b o hb e=>hm.heap b o (fun hmem=>?_) (hk2 b o hb e)) hS' hacc
  rcases List.mem_cons.mp hmem with e' | hmem
  ·exact hb e'
  ·have hbI:=List.mem_singleton.mp hmem
   exact absurd (Heap.lt_size e) (by rw[hbI];exact Nat.not_lt.mpr hI)
 refine wpAny_bind (wpAny_holding (jwj (s:={ s with heap:=h',drawn:=dr}) (hs.move fun o e=>hk a o e).typeIs ?_))
 refine wpAny_ite_split (fun _=>?_) (fun _=>wpAny_pure ⟨plainId_quiet PySem.F.plain_extend_loop _,key _ 0 _ st (fun b o _ e=>hk b o e) hS1⟩)
 refine wpAny_bind (wpAny_rule ?_)
 refine wpAny_bind ?_
 show wpAny _ _ (updateSeq S (·.push .none)>>=fun _=>updateSeq S (·.pop)) _ _ _
 refine wpAny_bind (wpAny_updateSeq hS1 rfl ?_)
 have hS₂:=Heap.get?_update_self (Obj.mapSeq (·.push Value.none)) hS1 rfl
 refine wpAny_updateSeq (hz:=by seq_fits) hS₂ rfl ?_
 have hS₃:=Heap.get?_update_self (Obj.mapSeq (·.pop)) hS₂ rfl
 refine wpAny_pure ⟨plainId_quiet PySem.F.plain_extend_loop _,key _ _ _ ?_ (fun b o hb e=>?_) hS₃⟩
 ·refine(W A hh).frame 0 _ _ st fun b hb o e=>?_
  have hbS:b≠S:=fun h=>hSf (h▸hb)
  exact(Heap.get?_update_other _ _ (Ne.symm hbS)).trans ((Heap.get?_update_other _ _ (Ne.symm hbS)).trans e)
 ·exact(Heap.get?_update_other _ _ (Ne.symm hb)).trans ((Heap.get?_update_other _ _ (Ne.symm hb)).trans (hk b o e))
theorem joi {vs:List (Int×Value)} {acc:Array Value} (h:ItemsOf (jm6 vs) acc vs.length):acc.toList=vs.map (·.2):=by
 apply List.ext_getElem?
 intro i
 by_cases hi:i < vs.length
 ·have hi2:i < acc.size:=by rw[h.1];exact hi
  obtain⟨e,e1,e2⟩:=h.2 i acc[i] (Array.getElem?_eq_getElem hi2)
  rw[List.getElem?_map,e1,Array.getElem?_toList,Array.getElem?_eq_getElem hi2,e2]
  rfl
 ·rw[List.getElem?_eq_none (by rw[Array.length_toList,h.1];omega),List.getElem?_eq_none (by rw[List.length_map];omega)]
theorem jo1 {R:List Value→Shared→Prop} (hh:A.handled=none) (hs:SetTb w s.heap a es ep t) (h64:es.size < 64)
  (h:∀(h':Heap) (tk:Nat) (dr:Drawn) (vs:List (Int×Value)),vs.Perm es.toList→(∀b o,s.heap.get? b=some o→h'.get? b=some o)→R (vs.map (·.2)) {s with heap:=h',toks:=tk,drawn:=dr}) :
  wpAny (model prog w) A (collect (.ref a)) R E s:=by
 unfold collect
 refine wpAny_bind (wpAny_runValue (codeAny_builtin jk6 ?_))
 rw[Around.under_plainId PySem.F.plain_proto_collect _]
 show wpAny _ A.in1 (newList []>>=fun l=>again (.builtin "list.__iadd__" ⟨[l,.ref a],[]⟩)) _ _ s
 refine wpAny_bind (wpAny_newObj_type ?_)
 refine wpAny_pure ⟨plainId_quiet PySem.F.plain_list_iadd _,codeAny_builtin jpk ?_⟩
 rw[Around.under_plainId PySem.F.plain_list_iadd _]
 have hS₁:(s.heap.push {cls:=.type "list",data:=.seq ([]:List Value).toArray}).get? s.heap.objs.size=some {cls:=.type "list",data:=.seq #[]}:=Heap.get?_push_size _ rfl
 show wpAny _ A.in1 (Builtin.List.listExtendWith (.ref s.heap.objs.size) (.ref a) (.ref s.heap.objs.size)) _ _ _
 have key:=jqg (prog:=prog) (A:=A) (s:={ s with heap:=s.heap.push {cls:=.type "list",data:=.seq ([]:List Value).toArray}})
  (R:=fun(q:Result) (s':Shared)=>∃(h':Heap) (tk:Nat) (dr:Drawn) (vs:List (Int×Value)) (acc':Array Value) (c':Nat),q=.ok (.ret (.ref s.heap.objs.size))∧s'={ s with heap:=h',toks:=tk,drawn:=dr}∧vs.Perm es.toList ∧
   (∀b o,s.heap.get? b=some o→h'.get? b=some o)∧h'.get? s.heap.objs.size=some {cls:=.type "list",dict:=none,data:=.seq acc' c',slots:=#[]}∧ItemsOf (jm6 vs) acc' vs.length)
  hh (hs.move fun o e=>Heap.get?_push_of_some _ e) h64 s.heap.objs.size (Nat.ne_of_gt hs.lt) (.ref s.heap.objs.size) hS₁
  (fun h' tk dr vs acc' c' hp hk hS' hacc=>⟨h',tk,dr,vs,acc',c',rfl,rfl,hp,fun b o e=>hk b o (Nat.ne_of_lt (Heap.lt_size e)) (Heap.get?_push_of_some _ e),hS',hacc⟩)
 refine wpAny_mono key (fun fin s' x=>?_) fun e s' x=>?_
 ·cases fin with
  |done f =>
   obtain⟨h',tk,dr,vs,acc',c',e,rfl,hp,hk,hS',hacc⟩:=x
   cases e
   show wpAny _ A (load s.heap.objs.size>>=_) _ _ _
   refine wpAny_bind (wpAny_load hS' ?_)
   refine wpAny_pure ?_
   rw[joi hacc]
   exact h h' tk dr vs hp hk
  |again c₁ =>
   refine⟨x.1,codeAny_mono x.2 fun q s₂ y=>?_⟩
   obtain⟨h',tk,dr,vs,acc',c',rfl,rfl,hp,hk,hS',hacc⟩:=y
   show wpAny _ A (load s.heap.objs.size>>=_) _ _ _
   refine wpAny_bind (wpAny_load hS' ?_)
   refine wpAny_pure ?_
   rw[joi hacc]
   exact h h' tk dr vs hp hk
 ·obtain⟨_,_,_,_,_,_,z,_⟩:=x
  cases z
end
noncomputable def set0 (w:World):Obj:={ cls:=.type "set",dict:=none,data:=.set #[] 0 (.fresh 0 0 (!byTx w))}
section
variable {prog:Program} {w:World} {A:Around} {E:Value→Shared→Prop} {s:Shared}
theorem jwx {h:Heap} {a:Addr} (e:h.get? a=some (set0 w)):jil w h a [] :=
 ⟨#[],0,.fresh 0 0 (!byTx w),⟨⟨_,e,⟨rfl,rfl,rfl⟩,rfl⟩,rfl,rfl,fun _=>rfl⟩,fun e he=>by simp at he,List.Pairwise.nil,fun k=>by simp[ksOf],Nat.le_refl _⟩
theorem jyl (a:Value) {Q₁:Value→Shared→Prop} (h:Q₁ (.ref s.heap.objs.size) {s with heap:=s.heap.push (set0 w)}) :
  codeAny (model prog w) A (.call (.builtin "set.__new__") ⟨[.type "set",a],[]⟩) (wants Q₁ E) s:=by
 refine codeAny_of_tree ?_
 show wpAny _ A.in1 (do checkBuiltinCall "set.__new__" ⟨[.type "set",a],[]⟩;again (.builtin "set.__new__" ⟨[.type "set",a],[]⟩)) _ _ s
 refine wpAny_bind (wpAny_of_eq (F.newCall_set_1 a) (wpAny_pure ⟨plainId_quiet F.plain_set_new _,codeAny_builtin F.entry_set_new ?_⟩))
 rw[Around.under_plainId F.plain_set_new _]
 unfold Builtin.«set.__new__» Builtin.Frozenset.newClass
 have hsub:=sub_set_self
 obtain⟨hp,g,d,tk,os⟩:=s
 dsimp only
 wp_walk
 refine wpAny_askSetting (wpAny_pure ?_)
 dsimp only
 simp only[newObj]
 exact wpAny_bind (wpAny_alloc (wpAny_pure (wpAny_pure h)))
structure TxSrc (prog:Program) (w:World) (T:String) (x:Addr) (ks:List Str) (OK:Heap→Prop):Prop where
 type:∀s:Shared,OK s.heap→s.TypeIs (.ref x) T
 there:∀h:Heap,OK h→x < h.objs.size
 keep:∀h h':Heap,OK h→(∀o,h.get? x=some o→h'.get? x=some o)→OK h'
 notSet:isSubtype (.type T) (.type "set")=pure false
 notFrozen:isSubtype (.type T) (.type "frozenset")=pure false
 notDict:(Value.type T==Value.type "dict")=false
 iter:∀s:Shared,OK s.heap→∃(oI:Obj) (St:Nat→Heap→Prop),
  (∀(A:Around) (E:Value→Shared→Prop) (Q:Value→Shared→Prop),Q (.ref s.heap.objs.size) {s with heap:=s.heap.push oI}→wpAny (model prog w) A (pyIter (.ref x)) Q E s) ∧
  (∀A:Around,A.handled=none→Walks prog w A s.heap.objs.size [s.heap.objs.size,x] [s.heap.objs.size] ks.length (SeqV ks) St)∧St 0 (s.heap.push oI)
set_option maxHeartbeats 3200000 in
theorem jmx {T:String} {x:Addr} {ks:List Str} {OK:Heap→Prop} {Q:Value→Shared→Prop} (K:TxSrc prog w T x ks OK) (hh:A.handled=none) (hok:OK s.heap) (h64:ks.length < 64)
  (h:∀(h':Heap) (tk:Nat),jil w h' s.heap.objs.size ks→(∀b o,b < s.heap.objs.size→s.heap.get? b=some o→h'.get? b=some o)→Q (.ref s.heap.objs.size) {s with heap:=h',toks:=tk}) :
  wpAny (model prog w) A (call (.type "set") [.ref x]) Q E s:=by
 obtain⟨c,tl,hmro⟩:=F.called_set.mro
 have hmade:=F.called_set.made
 have hsub:=F.called_set.sub
 refine wpAny_call (codeAny_of_tree ?_)
 show wpAny _ _ (callAny (.type "set") _) _ _ _
 refine wpAny_pure ⟨Code.quiet_builtin _ (by decide +kernel),codeAny_builtin F.entry_type_call ?_⟩
 rw[Around.under_plain (weight_type_call_type "set" [.ref x] []) rfl]
 have h1:=F.called_set.notType
 have h2:=F.called_set.canCreate
 have hct:=F.typeCall_set_1 (.ref x)
 repeat (any_goals (first | assumption | wp_step))
 refine codeAny_mono (jyl (.ref x) (E:=E) (Q₁:=fun obj s₁=>obj=.ref s.heap.objs.size∧s₁={ s with heap:=s.heap.push (set0 w)}) ⟨rfl,rfl⟩) fun r s₁ hr=>?_
 cases r with
 |error e=>exact hr
 |ok fl =>
  cases fl with
  |ret obj =>
   obtain⟨rfl,rfl⟩:=hr
   have hS:(s.heap.push (set0 w)).get? s.heap.objs.size=some (set0 w):=Heap.get?_push_size _ rfl
   have hT:Shared.TypeIs {s with heap:=s.heap.push (set0 w)} (.ref s.heap.objs.size) "set":=⟨_,hS,rfl⟩
   have hli:=F.called_set.init.lookup
   have hbi:=F.called_set.init.bind (.ref s.heap.objs.size)
   repeat (any_goals (first | assumption | wp_step))
   refine codeAny_mono (codeAny_call_builtin (R:=wants (fun r s₂=>r=.none∧∃h' tk,s₂={ s with heap:=h',toks:=tk}∧jil w h' s.heap.objs.size ks ∧
     (∀b o,b < s.heap.objs.size→s.heap.get? b=some o→h'.get? b=some o)) E) F.called_set.init.plain F.entry_set_init (check_set_init_1 hT ?_)) fun r₂ s₂ hr₂=>?_
   ·have hok1:OK (s.heap.push (set0 w)):=K.keep _ _ hok fun o e=>Heap.get?_push_of_some _ e
    have hTx:Shared.TypeIs {s with heap:=s.heap.push (set0 w)} (.ref x) T:=K.type {s with heap:=s.heap.push (set0 w)} hok1
    have hsls:=K.notSet
    have hslf:=K.notFrozen
    have hne:=K.notDict
    unfold Builtin.«set.__init__» noKeywords Builtin.Frozenset.updateFrom
    generalize hPI:pyIter=PI
    wp_walk
    subst hPI
    have hh3:A.in1.in1.in1.handled=none:=by simp[hh]
    obtain⟨oI,St,hit,W,st⟩:=K.iter {s with heap:=s.heap.push (set0 w)} hok1
    refine hit _ _ _ ?_
    refine wpAny_bind (wpAny_runValue ?_)
    have hxS:x < s.heap.objs.size:=K.there _ hok
    have hSf:s.heap.objs.size∉[(s.heap.push (set0 w)).objs.size,x]:=by
     rw[Heap.size_push];simp only[List.mem_cons,List.mem_singleton,List.not_mem_nil,or_false,not_or]
     exact⟨Nat.ne_of_lt (Nat.lt_succ_self _),Nat.ne_of_gt hxS⟩
    refine jwh (W _ hh3).toS s.heap.objs.size hSf rfl h64 (ks.length - 0) 0 _ (by omega) (Nat.zero_le _) st (jwx (Heap.get?_push_of_some _ hS)) ?_
    intro s' hm hS'
    obtain⟨h',g',d',tk',os'⟩:=s'
    have eg:g'=s.gens:=hm.gens
    have ed:d'=s.drawn:=hm.drawn
    have eo:os'=s.os:=hm.os
    subst eg;subst ed;subst eo
    show wpAny _ _ _ _ _ _
    refine wpAny_pure ?_
    show wpAny _ _ (ret Value.none) _ _ _
    refine wpAny_pure ⟨rfl,h',tk',rfl,hS',fun b o hb e=>?_⟩
    have hb1:b≠s.heap.objs.size:=Nat.ne_of_lt hb
    have hb2:b≠(s.heap.push (set0 w)).objs.size:=by
     rw[Heap.size_push];exact Nat.ne_of_lt (Nat.lt_succ_of_lt hb)
    exact hm.heap b o (by simp only[List.mem_cons,List.mem_singleton,List.not_mem_nil,or_false,not_or];exact⟨hb1,hb2⟩) (Heap.get?_push_of_some _ (Heap.get?_push_of_some _ e))
   ·cases r₂ with
    |error e=>exact hr₂
    |ok fl₂ =>
     cases fl₂ with
     |ret r =>
      obtain⟨rfl,h',tk,rfl,hS',hk'⟩:=hr₂
      repeat (any_goals (first | assumption | wp_step))
      exact h _ _ hS' hk'
     |_=>exact hr₂.elim
  |_=>exact hr.elim
theorem jtq {x:Addr} {ks:List Str} {items:Array Value} (hk:∀i v,items[i]?=some v→SeqV ks i v) (hl:items.size=ks.length):TxSrc prog w "list" x ks (fun h=>h.IsList x items) where
 type:=fun s h=>h.typeIs
 there:=fun h hl=>let⟨_,e,_⟩:=hl;Heap.lt_size e
 keep:=fun h h' hl k=>let⟨o,e,r⟩:=hl;⟨o,k o e,r⟩
 notSet:=by rw[isSubtype_type];kernel_rfl
 notFrozen:=by rw[isSubtype_type];kernel_rfl
 notDict:=by decide
 iter:=fun s hok=>⟨_,(fun i h=>h.IsListIter s.heap.objs.size x i∧h.IsList x items),(fun A E Q hq=>wpAny_pyIter_list hok hq),(fun A hh=>by
  have W:=Walks.list (prog:=prog) (w:=w) hh s.heap.objs.size x (Nat.ne_of_lt (let⟨_,e,_⟩:=hok;Heap.lt_size e)) items
  refine⟨W.sub,W.frame,fun i s Q E hi st hQ=>W.item i s Q E (by rw[hl];exact hi) st fun v h' tk hv a b=>hQ v h' tk (hk i v hv) a b,?_,W.self⟩
  rw[←hl]
  exact W.done),⟨⟨_,Heap.get?_push_size _ rfl,rfl,rfl⟩,hok.push _⟩⟩
theorem jqn {x:Addr} {ks:List Str} {items:Array Value} (hk:∀i v,items[i]?=some v→SeqV ks i v) (hl:items.size=ks.length):TxSrc prog w "tuple" x ks (fun h=>h.IsTuple x items) where
 type:=fun s h=>h.typeIs
 there:=fun h hl=>let⟨_,e,_⟩:=hl;Heap.lt_size e
 keep:=fun h h' hl k=>let⟨o,e,r⟩:=hl;⟨o,k o e,r⟩
 notSet:=by rw[isSubtype_type];kernel_rfl
 notFrozen:=by rw[isSubtype_type];kernel_rfl
 notDict:=by decide
 iter:=fun s hok=>⟨_,(fun i h=>h.IsTupleIter s.heap.objs.size x i∧h.IsTuple x items),(fun A E Q hq=>wpAny_pyIter_tuple hok hq),(fun A hh=>by
  have W:=Walks.tuple (prog:=prog) (w:=w) hh s.heap.objs.size x (Nat.ne_of_lt (let⟨_,e,_⟩:=hok;Heap.lt_size e)) items
  refine⟨W.sub,W.frame,fun i s Q E hi st hQ=>W.item i s Q E (by rw[hl];exact hi) st fun v h' tk hv a b=>hQ v h' tk (hk i v hv) a b,?_,W.self⟩
  rw[←hl]
  exact W.done),⟨⟨_,Heap.get?_push_size _ rfl,rfl,rfl⟩,hok.push _⟩⟩
end
noncomputable def setO (w:World) (v:Addr) (ks:List Str):HO:=.ext fun h=>jil w h v ks
noncomputable def jq9 (w:World):List V→Hp→VK→Prop:=fun xs H Q=>∃(a:Addr) (ks:List Str),xs=[.ref a]∧(H a=some (.lst (ks.map V.str))∨H a=some (.tup (ks.map V.str)))∧ks.length < 64∧∀v,H v=none→Q (.ref v) (upd H v (setO w v ks))
theorem jqz {ks:List Str} {vs:List Value} (h:Vals (ks.map V.str) vs) (i:Nat) (v:Value) (e:vs.toArray[i]?=some v):SeqV ks i v:=by
 have e':vs[i]?=some v:=by simpa using e
 have hl:=h.length
 rw[List.length_map]at hl
 have hi:i < ks.length:=by rw[hl];exact(List.getElem?_eq_some_iff.mp e').1
 obtain⟨u,hu,ru⟩:=h.get (show(ks.map V.str)[i]?=some (V.str ks[i]) by rw[List.getElem?_map,List.getElem?_eq_getElem hi];rfl)
 rw[e']at hu
 cases hu
 obtain⟨t,ht⟩:=ru
 exact⟨ks[i],t,List.getElem?_eq_getElem hi,ht⟩
theorem jqy {ks:List Str} {vs:List Value} (h:Vals (ks.map V.str) vs):vs.toArray.size=ks.length:=by
 have hl:=h.length
 rw[List.length_map]at hl
 rw[List.size_toArray,←hl]
theorem jpr {X:Cx} (hh:X.A.handled=none):CallR X (.type "set") (jq9 X.w):=by
 intro pins s σ H xs us Q I r h
 obtain⟨a,ks,rfl,ha,h64,q⟩:=h
 obtain⟨u,rfl,ru⟩:=jee r
 cases(show u=Value.ref a from ru)
 have fin:∀(h':Heap) (tk:Nat),jil X.w h' s.heap.objs.size ks→(∀b o,b < s.heap.objs.size→s.heap.get? b=some o→h'.get? b=some o)→EP X pins σ Q (.ref s.heap.objs.size) {s with heap:=h',toks:=tk}:=fun h' tk hS hk=>by
  have hob:∃o,h'.get? s.heap.objs.size=some o:=by
   obtain⟨es,ep,t,T,_⟩:=hS
   obtain⟨o,e,_⟩:=T.obj
   exact⟨o,e⟩
  refine⟨.ref s.heap.objs.size,_,I.laid (t':=tk) (o:=setO X.w s.heap.objs.size ks) (fun b o e=>hk b o (Heap.lt_size e) e) (Nat.le_refl _) ⟨hS,hob,fun h1 h2 q k=>?_⟩,rfl,q _ (I.hok.fresh (Nat.le_refl _))⟩
  obtain⟨es,ep,t,T,r⟩:=q
  exact⟨es,ep,t,T.move fun o e=>k _ e,r⟩
 rcases ha with ha | ha
 ·obtain⟨hl,vs,c,hv,hL⟩:=I.hok a _ ha
  exact jmx (jtq (jqz hv) (jqy hv)) hh ⟨_,hL,rfl,_,rfl⟩ h64 fin
 ·obtain⟨hl,vs,hv,o,ho,hc,⟨n,hd⟩,_⟩:=I.hok a _ ha
  exact jmx (jqn (jqz hv) (jqy hv)) hh ⟨o,ho,hc,n,hd⟩ h64 fin
theorem Inv.drew {X:Cx} {pins:List (Addr×Obj)} {σ:St} {H:Hp} {s:Shared} (I:Inv X pins σ H s) (dr:Drawn):Inv X pins σ H {s with drawn:=dr}:=⟨I.ok,I.os,I.bare,I.base,I.loc,I.cell,I.free,I.freeC,I.pin,I.hok,I.len⟩
noncomputable def jkm (w:World):List V→Hp→VK→Prop:=fun xs H Q=>∃(v:Addr) (ks:List Str),xs=[.ref v]∧H v=some (setO w v ks)∧ks.length < 64 ∧
 ∀(D:Addr) (ys:List Str),ys.Nodup→(∀k,k∈ys↔k∈ks)→ys.Pairwise (fun _ _=>True)→H D=none→Q (.ref D) (upd H D (.lst (ys.map V.str)))
theorem jwe {w:World} {es vs:List (Int×Value)} (h:∀e∈es,∃k t,e.2=.str k t∧e.1=hashStr w k) (p:vs.Perm es):TxOk (vs.map (·.2)) (vs.map fun e=>txOf e.2):=by
 refine⟨by rw[List.length_map,List.length_map],fun j v hj=>?_⟩
 rw[List.getElem?_map]at hj
 cases e:vs[j]? with
 |none=>rw[e]at hj;cases hj
 |some x =>
  rw[e]at hj
  obtain⟨k,t,e1,_⟩:=h x (p.mem_iff.mp (List.mem_of_getElem? e))
  have hv:x.2=v:=Option.some.inj hj
  refine⟨k,t,?_,hv▸e1⟩
  rw[List.getElem?_map,e]
  show some (txOf x.2)=some k
  rw[e1]
  rfl
theorem jmw {X:Cx} (hh:X.A.handled=none):CallR X (.builtin "sorted") (jkm X.w):=by
 intro pins s σ H xs us Q I r h
 obtain⟨v,ks,rfl,hv,h64,q⟩:=h
 obtain⟨u,rfl,ru⟩:=jee r
 cases(show u=Value.ref v from ru)
 obtain⟨es,ep,t,T,hx,nd,hm,hl⟩:=(I.hok v _ hv).1
 have h64':es.size < 64:=Nat.lt_of_le_of_lt hl h64
 refine KS.sorted_of (R:=fun vs s1=>∃(h':Heap) (tk:Nat) (dr:Drawn) (ys:List Str),s1={ s with heap:=h',toks:=tk,drawn:=dr}∧(∀b o,s.heap.get? b=some o→h'.get? b=some o)∧TxOk vs ys∧ys.Nodup∧(∀k,k∈ys↔k∈ks)∧ys.length < 64)
  (jo1 hh T h64' fun h' tk dr vs hp hk=>?_) ?_
 ·have pk:(vs.map fun e=>txOf e.2).Perm (ksOf es):=List.Perm.map (fun e:Int×Value=>txOf e.2) hp
  exact⟨h',tk,dr,vs.map fun e=>txOf e.2,rfl,hk,jwe hx hp,pk.nodup_iff.mpr nd,fun k=>pk.mem_iff.trans (hm k),by rw[List.length_map,hp.length_eq,Array.length_toList];exact h64'⟩
 rintro vs s1 ⟨h',tk,dr,ys,rfl,hkp,hT,nd',hm',h64'⟩
 exact jjp (s:={ s with drawn:=dr}) (I.drew dr) hkp hT h64' fun D zs hp hw hD=>q D zs (hp.nodup_iff.mpr nd') (fun k=>hp.mem_iff.trans (hm' k)) hw hD
end L2
namespace DL
open PySem L2 Nb
section
variable {X:Cx} {o:Expr} {td:TE} {wd':DT} {pos p p2 ip:Pos} {W:World}
noncomputable def upT (ys:List Str):Prop:=ys.Pairwise fun _ _=>True
noncomputable def jk5 (w:DT):DTF:=fun δ n Q=>w δ n fun x n1=>∃ks:List Str,(x=.d (.list (ks.map .str))∨x=.d (.tuple (ks.map .str)))∧ks.length < 64∧(∀k∈ks,k.length≤1000) ∧
 ∀ys:List Str,ys.Nodup→(∀k,k∈ys↔k∈ks)→upT ys→Q (ys.map .str) n1
theorem jvs {α:Type}:∀{xs ys:List α},xs.Nodup→(∀x∈xs,x∈ys)→xs.length≤ys.length
 |[],_,_,_=>Nat.zero_le _
 |x::xs,ys,nd,h=>by
  obtain⟨h1,h2⟩:=List.nodup_cons.mp nd
  obtain⟨l,r,e⟩:=List.append_of_mem (h x List.mem_cons_self)
  have:=jvs (ys:=l++r) h2 fun z hz=>by
   have hm:=h z (List.mem_cons_of_mem _ hz)
   rw[e]at hm
   rcases List.mem_append.mp hm with q | q
   ·exact List.mem_append_left _ q
   ·rcases List.mem_cons.mp q with q | q
    ·exact absurd (q▸hz) h1
    ·exact List.mem_append_right _ q
  rw[e]
  simp only[List.length_cons,List.length_append]at this ⊢
  omega
theorem jfk {H:Hp} {B:Addr→Prop}:∀{xs:List V} {ks:List Str},RdXs H B xs (ks.map .str)→xs=ks.map V.str
 |[],[],_=>rfl
 |_::_,[],h=>nomatch h
 |[],_::_,h=>nomatch h
 |x::xs,k::ks,.cons h t=>by
  cases h
  rw[jfk t]
  rfl
theorem jsr (hh:X.A.handled=none) (hg:Gl X "sorted") (hm:X.mg "sorted"=none) (hg2:Gl X "set") (hm2:X.mg "set"=none) (ho:DE X o td wd') (hW:X.w=W:=by rfl) (hv:bootBuiltins "sorted"=some (.builtin "sorted"):=by decide +kernel) (hv2:bootBuiltins "set"=some (.type "set"):=by decide +kernel)
  (he2:starEach [o] X.env=(false,eval o X.env)::starEach [] X.env:=by rfl) (hpl2:(backTo ip (starEach [] X.env)).any (·.1)=false:=by rfl)
  (he':starEach [Expr.Call (.Name "set" p2) [o] [] ip] X.env=(false,eval (Expr.Call (.Name "set" p2) [o] [] ip) X.env)::starEach [] X.env:=by rfl) (hpl:(backTo pos (starEach [] X.env)).any (·.1)=false:=by rfl) :
  DF X (.Call (.Name "sorted" p) [.Call (.Name "set" p2) [o] [] ip] [] pos) (tCB (jkm W) (jds (tCB (jq9 W) (jds td tNil)) tNil)) (jk5 wd'):=by
 subst hW
 refine⟨jdh (jmw hh) hg hm hv (ja4 (jeg (jpr hh) hg2 hm2 hv2 (ja4 ho.pe jb6 he2) (by decide) (by decide) he2 hpl2) jb6 he') (by decide) (by decide) he' hpl,fun C H B σ δ n Q Q' R q k =>
  ho.sd C H B σ δ n _ _ R q fun v x H1 n1 R1 k1 r1 q1=>?_⟩
 obtain⟨ks,hx,h64,hk,kq⟩:=q1
 have key:∀a:Addr,v=.ref a→(H1 a=some (.lst (ks.map V.str))∨H1 a=some (.tup (ks.map V.str)))→tCB (jkm X.w) (jds (fun σ H Q=>jq9 X.w [v] H Q) tNil) σ H1 Q':=fun a ea ha=>by
  subst ea
  refine⟨a,ks,rfl,ha,h64,fun u hu=>⟨u,ks,rfl,jar,h64,fun D ys nd hm hw hD=>?_⟩⟩
  have R2:=R1.new (o:=setO X.w u ks) hu
  have hD1:H1 D=none:=by
   cases e:H1 D with
   |none=>rfl
   |some ob =>
    have:upd H1 u (setO X.w u ks) D=some ob:=by rw[jal (jak e hu)];exact e
    rw[hD]at this
    cases this
  have hy:∀y∈ys,y.length≤1000:=fun y hy=>hk y ((hm y).mp hy)
  refine k D _ _ _ n1 (R2.new hD) ((k1.trans (Kp.new hu)).trans (Kp.new hD)) (R1.was k1 hD1) jar ?_ (jnf hy) (kq ys nd hm hw)
  rw[List.length_map]
  have:ys.length≤ks.length:=jvs nd fun y hy=>(hm y).mp hy
  exact jbb (by omega)
 rcases hx with rfl | rfl
 ·cases(show RdX H1 B v (.list (ks.map .str))from r1)with
  |@lst a xs _ e1 e2 e3 e4=>exact key a rfl (.inl (by rw[e1,jfk e4]))
 ·cases(show RdX H1 B v (.tuple (ks.map .str))from r1)with
  |@tup a xs _ e1 e2 e3 e4=>exact key a rfl (.inr (by rw[e1,jfk e4]))
variable {a:Expr} {ta:TE} {wa:DT} {K:PySem.W.Frag}
end
section
variable {X:Cx} {a b c e o i f:Expr} {ta tb te td ty tx:TE} {wa wb we wd' wy wx:DT} {pos p:Pos} {K:PySem.W.Frag}
noncomputable def jf5 (i:Nat):DT:=fun δ n Q=>match δ[i]? with
 |some (some (.own ds))=>Q (.ln ds) n
 |some (some (.w x))=>Q x n
 |_=>False
theorem jms (i:Nat) {x:Str} {p:Pos} (hN:X.N[i]?=some x:=by rfl) (hv:Vis X.env.scope x:=by first | exact Or.inl rfl | exact Or.inr (Or.inl rfl) | exact Or.inr (Or.inr rfl)) (hd:(x==("__debug__":Str))=false:=by decide)
  (hcd:(x==("__classdict__":Str))=false:=by decide):DE X (.Name x p) (tVar i) (jf5 i):=⟨je9 hN hv hd hcd,fun C H B σ δ n Q Q' R h k=>by
 unfold jf5 at h
 split at h
 ·rename_i ds e
  obtain⟨v,h1,a,xs,rfl,g2,g3,g4,g5,g6⟩:=R.sl i _ e
  exact⟨_,h1,k _ (.ln ds) H n R (Kp.refl _ _) ⟨a,xs,rfl,g2,fun z=>R.t0 (z▸g4),g5,g6⟩ h⟩
 ·rename_i x e
  obtain⟨v,h1,h2⟩:=R.sl i _ e
  exact⟨v,h1,k v x H n R (Kp.refl _ _) h2.1 h⟩
 ·exact h.elim⟩
noncomputable def gIxL:Wv→Wv→Int→DQ→Prop:=fun x y n Q=>match x with
 |.ln ds=>match y with
  |.d (.int i)=>match atI ds i with
   |some d=>Q (.d d) n
   |none=>False
  |_=>False
 |x=>gIx x y n Q
theorem jwp:SndO (rIx K) gIxL:=fun C H B σ δ n x y p q Q Q' R rx ry h1 k=>by
 cases p with
 |ln ds =>
  unfold gIxL at h1
  dsimp only at h1
  split at h1
  ·rename_i i
   split at h1
   ·rename_i d e
    cases(show RdX H B y (.int i)from ry)
    obtain⟨ay,ys,rfl,e1,e2,e3,e4⟩:=rx
    obtain⟨v,f1,f2⟩:=jtf e4 e
    exact .inl ⟨ay,ys,i,v,rfl,rfl,SqL.of e1,f1,k _ _ H n R (Kp.refl _ _) (wd f2) h1⟩
   ·exact h1.elim
  ·exact h1.elim
 |d _=>exact jn4 C H B σ δ n x y _ q Q Q' R rx ry h1 k
 |tp=>exact jn4 C H B σ δ n x y _ q Q Q' R rx ry h1 k
 |dk _=>exact jn4 C H B σ δ n x y _ q Q Q' R rx ry h1 k
theorem je8 (ha:DE X a ta wa) (hb:DE X b tb wb) (hK:X.K=K:=by rfl) (hs:jlg b:=by exact fun _ _=>rfl):DE X (.Subscript a b pos) (tOp (rIx K) ta tb) (w2 wa wb gIxL):=by
 subst hK
 exact⟨jg0 jsd ha.pe hb.pe hs,jls jwp ha.sd hb.sd⟩
noncomputable def gInL (neg:Bool):Wv→Wv→Int→DQ→Prop:=fun x y n Q=>match y with
 |.ln ds=>match x with
  |.d a=>jed a=true∧ds.all jed=true∧Q (.d (.bool (if neg then !inD a ds else inD a ds))) n
  |_=>False
 |y=>gIn neg x y n Q
theorem jqt {neg:Bool}:SndO (rIn K neg) (gInL neg):=fun C H B σ δ n x y p q Q Q' R rx ry h1 k=>by
 cases q with
 |ln ds =>
  unfold gInL at h1
  dsimp only at h1
  split at h1
  ·rename_i da
   obtain⟨f1,f2,q⟩:=h1
   have rx:RdX H B x da:=rx
   obtain⟨ay,ys,rfl,e1,e2,e3,e4⟩:=ry
   refine⟨ay,ys,rfl,.inl (SqL.of e1),jh4 rx f1,je4 e4 f2,?_⟩
   rw[jmj rx e4]
   exact k _ _ H n R (Kp.refl _ _) (wd (.bl _)) q
  ·exact h1.elim
 |d _=>exact jdt C H B σ δ n x y p _ Q Q' R rx ry h1 k
 |tp=>exact jdt C H B σ δ n x y p _ Q Q' R rx ry h1 k
 |dk _=>exact jdt C H B σ δ n x y p _ Q Q' R rx ry h1 k
noncomputable def jf0:List Wv→Int→DQ→Prop:=fun xs n Q=>match xs with
 |[.ln ds]=>Q (.d (.int ds.length)) n
 |xs=>gLen xs n Q
theorem jc9:SndB (jw0 K) jf0:=fun C H B σ δ n vs xs Q Q' R r h k=>by
 unfold jf0 at h
 split at h
 ·rename_i ds
  cases r with
  |cons r1 r2 =>
   cases r2
   obtain⟨ay,ys,rfl,e1,e2,e3,e4⟩:=r1
   refine .inr ⟨ay,ys,rfl,.inl (SqL.of e1),?_⟩
   rw[e4.len]
   exact k _ _ H n R (Kp.refl _ _) (wd (.int _)) h
 ·exact jbq C H B σ δ n vs xs Q Q' R r h k
noncomputable def gEqL:Wv→Wv→Int→DQ→Prop:=fun x y n Q=>match x,y with
 |.ln ds,.d (.list [])=>Q (.d (.bool ds.isEmpty)) n
 |x,y=>gEq x y n Q
theorem jdz:SndO (rEqK K) gEqL:=fun C H B σ δ n x y p q Q Q' R rx ry h1 k=>by
 unfold gEqL at h1
 split at h1
 ·rename_i ds
  obtain⟨ax,xs,rfl,e1,e2,e3,e4⟩:=rx
  cases(show RdX H B y (.list [])from ry)with
  |@lst ay ys _ f1 f2 f3 f4 =>
   cases f4
   refine .inr (.inr ⟨ax,ay,xs,rfl,rfl,SqL.of e1,SqL.of f1,?_⟩)
   have:xs.isEmpty=ds.isEmpty:=by cases e4<;>rfl
   rw[this]
   exact k _ _ H n R (Kp.refl _ _) (wd (.bl _)) h1
 ·exact ja1 C H B σ δ n x y p q Q Q' R rx ry h1 k
noncomputable def lsOf:Wv→Option (List PyData)
 |.ln ds=>some ds
 |.d (.list ds)=>some ds
 |_=>none
noncomputable def gCat:Wv→Wv→Int→DQ→Prop:=fun x y n Q=>match lsOf x,lsOf y with
 |some i,some j=>i.length+j.length≤sizeLine∧Q (.d (.list (i++j))) n
 |_,_=>False
theorem jvt {H:Hp} {B:Addr→Prop} {t:Addr} {v:V} {x:Wv} {ds:List PyData} (h:WRel H B t v x) (e:lsOf x=some ds):∃a xs,v=.ref a∧H a=some (.lst xs)∧xs.length≤sizeLine∧RdXs H B xs ds:=by
 cases x with
 |ln es =>
  cases e
  obtain⟨a,xs,h1,h2,h3,h4,h5⟩:=h
  exact⟨a,xs,h1,h2,h4,h5⟩
 |d y =>
  cases y with
  |list es =>
   cases e
   cases(show RdX H B v (.list ds)from h)with
   |@lst a xs _ e1 e2 e3 e4=>exact⟨a,xs,rfl,e1,e3,e4⟩
  |_=>cases e
 |tp=>cases e
 |dk _=>cases e
theorem jwt:SndO rCat gCat:=fun C H B σ δ n x y p q Q Q' R rx ry h1 k=>by
 unfold gCat at h1
 split at h1
 ·rename_i i j ei ej
  obtain⟨ax,xs,rfl,e1,e3,e4⟩:=jvt rx ei
  obtain⟨ay,ys,rfl,f1,f3,f4⟩:=jvt ry ej
  obtain⟨hl,q⟩:=h1
  have hl':xs.length+ys.length≤sizeLine:=by rw[e4.len,f4.len];exact hl
  refine⟨ax,ay,xs,ys,rfl,rfl,e1,f1,hl',fun pn hp=>?_⟩
  refine k _ _ _ n (R.new hp) (Kp.new hp) (wd (show RdX _ B _ (.list (i++j))from .lst jar (R.nb hp) (by rw[List.length_append];exact hl') ?_)) q
  exact((e4.append f4).fresh hp).less fun b z=>.inl z
 ·exact h1.elim
theorem j1z (ha:DE X a ta wa) (hb:DE X b tb wb):DE X (.BinOp a .Add b pos) (tOp rCat ta tb) (w2 wa wb gCat):=d_op jzv jwt ha hb
end
section
variable {X:Cx} {a b c e o i f:Expr} {ta tb te td ty tx:TE} {wa wb we wd' wy wx:DT} {pos p:Pos} {K:PySem.W.Frag}
noncomputable def sUnp (w:DT) (g:DTG):DST:=fun δ n K=>w δ n fun x n1=>match x with
 |.d d=>g d δ fun δ'=>K.nx δ' n1
 |_=>False
theorem jty {tg:Expr} {g:TG} {gd:DTG} (he:DE X e te we) (hg:DG X tg g gd) (hs:swapsWithSole [tg] e pos.line X.env=pure false:=by rfl) (hw:swappedStores [tg] e X.env=pure none:=by rfl)
  (h1:(assignEach [tg] X.env).map (·.2)=[assign tg X.env]:=by rfl):DS X (.Assign [tg] e pos) (tAsg te g) (sUnp we gd):=⟨jl3 he.pe hg.pg hs hw h1,fun C H B σ δ n K D R q E =>
 he.sd C H B σ δ n _ _ R q fun v x H1 n1 R1 k1 r1 q1=>by
  cases x with
  |d d=>exact hg.sd C H1 B σ δ n1 v d _ _ R1 r1 q1 fun σ' δ' R' q'=>E.nx _ _ _ _ _ R' q'
  |tp=>exact q1.elim
  |dk _=>exact q1.elim
  |ln _=>exact q1.elim⟩
noncomputable def sqOf:Wv→Option (List PyData)
 |.ln ds=>some ds
 |.d (.list ds)=>some ds
 |.d (.tuple ds)=>some ds
 |_=>none
theorem jyn {H:Hp} {B:Addr→Prop} {t:Addr} {v:V} {x:Wv} {ds:List PyData} (h:WRel H B t v x) (e:sqOf x=some ds):∃a xs,v=.ref a∧(SqL K H a xs∨SqT K H a xs)∧xs.length≤sizeLine∧RdXs H B xs ds:=by
 cases x with
 |ln es =>
  cases e
  obtain⟨a,xs,h1,h2,h3,h4,h5⟩:=h
  exact⟨a,xs,h1,.inl (SqL.of h2),h4,h5⟩
 |d y =>
  cases y with
  |list es =>
   cases e
   cases(show RdX H B v (.list ds)from h)with
   |@lst a xs _ e1 e2 e3 e4=>exact⟨a,xs,rfl,.inl (SqL.of e1),e3,e4⟩
  |tuple es =>
   cases e
   cases(show RdX H B v (.tuple ds)from h)with
   |@tup a xs _ e1 e2 e3 e4=>exact⟨a,xs,rfl,.inr (SqT.of e1),e3,e4⟩
  |_=>cases e
 |tp=>cases e
 |dk _=>cases e
noncomputable def jfn (w:DT):DTF:=fun δ n Q=>w δ n fun x n1=>match sqOf x with
 |some ds=>Q ds n1
 |none=>False
theorem jok (hg:Gl X "list") (hm:X.mg "list"=none) (ho:DE X o td wd') (hK:X.K=K:=by rfl) (he:starEach [o] X.env=(false,eval o X.env)::starEach [] X.env:=by rfl) (hpl:(backTo pos (starEach [] X.env)).any (·.1)=false:=by rfl) :
  DF X (.Call (.Name "list" p) [o] [] pos) (tCB (jvn K) (jds td tNil)) (jfn wd') :=
 ⟨jeg (jps hK) hg hm jx4 (ja4 ho.pe jb6 he) (by decide) (by decide) he hpl,fun C H B σ δ n Q Q' R q k=>ho.sd C H B σ δ n _ _ R q fun v x H1 n1 R1 k1 r1 q1=>by
  split at q1
  ·rename_i ds ex
   obtain⟨a,xs,rfl,h1,h2,h3⟩:=jyn (K:=K) r1 ex
   refine⟨a,xs,rfl,h1,fun l hl=>?_⟩
   exact k l xs ds _ n1 (R1.new hl) (k1.trans (Kp.new hl)) (R1.was k1 hl) jar h2 (h3.fresh hl) q1
  ·exact q1.elim⟩
noncomputable def jcu:List Wv→Int→DQ→Prop:=fun xs n Q=>match xs with
 |[.ln ds]=>Q (.d (.tuple ds)) n
 |xs=>jcc xs n Q
theorem jce:SndB (jng K) jcu:=fun C H B σ δ n vs xs Q Q' R r h k=>by
 unfold jcu at h
 split at h
 ·rename_i ds
  cases r with
  |cons r1 r2 =>
   cases r2
   obtain⟨ay,ys,rfl,e1,e2,e3,e4⟩:=r1
   refine⟨ay,ys,rfl,.inl ⟨SqL.of e1,fun l hl=>?_⟩⟩
   refine k _ _ _ n (R.new hl) (Kp.new hl) (wd (show RdX _ B _ (.tuple ds)from .tup jar (R.nb hl) e3 ?_)) h
   exact(e4.fresh hl).less fun b z=>.inl z
 ·exact jbr C H B σ δ n vs xs Q Q' R r h k
noncomputable def sExt (i:Nat) (w:DT):DST:=fun δ n K=>match δ[i]? with
 |some (some (.own ds))=>w δ n fun x n1=>match x with
  |.d (.list es)=>(ds.length < 1000000∧es.length < 1000000)∧K.nx (δ.set i (some (.own (ds++es)))) n1
  |_=>False
 |_=>False
theorem jol {n m:Nat} (h:n < 1000000) (h':m < 1000000):n+m≤sizeLine:=by
 have:2000000≤sizeLine:=by decide
 omega
theorem j1e {i:Nat} {x:Str} {xp ap cp:Pos} (hN:X.N[i]?=some x) (he:DE X e te we) (hv:Vis X.env.scope x:=by first | exact Or.inl rfl | exact Or.inr (Or.inl rfl) | exact Or.inr (Or.inr rfl)) (hd:(x==("__debug__":Str))=false:=by decide)
  (hcd:(x==("__classdict__":Str))=false:=by decide)
  (hbase:attributeBase (.Name x xp) "extend" X.env (eval (.Name x xp) X.env)=eval (.Name x xp) X.env:=by rfl)
  (hfew:((backTo cp (starEach [e] X.env)).all (fun x=>!x.1)&&(backToKw cp (keywordEach [] X.env)).all (fun x=>x.1.isSome)
   && decide ([e].length+([]:List Keyword).length+(if ([]:List Keyword).isEmpty then 0 else 1) < 30))=true:=by rfl)
  (hline:(ap.endLine==cp.line)=true:=by rfl) (hs:starEach [e] X.env=[(false,eval e X.env)]:=by rfl) (hplain:(backTo cp (starEach [] X.env)).any (·.1)=false:=by rfl)
  (hsw:swapsWith (.Call (.Attribute (.Name x xp) "extend" ap) [e] [] cp) none pos.line X.env=pure false:=by rfl) :
  DS X (.Expr (.Call (.Attribute (.Name x xp) "extend" ap) [e] [] cp) pos) (jwf (tBM X.K "list" jrb (tVar i) (jds te tNil))) (sExt i we) :=
 ⟨jrg (jzk PySem.F.plainAttrs_list PySem.F.slot_list_extend PySem.F.type_list_extend jr1 (je9 hN hv hd hcd) (ja4 he.pe jb6 hs) hbase hfew hline hs hplain) hsw,fun C H B σ δ n K D R q E=>by
  unfold sExt at q
  split at q
  ·rename_i ds ei
   obtain⟨v,hv,a,xs,rfl,e2,e3,e4,e5,e6⟩:=R.sl i _ ei
   refine⟨_,hv,.inl ⟨rfl,_,SqL.of e2⟩,he.sd C H B σ δ n _ _ R q fun u y H1 n1 R1 k1 r1 q1=>?_⟩
   split at q1
   ·rename_i es
    have hat:a≠C.t:=fun z=>R.t0 (z▸e4)
    have e2':=k1 _ _ e2 hat
    cases(show RdX H1 B u (.list es)from r1)with
    |@lst b zs _ f1 f2 f3 f4 =>
     have hl:xs.length+zs.length≤sizeLine:=by rw[e6.len,f4.len];exact jol q1.1.1 q1.1.2
     refine⟨a,b,xs,zs,rfl,rfl,e2',f1,hl,?_⟩
     refine E.nx _ _ _ _ _ (R1.mutOwn ei rfl hv e3 e4 ?_ rfl) q1.2
     refine⟨a,xs++zs,rfl,jar,e3,e4,by rw[List.length_append];exact hl,?_⟩
     refine RdXs.keep (fun b o e n=>?_) ((e6.kp k1 R.bt).append f4)
     rw[jal fun(z:b=a)=>n (z▸e3)]
     exact e
   ·exact q1.elim
  ·exact q.elim⟩
theorem jx8 (H:Hp) (B:Addr→Prop):RdXs H B jve jth:=.cons .non (.cons .non (.cons .non (.cons (.int _) (.cons (.int _) (.cons (.int _) (.cons (.int _) .nil))))))
noncomputable def wTp3 (i:Nat):DT:=fun δ n Q=>match δ[i]? with
 |some (some (.w .tp))=>Q (.ln jth) n
 |_=>False
theorem ju3 (i:Nat) {x:Str} {ix:Int} {p p2:Pos} {jj} (hK:X.K=K:=by rfl) (hN:X.N[i]?=some x:=by rfl) (hv:Vis X.env.scope x:=by first | exact Or.inl rfl | exact Or.inr (Or.inl rfl) | exact Or.inr (Or.inr rfl)) (hd:(x==("__debug__":Str))=false:=by decide)
  (hcd:(x==("__classdict__":Str))=false:=by decide):DE X (.Subscript (.Name x p) (.Constant (.int 3) jj p2) pos) (tOp (rIx K) (tVar i) (tC (.int 3))) (wTp3 i):=by
 subst hK
 refine⟨jg0 jsd (je9 hN hv hd hcd) ja9 (fun _ _=>rfl),fun C H B σ δ n Q Q' R h k=>?_⟩
 unfold wTp3 at h
 split at h
 ·rename_i e
  obtain⟨v,h1,h2⟩:=R.sl i _ e
  cases(show v=.ref C.t from h2.1)
  obtain⟨a,b,ho,_⟩:=R.tp.ob
  refine⟨_,h1,.inl ⟨C.t,_,3,.ref C.l.g,rfl,rfl,SqL.of ho,jb1 (j:=3) rfl,k _ (.ln jth) H n R (Kp.refl _ _) ⟨C.l.g,jve,rfl,R.tp.ag rfl,R.tp.gne,by decide,jx8 _ _⟩ h⟩⟩
 ·exact h.elim
end
section
variable {X:Cx} {e:Expr} {st:Stmt} {sts:List Stmt}
end
end DL
namespace L2
open PySem PySem.Spec PyProof.Rows
section
variable {prog:Program} {w:World} {A:Around} {E:Value→Shared→Prop} {s:Shared}
end
end L2
namespace DL
open PySem L2 Nb
section
variable {X:Cx} {a b:Expr} {ta tb:TE} {wa wb:DT} {pos p:Pos} {K:PySem.W.Frag}
end
end DL
namespace HT
open PySem PyProof.Rows
open PySem.SeqAt
open PySem.AutoSeq1 (wpAny_loadPart')
open PySem.MeetsSeq PySem.MeetsSeq2 PySem.MeetsSeq3
section
variable {prog:Program} {w:World} {A:Around} {E:Value→Shared→Prop} {s:Shared}
theorem getItem_tuple_whole {t sl:Addr} {items:Array Value} {vl vu:Value} {lo hi:Option Int} {Q:Value→Shared→Prop} (ht:IsTup s.heap t items) (hs:s.heap.IsSliceOf sl vl vu .none) (pl:IsPart vl lo) (pu:IsPart vu hi)
  (h0:sIx items.size 0 lo=0) (h1:sIx items.size items.size hi=items.size) (h:Q (.ref t) s):wpAny (model prog w) A (getItem (.ref t) (.ref sl)) Q E s:=by
 obtain⟨os,hos,hcs,hds⟩:=id hs
 have hTs:s.TypeIs (.ref sl) "slice":=⟨os,hos,hcs⟩
 unfold getItem
 try with_reducible refine wpAny_holding ?_
 first | refine wpAny_bind (wpAny_pure ?_) | skip
 refine wpAny_bind (wpAny_sequenceKey ht.typeIs (by decide) ?_)
 refine wpAny_bind (wpAny_callSpecial?_slot (name:=Str.ofString "__getitem__") ht.typeIs PyProof.Rows.slot_tuple_getitem
  (wpAny_call_entry PyProof.Rows.slot_tuple_getitem ht.typeIs entry_tuple_getitem ?_ (args_tuple_getitem _ _)))
 show wpAny _ _ (Builtin.Tuple.tupleItemsOf (.ref t)>>=_) _ _ s
 refine wpAny_bind (tupleItemsOf_ ht ?_)
 refine wpAny_bind (wpAny_typeOf hTs ?_)
 rw[if_pos (by decide)]
 refine wpAny_bind (jeb hs pl pu ?_)
 have hyes:(((sIx items.size 0 lo:Nat):Int)==0&&(1:Int)==1&&(sIx items.size items.size hi - sIx items.size 0 lo)==items.size)=true:=by
  rw[h0,h1];simp
 show wpAny _ _ (if (((sIx items.size 0 lo:Nat):Int)==0&&(1:Int)==1&&(sIx items.size items.size hi - sIx items.size 0 lo)==items.size)=true then _ else _) _ _ s
 rw[if_pos hyes]
 unfold Builtin.Tuple.tupleIsExact
 refine wpAny_bind (wpAny_bind (wpAny_typeOf ht.typeIs (wpAny_pure ?_)))
 rw[if_pos (by decide)]
 exact wpAny_bind (wpAny_rule (wpAny_pure ⟨_,rfl,wpAny_pure h⟩))
end
end HT
namespace L2
open PySem PySem.Spec PyProof.Rows
noncomputable def rSlW (K:PySem.W.Frag):V→Option Int→Option Int→Hp→VK→Prop:=fun x lo hi H Q=>∃a xs,x=.ref a∧SqT K H a xs∧HT.sIx xs.length 0 lo=0∧HT.sIx xs.length xs.length hi=xs.length∧Q (.ref a) H
theorem jtx {X:Cx}:SlR X (rSlW X.K):=by
 intro pins s σ H x v vl vu lo hi sl Q I rx hs pl pu h
 obtain⟨a,xs,rfl,hx,h0,h1,q⟩:=h
 cases rx
 obtain⟨its,r,ht,hz⟩:=I.tuple hx
 have hlen:its.toArray.size=xs.length:=by rw[List.size_toArray];exact r.length.symm
 refine⟨"tuple",_,PyProof.Rows.slot_tuple_getitem.lookup,ht.typeIs,?_⟩
 exact HT.getItem_tuple_whole ht hs pl pu (by rw[hlen];exact h0) (by rw[hlen];exact h1) ⟨.ref a,H,I,rfl,q⟩
end L2
namespace DL
open PySem L2 Nb
section
variable {X:Cx} {e:Expr} {te:TE} {we:DT} {pos p2:Pos} {K:PySem.W.Frag} {lo hi:Option Expr}
noncomputable abbrev DTO:=Sl→Int→(Option Int→Int→Prop)→Prop
noncomputable def jpa:DTO:=fun _ n Q=>Q none n
noncomputable def jo9 (w:DT):DTO:=fun δ n Q=>w δ n fun x n1=>match x with
 |.d (.int i)=>Q (some i) n1
 |_=>False
noncomputable def j17 (t:TO) (w:DTO):Prop:=∀(C:Ctx) (H:Hp) (B:Addr→Prop) (σ:St) (δ:Sl) (n:Int) (Q:Option Int→Int→Prop) (Q':Option Int→Hp→Prop),Rel C H B σ δ n→w δ n Q →
 (∀o H' n',Rel C H' B σ δ n'→Kp C.t H H'→Q o n'→Q' o H')→t σ H Q'
structure DOp (X:Cx) (o:Option Expr) (t:TO) (w:DTO):Prop where
 po:PO X o t
 sd:j17 t w
theorem jry:DOp X none jp8 jpa:=⟨jrj,fun C H B σ δ n Q Q' R q k=>k none H n R (Kp.refl _ _) q⟩
theorem jrx (h:DE X e te we):DOp X (some e) (jyf te) (jo9 we):=⟨jri h.pe,fun C H B σ δ n Q Q' R q k=>h.sd C H B σ δ n _ _ R q fun v x H1 n1 R1 k1 r1 q1=>by
 split at q1
 ·rename_i i
  cases(show RdX H1 B v (.int i)from r1)
  exact⟨i,rfl,k (some i) H1 n1 R1 k1 q1⟩
 ·exact q1.elim⟩
noncomputable def cutD (xs:List PyData) (lo hi:Option Int):List PyData:=(xs.drop (HT.sIx xs.length 0 lo)).take (HT.sIx xs.length xs.length hi - HT.sIx xs.length 0 lo)
noncomputable def jjm (w:DT) (l u:DTO):DT:=fun δ n Q=>w δ n fun x n1=>l δ n1 fun a n2=>u δ n2 fun b n3=>match x with
 |.d (.tuple ds)=>Q (.d (.tuple (cutD ds a b))) n3
 |_=>False
noncomputable def rSlA (K:PySem.W.Frag):V→Option Int→Option Int→Hp→VK→Prop:=fun x lo hi H Q=>rSlT K x lo hi H Q∨rSlW K x lo hi H Q
theorem jns {tl th:TO} {wl wh:DTO} (he:DE X e te we) (hl:DOp X lo tl wl) (hh:DOp X hi th wh) (hK:X.K=K:=by rfl):DE X (.Subscript e (.Slice lo hi none p2) pos) (tSl (rSlA K) te tl th) (jjm we wl wh):=by
 subst hK
 refine⟨job (sl_tup.or jtx) he.pe hl.po hh.po,fun C H B σ δ n Q Q' R q k=>he.sd C H B σ δ n _ _ R q fun v x H1 n1 R1 k1 r1 q1 =>
  hl.sd C H1 B σ δ n1 _ _ R1 q1 fun a H2 n2 R2 k2 q2=>hh.sd C H2 B σ δ n2 _ _ R2 q2 fun b H3 n3 R3 k3 q3=>?_⟩
 split at q3
 ·rename_i ds
  have r3:RdX H3 B v (.tuple ds):=(r1.kp k2 R1.bt).kp k3 R2.bt
  cases r3 with
  |@tup aa xs _ e1 e2 e3 e4 =>
   have kk:=(k1.trans k2).trans k3
   by_cases hw:HT.sIx xs.length 0 a=0∧HT.sIx xs.length xs.length b=xs.length
   ·refine .inr ⟨aa,xs,rfl,SqT.of e1,hw.1,hw.2,k _ _ H3 n3 R3 kk (wd (show RdX H3 B _ (.tuple ds)from .tup e1 e2 e3 e4)) ?_⟩
    have:cutD ds a b=ds:=by
     unfold cutD
     rw[←e4.len,hw.1,hw.2,List.drop_zero,Nat.sub_zero,e4.len,List.take_length]
    rw[this]at q3
    exact q3
   ·refine .inl ⟨aa,xs,rfl,SqT.of e1,hw,fun p hp=>?_⟩
    refine k _ _ _ n3 (R3.new hp) (kk.trans (Kp.new hp)) (wd (show RdX _ B _ (.tuple (cutD ds a b))from .tup jar (R3.nb hp) (Nat.le_trans (jfp xs a b) e3) ?_)) q3
    unfold cutD cutV
    rw[←e4.len]
    exact(((e4.drop _).take _).fresh hp).less fun b z=>.inl z
 ·exact q3.elim
end
end DL
namespace Nb
open PySem L2
section
variable {X:Cx}
end
end Nb
namespace DL
open PySem L2 Nb
section
variable {X:Cx} {tg a b c e o i f:Expr} {ta tb te td ty tx:TE} {wa wb we wd' wy wx:DT} {pos p:Pos} {K:PySem.W.Frag}
end
section
variable {X:Cx} {e:Expr} {es:List Expr} {pos p:Pos} {tR:TA} {wR:DTA} {te:TE} {we:DT}
end
section
variable {P:Program} {w:World} {K:PySem.W.Frag} {mg:Str→Option Value} {base:Heap}
end
end DL
namespace Nb
open PySem L2
section
variable {X:Cx} {pins:List (Addr×Obj)} {σ:St} {H:Hp} {s:Shared} {q:Addr} {D:List (Str×Str)}
end
end Nb
namespace DL
open PySem L2 Nb
section
variable {X:Cx} {a b c e o i f:Expr} {ta tb te ty:TE} {wa wb we wy:DT} {pos p xp:Pos} {K:PySem.W.Frag} {D:List (Str×Str)} {q:Addr} {x:Str}
theorem juo {n:Nat} (h:n≤1000):n≤sizeLine:=Nat.le_trans h (by decide)
end
end DL
namespace L2
open PySem PySem.Spec PyProof.Rows PySem.SeqAt PySem.W
section
variable {prog:Program} {w:World} {A:Around} {E:Value→Shared→Prop} {s:Shared}
theorem jsa {fin:Bool} {Q:Bool→Shared→Prop}:∀{l:List (Value×Value)} {k:Bool} {i:Nat},LexAt A s fin l k→Q k s→KatLex prog w A false fin Q l i s
 |_,_,_,.nil,h=>kat_nil h
 |_,_,_,.same e r,h=>by
  refine kat_cons ?_
  refine e _ _ _ _ ?_
  exact kat_yes (jsa r h)
 |_,_,i,.parts e l,h=>by
  refine kat_cons ?_
  refine e _ _ _ _ ?_
  refine kat_no ?_
  rw[Bool.false_and]
  refine kat_one _ _ ?_
  exact l prog w _ _ h
theorem jqx {a kS:Addr} {st:SortSt} {keys:Array Value} {out:List Value} {e e1:Nat} {P:PySem.Fin→Shared→Prop} (nk:s.heap.get? kS=some (seqObj "list" keys e)) (na:s.heap.get? a=some (seqObj "list" #[] e1)) (hka:kS≠a) (hkz:keys.size < 64)
  (ho:(arrOf st).map (·.2)=out.toArray) (h64:out.length < 64) (hf:failedOf st=none)
  (h:∀(h':Heap) (tk c:Nat),(∀b o,b≠a→b≠kS→s.heap.get? b=some o→h'.get? b=some o)→h'.get? a=some (seqObj "list" out.toArray c)→P (.done (.ret .none)) {s with heap:=h',toks:=tk}) :
  wpAny (model prog w) A (ksk_tail a false e1 (.ref kS) st) P E s:=by
 have s1:=Heap.SameBut.update s.heap kS (Obj.mapSeq fun _=>(#[]:Array Value))
 have na1:(s.heap.update kS (Obj.mapSeq fun _=>(#[]:Array Value))).get? a=some (seqObj "list" #[] e1):=(s1.2 a hka.symm).trans na
 have s2:=Heap.SameBut.update (s.heap.update kS (Obj.mapSeq fun _=>(#[]:Array Value))) a (Obj.mapSeq fun _=>out.toArray)
 obtain⟨c2,hc2⟩:∃c2,((s.heap.update kS (Obj.mapSeq fun _=>(#[]:Array Value))).update a (Obj.mapSeq fun _=>out.toArray)).get? a=some (seqObj "list" out.toArray c2):=⟨_,get?_update_seq na1 fun _=>out.toArray⟩
 unfold ksk_tail
 dsimp only
 rw[ho]
 simp only[Bool.false_eq_true,if_false]
 refine wpAny_bind (listUpdate_at nk rfl ?_ (by rw[sizeLine_eq];omega) (Nat.zero_le _))
 refine wpAny_bind (wpAny_letGo ?_)
 refine wpAny_bind (seqEpoch_at na1 rfl ?_)
 refine wpAny_bind (listUpdate_at na1 rfl ?_ (Nat.zero_le _) (by rw[List.size_toArray,sizeLine_eq];omega))
 rw[hf]
 simp only[bne_self_eq_false,Bool.false_eq_true,if_false]
 exact wpAny_pure (h _ _ c2 (fun b o hb hk q=>(s2.2 b hb).trans ((s1.2 b hk).trans q)) hc2)
theorem jyr {a kS:Addr} {keys vs:List Value} {e e1:Nat} {lt:Nat→Nat→Bool} {P:PySem.Fin→Shared→Prop} (nk:s.heap.get? kS=some (seqObj "list" keys.toArray e)) (na:s.heap.get? a=some (seqObj "list" #[] e1)) (hka:kS≠a)
  (hl:keys.length=vs.length) (h64:vs.length < 64)
  (T:2≤vs.length→∃fs,KatTups s.heap keys fs∧0 < fs.length∧∀v∈fs,Looks (model prog w) s.heap (typeOf v) (Value.type "tuple"))
  (ask:∀i j,i < vs.length→j < vs.length→∀C:Bool→Shared→Prop,C (lt i j) s→kas_ask prog w A (tuples' false) keys i j C s)
  (h:∀(idx:List Nat) (h':Heap) (tk c:Nat),idx.Perm (List.range vs.length)→(∀b o,b≠a→b≠kS→s.heap.get? b=some o→h'.get? b=some o) →
   h'.get? a=some (seqObj "list" (List.toArray (idx.map fun i=>vs.getD i Value.none)) c)→P (.done (.ret .none)) {s with heap:=h',toks:=tk}) :
  wpAny (model prog w) A (ksk_end a false vs.toArray e1 (.ref kS) keys.toArray) P E s:=by
 unfold ksk_end
 dsimp only
 simp only[Bool.false_eq_true,if_false]
 by_cases h2:vs.toArray.size < 2
 ·rw[if_pos h2,if_pos h2]
  refine wpAny_bind (wpAny_pure ?_)
  rw[StateT.run_pure]
  refine wpAny_bind (wpAny_pure ?_)
  dsimp only
  rw[List.size_toArray]at h2
  have el:vs=(List.range vs.length).map fun i=>vs.getD i Value.none:=by
   apply List.ext_getElem (by simp)
   intro i h1 h2
   simp[h1]
  refine jqx nk na hka (by rw[List.size_toArray];omega) (out:=vs) ?_ h64 rfl fun h' tk c k hL=>h (List.range vs.length) h' tk c (List.Perm.refl _) k (by rw[←el];exact hL)
  ·show(keys.toArray.zip vs.toArray).map (·.2)=vs.toArray
   apply Array.toList_inj.mp
   simp only[Array.toList_map,Array.toList_zip]
   exact List.map_snd_zip (Nat.le_of_eq hl.symm)
 ·rw[if_neg h2,if_neg h2]
  rw[List.size_toArray]at h2
  obtain⟨fs,t,hne,hT⟩:=T (by omega)
  refine wpAny_bind (kat_kind t hne hT rfl ?_)
  have hn:0 < vs.length:=by omega
  have hwi:=KS.wi_sort hn
  refine wpAny_bind (wpAny_mono (kat_run (ks:=keys) (vs:=vs) (κ:=tuples' false) (G:=fun p s'=>s'=s∧p=KS.run lt (kas_sort vs.length)) (Q:=fun st' s'=>∃p:Array Nat,p.size=vs.length∧arrOf st'=p.map (kas_item (keys.toArray.zip vs.toArray))∧failedOf st'=none∧s'=s∧p=KS.run lt (kas_sort vs.length))
   hl (by omega) h64 (fun p' st' s' a1 a2 a3 a4=>⟨p',a1,a2,a3,a4⟩) ?_) ?_ fun _ _ e=>e)
  ·exact KS.wp_run (n:=vs.length) (P:=KS.Pm vs.length) (c:=lt) (St:=fun s'=>s'=s) (fun i j C s' hi hj hs hC=>by subst hs;exact ask i j hi hj C (hC _ rfl)) _ _ hwi rfl fun s' hs'=>⟨hs',rfl⟩
  ·rintro⟨⟨⟩,st'⟩ s' ⟨p,hp,har,hf,rfl,rfl⟩
   dsimp only
   have hpm:KS.Pm vs.length (KS.run lt (kas_sort vs.length)):=KS.Wi.out _ hwi
   have hidx:(KS.run lt (kas_sort vs.length)).toList.Perm (List.range vs.length):=by
    have:=Array.perm_iff_toList_perm.mp hpm
    simpa using this
   exact jqx nk na hka (by rw[List.size_toArray];omega) (kat_snds hl har) (by rw[List.length_map,Array.length_toList,hp];exact h64) hf fun h' tk c k hL=>h _ h' tk c hidx k hL
theorem jwv {a:Addr} {f:Value} {vs:List Value} {n:Nat} {P:PySem.Fin→Shared→Prop} (ho:s.heap.get? a=some (seqObj "list" vs.toArray n)) (h64:vs.length < 64)
  (h:∀(h3:Heap) (e1:Nat),(∀b o,b≠a→s.heap.get? b=some o→h3.get? b=some o)→h3.get? a=some (seqObj "list" #[] e1)→s.heap.objs.size≤h3.objs.size →
   wpAny (model prog w) A (ksk_rest a f false vs.toArray e1 (.ref h3.objs.size)) P E {s with heap:=h3.push (seqObj "list" #[] 0)}) :
  wpAny (model prog w) A (ksk_tree a f false) P E s:=by
 have s1:=Heap.SameBut.update s.heap a (Obj.mapSeq fun _=>(#[]:Array Value))
 obtain⟨e1,ho1⟩:∃e1,(s.heap.update a (Obj.mapSeq fun _=>(#[]:Array Value))).get? a=some (seqObj "list" #[] e1):=⟨_,get?_update_seq ho fun _=>#[]⟩
 unfold ksk_tree
 refine wpAny_bind (listItems_at ho rfl ?_)
 refine wpAny_bind (listUpdate_at ho rfl ?_ (by rw[List.size_toArray,sizeLine_eq];omega) (Nat.zero_le _))
 refine wpAny_bind (seqEpoch_at ho1 rfl ?_)
 refine wpAny_bind (wpAny_newTuple ?_ (by show vs.length≤_;rw[sizeLine_eq];omega))
 refine wpAny_bind (wpAny_newList ?_ (Nat.zero_le _))
 refine wpAny_holding ?_
 exact h ((s.heap.update a (Obj.mapSeq fun _=>(#[]:Array Value))).push (seqObj "tuple" vs.toArray 0)) e1 (fun b o hb q=>Heap.get?_push_of_some _ ((s1.2 b hb).trans q)) (Heap.get?_push_of_some _ ho1) (by rw[size_push',Heap.size_update];exact Nat.le_succ _)
theorem jjo {r:Value} {q:Addr} {Q:Value→Shared→Prop} {R:List Value→Shared→Prop} (hcol:wpAny (model prog w) A.in1 (collect r) R E s)
  (h:∀vs s1,R vs s1→vs.length≤sizeLine∧wpAny (model prog w) A.in1.in1 (ksk_tree s1.heap.objs.size (.ref q) false) (fun f s2=>f=.done (.ret .none)∧Q (.ref s1.heap.objs.size) s2) E {s1 with heap:=s1.heap.push (seqObj "list" vs.toArray 0)}) :
  wpAny (model prog w) A (call (.builtin "sorted") [r] [(Str.ofString "key",.ref q)]) Q E s:=by
 refine call_function_entry_kw kind_sorted plain_sorted entry_sorted (ksk_s1 _ _) ?_
 unfold Builtin.«sorted»
 refine wpAny_bind (m:=checkCount "sorted" 1 1 _) (wpAny_pure ?_)
 refine wpAny_bind (wpAny_mono hcol (fun vs s1 hr=>?_) fun _ _ e=>e)
 obtain⟨hl,hs⟩:=h vs s1 hr
 refine wpAny_bind (wpAny_newList ?_ hl)
 have hoL:(s1.heap.push (seqObj "list" vs.toArray 0)).get? s1.heap.objs.size=some (seqObj "list" vs.toArray 0):=Heap.get?_push_size _ rfl
 refine wpAny_bind (wpAny_holding (wpAny_call_entry_kw (s:={ s1 with heap:=s1.heap.push (seqObj "list" vs.toArray 0)}) slot_list_sort ⟨_,hoL,rfl⟩ entry_list_sort ?body (ksk_l1 _ _)))
 case body =>
  show wpAny (model prog w) A.in1.in1 (Builtin.«list.sort» ⟨[.ref s1.heap.objs.size],[(Str.ofString "key",.ref q)]⟩) _ _ _
  rw[ksk_t1]
  refine wpAny_mono hs (fun f s2 hf=>?_) fun _ _ e=>e
  obtain⟨rfl,hq⟩:=hf
  exact⟨_,rfl,wpAny_pure ⟨_,rfl,hq⟩⟩
end
end L2
namespace L2
open PySem PySem.Spec PyProof.Rows
noncomputable def DEs (h:Heap) (d:Addr) (es:Array DictEntry) (ep:Nat):Prop:=∃o,h.get? d=some o∧o.ExactDict∧o.data=.dict es ep
noncomputable abbrev RowP:=Addr×Addr×List Key×V
noncomputable def jlz (l:Addr) (ps:List RowP):HO:=.ext fun h=>(l==sysModules)=false∧∃es ep,DEs h l es ep∧es.size≤ps.length∧∀e∈es.toList,∃p∈ps,e.key=.ref p.2.1
noncomputable def jir (H:Hp) (ps:List RowP):Prop:=∀p∈ps,H p.1=some (.tup [.ref p.2.1,p.2.2.2])∧H p.2.1=some (.tup (p.2.2.1.map kV))
section
variable {X:Cx} {pins:List (Addr×Obj)} {σ:St} {A:Around} {R:Result→Shared→Prop} {H:Hp} {s:Shared}
noncomputable abbrev XsOf (ps:List RowP) (xs:List (List Key×Addr×Value)):Prop:=∀x∈xs,∃p∈ps,x.2.1=p.2.1
theorem jx9 {ps:List RowP} {xs:List (List Key×Addr×Value)} {p:RowP} {v:Value} (h:XsOf ps xs) (hp:p∈ps):XsOf ps (storedH xs p.2.2.1 p.2.1 v)∧(storedH xs p.2.2.1 p.2.1 v).length≤xs.length+1:=by
 unfold storedH
 split
 ·refine⟨fun x hx=>?_,by rw[List.length_map];omega⟩
  obtain⟨y,hy,rfl⟩:=List.mem_map.mp hx
  obtain⟨q,hq,e⟩:=h y hy
  refine⟨q,hq,?_⟩
  unfold putAt
  split<;>exact e
 ·refine⟨fun x hx=>?_,by rw[List.length_append];exact Nat.le_refl _⟩
  rcases List.mem_append.mp hx with z | z
  ·exact h x z
  ·rw[List.mem_singleton]at z;subst z;exact⟨p,hp,rfl⟩
theorem jp1 (hA:A.handled=none) (hu:A.units+1 < cLine) {src d it:Addr} (ps:List RowP) (I0:Inv X pins σ H s) (h0:s.heap.objs.size≤it) (h1:s.heap.objs.size≤d) (hne:it≠d) (hs:H src=some (.tup (ps.map fun p=>.ref p.1))) (hp:jir H ps) (hl:ps.length≤1000)
  (hR:∀h' tk' xs',(∀b o,s.heap.get? b=some o→h'.get? b=some o)→h'.DictOfH (tupleKind (jbf X.prog X.w)) d xs'→XsOf ps xs'→xs'.length≤ps.length→R (.ok (.ret .none)) {s with heap:=h',toks:=tk'}) :
  ∀(n i:Nat) (h:Heap) (tk:Nat) (xs:List (List Key×Addr×Value)),n+i=ps.length→(∀b o,s.heap.get? b=some o→h.get? b=some o)→h.DictOfH (tupleKind (jbf X.prog X.w)) d xs→XsOf ps xs→xs.length≤i→h.IsTupleIter it src i →
  codeAny (model X.prog X.w) A (.builtin "dict.update.loop" ⟨[.ref d,.ref it,rawInt i,.none],[]⟩) R {s with heap:=h,toks:=tk}:=by
 intro n
 induction n with
 |zero =>
  intro i h tk xs hn hk dd hx hxl st
  have I:Inv X pins σ H {s with heap:=h,toks:=tk}:=I0.kept hk
  obtain⟨its,rv,p,_⟩:=I.tuple (SqT.of (K:=X.K) hs)
  refine codeAny_builtin jfe ?_
  rw[Around.under_plainId jck _]
  show wpAny _ _ (pyNext (.ref it)>>=_) _ _ _
  have hl:=rv.length
  rw[List.length_map]at hl
  refine wpAny_bind (wpAny_pyNext_tuple_end (A:=A.in1) (s:={ s with heap:=h,toks:=tk}) hA st (show h.IsTuple src its.toArray from p) (by simp;omega) fun h' eb=>?_)
  show wpAny _ _ (Builtin.Dict.addKeywords d []>>=_) _ _ _
  refine wpAny_bind (wpAny_pure (wpAny_pure (hR h' tk xs (fun b o e=>eb b o (Nat.ne_of_lt (Nat.lt_of_lt_of_le (Heap.lt_size e) h0)) (hk b o e)) ?_ hx (by omega))))
  obtain⟨o,es,ep,q1,q2,q3,q4,q5,q6⟩:=dd
  exact⟨o,es,ep,eb d o hne.symm q1,q2,q3,q4,fun x hx'=>by
   obtain⟨p,hp',e⟩:=hx x hx'
   have hkp:=jhv I.hok (hp p hp').2
   rw[←e]at hkp
   have:=q5 x hx'
   obtain⟨ob,its',n',g1,g2⟩:=this
   exact⟨ob,its',n',eb _ _ (fun z=>by
    have:=(I0.hok.lt (hp p hp').2)
    rw[←e,z]at this
    exact Nat.lt_irrefl _ (Nat.lt_of_lt_of_le this h0)) g1,g2⟩,q6⟩
 |succ n ih =>
  intro i h tk xs hn hk dd hx hxl st
  have I:Inv X pins σ H {s with heap:=h,toks:=tk}:=I0.kept hk
  obtain⟨its,rv,p,_⟩:=I.tuple (SqT.of (K:=X.K) hs)
  have hi:i < ps.length:=by omega
  obtain⟨u,hu',ru⟩:=rv.get (show(ps.map fun p=>V.ref p.1)[i]?=some (V.ref (ps[i]).1) by simp[hi])
  cases(show u=Value.ref (ps[i]).1 from ru)
  have hm:=List.getElem_mem hi
  obtain⟨hq,hky⟩:=hp _ hm
  refine codeAny_builtin jfe ?_
  rw[Around.under_plainId jck _]
  show wpAny _ _ (pyNext (.ref it)>>=_) _ _ _
  refine wpAny_bind (wpAny_pyNext_tuple_item (s:={ s with heap:=h,toks:=tk}) st (show h.IsTuple src its.toArray from p) (x:=Value.ref (ps[i]).1) (by simpa using hu') fun g st1 sb=>?_)
  have kg:∀b o,s.heap.get? b=some o→g.get? b=some o:=fun b o e=>(sb.2 b (Nat.ne_of_lt (Nat.lt_of_lt_of_le (Heap.lt_size e) h0))).trans (hk b o e)
  have I1:Inv X pins σ H {s with heap:=g,toks:=tk}:=I0.kept kg
  obtain⟨its1,rv1,p1,_⟩:=I1.tuple (SqT.of (K:=X.K) hq)
  obtain⟨u1,u2,rfl,r1,r2⟩:=jyc rv1
  cases(show u1=Value.ref (ps[i]).2.1 from r1)
  refine wpAny_bind (wpAny_holding ?_)
  refine wpAny_bind (wpAny_tryCatch (jo8 p1 ?_))
  have dg:g.DictOfH (tupleKind (jbf X.prog X.w)) d xs:=by
   obtain⟨o,es,ep,q1,q2,q3,q4,q5,q6⟩:=dd
   exact⟨o,es,ep,(sb.2 d hne.symm).trans q1,q2,q3,q4,fun x hx'=>by
    obtain⟨p,hp',e⟩:=hx x hx'
    obtain⟨ob,its',n',g1,g2⟩:=q5 x hx'
    exact⟨ob,its',n',(sb.2 _ (fun z=>by
     have:=(I0.hok.lt (hp p hp').2)
     rw[←e,z]at this
     exact Nat.lt_irrefl _ (Nat.lt_of_lt_of_le this h0))).trans g1,g2⟩,q6⟩
  obtain⟨x1,x2⟩:=jx9 (v:=u2) hx hm
  refine wpAny_holding (wpAny_dictSet_heap (s:={ s with heap:=g,toks:=tk}) (hsz:=jbb (by omega)) (tupleKind_room_in1 hu) (jhv I1.hok hky) dg fun h2 dd2 hs2=>?_)
  show wpAny _ _ (pure (Fin.again (.builtin "dict.update.loop" ⟨[.ref d,.ref it,rawInt ((i:Int)+1),.none],[]⟩))) _ _ _
  refine wpAny_pure ⟨plainId_quiet jck _,?_⟩
  rw[show((i:Int)+1)=((i+1:Nat):Int) by push_cast;rfl]
  exact ih (i+1) h2 _ _ (by omega) (fun b o e=>(hs2.2 b (Nat.ne_of_lt (Nat.lt_of_lt_of_le (Heap.lt_size e) h1))).trans (kg b o e)) dd2 x1 (by omega) (by
   obtain⟨o,e,r⟩:=st1
   exact⟨o,(hs2.2 it hne).trans e,r⟩)
theorem jmr {src:Addr} {ps:List RowP} {Q:VK} (hh:X.A.handled=none) (hu:X.A.units+4 < cLine) (I:Inv X pins σ H s) (hs:H src=some (.tup (ps.map fun p=>V.ref p.1))) (hp:jir H ps) (hlen:ps.length≤1000)
  (k:∀g tk' xs',(∀b o,s.heap.get? b=some o→g.get? b=some o)→(s.heap.objs.size==sysModules)=false→g.DictOfH (tupleKind (jbf X.prog X.w)) s.heap.objs.size xs'→XsOf ps xs'→xs'.length≤ps.length→EP X pins σ Q (.ref s.heap.objs.size) {s with heap:=g,toks:=tk'}) :
  wpAny (model X.prog X.w) X.A (call (.type "dict") [.ref src]) (EP X pins σ Q) X.xe s:=by
 refine callType_codes (Q₁:=fun obj s₁=>obj=.ref s.heap.objs.size∧s₁={ s with heap:=s.heap.push {cls:=.type "dict",data:=.dict #[]}}) F.kt_called_dict (F.kt_typeCall_dict_1 _) F.entry_dict_init (kt_code_dict_new _ ⟨rfl,rfl⟩) ?_
 rintro obj s₁ ⟨rfl,rfl⟩
 have I1:Inv X pins σ H {s with heap:=s.heap.push {cls:=.type "dict",data:=.dict #[]}}:=I.kept (t':=s.toks) fun b o e=>Heap.get?_push_of_some _ e
 have hsys:(s.heap.objs.size==sysModules)=false:=by
  have:=I.big
  simp only[beq_eq_false_iff_ne]
  exact Nat.ne_of_gt this
 obtain⟨zz,its,rv,o,ho,hc,⟨n,hdat⟩,hd⟩:=(show ObjOk X.prog X.w _ _ src (.tup _)from I1.hok src _ hs)
 have hnew:(s.heap.push {cls:=.type "dict",data:=.dict #[]}).DictOfH (tupleKind (jbf X.prog X.w)) s.heap.objs.size []:=Heap.DictOfH.new s.heap
 refine⟨hnew.typeIs,F.args_dict_init_2 _ _,?_⟩
 unfold Builtin.«dict.__init__»
 refine wpAny_bind ?_
 unfold Builtin.Dict.selfAndRest
 refine wpAny_bind (wpAny_notOrdered_dict hnew.typeIs ?_)
 show wpAny _ _ (pure (s.heap.objs.size,[Value.ref src])) _ _ _
 refine wpAny_pure ?_
 show wpAny _ _ (Builtin.Dict.updateFrom "dict.__init__" s.heap.objs.size (.ref src) [] .none) _ _ _
 unfold Builtin.Dict.updateFrom
 refine wpAny_bind (wpAny_typeOf (T:="tuple") ⟨o,ho,hc⟩ ?_)
 rw[if_pos (by decide)]
 refine wpAny_bind (jk3 ho hc hdat hd jr7 (by decide +kernel) hh (fun h' tk e ne=>?_))
 have p2:IsTup h' src its.toArray:=IsTup.keeps ⟨o,ho,hc,n,hdat⟩ ne.keeps
 show wpAny _ _ (rule _>>=_) _ _ _
 refine wpAny_bind (wpAny_rule ?_)
 refine wpAny_bind (wpAny_pyIter_tuple (show Heap.IsTuple h' src its.toArray from p2) ?_)
 refine wpAny_pure ⟨plainId_quiet jck _,?_⟩
 have e0:(s.heap.push ({cls:=.type "dict",data:=.dict #[]}:Obj)).get? s.heap.objs.size=some {cls:=.type "dict",data:=.dict #[]}:=Heap.get?_push_size _ rfl
 have hlt:s.heap.objs.size < h'.objs.size:=Heap.lt_size (ne.keeps _ _ e0)
 have kp:∀b u,s.heap.get? b=some u→(h'.push {cls:=.type "tuple_iterator",data:=.fields #[.ref src,.int 0 0]}).get? b=some u:=fun b u e=>Heap.get?_push_of_some _ (ne.keeps _ _ (Heap.get?_push_of_some _ e))
 refine jp1 (A:=X.A.in1) hh (by show X.A.units+1+1 < cLine;omega) (it:=h'.objs.size) (d:=s.heap.objs.size) ps I (Nat.le_of_lt hlt) (Nat.le_refl _) (Nat.ne_of_gt hlt) hs hp hlen (fun g tk' xs' hk dd hx hxl=>?_) ps.length 0 _ _ [] (by omega) kp ?_ (fun x hx=>by simp at hx) (Nat.le_refl _) ⟨_,Heap.get?_push_size _ rfl,rfl,rfl⟩
 ·exact⟨rfl,k g tk' xs' hk hsys dd hx hxl⟩
 ·refine⟨{cls:=.type "dict",data:=.dict #[]},#[],0,Heap.get?_push_of_some _ (ne.keeps _ _ e0),⟨rfl,rfl,rfl⟩,rfl,rfl,fun x hx=>by simp at hx,by simp⟩
theorem jpu (hh:X.A.handled=none) (hu:X.A.units+4 < cLine):CallR X (.type "dict") (fun xs H Q=>∃(src:Addr) (ps:List RowP),xs=[.ref src]∧H src=some (.tup (ps.map fun p=>V.ref p.1))∧jir H ps∧ps.length≤1000 ∧
  ∀l,H l=none→Q (.ref l) (L2.upd H l (jlz l ps))):=by
 intro pins s σ H xs us Q I r h
 obtain⟨src,ps,rfl,hs,hp,hlen,q⟩:=h
 obtain⟨u,rfl,ru⟩:=jee r
 cases(show u=Value.ref src from ru)
 refine jmr hh hu I hs hp hlen fun g tk' xs' hk hsys dd hx hxl=>?_
 obtain⟨od,es,ep,q1,q2,q3,q4,q5,q6⟩:=dd
 have hes:es.size=xs'.length:=by rw[←Array.length_toList,q4,List.length_map]
 refine⟨.ref s.heap.objs.size,_,I.laid (t':=tk') (h':=g) (o:=jlz s.heap.objs.size ps) hk (Nat.le_refl _) ⟨⟨hsys,es,ep,⟨od,q1,q2,q3⟩,by omega,fun e he=>?_⟩,⟨od,q1⟩,fun h1 h2 z k=>?_⟩,rfl,q _ I.fresh⟩
 ·rw[q4]at he
  obtain⟨x,hx',rfl⟩:=List.mem_map.mp he
  obtain⟨p,hp',e⟩:=hx x hx'
  exact⟨p,hp',by show Value.ref x.2.1=_;rw[e]⟩
 ·obtain⟨z1,es,ep,⟨o,w1,w2⟩,z3⟩:=z
  exact⟨z1,es,ep,⟨o,k o w1,w2⟩,z3⟩
noncomputable def jvo:List V→Hp→VK→Prop:=fun xs H Q=>∃src:Addr,xs=[.ref src]∧H src=some (.tup [])∧∀l,H l=none→Q (.ref l) (L2.upd H l (.dK []))
theorem jpv (hh:X.A.handled=none) (hu:X.A.units+4 < cLine):CallR X (.type "dict") jvo:=by
 intro pins s σ H xs us Q I r h
 obtain⟨src,rfl,hs,q⟩:=h
 obtain⟨u,rfl,ru⟩:=jee r
 cases(show u=Value.ref src from ru)
 refine jmr (ps:=[]) hh hu I hs (fun p hp=>by simp at hp) (by decide) fun g tk' xs' hk hsys dd hx hxl=>?_
 obtain⟨od,es,ep,q1,q2,q3,q4,q5,q6⟩:=dd
 have e0:xs'=[]:=List.eq_nil_of_length_eq_zero (Nat.le_zero.mp hxl)
 subst e0
 have es0:es=#[]:=by
  apply Array.toList_inj.mp
  rw[q4]
  rfl
 subst es0
 have dd:g.DictOf (jbf X.prog X.w) s.heap.objs.size []:=⟨od,#[],ep,q1,q2,q3,by intro e he;simp at he,.nil,by simp⟩
 exact⟨.ref s.heap.objs.size,_,I.laid (t':=tk') (h':=g) (o:=.dK []) hk (Nat.le_refl _) (jv1 (Nat.zero_le _) hsys .nil dd),rfl,q _ I.fresh⟩
end
end L2
namespace L2
open PySem PySem.Spec PyProof.Rows PySem.W
section
variable {prog:Program} {w:World} {A:Around} {E:Value→Shared→Prop} {s:Shared} {d it:Addr} {es:Array DictEntry} {ep i:Nat}
theorem DEs.ty (x:DEs s.heap d es ep):s.TypeIs (.ref d) "dict":=let⟨o,e,c,_⟩:=x;⟨o,e,c.1⟩
theorem jxu {Q:Value→Shared→Prop} (hd:(d==sysModules)=false) (x:DEs s.heap d es ep)
  (k:Q (.ref s.heap.objs.size) {s with heap:=s.heap.push {cls:=.type "dict_keyiterator",data:=.fields #[.ref d,.int 0 0,.int es.size 0,.int ep 0]}}):wpAny (model prog w) A (pyIter (.ref d)) Q E s:=by
 obtain⟨o,x1,x2,x3⟩:=id x
 refine wpAny_pyIter_slot x.ty F.slot_dict_iter (wpAny_call_entry F.slot_dict_iter x.ty F.entry_dict_iter ?_ (F.args_dict_iter_1 _))
 unfold Builtin.«dict.__iter__»
 refine wpAny_bind ?_
 unfold Builtin.Dict.dictSlotNone
 refine wpAny_bind (wpAny_notOrdered_dict x.ty ?_)
 refine(show wpAny _ _ (pure (Value.ref d)) _ _ s from wpAny_pure ?_)
 refine(show wpAny _ _ (Builtin.Dict.showsAll d>>=_) _ _ s from ?_)
 unfold Builtin.Dict.showsAll
 rw[if_neg (show ¬(d==sysModules)=true by rw[hd];decide)]
 refine wpAny_bind (wpAny_pure (wpAny_bind (wpAny_dictEntries x1 x3 (wpAny_bind (wpAny_dictEpoch x1 x3 ?_)))))
 refine wpAny_bind (wpAny_newObj_type (wpAny_pure ⟨_,rfl,"dict_keyiterator",_,⟨_,Heap.get?_push_size _ rfl,rfl⟩,F.slot_dict_keyiterator_next.lookup,?_⟩))
 simpa[rawInt]using k
theorem jom {Q:Option Value→Shared→Prop} (y:s.heap.IsKeyIter it d i es.size ep) (x:DEs s.heap d es ep)
  (hI:i < es.size→∀h',h'.IsKeyIter it d (i+1) es.size ep→Heap.SameBut it s.heap h'→Q (some (es.getD i ⟨0,.none,.none⟩).key) {s with heap:=h'})
  (hE:es.size≤i→A.handled=none∧∀h',Heap.ExtBut it s.heap h'→Q none {s with heap:=h'}):wpAny (model prog w) A (pyNext (.ref it)) Q E s:=by
 obtain⟨u,y1,y2,y3⟩:=id y
 obtain⟨o,x1,x2,x3⟩:=id x
 unfold pyNext
 refine wpAny_bind (wpAny_attempt (wpAny_callSpecial?_slot (name:=Str.ofString "__next__") y.typeIs F.slot_dict_keyiterator_next (wpAny_call_entry F.slot_dict_keyiterator_next y.typeIs F.entry_dict_keyiterator_next ?_ (F.args_dict_keyiterator_next_1 _))))
 refine wpAny_bind (wpAny_pure (wpAny_bind (wpAny_bind ?_)))
 first | refine wpAny_bind (wpAny_typeNameOfWhole_keyiter y.typeIs (wpAny_pure ?_)) | refine wpAny_bind (wpAny_typeNameOf_keyiter y.typeIs (wpAny_pure ?_))
 refine wpAny_bind (wpAny_fieldsOf y1 y3 ?_)
 simp only[show Builtin.Dict_items.ownsTuple "dict_keyiterator"=false by decide,Bool.false_eq_true,if_false]
 refine(show wpAny _ _ (if (Value.ref d==Value.none)=true then _ else _) _ _ s from ?_)
 rw[if_neg (show ¬((Value.ref d==Value.none)=true) by exact Bool.false_ne_true)]
 refine wpAny_bind (wpAny_pure (wpAny_bind (wpAny_dictEntries x1 x3 ?_)))
 rw[if_neg (show ¬_ by simp)]
 refine wpAny_bind (wpAny_pure (wpAny_bind (wpAny_dictEpoch x1 x3 ?_)))
 rw[if_neg (show ¬_ by simp)]
 refine wpAny_pure ?_
 by_cases hi:i < es.size
 ·simp only[show ¬((i:Int) < 0) by omega,if_false,Int.toNat_natCast,Array.getElem?_eq_getElem hi]
  refine wpAny_bind ?_
  first | refine wpAny_bind (wpAny_typeNameOfWhole_keyiter y.typeIs (wpAny_pure ?_)) | refine wpAny_bind (wpAny_typeNameOf_keyiter y.typeIs (wpAny_pure ?_))
  refine wpAny_bind (wpAny_isOneOf_keyiter y.typeIs ?_)
  refine(show wpAny _ _ (setField (.ref it) 1 (rawInt ((i:Int)+1))>>=_) _ _ s from wpAny_bind (wpAny_setField y1 y3 (by simp) ?_))
  have z:(s.heap.update it (Obj.mapFields (·.setIfInBounds 1 (rawInt ((i:Int)+1))))).IsKeyIter it d (i+1) es.size ep :=
   ⟨_,Heap.get?_update_self _ y1 (Obj.isFreed_of_fields (Obj.data_mapFields y3 _)),(Obj.cls_mapFields ..).trans y2,by rw[Obj.data_mapFields y3];simp[rawInt]⟩
  refine wpAny_bind (wpAny_holding (wpAny_bind (wpAny_isOneOf_keyiter (s:={ s with heap:=s.heap.update it (Obj.mapFields (·.setIfInBounds 1 (rawInt ((i:Int)+1))))}) z.typeIs ?_)))
  have kk:=hI hi _ z (Heap.SameBut.update ..)
  rw[show es.getD i ⟨0,.none,.none⟩=es[i] by simp[hi]]at kk
  exact(show wpAny _ _ (pure es[i].key) _ _ _ from wpAny_pure (wpAny_pure ⟨_,rfl,wpAny_pure kk⟩))
 ·obtain⟨hh,kk⟩:=hE (by omega)
  simp only[show ¬((i:Int) < 0) by omega,if_false,Int.toNat_natCast,Array.getElem?_eq_none (show es.size≤i by omega)]
  refine wpAny_bind ?_
  first | refine wpAny_bind (wpAny_typeNameOfWhole_keyiter y.typeIs (wpAny_pure ?_)) | refine wpAny_bind (wpAny_typeNameOf_keyiter y.typeIs (wpAny_pure ?_))
  refine(show wpAny _ _ (setField (.ref it) 0 .none>>=_) _ _ s from wpAny_bind (wpAny_setField y1 y3 (by simp) ?_))
  refine(show wpAny _ _ (newExc (.type "StopIteration") []>>=_) _ _ _ from wpAny_bind ?_)
  simp only[newExc,newTuple]
  refine wpAny_bind (wpAny_newObj_type (wpAny_bind (m:=firstArgMember _ _) (wpAny_of_eq (a:=Value.none) (by first | rfl | (simp only[firstArgMember];rfl)) (wpAny_newObj_type ?_ (by size_fits)))) (by size_fits))
  simp only[raiseNew]
  refine wpAny_bind (wpAny_handled ?_)
  rw[show A.in1.handled=none by exact hh]
  refine wpAny_bind (wpAny_pure (wpAny_throw (?_:wpAny _ _ _ _ _ _)))
  refine wpAny_bind (wpAny_isInstance (T:="StopIteration") (b:=true) ⟨_,Heap.get?_push_size _ rfl,rfl⟩ isSubtype_stop (?_:wpAny _ _ _ _ _ _))
  exact wpAny_pure (kk _ (((Heap.SameBut.update ..).extBut.push _).push _))
theorem DEs.keep {h h':Heap} (x:DEs h d es ep) (k:∀o,h.get? d=some o→h'.get? d=some o):DEs h' d es ep:=let⟨o,e,r⟩:=x;⟨o,k o e,r⟩
theorem j0m (lo:(d==sysModules)=false):KdlSrc prog w "dict" d d es.size (fun i v=>(es[i]?).map (·.key)=some v) (fun h=>DEs h d es ep) where
 type:=fun _ x=>x.ty
 there:=fun _ x=>let⟨_,e,_⟩:=x;⟨Heap.lt_size e,Heap.lt_size e⟩
 keep:=fun _ _ x k=>x.keep fun o e=>k d (.inl rfl) o e
 notList:=by decide
 notTuple:=by decide
 hint:=fun _ _ _ _ x q=>kdl_hint_dict x.ty q
 iter:=fun A s hh x=>by
  obtain⟨ob,x1,x2⟩:=id x
  have hlt:d < s.heap.objs.size:=Heap.lt_size x1
  refine⟨{cls:=.type "dict_keyiterator",data:=.fields #[.ref d,.int 0 0,.int es.size 0,.int ep 0]},fun i h=>h.IsKeyIter s.heap.objs.size d i es.size ep∧DEs h d es ep,fun _ _ q=>jxu lo x q,?_,⟨_,Heap.get?_push_size _ rfl,rfl,rfl⟩,x.keep fun o e=>Heap.get?_push_of_some _ e⟩
  exact
   { sub:=fun b hb=>by simp at hb;simp[hb],frame:=fun _ _ _ st hk=>⟨st.1.at fun o e=>hk _ (by simp) o e,st.2.keep fun o e=>hk d (by simp) o e⟩,item:=fun i s' Q E hi st hQ=>jom st.1 st.2 (fun hi' h' z sb=>hQ _ h' s'.toks (by simp[hi]) ⟨z,st.2.keep fun o e=>sb.extBut d o (Nat.ne_of_lt hlt) e⟩ fun b o hb e=>sb.extBut b o (fun h=>hb (by simp[h])) e) (fun z=>absurd hi (by omega)),done:=fun s' Q E st hQ=>jom st.1 st.2 (fun z=>absurd z (by omega)) (fun _=>⟨hh,fun h' he=>hQ h' s'.toks fun b o hb e=>he b o (fun h=>hb (by simp[h])) e⟩),self:=fun _ _ _ _ st hQ=>wpAny_pyIter_keyiter st.1 hQ}
end
end L2
namespace L2
open PySem PySem.Spec PyProof.Rows
theorem jmv {X:Cx} (hh:X.A.handled=none):CallR X (.builtin "sum") (fun xs H Q=>∃(p:Addr) (ns:List Int),xs=[.ref p]∧H p=some (.lst (ns.map V.int))∧Q (.int ns.sum) H):=by
 intro pins s σ H xs us Q I r h
 obtain⟨p,ns,rfl,hp,q⟩:=h
 obtain⟨u,rfl,ru⟩:=jee r
 cases(show u=Value.ref p from ru)
 obtain⟨its,rv,pl,_⟩:=I.list (SqL.of (K:=X.K) hp)
 have hi:IntsAre its ns:=jpd rv
 have hl:s.heap.IsList p its.toArray:=pl.isList
 have hall:AllInts its.toArray:=hi.allInts
 obtain⟨ys,e⟩:=hall.items
 have hn:(ys.toList.map (·.1))=ns:=by
  have:=hi.numsOf
  rw[show its=its.toArray.toList from rfl,e,nums_intItems]at this
  exact this
 rw[e]at hl
 refine sum_intListG hh hl fun h' tk t' hk=>?_
 rw[preSum_eq,List.take_of_length_le (by simp),hn]
 exact⟨.int ns.sum,H,I.kept hk,⟨_,rfl⟩,q⟩
end L2
namespace L2
open PySem PySem.Spec PyProof.Rows PySem.SeqAt PySem.W
noncomputable def jny (sp:Sp):List V→Hp→(List V→Hp→Prop)→Prop
 |[],H,Q=>Q [] H
 |x::r,H,Q=>sp [x] H (fun k H'=>jny sp r H' fun ks H''=>Q (k::ks) H'') E0
noncomputable def jtk (ds:List (List PyData)) (lt:Nat→Nat→Bool):Prop :=
 (∀d∈ds,(∃y r,d=.tuple y::r)∧PyData.canLayAll0 d=true∧PyData.depthAll d≤20)∧∀i j x y,ds[i]?=some x→ds[j]?=some y→jcd x y=some (lt i j)
noncomputable def jq8 (K:PySem.W.Frag) (xs:List V) (Q:VK):List V→Hp→Prop:=fun ks H1=>∃ds lt,ds.length=xs.length∧RdAll K H1 ks (ds.map PyData.tuple)∧jtk ds lt ∧
 ∀D,H1 D=none→∀idx:List Nat,idx.Perm (List.range xs.length)→Q (.ref D) (upd H1 D (.lst (idx.map fun i=>xs.getD i .non)))
noncomputable def jq7 (K:PySem.W.Frag) (sp:Sp):V→Hp→VK→Prop:=fun x H Q=>(∃a xs,x=.ref a∧(SqL K H a xs∨SqT K H a xs)∧xs.length < 64∧jny sp xs H (jq8 K xs Q)) ∨
 ∃d qs,x=.ref d∧H d=some (jlz d qs)∧qs.length < 64∧∀xs:List V,xs.length≤qs.length→(∀v∈xs,∃p∈qs,v=V.ref p.2.1)→jny sp xs H (jq8 K xs Q)
noncomputable def jvi (K:PySem.W.Frag) (sp:Sp) (t:TE):TE:=fun σ H Q=>t σ H fun x H1=>jq7 K sp x H1 Q
section
variable {prog:Program} {w:World} {A:Around} {E:Value→Shared→Prop} {s:Shared}
theorem jh6 {l:Addr} {o:Obj} {T:String} {items:List Value} {n:Nat} {Q:List Value→Shared→Prop} (ho:s.heap.get? l=some o) (hc:o.cls=.type T) (hT:T="list"∨T="tuple") (hd:o.data=.seq items.toArray n) (hz:items.length≤sizeLine)
  (h:∀h',(∀b u,s.heap.get? b=some u→h'.get? b=some u)→s.heap.objs.size≤h'.objs.size→Q items {s with heap:=h'}):wpAny (model prog w) A (collect (.ref l)) Q E s:=by
 have sb:=Heap.SameBut.update (s.heap.push (seqObj "list" #[] 0)) s.heap.objs.size (Obj.mapSeq (·++items.toArray))
 have q:=h ((s.heap.push (seqObj "list" #[] 0)).update s.heap.objs.size (Obj.mapSeq (·++items.toArray))) (fun b u e=>(sb.2 b (Nat.ne_of_lt (Heap.lt_size e))).trans (Heap.get?_push_of_some _ e)) (by rw[Heap.size_update,size_push'];exact Nat.le_succ _)
 unfold collect
 refine wpAny_bind (wpAny_runValue (codeAny_builtin entry_proto_collect' ?_))
 show wpAny _ _ (do again (.builtin "list.__iadd__" ⟨[←newList [],.ref l],[]⟩)) _ _ s
 refine wpAny_bind (wpAny_newList (wpAny_pure ⟨Code.quiet_builtin _ (by decide +kernel),codeAny_builtin entry_list_iadd' ?_⟩))
 show wpAny _ _ (Builtin.List.listExtendWith (.ref s.heap.objs.size) (.ref l) (.ref s.heap.objs.size)) _ _ {s with heap:=s.heap.push (seqObj "list" #[] 0)}
 unfold Builtin.List.listExtendWith
 have ho':(s.heap.push (seqObj "list" #[] 0)).get? l=some o:=Heap.get?_push_of_some _ ho
 refine wpAny_bind (wpAny_typeOf (T:=T) ⟨o,ho',hc⟩ ?_)
 have ht:(Builtin.List.listSameRef (.ref s.heap.objs.size) (.ref l) || Value.type T==Value.type "list" || Value.type T==Value.type "tuple")=true:=by
  rcases hT with rfl | rfl<;>simp
 rw[if_pos ht]
 refine wpAny_bind (listItems_at ho' hd ?_)
 refine wpAny_bind (listItems_at (xs:=#[]) (n:=0) (Heap.get?_push_size _ rfl) rfl ?_)
 rw[if_neg (by simp)]
 refine wpAny_bind (listUpdate_at (xs:=#[]) (n:=0) (Heap.get?_push_size _ rfl) rfl ?_ (Nat.zero_le _) (by simp only[Array.size_append,List.size_toArray,List.length_nil];omega))
 refine wpAny_pure ?_
 show wpAny (model prog w) A (do
   let o ←load s.heap.objs.size
   match o.data with
   |.seq xs _=>pure xs.toList
   |_=>unsupported "internal:collect") Q E {s with heap:=(s.heap.push (seqObj "list" #[] 0)).update s.heap.objs.size (Obj.mapSeq (·++items.toArray))}
 refine wpAny_bind (wpAny_load (get?_update_seq (Heap.get?_push_size _ rfl) _) ?_)
 show wpAny _ _ (pure ((#[]:Array Value)++items.toArray).toList) Q E _
 rw[show((#[]:Array Value)++items.toArray).toList=items by simp]
 exact wpAny_pure q
end
section
variable {X:Cx} {pins:List (Addr×Obj)} {σ:St} {H:Hp} {s:Shared} {k:Nat} {f:Addr} {fd:FuncData} {ps:List Str} {sp:Sp}
theorem Inv.collects {a:Addr} {xs:List V} (I:Inv X pins σ H s) (h:SqL X.K H a xs∨SqT X.K H a xs):∃its:List Value,Vals xs its∧xs.length≤sizeLine∧∀(A:Around) (E:Value→Shared→Prop) (Q:List Value→Shared→Prop),
  (∀h',(∀b u,s.heap.get? b=some u→h'.get? b=some u)→s.heap.objs.size≤h'.objs.size→Q its {s with heap:=h'})→wpAny (model X.prog X.w) A (collect (.ref a)) Q E s:=by
 rcases h with h | h
 ·obtain⟨its,r,⟨o,n,e,c,_,d⟩,z⟩:=I.list h
  exact⟨its,r,z,fun A E Q q=>jh6 e c (.inl rfl) d (by rw[←r.length];exact z) q⟩
 ·obtain⟨its,r,⟨o,e,c,n,d⟩,z⟩:=I.tuple h
  exact⟨its,r,z,fun A E Q q=>jh6 e c (.inr rfl) d (by rw[←r.length];exact z) q⟩
theorem jwy {Q:VK} {u:Value} {x:V} (F:FnOk X.prog X.w X.K X.mg X.base CX0 k f fd ps sp) (hr:Room (k+2) X.A) (hb:Binds X.K fd ps []) (I:Inv X pins σ H s) (r:RelV x u) (h:sp [x] H Q E0) :
  wpAny (model X.prog X.w) X.A.in1.in1 (call (.ref f) [u]) (EP X pins σ Q) (fun _ _=>False) s:=by
 have hl:([u]++[]).length=ps.length:=by have:=F.len _ _ _ _ h;simpa using this
 refine wpAny_call (codeAny_mono (F.run X.A.in1.in1 X.stack s H ⟨[u],[]⟩ ([u]++[]) [x] Q E0 hr.in1.in1 I.env0.in1.in1 (hb s [u] I.kIn hl) (.cons r .nil) h) fun r s' hq=>?_)
 cases r with
 |error e=>exact False.elim hq
 |ok fl =>
  cases fl with
  |ret u=>exact I.after hq
  |next=>exact False.elim hq
  |brk=>exact False.elim hq
  |cont=>exact False.elim hq
structure Fre (X:Cx) (pins:List (Addr×Obj)) (b:Addr):Prop where
 sz:X.s₀.heap.objs.size≤b
 cells:∀x c,X.env.cells.lookup x=some c→c≠b
 pins:∀p∈X.pn++pins,p.1≠b
 loc:b≠X.env.locals
 fs:b∉X.fs
theorem Inv.fre (I:Inv X pins σ H s) {b:Addr} (h:s.heap.objs.size≤b):Fre X pins b:=by
 refine⟨Nat.le_trans I.sz h,fun x c e z=>?_,fun p hp z=>?_,fun z=>?_,I.nofs h⟩
 ·obtain⟨v,o,ho,_⟩:=I.cell x c e
  have:=Heap.lt_size ho
  rw[z]at this
  exact absurd (Nat.lt_of_lt_of_le this h) (Nat.lt_irrefl _)
 ·have:=Heap.lt_size (I.pin p hp).1
  rw[z]at this
  exact absurd (Nat.lt_of_lt_of_le this h) (Nat.lt_irrefl _)
 ·have:=I.lt
  rw[←z]at this
  exact absurd (Nat.lt_of_lt_of_le this h) (Nat.lt_irrefl _)
theorem Inv.track {o:HO} {h':Heap} {t':Nat} {D kS:Addr} (I:Inv X pins σ H s) (k:∀b u,b≠D→b≠kS→s.heap.get? b=some u→h'.get? b=some u) (hD:H D=none) (hk:H kS=none) (fD:Fre X pins D) (fk:Fre X pins kS)
  (new:ObjOk X.prog X.w (upd H D o) h' D o):Inv X pins σ (upd H D o) {s with heap:=h',toks:=t'}:=by
 have nD:∀b u,H b=some u→b≠D:=fun b u e z=>by rw[z,hD]at e;cases e
 have nk:∀b u,H b=some u→b≠kS:=fun b u e z=>by rw[z,hk]at e;cases e
 have c1:∀{b:Addr},b∉[D,kS]→b≠D:=fun hc z=>hc (by simp[z])
 have c2:∀{b:Addr},b∉[D,kS]→b≠kS:=fun hc z=>hc (by simp[z])
 refine I.step (g':=s.gens) (d':=s.drawn) (ch:=[D,kS]) (fun b hb=>?_) (fun b o _ _ hc e _=>k b o (c1 hc) (c2 hc) e) (fun b o _ _ hc e _=>⟨o.slots,k b o (c1 hc) (c2 hc) e⟩) (fun b o hc e n=>by rw[jal (c1 hc)];exact n)
  (fun b o hc e=>⟨o,k b o (c1 hc) (c2 hc) e⟩) (fun b xs e=>by rw[jal (nD b _ e)];exact e) (fun b o u e=>by rw[jal (nD b _ e)];exact e) (fun b ps e=>⟨#[],by rw[jal (nD b _ e),e];simp⟩) (fun m hm=>?_) (fun b u e=>?_) I.bare
 ·have:b=D∨b=kS:=by simpa using hb
  rcases this with rfl | rfl
  ·exact⟨.inr fD.sz,fD.loc,fD.cells,fD.pins⟩
  ·exact⟨.inr fk.sz,fk.loc,fk.cells,fk.pins⟩
 ·obtain⟨o,es,ep,ho,r⟩:=hm
  exact⟨o,es,ep,k _ o (Ne.symm fD.loc) (Ne.symm fk.loc) ho,r⟩
 ·by_cases hb:b=D
  ·subst hb
   rw[jar]at e
   cases e
   exact new
  ·rw[jal hb]at e
   refine(I.hok b u e).stay (fun c v hc q=>k c v ?_ ?_ q) (fun c q=>by rw[jal (nD c _ q)];exact q) fun c xs q=>by rw[jal (nD c _ q)];exact q
   ·rcases hc with z | z
    ·rw[z];exact hb
    ·exact nD c _ z
   ·rcases hc with z | z
    ·rw[z];exact nk b u e
    ·exact nk c _ z
theorem jt2 (I:Inv X pins σ H s) {ds:List PyData}:∀{ks:List V} {us:List Value},RdAll X.K H ks ds→Vals ks us→us.length=ds.length∧∀(i:Nat) (u:Value),us[i]?=some u→∃d as,ds[i]?=some d∧Reads s.heap u d as:=by
 induction ds with
 |nil=>intro ks us h v;cases h;cases v;exact⟨rfl,fun i u e=>by simp at e⟩
 |cons d ds ih =>
  intro ks us h v
  cases h with
  |cons r rs =>
   cases v with
   |@cons _ u _ _ q qs =>
    obtain⟨l,at'⟩:=ih rs qs
    refine⟨by simp[l],fun i v e=>?_⟩
    cases i with
    |zero =>
     obtain⟨as,R⟩:=RdD.reads I r q
     cases(show u=v by simpa using e)
     exact⟨d,as,rfl,R⟩
    |succ i=>simpa using at' i v (by simpa using e)
theorem jo4 (I:Inv X pins σ H s) {ds:List (List PyData)}:∀{ks:List V} {us:List Value},RdAll X.K H ks (ds.map PyData.tuple)→Vals ks us→(∀d∈ds,∃y r,d=PyData.tuple y::r) →
  ∃fs,KatTups s.heap us fs∧fs.length=us.length∧∀v∈fs,Looks (model X.prog X.w) s.heap (typeOf v) (Value.type "tuple"):=by
 induction ds with
 |nil=>intro ks us h v _;cases h;cases v;exact⟨[],trivial,rfl,fun v hv=>nomatch hv⟩
 |cons d ds ih =>
  intro ks us h v hd
  cases h with
  |cons r rs =>
   cases v with
   |@cons _ u _ _ q qs =>
    obtain⟨fs,f1,f2,f3⟩:=ih rs qs fun d hd'=>hd d (List.mem_cons_of_mem _ hd')
    obtain⟨y,rr,rfl⟩:=hd d List.mem_cons_self
    obtain⟨as,R⟩:=RdD.reads I r q
    cases R with
    |tuple h1 h2 h3 h4 =>
     rename_i a' ob vs n
     obtain⟨v,vr,ev⟩:∃v vr,vs.toList=v::vr:=by
      cases ev:vs.toList with
      |nil=>rw[ev]at h4;cases h4
      |cons v vr=>exact⟨v,vr,rfl⟩
     rw[ev]at h4
     have hv0:vs[0]?=some v:=by
      rw[←Array.getElem?_toList,ev]
      rfl
     cases h4 with
     |cons hv hr' =>
      refine⟨v::fs,.cons h1 h2 h3 hv0 f1,by simp[f2],fun x hx=>?_⟩
      rcases List.mem_cons.mp hx with rfl | z
      ·cases hv with
       |tuple g1 g2 g3 g4 =>
        rw[←g2]
        exact(Looks.ld g1).andThen .now
      ·exact f3 x z
end
theorem jp0 {xs:List V} {vs:List Value} (h:Vals xs vs):∀{j:Nat} {u:Value},vs[j]?=some u→∃x,xs[j]?=some x∧RelV x u:=by
 induction h with
 |nil=>intro j u e;simp at e
 |cons r _ ih =>
  intro j u e
  cases j with
  |zero=>cases(show _=u by simpa using e);exact⟨_,rfl,r⟩
  |succ j=>simpa using ih (by simpa using e)
theorem jlj {xs:List V} {vs:List Value} (h:Vals xs vs):∀(idx:List Nat),(∀i∈idx,i < vs.length)→Vals (idx.map fun i=>xs.getD i .non) (idx.map fun i=>vs.getD i Value.none)
 |[],_=>.nil
 |i::r,hi=>by
  have h1:=hi i List.mem_cons_self
  obtain⟨x,e,q⟩:=jp0 h (List.getElem?_eq_getElem h1)
  refine .cons ?_ (jlj h r fun j hj=>hi j (List.mem_cons_of_mem _ hj))
  have e1:xs.getD i .non=x:=by simp[e]
  have e2:vs.getD i Value.none=vs[i]:=by simp[h1]
  show RelV (xs.getD i .non) (vs.getD i Value.none)
  rw[e1,e2]
  exact q
section
variable {X:Cx} {pins:List (Addr×Obj)} {σ:St} {H:Hp} {s:Shared} {k:Nat} {f:Addr} {fd:FuncData} {ps:List Str} {sp:Sp}
theorem jww {a kS:Addr} {e1:Nat} {xs:List V} {vs:List Value} {QK:List V→Hp→Prop} {P:PySem.Fin→Shared→Prop} {E:Value→Shared→Prop} (F:FnOk X.prog X.w X.K X.mg X.base CX0 k f fd ps sp) (hr:Room (k+2) X.A) (hb:Binds X.K fd ps []) (h64:vs.length < 64) (hv:Vals xs vs) (hka:kS≠a) (fk:Fre X pins kS)
  (I:Inv X ((kS,seqObj "list" #[] 0)::(a,seqObj "list" #[] e1)::pins) σ H s) (q:jny sp xs H QK)
  (fin:∀ks us e H1 s1,Inv X ((kS,seqObj "list" us.toArray e)::(a,seqObj "list" #[] e1)::pins) σ H1 s1→Vals ks us→us.length=vs.length→QK ks H1→wpAny (model X.prog X.w) X.A.in1.in1 (ksk_end a false vs.toArray e1 (.ref kS) us.toArray) P E s1) :
  wpAny (model X.prog X.w) X.A.in1.in1 (ksk_rest a (.ref f) false vs.toArray e1 (.ref kS)) P E s:=by
 have hlx:xs.length=vs.length:=hv.length
 unfold ksk_rest
 refine wpAny_bind (wpAny_rule ?_)
 first
  |rw[List.forIn_toArray]
  | (rw[←Array.forIn_toList];simp only[List.toList_toArray])
 refine wpAny_bind (ksk_fold (fun i s'=>∃us e H' ks,Inv X ((kS,seqObj "list" us.toArray e)::(a,seqObj "list" #[] e1)::pins) σ H' s'∧us.length=i∧Vals ks us∧jny sp (xs.drop i) H' (fun ks' H''=>QK (ks++ks') H'')) vs 0 s
  ⟨[],0,H,[],I,rfl,.nil,by simpa using q⟩ ?step ?done)
 case step =>
  rintro j u s' hu ⟨us,e,H',ks,I',hl,hvs,hq⟩
  simp only[Nat.zero_add]at hl hq ⊢
  have hj:j < vs.length:=(List.getElem?_eq_some_iff.mp hu).1
  obtain⟨x,hx,rx⟩:=jp0 hv hu
  have ed:xs.drop j=x::xs.drop (j+1):=by
   have hj':j < xs.length:=by omega
   rw[List.drop_eq_getElem_cons hj']
   rw[List.getElem?_eq_getElem hj']at hx
   rw[Option.some.inj hx]
  rw[ed]at hq
  refine wpAny_bind (wpAny_attempt (wpAny_mono (jwy F hr hb I' rx hq) (fun v s'' he=>?_) fun _ _ hF=>hF.elim))
  obtain⟨kv,H2,I2,rk,q2⟩:=he
  dsimp only
  have nk:=I2.pin (kS,seqObj "list" us.toArray e) (List.mem_append_right _ (.head _))
  have s1:=Heap.SameBut.update s''.heap kS (Obj.mapSeq (·.push v))
  obtain⟨c2,hc2⟩:∃c2,(s''.heap.update kS (Obj.mapSeq (·.push v))).get? kS=some (seqObj "list" (us++[v]).toArray c2):=by
   have h:=get?_update_seq nk.1 (·.push v)
   rw[show us.toArray.push v=(us++[v]).toArray by simp]at h
   exact⟨_,h⟩
  refine wpAny_bind (listUpdate_at nk.1 rfl ?_ (by rw[List.size_toArray,sizeLine_eq];omega) (by rw[Array.size_push,List.size_toArray,sizeLine_eq];omega))
  have I3:Inv X ((a,seqObj "list" #[] e1)::pins) σ H2 s'':=I2.pins_of fun p hp=>I2.pin p (List.mem_append_right _ (.tail _ hp))
  have I4:Inv X ((a,seqObj "list" #[] e1)::pins) σ H2 {s'' with heap:=s''.heap.update kS (Obj.mapSeq (·.push v))}:=by
   refine I3.turned (t':=s''.toks) (fun b o hb q=>(s1.2 b hb).trans q) nk.2.1 fk.loc (.inr fk.sz) fk.cells fun p hp=>?_
   rcases List.mem_append.mp hp with z | z
   ·exact fk.pins p (List.mem_append_left _ z)
   ·rcases List.mem_cons.mp z with rfl | z
    ·exact hka.symm
    ·exact fk.pins p (List.mem_append_right _ z)
  refine wpAny_pure ⟨rfl,us++[v],c2,H2,ks++[kv],?_,by simp[hl],hvs.append (.cons rk .nil),?_⟩
  ·refine I4.pins_of fun p hp=>?_
   rcases List.mem_cons.mp hp with rfl | hp
   ·exact⟨hc2,nk.2.1,fk.loc,fk.fs,fun v z=>nomatch z⟩
   ·exact I4.pin p (List.mem_append_right _ hp)
  ·have:(fun ks' H''=>QK (ks++[kv]++ks') H'')=fun ks' H''=>QK (ks++kv::ks') H'':=by funext ks' H'';simp
   rw[this]
   exact q2
 case done =>
  rintro s' ⟨us,e,H',ks,I',hl,hvs,hq⟩
  have hd:xs.drop (0+vs.length)=[]:=List.drop_of_length_le (by omega)
  rw[hd]at hq
  have nk:=I'.pin (kS,seqObj "list" us.toArray e) (List.mem_append_right _ (.head _))
  refine wpAny_bind (listItems_at nk.1 rfl ?_)
  exact fin ks us e H' s' I' hvs (by omega) (by have hq:QK (ks++[]) H':=hq;simpa using hq)
theorem jme {qs:List RowP}:∀{es:List DictEntry},(∀e∈es,∃p∈qs,e.key=.ref p.2.1)→∃xs:List V,Vals xs (es.map (·.key))∧∀v∈xs,∃p∈qs,v=V.ref p.2.1
 |[],_=>⟨[],.nil,fun v hv=>by simp at hv⟩
 |e::r,h=>by
  obtain⟨p,hp,ek⟩:=h e List.mem_cons_self
  obtain⟨xs,rv,hx⟩:=jme fun x hx=>h x (List.mem_cons_of_mem _ hx)
  exact⟨.ref p.2.1::xs,.cons ek rv,fun v hv=>(List.mem_cons.mp hv).elim (fun z=>⟨p,hp,z⟩) (hx v)⟩
theorem jjq {Q:VK} {xs:List V} {vs:List Value} (F:FnOk X.prog X.w X.K X.mg X.base CX0 k f fd ps sp) (hr:Room (k+2) X.A) (hb:Binds X.K fd ps []) (I:Inv X pins σ H s) (rv:Vals xs vs) (h64:xs.length < 64) (q:jny sp xs H (jq8 X.K xs Q)) :
  wpAny (model X.prog X.w) X.A.in1.in1 (ksk_tree s.heap.objs.size (.ref f) false) (fun f s2=>f=.done (.ret .none)∧EP X pins σ Q (.ref s.heap.objs.size) s2) X.xe {s with heap:=s.heap.push (seqObj "list" vs.toArray 0)}:=by
 have hlen:vs.length=xs.length:=rv.length.symm
 refine jwv (s:={ s with heap:=s.heap.push (seqObj "list" vs.toArray 0)}) (Heap.get?_push_size _ rfl) (by omega) fun h3 e1 k3 ha3 hz3=>?_
 have hp1:(s.heap.push (seqObj "list" vs.toArray 0)).objs.size=s.heap.objs.size+1:=size_push' ..
 have hz3':(s.heap.push (seqObj "list" vs.toArray 0)).objs.size≤h3.objs.size:=hz3
 have hDk:s.heap.objs.size < h3.objs.size:=by omega
 have keep:∀b u,s.heap.get? b=some u→(h3.push (seqObj "list" #[] 0)).get? b=some u:=fun b u e =>
  Heap.get?_push_of_some _ (k3 b u (Nat.ne_of_lt (Heap.lt_size e)) (Heap.get?_push_of_some _ e))
 have fD:=I.fre (Nat.le_refl _)
 have fk:=I.fre (b:=h3.objs.size) (by omega)
 have I1:Inv X pins σ H {s with heap:=h3.push (seqObj "list" #[] 0)}:=I.kept (t':=s.toks) keep
 have I2:Inv X ((h3.objs.size,seqObj "list" #[] 0)::(s.heap.objs.size,seqObj "list" #[] e1)::pins) σ H {s with heap:=h3.push (seqObj "list" #[] 0)}:=by
  refine I1.pins_of fun p hp=>?_
  rcases List.mem_cons.mp hp with rfl | hp
  ·exact⟨Heap.get?_push_size _ rfl,I.hok.fresh (by omega),fk.loc,fk.fs,fun v z=>nomatch z⟩
  ·rcases List.mem_cons.mp hp with rfl | hp
   ·exact⟨Heap.get?_push_of_some _ ha3,I.hok.fresh (Nat.le_refl _),fD.loc,fD.fs,fun v z=>nomatch z⟩
   ·exact I1.pin p (List.mem_append_right _ hp)
 refine jww (xs:=xs) F hr hb (by omega) rv (Nat.ne_of_gt hDk) fk I2 q ?_
 intro ks us e H1 s1 I3 hks hul hq
 obtain⟨ds,lt,hdl,hrd,⟨hds,hlt⟩,kq⟩:=hq
 have nk:=I3.pin (h3.objs.size,seqObj "list" us.toArray e) (List.mem_append_right _ (.head _))
 have na:=I3.pin (s.heap.objs.size,seqObj "list" #[] e1) (List.mem_append_right _ (.tail _ (.head _)))
 obtain⟨hul2,hat⟩:=jt2 I3 hrd hks
 refine jyr (lt:=lt) nk.1 na.1 (Nat.ne_of_gt hDk) hul (by omega) (fun h2=>?_) (fun i j hi hj C hC=>?_) fun idx h4 tk c hidx k4 hL=>⟨rfl,?_⟩
 ·obtain⟨fs,f1,f2,f3⟩:=jo4 I3 hrd hks fun d hd=>(hds d hd).1
  exact⟨fs,f1,by omega,f3⟩
 ·unfold kas_ask
  have hi':i < us.length:=by omega
  have hj':j < us.length:=by omega
  have g1:us.getD i Value.none=us[i]:=by simp[hi']
  have g2:us.getD j Value.none=us[j]:=by simp[hj']
  rw[g1,g2]
  obtain⟨d1,as1,e1',R1⟩:=hat i us[i] (List.getElem?_eq_getElem hi')
  obtain⟨d2,as2,e2',R2⟩:=hat j us[j] (List.getElem?_eq_getElem hj')
  rw[List.getElem?_map,Option.map_eq_some_iff]at e1' e2'
  obtain⟨x1,y1,rfl⟩:=e1'
  obtain⟨x2,y2,rfl⟩:=e2'
  have lt12:=hlt i j x1 x2 y1 y2
  obtain⟨_,c1,c1'⟩:=hds x1 (List.mem_of_getElem? y1)
  obtain⟨_,c2,c2'⟩:=hds x2 (List.mem_of_getElem? y2)
  generalize us[i]=u1 at R1 ⊢
  generalize us[j]=u2 at R2 ⊢
  cases R1 with
  |tuple h1 h2 h3 h4 =>
   cases R2 with
   |tuple g1 g2 g3 g4 =>
    refine kat_lt h1 h3 g1 g3 ?_
    rename_i o1 vs1 n1 a2 o2 vs2 n2
    have hsz:decide (vs1.size < vs2.size)=decide (x1.length < x2.length):=by
     have e1:=ReadsAll.length _ _ _ h4
     have e2:=ReadsAll.length _ _ _ g4
     rw[Array.length_toList]at e1 e2
     rw[e1,e2]
    rw[hsz]
    exact jsa (jfl x1 x2 _ _ _ _ _ _ _ _ h4 g4 c1 c2 (by have:=hr.units;show X.A.units+1+1+_+_ < _;omega) lt12 0 (by simp)) hC
 ·have I4:Inv X pins σ H1 s1:=I3.pins_of fun p hp=>I3.pin p (List.mem_append_right _ (.tail _ (.tail _ hp)))
  refine⟨.ref s.heap.objs.size,_,I4.track (o:=.lst (idx.map fun i=>xs.getD i .non)) (t':=tk) k4 na.2.1 nk.2.1 fD fk ⟨?_,_,c,jlj rv idx fun i hi=>List.mem_range.mp (hidx.mem_iff.mp hi),hL⟩,rfl,kq _ na.2.1 idx (by rw[←hlen];exact hidx)⟩
  rw[List.length_map,hidx.length_eq,List.length_range,sizeLine_eq]
  omega
theorem jpq {Q:VK} {x:V} {u:Value} (F:FnOk X.prog X.w X.K X.mg X.base CX0 k f fd ps sp) (hr:Room (k+2) X.A) (hb:Binds X.K fd ps []) (I:Inv X pins σ H s) (r:RelV x u) (h:jq7 X.K sp x H Q) :
  wpAny (model X.prog X.w) X.A (call (.builtin "sorted") [u] [(Str.ofString "key",.ref f)]) (EP X pins σ Q) X.xe s:=by
 rcases h with⟨a,xs,rfl,hs,h64,q⟩ | ⟨d,qs,rfl,hd,h64,q⟩
 ·obtain rfl:u=Value.ref a:=r
  obtain⟨its,rv,z,col⟩:=I.collects hs
  refine jjo (R:=fun vs s1=>vs=its∧Inv X pins σ H s1) (col _ _ _ fun h' k1 k2=>⟨rfl,I.kept (t':=s.toks) k1⟩) ?_
  rintro vs s1 ⟨rfl,I1⟩
  exact⟨by rw[←rv.length];exact z,jjq F hr hb I1 rv h64 q⟩
 ·obtain rfl:u=Value.ref d:=r
  obtain⟨⟨hsys,es,ep,hD,hz,hk⟩,_,_⟩:=(show ObjOk X.prog X.w H s.heap d (jlz d qs)from I.hok d _ hd)
  have hh:X.A.in1.handled=none:=hr.hd
  obtain⟨xs,rv,hxq⟩:=jme hk
  have hxl:xs.length=es.size:=by rw[show xs.length=(es.toList.map (·.key)).length from rv.length,List.length_map,Array.length_toList]
  refine jjo (R:=fun vs s1=>vs=es.toList.map (·.key)∧Inv X pins σ H s1) (kdu_collect (j0m (es:=es) (ep:=ep) hsys) hh hD (by rw[sizeLine_eq];omega) fun h' tk acc hk hI=>⟨?_,I.kept hk⟩) ?_
  ·apply List.ext_getElem?
   intro j
   by_cases hj:j < es.size
   ·have hja:j < acc.toList.length:=by rw[Array.length_toList,hI.1];exact hj
    have this:(es[j]?).map (·.key)=some (acc.toList[j]):=hI.2 j (acc.toList[j]) (by rw[←Array.getElem?_toList,List.getElem?_eq_getElem hja])
    rw[List.getElem?_eq_getElem hja,List.getElem?_map,Array.getElem?_toList,this]
   ·rw[List.getElem?_eq_none (by rw[Array.length_toList,hI.1];omega),List.getElem?_eq_none (by rw[List.length_map,Array.length_toList];omega)]
  rintro vs s1 ⟨rfl,I1⟩
  exact⟨by rw[List.length_map,Array.length_toList,sizeLine_eq];omega,jjq F hr hb I1 rv (by omega) (q xs (by omega) hxq)⟩
theorem juc {o:Expr} {td:TE} {x:Str} {pp pos kp kpos:Pos} (F:FnOk X.prog X.w X.K X.mg X.base CX0 k f fd ps sp) (hr:Room (k+2) X.A) (hb:Binds X.K fd ps []) (hg:Gl X "sorted") (hm:X.mg "sorted"=none) (hgf:Gl X x) (hmf:X.mg x=some (.ref f)) (ho:PE X o td)
  (hv:bootBuiltins "sorted"=some (.builtin "sorted"):=by decide +kernel) (hdb:(x==("__debug__":Str))=false:=by decide) (he:starEach [o] X.env=(false,eval o X.env)::starEach [] X.env:=by rfl) :
  PE X (.Call (.Name "sorted" pp) [o] [⟨some "key",.Name x kp,kpos⟩] pos) (jvi X.K sp td):=by
 intro pins s σ H Q I h
 refine wpAny_Call_Name_kw (jj4 I hg hm hv ?_ (by decide) (by decide))
 refine callWith_kw (thn ((ja4 ho jb6 he) pos pins s σ H (fun vs H1=>match vs with | [x]=>jq7 X.K sp x H1 Q | _=>False) I ?_) fun us s1 ⟨vs,H1,I1,r,q⟩=>?_) (by rw[he];rfl) (by rw[he];rfl)
 ·exact h
 ·match vs,q with
  |[],q=>exact q.elim
  |_::_::_,q=>exact q.elim
  |[v],q =>
  obtain⟨u,rfl,ru⟩:=jee r
  refine kws_cons (jr6 I1 hgf hmf (kws_nil ?_) hdb)
  exact jpq F hr hb I1 ru q
end
section
variable {X:Cx}
end
end L2
namespace DL
open PySem L2 Nb
section
variable {X:Cx} {a b c e o i f:Expr} {ta tb te td ty tx:TE} {wa wb we wd' wy wx:DT} {pos p:Pos} {K:PySem.W.Frag}
theorem jog {S:DSp} {C:Ctx} {B:Addr→Prop} {σ:St} {δ:Sl} {n:Int}:∀{vs:List V} {xs:List PyData} {ds:List (List PyData)} {H:Hp} {QK:List V→Hp→Prop},RdXs H B vs xs→ds.length=xs.length→Rel C H B σ δ n →
  (∀(i:Nat) x d,xs[i]?=some x→ds[i]?=some d→∀m (Q0:DQ),Q0 (.d (.tuple d)) m→S [.d x] m Q0) →
  (∀ks H2,Rel C H2 B σ δ n→Kp C.t H H2→RdXs H2 B ks (ds.map PyData.tuple)→QK ks H2)→jny (spOf S) vs H QK
 |[],_,ds,H,QK,.nil,hl,R,_,k=>by
  cases ds with
  |nil=>exact k [] H R (Kp.refl _ _) .nil
  |cons _ _=>cases hl
 |v::vs,x::xs,ds,H,QK,.cons r rs,hl,R,hS,k=>by
  cases ds with
  |nil=>cases hl
  |cons d ds =>
   refine⟨C.t,C.l,C.ns,B,[.d x],n,fun w m=>w=.d (.tuple d)∧m=n,R.tp,R.bt,R.ba,.cons r .nil,hS 0 x d rfl rfl n _ ⟨rfl,rfl⟩,?_⟩
   rintro w n' ⟨rfl,rfl⟩ v' H' T' k' r'
   have R':=R.step T' k'
   refine jog (RdXs.kp k' R.bt rs) (by simpa using hl) R' (fun i y z e1 e2=>hS (i+1) y z (by simpa using e1) (by simpa using e2)) fun ks H2 R2 k2 r2=>k _ H2 R2 (k'.trans k2) (.cons ?_ r2)
   have r'':WRel H' B C.t v' (.d (.tuple d)):=r'
   exact WRel.kp k2 R.bt r''
theorem jq6 {H:Hp} {B:Addr→Prop} {vs:List V} {xs:List PyData} (h:RdXs H B vs xs):∀(idx:List Nat),(∀i∈idx,i < xs.length)→RdXs H B (idx.map fun i=>vs.getD i .non) (idx.map fun i=>xs.getD i .none)
 |[],_=>.nil
 |i::r,hi=>by
  have h1:=hi i List.mem_cons_self
  obtain⟨v,e,q⟩:=h.getD (List.getElem?_eq_getElem h1)
  refine .cons ?_ (jq6 h r fun j hj=>hi j (List.mem_cons_of_mem _ hj))
  have e1:vs.getD i .non=v:=by simp[e]
  have e2:xs.getD i .none=xs[i]:=by simp[h1]
  show RdX H B (vs.getD i .non) (xs.getD i .none)
  rw[e1,e2]
  exact q
end
end DL
namespace L2
open PySem PySem.Spec PyProof.Rows PySem.SeqAt PySem.W
section
variable {X:Cx}
end
end L2
namespace DL
open PySem L2 Nb
section
variable {X:Cx} {a b c e o i f:Expr} {ta tb te td ty tx:TE} {wa wb we wd' wy wx:DT} {pos p:Pos} {K:PySem.W.Frag}
end
section
variable {X:Cx} {o:Expr} {td:TE} {wd':DT} {pos p p2:Pos} {K:PySem.W.Frag}
noncomputable def vD:Key→PyData
 |.inl i=>.int i
 |.inr x=>.str x
noncomputable def rowD (k:List Key):PyData:=.tuple (k.map vD)
noncomputable def jnq (S:DSp) (w:DT):DTF:=fun δ n Q=>w δ n fun x n1=>∃(ps:List (List Key×PyData)) (kf:List Key→List PyData),x=.d (.tuple (ps.map fun p=>.tuple [rowD p.1,p.2]))∧ps.length < 64 ∧
 (∀p∈ps,∀(m:Int) (Q0:DQ),Q0 (.d (.tuple (kf p.1))) m→S [.d (rowD p.1)] m Q0)∧(∀ks:List (List Key),(∀k∈ks,k∈ps.map (·.1))→∃lt,jtk (ks.map kf) lt) ∧
 ∀out:List (List Key),out.length≤ps.length→(∀k∈out,k∈ps.map (·.1))→Q (out.map rowD) n1
theorem jy0 {H:Hp} {B:Addr→Prop} {k:List Key}:∀{vs:List V},RdXs H B vs (k.map vD)→vs=k.map kV:=by
 induction k with
 |nil=>intro vs h;cases h;rfl
 |cons x k ih =>
  intro vs h
  cases h with
  |cons h t =>
   rw[ih t]
   cases x with
   |inl i=>cases(show RdX H B _ (.int i)from h);rfl
   |inr x=>cases(show RdX H B _ (.str x)from h);rfl
theorem jtz {H:Hp} {B:Addr→Prop} {ps:List (List Key×PyData)}:∀{vs:List V},RdXs H B vs (ps.map fun p=>.tuple [rowD p.1,p.2])→∃qs:List RowP,vs=qs.map (fun q=>V.ref q.1)∧jir H qs∧qs.length=ps.length∧∀q∈qs,q.2.2.1∈ps.map (·.1)∧RdX H B (.ref q.2.1) (rowD q.2.2.1):=by
 induction ps with
 |nil=>intro vs h;cases h;exact⟨[],rfl,fun q hq=>by simp at hq,rfl,fun q hq=>by simp at hq⟩
 |cons p ps ih =>
  intro vs h
  cases h with
  |cons h t =>
   obtain⟨qs,rfl,h1,h2,h3⟩:=ih t
   cases(show RdX H B _ (.tuple [rowD p.1,p.2])from h)with
   |@tup a ys _ e1 e2 e3 e4 =>
    cases e4 with
    |@cons y1 r1 _ _ f1 f2 =>
     cases f2 with
     |@cons y2 r2 _ _ g1 g2 =>
      cases g2
      have f1':=f1
      cases(show RdX H B y1 (.tuple (p.1.map vD))from f1)with
      |@tup b zs _ i1 i2 i3 i4 =>
       have ez:=jy0 i4
       subst ez
       refine⟨(a,b,p.1,y2)::qs,rfl,fun q hq=>?_,by rw[List.length_cons,List.length_cons,h2],fun q hq=>?_⟩
       ·rcases List.mem_cons.mp hq with rfl | hq
        ·exact⟨e1,i1⟩
        ·exact h1 q hq
       ·rcases List.mem_cons.mp hq with rfl | hq
        ·exact⟨List.mem_cons_self,f1'⟩
        ·exact⟨List.mem_cons_of_mem _ (h3 q hq).1,(h3 q hq).2⟩
theorem j1g {H:Hp} {B:Addr→Prop} {qs:List RowP} {L:List (List Key)} (h:∀q∈qs,q.2.2.1∈L∧RdX H B (.ref q.2.1) (rowD q.2.2.1)) {xs:List V}:(∀v∈xs,∃q∈qs,v=V.ref q.2.1)→∃ks:List (List Key),RdXs H B xs (ks.map rowD)∧∀k∈ks,k∈L:=by
 induction xs with
 |nil=>intro _;exact⟨[],.nil,fun k hk=>by simp at hk⟩
 |cons v xs ih =>
  intro hx
  obtain⟨q,hq,rfl⟩:=hx v List.mem_cons_self
  obtain⟨ks,r,hk⟩:=ih fun w hw=>hx w (List.mem_cons_of_mem _ hw)
  exact⟨q.2.2.1::ks,.cons (h q hq).2 r,fun k z=>(List.mem_cons.mp z).elim (fun e=>e▸(h q hq).1) (hk k)⟩
theorem ju0 {S:DSp} {k:Nat} {ps:List Str} {x:Str} {kp kpos dp dpos:Pos} (h:Has X.prog X.w X.K X.mg X.base k x ps S) (hr:Room (k+2) X.A) (hg:Gl X "sorted") (hm:X.mg "sorted"=none) (hgf:Gl X x) (hg2:Gl X "dict") (hm2:X.mg "dict"=none) (ho:DE X o td wd')
  (hv:bootBuiltins "sorted"=some (.builtin "sorted"):=by decide +kernel) (hv2:bootBuiltins "dict"=some (.type "dict"):=by decide +kernel) (hdb:(x==("__debug__":Str))=false:=by decide) (he:starEach [.Call (.Name "dict" dp) [o] [] dpos] X.env=(false,eval (.Call (.Name "dict" dp) [o] [] dpos) X.env)::starEach [] X.env:=by rfl)
  (he':starEach [o] X.env=(false,eval o X.env)::starEach [] X.env:=by rfl) (hpl:(backTo dpos (starEach [] X.env)).any (·.1)=false:=by rfl) :
  DF X (.Call (.Name "sorted" p) [.Call (.Name "dict" dp) [o] [] dpos] [⟨some "key",.Name x kp,kpos⟩] pos) (jvi X.K (spOf S) (tCB (fun xs H Q=>∃(src:Addr) (ps:List RowP),xs=[.ref src]∧H src=some (.tup (ps.map fun p=>V.ref p.1))∧jir H ps∧ps.length≤1000 ∧
  ∀l,H l=none→Q (.ref l) (L2.upd H l (jlz l ps))) (jds td tNil))) (jnq S wd'):=by
 obtain⟨f,fd,h1,h2,h3,h4⟩:=h.ex
 refine⟨juc h1 hr h2 hg hm hgf h3 (jeg (jpu hr.hd (by have:=hr.units;omega)) hg2 hm2 hv2 (ja4 ho.pe jb6 he') (by decide) (by decide) he' hpl) hv hdb he,fun C H B σ δ n Q Q' R q kk=>ho.sd C H B σ δ n _ _ R q fun v x H1 n1 R1 k1 r1 q1=>?_⟩
 obtain⟨ps,kf,rfl,h64,hS,hO,kq⟩:=q1
 cases(show RdX H1 B v (.tuple (ps.map fun p=>.tuple [rowD p.1,p.2]))from r1)with
 |@tup a ys _ g1 g2 g3 g4 =>
  obtain⟨qs,rfl,hP,hql,hqr⟩:=jtz g4
  refine⟨a,qs,rfl,g1,hP,by omega,fun l hl=>?_⟩
  have R1':=R1.new (o:=jlz l qs) hl
  have k1':=k1.trans (Kp.new (t:=C.t) (o:=jlz l qs) hl)
  have hqr':∀q∈qs,q.2.2.1∈ps.map (·.1)∧RdX (upd H1 l (jlz l qs)) B (.ref q.2.1) (rowD q.2.2.1):=fun q hq=>⟨(hqr q hq).1,((hqr q hq).2.kp (Kp.new (t:=C.t) hl) R.bt)⟩
  refine .inr ⟨l,qs,rfl,jar,by omega,fun xs hxl hxq=>?_⟩
  obtain⟨ks,rk,hkm⟩:=j1g hqr' hxq
  have hkl:=rk.len
  rw[List.length_map]at hkl
  obtain⟨lt,hlt⟩:=hO ks hkm
  refine jog (ds:=ks.map kf) rk (by rw[List.length_map,List.length_map]) R1' (fun i x d e1 e2 m Q0 q0=>?_) fun kvs H2 R2 k2 r2=>⟨ks.map kf,lt,by rw[List.length_map];omega,r2.rd,hlt,fun D hD idx hidx=>?_⟩
  ·rw[List.getElem?_map,Option.map_eq_some_iff]at e1 e2
   obtain⟨k,e1,rfl⟩:=e1
   obtain⟨k',e2,rfl⟩:=e2
   rw[e1]at e2
   cases e2
   obtain⟨pp,hpp,rfl⟩:=List.mem_map.mp (hkm _ (List.mem_of_getElem? e1))
   exact hS pp hpp m Q0 q0
  ·rw[hkl]at hidx
   have hin:∀i∈idx,i < (ks.map rowD).length:=fun i hi=>by rw[List.length_map];exact List.mem_range.mp (hidx.mem_iff.mp hi)
   have eo:(idx.map fun i=>(ks.map rowD).getD i .none)=(idx.map fun i=>ks.getD i []).map rowD:=by
    rw[List.map_map]
    apply List.map_congr_left
    intro i hi
    have:=hin i hi
    rw[List.length_map]at this
    simp[this]
   refine kk D _ ((idx.map fun i=>ks.getD i []).map rowD) _ n1 (R2.new hD) ((k1'.trans k2).trans (Kp.new hD)) (R1'.was k1' (R2.was k2 hD)) jar ?_ ?_ (kq _ ?_ fun k hk=>?_)
   ·rw[List.length_map,hidx.length_eq,List.length_range]
    exact jbb (by omega)
   ·rw[←eo]
    exact(jq6 (RdXs.kp k2 R.bt rk) idx hin).fresh hD
   ·rw[List.length_map,hidx.length_eq,List.length_range]
    omega
   ·obtain⟨i,hi,rfl⟩:=List.mem_map.mp hk
    have hlt':=List.mem_range.mp (hidx.mem_iff.mp hi)
    have:ks.getD i []=ks[i]:=by simp[hlt']
    rw[this]
    exact hkm _ (List.getElem_mem hlt')
end
end DL
namespace HT
open PySem PyProof.Rows
section
variable {prog:Program} {w:World} {A:Around} {E:Value→Shared→Prop} {s:Shared}
end
end HT
namespace L2
open PySem PySem.Spec PyProof.Rows
section
variable {X:Cx} {e st:Expr} {te ts:TE} {pos p2:Pos}
end
end L2
namespace DL
open PySem L2 Nb
section
variable {X:Cx} {a b c e o i f:Expr} {ta tb te td ty tx:TE} {wa wb we wd' wy wx:DT} {pos p p2 p3 p4:Pos} {K:PySem.W.Frag}
end
end DL
namespace L2
open PySem PySem.Spec PyProof.Rows PySem.SeqAt
section
variable {X:Cx} {K:PySem.W.Frag}
end
end L2
namespace DL
open PySem L2 Nb
section
variable {X:Cx} {K:PySem.W.Frag}
end
end DL
namespace L2
open PySem PySem.Spec PyProof.Rows
section
variable {prog:Program} {w:World} {A:Around} {E:Value→Shared→Prop} {s:Shared}
end
end L2
namespace DL
open PySem L2 Nb
section
variable {X:Cx} {a b:Expr} {ta tb:TE} {wa wb:DT} {pos p:Pos} {K:PySem.W.Frag}
end
end DL
namespace L2
open PySem PySem.Spec PyProof.Rows
end L2
namespace DL
open PySem L2 Nb
section
variable {X:Cx} {a b:Expr} {ta tb:TE} {wa wb:DT} {pos p:Pos} {K:PySem.W.Frag}
end
end DL
namespace L2
open PySem PySem.Spec PyProof.Rows
section
variable {X:Cx}
end
section
variable {prog:Program} {w:World} {A:Around} {E:Value→Shared→Prop} {s:Shared}
end
section
variable {X:Cx} {pins:List (Addr×Obj)} {σ:St} {A:Around} {R:Result→Shared→Prop}
end
section
variable {prog:Program} {w:World} {A:Around} {E:Value→Shared→Prop} {s:Shared}
end
section
variable {prog:Program} {w:World} {A:Around} {E:Value→Shared→Prop} {s:Shared}
end
end L2
namespace DL
open PySem L2 Nb
section
variable {X:Cx} {a b c e o i f:Expr} {ta tb tc te td ty tx:TE} {wa wb wc we wd' wy wx:DT} {pos p p2 p3 p4:Pos} {K:PySem.W.Frag}
end
section
variable {X:Cx} {a b c e o i f:Expr} {ta tb tc te td ty tx:TE} {wa wb wc we wd' wy wx:DT} {pos p p2 p3 p4:Pos} {K:PySem.W.Frag}
end
end DL
namespace L2
open PySem PySem.Spec PyProof.Rows
end L2
namespace DL
open PySem L2 Nb
section
variable {X:Cx} {a b c e o i f:Expr} {ta tb tc te td ty tx:TE} {wa wb wc we wd' wy wx:DT} {pos p p2 p3 p4:Pos} {K:PySem.W.Frag}
end
end DL
namespace L2
open PySem PySem.Spec PyProof.Rows
theorem jo5 (bs:List Bool):((List.range bs.length).any fun i=>(bs[i]?).getD true)=bs.any id:=by
 apply Bool.eq_iff_iff.mpr
 rw[List.any_eq_true,List.any_eq_true]
 constructor
 ·rintro⟨i,hi,e⟩
  have hi':=List.mem_range.mp hi
  rw[List.getElem?_eq_getElem hi']at e
  exact⟨_,List.getElem_mem hi',e⟩
 ·rintro⟨b,hb,e⟩
  obtain⟨i,hi⟩:=List.mem_iff_getElem?.mp hb
  exact⟨i,List.mem_range.mpr (List.getElem?_eq_some_iff.mp hi).1,by rw[hi];exact e⟩
theorem jmz {X:Cx} (hh:X.A.handled=none):CallR X (.builtin "any") (fun xs H Q=>∃(p:Addr) (bs:List Bool),xs=[.ref p]∧H p=some (.lst (bs.map V.bl))∧Q (.bl (bs.any id)) H):=by
 intro pins s σ H xs us Q I r h
 obtain⟨p,bs,rfl,hp,q⟩:=h
 obtain⟨u,rfl,ru⟩:=jee r
 cases(show u=Value.ref p from ru)
 obtain⟨its,rv,pl,_⟩:=I.list (SqL.of (K:=X.K) hp)
 have hl:s.heap.IsList p its.toArray:=pl.isList
 have hlt:p < s.heap.objs.size:=by obtain⟨_,e,_⟩:=hl;exact Heap.lt_size e
 have hlen:bs.length=its.length:=by have:=rv.length;rwa [List.length_map]at this
 refine call_any_walk (wpAny_pyIter_list hl ?_)
 refine⟨s.heap.objs.size,[s.heap.objs.size,p],[s.heap.objs.size],its.toArray.size,_,_,fun i=>(bs[i]?).getD true,rfl,Walks.list (A:=X.A.in1) hh _ p (Nat.ne_of_lt hlt) its.toArray,
  ⟨⟨_,Heap.get?_push_size _ rfl,rfl,rfl⟩,hl.push _⟩,fun i v s' Q' E' hP hQ=>?_,fun h' tk hk=>?_⟩
 ·have hi:its[i]?=some v:=by simpa using hP
  have hib:i < bs.length:=by rw[hlen];exact(List.getElem?_eq_some_iff.mp hi).1
  have hx:(bs.map V.bl)[i]?=some (V.bl bs[i]):=by simp[hib]
  obtain⟨u,hu,ru⟩:=rv.get hx
  rw[hi]at hu
  cases(Option.some.inj hu)
  cases(show v=Value.bool bs[i]from ru)
  dsimp only at hQ
  rw[List.getElem?_eq_getElem hib,Option.getD_some]at hQ
  exact wpAny_truthy_bool hQ
 ·have e:((List.range its.toArray.size).any fun i=>(bs[i]?).getD true)=bs.any id:=by
   rw[List.size_toArray,←hlen]
   exact jo5 bs
  rw[e]
  refine⟨.bl (bs.any id),H,I.kept fun b x e=>hk b x (fun hm=>?_) (Heap.get?_push_of_some _ e),rfl,q⟩
  rw[List.mem_singleton.mp hm]at e
  exact Nat.lt_irrefl _ (Heap.lt_size e)
end L2
namespace DL
open PySem L2 Nb
noncomputable def gAny:List Wv→Int→DQ→Prop:=fun xs n Q=>match xs with
 |[.d (.list ds)]=>match jff ds with
  |some bs=>Q (.d (.bool (bs.any id))) n
  |none=>False
 |_=>False
theorem jqv:SndB (fun xs H Q=>∃(p:Addr) (bs:List Bool),xs=[.ref p]∧H p=some (.lst (bs.map V.bl))∧Q (.bl (bs.any id)) H) gAny:=fun C H B σ δ n vs xs Q Q' R r h k=>by
 unfold gAny at h
 split at h
 ·rename_i ds
  split at h
  ·rename_i bs e
   cases r with
   |cons r1 r2 =>
    cases r2
    cases(show RdX H B _ (.list ds)from r1)with
    |@lst ay ys _ e1 e2 e3 e4 =>
     exact⟨ay,bs,rfl,by rw[←jlb e4 e];exact e1,k _ _ H n R (Kp.refl _ _) (wd (.bl _)) h⟩
  ·exact h.elim
 ·exact h.elim
theorem jv5:bootBuiltins "any"=some (.builtin "any"):=by decide +kernel
end DL
namespace L2
open PySem PySem.Spec PyProof.Rows
section
variable {X:Cx} {e st:Expr} {te ts:TE} {pos p2:Pos}
noncomputable def jvm:List V→Hp→VK→Prop:=fun xs H Q=>∃b,xs=[.bl b]∧Q (.str (if b then "True" else "False")) H
theorem jj9:CallR X (.builtin "repr") jvm:=by
 intro pins s σ H xs us Q I r h
 obtain⟨b,rfl,q⟩:=h
 obtain⟨u,rfl,ru⟩:=jee r
 cases ru
 exact P.repr_of_bool ⟨.str _,H,I.tok _,⟨_,rfl⟩,q⟩
end
end L2
namespace DL
open PySem L2 Nb
section
variable {X:Cx} {e:Expr} {te:TE} {we:DT} {pos p p2 p3 p4:Pos} {K:PySem.W.Frag}
noncomputable def j2a (w:DT):DT:=fun δ n Q=>w δ n fun x n1=>match x with
 |.d (.list ds)=>Q (.d (.list ds.reverse)) n1
 |_=>False
noncomputable def jfc:List Wv→Int→DQ→Prop:=fun xs n Q=>match xs with
 |[.d (.bool b)]=>Q (.d (.str (if b then "True" else "False"))) n
 |_=>False
theorem jlr:SndB jvm jfc:=fun C H B σ δ n vs xs Q Q' R r h k=>by
 unfold jfc at h
 split at h
 ·rename_i b
  cases r with
  |cons r1 r2 =>
   cases r2
   cases(show RdX H B _ (.bool b)from r1)
   exact⟨b,rfl,k _ _ H n R (Kp.refl _ _) (wd (.str _ (by cases b<;>exact juo (by decide +kernel)))) h⟩
 ·exact h.elim
end
theorem jor {X:Cx} {a b:Expr} {ta tb:TE} {wa wb:DT} {pos:Pos} (ha:DE X a ta wa) (hb:DE X b tb wb):DE X (.BinOp a .Add b pos) (tOp (rI0 fun i j=>.int (i+j)) ta tb) (w2 wa wb (gI0 fun i j=>.int (i+j))):=d_op jl7 (jqq fun _ _ _ _=>.int _) ha hb
noncomputable def jnn:List PyData→Option (List Int)
 |[]=>some []
 |.int i::r=>(jnn r).map (i::·)
 |_::_=>none
theorem jsh {H:Hp} {B:Addr→Prop}:∀{vs:List V} {ds:List PyData} {ns:List Int},RdXs H B vs ds→jnn ds=some ns→vs=ns.map V.int
 |_,_,ns,.nil,e=>by cases e;rfl
 |_,d::r,ns,.cons h t,e=>by
  cases h with
  |int i =>
   have e:(jnn r).map (i::·)=some ns:=e
   cases q:jnn r with
   |none=>rw[q]at e;cases e
   |some ms=>rw[q]at e;cases e;rw[jsh t q];rfl
  |_=>cases e
noncomputable def gSum:List Wv→Int→DQ→Prop:=fun xs n Q=>match xs with
 |[.d (.list ds)]=>∃ns,jnn ds=some ns∧Q (.d (.int ns.sum)) n
 |_=>False
theorem jqp:SndB (fun xs H Q=>∃(p:Addr) (ns:List Int),xs=[.ref p]∧H p=some (.lst (ns.map V.int))∧Q (.int ns.sum) H) gSum:=fun C H B σ δ n vs xs Q Q' R r h k=>by
 unfold gSum at h
 split at h
 ·rename_i ds
  obtain⟨ns,e,h⟩:=h
  cases r with
  |cons r1 r2 =>
   cases r2
   cases(show RdX H B _ (.list ds)from r1)with
   |@lst ay ys _ e1 e2 e3 e4 =>
    exact⟨ay,ns,rfl,by rw[←jsh e4 e];exact e1,k _ _ H n R (Kp.refl _ _) (wd (.int _)) h⟩
 ·exact h.elim
noncomputable def jmg (w:DT):DTK:=fun δ n Q=>w δ n fun x n1=>x=.d (.tuple [])∧Q [] n1
theorem jsb {X:Cx} {e:Expr} {te:TE} {we:DT} {pos p:Pos} (hh:X.A.handled=none) (hu:X.A.units+64 < cLine) (hg:Gl X "dict") (hm:X.mg "dict"=none) (he:DE X e te we) (hv:bootBuiltins "dict"=some (.type "dict"):=by decide +kernel)
  (he':starEach [e] X.env=(false,eval e X.env)::starEach [] X.env:=by rfl) (hpl:(backTo pos (starEach [] X.env)).any (·.1)=false:=by rfl):DN X (.Call (.Name "dict" p) [e] [] pos) (tCB jvo (jds te tNil)) (jmg we) :=
 ⟨jeg (jpv hh (by omega)) hg hm hv (ja4 he.pe jb6 he') (by decide) (by decide) he' hpl,fun C H B σ δ n Q Q' R q k =>
  he.sd C H B σ δ n _ _ R q fun v x H1 n1 R1 k1 r1 q1=>by
   obtain⟨rfl,q1⟩:=q1
   cases(show RdX H1 B v (.tuple [])from r1)with
   |@tup a ys _ g1 g2 g3 g4 =>
    cases g4
    exact⟨a,rfl,g1,fun l hl0=>k l _ [] _ n1 (R1.new hl0) (k1.trans (Kp.new hl0)) (R1.was k1 hl0) jar (Nat.zero_le _) .nil q1⟩⟩
end DL
namespace Nb
open PySem L2 DL
theorem jmu {w:DT} {Q:List PyData→Int→Prop} {rest:Sl} (P:PyData→Prop) (f:PyData→PyData) (h:∀d n Q',P d→Q' (.d (f d)) n→w (some (.w (.d d))::rest) n Q'):∀(items acc:List PyData) (x:Option SV) (n:Int),(∀d∈items,P d)→Q (acc++items.map f) n→jcy (jai 0) cYes w Q items acc (x::rest) n
 |[],acc,x,n,hP,q=>by
  rw[List.map_nil,List.append_nil]at q
  exact q
 |d::r,acc,x,n,hP,q=>by
  simp only[jcy,jai,cYes,if_true,List.set_cons_zero]
  refine h d n _ (hP d List.mem_cons_self) ?_
  refine jmu P f h r (acc++[f d]) _ n (fun e he=>hP e (List.mem_cons_of_mem _ he)) ?_
  rw[List.append_assoc]
  exact q
theorem jdj {c:DTT} {w:DT} {Q:List PyData→Int→Prop} {rest:Sl} (P:PyData→Prop) (p:PyData→Bool) (f:PyData→PyData) (hp:∀d n Q',P d→Q' (p d) n→c (some (.w (.d d))::rest) n Q') (h:∀d n Q',P d→Q' (.d (f d)) n→w (some (.w (.d d))::rest) n Q') :
  ∀(items acc:List PyData) (x:Option SV) (n:Int),(∀d∈items,P d)→Q (acc++(items.filter p).map f) n→jcy (jai 0) c w Q items acc (x::rest) n
 |[],acc,x,n,hP,q=>by
  rw[List.filter_nil,List.map_nil,List.append_nil]at q
  exact q
 |d::r,acc,x,n,hP,q=>by
  simp only[jcy,jai,List.set_cons_zero]
  refine hp d n _ (hP d List.mem_cons_self) ?_
  cases e:p d with
  |true =>
   rw[if_pos rfl]
   refine h d n _ (hP d List.mem_cons_self) ?_
   refine jdj P p f hp h r (acc++[f d]) _ n (fun e he=>hP e (List.mem_cons_of_mem _ he)) ?_
   rw[List.filter_cons_of_pos e]at q
   rw[List.append_assoc]
   exact q
  |false =>
   rw[if_neg Bool.false_ne_true]
   refine jdj P p f hp h r acc _ n (fun e he=>hP e (List.mem_cons_of_mem _ he)) ?_
   rw[List.filter_cons_of_neg (by rw[e];exact Bool.false_ne_true)]at q
   exact q
noncomputable def okD:PyData→Bool
 |.str y=>!decide (y.cps.toList < ("a":Str).cps.toList)&&!decide (("z":Str).cps.toList < y.cps.toList)
 |_=>false
theorem jgj {α:Type} (f:α→Bool):∀l:List α,jff (l.map fun a=>.bool (f a))=some (l.map f)
 |[]=>rfl
 |a::r=>by
  show(jff (r.map fun a=>.bool (f a))).map _=_
  rw[jgj f r]
  rfl
theorem jow {α:Type} {xs:List α} {r:Int} (h0:0≤r) (h1:r < xs.length):∃v,atI xs r=some v∧v∈xs:=by
 obtain⟨j,rfl⟩:=Int.eq_ofNat_of_zero_le h0
 have hj:j < xs.length:=by omega
 exact⟨xs[j],jb1 (List.getElem?_eq_getElem hj),List.getElem_mem hj⟩
theorem jeh (d:PyData):isiB "str" d=match d with | .str _=>true | _=>false:=by cases d<;>rfl
theorem ifb {b:Bool} {A B:Prop} (h1:b=true→A) (h2:b=false→B):if b=true then A else B:=by
 cases b with
 |true=>rw[if_pos rfl];exact h1 rfl
 |false=>rw[if_neg Bool.false_ne_true];exact h2 rfl
theorem joo {n many:Int} {Q:DQ} (h:n < 2 ^ 40) (h0:0 < many) (h1:many < 1073741824) (k:∀r:Int,0≤r→r < many→Q (.d (.int r)) (n+1)):jau [.tp,.d (.int many)] n Q:=⟨⟨h,h0,h1⟩,k⟩
theorem jfz {ds:List PyData} {r:Int} {n:Int} {Q:DQ} (h0:0≤r) (h1:r < (ds.length:Int)) (k:∀d∈ds,Q (.d d) n):gIx (.d (.list ds)) (.d (.int r)) n Q:=by
 obtain⟨v,hv,hm⟩:=jow h0 h1
 show match atI ds r with | some d=>Q (.d d) n | none=>False
 simp only[hv]
 exact k v hm
theorem js5 {w:DT} {Q:List PyData→Int→Prop} {rest:Sl} (c:Nat) (h:∀d n Q',n+(c:Int) < 2 ^ 39→(∀y n',n'≤n+(c:Int)→Q' (.d y) n')→w (some (.w (.d d))::rest) n Q') :
  ∀(items acc:List PyData) (x:Option SV) (n:Int),n+(c:Int)*(items.length:Int) < 2 ^ 39→(∀ds n',n'≤n+(c:Int)*(items.length:Int)→Q ds n')→jcy (jai 0) cYes w Q items acc (x::rest) n
 |[],acc,x,n,hn,q=>q acc n (by simp)
 |d::r,acc,x,n,hn,q=>by
  simp only[jcy,jai,cYes,if_true,List.set_cons_zero]
  rw[List.length_cons]at hn q
  have e:(c:Int)*((r.length+1:Nat):Int)=(c:Int)*(r.length:Int)+c:=by rw[Int.natCast_add,Int.mul_add];simp
  rw[e]at hn q
  have hc:0≤(c:Int)*(r.length:Int):=Int.mul_nonneg (Int.natCast_nonneg _) (Int.natCast_nonneg _)
  refine h d n _ (by omega) fun y n' hn'=>?_
  exact js5 c h r (acc++[y]) _ n' (by omega) fun ds n'' h''=>q ds n'' (by omega)
theorem jbt (n:Nat):(rngD 0 n).length=n:=by unfold rngD;simp
theorem jdy {w:DT} {Q:List PyData→Int→Prop} {rest:Sl} (P:PyData→Prop) (c:Nat) (h:∀d n Q',n+(c:Int) < 2 ^ 39→(∀y n',P y→n'≤n+(c:Int)→Q' (.d y) n')→w (some (.w (.d d))::rest) n Q') :
  ∀(items acc:List PyData) (x:Option SV) (n:Int),n+(c:Int)*(items.length:Int) < 2 ^ 39→(∀ds n',ds.length=items.length→(∀d∈ds,P d)→n'≤n+(c:Int)*(items.length:Int)→Q (acc++ds) n')→jcy (jai 0) cYes w Q items acc (x::rest) n
 |[],acc,x,n,hn,q=>by
  have:=q [] n rfl (by simp) (by simp)
  rwa [List.append_nil]at this
 |d::r,acc,x,n,hn,q=>by
  simp only[jcy,jai,cYes,if_true,List.set_cons_zero]
  rw[List.length_cons]at hn q
  have e:(c:Int)*((r.length+1:Nat):Int)=(c:Int)*(r.length:Int)+c:=by rw[Int.natCast_add,Int.mul_add];simp
  rw[e]at hn q
  have hc:0≤(c:Int)*(r.length:Int):=Int.mul_nonneg (Int.natCast_nonneg _) (Int.natCast_nonneg _)
  refine h d n _ (by omega) fun y n' hy hn'=>?_
  refine jdy P c h r (acc++[y]) _ n' (by omega) fun ds n'' hl hds h''=>?_
  rw[List.append_assoc]
  refine q (y::ds) n'' (by rw[List.length_cons,hl]) (fun d hd=>?_) (by omega)
  rcases List.mem_cons.mp hd with rfl | z
  ·exact hy
  ·exact hds d z
theorem eq_str (a:PyData) (h:Str):eqD a (.str h)=some (jav h a):=by cases a<;>rfl
theorem eq_int (i j:Int):eqD (.int i) (.int j)=some (decide (i=j)):=rfl
theorem at0 {α:Type} (a:α) (r:List α):atI (a::r) 0=some a:=jb1 (j:=0) rfl
theorem at1 {α:Type} (a b:α) (r:List α):atI (a::b::r) 1=some b:=jb1 (j:=1) rfl
section
variable {δ:Sl} {n:Int} {Q:DQ} {K:DEnds} {W V:DST} {i j:Nat} {a b d:PyData} {r ds:List PyData} {h:Str}
theorem jam (h:W δ n {K with nx:=fun δ n=>V δ n K}):sSeq W V δ n K:=h
theorem jaf {x:Wv} (e:δ[i]?=some (some (.w x))) (k:Q x n):wVar i δ n Q:=by unfold wVar;rw[e];exact k
theorem ix_i {m:Nat} (e:δ[i]?=some (some (.w (.d (.tuple ds))))) (e2:ds[m]?=some a) (k:Q (.d a) n):w2 (wVar i) (wC (.int (m:Int))) gIx δ n Q:=by
 unfold w2
 refine jaf e ?_
 unfold wC gIx
 simp only[jb1 e2]
 exact k
theorem jgb (e:δ[i]?=some (some (.w (.d (.tuple (a::r)))))) (k:Q (.d a) n):w2 (wVar i) (wC (.int 0)) gIx δ n Q:=ix_i (m:=0) e rfl k
theorem jc0 (e:δ[i]?=some (some (.w (.d (.tuple (a::b::r)))))) (k:Q (.d b) n):w2 (wVar i) (wC (.int 1)) gIx δ n Q:=ix_i (m:=1) e rfl k
theorem j0n {d:PyData} (e:δ[i]?=some (some (.w (.d d)))) (k:Q (.d (.bool (jav h d))) n):w2 (wVar i) (wC (.str h)) gEq δ n Q:=by
 unfold w2
 refine jaf e ?_
 unfold wC gEq
 simp only[eq_str]
 exact k
theorem jgh (e:δ[i]?=some (some (.w (.d (.tuple (a::r)))))) (k:Q (.d (.bool (jav h a))) n):w2 (w2 (wVar i) (wC (.int 0)) gIx) (wC (.str h)) gEq δ n Q:=by
 show w2 (wVar i) (wC (.int 0)) gIx δ n fun x n1=>wC (.str h) δ n1 fun y n2=>gEq x y n2 Q
 refine jgb e ?_
 unfold wC gEq
 simp only[eq_str]
 exact k
theorem if_i {c:DTT} (k:c δ n fun b n1=>if b=true then W δ n1 K else V δ n1 K):sIf c W V δ n K:=k
theorem j0f {d:PyData} (e:δ[i]?=some (some (.w (.d d)))) (hT:jav h d=true→W δ n K) (hF:jav h d=false→V δ n K):sIf (cT (w2 (wVar i) (wC (.str h)) gEq)) W V δ n K:=by
 unfold sIf cT
 exact j0n e (ifb hT hF)
theorem j0d (e:δ[i]?=some (some (.w (.d (.tuple (a::r)))))) (hT:jav h a=true→W δ n K) (hF:jav h a=false→V δ n K):sIf (cT (w2 (w2 (wVar i) (wC (.int 0)) gIx) (wC (.str h)) gEq)) W V δ n K:=by
 unfold sIf cT
 exact jgh e (ifb hT hF)
theorem j0e {d:PyData} (e:δ[i]?=some (some (.w (.d d)))) (z:jav h d=false) (hF:V δ n K):sIf (cT (w2 (wVar i) (wC (.str h)) gEq)) W V δ n K:=j0f e (fun q=>by rw[z]at q;cases q) fun _=>hF
theorem j1n {d:PyData} (e:δ[i]?=some (some (.w (.d d)))) (z:jav h d=true) (hT:W δ n K):sIf (cT (w2 (wVar i) (wC (.str h)) gEq)) W V δ n K:=j0f e (fun _=>hT) fun q=>by rw[z]at q;cases q
theorem jg7 (e:δ[i]?=some (some (.w (.d (.tuple (a::r)))))) (z:jav h a=false) (hF:V δ n K):sIf (cT (w2 (w2 (wVar i) (wC (.int 0)) gIx) (wC (.str h)) gEq)) W V δ n K:=j0d e (fun q=>by rw[z]at q;cases q) fun _=>hF
theorem jpe (e:δ[i]?=some (some (.w (.d (.tuple (a::r)))))) (z:jav h a=true) (hT:W δ n K):sIf (cT (w2 (w2 (wVar i) (wC (.int 0)) gIx) (wC (.str h)) gEq)) W V δ n K:=j0d e (fun _=>hT) fun q=>by rw[z]at q;cases q
end
theorem juu:jav "is" (.str "is")=true:=by decide +kernel
theorem jsl:jav "is" (.str "any")=false:=by decide +kernel
theorem jpg:jav "is" (.str "word")=false:=by decide +kernel
theorem jml:jav "is" (.str "number")=false:=by decide +kernel
theorem jph:jav "is" (.str "bind")=false:=by decide +kernel
theorem juv:jav "is" (.str "as")=false:=by decide +kernel
theorem jmk:jav "word" (.str "word")=true:=by decide +kernel
theorem ji5:jav "word" (.str "number")=false:=by decide +kernel
theorem jpi:jav "as" (.str "bind")=false:=by decide +kernel
theorem joj:jav "as" (.str "as")=true:=by decide +kernel
theorem jej:jav "bind" (.str "bind")=true:=by decide +kernel
section
variable {δ:Sl} {n:Int} {Q:DQ} {K:DEnds} {W V:DST} {i j:Nat} {a b d:PyData} {r ds:List PyData}
theorem w2_i {wa wb:DT} {g:Wv→Wv→Int→DQ→Prop} (k:wa δ n fun x n1=>wb δ n1 fun y n2=>g x y n2 Q):w2 wa wb g δ n Q:=k
theorem jcv {w:DT} {x:PyData} (h:∀Q:DQ,Q (.d x) n→w δ n Q) (k:K.nx (δ.set i (some (.w (.d x)))) n):sSet i w δ n K:=h _ k
theorem jdn (k:K.nx (δ.set i (some (.own []))) n):sOwn i (fLst aNil) δ n K:=⟨Nat.zero_le _,k⟩
theorem g0_i (k:Q (.d a) n):gIx (.d (.tuple (a::r))) (.d (.int 0)) n Q:=by
 show(match atI (a::r) 0 with | some d=>Q (.d d) n | none=>False)
 rw[at0];exact k
theorem g1_i (k:Q (.d b) n):gIx (.d (.tuple (a::b::r))) (.d (.int 1)) n Q:=by
 show(match atI (a::b::r) 1 with | some d=>Q (.d d) n | none=>False)
 rw[at1];exact k
theorem c_i {c:PyData} (k:Q (.d c) n):wC c δ n Q:=k
theorem b1_i {w:DT} {g:List Wv→Int→DQ→Prop} (k:w δ n fun x n1=>g [x] n1 Q):wB g (jab w aNil) δ n Q:=k
theorem c1_i {w:DT} {S:DSp} (k:w δ n fun x n1=>S [x] n1 Q):jaq S (jab w aNil) δ n Q:=k
theorem c2_i {w w':DT} {S:DSp} (k:w δ n fun x n1=>w' δ n1 fun y n2=>S [x,y] n2 Q):jaq S (jab w (jab w' aNil)) δ n Q:=k
theorem c3_i {w w' w'':DT} {S:DSp} (k:w δ n fun x n1=>w' δ n1 fun y n2=>w'' δ n2 fun z n3=>S [x,y,z] n3 Q):jaq S (jab w (jab w' (jab w'' aNil))) δ n Q:=k
theorem of_i {w:DTF} (k:w δ n fun ds n1=>Q (.d (.list ds)) n1):wOf w δ n Q:=k
theorem jer {fr:List (Option Nat)} {w e:DT} {g:DTG} {c:DTT} {Q:List PyData→Int→Prop} (hw:∀Q:DQ,Q (.d (.tuple ds)) n→w δ n Q) (k:jcy g c e Q ds [] (jk8 fr δ) n):jbz fr (jcg w) g c e δ n Q:=by
 unfold jbz jcg
 exact hw _ k
theorem j1k (e:δ[i]?=some (some (.w (.d (.tuple ds))))) (k:Q (.d (.int ds.length)) n):wB gLen (jab (wVar i) aNil) δ n Q:=b1_i (jaf e k)
theorem jzp (e:δ[j]?=some (some (.w (.d (.tuple ds))))) (k:K.nx (δ.set i (some (.own ds))) n):sOwn i (jfn (wVar j)) δ n K:=by
 unfold sOwn jfn
 exact jaf e k
theorem jbu {w:DT} (k:w δ n K.rt):sRet w δ n K:=k
theorem jhc (e:δ[i]?=some (some (.own ds))) (k:W (δ.set i (some (.w (.d (.list ds))))) n K):sFrz i W δ n K:=by
 unfold sFrz;rw[e];exact k
theorem ct_b {w:DT} {k:Bool} {Q:Bool→Int→Prop} (hw:∀Q':DQ,Q' (.d (.bool k)) n→w δ n Q') (q:Q k n):cT w δ n Q:=hw _ q
theorem if_n {C:DTT} (hc:∀Q:Bool→Int→Prop,Q false n→C δ n Q) (hF:V δ n K):sIf C W V δ n K:=hc _ (by show if false=true then _ else _;rw[if_neg Bool.false_ne_true];exact hF)
theorem if_y {C:DTT} (hc:∀Q:Bool→Int→Prop,Q true n→C δ n Q) (hT:W δ n K):sIf C W V δ n K:=hc _ (by show if true=true then _ else _;rw[if_pos rfl];exact hT)
theorem jnt {A B:DTT} {Q:Bool→Int→Prop} (ha:∀Q:Bool→Int→Prop,Q false n→A δ n Q) (hb:B δ n Q):cOr A B δ n Q:=ha _ (by show if false=true then _ else _;rw[if_neg Bool.false_ne_true];exact hb)
theorem ju5 {A B:DTT} {Q:Bool→Int→Prop} (ha:∀Q:Bool→Int→Prop,Q true n→A δ n Q) (k:Q true n):cOr A B δ n Q:=ha _ (by show if true=true then _ else _;rw[if_pos rfl];exact k)
theorem jou {A B:DTT} {Q:Bool→Int→Prop} (ha:∀Q:Bool→Int→Prop,Q true n→A δ n Q) (hb:B δ n Q):cAnd A B δ n Q:=ha _ (by show if true=true then _ else _;rw[if_pos rfl];exact hb)
theorem j0v {A:DTT} {k:Bool} {Q:Bool→Int→Prop} (ha:∀Q:Bool→Int→Prop,Q k n→A δ n Q) (q:Q (!k) n):cNot A δ n Q:=ha _ q
end
theorem jbw {g:DTG} {W:DST} {K:DEnds} (I:List PyData→Sl→Int→Prop) (h0:∀δ n,I [] δ n→K.nx δ n)
  (h1:∀d r δ n (N:Sl→Int→Prop),I (d::r) δ n→(∀δ n,I r δ n→N δ n)→g d δ fun δ'=>W δ' n {K with nx:=N,ct:=N,bk:=K.nx}):∀ds δ n,I ds δ n→forD g W K ds δ n
 |[],δ,n,h=>h0 δ n h
 |d::r,δ,n,h=>h1 d r δ n (forD g W K r) h (jbw I h0 h1 r)
section
variable {δ:Sl} {n m:Int} {Q:DQ} {K:DEnds} {W V:DST} {i j:Nat} {ds:List PyData}
theorem jdw {w:DT} (e0:δ[0]?=some (some (.w .tp))) (hw:∀Q:DQ,Q (.d (.int m)) n→w δ n Q) (h:n < 2 ^ 40) (h0:0 < m) (h1:m < 1073741824) (k:∀r:Int,0≤r→r < m→Q (.d (.int r)) (n+1)):jaq jau (jab (wVar 0) (jab w aNil)) δ n Q :=
 c2_i (jaf e0 (hw _ (joo h h0 h1 k)))
theorem jdx (e0:δ[0]?=some (some (.w .tp))) (h:n < 2 ^ 40) (h0:0 < m) (h1:m < 1073741824) (k:∀r:Int,0≤r→r < m→Q (.d (.int r)) (n+1)):jaq jau (jab (wVar 0) (jab (wC (.int m)) aNil)) δ n Q:=jdw e0 (fun Q q=>c_i q) h h0 h1 k
theorem jn6 (e0:δ[0]?=some (some (.w .tp))) (h:n < 2 ^ 40) (h0:0 < m) (h1:m < 1073741824) (k:∀r:Int,0≤r→r < m→K.nx (δ.set i (some (.w (.d (.int r))))) (n+1)):sSet i (jaq jau (jab (wVar 0) (jab (wC (.int m)) aNil))) δ n K:=jdx e0 h h0 h1 k
theorem jnm {r:Int} (h0:0≤r) (h1:r < (ds.length:Int)) (k:∀d∈ds,Q (.d d) n):gIxL (.ln ds) (.d (.int r)) n Q:=by
 obtain⟨v,hv,hm⟩:=jow h0 h1
 show(match atI ds r with | some d=>Q (.d d) n | none=>False)
 rw[hv]
 exact k v hm
theorem jcx {r:Int} (h0:0≤r) (h1:r < (ds.length:Int)) (k:∀d∈ds,Q (.d d) n):gIxL (.d (.list ds)) (.d (.int r)) n Q:=jfz h0 h1 k
theorem jma (e:δ[i]?=some (some (.own ds))) (k:Q (.ln ds) n):jf5 i δ n Q:=by
 unfold jf5;rw[e];exact k
theorem jtg {w:DT} {x:PyData} {es:List PyData} (e:δ[i]?=some (some (.own es))) (hw:∀Q:DQ,Q (.d x) m→w δ n Q) (hl:es.length < 1000000) (k:K.nx (δ.set i (some (.own (es++[x])))) m):sApp i w δ n K:=by
 unfold sApp;rw[e];exact hw _ (And.intro hl k)
theorem jij {w:DT} {es:List PyData} (e:δ[i]?=some (some (.own es))) (k:w δ n fun x n1=>match x with
  |.d d=>es.length < 1000000∧K.nx (δ.set i (some (.own (es++[d])))) n1
  |_=>False):sApp i w δ n K:=by
 unfold sApp;rw[e];exact k
theorem jcn {w w':DT} (k:w δ n fun x n1=>w' δ n1 fun y n2=>match jfv [x,y]with
  |some ds=>ds.length≤1000∧Q (.d (.tuple ds)) n2
  |none=>False):wTup (jab w (jab w' aNil)) δ n Q:=k
theorem jp3 {w w' w'':DT} (k:w δ n fun x n1=>w' δ n1 fun y n2=>w'' δ n2 fun z n3=>match jfv [x,y,z]with
  |some ds=>ds.length≤1000∧Q (.d (.tuple ds)) n3
  |none=>False):wTup (jab w (jab w' (jab w'' aNil))) δ n Q:=k
theorem jhi (k:Q (.d (.tuple ds)) n):jcu [.d (.list ds)] n Q:=k
theorem lt_i {a b:Int} (k:Q (.d (.bool (decide (a < b)))) n):gLt (.d (.int a)) (.d (.int b)) n Q:=k
theorem iflt {a b:Int} (e:δ[i]?=some (some (.w (.d (.int a))))) (hT:a < b→W δ n K) (hF:¬a < b→V δ n K):sIf (cT (w2 (wVar i) (wC (.int b)) gLt)) W V δ n K:=by
 refine if_i (w2_i (jaf e (c_i ?_)))
 show if decide (a < b)=true then _ else _
 by_cases h:a < b
 ·rw[if_pos (decide_eq_true h)];exact hT h
 ·rw[if_neg (by simpa using h)];exact hF h
end
section
variable {δ:Sl} {n m:Int} {Q:DQ} {K:DEnds} {W V:DST} {i j:Nat} {ds:List PyData}
theorem jye {w w' w'' v:DT} (k:w δ n fun x n1=>w' δ n1 fun y n2=>w'' δ n2 fun z n3=>v δ n3 fun u n4=>match jfv [x,y,z,u]with
  |some ds=>ds.length≤1000∧Q (.d (.tuple ds)) n4
  |none=>False):wTup (jab w (jab w' (jab w'' (jab v aNil)))) δ n Q:=k
theorem jfw (k:Q (.d (.list [])) n):wOf (fLst aNil) δ n Q:=And.intro (Nat.zero_le _) k
theorem eqLn (k:Q (.d (.bool ds.isEmpty)) n):gEqL (.ln ds) (.d (.list [])) n Q:=k
theorem eqLi {a b:Int} (k:Q (.d (.bool (decide (a=b)))) n):gEqL (.d (.int a)) (.d (.int b)) n Q:=k
theorem ifeq {a b:Int} (e:δ[i]?=some (some (.w (.d (.int a))))) (hT:a=b→W δ n K) (hF:¬a=b→V δ n K):sIf (cT (w2 (wVar i) (wC (.int b)) gEqL)) W V δ n K:=by
 refine if_i (w2_i (jaf e (c_i ?_)))
 show if decide (a=b)=true then _ else _
 by_cases h:a=b
 ·rw[if_pos (decide_eq_true h)];exact hT h
 ·rw[if_neg (by simpa using h)];exact hF h
theorem ifgt {a b:Int} (e:δ[i]?=some (some (.w (.d (.int a))))) (hT:b < a→W δ n K) (hF:¬b < a→V δ n K):sIf (cT (w2 (wVar i) (wC (.int b)) gGt)) W V δ n K:=by
 refine if_i (w2_i (jaf e (c_i ?_)))
 show if decide (b < a)=true then _ else _
 by_cases h:b < a
 ·rw[if_pos (decide_eq_true h)];exact hT h
 ·rw[if_neg (by simpa using h)];exact hF h
end
theorem jh3 (hs:List Str):(hs.map PyData.str).all jed=true:=by
 rw[List.all_eq_true]
 intro d hd
 obtain⟨x,_,rfl⟩:=List.mem_map.mp hd
 rfl
theorem jvl {δ:Sl} {n m:Int} {K:DEnds} {W:DST} {g:DTG} {L:List PyData} {wl:DT} {M:Nat} (e:δ[0]?=some (some (.w .tp))) (hl:∀Q:DQ,Q (.d (.list L)) n→wl δ n Q) (hn:n < 2 ^ 40) (hm:m=L.length) (h0:0 < m) (h1:m < 1000) (hL:∀d∈L,∃j:Nat,j≤M∧d=.int j) (hM:M≤1000) (k:∀j:Nat,j≤M→forD g W K (rngD 0 j) δ (n+1)) :
  sFor (jbh (w2 wl (jaq jau (jab (wVar 0) (jab (wC (.int m)) aNil))) gIxL)) g W δ n K:=by
 unfold sFor jbh
 refine w2_i (hl _ (jdx e hn h0 (by omega) fun r r0 r1=>jcx r0 (by omega) fun d hd=>?_))
 obtain⟨j,hj,rfl⟩:=hL d hd
 refine And.intro ⟨by omega,by omega⟩ ?_
 rw[Int.toNat_natCast]
 exact k j hj
theorem jz2 {ds:List PyData} {n:Int} {Q:DQ} (k:Q (.d (.int ds.length)) n):jf0 [.ln ds] n Q:=k
theorem gN_i {n:Int} {Q:DQ} {i:Nat} {x:PyData} {xs:List PyData} (h:xs[i]?=some x) (k:Q (.d x) n):gIx (.d (.tuple xs)) (.d (.int (i:Nat))) n Q:=by
 show(match atI xs ((i:Nat):Int)with | some d=>Q (.d d) n | none=>False)
 rw[jb1 h];exact k
theorem jv3 (xs:List PyData) {p:Nat} (hp:p≤xs.length):cutD xs none (some (p:Int))=xs.take p:=by
 unfold cutD
 rw[HT.sIx_nat]
 show(xs.drop 0).take (min p xs.length - 0)=_
 rw[List.drop_zero,Nat.sub_zero,Nat.min_eq_left hp]
noncomputable abbrev Nm:=List (Str×PyData)
inductive Fd where
 |is (v:PyData) | any | word | number | bind (x:Str) | as (x:Str)
noncomputable def Fd.d:Fd→PyData
 |.is v=>.tuple [.str "is",v]
 |.any=>.tuple [.str "any"]
 |.word=>.tuple [.str "word"]
 |.number=>.tuple [.str "number"]
 |.bind x=>.tuple [.str "bind",.str x]
 |.as x=>.tuple [.str "as",.str x]
noncomputable abbrev okX (x:Str):Prop:=x.length≤4∧PyData.strOk x=true
noncomputable def isV:PyData→Bool
 |.str x=>decide (x.length≤8)&&PyData.strOk x
 |.int i=>decide (PyData.weight (.int i)≤20)&&(PyData.intsShort 13 (.int i)&&PyData.showable (.int i))
 |_=>false
noncomputable def Fd.ok:Fd→Prop
 |.is v=>isV v=true
 |.bind x=>okX x
 |.as x=>okX x
 |_=>True
noncomputable def eqB (a b:PyData):Bool:=(eqD a b).getD false
theorem jst {a b:PyData} (ha:isV a=true) (hb:isV b=true):eqD a b=some (eqB a b):=by
 cases a<;>first | cases ha | (cases b<;>first | cases hb | rfl)
theorem j0p {a b:PyData} (ha:isV a=true) (hb:isV b=true) (h:eqB a b=true):a=b:=by
 cases a<;>first | cases ha | (cases b<;>first | cases hb | cases h | (rw[show _=_ from of_decide_eq_true h]))
theorem j0l {a:PyData} (ha:isV a=true):jed a=true:=by cases a<;>first | cases ha | rfl
noncomputable def isSt:PyData→Bool
 |.str _=>true
 |_=>false
noncomputable def isIn:PyData→Bool
 |.int _=>true
 |_=>false
noncomputable def look (ps:Nm) (x:Str):Option PyData:=(ps.find? fun p=>decide (p.1=x)).map (·.2)
noncomputable def put (ps:Nm) (x:Str) (v:PyData):Nm:=if (ps.any fun p=>decide (p.1=x))=true then ps.map (fun p=>if p.1=x then(p.1,v)else p)else ps++[(x,v)]
theorem j0b (a b:Str):decide ((Sum.inr a:Key)=Sum.inr b)=decide (a=b):=by
 by_cases z:a=b
 ·rw[z,decide_eq_true rfl,decide_eq_true rfl]
 ·rw[decide_eq_false z,decide_eq_false fun w=>z (Sum.inr.inj w)]
theorem jll (ps:Nm) (x:Str):valD (txK ps) (.inr x)=look ps x:=by
 induction ps with
 |nil=>rfl
 |cons p r ih =>
  by_cases e:p.1=x
  ·have a1:valD (txK (p::r)) (.inr x)=some p.2:=by simp[valD,txK,List.find?_cons,e]
   have a2:look (p::r) x=some p.2:=by simp[look,List.find?_cons,e]
   rw[a1,a2]
  ·have a1:valD (txK (p::r)) (.inr x)=valD (txK r) (.inr x):=by simp[valD,txK,List.find?_cons,e]
   have a2:look (p::r) x=look r x:=by simp[look,List.find?_cons,e]
   rw[a1,a2,ih]
theorem j03 (ps:Nm) (x:Str):((txK ps).any fun kv=>decide (kv.1=(Sum.inr x:Key)))=(ps.any fun p=>decide (p.1=x)):=by
 unfold txK
 rw[List.any_map]
 congr 1
 funext p
 exact j0b _ _
theorem jre (ps:Nm) (x:Str) (v:PyData):putD (txK ps) (.inr x) v=txK (put ps x v):=by
 unfold putD put
 rw[j03]
 split
 ·unfold txK
  rw[List.map_map,List.map_map]
  apply List.map_congr_left
  intro p _
  show(if (Sum.inr p.1:Key)=Sum.inr x then _ else _)=_
  by_cases e:p.1=x
  ·rw[if_pos (congrArg Sum.inr e)]
   show _=(Sum.inr (if p.1=x then(p.1,v)else p).1,(if p.1=x then(p.1,v)else p).2)
   rw[if_pos e]
  ·rw[if_neg fun z=>e (Sum.inr.inj z)]
   show _=(Sum.inr (if p.1=x then(p.1,v)else p).1,(if p.1=x then(p.1,v)else p).2)
   rw[if_neg e]
 ·unfold txK
  rw[List.map_append]
  rfl
theorem jdv {ps:Nm} {x:Str} {v:PyData} (h:look ps x=some v):(x,v)∈ps:=by
 unfold look at h
 cases e:ps.find? fun p=>decide (p.1=x)with
 |none=>rw[e]at h;cases h
 |some p =>
  rw[e]at h
  have h1:=List.find?_some e
  have h2:p.1=x:=of_decide_eq_true h1
  have h3:p.2=v:=Option.some.inj h
  have:=List.mem_of_find?_eq_some e
  rw[←h2,←h3]
  exact this
theorem jkq (ps:Nm) (x:Str):(ps.any fun p=>decide (p.1=x))=(look ps x).isSome:=by
 induction ps with
 |nil=>rfl
 |cons p r ih =>
  by_cases e:p.1=x
  ·have a2:look (p::r) x=some p.2:=by simp[look,List.find?_cons,e]
   rw[a2,List.any_cons,decide_eq_true e];rfl
  ·have a2:look (p::r) x=look r x:=by simp[look,List.find?_cons,e]
   rw[a2,List.any_cons,decide_eq_false e,Bool.false_or,ih]
theorem jt6 (ps:Nm) (x:Str) (v:PyData):(put ps x v).map (·.1)=if (ps.any fun p=>decide (p.1=x))=true then ps.map (·.1)else ps.map (·.1)++[x]:=by
 unfold put
 split
 ·rw[List.map_map]
  apply List.map_congr_left
  intro p _
  show(if p.1=x then(p.1,v)else p).1=p.1
  split<;>rfl
 ·rw[List.map_append];rfl
theorem jvq {ps:Nm} {x:Str} {v:PyData} (h:(ps.map (·.1)).Nodup):((put ps x v).map (·.1)).Nodup:=by
 rw[jt6]
 split
 ·exact h
 ·rename_i e
  rw[List.nodup_append]
  refine⟨h,by simp,fun a ha b hb z=>?_⟩
  have hb:b=x:=by simpa using hb
  obtain⟨p,hp,rfl⟩:=List.mem_map.mp ha
  exact e (List.any_eq_true.mpr ⟨p,hp,decide_eq_true (z.trans hb)⟩)
theorem jni (ps:Nm) (x:Str) (v:PyData):(put ps x v).length≤ps.length+1:=by
 unfold put
 split
 ·rw[List.length_map];omega
 ·rw[List.length_append];exact Nat.le_refl _
noncomputable def okV (p:Str×PyData):Prop:=okX p.1∧isV p.2=true
theorem jrf {ps:Nm} {x:Str} {v:PyData} (h:∀p∈ps,okV p) (hx:okX x) (hv:isV v=true):∀p∈put ps x v,okV p:=by
 intro p hp
 unfold put at hp
 split at hp
 ·obtain⟨q,hq,rfl⟩:=List.mem_map.mp hp
  split
  ·exact⟨(h q hq).1,hv⟩
  ·exact h q hq
 ·rcases List.mem_append.mp hp with hp | hp
  ·exact h p hp
  ·have:p=(x,v):=by simpa using hp
   subst this
   exact⟨hx,hv⟩
theorem jt5 {ps:Nm} {x:Str} {v:PyData} (nd:(ps.map (·.1)).Nodup) (h:look ps x=some v):put ps x v=ps:=by
 unfold put
 rw[jkq,h,if_pos (show(some v).isSome=true from rfl)]
 have hm:=jdv h
 have:ps.map (fun p=>if p.1=x then(p.1,v)else p)=ps.map id:=by
  apply List.map_congr_left
  intro p hp
  split
  ·rename_i e
   have:p=(x,v):=by
    obtain⟨i,hi⟩:=List.mem_iff_getElem?.mp hp
    obtain⟨j,hj⟩:=List.mem_iff_getElem?.mp hm
    have a1:(ps.map (·.1))[i]?=some x:=by rw[List.getElem?_map,hi];exact congrArg some e
    have a2:(ps.map (·.1))[j]?=some x:=by rw[List.getElem?_map,hj];rfl
    obtain⟨b1,b2⟩:=List.getElem?_eq_some_iff.mp a1
    obtain⟨c1,c2⟩:=List.getElem?_eq_some_iff.mp a2
    have:=(List.getElem_inj nd).mp (b2.trans c2.symm)
    rw[this,hj]at hi
    exact(Option.some.inj hi).symm
   rw[this]
   rfl
  ·rfl
 rw[this,List.map_id]
theorem jfy (ps:Nm) (x:Str) (v:PyData):look (put ps x v) x=some v:=by
 unfold put
 rw[jkq]
 split
 ·rename_i e
  induction ps with
  |nil=>cases e
  |cons p r ih =>
   by_cases z:p.1=x
   ·simp[look,List.find?_cons,z]
   ·have a2:look (p::r) x=look r x:=by simp[look,List.find?_cons,z]
    rw[a2]at e
    rw[List.map_cons,if_neg z]
    have a3:look (p::r.map fun p=>if p.1=x then(p.1,v)else p) x=look (r.map fun p=>if p.1=x then(p.1,v)else p) x:=by simp[look,List.find?_cons,z]
    rw[a3]
    exact ih e
 ·rename_i e
  have:look ps x=none:=by cases q:look ps x with | none=>rfl | some _=>rw[q]at e;exact absurd rfl e
  unfold look at this ⊢
  rw[List.find?_append]
  cases q:ps.find? fun p=>decide (p.1=x)with
  |some p=>rw[q]at this;cases this
  |none=>simp
theorem jht {ps:Nm} {x y:Str} {v:PyData} (h:y≠x):look (put ps x v) y=look ps y:=by
 unfold put
 split
 ·induction ps with
  |nil=>rfl
  |cons p r ih =>
   rw[List.map_cons]
   have key:look (r.map fun p=>if p.1=x then(p.1,v)else p) y=look r y:=by
    rename_i e
    by_cases q:(r.any fun p=>decide (p.1=x))=true
    ·exact ih q
    ·have:r.map (fun p=>if p.1=x then(p.1,v)else p)=r.map id:=by
      apply List.map_congr_left
      intro p hp
      rw[if_neg fun z=>q (List.any_eq_true.mpr ⟨p,hp,decide_eq_true z⟩)]
      rfl
     rw[this,List.map_id]
   by_cases z:p.1=x
   ·rw[if_pos z]
    have n1:¬p.1=y:=fun w=>h (w.symm.trans z)
    have a1:look ((p.1,v)::r.map fun p=>if p.1=x then(p.1,v)else p) y=look (r.map fun p=>if p.1=x then(p.1,v)else p) y:=by simp[look,List.find?_cons,n1]
    have a2:look (p::r) y=look r y:=by simp[look,List.find?_cons,n1]
    rw[a1,a2,key]
   ·rw[if_neg z]
    by_cases w:p.1=y
    ·simp[look,List.find?_cons,w]
    ·have a1:look (p::r.map fun p=>if p.1=x then(p.1,v)else p) y=look (r.map fun p=>if p.1=x then(p.1,v)else p) y:=by simp[look,List.find?_cons,w]
     have a2:look (p::r) y=look r y:=by simp[look,List.find?_cons,w]
     rw[a1,a2,key]
 ·unfold look
  rw[List.find?_append]
  have:[(x,v)].find? (fun p=>decide (p.1=y))=none:=by simp[fun z=>h (Eq.symm z),Ne.symm h]
  rw[this,Option.or_none]
noncomputable def ffB (f:Fd) (v:PyData) (h bs:Nm):Bool:=match f with
 |.is w=>eqB w v
 |.any=>true
 |.word=>isSt v
 |.number=>isIn v
 |.as x=>match look h x with
  |some w=>eqB w v
  |none=>false
 |.bind x=>match look bs x with
  |some w=>eqB w v
  |none=>true
noncomputable def wk:List (Fd×PyData)→Nm→List Str→Option Nm
 |[],h,_=>some h
 | (.is w,v)::r,h,hs=>if eqB w v=true then wk r h hs else none
 | (.any,_)::r,h,hs=>wk r h hs
 | (.word,v)::r,h,hs=>if isSt v=true then wk r h hs else none
 | (.number,v)::r,h,hs=>if isIn v=true then wk r h hs else none
 | (.as x,v)::r,h,hs=>match look h x with
  |some w=>if eqB w v=true then wk r h hs else none
  |none=>none
 | (.bind x,v)::r,h,hs=>if x∈hs then(match look h x with
   |some w=>if eqB w v=true then wk r h hs else none
   |none=>none)else wk r (put h x v) (hs++[x])
noncomputable def jzo (p:Str×PyData):PyData:=.tuple [.str p.1,p.2]
noncomputable def jr0 (ps:Nm):PyData:=.tuple (ps.map jzo)
noncomputable def patD (fs:List Fd):PyData:=.tuple (fs.map Fd.d)
noncomputable def okN (ps:Nm):Prop:=ps.length≤12∧(ps.map (·.1)).Nodup∧∀p∈ps,okV p
noncomputable def okP (fs:List Fd):Prop:=1≤fs.length∧fs.length≤4∧∀f∈fs,f.ok
noncomputable def okR (row:List PyData):Prop:=row.length≤4∧∀d∈row,isV d=true
noncomputable def Fit (fs:List Fd) (row:List PyData) (ps:Nm) (r:PyData):Prop :=
 if fs.length=row.length then match wk (fs.zip row) ps []with
  |none=>r=.none
  |some _=>jcb r=false
 else r=.none
noncomputable def S_ff:DSp:=fun ws n Q=>∃(f:Fd) (v:PyData) (hp bp:Nm),ws=[.d f.d,.d v,.dk (txK hp),.dk (txK bp)]∧f.ok∧isV v=true∧(∀p∈hp,okV p)∧(∀p∈bp,okV p)∧Q (.d (.bool (ffB f v hp bp))) n
noncomputable def jiq:DSp:=fun ws n Q=>∃(fs:List Fd) (row:List PyData),ws=[.d (patD fs),.d (.tuple row),.d (.tuple [])]∧okP fs∧okR row∧∀r,Fit fs row [] r→Q (.d r) n
noncomputable def jcw (ys:List Str):PyData:=.tuple (ys.map .str)
noncomputable def jtn:List PyData:=[.str "a",.int 0,.int 1,.str "ab",.str "go",.int 99]
inductive Fe where
 |any | word | num | isv (d:PyData) | bind (k:Str) | as (k:Str) | nx (k:Str)
noncomputable def Fe.hd:Fe→Str
 |.any=>"any"
 |.word=>"word"
 |.num=>"number"
 |.isv _=>"is"
 |.bind _=>"bind"
 |.as _=>"as"
 |.nx _=>"next"
noncomputable def Fe.tl:Fe→List PyData
 |.any=>[]
 |.word=>[]
 |.num=>[]
 |.isv d=>[d]
 |.bind k=>[.str k]
 |.as k=>[.str k]
 |.nx k=>[.str k]
noncomputable def Fe.d (f:Fe):PyData:=.tuple (.str f.hd::f.tl)
noncomputable abbrev okK (k:Str):Prop:=okX k
noncomputable def Fe.ok:Fe→Prop
 |.isv d=>isV d=true
 |.bind k=>okK k
 |.as k=>okK k
 |.nx k=>okK k
 |_=>True
noncomputable def Fe.bd:Fe→Option Str
 |.bind k=>some k
 |_=>none
noncomputable def Fe.us:Fe→Option Str
 |.as k=>some k
 |.nx k=>some k
 |_=>none
noncomputable def bndE (fs:List Fe):List Str:=fs.filterMap Fe.bd
noncomputable def okFs (fs:List Fe):Prop:=fs.length≤4∧∀f∈fs,f.ok
noncomputable def rF:List Str→List Fe→Prop
 |_,[]=>True
 |ks,f::r=>(∀k,f.us=some k→k∈ks)∧rF (ks++f.bd.toList) r
inductive Ac where
 |lay (fs:List Fe) (age:PyData) | take (fs:List Fe) | read (fs:List Fe) | look (fs:List Fe) (b:Nat) | same (f g:Fe) (b:Nat) | go (b:Nat)
noncomputable def fsD (fs:List Fe):PyData:=.tuple (fs.map Fe.d)
noncomputable def Ac.d:Ac→PyData
 |.lay fs age=>.tuple [.str "lay",fsD fs,age]
 |.take fs=>.tuple [.str "take",fsD fs]
 |.read fs=>.tuple [.str "read",fsD fs]
 |.look fs b=>.tuple [.str "look",fsD fs,.int b]
 |.same f g b=>.tuple [.str "same",f.d,g.d,.int b]
 |.go b=>.tuple [.str "go",.int b]
noncomputable def Ac.bs:Ac→List Str
 |.take fs=>bndE fs
 |.read fs=>bndE fs
 |.look fs _=>bndE fs
 |_=>[]
noncomputable def Ac.fs:Ac→List Fe
 |.lay fs _=>fs
 |.take fs=>fs
 |.read fs=>fs
 |.look fs _=>fs
 |.same f g _=>[f,g]
 |.go _=>[]
noncomputable def Ac.to:Ac→Option Nat
 |.look _ b=>some b
 |.same _ _ b=>some b
 |.go b=>some b
 |_=>none
noncomputable def Ac.right (wants:List (List Str)) (ks:List Str) (a:Ac):Prop:=rF ks a.fs∧∀b,a.to=some b→∃w,wants[b]?=some w∧∀k∈w,k∈ks
noncomputable abbrev Bl:=List Str×List Ac
noncomputable def blD (b:Bl):PyData:=.tuple [jcw b.1,.tuple (b.2.map Ac.d)]
noncomputable def prD (bs:List Bl):PyData:=.tuple (bs.map blD)
noncomputable def kn (w:List Str) (as:List Ac) (p:Nat):List Str:=w++(as.take p).flatMap Ac.bs
noncomputable def okB (b:Bl):Prop:=b.1.length≤2∧(∀k∈b.1,okK k)∧b.2.length≤8∧∀a∈b.2,okFs a.fs
noncomputable def riB (wants:List (List Str)) (b:Bl):Prop:=∀(p:Nat) (a:Ac),b.2[p]?=some a→a.right wants (kn b.1 b.2 p)
noncomputable def jc6:DSp:=fun ws n Q=>ws=[.tp]∧n < 2 ^ 39∧∀v∈jtn,Q (.d v) (n+1)
noncomputable def jfh:DSp:=fun ws n Q=>ws=[.tp]∧n < 2 ^ 39∧∀m:Nat,1≤m→m≤4→Q (.d (.int m)) (n+1)
noncomputable def jm9:DSp:=fun ws n Q=>∃ks:List Str,ws=[.tp,.ln (ks.map .str)]∧ks.length≤1000∧(∀k∈ks,okK k)∧n+9 < 2 ^ 39∧∀(fs:List Fe) (n':Int),okFs fs→rF ks fs→n'≤n+9→Q (.d (fsD fs)) n'
noncomputable def jgq:DSp:=fun ws n Q=>∃ks:List Str,ws=[.tp,.ln (ks.map .str)]∧ks.length≤1000∧(∀k∈ks,okK k)∧n+2 < 2 ^ 39∧∀(f:Fe) (n':Int),f.ok→f.bd=none→(∀k,f.us=some k→k∈ks)→n'≤n+2→Q (.d f.d) n'
noncomputable def jip:DSp:=fun ws n Q=>∃(ks:List Str) (os:List Nat) (wants:List (List Str)),ws=[.tp,.ln (ks.map .str),.d (.list (os.map fun b=>.int (b:Nat)))]∧ks.length≤1000∧(∀k∈ks,okK k)∧0 < os.length∧os.length≤1000 ∧
 (∀b∈os,∃w,wants[b]?=some w∧∀k∈w,k∈ks)∧n+11 < 2 ^ 39∧∀(a:Ac) (n':Int),okFs a.fs→a.right wants ks→n'≤n+11→Q (.d (.tuple [a.d,.list (a.bs.map .str)])) n'
noncomputable def Fe.pt:Fe→Bool
 |.nx _=>false
 |_=>true
noncomputable def okG (bs:List Bl):Prop:=1≤bs.length∧bs.length≤6∧∀b∈bs,okB b∧riB (bs.map (·.1)) b
noncomputable def jgw:DSp:=fun ws n Q=>∃(ks:List Str) (v:Wv),ws=[.tp,v]∧lsOf v=some (ks.map .str)∧ks.length≤1000∧(∀k∈ks,okK k)∧n+9 < 2 ^ 39∧∀(fs:List Fe) (n':Int),1≤fs.length→okFs fs→(∀f∈fs,f.pt=true)→rF ks fs→n'≤n+9→Q (.d (.tuple [fsD fs,.list ((bndE fs).map .str)])) n'
noncomputable def jm7:DSp:=fun ws n Q=>ws=[.tp]∧n+600 < 2 ^ 39∧∀(bs:List Bl) (n':Int),okG bs→n'≤n+600→Q (.d (prD bs)) n'
noncomputable abbrev Hn:=Nat×Nat×PyData
noncomputable def hnD (h:Hn):PyData:=.tuple [.int h.1,.int h.2.1,h.2.2]
noncomputable abbrev Nt:=List PyData×PyData
noncomputable def ntD (q:Nt):PyData:=.tuple [.tuple q.1,q.2]
noncomputable def stD (hs:List Hn) (d:PyData):PyData:=.tuple [.tuple (hs.map hnD),d]
noncomputable abbrev Pg:=List (List Bl)
noncomputable def pgD (ps:Pg):PyData:=.tuple (ps.map prD)
noncomputable def okPg (ps:Pg):Prop:=ps.length≤5∧∀P∈ps,okG P
noncomputable def okNs (ns:List Nt):Prop:=ns.length≤6∧∀q∈ns,1≤q.1.length∧okR q.1
noncomputable def okHs (ps:Pg) (hs:List Hn):Prop:=∀(i:Nat) (P:List Bl),ps[i]?=some P→∃(h:Hn) (b:Bl),hs[i]?=some h∧P[h.1]?=some b∧h.2.1≤b.2.length
noncomputable abbrev Ct:=List PyData×Option Nat
noncomputable def cvD:Option Nat→PyData
 |none=>.none
 |some k=>.int k
noncomputable def ctD (c:Ct):PyData:=.tuple [.tuple c.1,cvD c.2]
noncomputable def okCs (cs:List Ct):Prop:=cs.length≤6∧∀c∈cs,1≤c.1.length∧okR c.1
noncomputable def csD (cs:List Ct):PyData:=.tuple (cs.map ctD)
inductive Bs where
 |notes (fs:List Fd) (k:Nat) | at(h b p:Nat) | ended (h:Nat)
noncomputable def Bs.d:Bs→PyData
 |.notes fs k=>.tuple [.str "notes",patD fs,.int k]
 |.at h b p=>.tuple [.str "at",.int h,.int b,.int p]
 |.ended h=>.tuple [.str "ended",.int h]
noncomputable def Bs.ok (ps:Pg):Bs→Prop
 |.notes fs _=>okP fs
 |.at h b p=>h < ps.length∧b≤100∧p≤100
 |.ended h=>h < ps.length
noncomputable def holds (fs:List Fd) (row:List PyData):Bool:=decide (fs.length=row.length)&&(wk (fs.zip row) [] []).isSome
noncomputable def jdp (fs:List Fd) (cs:List Ct):List (Option Nat):=(cs.filter fun c=>holds fs c.1).map (·.2)
noncomputable def enB (fs:List Fd) (cs:List Ct) (k:Nat):Bool:=(jdp fs cs).any Option.isNone || decide (k≤((jdp fs cs).filterMap id).sum)
noncomputable def endB (ps:Pg) (hs:List Hn) (h:Nat):Bool:=match hs[h]?,ps[h]? with
 |some x,some P=>match P[x.1]? with
  |some b=>decide (x.2.1=b.2.length)
  |none=>false
 |_,_=>false
noncomputable def Bs.see (ps:Pg) (hs:List Hn) (cs:List Ct):Bs→Bool
 |.notes fs k=>enB fs cs k
 |.at h b p=>match hs[h]? with
  |some x=>decide (x.1=b)&&decide (x.2.1=p)
  |none=>false
 |.ended h=>endB ps hs h
noncomputable def Bs.isN:Bs→Bool
 |.notes _ _=>true
 |_=>false
noncomputable def Sg:Nat→Type
 |0=>Bs
 |t+1=>Bs ⊕ ((Bool×List (Sg t)) ⊕ Sg t)
noncomputable def hdA (k:Bool):Str:=if k then "all" else "some"
noncomputable def Sg.d:(t:Nat)→Sg t→PyData
 |0,b=>Bs.d b
 |_+1,.inl b=>Bs.d b
 |t+1,.inr (.inl q)=>.tuple [.str (hdA q.1),.tuple (q.2.map (Sg.d t))]
 |t+1,.inr (.inr s)=>.tuple [.str "not",Sg.d t s]
noncomputable def Sg.ok (ps:Pg):(t:Nat)→Sg t→Prop
 |0,b=>Bs.ok ps b
 |_+1,.inl b=>Bs.ok ps b
 |t+1,.inr (.inl q)=>∀s∈q.2,Sg.ok ps t s
 |t+1,.inr (.inr s)=>Sg.ok ps t s
noncomputable def Sp:Nat→Type
 |0=>Bs
 |t+1=>Bs ⊕ (Bool×List (Sp t))
noncomputable def Sp.d:(t:Nat)→Sp t→PyData
 |0,b=>Bs.d b
 |_+1,.inl b=>Bs.d b
 |t+1,.inr q=>.tuple [.str (hdA q.1),.tuple (q.2.map (Sp.d t))]
noncomputable def Sp.ok (ps:Pg):(t:Nat)→Sp t→Prop
 |0,b=>Bs.ok ps b
 |_+1,.inl b=>Bs.ok ps b
 |t+1,.inr q=>∀s∈q.2,Sp.ok ps t s
noncomputable def Sp.see (ps:Pg) (hs:List Hn) (cs:List Ct):(t:Nat)→Sp t→Bool
 |0,b=>Bs.see ps hs cs b
 |_+1,.inl b=>Bs.see ps hs cs b
 |t+1,.inr q=>if q.1 then q.2.all (Sp.see ps hs cs t)else q.2.any (Sp.see ps hs cs t)
noncomputable def Sg.pl:(t:Nat)→Sg t→Sp t
 |0,b=>b
 |_+1,.inl b=>.inl b
 |t+1,.inr (.inl q)=>.inr (q.1,q.2.map (Sg.pl t))
 |t+1,.inr (.inr s)=>.inr (true,[Sg.pl t s])
theorem jt9 (ps:Pg):∀(t:Nat) (g:Sg t),Sg.ok ps t g→Sp.ok ps t (Sg.pl t g)
 |0,_,h=>h
 |_+1,.inl _,h=>h
 |t+1,.inr (.inl q),h=>fun s hs=>by
  obtain⟨g,hg,rfl⟩:=List.mem_map.mp hs
  exact jt9 ps t g (h g hg)
 |t+1,.inr (.inr s),h=>fun u hu=>by
  rw[List.mem_singleton.mp hu]
  exact jt9 ps t s h
noncomputable def Sp.subs:(t:Nat)→Sp t→List PyData
 |0,_=>[]
 |_+1,.inl _=>[]
 |t+1,.inr q=>q.2.map (Sp.d t)
noncomputable def Sg.bs:(t:Nat)→Bs→Sg t
 |0,b=>b
 |_+1,b=>.inl b
theorem j1c (t:Nat) (b:Bs):Sg.d t (Sg.bs t b)=b.d:=by cases t<;>rfl
theorem jyt (ps:Pg) (t:Nat) (b:Bs) (h:b.ok ps):Sg.ok ps t (Sg.bs t b):=by cases t<;>exact h
noncomputable def jka:DSp:=fun ws n Q=>∃(ps:Pg) (hs:List Hn) (d:PyData) (h:Nat),ws=[.d (pgD ps),.d (stD hs d),.d (.int h)]∧okHs ps hs∧h < ps.length∧∀r,jcb r=endB ps hs h→Q (.d r) n
noncomputable def jcm:DSp:=fun ws n Q=>∃(t:Nat) (g:Sp t),ws=[.d (Sp.d t g)]∧Q (.d (.tuple (Sp.subs t g))) n
noncomputable def jkb:DSp:=fun _ _ _=>False
noncomputable def jec:Nat→DSp
 |0=>fun _ _ _=>False
 |_+1=>fun ws n Q=>∃(ps:Pg) (hs:List Hn) (cs:List Ct) (b:Bs),ws=[.d (pgD ps),.d (stD hs (csD cs)),.d b.d]∧okHs ps hs∧b.ok ps∧b.isN=false∧Q (.d (.bool (b.see ps hs cs))) n
noncomputable def je5:DSp:=fun ws n Q=>∃(fs:List Fd) (cs:List Ct) (k:Nat),ws=[.d (csD cs),.d (patD fs),.d (.int k)]∧okP fs∧okCs cs∧Q (.d (.bool (enB fs cs k))) n
noncomputable def jbd:Nat→DSp
 |0=>fun _ _ _=>False
 |t+1=>fun ws n Q=>∃(ps:Pg) (hs:List Hn) (cs:List Ct) (g:Sp t),ws=[.d (pgD ps),.d (stD hs (csD cs)),.d (Sp.d t g)]∧okHs ps hs∧okCs cs∧Sp.ok ps t g∧Q (.d (.bool (Sp.see ps hs cs t g))) n
noncomputable def jbo:Nat→DSp
 |0=>fun _ _ _=>False
 |t+1=>fun ws n Q=>∃g:Sg t,ws=[.d (Sg.d t g)]∧Q (.d (Sp.d t (Sg.pl t g))) n
noncomputable def jpx:DSp:=fun ws n Q=>∃k:List Key,ws=[.d (rowD k)]∧Q (.d (.tuple (k.map fun v=>.tuple [.int (if isSt (DL.vD v)then 1 else 0),DL.vD v]))) n
noncomputable def jgr:DSp:=fun ws n Q=>∃(fs:List Fd) (row:List PyData),ws=[.d (patD fs),.d (.tuple row),.d (.tuple [])]∧okP fs∧okR row∧∀r,jcb r=!holds fs row→Q (.d r) n
noncomputable def jio:DSp:=fun ws n Q=>∃m:Nat,ws=[.tp,.d (.int m)]∧m≤6∧n+60 < 2 ^ 39∧∀(ns:List Nt) (n':Int),okNs ns→n'≤n+60→Q (.d (.tuple (ns.map ntD))) n'
noncomputable def jin:DSp:=fun ws n Q=>ws=[.tp]∧n+4000 < 2 ^ 39∧∀(ps:Pg) (n':Int),okPg ps→n'≤n+4000→Q (.d (pgD ps)) n'
noncomputable def jf4:DSp:=fun ws n Q=>∃(P:List Bl) (i p:Nat) (b:Bl),ws=[.d (prD P),.d (.int i),.d (.int p)]∧P[i]?=some b∧okB b∧p≤b.2.length∧∀ys:List Str,ys.length≤40→Q (.d (.list (ys.map .str))) n
noncomputable def jim:DSp:=fun ws n Q=>∃(ps:Pg) (m:Nat),ws=[.tp,.d (pgD ps),.d (.int m)]∧m≤6∧okPg ps∧n+400 < 2 ^ 39∧∀(hs:List Hn) (ns:List Nt) (n':Int),okHs ps hs→okNs ns→n'≤n+400→Q (.d (stD hs (.tuple (ns.map ntD)))) n'
noncomputable def sgB:Nat→Int
 |0=>20
 |t+1=>4*sgB t
noncomputable def jb3:Nat→DSp
 |0=>fun _ _ _=>False
 |t+1=>fun ws n Q=>∃ps:Pg,ws=[.tp,.d (pgD ps),.d (.int t)]∧okPg ps∧n+sgB t < 2 ^ 39∧∀(g:Sg t) (n':Int),Sg.ok ps t g→n'≤n+sgB t→Q (.d (Sg.d t g)) n'
noncomputable def jm8:DSp:=fun ws n Q=>∃cs:List Ct,ws=[.tp,.d (.list (cs.map ctD))]∧okCs cs∧0 < cs.length∧n+20 < 2 ^ 39∧∀(fs:List Fd) (k:Nat) (n':Int),okP fs→n'≤n+20→Q (.d (Bs.d (.notes fs k))) n'
noncomputable def jet:DST:=(sSeq (sSet 4 (w2 (wVar 0) (wC (.int (0))) gIx)) (sSeq (sIf (cT (w2 (wVar 4) (wC (.str "is")) gEq)) (sRet (w2 (w2 (wVar 0) (wC (.int (1))) gIx) (wVar 1) gEq)) jaw) (sSeq (sIf (cT (w2 (wVar 4) (wC (.str "word")) gEq)) (sRet (wIsi "str" (wVar 1))) jaw) (sSeq (sIf (cT (w2 (wVar 4) (wC (.str "number")) gEq)) (sRet (wIsi "int" (wVar 1))) jaw) (sSeq (sIf (cT (w2 (wVar 4) (wC (.str "as")) gEq)) (sRet (wAnd (w2 (w2 (wVar 0) (wC (.int (1))) gIx) (jdm 2) (gDIn false)) (w2 (w2 (jdm 2) (w2 (wVar 0) (wC (.int (1))) gIx) jk4) (wVar 1) gEq))) jaw) (sSeq (sIf (cT (w2 (wVar 4) (wC (.str "bind")) gEq)) (sRet (wOr (w2 (w2 (wVar 0) (wC (.int (1))) gIx) (jdm 3) (gDIn true)) (w2 (w2 (jdm 3) (w2 (wVar 0) (wC (.int (1))) gIx) jk4) (wVar 1) gEq))) jaw) (sRet (wC (.bool true)))))))))
noncomputable def jox:DST:=(sSeq (sIf (cT (w2 (wB gLen (jab (wVar 0) aNil)) (wB gLen (jab (wVar 1) aNil)) gNe)) (sRet (wC .none)) jaw) (sSeq (jne 3 (jmg (wVar 2))) (sSeq (jne 4 kNil) (sSeq (sFor (jsk (wVar 0) (wVar 1)) (je7 2 (jbc (jai 5) (jbc (jai 6) jc8))) (sSeq (sIf (cNot (cT (jaq S_ff (jab (wVar 5) (jab (wVar 6) (jab (jdm 3) (jab (jdm 4) aNil))))))) (sRet (wC .none)) jaw) (sIf (cT (w2 (w2 (wVar 5) (wC (.int (0))) gIx) (wC (.str "bind")) gEq)) (sSeq (jo2 4 (w2 (wVar 5) (wC (.int (1))) gIx) (wVar 6)) (jo2 3 (w2 (wVar 5) (wC (.int (1))) gIx) (wVar 6))) jaw))) (sRet (wB jcc (jab (wOf (jj7 (jdm 3))) aNil)))))))
noncomputable def jgn:DST:=(sSeq (sSet 3 (w2 (w2 (w2 (wVar 1) (wC (.int (0))) gIx) (wVar 2) gIx) (wC (.int (0))) gIx)) (sSeq (sSet 4 (w2 (w2 (w2 (wVar 1) (wC (.int (0))) gIx) (wVar 2) gIx) (wC (.int (1))) gIx)) (sSeq (sSet 5 (w2 (w2 (w2 (wVar 0) (wVar 2) gIx) (wVar 3) gIx) (wC (.int (1))) gIx)) (sRet (wIf (cT (w2 (wVar 4) (wB gLen (jab (wVar 5) aNil)) gLt)) (w2 (wVar 5) (wVar 4) gIx) (wC .none))))))
noncomputable def jd9:DST:=(sSeq (sIf (cT (w2 (w2 (wVar 0) (wC (.int (0))) gIx) (wTup (jab (wC (.str "all")) (jab (wC (.str "some")) aNil))) (gIn false))) (sRet (w2 (wVar 0) (wC (.int (1))) gIx)) jaw) (sRet (wIf (cT (w2 (w2 (wVar 0) (wC (.int (0))) gIx) (wC (.str "not")) gEq)) (wTup (jab (w2 (wVar 0) (wC (.int (1))) gIx) aNil)) (wTup aNil))))
noncomputable def jfg:DST:=(sRet (wB gLen (jab (wOf (jbz [none,some 0] (jcg (wVar 1)) (jai 0) (cT (w2 (jaq jiq (jab (wVar 1) (jab (w2 (wVar 0) (wC (.int (0))) gIx) (jab (wTup aNil) aNil)))) (wC .none) (gIsN true))) (wVar 0))) aNil)))
noncomputable def jti (Sf:DSp):DST:=(sSeq (sSet 3 (w2 (wVar 2) (wC (.int (0))) gIx)) (sSeq (sIf (cT (w2 (wVar 3) (wC (.str "notes")) (gXX fun d e=>some (PyData.eqv d e)))) (sRet (w2 (jaq jkb (jab (w2 (wVar 2) (wC (.int (1))) gIx) (jab (w2 (wVar 1) (wC (.int (1))) gIx) aNil))) (w2 (wVar 2) (wC (.int (2))) gIx) gGe)) jaw) (sSeq (sIf (cT (w2 (wVar 3) (wC (.str "at")) (gXX fun d e=>some (PyData.eqv d e)))) (sRet (w2 (jjm (w2 (w2 (wVar 1) (wC (.int (0))) gIx) (w2 (wVar 2) (wC (.int (1))) gIx) gIx) jpa (jo9 (wC (.int (2))))) (jjm (wVar 2) (jo9 (wC (.int (2)))) jpa) (gXX fun d e=>some (PyData.eqv d e)))) jaw) (sSeq (sIf (cT (w2 (wVar 3) (wC (.str "ended")) (gXX fun d e=>some (PyData.eqv d e)))) (sRet (w2 (jaq jka (jab (wVar 0) (jab (wVar 1) (jab (w2 (wVar 2) (wC (.int (1))) gIx) aNil)))) (wC .none) (gIsN false))) jaw) (sSeq (sSet 4 (wOf (jbz [none,some 0,some 1] (jcg (jaq jcm (jab (wVar 2) aNil))) (jai 0) cYes (jaq Sf (jab (wVar 1) (jab (wVar 2) (jab (wVar 0) aNil))))))) (sSeq (sIf (cT (w2 (wVar 3) (wC (.str "not")) (gXX fun d e=>some (PyData.eqv d e)))) (sRet (wNot (w2 (wVar 4) (wC (.int (0))) gIx))) jaw) (sRet (wIf (cT (w2 (wVar 3) (wC (.str "all")) (gXX fun d e=>some (PyData.eqv d e)))) (wB gAll (jab (wVar 4) aNil)) (wB gAny (jab (wVar 4) aNil))))))))))
noncomputable def jes:DST:=(sSeq (sSet 3 (wOf (jbz [none,some 1] (jcg (wVar 0)) (jai 0) (cT (w2 (jaq jiq (jab (wVar 1) (jab (w2 (wVar 0) (wC (.int (0))) gIx) (jab (wTup aNil) aNil)))) (wC .none) (gIsN true))) (w2 (wVar 0) (wC (.int (1))) gIx)))) (sRet (wOr (w2 (wC .none) (wVar 3) (gIn false)) (w2 (wB gSum (jab (wVar 3) aNil)) (wVar 2) gGe))))
noncomputable def jct (Sf:DSp):DST:=(sSeq (sSet 3 (w2 (wVar 2) (wC (.int (0))) gIx)) (sSeq (sIf (cT (w2 (wVar 3) (wC (.str "notes")) gEq)) (sRet (jaq je5 (jab (w2 (wVar 1) (wC (.int (1))) gIx) (jab (w2 (wVar 2) (wC (.int (1))) gIx) (jab (w2 (wVar 2) (wC (.int (2))) gIx) aNil))))) jaw) (sSeq (sIf (cT (w2 (wVar 3) (wTup (jab (wC (.str "at")) (jab (wC (.str "ended")) aNil))) (gIn false))) (sRet (jaq (jec 1) (jab (wVar 0) (jab (wVar 1) (jab (wVar 2) aNil))))) jaw) (sSeq (sSet 4 (wOf (jbz [none,some 1,some 0] (jcg (jaq jcm (jab (wVar 2) aNil))) (jai 0) cYes (jaq Sf (jab (wVar 2) (jab (wVar 1) (jab (wVar 0) aNil))))))) (sRet (wIf (cT (w2 (wVar 3) (wC (.str "all")) gEq)) (wB gAll (jab (wVar 4) aNil)) (wB gAny (jab (wVar 4) aNil))))))))
noncomputable def jeu:DST:=(sRet (w2 (wOf (fLst (jab (wC (.str "a")) (jab (wC (.int (0))) (jab (wC (.str "a")) (jab (wC (.int (1))) (jab (wC (.str "ab")) (jab (wC (.str "go")) (jab (wC (.int (99))) (jab (wC (.int (0))) aNil)))))))))) (jaq jau (jab (wVar 0) (jab (wC (.int (8))) aNil))) gIx))
noncomputable def jfr:DST:=(sRet (w2 (wOf (fLst (jab (wC (.int (1))) (jab (wC (.int (2))) (jab (wC (.int (2))) (jab (wC (.int (2))) (jab (wC (.int (1))) (jab (wC (.int (3))) (jab (wC (.int (4))) aNil))))))))) (jaq jau (jab (wVar 0) (jab (wC (.int (7))) aNil))) gIx))
noncomputable def jdr:DST:=(sSeq (sOwn 2 (fLst aNil)) (sSeq (sOwn 3 (fLst aNil)) (sSeq (sFor (jbh (jaq jfh (jab (wVar 0) aNil))) (jai 4) (sSeq (sSet 5 (jaq jau (jab (wVar 0) (jab (wC (.int (9))) aNil)))) (sSeq (sSet 6 (w2 (wVar 1) (jf5 3) gCat)) (sIf (cT (w2 (wVar 5) (wC (.int (3))) gLt)) (sApp 2 (wTup (jab (wC (.str "is")) (jab (jaq jc6 (jab (wVar 0) aNil)) aNil)))) (sIf (cT (w2 (wVar 5) (wC (.int (6))) gLt)) (sApp 2 (w2 (wOf (fLst (jab (wTup (jab (wC (.str "any")) aNil)) (jab (wTup (jab (wC (.str "word")) aNil)) (jab (wTup (jab (wC (.str "number")) aNil)) aNil))))) (w2 (wVar 5) (wC (.int (3))) (gI0 fun i j=>.int (i - j))) gIxL)) (sIf (cOr (cT (w2 (wVar 5) (wC (.int (8))) gLt)) (cT (w2 (wVar 6) (wOf (fLst aNil)) gEqL))) (sSeq (sSet 7 (w2 (wOf (fLst (jab (wC (.str "n")) (jab (wC (.str "nm")) (jab (wC (.str "go")) (jab (wC (.str "m")) aNil)))))) (jaq jau (jab (wVar 0) (jab (wC (.int (4))) aNil))) gIxL)) (sSeq (sApp 3 (wVar 7)) (sApp 2 (wTup (jab (wC (.str "bind")) (jab (wVar 7) aNil)))))) (sApp 2 (wTup (jab (wC (.str "as")) (jab (w2 (wVar 6) (jaq jau (jab (wVar 0) (jab (wB jf0 (jab (wVar 6) aNil)) aNil))) gIxL) aNil)))))))))) (sFrz 2 (sFrz 3 (sRet (wTup (jab (wB jcu (jab (wVar 2) aNil)) (jab (wVar 3) aNil)))))))))
noncomputable def jc4:DST:=(sSeq (sOwn 2 (fLst aNil)) (sSeq (sFor (jbh (jaq jfh (jab (wVar 0) aNil))) (jai 3) (sSeq (sSet 4 (jaq jau (jab (wVar 0) (jab (wC (.int (6))) aNil)))) (sIf (cOr (cT (w2 (wVar 4) (wC (.int (3))) gLt)) (cT (w2 (wVar 1) (wOf (fLst aNil)) gEqL))) (sApp 2 (wTup (jab (wC (.str "is")) (jab (jaq jc6 (jab (wVar 0) aNil)) aNil)))) (sApp 2 (wTup (jab (w2 (wOf (fLst (jab (wC (.str "as")) (jab (wC (.str "as")) (jab (wC (.str "next")) aNil))))) (w2 (wVar 4) (wC (.int (3))) (gI0 fun i j=>.int (i - j))) gIxL) (jab (w2 (wVar 1) (jaq jau (jab (wVar 0) (jab (wB jf0 (jab (wVar 1) aNil)) aNil))) gIxL) aNil))))))) (sFrz 2 (sRet (wB jcu (jab (wVar 2) aNil))))))
noncomputable def jfq:DST:=(sSeq (sIf (cOr (cT (w2 (wVar 1) (wOf (fLst aNil)) gEqL)) (cT (w2 (jaq jau (jab (wVar 0) (jab (wC (.int (2))) aNil))) (wC (.int (0))) gEqL))) (sRet (wTup (jab (wC (.str "is")) (jab (jaq jc6 (jab (wVar 0) aNil)) aNil)))) jaw) (sRet (wTup (jab (wC (.str "as")) (jab (w2 (wVar 1) (jaq jau (jab (wVar 0) (jab (wB jf0 (jab (wVar 1) aNil)) aNil))) gIxL) aNil)))))
noncomputable def jgp:DST:=(sSeq (sSet 3 (jaq jau (jab (wVar 0) (jab (wC (.int (12))) aNil)))) (sSeq (sIf (cT (w2 (wVar 3) (wC (.int (4))) gLt)) (sRet (wTup (jab (wTup (jab (wC (.str "lay")) (jab (jaq jm9 (jab (wVar 0) (jab (wVar 1) aNil))) (jab (w2 (wTp3 0) (jaq jau (jab (wVar 0) (jab (wB jf0 (jab (wTp3 0) aNil)) aNil))) gIxL) aNil)))) (jab (wOf (fLst aNil)) aNil)))) jaw) (sSeq (sSet 4 (w2 (wVar 2) (jaq jau (jab (wVar 0) (jab (wB jf0 (jab (wVar 2) aNil)) aNil))) gIxL)) (sSeq (sIf (cT (w2 (wVar 3) (wC (.int (10))) gEqL)) (sRet (wTup (jab (wTup (jab (wC (.str "same")) (jab (jaq jgq (jab (wVar 0) (jab (wVar 1) aNil))) (jab (jaq jgq (jab (wVar 0) (jab (wVar 1) aNil))) (jab (wVar 4) aNil))))) (jab (wOf (fLst aNil)) aNil)))) jaw) (sSeq (sIf (cT (w2 (wVar 3) (wC (.int (11))) gEqL)) (sRet (wTup (jab (wTup (jab (wC (.str "go")) (jab (wVar 4) aNil))) (jab (wOf (fLst aNil)) aNil)))) jaw) (sSeq (sUnp (jaq jgw (jab (wVar 0) (jab (wVar 1) aNil))) (je7 2 (jbc (jai 5) (jbc (jai 6) jc8)))) (sSeq (sIf (cT (w2 (wVar 3) (wC (.int (7))) gGt)) (sRet (wTup (jab (wTup (jab (wC (.str "look")) (jab (wVar 5) (jab (wVar 4) aNil)))) (jab (wVar 6) aNil)))) jaw) (sRet (wTup (jab (wTup (jab (w2 (wOf (fLst (jab (wC (.str "take")) (jab (wC (.str "take")) (jab (wC (.str "take")) (jab (wC (.str "read")) aNil)))))) (w2 (wVar 3) (wC (.int (4))) (gI0 fun i j=>.int (i - j))) gIxL) (jab (wVar 5) aNil))) (jab (wVar 6) aNil)))))))))))
noncomputable def jdq:DST:=(sSeq (sOwn 1 (fLst (jab (wTup aNil) aNil))) (sSeq (sFor (jbh (w2 (wOf (fLst (jab (wC (.int (0))) (jab (wC (.int (1))) (jab (wC (.int (2))) (jab (wC (.int (1))) (jab (wC (.int (0))) (jab (wC (.int (2))) (jab (wC (.int (5))) aNil))))))))) (jaq jau (jab (wVar 0) (jab (wC (.int (7))) aNil))) gIxL)) (jai 2) (sApp 1 (w2 (wOf (fLst (jab (wTup aNil) (jab (wTup (jab (wC (.str "n")) aNil)) (jab (wTup (jab (wC (.str "go")) (jab (wC (.str "n")) aNil))) (jab (wTup (jab (wC (.str "nm")) aNil)) (jab (wTup aNil) aNil))))))) (jaq jau (jab (wVar 0) (jab (wC (.int (5))) aNil))) gIxL))) (sSeq (sOwn 3 (fLst aNil)) (sFrz 1 (sSeq (sFor (jgc (wVar 1)) (jai 4) (sSeq (sOwn 5 (jfn (wVar 4))) (sSeq (sOwn 6 (fLst aNil)) (sSeq (sFor (jbh (w2 (wOf (fLst (jab (wC (.int (2))) (jab (wC (.int (3))) (jab (wC (.int (1))) (jab (wC (.int (4))) (jab (wC (.int (2))) (jab (wC (.int (0))) (jab (wC (.int (3))) (jab (wC (.int (8))) aNil)))))))))) (jaq jau (jab (wVar 0) (jab (wC (.int (8))) aNil))) gIxL)) (jai 2) (sSeq (sSet 8 (wOf (jbz [none,some 5,some 1] (jbh (wB jf0 (jab (wVar 1) aNil))) (jai 0) (cT (w2 (wOf (jbz [none,some 1] (jcg (w2 (wVar 2) (wVar 0) gIxL)) (jai 0) (cT (w2 (wVar 0) (wVar 1) (gInL true))) (wVar 0))) (wOf (fLst aNil)) gEqL)) (wVar 0)))) (sSeq (sUnp (jaq jip (jab (wVar 0) (jab (jf5 5) (jab (wVar 8) aNil)))) (je7 2 (jbc (jai 9) (jbc (jai 10) jc8)))) (sSeq (sApp 6 (wVar 9)) (sFor (jgc (wVar 10)) (jai 7) (sIf (cT (w2 (wVar 7) (jf5 5) (gInL true))) (sApp 5 (wVar 7)) jaw)))))) (sFrz 6 (sApp 3 (wTup (jab (wVar 4) (jab (wB jcu (jab (wVar 6) aNil)) aNil))))))))) (sFrz 3 (sRet (wB jcu (jab (wVar 3) aNil)))))))))
noncomputable def jex:DST:=(sSeq (sOwn 2 (fLst aNil)) (sSeq (sFor (jbh (jaq jau (jab (wVar 0) (jab (w2 (wVar 1) (wC (.int (1))) (gI0 fun i j=>.int (i+j))) aNil)))) (jai 3) (sSeq (sSet 4 (wB jcu (jab (wOf (jbz [none,some 0] (jbh (jaq jfh (jab (wVar 0) aNil))) (jai 0) cYes (jaq jc6 (jab (wVar 1) aNil)))) aNil))) (sApp 2 (wTup (jab (wVar 4) (jab (w2 (wTp3 0) (jaq jau (jab (wVar 0) (jab (wB jf0 (jab (wTp3 0) aNil)) aNil))) gIxL) aNil)))))) (sFrz 2 (sRet (wB jcu (jab (wVar 2) aNil))))))
noncomputable def jc5:DST:=(sSeq (sOwn 1 (jbz [none,some 0] (jbh (w2 (wOf (fLst (jab (wC (.int (2))) (jab (wC (.int (1))) (jab (wC (.int (2))) (jab (wC (.int (3))) (jab (wC (.int (2))) (jab (wC (.int (1))) (jab (wC (.int (0))) (jab (wC (.int (5))) aNil)))))))))) (jaq jau (jab (wVar 0) (jab (wC (.int (8))) aNil))) gIxL)) (jai 0) cYes (jaq jm7 (jab (wVar 1) aNil)))) (sSeq (sIf (cAnd (cT (w2 (wB jf0 (jab (jf5 1) aNil)) (wC (.int (2))) gEqL)) (cT (w2 (jaq jau (jab (wVar 0) (jab (wC (.int (4))) aNil))) (wC (.int (0))) gEqL))) (sPut 1 (wC (.int (1))) (w2 (jf5 1) (wC (.int (0))) gIxL)) jaw) (sFrz 1 (sRet (wB jcu (jab (wVar 1) aNil))))))
noncomputable def jey:DST:=(sSeq (sOwn 3 (jfn (w2 (w2 (wVar 0) (wVar 1) gIx) (wC (.int (0))) gIx))) (sSeq (sFor (jcg (jjm (w2 (w2 (wVar 0) (wVar 1) gIx) (wC (.int (1))) gIx) jpa (jo9 (wVar 2)))) (jai 4) (sIf (cT (w2 (w2 (wVar 4) (wC (.int (0))) gIx) (wTup (jab (wC (.str "take")) (jab (wC (.str "read")) (jab (wC (.str "look")) aNil)))) (gIn false))) (sExt 3 (wOf (jbz [none] (jcg (w2 (wVar 4) (wC (.int (1))) gIx)) (jai 0) (cT (w2 (w2 (wVar 0) (wC (.int (0))) gIx) (wC (.str "bind")) gEq)) (w2 (wVar 0) (wC (.int (1))) gIx)))) jaw)) (sFrz 3 (sRet (wOf (jk5 (wVar 3)))))))
noncomputable def jev:DST:=(sSeq (sOwn 3 (fLst aNil)) (sSeq (sFor (jcg (wVar 1)) (jai 4) (sSeq (sSet 5 (jaq jau (jab (wVar 0) (jab (wB gLen (jab (wVar 4) aNil)) aNil)))) (sSeq (sSet 6 (jaq jau (jab (wVar 0) (jab (w2 (wB gLen (jab (w2 (w2 (wVar 4) (wVar 5) gIx) (wC (.int (1))) gIx) aNil)) (wC (.int (1))) (gI0 fun i j=>.int (i+j))) aNil)))) (sSeq (sSet 7 (wB jcc (jab (wOf (jbz [none,some 0] (jgc (jaq jf4 (jab (wVar 4) (jab (wVar 5) (jab (wVar 6) aNil))))) (jai 0) cYes (wTup (jab (wVar 0) (jab (jaq jc6 (jab (wVar 1) aNil)) aNil))))) aNil))) (sApp 3 (wTup (jab (wVar 5) (jab (wVar 6) (jab (wVar 7) aNil))))))))) (sFrz 3 (sRet (wTup (jab (wB jcc (jab (wVar 3) aNil)) (jab (jaq jio (jab (wVar 0) (jab (wVar 2) aNil))) aNil)))))))
noncomputable def jea:DST:=(sSeq (sIf (cT (w2 (wB gLen (jab (wVar 0) aNil)) (wB gLen (jab (wVar 1) aNil)) gNe)) (sRet (wC .none)) jaw) (sSeq (jne 3 (jmg (wVar 2))) (sSeq (sOwn 4 (fLst aNil)) (sSeq (sFor (jsk (wVar 0) (wVar 1)) (je7 2 (jbc (jai 5) (jbc (jai 6) jc8))) (sSeq (sSet 7 (wC (.bool true))) (sSeq (sIf (cT (w2 (w2 (wVar 5) (wC (.int (0))) gIx) (wC (.str "is")) gEq)) (sSet 7 (w2 (w2 (wVar 5) (wC (.int (1))) gIx) (wVar 6) gEq)) (sIf (cT (w2 (w2 (wVar 5) (wC (.int (0))) gIx) (wTup (jab (wC (.str "word")) (jab (wC (.str "number")) aNil))) (gIn false))) (sSet 7 (w2 (wIsi "str" (wVar 6)) (w2 (w2 (wVar 5) (wC (.int (0))) gIx) (wC (.str "word")) gEq) gEq)) (sIf (cOr (cT (w2 (w2 (wVar 5) (wC (.int (0))) gIx) (wC (.str "as")) gEq)) (cAnd (cT (w2 (w2 (wVar 5) (wC (.int (0))) gIx) (wC (.str "bind")) gEq)) (cT (jjn 4 (w2 (wVar 5) (wC (.int (1))) gIx))))) (sSet 7 (wAnd (w2 (w2 (wVar 5) (wC (.int (1))) gIx) (jdm 3) (gDIn false)) (w2 (w2 (jdm 3) (w2 (wVar 5) (wC (.int (1))) gIx) jk4) (wVar 6) gEq))) (sIf (cT (w2 (w2 (wVar 5) (wC (.int (0))) gIx) (wC (.str "bind")) gEq)) (sSeq (sApp 4 (w2 (wVar 5) (wC (.int (1))) gIx)) (jo2 3 (w2 (wVar 5) (wC (.int (1))) gIx) (wVar 6))) jaw)))) (sIf (cNot (cT (wVar 7))) (sRet (wC .none)) jaw)))) (sRet (wB jcc (jab (wOf (jbz [none,some 3] (jgc (wOf (jmp (jdm 3)))) (jai 0) cYes (wTup (jab (wVar 0) (jab (w2 (jdm 1) (wVar 0) jk4) aNil))))) aNil)))))))
noncomputable def jew (Sf:DSp):DST:=(sSeq (sSet 3 (jaq jau (jab (wVar 0) (jab (wC (.int (8))) aNil)))) (sSeq (sIf (cAnd (cT (w2 (wVar 2) (wC (.int (0))) gGt)) (cT (w2 (wVar 3) (wC (.int (0))) gEq))) (sRet (wTup (jab (wC (.str "not")) (jab (jaq Sf (jab (wVar 0) (jab (wVar 1) (jab (w2 (wVar 2) (wC (.int (1))) (gI0 fun i j=>.int (i - j))) aNil)))) aNil)))) jaw) (sSeq (sIf (cAnd (cT (w2 (wVar 2) (wC (.int (0))) gGt)) (cT (w2 (wVar 3) (wC (.int (3))) gLt))) (sSeq (sSet 4 (wOf (jbz [none,some 2,some 1,some 0] (jbh (w2 (wOf (fLst (jab (wC (.int (2))) (jab (wC (.int (0))) (jab (wC (.int (1))) (jab (wC (.int (3))) aNil)))))) (jaq jau (jab (wVar 0) (jab (wC (.int (4))) aNil))) gIx)) (jai 0) cYes (jaq Sf (jab (wVar 3) (jab (wVar 2) (jab (w2 (wVar 1) (wC (.int (1))) (gI0 fun i j=>.int (i - j))) aNil))))))) (sRet (wTup (jab (w2 (wOf (fLst (jab (wC (.str "all")) (jab (wC (.str "some")) aNil)))) (w2 (wVar 3) (wC (.int (1))) (gI0 fun i j=>.int (i - j))) gIx) (jab (wB jcc (jab (wVar 4) aNil)) aNil))))) jaw) (sSeq (sIf (cAnd (cT (w2 (wB gLen (jab (wVar 1) aNil)) (wC (.int (0))) gGt)) (cT (w2 (wVar 3) (wC (.int (5))) gGt))) (sSeq (sSet 5 (jaq jau (jab (wVar 0) (jab (wB gLen (jab (wVar 1) aNil)) aNil)))) (sSeq (sIf (cT (w2 (wVar 3) (wC (.int (6))) gEq)) (sRet (wTup (jab (wC (.str "ended")) (jab (wVar 5) aNil)))) jaw) (sSeq (sSet 6 (jaq jau (jab (wVar 0) (jab (wB gLen (jab (w2 (wVar 1) (wVar 5) gIx) aNil)) aNil)))) (sRet (wTup (jab (wC (.str "at")) (jab (wVar 5) (jab (wVar 6) (jab (jaq jau (jab (wVar 0) (jab (w2 (wB gLen (jab (w2 (w2 (w2 (wVar 1) (wVar 5) gIx) (wVar 6) gIx) (wC (.int (1))) gIx) aNil)) (wC (.int (1))) (gI0 fun i j=>.int (i+j))) aNil))) aNil))))))))) jaw) (sSeq (sSet 7 (wOf (jbz [none] (jcg (w2 (jaq jgw (jab (wVar 0) (jab (wOf (fLst aNil)) aNil))) (wC (.int (0))) gIx)) (jai 0) cYes (wIf (cT (w2 (w2 (wVar 0) (wC (.int (0))) gIx) (wC (.str "as")) gEq)) (wTup (jab (wC (.str "bind")) (jab (w2 (wVar 0) (wC (.int (1))) gIx) aNil))) (wVar 0))))) (sRet (wTup (jab (wC (.str "notes")) (jab (wB jcc (jab (wVar 7) aNil)) (jab (w2 (wOf (fLst (jab (wC (.int (1))) (jab (wC (.int (2))) (jab (wC (.int (1))) (jab (wC (.int (3))) (jab (wC (.int (9))) aNil))))))) (jaq jau (jab (wVar 0) (jab (wC (.int (5))) aNil))) gIx) aNil))))))))))
noncomputable def jgo:DST:=(sRet (wB jcc (jab (wOf (jbz [none] (jcg (wVar 0)) (jai 0) cYes (wTup (jab (wB gInt (jab (wIsi "str" (wVar 0)) aNil)) (jab (wVar 0) aNil))))) aNil)))
noncomputable def jb7 (Sf:DSp):DST:=(sSeq (sIf (cT (w2 (w2 (wVar 0) (wC (.int (0))) gIx) (wC (.str "not")) gEq)) (sRet (wTup (jab (wC (.str "all")) (jab (wTup (jab (jaq Sf (jab (w2 (wVar 0) (wC (.int (1))) gIx) aNil)) aNil)) aNil)))) jaw) (sSeq (sIf (cT (w2 (w2 (wVar 0) (wC (.int (0))) gIx) (wTup (jab (wC (.str "all")) (jab (wC (.str "some")) aNil))) (gIn false))) (sRet (wTup (jab (w2 (wVar 0) (wC (.int (0))) gIx) (jab (wB jcc (jab (wOf (jbz [none] (jcg (w2 (wVar 0) (wC (.int (1))) gIx)) (jai 0) cYes (jaq Sf (jab (wVar 0) aNil)))) aNil)) aNil)))) jaw) (sRet (wVar 0))))
noncomputable def jfs:DST:=(sSeq (sSet 2 (w2 (w2 (wVar 1) (jaq jau (jab (wVar 0) (jab (wB gLen (jab (wVar 1) aNil)) aNil))) gIx) (wC (.int (0))) gIx)) (sSeq (sOwn 3 (fLst aNil)) (sSeq (sFor (jcg (wVar 2)) (jai 4) (sSeq (sSet 5 (wIf (cT (wIsi "str" (wVar 4))) (wTup (jab (wC (.str "word")) aNil)) (wTup (jab (wC (.str "number")) aNil)))) (sSeq (sSet 6 (wOf (fLst (jab (wTup (jab (wC (.str "any")) aNil)) (jab (wTup (jab (wC (.str "is")) (jab (wVar 4) aNil))) (jab (wVar 5) (jab (wTup (jab (wC (.str "bind")) (jab (wC (.str "n")) aNil))) (jab (wTup (jab (wC (.str "any")) aNil)) (jab (wTup (jab (wC (.str "bind")) (jab (wC (.str "n")) aNil))) aNil))))))))) (sApp 3 (w2 (wVar 6) (jaq jau (jab (wVar 0) (jab (wC (.int (6))) aNil))) gIx))))) (sFrz 3 (sRet (wTup (jab (wC (.str "notes")) (jab (wB jcc (jab (wVar 3) aNil)) (jab (w2 (wC (.int (1))) (jaq jau (jab (wVar 0) (jab (wC (.int (9))) aNil))) (gI0 fun i j=>.int (i+j))) aNil)))))))))
noncomputable def jdl (Sf:DSp):DST:=(sSeq (sIf (cT (w2 (w2 (wVar 2) (wC (.int (0))) gIx) (wC (.str "notes")) gEq)) (sSeq (sSet 3 (wOf (jbz [none,none,some 2] (jcg (w2 (wVar 1) (wC (.int (1))) gIx)) (je7 2 (jbc (jai 0) (jbc (jai 1) jc8))) (cT (w2 (jaq jgr (jab (w2 (wVar 2) (wC (.int (1))) gIx) (jab (wVar 0) (jab (wTup aNil) aNil)))) (wC .none) (gIsN true))) (wVar 1)))) (sRet (wOr (w2 (wC .none) (wVar 3) (gIn false)) (w2 (wB gSum (jab (wVar 3) aNil)) (w2 (wVar 2) (wC (.int (2))) gIx) gGe)))) jaw) (sSeq (sIf (cT (w2 (w2 (wVar 2) (wC (.int (0))) gIx) (wTup (jab (wC (.str "all")) (jab (wC (.str "some")) aNil))) (gIn false))) (sSeq (sSet 4 (wOf (jbz [none,some 1,some 0] (jcg (w2 (wVar 2) (wC (.int (1))) gIx)) (jai 0) cYes (jaq Sf (jab (wVar 2) (jab (wVar 1) (jab (wVar 0) aNil))))))) (sRet (wIf (cT (w2 (w2 (wVar 2) (wC (.int (0))) gIx) (wC (.str "all")) gEq)) (w2 (wC (.bool false)) (wVar 4) (gIn true)) (w2 (wC (.bool true)) (wVar 4) (gIn false))))) jaw) (sSeq (sUnp (w2 (w2 (wVar 1) (wC (.int (0))) gIx) (w2 (wVar 2) (wC (.int (1))) gIx) gIx) (je7 3 (jbc (jai 5) (jbc (jai 6) (jbc (jai 7) jc8))))) (sSeq (sIf (cT (w2 (w2 (wVar 2) (wC (.int (0))) gIx) (wC (.str "at")) gEq)) (sRet (wAnd (w2 (wVar 5) (w2 (wVar 2) (wC (.int (2))) gIx) gEq) (w2 (wVar 6) (w2 (wVar 2) (wC (.int (3))) gIx) gEq))) jaw) (sRet (w2 (wVar 6) (wB gLen (jab (w2 (w2 (w2 (wVar 0) (w2 (wVar 2) (wC (.int (1))) gIx) gIx) (wVar 5) gIx) (wC (.int (1))) gIx) aNil)) gEq))))))
noncomputable def j07:DST:=(sSeq (sSet 2 (jaq jin (jab (wVar 1) aNil))) (sSeq (sFor (jbh (wC (.int (8)))) (jai 3) (sSeq (sUnp (jaq jim (jab (wVar 1) (jab (wVar 2) (jab (wC (.int (6))) aNil)))) (je7 2 (jbc (jai 4) (jbc (jai 5) jc8)))) (sSeq (sOwn 6 (fLst aNil)) (sSeq (sFor (jgc (wOf (jnq jpx (wVar 5)))) (jai 7) (sApp 6 (wTup (jab (wVar 7) (jab (w2 (wOf (fLst (jab (wC (.int (1))) (jab (wC (.int (2))) (jab (wC (.int (3))) (jab (wC .none) (jab (wC (.int (1))) (jab (wC (.int (4))) (jab (wC (.int (9))) aNil))))))))) (jaq jau (jab (wVar 1) (jab (wC (.int (7))) aNil))) gIx) aNil))))) (sFrz 6 (sSeq (sSet 8 (wTup (jab (wVar 4) (jab (wB jcc (jab (wVar 6) aNil)) aNil)))) (sSeq (sSet 9 (jaq (jbo 3) (jab (jaq (jb3 3) (jab (wVar 1) (jab (wVar 2) (jab (wC (.int (2))) aNil)))) aNil))) (sSeq (sIf (cAnd (cT (w2 (wB gLen (jab (wVar 6) aNil)) (wC (.int (0))) gGt)) (cT (w2 (jaq jau (jab (wVar 1) (jab (wC (.int (2))) aNil))) (wC (.int (0))) gEq))) (sSet 9 (jaq jm8 (jab (wVar 1) (jab (wVar 6) aNil)))) jaw) (sIf (cT (w2 (wB jfc (jab (jaq (jbd 3) (jab (wVar 2) (jab (wVar 8) (jab (wVar 9) aNil)))) aNil)) (wB jfc (jab (jaq (jbd 3) (jab (wVar 2) (jab (wVar 8) (jab (wVar 9) aNil)))) aNil)) gNe)) (sRet (wC (.bool false))) jaw))))))))) (sRet (wC (.bool true)))))
theorem jix:∀ws n Q,S_ff ws n Q→ws.length=4:=fun ws n Q h=>by
 obtain⟨_,_,_,_,rfl,_⟩:=h
 rfl
theorem jh9:∀ws n Q,S_ff ws n Q→jet (jbk ["field","value","having","bound","head"] ws) n {nx:=fun _ n=>Q (.d .none) n,rt:=Q}:=fun ws n Q h=>by
 obtain⟨f,v,hp,bp,rfl,fok,hv,hh,hb,k⟩:=h
 show jet [some (.w (.d f.d)),some (.w (.d v)),some (.w (.dk (txK hp))),some (.w (.dk (txK bp))),none] n {nx:=fun _ n=>Q (.d .none) n,rt:=Q}
 cases f with
 |is w =>
  show(match eqD w v with | some r=>Q (.d (.bool r)) n | none=>False)
  rw[jst (show isV w=true from fok) hv]
  exact k
 |any=>exact k
 |word =>
  show Q (.d (.bool (isiB "str" v))) n
  cases v<;>exact k
 |number =>
  show Q (.d (.bool (isiB "int" v))) n
  cases v<;>first | cases hv | exact k
 |as x =>
  show jlf (.d (.bool (valD (txK hp) (.inr x)).isSome)) (match valD (txK hp) (.inr x)with | some d=>(match eqD d v with | some r=>Q (.d (.bool r)) n | none=>False) | none=>False) (Q (.d (.bool false)) n)
  rw[jll]
  unfold ffB at k
  cases e:look hp x with
  |none =>
   simp only[e]at k
   exact k
  |some w =>
   simp only[e]at k
   show(match eqD w v with | some r=>Q (.d (.bool r)) n | none=>False)
   rw[jst (hh _ (jdv e)).2 hv]
   exact k
 |bind x =>
  show jlf (.d (.bool (!(valD (txK bp) (.inr x)).isSome))) (Q (.d (.bool true)) n) (match valD (txK bp) (.inr x)with | some d=>(match eqD d v with | some r=>Q (.d (.bool r)) n | none=>False) | none=>False)
  rw[jll]
  unfold ffB at k
  cases e:look bp x with
  |none =>
   simp only[e]at k
   exact k
  |some w =>
   simp only[e]at k
   show(match eqD w v with | some r=>Q (.d (.bool r)) n | none=>False)
   rw[jst (hb _ (jdv e)).2 hv]
   exact k
theorem j0r {p:Prop} [Decidable p] {A B:Prop} (h1:p→A) (h2:¬p→B):if decide p=true then A else B:=by
 by_cases z:p
 ·rw[if_pos (decide_eq_true z)];exact h1 z
 ·rw[if_neg (by rw[decide_eq_false z];exact Bool.false_ne_true)];exact h2 z
section
variable {δ:Sl} {n:Int} {K:DEnds} {W V:DST} {Q:DQ}
theorem jxs {i j n:Int} {Q:DQ} (k:Q (.d (.bool (!decide (i=j)))) n):gNe (.d (.int i)) (.d (.int j)) n Q:=k
theorem jvx {xs ys:List PyData} (e0:δ[0]?=some (some (.w (.d (.tuple xs))))) (e1:δ[1]?=some (some (.w (.d (.tuple ys))))) (hT:xs.length≠ys.length→W δ n K) (hF:xs.length=ys.length→V δ n K) :
  sIf (cT (w2 (wB gLen (jab (wVar 0) aNil)) (wB gLen (jab (wVar 1) aNil)) gNe)) W V δ n K:=by
 unfold sIf cT w2 wB jab aNil
 refine jaf e0 ?_
 show wVar 1 δ n _
 refine jaf e1 ?_
 dsimp only[gLen]
 refine jxs ?_
 refine ifb (fun h=>hT fun z=>?_) fun h=>hF ?_
 ·rw[z,decide_eq_true rfl]at h;cases h
 ·by_cases z:(xs.length:Int)=(ys.length:Int)
  ·exact Int.ofNat.inj z
  ·rw[decide_eq_false z]at h;cases h
theorem j1o {g:Fd} {v:PyData} {hp bp:Nm} (e5:δ[5]?=some (some (.w (.d g.d)))) (e6:δ[6]?=some (some (.w (.d v)))) (e3:δ[3]?=some (some (.odk (txK hp)))) (e4:δ[4]?=some (some (.odk (txK bp)))) (gok:g.ok) (hv:isV v=true) (hh:∀p∈hp,okV p) (hb:∀p∈bp,okV p)
  (hT:ffB g v hp bp=false→W δ n K) (hF:ffB g v hp bp=true→V δ n K):sIf (cNot (cT (jaq S_ff (jab (wVar 5) (jab (wVar 6) (jab (jdm 3) (jab (jdm 4) aNil))))))) W V δ n K:=by
 unfold sIf cNot cT jaq jab aNil
 refine jaf e5 ?_
 refine jaf e6 ?_
 unfold jdm
 simp only[e3,e4]
 refine⟨g,v,hp,bp,rfl,gok,hv,hh,hb,?_⟩
 refine ifb (fun h=>hT ?_) fun h=>hF ?_
 ·cases q:ffB g v hp bp with | false=>rfl | true=>rw[q]at h;cases h
 ·cases q:ffB g v hp bp with | true=>rfl | false=>rw[q]at h;cases h
variable {xs:List PyData} {j:Nat} {a b v:PyData} {r:List PyData}
end
noncomputable def Res (gs:List Fd) (vs:List PyData) (hp:Nm) (hs:List Str) (r:PyData):Prop:=match wk (gs.zip vs) hp hs with
 |none=>r=.none
 |some _=>jcb r=false
theorem jy3 {g:Fd} {v:PyData} {gs:List Fd} {vs:List PyData} {hp bp:Nm} {hs:List Str} (h1:∀x,x∈hs↔(look bp x).isSome=true) (h2:∀x w,look bp x=some w→look hp x=some w) (h:ffB g v hp bp=false):Res (g::gs) (v::vs) hp hs .none:=by
 have key:wk ((g,v)::gs.zip vs) hp hs=none:=by
  cases g with
  |is w=>unfold wk;rw[if_neg (by rw[show eqB w v=false from h];exact Bool.false_ne_true)]
  |any=>cases h
  |word=>unfold wk;rw[if_neg (by rw[show isSt v=false from h];exact Bool.false_ne_true)]
  |number=>unfold wk;rw[if_neg (by rw[show isIn v=false from h];exact Bool.false_ne_true)]
  |as x =>
   unfold wk
   unfold ffB at h
   cases q:look hp x with
   |none=>rfl
   |some w =>
    simp only[q]at h
    simp only[h,Bool.false_eq_true,if_false]
  |bind x =>
   unfold wk
   unfold ffB at h
   cases q:look bp x with
   |none=>simp only[q]at h;cases h
   |some w =>
    simp only[q]at h
    rw[if_pos ((h1 x).mpr (by rw[q];rfl)),h2 x w q]
    simp only[h,Bool.false_eq_true,if_false]
 unfold Res
 rw[List.zip_cons_cons,key]
theorem jya {g:Fd} {v:PyData} {l:List (Fd×PyData)} {hp bp:Nm} {hs:List Str} (ng:∀x,g≠.bind x) (h:ffB g v hp bp=true):wk ((g,v)::l) hp hs=wk l hp hs:=by
 cases g with
 |is w=>rw[wk,if_pos (show eqB w v=true from h)]
 |any=>rw[wk]
 |word=>rw[wk,if_pos (show isSt v=true from h)]
 |number=>rw[wk,if_pos (show isIn v=true from h)]
 |as x =>
  rw[wk]
  unfold ffB at h
  cases q:look hp x with
  |none=>simp only[q]at h;cases h
  |some w =>
   simp only[q]at h
   simp only[h,if_true]
 |bind x=>exact absurd rfl (ng x)
theorem jhx (x:Str):∀hs:List Str,inD (.str x) (hs.map .str)=decide (x∈hs)
 |[]=>by simp[inD]
 |y::r=>by
  show(eqF (.str y) (.str x) || inD (.str x) (r.map .str))=_
  rw[jhx x r]
  have e:eqF (.str y) (.str x)=decide (x=y):=by
   show(y==x)=_
   by_cases z:x=y
   ·subst z;rw[decide_eq_true rfl];exact beq_self_eq_true _
   ·rw[decide_eq_false z];exact beq_eq_false_iff_ne.mpr fun w=>z w.symm
  rw[e]
  by_cases z:x=y
  ·subst z;simp
  ·rw[decide_eq_false z,Bool.false_or]
   by_cases q:x∈r
   ·rw[decide_eq_true q,decide_eq_true (List.mem_cons_of_mem _ q)]
   ·rw[decide_eq_false q,decide_eq_false (by simp[z,q])]
theorem jum {hp:Nm} (nd:(hp.map (·.1)).Nodup) {p:Str×PyData} (h:p∈hp):look hp p.1=some p.2:=by
 cases q:look hp p.1 with
 |none =>
  have a:=jkq hp p.1
  rw[q]at a
  have b:(hp.any fun q=>decide (q.1=p.1))=true:=List.any_eq_true.mpr ⟨p,h,decide_eq_true rfl⟩
  rw[b]at a
  cases a
 |some v =>
  have hm:=jdv q
  obtain⟨i,hi⟩:=List.mem_iff_getElem?.mp h
  obtain⟨j,hj⟩:=List.mem_iff_getElem?.mp hm
  have a1:(hp.map (·.1))[i]?=some p.1:=by rw[List.getElem?_map,hi];rfl
  have a2:(hp.map (·.1))[j]?=some p.1:=by rw[List.getElem?_map,hj];rfl
  obtain⟨b1,b2⟩:=List.getElem?_eq_some_iff.mp a1
  obtain⟨c1,c2⟩:=List.getElem?_eq_some_iff.mp a2
  have:=(List.getElem_inj nd).mp (b2.trans c2.symm)
  rw[this,hj]at hi
  have:=Option.some.inj hi
  rw[←this]
theorem jzq {δ:Sl} {n:Int} {K:DEnds} {i:Nat} (k:K.nx (δ.set i (some (.odk (txK [])))) n):jne i kNil δ n K:=k
theorem own0 {δ:Sl} {n:Int} {K:DEnds} {i j:Nat} (e:δ[j]?=some (some (.w (.d (.tuple []))))) (k:K.nx (δ.set i (some (.odk (txK [])))) n):jne i (jmg (wVar j)) δ n K:=by
 unfold jne jmg
 exact jaf e ⟨rfl,k⟩
theorem jsp {δ:Sl} {n:Int} {K:DEnds} {g:DTG} {W:DST} {xs ys:List PyData} (e0:δ[0]?=some (some (.w (.d (.tuple xs))))) (e1:δ[1]?=some (some (.w (.d (.tuple ys))))) (hl:xs.length=ys.length) (k:forD g W K (zipD xs ys) δ n):sFor (jsk (wVar 0) (wVar 1)) g W δ n K:=by
 unfold sFor jsk
 exact jaf e0 (jaf e1 ⟨hl,k⟩)
theorem juq:∀ws n Q,jiq ws n Q→ws.length=3:=fun ws n Q h=>by
 obtain⟨_,_,rfl,_⟩:=h
 rfl
theorem jte:∀ws n Q,jiq ws n Q→jox (jbk ["pattern","row","names","having","bound","field","value"] ws) n {nx:=fun _ n=>Q (.d .none) n,rt:=Q}:=fun ws n Q h=>by
 obtain⟨fs,row,rfl,okp,okr,k⟩:=h
 have okn:okN []:=⟨Nat.zero_le _,by simp,fun p hp=>by simp at hp⟩
 show jox [some (.w (.d (patD fs))),some (.w (.d (.tuple row))),some (.w (.d (PyData.tuple []))),none,none,none,none] n {nx:=fun _ n=>Q (.d .none) n,rt:=Q}
 unfold jox
 refine jam (jvx (xs:=fs.map Fd.d) (ys:=row) rfl rfl (fun ne=>?_) fun el=>?_)
 ·show Q (.d .none) n
  refine k .none ?_
  unfold Fit
  rw[List.length_map]at ne
  rw[if_neg ne]
 ·rw[List.length_map]at el
  dsimp only[jaw]
  refine jam (own0 rfl ?_)
  dsimp only[List.set]
  refine jam (jzq ?_)
  dsimp only[List.set]
  refine jam (jsp (xs:=fs.map Fd.d) (ys:=row) rfl rfl (by rw[List.length_map];exact el) ?_)
  refine jbw (fun ds δ m=>m=n∧∃(gs:List Fd) (vs:List PyData) (hp bp:Nm) (hs:List Str) (y z:Option SV),ds=zipD (gs.map Fd.d) vs∧gs.length=vs.length∧δ=[some (.w (.d (patD fs))),some (.w (.d (.tuple row))),some (.w (.d (PyData.tuple []))),some (.odk (txK hp)),some (.odk (txK bp)),y,z] ∧
   (∀g∈gs,g.ok)∧(∀d∈vs,isV d=true)∧(hp.map (·.1)).Nodup∧(∀p∈hp,okV p)∧(∀p∈bp,okV p)∧hp.length+gs.length≤16∧bp.length+gs.length≤16∧(∀x,x∈hs↔(look bp x).isSome=true)∧(∀x w,look bp x=some w→look hp x=some w)∧∀r,Res gs vs hp hs r→Q (.d r) n) ?_ ?_ _ _ _ ?_
  ·rintro δ m ⟨rfl,gs,vs,hp,bp,hs,y,z,e,hl,rfl,gok,vok,nd,hok,bok,l1,l2,i1,i2,kq⟩
   have:gs=[]:=by
    cases gs with
    |nil=>rfl
    |cons g gs=>cases vs with | nil=>cases hl | cons v vs=>cases e
   subst this
   rw[List.length_nil]at l1
   show ∃ps':Nm,txK hp=txK ps'∧_
   refine⟨hp,rfl,by omega,nd,fun p hp'=>⟨Nat.le_trans (hok p hp').1.1 (by decide),j0l (hok p hp').2⟩,fun ps' p1 r1=>?_⟩
   exact kq (.tuple (ps'.map jzo)) rfl
  ·rintro d r δ m N ⟨rfl,gs,vs,hp,bp,hs,y,z,e,hl,rfl,gok,vok,nd,hok,bok,l1,l2,i1,i2,kq⟩ hN
   cases gs with
   |nil=>cases e
   |cons g gs =>
    cases vs with
    |nil=>cases hl
    |cons v vs =>
     have e1:d=.tuple [g.d,v]:=by have:=congrArg (fun l=>l.head?) e;simpa[zipD]using this
     have e2:r=zipD (gs.map Fd.d) vs:=by have:=congrArg List.tail e;simpa[zipD]using this
     subst e1 e2
     rw[List.length_cons]at l1 l2
     rw[List.length_cons,List.length_cons]at hl
     have gk:=gok g List.mem_cons_self
     have vk:=vok v List.mem_cons_self
     refine⟨rfl,?_⟩
     dsimp only[jbc,jai,jc8,List.set]
     refine jam (j1o rfl rfl rfl rfl gk vk hok bok (fun ff=>?_) fun ff=>?_)
     ·exact kq .none (jy3 i1 i2 ff)
     ·dsimp only[jaw]
      have go:(∀x,g≠.bind x)→N [some (.w (.d (patD fs))),some (.w (.d (.tuple row))),some (.w (.d (PyData.tuple []))),some (.odk (txK hp)),some (.odk (txK bp)),some (.w (.d g.d)),some (.w (.d v))] m:=fun ng=>by
       refine hN _ _ ⟨rfl,gs,vs,hp,bp,hs,_,_,rfl,by omega,rfl,fun g hg=>gok g (List.mem_cons_of_mem _ hg),fun d hd=>vok d (List.mem_cons_of_mem _ hd),nd,hok,bok,by omega,by omega,i1,i2,fun r hr=>kq r ?_⟩
       unfold Res at hr ⊢
       rw[List.zip_cons_cons,jya ng ff]
       exact hr
      cases g with
      |is w=>exact go fun x z=>nomatch z
      |any=>exact go fun x z=>nomatch z
      |word=>exact go fun x z=>nomatch z
      |number=>exact go fun x z=>nomatch z
      |as x=>exact go fun x z=>nomatch z
      |bind x =>
       refine jpe (a:=.str "bind") (r:=[.str x]) rfl jej ?_
       show(txK bp).length < 1000∧(txK hp).length < 1000∧N [some (.w (.d (patD fs))),some (.w (.d (.tuple row))),some (.w (.d (PyData.tuple []))),some (.odk (putD (txK hp) (.inr x) v)),some (.odk (putD (txK bp) (.inr x) v)),some (.w (.d (Fd.d (.bind x)))),some (.w (.d v))] m
       rw[jre,jre]
       refine⟨by unfold txK;rw[List.length_map];omega,by unfold txK;rw[List.length_map];omega,?_⟩
       have p1:=jni hp x v
       have p2:=jni bp x v
       refine hN _ _ ⟨rfl,gs,vs,put hp x v,put bp x v,if x∈hs then hs else hs++[x],_,_,rfl,by omega,rfl,fun g hg=>gok g (List.mem_cons_of_mem _ hg),fun d hd=>vok d (List.mem_cons_of_mem _ hd),jvq nd,jrf hok gk vk,jrf bok gk vk,by omega,by omega,fun y=>?_,fun y w hw=>?_,fun r hr=>kq r ?_⟩
       ·by_cases q:y=x
        ·subst q
         rw[jfy]
         refine⟨fun _=>rfl,fun _=>?_⟩
         split
         ·assumption
         ·exact List.mem_append_right _ (List.mem_singleton.mpr rfl)
        ·rw[jht q,←i1]
         split
         ·exact Iff.rfl
         ·simp[q]
       ·by_cases q:y=x
        ·subst q
         rw[jfy]at hw ⊢
         exact hw
        ·rw[jht q]at hw ⊢
         exact i2 y w hw
       ·unfold Res at hr ⊢
        rw[List.zip_cons_cons,wk]
        by_cases q:x∈hs
        ·rw[if_pos q]at hr ⊢
         cases lb:look bp x with
         |none=>rw[i1,lb]at q;cases q
         |some w =>
          have lh:=i2 x w lb
          unfold ffB at ff
          simp only[lb]at ff
          have wv:w=v:=j0p (bok _ (jdv lb)).2 vk ff
          subst wv
          rw[jt5 nd lh]at hr
          simp only[lh,ff,if_true]
          exact hr
        ·rw[if_neg q]at hr ⊢
         exact hr
  ·refine⟨rfl,fs,row,[],[],[],none,none,rfl,el,rfl,okp.2.2,okr.2,okn.2.1,okn.2.2,fun _ z=>absurd z List.not_mem_nil,by have:=okp.2.1;have:=okn.1;omega,by have:=okp.2.1;simp;omega,fun x=>⟨fun z=>absurd z List.not_mem_nil,fun z=>by cases z⟩,fun x w z=>(nomatch z),fun r hr=>k r ?_⟩
   unfold Fit
   rw[if_pos el]
   exact hr
section
variable {δ:Sl} {n:Int} {Q:DQ} {K:DEnds} {W V:DST} {i j:Nat} {a b d:PyData} {r ds:List PyData}
end
section
variable {δ:Sl} {n m:Int} {Q:DQ} {K:DEnds} {W V:DST} {i j:Nat} {ds:List PyData}
end
theorem jiy:∀ws n Q,jc6 ws n Q→ws.length=1:=fun ws n Q h=>by obtain⟨rfl,_⟩:=h;rfl
theorem jib:∀ws n Q,jc6 ws n Q→jeu (jbk ["_law_tape_here"] ws) n {nx:=fun _ n=>Q (.d .none) n,rt:=Q}:=fun ws n Q h=>by
 obtain⟨rfl,hn,k⟩:=h
 show jeu [some (.w .tp)] n _
 refine jbu (w2_i (of_i (And.intro (by decide) ?_)))
 dsimp only
 refine jdx (m:=8) rfl (by omega) (by decide) (by decide) fun r h0 h1=>jfz (ds:=[.str "a",.int 0,.str "a",.int 1,.str "ab",.str "go",.int 99,.int 0]) h0 h1 fun d hd=>k d ?_
 simp only[List.mem_cons,List.not_mem_nil,or_false]at hd
 rcases hd with rfl | rfl | rfl | rfl | rfl | rfl | rfl | rfl<;>simp[jtn]
theorem jkt:∀ws n Q,jfh ws n Q→ws.length=1:=fun ws n Q h=>by obtain⟨rfl,_⟩:=h;rfl
theorem jjj:∀ws n Q,jfh ws n Q→jfr (jbk ["_law_tape_here"] ws) n {nx:=fun _ n=>Q (.d .none) n,rt:=Q}:=fun ws n Q h=>by
 obtain⟨rfl,hn,k⟩:=h
 show jfr [some (.w .tp)] n _
 refine jbu (w2_i (of_i (And.intro (by decide) ?_)))
 dsimp only
 refine jdx (m:=7) rfl (by omega) (by decide) (by decide) fun r h0 h1=>jfz (ds:=[.int 1,.int 2,.int 2,.int 2,.int 1,.int 3,.int 4]) h0 h1 fun d hd=>?_
 simp only[List.mem_cons,List.not_mem_nil,or_false]at hd
 rcases hd with rfl | rfl | rfl | rfl | rfl | rfl | rfl
 ·exact k 1 (by decide) (by decide)
 ·exact k 2 (by decide) (by decide)
 ·exact k 2 (by decide) (by decide)
 ·exact k 2 (by decide) (by decide)
 ·exact k 1 (by decide) (by decide)
 ·exact k 3 (by decide) (by decide)
 ·exact k 4 (by decide) (by decide)
theorem jy1 {δ:Sl} {n:Int} {K:DEnds} {W:DST} {g:DTG} (e:δ[0]?=some (some (.w .tp))) (hn:n < 2 ^ 39) (k:∀m:Nat,1≤m→m≤4→forD g W K (rngD 0 m) δ (n+1)):sFor (jbh (jaq jfh (jab (wVar 0) aNil))) g W δ n K:=by
 unfold sFor jbh
 refine c1_i (jaf e (And.intro rfl ⟨hn,fun m h1 h4=>?_⟩))
 refine And.intro ⟨by omega,by omega⟩ ?_
 rw[Int.toNat_natCast]
 exact k m h1 h4
section
variable {δ:Sl} {n m:Int} {Q:DQ} {K:DEnds} {W V:DST} {i j:Nat} {ds:List PyData}
end
theorem jnu {c:DTT} {w:DT} {Q:List PyData→Int→Prop} {rest:Sl} (g:Fe→Option PyData) (hno:∀(f:Fe) (n:Int) (Q':Bool→Int→Prop),g f=none→Q' false n→c (some (.w (.d f.d))::rest) n Q')
  (hyes:∀(f:Fe) (n:Int) (Q':Bool→Int→Prop) (y:PyData),g f=some y→Q' true n→c (some (.w (.d f.d))::rest) n Q') (hw:∀(f:Fe) (n:Int) (Q':DQ) (y:PyData),g f=some y→Q' (.d y) n→w (some (.w (.d f.d))::rest) n Q') :
  ∀(fs:List Fe) (acc:List PyData) (x:Option SV) (n:Int),Q (acc++fs.filterMap g) n→jcy (jai 0) c w Q (fs.map Fe.d) acc (x::rest) n
 |[],acc,x,n,q=>by
  rw[List.filterMap_nil,List.append_nil]at q
  exact q
 |f::r,acc,x,n,q=>by
  rw[List.map_cons]
  simp only[jcy,jai,List.set_cons_zero]
  cases e:g f with
  |none =>
   refine hno f n _ e ?_
   rw[if_neg Bool.false_ne_true]
   refine jnu g hno hyes hw r acc _ n ?_
   rw[List.filterMap_cons_none e]at q
   exact q
  |some y =>
   refine hyes f n _ y e ?_
   rw[if_pos rfl]
   refine hw f n _ y e ?_
   refine jnu g hno hyes hw r (acc++[y]) _ n ?_
   rw[List.filterMap_cons_some e]at q
   rw[List.append_assoc]
   exact q
noncomputable def strO (o:Option Str):Option PyData:=o.map .str
theorem jtp (g:Fe→Option Str) (fs:List Fe):fs.filterMap (fun f=>strO (g f))=(fs.filterMap g).map .str:=by
 rw[List.map_filterMap]
 rfl
theorem j15 (f:Fe):jav "bind" (.str f.hd)=f.bd.isSome:=by
 cases f with
 |any=>exact(show jav "bind" (.str "any")=false by decide +kernel)
 |word=>exact(show jav "bind" (.str "word")=false by decide +kernel)
 |num=>exact(show jav "bind" (.str "number")=false by decide +kernel)
 |isv _=>exact(show jav "bind" (.str "is")=false by decide +kernel)
 |bind _=>exact(show jav "bind" (.str "bind")=true by decide +kernel)
 |as _=>exact(show jav "bind" (.str "as")=false by decide +kernel)
 |nx _=>exact(show jav "bind" (.str "next")=false by decide +kernel)
theorem j14 {f:Fe} {k:Str} (h:f.bd=some k):f.d=.tuple [.str f.hd,.str k]:=by
 cases f<;>cases h
 rfl
theorem jlp {o:Option Str} {y:PyData} (h:strO o=some y):∃k,o=some k∧y=.str k:=by
 cases o with
 |none=>cases h
 |some k=>cases h;exact⟨k,rfl,rfl⟩
theorem jql {o:Option Str} (h:strO o=none):o=none:=by
 cases o with
 |none=>rfl
 |some k=>cases h
theorem jui {fs:List Fe} (h:okFs fs):∀k∈bndE fs,okK k:=fun k hk=>by
 obtain⟨f,hf,e⟩:=List.mem_filterMap.mp hk
 have:=h.2 f hf
 cases f<;>cases e
 exact this
theorem jun {fs:List Fe} (h:okFs fs):(bndE fs).length≤4:=Nat.le_trans (List.length_filterMap_le _ _) h.1
theorem j0a {δ:Sl} {n:Int} {Q:DQ} {a b:PyData} (e:δ[0]?=some (some (.w (.d (.tuple [a,b]))))) (k:Q (.d b) n):w2 (wVar 0) (wC (.int 1)) gIx δ n Q:=jc0 (r:=[]) e k
theorem jv7 {f:Fe} {rest:Sl} {n:Int} {Q':Bool→Int→Prop} (k:Q' f.bd.isSome n):cT (w2 (w2 (wVar 0) (wC (.int 0)) gIx) (wC (.str "bind")) gEq) (some (.w (.d f.d))::rest) n Q':=by
 refine jgh (i:=0) (a:=.str f.hd) (r:=f.tl) rfl ?_
 show Q' (jav "bind" (.str f.hd)) n
 rw[j15]
 exact k
theorem jpo {Q:List PyData→Int→Prop} (fs:List Fe) (n:Int) (k:Q ((bndE fs).map .str) n) :
  jcy (jai 0) (cT (w2 (w2 (wVar 0) (wC (.int 0)) gIx) (wC (.str "bind")) gEq)) (w2 (wVar 0) (wC (.int 1)) gIx) Q (fs.map Fe.d) [] [none] n:=by
 refine jnu (fun f=>strO f.bd) (fun f n Q' e q=>jv7 ?_) (fun f n Q' y e q=>jv7 ?_) (fun f n Q' y e q=>?_) fs [] none n ?_
 ·rw[jql e];exact q
 ·obtain⟨x,e1,_⟩:=jlp e;rw[e1];exact q
 ·obtain⟨x,e1,rfl⟩:=jlp e
  exact j0a (by rw[j14 e1];rfl) q
 ·rw[jtp];exact k
theorem j0z {a:Ac} (h:okFs a.fs):(∀k∈a.bs,okK k)∧a.bs.length≤4:=by
 cases a with
 |take fs=>exact⟨jui h,jun h⟩
 |read fs=>exact⟨jui h,jun h⟩
 |look fs b=>exact⟨jui h,jun h⟩
 |lay fs b=>exact⟨fun k hk=>by simp[Ac.bs]at hk,by simp[Ac.bs]⟩
 |same f g b=>exact⟨fun k hk=>by simp[Ac.bs]at hk,by simp[Ac.bs]⟩
 |go b=>exact⟨fun k hk=>by simp[Ac.bs]at hk,by simp[Ac.bs]⟩
theorem jl9:∀{ys ks:List Str},ys.Nodup→(∀k∈ys,k∈ks)→ys.length≤ks.length
 |[],_,_,_=>Nat.zero_le _
 |y::ys,ks,h,hs=>by
  obtain⟨h1,h2⟩:=List.nodup_cons.mp h
  have hm:=hs y List.mem_cons_self
  have:=jl9 (ks:=ks.erase y) h2 fun k hk=>(List.mem_erase_of_ne (fun(e:k=y)=>h1 (e▸hk))).mpr (hs k (List.mem_cons_of_mem _ hk))
  rw[List.length_erase_of_mem hm]at this
  have:=List.length_pos_of_mem hm
  rw[List.length_cons]
  omega
structure KnI (w:List Str) (dn:List Ac) (L:List Str):Prop where
 mem:∀k,k∈L↔k∈w++dn.flatMap Ac.bs
 len:L.length≤2+4*dn.length
 ok:∀k∈L,okK k
theorem KnI.first {w:List Str} (h:w.length≤2) (ok:∀k∈w,okK k):KnI w [] w:=⟨fun k=>by simp,by simpa using h,ok⟩
theorem KnI.skip {w L:List Str} {dn:List Ac} {a:Ac} (I:KnI w dn L) (e:a.bs=[]):KnI w (dn++[a]) L :=
 ⟨fun k=>by rw[I.mem k,List.flatMap_append];simp[e],by rw[List.length_append,List.length_singleton];have:=I.len;omega,I.ok⟩
theorem KnI.more {w L ys:List Str} {dn:List Ac} {a:Ac} (I:KnI w dn L) (h:∀k,k∈ys↔k∈a.bs) (hl:ys.length≤4) (ok:okFs a.fs):KnI w (dn++[a]) (L++ys) :=
 ⟨fun k=>by rw[List.mem_append,I.mem k,h k,List.flatMap_append,←List.append_assoc];simp[or_assoc],by rw[List.length_append,List.length_append,List.length_singleton];have:=I.len;omega,fun k hk=>by
  rcases List.mem_append.mp hk with z | z
  ·exact I.ok k z
  ·exact(j0z ok).1 k ((h k).mp z)⟩
theorem jn0 {v:PyData} (h:v∈jtn):isV v=true:=by
 simp only[jtn,List.mem_cons,List.not_mem_nil,or_false]at h
 rcases h with rfl | rfl | rfl | rfl | rfl | rfl<;>decide +kernel
theorem j13 {v:Wv} {a b:List PyData} {n:Int} {Q:DQ} (hv:lsOf v=some a) (hl:a.length+b.length≤sizeLine) (q:Q (.d (.list (a++b))) n):gCat v (.ln b) n Q:=by
 unfold gCat
 rw[hv]
 exact⟨hl,q⟩
theorem j06 {δ:Sl} {n:Int} {Q:DQ} (e0:δ[0]?=some (some (.w .tp))) (h:n < 2 ^ 39) (k:∀v∈jth,Q (.d v) (n+1)):w2 (wTp3 0) (jaq jau (jab (wVar 0) (jab (wB jf0 (jab (wTp3 0) aNil)) aNil))) gIxL δ n Q:=by
 have ht:∀(n:Int) (Q:DQ),Q (.ln jth) n→wTp3 0 δ n Q:=fun n Q q=>by unfold wTp3;rw[e0];exact q
 exact w2_i (ht _ _ (jdw (m:=7) e0 (fun Q q=>b1_i (ht _ _ q)) (by omega) (by decide) (by decide) fun r h0 h1=>jnm h0 h1 k))
theorem jvd (f:Fe) (r:List Fe):bndE (f::r)=f.bd.toList++bndE r:=by cases f<;>rfl
theorem jvc (fs:List Fe) (f:Fe):bndE (fs++[f])=bndE fs++f.bd.toList:=by
 unfold bndE
 rw[List.filterMap_append]
 cases f<;>rfl
theorem jnh:∀{fs:List Fe} {ks:List Str} {f:Fe},rF ks fs→(∀k,f.us=some k→k∈ks++bndE fs)→rF ks (fs++[f])
 |[],ks,f,_,h=>⟨fun k hk=>by simpa[bndE]using h k hk,trivial⟩
 |g::r,ks,f,h1,h2=>⟨h1.1,jnh h1.2 fun k hk=>by
  have:=h2 k hk
  rw[jvd,←List.append_assoc]at this
  exact this⟩
theorem jkp {f:PyData} {ks:List Str} (h:f∈ks.map .str):∃s∈ks,f=.str s:=by
 obtain⟨s,hs,rfl⟩:=List.mem_map.mp h
 exact⟨s,hs,rfl⟩
noncomputable def PatI (kv:Wv) (ks:List Str) (n0:Int) (ds:List PyData) (δ:Sl) (n:Int):Prop:=∃(fs:List Fe) (x y z u:Option SV),δ=[some (.w .tp),some (.w kv),some (.own (fs.map Fe.d)),some (.own ((bndE fs).map .str)),x,y,z,u]∧1≤fs.length+ds.length∧fs.length+ds.length≤4∧(∀f∈fs,f.ok∧f.pt=true)∧rF ks fs∧n+2*(ds.length:Int)≤n0+9
theorem jg5:∀ws n Q,jgw ws n Q→ws.length=2:=fun ws n Q h=>by obtain⟨_,_,rfl,_⟩:=h;rfl
theorem jgm:∀ws n Q,jgw ws n Q→jdr (jbk ["_law_tape_here","_law_known_here","_law_fields","_law_bound","_law_k","_law_way","_law_some","_law_name"] ws) n {nx:=fun _ n=>Q (.d .none) n,rt:=Q}:=fun ws n0 Q h=>by
 obtain⟨ks,kv,rfl,hkv,hks,hok,hn0,k⟩:=h
 show jdr [some (.w .tp),some (.w kv),none,none,none,none,none,none] n0 _
 refine jam (jdn ?_)
 dsimp only[List.set]
 refine jam (jdn ?_)
 dsimp only[List.set]
 refine jam (jy1 rfl (by omega) fun m h1 h4=>?_)
 refine jbw (PatI kv ks n0) (fun δ n I=>?_) (fun d r δ n N I kN=>?_) _ _ _ ⟨[],none,none,none,none,rfl,by rw[jbt];simpa using h1,by rw[jbt];simpa using h4,fun f hf=>(by simp at hf),trivial,by rw[jbt];omega⟩
 ·obtain⟨fs,x,y,z,u,rfl,hf1,hf,hfo,hr,hn⟩:=I
  dsimp only
  refine jhc rfl ?_
  dsimp only[List.set]
  refine jhc rfl ?_
  dsimp only[List.set]
  exact jbu (jcn (b1_i (jaf rfl (jhi (jaf rfl (And.intro (show 2≤1000 by decide) (k fs n (by simpa using hf1) ⟨by simpa using hf,fun f z=>(hfo f z).1⟩ (fun f z=>(hfo f z).2) hr (by simpa using hn))))))))
 ·obtain⟨fs,x,y,z,u,rfl,hf1,hf,hfo,hr,hn⟩:=I
  rw[List.length_cons]at hf1 hf hn
  dsimp only[jai,List.set]
  have hfl:(fs.map Fe.d).length < 1000000:=by rw[List.length_map];omega
  have hbl:(bndE fs).length≤4:=Nat.le_trans (List.length_filterMap_le _ _) (by omega)
  have hbo:∀s∈ks++bndE fs,okK s:=fun s hs=>(List.mem_append.mp hs).elim (hok s) fun z=>jui (fs:=fs) ⟨by omega,fun f z=>(hfo f z).1⟩ s z
  have nxt:∀(f:Fe) (n':Int) (y z u:Option SV) (B:List PyData),f.ok∧f.pt=true→(∀k,f.us=some k→k∈ks++bndE fs)→n'≤n+2→B=(bndE fs).map .str++f.bd.toList.map .str→N [some (.w .tp),some (.w kv),some (.own (fs.map Fe.d++[f.d])),some (.own B),some (.w (.d d)),y,z,u] n':=fun f n' y z u B fo fu hn' hB =>
   kN _ _ ⟨fs++[f],some (.w (.d d)),y,z,u,by rw[hB,List.map_append,jvc,List.map_append];rfl,by rw[List.length_append,List.length_singleton];omega,by rw[List.length_append,List.length_singleton];omega,fun g hg=>(List.mem_append.mp hg).elim (hfo g) fun z=>by rw[List.mem_singleton]at z;subst z;exact fo,jnh hr fu,by omega⟩
  have nxtN:∀(f:Fe) (n':Int) (y z u:Option SV),f.bd=none→f.ok∧f.pt=true→(∀k,f.us=some k→k∈ks++bndE fs)→n'≤n+2→N [some (.w .tp),some (.w kv),some (.own (fs.map Fe.d++[f.d])),some (.own ((bndE fs).map .str)),some (.w (.d d)),y,z,u] n':=fun f n' y z u fb fo fu hn' =>
   nxt f n' y z u _ fo fu hn' (by rw[fb];exact(List.append_nil _).symm)
  refine jam (jn6 (m:=9) rfl (by omega) (by decide) (by decide) fun w w0 w1=>?_)
  dsimp only[List.set]
  refine jam (jcv (x:=.list (ks.map .str++(bndE fs).map .str)) (fun Q q=>w2_i (jaf rfl (jma rfl (j13 hkv (jol (by rw[List.length_map];omega) (by rw[List.length_map];omega)) q)))) ?_)
  dsimp only[List.set]
  refine iflt rfl (fun hw=>?_) (fun hw=>?_)
  ·refine jij rfl (jcn (c_i (c1_i (jaf rfl (And.intro rfl ⟨by omega,fun v hv=>?_⟩)))))
   exact And.intro (show 2≤1000 by decide) (And.intro hfl (nxtN (.isv v) _ _ _ _ rfl ⟨jn0 hv,rfl⟩ (fun k hk=>by cases hk) (by omega)))
  ·refine iflt rfl (fun hw6=>?_) (fun hw6=>?_)
   ·refine jij rfl (w2_i (of_i (And.intro (by decide) (And.intro (by decide) (And.intro (by decide) (And.intro (by decide) ?_))))))
    dsimp only
    refine w2_i (jaf rfl (c_i ?_))
    dsimp only[gI0]
    refine jcx (ds:=[.tuple [.str "any"],.tuple [.str "word"],.tuple [.str "number"]]) (r:=w - 3) (by omega) (show w - 3 < 3 by omega) fun f hf'=>?_
    simp only[List.mem_cons,List.not_mem_nil,or_false]at hf'
    rcases hf' with rfl | rfl | rfl
    ·exact And.intro hfl (nxtN .any _ _ _ _ rfl ⟨trivial,rfl⟩ (fun k hk=>by cases hk) (by omega))
    ·exact And.intro hfl (nxtN .word _ _ _ _ rfl ⟨trivial,rfl⟩ (fun k hk=>by cases hk) (by omega))
    ·exact And.intro hfl (nxtN .num _ _ _ _ rfl ⟨trivial,rfl⟩ (fun k hk=>by cases hk) (by omega))
   ·have bind:∀(K:DEnds) (L:List PyData),(∀δ n,N δ n→K.nx δ n)→sSeq (sSet 7 (w2 (wOf (fLst (jab (wC (.str "n")) (jab (wC (.str "nm")) (jab (wC (.str "go")) (jab (wC (.str "m")) aNil)))))) (jaq jau (jab (wVar 0) (jab (wC (.int (4))) aNil))) gIxL)) (sSeq (sApp 3 (wVar 7)) (sApp 2 (wTup (jab (wC (.str "bind")) (jab (wVar 7) aNil)))))
      [some (.w .tp),some (.w kv),some (.own (fs.map Fe.d)),some (.own ((bndE fs).map .str)),some (.w (.d d)),some (.w (.d (.int w))),some (.w (.d (.list L))),u] (n+1) K:=fun K L hK=>by
     refine jam (show w2 _ _ _ _ _ _ from w2_i (of_i (And.intro (by decide) ?_)))
     dsimp only
     refine jdx (m:=4) rfl (by omega) (by decide) (by decide) fun r r0 r1=>jcx (ds:=[.str "n",.str "nm",.str "go",.str "m"]) r0 r1 fun f hf'=>?_
     have:∃s:Str,f=.str s∧okK s:=by
      simp only[List.mem_cons,List.not_mem_nil,or_false]at hf'
      rcases hf' with rfl | rfl | rfl | rfl<;>exact⟨_,rfl,by decide +kernel,by decide +kernel⟩
     obtain⟨s,rfl,so⟩:=this
     dsimp only[List.set]
     refine jam (jtg rfl (fun Q q=>jaf rfl q) (by rw[List.length_map];omega) ?_)
     dsimp only[List.set]
     refine jtg (x:=.tuple [.str "bind",.str s]) rfl (fun Q q=>jcn (c_i (jaf rfl (And.intro (show 2≤1000 by decide) q)))) hfl (hK _ _ ?_)
     exact nxt (.bind s) (n+1+1) _ _ _ _ ⟨so,rfl⟩ (fun k hk=>by cases hk) (by omega) rfl
    by_cases hw8:w < 8
    ·refine if_y (fun Q q=>ju5 (fun Q q=>ct_b (k:=true) (fun Q q=>w2_i (jaf rfl (c_i ?_))) q) q) (bind _ _ fun _ _ z=>z)
     show Q (.d (.bool (decide (w < 8)))) _
     rw[decide_eq_true hw8];exact q
    ·have hmem:∀f∈ks.map PyData.str++(bndE fs).map PyData.str,∃s∈ks++bndE fs,f=.str s:=fun f hf=>jkp (by rw[List.map_append];exact hf)
     have hlen:(ks.map PyData.str++(bndE fs).map PyData.str).length≤2000:=by rw[List.length_append,List.length_map,List.length_map];omega
     generalize(ks.map PyData.str++(bndE fs).map PyData.str)=L at hmem hlen
     cases L with
     |nil =>
      refine if_y (fun Q q=>jnt (fun Q q=>ct_b (k:=false) (fun Q q=>w2_i (jaf rfl (c_i ?_))) q) (ct_b (k:=true) (fun Q q=>w2_i (jaf rfl (of_i (And.intro (Nat.zero_le _) q)))) q)) (bind _ _ fun _ _ z=>z)
      show Q (.d (.bool (decide (w < 8)))) _
      rw[decide_eq_false hw8];exact q
     |cons a l =>
      refine if_n (fun Q q=>jnt (fun Q q=>ct_b (k:=false) (fun Q q=>w2_i (jaf rfl (c_i ?_))) q) (ct_b (k:=false) (fun Q q=>w2_i (jaf rfl (of_i (And.intro (Nat.zero_le _) q)))) q)) ?_
      ·show Q (.d (.bool (decide (w < 8)))) _
       rw[decide_eq_false hw8];exact q
      ·refine jij rfl (jcn (c_i (w2_i (jaf rfl ?_))))
       refine jdw (m:=(a::l).length) rfl (fun Q q=>b1_i (jaf rfl q)) (by omega) (by rw[List.length_cons];omega) (by omega) fun r r0 r1=>jcx r0 r1 fun f hf'=>?_
       obtain⟨s,hs,rfl⟩:=hmem f hf'
       exact And.intro (show 2≤1000 by decide) (And.intro hfl (nxtN (.as s) _ _ _ _ rfl ⟨hbo s hs,rfl⟩ (fun k hk=>by cases hk;exact hs) (by omega)))
noncomputable def TemI (ks:List Str) (n0:Int) (ds:List PyData) (δ:Sl) (n:Int):Prop:=∃(fs:List Fe) (x y:Option SV),δ=[some (.w .tp),some (.w (.ln (ks.map .str))),some (.own (fs.map Fe.d)),x,y]∧fs.length+ds.length≤4∧(∀f∈fs,f.ok)∧rF ks fs∧n+2*(ds.length:Int)≤n0+9
theorem jf9:∀ws n Q,jm9 ws n Q→ws.length=2:=fun ws n Q h=>by obtain⟨_,rfl,_⟩:=h;rfl
theorem jf2:∀ws n Q,jm9 ws n Q→jc4 (jbk ["_law_tape_here","_law_known_here","_law_fields","_law_k","_law_way"] ws) n {nx:=fun _ n=>Q (.d .none) n,rt:=Q}:=fun ws n0 Q h=>by
 obtain⟨ks,rfl,hks,hok,hn0,k⟩:=h
 show jc4 [some (.w .tp),some (.w (.ln (ks.map .str))),none,none,none] n0 _
 refine jam (jdn ?_)
 dsimp only[List.set]
 refine jam (jy1 rfl (by omega) fun m h1 h4=>?_)
 refine jbw (TemI ks n0) (fun δ n I=>?_) (fun d r δ n N I kN=>?_) _ _ _ ⟨[],none,none,rfl,by rw[jbt];simpa using h4,fun f hf=>(by simp at hf),trivial,by rw[jbt];omega⟩
 ·obtain⟨fs,x,y,rfl,hf,hfo,hr,hn⟩:=I
  dsimp only
  refine jhc rfl ?_
  dsimp only[List.set]
  exact jbu (b1_i (jaf rfl (jhi (k fs n ⟨by simpa using hf,hfo⟩ hr (by simpa using hn)))))
 ·obtain⟨fs,x,y,rfl,hf,hfo,hr,hn⟩:=I
  rw[List.length_cons]at hf hn
  dsimp only[jai,List.set]
  have hfl:(fs.map Fe.d).length < 1000000:=by rw[List.length_map];omega
  have nxt:∀(f:Fe) (n':Int) (y:Option SV),f.ok→(∀k,f.us=some k→k∈ks)→n'≤n+2→N [some (.w .tp),some (.w (.ln (ks.map .str))),some (.own (fs.map Fe.d++[f.d])),some (.w (.d d)),y] n':=fun f n' y fo fu hn' =>
   kN _ _ ⟨fs++[f],some (.w (.d d)),y,by rw[List.map_append];rfl,by rw[List.length_append,List.length_singleton];omega,fun g hg=>(List.mem_append.mp hg).elim (hfo g) fun z=>by rw[List.mem_singleton]at z;subst z;exact fo,jnh hr fun k hk=>List.mem_append_left _ (fu k hk),by omega⟩
  refine jam (jn6 (m:=6) rfl (by omega) (by decide) (by decide) fun w w0 w1=>?_)
  dsimp only[List.set]
  have isv:∀K:DEnds,(∀δ n,N δ n→K.nx δ n)→sApp 2 (wTup (jab (wC (.str "is")) (jab (jaq jc6 (jab (wVar 0) aNil)) aNil))) [some (.w .tp),some (.w (.ln (ks.map .str))),some (.own (fs.map Fe.d)),some (.w (.d d)),some (.w (.d (.int w)))] (n+1) K:=fun K hK =>
   jij rfl (jcn (c_i (c1_i (jaf rfl (And.intro rfl ⟨by omega,fun v hv=>And.intro (show 2≤1000 by decide) (And.intro hfl (hK _ _ (nxt (.isv v) _ _ (jn0 hv) (fun k hk=>by cases hk) (by omega))))⟩)))))
  by_cases hw3:w < 3
  ·refine if_y (fun Q q=>ju5 (fun Q q=>ct_b (k:=true) (fun Q q=>w2_i (jaf rfl (c_i ?_))) q) q) (isv _ fun _ _ z=>z)
   show Q (.d (.bool (decide (w < 3)))) _
   rw[decide_eq_true hw3];exact q
  ·have ct3:∀Q:DQ,Q (.d (.bool false)) (n+1)→w2 (wVar 4) (wC (.int 3)) gLt [some (.w .tp),some (.w (.ln (ks.map .str))),some (.own (fs.map Fe.d)),some (.w (.d d)),some (.w (.d (.int w)))] (n+1) Q:=fun Q q=>w2_i (jaf rfl (c_i (by
    show Q (.d (.bool (decide (w < 3)))) _
    rw[decide_eq_false hw3];exact q)))
   cases ks with
   |nil=>exact if_y (fun Q q=>jnt (fun Q q=>ct_b (k:=false) ct3 q) (ct_b (k:=true) (fun Q q=>w2_i (jaf rfl (jfw (eqLn q)))) q)) (isv _ fun _ _ z=>z)
   |cons a l =>
    refine if_n (fun Q q=>jnt (fun Q q=>ct_b (k:=false) ct3 q) (ct_b (k:=false) (fun Q q=>w2_i (jaf rfl (jfw (eqLn q)))) q)) ?_
    refine jij rfl (jcn (w2_i (of_i (And.intro (by decide) ?_))))
    dsimp only
    refine w2_i (jaf rfl (c_i ?_))
    dsimp only[gI0]
    refine jcx (ds:=[.str "as",.str "as",.str "next"]) (r:=w - 3) (by omega) (show w - 3 < 3 by omega) fun f hf'=>?_
    refine w2_i (jaf rfl ?_)
    have hl:((a::l).map PyData.str).length≤1000:=by rw[List.length_map];exact hks
    refine jdw (m:=((a::l).map PyData.str).length) rfl (fun Q q=>b1_i (jaf rfl q)) (by omega) (by rw[List.length_map,List.length_cons];omega) (by omega) fun r r0 r1=>jnm r0 r1 fun f' hf''=>?_
    obtain⟨s,hs,rfl⟩:=jkp hf''
    simp only[List.mem_cons,List.not_mem_nil,or_false]at hf'
    rcases hf' with rfl | rfl | rfl
    ·exact And.intro (show 2≤1000 by decide) (And.intro hfl (nxt (.as s) _ _ (hok s hs) (fun k hk=>by cases hk;exact hs) (by omega)))
    ·exact And.intro (show 2≤1000 by decide) (And.intro hfl (nxt (.as s) _ _ (hok s hs) (fun k hk=>by cases hk;exact hs) (by omega)))
    ·exact And.intro (show 2≤1000 by decide) (And.intro hfl (nxt (.nx s) _ _ (hok s hs) (fun k hk=>by cases hk;exact hs) (by omega)))
theorem jks:∀ws n Q,jgq ws n Q→ws.length=2:=fun ws n Q h=>by obtain⟨_,rfl,_⟩:=h;rfl
theorem jji:∀ws n Q,jgq ws n Q→jfq (jbk ["_law_tape_here","_law_known_here"] ws) n {nx:=fun _ n=>Q (.d .none) n,rt:=Q}:=fun ws n Q h=>by
 obtain⟨ks,rfl,hks,hok,hn0,k⟩:=h
 show jfq [some (.w .tp),some (.w (.ln (ks.map .str)))] n _
 have isv:∀n',n'≤n+1→sRet (wTup (jab (wC (.str "is")) (jab (jaq jc6 (jab (wVar 0) aNil)) aNil))) [some (.w .tp),some (.w (.ln (ks.map .str)))] n' {nx:=fun _ n=>Q (.d .none) n,rt:=Q}:=fun n' hn' =>
  jbu (jcn (c_i (c1_i (jaf rfl (And.intro rfl ⟨by omega,fun v hv=>And.intro (show 2≤1000 by decide) (k (.isv v) _ (jn0 hv) rfl (fun k hk=>by cases hk) (by omega))⟩)))))
 cases ks with
 |nil=>exact jam (if_y (fun Q q=>ju5 (fun Q q=>ct_b (k:=true) (fun Q q=>w2_i (jaf rfl (jfw (eqLn q)))) q) q) (isv n (by omega)))
 |cons a l =>
  refine jam (if_i (jnt (fun Q q=>ct_b (k:=false) (fun Q q=>w2_i (jaf rfl (jfw (eqLn q)))) q) ?_))
  refine w2_i (jdx (m:=2) rfl (by omega) (by decide) (by decide) fun r r0 r1=>c_i (eqLi ?_))
  show if decide (r=0)=true then _ else _
  by_cases h:r=0
  ·rw[if_pos (decide_eq_true h)];exact isv (n+1) (by omega)
  ·rw[if_neg (by simpa using h)]
   dsimp only[jaw]
   refine jbu (jcn (c_i (w2_i (jaf rfl ?_))))
   have hl:((a::l).map PyData.str).length≤1000:=by rw[List.length_map];exact hks
   refine jdw (m:=((a::l).map PyData.str).length) rfl (fun Q q=>b1_i (jaf rfl q)) (by omega) (by rw[List.length_map,List.length_cons];omega) (by omega) fun r r0 r1=>jnm r0 r1 fun f' hf''=>?_
   obtain⟨s,hs,rfl⟩:=jkp hf''
   exact And.intro (show 2≤1000 by decide) (k (.as s) _ (hok s hs) rfl (fun k hk=>by cases hk;exact hs) (by omega))
theorem jmd:∀ws n Q,jip ws n Q→ws.length=3:=fun ws n Q h=>by obtain⟨_,_,_,rfl,_⟩:=h;rfl
theorem jle:∀ws n Q,jip ws n Q→jgp (jbk ["_law_tape_here","_law_known_here","_law_open_ones","_law_way","_law_block","_law_pattern_here","_law_bound"] ws) n {nx:=fun _ n=>Q (.d .none) n,rt:=Q}:=fun ws n Q h=>by
 obtain⟨ks,os,wants,rfl,hks,hok,ho,ho',hop,hn0,k⟩:=h
 show jgp [some (.w .tp),some (.w (.ln (ks.map .str))),some (.w (.d (.list (os.map fun b=>.int (b:Nat))))),none,none,none,none] n _
 refine jam (jn6 (m:=12) rfl (by omega) (by decide) (by decide) fun w w0 w1=>?_)
 dsimp only[List.set]
 refine jam (iflt rfl (fun hw=>?_) (fun hw=>?_))
 ·refine jbu (jcn (jp3 (c_i (c2_i (jaf rfl (jaf rfl (Exists.intro ks ⟨rfl,hks,hok,by omega,fun fs n' hfs hrf hn'=>?_⟩)))))))
  refine j06 rfl (by omega) fun v hv=>?_
  exact And.intro (show 3≤1000 by decide) (jfw (And.intro (show 2≤1000 by decide) (k (.lay fs v) _ hfs ⟨hrf,fun b hb=>by cases hb⟩ (by omega))))
 dsimp only[jaw]
 refine jam (show sSet 4 _ _ _ _ from w2_i (jaf rfl ?_))
 refine jdw (m:=(os.map fun b:Nat=>PyData.int (b:Nat)).length) rfl (fun Q q=>b1_i (jaf rfl q)) (by omega) (by rw[List.length_map];omega) (by rw[List.length_map];omega) fun r r0 r1=>jcx r0 r1 fun b hb=>?_
 obtain⟨b,hbo,rfl⟩:=List.mem_map.mp hb
 have hto:=hop b hbo
 dsimp only[List.set]
 refine jam (ifeq rfl (fun h10=>?_) (fun h10=>?_))
 ·refine jbu (jcn (jye (c_i (c2_i (jaf rfl (jaf rfl (Exists.intro ks ⟨rfl,hks,hok,by omega,fun f n' fo fb fu hn'=>?_⟩)))))))
  refine c2_i (jaf rfl (jaf rfl (Exists.intro ks ⟨rfl,hks,hok,by omega,fun g n'' go gb gu hn''=>?_⟩)))
  refine jaf rfl (And.intro (show 4≤1000 by decide) (jfw (And.intro (show 2≤1000 by decide) (k (.same f g b) _ ⟨show 2≤4 by decide,fun e he=>?_⟩ ⟨⟨fu,fun k hk=>List.mem_append_left _ (gu k hk),trivial⟩,fun b' hb'=>by cases hb';exact hto⟩ (by omega)))))
  simp only[Ac.fs,List.mem_cons,List.not_mem_nil,or_false]at he
  rcases he with rfl | rfl
  ·exact fo
  ·exact go
 dsimp only[jaw]
 refine jam (ifeq rfl (fun h11=>?_) (fun h11=>?_))
 ·exact jbu (jcn (jcn (c_i (jaf rfl (And.intro (show 2≤1000 by decide) (jfw (And.intro (show 2≤1000 by decide) (k (.go b) _ ⟨show 0≤4 by decide,fun e he=>by simp[Ac.fs]at he⟩ ⟨trivial,fun b' hb'=>by cases hb';exact hto⟩ (by omega)))))))))
 dsimp only[jaw]
 refine jam ?_
 unfold sUnp
 refine c2_i (jaf rfl (jaf rfl (Exists.intro ks ⟨.ln (ks.map .str),rfl,rfl,hks,hok,by omega,fun fs n' _ hfs _ hrf hn'=>?_⟩)))
 refine And.intro rfl ?_
 dsimp only[jbc,jc8,jai,List.set]
 refine jam (ifgt rfl (fun h7=>?_) (fun h7=>?_))
 ·exact jbu (jcn (jp3 (c_i (jaf rfl (jaf rfl (And.intro (show 3≤1000 by decide) (jaf rfl (And.intro (show 2≤1000 by decide) (k (.look fs b) _ hfs ⟨hrf,fun b' hb'=>by cases hb';exact hto⟩ (by omega))))))))))
 dsimp only[jaw]
 refine jbu (jcn (jcn (w2_i (of_i (And.intro (by decide) ?_)))))
 dsimp only
 refine w2_i (jaf rfl (c_i ?_))
 dsimp only[gI0]
 refine jcx (ds:=[.str "take",.str "take",.str "take",.str "read"]) (r:=w - 4) (by omega) (show w - 4 < 4 by omega) fun f hf'=>?_
 simp only[List.mem_cons,List.not_mem_nil,or_false]at hf'
 rcases hf' with rfl | rfl | rfl | rfl
 ·exact jaf rfl (And.intro (show 2≤1000 by decide) (jaf rfl (And.intro (show 2≤1000 by decide) (k (.take fs) _ hfs ⟨hrf,fun b' hb'=>by cases hb'⟩ (by omega)))))
 ·exact jaf rfl (And.intro (show 2≤1000 by decide) (jaf rfl (And.intro (show 2≤1000 by decide) (k (.take fs) _ hfs ⟨hrf,fun b' hb'=>by cases hb'⟩ (by omega)))))
 ·exact jaf rfl (And.intro (show 2≤1000 by decide) (jaf rfl (And.intro (show 2≤1000 by decide) (k (.take fs) _ hfs ⟨hrf,fun b' hb'=>by cases hb'⟩ (by omega)))))
 ·exact jaf rfl (And.intro (show 2≤1000 by decide) (jaf rfl (And.intro (show 2≤1000 by decide) (k (.read fs) _ hfs ⟨hrf,fun b' hb'=>by cases hb'⟩ (by omega)))))
noncomputable def jgy:List (List Str):=[[],["n"],["go","n"],["nm"]]
theorem jv9 {w:List Str} (h:w∈jgy):w.length≤2∧∀k∈w,okK k:=by
 simp only[jgy,List.mem_cons,List.not_mem_nil,or_false]at h
 rcases h with rfl | rfl | rfl | rfl
 ·exact⟨by decide,fun k hk=>by simp at hk⟩
 ·exact⟨by decide,fun k hk=>by simp only[List.mem_cons,List.not_mem_nil,or_false]at hk;subst hk;exact⟨by decide +kernel,by decide +kernel⟩⟩
 ·exact⟨by decide,fun k hk=>by simp only[List.mem_cons,List.not_mem_nil,or_false]at hk;rcases hk with rfl | rfl<;>exact⟨by decide +kernel,by decide +kernel⟩⟩
 ·exact⟨by decide,fun k hk=>by simp only[List.mem_cons,List.not_mem_nil,or_false]at hk;subst hk;exact⟨by decide +kernel,by decide +kernel⟩⟩
theorem js4 {Q:List PyData→Int→Prop} {n:Int} (ss ks:List Str) (k:Q ((ss.map PyData.str).filter fun x=>!inD x (ks.map .str)) n) :
  jcy (jai 0) (cT (w2 (wVar 0) (wVar 1) (gInL true))) (wVar 0) Q (ss.map .str) [] [none,some (.w (.ln (ks.map .str)))] n:=by
 refine jdj (fun d=>∃s:Str,d=.str s) (fun x=>!inD x (ks.map .str)) id (fun d n Q' hd q=>?_) (fun d n Q' hd q=>jaf rfl q) _ [] none n (fun d hd=>?_) ?_
 ·obtain⟨s,rfl⟩:=hd
  exact ct_b (k:=!inD (.str s) (ks.map .str)) (fun Q q=>w2_i (jaf rfl (jaf rfl (And.intro rfl ⟨jh3 ks,q⟩)))) q
 ·obtain⟨s,_,rfl⟩:=List.mem_map.mp hd
  exact⟨s,rfl⟩
 ·rw[List.nil_append,List.map_id];exact k
theorem jul (ss ks:List Str):((ss.map PyData.str).filter fun x=>!inD x (ks.map .str)).isEmpty=decide (∀k∈ss,k∈ks):=by
 rw[Bool.eq_iff_iff,List.isEmpty_iff,List.filter_eq_nil_iff,decide_eq_true_iff]
 constructor
 ·intro h k hk
  have:=h (.str k) (List.mem_map.mpr ⟨k,hk,rfl⟩)
  rw[jhx]at this
  simpa using this
 ·intro h d hd
  obtain⟨k,hk,rfl⟩:=List.mem_map.mp hd
  rw[jhx,decide_eq_true (h k hk)]
  simp
noncomputable def jug (ws:List (List Str)) (ks:List Str):PyData→Bool
 |.int j=>decide (∀k∈ws.getD j.toNat [],k∈ks)
 |_=>false
noncomputable def jl5 (ws:List (List Str)) (ks:List Str):List Nat:=(List.range ws.length).filter fun b=>decide (∀k∈ws.getD b [],k∈ks)
theorem juf (ws:List (List Str)) (ks:List Str):(rngD 0 ws.length).filter (jug ws ks)=(jl5 ws ks).map fun b=>.int (b:Nat):=by
 unfold rngD jl5
 rw[List.filter_map]
 have e:(fun i:Nat=>PyData.int (0+(i:Int)))=fun b=>.int (b:Nat):=funext fun i=>by rw[Int.zero_add]
 rw[e]
 rfl
theorem js3 {Q:List PyData→Int→Prop} {n:Int} (ws:List (List Str)) (ks:List Str) (k:Q ((jl5 ws ks).map fun b=>.int (b:Nat)) n) :
  jcy (jai 0) (cT (w2 (wOf (jbz [none,some 1] (jcg (w2 (wVar 2) (wVar 0) gIxL)) (jai 0) (cT (w2 (wVar 0) (wVar 1) (gInL true))) (wVar 0))) (wOf (fLst aNil)) gEqL)) (wVar 0) Q (rngD 0 ws.length) [] [none,some (.w (.ln (ks.map .str))),some (.w (.d (.list (ws.map jcw))))] n:=by
 refine jdj (fun d=>∃j:Nat,j < ws.length∧d=.int j) (jug ws ks) id (fun d n Q' hd q=>?_) (fun d n Q' hd q=>jaf rfl q) _ [] none n (fun d hd=>?_) ?_
 ·obtain⟨j,hj,rfl⟩:=hd
  have hg:(ws.map jcw)[j]?=some (.tuple (ws[j].map .str)):=by rw[List.getElem?_map,List.getElem?_eq_getElem hj];rfl
  refine ct_b (k:=jug ws ks (.int j)) (fun Q q=>w2_i (of_i (jer (ds:=ws[j].map .str) (fun Q q=>w2_i (jaf rfl (jaf rfl ?_))) (js4 ws[j] ks (jfw ?_))))) q
  ·show(match atI (ws.map jcw) (j:Int)with | some d=>Q (.d d) n | none=>False)
   rw[jb1 hg];exact q
  ·have eo:jug ws ks (.int j)=((ws[j].map PyData.str).filter fun x=>!inD x (ks.map .str)).isEmpty:=by
    rw[jul]
    show decide (∀k∈ws.getD (j:Int).toNat [],k∈ks)=_
    rw[Int.toNat_natCast,List.getD_eq_getElem?_getD,List.getElem?_eq_getElem hj,Option.getD_some]
   rw[eo]at q
   exact q
 ·unfold rngD at hd
  obtain⟨j,hj,rfl⟩:=List.mem_map.mp hd
  exact⟨j,List.mem_range.mp hj,by rw[Int.zero_add]⟩
 ·rw[List.nil_append,List.map_id,juf];exact k
theorem jrp {ws w0:List (List Str)} {ks:List Str} (h:ws=[]::w0):0 < (jl5 ws ks).length :=
 List.length_pos_of_mem (a:=0) (List.mem_filter.mpr ⟨List.mem_range.mpr (by rw[h];simp),by subst h;simp⟩)
theorem jxc {ws:List (List Str)} {ks:List Str} {b:Nat} (h:b∈jl5 ws ks):∃w,ws[b]?=some w∧∀k∈w,k∈ks:=by
 obtain⟨h1,h2⟩:=List.mem_filter.mp h
 have hj:=List.mem_range.mp h1
 refine⟨ws[b],List.getElem?_eq_getElem hj,?_⟩
 have:=of_decide_eq_true h2
 rw[List.getD_eq_getElem?_getD,List.getElem?_eq_getElem hj,Option.getD_some]at this
 exact this
theorem jra:∀{fs:List Fe} {ks ks':List Str},(∀k∈ks,k∈ks')→rF ks fs→rF ks' fs
 |[],_,_,_,_=>trivial
 |f::r,ks,ks',h,z=>⟨fun k hk=>h k (z.1 k hk),jra (fun k hk=>(List.mem_append.mp hk).elim (fun q=>List.mem_append_left _ (h k q)) fun q=>List.mem_append_right _ q) z.2⟩
theorem Ac.right_mono {ws:List (List Str)} {ks ks':List Str} {a:Ac} (h:∀k∈ks,k∈ks') (z:a.right ws ks):a.right ws ks' :=
 ⟨jra h z.1,fun b hb=>by obtain⟨w,h1,h2⟩:=z.2 b hb;exact⟨w,h1,fun k hk=>h k (h2 k hk)⟩⟩
theorem jt0 {ws:List (List Str)} {w ks:List Str} {as:List Ac} {a:Ac} (h:riB ws (w,as)) (hk:∀k∈ks,k∈w++as.flatMap Ac.bs) (ha:a.right ws ks):riB ws (w,as++[a]):=fun p b hb=>by
 dsimp only at hb ⊢
 by_cases hp:p < as.length
 ·rw[List.getElem?_append_left hp]at hb
  have:=h p b hb
  unfold kn at this ⊢
  rw[List.take_append_of_le_length (Nat.le_of_lt hp)]
  exact this
 ·rw[List.getElem?_append_right (by omega)]at hb
  have e0:p - as.length=0:=by
   by_cases e:p - as.length=0
   ·exact e
   ·rw[List.getElem?_eq_none (by rw[List.length_singleton];omega)]at hb;cases hb
  rw[e0]at hb
  cases hb
  have ep:p=as.length:=by omega
  subst ep
  refine Ac.right_mono (fun k z=>?_) ha
  unfold kn
  rw[List.take_append_of_le_length (Nat.le_refl _),List.take_length]
  exact hk k z
structure ActO (ws:List (List Str)) (want ks:List Str) (acts:List Ac):Prop where
 mem:∀k,k∈ks↔k∈want++acts.flatMap Ac.bs
 ok:∀k∈ks,okK k
 fs:∀a∈acts,okFs a.fs
 ri:riB ws (want,acts)
noncomputable def ActI (ws:List (List Str)) (bl:List PyData) (want:List Str) (nb:Int) (ds:List PyData) (δ:Sl) (n:Int):Prop:=∃(ks:List Str) (acts:List Ac) (x2 x7 x8 x9 x10:Option SV),
 δ=[some (.w .tp),some (.w (.d (.list (ws.map jcw)))),x2,some (.own bl),some (.w (.d (jcw want))),some (.own (ks.map .str)),some (.own (acts.map Ac.d)),x7,x8,x9,x10]∧ActO ws want ks acts∧ks.length+4*ds.length≤40∧acts.length+ds.length≤8∧n+11*(ds.length:Int)≤nb+89
theorem jvf {ws w0:List (List Str)} {bl r:List PyData} {want:List Str} {d:PyData} {ks:List Str} {acts:List Ac} {nb n:Int} {x7 x8 x9 x10:Option SV} {K:DEnds} (hw0:ws=[]::w0) (hwl:ws.length≤6) (hnb:nb+89 < 2 ^ 39) (O:ActO ws want ks acts) (hk:ks.length+4*(r.length+1)≤40) (ha:acts.length+(r.length+1)≤8) (hn:n+11*((r.length:Int)+1)≤nb+89)
  (kN:∀δ n,ActI ws bl want nb r δ n→K.nx δ n) :
  sSeq (sSet 8 (wOf (jbz [none,some 5,some 1] (jbh (wB jf0 (jab (wVar 1) aNil))) (jai 0) (cT (w2 (wOf (jbz [none,some 1] (jcg (w2 (wVar 2) (wVar 0) gIxL)) (jai 0) (cT (w2 (wVar 0) (wVar 1) (gInL true))) (wVar 0))) (wOf (fLst aNil)) gEqL)) (wVar 0)))) (sSeq (sUnp (jaq jip (jab (wVar 0) (jab (jf5 5) (jab (wVar 8) aNil)))) (je7 2 (jbc (jai 9) (jbc (jai 10) jc8)))) (sSeq (sApp 6 (wVar 9)) (sFor (jgc (wVar 10)) (jai 7) (sIf (cT (w2 (wVar 7) (jf5 5) (gInL true))) (sApp 5 (wVar 7)) jaw))))
   [some (.w .tp),some (.w (.d (.list (ws.map jcw)))),some (.w (.d d)),some (.own bl),some (.w (.d (jcw want))),some (.own (ks.map .str)),some (.own (acts.map Ac.d)),x7,x8,x9,x10] n K:=by
 refine jam (show sSet 8 _ _ _ _ from of_i ?_)
 unfold jbz jbh
 refine b1_i (jaf rfl ?_)
 refine And.intro ⟨by omega,by rw[List.length_map];omega⟩ ?_
 rw[Int.toNat_natCast,List.length_map]
 refine js3 ws ks ?_
 dsimp only[List.set]
 refine jam ?_
 unfold sUnp
 have ol:(jl5 ws ks).length≤6:=Nat.le_trans (List.length_filter_le _ _) (by rw[List.length_range];exact hwl)
 refine c3_i (jaf rfl (jma rfl (jaf rfl ?_)))
 refine Exists.intro ks (Exists.intro (jl5 ws ks) (Exists.intro ws ⟨rfl,by omega,O.ok,jrp hw0,by omega,fun b hb=>jxc hb,by omega,fun act n' hfs hri hn'=>?_⟩))
 refine And.intro rfl ?_
 dsimp only[jbc,jc8,jai,List.set]
 refine jam (jtg rfl (fun Q q=>jaf rfl q) (by rw[List.length_map];omega) ?_)
 dsimp only[List.set]
 unfold sFor jgc
 refine jaf rfl ?_
 dsimp only
 have hbs:=j0z hfs
 refine jbw (fun ds δ n''=>∃(ks' dn bs':List Str) (x7:Option SV),ds=bs'.map .str∧dn++bs'=act.bs∧(∀k,k∈ks'↔k∈ks++dn)∧n''=n'∧δ=[some (.w .tp),some (.w (.d (.list (ws.map jcw)))),some (.w (.d d)),some (.own bl),some (.w (.d (jcw want))),some (.own (ks'.map .str)),some (.own (acts.map Ac.d++[act.d])),x7,some (.w (.d (.list ((jl5 ws ks).map fun b=>.int (b:Nat))))),some (.w (.d act.d)),some (.w (.d (.list (act.bs.map .str))))]∧ks'.length+bs'.length≤ks.length+4)
  (fun δ n'' I=>?_) (fun e r' δ n'' N I kN'=>?_) _ _ _ ⟨ks,[],act.bs,x7,rfl,rfl,fun k=>by simp,rfl,rfl,by have:=hbs.2;omega⟩
 ·obtain⟨ks',dn,bs',x7,e,hdn,hm,rfl,rfl,hk'⟩:=I
  cases List.map_eq_nil_iff.mp e.symm
  rw[List.append_nil]at hdn
  subst hdn
  have hm':∀k,k∈ks'↔k∈want++(acts++[act]).flatMap Ac.bs:=fun k=>by
   rw[hm k,List.mem_append,O.mem k,List.flatMap_append,←List.append_assoc,List.mem_append (s:=want++acts.flatMap Ac.bs)]
   simp
  refine kN _ _ ⟨ks',acts++[act],_,_,_,_,_,by rw[List.map_append];rfl,⟨hm',fun k z=>?_,fun a z=>?_,jt0 O.ri (fun k z=>(O.mem k).mp z) hri⟩,by omega,by rw[List.length_append,List.length_singleton];omega,by omega⟩
  ·exact(List.mem_append.mp ((hm k).mp z)).elim (O.ok k) (hbs.1 k)
  ·rcases List.mem_append.mp z with z | z
   ·exact O.fs a z
   ·rw[List.mem_singleton]at z;subst z;exact hfs
 ·obtain⟨ks',dn,bs',x7,e',hdn,hm,rfl,rfl,hk'⟩:=I
  obtain⟨s,bs'',rfl,rfl,rfl⟩:=List.map_eq_cons_iff.mp e'.symm
  rw[List.length_cons]at hk'
  dsimp only[jai,List.set]
  have hdn':(dn++[s])++bs''=act.bs:=by rw[List.append_assoc];exact hdn
  refine if_i (w2_i (jaf rfl (jma rfl (And.intro rfl ⟨jh3 ks',?_⟩))))
  refine ifb (fun z=>?_) (fun z=>?_)
  ·refine jtg rfl (fun Q q=>jaf rfl q) (by rw[List.length_map];omega) (kN' _ _ ⟨ks'++[s],dn++[s],bs'',some (.w (.d (.str s))),rfl,hdn',fun k=>?_,rfl,?_,by rw[List.length_append,List.length_singleton];omega⟩)
   ·rw[List.mem_append,hm k,←List.append_assoc,List.mem_append (s:=ks++dn)]
   ·rw[List.map_append];rfl
  ·have hs:s∈ks':=by
    have z':(!inD (.str s) (ks'.map .str))=false:=z
    rw[jhx]at z'
    simpa using z'
   refine kN' _ _ ⟨ks',dn++[s],bs'',some (.w (.d (.str s))),rfl,hdn',fun k=>?_,rfl,rfl,by omega⟩
   rw[←List.append_assoc,List.mem_append (s:=ks++dn),List.mem_singleton,←hm k]
   exact⟨.inl,fun q=>q.elim id fun e=>e▸hs⟩
noncomputable def WanI (n0:Int) (ds:List PyData) (δ:Sl) (n:Int):Prop:=∃(more:List (List Str)) (x2:Option SV),δ=[some (.w .tp),some (.own (([]::more).map jcw)),x2,none,none,none,none,none,none,none,none]∧more.length+ds.length≤5∧(∀w∈more,w∈jgy)∧n+(ds.length:Int)≤n0+6
noncomputable def BlkI (ws:List (List Str)) (n0:Int) (ds:List PyData) (δ:Sl) (n:Int):Prop:=∃(bl:List Bl) (re:List (List Str)) (x2 x4 x5 x6 x7 x8 x9 x10:Option SV),
 δ=[some (.w .tp),some (.w (.d (.list (ws.map jcw)))),x2,some (.own (bl.map blD)),x4,x5,x6,x7,x8,x9,x10]∧ds=re.map jcw∧bl.map (·.1)++re=ws∧(∀b∈bl,okB b∧riB ws b)∧n+90*(ds.length:Int)≤n0+600
theorem jg4:∀ws n Q,jm7 ws n Q→ws.length=1:=fun ws n Q h=>by obtain⟨rfl,_⟩:=h;rfl
theorem jvb {ws w0 re:List (List Str)} {bl:List Bl} {want:List Str} {n0 n:Int} {x2 x5 x6 x7 x8 x9 x10:Option SV} {K:DEnds} (hw:∀w∈ws,w∈jgy) (hw0:ws=[]::w0) (hwl:ws.length≤6) (hn0:n0+600 < 2 ^ 39) (hb:bl.map (·.1)++want::re=ws) (hbo:∀b∈bl,okB b∧riB ws b) (hn:n+90*((re.length:Int)+1)≤n0+600)
  (kN:∀δ n,BlkI ws n0 (re.map jcw) δ n→K.nx δ n) :
  sSeq (sOwn 5 (jfn (wVar 4))) (sSeq (sOwn 6 (fLst aNil)) (sSeq (sFor (jbh (w2 (wOf (fLst (jab (wC (.int (2))) (jab (wC (.int (3))) (jab (wC (.int (1))) (jab (wC (.int (4))) (jab (wC (.int (2))) (jab (wC (.int (0))) (jab (wC (.int (3))) (jab (wC (.int (8))) aNil)))))))))) (jaq jau (jab (wVar 0) (jab (wC (.int (8))) aNil))) gIxL)) (jai 2) (sSeq (sSet 8 (wOf (jbz [none,some 5,some 1] (jbh (wB jf0 (jab (wVar 1) aNil))) (jai 0) (cT (w2 (wOf (jbz [none,some 1] (jcg (w2 (wVar 2) (wVar 0) gIxL)) (jai 0) (cT (w2 (wVar 0) (wVar 1) (gInL true))) (wVar 0))) (wOf (fLst aNil)) gEqL)) (wVar 0)))) (sSeq (sUnp (jaq jip (jab (wVar 0) (jab (jf5 5) (jab (wVar 8) aNil)))) (je7 2 (jbc (jai 9) (jbc (jai 10) jc8)))) (sSeq (sApp 6 (wVar 9)) (sFor (jgc (wVar 10)) (jai 7) (sIf (cT (w2 (wVar 7) (jf5 5) (gInL true))) (sApp 5 (wVar 7)) jaw)))))) (sFrz 6 (sApp 3 (wTup (jab (wVar 4) (jab (wB jcu (jab (wVar 6) aNil)) aNil)))))))
   [some (.w .tp),some (.w (.d (.list (ws.map jcw)))),x2,some (.own (bl.map blD)),some (.w (.d (jcw want))),x5,x6,x7,x8,x9,x10] n K:=by
 obtain⟨hss,hso⟩:=jv9 (hw want (by rw[←hb];exact List.mem_append_right _ List.mem_cons_self))
 have hbl:bl.length+(re.length+1)≤6:=by rw[←hb,List.length_append,List.length_map,List.length_cons]at hwl;exact hwl
 refine jam (jzp (ds:=want.map .str) rfl ?_)
 dsimp only[List.set]
 refine jam (jdn ?_)
 dsimp only[List.set]
 refine jam (jvl (L:=[.int 2,.int 3,.int 1,.int 4,.int 2,.int 0,.int 3,.int 8]) (M:=8) rfl (fun Q q=>of_i (And.intro (by decide) q)) (by omega) rfl (by decide) (by decide) (fun d hd=>?_) (by decide) fun j hj=>?_)
 ·simp only[List.mem_cons,List.not_mem_nil,or_false]at hd
  rcases hd with rfl | rfl | rfl | rfl | rfl | rfl | rfl | rfl
  ·exact⟨2,by decide,rfl⟩
  ·exact⟨3,by decide,rfl⟩
  ·exact⟨1,by decide,rfl⟩
  ·exact⟨4,by decide,rfl⟩
  ·exact⟨2,by decide,rfl⟩
  ·exact⟨0,by decide,rfl⟩
  ·exact⟨3,by decide,rfl⟩
  ·exact⟨8,by decide,rfl⟩
 refine jbw (ActI ws (bl.map blD) want n) (fun δ n' I=>?_) (fun d r' δ n' N I kN'=>?_) _ _ _ ⟨want,[],_,_,_,_,_,rfl,⟨fun k=>by simp,hso,fun a ha=>by simp at ha,fun p a ha=>by simp at ha⟩,by rw[jbt];omega,by rw[jbt];simpa using hj,by rw[jbt];omega⟩
 ·obtain⟨ks,acts,y2,y7,y8,y9,y10,rfl,O,_,ha,hn'⟩:=I
  dsimp only
  refine jhc rfl ?_
  dsimp only[List.set]
  refine jij rfl (jcn (jaf rfl (b1_i (jaf rfl (jhi ?_)))))
  have ha':acts.length≤8:=by simpa using ha
  refine And.intro (show 2≤1000 by decide) (And.intro (by rw[List.length_map];omega) (kN _ _ ⟨bl++[(want,acts)],re,_,_,_,_,_,_,_,_,by rw[List.map_append];rfl,rfl,by rw[List.map_append,List.append_assoc];exact hb,fun b z=>?_,?_⟩))
  ·rcases List.mem_append.mp z with z | z
   ·exact hbo b z
   ·rw[List.mem_singleton]at z;subst z;exact⟨⟨hss,hso,ha',O.fs⟩,O.ri⟩
  ·have h0:n'≤n+89:=by simpa using hn'
   rw[List.length_map]
   omega
 ·obtain⟨ks,acts,y2,y7,y8,y9,y10,rfl,O,hk,ha,hn'⟩:=I
  rw[List.length_cons]at hk ha hn'
  dsimp only[jai,List.set]
  exact jvf hw0 hwl (by omega) O hk ha (by omega) kN'
theorem jgl:∀ws n Q,jm7 ws n Q→jdq (jbk ["_law_tape_here","_law_wants","_law_k","_law_blocks","_law_want","_law_known_here","_law_acts","_law_name","_law_open_ones","_law_act_here","_law_bound"] ws) n {nx:=fun _ n=>Q (.d .none) n,rt:=Q}:=fun ws n0 Q h=>by
 obtain⟨rfl,hn0,k⟩:=h
 show jdq [some (.w .tp),none,none,none,none,none,none,none,none,none,none] n0 _
 refine jam (show sOwn 1 _ _ _ _ from And.intro (Nat.zero_le _) (And.intro (by decide) ?_))
 dsimp only[List.set]
 refine jam (jvl (L:=[.int 0,.int 1,.int 2,.int 1,.int 0,.int 2,.int 5]) (M:=5) rfl (fun Q q=>of_i (And.intro (by decide) q)) (by omega) rfl (by decide) (by decide) (fun d hd=>?_) (by decide) fun j hj=>?_)
 ·simp only[List.mem_cons,List.not_mem_nil,or_false]at hd
  rcases hd with rfl | rfl | rfl | rfl | rfl | rfl | rfl
  ·exact⟨0,by decide,rfl⟩
  ·exact⟨1,by decide,rfl⟩
  ·exact⟨2,by decide,rfl⟩
  ·exact⟨1,by decide,rfl⟩
  ·exact⟨0,by decide,rfl⟩
  ·exact⟨2,by decide,rfl⟩
  ·exact⟨5,by decide,rfl⟩
 refine jbw (WanI n0) (fun δ n I=>?_) (fun d r δ n N I kN=>?_) _ _ _ ⟨[],none,rfl,by rw[jbt];simpa using hj,fun d hd=>by simp at hd,by rw[jbt];omega⟩
 ·obtain⟨more,x2,rfl,hl,hm,hn⟩:=I
  dsimp only
  refine jam (jdn ?_)
  dsimp only[List.set]
  refine jhc rfl ?_
  dsimp only[List.set]
  refine jam ?_
  unfold sFor jgc
  refine jaf rfl ?_
  dsimp only
  have hw:∀w∈([]:List Str)::more,w∈jgy:=fun d hd=>by
   rcases List.mem_cons.mp hd with rfl | z
   ·simp[jgy]
   ·exact hm d z
  have hwl:(([]:List Str)::more).length≤6:=by rw[List.length_cons];simp at hl;omega
  refine jbw (BlkI ([]::more) n0) (fun δ n' I=>?_) (fun d r δ n' N I kN=>?_) _ _ _ ⟨[],[]::more,_,_,_,_,_,_,_,_,rfl,rfl,rfl,fun b hb=>by simp at hb,?_⟩
  ·obtain⟨bl,re,y2,y4,y5,y6,y7,y8,y9,y10,rfl,er,hb,hbo,hn'⟩:=I
   cases List.map_eq_nil_iff.mp er.symm
   rw[List.append_nil]at hb
   dsimp only
   refine jhc rfl ?_
   dsimp only[List.set]
   refine jbu (b1_i (jaf rfl (jhi (k bl n' ⟨by have:=congrArg List.length hb;simp at this;omega,?_,fun b z=>⟨(hbo b z).1,by rw[hb];exact(hbo b z).2⟩⟩ (by simpa using hn')))))
   rw[←hb,List.length_map]at hwl
   exact hwl
  ·obtain⟨bl,re,y2,y4,y5,y6,y7,y8,y9,y10,rfl,er,hb,hbo,hn'⟩:=I
   obtain⟨want,re,rfl,rfl,rfl⟩:=List.map_eq_cons_iff.mp er.symm
   rw[List.length_cons,List.length_map]at hn'
   dsimp only[jai,List.set]
   exact jvb hw rfl hwl hn0 hb hbo (by omega) kN
  ·have h1:n≤n0+6:=by simpa using hn
   have h2:(((([]:List Str)::more).map jcw).length:Int)≤6:=by rw[List.length_map];omega
   omega
 ·obtain⟨more,x2,rfl,hl,hm,hn⟩:=I
  rw[List.length_cons]at hl hn
  dsimp only[jai,List.set]
  refine jij rfl (w2_i (of_i (And.intro (by decide) (And.intro (by decide) (And.intro (by decide) (And.intro (by decide) (And.intro (by decide) (And.intro (by decide) ?_))))))))
  dsimp only
  refine jdx (m:=5) rfl (by omega) (by decide) (by decide) fun q q0 q1=>jcx (ds:=[jcw [],jcw ["n"],jcw ["go","n"],jcw ["nm"],jcw []]) q0 q1 fun w hw=>?_
  have:∃v∈jgy,w=jcw v:=by
   simp only[List.mem_cons,List.not_mem_nil,or_false]at hw
   rcases hw with rfl | rfl | rfl | rfl | rfl
   ·exact⟨[],by simp[jgy],rfl⟩
   ·exact⟨["n"],by simp[jgy],rfl⟩
   ·exact⟨["go","n"],by simp[jgy],rfl⟩
   ·exact⟨["nm"],by simp[jgy],rfl⟩
   ·exact⟨[],by simp[jgy],rfl⟩
  obtain⟨v,hv,rfl⟩:=this
  refine And.intro (by rw[List.length_map,List.length_cons];omega) (kN _ _ ⟨more++[v],some (.w (.d d)),?_,by rw[List.length_append,List.length_singleton];omega,fun e he=>?_,by omega⟩)
  ·rw[show([]::(more++[v]):List (List Str))=([]::more)++[v]from rfl,List.map_append];rfl
  rcases List.mem_append.mp he with z | z
  ·exact hm e z
  ·rw[List.mem_singleton]at z
   subst z
   exact hv
section
variable {δ:Sl} {n:Int} {K:DEnds} {i:Nat} {s a b c:Str} {r:List PyData} {k:Bool} {Q:Bool→Int→Prop}
theorem j0c (e:δ[i]?=some (some (.w (.d (.tuple (.str s::r)))))) (h:inD (.str s) [.str a,.str b,.str c]=k) (q:Q k n):cT (w2 (w2 (wVar i) (wC (.int 0)) gIx) (wTup (jab (wC (.str a)) (jab (wC (.str b)) (jab (wC (.str c)) aNil)))) (gIn false)) δ n Q:=by
 refine w2_i (jgb e ?_)
 show 3≤1000∧jed (.str s)=true∧_∧Q (inD (.str s) [.str a,.str b,.str c]) n
 exact⟨by decide,rfl,rfl,by rw[h];exact q⟩
theorem jg6 (e:δ[i]?=some (some (.w (.d (.tuple (.str s::r)))))) (h:inD (.str s) [.str a,.str b]=k) (q:Q k n):cT (w2 (w2 (wVar i) (wC (.int 0)) gIx) (wTup (jab (wC (.str a)) (jab (wC (.str b)) aNil))) (gIn false)) δ n Q:=by
 refine w2_i (jgb e ?_)
 show 2≤1000∧jed (.str s)=true∧_∧Q (inD (.str s) [.str a,.str b]) n
 exact⟨by decide,rfl,rfl,by rw[h];exact q⟩
theorem js8 {A B:DTT} (ha:∀Q:Bool→Int→Prop,Q false n→A δ n Q) (q:Q false n):cAnd A B δ n Q:=ha _ (by show if false=true then _ else _;rw[if_neg Bool.false_ne_true];exact q)
end
theorem j1u {δ:Sl} {n:Int} {K:DEnds} {i:Nat} {w:DT} {es:List PyData} (e:δ[i]?=some (some (.own es))) (k:w δ n fun x n1=>match x with
  |.d (.list fs)=>(es.length < 1000000∧fs.length < 1000000)∧K.nx (δ.set i (some (.own (es++fs)))) n1
  |_=>False):sExt i w δ n K:=by
 unfold sExt;rw[e];exact k
theorem ji4:∀ws n Q,jf4 ws n Q→ws.length=3:=fun ws n Q h=>by obtain⟨_,_,_,_,rfl,_⟩:=h;rfl
theorem jih:∀ws n Q,jf4 ws n Q→jey (jbk ["_law_program_here","_law_block","_law_place","_law_found","_law_act_here"] ws) n {nx:=fun _ n=>Q (.d .none) n,rt:=Q}:=fun ws n Q h=>by
 obtain⟨bs,i,p,⟨w,as⟩,rfl,hi,⟨hb1,hb2,hb3,hb4⟩,hp,k⟩:=h
 dsimp only at hb1 hb2 hb3 hb4 hp k
 have hi':(bs.map blD)[i]?=some (blD (w,as)):=by rw[List.getElem?_map,hi];rfl
 show jey [some (.w (.d (.tuple (bs.map blD)))),some (.w (.d (.int i))),some (.w (.d (.int p))),none,none] n _
 refine jam (show sOwn 3 (jfn _) _ _ _ from w2_i (w2_i (jaf rfl (jaf rfl (gN_i hi' (c_i (g0_i ?_)))))))
 dsimp only[jcw,List.set]
 refine jam ?_
 unfold sFor jcg jjm
 refine w2_i (w2_i (jaf rfl (jaf rfl (gN_i hi' (c_i (g1_i ?_))))))
 dsimp only[jpa,jo9]
 refine jaf rfl ?_
 dsimp only
 rw[jv3 _ (by rw[List.length_map];exact hp),←List.map_take]
 refine jbw (fun ds δ n'=>∃(dn re:List Ac) (L:List Str) (x:Option SV),ds=re.map Ac.d∧dn++re=as.take p∧n'=n∧δ=[some (.w (.d (.tuple (bs.map blD)))),some (.w (.d (.int i))),some (.w (.d (.int p))),some (.own (L.map .str)),x]∧KnI w dn L) (fun δ n' I=>?_) (fun d r δ n' N I kN=>?_) _ _ _
  ⟨[],as.take p,w,none,rfl,rfl,rfl,rfl,KnI.first hb1 hb2⟩
 ·obtain⟨dn,re,L,x,e,hdn,rfl,rfl,I⟩:=I
  cases List.map_eq_nil_iff.mp e.symm
  rw[List.append_nil]at hdn
  subst hdn
  dsimp only
  refine jhc rfl ?_
  dsimp only[List.set]
  have hl:(as.take p).length≤8:=Nat.le_trans (List.length_take_le _ _) (by omega)
  have hI:=I.len
  refine jbu (of_i (show jk5 _ _ _ _ from jaf rfl ?_))
  exact Exists.intro L ⟨.inl rfl,by omega,fun x hx=>Nat.le_trans (I.ok x hx).1 (by decide),fun ys a b c=>k ys (Nat.le_trans (jl9 a fun z hz=>(b z).mp hz) (by omega))⟩
 ·obtain⟨dn,re,L,x,e,hdn,rfl,rfl,I⟩:=I
  obtain⟨a,re,rfl,rfl,rfl⟩:=List.map_eq_cons_iff.mp e.symm
  dsimp only[jai,List.set]
  have ha:okFs a.fs:=hb4 a (List.mem_of_mem_take (i:=p) (by rw[←hdn];exact List.mem_append_right _ List.mem_cons_self))
  have hlen:L.length≤34:=by
   have h1:dn.length+(re.length+1)=(as.take p).length:=by rw[←hdn,List.length_append,List.length_cons]
   have h3:=I.len
   have h4:(as.take p).length≤as.length:=List.length_take_le' _ _
   omega
  have hdn':(dn++[a])++re=as.take p:=by rw[List.append_assoc];exact hdn
  have nxt:∀L',KnI w (dn++[a]) L'→N [some (.w (.d (.tuple (bs.map blD)))),some (.w (.d (.int i))),some (.w (.d (.int p))),some (.own (L'.map .str)),some (.w (.d a.d))] n':=fun L' I'=>kN _ _ ⟨dn++[a],re,L',_,rfl,hdn',rfl,rfl,I'⟩
  have get:∀(K:DEnds) (hK:∀δ n,N δ n→K.nx δ n) (s:Str) (fs:List Fe) (r:List PyData),a.d=.tuple (.str s::fsD fs::r)→inD (.str s) [.str "take",.str "read",.str "look"]=true→a.bs=bndE fs→a.fs=fs→sIf (cT (w2 (w2 (wVar 4) (wC (.int (0))) gIx) (wTup (jab (wC (.str "take")) (jab (wC (.str "read")) (jab (wC (.str "look")) aNil)))) (gIn false))) (sExt 3 (wOf (jbz [none] (jcg (w2 (wVar 4) (wC (.int (1))) gIx)) (jai 0) (cT (w2 (w2 (wVar 0) (wC (.int (0))) gIx) (wC (.str "bind")) gEq)) (w2 (wVar 0) (wC (.int (1))) gIx)))) jaw
    [some (.w (.d (.tuple (bs.map blD)))),some (.w (.d (.int i))),some (.w (.d (.int p))),some (.own (L.map .str)),some (.w (.d a.d))] n' K:=fun K hK s fs r e1 e2 e3 e4=>by
   rw[e1]at nxt ⊢
   refine if_y (fun Q q=>j0c rfl e2 q) ?_
   have hb:(bndE fs).length≤4:=jun (e4▸ha)
   refine j1u rfl (of_i (jer (ds:=fs.map Fe.d) (fun Q q=>jc0 rfl q) (jpo fs n' ?_)))
   refine And.intro ⟨by rw[List.length_map];omega,by rw[List.length_map];omega⟩ ?_
   have:=nxt (L++bndE fs) (I.more (fun k=>by rw[e3]) hb ha)
   rw[List.map_append]at this
   exact hK _ _ this
  have skip:∀(K:DEnds) (hK:∀δ n,N δ n→K.nx δ n) (s:Str) (r:List PyData),a.d=.tuple (.str s::r)→inD (.str s) [.str "take",.str "read",.str "look"]=false→a.bs=[]→sIf (cT (w2 (w2 (wVar 4) (wC (.int (0))) gIx) (wTup (jab (wC (.str "take")) (jab (wC (.str "read")) (jab (wC (.str "look")) aNil)))) (gIn false))) (sExt 3 (wOf (jbz [none] (jcg (w2 (wVar 4) (wC (.int (1))) gIx)) (jai 0) (cT (w2 (w2 (wVar 0) (wC (.int (0))) gIx) (wC (.str "bind")) gEq)) (w2 (wVar 0) (wC (.int (1))) gIx)))) jaw
    [some (.w (.d (.tuple (bs.map blD)))),some (.w (.d (.int i))),some (.w (.d (.int p))),some (.own (L.map .str)),some (.w (.d a.d))] n' K:=fun K hK s r e1 e2 e3=>by
   rw[e1]at nxt ⊢
   refine if_n (fun Q q=>j0c rfl e2 q) (hK _ _ (nxt L (I.skip e3)))
  cases a with
  |lay fs age=>exact skip _ (fun _ _ z=>z) "lay" [fsD fs,age] rfl (by decide +kernel) rfl
  |take fs=>exact get _ (fun _ _ z=>z) "take" fs [] rfl (by decide +kernel) rfl rfl
  |read fs=>exact get _ (fun _ _ z=>z) "read" fs [] rfl (by decide +kernel) rfl rfl
  |look fs b=>exact get _ (fun _ _ z=>z) "look" fs [.int b] rfl (by decide +kernel) rfl rfl
  |same f g b=>exact skip _ (fun _ _ z=>z) "same" [f.d,g.d,.int b] rfl (by decide +kernel) rfl
  |go b=>exact skip _ (fun _ _ z=>z) "go" [.int b] rfl (by decide +kernel) rfl
theorem jr2 {α:Type} {f:α→PyData} {P:α→Prop}:∀{ds:List PyData},(∀d∈ds,∃x,P x∧d=f x)→∃xs:List α,ds=xs.map f∧∀x∈xs,P x
 |[],_=>⟨[],rfl,fun x hx=>by simp at hx⟩
 |d::r,h=>by
  obtain⟨x,hx,rfl⟩:=h d List.mem_cons_self
  obtain⟨xs,rfl,hxs⟩:=jr2 fun e he=>h e (List.mem_cons_of_mem _ he)
  exact⟨x::xs,rfl,fun y hy=>(List.mem_cons.mp hy).elim (fun e=>e▸hx) (hxs y)⟩
theorem ji3:∀ws n Q,jio ws n Q→ws.length=2:=fun ws n Q h=>by obtain⟨_,rfl,_⟩:=h;rfl
noncomputable def NotI (m:Nat) (n0:Int) (ds:List PyData) (δ:Sl) (n:Int):Prop:=∃(ns:List Nt) (x y:Option SV),δ=[some (.w .tp),some (.w (.d (.int m))),some (.own (ns.map ntD)),x,y]∧ns.length+ds.length≤6∧(∀q∈ns,1≤q.1.length∧okR q.1)∧n+6*(ds.length:Int)≤n0+60
theorem jig:∀ws n Q,jio ws n Q→jex (jbk ["_law_tape_here","_law_most","_law_found","_law_k","_law_row"] ws) n {nx:=fun _ n=>Q (.d .none) n,rt:=Q}:=fun ws n0 Q h=>by
 obtain⟨m,rfl,hm,hn0,k⟩:=h
 show jex [some (.w .tp),some (.w (.d (.int m))),none,none,none] n0 _
 refine jam (jdn ?_)
 dsimp only[List.set]
 refine jam ?_
 unfold sFor jbh
 refine jdw (m:=(m:Int)+1) rfl (fun Q q=>w2_i (jaf rfl (c_i q))) (by omega) (by omega) (by omega) fun r r0 r1=>?_
 refine And.intro ⟨by omega,by omega⟩ ?_
 have hr:r.toNat≤6:=by omega
 refine jbw (NotI m n0) (fun δ n I=>?_) (fun d r' δ n N I kN=>?_) _ _ _ ⟨[],none,none,rfl,by rw[jbt];simpa using hr,fun d hd=>by simp at hd,by rw[jbt];omega⟩
 ·obtain⟨ns,x,y,rfl,hl,hns,hn⟩:=I
  dsimp only
  refine jhc rfl ?_
  dsimp only[List.set]
  exact jbu (b1_i (jaf rfl (jhi (k ns n ⟨by simpa using hl,hns⟩ (by simpa using hn)))))
 ·obtain⟨ns,x,y,rfl,hl,hns,hn⟩:=I
  rw[List.length_cons]at hl hn
  dsimp only[jai,List.set]
  refine jam (show sSet 4 _ _ _ _ from b1_i (of_i ?_))
  unfold jbz
  dsimp only
  refine c1_i (jaf rfl (And.intro rfl ⟨by omega,fun s s1 s4=>?_⟩))
  refine And.intro ⟨by omega,by omega⟩ ?_
  rw[Int.toNat_natCast]
  refine jdy (fun v=>isV v=true) 1 (fun d n Q' hn q=>c1_i (jaf rfl (And.intro rfl ⟨by omega,fun v hv=>q v _ (jn0 hv) (by omega)⟩))) _ [] none _ (by rw[jbt];omega) fun row n' hrl hrow hn'=>?_
  rw[jbt]at hrl hn'
  rw[List.nil_append]
  refine jhi ?_
  dsimp only[List.set]
  refine jij rfl (jcn (jaf rfl (j06 rfl (by omega) fun v hv=>?_)))
  refine And.intro (show 2≤1000 by decide) (And.intro (by rw[List.length_map];omega) (kN _ _ ⟨ns++[(row,v)],_,_,by rw[List.map_append];rfl,by rw[List.length_append,List.length_singleton];omega,fun e he=>?_,by omega⟩))
  rcases List.mem_append.mp he with z | z
  ·exact hns e z
  ·rw[List.mem_singleton]at z
   subst z
   exact⟨by show 1≤row.length;omega,by show row.length≤4;omega,hrow⟩
theorem jga:∀ws n Q,jin ws n Q→ws.length=1:=fun ws n Q h=>by obtain⟨rfl,_⟩:=h;rfl
theorem jf3:∀ws n Q,jin ws n Q→jc5 (jbk ["_law_tape_here","_law_programs_here"] ws) n {nx:=fun _ n=>Q (.d .none) n,rt:=Q}:=fun ws n0 Q h=>by
 obtain⟨rfl,hn0,k⟩:=h
 show jc5 [some (.w .tp),none] n0 _
 refine jam (show sOwn 1 _ _ _ _ from ?_)
 unfold sOwn jbz jbh
 refine w2_i (of_i (And.intro (by decide) ?_))
 dsimp only
 refine jdx (m:=8) rfl (by omega) (by decide) (by decide) fun q q0 q1=>jcx (ds:=[.int 2,.int 1,.int 2,.int 3,.int 2,.int 1,.int 0,.int 5]) q0 q1 fun d hd=>?_
 have hj:∃j:Nat,j≤5∧d=.int j:=by
  simp only[List.mem_cons,List.not_mem_nil,or_false]at hd
  rcases hd with rfl | rfl | rfl | rfl | rfl | rfl | rfl | rfl
  ·exact⟨2,by decide,rfl⟩
  ·exact⟨1,by decide,rfl⟩
  ·exact⟨2,by decide,rfl⟩
  ·exact⟨3,by decide,rfl⟩
  ·exact⟨2,by decide,rfl⟩
  ·exact⟨1,by decide,rfl⟩
  ·exact⟨0,by decide,rfl⟩
  ·exact⟨5,by decide,rfl⟩
 obtain⟨j,hj,rfl⟩:=hj
 refine And.intro ⟨by omega,by omega⟩ ?_
 rw[Int.toNat_natCast]
 refine jdy (fun d=>∃P,okG P∧d=prD P) 600 (fun d n Q' hn q=>c1_i (jaf rfl (And.intro rfl ⟨by omega,fun P n' hP hn'=>q (prD P) n' ⟨P,hP,rfl⟩ (by omega)⟩))) _ [] none _ (by rw[jbt];omega) fun ds n1 hpl hps0 hn1=>?_
 rw[jbt]at hpl hn1
 rw[List.nil_append]
 obtain⟨ps,rfl,hps⟩:=jr2 hps0
 clear hps0
 rw[List.length_map]at hpl
 dsimp only[List.set]
 have rest:∀(ps':Pg) (n2:Int),ps'.length≤5→(∀P∈ps',okG P)→n2≤n1+1→sFrz 1 (sRet (wB jcu (jab (wVar 1) aNil))) [some (.w .tp),some (.own (ps'.map prD))] n2 {nx:=fun _ n=>Q (.d .none) n,rt:=Q}:=fun ps' n2 hl' hp' hn2=>by
  refine jhc rfl ?_
  dsimp only[List.set]
  exact jbu (b1_i (jaf rfl (jhi (k ps' n2 ⟨hl',hp'⟩ (by omega)))))
 refine jam (if_i ?_)
 refine(show cT _ _ _ _ from w2_i (b1_i (jma rfl (jz2 (c_i (eqLi ?_))))))
 rw[List.length_map]
 show if decide ((ps.length:Int)=2)=true then _ else _
 by_cases h2:(ps.length:Int)=2
 ·rw[if_pos (decide_eq_true h2)]
  refine w2_i (jdx (m:=4) rfl (by omega) (by decide) (by decide) fun q q0 q1=>c_i (eqLi ?_))
  show if decide (q=0)=true then _ else _
  by_cases hq:q=0
  ·rw[if_pos (decide_eq_true hq)]
   have hl2:ps.length=2:=by omega
   obtain⟨P,P',rfl⟩:∃P P',ps=[P,P']:=by
    match ps,hl2 with
    |[P,P'],_=>exact⟨P,P',rfl⟩
   refine(show sPut 1 _ _ _ _ _ from w2_i (jma rfl (c_i ?_)))
   refine(show gIxL (.ln [prD P,prD P']) (.d (.int 0)) _ _ from ?_)
   refine rest [P,P] _ (show 2≤5 by decide) (fun R hR=>?_) (by omega)
   simp only[List.mem_cons,List.not_mem_nil,or_false,or_self]at hR
   subst hR
   exact hps _ List.mem_cons_self
  ·rw[if_neg (by simpa using hq)]
   exact rest ps _ (by omega) hps (by omega)
 ·rw[if_neg (by simpa using h2)]
  exact rest ps _ (by omega) hps (by omega)
theorem addI {i j n:Int} {Q:DQ} (k:Q (.d (.int (i+j))) n):gI0 (fun i j=>.int (i+j)) (.d (.int i)) (.d (.int j)) n Q:=k
theorem jiz:∀ws n Q,jim ws n Q→ws.length=3:=fun ws n Q h=>by obtain⟨_,_,rfl,_⟩:=h;rfl
noncomputable def StI (ps:Pg) (m:Nat) (n0:Int) (ds:List PyData) (δ:Sl) (n:Int):Prop:=∃(hs:List Hn) (re:Pg) (x4 x5 x6 x7:Option SV),δ=[some (.w .tp),some (.w (.d (pgD ps))),some (.w (.d (.int m))),some (.own (hs.map hnD)),x4,x5,x6,x7]∧ds=re.map prD∧re=ps.drop hs.length∧hs.length≤ps.length ∧
 (∀(i:Nat) (P:List Bl),i < hs.length→ps[i]?=some P→∃(h:Hn) (b:Bl),hs[i]?=some h∧P[h.1]?=some b∧h.2.1≤b.2.length)∧n+42*(ds.length:Int)≤n0+210
theorem jic:∀ws n Q,jim ws n Q→jev (jbk ["_law_tape_here","_law_programs_here","_law_most","_law_hands","_law_program_here","_law_block","_law_place","_law_names"] ws) n {nx:=fun _ n=>Q (.d .none) n,rt:=Q}:=fun ws n0 Q h=>by
 obtain⟨ps,m,rfl,hm,⟨hpl,hps⟩,hn0,k⟩:=h
 show jev [some (.w .tp),some (.w (.d (pgD ps))),some (.w (.d (.int m))),none,none,none,none,none] n0 _
 refine jam (jdn ?_)
 dsimp only[List.set]
 refine jam ?_
 unfold sFor jcg
 refine jaf rfl ?_
 dsimp only[pgD]
 refine jbw (StI ps m n0) (fun δ n I=>?_) (fun d r δ n N I kN=>?_) _ _ _ ⟨[],ps,none,none,none,none,rfl,rfl,rfl,Nat.zero_le _,fun i P hi=>absurd hi (Nat.not_lt_zero _),by rw[List.length_map];omega⟩
 ·obtain⟨hs,re,x4,x5,x6,x7,rfl,er,hre,hle,hok,hn⟩:=I
  have e0:=List.map_eq_nil_iff.mp er.symm
  rw[e0]at hre
  have hlen:ps.length≤hs.length:=List.drop_eq_nil_iff.mp hre.symm
  dsimp only
  refine jhc rfl ?_
  dsimp only[List.set]
  refine jbu (jcn (b1_i (jaf rfl (c2_i (jaf rfl (jaf rfl (Exists.intro m ⟨rfl,hm,by simp at hn;omega,fun ns n' hns hn'=>?_⟩)))))))
  exact And.intro (show 2≤1000 by decide) (k hs ns n' (fun i P hi=>hok i P (by have:=(List.getElem?_eq_some_iff.mp hi).1;omega) hi) hns (by simp at hn;omega))
 ·obtain⟨hs,re,x4,x5,x6,x7,rfl,er,hre,hle,hok,hn⟩:=I
  obtain⟨P,re',rfl,rfl,rfl⟩:=List.map_eq_cons_iff.mp er.symm
  rw[List.length_cons,List.length_map]at hn
  have hlt:hs.length < ps.length:=by
   have:=congrArg List.length hre
   rw[List.length_cons,List.length_drop]at this
   omega
  have hcons:=List.drop_eq_getElem_cons hlt
  rw[←hre]at hcons
  obtain⟨hP,hre'⟩:=List.cons.inj hcons
  have hPg:ps[hs.length]?=some P:=by rw[List.getElem?_eq_getElem hlt,hP]
  obtain⟨g1,g2,g3⟩:=hps P (List.mem_of_getElem? hPg)
  dsimp only[jai,List.set]
  refine jam (show sSet 5 _ _ _ _ from jdw (m:=(P.map blD).length) rfl (fun Q q=>b1_i (jaf rfl q)) (by omega) (by rw[List.length_map];omega) (by rw[List.length_map];omega) fun r r0 r1=>?_)
  rw[List.length_map]at r1
  obtain⟨b,hb⟩:∃b:Nat,r=(b:Int):=⟨r.toNat,by omega⟩
  subst hb
  have hbl:b < P.length:=by omega
  obtain⟨bl,hbl'⟩:∃bl:Bl,P[b]?=some bl:=⟨P[b],List.getElem?_eq_getElem hbl⟩
  obtain⟨w,as⟩:=bl
  have hi':(P.map blD)[b]?=some (blD (w,as)):=by rw[List.getElem?_map,hbl'];rfl
  obtain⟨ob,_⟩:=g3 (w,as) (List.mem_of_getElem? hbl')
  have has:as.length≤8:=ob.2.2.1
  dsimp only[List.set]
  refine jam (show sSet 6 _ _ _ _ from jdw (m:=((as.map Ac.d).length:Int)+1) rfl (fun Q q=>w2_i (b1_i (w2_i (w2_i (jaf rfl (jaf rfl (gN_i hi' (c_i (g1_i ?_)))))))) ) (by omega) (by omega) (by rw[List.length_map];omega) fun r r0' r1'=>?_)
  ·exact addI q
  rw[List.length_map]at r1'
  obtain⟨p,hp⟩:∃p:Nat,r=(p:Int):=⟨r.toNat,by omega⟩
  subst hp
  dsimp only[List.set]
  refine jam (show sSet 7 _ _ _ _ from b1_i (of_i ?_))
  unfold jbz jgc
  dsimp only
  refine c3_i (jaf rfl (jaf rfl (jaf rfl (Exists.intro P ⟨b,p,(w,as),rfl,hbl',ob,by show p≤as.length;omega,fun ys hys=>?_⟩))))
  dsimp only
  refine jdy (fun _=>True) 1 (fun d n Q' hn q=>jcn (jaf rfl (c1_i (jaf rfl (And.intro rfl ⟨by omega,fun v hv=>And.intro (show 2≤1000 by decide) (q _ _ trivial (by omega))⟩))))) _ [] none _ (by rw[List.length_map];omega) fun row n' hrl hrow hn'=>?_
  rw[List.length_map]at hrl hn'
  rw[List.nil_append]
  dsimp only[jcc,List.set]
  refine jij rfl (jp3 (jaf rfl (jaf rfl (jaf rfl ?_))))
  refine And.intro (show 3≤1000 by decide) (And.intro (by rw[List.length_map];omega) (kN _ _ ⟨hs++[(b,p,.tuple row)],re',_,_,_,_,by rw[List.map_append];rfl,rfl,by rw[List.length_append,List.length_singleton];exact hre',by rw[List.length_append,List.length_singleton];omega,fun i P' hi hP'=>?_,by rw[List.length_map];omega⟩))
  rw[List.length_append,List.length_singleton]at hi
  by_cases z:i < hs.length
  ·obtain⟨h,b',q1,q2,q3⟩:=hok i P' z hP'
   exact⟨h,b',by rw[List.getElem?_append_left z];exact q1,q2,q3⟩
  ·have z':i=hs.length:=by omega
   subst z'
   rw[hPg]at hP'
   cases hP'
   exact⟨(b,p,.tuple row),(w,as),by simp,hbl',by show p≤as.length;omega⟩
section
variable {δ:Sl} {n:Int} {Q:DQ}
theorem jlh {u:DTT} {v w:DT} {b:Bool} (hu:∀Q:Bool→Int→Prop,Q b n→u δ n Q) (k:if b=true then v δ n Q else w δ n Q):wIf u v w δ n Q:=hu _ k
end
theorem jp5 {δ:Sl} {n:Int} {Q:DQ} {w:DT} {x:PyData} (hw:∀Q:DQ,Q (.d x) n→w δ n Q) (k:Q (.d (.tuple [x])) n):wTup (jab w aNil) δ n Q:=hw _ (And.intro (show 1≤1000 by decide) k)
theorem jpp {α:Type} {w:DT} {Q:List PyData→Int→Prop} {rest:Sl} (f g:α→PyData):∀(xs:List α) (acc:List PyData) (x:Option SV) (n:Int),(∀a∈xs,∀(n:Int) (Q':DQ),Q' (.d (g a)) n→w (some (.w (.d (f a)))::rest) n Q')→Q (acc++xs.map g) n→jcy (jai 0) cYes w Q (xs.map f) acc (x::rest) n
 |[],acc,x,n,_,q=>by rw[List.map_nil,List.append_nil]at q;exact q
 |a::r,acc,x,n,h,q=>by
  simp only[List.map_cons,jcy,jai,cYes,if_true,List.set_cons_zero]
  refine h a List.mem_cons_self n _ (jpp f g r (acc++[g a]) _ n (fun b hb=>h b (List.mem_cons_of_mem _ hb)) ?_)
  rw[List.append_assoc]
  exact q
theorem jx0 {α:Type} {c:DTT} {w:DT} {Q:List PyData→Int→Prop} {rest:Sl} (f g:α→PyData) (p:α→Bool):∀(xs:List α) (acc:List PyData) (x:Option SV) (n:Int),(∀a∈xs,∀(n:Int) (Q':Bool→Int→Prop),Q' (p a) n→c (some (.w (.d (f a)))::rest) n Q')→(∀a∈xs,∀(n:Int) (Q':DQ),Q' (.d (g a)) n→w (some (.w (.d (f a)))::rest) n Q')→Q (acc++(xs.filter p).map g) n→jcy (jai 0) c w Q (xs.map f) acc (x::rest) n
 |[],acc,x,n,_,_,q=>by rw[List.filter_nil,List.map_nil,List.append_nil]at q;exact q
 |a::r,acc,x,n,hp,h,q=>by
  simp only[List.map_cons,jcy,jai,List.set_cons_zero]
  refine hp a List.mem_cons_self n _ ?_
  cases e:p a with
  |true =>
   simp only[if_true]
   refine h a List.mem_cons_self n _ (jx0 f g p r (acc++[g a]) _ n (fun b hb=>hp b (List.mem_cons_of_mem _ hb)) (fun b hb=>h b (List.mem_cons_of_mem _ hb)) ?_)
   rw[List.filter_cons,if_pos e,List.map_cons]at q
   rw[List.append_assoc]
   exact q
  |false =>
   simp only[Bool.false_eq_true,if_false]
   refine jx0 f g p r acc _ n (fun b hb=>hp b (List.mem_cons_of_mem _ hb)) (fun b hb=>h b (List.mem_cons_of_mem _ hb)) ?_
   rw[List.filter_cons,if_neg (by rw[e];exact Bool.false_ne_true)]at q
   exact q
theorem j05 {α:Type} {xs:List α} {p:α→Bool} {n:Int} {Q:DQ} (k:Q (.d (.bool (xs.all p))) n):gAll [.d (.list (xs.map fun a=>.bool (p a)))] n Q:=by
 show(match jff (xs.map fun a=>.bool (p a))with | some bs=>Q (.d (.bool (bs.all id))) n | none=>False)
 rw[jgj p xs]
 show Q (.d (.bool ((xs.map p).all id))) n
 rw[List.all_map]
 exact k
theorem j04 {α:Type} {xs:List α} {p:α→Bool} {n:Int} {Q:DQ} (k:Q (.d (.bool (xs.any p))) n):gAny [.d (.list (xs.map fun a=>.bool (p a)))] n Q:=by
 show(match jff (xs.map fun a=>.bool (p a))with | some bs=>Q (.d (.bool (bs.any id))) n | none=>False)
 rw[jgj p xs]
 show Q (.d (.bool ((xs.map p).any id))) n
 rw[List.any_map]
 exact k
theorem jmb:∀ws n Q,jka ws n Q→ws.length=3:=fun ws n Q h=>by obtain⟨_,_,_,_,rfl,_⟩:=h;rfl
theorem jlc:∀ws n Q,jka ws n Q→jgn (jbk ["programs","stand","hand","block","place","acts"] ws) n {nx:=fun _ n=>Q (.d .none) n,rt:=Q}:=fun ws n Q h=>by
 obtain⟨ps,hs,d,h,rfl,hok,hh,k⟩:=h
 have hP:ps[h]?=some ps[h]:=List.getElem?_eq_getElem hh
 generalize ps[h]=P at hP
 obtain⟨⟨xb,xp,xn⟩,⟨w,as⟩,e1,e2,e3⟩:=hok h P hP
 have hs':(hs.map hnD)[h]?=some (hnD (xb,xp,xn)):=by rw[List.getElem?_map,e1];rfl
 have hp':(ps.map prD)[h]?=some (prD P):=by rw[List.getElem?_map,hP];rfl
 have hb':(P.map blD)[xb]?=some (blD (w,as)):=by rw[List.getElem?_map,show P[xb]?=_ from e2];rfl
 have he:endB ps hs h=decide (xp=as.length):=by
  unfold endB
  rw[e1,hP]
  show(match P[xb]? with | some b=>decide (xp=b.2.length) | none=>false)=_
  rw[show P[xb]?=_ from e2]
 rw[he]at k
 have e3:xp≤as.length:=e3
 show jgn [some (.w (.d (pgD ps))),some (.w (.d (stD hs d))),some (.w (.d (.int h))),none,none,none] n _
 refine jam (jcv (x:=.int xb) (fun Q q=>w2_i (w2_i (w2_i (jaf rfl (c_i (g0_i (jaf rfl (gN_i hs' (c_i (g0_i q)))))))))) ?_)
 dsimp only[List.set]
 refine jam (jcv (x:=.int xp) (fun Q q=>w2_i (w2_i (w2_i (jaf rfl (c_i (g0_i (jaf rfl (gN_i hs' (c_i (g1_i q)))))))))) ?_)
 dsimp only[List.set]
 refine jam (jcv (x:=.tuple (as.map Ac.d)) (fun Q q=>w2_i (w2_i (w2_i (jaf rfl (jaf rfl (gN_i hp' (jaf rfl (gN_i hb' (c_i (g1_i q)))))))))) ?_)
 dsimp only[List.set]
 refine jbu (jlh (b:=decide ((xp:Int) < ((as.map Ac.d).length:Nat))) (fun Q q=>ct_b (fun Q q=>w2_i (jaf rfl (b1_i (jaf rfl (lt_i q))))) q) ?_)
 rw[List.length_map]
 by_cases z:(xp:Int) < (as.length:Nat)
 ·rw[if_pos (decide_eq_true z)]
  have zl:xp < as.length:=by omega
  have ha:(as.map Ac.d)[xp]?=some (Ac.d as[xp]):=by rw[List.getElem?_map,List.getElem?_eq_getElem zl];rfl
  refine w2_i (jaf rfl (jaf rfl (gN_i ha (k _ ?_))))
  rw[decide_eq_false (by omega)]
  cases as[xp]<;>rfl
 ·rw[if_neg (by simpa using z)]
  refine c_i (k .none ?_)
  rw[decide_eq_true (by omega)]
  rfl
theorem j00 (b:Bs):∃(s:Str) (r:List PyData),b.d=.tuple (.str s::r)∧inD (.str s) [.str "all",.str "some"]=false∧jav "not" (.str s)=false:=by
 cases b with
 |notes fs k=>exact⟨"notes",_,rfl,by decide +kernel,by decide +kernel⟩
 |«at» h b p=>exact⟨"at",_,rfl,by decide +kernel,by decide +kernel⟩
 |ended h=>exact⟨"ended",_,rfl,by decide +kernel,by decide +kernel⟩
theorem jsn (k:Bool):inD (.str (hdA k)) [.str "all",.str "some"]=true:=by cases k<;>decide +kernel
theorem jxo (k:Bool):jav "not" (.str (hdA k))=false:=by cases k<;>decide +kernel
theorem jkr:∀ws n Q,jcm ws n Q→ws.length=1:=fun ws n Q h=>by obtain⟨_,_,rfl,_⟩:=h;rfl
theorem jjh:∀ws n Q,jcm ws n Q→jd9 (jbk ["sight"] ws) n {nx:=fun _ n=>Q (.d .none) n,rt:=Q}:=fun ws n Q h=>by
 obtain⟨t,g,rfl,k⟩:=h
 have base:∀b:Bs,Q (.d (.tuple [])) n→jd9 [some (.w (.d b.d))] n {nx:=fun _ n=>Q (.d .none) n,rt:=Q}:=fun b q=>by
  obtain⟨s,r,e,h1,h2⟩:=j00 b
  rw[e]
  refine jam (if_n (fun Q q=>jg6 rfl h1 q) ?_)
  dsimp only[jaw]
  refine jbu (jlh (b:=false) (fun Q q=>jgh (i:=0) (a:=.str s) (r:=r) rfl (by show Q (jav "not" (.str s)) n;rw[h2];exact q)) ?_)
  rw[if_neg Bool.false_ne_true]
  exact And.intro (Nat.zero_le _) q
 cases t with
 |zero=>exact base g k
 |succ t =>
  match g,k with
  |.inl b,k=>exact base b k
  |.inr q,k =>
   show jd9 [some (.w (.d (.tuple [.str (hdA q.1),.tuple (q.2.map (Sp.d t))])))] n _
   exact jam (if_y (fun Q q'=>jg6 rfl (jsn q.1) q') (jbu (jc0 rfl k)))
theorem ne_str {s h:Str} {n:Int} {Q:DQ} (k:Q (.d (.bool (!jav h (.str s)))) n):gNe (.d (.str s)) (.d (.str h)) n Q:=k
theorem jyb {δ:Sl} {n:Int} {Q:DQ} {u v:DT} {b:Bool} (hu:∀Q:DQ,Q (.d (.bool b)) n→u δ n Q) (k:if b=true then v δ n Q else Q (.d (.bool false)) n):wAnd u v δ n Q:=hu _ (by cases b<;>exact k)
theorem j09 {δ:Sl} {n:Int} {Q:DQ} {u v:DT} {b:Bool} (hu:∀Q:DQ,Q (.d (.bool b)) n→u δ n Q) (k:if b=true then Q (.d (.bool true)) n else v δ n Q):wOr u v δ n Q:=hu _ (by cases b<;>exact k)
theorem j1j {δ:Sl} {n:Int} {i t:Nat} {g:Sp t} {Q:DQ} (e:δ[i]?=some (some (.w (.d (Sp.d t g))))) (q:Q (.d (.tuple (Sp.subs t g))) n):jaq jcm (jab (wVar i) aNil) δ n Q:=c1_i (jaf e ⟨t,g,rfl,q⟩)
theorem jsq {fs:List Fd} {row:List PyData} {r:PyData} (h:Fit fs row [] r):jcb r=!holds fs row:=by
 unfold Fit at h
 unfold holds
 split at h
 ·rename_i e
  rw[decide_eq_true e,Bool.true_and]
  cases q:wk (fs.zip row) [] []with
  |none=>rw[q]at h;rw[show r=.none from h];rfl
  |some k=>rw[q]at h;exact h
 ·rename_i e
  rw[decide_eq_false e,h]
  rfl
theorem jxw (s h:Str):PyData.eqv (.str s) (.str h)=jav h (.str s):=by
 simp only[PyData.eqv,jav]
 rw[Bool.eq_iff_iff]
 simp
theorem xxs {δ:Sl} {n:Int} {i:Nat} {s h:Str} {b:Bool} (e:δ[i]?=some (some (.w (.d (.str s))))) (h1:PyData.strOk s=true) (h2:PyData.strOk h=true) (h3:jav h (.str s)=b):∀Q:Bool→Int→Prop,Q b n→cT (w2 (wVar i) (wC (.str h)) (gXX fun d e=>some (PyData.eqv d e))) δ n Q:=fun Q q=>by
 refine ct_b (k:=b) (fun Q q=>w2_i (jaf e (c_i ?_))) q
 refine⟨by simp only[PyData.canLay0];exact h1,by simp only[PyData.canLay0];exact h2,by simp[PyData.depth],by simp[PyData.depth],b,?_,q⟩
 show some (PyData.eqv (.str s) (.str h))=some b
 rw[jxw,h3]
theorem j11 (a b c:PyData):cutD [a,b,c] none (some 2)=[a,b]:=jv3 [a,b,c] (p:=2) (by simp)
theorem ju4 (xs:List PyData) {p:Nat} (hp:p≤xs.length):cutD xs (some (p:Int)) none=xs.drop p:=by
 unfold cutD
 rw[HT.sIx_nat]
 show(xs.drop (min p xs.length)).take (xs.length - min p xs.length)=_
 rw[Nat.min_eq_left hp]
 exact List.take_of_length_le (by rw[List.length_drop];exact Nat.le_refl _)
theorem j10 (a b c d:PyData):cutD [a,b,c,d] (some 2) none=[c,d]:=ju4 [a,b,c,d] (p:=2) (by simp)
theorem ge_i {a b:Int} {n:Int} {Q:DQ} (k:Q (.d (.bool (decide (b≤a)))) n):gGe (.d (.int a)) (.d (.int b)) n Q:=k
theorem jv8 {ps:Pg} {hs:List Hn} {cs:List Ct} {h b p xb xp:Nat} {xn:PyData} (e:hs[h]?=some (xb,xp,xn)):Bs.see ps hs cs (.at h b p)=(decide (xb=b)&&decide (xp=p)):=by
 show(match hs[h]? with | some x=>decide (x.1=b)&&decide (x.2.1=p) | none=>false)=_
 rw[e]
theorem jno {ps:Pg} {hs:List Hn} (ok:okHs ps hs) {h:Nat} (hh:h < ps.length):∃(P:List Bl) (xb xp:Nat) (xn:PyData) (w:List Str) (as:List Ac),ps[h]?=some P∧hs[h]?=some (xb,xp,xn)∧P[xb]?=some (w,as)∧xp≤as.length:=by
 have hP:ps[h]?=some ps[h]:=List.getElem?_eq_getElem hh
 obtain⟨⟨xb,xp,xn⟩,⟨w,as⟩,e1,e2,e3⟩:=ok h _ hP
 exact⟨_,xb,xp,xn,w,as,hP,e1,e2,e3⟩
theorem jxj (k m:Nat):decide ((k:Int)≤(m:Int))=decide (k≤m):=decide_eq_decide.mpr Int.ofNat_le
theorem jxv (a b c d:Nat):PyData.eqv (.tuple [.int a,.int b]) (.tuple [.int c,.int d])=(decide (a=c)&&decide (b=d)):=by
 simp only[PyData.eqv,PyData.eqvAll,Bool.and_true]
 rw[Bool.eq_iff_iff]
 simp
 omega
theorem jg3:∀ws n Q,jkb ws n Q→ws.length=2:=fun _ _ _ h=>h.elim
theorem jgk:∀ws n Q,jkb ws n Q→jfg (jbk ["pattern","notes"] ws) n {nx:=fun _ n=>Q (.d .none) n,rt:=Q}:=fun _ _ _ h=>h.elim
theorem jup:∀d ws n Q,jec d ws n Q→ws.length=3:=fun d ws n Q h=>by
 cases d with
 |zero=>exact h.elim
 |succ t=>obtain⟨_,_,_,_,rfl,_⟩:=h;rfl
theorem jtd:∀d ws n Q,jec (d+1) ws n Q→jti (jec d) (jbk ["programs","stand","sight","head","seen"] ws) n {nx:=fun _ n=>Q (.d .none) n,rt:=Q}:=fun t ws n Q h=>by
 obtain⟨ps,hs,cs,b,rfl,ok,hb,hN,k⟩:=h
 show jti (jec t) [some (.w (.d (pgD ps))),some (.w (.d (stD hs (csD cs)))),some (.w (.d b.d)),none,none] n _
 cases b with
 |notes fs j=>cases hN
 |«at» h b p =>
  obtain⟨P,xb,xp,xn,w,as,e0,e1,e2,e3⟩:=jno ok hb.1
  rw[jv8 e1]at k
  have hs':(hs.map hnD)[h]?=some (hnD (xb,xp,xn)):=by rw[List.getElem?_map,e1];rfl
  refine jam (jcv (x:=.str "at") (fun Q q=>jgb rfl q) ?_)
  dsimp only[List.set]
  refine jam (if_n (xxs rfl (by decide +kernel) (by decide +kernel) (by decide +kernel)) ?_)
  dsimp only[jaw]
  refine jam (if_y (xxs rfl (by decide +kernel) (by decide +kernel) (by decide +kernel)) ?_)
  refine jbu (w2_i ?_)
  unfold jjm
  refine w2_i (jgb rfl (jc0 rfl (gN_i hs' ?_)))
  dsimp only[jpa,jo9,hnD]
  refine c_i ?_
  dsimp only
  rw[j11]
  refine jaf rfl ?_
  dsimp only[Bs.d]
  refine c_i ?_
  dsimp only
  rw[j10]
  refine⟨by simp[PyData.canLay0,PyData.canLayAll0],by simp[PyData.canLay0,PyData.canLayAll0],by simp[PyData.depth,PyData.depthAll],by simp[PyData.depth,PyData.depthAll],_,rfl,?_⟩
  rw[jxv]
  exact k
 |ended h =>
  refine jam (jcv (x:=.str "ended") (fun Q q=>jgb rfl q) ?_)
  dsimp only[List.set]
  refine jam (if_n (xxs rfl (by decide +kernel) (by decide +kernel) (by decide +kernel)) ?_)
  dsimp only[jaw]
  refine jam (if_n (xxs rfl (by decide +kernel) (by decide +kernel) (by decide +kernel)) ?_)
  dsimp only[jaw]
  refine jam (if_y (xxs rfl (by decide +kernel) (by decide +kernel) (by decide +kernel)) ?_)
  refine jbu (w2_i (c3_i (jaf rfl (jaf rfl (jc0 rfl (Exists.intro ps ⟨hs,csD cs,h,rfl,ok,hb,fun r hr=>c_i ?_⟩))))))
  show Q (.d (.bool (jcb r))) n
  rw[hr]
  exact k
theorem jvy (k:Bool) (h:Str) (e:h∈(["notes","at","ended","not"]:List Str)):jav h (.str (hdA k))=false:=by
 simp only[List.mem_cons,List.not_mem_nil,or_false]at e
 rcases e with rfl | rfl | rfl | rfl<;>cases k<;>decide +kernel
theorem jso (k:Bool):jav "all" (.str (hdA k))=k:=by cases k<;>decide +kernel
theorem jp4 {δ:Sl} {n:Int} {Q:DQ} {w1 w2:DT} {a b:PyData} (h1:∀Q:DQ,Q (.d a) n→w1 δ n Q) (h2:∀Q:DQ,Q (.d b) n→w2 δ n Q) (k:Q (.d (.tuple [a,b])) n):wTup (jab w1 (jab w2 aNil)) δ n Q:=h1 _ (h2 _ (And.intro (show 2≤1000 by decide) k))
theorem jrz:∀l:List (Option Nat),inD .none (l.map cvD)=l.any Option.isNone
 |[]=>rfl
 |a::r=>by
  have ih:=jrz r
  unfold inD at ih ⊢
  rw[List.map_cons,List.any_cons,List.any_cons,ih]
  cases a<;>rfl
theorem jxt (l:List (Option Nat)):(l.map cvD).all jed=true:=by
 rw[List.all_eq_true]
 intro d hd
 obtain⟨x,_,rfl⟩:=List.mem_map.mp hd
 cases x<;>rfl
theorem jsi:∀{l:List (Option Nat)},l.any Option.isNone=false→∃ns:List Int,jnn (l.map cvD)=some ns∧ns.sum=(((l.filterMap id).sum:Nat):Int)
 |[],_=>⟨[],rfl,rfl⟩
 |none::r,h=>by cases h
 |some a::r,h=>by
  obtain⟨ns,e,es⟩:=jsi (l:=r) h
  refine⟨(a:Int)::ns,?_,?_⟩
  ·show(jnn (r.map cvD)).map _=_
   rw[e]
   rfl
  ·rw[List.sum_cons,es]
   show _=(((a::r.filterMap id).sum:Nat):Int)
   rw[List.sum_cons,Int.natCast_add]
theorem jon {δ:Sl} {n:Int} {Q:DQ} {i:Nat} {w:DT} {fs:List Fd} {cs:List Ct} {k:Nat} (e:δ[i]?=some (some (.w (.d (.list ((jdp fs cs).map cvD)))))) (hw:∀Q:DQ,Q (.d (.int k)) n→w δ n Q) (q:Q (.d (.bool (enB fs cs k))) n) :
  wOr (w2 (wC .none) (wVar i) (gIn false)) (w2 (wB gSum (jab (wVar i) aNil)) w gGe) δ n Q:=by
 refine j09 (b:=(jdp fs cs).any Option.isNone) (fun Q q=>w2_i (c_i (jaf e ⟨rfl,jxt _,?_⟩))) ?_
 ·show Q (.d (.bool (inD .none ((jdp fs cs).map cvD)))) n
  rw[jrz]
  exact q
 ·unfold enB at q
  cases h:(jdp fs cs).any Option.isNone with
  |true=>rw[h]at q;exact q
  |false =>
   rw[h,Bool.false_or]at q
   rw[if_neg Bool.false_ne_true]
   obtain⟨ns,e1,e2⟩:=jsi h
   refine w2_i (b1_i (jaf e ⟨ns,e1,hw _ (ge_i ?_)⟩))
   rw[e2,jxj]
   exact q
theorem jiw:∀ws n Q,je5 ws n Q→ws.length=3:=fun ws n Q h=>by obtain⟨_,_,_,rfl,_⟩:=h;rfl
theorem jh8:∀ws n Q,je5 ws n Q→jes (jbk ["counts","pattern","many","fitting"] ws) n {nx:=fun _ n=>Q (.d .none) n,rt:=Q}:=fun ws n Q h=>by
 obtain⟨fs,cs,k,rfl,hf,hcs,q⟩:=h
 show jes [some (.w (.d (csD cs))),some (.w (.d (patD fs))),some (.w (.d (.int k))),none] n _
 refine jam (show sSet 3 _ _ _ _ from of_i (jer (ds:=cs.map ctD) (fun Q q=>jaf rfl q) ?_))
 refine jx0 ctD (fun c=>cvD c.2) (fun c=>holds fs c.1) cs [] none n (fun a ha n Q' q=>?_) (fun a ha n Q' q=>jc0 (a:=.tuple a.1) (b:=cvD a.2) (r:=[]) rfl q) ?_
 ·refine ct_b (k:=holds fs a.1) (fun Q q=>w2_i (c3_i (jaf rfl (jgb (a:=.tuple a.1) (r:=[cvD a.2]) rfl (And.intro (Nat.zero_le _) ?_))))) q
  refine Exists.intro fs ⟨a.1,rfl,hf,(hcs.2 a ha).2,fun r hr=>c_i ?_⟩
  show Q (.d (.bool (!jcb r))) n
  rw[jsq hr,Bool.not_not]
  exact q
 ·rw[List.nil_append]
  dsimp only[List.set]
  have e:((cs.filter fun c=>holds fs c.1).map fun c=>cvD c.2)=(jdp fs cs).map cvD:=by unfold jdp;rw[List.map_map];rfl
  rw[e]
  exact jbu (jon rfl (fun Q q=>jaf rfl q) q)
theorem jfb:∀d ws n Q,jbd d ws n Q→ws.length=3:=fun d ws n Q h=>by
 cases d with
 |zero=>exact h.elim
 |succ t=>obtain⟨_,_,_,_,rfl,_⟩:=h;rfl
theorem jvv {δ:Sl} {n:Int} {i:Nat} {s a b:Str} {k:Bool} {Q:Bool→Int→Prop} (e:δ[i]?=some (some (.w (.d (.str s))))) (h:inD (.str s) [.str a,.str b]=k) (q:Q k n):cT (w2 (wVar i) (wTup (jab (wC (.str a)) (jab (wC (.str b)) aNil))) (gIn false)) δ n Q:=by
 refine w2_i (jaf e ?_)
 show 2≤1000∧jed (.str s)=true∧_∧Q (inD (.str s) [.str a,.str b]) n
 exact⟨by decide,rfl,rfl,by rw[h];exact q⟩
theorem jmq {Sf:DSp} {ps:Pg} {hs:List Hn} {cs:List Ct} {b:Bs} {n:Int} {Q:DQ} (ok:okHs ps hs) (hc:okCs cs) (hb:b.ok ps) (k:Q (.d (.bool (b.see ps hs cs))) n) :
  jct Sf [some (.w (.d (pgD ps))),some (.w (.d (stD hs (csD cs)))),some (.w (.d b.d)),none,none] n {nx:=fun _ n=>Q (.d .none) n,rt:=Q}:=by
 have see:∀(s:Str) (r:List PyData),b.d=.tuple (.str s::r)→jav "notes" (.str s)=false→inD (.str s) [.str "at",.str "ended"]=true→b.isN=false→jct Sf [some (.w (.d (pgD ps))),some (.w (.d (stD hs (csD cs)))),some (.w (.d b.d)),none,none] n {nx:=fun _ n=>Q (.d .none) n,rt:=Q}:=fun s r e h1 h2 hN=>by
  refine jam (jcv (x:=.str s) (fun Q q=>jgb (a:=.str s) (r:=r) (by rw[e];rfl) q) ?_)
  dsimp only[List.set]
  refine jam (j0e (d:=.str s) rfl h1 ?_)
  dsimp only[jaw]
  refine jam (if_y (fun Q q=>jvv rfl h2 q) ?_)
  exact jbu (c3_i (jaf rfl (jaf rfl (jaf rfl ⟨ps,hs,cs,b,rfl,ok,hb,hN,k⟩))))
 cases b with
 |notes fs j =>
  refine jam (jcv (x:=.str "notes") (fun Q q=>jgb rfl q) ?_)
  dsimp only[List.set]
  refine jam (j1n (d:=.str "notes") rfl (by decide +kernel) ?_)
  exact jbu (c3_i (jc0 rfl (jc0 rfl (ix_i (m:=2) (ds:=[.str "notes",patD fs,.int j]) rfl rfl ⟨fs,cs,j,rfl,hb,hc,k⟩))))
 |«at» h b p=>exact see "at" _ rfl (by decide +kernel) (by decide +kernel) rfl
 |ended h=>exact see "ended" _ rfl (by decide +kernel) (by decide +kernel) rfl
theorem j0j (k:Bool):inD (.str (hdA k)) [.str "at",.str "ended"]=false:=by cases k<;>decide +kernel
theorem jia:∀d ws n Q,jbd (d+1) ws n Q→jct (jbd d) (jbk ["programs","entry","sight","head","seen"] ws) n {nx:=fun _ n=>Q (.d .none) n,rt:=Q}:=fun t ws n Q h=>by
 obtain⟨ps,hs,cs,g,rfl,ok,hc,hg,k⟩:=h
 show jct (jbd t) [some (.w (.d (pgD ps))),some (.w (.d (stD hs (csD cs)))),some (.w (.d (Sp.d t g))),none,none] n _
 cases t with
 |zero=>exact jmq ok hc hg k
 |succ t =>
  match g,hg,k with
  |.inl b,hg,k=>exact jmq ok hc hg k
  |.inr q,hg,k =>
   refine jam (jcv (x:=.str (hdA q.1)) (fun Q q'=>jgb rfl q') ?_)
   dsimp only[List.set]
   refine jam (j0e (d:=.str (hdA q.1)) rfl (jvy q.1 _ (by simp)) ?_)
   dsimp only[jaw]
   refine jam (if_n (fun Q q'=>jvv rfl (j0j q.1) q') ?_)
   dsimp only[jaw]
   refine jam (show sSet 4 _ _ _ _ from of_i (jer (ds:=Sp.subs (t+1) (.inr q)) (fun Q q'=>j1j (t:=t+1) (g:=.inr q) rfl q') ?_))
   refine jpp (Sp.d t) (fun u=>.bool (Sp.see ps hs cs t u)) q.2 [] none n (fun u hu n Q' q'=>c3_i (jaf rfl (jaf rfl (jaf rfl ⟨ps,hs,cs,u,rfl,ok,hc,hg u hu,q'⟩)))) ?_
   rw[List.nil_append]
   dsimp only[List.set]
   refine jbu (jlh (b:=q.1) (fun Q q'=>j0n (d:=.str (hdA q.1)) rfl (by show Q (jav "all" (.str (hdA q.1))) n;rw[jso];exact q')) ?_)
   have k:Q (.d (.bool (if q.1 then q.2.all (Sp.see ps hs cs t)else q.2.any (Sp.see ps hs cs t)))) n:=k
   cases e:q.1 with
   |true=>rw[e]at k;rw[if_pos rfl];exact b1_i (jaf rfl (j05 k))
   |false=>rw[e]at k;rw[if_neg Bool.false_ne_true];exact b1_i (jaf rfl (j04 k))
theorem ji2:∀d ws n Q,jbo d ws n Q→ws.length=1:=fun d ws n Q h=>by
 cases d with
 |zero=>exact h.elim
 |succ t=>obtain⟨_,rfl,_⟩:=h;rfl
theorem jif:∀d ws n Q,jbo (d+1) ws n Q→jb7 (jbo d) (jbk ["_law_sight_here"] ws) n {nx:=fun _ n=>Q (.d .none) n,rt:=Q}:=fun t ws n Q h=>by
 obtain⟨g,rfl,k⟩:=h
 show jb7 (jbo t) [some (.w (.d (Sg.d t g)))] n _
 have base:∀b:Bs,Sg.d t g=b.d→Q (.d b.d) n→jb7 (jbo t) [some (.w (.d (Sg.d t g)))] n {nx:=fun _ n=>Q (.d .none) n,rt:=Q}:=fun b eb q=>by
  obtain⟨s,r,e,h1,h2⟩:=j00 b
  rw[eb,e]
  rw[e]at q
  refine jam (jg7 (a:=.str s) (r:=r) rfl h2 ?_)
  dsimp only[jaw]
  refine jam (if_n (fun Q q=>jg6 rfl h1 q) ?_)
  dsimp only[jaw]
  exact jbu (jaf rfl q)
 cases t with
 |zero=>exact base g rfl k
 |succ t =>
  match g,k,base with
  |.inl b,k,base=>exact base b rfl k
  |.inr (.inl q),k,base =>
   show jb7 (jbo (t+1)) [some (.w (.d (.tuple [.str (hdA q.1),.tuple (q.2.map (Sg.d t))])))] n _
   refine jam (jg7 (a:=.str (hdA q.1)) (r:=[.tuple (q.2.map (Sg.d t))]) rfl (jxo q.1) ?_)
   dsimp only[jaw]
   refine jam (if_y (fun Q q'=>jg6 rfl (jsn q.1) q') (jbu (jcn (jgb rfl (b1_i (of_i (jer (ds:=q.2.map (Sg.d t)) (fun Q q'=>jc0 rfl q') ?_)))))))
   refine jpp (Sg.d t) (fun s=>Sp.d t (Sg.pl t s)) q.2 [] none n (fun s _ n Q' q'=>c1_i (jaf rfl ⟨s,rfl,q'⟩)) ?_
   rw[List.nil_append]
   dsimp only[jcc]
   refine And.intro (show 2≤1000 by decide) ?_
   have e:q.2.map (fun s=>Sp.d t (Sg.pl t s))=(q.2.map (Sg.pl t)).map (Sp.d t):=by rw[List.map_map];rfl
   rw[e]
   exact k
  |.inr (.inr s),k,base =>
   show jb7 (jbo (t+1)) [some (.w (.d (.tuple [.str "not",Sg.d t s])))] n _
   refine jam (jpe (a:=.str "not") (r:=[Sg.d t s]) rfl (by decide +kernel) ?_)
   refine jbu (jcn (c_i ?_))
   refine jp5 (x:=Sp.d t (Sg.pl t s)) (fun Q q=>c1_i (jc0 rfl ⟨s,rfl,q⟩)) ?_
   exact And.intro (show 2≤1000 by decide) k
theorem jmc:∀ws n Q,jpx ws n Q→ws.length=1:=fun ws n Q h=>by obtain⟨_,rfl,_⟩:=h;rfl
theorem jld:∀ws n Q,jpx ws n Q→jgo (jbk ["_law_row"] ws) n {nx:=fun _ n=>Q (.d .none) n,rt:=Q}:=fun ws n Q h=>by
 obtain⟨k,rfl,q⟩:=h
 show jgo [some (.w (.d (.tuple (k.map DL.vD))))] n _
 refine jbu (b1_i (of_i (jer (ds:=k.map DL.vD) (fun Q q=>jaf rfl q) ?_)))
 refine jpp DL.vD (fun v=>.tuple [.int (if isSt (DL.vD v)then 1 else 0),DL.vD v]) k [] none n (fun v _ n Q' q'=>?_) ?_
 ·refine jp4 (fun Q q=>b1_i ?_) (fun Q q=>jaf rfl q) q'
  unfold wIsi
  refine jaf rfl ?_
  cases v with
  |inl i=>show gInt [.d (.bool (isiB "str" (.int i)))] n Q;rw[jeh];exact q
  |inr x=>show gInt [.d (.bool (isiB "str" (.str x)))] n Q;rw[jeh];exact q
 ·rw[List.nil_append]
  exact q
theorem jnv {c:DTT} {Q:List PyData→Int→Prop} {z:Option SV} (p:Ct→Bool):∀(ns:List Ct) (acc:List PyData) (x y:Option SV) (n:Int),(∀a∈ns,∀(n:Int) (Q':Bool→Int→Prop),Q' (p a) n→c [some (.w (.d (.tuple a.1))),some (.w (.d (cvD a.2))),z] n Q')→Q (acc++(ns.filter p).map fun q=>cvD q.2) n →
  jcy (je7 2 (jbc (jai 0) (jbc (jai 1) jc8))) c (wVar 1) Q (ns.map ctD) acc [x,y,z] n
 |[],acc,x,y,n,_,q=>by rw[List.filter_nil,List.map_nil,List.append_nil]at q;exact q
 |a::r,acc,x,y,n,hp,q=>by
  rw[List.map_cons]
  refine And.intro rfl ?_
  dsimp only[jbc,jc8,jai,List.set]
  refine hp a List.mem_cons_self n _ ?_
  cases e:p a with
  |true =>
   simp only[if_true]
   refine jaf rfl (jnv p r (acc++[cvD a.2]) _ _ n (fun b hb=>hp b (List.mem_cons_of_mem _ hb)) ?_)
   rw[List.filter_cons,if_pos e,List.map_cons]at q
   rw[List.append_assoc]
   exact q
  |false =>
   simp only[Bool.false_eq_true,if_false]
   refine jnv p r acc _ _ n (fun b hb=>hp b (List.mem_cons_of_mem _ hb)) ?_
   rw[List.filter_cons,if_neg (by rw[e];exact Bool.false_ne_true)]at q
   exact q
theorem jkx {α:Type} (b:Bool) (p:α→Bool):∀xs:List α,inD (.bool b) (xs.map fun a=>.bool (p a))=xs.any fun a=>p a==b
 |[]=>rfl
 |a::r=>by
  have ih:=jkx b p r
  unfold inD at ih ⊢
  rw[List.map_cons,List.any_cons,List.any_cons,ih]
  congr 1
theorem jj6 {α:Type} (p:α→Bool) (xs:List α):(xs.map fun a=>PyData.bool (p a)).all jed=true:=by
 rw[List.all_eq_true]
 intro d hd
 obtain⟨x,_,rfl⟩:=List.mem_map.mp hd
 rfl
theorem jj1 {α:Type} (p:α→Bool):∀xs:List α,(!(xs.any fun a=>p a==false))=xs.all p
 |[]=>rfl
 |a::r=>by
  rw[List.any_cons,List.all_cons,←jj1 p r]
  cases p a<;>simp
theorem jvw {α:Type} (p:α→Bool):∀xs:List α,(xs.any fun a=>p a==true)=xs.any p
 |[]=>rfl
 |a::r=>by
  rw[List.any_cons,List.any_cons,←jvw p r]
  cases p a<;>simp
theorem jss {a b:Nat} {n:Int} {Q:DQ} (k:Q (.d (.bool (decide (a=b)))) n):gEq (.d (.int a)) (.d (.int b)) n Q:=by
 show Q (.d (.bool (decide ((a:Int)=(b:Int))))) n
 rw[show decide ((a:Int)=(b:Int))=decide (a=b)from decide_eq_decide.mpr Int.ofNat_inj]
 exact k
theorem ji1:∀d ws n Q,jbd d ws n Q→ws.length=3:=jfb
theorem jju {Sf:DSp} {ps:Pg} {hs:List Hn} {cs:List Ct} {b:Bs} {n:Int} {Q:DQ} (ok:okHs ps hs) (hc:okCs cs) (hb:b.ok ps) (k:Q (.d (.bool (b.see ps hs cs))) n) :
  jdl Sf [some (.w (.d (pgD ps))),some (.w (.d (stD hs (csD cs)))),some (.w (.d b.d)),none,none,none,none,none] n {nx:=fun _ n=>Q (.d .none) n,rt:=Q}:=by
 cases b with
 |notes fs j =>
  refine jam (jpe (a:=.str "notes") (r:=[patD fs,.int j]) rfl (by decide +kernel) ?_)
  refine jam (show sSet 3 _ _ _ _ from of_i (jer (ds:=cs.map ctD) (fun Q q=>jc0 rfl q) ?_))
  refine jnv (fun q=>holds fs q.1) cs [] none none n (fun a ha n Q' q=>?_) ?_
  ·refine ct_b (k:=holds fs a.1) (fun Q q=>w2_i (c3_i (jc0 (a:=.str "notes") (b:=patD fs) (r:=[.int j]) rfl (jaf rfl (And.intro (Nat.zero_le _) ?_))))) q
   refine Exists.intro fs ⟨a.1,rfl,hb,(hc.2 a ha).2,fun r hr=>c_i ?_⟩
   show Q (.d (.bool (!jcb r))) n
   rw[hr,Bool.not_not]
   exact q
  ·rw[List.nil_append]
   dsimp only[List.set]
   have e:((cs.filter fun c=>holds fs c.1).map fun c=>cvD c.2)=(jdp fs cs).map cvD:=by unfold jdp;rw[List.map_map];rfl
   rw[e]
   exact jbu (jon rfl (fun Q q=>ix_i (m:=2) (ds:=[.str "notes",patD fs,.int j]) rfl rfl q) k)
 |«at» h b p =>
  obtain⟨P,xb,xp,xn,w,as,e0,e1,e2,e3⟩:=jno ok hb.1
  rw[jv8 e1]at k
  have hs':(hs.map hnD)[h]?=some (hnD (xb,xp,xn)):=by rw[List.getElem?_map,e1];rfl
  refine jam (jg7 (a:=.str "at") (r:=[.int h,.int b,.int p]) rfl (by decide +kernel) ?_)
  dsimp only[jaw]
  refine jam (if_n (fun Q q=>jg6 (s:="at") (r:=[.int h,.int b,.int p]) rfl (by decide +kernel) q) ?_)
  dsimp only[jaw]
  refine jam ?_
  unfold sUnp
  refine w2_i (jgb rfl (jc0 rfl (gN_i hs' ?_)))
  refine And.intro rfl ?_
  dsimp only[jbc,jc8,jai,List.set]
  refine jam (jpe (a:=.str "at") (r:=[.int h,.int b,.int p]) rfl (by decide +kernel) ?_)
  refine jbu (jyb (b:=decide (xb=b)) (fun Q q=>w2_i (jaf rfl (ix_i (m:=2) (ds:=[.str "at",.int h,.int b,.int p]) rfl rfl (jss q)))) ?_)
  cases z:decide (xb=b)with
  |true =>
   rw[if_pos rfl]
   rw[z,Bool.true_and]at k
   exact w2_i (jaf rfl (ix_i (m:=3) (ds:=[.str "at",.int h,.int b,.int p]) rfl rfl (jss k)))
  |false =>
   rw[if_neg Bool.false_ne_true]
   rw[z,Bool.false_and]at k
   exact k
 |ended h =>
  obtain⟨P,xb,xp,xn,w,as,e0,e1,e2,e3⟩:=jno ok hb
  have hs':(hs.map hnD)[h]?=some (hnD (xb,xp,xn)):=by rw[List.getElem?_map,e1];rfl
  have hp':(ps.map prD)[h]?=some (prD P):=by rw[List.getElem?_map,e0];rfl
  have hb':(P.map blD)[xb]?=some (blD (w,as)):=by rw[List.getElem?_map,e2];rfl
  have he:Bs.see ps hs cs (.ended h)=decide (xp=as.length):=by
   show endB ps hs h=_
   unfold endB
   rw[e1,e0]
   show(match P[xb]? with | some b=>decide (xp=b.2.length) | none=>false)=_
   rw[e2]
  rw[he]at k
  refine jam (jg7 (a:=.str "ended") (r:=[.int h]) rfl (by decide +kernel) ?_)
  dsimp only[jaw]
  refine jam (if_n (fun Q q=>jg6 (s:="ended") (r:=[.int h]) rfl (by decide +kernel) q) ?_)
  dsimp only[jaw]
  refine jam ?_
  unfold sUnp
  refine w2_i (jgb rfl (jc0 rfl (gN_i hs' ?_)))
  refine And.intro rfl ?_
  dsimp only[jbc,jc8,jai,List.set]
  refine jam (jg7 (a:=.str "ended") (r:=[.int h]) rfl (by decide +kernel) ?_)
  dsimp only[jaw]
  refine jbu (w2_i (jaf rfl (b1_i (w2_i (w2_i (w2_i (jaf rfl (jc0 rfl (gN_i hp' (jaf rfl (gN_i hb' (c_i (g1_i ?_)))))))))))))
  dsimp only[gLen]
  rw[List.length_map]
  exact jss k
theorem jie:∀d ws n Q,jbd (d+1) ws n Q→jdl (jbd d) (jbk ["_law_programs_here","_law_entry","_law_sight_here","_law_counts","_law_told","_law_block","_law_place","_law_names"] ws) n {nx:=fun _ n=>Q (.d .none) n,rt:=Q}:=fun t ws n Q h=>by
 obtain⟨ps,hs,cs,g,rfl,ok,hc,hg,k⟩:=h
 show jdl (jbd t) [some (.w (.d (pgD ps))),some (.w (.d (stD hs (csD cs)))),some (.w (.d (Sp.d t g))),none,none,none,none,none] n _
 cases t with
 |zero=>exact jju ok hc hg k
 |succ t =>
  match g,hg,k with
  |.inl b,hg,k=>exact jju ok hc hg k
  |.inr q,hg,k =>
   refine jam (jg7 (a:=.str (hdA q.1)) (r:=[.tuple (q.2.map (Sp.d t))]) rfl (jvy q.1 _ (by simp)) ?_)
   dsimp only[jaw]
   refine jam (if_y (fun Q q'=>jg6 (s:=hdA q.1) (r:=[.tuple (q.2.map (Sp.d t))]) rfl (jsn q.1) q') ?_)
   refine jam (show sSet 4 _ _ _ _ from of_i (jer (ds:=q.2.map (Sp.d t)) (fun Q q'=>jc0 rfl q') ?_))
   refine jpp (Sp.d t) (fun u=>.bool (Sp.see ps hs cs t u)) q.2 [] none n (fun u hu n Q' q'=>c3_i (jaf rfl (jaf rfl (jaf rfl ⟨ps,hs,cs,u,rfl,ok,hc,hg u hu,q'⟩)))) ?_
   rw[List.nil_append]
   dsimp only[List.set]
   refine jbu (jlh (b:=q.1) (fun Q q'=>jgh (i:=2) (a:=.str (hdA q.1)) (r:=[.tuple (q.2.map (Sp.d t))]) rfl (by show Q (jav "all" (.str (hdA q.1))) n;rw[jso];exact q')) ?_)
   have k:Q (.d (.bool (if q.1 then q.2.all (Sp.see ps hs cs t)else q.2.any (Sp.see ps hs cs t)))) n:=k
   cases e:q.1 with
   |true =>
    rw[e]at k
    rw[if_pos rfl]
    refine w2_i (c_i (jaf rfl ⟨rfl,jj6 _ _,?_⟩))
    show Q (.d (.bool (!inD (.bool false) (q.2.map fun u=>.bool (Sp.see ps hs cs t u))))) n
    rw[jkx,jj1]
    exact k
   |false =>
    rw[e]at k
    rw[if_neg Bool.false_ne_true]
    refine w2_i (c_i (jaf rfl ⟨rfl,jj6 _ _,?_⟩))
    show Q (.d (.bool (inD (.bool true) (q.2.map fun u=>.bool (Sp.see ps hs cs t u))))) n
    rw[jkx,jvw]
    exact k
section
variable {δ:Sl} {n:Int} {K:DEnds} {a v:PyData} {r:List PyData} {x:Str} {hp:Nm} {hs:List Str} {W V:DST}
theorem jh0 {b:Bool} (e:δ[7]?=some (some (.w (.d (.bool b))))) (kT:b=true→K.nx δ n) (kF:b=false→K.rt (.d .none) n):sIf (cNot (cT (wVar 7))) (sRet (wC .none)) jaw δ n K:=by
 refine if_i (j0v (k:=b) (fun Q q=>ct_b (fun Q q=>jaf e q) q) ?_)
 cases b with
 |true=>exact kT rfl
 |false=>exact kF rfl
noncomputable def knB (hp:Nm) (x:Str) (v:PyData):Bool:=match look hp x with
 |some w=>eqB w v
 |none=>false
theorem jvu (e5:δ[5]?=some (some (.w (.d (.tuple (a::.str x::r)))))) (e3:δ[3]?=some (some (.odk (txK hp)))) (e6:δ[6]?=some (some (.w (.d v)))) (hv:isV v=true) (hok:∀p∈hp,okV p) (k:K.nx (δ.set 7 (some (.w (.d (.bool (knB hp x v)))))) n) :
  sSet 7 (wAnd (w2 (w2 (wVar 5) (wC (.int 1)) gIx) (jdm 3) (gDIn false)) (w2 (w2 (jdm 3) (w2 (wVar 5) (wC (.int 1)) gIx) jk4) (wVar 6) gEq)) δ n K:=by
 unfold sSet wAnd
 refine w2_i (jc0 e5 ?_)
 have pk:∀(n:Int) (Q:DQ),Q (.dk (txK hp)) n→jdm 3 δ n Q:=fun n Q q=>by unfold jdm;rw[e3];exact q
 refine pk _ _ ?_
 show jlf (.d (.bool (valD (txK hp) (.inr x)).isSome)) _ _
 rw[jll]
 unfold knB at k
 cases q:look hp x with
 |none=>rw[q]at k;exact k
 |some w =>
  rw[q]at k
  rw[Option.isSome_some,jx5,if_pos rfl]
  refine w2_i (w2_i (pk _ _ (jc0 e5 ?_)))
  unfold jk4
  simp only[jll,q]
  refine jaf e6 ?_
  unfold gEq
  simp only[jst (hok _ (jdv q)).2 hv]
  exact k
theorem j01 (s:Str) (e5:δ[5]?=some (some (.w (.d (.tuple (.str s::r)))))) (h1:jav "as" (.str s)=false) (h2:jav "bind" (.str s)=false) (hF:V δ n K) :
  sIf (cOr (cT (w2 (w2 (wVar 5) (wC (.int 0)) gIx) (wC (.str "as")) gEq)) (cAnd (cT (w2 (w2 (wVar 5) (wC (.int 0)) gIx) (wC (.str "bind")) gEq)) (cT (jjn 4 (w2 (wVar 5) (wC (.int 1)) gIx))))) W V δ n K:=by
 refine if_n (fun Q q=>jnt (fun Q q=>jgh e5 ?_) (js8 (fun Q q=>jgh e5 ?_) q)) hF
 ·show Q (jav "as" (.str s)) n
  rw[h1];exact q
 ·show Q (jav "bind" (.str s)) n
  rw[h2];exact q
theorem j02 (e5:δ[5]?=some (some (.w (.d (.tuple [.str "bind",.str x]))))) (e4:δ[4]?=some (some (.own (hs.map .str)))) (hT:x∈hs→W δ n K) (hF:x∉hs→V δ n K) :
  sIf (cOr (cT (w2 (w2 (wVar 5) (wC (.int 0)) gIx) (wC (.str "as")) gEq)) (cAnd (cT (w2 (w2 (wVar 5) (wC (.int 0)) gIx) (wC (.str "bind")) gEq)) (cT (jjn 4 (w2 (wVar 5) (wC (.int 1)) gIx))))) W V δ n K:=by
 refine if_i (jnt (fun Q q=>jgh e5 ?_) (jou (fun Q q=>jgh e5 ?_) ?_))
 ·show Q (jav "as" (.str "bind")) n
  rw[jpi];exact q
 ·show Q (jav "bind" (.str "bind")) n
  rw[jej];exact q
 ·unfold cT jjn
  refine jc0 e5 ?_
  rw[e4]
  refine⟨rfl,jh3 hs,?_⟩
  show if inD (.str x) (hs.map .str)=true then _ else _
  rw[jhx]
  exact j0r hT hF
end
theorem jkv:∀ws n Q,jgr ws n Q→ws.length=3:=fun ws n Q h=>by obtain⟨_,_,rfl,_⟩:=h;rfl
theorem jjl:∀ws n Q,jgr ws n Q→jea (jbk ["_law_pattern_here","_law_row","_law_names","_law_found","_law_bound","_law_field","_law_value_here","_law_good"] ws) n {nx:=fun _ n=>Q (.d .none) n,rt:=Q}:=fun ws n Q h=>by
 obtain⟨fs,row,rfl,okp,okr,k⟩:=h
 show jea [some (.w (.d (patD fs))),some (.w (.d (.tuple row))),some (.w (.d (jr0 []))),none,none,none,none,none] n {nx:=fun _ n=>Q (.d .none) n,rt:=Q}
 unfold jea
 refine jam (jvx (xs:=fs.map Fd.d) (ys:=row) rfl rfl (fun ne=>?_) fun el=>?_)
 ·show Q (.d .none) n
  refine k .none ?_
  unfold holds
  rw[List.length_map]at ne
  rw[decide_eq_false ne]
  rfl
 ·rw[List.length_map]at el
  dsimp only[jaw]
  refine jam (own0 rfl ?_)
  dsimp only[List.set]
  refine jam (jdn ?_)
  dsimp only[List.set]
  refine jam (jsp (xs:=fs.map Fd.d) (ys:=row) rfl rfl (by rw[List.length_map];exact el) ?_)
  refine jbw (fun ds δ m=>m=n∧∃(gs:List Fd) (vs:List PyData) (hp:Nm) (hs:List Str) (y z u:Option SV),ds=zipD (gs.map Fd.d) vs∧gs.length=vs.length∧δ=[some (.w (.d (patD fs))),some (.w (.d (.tuple row))),some (.w (.d (jr0 []))),some (.odk (txK hp)),some (.own (hs.map .str)),y,z,u] ∧
   (∀g∈gs,g.ok)∧(∀d∈vs,isV d=true)∧(hp.map (·.1)).Nodup∧(∀p∈hp,okV p)∧hp.length+gs.length≤16∧hs.length+gs.length≤16∧∀r,jcb r=!(wk (gs.zip vs) hp hs).isSome→Q (.d r) n) ?_ ?_ _ _ _ ?_
  ·rintro δ m ⟨rfl,gs,vs,hp,hs,y,z,u,e,hl,rfl,gok,vok,nd,hok,l1,l2,kq⟩
   have:gs=[]:=by
    cases gs with
    |nil=>rfl
    |cons g gs=>cases vs with | nil=>cases hl | cons v vs=>cases e
   subst this
   rw[List.length_nil]at l1
   show ∃ps':Nm,txK hp=txK ps'∧ps'.length < 64∧(∀p∈ps',p.1.length≤1000)∧∀ys:List Str,ys.Perm (ps'.map (·.1))→ys.Pairwise (fun _ _=>True) →
    jcy (jai 0) cYes (wTup (jab (wVar 0) (jab (w2 (jdm 1) (wVar 0) jk4) aNil))) (fun ds n1=>Q (.d (.tuple ds)) n1) (ys.map .str) [] [none,some (.w (.dk (txK hp)))] m
   refine⟨hp,rfl,by omega,fun p hp'=>Nat.le_trans (hok p hp').1.1 (by decide),fun ys p1 r1=>?_⟩
   refine jmu (fun d=>∃x w,d=.str x∧look hp x=some w) (fun d=>match d with | .str x=>.tuple [.str x,(look hp x).getD .none] | d=>d) (fun d n' Q' hP hq=>?_) _ _ _ _ (fun d hd=>?_) ?_
   ·obtain⟨x,w,rfl,lw⟩:=hP
    have hq:Q' (.d (.tuple [.str x,(look hp x).getD .none])) n':=hq
    rw[lw]at hq
    show(match valD (txK hp) (.inr x)with | some d=>(2:Nat)≤1000∧Q' (.d (.tuple [.str x,d])) n' | none=>False)
    rw[jll,lw]
    exact⟨by decide,hq⟩
   ·obtain⟨x,hx,rfl⟩:=List.mem_map.mp hd
    obtain⟨p,hp',rfl⟩:=List.mem_map.mp (p1.mem_iff.mp hx)
    exact⟨p.1,p.2,rfl,jum nd hp'⟩
   ·exact kq _ rfl
  ·rintro d r δ m N ⟨rfl,gs,vs,hp,hs,y,z,u,e,hl,rfl,gok,vok,nd,hok,l1,l2,kq⟩ hN
   cases gs with
   |nil=>cases e
   |cons g gs =>
    cases vs with
    |nil=>cases hl
    |cons v vs =>
     have e1:d=.tuple [g.d,v]:=by have:=congrArg (fun l=>l.head?) e;simpa[zipD]using this
     have e2:r=zipD (gs.map Fd.d) vs:=by have:=congrArg List.tail e;simpa[zipD]using this
     subst e1 e2
     rw[List.length_cons]at l1 l2
     rw[List.length_cons,List.length_cons]at hl
     have gk:=gok g List.mem_cons_self
     have vk:=vok v List.mem_cons_self
     rw[List.zip_cons_cons]at kq
     have no:(wk ((g,v)::gs.zip vs) hp hs=none)→Q (.d .none) m:=fun w=>kq .none (by rw[w];rfl)
     have go:∀(hp':Nm) (hs':List Str) (y z u:Option SV),wk ((g,v)::gs.zip vs) hp hs=wk (gs.zip vs) hp' hs'→(hp'.map (·.1)).Nodup→(∀p∈hp',okV p)→hp'.length≤hp.length+1→hs'.length≤hs.length+1 →
       N [some (.w (.d (patD fs))),some (.w (.d (.tuple row))),some (.w (.d (jr0 []))),some (.odk (txK hp')),some (.own (hs'.map .str)),y,z,u] m:=fun hp' hs' y z u hw a1 a2 a3 a4 =>
      hN _ _ ⟨rfl,gs,vs,hp',hs',y,z,u,rfl,by omega,rfl,fun g hg=>gok g (List.mem_cons_of_mem _ hg),fun d hd=>vok d (List.mem_cons_of_mem _ hd),a1,a2,by omega,by omega,fun r hr=>kq r (by rw[hw];exact hr)⟩
     refine⟨rfl,?_⟩
     dsimp only[jbc,jai,jc8,List.set]
     refine jam (jcv (x:=.bool true) (fun Q q=>c_i q) ?_)
     dsimp only[List.set]
     cases g with
     |any =>
      refine jam (jg7 (a:=.str "any") (r:=[]) rfl jsl (if_n (fun Q q=>jg6 (s:="any") (r:=[]) rfl (by decide +kernel) q) (j01 (r:=[]) "any" rfl (by decide +kernel) (by decide +kernel) (jg7 (a:=.str "any") (r:=[]) rfl (by decide +kernel) ?_))))
      dsimp only[jaw]
      exact jh0 (b:=true) rfl (fun _=>go hp hs _ _ _ (by rw[wk]) nd hok (by omega) (by omega)) (fun z=>by cases z)
     |is w =>
      refine jam (jpe (a:=.str "is") (r:=[w]) rfl juu (jcv (x:=.bool (eqB w v)) (fun Q q=>w2_i (jc0 (a:=.str "is") (b:=w) (r:=[]) rfl (jaf rfl ?_))) ?_))
      ·unfold gEq
       simp only[jst (show isV w=true from gk) vk]
       exact q
      dsimp only[List.set]
      exact jh0 rfl (fun z=>go hp hs _ _ _ (by rw[wk,if_pos z]) nd hok (by omega) (by omega)) (fun z=>no (by rw[wk,if_neg (by rw[z];exact Bool.false_ne_true)]))
     |word =>
      refine jam (jg7 (a:=.str "word") (r:=[]) rfl jpg (if_y (fun Q q=>jg6 (s:="word") (r:=[]) rfl (by decide +kernel) q) (jcv (x:=.bool (isSt v)) (fun Q q=>w2_i ?_) ?_)))
      ·unfold wIsi
       refine jaf rfl (jgh (a:=.str "word") (r:=[]) rfl ?_)
       rw[jmk]
       cases v with
       |str s=>rw[jeh];exact q
       |int i=>rw[jeh];exact q
       |_=>cases vk
      dsimp only[List.set]
      exact jh0 rfl (fun z=>go hp hs _ _ _ (by rw[wk,if_pos z]) nd hok (by omega) (by omega)) (fun z=>no (by rw[wk,if_neg (by rw[z];exact Bool.false_ne_true)]))
     |number =>
      refine jam (jg7 (a:=.str "number") (r:=[]) rfl jml (if_y (fun Q q=>jg6 (s:="number") (r:=[]) rfl (by decide +kernel) q) (jcv (x:=.bool (isIn v)) (fun Q q=>w2_i ?_) ?_)))
      ·unfold wIsi
       refine jaf rfl (jgh (a:=.str "number") (r:=[]) rfl ?_)
       rw[ji5]
       cases v with
       |str s=>rw[jeh];exact q
       |int i=>rw[jeh];exact q
       |_=>cases vk
      dsimp only[List.set]
      exact jh0 rfl (fun z=>go hp hs _ _ _ (by rw[wk,if_pos z]) nd hok (by omega) (by omega)) (fun z=>no (by rw[wk,if_neg (by rw[z];exact Bool.false_ne_true)]))
     |as x =>
      refine jam (jg7 (a:=.str "as") (r:=[.str x]) rfl juv (if_n (fun Q q=>jg6 (s:="as") (r:=[.str x]) rfl (by decide +kernel) q) (if_y (fun Q q=>ju5 (fun Q q=>jgh (a:=.str "as") (r:=[.str x]) rfl ?_) q) (jvu rfl rfl rfl vk hok ?_))))
      ·show Q (jav "as" (.str "as")) m
       rw[joj];exact q
      dsimp only[List.set]
      refine jh0 rfl (fun z=>go hp hs _ _ _ ?_ nd hok (by omega) (by omega)) (fun z=>no ?_)
      ·unfold knB at z
       rw[wk]
       cases q:look hp x with
       |none=>rw[q]at z;cases z
       |some w=>rw[q]at z;simp only[show eqB w v=true from z,if_true]
      ·unfold knB at z
       rw[wk]
       cases q:look hp x with
       |none=>rfl
       |some w=>rw[q]at z;simp only[show eqB w v=false from z,Bool.false_eq_true,if_false]
     |bind x =>
      refine jam (jg7 (a:=.str "bind") (r:=[.str x]) rfl jph (if_n (fun Q q=>jg6 (s:="bind") (r:=[.str x]) rfl (by decide +kernel) q) (j02 (hs:=hs) rfl rfl (fun hx=>jvu rfl rfl rfl vk hok ?_) fun hx=>jpe (a:=.str "bind") (r:=[.str x]) rfl jej ?_)))
      ·dsimp only[List.set]
       refine jh0 rfl (fun z=>go hp hs _ _ _ ?_ nd hok (by omega) (by omega)) (fun z=>no ?_)
       ·unfold knB at z
        rw[wk,if_pos hx]
        cases q:look hp x with
        |none=>rw[q]at z;cases z
        |some w=>rw[q]at z;simp only[show eqB w v=true from z,if_true]
       ·unfold knB at z
        rw[wk,if_pos hx]
        cases q:look hp x with
        |none=>rfl
        |some w=>rw[q]at z;simp only[show eqB w v=false from z,Bool.false_eq_true,if_false]
      ·refine jam (jtg (x:=.str x) (es:=hs.map .str) rfl (fun Q q=>jc0 (a:=.str "bind") (b:=.str x) (r:=[]) rfl q) (by rw[List.length_map];omega) ?_)
       dsimp only[List.set]
       unfold jo2
       refine(show(match some (some (SV.odk (txK hp)))with | some (some (.odk kvs))=>_ | _=>False)from ?_)
       refine jaf rfl (jc0 (a:=.str "bind") (b:=.str x) (r:=[]) rfl ⟨by unfold txK;rw[List.length_map];omega,?_⟩)
       rw[jre]
       dsimp only[List.set]
       have:=go (put hp x v) (hs++[x]) (some (.w (.d (.tuple [.str "bind",.str x])))) (some (.w (.d v))) (some (.w (.d (.bool true)))) (by rw[wk,if_neg hx]) (jvq nd) (jrf hok gk vk) (jni _ _ _) (by rw[List.length_append];exact Nat.le_refl _)
       rw[List.map_append]at this
       exact jh0 (b:=true) rfl (fun _=>this) (fun z=>by cases z)
  ·refine⟨rfl,fs,row,[],[],none,none,none,rfl,el,rfl,okp.2.2,okr.2,by simp,fun p hp=>by simp at hp,by have:=okp.2.1;simpa using Nat.le_trans this (by decide),by have:=okp.2.1;simpa using Nat.le_trans this (by decide),fun r hr=>k r ?_⟩
   unfold holds
   rw[decide_eq_true el,Bool.true_and]
   exact hr
section
variable {δ:Sl} {n:Int} {Q:DQ} {i:Nat} {ds:List PyData}
theorem j1t {w1 w2 w3 w4 w5 w6:DT} {a b c d e f:PyData} {Q:List PyData→Int→Prop} (h1:∀Q:DQ,Q (.d a) n→w1 δ n Q) (h2:∀Q:DQ,Q (.d b) n→w2 δ n Q) (h3:∀Q:DQ,Q (.d c) n→w3 δ n Q) (h4:∀Q:DQ,Q (.d d) n→w4 δ n Q) (h5:∀Q:DQ,Q (.d e) n→w5 δ n Q) (h6:∀Q:DQ,Q (.d f) n→w6 δ n Q)
  (k:Q [a,b,c,d,e,f] n):fLst (jab w1 (jab w2 (jab w3 (jab w4 (jab w5 (jab w6 aNil)))))) δ n Q:=h1 _ (h2 _ (h3 _ (h4 _ (h5 _ (h6 _ (And.intro (show 6≤1000 by decide) k))))))
end
theorem jzy {x:Str} (h:x∈(["n","m"]:List Str)):okX x:=by
 simp only[List.mem_cons,List.not_mem_nil,or_false]at h
 rcases h with rfl | rfl<;>exact⟨by decide +kernel,by decide +kernel⟩
noncomputable def NeI (cs:List Ct) (row:List PyData) (n0:Int) (ds:List PyData) (δ:Sl) (n:Int):Prop:=∃(gs:List Fd) (x4 x5 x6:Option SV),δ=[some (.w .tp),some (.w (.d (.list (cs.map ctD)))),some (.w (.d (.tuple row))),some (.own (gs.map Fd.d)),x4,x5,x6]∧gs.length+ds.length=row.length∧(∀g∈gs,g.ok)∧(∀v∈ds,isV v=true)∧n+(ds.length:Int)≤n0+5
theorem jku:∀ws n Q,jm8 ws n Q→ws.length=2:=fun ws n Q h=>by obtain⟨_,rfl,_⟩:=h;rfl
theorem jjk:∀ws n Q,jm8 ws n Q→jfs (jbk ["_law_tape_here","_law_stand_here","_law_row","_law_fields","_law_value_here","_law_kind","_law_some"] ws) n {nx:=fun _ n=>Q (.d .none) n,rt:=Q}:=fun ws n0 Q h=>by
 obtain⟨cs,rfl,⟨hl6,hns⟩,hpos,hn0,k⟩:=h
 show jfs [some (.w .tp),some (.w (.d (.list (cs.map ctD)))),none,none,none,none,none] n0 _
 refine jam (show sSet 2 _ _ _ _ from w2_i (w2_i (jaf rfl ?_)))
 refine jdw (m:=(cs.map ctD).length) rfl (fun Q q=>b1_i (jaf rfl q)) (by omega) (by rw[List.length_map];omega) (by rw[List.length_map];omega) fun r r0 r1=>jfz r0 r1 fun d hd=>?_
 obtain⟨q,hq,rfl⟩:=List.mem_map.mp hd
 obtain⟨row,age⟩:=q
 obtain⟨h1,h4,hV⟩:=hns _ hq
 dsimp only at h1 h4 hV
 refine c_i (g0_i ?_)
 dsimp only[List.set]
 refine jam (jdn ?_)
 dsimp only[List.set]
 refine jam ?_
 unfold sFor jcg
 refine jaf rfl ?_
 dsimp only
 refine jbw (NeI cs row n0) (fun δ n I=>?_) (fun v r' δ n N I kN=>?_) _ _ _ ⟨[],none,none,none,rfl,by simp,fun g hg=>by simp at hg,hV,by omega⟩
 ·obtain⟨gs,x4,x5,x6,rfl,hl,hok,_,hn⟩:=I
  dsimp only
  refine jhc rfl ?_
  dsimp only[List.set]
  refine jbu (jp3 (c_i (b1_i (jaf rfl ?_))))
  dsimp only[jcc]
  refine w2_i (c_i (jdx (m:=9) rfl (by simp at hn;omega) (by decide) (by decide) fun r r0 r1=>addI ?_))
  obtain⟨b,hb⟩:∃b:Nat,1+r=(b:Int):=⟨(1+r).toNat,by omega⟩
  rw[hb]
  exact And.intro (show 3≤1000 by decide) (k gs b _ ⟨by simp at hl;omega,by simp at hl;omega,hok⟩ (by simp at hn;omega))
 ·obtain⟨gs,x4,x5,x6,rfl,hl,hok,hv,hn⟩:=I
  rw[List.length_cons]at hl hn
  have vk:=hv v List.mem_cons_self
  dsimp only[jai,List.set]
  have kd:∃g:Fd,g.ok∧∀Q:DQ,Q (.d g.d) n→wIf (cT (wIsi "str" (wVar 4))) (wTup (jab (wC (.str "word")) aNil)) (wTup (jab (wC (.str "number")) aNil)) [some (.w .tp),some (.w (.d (.list (cs.map ctD)))),some (.w (.d (.tuple row))),some (.own (gs.map Fd.d)),some (.w (.d v)),x5,x6] n Q:=by
   cases v with
   |str y=>exact⟨.word,trivial,fun Q q=>jlh (b:=true) (fun Q q=>ct_b (k:=true) (fun Q q=>by unfold wIsi;refine jaf rfl ?_;show Q (.d (.bool (isiB "str" (.str y)))) n;rw[jeh];exact q) q) (by rw[if_pos rfl];exact jp5 (fun Q q=>c_i q) q)⟩
   |int y=>exact⟨.number,trivial,fun Q q=>jlh (b:=false) (fun Q q=>ct_b (k:=false) (fun Q q=>by unfold wIsi;refine jaf rfl ?_;show Q (.d (.bool (isiB "str" (.int y)))) n;rw[jeh];exact q) q) (by rw[if_neg Bool.false_ne_true];exact jp5 (fun Q q=>c_i q) q)⟩
   |_=>cases vk
  obtain⟨g,gk,hg⟩:=kd
  refine jam (jcv (x:=g.d) hg ?_)
  dsimp only[List.set]
  refine jam (jcv (x:=.list [Fd.d .any,Fd.d (.is v),g.d,Fd.d (.bind "n"),Fd.d .any,Fd.d (.bind "n")]) (fun Q q=>of_i (j1t (fun Q q=>jp5 (fun Q q=>c_i q) q) (fun Q q=>jp4 (fun Q q=>c_i q) (fun Q q=>jaf rfl q) q) (fun Q q=>jaf rfl q) (fun Q q=>jp4 (fun Q q=>c_i q) (fun Q q=>c_i q) q) (fun Q q=>jp5 (fun Q q=>c_i q) q) (fun Q q=>jp4 (fun Q q=>c_i q) (fun Q q=>c_i q) q) q)) ?_)
  dsimp only[List.set]
  refine jij rfl (w2_i (jaf rfl (jdx (m:=6) rfl (by omega) (by decide) (by decide) fun r r0 r1=>jfz r0 r1 fun f hf=>?_)))
  have hf':∃e:Fd,e.ok∧f=e.d:=by
   simp only[List.mem_cons,List.not_mem_nil,or_false]at hf
   rcases hf with rfl | rfl | rfl | rfl | rfl | rfl
   ·exact⟨.any,trivial,rfl⟩
   ·exact⟨.is v,vk,rfl⟩
   ·exact⟨g,gk,rfl⟩
   ·exact⟨.bind "n",jzy (by simp),rfl⟩
   ·exact⟨.any,trivial,rfl⟩
   ·exact⟨.bind "n",jzy (by simp),rfl⟩
  obtain⟨e,ek,rfl⟩:=hf'
  refine And.intro (by rw[List.length_map];omega) (kN _ _ ⟨gs++[e],_,_,_,by rw[List.map_append];rfl,by rw[List.length_append,List.length_singleton];omega,fun z hz=>?_,fun z hz=>hv z (List.mem_cons_of_mem _ hz),by omega⟩)
  rcases List.mem_append.mp hz with w | w
  ·exact hok z w
  ·rw[List.mem_singleton]at w;subst w;exact ek
theorem jn5:∀t,20≤sgB t
 |0=>by decide
 |t+1=>by have:=jn5 t;show 20≤4*sgB t;omega
noncomputable def Fe.sg:Fe→Fd
 |.any=>.any
 |.word=>.word
 |.num=>.number
 |.isv d=>.is d
 |.bind k=>.bind k
 |.as k=>.bind k
 |.nx _=>.any
theorem j1b {f:Fe} (h:f.ok):f.sg.ok:=by cases f<;>first | exact h | exact trivial
section
variable {δ:Sl} {n:Int} {Q:DQ} {i:Nat}
theorem gtc {a b:Int} (e:δ[i]?=some (some (.w (.d (.int a))))):∀Q:Bool→Int→Prop,Q (decide (b < a)) n→cT (w2 (wVar i) (wC (.int b)) gGt) δ n Q:=fun Q q=>w2_i (jaf e (c_i q))
theorem ltc {a b:Int} (e:δ[i]?=some (some (.w (.d (.int a))))):∀Q:Bool→Int→Prop,Q (decide (a < b)) n→cT (w2 (wVar i) (wC (.int b)) gLt) δ n Q:=fun Q q=>w2_i (jaf e (c_i q))
theorem eqc {a b:Int} (e:δ[i]?=some (some (.w (.d (.int a))))):∀Q:Bool→Int→Prop,Q (decide (a=b)) n→cT (w2 (wVar i) (wC (.int b)) gEq) δ n Q:=fun Q q=>w2_i (jaf e (c_i q))
theorem if2 {A B:DTT} {a b:Bool} {W V:DST} {K:DEnds} (ha:∀Q:Bool→Int→Prop,Q a n→A δ n Q) (hb:∀Q:Bool→Int→Prop,Q b n→B δ n Q) (hT:a=true→b=true→W δ n K) (hF:(a&&b)=false→V δ n K):sIf (cAnd A B) W V δ n K:=by
 cases a with
 |false=>exact if_n (fun Q q=>js8 ha q) (hF rfl)
 |true =>
  cases b with
  |false=>exact if_n (fun Q q=>jou ha (hb _ q)) (hF rfl)
  |true=>exact if_y (fun Q q=>jou ha (hb _ q)) (hT rfl rfl)
theorem subI {a b:Int} (k:Q (.d (.int (a - b))) n):gI0 (fun i j=>.int (i - j)) (.d (.int a)) (.d (.int b)) n Q:=k
end
theorem j16 {f:Fe} (h:f.pt=true):∀(n:Int) (Q':DQ),Q' (.d f.sg.d) n→wIf (cT (w2 (w2 (wVar 0) (wC (.int (0))) gIx) (wC (.str "as")) gEq)) (wTup (jab (wC (.str "bind")) (jab (w2 (wVar 0) (wC (.int (1))) gIx) aNil))) (wVar 0) [some (.w (.d f.d))] n Q':=fun n Q' q=>by
 have no:∀(s:Str) (r:List PyData),f.d=.tuple (.str s::r)→jav "as" (.str s)=false→f.sg.d=f.d→wIf (cT (w2 (w2 (wVar 0) (wC (.int (0))) gIx) (wC (.str "as")) gEq)) (wTup (jab (wC (.str "bind")) (jab (w2 (wVar 0) (wC (.int (1))) gIx) aNil))) (wVar 0) [some (.w (.d f.d))] n Q':=fun s r e h1 h2=>by
  refine jlh (b:=false) (fun Q q=>jgh (a:=.str s) (r:=r) (by rw[e];rfl) (by show Q (jav "as" (.str s)) n;rw[h1];exact q)) ?_
  rw[if_neg Bool.false_ne_true]
  refine jaf rfl ?_
  rw[←h2]
  exact q
 cases f with
 |any=>exact no "any" _ rfl (by decide +kernel) rfl
 |word=>exact no "word" _ rfl (by decide +kernel) rfl
 |num=>exact no "number" _ rfl (by decide +kernel) rfl
 |isv d=>exact no "is" _ rfl (by decide +kernel) rfl
 |bind k=>exact no "bind" _ rfl (by decide +kernel) rfl
 |nx k=>cases h
 |as k =>
  refine jlh (b:=true) (fun Q q=>jgh (a:=.str "as") (r:=[.str k]) rfl (by show Q (jav "as" (.str "as")) n;rw[joj];exact q)) ?_
  rw[if_pos rfl]
  exact jp4 (fun Q q=>c_i q) (fun Q q=>jc0 (a:=.str "as") (b:=.str k) (r:=[]) rfl q) q
theorem ji0:∀d ws n Q,jb3 d ws n Q→ws.length=3:=fun d ws n Q h=>by
 cases d with
 |zero=>exact h.elim
 |succ t=>obtain⟨_,rfl,_⟩:=h;rfl
theorem jid:∀d ws n Q,jb3 (d+1) ws n Q→jew (jb3 d) (jbk ["_law_tape_here","_law_programs_here","_law_deep","_law_way","_law_some","_law_hand","_law_block","_law_fields"] ws) n {nx:=fun _ n=>Q (.d .none) n,rt:=Q}:=fun t ws n Q h=>by
 obtain⟨ps,rfl,⟨hp5,hps⟩,hn,k⟩:=h
 have g20:=jn5 t
 have fin:∀(b:Bs) (n':Int),b.ok ps→n'≤n+20→Q (.d b.d) n':=fun b n' hb hn'=>by
  have:=k (Sg.bs t b) n' (jyt ps t b hb) (by omega)
  rw[j1c]at this
  exact this
 show jew (jb3 t) [some (.w .tp),some (.w (.d (pgD ps))),some (.w (.d (.int t))),none,none,none,none,none] n _
 refine jam (jn6 (m:=8) rfl (by omega) (by decide) (by decide) fun w w0 w1=>?_)
 dsimp only[List.set]
 have inner:∀u,t=u+1→∀(n1:Int) (Q':DQ),n1+sgB u < 2 ^ 39→(∀(g:Sg u) (n':Int),Sg.ok ps u g→n'≤n1+sgB u→Q' (.d (Sg.d u g)) n')→jb3 t [.tp,.d (pgD ps),.d (.int ((t:Int) - 1))] n1 Q':=fun u e n1 Q' hn1 q=>by
  subst e
  exact⟨ps,by rw[show((u+1:Nat):Int) - 1=(u:Int) by omega],⟨hp5,hps⟩,hn1,q⟩
 refine jam (if2 (gtc rfl) (eqc rfl) (fun ha hb=>?_) fun hw0=>?_)
 ·have ha:=of_decide_eq_true ha
  cases t with
  |zero=>exact absurd ha (by decide)
  |succ u =>
   have g20':=jn5 u
   have e4:sgB (u+1)=4*sgB u:=rfl
   refine jbu (jcn (c_i (c3_i (jaf rfl (jaf rfl (w2_i (jaf rfl (c_i (subI (inner u rfl (n+1) _ (by omega) fun g n' hg hn'=>?_))))))))))
   exact And.intro (show 2≤1000 by decide) (k (.inr (.inr g)) n' hg (by omega))
 dsimp only[jaw]
 refine jam (if2 (gtc rfl) (ltc rfl) (fun ha hb=>?_) fun _=>?_)
 ·have ha:=of_decide_eq_true ha
  have hb:=of_decide_eq_true hb
  cases t with
  |zero=>exact absurd ha (by decide)
  |succ u =>
   have g20':=jn5 u
   have e4:sgB (u+1)=4*sgB u:=rfl
   refine jam (show sSet 4 _ _ _ _ from of_i ?_)
   unfold jbz jbh
   refine w2_i (of_i (And.intro (by decide) ?_))
   dsimp only
   refine jdx (m:=4) rfl (by omega) (by decide) (by decide) fun q q0 q1=>jfz (ds:=[.int 2,.int 0,.int 1,.int 3]) q0 q1 fun d hd=>?_
   have hj:∃j:Nat,j≤3∧d=.int j:=by
    simp only[List.mem_cons,List.not_mem_nil,or_false]at hd
    rcases hd with rfl | rfl | rfl | rfl
    ·exact⟨2,by decide,rfl⟩
    ·exact⟨0,by decide,rfl⟩
    ·exact⟨1,by decide,rfl⟩
    ·exact⟨3,by decide,rfl⟩
   obtain⟨j,hj,rfl⟩:=hj
   refine And.intro ⟨by omega,by omega⟩ ?_
   rw[Int.toNat_natCast]
   obtain⟨c,hc⟩:∃c:Nat,sgB u=(c:Int):=⟨(sgB u).toNat,by omega⟩
   have hm:(c:Int)*(j:Int)≤3*(c:Int):=by
    rw[Int.mul_comm]
    exact Int.mul_le_mul_of_nonneg_right (by omega) (by omega)
   refine jdy (fun d=>∃g,Sg.ok ps u g∧d=Sg.d u g) c (fun d n Q' hn q=>c3_i (jaf rfl (jaf rfl (w2_i (jaf rfl (c_i (subI (inner u rfl n _ (by omega) fun g n' hg hn'=>q _ n' ⟨g,hg,rfl⟩ (by omega))))))))) _ [] none _ (by rw[jbt];omega) fun ds n' hl hds hn'=>?_
   rw[jbt]at hl hn'
   rw[List.nil_append]
   obtain⟨gs,rfl,hgs⟩:=jr2 hds
   dsimp only[List.set]
   refine jbu (jcn (w2_i (of_i (And.intro (by decide) ?_))))
   dsimp only
   refine w2_i (jaf rfl (c_i (subI ?_)))
   refine jfz (ds:=[.str "all",.str "some"]) (r:=w - 1) ?_ ?_ fun f hf=>?_
   ·have:w≠0:=fun z=>by rw[decide_eq_true ha,decide_eq_true z]at hw0;cases hw0
    omega
   ·show w - 1 < 2
    omega
   refine b1_i (jaf rfl ?_)
   dsimp only[jcc]
   simp only[List.mem_cons,List.not_mem_nil,or_false]at hf
   rcases hf with rfl | rfl
   ·exact And.intro (show 2≤1000 by decide) (k (.inr (.inl (true,gs))) n' hgs (by omega))
   ·exact And.intro (show 2≤1000 by decide) (k (.inr (.inl (false,gs))) n' hgs (by omega))
 dsimp only[jaw]
 refine jam (if2 (a:=decide ((0:Int) < (ps.map prD).length)) (fun Q q=>ct_b (k:=decide ((0:Int) < (ps.map prD).length)) (fun Q q=>w2_i (j1k (ds:=ps.map prD) rfl (c_i q))) q) (gtc rfl) (fun ha hb=>?_) fun _=>?_)
 ·have ha:=of_decide_eq_true ha
  have hb:=of_decide_eq_true hb
  rw[List.length_map]at ha
  refine jam (show sSet 5 _ _ _ _ from jdw (m:=(ps.map prD).length) rfl (fun Q q=>b1_i (jaf rfl q)) (by omega) (by rw[List.length_map];omega) (by rw[List.length_map];omega) fun r r0 r1=>?_)
  rw[List.length_map]at r1
  obtain⟨h,hh⟩:∃b:Nat,r=(b:Int):=⟨r.toNat,by omega⟩
  subst hh
  have hlt:h < ps.length:=by omega
  dsimp only[List.set]
  refine jam (if_i (eqc rfl _ ?_))
  by_cases h6:w=6
  ·rw[if_pos (decide_eq_true h6)]
   exact jbu (jcn (c_i (jaf rfl (And.intro (show 2≤1000 by decide) (fin (.ended h) _ hlt (by omega))))))
  rw[if_neg (by simpa using h6)]
  dsimp only[jaw]
  have hP:ps[h]?=some ps[h]:=List.getElem?_eq_getElem hlt
  generalize ps[h]=P at hP
  have hp':(ps.map prD)[h]?=some (prD P):=by rw[List.getElem?_map,hP];rfl
  obtain⟨g1,g2,g3⟩:=hps P (List.mem_of_getElem? hP)
  refine jam (show sSet 6 _ _ _ _ from jdw (m:=(P.map blD).length) rfl (fun Q q=>b1_i (w2_i (jaf rfl (jaf rfl (gN_i hp' q))))) (by omega) (by rw[List.length_map];omega) (by rw[List.length_map];omega) fun r r0 r1=>?_)
  rw[List.length_map]at r1
  obtain⟨b,hb⟩:∃b:Nat,r=(b:Int):=⟨r.toNat,by omega⟩
  subst hb
  have hbl:b < P.length:=by omega
  obtain⟨bl,hbl'⟩:∃bl:Bl,P[b]?=some bl:=⟨P[b],List.getElem?_eq_getElem hbl⟩
  obtain⟨wn,as⟩:=bl
  have hi':(P.map blD)[b]?=some (blD (wn,as)):=by rw[List.getElem?_map,hbl'];rfl
  obtain⟨ob,_⟩:=g3 (wn,as) (List.mem_of_getElem? hbl')
  have has:as.length≤8:=ob.2.2.1
  dsimp only[List.set]
  refine jbu (jye (c_i (jaf rfl (jaf rfl ?_))))
  refine jdw (m:=((as.map Ac.d).length:Int)+1) rfl (fun Q q=>w2_i (b1_i (w2_i (w2_i (w2_i (jaf rfl (jaf rfl (gN_i hp' (jaf rfl (gN_i hi' (c_i (g1_i ?_))))))))))))  (by omega) (by omega) (by rw[List.length_map];omega) fun r r0' r1'=>?_
  ·exact addI q
  rw[List.length_map]at r1'
  obtain⟨p,hp⟩:∃p:Nat,r=(p:Int):=⟨r.toNat,by omega⟩
  subst hp
  exact And.intro (show 4≤1000 by decide) (fin (.at h b p) _ ⟨hlt,by omega,by omega⟩ (by omega))
 dsimp only[jaw]
 refine jam (show sSet 7 _ _ _ _ from of_i ?_)
 unfold jbz jcg
 dsimp only
 refine w2_i (c2_i (jaf rfl (jfw (Exists.intro [] ⟨.d (.list []),rfl,rfl,by decide,fun k hk=>by simp at hk,by omega,fun fs n' hf1 hfs hpt _ hn'=>?_⟩))))
 refine c_i (g0_i ?_)
 dsimp only[fsD]
 refine jpp Fe.d (fun f=>f.sg.d) fs [] none n' (fun f hf n Q' q=>j16 (hpt f hf) n Q' q) ?_
 rw[List.nil_append]
 dsimp only[List.set]
 refine jbu (jp3 (c_i (b1_i (jaf rfl ?_))))
 dsimp only[jcc]
 refine w2_i (of_i (And.intro (by decide) ?_))
 dsimp only
 refine jdx (m:=5) rfl (by omega) (by decide) (by decide) fun q q0 q1=>jfz (ds:=[.int 1,.int 2,.int 1,.int 3,.int 9]) q0 q1 fun d hd=>?_
 have hj:∃j:Nat,d=.int j:=by
  simp only[List.mem_cons,List.not_mem_nil,or_false]at hd
  rcases hd with rfl | rfl | rfl | rfl | rfl
  ·exact⟨1,rfl⟩
  ·exact⟨2,rfl⟩
  ·exact⟨1,rfl⟩
  ·exact⟨3,rfl⟩
  ·exact⟨9,rfl⟩
 obtain⟨j,rfl⟩:=hj
 have:=fin (.notes (fs.map Fe.sg) j) (n'+1) ⟨by rw[List.length_map];exact hf1,by rw[List.length_map];exact hfs.1,fun f hf=>by obtain⟨e,he,rfl⟩:=List.mem_map.mp hf;exact j1b (hfs.2 e he)⟩ (by omega)
 have e:patD (fs.map Fe.sg)=.tuple (fs.map fun f=>f.sg.d):=by unfold patD;rw[List.map_map];rfl
 refine And.intro (show 3≤1000 by decide) ?_
 have t2:Bs.d (.notes (fs.map Fe.sg) j)=.tuple [.str "notes",.tuple (fs.map fun f=>f.sg.d),.int j]:=by show PyData.tuple [.str "notes",patD (fs.map Fe.sg),.int j]=_;rw[e]
 rw[t2]at this
 exact this
theorem j0q {δ:Sl} {n m:Int} {Q:DQ} (e:δ[1]?=some (some (.w .tp))) (h:n < 2 ^ 40) (h0:0 < m) (h1:m < 1073741824) (k:∀r:Int,0≤r→r < m→Q (.d (.int r)) (n+1)):jaq jau (jab (wVar 1) (jab (wC (.int m)) aNil)) δ n Q:=c2_i (jaf e (c_i (joo h h0 h1 k)))
theorem jq1 {W V:DST} {δ:Sl} {n:Int} {K:DEnds} {u v:DT} {b:Bool} (hu:∀Q:DQ,Q (.d (.bool b)) n→u δ n Q) (hv:∀Q:DQ,Q (.d (.bool b)) n→v δ n Q) (k:V δ n K):sIf (cT (w2 (wB jfc (jab u aNil)) (wB jfc (jab v aNil)) gNe)) W V δ n K:=by
 refine if_n (fun Q q=>ct_b (k:=false) (fun Q q=>w2_i (b1_i (hu _ ?_))) q) k
 refine(show jfc [.d (.bool b)] n _ from b1_i (hv _ ?_))
 refine(show jfc [.d (.bool b)] n _ from ne_str ?_)
 have:jav (if b then "True" else "False") (.str (if b then "True" else "False"))=true:=by unfold jav;exact decide_eq_true rfl
 rw[this]
 exact q
theorem joh:∀{row:List PyData},(∀d∈row,isV d=true)→∃k:List Key,row=k.map DL.vD
 |[],_=>⟨[],rfl⟩
 |d::r,h=>by
  obtain⟨k,rfl⟩:=joh fun e he=>h e (List.mem_cons_of_mem _ he)
  have hd:=h d List.mem_cons_self
  cases d with
  |int i=>exact⟨.inl i::k,rfl⟩
  |str x=>exact⟨.inr x::k,rfl⟩
  |_=>cases hd
noncomputable def kfD (k:List Key):List PyData:=k.map fun v=>.tuple [.int (if isSt (DL.vD v)then 1 else 0),DL.vD v]
theorem jz1 (v w:Key):∃b,ltd (.tuple [.int (if isSt (DL.vD v)then 1 else 0),DL.vD v]) (.tuple [.int (if isSt (DL.vD w)then 1 else 0),DL.vD w])=some b:=by
 cases v with
 |inl i =>
  cases w with
  |inl j =>
   by_cases h:i=j
   ·exact⟨false,by simp[ltd,jcd,PyData.eqv,DL.vD,isSt,h]⟩
   ·exact⟨decide (i < j),by simp[ltd,jcd,PyData.eqv,DL.vD,isSt,h]⟩
  |inr y=>exact⟨true,by simp[ltd,jcd,PyData.eqv,DL.vD,isSt]⟩
 |inr x =>
  cases w with
  |inl j=>exact⟨false,by simp[ltd,jcd,PyData.eqv,DL.vD,isSt]⟩
  |inr y =>
   by_cases h:x=y
   ·exact⟨false,by simp[ltd,jcd,PyData.eqv,DL.vD,isSt,h]⟩
   ·exact⟨_,by simp only[ltd,jcd,PyData.eqv,DL.vD,isSt];simp[h];rfl⟩
theorem jr3:∀a b:List Key,∃c,jcd (kfD a) (kfD b)=some c
 |[],[]=>⟨false,rfl⟩
 |[],_::_=>⟨true,rfl⟩
 |_::_,[]=>⟨false,rfl⟩
 |v::a,w::b=>by
  show ∃c,jcd (_::kfD a) (_::kfD b)=some c
  rw[jcd]
  split
  ·exact jr3 a b
  ·exact jz1 v w
noncomputable def ltI (ks:List (List Key)) (i j:Nat):Bool:=(jcd (kfD (ks.getD i [])) (kfD (ks.getD j []))).getD false
theorem jz4 {ks:List (List Key)} (h:∀k∈ks,1≤k.length∧∀v∈k,isV (DL.vD v)=true):jtk (ks.map kfD) (ltI ks):=by
 refine⟨fun d hd=>?_,fun i j x y e1 e2=>?_⟩
 ·obtain⟨k,hk,rfl⟩:=List.mem_map.mp hd
  obtain⟨h1,h2⟩:=h k hk
  have c:∀l:List Key,(∀v∈l,isV (DL.vD v)=true)→PyData.canLayAll0 (kfD l)=true∧PyData.depthAll (kfD l)≤1:=by
   intro l
   induction l with
   |nil=>intro _;exact⟨rfl,Nat.zero_le _⟩
   |cons v r ih =>
    intro hl
    obtain⟨i1,i2⟩:=ih fun w hw=>hl w (List.mem_cons_of_mem _ hw)
    have hv:=hl v List.mem_cons_self
    have s1:PyData.canLay0 (DL.vD v)=true:=by
     cases v with
     |inl i=>simp only[DL.vD,PyData.canLay0]
     |inr x =>
      simp only[DL.vD,isV,Bool.and_eq_true]at hv
      simp only[DL.vD,PyData.canLay0]
      exact hv.2
    have s2:PyData.depth (DL.vD v)=0:=by cases v<;>simp only[DL.vD,PyData.depth]
    show PyData.canLayAll0 (PyData.tuple [.int (if isSt (DL.vD v)then 1 else 0),DL.vD v]::kfD r)=true∧PyData.depthAll (PyData.tuple [.int (if isSt (DL.vD v)then 1 else 0),DL.vD v]::kfD r)≤1
    simp only[PyData.canLayAll0,PyData.canLay0,PyData.depthAll,PyData.depth,s1,s2,i1,Bool.and_true,true_and]
    omega
  obtain⟨c1,c2⟩:=c k h2
  refine⟨?_,c1,by omega⟩
  cases k with
  |nil=>exact absurd h1 (by decide)
  |cons v r=>exact⟨_,_,rfl⟩
 ·rw[List.getElem?_map,Option.map_eq_some_iff]at e1 e2
  obtain⟨a,ea,rfl⟩:=e1
  obtain⟨b,eb,rfl⟩:=e2
  obtain⟨c,hc⟩:=jr3 a b
  have g1:ks.getD i []=a:=by simp[ea]
  have g2:ks.getD j []=b:=by simp[eb]
  unfold ltI
  rw[g1,g2,hc]
  rfl
theorem jl8:∀{ns:List Nt},(∀q∈ns,okR q.1)→∃ps:List (List Key×PyData),ns.map ntD=ps.map (fun p=>.tuple [rowD p.1,p.2])∧∀k∈ps.map (·.1),∃q∈ns,q.1=k.map DL.vD
 |[],_=>⟨[],rfl,fun k hk=>by simp at hk⟩
 |q::r,h=>by
  obtain⟨ps,e,hk⟩:=jl8 fun x hx=>h x (List.mem_cons_of_mem _ hx)
  obtain⟨k,ek⟩:=joh (h q List.mem_cons_self).2
  refine⟨(k,q.2)::ps,?_,fun k' hk'=>?_⟩
  ·rw[List.map_cons,List.map_cons,e]
   unfold ntD rowD
   rw[ek]
  ·rcases List.mem_cons.mp hk' with rfl | z
   ·exact⟨q,List.mem_cons_self,ek⟩
   ·obtain⟨x,hx,ex⟩:=hk k' z
    exact⟨x,List.mem_cons_of_mem _ hx,ex⟩
theorem jtr {δ:Sl} {n:Int} {i:Nat} {ns:List Nt} {Q:List PyData→Int→Prop} (e:δ[i]?=some (some (.w (.d (.tuple (ns.map ntD)))))) (hns:okNs ns) (k:∀rows:List (List PyData),rows.length≤6→(∀r∈rows,1≤r.length∧okR r)→Q (rows.map .tuple) n):jnq jpx (wVar i) δ n Q:=by
 obtain⟨ps,ep,hk⟩:=jl8 fun q hq=>(hns.2 q hq).2
 have hl:ps.length=ns.length:=by have:=congrArg List.length ep;rw[List.length_map,List.length_map]at this;exact this.symm
 have hrow:∀k∈ps.map (·.1),(1≤(k.map DL.vD).length∧okR (k.map DL.vD)):=fun k z=>by
  obtain⟨q,hq,eq⟩:=hk k z
  rw[←eq]
  exact hns.2 q hq
 refine jaf e ⟨ps,kfD,by rw[ep],by have:=hns.1;omega,fun p hp m Q0 q0=>⟨p.1,rfl,q0⟩,fun ks hks=>⟨ltI ks,jz4 fun k z=>?_⟩,fun out ho hm=>?_⟩
 ·obtain⟨h1,h2⟩:=hrow k (hks k z)
  rw[List.length_map]at h1
  exact⟨h1,fun v hv=>h2.2 _ (List.mem_map.mpr ⟨v,hv,rfl⟩)⟩
 ·have:=k (out.map fun k=>k.map DL.vD) (by rw[List.length_map];have:=hns.1;omega) fun r hr=>by
   obtain⟨k,hk',rfl⟩:=List.mem_map.mp hr
   exact hrow k (hm k hk')
  rw[List.map_map]at this
  exact this
noncomputable def LawI (ps:Pg) (ds:List PyData) (δ:Sl) (n:Int):Prop:=∃x3 x4 x5 x6 x7 x8 x9:Option SV,δ=[none,some (.w .tp),some (.w (.d (pgD ps))),x3,x4,x5,x6,x7,x8,x9]∧n+800*(ds.length:Int)≤10400
noncomputable def CtI (ps:Pg) (hs:List Hn) (ns:List Nt) (x3 x8 x9:Option SV) (n0:Int) (ds:List PyData) (δ:Sl) (n:Int):Prop:=∃(cs:List Ct) (rows:List (List PyData)) (x7:Option SV),δ=[none,some (.w .tp),some (.w (.d (pgD ps))),x3,some (.w (.d (.tuple (hs.map hnD)))),some (.w (.d (.tuple (ns.map ntD)))),some (.own (cs.map ctD)),x7,x8,x9] ∧
 ds=rows.map .tuple∧cs.length+rows.length≤6∧(∀c∈cs,1≤c.1.length∧okR c.1)∧(∀r∈rows,1≤r.length∧okR r)∧n+(rows.length:Int)≤n0+6
theorem jva:j07 (none::some (.w .tp)::List.replicate (List.length ["_law_script","_law_tape_here","_law_programs_here","_law_k","_law_hands","_law_notes_here","_law_counts","_law_row","_law_entry","_law_sight_here"] - 2) none) 0 jkw:=by
 show j07 [none,some (.w .tp),none,none,none,none,none,none,none,none] 0 jkw
 refine jam (show sSet 2 _ _ _ _ from c1_i (jaf rfl (And.intro rfl ⟨by decide,fun ps n0 hp hn0=>?_⟩)))
 dsimp only[List.set]
 refine jam ?_
 unfold sFor jbh
 refine c_i ?_
 refine And.intro ⟨by decide,by decide⟩ ?_
 refine jbw (LawI ps) (fun δ n I=>?_) (fun d r δ n N I kN=>?_) _ _ _ ⟨none,none,none,none,none,none,none,rfl,by rw[jbt];show n0+800*8≤10400;omega⟩
 ·exact rfl
 ·obtain⟨x3,x4,x5,x6,x7,x8,x9,rfl,hn⟩:=I
  rw[List.length_cons]at hn
  dsimp only[jai,List.set]
  refine jam ?_
  unfold sUnp
  refine c3_i (jaf rfl (jaf rfl (c_i (Exists.intro ps ⟨6,rfl,by decide,hp,by omega,fun hs ns n1 hh hns hn1=>?_⟩))))
  refine And.intro rfl ?_
  dsimp only[jbc,jc8,jai,List.set]
  refine jam (jdn ?_)
  dsimp only[List.set]
  refine jam ?_
  unfold jgc
  refine of_i (jtr (ns:=ns) rfl hns fun rows hrl hro=>?_)
  dsimp only
  refine jbw (CtI ps hs ns (some (.w (.d d))) x8 x9 n1) (fun δ n2 I=>?_) (fun e r' δ n2 N' I kN'=>?_) _ _ _ ⟨[],rows,x7,rfl,rfl,by simpa using hrl,fun c hc=>by simp at hc,hro,by omega⟩
  ·obtain⟨cs,rows',x7,rfl,er,hl,hcs,_,hn2⟩:=I
   cases List.map_eq_nil_iff.mp er.symm
   have hcs':okCs cs:=⟨by simpa using hl,hcs⟩
   have hn2:n2≤n1+6:=by simpa using hn2
   dsimp only
   refine jhc rfl ?_
   dsimp only[List.set]
   refine jam (jcv (x:=stD hs (csD cs)) (fun Q q=>jcn (jaf rfl (b1_i (jaf rfl (And.intro (show 2≤1000 by decide) q))))) ?_)
   dsimp only[List.set]
   refine jam (show sSet 9 _ _ _ _ from c1_i (c3_i (jaf rfl (jaf rfl (c_i (Exists.intro ps ⟨rfl,hp,by show n2+320 < 2 ^ 39;omega,fun g n3 hg hn3=>⟨g,rfl,?_⟩⟩))))))
   have hn3:n3≤n2+320:=hn3
   dsimp only[List.set]
   have fin:∀(g:Sp 2) (n4:Int) (K:DEnds),(∀δ n,N δ n→K.nx δ n)→Sp.ok ps 2 g→n4≤n3+21→sIf (cT (w2 (wB jfc (jab (jaq (jbd 3) (jab (wVar 2) (jab (wVar 8) (jab (wVar 9) aNil)))) aNil)) (wB jfc (jab (jaq (jbd 3) (jab (wVar 2) (jab (wVar 8) (jab (wVar 9) aNil)))) aNil)) gNe)) (sRet (wC (.bool false))) jaw
     [none,some (.w .tp),some (.w (.d (pgD ps))),some (.w (.d d)),some (.w (.d (.tuple (hs.map hnD)))),some (.w (.d (.tuple (ns.map ntD)))),some (.w (.d (.list (cs.map ctD)))),x7,some (.w (.d (stD hs (csD cs)))),some (.w (.d (Sp.d 2 g)))] n4 K:=fun g n4 K hK hg hn4=>by
    have c1:∀Q:DQ,Q (.d (.bool (Sp.see ps hs cs 2 g))) n4→jaq (jbd 3) (jab (wVar 2) (jab (wVar 8) (jab (wVar 9) aNil))) [none,some (.w .tp),some (.w (.d (pgD ps))),some (.w (.d d)),some (.w (.d (.tuple (hs.map hnD)))),some (.w (.d (.tuple (ns.map ntD)))),some (.w (.d (.list (cs.map ctD)))),x7,some (.w (.d (stD hs (csD cs)))),some (.w (.d (Sp.d 2 g)))] n4 Q:=fun Q q=>c3_i (jaf rfl (jaf rfl (jaf rfl ⟨ps,hs,cs,g,rfl,hh,hcs',hg,q⟩)))
    exact jq1 c1 c1 (hK _ _ (kN _ _ ⟨_,_,_,_,_,_,_,rfl,by omega⟩))
   refine jam (if_i ?_)
   have hlen:∀Q:Bool→Int→Prop,Q (decide ((0:Int) < (cs.map ctD).length)) n3→cT (w2 (wB gLen (jab (wVar 6) aNil)) (wC (.int (0))) gGt) [none,some (.w .tp),some (.w (.d (pgD ps))),some (.w (.d d)),some (.w (.d (.tuple (hs.map hnD)))),some (.w (.d (.tuple (ns.map ntD)))),some (.w (.d (.list (cs.map ctD)))),x7,some (.w (.d (stD hs (csD cs)))),some (.w (.d (Sp.d 2 (Sg.pl 2 g))))] n3 Q:=fun Q q=>ct_b (k:=decide ((0:Int) < (cs.map ctD).length)) (fun Q q=>w2_i (b1_i (jaf rfl q))) q
   by_cases hz:0 < cs.length
   ·refine jou (fun Q q=>hlen Q (by rw[List.length_map,decide_eq_true (by omega)];exact q)) ?_
    refine(show cT _ _ _ _ from w2_i (j0q (m:=2) rfl (by omega) (by decide) (by decide) fun r r0 r1=>c_i ?_))
    show if decide (r=0)=true then _ else _
    by_cases hr:r=0
    ·rw[if_pos (decide_eq_true hr)]
     refine(show sSet 9 _ _ _ _ from c2_i (jaf rfl (jaf rfl ⟨cs,rfl,hcs',hz,by omega,fun fs j n4 hf hn4=>?_⟩)))
     exact fin (.inl (.notes fs j)) _ _ (fun _ _ z=>z) hf (by omega)
    ·rw[if_neg (by simpa using hr)]
     exact fin (Sg.pl 2 g) _ _ (fun _ _ z=>z) (jt9 ps 2 g hg) (by omega)
   ·refine js8 (fun Q q=>hlen Q (by rw[List.length_map,decide_eq_false (by omega)];exact q)) ?_
    rw[if_neg Bool.false_ne_true]
    exact fin (Sg.pl 2 g) _ _ (fun _ _ z=>z) (jt9 ps 2 g hg) (by omega)
  ·obtain⟨cs,rows',x7,rfl,er,hl,hcs,hr,hn2⟩:=I
   obtain⟨row,rows',rfl,rfl,rfl⟩:=List.map_eq_cons_iff.mp er.symm
   rw[List.length_cons]at hl hn2
   dsimp only[jai,List.set]
   refine jij rfl (jcn (jaf rfl (w2_i (of_i (And.intro (by decide) ?_)))))
   dsimp only
   refine j0q (m:=7) rfl (by omega) (by decide) (by decide) fun q q0 q1=>jfz (ds:=[.int 1,.int 2,.int 3,.none,.int 1,.int 4,.int 9]) q0 q1 fun v hv=>?_
   have hv':∃o:Option Nat,v=cvD o:=by
    simp only[List.mem_cons,List.not_mem_nil,or_false]at hv
    rcases hv with rfl | rfl | rfl | rfl | rfl | rfl | rfl
    ·exact⟨some 1,rfl⟩
    ·exact⟨some 2,rfl⟩
    ·exact⟨some 3,rfl⟩
    ·exact⟨none,rfl⟩
    ·exact⟨some 1,rfl⟩
    ·exact⟨some 4,rfl⟩
    ·exact⟨some 9,rfl⟩
   obtain⟨o,rfl⟩:=hv'
   refine And.intro (show 2≤1000 by decide) (And.intro (by rw[List.length_map];omega) (kN' _ _ ⟨cs++[(row,o)],rows',_,by rw[List.map_append];rfl,rfl,by rw[List.length_append,List.length_singleton];omega,fun c hc=>?_,fun r z=>hr r (List.mem_cons_of_mem _ z),by omega⟩))
   rcases List.mem_append.mp hc with z | z
   ·exact hcs c z
   ·rw[List.mem_singleton]at z;subst z;exact hr row List.mem_cons_self
noncomputable def top (i:Nat):Stmt:=PySem.Challenge.pw_noteboard_k49_entries_see.main.body.getD i (.Pass ⟨0,0,0,0⟩)
noncomputable abbrev jdc:Stmt:=top 1
noncomputable abbrev jn8:Stmt:=top 2
noncomputable abbrev jez:Stmt:=top 4
noncomputable abbrev jd0:Stmt:=top 6
noncomputable abbrev jch:Stmt:=top 7
noncomputable abbrev jly:Stmt:=top 8
noncomputable abbrev jdb:Stmt:=top 10
noncomputable abbrev jcp:Stmt:=top 11
noncomputable abbrev jfi:Stmt:=top 13
noncomputable abbrev jfj:Stmt:=top 14
noncomputable abbrev jdd:Stmt:=top 15
noncomputable abbrev jd2:Stmt:=top 16
noncomputable abbrev jcj:Stmt:=top 17
noncomputable abbrev jb9:Stmt:=top 18
noncomputable abbrev jd1:Stmt:=top 19
noncomputable abbrev je1:Stmt:=top 20
noncomputable abbrev jci:Stmt:=top 21
noncomputable abbrev jdf:Stmt:=top 22
noncomputable abbrev jca:Stmt:=top 23
noncomputable abbrev jdg:Stmt:=top 24
noncomputable abbrev jde:Stmt:=top 25
noncomputable abbrev jd4:Stmt:=top 26
noncomputable abbrev jcq:Stmt:=top 27
noncomputable abbrev je0:Stmt:=top 28
noncomputable abbrev jcs:Stmt:=top 29
noncomputable abbrev jd3:Stmt:=top 30
noncomputable abbrev jcr:Stmt:=top 31
noncomputable abbrev jnd:Stmt:=top 32
noncomputable abbrev jyv:Stmt:=jfi
noncomputable abbrev jyx:Stmt:=jfj
end Nb
namespace Nb
open PySem L2
section
variable {P:Program} {w:World} {K:PySem.W.Frag} {mg:Str→Option Value} {base:Heap}
theorem jys:FnScope ["_law_script"] ["_law_script"] (jao jyv):=⟨rfl,rfl,rfl,by decide +kernel,rfl,by decide +kernel,by decide +kernel⟩
theorem jxf {f:Addr} {fd:FuncData} (F:Fun K "_law_tape" "_law_tape" jyv f fd):FnOk P w K mg base CX0 1 f fd ["_law_script"] (jn3 K):=by
 refine F.ok jys (fun vs H Q E h=>?_) (fun cdv A outer s H vs Q E hr h=>?_)
 ·obtain⟨a,ns,rfl,_⟩:=h
  rfl
 ·obtain⟨a,ns,rfl,hS,hl,k⟩:=h
  refine⟨_,jf8 (jl2 (jrm (ja4 (job jwu (pv 0) jrj (jri ja9)) (ja4 ja9 (ja4 ja9 (ja4 (jrm (ja4 joc (ja4 joc (ja4 joc (ja4 ja9 (ja4 ja9 (ja4 ja9 (ja4 ja9 jb6)))))))) jb6)))))),?_⟩
  refine⟨_,rfl,_,rfl,a,_,rfl,hS,fun p hp=>⟨jtw (by simp),fun g hg=>⟨jtw (by simp),fun q hq=>?_⟩⟩⟩
  rw[j12 (by rw[List.length_map];exact hl)]at hg hq ⊢
  have hgp:g≠p:=fun z=>by rw[z,jar]at hg;cases hg
  have hg0:H g=none:=by rw[jal hgp]at hg;exact hg
  have hqg:q≠g:=fun z=>by rw[z,jar]at hq;cases hq
  rw[jal hqg]at hq
  have hqp:q≠p:=fun z=>by rw[z,jar]at hq;cases hq
  have hq0:H q=none:=by rw[jal hqp]at hq;exact hq
  refine k q ⟨p,g⟩ _ ⟨⟨0,0,jar,Int.le_refl _,Int.le_refl _⟩,by rw[jal hqp.symm,jal hgp.symm,jar],hl,(fun z=>by rw[jal hqg.symm,jar];rfl),hqg.symm⟩ fun b o e=>?_
  rw[jal (jak e hq0),jal (jak e hg0),jal (jak e hp)]
  exact e
theorem scDraw:FnScope ["_law_tape_here","_law_many","_law_found","_law_spot","_law_cell","_law_mixed"] ["_law_tape_here","_law_many"] (jao jyx):=⟨rfl,rfl,rfl,by decide +kernel,rfl,by decide +kernel,by decide +kernel⟩
theorem juz {R:Prop} {G:Int→Prop} (use:(∀c,G c)→R) (fin:∀c,G c):R:=use fin
theorem j1q {R G:Prop} (use:G→R) (fin:G):R:=use fin
theorem jxg {f:Addr} {fd:FuncData} (F:Fun K "_law_draw" "_law_draw" jyx f fd) (zl:mg "len"=none):FnOk P w K mg base CX0 1 f fd ["_law_tape_here","_law_many"] jvk:=by
 refine F.ok scDraw (fun vs H Q E h=>?_) (fun cdv A outer s H vs Q E hr h=>?_)
 ·obtain⟨t,l,ns,n,many,rfl,_⟩:=h
  rfl
 ·obtain⟨t,l,ns,n,many,rfl,T,hn,hm0,hm1,k⟩:=h
  obtain⟨a,b,ht,ha0,ha1⟩:=T.ob
  have ntl:=T.ne
  have hl:=T.ls
  have hlen:=T.len
  refine⟨_,jb2 (jt8 (jf7 op_gt (jg0 ix_list (pv 0) ja9 (fun _ _=>rfl)) ja9 (jan _))
    (jb2 (jfu (i:=2) scDraw.nd rfl (Or.inl rfl) (jc7 jgu (jg0 ix_list (pv 0) ja9 (fun _ _=>rfl)) (pv 1)))
     (jb2 (jl3 (jc7 jrv (jg0 ix_list (pv 0) ja9 (fun _ _=>rfl)) (pv 1)) (joa (pv 0) ja9 jhg))
     (jf8 (jl2 (pv 2))))) jkn)
   (jb2 (jfu (i:=3) scDraw.nd rfl (Or.inl rfl) (jg0 ix_list (pv 0) ja9 (fun _ _=>rfl)))
   (jb2 (jl3 (jc7 jl7 (pv 3) ja9) (joa (pv 0) ja9 jhg))
   (jb2 (jfu (i:=4) scDraw.nd rfl (Or.inl rfl) ja9)
   (jb2 (jt8 (jf7 op_gt (jdh jdk (by rfl) zl PySem.boot_len (ja4 (jg0 ix_list (pv 0) ja9 (fun _ _=>rfl)) jb6)) ja9 (jan _))
    (jf8 (jfu (i:=4) scDraw.nd rfl (Or.inl rfl) (jg0 ix_list (jg0 ix_list (pv 0) ja9 (fun _ _=>rfl))
     (jc7 jgu (pv 3) (jdh jdk (by rfl) zl PySem.boot_len (ja4 (jg0 ix_list (pv 0) ja9 (fun _ _=>rfl)) jb6))) (fun _ _=>rfl)))) jkn)
   (jb2 (jt8 (PW.pt (jvp (jf7 op_ge (pv 4) (jc7 jzs ja9 ja9) (jan _))
     (jrd (jf7 op_lt (pv 3) (jdh jdk (by rfl) zl PySem.boot_len (ja4 (jg0 ix_list (pv 0) ja9 (fun _ _=>rfl)) jb6)) (jan _)))))
    (jb2 (jl3 (jc7 jrv (pv 4) (pv 1)) (joa (pv 0) ja9 jhg)) (jf8 (jl2 (jc7 jgu (pv 4) (pv 1))))) jkn)
   (jb2 (jfu (i:=5) scDraw.nd rfl (Or.inl rfl) (jc7 jgu (jc7 jjy (jc7 jl7 (jc7 jl7 (jc7 jgu (pv 4) ja9) (jc7 jjy (jc7 jjy ja9 (pv 3)) (pv 3))) ja9) ja9) ja9))
   (jf8 (jl2 (jc7 jgu (jc7 jgu (jc7 jjy (jc7 jgu (jc7 jl7 (jc7 jjy (pv 5) ja9) (jc7 jjy (pv 3) ja9)) ja9) ja9) ja9) (pv 1)))))))))),?_⟩
  -- tape[2] > 0
  refine⟨_,rfl,t,_,2,_,rfl,rfl,SqL.of ht,jb1 (j:=2) rfl,_,_,rfl,rfl,_,rfl,?_⟩
  refine ite2 (fun _=>?_) (fun _=>?_)
  ·-- found=tape[2] % many;tape[2]=tape[2] // many;return found
   refine⟨_,rfl,t,_,2,_,rfl,rfl,SqL.of ht,jb1 (j:=2) rfl,_,rfl,_,_,rfl,rfl,hm0,?_⟩
   refine⟨_,rfl,t,_,2,_,rfl,rfl,SqL.of ht,jb1 (j:=2) rfl,_,rfl,_,_,rfl,rfl,⟨hm0,hm1⟩,?_⟩
   refine⟨_,rfl,t,_,2,2,rfl,rfl,ht,rfl,?_⟩
   refine⟨_,rfl,?_⟩
   refine k _ _ (Int.emod_nonneg _ (by omega)) (Int.emod_lt_of_pos _ hm0) ⟨⟨a,b / many,jar,ha0,by omega⟩,by rw[jal ntl.symm];exact hl,hlen,(fun z=>by rw[jal T.gne];exact T.ag z),T.gne⟩ Kp.tape
  ·-- spot=tape[1];tape[1]=spot+1;cell=0
   refine⟨_,rfl,t,_,1,_,rfl,rfl,SqL.of ht,jb1 (j:=1) rfl,?_⟩
   refine⟨_,rfl,_,_,rfl,rfl,_,rfl,t,_,1,1,rfl,rfl,ht,rfl,?_⟩
   have ht1:∀o,upd H t o t=some o:=fun o=>jar
   have hl1:∀o,upd H t o l.s=some (.lst (ns.map V.int)):=fun o=>by rw[jal ntl.symm];exact hl
   generalize hH1:upd H t (.lst (((.ref l.s::.int a::.int b::exOf l:List V)).set 1 (.int (a+1))))=H1
   have g1:H1 t=some (.lst (.ref l.s::.int (a+1)::.int b::exOf l)):=by rw[←hH1];exact jar
   have g2:H1 l.s=some (.lst (ns.map V.int)):=by rw[←hH1];exact hl1 _
   have g3:Kp t H H1:=by rw[←hH1];exact Kp.tape
   have g4:jp6=true→H1 l.g=some (.lst jve):=fun z=>by rw[←hH1,jal T.gne];exact T.ag z
   refine⟨_,rfl,t,_,0,_,rfl,rfl,SqL.of g1,jb1 (j:=0) rfl,l.s,_,rfl,.inl (SqL.of g2),_,_,rfl,rfl,_,rfl,?_⟩
   apply juz
   case use =>
    intro fin
    refine ite2 (fun hp=>?_) (fun _=>?_)
    ·have hpos:(0:Int) < ((ns.map V.int).length:Int):=of_decide_eq_true hp
     obtain⟨v,hv,hm⟩:=jx6 (xs:=ns.map V.int) (r:=a % ((ns.map V.int).length:Int)) (Int.emod_nonneg _ (by omega)) (Int.emod_lt_of_pos _ hpos)
     obtain⟨c,_,rfl⟩:=List.mem_map.mp hm
     refine⟨_,rfl,t,_,0,_,rfl,rfl,SqL.of g1,jb1 (j:=0) rfl,_,rfl,_,rfl,t,_,0,_,rfl,rfl,SqL.of g1,jb1 (j:=0) rfl,l.s,_,rfl,.inl (SqL.of g2),_,_,rfl,rfl,hpos,l.s,_,_,.int c,rfl,rfl,SqL.of g2,hv,?_⟩
     exact fin c
    ·exact fin 0
   case fin =>
    intro c
    refine⟨_,rfl,_,_,rfl,rfl,⟨by decide,by decide,by decide⟩,_,_,rfl,rfl,_,rfl,?_⟩
    apply j1q
    case use =>
     intro fin
     refine ite2 (fun _=>?_) (fun _=>?_)
     ·refine⟨_,rfl,_,rfl,t,_,0,_,rfl,rfl,SqL.of g1,jb1 (j:=0) rfl,l.s,_,rfl,.inl (SqL.of g2),_,_,rfl,rfl,_,rfl,?_⟩
      refine ite2 (fun _=>?_) (fun _=>fin)
      refine⟨_,rfl,_,rfl,_,_,rfl,rfl,⟨hm0,hm1⟩,_,rfl,t,_,2,2,rfl,rfl,g1,rfl,_,rfl,_,rfl,_,_,rfl,rfl,hm0,?_⟩
      exact k _ _ (Int.emod_nonneg _ (by omega)) (Int.emod_lt_of_pos _ hm0) ⟨⟨a+1,_,jar,by omega,by omega⟩,by rw[jal ntl.symm];exact g2,hlen,(fun z=>by rw[jal T.gne];exact g4 z),T.gne⟩ (g3.trans Kp.tape)
     ·exact iteF fin
    case fin =>
     refine⟨_,rfl,_,_,rfl,rfl,(by show(0:Int) < 999331;decide),_,rfl,_,_,rfl,rfl,.inl ⟨by decide,by decide⟩,_,rfl,_,_,rfl,rfl,.inl ⟨by omega,by omega⟩,_,_,rfl,rfl,_,_,rfl,rfl,_,_,rfl,rfl,.inr ⟨by decide,by decide⟩,_,_,rfl,rfl,(by show(0:Int) < 999961;decide),?_⟩
     refine⟨_,rfl,_,_,rfl,rfl,.inr ⟨by decide,by decide⟩,_,rfl,_,_,rfl,rfl,.inr ⟨by decide,by decide⟩,_,_,rfl,rfl,_,_,rfl,rfl,(by show(0:Int) < 999953;decide),_,_,rfl,rfl,.inr ⟨by decide,by decide⟩,_,_,rfl,rfl,(by show(0:Int) < 524287;decide),_,rfl,_,_,rfl,rfl,hm0,?_⟩
     exact k _ _ (Int.emod_nonneg _ (by omega)) (Int.emod_lt_of_pos _ hm0) ⟨⟨a+1,b,g1,by omega,by omega⟩,g2,hlen,g4,T.gne⟩ g3
end
end Nb
namespace Nb
open PySem L2 DL
section
variable {P:Program} {w:World} {K:PySem.W.Frag} {mg:Str→Option Value} {base:Heap}
theorem sc_field_fits:FnScope ["field","value","having","bound","head"] ["field","value","having","bound"] (jao jdc):=⟨rfl,rfl,rfl,by decide +kernel,rfl,by decide +kernel,by decide +kernel⟩
theorem ji7 {fa:Addr} {fd:FuncData} (F:Fun K "field_fits" "field_fits" jdc fa fd) (m:mg "field_fits"=some (.ref fa)) (b:Binds K fd ["field","value","having","bound"] []) (z_int:mg "int"=none) (z_isinstance:mg "isinstance"=none) (z_str:mg "str"=none):Has P w K mg base 1 "field_fits" ["field","value","having","bound"] S_ff:=by
 refine Has.mk' F m b (Fun.okD F sc_field_fits jix ?_)
 intro cdv A outer s H E hr
 exact⟨_,jet,(jah (jb8 (i:=4) sc_field_fits.nd rfl (Or.inl rfl) (jap (K:=K) (jac 0) (jag))) (jah (s_if (ja6 (ja7 (K:=K) hr.units0) ja1 (jac 4) (jat) (jan _)) (jas (ja8 (jd8 (ja7 (K:=K) hr.units0) ja1 (jap (K:=K) (jac 0) (jag)) (jac 1) (jan _)))) jbx) (jah (s_if (ja6 (ja7 (K:=K) hr.units0) ja1 (jac 4) (jat) (jan _)) (jas (ja8 (jmt (K:=K) (T:="str") (.inr (.inr (.inl rfl))) (by rfl) z_isinstance (by rfl) z_str jov (jac 1)))) jbx) (jah (s_if (ja6 (ja7 (K:=K) hr.units0) ja1 (jac 4) (jat) (jan _)) (jas (ja8 (jmt (K:=K) (T:="int") (.inl rfl) (by rfl) z_isinstance (by rfl) z_int jv4 (jac 1)))) jbx) (jah (s_if (ja6 (ja7 (K:=K) hr.units0) ja1 (jac 4) (jat) (jan _)) (jas (ja8 (jxy (j0t hr.units (jap (K:=K) (jac 0) (jag)) (jeq 2)) (jpn (jd8 (ja7 (K:=K) hr.units0) ja1 (joq hr.units (jeq 2) (jap (K:=K) (jac 0) (jag))) (jac 1) (jan _)))))) jbx) (jah (s_if (ja6 (ja7 (K:=K) hr.units0) ja1 (jac 4) (jat) (jan _)) (jas (ja8 (d_or (j0s hr.units (jap (K:=K) (jac 0) (jag)) (jeq 3)) (jpn (jd8 (ja7 (K:=K) hr.units0) ja1 (joq hr.units (jeq 3) (jap (K:=K) (jac 0) (jag))) (jac 1) (jan _)))))) jbx) (jas (ja8 (d_bl))))))))),jh9⟩
theorem sc_fits:FnScope ["pattern","row","names","having","bound","field","value"] ["pattern","row","names"] (jao jn8):=⟨rfl,rfl,rfl,by decide +kernel,rfl,by decide +kernel,by decide +kernel⟩
theorem juy {fa:Addr} {fd:FuncData} (F:Fun K "fits" "fits" jn8 fa fd) (m:mg "fits"=some (.ref fa)) (b:Binds K fd ["pattern","row","names"] []) (h_field_fits:Has P w K mg base 1 "field_fits" ["field","value","having","bound"] S_ff) (z_dict:mg "dict"=none) (z_len:mg "len"=none) (z_sorted:mg "sorted"=none) (z_tuple:mg "tuple"=none) (z_zip:mg "zip"=none):Has P w K mg base 2 "fits" ["pattern","row","names"] jiq:=by
 refine Has.mk' F m b (Fun.okD F sc_fits juq ?_)
 intro cdv A outer s H E hr
 exact⟨_,jox,(jah (s_if (ja6 jxd jqr (ja5 (ja0 (K:=K)) jbq (by rfl) z_len PySem.boot_len (jaa (jac 0) jae)) (ja5 (ja0 (K:=K)) jbq (by rfl) z_len PySem.boot_len (jaa (jac 1) jae)) (jan _)) (jas (ja8 (jhf))) jbx) (jah (jq3 (i:=3) sc_fits.nd rfl (Or.inl rfl) (jsb hr.hd hr.units (by rfl) z_dict (jac 2))) (jah (jq3 (i:=4) sc_fits.nd rfl (Or.inl rfl) j1m) (jah (jft (j0g (K:=K) (by rfl) z_zip (jac 0) (jac 1)) (jh2 (K:=K) (jb4 (ja2 (i:=5) sc_fits.nd rfl (Or.inl rfl)) (jb4 (ja2 (i:=6) sc_fits.nd rfl (Or.inl rfl)) jhz))) (jah (s_if (j0w (jx2 (jaj h_field_fits (hr.mono (by decide)) (by rfl) (jaa (jac 5) (jaa (jac 6) (jaa (jeq 3) (jaa (jeq 4) jae))))))) (jas (ja8 (jhf))) jbx) (jas (s_if (ja6 (ja7 (K:=K) hr.units0) ja1 (jap (K:=K) (jac 5) (jag)) (jat) (jan _)) (jah (jq2 (i:=4) hr.units rfl (jap (K:=K) (jac 5) (jag)) (jac 6)) (jas (jq2 (i:=3) hr.units rfl (jap (K:=K) (jac 5) (jag)) (jac 6)))) jbx)))) (jas (ja8 (jbj (jaz (K:=K)) jbr (by rfl) z_tuple jbn (jaa (DF.d (jnp (K:=K) hr.hd (by rfl) z_sorted (jeq 3))) jae)))))))),jte⟩
theorem sc_next_act:FnScope ["programs","stand","hand","block","place","acts"] ["programs","stand","hand"] (jao jez):=⟨rfl,rfl,rfl,by decide +kernel,rfl,by decide +kernel,by decide +kernel⟩
theorem jmm {fa:Addr} {fd:FuncData} (F:Fun K "next_act" "next_act" jez fa fd) (m:mg "next_act"=some (.ref fa)) (b:Binds K fd ["programs","stand","hand"] []) (z_len:mg "len"=none):Has P w K mg base 1 "next_act" ["programs","stand","hand"] jka:=by
 refine Has.mk' F m b (Fun.okD F sc_next_act jmb ?_)
 intro cdv A outer s H E hr
 exact⟨_,jgn,(jah (jb8 (i:=3) sc_next_act.nd rfl (Or.inl rfl) (jap (K:=K) (jap (K:=K) (jap (K:=K) (jac 1) (jag)) (jac 2)) (jag))) (jah (jb8 (i:=4) sc_next_act.nd rfl (Or.inl rfl) (jap (K:=K) (jap (K:=K) (jap (K:=K) (jac 1) (jag)) (jac 2)) (jag))) (jah (jb8 (i:=5) sc_next_act.nd rfl (Or.inl rfl) (jap (K:=K) (jap (K:=K) (jap (K:=K) (jac 0) (jac 2)) (jac 3)) (jag))) (jas (ja8 (jfo (ja6 jhr jho (jac 4) (ja5 (ja0 (K:=K)) jbq (by rfl) z_len PySem.boot_len (jaa (jac 5) jae)) (jan _)) (jap (K:=K) (jac 5) (jac 4)) (jhf))))))),jlc⟩
theorem jlv:FnScope ["sight"] ["sight"] (jao jd0):=⟨rfl,rfl,rfl,by decide +kernel,rfl,by decide +kernel,by decide +kernel⟩
theorem jky {fa:Addr} {fd:FuncData} (F:Fun K "others_in" "others_in" jd0 fa fd) (m:mg "others_in"=some (.ref fa)) (b:Binds K fd ["sight"] []):Has P w K mg base 1 "others_in" ["sight"] jcm:=by
 refine Has.mk' F m b (Fun.okD F jlv jkr ?_)
 intro cdv A outer s H E hr
 exact⟨_,jd9,(jah (s_if (ja6 (jfa (K:=K)) jdt (jap (K:=K) (jac 0) (jag)) (ja3 (jaa (jat) (jaa (jat) jae))) (by with_unfolding_all rfl)) (jas (ja8 (jap (K:=K) (jac 0) (jag)))) jbx) (jas (ja8 (jfo (ja6 (ja7 (K:=K) hr.units0) ja1 (jap (K:=K) (jac 0) (jag)) (jat) (jan _)) (ja3 (jaa (jap (K:=K) (jac 0) (jag)) jae)) (ja3 jae))))),jjh⟩
theorem jhp:FnScope ["pattern","notes"] ["pattern","notes"] (jao jch):=⟨rfl,rfl,rfl,by decide +kernel,rfl,by decide +kernel,by decide +kernel⟩
theorem jg8 {fa:Addr} {fd:FuncData} (F:Fun K "how_many_fit" "how_many_fit" jch fa fd) (m:mg "how_many_fit"=some (.ref fa)) (b:Binds K fd ["pattern","notes"] []) (h_fits:Has P w K mg base 2 "fits" ["pattern","row","names"] jiq) (z_len:mg "len"=none):Has P w K mg base 3 "how_many_fit" ["pattern","notes"] jkb:=by
 refine Has.mk' F m b (Fun.okD F jhp jg3 ?_)
 intro cdv A outer s H E hr
 exact⟨_,jfg,(jas (ja8 (ja5 (ja0 (K:=K)) jbq (by rfl) z_len PySem.boot_len (jaa (DF.d (jfd (N:=["note","pattern"]) (cl:=[("pattern",s.heap.objs.size+1)]) (fr:=[none,some 0]) rfl ⟨by rfl,rfl,by decide +kernel,by decide +kernel,(fun x c h=>h),jbm [(".0",.local),("note",.local),("fits",.globalImplicit),("pattern",.cell)] ["pattern"] rfl rfl (by decide +kernel),rfl,(fun j i h=>match j,h with | 0,h=>(by cases h) | 1,h=>(by cases(Option.some.inj (Option.some.inj h)).symm;exact⟨"pattern",rfl,rfl,Or.inr (Or.inl rfl),Or.inl rfl,Or.inl rfl,rfl⟩) | (j+2),h=>(by have h2:(none:Option (Option Nat))=some (some i):=h;cases h2))⟩ (jdi (K:=K) (jac 1)) (fun _ _ _=>(ja2 (i:=0) (show(["note","pattern"]:List Str).Nodup by decide +kernel) rfl (Or.inl rfl))) (fun _ _ _=>(jj5 (ja6 jnj jki (jaj h_fits (hr.mono (by decide)) (by rfl) (jaa (jac 1) (jaa (jap (K:=K) (jac 0) (jag)) (jaa (ja3 jae) jae)))) (jhf) (jan _)))) (fun _ _ _=>(jac 0)) (jby 0))) jae)))),jgk⟩
theorem sc_sees:FnScope ["programs","stand","sight","head","seen"] ["programs","stand","sight"] (jao jly):=⟨rfl,rfl,rfl,by decide +kernel,rfl,by decide +kernel,by decide +kernel⟩
theorem jqm {k d:Nat} (hk:4≤k) {fa:Addr} {fd:FuncData} (F:Fun K "sees" "sees" jly fa fd) (m:mg "sees"=some (.ref fa)) (b:Binds K fd ["programs","stand","sight"] []) (h_how_many_fit:Has P w K mg base 3 "how_many_fit" ["pattern","notes"] jkb) (h_next_act:Has P w K mg base 1 "next_act" ["programs","stand","hand"] jka) (h_others_in:Has P w K mg base 1 "others_in" ["sight"] jcm) (z_all:mg "all"=none) (z_any:mg "any"=none) (h_self:Has P w K mg base k "sees" ["programs","stand","sight"] (jec d)):Has P w K mg base (k+1) "sees" ["programs","stand","sight"] (jec (d+1)):=by
 refine Has.mk' F m b (Fun.okD F sc_sees (jup (d+1)) ?_)
 intro cdv A outer s H E hr
 exact⟨_,jti (jec d),(jah (jb8 (i:=3) sc_sees.nd rfl (Or.inl rfl) (jap (K:=K) (jac 2) (jag))) (jah (s_if (ja6 (jj0 (K:=K) hr.units) jjs (jac 3) (jat) (jan _)) (jas (ja8 (jd8 jru jqu (jaj h_how_many_fit (hr.mono (by omega)) (by rfl) (jaa (jap (K:=K) (jac 2) (jag)) (jaa (jap (K:=K) (jac 1) (jag)) jae))) (jap (K:=K) (jac 2) (jag)) (jan _)))) jbx) (jah (s_if (ja6 (jj0 (K:=K) hr.units) jjs (jac 3) (jat) (jan _)) (jas (ja8 (jd8 (jj0 (K:=K) hr.units) jjs (jns (K:=K) (jap (K:=K) (jap (K:=K) (jac 1) (jag)) (jap (K:=K) (jac 2) (jag))) jry (jrx (jag))) (jns (K:=K) (jac 2) (jrx (jag)) jry) (jan _)))) jbx) (jah (s_if (ja6 (jj0 (K:=K) hr.units) jjs (jac 3) (jat) (jan _)) (jas (ja8 (jd8 jzt jwq (jaj h_next_act (hr.mono (by omega)) (by rfl) (jaa (jac 0) (jaa (jac 1) (jaa (jap (K:=K) (jac 2) (jag)) jae)))) (jhf) (jan _)))) jbx) (jah (jgt (i:=4) (N:=["other","programs","stand"]) (cl:=[("stand",s.heap.objs.size+2),("programs",s.heap.objs.size+1)]) (fr:=[none,some 0,some 1]) sc_sees.nd rfl rfl rfl ⟨by rfl,rfl,by decide +kernel,by decide +kernel,(jcf (by intro y hy;simp only[List.mem_cons,List.not_mem_nil,or_false]at hy;rcases hy with rfl | rfl<;>rfl)),jbm [(".0",.local),("other",.local),("sees",.globalImplicit),("programs",.cell),("stand",.cell)] ["stand","programs"] rfl rfl (by decide +kernel),rfl,(fun j i h=>match j,h with | 0,h=>(by cases h) | 1,h=>(by cases(Option.some.inj (Option.some.inj h)).symm;exact⟨"programs",rfl,rfl,Or.inr (Or.inl rfl),Or.inl rfl,Or.inl rfl,rfl⟩) | 2,h=>(by cases(Option.some.inj (Option.some.inj h)).symm;exact⟨"stand",rfl,rfl,Or.inr (Or.inl rfl),Or.inl rfl,Or.inl rfl,rfl⟩) | (j+3),h=>(by have h2:(none:Option (Option Nat))=some (some i):=h;cases h2))⟩ (jdi (K:=K) (jaj h_others_in (hr.mono (by omega)) (by rfl) (jaa (jac 2) jae))) (fun _ _ _=>(ja2 (i:=0) (show(["other","programs","stand"]:List Str).Nodup by decide +kernel) rfl (Or.inl rfl))) (fun _ _ _=>jei) (fun _ _ _=>(jaj h_self (hr.mono (by omega)) (by rfl) (jaa (jac 1) (jaa (jac 2) (jaa (jac 0) jae))))) (jby 0)) (jah (s_if (ja6 (jj0 (K:=K) hr.units) jjs (jac 3) (jat) (jan _)) (jas (ja8 (j1x (jap (K:=K) (jac 4) (jag))))) jbx) (jas (ja8 (jfo (ja6 (jj0 (K:=K) hr.units) jjs (jac 3) (jat) (jan _)) (ja5 (jm0 hr.hd) jqw (by rfl) z_all jv6 (jaa (jac 4) jae)) (ja5 (jmz hr.hd) jqv (by rfl) z_any jv5 (jaa (jac 4) jae))))))))))),jtd d⟩
theorem jux {fa:Addr} {fd:FuncData} (F:Fun K "sees" "sees" jly fa fd) (m:mg "sees"=some (.ref fa)) (b:Binds K fd ["programs","stand","sight"] []) (h_how_many_fit:Has P w K mg base 3 "how_many_fit" ["pattern","notes"] jkb) (h_next_act:Has P w K mg base 1 "next_act" ["programs","stand","hand"] jka) (h_others_in:Has P w K mg base 1 "others_in" ["sight"] jcm) (z_all:mg "all"=none) (z_any:mg "any"=none):Has P w K mg base 5 "sees" ["programs","stand","sight"] (jec 1):=by
 have all:∀d,Has P w K mg base (4+d) "sees" ["programs","stand","sight"] (jec d):=by
  intro d
  induction d with
  |zero=>exact Has.mk' F m b ⟨fun vs H Q E h=>(by obtain⟨_,_,_,_,_,_,_,_,_,_,_,z,_⟩:=h;exact z.elim),fun A outer s H args us vs Q E hr he hb hv h=>(by obtain⟨_,_,_,_,_,_,_,_,_,_,_,z,_⟩:=h;exact z.elim)⟩
  |succ d ih=>exact jqm (Nat.le_add_right _ _) F m b h_how_many_fit h_next_act h_others_in z_all z_any ih
 exact all 1
theorem sc_has_enough:FnScope ["counts","pattern","many","fitting"] ["counts","pattern","many"] (jao jdb):=⟨rfl,rfl,rfl,by decide +kernel,rfl,by decide +kernel,by decide +kernel⟩
theorem ji6 {fa:Addr} {fd:FuncData} (F:Fun K "has_enough" "has_enough" jdb fa fd) (m:mg "has_enough"=some (.ref fa)) (b:Binds K fd ["counts","pattern","many"] []) (h_fits:Has P w K mg base 2 "fits" ["pattern","row","names"] jiq) (z_sum:mg "sum"=none):Has P w K mg base 3 "has_enough" ["counts","pattern","many"] je5:=by
 refine Has.mk' F m b (Fun.okD F sc_has_enough jiw ?_)
 intro cdv A outer s H E hr
 exact⟨_,jes,(jah (jgt (i:=3) (N:=["count","pattern"]) (cl:=[("pattern",s.heap.objs.size+1)]) (fr:=[none,some 1]) sc_has_enough.nd rfl rfl rfl ⟨by rfl,rfl,by decide +kernel,by decide +kernel,(fun x c h=>h),jbm [(".0",.local),("count",.local),("fits",.globalImplicit),("pattern",.cell)] ["pattern"] rfl rfl (by decide +kernel),rfl,(fun j i h=>match j,h with | 0,h=>(by cases h) | 1,h=>(by cases(Option.some.inj (Option.some.inj h)).symm;exact⟨"pattern",rfl,rfl,Or.inr (Or.inl rfl),Or.inl rfl,Or.inl rfl,rfl⟩) | (j+2),h=>(by have h2:(none:Option (Option Nat))=some (some i):=h;cases h2))⟩ (jdi (K:=K) (jac 0)) (fun _ _ _=>(ja2 (i:=0) (show(["count","pattern"]:List Str).Nodup by decide +kernel) rfl (Or.inl rfl))) (fun _ _ _=>(jj5 (ja6 jnj jki (jaj h_fits (hr.mono (by decide)) (by rfl) (jaa (jac 1) (jaa (jap (K:=K) (jac 0) (jag)) (jaa (ja3 jae) jae)))) (jhf) (jan _)))) (fun _ _ _=>(jap (K:=K) (jac 0) (jag))) (jby 0)) (jas (ja8 (d_or (jd8 (jfa (K:=K)) jdt (jhf) (jac 3) (by with_unfolding_all rfl)) (jpn (jd8 jru jqu (ja5 (jmv hr.hd) jqp (by rfl) z_sum (by decide +kernel) (jaa (jac 3) jae)) (jac 2) (jan _))))))),jh8⟩
theorem sc_entry_sees:FnScope ["programs","entry","sight","head","seen"] ["programs","entry","sight"] (jao jcp):=⟨rfl,rfl,rfl,by decide +kernel,rfl,by decide +kernel,by decide +kernel⟩
theorem jhk {k d:Nat} (hk:6≤k) {fa:Addr} {fd:FuncData} (F:Fun K "entry_sees" "entry_sees" jcp fa fd) (m:mg "entry_sees"=some (.ref fa)) (b:Binds K fd ["programs","entry","sight"] []) (h_has_enough:Has P w K mg base 3 "has_enough" ["counts","pattern","many"] je5) (h_others_in:Has P w K mg base 1 "others_in" ["sight"] jcm) (h_sees:Has P w K mg base 5 "sees" ["programs","stand","sight"] (jec 1)) (z_all:mg "all"=none) (z_any:mg "any"=none) (h_self:Has P w K mg base k "entry_sees" ["programs","entry","sight"] (jbd d)):Has P w K mg base (k+1) "entry_sees" ["programs","entry","sight"] (jbd (d+1)):=by
 refine Has.mk' F m b (Fun.okD F sc_entry_sees (jfb (d+1)) ?_)
 intro cdv A outer s H E hr
 exact⟨_,jct (jbd d),(jah (jb8 (i:=3) sc_entry_sees.nd rfl (Or.inl rfl) (jap (K:=K) (jac 2) (jag))) (jah (s_if (ja6 (ja7 (K:=K) hr.units0) ja1 (jac 3) (jat) (jan _)) (jas (ja8 (jaj h_has_enough (hr.mono (by omega)) (by rfl) (jaa (jap (K:=K) (jac 1) (jag)) (jaa (jap (K:=K) (jac 2) (jag)) (jaa (jap (K:=K) (jac 2) (jag)) jae)))))) jbx) (jah (s_if (ja6 (jfa (K:=K)) jdt (jac 3) (ja3 (jaa (jat) (jaa (jat) jae))) (by with_unfolding_all rfl)) (jas (ja8 (jaj h_sees (hr.mono (by omega)) (by rfl) (jaa (jac 0) (jaa (jac 1) (jaa (jac 2) jae)))))) jbx) (jah (jgt (i:=4) (N:=["other","entry","programs"]) (cl:=[("programs",s.heap.objs.size+1),("entry",s.heap.objs.size+2)]) (fr:=[none,some 1,some 0]) sc_entry_sees.nd rfl rfl rfl ⟨by rfl,rfl,by decide +kernel,by decide +kernel,(jcf (by intro y hy;simp only[List.mem_cons,List.not_mem_nil,or_false]at hy;rcases hy with rfl | rfl<;>rfl)),jbm [(".0",.local),("other",.local),("entry_sees",.globalImplicit),("entry",.cell),("programs",.cell)] ["programs","entry"] rfl rfl (by decide +kernel),rfl,(fun j i h=>match j,h with | 0,h=>(by cases h) | 1,h=>(by cases(Option.some.inj (Option.some.inj h)).symm;exact⟨"entry",rfl,rfl,Or.inr (Or.inl rfl),Or.inl rfl,Or.inl rfl,rfl⟩) | 2,h=>(by cases(Option.some.inj (Option.some.inj h)).symm;exact⟨"programs",rfl,rfl,Or.inr (Or.inl rfl),Or.inl rfl,Or.inl rfl,rfl⟩) | (j+3),h=>(by have h2:(none:Option (Option Nat))=some (some i):=h;cases h2))⟩ (jdi (K:=K) (jaj h_others_in (hr.mono (by omega)) (by rfl) (jaa (jac 2) jae))) (fun _ _ _=>(ja2 (i:=0) (show(["other","entry","programs"]:List Str).Nodup by decide +kernel) rfl (Or.inl rfl))) (fun _ _ _=>jei) (fun _ _ _=>(jaj h_self (hr.mono (by omega)) (by rfl) (jaa (jac 2) (jaa (jac 1) (jaa (jac 0) jae))))) (jby 0)) (jas (ja8 (jfo (ja6 (ja7 (K:=K) hr.units0) ja1 (jac 3) (jat) (jan _)) (ja5 (jm0 hr.hd) jqw (by rfl) z_all jv6 (jaa (jac 4) jae)) (ja5 (jmz hr.hd) jqv (by rfl) z_any jv5 (jaa (jac 4) jae))))))))),jia d⟩
theorem ji8 {fa:Addr} {fd:FuncData} (F:Fun K "entry_sees" "entry_sees" jcp fa fd) (m:mg "entry_sees"=some (.ref fa)) (b:Binds K fd ["programs","entry","sight"] []) (h_has_enough:Has P w K mg base 3 "has_enough" ["counts","pattern","many"] je5) (h_others_in:Has P w K mg base 1 "others_in" ["sight"] jcm) (h_sees:Has P w K mg base 5 "sees" ["programs","stand","sight"] (jec 1)) (z_all:mg "all"=none) (z_any:mg "any"=none):Has P w K mg base 9 "entry_sees" ["programs","entry","sight"] (jbd 3):=by
 have all:∀d,Has P w K mg base (6+d) "entry_sees" ["programs","entry","sight"] (jbd d):=by
  intro d
  induction d with
  |zero=>exact Has.mk' F m b ⟨fun vs H Q E h=>(by obtain⟨_,_,_,_,_,_,_,_,_,_,_,z,_⟩:=h;exact z.elim),fun A outer s H args us vs Q E hr he hb hv h=>(by obtain⟨_,_,_,_,_,_,_,_,_,_,_,z,_⟩:=h;exact z.elim)⟩
  |succ d ih=>exact jhk (Nat.le_add_right _ _) F m b h_has_enough h_others_in h_sees z_all z_any ih
 exact all 3
theorem jkk:FnScope ["_law_tape_here"] ["_law_tape_here"] (jao jdd):=⟨rfl,rfl,rfl,by decide +kernel,rfl,by decide +kernel,by decide +kernel⟩
theorem ji9 {fa:Addr} {fd:FuncData} (F:Fun K "_law_value" "_law_value" jdd fa fd) (m:mg "_law_value"=some (.ref fa)) (b:Binds K fd ["_law_tape_here"] []) (jad:Has P w K mg base 1 "_law_draw" ["_law_tape_here","_law_many"] jau):Has P w K mg base 2 "_law_value" ["_law_tape_here"] jc6:=by
 refine Has.mk' F m b (Fun.okD F jkk jiy ?_)
 intro cdv A outer s H E hr
 exact⟨_,jeu,(jas (ja8 (jap (K:=K) (DF.d (jb0 (jaa (jat) (jaa (jag) (jaa (jat) (jaa (jag) (jaa (jat) (jaa (jat) (jaa (jag) (jaa (jag) jae)))))))))) (jaj jad (hr.mono (by decide)) (by rfl) (jaa (jac 0) (jaa (jag) jae)))))),jib⟩
theorem jlx:FnScope ["_law_tape_here"] ["_law_tape_here"] (jao jd2):=⟨rfl,rfl,rfl,by decide +kernel,rfl,by decide +kernel,by decide +kernel⟩
theorem jk0 {fa:Addr} {fd:FuncData} (F:Fun K "_law_size" "_law_size" jd2 fa fd) (m:mg "_law_size"=some (.ref fa)) (b:Binds K fd ["_law_tape_here"] []) (jad:Has P w K mg base 1 "_law_draw" ["_law_tape_here","_law_many"] jau):Has P w K mg base 2 "_law_size" ["_law_tape_here"] jfh:=by
 refine Has.mk' F m b (Fun.okD F jlx jkt ?_)
 intro cdv A outer s H E hr
 exact⟨_,jfr,(jas (ja8 (jap (K:=K) (DF.d (jb0 (jaa (jag) (jaa (jag) (jaa (jag) (jaa (jag) (jaa (jag) (jaa (jag) (jaa (jag) jae))))))))) (jaj jad (hr.mono (by decide)) (by rfl) (jaa (jac 0) (jaa (jag) jae)))))),jjj⟩
theorem sc__law_pattern:FnScope ["_law_tape_here","_law_known_here","_law_fields","_law_bound","_law_k","_law_way","_law_some","_law_name"] ["_law_tape_here","_law_known_here"] (jao jcj):=⟨rfl,rfl,rfl,by decide +kernel,rfl,by decide +kernel,by decide +kernel⟩
theorem jha {fa:Addr} {fd:FuncData} (F:Fun K "_law_pattern" "_law_pattern" jcj fa fd) (m:mg "_law_pattern"=some (.ref fa)) (b:Binds K fd ["_law_tape_here","_law_known_here"] []) (jad:Has P w K mg base 1 "_law_draw" ["_law_tape_here","_law_many"] jau) (jbv:Has P w K mg base 2 "_law_size" ["_law_tape_here"] jfh) (jax:Has P w K mg base 2 "_law_value" ["_law_tape_here"] jc6) (z_len:mg "len"=none) (z_range:mg "range"=none) (z_tuple:mg "tuple"=none):Has P w K mg base 3 "_law_pattern" ["_law_tape_here","_law_known_here"] jgw:=by
 refine Has.mk' F m b (Fun.okD F sc__law_pattern jg5 ?_)
 intro cdv A outer s H E hr
 exact⟨_,jdr,(jah (jf6 (i:=2) sc__law_pattern.nd rfl (Or.inl rfl) (jb0 jae)) (jah (jf6 (i:=3) sc__law_pattern.nd rfl (Or.inl rfl) (jb0 jae)) (jah (jft (jcl (by rfl) z_range (jaj jbv (hr.mono (by decide)) (by rfl) (jaa (jac 0) jae))) (ja2 (i:=4) sc__law_pattern.nd rfl (Or.inl rfl)) (jah (jb8 (i:=5) sc__law_pattern.nd rfl (Or.inl rfl) (jaj jad (hr.mono (by decide)) (by rfl) (jaa (jac 0) (jaa (jag) jae)))) (jah (jb8 (i:=6) sc__law_pattern.nd rfl (Or.inl rfl) (j1z (jac 1) (jms 3))) (jas (s_if (ja6 jhr jho (jac 5) (jag) (jan _)) (jas (je6 (i:=2) rfl (ja3 (jaa (jat) (jaa (jaj jax (hr.mono (by decide)) (by rfl) (jaa (jac 0) jae)) jae))))) (jas (s_if (ja6 jhr jho (jac 5) (jag) (jan _)) (jas (je6 (i:=2) rfl (je8 (K:=K) (DF.d (jb0 (jaa (ja3 (jaa (jat) jae)) (jaa (ja3 (jaa (jat) jae)) (jaa (ja3 (jaa (jat) jae)) jae))))) (jpm (jac 5) (jag))))) (jas (s_if (DCW.cc (cw_or (ja6 jhr jho (jac 5) (jag) (jan _)) (cw_or1 (ja6 (ja7 (K:=K) hr.units0) jdz (jac 6) (DF.d (jb0 jae)) (jan _))))) (jah (jb8 (i:=7) sc__law_pattern.nd rfl (Or.inl rfl) (je8 (K:=K) (DF.d (jb0 (jaa (jat) (jaa (jat) (jaa (jat) (jaa (jat) jae)))))) (jaj jad (hr.mono (by decide)) (by rfl) (jaa (jac 0) (jaa (jag) jae))))) (jah (je6 (i:=3) rfl (jac 7)) (jas (je6 (i:=2) rfl (ja3 (jaa (jat) (jaa (jac 7) jae))))))) (jas (je6 (i:=2) rfl (ja3 (jaa (jat) (jaa (je8 (K:=K) (jac 6) (jaj jad (hr.mono (by decide)) (by rfl) (jaa (jac 0) (jaa (ja5 (ja0 (K:=K)) jc9 (by rfl) z_len PySem.boot_len (jaa (jac 6) jae)) jae)))) jae)))))))))))))) (jgz 2 (jgz 3 (jas (ja8 (ja3 (jaa (jbj (jaz (K:=K)) jce (by rfl) z_tuple jbn (jaa (jac 2) jae)) (jaa (jac 3) jae)))))))))),jgm⟩
theorem sc__law_template:FnScope ["_law_tape_here","_law_known_here","_law_fields","_law_k","_law_way"] ["_law_tape_here","_law_known_here"] (jao jb9):=⟨rfl,rfl,rfl,by decide +kernel,rfl,by decide +kernel,by decide +kernel⟩
theorem jgd {fa:Addr} {fd:FuncData} (F:Fun K "_law_template" "_law_template" jb9 fa fd) (m:mg "_law_template"=some (.ref fa)) (b:Binds K fd ["_law_tape_here","_law_known_here"] []) (jad:Has P w K mg base 1 "_law_draw" ["_law_tape_here","_law_many"] jau) (jbv:Has P w K mg base 2 "_law_size" ["_law_tape_here"] jfh) (jax:Has P w K mg base 2 "_law_value" ["_law_tape_here"] jc6) (z_len:mg "len"=none) (z_range:mg "range"=none) (z_tuple:mg "tuple"=none):Has P w K mg base 3 "_law_template" ["_law_tape_here","_law_known_here"] jm9:=by
 refine Has.mk' F m b (Fun.okD F sc__law_template jf9 ?_)
 intro cdv A outer s H E hr
 exact⟨_,jc4,(jah (jf6 (i:=2) sc__law_template.nd rfl (Or.inl rfl) (jb0 jae)) (jah (jft (jcl (by rfl) z_range (jaj jbv (hr.mono (by decide)) (by rfl) (jaa (jac 0) jae))) (ja2 (i:=3) sc__law_template.nd rfl (Or.inl rfl)) (jah (jb8 (i:=4) sc__law_template.nd rfl (Or.inl rfl) (jaj jad (hr.mono (by decide)) (by rfl) (jaa (jac 0) (jaa (jag) jae)))) (jas (s_if (DCW.cc (cw_or (ja6 jhr jho (jac 4) (jag) (jan _)) (cw_or1 (ja6 (ja7 (K:=K) hr.units0) jdz (jac 1) (DF.d (jb0 jae)) (jan _))))) (jas (je6 (i:=2) rfl (ja3 (jaa (jat) (jaa (jaj jax (hr.mono (by decide)) (by rfl) (jaa (jac 0) jae)) jae))))) (jas (je6 (i:=2) rfl (ja3 (jaa (je8 (K:=K) (DF.d (jb0 (jaa (jat) (jaa (jat) (jaa (jat) jae))))) (jpm (jac 4) (jag))) (jaa (je8 (K:=K) (jac 1) (jaj jad (hr.mono (by decide)) (by rfl) (jaa (jac 0) (jaa (ja5 (ja0 (K:=K)) jc9 (by rfl) z_len PySem.boot_len (jaa (jac 1) jae)) jae)))) jae))))))))) (jgz 2 (jas (ja8 (jbj (jaz (K:=K)) jce (by rfl) z_tuple jbn (jaa (jac 2) jae))))))),jf2⟩
theorem jlw:FnScope ["_law_tape_here","_law_known_here"] ["_law_tape_here","_law_known_here"] (jao jd1):=⟨rfl,rfl,rfl,by decide +kernel,rfl,by decide +kernel,by decide +kernel⟩
theorem jkz {fa:Addr} {fd:FuncData} (F:Fun K "_law_term" "_law_term" jd1 fa fd) (m:mg "_law_term"=some (.ref fa)) (b:Binds K fd ["_law_tape_here","_law_known_here"] []) (jad:Has P w K mg base 1 "_law_draw" ["_law_tape_here","_law_many"] jau) (jax:Has P w K mg base 2 "_law_value" ["_law_tape_here"] jc6) (z_len:mg "len"=none):Has P w K mg base 3 "_law_term" ["_law_tape_here","_law_known_here"] jgq:=by
 refine Has.mk' F m b (Fun.okD F jlw jks ?_)
 intro cdv A outer s H E hr
 exact⟨_,jfq,(jah (s_if (DCW.cc (cw_or (ja6 (ja7 (K:=K) hr.units0) jdz (jac 1) (DF.d (jb0 jae)) (jan _)) (cw_or1 (ja6 (ja7 (K:=K) hr.units0) jdz (jaj jad (hr.mono (by decide)) (by rfl) (jaa (jac 0) (jaa (jag) jae))) (jag) (jan _))))) (jas (ja8 (ja3 (jaa (jat) (jaa (jaj jax (hr.mono (by decide)) (by rfl) (jaa (jac 0) jae)) jae))))) jbx) (jas (ja8 (ja3 (jaa (jat) (jaa (je8 (K:=K) (jac 1) (jaj jad (hr.mono (by decide)) (by rfl) (jaa (jac 0) (jaa (ja5 (ja0 (K:=K)) jc9 (by rfl) z_len PySem.boot_len (jaa (jac 1) jae)) jae)))) jae)))))),jji⟩
theorem sc__law_act:FnScope ["_law_tape_here","_law_known_here","_law_open_ones","_law_way","_law_block","_law_pattern_here","_law_bound"] ["_law_tape_here","_law_known_here","_law_open_ones"] (jao je1):=⟨rfl,rfl,rfl,by decide +kernel,rfl,by decide +kernel,by decide +kernel⟩
theorem jmo {fa:Addr} {fd:FuncData} (F:Fun K "_law_act" "_law_act" je1 fa fd) (m:mg "_law_act"=some (.ref fa)) (b:Binds K fd ["_law_tape_here","_law_known_here","_law_open_ones"] []) (jad:Has P w K mg base 1 "_law_draw" ["_law_tape_here","_law_many"] jau) (jbe:Has P w K mg base 3 "_law_pattern" ["_law_tape_here","_law_known_here"] jgw) (jc1:Has P w K mg base 3 "_law_template" ["_law_tape_here","_law_known_here"] jm9) (jd6:Has P w K mg base 3 "_law_term" ["_law_tape_here","_law_known_here"] jgq) (z_len:mg "len"=none):Has P w K mg base 4 "_law_act" ["_law_tape_here","_law_known_here","_law_open_ones"] jip:=by
 refine Has.mk' F m b (Fun.okD F sc__law_act jmd ?_)
 intro cdv A outer s H E hr
 exact⟨_,jgp,(jah (jb8 (i:=3) sc__law_act.nd rfl (Or.inl rfl) (jaj jad (hr.mono (by decide)) (by rfl) (jaa (jac 0) (jaa (jag) jae)))) (jah (s_if (ja6 jhr jho (jac 3) (jag) (jan _)) (jas (ja8 (ja3 (jaa (ja3 (jaa (jat) (jaa (jaj jc1 (hr.mono (by decide)) (by rfl) (jaa (jac 0) (jaa (jac 1) jae))) (jaa (je8 (K:=K) (ju3 (K:=K) (ix:=3) 0) (jaj jad (hr.mono (by decide)) (by rfl) (jaa (jac 0) (jaa (ja5 (ja0 (K:=K)) jc9 (by rfl) z_len PySem.boot_len (jaa (ju3 (K:=K) (ix:=3) 0) jae)) jae)))) jae)))) (jaa (DF.d (jb0 jae)) jae))))) jbx) (jah (jb8 (i:=4) sc__law_act.nd rfl (Or.inl rfl) (je8 (K:=K) (jac 2) (jaj jad (hr.mono (by decide)) (by rfl) (jaa (jac 0) (jaa (ja5 (ja0 (K:=K)) jc9 (by rfl) z_len PySem.boot_len (jaa (jac 2) jae)) jae))))) (jah (s_if (ja6 (ja7 (K:=K) hr.units0) jdz (jac 3) (jag) (jan _)) (jas (ja8 (ja3 (jaa (ja3 (jaa (jat) (jaa (jaj jd6 (hr.mono (by decide)) (by rfl) (jaa (jac 0) (jaa (jac 1) jae))) (jaa (jaj jd6 (hr.mono (by decide)) (by rfl) (jaa (jac 0) (jaa (jac 1) jae))) (jaa (jac 4) jae))))) (jaa (DF.d (jb0 jae)) jae))))) jbx) (jah (s_if (ja6 (ja7 (K:=K) hr.units0) jdz (jac 3) (jag) (jan _)) (jas (ja8 (ja3 (jaa (ja3 (jaa (jat) (jaa (jac 4) jae))) (jaa (DF.d (jb0 jae)) jae))))) jbx) (jah (jty (jaj jbe (hr.mono (by decide)) (by rfl) (jaa (jac 0) (jaa (jac 1) jae))) (jh2 (K:=K) (jb4 (ja2 (i:=5) sc__law_act.nd rfl (Or.inl rfl)) (jb4 (ja2 (i:=6) sc__law_act.nd rfl (Or.inl rfl)) jhz)))) (jah (s_if (ja6 jjz jjr (jac 3) (jag) (jan _)) (jas (ja8 (ja3 (jaa (ja3 (jaa (jat) (jaa (jac 5) (jaa (jac 4) jae)))) (jaa (jac 6) jae))))) jbx) (jas (ja8 (ja3 (jaa (ja3 (jaa (je8 (K:=K) (DF.d (jb0 (jaa (jat) (jaa (jat) (jaa (jat) (jaa (jat) jae)))))) (jpm (jac 3) (jag))) (jaa (jac 5) jae))) (jaa (jac 6) jae)))))))))))),jle⟩
theorem sc__law_program:FnScope ["_law_tape_here","_law_wants","_law_k","_law_blocks","_law_want","_law_known_here","_law_acts","_law_name","_law_open_ones","_law_act_here","_law_bound"] ["_law_tape_here"] (jao jci):=⟨rfl,rfl,rfl,by decide +kernel,rfl,by decide +kernel,by decide +kernel⟩
theorem jg9 {fa:Addr} {fd:FuncData} (F:Fun K "_law_program" "_law_program" jci fa fd) (m:mg "_law_program"=some (.ref fa)) (b:Binds K fd ["_law_tape_here"] []) (jgg:Has P w K mg base 4 "_law_act" ["_law_tape_here","_law_known_here","_law_open_ones"] jip) (jad:Has P w K mg base 1 "_law_draw" ["_law_tape_here","_law_many"] jau) (z_len:mg "len"=none) (z_list:mg "list"=none) (z_range:mg "range"=none) (z_tuple:mg "tuple"=none):Has P w K mg base 5 "_law_program" ["_law_tape_here"] jm7:=by
 refine Has.mk' F m b (Fun.okD F sc__law_program jg4 ?_)
 intro cdv A outer s H E hr
 exact⟨_,jdq,(jah (jf6 (i:=1) sc__law_program.nd rfl (Or.inr rfl) (jb0 (jaa (ja3 jae) jae))) (jah (jft (jcl (by rfl) z_range (je8 (K:=K) (DF.d (jb0 (jaa (jag) (jaa (jag) (jaa (jag) (jaa (jag) (jaa (jag) (jaa (jag) (jaa (jag) jae))))))))) (jaj jad (hr.mono (by decide)) (by rfl) (jaa (jac 0) (jaa (jag) jae))))) (ja2 (i:=2) sc__law_program.nd rfl (Or.inl rfl)) (jas (je6 (i:=1) rfl (je8 (K:=K) (DF.d (jb0 (jaa (ja3 jae) (jaa (ja3 (jaa (jat) jae)) (jaa (ja3 (jaa (jat) (jaa (jat) jae))) (jaa (ja3 (jaa (jat) jae)) (jaa (ja3 jae) jae))))))) (jaj jad (hr.mono (by decide)) (by rfl) (jaa (jac 0) (jaa (jag) jae))))))) (jah (jf6 (i:=3) sc__law_program.nd rfl (Or.inl rfl) (jb0 jae)) (jgz 1 (jah (jft (jhy (K:=K) (jac 1)) (ja2 (i:=4) sc__law_program.nd rfl (Or.inl rfl)) (jah (jf6 (i:=5) sc__law_program.nd rfl (Or.inr rfl) (jok (K:=K) (by rfl) z_list (jac 4))) (jah (jf6 (i:=6) sc__law_program.nd rfl (Or.inl rfl) (jb0 jae)) (jah (jft (jcl (by rfl) z_range (je8 (K:=K) (DF.d (jb0 (jaa (jag) (jaa (jag) (jaa (jag) (jaa (jag) (jaa (jag) (jaa (jag) (jaa (jag) (jaa (jag) jae)))))))))) (jaj jad (hr.mono (by decide)) (by rfl) (jaa (jac 0) (jaa (jag) jae))))) (ja2 (i:=2) sc__law_program.nd rfl (Or.inl rfl)) (jah (jgt (i:=8) (N:=["_law_b","_law_known_here","_law_wants"]) (cl:=[("_law_wants",s.heap.objs.size+1),("_law_known_here",s.heap.objs.size+2)]) (fr:=[none,some 5,some 1]) sc__law_program.nd rfl rfl rfl ⟨by rfl,rfl,by decide +kernel,by decide +kernel,(jcf (by intro y hy;simp only[List.mem_cons,List.not_mem_nil,or_false]at hy;rcases hy with rfl | rfl<;>rfl)),jbm [(".0",.local),("_law_b",.local),("_law_known_here",.cell),("_law_wants",.cell)] ["_law_wants","_law_known_here"] rfl rfl (by decide +kernel),rfl,(fun j i h=>match j,h with | 0,h=>(by cases h) | 1,h=>(by cases(Option.some.inj (Option.some.inj h)).symm;exact⟨"_law_known_here",rfl,rfl,Or.inr (Or.inl rfl),Or.inl rfl,Or.inl rfl,rfl⟩) | 2,h=>(by cases(Option.some.inj (Option.some.inj h)).symm;exact⟨"_law_wants",rfl,rfl,Or.inr (Or.inl rfl),Or.inl rfl,Or.inl rfl,rfl⟩) | (j+3),h=>(by have h2:(none:Option (Option Nat))=some (some i):=h;cases h2))⟩ (jcl (by rfl) z_range (ja5 (ja0 (K:=K)) jc9 (by rfl) z_len PySem.boot_len (jaa (jac 1) jae))) (fun _ _ _=>(ja2 (i:=0) (show(["_law_b","_law_known_here","_law_wants"]:List Str).Nodup by decide +kernel) rfl (Or.inl rfl))) (fun _ _ _=>(jj5 (ja6 (ja7 (K:=K) hr.units0) jdz (DF.d (jfd (N:=["_law_name","_law_known_here"]) (cl:=[("_law_known_here",s.heap.objs.size+2)]) (fr:=[none,some 1]) rfl ⟨by rfl,rfl,by decide +kernel,by decide +kernel,(jcf (by intro y hy;simp only[List.mem_cons,List.not_mem_nil,or_false]at hy;rcases hy with rfl<;>rfl)),jbm [(".0",.local),("_law_name",.local),("_law_known_here",.cell)] ["_law_known_here"] rfl rfl (by decide +kernel),rfl,(fun j i h=>match j,h with | 0,h=>(by cases h) | 1,h=>(by cases(Option.some.inj (Option.some.inj h)).symm;exact⟨"_law_known_here",rfl,rfl,Or.inr (Or.inl rfl),Or.inl rfl,Or.inl rfl,rfl⟩) | (j+2),h=>(by have h2:(none:Option (Option Nat))=some (some i):=h;cases h2))⟩ (jdi (K:=K) (je8 (K:=K) (jac 2) (jac 0))) (fun _ _ _=>(ja2 (i:=0) (show(["_law_name","_law_known_here"]:List Str).Nodup by decide +kernel) rfl (Or.inl rfl))) (fun _ _ _=>(jj5 (ja6 (jhq (K:=K)) jqt (jac 0) (jac 1) (by with_unfolding_all rfl)))) (fun _ _ _=>(jac 0)) (jby 0))) (DF.d (jb0 jae)) (jan _)))) (fun _ _ _=>(jac 0)) (jby 0)) (jah (jty (jaj jgg (hr.mono (by decide)) (by rfl) (jaa (jac 0) (jaa (jms 5) (jaa (jac 8) jae)))) (jh2 (K:=K) (jb4 (ja2 (i:=9) sc__law_program.nd rfl (Or.inl rfl)) (jb4 (ja2 (i:=10) sc__law_program.nd rfl (Or.inl rfl)) jhz)))) (jah (je6 (i:=6) rfl (jac 9)) (jas (jft (jhy (K:=K) (jac 10)) (ja2 (i:=7) sc__law_program.nd rfl (Or.inl rfl)) (jas (s_if (ja6 (jhq (K:=K)) jqt (jac 7) (jms 5) (by with_unfolding_all rfl)) (jas (je6 (i:=5) rfl (jac 7))) jbx)))))))) (jgz 6 (jas (je6 (i:=3) rfl (ja3 (jaa (jac 4) (jaa (jbj (jaz (K:=K)) jce (by rfl) z_tuple jbn (jaa (jac 6) jae)) jae)))))))))) (jgz 3 (jas (ja8 (jbj (jaz (K:=K)) jce (by rfl) z_tuple jbn (jaa (jac 3) jae)))))))))),jgl⟩
theorem sc__law_notes:FnScope ["_law_tape_here","_law_most","_law_found","_law_k","_law_row"] ["_law_tape_here","_law_most"] (jao jdf):=⟨rfl,rfl,rfl,by decide +kernel,rfl,by decide +kernel,by decide +kernel⟩
theorem jje {fa:Addr} {fd:FuncData} (F:Fun K "_law_notes" "_law_notes" jdf fa fd) (m:mg "_law_notes"=some (.ref fa)) (b:Binds K fd ["_law_tape_here","_law_most"] []) (jad:Has P w K mg base 1 "_law_draw" ["_law_tape_here","_law_many"] jau) (jbv:Has P w K mg base 2 "_law_size" ["_law_tape_here"] jfh) (jax:Has P w K mg base 2 "_law_value" ["_law_tape_here"] jc6) (z_len:mg "len"=none) (z_range:mg "range"=none) (z_tuple:mg "tuple"=none):Has P w K mg base 3 "_law_notes" ["_law_tape_here","_law_most"] jio:=by
 refine Has.mk' F m b (Fun.okD F sc__law_notes ji3 ?_)
 intro cdv A outer s H E hr
 exact⟨_,jex,(jah (jf6 (i:=2) sc__law_notes.nd rfl (Or.inl rfl) (jb0 jae)) (jah (jft (jcl (by rfl) z_range (jaj jad (hr.mono (by decide)) (by rfl) (jaa (jac 0) (jaa (jor (jac 1) (jag)) jae)))) (ja2 (i:=3) sc__law_notes.nd rfl (Or.inl rfl)) (jah (jb8 (i:=4) sc__law_notes.nd rfl (Or.inl rfl) (jbj (jaz (K:=K)) jce (by rfl) z_tuple jbn (jaa (DF.d (jfd (N:=["_law_j","_law_tape_here"]) (cl:=[("_law_tape_here",s.heap.objs.size+1)]) (fr:=[none,some 0]) rfl ⟨by rfl,rfl,by decide +kernel,by decide +kernel,(fun x c h=>h),jbm [(".0",.local),("_law_j",.local),("_law_value",.globalImplicit),("_law_tape_here",.cell)] ["_law_tape_here"] rfl rfl (by decide +kernel),rfl,(fun j i h=>match j,h with | 0,h=>(by cases h) | 1,h=>(by cases(Option.some.inj (Option.some.inj h)).symm;exact⟨"_law_tape_here",rfl,rfl,Or.inr (Or.inl rfl),Or.inl rfl,Or.inl rfl,rfl⟩) | (j+2),h=>(by have h2:(none:Option (Option Nat))=some (some i):=h;cases h2))⟩ (jcl (by rfl) z_range (jaj jbv (hr.mono (by decide)) (by rfl) (jaa (jac 0) jae))) (fun _ _ _=>(ja2 (i:=0) (show(["_law_j","_law_tape_here"]:List Str).Nodup by decide +kernel) rfl (Or.inl rfl))) (fun _ _ _=>jei) (fun _ _ _=>(jaj jax (hr.mono (by decide)) (by rfl) (jaa (jac 1) jae))) (jby 0))) jae))) (jas (je6 (i:=2) rfl (ja3 (jaa (jac 4) (jaa (je8 (K:=K) (ju3 (K:=K) (ix:=3) 0) (jaj jad (hr.mono (by decide)) (by rfl) (jaa (jac 0) (jaa (ja5 (ja0 (K:=K)) jc9 (by rfl) z_len PySem.boot_len (jaa (ju3 (K:=K) (ix:=3) 0) jae)) jae)))) jae))))))) (jgz 2 (jas (ja8 (jbj (jaz (K:=K)) jce (by rfl) z_tuple jbn (jaa (jac 2) jae))))))),jig⟩
theorem sc__law_programs:FnScope ["_law_tape_here","_law_programs_here"] ["_law_tape_here"] (jao jca):=⟨rfl,rfl,rfl,by decide +kernel,rfl,by decide +kernel,by decide +kernel⟩
theorem jge {fa:Addr} {fd:FuncData} (F:Fun K "_law_programs" "_law_programs" jca fa fd) (m:mg "_law_programs"=some (.ref fa)) (b:Binds K fd ["_law_tape_here"] []) (jad:Has P w K mg base 1 "_law_draw" ["_law_tape_here","_law_many"] jau) (jdo:Has P w K mg base 5 "_law_program" ["_law_tape_here"] jm7) (z_len:mg "len"=none) (z_range:mg "range"=none) (z_tuple:mg "tuple"=none):Has P w K mg base 6 "_law_programs" ["_law_tape_here"] jin:=by
 refine Has.mk' F m b (Fun.okD F sc__law_programs jga ?_)
 intro cdv A outer s H E hr
 exact⟨_,jc5,(jah (jyu (i:=1) (N:=["_law_k","_law_tape_here"]) (cl:=[("_law_tape_here",s.heap.objs.size+1)]) (fr:=[none,some 0]) sc__law_programs.nd rfl rfl rfl ⟨by rfl,rfl,by decide +kernel,by decide +kernel,(fun x c h=>h),jbm [(".0",.local),("_law_k",.local),("_law_program",.globalImplicit),("_law_tape_here",.cell)] ["_law_tape_here"] rfl rfl (by decide +kernel),rfl,(fun j i h=>match j,h with | 0,h=>(by cases h) | 1,h=>(by cases(Option.some.inj (Option.some.inj h)).symm;exact⟨"_law_tape_here",rfl,rfl,Or.inr (Or.inl rfl),Or.inl rfl,Or.inl rfl,rfl⟩) | (j+2),h=>(by have h2:(none:Option (Option Nat))=some (some i):=h;cases h2))⟩ (jcl (by rfl) z_range (je8 (K:=K) (DF.d (jb0 (jaa (jag) (jaa (jag) (jaa (jag) (jaa (jag) (jaa (jag) (jaa (jag) (jaa (jag) (jaa (jag) jae)))))))))) (jaj jad (hr.mono (by decide)) (by rfl) (jaa (jac 0) (jaa (jag) jae))))) (fun _ _ _=>(ja2 (i:=0) (show(["_law_k","_law_tape_here"]:List Str).Nodup by decide +kernel) rfl (Or.inl rfl))) (fun _ _ _=>jei) (fun _ _ _=>(jaj jdo (hr.mono (by decide)) (by rfl) (jaa (jac 1) jae))) (jby 0)) (jah (s_if (DCW.cc (cw_and (ja6 (ja7 (K:=K) hr.units0) jdz (ja5 (ja0 (K:=K)) jc9 (by rfl) z_len PySem.boot_len (jaa (jms 1) jae)) (jag) (jan _)) (cw_and1 (ja6 (ja7 (K:=K) hr.units0) jdz (jaj jad (hr.mono (by decide)) (by rfl) (jaa (jac 0) (jaa (jag) jae))) (jag) (jan _))))) (jas (j1d (i:=1) rfl (jag) (je8 (K:=K) (jms 1) (jag)))) jbx) (jgz 1 (jas (ja8 (jbj (jaz (K:=K)) jce (by rfl) z_tuple jbn (jaa (jac 1) jae))))))),jf3⟩
theorem sc__law_known:FnScope ["_law_program_here","_law_block","_law_place","_law_found","_law_act_here"] ["_law_program_here","_law_block","_law_place"] (jao jdg):=⟨rfl,rfl,rfl,by decide +kernel,rfl,by decide +kernel,by decide +kernel⟩
theorem jjf {fa:Addr} {fd:FuncData} (F:Fun K "_law_known" "_law_known" jdg fa fd) (m:mg "_law_known"=some (.ref fa)) (b:Binds K fd ["_law_program_here","_law_block","_law_place"] []) (z_list:mg "list"=none) (z_set:mg "set"=none) (z_sorted:mg "sorted"=none):Has P w K mg base 1 "_law_known" ["_law_program_here","_law_block","_law_place"] jf4:=by
 refine Has.mk' F m b (Fun.okD F sc__law_known ji4 ?_)
 intro cdv A outer s H E hr
 exact⟨_,jey,(jah (jf6 (i:=3) sc__law_known.nd rfl (Or.inl rfl) (jok (K:=K) (by rfl) z_list (jap (K:=K) (jap (K:=K) (jac 0) (jac 1)) (jag)))) (jah (jft (jdi (K:=K) (jns (K:=K) (jap (K:=K) (jap (K:=K) (jac 0) (jac 1)) (jag)) jry (jrx (jac 2)))) (ja2 (i:=4) sc__law_known.nd rfl (Or.inl rfl)) (jas (s_if (ja6 (jfa (K:=K)) jdt (jap (K:=K) (jac 4) (jag)) (ja3 (jaa (jat) (jaa (jat) (jaa (jat) jae)))) (by with_unfolding_all rfl)) (jas (j1e (i:=3) rfl (DF.d (jfd (N:=["_law_field"]) (cl:=[]) (fr:=[none]) rfl ⟨by rfl,rfl,by decide +kernel,by decide +kernel,(fun x c h=>nomatch h),jbm [(".0",.local),("_law_field",.local)] [] rfl rfl (by decide +kernel),rfl,(fun j i h=>match j,h with | 0,h=>(by cases h) | (j+1),h=>(by have h2:(none:Option (Option Nat))=some (some i):=h;cases h2))⟩ (jdi (K:=K) (jap (K:=K) (jac 4) (jag))) (fun _ _ _=>(ja2 (i:=0) (show(["_law_field"]:List Str).Nodup by decide +kernel) rfl (Or.inl rfl))) (fun _ _ _=>(jj5 (ja6 (ja7 (K:=K) hr.units0) ja1 (jap (K:=K) (jac 0) (jag)) (jat) (jan _)))) (fun _ _ _=>(jap (K:=K) (jac 0) (jag))) (jby 0))))) jbx))) (jgz 3 (jas (ja8 (DF.d (jsr (W:=w) hr.hd (by rfl) z_sorted (by rfl) z_set (jac 3)))))))),jih⟩
theorem sc__law_stand:FnScope ["_law_tape_here","_law_programs_here","_law_most","_law_hands","_law_program_here","_law_block","_law_place","_law_names"] ["_law_tape_here","_law_programs_here","_law_most"] (jao jde):=⟨rfl,rfl,rfl,by decide +kernel,rfl,by decide +kernel,by decide +kernel⟩
theorem jja {fa:Addr} {fd:FuncData} (F:Fun K "_law_stand" "_law_stand" jde fa fd) (m:mg "_law_stand"=some (.ref fa)) (b:Binds K fd ["_law_tape_here","_law_programs_here","_law_most"] []) (jad:Has P w K mg base 1 "_law_draw" ["_law_tape_here","_law_many"] jau) (jep:Has P w K mg base 1 "_law_known" ["_law_program_here","_law_block","_law_place"] jf4) (jeo:Has P w K mg base 3 "_law_notes" ["_law_tape_here","_law_most"] jio) (jax:Has P w K mg base 2 "_law_value" ["_law_tape_here"] jc6) (z_len:mg "len"=none) (z_tuple:mg "tuple"=none):Has P w K mg base 4 "_law_stand" ["_law_tape_here","_law_programs_here","_law_most"] jim:=by
 refine Has.mk' F m b (Fun.okD F sc__law_stand jiz ?_)
 intro cdv A outer s H E hr
 exact⟨_,jev,(jah (jf6 (i:=3) sc__law_stand.nd rfl (Or.inl rfl) (jb0 jae)) (jah (jft (jdi (K:=K) (jac 1)) (ja2 (i:=4) sc__law_stand.nd rfl (Or.inl rfl)) (jah (jb8 (i:=5) sc__law_stand.nd rfl (Or.inl rfl) (jaj jad (hr.mono (by decide)) (by rfl) (jaa (jac 0) (jaa (ja5 (ja0 (K:=K)) jbq (by rfl) z_len PySem.boot_len (jaa (jac 4) jae)) jae)))) (jah (jb8 (i:=6) sc__law_stand.nd rfl (Or.inl rfl) (jaj jad (hr.mono (by decide)) (by rfl) (jaa (jac 0) (jaa (jor (ja5 (ja0 (K:=K)) jbq (by rfl) z_len PySem.boot_len (jaa (jap (K:=K) (jap (K:=K) (jac 4) (jac 5)) (jag)) jae)) (jag)) jae)))) (jah (jb8 (i:=7) sc__law_stand.nd rfl (Or.inl rfl) (jbj (jaz (K:=K)) jbr (by rfl) z_tuple jbn (jaa (DF.d (jfd (N:=["_law_name","_law_tape_here"]) (cl:=[("_law_tape_here",s.heap.objs.size+1)]) (fr:=[none,some 0]) rfl ⟨by rfl,rfl,by decide +kernel,by decide +kernel,(fun x c h=>h),jbm [(".0",.local),("_law_name",.local),("_law_value",.globalImplicit),("_law_tape_here",.cell)] ["_law_tape_here"] rfl rfl (by decide +kernel),rfl,(fun j i h=>match j,h with | 0,h=>(by cases h) | 1,h=>(by cases(Option.some.inj (Option.some.inj h)).symm;exact⟨"_law_tape_here",rfl,rfl,Or.inr (Or.inl rfl),Or.inl rfl,Or.inl rfl,rfl⟩) | (j+2),h=>(by have h2:(none:Option (Option Nat))=some (some i):=h;cases h2))⟩ (jhy (K:=K) (jaj jep (hr.mono (by decide)) (by rfl) (jaa (jac 4) (jaa (jac 5) (jaa (jac 6) jae))))) (fun _ _ _=>(ja2 (i:=0) (show(["_law_name","_law_tape_here"]:List Str).Nodup by decide +kernel) rfl (Or.inl rfl))) (fun _ _ _=>jei) (fun _ _ _=>(ja3 (jaa (jac 0) (jaa (jaj jax (hr.mono (by decide)) (by rfl) (jaa (jac 1) jae)) jae)))) (jby 0))) jae))) (jas (je6 (i:=3) rfl (ja3 (jaa (jac 5) (jaa (jac 6) (jaa (jac 7) jae)))))))))) (jgz 3 (jas (ja8 (ja3 (jaa (jbj (jaz (K:=K)) jbr (by rfl) z_tuple jbn (jaa (jac 3) jae)) (jaa (jaj jeo (hr.mono (by decide)) (by rfl) (jaa (jac 0) (jaa (jac 2) jae))) jae)))))))),jic⟩
theorem sc__law_fits:FnScope ["_law_pattern_here","_law_row","_law_names","_law_found","_law_bound","_law_field","_law_value_here","_law_good"] ["_law_pattern_here","_law_row","_law_names"] (jao jd4):=⟨rfl,rfl,rfl,by decide +kernel,rfl,by decide +kernel,by decide +kernel⟩
theorem jk2 {fa:Addr} {fd:FuncData} (F:Fun K "_law_fits" "_law_fits" jd4 fa fd) (m:mg "_law_fits"=some (.ref fa)) (b:Binds K fd ["_law_pattern_here","_law_row","_law_names"] []) (z_dict:mg "dict"=none) (z_isinstance:mg "isinstance"=none) (z_len:mg "len"=none) (z_sorted:mg "sorted"=none) (z_str:mg "str"=none) (z_tuple:mg "tuple"=none) (z_zip:mg "zip"=none):Has P w K mg base 1 "_law_fits" ["_law_pattern_here","_law_row","_law_names"] jgr:=by
 refine Has.mk' F m b (Fun.okD F sc__law_fits jkv ?_)
 intro cdv A outer s H E hr
 exact⟨_,jea,(jah (s_if (ja6 jxd jqr (ja5 (ja0 (K:=K)) jbq (by rfl) z_len PySem.boot_len (jaa (jac 0) jae)) (ja5 (ja0 (K:=K)) jbq (by rfl) z_len PySem.boot_len (jaa (jac 1) jae)) (jan _)) (jas (ja8 (jhf))) jbx) (jah (jq3 (i:=3) sc__law_fits.nd rfl (Or.inr rfl) (jsb hr.hd hr.units (by rfl) z_dict (jac 2))) (jah (jf6 (i:=4) sc__law_fits.nd rfl (Or.inl rfl) (jb0 jae)) (jah (jft (j0g (K:=K) (by rfl) z_zip (jac 0) (jac 1)) (jh2 (K:=K) (jb4 (ja2 (i:=5) sc__law_fits.nd rfl (Or.inl rfl)) (jb4 (ja2 (i:=6) sc__law_fits.nd rfl (Or.inl rfl)) jhz))) (jah (jb8 (i:=7) sc__law_fits.nd rfl (Or.inl rfl) (d_bl)) (jah (s_if (ja6 (ja7 (K:=K) hr.units0) ja1 (jap (K:=K) (jac 5) (jag)) (jat) (jan _)) (jas (jb8 (i:=7) sc__law_fits.nd rfl (Or.inl rfl) (jd8 (ja7 (K:=K) hr.units0) ja1 (jap (K:=K) (jac 5) (jag)) (jac 6) (jan _)))) (jas (s_if (ja6 (jfa (K:=K)) jdt (jap (K:=K) (jac 5) (jag)) (ja3 (jaa (jat) (jaa (jat) jae))) (by with_unfolding_all rfl)) (jas (jb8 (i:=7) sc__law_fits.nd rfl (Or.inl rfl) (jd8 (ja7 (K:=K) hr.units0) ja1 (jmt (K:=K) (T:="str") (.inr (.inr (.inl rfl))) (by rfl) z_isinstance (by rfl) z_str jov (jac 6)) (jd8 (ja7 (K:=K) hr.units0) ja1 (jap (K:=K) (jac 5) (jag)) (jat) (jan _)) (jan _)))) (jas (s_if (DCW.cc (cw_or (ja6 (ja7 (K:=K) hr.units0) ja1 (jap (K:=K) (jac 5) (jag)) (jat) (jan _)) (cw_or1 (DCW.cc (cw_and (ja6 (ja7 (K:=K) hr.units0) ja1 (jap (K:=K) (jac 5) (jag)) (jat) (jan _)) (cw_and1 (jx3 (K:=K) 4 (jap (K:=K) (jac 5) (jag))))))))) (jas (jb8 (i:=7) sc__law_fits.nd rfl (Or.inl rfl) (jxy (j0t hr.units (jap (K:=K) (jac 5) (jag)) (jeq 3)) (jpn (jd8 (ja7 (K:=K) hr.units0) ja1 (joq hr.units (jeq 3) (jap (K:=K) (jac 5) (jag))) (jac 6) (jan _)))))) (jas (s_if (ja6 (ja7 (K:=K) hr.units0) ja1 (jap (K:=K) (jac 5) (jag)) (jat) (jan _)) (jah (je6 (i:=4) rfl (jap (K:=K) (jac 5) (jag))) (jas (jq2 (i:=3) hr.units rfl (jap (K:=K) (jac 5) (jag)) (jac 6)))) jbx))))))) (jas (s_if (j0w (jx2 (jac 7))) (jas (ja8 (jhf))) jbx))))) (jas (ja8 (jbj (jaz (K:=K)) jbr (by rfl) z_tuple jbn (jaa (DF.d (jfd (N:=["_law_name","_law_found"]) (cl:=[("_law_found",s.heap.objs.size+1)]) (fr:=[none,some 3]) rfl ⟨by rfl,rfl,by decide +kernel,by decide +kernel,(fun x c h=>h),jbm [(".0",.local),("_law_name",.local),("_law_found",.cell)] ["_law_found"] rfl rfl (by decide +kernel),rfl,(fun j i h=>match j,h with | 0,h=>(by cases h) | 1,h=>(by cases(Option.some.inj (Option.some.inj h)).symm;exact⟨"_law_found",rfl,rfl,Or.inr (Or.inl rfl),Or.inl rfl,Or.inl rfl,rfl⟩) | (j+2),h=>(by have h2:(none:Option (Option Nat))=some (some i):=h;cases h2))⟩ (jhy (K:=K) (DF.d (jpj hr.hd (by rfl) z_sorted (jeq 3)))) (fun _ _ _=>(ja2 (i:=0) (show(["_law_name","_law_found"]:List Str).Nodup by decide +kernel) rfl (Or.inl rfl))) (fun _ _ _=>jei) (fun _ _ _=>(ja3 (jaa (jac 0) (jaa (joq hr.units (jeq 1) (jac 0)) jae)))) (jby 0))) jae)))))))),jjl⟩
theorem sc__law_sight:FnScope ["_law_tape_here","_law_programs_here","_law_deep","_law_way","_law_some","_law_hand","_law_block","_law_fields"] ["_law_tape_here","_law_programs_here","_law_deep"] (jao jcq):=⟨rfl,rfl,rfl,by decide +kernel,rfl,by decide +kernel,by decide +kernel⟩
theorem jhl {k d:Nat} (hk:4≤k) {fa:Addr} {fd:FuncData} (F:Fun K "_law_sight" "_law_sight" jcq fa fd) (m:mg "_law_sight"=some (.ref fa)) (b:Binds K fd ["_law_tape_here","_law_programs_here","_law_deep"] []) (jad:Has P w K mg base 1 "_law_draw" ["_law_tape_here","_law_many"] jau) (jbe:Has P w K mg base 3 "_law_pattern" ["_law_tape_here","_law_known_here"] jgw) (z_len:mg "len"=none) (z_range:mg "range"=none) (z_tuple:mg "tuple"=none) (h_self:Has P w K mg base k "_law_sight" ["_law_tape_here","_law_programs_here","_law_deep"] (jb3 d)):Has P w K mg base (k+1) "_law_sight" ["_law_tape_here","_law_programs_here","_law_deep"] (jb3 (d+1)):=by
 refine Has.mk' F m b (Fun.okD F sc__law_sight (ji0 (d+1)) ?_)
 intro cdv A outer s H E hr
 exact⟨_,jew (jb3 d),(jah (jb8 (i:=3) sc__law_sight.nd rfl (Or.inl rfl) (jaj jad (hr.mono (by omega)) (by rfl) (jaa (jac 0) (jaa (jag) jae)))) (jah (s_if (DCW.cc (cw_and (ja6 jjz jjr (jac 2) (jag) (jan _)) (cw_and1 (ja6 (ja7 (K:=K) hr.units0) ja1 (jac 3) (jag) (jan _))))) (jas (ja8 (ja3 (jaa (jat) (jaa (jaj h_self (hr.mono (by omega)) (by rfl) (jaa (jac 0) (jaa (jac 1) (jaa (jpm (jac 2) (jag)) jae)))) jae))))) jbx) (jah (s_if (DCW.cc (cw_and (ja6 jjz jjr (jac 2) (jag) (jan _)) (cw_and1 (ja6 jhr jho (jac 3) (jag) (jan _))))) (jah (jgt (i:=4) (N:=["_law_k","_law_deep","_law_programs_here","_law_tape_here"]) (cl:=[("_law_tape_here",s.heap.objs.size+1),("_law_programs_here",s.heap.objs.size+2),("_law_deep",s.heap.objs.size+3)]) (fr:=[none,some 2,some 1,some 0]) sc__law_sight.nd rfl rfl rfl ⟨by rfl,rfl,by decide +kernel,by decide +kernel,(jcf (by intro y hy;simp only[List.mem_cons,List.not_mem_nil,or_false]at hy;rcases hy with rfl | rfl | rfl<;>rfl)),jbm [(".0",.local),("_law_k",.local),("_law_sight",.globalImplicit),("_law_deep",.cell),("_law_programs_here",.cell),("_law_tape_here",.cell)] ["_law_tape_here","_law_programs_here","_law_deep"] rfl rfl (by decide +kernel),rfl,(fun j i h=>match j,h with | 0,h=>(by cases h) | 1,h=>(by cases(Option.some.inj (Option.some.inj h)).symm;exact⟨"_law_deep",rfl,rfl,Or.inr (Or.inl rfl),Or.inl rfl,Or.inl rfl,rfl⟩) | 2,h=>(by cases(Option.some.inj (Option.some.inj h)).symm;exact⟨"_law_programs_here",rfl,rfl,Or.inr (Or.inl rfl),Or.inl rfl,Or.inl rfl,rfl⟩) | 3,h=>(by cases(Option.some.inj (Option.some.inj h)).symm;exact⟨"_law_tape_here",rfl,rfl,Or.inr (Or.inl rfl),Or.inl rfl,Or.inl rfl,rfl⟩) | (j+4),h=>(by have h2:(none:Option (Option Nat))=some (some i):=h;cases h2))⟩ (jcl (by rfl) z_range (jap (K:=K) (DF.d (jb0 (jaa (jag) (jaa (jag) (jaa (jag) (jaa (jag) jae)))))) (jaj jad (hr.mono (by omega)) (by rfl) (jaa (jac 0) (jaa (jag) jae))))) (fun _ _ _=>(ja2 (i:=0) (show(["_law_k","_law_deep","_law_programs_here","_law_tape_here"]:List Str).Nodup by decide +kernel) rfl (Or.inl rfl))) (fun _ _ _=>jei) (fun _ _ _=>(jaj h_self (hr.mono (by omega)) (by rfl) (jaa (jac 3) (jaa (jac 2) (jaa (jpm (jac 1) (jag)) jae))))) (jby 0)) (jas (ja8 (ja3 (jaa (jap (K:=K) (DF.d (jb0 (jaa (jat) (jaa (jat) jae)))) (jpm (jac 3) (jag))) (jaa (jbj (jaz (K:=K)) jbr (by rfl) z_tuple jbn (jaa (jac 4) jae)) jae)))))) jbx) (jah (s_if (DCW.cc (cw_and (ja6 jjz jjr (ja5 (ja0 (K:=K)) jbq (by rfl) z_len PySem.boot_len (jaa (jac 1) jae)) (jag) (jan _)) (cw_and1 (ja6 jjz jjr (jac 3) (jag) (jan _))))) (jah (jb8 (i:=5) sc__law_sight.nd rfl (Or.inl rfl) (jaj jad (hr.mono (by omega)) (by rfl) (jaa (jac 0) (jaa (ja5 (ja0 (K:=K)) jbq (by rfl) z_len PySem.boot_len (jaa (jac 1) jae)) jae)))) (jah (s_if (ja6 (ja7 (K:=K) hr.units0) ja1 (jac 3) (jag) (jan _)) (jas (ja8 (ja3 (jaa (jat) (jaa (jac 5) jae))))) jbx) (jah (jb8 (i:=6) sc__law_sight.nd rfl (Or.inl rfl) (jaj jad (hr.mono (by omega)) (by rfl) (jaa (jac 0) (jaa (ja5 (ja0 (K:=K)) jbq (by rfl) z_len PySem.boot_len (jaa (jap (K:=K) (jac 1) (jac 5)) jae)) jae)))) (jas (ja8 (ja3 (jaa (jat) (jaa (jac 5) (jaa (jac 6) (jaa (jaj jad (hr.mono (by omega)) (by rfl) (jaa (jac 0) (jaa (jor (ja5 (ja0 (K:=K)) jbq (by rfl) z_len PySem.boot_len (jaa (jap (K:=K) (jap (K:=K) (jap (K:=K) (jac 1) (jac 5)) (jac 6)) (jag)) jae)) (jag)) jae))) jae)))))))))) jbx) (jah (jgt (i:=7) (N:=["_law_one"]) (cl:=[]) (fr:=[none]) sc__law_sight.nd rfl rfl rfl ⟨by rfl,rfl,by decide +kernel,by decide +kernel,(fun x c h=>nomatch h),jbm [(".0",.local),("_law_one",.local)] [] rfl rfl (by decide +kernel),rfl,(fun j i h=>match j,h with | 0,h=>(by cases h) | (j+1),h=>(by have h2:(none:Option (Option Nat))=some (some i):=h;cases h2))⟩ (jdi (K:=K) (jap (K:=K) (jaj jbe (hr.mono (by omega)) (by rfl) (jaa (jac 0) (jaa (DF.d (jb0 jae)) jae))) (jag))) (fun _ _ _=>(ja2 (i:=0) (show(["_law_one"]:List Str).Nodup by decide +kernel) rfl (Or.inl rfl))) (fun _ _ _=>jei) (fun _ _ _=>(jfo (ja6 (ja7 (K:=K) hr.units0) ja1 (jap (K:=K) (jac 0) (jag)) (jat) (jan _)) (ja3 (jaa (jat) (jaa (jap (K:=K) (jac 0) (jag)) jae))) (jac 0))) (jby 0)) (jas (ja8 (ja3 (jaa (jat) (jaa (jbj (jaz (K:=K)) jbr (by rfl) z_tuple jbn (jaa (jac 7) jae)) (jaa (jap (K:=K) (DF.d (jb0 (jaa (jag) (jaa (jag) (jaa (jag) (jaa (jag) (jaa (jag) jae))))))) (jaj jad (hr.mono (by omega)) (by rfl) (jaa (jac 0) (jaa (jag) jae)))) jae))))))))))),jid d⟩
theorem jjb {fa:Addr} {fd:FuncData} (F:Fun K "_law_sight" "_law_sight" jcq fa fd) (m:mg "_law_sight"=some (.ref fa)) (b:Binds K fd ["_law_tape_here","_law_programs_here","_law_deep"] []) (jad:Has P w K mg base 1 "_law_draw" ["_law_tape_here","_law_many"] jau) (jbe:Has P w K mg base 3 "_law_pattern" ["_law_tape_here","_law_known_here"] jgw) (z_len:mg "len"=none) (z_range:mg "range"=none) (z_tuple:mg "tuple"=none):Has P w K mg base 7 "_law_sight" ["_law_tape_here","_law_programs_here","_law_deep"] (jb3 3):=by
 have all:∀d,Has P w K mg base (4+d) "_law_sight" ["_law_tape_here","_law_programs_here","_law_deep"] (jb3 d):=by
  intro d
  induction d with
  |zero=>exact Has.mk' F m b ⟨fun vs H Q E h=>(by obtain⟨_,_,_,_,_,_,_,_,_,_,_,z,_⟩:=h;exact z.elim),fun A outer s H args us vs Q E hr he hb hv h=>(by obtain⟨_,_,_,_,_,_,_,_,_,_,_,z,_⟩:=h;exact z.elim)⟩
  |succ d ih=>exact jhl (Nat.le_add_right _ _) F m b jad jbe z_len z_range z_tuple ih
 exact all 3
theorem jnc:FnScope ["_law_row"] ["_law_row"] (jao je0):=⟨rfl,rfl,rfl,by decide +kernel,rfl,by decide +kernel,by decide +kernel⟩
theorem jmn {fa:Addr} {fd:FuncData} (F:Fun K "_law_key" "_law_key" je0 fa fd) (m:mg "_law_key"=some (.ref fa)) (b:Binds K fd ["_law_row"] []) (z_int:mg "int"=none) (z_isinstance:mg "isinstance"=none) (z_str:mg "str"=none) (z_tuple:mg "tuple"=none):Has P w K mg base 1 "_law_key" ["_law_row"] jpx:=by
 refine Has.mk' F m b (Fun.okD F jnc jmc ?_)
 intro cdv A outer s H E hr
 exact⟨_,jgo,(jas (ja8 (jbj (jaz (K:=K)) jbr (by rfl) z_tuple jbn (jaa (DF.d (jfd (N:=["_law_value_here"]) (cl:=[]) (fr:=[none]) rfl ⟨by rfl,rfl,by decide +kernel,by decide +kernel,(fun x c h=>nomatch h),jbm [(".0",.local),("_law_value_here",.local),("int",.globalImplicit),("isinstance",.globalImplicit),("str",.globalImplicit)] [] rfl rfl (by decide +kernel),rfl,(fun j i h=>match j,h with | 0,h=>(by cases h) | (j+1),h=>(by have h2:(none:Option (Option Nat))=some (some i):=h;cases h2))⟩ (jdi (K:=K) (jac 0)) (fun _ _ _=>(ja2 (i:=0) (show(["_law_value_here"]:List Str).Nodup by decide +kernel) rfl (Or.inl rfl))) (fun _ _ _=>jei) (fun _ _ _=>(ja3 (jaa (jbj jpt jwr (by rfl) z_int jv4 (jaa (jmt (K:=K) (T:="str") (.inr (.inr (.inl rfl))) (by rfl) z_isinstance (by rfl) z_str jov (jac 0)) jae)) (jaa (jac 0) jae)))) (jby 0))) jae)))),jld⟩
theorem jkl:FnScope ["_law_sight_here"] ["_law_sight_here"] (jao jcs):=⟨rfl,rfl,rfl,by decide +kernel,rfl,by decide +kernel,by decide +kernel⟩
theorem jhn {k d:Nat} (hk:1≤k) {fa:Addr} {fd:FuncData} (F:Fun K "_law_plain" "_law_plain" jcs fa fd) (m:mg "_law_plain"=some (.ref fa)) (b:Binds K fd ["_law_sight_here"] []) (z_tuple:mg "tuple"=none) (h_self:Has P w K mg base k "_law_plain" ["_law_sight_here"] (jbo d)):Has P w K mg base (k+1) "_law_plain" ["_law_sight_here"] (jbo (d+1)):=by
 refine Has.mk' F m b (Fun.okD F jkl (ji2 (d+1)) ?_)
 intro cdv A outer s H E hr
 exact⟨_,jb7 (jbo d),(jah (s_if (ja6 (ja7 (K:=K) hr.units0) ja1 (jap (K:=K) (jac 0) (jag)) (jat) (jan _)) (jas (ja8 (ja3 (jaa (jat) (jaa (ja3 (jaa (jaj h_self (hr.mono (by omega)) (by rfl) (jaa (jap (K:=K) (jac 0) (jag)) jae)) jae)) jae))))) jbx) (jah (s_if (ja6 (jfa (K:=K)) jdt (jap (K:=K) (jac 0) (jag)) (ja3 (jaa (jat) (jaa (jat) jae))) (by with_unfolding_all rfl)) (jas (ja8 (ja3 (jaa (jap (K:=K) (jac 0) (jag)) (jaa (jbj (jaz (K:=K)) jbr (by rfl) z_tuple jbn (jaa (DF.d (jfd (N:=["_law_one"]) (cl:=[]) (fr:=[none]) rfl ⟨by rfl,rfl,by decide +kernel,by decide +kernel,(fun x c h=>nomatch h),jbm [(".0",.local),("_law_one",.local),("_law_plain",.globalImplicit)] [] rfl rfl (by decide +kernel),rfl,(fun j i h=>match j,h with | 0,h=>(by cases h) | (j+1),h=>(by have h2:(none:Option (Option Nat))=some (some i):=h;cases h2))⟩ (jdi (K:=K) (jap (K:=K) (jac 0) (jag))) (fun _ _ _=>(ja2 (i:=0) (show(["_law_one"]:List Str).Nodup by decide +kernel) rfl (Or.inl rfl))) (fun _ _ _=>jei) (fun _ _ _=>(jaj h_self (hr.mono (by omega)) (by rfl) (jaa (jac 0) jae))) (jby 0))) jae)) jae))))) jbx) (jas (ja8 (jac 0))))),jif d⟩
theorem jjd {fa:Addr} {fd:FuncData} (F:Fun K "_law_plain" "_law_plain" jcs fa fd) (m:mg "_law_plain"=some (.ref fa)) (b:Binds K fd ["_law_sight_here"] []) (z_tuple:mg "tuple"=none):Has P w K mg base 4 "_law_plain" ["_law_sight_here"] (jbo 3):=by
 have all:∀d,Has P w K mg base (1+d) "_law_plain" ["_law_sight_here"] (jbo d):=by
  intro d
  induction d with
  |zero=>exact Has.mk' F m b ⟨fun vs H Q E h=>(by obtain⟨_,_,_,_,_,_,_,_,_,_,_,z,_⟩:=h;exact z.elim),fun A outer s H args us vs Q E hr he hb hv h=>(by obtain⟨_,_,_,_,_,_,_,_,_,_,_,z,_⟩:=h;exact z.elim)⟩
  |succ d ih=>exact jhn (Nat.le_add_right _ _) F m b z_tuple ih
 exact all 3
theorem sc__law_near:FnScope ["_law_tape_here","_law_counts","_law_row","_law_fields","_law_value_here","_law_kind","_law_some"] ["_law_tape_here","_law_counts"] (jao jd3):=⟨rfl,rfl,rfl,by decide +kernel,rfl,by decide +kernel,by decide +kernel⟩
theorem jk1 {fa:Addr} {fd:FuncData} (F:Fun K "_law_near" "_law_near" jd3 fa fd) (m:mg "_law_near"=some (.ref fa)) (b:Binds K fd ["_law_tape_here","_law_counts"] []) (jad:Has P w K mg base 1 "_law_draw" ["_law_tape_here","_law_many"] jau) (z_isinstance:mg "isinstance"=none) (z_len:mg "len"=none) (z_str:mg "str"=none) (z_tuple:mg "tuple"=none):Has P w K mg base 2 "_law_near" ["_law_tape_here","_law_counts"] jm8:=by
 refine Has.mk' F m b (Fun.okD F sc__law_near jku ?_)
 intro cdv A outer s H E hr
 exact⟨_,jfs,(jah (jb8 (i:=2) sc__law_near.nd rfl (Or.inl rfl) (jap (K:=K) (jap (K:=K) (jac 1) (jaj jad (hr.mono (by decide)) (by rfl) (jaa (jac 0) (jaa (ja5 (ja0 (K:=K)) jbq (by rfl) z_len PySem.boot_len (jaa (jac 1) jae)) jae)))) (jag))) (jah (jf6 (i:=3) sc__law_near.nd rfl (Or.inl rfl) (jb0 jae)) (jah (jft (jdi (K:=K) (jac 2)) (ja2 (i:=4) sc__law_near.nd rfl (Or.inl rfl)) (jah (jb8 (i:=5) sc__law_near.nd rfl (Or.inl rfl) (jfo (jx2 (jmt (K:=K) (T:="str") (.inr (.inr (.inl rfl))) (by rfl) z_isinstance (by rfl) z_str jov (jac 4))) (ja3 (jaa (jat) jae)) (ja3 (jaa (jat) jae)))) (jah (jb8 (i:=6) sc__law_near.nd rfl (Or.inl rfl) (DF.d (jb0 (jaa (ja3 (jaa (jat) jae)) (jaa (ja3 (jaa (jat) (jaa (jac 4) jae))) (jaa (jac 5) (jaa (ja3 (jaa (jat) (jaa (jat) jae))) (jaa (ja3 (jaa (jat) jae)) (jaa (ja3 (jaa (jat) (jaa (jat) jae))) jae))))))))) (jas (je6 (i:=3) rfl (jap (K:=K) (jac 6) (jaj jad (hr.mono (by decide)) (by rfl) (jaa (jac 0) (jaa (jag) jae))))))))) (jgz 3 (jas (ja8 (ja3 (jaa (jat) (jaa (jbj (jaz (K:=K)) jbr (by rfl) z_tuple jbn (jaa (jac 3) jae)) (jaa (jor (jag) (jaj jad (hr.mono (by decide)) (by rfl) (jaa (jac 0) (jaa (jag) jae)))) jae)))))))))),jjk⟩
theorem sc__law_shown:FnScope ["_law_programs_here","_law_entry","_law_sight_here","_law_counts","_law_told","_law_block","_law_place","_law_names"] ["_law_programs_here","_law_entry","_law_sight_here"] (jao jcr):=⟨rfl,rfl,rfl,by decide +kernel,rfl,by decide +kernel,by decide +kernel⟩
theorem jhm {k d:Nat} (hk:2≤k) {fa:Addr} {fd:FuncData} (F:Fun K "_law_shown" "_law_shown" jcr fa fd) (m:mg "_law_shown"=some (.ref fa)) (b:Binds K fd ["_law_programs_here","_law_entry","_law_sight_here"] []) (jc3:Has P w K mg base 1 "_law_fits" ["_law_pattern_here","_law_row","_law_names"] jgr) (z_len:mg "len"=none) (z_sum:mg "sum"=none) (h_self:Has P w K mg base k "_law_shown" ["_law_programs_here","_law_entry","_law_sight_here"] (jbd d)):Has P w K mg base (k+1) "_law_shown" ["_law_programs_here","_law_entry","_law_sight_here"] (jbd (d+1)):=by
 refine Has.mk' F m b (Fun.okD F sc__law_shown (ji1 (d+1)) ?_)
 intro cdv A outer s H E hr
 exact⟨_,jdl (jbd d),(jah (s_if (ja6 (ja7 (K:=K) hr.units0) ja1 (jap (K:=K) (jac 2) (jag)) (jat) (jan _)) (jah (jgt (i:=3) (N:=["_law_row","_law_many","_law_sight_here"]) (cl:=[("_law_sight_here",s.heap.objs.size+3)]) (fr:=[none,none,some 2]) sc__law_shown.nd rfl rfl rfl ⟨by rfl,rfl,by decide +kernel,by decide +kernel,(jcf (by intro y hy;simp only[List.mem_cons,List.not_mem_nil,or_false]at hy;rcases hy with rfl<;>rfl)),jbm [(".0",.local),("_law_row",.local),("_law_many",.local),("_law_fits",.globalImplicit),("_law_sight_here",.cell)] ["_law_sight_here"] rfl rfl (by decide +kernel),rfl,(fun j i h=>match j,h with | 0,h=>(by cases h) | 1,h=>(by cases h) | 2,h=>(by cases(Option.some.inj (Option.some.inj h)).symm;exact⟨"_law_sight_here",rfl,rfl,Or.inr (Or.inl rfl),Or.inl rfl,Or.inl rfl,rfl⟩) | (j+3),h=>(by have h2:(none:Option (Option Nat))=some (some i):=h;cases h2))⟩ (jdi (K:=K) (jap (K:=K) (jac 1) (jag))) (fun _ _ _=>(jh2 (K:=K) (jb4 (ja2 (i:=0) (show(["_law_row","_law_many","_law_sight_here"]:List Str).Nodup by decide +kernel) rfl (Or.inl rfl)) (jb4 (ja2 (i:=1) (show(["_law_row","_law_many","_law_sight_here"]:List Str).Nodup by decide +kernel) rfl (Or.inl rfl)) jhz)))) (fun _ _ _=>(jj5 (ja6 jnj jki (jaj jc3 (hr.mono (by omega)) (by rfl) (jaa (jap (K:=K) (jac 2) (jag)) (jaa (jac 0) (jaa (ja3 jae) jae)))) (jhf) (jan _)))) (fun _ _ _=>(jac 1)) (jxi 0 1 2)) (jas (ja8 (d_or (jd8 (jfa (K:=K)) jdt (jhf) (jac 3) (by with_unfolding_all rfl)) (jpn (jd8 jru jqu (ja5 (jmv hr.hd) jqp (by rfl) z_sum (by decide +kernel) (jaa (jac 3) jae)) (jap (K:=K) (jac 2) (jag)) (jan _))))))) jbx) (jah (s_if (ja6 (jfa (K:=K)) jdt (jap (K:=K) (jac 2) (jag)) (ja3 (jaa (jat) (jaa (jat) jae))) (by with_unfolding_all rfl)) (jah (jgt (i:=4) (N:=["_law_one","_law_entry","_law_programs_here"]) (cl:=[("_law_programs_here",s.heap.objs.size+1),("_law_entry",s.heap.objs.size+2)]) (fr:=[none,some 1,some 0]) sc__law_shown.nd rfl rfl rfl ⟨by rfl,rfl,by decide +kernel,by decide +kernel,(jcf (by intro y hy;simp only[List.mem_cons,List.not_mem_nil,or_false]at hy;rcases hy with rfl | rfl<;>rfl)),jbm [(".0",.local),("_law_one",.local),("_law_shown",.globalImplicit),("_law_entry",.cell),("_law_programs_here",.cell)] ["_law_programs_here","_law_entry"] rfl rfl (by decide +kernel),rfl,(fun j i h=>match j,h with | 0,h=>(by cases h) | 1,h=>(by cases(Option.some.inj (Option.some.inj h)).symm;exact⟨"_law_entry",rfl,rfl,Or.inr (Or.inl rfl),Or.inl rfl,Or.inl rfl,rfl⟩) | 2,h=>(by cases(Option.some.inj (Option.some.inj h)).symm;exact⟨"_law_programs_here",rfl,rfl,Or.inr (Or.inl rfl),Or.inl rfl,Or.inl rfl,rfl⟩) | (j+3),h=>(by have h2:(none:Option (Option Nat))=some (some i):=h;cases h2))⟩ (jdi (K:=K) (jap (K:=K) (jac 2) (jag))) (fun _ _ _=>(ja2 (i:=0) (show(["_law_one","_law_entry","_law_programs_here"]:List Str).Nodup by decide +kernel) rfl (Or.inl rfl))) (fun _ _ _=>jei) (fun _ _ _=>(jaj h_self (hr.mono (by omega)) (by rfl) (jaa (jac 2) (jaa (jac 1) (jaa (jac 0) jae))))) (jby 0)) (jas (ja8 (jfo (ja6 (ja7 (K:=K) hr.units0) ja1 (jap (K:=K) (jac 2) (jag)) (jat) (jan _)) (jd8 (jhq (K:=K)) jdt (d_bl) (jac 4) (by with_unfolding_all rfl)) (jd8 (jfa (K:=K)) jdt (d_bl) (jac 4) (by with_unfolding_all rfl)))))) jbx) (jah (jty (jap (K:=K) (jap (K:=K) (jac 1) (jag)) (jap (K:=K) (jac 2) (jag))) (jh2 (K:=K) (jb4 (ja2 (i:=5) sc__law_shown.nd rfl (Or.inl rfl)) (jb4 (ja2 (i:=6) sc__law_shown.nd rfl (Or.inl rfl)) (jb4 (ja2 (i:=7) sc__law_shown.nd rfl (Or.inl rfl)) jhz))))) (jah (s_if (ja6 (ja7 (K:=K) hr.units0) ja1 (jap (K:=K) (jac 2) (jag)) (jat) (jan _)) (jas (ja8 (jxy (jd8 (ja7 (K:=K) hr.units0) ja1 (jac 5) (jap (K:=K) (jac 2) (jag)) (jan _)) (jpn (jd8 (ja7 (K:=K) hr.units0) ja1 (jac 6) (jap (K:=K) (jac 2) (jag)) (jan _)))))) jbx) (jas (ja8 (jd8 (ja7 (K:=K) hr.units0) ja1 (jac 6) (ja5 (ja0 (K:=K)) jbq (by rfl) z_len PySem.boot_len (jaa (jap (K:=K) (jap (K:=K) (jap (K:=K) (jac 0) (jap (K:=K) (jac 2) (jag))) (jac 5)) (jag)) jae)) (jan _)))))))),jie d⟩
theorem jjc {fa:Addr} {fd:FuncData} (F:Fun K "_law_shown" "_law_shown" jcr fa fd) (m:mg "_law_shown"=some (.ref fa)) (b:Binds K fd ["_law_programs_here","_law_entry","_law_sight_here"] []) (jc3:Has P w K mg base 1 "_law_fits" ["_law_pattern_here","_law_row","_law_names"] jgr) (z_len:mg "len"=none) (z_sum:mg "sum"=none):Has P w K mg base 5 "_law_shown" ["_law_programs_here","_law_entry","_law_sight_here"] (jbd 3):=by
 have all:∀d,Has P w K mg base (2+d) "_law_shown" ["_law_programs_here","_law_entry","_law_sight_here"] (jbd d):=by
  intro d
  induction d with
  |zero=>exact Has.mk' F m b ⟨fun vs H Q E h=>(by obtain⟨_,_,_,_,_,_,_,_,_,_,_,z,_⟩:=h;exact z.elim),fun A outer s H args us vs Q E hr he hb hv h=>(by obtain⟨_,_,_,_,_,_,_,_,_,_,_,z,_⟩:=h;exact z.elim)⟩
  |succ d ih=>exact jhm (Nat.le_add_right _ _) F m b jc3 z_len z_sum ih
 exact all 3
theorem sc_law:FnScope ["_law_script","_law_tape_here","_law_programs_here","_law_k","_law_hands","_law_notes_here","_law_counts","_law_row","_law_entry","_law_sight_here"] ["_law_script"] (jao jnd):=⟨rfl,rfl,rfl,by decide +kernel,rfl,by decide +kernel,by decide +kernel⟩
theorem jzw {fa fT:Addr} {fd fdT:FuncData} (F:Fun K "law" "law" jnd fa fd) (GT:FnOk P w K mg base CX0 1 fT fdT ["_law_script"] (jn3 K)) (bT:Binds K fdT ["_law_script"] []) (mT:mg "_law_tape"=some (.ref fT)) (kT:PySem.W.keepIn K (.ref fT)=true) (jad:Has P w K mg base 1 "_law_draw" ["_law_tape_here","_law_many"] jau) (jgf:Has P w K mg base 1 "_law_key" ["_law_row"] jpx) (jfm:Has P w K mg base 2 "_law_near" ["_law_tape_here","_law_counts"] jm8) (jen:Has P w K mg base 4 "_law_plain" ["_law_sight_here"] (jbo 3)) (jc2:Has P w K mg base 6 "_law_programs" ["_law_tape_here"] jin) (jem:Has P w K mg base 5 "_law_shown" ["_law_programs_here","_law_entry","_law_sight_here"] (jbd 3)) (jel:Has P w K mg base 7 "_law_sight" ["_law_tape_here","_law_programs_here","_law_deep"] (jb3 3)) (jek:Has P w K mg base 4 "_law_stand" ["_law_tape_here","_law_programs_here","_law_most"] jim) (h_entry_sees:Has P w K mg base 9 "entry_sees" ["programs","entry","sight"] (jbd 3)) (z_dict:mg "dict"=none) (z_len:mg "len"=none) (z_range:mg "range"=none) (z_repr:mg "repr"=none) (z_sorted:mg "sorted"=none) (z_tuple:mg "tuple"=none):FnOk P w K mg base CX0 12 fa fd ["_law_script"] (DL.spLaw K):=by
 refine jz3 F sc_law GT bT mT kT (fun v=>rfl) jva ?_
 intro cdv A outer s H E hr
 exact⟨_,_,_,rfl,jfu (i:=1) sc_law.nd rfl (Or.inl rfl) (jrn GT (hr.mono (by decide)) rfl mT kT bT .nil jzn (ja4 (pv 0) jb6)),(jah (jb8 (i:=2) sc_law.nd rfl (Or.inl rfl) (jaj jc2 (hr.mono (by decide)) (by rfl) (jaa (jac 1) jae))) (jah (jft (jcl (by rfl) z_range (jag)) (ja2 (i:=3) sc_law.nd rfl (Or.inl rfl)) (jah (jty (jaj jek (hr.mono (by decide)) (by rfl) (jaa (jac 1) (jaa (jac 2) (jaa (jag) jae)))) (jh2 (K:=K) (jb4 (ja2 (i:=4) sc_law.nd rfl (Or.inl rfl)) (jb4 (ja2 (i:=5) sc_law.nd rfl (Or.inl rfl)) jhz)))) (jah (jf6 (i:=6) sc_law.nd rfl (Or.inl rfl) (jb0 jae)) (jah (jft (jhy (K:=K) (DF.d (ju0 jgf (hr.mono (by decide)) (by rfl) z_sorted (by rfl) (by rfl) z_dict (jac 5)))) (ja2 (i:=7) sc_law.nd rfl (Or.inl rfl)) (jas (je6 (i:=6) rfl (ja3 (jaa (jac 7) (jaa (jap (K:=K) (DF.d (jb0 (jaa (jag) (jaa (jag) (jaa (jag) (jaa (jhf) (jaa (jag) (jaa (jag) (jaa (jag) jae))))))))) (jaj jad (hr.mono (by decide)) (by rfl) (jaa (jac 1) (jaa (jag) jae)))) jae)))))) (jgz 6 (jah (jb8 (i:=8) sc_law.nd rfl (Or.inl rfl) (ja3 (jaa (jac 4) (jaa (jbj (jaz (K:=K)) jbr (by rfl) z_tuple jbn (jaa (jac 6) jae)) jae)))) (jah (jb8 (i:=9) sc_law.nd rfl (Or.inl rfl) (jaj jen (hr.mono (by decide)) (by rfl) (jaa (jaj jel (hr.mono (by decide)) (by rfl) (jaa (jac 1) (jaa (jac 2) (jaa (jag) jae)))) jae))) (jah (s_if (DCW.cc (cw_and (ja6 jjz jjr (ja5 (ja0 (K:=K)) jbq (by rfl) z_len PySem.boot_len (jaa (jac 6) jae)) (jag) (jan _)) (cw_and1 (ja6 (ja7 (K:=K) hr.units0) ja1 (jaj jad (hr.mono (by decide)) (by rfl) (jaa (jac 1) (jaa (jag) jae))) (jag) (jan _))))) (jas (jb8 (i:=9) sc_law.nd rfl (Or.inl rfl) (jaj jfm (hr.mono (by decide)) (by rfl) (jaa (jac 1) (jaa (jac 6) jae))))) jbx) (jas (s_if (ja6 jxd jqr (ja5 jj9 jlr (by rfl) z_repr jtc (jaa (jaj h_entry_sees (hr.mono (by decide)) (by rfl) (jaa (jac 2) (jaa (jac 8) (jaa (jac 9) jae)))) jae)) (ja5 jj9 jlr (by rfl) z_repr jtc (jaa (jaj jem (hr.mono (by decide)) (by rfl) (jaa (jac 2) (jaa (jac 8) (jaa (jac 9) jae)))) jae)) (jan _)) (jas (ja8 (d_bl))) jbx)))))))))) (jas (ja8 (d_bl)))))⟩
end
theorem ls1 {α:Type} {us:List α} (h:us.length=1):∃a,us=[a]:=match us,h with | [a],_=>⟨a,rfl⟩
theorem ls2 {α:Type} {us:List α} (h:us.length=2):∃a b,us=[a,b]:=match us,h with | [a,b],_=>⟨a,b,rfl⟩
theorem ls3 {α:Type} {us:List α} (h:us.length=3):∃a b c,us=[a,b,c]:=match us,h with | [a,b,c],_=>⟨a,b,c,rfl⟩
theorem ls4 {α:Type} {us:List α} (h:us.length=4):∃a b c d,us=[a,b,c,d]:=match us,h with | [a,b,c,d],_=>⟨a,b,c,d,rfl⟩
noncomputable abbrev NI (K:PySem.W.Frag) (x:Str) (f:Addr):Prop:=PySem.W.nsIn K mainGlobals x=some (some (.ref f))
noncomputable abbrev NO (K:PySem.W.Frag) (x:Str):Prop:=PySem.W.nsIn K mainGlobals x=some none
noncomputable abbrev CI (K:PySem.W.Frag) (c:Value) (x:Str):Prop:=PySem.W.codeIn K c x=true
noncomputable abbrev KI (K:PySem.W.Frag) (f:Addr):Prop:=PySem.W.keepIn K (.ref f)=true
noncomputable abbrev LK (K:PySem.W.Frag) (f:Addr) (oc:Value) (od:Option Addr) (x:Str) (st:Stmt) (kV dc pm:Value) (an:Option Addr) (cd ct:Value) (sl:Array (Option Value)):Prop:=K.lookup f=some ⟨oc,od,.func (PySem.W.fnOf x x (jgi st) (jd7 st) (jao st) .none kV dc pm an cd ct),sl⟩
theorem all_mk {l:PySem.W.OpenLaw} {w:World} {K:PySem.W.Frag} {h:Heap} {mg:Str→Option Value} {fa f0 f1 f2 f3 f4 f5 f6 f7 f8 f9 f10 f11 f12 f13 f14 f15 f16 f17 f18 f19 f20 f21 f22 f23 f24 f25 f26 f27:Addr} (X:K.In h) (G:h.Ns mainGlobals mg) (hfa:mg "law"=some (.ref fa))
  {od0 an0 od1 an1 od2 an2 od3 an3 od4 an4 od5 an5 od6 an6 od7 an7 od8 an8 od9 an9 od10 an10 od11 an11 od12 an12 od13 an13 od14 an14 od15 an15 od16 an16 od17 an17 od18 an18 od19 an19 od20 an20 od21 an21 od22 an22 od23 an23 od24 an24 od25 an25 od26 an26 od27 an27:Option Addr} {sl0 sl1 sl2 sl3 sl4 sl5 sl6 sl7 sl8 sl9 sl10 sl11 sl12 sl13 sl14 sl15 sl16 sl17 sl18 sl19 sl20 sl21 sl22 sl23 sl24 sl25 sl26 sl27:Array (Option Value)} {oc0 kV0 dc0 pm0 cd0 ct0 oc1 kV1 dc1 pm1 cd1 ct1 oc2 kV2 dc2 pm2 cd2 ct2 oc3 kV3 dc3 pm3 cd3 ct3 oc4 kV4 dc4 pm4 cd4 ct4 oc5 kV5 dc5 pm5 cd5 ct5 oc6 kV6 dc6 pm6 cd6 ct6 oc7 kV7 dc7 pm7 cd7 ct7 oc8 kV8 dc8 pm8 cd8 ct8 oc9 kV9 dc9 pm9 cd9 ct9 oc10 kV10 dc10 pm10 cd10 ct10 oc11 kV11 dc11 pm11 cd11 ct11 oc12 kV12 dc12 pm12 cd12 ct12 oc13 kV13 dc13 pm13 cd13 ct13 oc14 kV14 dc14 pm14 cd14 ct14 oc15 kV15 dc15 pm15 cd15 ct15 oc16 kV16 dc16 pm16 cd16 ct16 oc17 kV17 dc17 pm17 cd17 ct17 oc18 kV18 dc18 pm18 cd18 ct18 oc19 kV19 dc19 pm19 cd19 ct19 oc20 kV20 dc20 pm20 cd20 ct20 oc21 kV21 dc21 pm21 cd21 ct21 oc22 kV22 dc22 pm22 cd22 ct22 oc23 kV23 dc23 pm23 cd23 ct23 oc24 kV24 dc24 pm24 cd24 ct24 oc25 kV25 dc25 pm25 cd25 ct25 oc26 kV26 dc26 pm26 cd26 ct26 oc27 kV27 dc27 pm27 cd27 ct27:Value}
  (a0:NI K "field_fits" f0) (l0:LK K f0 oc0 od0 "field_fits" jdc kV0 dc0 pm0 an0 cd0 ct0 sl0) (c0:CI K cd0 "field_fits") (k0:KI K f0)
  (a1:NI K "fits" f1) (l1:LK K f1 oc1 od1 "fits" jn8 kV1 dc1 pm1 an1 cd1 ct1 sl1) (c1:CI K cd1 "fits") (k1:KI K f1)
  (a2:NI K "next_act" f2) (l2:LK K f2 oc2 od2 "next_act" jez kV2 dc2 pm2 an2 cd2 ct2 sl2) (c2:CI K cd2 "next_act") (k2:KI K f2)
  (a3:NI K "others_in" f3) (l3:LK K f3 oc3 od3 "others_in" jd0 kV3 dc3 pm3 an3 cd3 ct3 sl3) (c3:CI K cd3 "others_in") (k3:KI K f3)
  (a4:NI K "how_many_fit" f4) (l4:LK K f4 oc4 od4 "how_many_fit" jch kV4 dc4 pm4 an4 cd4 ct4 sl4) (c4:CI K cd4 "how_many_fit") (k4:KI K f4)
  (a5:NI K "sees" f5) (l5:LK K f5 oc5 od5 "sees" jly kV5 dc5 pm5 an5 cd5 ct5 sl5) (c5:CI K cd5 "sees") (k5:KI K f5)
  (a6:NI K "has_enough" f6) (l6:LK K f6 oc6 od6 "has_enough" jdb kV6 dc6 pm6 an6 cd6 ct6 sl6) (c6:CI K cd6 "has_enough") (k6:KI K f6)
  (a7:NI K "entry_sees" f7) (l7:LK K f7 oc7 od7 "entry_sees" jcp kV7 dc7 pm7 an7 cd7 ct7 sl7) (c7:CI K cd7 "entry_sees") (k7:KI K f7)
  (a8:NI K "_law_tape" f8) (l8:LK K f8 oc8 od8 "_law_tape" jfi kV8 dc8 pm8 an8 cd8 ct8 sl8) (c8:CI K cd8 "_law_tape") (k8:KI K f8)
  (a9:NI K "_law_draw" f9) (l9:LK K f9 oc9 od9 "_law_draw" jfj kV9 dc9 pm9 an9 cd9 ct9 sl9) (c9:CI K cd9 "_law_draw") (k9:KI K f9)
  (a10:NI K "_law_value" f10) (l10:LK K f10 oc10 od10 "_law_value" jdd kV10 dc10 pm10 an10 cd10 ct10 sl10) (c10:CI K cd10 "_law_value") (k10:KI K f10)
  (a11:NI K "_law_size" f11) (l11:LK K f11 oc11 od11 "_law_size" jd2 kV11 dc11 pm11 an11 cd11 ct11 sl11) (c11:CI K cd11 "_law_size") (k11:KI K f11)
  (a12:NI K "_law_pattern" f12) (l12:LK K f12 oc12 od12 "_law_pattern" jcj kV12 dc12 pm12 an12 cd12 ct12 sl12) (c12:CI K cd12 "_law_pattern") (k12:KI K f12)
  (a13:NI K "_law_template" f13) (l13:LK K f13 oc13 od13 "_law_template" jb9 kV13 dc13 pm13 an13 cd13 ct13 sl13) (c13:CI K cd13 "_law_template") (k13:KI K f13)
  (a14:NI K "_law_term" f14) (l14:LK K f14 oc14 od14 "_law_term" jd1 kV14 dc14 pm14 an14 cd14 ct14 sl14) (c14:CI K cd14 "_law_term") (k14:KI K f14)
  (a15:NI K "_law_act" f15) (l15:LK K f15 oc15 od15 "_law_act" je1 kV15 dc15 pm15 an15 cd15 ct15 sl15) (c15:CI K cd15 "_law_act") (k15:KI K f15)
  (a16:NI K "_law_program" f16) (l16:LK K f16 oc16 od16 "_law_program" jci kV16 dc16 pm16 an16 cd16 ct16 sl16) (c16:CI K cd16 "_law_program") (k16:KI K f16)
  (a17:NI K "_law_notes" f17) (l17:LK K f17 oc17 od17 "_law_notes" jdf kV17 dc17 pm17 an17 cd17 ct17 sl17) (c17:CI K cd17 "_law_notes") (k17:KI K f17)
  (a18:NI K "_law_programs" f18) (l18:LK K f18 oc18 od18 "_law_programs" jca kV18 dc18 pm18 an18 cd18 ct18 sl18) (c18:CI K cd18 "_law_programs") (k18:KI K f18)
  (a19:NI K "_law_known" f19) (l19:LK K f19 oc19 od19 "_law_known" jdg kV19 dc19 pm19 an19 cd19 ct19 sl19) (c19:CI K cd19 "_law_known") (k19:KI K f19)
  (a20:NI K "_law_stand" f20) (l20:LK K f20 oc20 od20 "_law_stand" jde kV20 dc20 pm20 an20 cd20 ct20 sl20) (c20:CI K cd20 "_law_stand") (k20:KI K f20)
  (a21:NI K "_law_fits" f21) (l21:LK K f21 oc21 od21 "_law_fits" jd4 kV21 dc21 pm21 an21 cd21 ct21 sl21) (c21:CI K cd21 "_law_fits") (k21:KI K f21)
  (a22:NI K "_law_sight" f22) (l22:LK K f22 oc22 od22 "_law_sight" jcq kV22 dc22 pm22 an22 cd22 ct22 sl22) (c22:CI K cd22 "_law_sight") (k22:KI K f22)
  (a23:NI K "_law_key" f23) (l23:LK K f23 oc23 od23 "_law_key" je0 kV23 dc23 pm23 an23 cd23 ct23 sl23) (c23:CI K cd23 "_law_key") (k23:KI K f23)
  (a24:NI K "_law_plain" f24) (l24:LK K f24 oc24 od24 "_law_plain" jcs kV24 dc24 pm24 an24 cd24 ct24 sl24) (c24:CI K cd24 "_law_plain") (k24:KI K f24)
  (a25:NI K "_law_near" f25) (l25:LK K f25 oc25 od25 "_law_near" jd3 kV25 dc25 pm25 an25 cd25 ct25 sl25) (c25:CI K cd25 "_law_near") (k25:KI K f25)
  (a26:NI K "_law_shown" f26) (l26:LK K f26 oc26 od26 "_law_shown" jcr kV26 dc26 pm26 an26 cd26 ct26 sl26) (c26:CI K cd26 "_law_shown") (k26:KI K f26)
  (a27:NI K "law" f27) (l27:LK K f27 oc27 od27 "law" jnd kV27 dc27 pm27 an27 cd27 ct27 sl27) (c27:CI K cd27 "law") (k27:KI K f27)
  (zz_all:NO K "all")
  (zz_any:NO K "any")
  (zz_dict:NO K "dict")
  (zz_int:NO K "int")
  (zz_isinstance:NO K "isinstance")
  (zz_len:NO K "len")
  (zz_list:NO K "list")
  (zz_range:NO K "range")
  (zz_repr:NO K "repr")
  (zz_set:NO K "set")
  (zz_sorted:NO K "sorted")
  (zz_str:NO K "str")
  (zz_sum:NO K "sum")
  (zz_tuple:NO K "tuple")
  (zz_zip:NO K "zip")
  : ∃fd:FuncData,(∀(s:Shared) (v:Value),BindsTo s fd ⟨[v],[]⟩ [("_law_script",v)])∧∀base:Heap,K.In base→base.Ns mainGlobals mg→FnOk l.prog w K mg base CX0 12 fa fd ["_law_script"] (DL.spLaw K):=by
 have e:=hfa.symm.trans (PySem.W.mg_of X G a27)
 cases e
 have F0:=jbp (st:=jdc) l0 c0 k0
 have b0:=F0.binds (ps:=["field","value","having","bound"]) fun _ _ _ _ _ _ us hl=>by obtain⟨_,_,_,_,rfl⟩:=ls4 hl;rfl
 have m0:=PySem.W.mg_of X G a0
 have F1:=jbp (st:=jn8) l1 c1 k1
 have b1:=F1.binds (ps:=["pattern","row","names"]) fun _ _ _ _ _ _ us hl=>by obtain⟨_,_,_,rfl⟩:=ls3 hl;rfl
 have m1:=PySem.W.mg_of X G a1
 have F2:=jbp (st:=jez) l2 c2 k2
 have b2:=F2.binds (ps:=["programs","stand","hand"]) fun _ _ _ _ _ _ us hl=>by obtain⟨_,_,_,rfl⟩:=ls3 hl;rfl
 have m2:=PySem.W.mg_of X G a2
 have F3:=jbp (st:=jd0) l3 c3 k3
 have b3:=F3.binds (ps:=["sight"]) fun _ _ _ _ _ _ us hl=>by obtain⟨_,rfl⟩:=ls1 hl;rfl
 have m3:=PySem.W.mg_of X G a3
 have F4:=jbp (st:=jch) l4 c4 k4
 have b4:=F4.binds (ps:=["pattern","notes"]) fun _ _ _ _ _ _ us hl=>by obtain⟨_,_,rfl⟩:=ls2 hl;rfl
 have m4:=PySem.W.mg_of X G a4
 have F5:=jbp (st:=jly) l5 c5 k5
 have b5:=F5.binds (ps:=["programs","stand","sight"]) fun _ _ _ _ _ _ us hl=>by obtain⟨_,_,_,rfl⟩:=ls3 hl;rfl
 have m5:=PySem.W.mg_of X G a5
 have F6:=jbp (st:=jdb) l6 c6 k6
 have b6:=F6.binds (ps:=["counts","pattern","many"]) fun _ _ _ _ _ _ us hl=>by obtain⟨_,_,_,rfl⟩:=ls3 hl;rfl
 have m6:=PySem.W.mg_of X G a6
 have F7:=jbp (st:=jcp) l7 c7 k7
 have b7:=F7.binds (ps:=["programs","entry","sight"]) fun _ _ _ _ _ _ us hl=>by obtain⟨_,_,_,rfl⟩:=ls3 hl;rfl
 have m7:=PySem.W.mg_of X G a7
 have F8:=jbp (st:=jfi) l8 c8 k8
 have b8:=F8.binds (ps:=["_law_script"]) fun _ _ _ _ _ _ us hl=>by obtain⟨_,rfl⟩:=ls1 hl;rfl
 have m8:=PySem.W.mg_of X G a8
 have F9:=jbp (st:=jfj) l9 c9 k9
 have b9:=F9.binds (ps:=["_law_tape_here","_law_many"]) fun _ _ _ _ _ _ us hl=>by obtain⟨_,_,rfl⟩:=ls2 hl;rfl
 have m9:=PySem.W.mg_of X G a9
 have F10:=jbp (st:=jdd) l10 c10 k10
 have b10:=F10.binds (ps:=["_law_tape_here"]) fun _ _ _ _ _ _ us hl=>by obtain⟨_,rfl⟩:=ls1 hl;rfl
 have m10:=PySem.W.mg_of X G a10
 have F11:=jbp (st:=jd2) l11 c11 k11
 have b11:=F11.binds (ps:=["_law_tape_here"]) fun _ _ _ _ _ _ us hl=>by obtain⟨_,rfl⟩:=ls1 hl;rfl
 have m11:=PySem.W.mg_of X G a11
 have F12:=jbp (st:=jcj) l12 c12 k12
 have b12:=F12.binds (ps:=["_law_tape_here","_law_known_here"]) fun _ _ _ _ _ _ us hl=>by obtain⟨_,_,rfl⟩:=ls2 hl;rfl
 have m12:=PySem.W.mg_of X G a12
 have F13:=jbp (st:=jb9) l13 c13 k13
 have b13:=F13.binds (ps:=["_law_tape_here","_law_known_here"]) fun _ _ _ _ _ _ us hl=>by obtain⟨_,_,rfl⟩:=ls2 hl;rfl
 have m13:=PySem.W.mg_of X G a13
 have F14:=jbp (st:=jd1) l14 c14 k14
 have b14:=F14.binds (ps:=["_law_tape_here","_law_known_here"]) fun _ _ _ _ _ _ us hl=>by obtain⟨_,_,rfl⟩:=ls2 hl;rfl
 have m14:=PySem.W.mg_of X G a14
 have F15:=jbp (st:=je1) l15 c15 k15
 have b15:=F15.binds (ps:=["_law_tape_here","_law_known_here","_law_open_ones"]) fun _ _ _ _ _ _ us hl=>by obtain⟨_,_,_,rfl⟩:=ls3 hl;rfl
 have m15:=PySem.W.mg_of X G a15
 have F16:=jbp (st:=jci) l16 c16 k16
 have b16:=F16.binds (ps:=["_law_tape_here"]) fun _ _ _ _ _ _ us hl=>by obtain⟨_,rfl⟩:=ls1 hl;rfl
 have m16:=PySem.W.mg_of X G a16
 have F17:=jbp (st:=jdf) l17 c17 k17
 have b17:=F17.binds (ps:=["_law_tape_here","_law_most"]) fun _ _ _ _ _ _ us hl=>by obtain⟨_,_,rfl⟩:=ls2 hl;rfl
 have m17:=PySem.W.mg_of X G a17
 have F18:=jbp (st:=jca) l18 c18 k18
 have b18:=F18.binds (ps:=["_law_tape_here"]) fun _ _ _ _ _ _ us hl=>by obtain⟨_,rfl⟩:=ls1 hl;rfl
 have m18:=PySem.W.mg_of X G a18
 have F19:=jbp (st:=jdg) l19 c19 k19
 have b19:=F19.binds (ps:=["_law_program_here","_law_block","_law_place"]) fun _ _ _ _ _ _ us hl=>by obtain⟨_,_,_,rfl⟩:=ls3 hl;rfl
 have m19:=PySem.W.mg_of X G a19
 have F20:=jbp (st:=jde) l20 c20 k20
 have b20:=F20.binds (ps:=["_law_tape_here","_law_programs_here","_law_most"]) fun _ _ _ _ _ _ us hl=>by obtain⟨_,_,_,rfl⟩:=ls3 hl;rfl
 have m20:=PySem.W.mg_of X G a20
 have F21:=jbp (st:=jd4) l21 c21 k21
 have b21:=F21.binds (ps:=["_law_pattern_here","_law_row","_law_names"]) fun _ _ _ _ _ _ us hl=>by obtain⟨_,_,_,rfl⟩:=ls3 hl;rfl
 have m21:=PySem.W.mg_of X G a21
 have F22:=jbp (st:=jcq) l22 c22 k22
 have b22:=F22.binds (ps:=["_law_tape_here","_law_programs_here","_law_deep"]) fun _ _ _ _ _ _ us hl=>by obtain⟨_,_,_,rfl⟩:=ls3 hl;rfl
 have m22:=PySem.W.mg_of X G a22
 have F23:=jbp (st:=je0) l23 c23 k23
 have b23:=F23.binds (ps:=["_law_row"]) fun _ _ _ _ _ _ us hl=>by obtain⟨_,rfl⟩:=ls1 hl;rfl
 have m23:=PySem.W.mg_of X G a23
 have F24:=jbp (st:=jcs) l24 c24 k24
 have b24:=F24.binds (ps:=["_law_sight_here"]) fun _ _ _ _ _ _ us hl=>by obtain⟨_,rfl⟩:=ls1 hl;rfl
 have m24:=PySem.W.mg_of X G a24
 have F25:=jbp (st:=jd3) l25 c25 k25
 have b25:=F25.binds (ps:=["_law_tape_here","_law_counts"]) fun _ _ _ _ _ _ us hl=>by obtain⟨_,_,rfl⟩:=ls2 hl;rfl
 have m25:=PySem.W.mg_of X G a25
 have F26:=jbp (st:=jcr) l26 c26 k26
 have b26:=F26.binds (ps:=["_law_programs_here","_law_entry","_law_sight_here"]) fun _ _ _ _ _ _ us hl=>by obtain⟨_,_,_,rfl⟩:=ls3 hl;rfl
 have m26:=PySem.W.mg_of X G a26
 have F27:=jbp (st:=jnd) l27 c27 k27
 have z_all:=PySem.W.mg_none_of X G zz_all
 have z_any:=PySem.W.mg_none_of X G zz_any
 have z_dict:=PySem.W.mg_none_of X G zz_dict
 have z_int:=PySem.W.mg_none_of X G zz_int
 have z_isinstance:=PySem.W.mg_none_of X G zz_isinstance
 have z_len:=PySem.W.mg_none_of X G zz_len
 have z_list:=PySem.W.mg_none_of X G zz_list
 have z_range:=PySem.W.mg_none_of X G zz_range
 have z_repr:=PySem.W.mg_none_of X G zz_repr
 have z_set:=PySem.W.mg_none_of X G zz_set
 have z_sorted:=PySem.W.mg_none_of X G zz_sorted
 have z_str:=PySem.W.mg_none_of X G zz_str
 have z_sum:=PySem.W.mg_none_of X G zz_sum
 have z_tuple:=PySem.W.mg_none_of X G zz_tuple
 have z_zip:=PySem.W.mg_none_of X G zz_zip
 refine⟨PySem.W.fnOf "law" "law" (jgi jnd) (jd7 jnd) (jao jnd) .none kV27 dc27 pm27 an27 cd27 ct27,fun s v=>.of_eq rfl,fun base _ _=>?_⟩
 have h_field_fits:=ji7 (P:=l.prog) (w:=w) (base:=base) F0 m0 b0 z_int z_isinstance z_str
 have h_fits:=juy (P:=l.prog) (w:=w) (base:=base) F1 m1 b1 h_field_fits z_dict z_len z_sorted z_tuple z_zip
 have h_next_act:=jmm (P:=l.prog) (w:=w) (base:=base) F2 m2 b2 z_len
 have h_others_in:=jky (P:=l.prog) (w:=w) (base:=base) F3 m3 b3
 have h_how_many_fit:=jg8 (P:=l.prog) (w:=w) (base:=base) F4 m4 b4 h_fits z_len
 have h_sees:=jux (P:=l.prog) (w:=w) (base:=base) F5 m5 b5 h_how_many_fit h_next_act h_others_in z_all z_any
 have h_has_enough:=ji6 (P:=l.prog) (w:=w) (base:=base) F6 m6 b6 h_fits z_sum
 have h_entry_sees:=ji8 (P:=l.prog) (w:=w) (base:=base) F7 m7 b7 h_has_enough h_others_in h_sees z_all z_any
 have GT:=jxf (P:=l.prog) (w:=w) (mg:=mg) (base:=base) F8
 have jad:Has l.prog w K mg base 1 "_law_draw" ["_law_tape_here","_law_many"] jau:=Has.mk' F9 m9 b9 (ju1 (jxg (P:=l.prog) (w:=w) (base:=base) F9 z_len))
 have jax:=ji9 (P:=l.prog) (w:=w) (base:=base) F10 m10 b10 jad
 have jbv:=jk0 (P:=l.prog) (w:=w) (base:=base) F11 m11 b11 jad
 have jbe:=jha (P:=l.prog) (w:=w) (base:=base) F12 m12 b12 jad jbv jax z_len z_range z_tuple
 have jc1:=jgd (P:=l.prog) (w:=w) (base:=base) F13 m13 b13 jad jbv jax z_len z_range z_tuple
 have jd6:=jkz (P:=l.prog) (w:=w) (base:=base) F14 m14 b14 jad jax z_len
 have jgg:=jmo (P:=l.prog) (w:=w) (base:=base) F15 m15 b15 jad jbe jc1 jd6 z_len
 have jdo:=jg9 (P:=l.prog) (w:=w) (base:=base) F16 m16 b16 jgg jad z_len z_list z_range z_tuple
 have jeo:=jje (P:=l.prog) (w:=w) (base:=base) F17 m17 b17 jad jbv jax z_len z_range z_tuple
 have jc2:=jge (P:=l.prog) (w:=w) (base:=base) F18 m18 b18 jad jdo z_len z_range z_tuple
 have jep:=jjf (P:=l.prog) (w:=w) (base:=base) F19 m19 b19 z_list z_set z_sorted
 have jek:=jja (P:=l.prog) (w:=w) (base:=base) F20 m20 b20 jad jep jeo jax z_len z_tuple
 have jc3:=jk2 (P:=l.prog) (w:=w) (base:=base) F21 m21 b21 z_dict z_isinstance z_len z_sorted z_str z_tuple z_zip
 have jel:=jjb (P:=l.prog) (w:=w) (base:=base) F22 m22 b22 jad jbe z_len z_range z_tuple
 have jgf:=jmn (P:=l.prog) (w:=w) (base:=base) F23 m23 b23 z_int z_isinstance z_str z_tuple
 have jen:=jjd (P:=l.prog) (w:=w) (base:=base) F24 m24 b24 z_tuple
 have jfm:=jk1 (P:=l.prog) (w:=w) (base:=base) F25 m25 b25 jad z_isinstance z_len z_str z_tuple
 have jem:=jjc (P:=l.prog) (w:=w) (base:=base) F26 m26 b26 jc3 z_len z_sum
 exact jzw F27 GT b8 m8 k8 jad jgf jfm jen jc2 jem jel jek h_entry_sees z_dict z_len z_range z_repr z_sorted z_tuple
theorem walk {l:PySem.W.OpenLaw} {q:Program} {loose:List Str} {XP:(Str→Option Value)→Heap→Prop} {YP:World→Heap→Prop} {d:DefRec} {K:Params→PySem.W.Frag} (hn:l.most=some 63) (hdf:d.params.defaults=[])
  (hY:∀(w:World) (h:Heap),YP w h→(K w.params).In h)
  (F:∀(w:World) (mg:Str→Option Value) (fa:Addr) (h:Heap),(K w.params).In h→h.Ns mainGlobals mg→mg d.name=some (.ref fa) →
   ∃fd:FuncData,(∀(s:Shared) (u:Value),BindsTo s fd ⟨[u],[]⟩ [("_law_script",u)])∧∀base:Heap,(K w.params).In base→base.Ns mainGlobals mg→FnOk l.prog w (K w.params) mg base CX0 12 fa fd ["_law_script"] (DL.spLaw (K w.params))) :
  PySem.W.WalkO q loose XP YP l.row.toRowW d [] (fun f vs=>PySem.call f vs) :=
 L2.walk_of (n:=63) (k:=12) (x:="_law_script") (CX:=fun _=>CX0) (sp:=fun w=>DL.spLaw (K w.params)) hn (by decide) hdf ⟨rfl,by decide,by decide,rfl⟩ hY F (fun _ _ a ns hl _ hS=>⟨a,ns,rfl,hS,hl,fun _=>rfl⟩) fun _ _ _ _ _ z=>z
end Nb
open PySem PySem.W PyProof.Rows
set_option maxRecDepth 100000 in
set_option maxHeartbeats 0 in
theorem PySem.Challenge.cw_noteboard_k49_entries_see_holds : PySem.Challenge.rw_noteboard_k49_entries_see.Holds := by
 w_on;o_law;k_head;(case hw=>w_witness2)
 k_fill
 refine Nb.walk (l:=PySem.Challenge.rw_noteboard_k49_entries_see) rfl rfl (fun w h Y=>PySem.W.kIn_of Y) ?F
 case F =>
  intro w mg fa h KX G hmg
  refine' Nb.all_mk KX G hmg ?a0 ?l0 ?c0 ?k0 ?a1 ?l1 ?c1 ?k1 ?a2 ?l2 ?c2 ?k2 ?a3 ?l3 ?c3 ?k3 ?a4 ?l4 ?c4 ?k4 ?a5 ?l5 ?c5 ?k5 ?a6 ?l6 ?c6 ?k6 ?a7 ?l7 ?c7 ?k7 ?a8 ?l8 ?c8 ?k8 ?a9 ?l9 ?c9 ?k9 ?a10 ?l10 ?c10 ?k10 ?a11 ?l11 ?c11 ?k11 ?a12 ?l12 ?c12 ?k12 ?a13 ?l13 ?c13 ?k13 ?a14 ?l14 ?c14 ?k14 ?a15 ?l15 ?c15 ?k15 ?a16 ?l16 ?c16 ?k16 ?a17 ?l17 ?c17 ?k17 ?a18 ?l18 ?c18 ?k18 ?a19 ?l19 ?c19 ?k19 ?a20 ?l20 ?c20 ?k20 ?a21 ?l21 ?c21 ?k21 ?a22 ?l22 ?c22 ?k22 ?a23 ?l23 ?c23 ?k23 ?a24 ?l24 ?c24 ?k24 ?a25 ?l25 ?c25 ?k25 ?a26 ?l26 ?c26 ?k26 ?a27 ?l27 ?c27 ?k27 ?zz_all ?zz_any ?zz_dict ?zz_int ?zz_isinstance ?zz_len ?zz_list ?zz_range ?zz_repr ?zz_set ?zz_sorted ?zz_str ?zz_sum ?zz_tuple ?zz_zip
  all_goals (try show _=_)
  (case a0=>k_is)
  (case l0=>k_is)
  (case c0=>k_is)
  (case k0=>k_is)
  (case a1=>k_is)
  (case l1=>k_is)
  (case c1=>k_is)
  (case k1=>k_is)
  (case a2=>k_is)
  (case l2=>k_is)
  (case c2=>k_is)
  (case k2=>k_is)
  (case a3=>k_is)
  (case l3=>k_is)
  (case c3=>k_is)
  (case k3=>k_is)
  (case a4=>k_is)
  (case l4=>k_is)
  (case c4=>k_is)
  (case k4=>k_is)
  (case a5=>k_is)
  (case l5=>k_is)
  (case c5=>k_is)
  (case k5=>k_is)
  (case a6=>k_is)
  (case l6=>k_is)
  (case c6=>k_is)
  (case k6=>k_is)
  (case a7=>k_is)
  (case l7=>k_is)
  (case c7=>k_is)
  (case k7=>k_is)
  (case a8=>k_is)
  (case l8=>k_is)
  (case c8=>k_is)
  (case k8=>k_is)
  (case a9=>k_is)
  (case l9=>k_is)
  (case c9=>k_is)
  (case k9=>k_is)
  (case a10=>k_is)
  (case l10=>k_is)
  (case c10=>k_is)
  (case k10=>k_is)
  (case a11=>k_is)
  (case l11=>k_is)
  (case c11=>k_is)
  (case k11=>k_is)
  (case a12=>k_is)
  (case l12=>k_is)
  (case c12=>k_is)
  (case k12=>k_is)
  (case a13=>k_is)
  (case l13=>k_is)
  (case c13=>k_is)
  (case k13=>k_is)
  (case a14=>k_is)
  (case l14=>k_is)
  (case c14=>k_is)
  (case k14=>k_is)
  (case a15=>k_is)
  (case l15=>k_is)
  (case c15=>k_is)
  (case k15=>k_is)
  (case a16=>k_is)
  (case l16=>k_is)
  (case c16=>k_is)
  (case k16=>k_is)
  (case a17=>k_is)
  (case l17=>k_is)
  (case c17=>k_is)
  (case k17=>k_is)
  (case a18=>k_is)
  (case l18=>k_is)
  (case c18=>k_is)
  (case k18=>k_is)
  (case a19=>k_is)
  (case l19=>k_is)
  (case c19=>k_is)
  (case k19=>k_is)
  (case a20=>k_is)
  (case l20=>k_is)
  (case c20=>k_is)
  (case k20=>k_is)
  (case a21=>k_is)
  (case l21=>k_is)
  (case c21=>k_is)
  (case k21=>k_is)
  (case a22=>k_is)
  (case l22=>k_is)
  (case c22=>k_is)
  (case k22=>k_is)
  (case a23=>k_is)
  (case l23=>k_is)
  (case c23=>k_is)
  (case k23=>k_is)
  (case a24=>k_is)
  (case l24=>k_is)
  (case c24=>k_is)
  (case k24=>k_is)
  (case a25=>k_is)
  (case l25=>k_is)
  (case c25=>k_is)
  (case k25=>k_is)
  (case a26=>k_is)
  (case l26=>k_is)
  (case c26=>k_is)
  (case k26=>k_is)
  (case a27=>k_is)
  (case l27=>k_is)
  (case c27=>k_is)
  (case k27=>k_is)
  (case zz_all=>k_is)
  (case zz_any=>k_is)
  (case zz_dict=>k_is)
  (case zz_int=>k_is)
  (case zz_isinstance=>k_is)
  (case zz_len=>k_is)
  (case zz_list=>k_is)
  (case zz_range=>k_is)
  (case zz_repr=>k_is)
  (case zz_set=>k_is)
  (case zz_sorted=>k_is)
  (case zz_str=>k_is)
  (case zz_sum=>k_is)
  (case zz_tuple=>k_is)
  (case zz_zip=>k_is)
