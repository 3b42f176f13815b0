import PyProof.Rows.All
import Wide.All
import OpenK.AllK
import Wide.FinOn
import Lean
import PyProof.EqAt
import PyProof.EqKinds
import PyProof.TupleCall
import PyProof.AttrMissHeap
import PyProof.Rows.RegFStrParts
import PySem.Challenge.RW_noteboard_k29_logs_let_by_or_not
set_option Elab.async false
set_option linter.all false
set_option maxRecDepth 100000
open PySem renaming PyData -> Aa, wpAny_bind -> Ad, Value -> Aj, Shared -> Ar, starEach -> Aw, wpAny_pure -> Ax, sizeLine -> Ay, wpAny -> A6, model -> Bd, Program -> Bf, compareOp -> Bs, World -> Bx, bootBuiltins -> By, wpAny_newObj_type -> B7, behindInMarks -> B9, Around -> Ce, FuncData -> Cm, wpAny_field -> Cn, assignEach -> C2, wpAny_callSpecial?_slot -> C3, backTo -> C5, wpAny_mono -> C7, mainGlobals -> Da, wpAny_holding -> Dh, wpAny_truthy_bool -> Dl, wpAny_call_entry -> Dr, swapsWith -> Dt, wpAny_pyIter_tuple -> Dy, foldedSetIterable -> D5, wpAny_seqItems -> Ec, binaryOp -> Ed, sizeLine_eq -> Ei, Scope -> Ej, sysModules -> El, wpAny_ite_false -> Eo, mem_of_lookup -> Ey, IsPair -> E6, cLine -> Fb, holding -> Fl, wpAny_setField_rec -> Fp, assign -> Fq, wpAny_typeOf -> F0, attributeBase -> F7, sliceBounds -> F9, wpAny_passesOwn -> Gc, codeAny_builtin -> Gd, tupleKind_room_in1 -> Gh
open List renaming length_map -> Ab, length_append -> Af, getElem?_eq_getElem -> Ak, set -> Al, mem_cons_of_mem -> Am, length_cons -> An, mem_cons -> Ap, not_mem_nil -> Aq, mem_cons_self -> As, getElem?_eq_some_iff -> Au, length_singleton -> Av, size_toArray -> A0, getElem?_map -> A1, mem_of_getElem? -> A5, range -> Ba, mem_append -> Bb, mem_append_right -> Bc, map_append -> Be, mem_map -> Bg, find?_cons -> Bh, map_cons -> Bi, mem_singleton -> Bo, append_assoc -> Bp, nil_append -> Bq, length_take -> Br, append_nil -> Bt, length_drop -> Bw, length_set -> B4, getElem?_append_right -> B6, mem_range -> B8, mem_iff_getElem? -> Ca, getElem_mem -> Ci, getElem?_set_ne -> Cq, mem_filter -> Cr, map_congr_left -> Cs, any_cons -> Cu, map_map -> Cw, all_eq_true -> C0, replicate -> C4, getElem?_append_left -> C8, toArray -> Dd, mem_of_mem_take -> De, length_range -> Di, nodup_cons -> Dk, filter_cons -> Dn, any_eq_true -> Dp, getElem?_replicate -> D6, not_lt -> Ea, of_mem_zip -> Ef, flatMap_cons -> Em, mem_of_mem_drop -> Er, mem_append_left -> Es, getElem_inj -> Eu, cons_append -> Ew, drop_eq_getElem_cons -> E2, zip_cons_cons -> Fc, set_cons_zero -> Ff, getElem?_set_self' -> Fi, getElem?_set_self -> Fm, length_filter_le -> Fw, ext_getElem -> Fz, map_eq_cons_iff -> F2, length_reverse -> F5, filterMap_cons -> F6, mem_filterMap -> Ga, getElem?_cons_succ -> Gi, findIdx?_eq_some_iff_getElem -> Gk
open Bool renaming false_ne_true -> Ae, and_eq_true -> A2, true_and -> E8, eq_iff_iff -> E9, false_eq_true -> Fg, false_and -> Fo
open PySem.W renaming Frag -> Ag, keepIn -> Co, kia_one -> Ct, kas_rev -> D4, fnOf -> Ep, kia_tup -> E4
open And renaming intro -> Ah
open PySem.Heap renaming get?_push_of_some -> Ai, lt_size -> Az, get?_push_size -> A7, SameBut -> Dz, size_push -> Fn
open Nat renaming le_refl -> Ao, le_trans -> A3, ne_of_lt -> Bj, zero_le -> Bk, lt_of_lt_of_le -> Bm, le_of_ble_eq_true -> Cb, lt_irrefl -> Ek, ne_of_gt -> E1, le_of_lt -> Ft, le_succ -> F3
open PySem.Value renaming ref -> A4, none -> B3, str -> Fv
open Option.some renaming inj -> A8
open PyProof.Rows.KTD renaming datumAt -> A9
open PySem.PyData renaming depth -> Bn, canLay0 -> Bu, eqv -> B5, str -> Cg, showable -> Df, int -> Dg, intsShort -> Dm, strOk -> D8, weight -> Ee, canLayAll0 -> Eg, depthAll -> E5, shown -> Fj, shownAll_cons -> Fy
open Int renaming toNat_natCast -> Bv, emod_lt_of_pos -> Dq, emod_nonneg -> Eh, natCast_nonneg -> Ge, eq_ofNat_of_zero_le -> Gj
open Or renaming inr -> Bz, inl -> Cp
open List.cons renaming inj -> B1
open PySem.Builtin.Slice renaming slicePlaces -> Cc, sliceAdjust -> C1, sliceApplied -> Eb
open PySem.Builtin.Tuple renaming tupleExact -> Cf, tupleItemsOf -> Fx
open PyProof.Rows renaming slot_tuple_getitem -> Cj, seqObj -> Cy, envOfC -> Du, callWith_type1 -> D7, boot_range -> F8
open PySem.Builtin.SmallTypes renaming nextOf -> Ck, ownedTupleIsFree -> C9, ownedTupleHandOut -> Gb
open PySem.Obj renaming mapSeq -> Cz
open Sum renaming inr -> C6
open Option renaming isSome_iff_exists -> Dc, isSome_map -> Fk, getD_some -> Fu, map_some -> F1, bind_eq_some_iff -> Gg
open True renaming intro -> Dj
open PySem.Heap.SameBut renaming update -> Dv
open Array renaming getElem?_eq_getElem -> Dw, toList_append -> D1, length_toList -> D3
open PySem.PyData.tuple renaming inj -> Dx
open PySem.Str renaming ofString -> D0, cps_append -> Fs
open Exists renaming intro -> D9
open PySem.Around renaming under_plainId -> En
open PySem.Builtin.Range renaming rangeSize -> Et
open PySem.AutoSeq1 renaming wpAny_loadPart' -> Ex
open PySem.F renaming args_tuple_add_2 -> Ez, slot_tuple_iterator_next -> E3, entry_tuple_add -> E7, slot_tuple_add -> Fh, plainAttrs_list -> Gf
open PySem.Builtin.List renaming listTooLong -> F4
open Option renaming some -> ae, none -> ah
open Bool renaming true -> ai, false -> aj
noncomputable section
namespace L2
open PySem PySem.Spec PyProof.Rows
abbrev aN:=Sum Int Str
def lj:aN->Aj->Bool
 |.inl k,v=>Value.isInt k v
 |.inr x,v=>Value.isStrOf x v
def xR(w:Bx):aN->Int
 |.inl k=>hashInt k
 |.inr x=>hashStr w x
theorem jH:∀{k:aN}{v:Aj},lj k v=ai->(∃i t,k=Sum.inl i/\v=Value.int i t)\/(∃x t,k=C6 x/\v=Fv x t)
 |.inl i,v,h=>by
  obtain⟨t,e⟩:=Value.isInt_shape (k:=i) (v:=v) h;exact .inl ⟨i,t,rfl,e⟩
 |.inr x,v,h=>by
  obtain⟨t,e⟩:=Value.isStrOf_shape (x:=x) (v:=v) h;exact .inr ⟨x,t,rfl,e⟩
theorem Iy(i:Int)(t:Tok):lj (.inl i) (.int i t)=ai:=by simp[lj,Value.isInt]
theorem Q2(x:Str)(t:Tok):lj (.inr x) (.str x t)=ai:=by simp[lj,Value.isStrOf]
theorem Tb(a b:Int):decide ((Sum.inl a:aN)=Sum.inl b)=(a==b):=by
 by_cases e:a=b
 ·subst e;simp
 ·have h:¬(Sum.inl a:aN)=Sum.inl b:=λq=>e (Sum.inl.inj q);rw[decide_eq_false h];exact(beq_eq_false_iff_ne.mpr e).symm
theorem NO(a b:Str):decide ((C6 a:aN)=C6 b)=decide (a=b):=by
 by_cases e:a=b
 ·subst e;simp
 ·have h:¬(C6 a:aN)=C6 b:=λq=>e (Sum.inr.inj q);rw[decide_eq_false h,decide_eq_false e]
theorem LU(a:Int)(b:Str):decide ((Sum.inl a:aN)=C6 b)=aj:=decide_eq_false (λq=>nomatch q)
theorem M0(a:Str)(b:Int):decide ((C6 a:aN)=Sum.inl b)=aj:=decide_eq_false (λq=>nomatch q)
def gw(prog:Bf)(w:Bx):PySem.KeyKind prog w aN where
 is:=lj
 hash:=xR w
 inj:=λv a b ha hb=>by
  rcases jH ha with⟨i,t,rfl,rfl⟩|⟨x,t,rfl,rfl⟩
  ·rcases jH hb with⟨j,u,rfl,e⟩|⟨y,u,rfl,e⟩
   ·injection e with e1 _;rw[e1]
   ·exact nomatch e
  ·rcases jH hb with⟨j,u,rfl,e⟩|⟨y,u,rfl,e⟩
   ·exact nomatch e
   ·injection e with e1 _;rw[e1]
 byValue:=λk v h=>by
  rcases jH h with⟨i,t,rfl,rfl⟩|⟨x,t,rfl,rfl⟩<;>rfl
 pyHash:=λhv h=>by
  rcases jH hv with⟨i,t,rfl,rfl⟩|⟨x,t,rfl,rfl⟩
  ·exact wpAny_pyHash_int h
  ·exact wpAny_pyHash_str h
 eqBool:=λhu hv h=>by
  rcases jH hu with⟨i,t,rfl,rfl⟩|⟨x,t,rfl,rfl⟩
  ·rcases jH hv with⟨j,u,rfl,rfl⟩|⟨y,u,rfl,rfl⟩
   ·rw[Tb]at h;exact wpAny_eqBool_int h
   ·rw[LU]at h;exact SeqAt.EqAt.int_str i t y u _ _ _ _ h
  ·rcases jH hv with⟨j,u,rfl,rfl⟩|⟨y,u,rfl,rfl⟩
   ·rw[M0]at h;exact SeqAt.EqAt.str_int x t j u _ _ _ _ h
   ·rw[NO]at h;exact wpAny_eqBool_str h
 «strs»:=λk x t v h=>by
  rcases jH h with⟨i,u,rfl,e⟩|⟨y,u,rfl,e⟩
  ·exact nomatch e
  ·injection e with e1 _;subst e1;cases v<;>rfl
theorem Lj(prog:Bf)(w:Bx)(i:Int)(t:Tok):(gw prog w).is (.inl i) (.int i t)=ai:=Iy i t
theorem OC(prog:Bf)(w:Bx)(x:Str)(t:Tok):(gw prog w).is (.inr x) (.str x t)=ai:=Q2 x t
inductive V where
 |non|bl (b:Bool)|int (i:Int)|str (x:Str)|byt (b:Array UInt8)|flt (b:UInt64)|ref (a:Addr)|ty (n:String)
 deriving DecidableEq
def RelV:V->Aj->Prop
 |.non,u=>u=B3
 |.bl b,u=>u=Value.bool b
 |.int i,u=>∃t,u=Value.int i t
 |.str x,u=>∃t,u=Fv x t
 |.byt b,u=>∃t,u=Value.bytes b t
 |.flt b,u=>∃t,u=Value.float b t
 |.ref a,u=>u=A4 a
 |.ty n,u=>u=Value.type n
abbrev Vals:List V->List Aj->Prop:=Paired RelV
theorem Vals.length{xs:List V}{us:List Aj}(r:Vals xs us):xs.length=us.length:=Paired.length r
theorem Vals.get:∀{xs:List V}{us:List Aj}{i:Nat}{x:V},Vals xs us->xs[i]?=ae x->∃u,us[i]?=ae u/\RelV x u
 |_,_,_,_,.nil,e=>by simp at e
 |_,_,0,_,.cons r _,e=>by simp at e;subst e;exact⟨_,rfl,r⟩
 |_,_,i+1,x,.cons _ t,e=>by
  obtain⟨u,h1,h2⟩:=Vals.get (i:=i) (x:=x) t (by simpa using e);exact⟨u,by simpa using h1,h2⟩
theorem Vals.set{x:V}{u:Aj}(r:RelV x u):∀{xs:List V}{us:List Aj}(i:Nat),Vals xs us->Vals (xs.set i x) (us.set i u)
 |_,_,_,.nil=>.nil
 |_,_,0,.cons _ t=>.cons r t
 |_,_,i+1,.cons q t=>.cons q (Vals.set r i t)
theorem Vals.append:∀{xs ys:List V}{us ws:List Aj},Vals xs us->Vals ys ws->Vals (xs++ys) (us++ws)
 |_,_,_,_,.nil,s=>s
 |_,_,_,_,.cons r t,s=>.cons r (Vals.append t s)
theorem Vals.take:∀{xs:List V}{us:List Aj}(n:Nat),Vals xs us->Vals (xs.take n) (us.take n)
 |_,_,0,_=>.nil
 |_,_,_+1,.nil=>.nil
 |_,_,n+1,.cons r t=>.cons r (Vals.take n t)
theorem Vals.drop:∀{xs:List V}{us:List Aj}(n:Nat),Vals xs us->Vals (xs.drop n) (us.drop n)
 |_,_,0,r=>r
 |_,_,_+1,.nil=>.nil
 |_,_,n+1,.cons _ t=>Vals.drop n t
def RelO:Option V->Option Aj->Prop
 |some v,ae u=>RelV v u
 |none,ah=>True
 |_,_=>False
def KV{κ:Type}:List (κ×V)->List (κ×Aj)->Prop:=Paired λ(p:κ×V)(q:κ×Aj)=>p.1=q.1/\RelV p.2 q.2
def kV:aN->V
 |.inl i=>.int i
 |.inr x=>.str x
inductive HO where
 |lst (xs:List V)
 |tup (xs:List V)
 |dK (kvs:List (aN×V))|dT (kvs:List (List aN×V))
 |set (S:Int->Bool) (n:Nat)
 |ins (C dx:Addr) (fs:List (Str×V))
 |own (x:Addr)
 |xd (fs:List (Str×V))
 |met (f x:Addr)
 |rng (lo hi:Int)
 |frz (o:Obj) (u:HO)
 |tbl (ps:Array Aj)
 |ext (φ:Heap->Prop)
abbrev Hp:=Addr->Option HO
def upd(H:Hp)(a:Addr)(o:HO):Hp:=λb=>if b=a then ae o else H b
theorem bQ{H:Hp}{a:Addr}{o:HO}:upd H a o a=ae o:=by unfold upd;rw[if_pos rfl]
theorem a9{H:Hp}{a b:Addr}{o:HO}(h:b≠a):upd H a o b=H b:=by unfold upd;rw[if_neg h]
theorem AZ{H:Hp}{a:Addr}{o u:HO}:upd (upd H a o) a u=upd H a u:=by
 funext b;unfold upd;split<;>rfl
theorem Hk{H:Hp}{a b:Addr}{o u:HO}(h:H a=ae o)(h':H b=ae u)(d:o≠u):a≠b:=by
 intro e;subst e;rw[h]at h';exact d (A8 h')
theorem cP{H:Hp}{a b:Addr}{o:HO}(h:H a=ae o)(h':H b=ah):a≠b:=by
 intro e;subst e;rw[h]at h';cases h'
def IsTupP(h:Heap)(a:Addr)(items:Array Aj):Prop:=∃o,h.get? a=ae o/\o.cls=.type "tuple"/\(∃n,o.data=.seq items n)/\o.dict=ah
theorem IsTupP.tup{h:Heap}{a:Addr}{items:Array Aj}(x:IsTupP h a items):IsTup h a items:=let⟨o,e,c,d,_⟩:=x;⟨o,e,c,d⟩
theorem IsTupP.lt{h:Heap}{a:Addr}{items:Array Aj}(x:IsTupP h a items):a < h.objs.size:=let⟨_,e,_⟩:=x;Az e
theorem IsTupP.new(h:Heap)(items:Array Aj):IsTupP (h.push {cls:=.type "tuple",data:=.seq items}) h.objs.size items:=⟨_,A7 _ rfl,rfl,⟨_,rfl⟩,rfl⟩
section
variable(P:Bf)(w:Bx)
def ObjOk(H:Hp)(h:Heap)(a:Addr):HO->Prop
 |.lst xs=>xs.length<=Ay/\∃(its:List Aj)(n:Nat),Vals xs its/\h.get? a=ae {cls:=.type "list",data:=.seq its.toArray n}
 |.tup xs=>xs.length<=Ay/\∃its:List Aj,Vals xs its/\IsTupP h a its.toArray
 |.dK kvs=>kvs.length<=Ay/\(a==El)=aj/\∃vs,KV kvs vs/\h.DictOf (gw P w) a vs
 |.dT kvs=>kvs.length<=Ay/\(a==El)=aj/\∃xs:List (List aN×Addr×Aj),
   Paired (λ(p:List aN×V)(q:List aN×Addr×Aj)=>p.1=q.1/\H q.2.1=ae (.tup (p.1.map kV))/\RelV p.2 q.2.2) kvs xs /\
   ∃o es ep,h.get? a=ae o/\o.ExactDict/\o.data=.dict es ep/\es.toList=xs.map (entryOfKey (tupleKind (gw P w)))/\(xs.map (·.1)).Nodup
 |.set S n=>h.SetOf (intKind P w) a S n
 |.ins C dx fs=>H dx=ae (.own a)/\fs.length<=1000/\dx≠a/\h.get? a=ae (PySem.W.instObj C dx) /\
   ∃mA,h.Ns1 dx mA/\(∀f,RelO (fs.lookup f) (mA f))/\PySem.Within mA (fs.map (·.1))
 |.own _=>∃o,h.get? a=ae o
 |.xd fs=>∃mA,h.Ns1 a mA/\∀f,RelO (fs.lookup f) (mA f)
 |.rng lo hi=>∃t u v,h.get? a=ae {cls:=.type "range",data:=.fields #[.int lo t,.int hi u,.int 1 v]}
 |.frz o u=>h.get? a=ae o/\ObjOk H h a u
 |.tbl ps=>h.get? a=ae {cls:=.none,data:=.fields ps}
 |.met f x=>h.get? a=ae (PySem.W.methodObj (.ref f) (.ref x))
 |.ext φ=>φ h/\(∃o,h.get? a=ae o)/\∀h1 h2:Heap,φ h1->(∀o,h1.get? a=ae o->h2.get? a=ae o)->φ h2
def HOk(H:Hp)(h:Heap):Prop:=∀a o,H a=ae o->ObjOk P w H h a o
end
section
variable{P:Bf}{w:Bx}{H H':Hp}{h h':Heap}{a:Addr}{o:HO}
theorem ObjOk.lt(x:ObjOk P w H h a o):a < h.objs.size:=by
 cases o with
 |lst xs=>obtain⟨_,_,_,_,e⟩:=x;exact Az e
 |tup xs=>obtain⟨_,_,_,p⟩:=x;exact p.lt
 |dK kvs=>obtain⟨_,_,_,_,o,_,_,e,_⟩:=x;exact Az e
 |dT kvs=>obtain⟨_,_,_,_,o,_,_,e,_⟩:=x;exact Az e
 |set S n=>obtain⟨o,_,_,_,e,_⟩:=x;exact Az e
 |ins C dx fs=>obtain⟨_,_,_,e,_⟩:=x;exact Az e
 |own y=>obtain⟨_,e⟩:=x;exact Az e
 |xd fs=>obtain⟨_,⟨_,_,_,e,_⟩,_⟩:=x;exact Az e
 |rng lo hi=>obtain⟨_,_,_,e⟩:=x;exact Az e
 |frz ob u=>obtain⟨e,_⟩:=x;exact Az e
 |tbl ps=>exact Az (show h.get? a=ae _ from x)
 |met f y=>exact Az (show h.get? a=ae _ from x)
 |ext φ=>obtain⟨_,⟨_,e⟩,_⟩:=x;exact Az e
theorem Paired.mapP{α β:Type}{F G:α->β->Prop}:∀{l₁:List α}{l₂:List β},Paired F l₁ l₂->(∀a b,F a b->G a b)->Paired G l₁ l₂
 |_,_,.nil,_=>.nil
 |_,_,.cons r t,f=>.cons (f _ _ r) (Paired.mapP t f)
theorem ObjOk.stay(x:ObjOk P w H h a o)(k:∀b u,(b=a\/H b=ae (.own a))->h.get? b=ae u->h'.get? b=ae u)
  (ho:∀b,H b=ae (.own a)->H' b=ae (.own a)) (ht:∀b xs,H b=ae (.tup xs)->H' b=ae (.tup xs)):ObjOk P w H' h' a o:=by
 induction o with
 |lst xs=>obtain⟨z,its,n,r,e⟩:=x;exact⟨z,its,n,r,k _ _ (.inl rfl) e⟩
 |tup xs=>obtain⟨z,its,r,ob,e,c⟩:=x;exact⟨z,its,r,ob,k _ _ (.inl rfl) e,c⟩
 |dK kvs=>obtain⟨z,y,vs,r,ob,es,ep,e,c⟩:=x;exact⟨z,y,vs,r,ob,es,ep,k _ _ (.inl rfl) e,c⟩
 |dT kvs=>
  obtain⟨z,y,xs,r,ob,es,ep,e,c⟩:=x;exact⟨z,y,xs,Paired.mapP r λp q z=>⟨z.1,ht _ _ z.2.1,z.2.2⟩,ob,es,ep,k _ _ (.inl rfl) e,c⟩
 |set S n=>obtain⟨ob,es,ep,t,e,c⟩:=x;exact⟨ob,es,ep,t,k _ _ (.inl rfl) e,c⟩
 |ins C dx fs=>
  obtain⟨d,z,ne,e,mA,⟨od,es,ep,e2,c⟩,r⟩:=x;exact⟨ho _ d,z,ne,k _ _ (.inl rfl) e,mA,⟨od,es,ep,k _ _ (.inr d) e2,c⟩,r⟩
 |own y=>obtain⟨ob,e⟩:=x;exact⟨ob,k _ _ (.inl rfl) e⟩
 |xd fs=>obtain⟨mA,⟨od,es,ep,e,c⟩,r⟩:=x;exact⟨mA,⟨od,es,ep,k _ _ (.inl rfl) e,c⟩,r⟩
 |rng lo hi=>obtain⟨t,u,v,e⟩:=x;exact⟨t,u,v,k _ _ (.inl rfl) e⟩
 |frz ob u ih=>obtain⟨e,q⟩:=x;exact⟨k _ _ (.inl rfl) e,ih q⟩
 |tbl ps=>
  have e:h.get? a=ae {cls:=.none,data:=.fields ps}:=x;show h'.get? a=ae {cls:=.none,data:=.fields ps};exact k a _ (.inl rfl) e
 |met f y=>
  have e:h.get? a=ae (PySem.W.methodObj (.ref f) (.ref y)):=x;show h'.get? a=ae (PySem.W.methodObj (.ref f) (.ref y));exact k a _ (.inl rfl) e
 |ext φ=>obtain⟨p,⟨o,e⟩,st⟩:=x;exact⟨st _ _ p λo q=>k _ _ (.inl rfl) q,⟨o,k _ _ (.inl rfl) e⟩,st⟩
theorem HOk.lt(x:HOk P w H h)(e:H a=ae o):a < h.objs.size:=(x a o e).lt
theorem HOk.fresh(x:HOk P w H h)(e:h.objs.size<=a):H a=ah:=by
 cases q:H a with
 |none=>rfl
 |some u=>exact absurd (Bm (x.lt q) e) (Ek _)
theorem HOk.kept(x:HOk P w H h)(k:∀b u,h.get? b=ae u->h'.get? b=ae u):HOk P w H h':=λa o e=>
 (x a o e).stay (λb u _ q=>k b u q) (λ_ q=>q) λ_ _ q=>q
theorem HOk.laid(x:HOk P w H h)(k:∀b u,h.get? b=ae u->h'.get? b=ae u)(hp:h.objs.size<=a)(new:ObjOk P w (upd H a o) h' a o):HOk P w (upd H a o) h':=λb u e=>by
 have hn:=x.fresh hp;by_cases hb:b=a
 ·subst hb;rw[bQ]at e;cases e;exact new
 ·rw[a9 hb]at e;exact(x b u e).stay (λc v _ q=>k c v q) (λc q=>by rw[a9 (cP q hn)];exact q) λc xs q=>by rw[a9 (cP q hn)];exact q
end
def Rd(H:Hp)(a:Addr)(u:HO):Prop:=H a=ae u\/∃o,H a=ae (.frz o u)
theorem Rd.ok{P:Bf}{w:Bx}{H:Hp}{h:Heap}{a:Addr}{u:HO}(r:Rd H a u)(x:HOk P w H h):ObjOk P w H h a u:=by
 rcases r with r|⟨o,r⟩
 ·exact x a u r
 ·obtain⟨_,q⟩:=x a _ r;exact q
def pF:Option HO->Prop
 |some (.lst _)=>True
 |some (.dK _)=>True
 |some (.dT _)=>True
 |some (.set _ _)=>True
 |some (.ins _ _ _)=>True
 |some (.ext _)=>True
 |_=>False
section
variable{P:Bf}{w:Bx}{H:Hp}{h h':Heap}{x e:Addr}{o':HO}
theorem HOk.write(ok:HOk P w H h)(mu:pF (H x))(he:e=x\/H e=ae (.own x))(k:∀b u,b≠e->h.get? b=ae u->h'.get? b=ae u)(heo:∃u,h'.get? e=ae u)
  (new:ObjOk P w (upd H x o') h' x o'):HOk P w (upd H x o') h':=λb u q=>by
 have nown:∀c y,H c=ae (.own y)->c≠x:=λc y r z=>by subst z;rw[r]at mu;exact mu
 have ntup:∀c xs,H c=ae (.tup xs)->c≠x:=λc xs r z=>by subst z;rw[r]at mu;exact mu
 by_cases hb:b=x
 ·subst hb;rw[bQ]at q;cases q;exact new
 ·rw[a9 hb]at q;by_cases hbe:b=e
  ·have q':H b=ae (.own x):=by
    rcases he with z|z
    ·exact absurd (hbe.trans z) hb
    ·rw[hbe];exact z
   rw[q]at q';cases q';obtain⟨v,hv⟩:=heo;exact⟨v,by rw[hbe];exact hv⟩
  ·refine(ok b u q).stay (λc v hc r=>k c v ?_ r) (λc r=>by rw[a9 (nown c b r)];exact r) λc xs r=>by rw[a9 (ntup c xs r)];exact r
   rcases hc with rfl|hc
   ·exact hbe
   ·rintro rfl
    rcases he with z|z
    ·exact nown c b hc z
    ·rw[hc]at z;cases z;exact hb rfl
end
structure Un(fs ex:List Addr)(H H':Hp)(h h':Heap):Prop where
 keep:∀b o,h.get? b=ae o->H b=ah->b∉fs->b∉ex->h'.get? b=ae o
 slot:∀b o,h.get? b=ae o->H b=ah->b∈fs->b∉ex->∃sl,h'.get? b=ae {o with slots:=sl}
 free:∀b o,h.get? b=ae o->H b=ah->b∉ex->H' b=ah
 there:∀b o,h.get? b=ae o->b∉ex->∃o',h'.get? b=ae o'
 tups:∀b xs,H b=ae (.tup xs)->H' b=ae (.tup xs)
 frzs:∀b o u,H b=ae (.frz o u)->H' b=ae (.frz o u)
 tbls:∀b ps,H b=ae (.tbl ps)->∃more,H' b=ae (.tbl (ps++more))
section
variable{fs fs' ex ex':List Addr}{H H1 H2:Hp}{h h1 h2 h':Heap}{a x e:Addr}{o:HO}
theorem Un.any(u:Un fs ex H H1 h h1){b:Addr}{ob:Obj}(q:h.get? b=ae ob)(n:H b=ah)(hx:b∉ex):∃sl,h1.get? b=ae {ob with slots:=sl}:=by
 by_cases hb:b∈fs
 ·exact u.slot b ob q n hb hx
 ·exact⟨ob.slots,u.keep b ob q n hb hx⟩
theorem Un.kept(k:∀b u,h.get? b=ae u->h'.get? b=ae u):Un fs ex H H h h':=
 ⟨λb ob q _ _ _=>k b ob q,λb ob q _ _ _=>⟨ob.slots,k b ob q⟩,λ_ _ _ n _=>n,λb ob q _=>⟨ob,k b ob q⟩,λ_ _ q=>q,λ_ _ _ q=>q,λ_ ps q=>⟨#[],by rw[q];simp⟩⟩
theorem Un.refl:Un fs ex H H h h:=Un.kept λ_ _ q=>q
theorem Un.laid(k:∀b u,h.get? b=ae u->h'.get? b=ae u)(hp:h.objs.size<=a)(hn:H a=ah):Un fs ex H (upd H a o) h h' where
 keep:=λb u q _ _ _=>k b u q
 slot:=λb u q _ _ _=>⟨u.slots,k b u q⟩
 free:=λb u q n _=>by rw[a9 (Bj (Bm (Az q) hp))];exact n
 there:=λb u q _=>⟨u,k b u q⟩
 tups:=λb xs q=>by rw[a9 (cP q hn)];exact q
 frzs:=λb u xs q=>by rw[a9 (cP q hn)];exact q
 tbls:=λb ps q=>⟨#[],by rw[a9 (cP q hn),q];simp⟩
theorem Un.write(mu:pF (H x))(he:e=x\/H e=ae (.own x))(k:∀b u,b≠e->h.get? b=ae u->h'.get? b=ae u)(heo:∃u,h'.get? e=ae u):Un fs ex H (upd H x o) h h':=by
 have hx:∀b,H b=ah->b≠x:=λb n z=>by subst z;rw[n]at mu;exact mu
 have hb:∀b,H b=ah->b≠e:=λb n z=>by
  subst z;rcases he with r|r
  ·exact hx b n r
  ·rw[n]at r;cases r
 have hm:∀b u,H b=ae u->¬pF (ae u)->b≠x:=λb u q nm z=>by subst z;rw[q]at mu;exact nm mu
 refine⟨λb u q n _ _=>k b u (hb b n) q,λb u q n _ _=>⟨u.slots,k b u (hb b n) q⟩,λb u q n _=>by rw[a9 (hx b n)];exact n,λb u q _=>?_,
  λb xs q=>by rw[a9 (hm b _ q λz=>z)];exact q,λb u xs q=>by rw[a9 (hm b _ q λz=>z)];exact q,λb ps q=>⟨#[],by rw[a9 (hm b _ q λz=>z),q];simp⟩⟩
 by_cases hbe:b=e
 ·subst hbe;exact heo
 ·exact⟨u,k b u hbe q⟩
end
def sV(h:Heap)(H:Hp):List Addr:=(Ba h.objs.size).filter λa=>(H a).isSome
def fV(h:Heap)(H:Hp):Heap:=PySem.W.hideAll h (sV h H)
theorem KA(h:Heap)(H:Hp):(fV h H).objs.size=h.objs.size:=PySem.W.hideAll_size _ _
theorem Lu{h:Heap}{H:Hp}{b:Addr}{o:Obj}(e:h.get? b=ae o)(n:H b=ah):(fV h H).get? b=ae o:=
 PySem.W.hideAll_get _ e λhm=>by
  have q:(H b).isSome=ai:=(Cr.mp hm).2;rw[n]at q;simp at q
theorem RV{h:Heap}{H:Hp}{b:Addr}{o:Obj}(e:(fV h H).get? b=ae o):h.get? b=ae o/\H b=ah:=by
 have e':h.get? b=ae o:=PySem.W.of_hideAll (sV h H) e;refine⟨e',?_⟩;cases q:H b with
 |none=>rfl
 |some x=>
  have hm:b∈sV h H:=Cr.mpr ⟨B8.mpr (Az e'),by simp[q]⟩;have z:(fV h H).get? b=ah:=PySem.W.hideAll_none (sV h H) hm;rw[z]at e;cases e
def Py(g h:Heap)(L:Addr):List (Addr×Obj):=(Ba h.objs.size).filterMap λa=>if a=L\/(g.get? a).isSome=ai then ah else(h.get? a).map λo=>(a,o)
def aQ(g h:Heap)(L d:Addr):List (Addr×Obj):=(Py g h L).filter λp=>decide (p.1≠d)
structure Mod(K:Ag)(mg:Str->Option Aj)(base:Heap):Prop where
 kin:K.In base
 glob:base.Ns Da mg
 blt:∃mb,base.Ns builtinsNs mb/\∀x:Str,x≠"__name__"->mb x=By x
 nolimit:base.NoLimit
structure Cx where
 prog:Bf
 w:Bx
 K:Ag
 mg:Str->Option Aj
 base:Heap
 A:Ce
 N:List Str
 s₀:Ar
 H₀:Hp
 env:Env
 outer:List Env
 stack:List Env
 ex:List Addr
 fn:Str->Bool
 calm:Bool
 pn:List (Addr×Obj)
 xe:Aj->Ar->Prop
def iK(l:List Env):List Addr:=l.filterMap (·.frame)
abbrev Cx.fs(X:Cx):List Addr:=iK X.outer
def gh(sc:Ej)(x:Str):Prop:=sc.names.lookup x=ae .local\/sc.names.lookup x=ae .cell\/sc.names.lookup x=ae .free
def jV(sc:Ej)(x:Str):Prop:=sc.names.lookup x=ae .local\/sc.names.lookup x=ae .cell
def vA(env:Env)(h:Heap)(m:Str->Option Aj)(x:Str)(u:Aj):Prop:=
 (env.kindOf x=ae .local/\m x=ae u)\/((env.kindOf x=ae .cell\/env.kindOf x=ae .free)/\∃c,env.cells.lookup x=ae c/\h.IsCell c (ae u))
structure Cx.Ok(X:Cx):Prop where
 mod:Mod X.K X.mg X.base
 kind:X.env.scope.kind=.function
 glob:X.env.globals=Da
 blt:X.env.builtins=builtinsNs
 above:X.s₀.heap.objs.size<=X.env.locals
 inj:∀x y c,X.env.cells.lookup x=ae c->X.env.cells.lookup y=ae c->x=y
 has:∀x,(X.env.kindOf x=ae .cell\/X.env.kindOf x=ae .free)->∃c,X.env.cells.lookup x=ae c
 cab:∀x c,X.fn x=ai->X.env.cells.lookup x=ae c->X.s₀.heap.objs.size<=c
 hd:X.calm=ai->X.A.handled=ah
 frames:X.A.frames=ae X.stack
 stk:X.stack=X.outer\/(X.stack=X.env::X.outer/\X.env.frame=ae X.env.locals)
 exf:∀b∈X.ex,b≠X.env.locals/\∀x c,X.env.cells.lookup x=ae c->c≠b
 bs:∀b o,X.base.get? b=ae o->X.s₀.heap.get? b=ae o/\X.H₀ b=ah
 bsz:X.base.objs.size<=X.s₀.heap.objs.size
 noex:∀b o,X.base.get? b=ae o->b∉X.ex
 exfs:∀b∈X.ex,b∉X.fs
 funs:X.s₀.heap.FunFrames X.base X.outer
 frf:∀b∈X.fs,X.H₀ b=ah
structure Inv(X:Cx)(pins:List (Addr×Obj))(σ:List (Option V))(H:Hp)(s:Ar):Prop where
 ok:X.Ok
 os:s.os=X.s₀.os
 bare:AllBare s.gens
 base:Un X.fs X.ex X.H₀ H X.s₀.heap s.heap
 loc:∃m,s.heap.Ns X.env.locals m/\∀(i:Nat)(x:Str)(v:V),X.N[i]?=ae x->σ[i]?=ae (ae v)->gh X.env.scope x->∃u,RelV v u/\vA X.env s.heap m x u
 cell:∀x c,X.env.cells.lookup x=ae c->∃v,s.heap.IsCell c v
 free:H X.env.locals=ah
 freeC:∀x c,X.env.cells.lookup x=ae c->H c=ah
 pin:∀p∈X.pn++pins,s.heap.get? p.1=ae p.2/\H p.1=ah/\p.1≠X.env.locals/\p.1∉X.fs/\∀v,p.2.data≠.cell v
 hok:HOk X.prog X.w H s.heap
 len:σ.length=X.N.length
section
variable{X:Cx}{pins:List (Addr×Obj)}{σ:List (Option V)}{H H':Hp}{s:Ar}{h':Heap}
theorem Cx.Ok.nofr(ok:X.Ok){b:Addr}{o:Obj}(e:X.base.get? b=ae o):b∉X.fs:=λhb=>by
 have:=(ok.funs.mem hb).1;rw[e]at this;cases this
theorem Inv.bs(I:Inv X pins σ H s):∀b o,X.base.get? b=ae o->s.heap.get? b=ae o/\H b=ah:=λb o e=>
 ⟨I.base.keep b o (I.ok.bs b o e).1 (I.ok.bs b o e).2 (I.ok.nofr e) (I.ok.noex b o e),I.base.free b o (I.ok.bs b o e).1 (I.ok.bs b o e).2 (I.ok.noex b o e)⟩
theorem Inv.bk(I:Inv X pins σ H s):∀b o,X.base.get? b=ae o->s.heap.get? b=ae o:=λb o e=>(I.bs b o e).1
theorem Inv.mod(I:Inv X pins σ H s):Mod X.K X.mg X.base:=I.ok.mod
theorem Inv.kIn(I:Inv X pins σ H s):X.K.In s.heap:=I.ok.mod.kin.keeps I.bk
theorem Inv.lt(I:Inv X pins σ H s):X.env.locals < s.heap.objs.size:=let⟨_,hn,_⟩:=I.loc;hn.lt
theorem Inv.sz(I:Inv X pins σ H s):X.s₀.heap.objs.size<=s.heap.objs.size:=A3 I.ok.above (Ft I.lt)
theorem Inv.nofs(I:Inv X pins σ H s){a:Addr}(h:s.heap.objs.size<=a):a∉X.fs:=λhb=>by
 obtain⟨_,o,ho,_⟩:=I.ok.funs.mem hb;exact absurd (Bm (Az ho) (A3 I.sz h)) (Ek _)
theorem Inv.cne(I:Inv X pins σ H s):∀x c,X.env.cells.lookup x=ae c->c≠X.env.locals:=λx c e z=>by
 obtain⟨v,o,ho,hd⟩:=I.cell x c e;obtain⟨m,⟨o',es,ep,ho',hd',_⟩,_⟩:=I.loc;rw[z,ho']at ho;cases ho;rw[hd']at hd;cases hd
theorem Inv.funs(I:Inv X pins σ H s):s.heap.FunFrames X.base X.outer:=by
 have all:∀(l:List Env),(∀b∈iK l,b∈X.fs)->X.s₀.heap.FunFrames X.base l->s.heap.FunFrames X.base l:=by
  intro l
  induction l with
  |nil=>intro _ _;trivial
  |cons env r ih=>
   intro hs hl;obtain⟨hk,⟨L,o,hf,hn,ho,hd⟩,hr⟩:=hl;have hL:L∈X.fs:=hs L (by unfold iK;rw[F6,hf];exact As);obtain⟨sl,e⟩:=I.base.slot L o ho (I.ok.frf L hL) hL λz=>I.ok.exfs L z hL;exact⟨hk,⟨L,_,hf,hn,e,hd⟩,ih (λb hb=>hs b (by unfold iK;rw[F6,hf];exact Am _ hb)) hr⟩
 exact all X.outer (λ_ hb=>hb) I.ok.funs
theorem Inv.stack(I:Inv X pins σ H s):s.heap.FunFrames X.base X.stack:=by
 rcases I.ok.stk with e|⟨e,hf⟩
 ·rw[e];exact I.funs
 ·rw[e];obtain⟨m,hn,_⟩:=I.loc;refine .cons (by rw[I.ok.kind];decide) hf hn ?_ I.funs;exact Heap.get?_none_of_le (A3 I.ok.bsz I.ok.above)
theorem Inv.stkSub(I:Inv X pins σ H s):∀b∈iK X.stack,b∈X.env.locals::X.fs:=λb hb=>by
 rcases I.ok.stk with e|⟨e,hf⟩
 ·rw[e]at hb;exact Am _ hb
 ·rw[e]at hb;unfold iK at hb;rw[F6,hf]at hb;exact hb
theorem Inv.stkFree(I:Inv X pins σ H s):∀b∈iK X.stack,H b=ah:=λb hb=>by
 rcases Ap.mp (I.stkSub b hb)with e|hb
 ·rw[e];exact I.free
 ·obtain⟨_,o,ho,_⟩:=I.ok.funs.mem hb;exact I.base.free b o ho (I.ok.frf b hb) λz=>I.ok.exfs b z hb
theorem Inv.step{g':Array GenState}{t':Nat}{d':Drawn}{ch:List Addr}(I:Inv X pins σ H s)
  (hch:∀b∈ch,(b∈X.ex\/X.s₀.heap.objs.size<=b)/\b≠X.env.locals/\(∀x c,X.env.cells.lookup x=ae c->c≠b)/\∀p∈X.pn++pins,p.1≠b)
  (keep:∀b o,b≠X.env.locals->b∉X.fs->b∉ch->s.heap.get? b=ae o->H b=ah->h'.get? b=ae o)
  (slot:∀b o,b≠X.env.locals->b∈X.fs->b∉ch->s.heap.get? b=ae o->H b=ah->∃sl,h'.get? b=ae {o with slots:=sl}) (free:∀b o,b∉ch->s.heap.get? b=ae o->H b=ah->H' b=ah)
  (there:∀b o,b∉ch->s.heap.get? b=ae o->∃o',h'.get? b=ae o')
  (tups:∀b xs,H b=ae (.tup xs)->H' b=ae (.tup xs)) (frzs:∀b o u,H b=ae (.frz o u)->H' b=ae (.frz o u)) (tbls:∀b ps,H b=ae (.tbl ps)->∃more,H' b=ae (.tbl (ps++more)))
  (ns:∀m,s.heap.Ns X.env.locals m->h'.Ns X.env.locals m) (hok:HOk X.prog X.w H' h') (hg:AllBare g'):
  Inv X pins σ H' {s with heap:=h',gens:=g',drawn:=d',toks:=t'}:=by
 have neL:∀b o,X.s₀.heap.get? b=ae o->b≠X.env.locals:=λb o e=>Bj (Bm (Az e) I.ok.above);have neC:∀b o,X.s₀.heap.get? b=ae o->b∉X.ex->b∉ch:=λb o e hx hb=>by
  rcases(hch b hb).1 with z|z
  ·exact hx z
  ·exact absurd (Bm (Az e) z) (Ek _)
 have cellK:∀x c,X.env.cells.lookup x=ae c->∀v,s.heap.IsCell c v->h'.IsCell c v:=λx c e v ⟨o,ho,hd⟩=>by
  have nch:c∉ch:=λz=>(hch c z).2.2.1 x c e rfl;by_cases hc:c∈X.fs
  ·obtain⟨sl,q⟩:=slot c o (I.cne x c e) hc nch ho (I.freeC x c e);exact⟨_,q,hd⟩
  ·exact⟨o,keep c o (I.cne x c e) hc nch ho (I.freeC x c e),hd⟩
 refine⟨I.ok,I.os,hg,⟨λb o e n hb hx=>?_,λb o e n hb hx=>?_,λb o e n hx=>?_,λb o e hx=>?_,λb xs e=>tups b xs (I.base.tups b xs e),λb o xs e=>frzs b o xs (I.base.frzs b o xs e),λb ps e=>?_⟩,?_,λx c e=>?_,?_,λx c e=>?_,λp hp=>?_,hok,I.len⟩
 ·exact keep b o (neL b o e) hb (neC b o e hx) (I.base.keep b o e n hb hx) (I.base.free b o e n hx)
 ·obtain⟨sl,e1⟩:=I.base.slot b o e n hb hx;obtain⟨sl',e2⟩:=slot b _ (neL b o e) hb (neC b o e hx) e1 (I.base.free b o e n hx);exact⟨sl',e2⟩
 ·obtain⟨o',e1⟩:=I.base.there b o e hx;exact free b o' (neC b o e hx) e1 (I.base.free b o e n hx)
 ·obtain⟨o',e1⟩:=I.base.there b o e hx;exact there b o' (neC b o e hx) e1
 ·obtain⟨m1,e1⟩:=I.base.tbls b ps e;obtain⟨m2,e2⟩:=tbls b _ e1;exact⟨m1++m2,by rw[e2,Array.append_assoc]⟩
 ·obtain⟨m,hn,hl⟩:=I.loc;refine⟨m,ns m hn,λi x v e1 e2 e3=>?_⟩;obtain⟨u,r,l⟩:=hl i x v e1 e2 e3;refine⟨u,r,?_⟩;rcases l with l|⟨k,c,e,z⟩
  ·exact .inl l
  ·exact .inr ⟨k,c,e,cellK x c e _ z⟩
 ·obtain⟨v,z⟩:=I.cell x c e;exact⟨v,cellK x c e v z⟩
 ·obtain⟨m,⟨o,_,_,ho,_⟩,_⟩:=I.loc;exact free _ o (λz=>(hch _ z).2.1 rfl) ho I.free
 ·obtain⟨v,o,ho,hd⟩:=I.cell x c e;exact free c o (λz=>(hch c z).2.2.1 x c e rfl) ho (I.freeC x c e)
 ·obtain⟨e,n,ne,nf,d⟩:=I.pin p hp;have nch:p.1∉ch:=λz=>(hch p.1 z).2.2.2 p hp rfl;exact⟨keep p.1 p.2 ne nf nch e n,free p.1 p.2 nch e n,ne,nf,d⟩
theorem Inv.un{t':Nat}(I:Inv X pins σ H s)(u:Un X.fs [] H H' s.heap h')(hok:HOk X.prog X.w H' h'):Inv X pins σ H' {s with heap:=h',toks:=t'}:=by
 obtain⟨m,⟨o,es,ep,ho,r⟩,_⟩:=id I.loc;obtain⟨sl,hL⟩:=u.any ho I.free (by simp);exact I.step (g':=s.gens) (d':=s.drawn) (ch:=[]) (λ_ z=>nomatch z) (λb o _ hb _ e n=>u.keep b o e n hb (by simp)) (λb o _ hb _ e n=>u.slot b o e n hb (by simp)) (λb o _ e n=>u.free b o e n (by simp)) (λb o _ e=>u.there b o e (by simp)) u.tups u.frzs u.tbls (λm' hm=>by
  obtain⟨o',es',ep',ho',r'⟩:=hm;rw[ho]at ho';cases ho';exact⟨_,es',ep',hL,r'⟩) hok I.bare
theorem Inv.call{g':Array GenState}{t':Nat}{d':Drawn}{ch:List Addr}(I:Inv X pins σ H s)(u:Un (iK X.stack) ch H H' s.heap h')(hok:HOk X.prog X.w H' h')(hg:AllBare g')
  (hch:∀b∈ch,(b∈X.ex\/X.s₀.heap.objs.size<=b)/\b≠X.env.locals/\(∀x c,X.env.cells.lookup x=ae c->c≠b)/\∀p∈X.pn++pins,p.1≠b):
  Inv X pins σ H' {s with heap:=h',gens:=g',drawn:=d',toks:=t'}:=by
 obtain⟨m,⟨o,es,ep,ho,r⟩,_⟩:=id I.loc;obtain⟨sl,hL⟩:=u.any ho I.free λz=>(hch _ z).2.1 rfl;exact I.step (ch:=ch) hch (λb o hL hb hc e n=>u.keep b o e n (λz=>(Ap.mp (I.stkSub b z)).elim hL hb) hc) (λb o _ _ hc e n=>u.any e n hc) (λb o hc e n=>u.free b o e n hc) (λb o hc e=>u.there b o e hc) u.tups u.frzs u.tbls (λm' hm=>by
  obtain⟨o',es',ep',ho',r'⟩:=hm;rw[ho]at ho';cases ho';exact⟨_,es',ep',hL,r'⟩) hok hg
theorem Inv.turned{t':Nat}{it:Addr}(I:Inv X pins σ H s)(k:∀b o,b≠it->s.heap.get? b=ae o->h'.get? b=ae o)(hn:H it=ah)(hL:it≠X.env.locals)
  (h1:it∈X.ex\/X.s₀.heap.objs.size<=it) (h2:∀x c,X.env.cells.lookup x=ae c->c≠it) (h3:∀p∈X.pn++pins,p.1≠it):Inv X pins σ H {s with heap:=h',toks:=t'}:=by
 have nit:∀b u,H b=ae u->b≠it:=λb u e z=>by rw[z,hn]at e;cases e
 refine I.step (g':=s.gens) (d':=s.drawn) (ch:=[it]) (λb hb=>?_) (λb o _ _ hc e _=>k b o (λz=>hc (by simp[z])) e) (λb o _ _ hc e _=>⟨o.slots,k b o (λz=>hc (by simp[z])) e⟩) (λ_ _ _ _ n=>n)
  (λb o hc e=>⟨o,k b o (λz=>hc (by simp[z])) e⟩) (λ_ _ e=>e) (λ_ _ _ e=>e) (λb ps e=>⟨#[],by rw[e];simp⟩) (λm hm=>?_) (λb u e=>?_) I.bare
 ·have e:b=it:=by simpa using hb
  subst e;exact⟨h1,hL,h2,h3⟩
 ·obtain⟨o,es,ep,ho,r⟩:=hm;exact⟨o,es,ep,k _ o (Ne.symm hL) ho,r⟩
 ·refine(I.hok b u e).stay (λc v hc q=>k c v ?_ q) (λ_ q=>q) λ_ _ q=>q;rcases hc with z|z
  ·rw[z];exact nit b u e
  ·exact nit c _ z
theorem Inv.tok(I:Inv X pins σ H s)(t:Nat):Inv X pins σ H {s with toks:=t}:=I.un (h':=s.heap) (t':=t) Un.refl I.hok
theorem Inv.kept{t':Nat}(I:Inv X pins σ H s)(k:∀b u,s.heap.get? b=ae u->h'.get? b=ae u):Inv X pins σ H {s with heap:=h',toks:=t'}:=I.un (Un.kept k) (I.hok.kept k)
theorem Inv.laid{a:Addr}{o:HO}{t':Nat}(I:Inv X pins σ H s)(k:∀b u,s.heap.get? b=ae u->h'.get? b=ae u)(hp:s.heap.objs.size<=a)(new:ObjOk X.prog X.w (upd H a o) h' a o):
  Inv X pins σ (upd H a o) {s with heap:=h',toks:=t'}:=I.un (Un.laid k hp (I.hok.fresh hp)) (I.hok.laid k hp new)
theorem Inv.write{x e:Addr}{o:HO}{t':Nat}(I:Inv X pins σ H s)(mu:pF (H x))(he:e=x\/H e=ae (.own x))(k:∀b u,b≠e->s.heap.get? b=ae u->h'.get? b=ae u)(heo:∃u,h'.get? e=ae u)
  (new:ObjOk X.prog X.w (upd H x o) h' x o):Inv X pins σ (upd H x o) {s with heap:=h',toks:=t'}:=I.un (Un.write mu he k heo) (I.hok.write mu he k heo new)
theorem Inv.pins_of{pins':List (Addr×Obj)}(I:Inv X pins σ H s)(h:∀p∈pins',s.heap.get? p.1=ae p.2/\H p.1=ah/\p.1≠X.env.locals/\p.1∉X.fs/\∀v,p.2.data≠.cell v):Inv X pins' σ H s:=
 ⟨I.ok,I.os,I.bare,I.base,I.loc,I.cell,I.free,I.freeC,λp hp=>(Bb.mp hp).elim (λz=>I.pin p (Es _ z)) (h p),I.hok,I.len⟩
theorem Gy{N:List Str}(hN:N.Nodup){i j:Nat}{x:Str}(a:N[i]?=ae x)(b:N[j]?=ae x):i=j:=by
 obtain⟨h1,e1⟩:=Au.mp a;obtain⟨h2,e2⟩:=Au.mp b;exact(Eu hN).mp (e1.trans e2.symm)
theorem FJ{M:Model}{A:Ce}{E:Aj->Ar->Prop}{i:Nat}{x:Str}{v:V}{u:Aj}{Q:Unit->Ar->Prop}(I:Inv X pins σ H s)(hN:X.N.Nodup)(hi:X.N[i]?=ae x)(hx:jV X.env.scope x)(r:RelV v u)
  (h:∀s',Inv X pins (σ.set i (ae v)) H s'->(∃a,Dz a s.heap s'.heap/\(a=X.env.locals\/X.env.cells.lookup x=ae a))->Q () s') (hf:X.fn x=ai\/X.env.scope.names.lookup x=ae .local:=by first|exact .inl rfl|exact .inr rfl|assumption):A6 M A (storeName X.env x u) Q E s:=by
 obtain⟨m,hn,hl⟩:=id I.loc;have hcls:(X.env.scope.kind==.class || (X.env.scope.kind==.module&&X.env.locals != X.env.globals))=aj:=by rw[I.ok.kind];rfl
 have hiσ:i < σ.length:=by rw[I.len];exact(Au.mp hi).1
 have cne:=I.cne;have tracked:∀{a:Addr}{h':Heap},(∃o,s.heap.get? a=ae o/\H a=ah)->Dz a s.heap h'->HOk X.prog X.w H h':=λ{a h'} ha hs b ob e=>by
  obtain⟨_,_,hfree⟩:=ha;refine(I.hok b ob e).stay (λc w' hc q=>(hs.2 c ?_).trans q) (λ_ q=>q) λ_ _ q=>q
  rintro rfl
  rcases hc with rfl|hc
  ·rw[hfree]at e;cases e
  ·rw[hfree]at hc;cases hc
 rcases hx with hk|hk
 ·refine wpAny_storeName_local hk hn (λh' hn' hs=>?_) hcls;obtain⟨oL,_,_,hoL,_⟩:=id hn;refine h _ ⟨I.ok,I.os,I.bare,⟨λb o e n hb hx=>?_,λb o e n hb hx=>?_,I.base.free,λb o e hx=>?_,I.base.tups,I.base.frzs,I.base.tbls⟩,⟨_,hn',λj y v' e1 e2 e3=>?_⟩,λy c e=>?_,I.free,I.freeC,λp hp=>?_,tracked ⟨oL,hoL,I.free⟩ hs,by simpa using I.len⟩ ⟨_,hs,.inl rfl⟩
  ·exact(hs.2 b (Bj (Bm (Az e) I.ok.above))).trans (I.base.keep b o e n hb hx)
  ·obtain⟨sl,e1⟩:=I.base.slot b o e n hb hx;exact⟨sl,(hs.2 b (Bj (Bm (Az e) I.ok.above))).trans e1⟩
  ·obtain⟨o',e1⟩:=I.base.there b o e hx;exact⟨o',(hs.2 b (Bj (Bm (Az e) I.ok.above))).trans e1⟩
  ·by_cases hj:j=i
   ·subst hj;rw[hi]at e1;cases e1;rw[Fm hiσ]at e2;cases e2;exact⟨u,r,.inl ⟨hk,by simp⟩⟩
   ·rw[Cq (Ne.symm hj)]at e2;obtain⟨u',r',q⟩:=hl j y v' e1 e2 e3;refine⟨u',r',?_⟩;rcases q with⟨k,e⟩|⟨k,c,e,z⟩
    ·refine .inl ⟨k,?_⟩;have:y≠x:=λe=>hj (Gy hN e1 (e▸hi));simp[this,e]
    ·exact .inr ⟨k,c,e,z.sameBut hs (cne y c e)⟩
  ·obtain⟨w',z⟩:=I.cell y c e;exact⟨w',z.sameBut hs (cne y c e)⟩
  ·obtain⟨e,n,ne,nf,d⟩:=I.pin p hp;exact⟨(hs.2 p.1 ne).trans e,n,ne,nf,d⟩
 ·have hfn:X.fn x=ai:=by
   rcases hf with z|z
   ·exact z
   ·rw[z]at hk;cases hk
  obtain⟨c,hc⟩:=I.ok.has x (.inl hk);obtain⟨w',z⟩:=I.cell x c hc;refine wpAny_storeName_cell I.ok.kind hk hc z (λh' hc' hs=>?_);obtain⟨oc,hoc,hocd⟩:=id z;refine h {s with heap:=h'} ⟨I.ok,I.os,I.bare,⟨λb o e n hb hx=>?_,λb o e n hb hx=>?_,I.base.free,λb o e hx=>?_,I.base.tups,I.base.frzs,I.base.tbls⟩,⟨m,hn.sameBut hs (Ne.symm (cne x c hc)),λj y v' e1 e2 e3=>?_⟩,λy c' e=>?_,I.free,I.freeC,λp hp=>?_,tracked ⟨oc,hoc,I.freeC x c hc⟩ hs,by simpa using I.len⟩ ⟨c,hs,.inr hc⟩
  ·exact(hs.2 b (Bj (Bm (Az e) (I.ok.cab x c hfn hc)))).trans (I.base.keep b o e n hb hx)
  ·obtain⟨sl,e1⟩:=I.base.slot b o e n hb hx;exact⟨sl,(hs.2 b (Bj (Bm (Az e) (I.ok.cab x c hfn hc)))).trans e1⟩
  ·obtain⟨o',e1⟩:=I.base.there b o e hx;exact⟨o',(hs.2 b (Bj (Bm (Az e) (I.ok.cab x c hfn hc)))).trans e1⟩
  ·by_cases hj:j=i
   ·subst hj;rw[hi]at e1;cases e1;rw[Fm hiσ]at e2;cases e2;exact⟨u,r,.inr ⟨.inl hk,c,hc,hc'⟩⟩
   ·rw[Cq (Ne.symm hj)]at e2;obtain⟨u',r',q⟩:=hl j y v' e1 e2 e3;refine⟨u',r',?_⟩;rcases q with q|⟨k,c',e,z'⟩
    ·exact .inl q
    ·refine .inr ⟨k,c',e,z'.sameBut hs ?_⟩
     rintro rfl
     exact hj (Gy hN e1 (I.ok.inj _ _ _ e hc▸hi))
  ·by_cases hcc:c'=c
   ·subst hcc;exact⟨_,hc'⟩
   ·obtain⟨w2,z2⟩:=I.cell y c' e;exact⟨w2,z2.sameBut hs hcc⟩
  ·obtain⟨e,n,ne,nf,d⟩:=I.pin p hp;refine⟨(hs.2 p.1 ?_).trans e,n,ne,nf,d⟩;intro q;rw[q,hoc]at e;have q':oc=p.2:=A8 e;exact d w' (by rw[<-q'];exact hocd)
theorem AH{M:Model}{A:Ce}{E:Aj->Ar->Prop}{i:Nat}{x:Str}{v:V}{u:Aj}{Q:Unit->Ar->Prop}(I:Inv X pins σ H s)(hN:X.N.Nodup)(hi:X.N[i]?=ae x)(hx:jV X.env.scope x)(r:RelV v u)
  (h:∀s',Inv X pins (σ.set i (ae v)) H s'->Q () s') (hf:X.fn x=ai\/X.env.scope.names.lookup x=ae .local:=by first|exact .inl rfl|exact .inr rfl|assumption):A6 M A (storeName X.env x u) Q E s:=
 FJ I hN hi hx r (λs' I' _=>h s' I') hf
theorem Inv.call'{s':Ar}{ch:List Addr}(I:Inv X pins σ H s)(ho:s'.os=s.os)(u:Un (iK X.stack) ch H H' s.heap s'.heap)(hok:HOk X.prog X.w H' s'.heap)(hg:AllBare s'.gens)
  (hch:∀b∈ch,(b∈X.ex\/X.s₀.heap.objs.size<=b)/\b≠X.env.locals/\(∀x c,X.env.cells.lookup x=ae c->c≠b)/\∀p∈X.pn++pins,p.1≠b):Inv X pins σ H' s':=by
 obtain⟨h',g',d',t',o'⟩:=s';have e:o'=s.os:=ho;subst e;exact I.call (g':=g') (t':=t') (d':=d') u hok hg hch
end
abbrev XK:=Aj->Option Addr->Hp->Prop
abbrev St:=List (Option V)
abbrev VK:=V->Hp->Prop
abbrev TE:=St->Hp->VK->Prop
abbrev TT:=St->Hp->(Bool->Hp->Prop)->Prop
abbrev TA:=St->Hp->(List V->Hp->Prop)->Prop
structure Ends where
 nx:St->Hp->Prop
 rt:VK
 bk:St->Hp->Prop:=λ_ _=>False
 ct:St->Hp->Prop:=λ_ _=>False
abbrev TS:=Ends->St->Hp->Prop
def EP(X:Cx)(pins:List (Addr×Obj))(σ:St)(Q:VK)(u:Aj)(s':Ar):Prop:=∃v H',Inv X pins σ H' s'/\RelV v u/\Q v H'
def TP(X:Cx)(pins:List (Addr×Obj))(σ:St)(Q:Bool->Hp->Prop)(b:Bool)(s':Ar):Prop:=∃H',Inv X pins σ H' s'/\Q b H'
def AP(X:Cx)(pins:List (Addr×Obj))(σ:St)(Q:List V->Hp->Prop)(us:List Aj)(s':Ar):Prop:=∃vs H',Inv X pins σ H' s'/\Vals vs us/\Q vs H'
def SP(X:Cx)(pins:List (Addr×Obj))(D:Ends)(f:Flow)(s':Ar):Prop:=
 match f with
 |.next=>∃σ' H',Inv X pins σ' H' s'/\D.nx σ' H'
 |.brk=>∃σ' H',Inv X pins σ' H' s'/\D.bk σ' H'
 |.cont=>∃σ' H',Inv X pins σ' H' s'/\D.ct σ' H'
 |.ret u=>∃v σ' H',Inv X pins σ' H' s'/\RelV v u/\D.rt v H'
def PE(X:Cx)(e:Expr)(t:TE):Prop:=
 ∀(pins:List (Addr×Obj))(s:Ar)(σ:St)(H:Hp)(Q:VK),Inv X pins σ H s->t σ H Q->A6 (Bd X.prog X.w) X.A (eval e X.env) (EP X pins σ Q) X.xe s
def PT(X:Cx)(e:Expr)(t:TT):Prop:=
 ∀(pins:List (Addr×Obj))(s:Ar)(σ:St)(H:Hp)(Q:Bool->Hp->Prop),Inv X pins σ H s->t σ H Q->A6 (Bd X.prog X.w) X.A (isTrue e X.env (eval e X.env)) (TP X pins σ Q) X.xe s
def PW(X:Cx)(e:Expr)(t:TT):Prop:=
 ∀(whole:Sem Aj)(pins:List (Addr×Obj))(s:Ar)(σ:St)(H:Hp)(Q:Bool->Hp->Prop),Inv X pins σ H s->t σ H Q->A6 (Bd X.prog X.w) X.A (isTrue e X.env whole) (TP X pins σ Q) X.xe s
theorem PW.pt{X:Cx}{e:Expr}{t:TT}(h:PW X e t):PT X e t:=h _
def PA(X:Cx)(es:List Expr)(t:TA):Prop:=
 ∀(pos:Pos)(pins:List (Addr×Obj))(s:Ar)(σ:St)(H:Hp)(Q:List V->Hp->Prop),Inv X pins σ H s->t σ H Q->A6 (Bd X.prog X.w) X.A (spliced (C5 pos (Aw es X.env))) (AP X pins σ Q) X.xe s
def PS(X:Cx)(st:Stmt)(t:TS):Prop:=
 ∀(pins:List (Addr×Obj))(s:Ar)(σ:St)(H:Hp)(D:Ends),Inv X pins σ H s->t D σ H->A6 (Bd X.prog X.w) X.A (exec st X.env) (SP X pins D) X.xe s
def PSs(X:Cx)(st:List Stmt)(t:TS):Prop:=
 ∀(pins:List (Addr×Obj))(s:Ar)(σ:St)(H:Hp)(D:Ends),Inv X pins σ H s->t D σ H->A6 (Bd X.prog X.w) X.A (execs st X.env) (SP X pins D) X.xe s
theorem aZ{α:Type}{t:Sem α}{Q Q':α->Ar->Prop}{M:Model}{A:Ce}{E:Aj->Ar->Prop}{s:Ar}(h:A6 M A t Q E s)(hQ:∀a s,Q a s->Q' a s):A6 M A t Q' E s:=C7 h hQ λ_ _ x=>x
section
variable{X:Cx}
theorem UH{a b:Expr}{ta tb:TE}(ha:PE X a ta)(hb:PE X b tb){pins:List (Addr×Obj)}{s:Ar}{σ:St}{H:Hp}{R:V->V->Hp->Prop}(I:Inv X pins σ H s)(h:ta σ H λx H1=>tb σ H1 λy H2=>R x y H2)
  {α:Type} {Q:α->Ar->Prop} {f:Aj->Aj->Sem α}
  (hf:∀v u s2 x y H2,Inv X pins σ H2 s2->RelV x v->RelV y u->R x y H2->A6 (Bd X.prog X.w) X.A (f v u) Q X.xe s2):
  A6 (Bd X.prog X.w) X.A (eval a X.env) (λv s₁=>A6 (Bd X.prog X.w) X.A (eval b X.env) (λu s₂=>A6 (Bd X.prog X.w) X.A (f v u) Q X.xe s₂) X.xe s₁) X.xe s:=by
 refine aZ (ha pins s σ H _ I h) λv s1 ⟨x,H1,I1,r1,q1⟩=>?_;refine aZ (hb pins s1 σ H1 _ I1 q1) λu s2 ⟨y,H2,I2,r2,q2⟩=>?_;exact hf v u s2 x y H2 I2 r1 r2 q2
def cW(i:Nat):TE:=λσ H Q=>∃v,σ[i]?=ae (ae v)/\Q v H
def tC(v:V):TE:=λ_ H Q=>Q v H
theorem gT{i:Nat}{x:Str}{pos:Pos}(hN:X.N[i]?=ae x)(hv:gh X.env.scope x)(hd:(x==("__debug__":Str))=aj:=by decide)(hcd:(x==("__classdict__":Str))=aj:=by decide):PE X (.Name x pos) (cW i):=by
 intro pins s σ H Q I h;obtain⟨v,e,h⟩:=h;obtain⟨m,hn,hl⟩:=I.loc;obtain⟨u,r,l⟩:=hl i x v hN e hv;have fin:EP X pins σ Q u s:=⟨v,H,I,r,h⟩;rcases l with⟨hk,hm⟩|⟨hk,c,hc,hcell⟩
 ·exact wpAny_Name (wpAny_loadName_local I.ok.kind hk hn hm fin) hd
 ·rcases hk with hk|hk
  ·exact wpAny_Name (wpAny_loadName_cell I.ok.kind hk hc hcell fin) hd
  ·exact wpAny_Name (wpAny_loadName_free I.ok.kind hk hc hcell fin hcd) hd
theorem de{i j pos}:PE X (.Constant (.int i) j pos) (tC (.int i)):=λ_ _ _ H _ I h=>wpAny_Constant_int ⟨.int i,H,I.tok _,⟨_,rfl⟩,h⟩
theorem Mu{b j pos}:PE X (.Constant (.bool b) j pos) (tC (.bl b)):=λ_ _ _ H _ I h=>Constant_bool ⟨.bl b,H,I,rfl,h⟩
theorem sE{j pos}:PE X (.Constant .none j pos) (tC .non):=λ_ _ _ H _ I h=>Constant_none ⟨.non,H,I,rfl,h⟩
theorem Nv{x j pos}:PE X (.Constant (.str x) j pos) (tC (.str x)):=λ_ _ _ H _ I h=>Calls.Constant_str ⟨.str x,H,I.tok _,⟨_,rfl⟩,h⟩
def Gl(X:Cx)(x:Str):Prop:=X.env.kindOf x=ae .globalImplicit
theorem Hy{E:Aj->Ar->Prop}{pins:List (Addr×Obj)}{s:Ar}{σ:St}{H:Hp}{x:Str}{u:Aj}{pos:Pos}{Q:Aj->Ar->Prop}(I:Inv X pins σ H s)(hg:Gl X x)(hm:X.mg x=ae u)(h:Q u s)
  (hd:(x==("__debug__":Str))=aj:=by decide):A6 (Bd X.prog X.w) X.A (eval (.Name x pos) X.env) Q E s:=
 Calls.Name_function_global I.ok.kind hg (Calls.loadGlobal_global (by rw[I.ok.glob];exact I.mod.glob.keeps I.bk) hm h) hd
theorem mw{E:Aj->Ar->Prop}{pins:List (Addr×Obj)}{s:Ar}{σ:St}{H:Hp}{x:Str}{u:Aj}{pos:Pos}{Q:Aj->Ar->Prop}(I:Inv X pins σ H s)(hg:Gl X x)(hm:X.mg x=ah)(hv:By x=ae u)(h:Q u s)
  (hn:x≠"__name__":=by decide) (hd:(x==("__debug__":Str))=aj:=by decide):A6 (Bd X.prog X.w) X.A (eval (.Name x pos) X.env) Q E s:=by
 obtain⟨mb,h1,h2⟩:=I.mod.blt;exact Calls.Name_function_global I.ok.kind hg (Calls.loadGlobal_builtin (by rw[I.ok.glob];exact I.mod.glob.keeps I.bk) hm (by rw[I.ok.blt];exact h1.keeps I.bk) ((h2 x hn).trans hv) h) hd
theorem pZ{x:Str}{v:V}{u:Aj}{pos:Pos}(hg:Gl X x)(hm:X.mg x=ae u)(r:RelV v u)(hd:(x==("__debug__":Str))=aj:=by decide):PE X (.Name x pos) (tC v):=
 λ_ _ _ H _ I h=>Hy I hg hm ⟨v,H,I,r,h⟩ hd
theorem vZ{x:Str}{v:V}{u:Aj}{pos:Pos}(hg:Gl X x)(hm:X.mg x=ah)(hv:By x=ae u)(r:RelV v u)(hn:x≠"__name__":=by decide)(hd:(x==("__debug__":Str))=aj:=by decide):PE X (.Name x pos) (tC v):=
 λ_ _ _ H _ I h=>mw I hg hm hv ⟨v,H,I,r,h⟩ hn hd
variable{a b:Expr}{ta tb:TE}{pos:Pos}
def PC(X:Cx)(op:CmpOp)(a b:Expr)(t:TE):Prop:=
 ∀(pins:List (Addr×Obj))(s:Ar)(σ:St)(H:Hp)(Q:VK),Inv X pins σ H s->t σ H Q->
  A6 (Bd X.prog X.w) X.A (eval a X.env) (λv s₁=>A6 (Bd X.prog X.w) X.A (eval b X.env) (λu s₂=>A6 (Bd X.prog X.w) X.A (Bs op v u) (EP X pins σ Q) X.xe s₂) X.xe s₁) X.xe s
theorem yr(b:Expr){op:CmpOp}(h:op≠.In)(h2:op≠.NotIn):B9 op b=aj:=by
 have e1:(op==CmpOp.In)=aj:=by cases op<;>first|rfl|exact absurd rfl h
 have e2:(op==CmpOp.NotIn)=aj:=by cases op<;>first|rfl|exact absurd rfl h2
 cases b<;>simp[B9,e1,e2]
def tB(t:TE):TT:=λσ H Q=>t σ H λx H1=>∃c,x=.bl c/\Q c H1
theorem FV{op:CmpOp}{t:TE}(h:PC X op a b t)(h1:B9 op b=aj:=by first|exact yr _ (by decide) (by decide)|rfl):PE X (.Compare a [op] [b] pos) t:=λpins s σ H Q I hw=>wpAny_Compare1 (h pins s σ H Q I hw) h1
theorem QN{op:CmpOp}{t:TE}(h:PC X op a b t)(h1:B9 op b=aj:=by first|exact yr _ (by decide) (by decide)|rfl):PT X (.Compare a [op] [b] pos) (tB t):=by
 intro pins s σ H Q I hw;refine wpAny_isTrue_Compare1 (aZ (h pins s σ H _ I hw) λv s1 h1=>aZ h1 λu s2 h2=>aZ h2 λc s3 ⟨x,H1,I1,r1,q1⟩=>?_) h1;obtain⟨d,rfl,q⟩:=q1;cases r1;exact Dl ⟨H1,I1,q⟩
theorem IC{e:Expr}{t:TE}(h:PE X e t)(he:∀whole,isTrue e X.env whole=(do let v <-whole;standAt e.pos;Fl [v] (truthy v)):=by intro _;rfl):PT X e (tB t):=by
 intro pins s σ H Q I hw;refine isTrue_plain (aZ (h pins s σ H _ I hw) λv s1 ⟨x,H1,I1,r1,q1⟩=>?_) (he _);obtain⟨d,rfl,q⟩:=q1;cases r1;exact Dl ⟨H1,I1,q⟩
variable{tA tB':TT}{aQ:List Expr}
def oN(t u:TT):TT:=λσ H Q=>t σ H λc H1=>if c=ai then u σ H1 Q else Q aj H1
def HG(t u:TT):TT:=λσ H Q=>t σ H λc H1=>if c=ai then Q ai H1 else u σ H1 Q
def om(t:TT):TT:=λσ H Q=>t σ H λc H1=>Q (!c) H1
theorem Gw(ha:PT X a tA):PW X (.BoolOp .And [a] pos) tA:=by
 intro wh pins s σ H Q I h;refine isTrue_and (aZ (ha pins s σ H Q I h) λc s1 e=>?_);cases c with
 |true=>exact isTrue_and_nil e
 |false=>exact e
theorem IE(ha:PT X a tA):PW X (.BoolOp .Or [a] pos) tA:=by
 intro wh pins s σ H Q I h;refine isTrue_or (aZ (ha pins s σ H Q I h) λc s1 e=>?_);cases c with
 |false=>exact isTrue_or_nil e
 |true=>exact e
theorem yo(ha:PT X a tA)(hb:PW X (.BoolOp .And (b::aQ) pos) tB'):PW X (.BoolOp .And (a::b::aQ) pos) (oN tA tB'):=by
 intro wh pins s σ H Q I h;refine isTrue_and (aZ (ha pins s σ H _ I h) λc s1 ⟨H1,I1,q1⟩=>?_);cases c with
 |true=>exact hb wh pins s1 σ H1 Q I1 q1
 |false=>exact⟨H1,I1,q1⟩
theorem LH(ha:PT X a tA)(hb:PW X (.BoolOp .Or (b::aQ) pos) tB'):PW X (.BoolOp .Or (a::b::aQ) pos) (HG tA tB'):=by
 intro wh pins s σ H Q I h;refine isTrue_or (aZ (ha pins s σ H _ I h) λc s1 ⟨H1,I1,q1⟩=>?_);cases c with
 |true=>exact⟨H1,I1,q1⟩
 |false=>exact hb wh pins s1 σ H1 Q I1 q1
theorem Q5(ha:PT X a tA):PT X (.UnaryOp .Not a pos) (om tA):=by
 intro pins s σ H Q I h;exact isTrue_not (ha pins s σ H (λc H1=>Q (!c) H1) I h)
def CD(ta tb:TE):TE:=λσ H Q=>ta σ H λx H1=>∃c,x=.bl c/\if c=ai then tb σ H1 Q else Q (.bl aj) H1
def oW(ta tb:TE):TE:=λσ H Q=>ta σ H λx H1=>∃c,x=.bl c/\if c=ai then Q (.bl ai) H1 else tb σ H1 Q
def GX(ta:TE):TE:=λσ H Q=>ta σ H λx H1=>∃c,x=.bl c/\Q (.bl (!c)) H1
theorem KL{op}{t:TE}(h:PE X a t):PE X (.BoolOp op [a] pos) t:=λpins s σ H Q I hw=>BoolOp_one (h pins s σ H Q I hw)
theorem Me(ha:PE X a ta)(hb:PE X (.BoolOp .And (b::aQ) pos) tb):PE X (.BoolOp .And (a::b::aQ) pos) (CD ta tb):=by
 intro pins s σ H Q I h;refine BoolOp_and (aZ (ha pins s σ H _ I h) λv s1 ⟨x,H1,I1,r1,q1⟩=>?_);obtain⟨c,rfl,q1⟩:=q1;cases r1;refine Dl ?_;cases c with
 |true=>exact hb pins s1 σ H1 Q I1 q1
 |false=>exact⟨.bl aj,H1,I1,rfl,q1⟩
theorem PF(ha:PE X a ta)(hb:PE X (.BoolOp .Or (b::aQ) pos) tb):PE X (.BoolOp .Or (a::b::aQ) pos) (oW ta tb):=by
 intro pins s σ H Q I h;refine BoolOp_or (aZ (ha pins s σ H _ I h) λv s1 ⟨x,H1,I1,r1,q1⟩=>?_);obtain⟨c,rfl,q1⟩:=q1;cases r1;refine Dl ?_;cases c with
 |false=>exact hb pins s1 σ H1 Q I1 q1
 |true=>exact⟨.bl ai,H1,I1,rfl,q1⟩
theorem RQ(ha:PE X a ta):PE X (.UnaryOp .Not a pos) (GX ta):=by
 intro pins s σ H Q I h;refine UnaryOp_ (aZ (ha pins s σ H _ I h) λv s1 ⟨x,H1,I1,r1,q1⟩=>?_);obtain⟨c,rfl,q1⟩:=q1;cases r1;exact not_of (Dl ⟨.bl (!c),H1,I1,rfl,q1⟩)
def xU(t:TT)(ta tb:TE):TE:=λσ H Q=>t σ H λc H1=>if c=ai then ta σ H1 Q else tb σ H1 Q
theorem OV{c:Expr}(hc:PT X c tA)(ha:PE X a ta)(hb:PE X b tb):PE X (.IfExp c a b pos) (xU tA ta tb):=by
 intro pins s σ H Q I h;refine wpAny_IfExp (aZ (hc pins s σ H _ I h) λd s1 ⟨H1,I1,q1⟩=>?_);cases d with
 |true=>exact ha pins s1 σ H1 Q I1 q1
 |false=>exact hb pins s1 σ H1 Q I1 q1
end
def SqL(K:Ag)(H:Hp)(a:Addr)(xs:List V):Prop:=
 Rd H a (.lst xs) \/
  ∃(o:Obj)(its:Array Aj)(n:Nat),K.lookup a=ae o/\o.cls=.type "list"/\o.dict=ah/\o.data=.seq its n/\its.size<=Ay/\Vals xs its.toList
def SqT(K:Ag)(H:Hp)(a:Addr)(xs:List V):Prop:=
 Rd H a (.tup xs) \/
  ∃(o:Obj)(its:Array Aj)(n:Nat),K.lookup a=ae o/\o.cls=.type "tuple"/\o.data=.seq its n/\its.size<=Ay/\Vals xs its.toList
def uC:Aj->Option V
 |.none=>ae .non
 |.bool b=>ae (.bl b)
 |.int i _=>ae (.int i)
 |.str x _=>ae (.str x)
 |.bytes b _=>ae (.byt b)
 |.float b _=>ae (.flt b)
 |.ref a=>ae (.ref a)
 |.type n=>ae (.ty n)
 |_=>ah
theorem RelV.abs{x:V}{u:Aj}(r:RelV x u):uC u=ae x:=by
 cases x with
 |non=>cases r;rfl
 |bl _=>cases r;rfl
 |int _=>obtain⟨t,rfl⟩:=r;rfl
 |str _=>obtain⟨t,rfl⟩:=r;rfl
 |byt _=>obtain⟨t,rfl⟩:=r;rfl
 |flt _=>obtain⟨t,rfl⟩:=r;rfl
 |ref _=>cases r;rfl
 |ty _=>cases r;rfl
theorem RelV.inj{x y:V}{u:Aj}(r:RelV x u)(q:RelV y u):x=y:=A8 (r.abs.symm.trans q.abs)
theorem Vals.inj:∀{xs ys:List V}{us:List Aj},Vals xs us->Vals ys us->xs=ys
 |_,_,_,.nil,.nil=>rfl
 |_,_,_,.cons r t,.cons r' t'=>by rw[r.inj r',Vals.inj t t']
section
variable{X:Cx}{pins:List (Addr×Obj)}{σ:St}{H:Hp}{s:Ar}{a:Addr}{xs ys:List V}
theorem SqL.of{K:Ag}(h:H a=ae (.lst xs)):SqL K H a xs:=.inl (.inl h)
theorem SqT.of{K:Ag}(h:H a=ae (.tup xs)):SqT K H a xs:=.inl (.inl h)
theorem Inv.list(I:Inv X pins σ H s)(h:SqL X.K H a xs):∃its:List Aj,Vals xs its/\PlainL s.heap a its.toArray/\xs.length<=Ay:=by
 rcases h with h|⟨o,its,n,hk,hc,hd,hs,hz,r⟩
 ·obtain⟨z,its,n,r,e⟩:=h.ok I.hok;exact⟨its,r,⟨_,n,e,rfl,rfl,rfl⟩,z⟩
 ·refine⟨its.toList,r,⟨o,n,I.kIn a o hk,hc,hd,by simpa using hs⟩,?_⟩;have e:=r.length;simp only[D3]at e;omega
theorem Inv.tuple(I:Inv X pins σ H s)(h:SqT X.K H a xs):∃its:List Aj,Vals xs its/\IsTup s.heap a its.toArray/\xs.length<=Ay:=by
 rcases h with h|⟨o,its,n,hk,hc,hs,hz,r⟩
 ·obtain⟨z,its,r,p⟩:=h.ok I.hok;exact⟨its,r,p.tup,z⟩
 ·refine⟨its.toList,r,⟨o,I.kIn a o hk,hc,n,by simpa using hs⟩,?_⟩;have e:=r.length;simp only[D3]at e;omega
theorem Inv.list_inj(I:Inv X pins σ H s)(h:SqL X.K H a xs)(h':SqL X.K H a ys):xs=ys:=by
 obtain⟨its,r,⟨o,n,e,_,_,d⟩,_⟩:=I.list h;obtain⟨its',r',⟨o',n',e',_,_,d'⟩,_⟩:=I.list h';rw[e]at e';cases e';rw[d]at d';injection d' with d1 _;have:its=its':=by simpa using congrArg Array.toList d1
 subst this;exact r.inj r'
theorem Inv.tuple_inj(I:Inv X pins σ H s)(h:SqT X.K H a xs)(h':SqT X.K H a ys):xs=ys:=by
 obtain⟨its,r,⟨o,e,_,n,d⟩,_⟩:=I.tuple h;obtain⟨its',r',⟨o',e',_,n',d'⟩,_⟩:=I.tuple h';rw[e]at e';cases e';rw[d]at d';injection d' with d1 _;have:its=its':=by simpa using congrArg Array.toList d1
 subst this;exact r.inj r'
end
abbrev Cx.wish(X:Cx)(E:Aj->Ar->Prop):Cx:={ X with xe:=E}
abbrev Cx.nox(X:Cx):Cx:=X.wish λ_ _=>False
theorem Cx.Ok.wish{X:Cx}(ok:X.Ok)(E:Aj->Ar->Prop):(X.wish E).Ok:=
 ⟨ok.mod,ok.kind,ok.glob,ok.blt,ok.above,ok.inj,ok.has,ok.cab,ok.hd,ok.frames,ok.stk,ok.exf,ok.bs,ok.bsz,ok.noex,ok.exfs,ok.funs,ok.frf⟩
theorem Cx.Ok.unwish{X:Cx}{E:Aj->Ar->Prop}(ok:(X.wish E).Ok):X.Ok:=
 ⟨ok.mod,ok.kind,ok.glob,ok.blt,ok.above,ok.inj,ok.has,ok.cab,ok.hd,ok.frames,ok.stk,ok.exf,ok.bs,ok.bsz,ok.noex,ok.exfs,ok.funs,ok.frf⟩
section
variable{X:Cx}{pins:List (Addr×Obj)}{σ:St}{H:Hp}{s:Ar}{E:Aj->Ar->Prop}
theorem Inv.wish(I:Inv X pins σ H s)(E:Aj->Ar->Prop):Inv (X.wish E) pins σ H s:=⟨I.ok.wish E,I.os,I.bare,I.base,I.loc,I.cell,I.free,I.freeC,I.pin,I.hok,I.len⟩
theorem Inv.unwish(I:Inv (X.wish E) pins σ H s):Inv X pins σ H s:=⟨I.ok.unwish,I.os,I.bare,I.base,I.loc,I.cell,I.free,I.freeC,I.pin,I.hok,I.len⟩
theorem SP.unwish{D:Ends}{f:Flow}{s':Ar}(h:SP (X.wish E) pins D f s'):SP X pins D f s':=by
 cases f with
 |next=>obtain⟨σ',H',I,q⟩:=h;exact⟨σ',H',I.unwish,q⟩
 |brk=>obtain⟨σ',H',I,q⟩:=h;exact⟨σ',H',I.unwish,q⟩
 |cont=>obtain⟨σ',H',I,q⟩:=h;exact⟨σ',H',I.unwish,q⟩
 |ret u=>obtain⟨v,σ',H',I,r,q⟩:=h;exact⟨v,σ',H',I.unwish,r,q⟩
theorem PSs.nox{st:List Stmt}{t:TS}(h:PSs X.nox st t):PSs X st t:=λpins s σ H D I hw=>
 C7 (h pins s σ H D (I.wish _) hw) (λ_ _ q=>q.unwish) λ_ _ z=>False.elim z
end
section
variable{X:Cx}{st:Stmt}{aQ:List Stmt}{t u:TS}{e:Expr}{te:TE}{pos:Pos}
def zj:TS:=λD σ H=>D.nx σ H
def oE(t u:TS):TS:=λD σ H=>t {D with nx:=u D} σ H
theorem sC:PSs X [] zj:=λ_ _ σ H _ I h=>wpAny_execs_nil ⟨σ,H,I,h⟩
theorem iO(h1:PS X st t)(h2:PSs X aQ u):PSs X (st::aQ) (oE t u):=by
 intro pins s σ H D I h;refine wpAny_execs_cons (aZ (h1 pins s σ H {D with nx:=u D} I h) λf s1 q=>?_);cases f with
 |next=>
  obtain⟨σ',H',I',q⟩:=q;exact h2 pins s1 σ' H' D I' q
 |ret v=>exact q
 |brk=>exact q
 |cont=>exact q
theorem nz(h1:PS X st t):PSs X [st] t:=by
 intro pins s σ H D I h;refine wpAny_execs_cons (aZ (h1 pins s σ H D I h) λf s1 q=>?_);cases f with
 |next=>exact wpAny_execs_nil q
 |ret v=>exact q
 |brk=>exact q
 |cont=>exact q
theorem Inv.quiet{pins:List (Addr×Obj)}{σ:St}{H:Hp}{s:Ar}(I:Inv X pins σ H s):interactive X.env=aj:=by simp[interactive,I.ok.kind]
def qE(te:TE):TS:=λD σ H=>te σ H λ_ H1=>D.nx σ H1
theorem t7(he:PE X e te)(hs:Dt e ah pos.line X.env=pure aj:=by rfl):PS X (.Expr e pos) (qE te):=by
 intro pins s σ H D I h;exact wpAny_Expr_any (aZ (he pins s σ H _ I h) λv s1 ⟨x,H1,I1,r1,q1⟩=>⟨σ,H1,I1,q1⟩) I.quiet hs
def lU(te:TE):TS:=λD σ H=>te σ H D.rt
theorem m6(he:PE X e te):PS X (.Return (ae e) pos) (lU te):=by
 intro pins s σ H D I h;exact wpAny_Return_some (aZ (he pins s σ H _ I h) λv s1 ⟨x,H1,I1,r1,q1⟩=>⟨x,σ,H1,I1,r1,q1⟩)
def ph(c:TT)(t u:TS):TS:=λD σ H=>c σ H λb H1=>if b=ai then t D σ H1 else u D σ H1
theorem qx{c:Expr}{a b:List Stmt}{tc:TT}(hc:PT X c tc)(ha:PSs X a t)(hb:PSs X b u):PS X (.If c a b pos) (ph tc t u):=by
 intro pins s σ H D I h;refine wpAny_If (aZ (hc pins s σ H _ I h) λd s1 ⟨H1,I1,q1⟩=>?_);cases d with
 |true=>exact ha pins s1 σ H1 D I1 q1
 |false=>exact hb pins s1 σ H1 D I1 q1
end
abbrev TG:=V->St->Hp->(St->Hp->Prop)->Prop
abbrev iM:=List V->St->Hp->(St->Hp->Prop)->Prop
def PG(X:Cx)(target:Expr)(t:TG):Prop:=
 ∀(pins:List (Addr×Obj))(s:Ar)(σ:St)(H:Hp)(v:V)(u:Aj)(Q:St->Hp->Prop),Inv X pins σ H s->RelV v u->t v σ H Q->
  A6 (Bd X.prog X.w) X.A (Fq target X.env u) (λ_ s'=>∃σ' H',Inv X pins σ' H' s'/\Q σ' H') X.xe s
def pJ(X:Cx)(ts:List Expr)(t:iM):Prop:=
 ∀(pins:List (Addr×Obj))(s:Ar)(σ:St)(H:Hp)(vs:List V)(us:List Aj)(Q:St->Hp->Prop),Inv X pins σ H s->Vals vs us->t vs σ H Q->
  A6 (Bd X.prog X.w) X.A (assignInOrder ((C2 ts X.env).map (·.2)) us) (λ_ s'=>∃σ' H',Inv X pins σ' H' s'/\Q σ' H') X.xe s
abbrev k8:=V->V->V->Hp->(Hp->Prop)->Prop
def oZ(X:Cx)(t:k8):Prop:=
 ∀(pins:List (Addr×Obj))(s:Ar)(σ:St)(H:Hp)(o i v:V)(ov iv u:Aj)(Q:Hp->Prop),Inv X pins σ H s->RelV o ov->RelV i iv->RelV v u->t o i v H Q->
  A6 (Bd X.prog X.w) X.A (setItem ov iv u) (λ_ s'=>∃H',Inv X pins σ H' s'/\Q H') X.xe s
section
variable{X:Cx}{pos:Pos}
def ib(i:Nat):TG:=λv σ H Q=>Q (σ.set i (ae v)) H
theorem Rz{i:Nat}{x:Str}(hN:X.N.Nodup)(hi:X.N[i]?=ae x)(hx:jV X.env.scope x)(hf:X.fn x=ai\/X.env.scope.names.lookup x=ae .local:=by first|exact .inl rfl|exact .inr rfl|assumption):PG X (.Name x pos) (ib i):=by
 intro pins s σ H v u Q I r h;exact wpAny_assign_Name (AH I hN hi hx r (λs' I'=>⟨_,H,I',h⟩) hf)
def lW:iM:=λvs σ H Q=>vs=[]/\Q σ H
def rC(t:TG)(u:iM):iM:=λvs σ H Q=>∃v r,vs=v::r/\t v σ H λσ' H'=>u r σ' H' Q
theorem BN:pJ X [] lW:=by
 intro pins s σ H vs us Q I r h;obtain⟨e,h⟩:=h;subst e;cases r;exact assignInOrder_nil ⟨σ,H,I,h⟩
theorem ug{e:Expr}{es:List Expr}{t:TG}{u:iM}(h1:PG X e t)(h2:pJ X es u)
  (hs:(C2 (e::es) X.env).map (·.2)=Fq e X.env::(C2 es X.env).map (·.2):=by rfl):pJ X (e::es) (rC t u):=by
 intro pins s σ H vs us Q I r h;obtain⟨v,vr,e1,h⟩:=h;subst e1;cases r with
 |cons r rr=>
  rw[hs];refine assignInOrder_cons (aZ (h1 pins s σ H _ _ _ I r h) λ_ s1 ⟨σ1,H1,I1,q1⟩=>?_);exact h2 pins s1 σ1 H1 _ _ Q I1 rr q1
def j3(K:Ag)(n:Nat)(t:iM):TG:=λv σ H Q=>∃a xs,v=.ref a/\SqT K H a xs/\xs.length=n/\t xs σ H Q
theorem FK{es:List Expr}{k:Nat}{t:iM}{n:Nat}(hc:X.calm=ai)(h:pJ X es t)
  (hn:(C2 es X.env).length=n:=by rfl) (hst:(C2 es X.env).findIdx? (·.1)=ah:=by rfl):PG X (.Tuple es k pos) (j3 X.K n t):=by
 intro pins s σ H v u Q I r hw;obtain⟨a,xs,e1,hq,hl,hw⟩:=hw;subst e1;cases r;obtain⟨its,rv,ht,hz⟩:=I.tuple hq;refine assign_Tuple_tuple (I.ok.hd hc) ht (by simp[hn,<-hl,rv.length]) hst λh' hx=>?_;have I1:Inv X pins σ H {s with heap:=h'}:=I.kept (t':=s.toks) λb o e=>hx b o (Bj (Az e)) e;exact h pins _ σ H xs _ Q I1 (by simpa using rv) hw
def jW(to ti:TE)(t:k8):TG:=λv σ H Q=>to σ H λo H1=>ti σ H1 λi H2=>t o i v H2 λH3=>Q σ H3
theorem m9{o i:Expr}{to ti:TE}{t:k8}(ho:PE X o to)(hi:PE X i ti)(hs:oZ X t)
  (ha:∀v,Fq (.Subscript o i pos) X.env v=(do
   let ov <-Fl [v] (eval o X.env)
   let iv <-Fl [v,ov] (eval i X.env)
   standAt pos
   Fl [v,ov,iv] (setItem ov iv v)
   release [v,ov,iv] []):=by intro _;rfl):PG X (.Subscript o i pos) (jW to ti t):=by
 intro pins s σ H v u Q I r h;rw[ha];refine Ad (Dh (aZ (ho pins s σ H _ I h) λov s1 ⟨x,H1,I1,r1,q1⟩=>?_));refine Ad (Dh (aZ (hi pins s1 σ H1 _ I1 q1) λiv s2 ⟨y,H2,I2,r2,q2⟩=>?_));refine Ad (wpAny_standAt (Ad (Dh (aZ (hs pins s2 σ H2 x y v ov iv u _ I2 r1 r2 r q2) λ_ s3 ⟨H3,I3,q3⟩=>?_))));exact wpAny_release ⟨σ,H3,I3,q3⟩
def dv(te:TE)(g:TG):TS:=λD σ H=>te σ H λx H1=>g x σ H1 D.nx
theorem nM{tg e:Expr}{te:TE}{g:TG}(he:PE X e te)(hg:PG X tg g)(hs:swapsWithSole [tg] e pos.line X.env=pure aj:=by rfl)(hw:swappedStores [tg] e X.env=pure ah:=by rfl)
  (h1:(C2 [tg] X.env).map (·.2)=[Fq tg X.env]:=by rfl):PS X (.Assign [tg] e pos) (dv te g):=by
 intro pins s σ H D I h;refine wpAny_Assign_stores (aZ (he pins s σ H _ I h) λv s1 ⟨x,H1,I1,r1,q1⟩=>?_) hs hw;rw[h1];exact aZ (hg pins s1 σ H1 x v _ I1 r1 q1) λ_ s2 q=>q
theorem jz{i:Nat}{x:Str}{e:Expr}{te:TE}{pos':Pos}(hN:X.N.Nodup)(hi:X.N[i]?=ae x)(hx:jV X.env.scope x)(he:PE X e te)(hs:Dt e (ae (.Name x pos')) pos.line X.env=pure aj:=by rfl)(hf:X.fn x=ai\/X.env.scope.names.lookup x=ae .local:=by first|exact .inl rfl|exact .inr rfl|assumption):
  PS X (.Assign [.Name x pos'] e pos) (dv te (ib i)):=by
 intro pins s σ H D I h;refine wpAny_Assign_Name (aZ (he pins s σ H _ I h) λv s1 ⟨y,H1,I1,r1,q1⟩=>?_) hs;exact AH I1 hN hi hx r1 (λs2 I2=>⟨_,H1,I2,q1⟩) hf
end
structure It where
 go:Nat->Hp->Prop
 yld:Nat->Hp->V->Hp->Prop
 stop:Nat->Hp->Prop
def dA(X:Cx)(pins:List (Addr×Obj))(H:Hp)(b:Addr):Prop:=
 H b=ah/\b≠X.env.locals/\b∉X.fs/\(b∈X.ex\/X.s₀.heap.objs.size<=b)/\(∀x c,X.env.cells.lookup x=ae c->c≠b)/\∀p∈X.pn++pins,p.1≠b
theorem Inv.fpOk{X:Cx}{pins:List (Addr×Obj)}{σ:St}{H H':Hp}{s:Ar}{b:Addr}(I:Inv X pins σ H s)(hb:s.heap.objs.size<=b)(hn:H' b=ah):dA X pins H' b:=by
 refine⟨hn,E1 (Bm I.lt hb),I.nofs hb,.inr (A3 I.sz hb),λx c e z=>?_,λp hp z=>?_⟩
 ·obtain⟨v,q⟩:=I.cell x c e;exact absurd (Bm q.lt (by rw[z];exact hb)) (Ek _)
 ·exact absurd (Bm (Az (I.pin p hp).1) (by rw[z];exact hb)) (Ek _)
structure Turn(P:Bf)(w:Bx)(K:Ag)(tg:Expr)(J:It)(fp:List Addr)(it:Addr)(tn:Nat->Heap->Prop):Prop where
 mem:it∈fp
 obj:∀i h,tn i h->∀b∈fp,∃o,h.get? b=ae o/\∀v,o.data≠.cell v
 keep:∀i h h',tn i h->(∀b∈fp,∀o,h.get? b=ae o->h'.get? b=ae o)->tn i h'
 item:∀(X:Cx),X.prog=P->X.w=w->X.K=K->X.calm=ai->∀(i:Nat)(pins:List (Addr×Obj))(s:Ar)(σ:St)(H:Hp)(E:Aj->Ar->Prop),Inv X pins σ H s->(∀b∈fp,dA X pins H b)->tn i s.heap->J.go i H->
  A6 (Bd P w) X.A (pyNext (.ref it)) (λr s1=>∃u,r=ae u /\
   A6 (Bd P w) X.A (letOwnedTupleGo tg (.ref it) u) (λ_ s2=>∃x H',Inv X pins σ H' s2/\RelV x u/\J.yld i H x H'/\tn (i+1) s2.heap/\∀b∈fp,H' b=ah) E s1) E s
 done:∀(X:Cx),X.prog=P->X.w=w->X.K=K->X.calm=ai->∀(i:Nat)(pins:List (Addr×Obj))(s:Ar)(σ:St)(H:Hp)(E:Aj->Ar->Prop),Inv X pins σ H s->(∀b∈fp,dA X pins H b)->tn i s.heap->J.stop i H->
  A6 (Bd P w) X.A (pyNext (.ref it)) (λr s1=>r=ah/\Inv X pins σ H s1) E s
 self:∀(A:Ce)(i:Nat)(s:Ar)(Q:Aj->Ar->Prop)(E:Aj->Ar->Prop),tn i s.heap->Q (.ref it) s->A6 (Bd P w) A (pyIter (.ref it)) Q E s
abbrev TI:=St->Hp->(It->Hp->Prop)->Prop
def BI(X:Cx)(pins:List (Addr×Obj))(σ:St)(tg:Expr)(R:It->Hp->Prop)(itv:Aj)(s2:Ar):Prop:=
 ∃(it:Addr)(fp:List Addr)(tn:Nat->Heap->Prop)(J:It)(H':Hp),itv=.ref it/\Inv X pins σ H' s2/\Turn X.prog X.w X.K tg J fp it tn/\tn 0 s2.heap/\(∀b∈fp,dA X pins H' b)/\R J H'
def PI(X:Cx)(tg iter:Expr)(wi:TI):Prop:=
 ∀(pins:List (Addr×Obj))(s:Ar)(σ:St)(H:Hp)(R:It->Hp->Prop),Inv X pins σ H s->wi σ H R->
  A6 (Bd X.prog X.w) X.A (eval iter X.env) (λv s1=>A6 (Bd X.prog X.w) X.A (pyIter v) (BI X pins σ tg R) X.xe s1) X.xe s
theorem xj{M:Model}{A:Ce}{E:Aj->Ar->Prop}{s:Ar}{tg:Expr}{it:Addr}{u:Aj}{o:Obj}{n:String}{vs:Array Aj}{Q:Unit->Ar->Prop}(ho:s.heap.get? it=ae o)(hc:o.cls=.type n)(hd:o.data=.fields vs)
  (hn:["enumerate","zip","dict_itemiterator","dict_reverseitemiterator","odict_iterator","itertools.zip_longest","itertools.pairwise"].contains n=aj) (hQ:Q () s):A6 M A (letOwnedTupleGo tg (.ref it) u) Q E s:=by
 unfold letOwnedTupleGo;cases tg<;>first
  |exact Ax hQ
  | (cases u<;>first
    |exact Ax hQ
    | (refine Ad (wpAny_load ho ?_)
       rw[hc,hd];show A6 M A (if (["enumerate","zip","dict_itemiterator","dict_reverseitemiterator","odict_iterator","itertools.zip_longest","itertools.pairwise"].contains n&&vs[0]?==ae (rawInt _))=ai then _ else _) Q E s;rw[if_neg (by intro h;rw[hn,Fo]at h;cases h)];exact Ax hQ))
def Hw(K:Ag)(a:Addr):It:=
 ⟨λi H=>∃xs x,SqL K H a xs/\xs[i]?=ae x,λi H x H'=>H'=H/\∀xs,SqL K H a xs->xs[i]?=ae x,λi H=>∃xs,SqL K H a xs/\xs.length<=i⟩
def G4(K:Ag)(a:Addr):It:=
 ⟨λi H=>∃xs x,SqT K H a xs/\xs[i]?=ae x,λi H x H'=>H'=H/\∀xs,SqT K H a xs->xs[i]?=ae x,λi H=>∃xs,SqT K H a xs/\xs.length<=i⟩
def rS(lo:Int)(n:Nat):It:=⟨λi _=>i < n,λi H x H'=>H'=H/\x=.int (lo+i),λi _=>n<=i⟩
theorem On{P:Bf}{w:Bx}{K:Ag}{tg:Expr}(a it:Addr):Turn P w K tg (Hw K a) [it] it (λi h=>h.IsListIter it a i) where
 mem:=by simp
 obj:=λi h st b hb=>by
  have e:b=it:=by simpa using hb
  subst e;obtain⟨o,e,c,d⟩:=st;exact⟨o,e,λv z=>by rw[d]at z;cases z⟩
 keep:=λi h h' st k=>st.at λo e=>k it (by simp) o e
 item:=by
  intro X hP hw hK hc i pins s σ H E I hf st hg;subst hP hw hK;obtain⟨xs,x,hq,hx⟩:=hg;obtain⟨its,rv,p,hz⟩:=I.list hq;obtain⟨u,hu,ru⟩:=rv.get hx;obtain⟨f0,f1,f2,f3,f4,f5⟩:=hf it (by simp);refine wpAny_pyNext_list_item st p.isList (x:=u) (by simpa using hu) λh' st' sb=>?_;have I1:Inv X pins σ H {s with heap:=h'}:=I.turned (t':=s.toks) (λb o hb e=>(sb.2 b hb).trans e) f0 f1 f3 f4 f5;obtain⟨o,e,c,d⟩:=id st';exact⟨u,rfl,xj (s:={ s with heap:=h'}) e c d (by decide) ⟨x,H,I1,ru,⟨rfl,λys hy=>by rw[I.list_inj hy hq];exact hx⟩,st',λb hb=>(hf b hb).1⟩⟩
 done:=by
  intro X hP hw hK hc i pins s σ H E I hf st hg;subst hP hw hK;obtain⟨xs,hq,hx⟩:=hg;obtain⟨its,rv,p,hz⟩:=I.list hq;obtain⟨f0,f1,f2,f3,f4,f5⟩:=hf it (by simp);have hl:=rv.length;exact wpAny_pyNext_list_end (I.ok.hd hc) st p.isList (by simp;omega) λh' eb=>⟨rfl,I.turned (t':=s.toks) (λb o hb e=>eb b o hb e) f0 f1 f3 f4 f5⟩
 self:=λ_ _ _ _ _ st h=>wpAny_pyIter_listiter st h
theorem QU{P:Bf}{w:Bx}{K:Ag}{tg:Expr}(a it:Addr):Turn P w K tg (G4 K a) [it] it (λi h=>h.IsTupleIter it a i) where
 mem:=by simp
 obj:=λi h st b hb=>by
  have e:b=it:=by simpa using hb
  subst e;obtain⟨o,e,c,d⟩:=st;exact⟨o,e,λv z=>by rw[d]at z;cases z⟩
 keep:=λi h h' st k=>st.at λo e=>k it (by simp) o e
 item:=by
  intro X hP hw hK hc i pins s σ H E I hf st hg;subst hP hw hK;obtain⟨xs,x,hq,hx⟩:=hg;obtain⟨its,rv,p,hz⟩:=I.tuple hq;obtain⟨u,hu,ru⟩:=rv.get hx;obtain⟨f0,f1,f2,f3,f4,f5⟩:=hf it (by simp);refine wpAny_pyNext_tuple_item st (show s.heap.IsTuple a its.toArray from p) (x:=u) (by simpa using hu) λh' st' sb=>?_;have I1:Inv X pins σ H {s with heap:=h'}:=I.turned (t':=s.toks) (λb o hb e=>(sb.2 b hb).trans e) f0 f1 f3 f4 f5;obtain⟨o,e,c,d⟩:=id st';exact⟨u,rfl,xj (s:={ s with heap:=h'}) e c d (by decide) ⟨x,H,I1,ru,⟨rfl,λys hy=>by rw[I.tuple_inj hy hq];exact hx⟩,st',λb hb=>(hf b hb).1⟩⟩
 done:=by
  intro X hP hw hK hc i pins s σ H E I hf st hg;subst hP hw hK;obtain⟨xs,hq,hx⟩:=hg;obtain⟨its,rv,p,hz⟩:=I.tuple hq;obtain⟨f0,f1,f2,f3,f4,f5⟩:=hf it (by simp);have hl:=rv.length;exact wpAny_pyNext_tuple_end (I.ok.hd hc) st (show s.heap.IsTuple a its.toArray from p) (by simp;omega) λh' eb=>⟨rfl,I.turned (t':=s.toks) (λb o hb e=>eb b o hb e) f0 f1 f3 f4 f5⟩
 self:=λ_ _ _ _ _ st h=>wpAny_pyIter_tupleiter st h
theorem Pw{P:Bf}{w:Bx}{K:Ag}{tg:Expr}(it:Addr)(lo:Int)(n:Nat):Turn P w K tg (rS lo n) [it] it (λi h=>IsRangeIter h it (lo+(i:Nat)*1) ((n:Int)-(i:Nat)) 1) where
 mem:=by simp
 obj:=λi h st b hb=>by
  have e:b=it:=by simpa using hb
  subst e;exact⟨_,st,λv z=>by
   have z':Data.fields _=Data.cell v:=z;cases z'⟩
 keep:=λi h h' st k=>k it (by simp) _ st
 item:=by
  intro X hP hw hK hc i pins s σ H E I hf st hg;subst hP hw hK;obtain⟨f0,f1,f2,f3,f4,f5⟩:=hf it (by simp);have W:=Walks.range (prog:=X.prog) (w:=X.w) (I.ok.hd hc) it lo 1 n;refine W.item i s _ _ hg st λv h' tk hv st' kk=>?_;obtain⟨t,rfl⟩:=hv;have I1:Inv X pins σ H {s with heap:=h',toks:=tk}:=I.turned (λb o hb e=>kk b o (by simpa using hb) e) f0 f1 f3 f4 f5;refine⟨_,rfl,xj (s:={ s with heap:=h',toks:=tk}) (n:="range_iterator") st' rfl rfl (by decide) ⟨.int (lo+i),H,I1,⟨t,?_⟩,⟨rfl,rfl⟩,st',λb hb=>(hf b hb).1⟩⟩;rw[Int.mul_one]
 done:=by
  intro X hP hw hK hc i pins s σ H E I hf st hg;subst hP hw hK;obtain⟨f0,f1,f2,f3,f4,f5⟩:=hf it (by simp);exact wpAny_pyNext_range_end (I.ok.hd hc) st (by have:n<=i:=hg;omega) λh' eb=>⟨rfl,I.turned (t':=s.toks) (λb o hb e=>eb b o hb e) f0 f1 f3 f4 f5⟩
 self:=λ_ _ _ _ _ st h=>wpAny_pyIter_rangeiter st h
section
variable{X:Cx}{tg:Expr}
def xO(K:Ag)(tl:TE):TI:=λσ H R=>tl σ H λx H1=>∃a,x=.ref a/\(∃xs,SqL K H1 a xs)/\R (Hw K a) H1
def k7(K:Ag)(tl:TE):TI:=λσ H R=>tl σ H λx H1=>∃a,x=.ref a/\(∃xs,SqT K H1 a xs)/\R (G4 K a) H1
theorem Mn{l:Expr}{tl:TE}(hl:PE X l tl):PI X tg l (xO X.K tl):=by
 intro pins s σ H R I h;refine aZ (hl pins s σ H _ I h) λv s1 ⟨x,H1,I1,r1,q1⟩=>?_;obtain⟨a,e,⟨xs,hq⟩,q⟩:=q1;subst e;cases r1;obtain⟨its,rv,p,hz⟩:=I1.list hq;refine wpAny_pyIter_list p.isList ?_;refine⟨s1.heap.objs.size,[s1.heap.objs.size],_,_,H1,rfl,I1.kept (t':=s1.toks) λb o e=>Ai _ e,On a _,⟨_,A7 _ rfl,rfl,rfl⟩,λb hb=>?_,q⟩;have e:b=s1.heap.objs.size:=by simpa using hb
 subst e;exact I1.fpOk (Ao _) (I1.hok.fresh (Ao _))
theorem Qy{l:Expr}{tl:TE}(hl:PE X l tl):PI X tg l (k7 X.K tl):=by
 intro pins s σ H R I h;refine aZ (hl pins s σ H _ I h) λv s1 ⟨x,H1,I1,r1,q1⟩=>?_;obtain⟨a,e,⟨xs,hq⟩,q⟩:=q1;subst e;cases r1;obtain⟨its,rv,p,hz⟩:=I1.tuple hq;refine Dy (show s1.heap.IsTuple a its.toArray from p) ?_;refine⟨s1.heap.objs.size,[s1.heap.objs.size],_,_,H1,rfl,I1.kept (t':=s1.toks) λb o e=>Ai _ e,QU a _,⟨_,A7 _ rfl,rfl,rfl⟩,λb hb=>?_,q⟩;have e:b=s1.heap.objs.size:=by simpa using hb
 subst e;exact I1.fpOk (Ao _) (I1.hok.fresh (Ao _))
theorem N4{pins:List (Addr×Obj)}{σ:St}{H:Hp}{s:Ar}{R:It->Hp->Prop}{E:Aj->Ar->Prop}{lo hi:Int}{t u v:Tok}{tk:Nat}(I:Inv X pins σ H s)(h1:-(2 ^ 62)<=lo)(h2:lo < 2 ^ 62)(h3:-(2 ^ 62)<=hi)(h4:hi < 2 ^ 62)
  (q:R (rS lo (hi-lo).toNat) H):A6 (Bd X.prog X.w) X.A (pyIter (.ref s.heap.objs.size)) (BI X pins σ tg R) E {s with heap:=s.heap.push {cls:=.type "range",data:=.fields #[.int lo t,.int hi u,.int 1 v]},toks:=tk}:=by
 refine wpAny_pyIter_range (IsRange.new ..) (small_one h1 h2 h3 h4) ?_;have I1:Inv X pins σ H {s with heap:=s.heap.push {cls:=.type "range",data:=.fields #[.int lo t,.int hi u,.int 1 v]},toks:=tk}:=I.kept λb o e=>Ai _ e;refine⟨(s.heap.push {cls:=.type "range",data:=.fields #[.int lo t,.int hi u,.int 1 v]}).objs.size,[(s.heap.push {cls:=.type "range",data:=.fields #[.int lo t,.int hi u,.int 1 v]}).objs.size],_,_,H,rfl,
  I1.kept (t':=tk) λb o e=>Ai _ e,Pw _ lo (hi-lo).toNat,?_,λb hb=>?_,q⟩
 ·have e1:lo+((0:Nat):Int)*1=lo:=by simp
  have e2:(((hi-lo).toNat:Nat):Int)-((0:Nat):Int)=Et lo hi 1:=by rw[rangeSize_one];split<;>omega
  show IsRangeIter _ _ (lo+((0:Nat):Int)*1) ((((hi-lo).toNat:Nat):Int)-((0:Nat):Int)) 1;rw[e1,e2];exact A7 _ rfl
 ·have e:b=(s.heap.push {cls:=.type "range",data:=.fields #[.int lo t,.int hi u,.int 1 v]}).objs.size:=by simpa using hb
  subst e;exact I1.fpOk (Ao _) (I1.hok.fresh (Ao _))
def EO(ta:TA):TI:=λσ H R=>ta σ H λvs H1=>∃j:Int,vs=[.int j]/\-(2 ^ 62)<=j/\j < 2 ^ 62/\R (rS 0 j.toNat) H1
theorem RG{a:Expr}{ta:TA}{p pos:Pos}(hg:Gl X "range")(hm:X.mg "range"=ah)(ha:PA X [a] ta)(hs:Aw [a] X.env=[(aj,eval a X.env)]:=by rfl):PI X tg (.Call (.Name "range" p) [a] [] pos) (EO ta):=by
 intro pins s σ H R I h;refine Call_ (mw I hg hm boot_range (D7 (aZ (ha pos pins s σ H _ I h) λus s1 ⟨vs,H1,I1,r1,q1⟩=>?_) hs rfl));obtain⟨j,e,q1,q2,q⟩:=q1;subst e;cases r1 with
 |cons r rr=>
  cases rr;obtain⟨t,rfl⟩:=r;exact call_range_1 (N4 I1 (by omega) (by omega) q1 q2 (by simpa using q))
def nW(wi:TI)(g:TG)(tb:TS):TS:=λD σ H=>wi σ H λJ H1=>∃W:Nat->Nat->St->Hp->Prop,(∃m,W 0 m σ H1)/\∀i m σ H,W i m σ H->
 (J.stop i H/\D.nx σ H)\/(J.go i H/\∃N:St->Hp->Prop,(∀σ' H',N σ' H'->∃m',m' < m/\W (i+1) m' σ' H')/\∀x H',J.yld i H x H'->g x σ H' λσ2 H2=>tb {D with nx:=N,ct:=N,bk:=D.nx} σ2 H2)
def mU(fp:List Addr)(h:Heap):List (Addr×Obj):=fp.filterMap λb=>(h.get? b).map λo=>(b,o)
theorem mL{fp:List Addr}{h:Heap}{b:Addr}{o:Obj}(hb:b∈fp)(e:h.get? b=ae o):(b,o)∈mU fp h:=Ga.mpr ⟨b,hb,by rw[e];rfl⟩
theorem PP{fp:List Addr}{h:Heap}{p:Addr×Obj}(hp:p∈mU fp h):p.1∈fp/\h.get? p.1=ae p.2:=by
 obtain⟨b,hb,e⟩:=Ga.mp hp;cases q:h.get? b with
 |none=>rw[q]at e;cases e
 |some o=>
  rw[q]at e;have e':(b,o)=p:=A8 e;subst e';exact⟨hb,q⟩
theorem Inv.pinned{pins:List (Addr×Obj)}{σ:St}{H:Hp}{s:Ar}{fp:List Addr}(I:Inv X pins σ H s)(hf:∀b∈fp,dA X pins H b)(ho:∀b∈fp,∃o,s.heap.get? b=ae o/\∀v,o.data≠.cell v):Inv X (pins++mU fp s.heap) σ H s:=
 I.pins_of λp hp=>(Bb.mp hp).elim (λz=>I.pin p (Bc _ z)) λz=>by
  obtain⟨hb,e⟩:=PP z;obtain⟨f0,f1,f2,_⟩:=hf p.1 hb;obtain⟨o,e',d⟩:=ho p.1 hb;rw[e]at e';cases e';exact⟨e,f0,f1,f2,d⟩
theorem Inv.unpinned{pins pl:List (Addr×Obj)}{σ:St}{H:Hp}{s:Ar}(I:Inv X (pins++pl) σ H s):Inv X pins σ H s:=I.pins_of λp hp=>I.pin p (Bc _ (Es _ hp))
theorem O4{iter:Expr}{body:List Stmt}{wi:TI}{g:TG}{tb:TS}{pos:Pos}(hp:PassesOwn (Bd X.prog X.w) X.A X.env X.xe)(hc:X.calm=ai)(hi:PI X tg iter wi)(hg:PG X tg g)(hb:PSs X body tb)
  (hs:∀x,D5 iter X.env x=pure x:=by intro _;rfl):PS X (.For tg iter body [] pos) (nW wi g tb):=by
 intro pins s σ H D I h;refine wpAny_For (aZ (hi pins s σ H _ I h) λv s1 h1=>aZ h1 λitv s2 h2=>?_) hs;obtain⟨it,fp,tn,J,H2,e,I2,T,st2,f2,W,⟨m0,w0⟩,turn⟩:=h2;subst e
 have stat:∀{H':Hp},(∀b∈fp,H' b=ah)->∀b∈fp,dA X pins H' b:=λhn b hb=>⟨hn b hb,(f2 b hb).2⟩;refine codeAny_forLoop_any (λn s'=>∃i σ' H',Inv X pins σ' H' s'/\tn i s'.heap/\(∀b∈fp,H' b=ah)/\W i n σ' H') ?_ m0 ⟨0,σ,H2,I2,st2,λb hb=>(f2 b hb).1,w0⟩
 rintro n s3 ⟨i,σ3,H3,I3,st3,fr3,w3⟩
 rcases turn i n σ3 H3 w3 with⟨stop,qn⟩|⟨go,N,hN,step⟩
 ·refine Gc hp (aZ (T.done X rfl rfl rfl hc i pins s3 σ3 H3 X.xe I3 (stat fr3) st3 stop) λr s4 ⟨hr,I4⟩=>?_);subst hr;exact wpAny_execs_nil ⟨σ3,H3,I4,qn⟩
 ·refine Gc hp (aZ (T.item X rfl rfl rfl hc i pins s3 σ3 H3 X.xe I3 (stat fr3) st3 go) λr s4 ⟨u,hr,h4⟩=>?_);subst hr;refine Gc hp (aZ h4 λ_ s5 ⟨x,H5,I5,r5,y5,st5,fr5⟩=>?_);have I5':=I5.pinned (stat fr5) (T.obj _ _ st5);refine Gc hp (aZ (hg _ s5 σ3 H5 x u _ I5' r5 (step x H5 y5)) λ_ s6 ⟨σ6,H6,I6,q6⟩=>?_);refine Gc hp (aZ (hb _ s6 σ6 H6 _ I6 q6) λf s7 q7=>?_);have again:∀{σ7:St}{H7:Hp},Inv X (pins++mU fp s5.heap) σ7 H7 s7->N σ7 H7->∃m,m < n/\∃i σ' H',Inv X pins σ' H' s7/\tn i s7.heap/\(∀b∈fp,H' b=ah)/\W i m σ' H':=λ{σ7 H7} I7 n7=>by
   obtain⟨m',hm,w7⟩:=hN σ7 H7 n7;refine⟨m',hm,i+1,σ7,H7,I7.unpinned,T.keep _ _ _ st5 λb hb o e=>(I7.pin (b,o) (Bc _ (Bc _ (mL hb e)))).1,λb hb=>?_,w7⟩;obtain⟨o,e,d⟩:=T.obj _ _ st5 b hb;exact(I7.pin (b,o) (Bc _ (Bc _ (mL hb e)))).2.1
  cases f with
  |next=>obtain⟨σ7,H7,I7,n7⟩:=q7;exact again I7 n7
  |cont=>obtain⟨σ7,H7,I7,n7⟩:=q7;exact again I7 n7
  |brk=>obtain⟨σ7,H7,I7,q7⟩:=q7;exact⟨σ7,H7,I7.unpinned,q7⟩
  |ret v=>obtain⟨x7,σ7,H7,I7,r7,q7⟩:=q7;exact⟨x7,σ7,H7,I7.unpinned,r7,q7⟩
end
abbrev R2:=V->V->Hp->VK->Prop
def OpR(X:Cx)(f:Aj->Aj->Sem Aj)(r:R2):Prop:=
 ∀(pins:List (Addr×Obj))(s:Ar)(σ:St)(H:Hp)(x y:V)(v u:Aj)(Q:VK),Inv X pins σ H s->RelV x v->RelV y u->r x y H Q->
  A6 (Bd X.prog X.w) X.A (f v u) (EP X pins σ Q) X.xe s
def vy(X:Cx)(f:Aj->Sem Aj)(r:V->Hp->VK->Prop):Prop:=
 ∀(pins:List (Addr×Obj))(s:Ar)(σ:St)(H:Hp)(x:V)(v:Aj)(Q:VK),Inv X pins σ H s->RelV x v->r x H Q->
  A6 (Bd X.prog X.w) X.A (f v) (EP X pins σ Q) X.xe s
def CallR(X:Cx)(f:Aj)(r:List V->Hp->VK->Prop):Prop:=
 ∀(pins:List (Addr×Obj))(s:Ar)(σ:St)(H:Hp)(xs:List V)(us:List Aj)(Q:VK),Inv X pins σ H s->Vals xs us->r xs H Q->
  A6 (Bd X.prog X.w) X.A (call f us) (EP X pins σ Q) X.xe s
def dR(r:R2)(ta tb:TE):TE:=λσ H Q=>ta σ H λx H1=>tb σ H1 λy H2=>r x y H2 Q
def xH(r:V->Hp->VK->Prop)(ta:TE):TE:=λσ H Q=>ta σ H λx H1=>r x H1 Q
def rI(C:Int->Int->Prop)(g:Int->Int->V):R2:=λx y H Q=>∃i j,x=.int i/\y=.int j/\C i j/\Q (g i j) H
def gG(g:Int->Int->V):R2:=λx y H Q=>∃i j,x=.int i/\y=.int j/\Q (g i j) H
def rU(g:Int->V):V->Hp->VK->Prop:=λx H Q=>∃i,x=.int i/\Q (g i) H
section
variable{X:Cx}{a b c:Expr}{ta tb tc:TE}{pos:Pos}
theorem mh(ha:PE X a ta)(hb:PE X b tb){pins:List (Addr×Obj)}{s:Ar}{σ:St}{H:Hp}{R:V->V->Hp->Prop}(I:Inv X pins σ H s)
  (h:ta σ H λx H1=>tb σ H1 λy H2=>R x y H2) {Q:Aj->Ar->Prop} {f:Aj->Aj->Sem Aj}
  (hf:∀v u s2 x y H2,Inv X pins σ H2 s2->RelV x v->RelV y u->R x y H2->A6 (Bd X.prog X.w) X.A (f v u) Q X.xe s2):
  A6 (Bd X.prog X.w) X.A (eval a X.env) (λv s₁=>A6 (Bd X.prog X.w) X.A (eval b X.env) (λu s₂=>A6 (Bd X.prog X.w) X.A (f v u) Q X.xe s₂) X.xe s₁) X.xe s:=by
 refine aZ (ha pins s σ H _ I h) λv s1 ⟨x,H1,I1,r1,q1⟩=>?_;refine aZ (hb pins s1 σ H1 _ I1 q1) λu s2 ⟨y,H2,I2,r2,q2⟩=>?_;exact hf v u s2 x y H2 I2 r1 r2 q2
theorem eV{op:Operator}{r:R2}(ho:OpR X (Ed op) r)(ha:PE X a ta)(hb:PE X b tb):PE X (.BinOp a op b pos) (dR r ta tb):=by
 intro pins s σ H Q I h;exact wpAny_BinOp (mh ha hb I h λv u s2 x y H2 I2 rx ry q=>ho pins s2 σ H2 x y v u Q I2 rx ry q)
theorem EA{op:UnaryOp}{r:V->Hp->VK->Prop}(ho:vy X (unaryOp op) r)(ha:PE X a ta):PE X (.UnaryOp op a pos) (xH r ta):=by
 intro pins s σ H Q I h;exact UnaryOp_ (aZ (ha pins s σ H _ I h) λv s1 ⟨x,H1,I1,r1,q1⟩=>ho pins s1 σ H1 x v Q I1 r1 q1)
theorem qD{f:Aj->Aj->Sem Aj}{C:Int->Int->Prop}{g:Int->Int->Int}
  (rule:∀(i j:Int)(t u:Tok)(s:Ar)(Q:Aj->Ar->Prop)(E:Aj->Ar->Prop),C i j->Q (.int (g i j) s.toks) {s with toks:=s.toks+1}->A6 (Bd X.prog X.w) X.A (f (.int i t) (.int j u)) Q E s):
  OpR X f (rI C λi j=>.int (g i j)):=by
 intro pins s σ H x y v u Q I rx ry h;obtain⟨i,j,rfl,rfl,hc,q⟩:=h;obtain⟨t,rfl⟩:=rx;obtain⟨t',rfl⟩:=ry;exact rule i j t t' s _ _ hc ⟨.int (g i j),H,I.tok _,⟨_,rfl⟩,q⟩
theorem pP{f:Aj->Aj->Sem Aj}{g:Int->Int->Int}
  (rule:∀(i j:Int)(t u:Tok)(s:Ar)(Q:Aj->Ar->Prop)(E:Aj->Ar->Prop),Q (.int (g i j) s.toks) {s with toks:=s.toks+1}->A6 (Bd X.prog X.w) X.A (f (.int i t) (.int j u)) Q E s):
  OpR X f (gG λi j=>.int (g i j)):=by
 intro pins s σ H x y v u Q I rx ry h;obtain⟨i,j,rfl,rfl,q⟩:=h;obtain⟨t,rfl⟩:=rx;obtain⟨t',rfl⟩:=ry;exact rule i j t t' s _ _ ⟨.int (g i j),H,I.tok _,⟨_,rfl⟩,q⟩
theorem kf{f:Aj->Aj->Sem Aj}{g:Int->Int->Bool}
  (rule:∀(i j:Int)(t u:Tok)(s:Ar)(Q:Aj->Ar->Prop)(E:Aj->Ar->Prop),Q (.bool (g i j)) s->A6 (Bd X.prog X.w) X.A (f (.int i t) (.int j u)) Q E s):
  OpR X f (gG λi j=>.bl (g i j)):=by
 intro pins s σ H x y v u Q I rx ry h;obtain⟨i,j,rfl,rfl,q⟩:=h;obtain⟨t,rfl⟩:=rx;obtain⟨t',rfl⟩:=ry;exact rule i j t t' s _ _ ⟨.bl (g i j),H,I,rfl,q⟩
def xQ(i j:Int):Prop:=0 < j/\j < 1073741824
def vv(i j:Int):Prop:=0<=j/\j<=1000000/\i.natAbs < 2 ^ 64
def CMul(i j:Int):Prop:=(-(2 ^ 64) < i/\i < 2 ^ 64)\/(-(2 ^ 64) < j/\j < 2 ^ 64)
theorem CMul.ok{i j:Int}(h:CMul i j):IntMulOk i j:=by
 rcases h with⟨h1,h2⟩|⟨h1,h2⟩
 ·exact .of_left (intBits_le_64 h1 h2)
 ·exact .of_right (intBits_le_64 h1 h2)
theorem op_add:OpR X (Ed .Add) (gG λi j=>.int (i+j)):=pP λ_ _ _ _ _ _ _ q=>add_int q
theorem R9:OpR X (Ed .Sub) (gG λi j=>.int (i-j)):=pP λ_ _ _ _ _ _ _ q=>sub_int q
theorem mG:OpR X (Ed .Mult) (rI CMul λi j=>.int (i*j)):=qD λ_ _ _ _ _ _ _ hc q=>mul_int q hc.ok
theorem FP:OpR X (Ed .FloorDiv) (rI xQ λi j=>.int (i / j)):=qD λi j _ _ _ _ _ hc q=>by
 have h1:(0:Int) < j:=hc.1;have h2:j < 1073741824:=hc.2;exact floordiv_int (by omega) (by rw[Int.fdiv_eq_ediv_of_nonneg i (by omega)];exact q) (.inl (PyProof.noPylong_small (by omega)))
theorem kh:OpR X (Ed .Mod) (rI (λ_ j=>0 < j) λi j=>.int (i % j)):=qD λi j _ _ _ _ _ hc q=>by
 have h1:(0:Int) < j:=hc;exact mod_int' (by omega) (by rw[Int.fmod_eq_emod_of_nonneg i (by omega)];exact q)
theorem OS:OpR X (Ed .Pow) (rI vv λi j=>.int (i ^ j.toNat)):=qD λ_ _ _ _ _ _ _ hc q=>pow_int_small hc.1 hc.2.1 hc.2.2 q
theorem TX{f:Aj->Sem Aj}{g:Int->Int}
  (rule:∀(i:Int)(t:Tok)(s:Ar)(Q:Aj->Ar->Prop)(E:Aj->Ar->Prop),Q (.int (g i) s.toks) {s with toks:=s.toks+1}->A6 (Bd X.prog X.w) X.A (f (.int i t)) Q E s):
  vy X f (rU λi=>.int (g i)):=by
 intro pins s σ H x v Q I rx h;obtain⟨i,rfl,q⟩:=h;obtain⟨t,rfl⟩:=rx;exact rule i t s _ _ ⟨.int (g i),H,I.tok _,⟨_,rfl⟩,q⟩
theorem HA:vy X (unaryOp .USub) (rU λi=>.int (-i)):=TX λ_ _ _ _ _ q=>neg_int q
end
def p7:V->V->Bool
 |.non,.non=>ai|.non,.int _=>ai|.int _,.non=>ai|.non,.bl _=>ai|.bl _,.non=>ai|.non,.str _=>ai|.str _,.non=>ai
 |.int _,.int _=>ai|.bl _,.bl _=>ai|.str _,.str _=>ai|.byt _,.byt _=>ai
 |.int _,.str _=>ai|.str _,.int _=>ai|.bl _,.str _=>ai|.str _,.bl _=>ai
 |_,_=>aj
def qv:R2:=λx y H Q=>p7 x y=ai/\Q (.bl (decide (x=y))) H
def yz:R2:=λx y H Q=>p7 x y=ai/\Q (.bl (!decide (x=y))) H
theorem yd{i j:Int}:decide (V.int i=V.int j)=(i==j):=by
 rw[E9];simp
theorem yA{i j:Bool}:decide (V.bl i=V.bl j)=(i==j):=by
 rw[E9];simp
theorem AS{i j:Str}:decide (V.str i=V.str j)=(i==j):=by
 rw[E9];simp
theorem zh{i j:Array UInt8}:decide (V.byt i=V.byt j)=(i.toList==j.toList):=by
 rw[E9];cases i;cases j;simp
section
variable{X:Cx}{a b c:Expr}{ta tb tc:TE}{pos:Pos}
theorem df{pins:List (Addr×Obj)}{σ:St}{H:Hp}{s:Ar}{Q:VK}{k k':Bool}(I:Inv X pins σ H s)(q:Q (.bl k) H)(e:k=k'):EP X pins σ Q (.bool k') s:=by
 subst e;exact⟨.bl k,H,I,rfl,q⟩
theorem op_eq:OpR X (Bs .Eq) qv:=by
 intro pins s σ H x y v u Q I rx ry h;obtain⟨hs,q⟩:=h;cases x with
 |non=>
  cases rx;cases y with
  |non=>cases ry;exact PySem.EqNone.eq_none_none (df I q (by simp))
  |bl j=>cases ry;exact PySem.EqNone.eq_none_bool (df I q (by simp))
  |int j=>obtain⟨t',rfl⟩:=ry;exact PySem.EqNone.eq_none_int (df I q (by simp))
  |str j=>obtain⟨t',rfl⟩:=ry;exact PySem.EqNone.eq_none_str (df I q (by simp))
  |_=>exact absurd (show aj=ai from hs) Ae
 |bl i=>
  cases rx;cases y with
  |non=>cases ry;exact PySem.EqNone.eq_bool_none (df I q (by simp))
  |bl j=>cases ry;exact eq_bool (df I q yA)
  |str j=>obtain⟨t',rfl⟩:=ry;exact PySem.EqMixed.eq_bool_str (df I q (by simp))
  |_=>exact absurd (show aj=ai from hs) Ae
 |int i=>
  obtain⟨t,rfl⟩:=rx;cases y with
  |non=>cases ry;exact PySem.EqNone.eq_int_none (df I q (by simp))
  |int j=>obtain⟨t',rfl⟩:=ry;exact eq_int (df I q yd)
  |str j=>obtain⟨t',rfl⟩:=ry;exact PySem.EqMixed.eq_int_str (df I q (by simp))
  |_=>exact absurd (show aj=ai from hs) Ae
 |str i=>
  obtain⟨t,rfl⟩:=rx;cases y with
  |non=>cases ry;exact PySem.EqNone.eq_str_none (df I q (by simp))
  |bl j=>cases ry;exact PySem.EqMixed.eq_str_bool (df I q (by simp))
  |int j=>obtain⟨t',rfl⟩:=ry;exact PySem.EqMixed.eq_str_int (df I q (by simp))
  |str j=>obtain⟨t',rfl⟩:=ry;exact eq_str (df I q AS)
  |_=>exact absurd (show aj=ai from hs) Ae
 |byt i=>
  obtain⟨t,rfl⟩:=rx;cases y with
  |byt j=>obtain⟨t',rfl⟩:=ry;exact PySem.W.eq_bytes (df I q zh)
  |_=>exact absurd (show aj=ai from hs) Ae
 |_=>cases y<;>exact absurd (show aj=ai from hs) Ae
theorem Q4:OpR X (Bs .NotEq) yz:=by
 intro pins s σ H x y v u Q I rx ry h;obtain⟨hs,q⟩:=h;cases x with
 |non=>
  cases rx;cases y with
  |non=>cases ry;exact PySem.EqNone.ne_none_none (df I q (by simp))
  |bl j=>cases ry;exact PySem.EqNone.ne_none_bool (df I q (by simp))
  |int j=>obtain⟨t',rfl⟩:=ry;exact PySem.EqNone.ne_none_int (df I q (by simp))
  |str j=>obtain⟨t',rfl⟩:=ry;exact PySem.EqNone.ne_none_str (df I q (by simp))
  |_=>exact absurd (show aj=ai from hs) Ae
 |bl i=>
  cases rx;cases y with
  |non=>cases ry;exact PySem.EqNone.ne_bool_none (df I q (by simp))
  |bl j=>cases ry;exact ne_bool (df I q (congrArg not yA))
  |str j=>obtain⟨t',rfl⟩:=ry;exact PySem.EqMixed.ne_bool_str (df I q (by simp))
  |_=>exact absurd (show aj=ai from hs) Ae
 |int i=>
  obtain⟨t,rfl⟩:=rx;cases y with
  |non=>cases ry;exact PySem.EqNone.ne_int_none (df I q (by simp))
  |int j=>obtain⟨t',rfl⟩:=ry;exact ne_int (df I q (congrArg not yd))
  |str j=>obtain⟨t',rfl⟩:=ry;exact PySem.EqMixed.ne_int_str (df I q (by simp))
  |_=>exact absurd (show aj=ai from hs) Ae
 |str i=>
  obtain⟨t,rfl⟩:=rx;cases y with
  |non=>cases ry;exact PySem.EqNone.ne_str_none (df I q (by simp))
  |bl j=>cases ry;exact PySem.EqMixed.ne_str_bool (df I q (by simp))
  |int j=>obtain⟨t',rfl⟩:=ry;exact PySem.EqMixed.ne_str_int (df I q (by simp))
  |str j=>obtain⟨t',rfl⟩:=ry;exact ne_str (df I q (congrArg not AS))
  |_=>exact absurd (show aj=ai from hs) Ae
 |byt i=>
  obtain⟨t,rfl⟩:=rx;cases y with
  |byt j=>obtain⟨t',rfl⟩:=ry;exact PySem.W.ne_bytes (df I q (congrArg not zh))
  |_=>exact absurd (show aj=ai from hs) Ae
 |_=>cases y<;>exact absurd (show aj=ai from hs) Ae
theorem op_lt:OpR X (Bs .Lt) (gG λi j=>.bl (decide (i < j))):=kf λ_ _ _ _ _ _ _ q=>lt_int q
theorem op_le:OpR X (Bs .LtE) (gG λi j=>.bl (decide (i<=j))):=kf λ_ _ _ _ _ _ _ q=>le_int q
theorem op_gt:OpR X (Bs .Gt) (gG λi j=>.bl (decide (j < i))):=kf λ_ _ _ _ _ _ _ q=>gt_int q
theorem Iz:OpR X (Bs .GtE) (gG λi j=>.bl (decide (j<=i))):=kf λ_ _ _ _ _ _ _ q=>ge_int q
theorem Q6:OpR X (Bs .Lt) (λx y H Q=>∃i j,x=.str i/\y=.str j/\Q (.bl (decide (i.cps.toList < j.cps.toList))) H):=by
 intro pins s σ H x y v u Q I rx ry h;obtain⟨i,j,rfl,rfl,q⟩:=h;obtain⟨t,rfl⟩:=rx;obtain⟨t',rfl⟩:=ry;exact lt_str (df I q rfl)
theorem yh:OpR X (Bs .Is) (λx y H Q=>y=.non/\Q (.bl (decide (x=.non))) H):=by
 intro pins s σ H x y v u Q I rx ry h;obtain⟨rfl,q⟩:=h;cases ry;refine is_none_gen (df I q ?_);cases x<;>first
  | (cases rx;rfl)
  | (obtain⟨t,rfl⟩:=rx;rfl)
theorem uP:OpR X (Bs .IsNot) (λx y H Q=>y=.non/\Q (.bl (!decide (x=.non))) H):=by
 intro pins s σ H x y v u Q I rx ry h;obtain⟨rfl,q⟩:=h;cases ry;refine isnot_none_gen (df I q ?_);cases x<;>first
  | (cases rx;rfl)
  | (obtain⟨t,rfl⟩:=rx;rfl)
theorem OpR.or{f:Aj->Aj->Sem Aj}{r r':R2}(h:OpR X f r)(h':OpR X f r'):OpR X f (λx y H Q=>r x y H Q\/r' x y H Q):=by
 intro pins s σ H x y v u Q I rx ry q;rcases q with q|q
 ·exact h pins s σ H x y v u Q I rx ry q
 ·exact h' pins s σ H x y v u Q I rx ry q
theorem pV(b:Expr){op:CmpOp}(h:op≠.In:=by decide)(h2:op≠.NotIn:=by decide):B9 op b=aj:=by
 have e1:(op==CmpOp.In)=aj:=by cases op<;>first|rfl|exact absurd rfl h
 have e2:(op==CmpOp.NotIn)=aj:=by cases op<;>first|rfl|exact absurd rfl h2
 cases b<;>simp[B9,e1,e2]
theorem Lx{op:CmpOp}{r:R2}(ho:OpR X (Bs op) r)(ha:PE X a ta)(hb:PE X b tb)(hm:B9 op b=aj):PE X (.Compare a [op] [b] pos) (dR r ta tb):=by
 intro pins s σ H Q I h;exact wpAny_Compare1 (mh ha hb I h λv u s2 x y H2 I2 rx ry q=>ho pins s2 σ H2 x y v u Q I2 rx ry q) hm
def j1(t:TE):TT:=λσ H Q=>t σ H λx H'=>∃k,x=.bl k/\Q k H'
theorem kd{op:CmpOp}{r:R2}(ho:OpR X (Bs op) r)(ha:PE X a ta)(hb:PE X b tb)(hm:B9 op b=aj):PT X (.Compare a [op] [b] pos) (j1 (dR r ta tb)):=by
 intro pins s σ H Q I h;refine wpAny_isTrue_Compare1 (aZ (ha pins s σ H _ I h) λv s1 ⟨x,H1,I1,r1,q1⟩=>aZ (hb pins s1 σ H1 _ I1 q1) λu s2 ⟨y,H2,I2,r2,q2⟩=>
  aZ (ho pins s2 σ H2 x y v u _ I2 r1 r2 q2) λc s3 ⟨z,H3,I3,r3,k,e,q3⟩=>?_) hm
 subst e;cases r3;exact Dl ⟨H3,I3,q3⟩
def vo(r r':R2)(ta tb tc:TE):TE:=λσ H Q=>ta σ H λx H1=>tb σ H1 λy H2=>r x y H2 λz H3=>∃k,z=.bl k /\
 (if k=ai then tc σ H3 λw' H4=>r' y w' H4 Q else Q (.bl aj) H3)
theorem PU{op op':CmpOp}{r r':R2}(ho:OpR X (Bs op) r)(ho':OpR X (Bs op') r')(ha:PE X a ta)(hb:PE X b tb)(hc:PE X c tc)
  (hm:lastMarks [op,op'] [b,c]=aj:=by with_unfolding_all rfl):PE X (.Compare a [op,op'] [b,c] pos) (vo r r' ta tb tc):=by
 intro pins s σ H Q I h;refine Compare_chain (aZ (ha pins s σ H _ I h) λv s1 ⟨x,H1,I1,r1,q1⟩=>chain_link (aZ (hb pins s1 σ H1 _ I1 q1) λu s2 ⟨y,H2,I2,r2,q2⟩=>
  aZ (ho pins s2 σ H2 x y v u _ I2 r1 r2 q2) λd s3 ⟨z,H3,I3,r3,k,e,q3⟩=>?_)) hm
 subst e;cases r3;refine Dl ?_;cases k with
 |false=>exact ite_ff ⟨.bl aj,H3,I3,rfl,q3⟩
 |true=>exact ite_tt (chain_last (aZ (hc pins s3 σ H3 _ I3 q3) λw' s4 ⟨z',H4,I4,r4,q4⟩=>ho' pins s4 σ H4 y z' u w' Q I4 r2 r4 q4))
theorem mx:(Ay:Nat) < 2 ^ 63:=by rw[Ei];decide
theorem op_add_str:OpR X (Ed .Add) (λx y H Q=>∃i j,x=.str i/\y=.str j/\i.length+j.length<=Ay/\Q (.str (i++j)) H):=by
 intro pins s σ H x y v u Q I rx ry h;obtain⟨i,j,rfl,rfl,hz,q⟩:=h;obtain⟨t,rfl⟩:=rx;obtain⟨t',rfl⟩:=ry;exact add_str (λt' tk=>⟨.str (i++j),H,I.tok _,⟨_,rfl⟩,q⟩) hz
theorem iX{x:V}{us:List Aj}(r:Vals [x] us):∃u,us=[u]/\RelV x u:=by
 cases r with
 |cons r1 r2=>cases r2;exact⟨_,rfl,r1⟩
theorem oM{x y:V}{us:List Aj}(r:Vals [x,y] us):∃u w',us=[u,w']/\RelV x u/\RelV y w':=by
 cases r with
 |cons r1 r2=>
  cases r2 with
  |cons r3 r4=>cases r4;exact⟨_,_,rfl,r1,r3⟩
end
structure ObjM(h:Heap)(x dx C:Addr)(mA:Str->Option Aj):Prop where
 obj:h.get? x=ae (PySem.W.instObj C dx)
 ns:h.Ns1 dx mA
 ne:dx≠x
theorem JW{h:Heap}{dx:Addr}{mA:Str->Option Aj}(n:h.Ns1 dx mA):∃od,h.get? dx=ae od/\∀name,PySem.W.lookIn name od=ae (mA name):=by
 obtain⟨o,es,ep,ho,hd,hk,_,hm⟩:=n;refine⟨o,ho,λname=>?_⟩;have e:=hm name;unfold nsFind findBy at e;rw[<-Array.find?_toList]at e;unfold PySem.W.lookIn;rw[hd];dsimp only
 split
 ·rename_i y q;rw[q]at e;exact congrArg ae e
 ·rename_i q;rw[q]at e;have a:es.toList.any (·.refKey)=aj:=by
   rw[List.any_eq_false];intro y hy;obtain⟨z,t,hkey⟩:=hk y (Array.mem_toList_iff.mp hy);simp[DictEntry.refKey,hkey]
  have a':¬es.toList.any (·.refKey)=ai:=by rw[a];exact Ae
  rw[if_neg a'];exact congrArg ae e
theorem ObjM.look{h:Heap}{x dx C:Addr}{mA:Str->Option Aj}(I:ObjM h x dx C mA):∃od,PySem.W.InstAt h x (PySem.W.instObj C dx) C (ae od)/\∀name,PySem.W.lookIn name od=ae (mA name):=
 let⟨od,ho,hl⟩:=JW I.ns
 ⟨od,⟨I.obj,rfl,rfl,ho⟩,hl⟩
theorem RelO.some_of{v:V}{o:Option Aj}(r:RelO (ae v) o):∃u,o=ae u/\RelV v u:=by
 cases o with
 |none=>exact(show False from r).elim
 |some u=>exact⟨u,rfl,r⟩
section
variable{P:Bf}{w:Bx}{H H':Hp}{h h':Heap}{a C dx:Addr}{fs fs':List (Str×V)}
theorem Oe(hok:HOk P w H h)(e:H a=ae (.ins C dx fs)):∃mA,ObjM h a dx C mA/\(∀f,RelO (fs.lookup f) (mA f))/\PySem.Within mA (fs.map (·.1))/\fs.length<=1000/\H dx=ae (.own a):=by
 obtain⟨d,z,ne,ob,mA,n,r,q⟩:=(show ObjOk P w H h a (.ins C dx fs)from hok a _ e);exact⟨mA,⟨ob,n,ne⟩,r,q,z,d⟩
end
structure Cls(K:Ag)(C:Addr):Prop where
 pg:PySem.W.plainGet K C Str.empty=ai
 hd:PySem.W.hasDictIn K C=ai
 po:PySem.W.plainOver K C=ai
 sa:PySem.W.findIn K (.ref C) "__setattr__"=ae (ae (.builtin "object.__setattr__"))
theorem Cls.get{K:Ag}{C:Addr}(c:Cls K C)(f:Str):PySem.W.plainGet K C f=ai:=c.pg
section
variable{X:Cx}{pins:List (Addr×Obj)}{σ:St}{H:Hp}{s:Ar}{A:Ce}{E:Aj->Ar->Prop}{Q:Aj->Ar->Prop}{c:Aj}{b:Bool}
inductive TyOf(K:Ag)(H:Hp):V->Aj->Prop where
 |non:TyOf K H .non (.type "NoneType")
 |bl (x:Bool):TyOf K H (.bl x) (.type "bool")
 |int (i:Int):TyOf K H (.int i) (.type "int")
 |str (x:Str):TyOf K H (.str x) (.type "str")
 |flt (x:UInt64):TyOf K H (.flt x) (.type "float")
 |lst {a:Addr} {xs:List V} (e:H a=ae (.lst xs)):TyOf K H (.ref a) (.type "list")
 |frz {a:Addr} {o:Obj} {xs:List V} (e:H a=ae (.frz o (.lst xs))):TyOf K H (.ref a) (.type "list")
 |tup {a:Addr} {xs:List V} (e:H a=ae (.tup xs)):TyOf K H (.ref a) (.type "tuple")
 |dK {a:Addr} {kvs:List (aN×V)} (e:H a=ae (.dK kvs)):TyOf K H (.ref a) (.type "dict")
 |dT {a:Addr} {kvs:List (List aN×V)} (e:H a=ae (.dT kvs)):TyOf K H (.ref a) (.type "dict")
 |ins {a C dx:Addr} {fs:List (Str×V)} (e:H a=ae (.ins C dx fs)) (cl:Cls K C) (ha:PySem.W.findIn K (.ref C) "__class__"=ae (ae (.builtin "object.__class__")))
   (hn:PySem.W.specialIn K (.builtin "object.__class__") "__get__"=ae (ae (.builtin "getset_descriptor.__get__"))) (htk:PySem.W.takesIn K (.builtin "object.__class__")=ae ai)
   (hm:PySem.W.mroIn K C (.type "object")=ae ai):TyOf K H (.ref a) (.ref C)
theorem Kc{x:V}{u t:Aj}(I:Inv X pins σ H s)(rx:RelV x u)(ty:TyOf X.K H x t)(e:PySem.W.kitOne X.K t c=ae b)(h:∀tk,Q (.bool b) {s with toks:=tk}):
  A6 (Bd X.prog X.w) A (call (.builtin "isinstance") [u,c]) Q E s:=by
 cases ty with
 |non=>cases(show u=B3 from rx);exact Ct PySem.W.kitx_none I.kIn Dj e (λz=>nomatch z) h
 |bl y=>cases(show u=Value.bool y from rx);exact Ct PySem.W.kitx_bool I.kIn Dj e (λz=>nomatch z) h
 |int i=>obtain⟨t,q⟩:=(show ∃t,u=Value.int i t from rx);cases q;exact Ct PySem.W.kitx_int I.kIn Dj e (λz=>nomatch z) h
 |str y=>obtain⟨t,q⟩:=(show ∃t,u=Fv y t from rx);cases q;exact Ct PySem.W.kitx_str I.kIn Dj e (λz=>nomatch z) h
 |flt y=>obtain⟨t,q⟩:=(show ∃t,u=Value.float y t from rx);cases q;exact Ct PySem.W.kitx_float I.kIn Dj e (λz=>nomatch z) h
 |@lst a xs ea=>
  cases(show u=A4 a from rx);obtain⟨_,_,n,_,h1⟩:=(show ObjOk X.prog X.w H s.heap a (.lst xs)from I.hok a _ ea);exact Ct PySem.W.kitx_list I.kIn ⟨_,h1,rfl⟩ e (λz=>nomatch z) h
 |@frz a ob xs ea=>
  cases(show u=A4 a from rx);obtain⟨_,_,_,n,_,h1⟩:=(show ObjOk X.prog X.w H s.heap a (.frz ob (.lst xs))from I.hok a _ ea);exact Ct PySem.W.kitx_list I.kIn ⟨_,h1,rfl⟩ e (λz=>nomatch z) h
 |@tup a xs ea=>
  cases(show u=A4 a from rx);obtain⟨_,_,_,p⟩:=(show ObjOk X.prog X.w H s.heap a (.tup xs)from I.hok a _ ea);obtain⟨o,h1,h2,_⟩:=p;exact Ct PySem.W.kitx_tuple I.kIn ⟨o,h1,h2⟩ e (λz=>nomatch z) h
 |@dK a kvs ea=>
  cases(show u=A4 a from rx);obtain⟨_,_,vs,_,p⟩:=(show ObjOk X.prog X.w H s.heap a (.dK kvs)from I.hok a _ ea);obtain⟨o,es,ep,h1,h2,_⟩:=p;exact Ct PySem.W.kitx_dict I.kIn ⟨o,h1,h2.1⟩ e (λz=>nomatch z) h
 |@dT a kvs ea=>
  cases(show u=A4 a from rx);obtain⟨_,_,xs,_,o,es,ep,h1,h2,_⟩:=(show ObjOk X.prog X.w H s.heap a (.dT kvs)from I.hok a _ ea);exact Ct PySem.W.kitx_dict I.kIn ⟨o,h1,h2.1⟩ e (λz=>nomatch z) h
 |@ins a C dx fs ea cl ha hn htk hm=>
  cases(show u=A4 a from rx);obtain⟨mA,O,_⟩:=Oe I.hok ea;obtain⟨od,J,_⟩:=O.look;exact Ct (PySem.W.kitx_own (cl.get _) cl.hd ha hn htk hm) I.kIn J e (λz=>nomatch z) h
end
structure Room(k:Nat)(A:Ce):Prop where
 hd:A.handled=ah
 dp:A.depth+3*k+5 < recursionLimit
 un:A.units+16*k+200 < Fb
 gd:A.guards=ae []
theorem Room.mono{j k:Nat}{A:Ce}(r:Room k A)(h:j<=k):Room j A:=⟨r.hd,by have:=r.dp;omega,by have:=r.un;omega,r.gd⟩
theorem Room.deeper{k:Nat}{A:Ce}(r:Room (k+1) A)(env:Env):Room k (A.deeper env):=
 ⟨r.hd,by have:=r.dp;show A.depth+1+3*k+5 < _;omega,by have:=r.un;show A.units+3+16*k+200 < _;omega,r.gd⟩
theorem Room.depth{k:Nat}{A:Ce}(r:Room k A):A.depth < recursionLimit:=by have:=r.dp;omega
theorem Room.units{k:Nat}{A:Ce}(r:Room k A):A.units+64 < Fb:=by have:=r.un;omega
theorem Room.units0{k:Nat}{A:Ce}(r:Room k A):A.units < Fb:=by have:=r.un;omega
def cy:TA:=λ_ H Q=>Q [] H
def dI(ta:TE)(tr:TA):TA:=λσ H Q=>ta σ H λx H1=>tr σ H1 λxs H2=>Q (x::xs) H2
section
variable{X:Cx}{e:Expr}{es:List Expr}{te:TE}{t:TA}{pos:Pos}
theorem eR:PA X [] cy:=λ_ _ _ _ H Q I h=>Calls.spliced_nil ⟨[],H,I,.nil,h⟩
theorem c6(ha:PE X e te)(hr:PA X es t)(hs:Aw (e::es) X.env=(aj,eval e X.env)::Aw es X.env:=by rfl):PA X (e::es) (dI te t):=by
 intro pos pins s σ H Q I h;rw[hs];show A6 _ _ (spliced ((aj,eval e X.env)::C5 pos (Aw es X.env))) _ _ s;refine Calls.spliced_cons (aZ (ha pins s σ H _ I h) λu s1 ⟨x,H1,I1,r1,q1⟩=>?_);exact aZ (hr pos pins s1 σ H1 _ I1 q1) λus s2 ⟨xs,H2,I2,r2,q2⟩=>⟨x::xs,H2,I2,.cons r1 r2,q2⟩
def j2(t:TA):TE:=λσ H Q=>t σ H λxs H1=>xs.length<=Ay/\∀p,H1 p=ah->Q (.ref p) (upd H1 p (.tup xs))
def p6(t:TA):TE:=λσ H Q=>t σ H λxs H1=>xs.length<=Ay/\∀p,H1 p=ah->Q (.ref p) (upd H1 p (.lst xs))
theorem uV{x1}(h:PA X es t):PE X (.Tuple es x1 pos) (j2 t):=by
 intro pins s σ H Q I hq;refine wpAny_Tuple_spliced (aZ (h pos pins s σ H _ I hq) λus s1 ⟨xs,H1,I1,r,z,q⟩=>⟨by rw[<-r.length];exact z,?_⟩);have hf:H1 s1.heap.objs.size=ah:=I1.hok.fresh (Ao _);refine⟨.ref s1.heap.objs.size,upd H1 s1.heap.objs.size (.tup xs),I1.laid (t':=s1.toks) (λb u e=>Ai _ e) (Ao _) ?_,rfl,q _ hf⟩;exact⟨z,us,r,IsTupP.new _ _⟩
theorem v3(h:PA X es t):PE X (.List es pos) (p6 t):=by
 intro pins s σ H Q I hq;refine wpAny_List_spliced (aZ (h pos pins s σ H _ I hq) λus s1 ⟨xs,H1,I1,r,z,q⟩=>⟨by rw[<-r.length];exact z,?_⟩);have hf:H1 s1.heap.objs.size=ah:=I1.hok.fresh (Ao _);refine⟨.ref s1.heap.objs.size,upd H1 s1.heap.objs.size (.lst xs),I1.laid (t':=s1.toks) (λb u e=>Ai _ e) (Ao _) ?_,rfl,q _ hf⟩;exact⟨z,us,0,r,A7 _ rfl⟩
end
abbrev Sp:=List V->Hp->VK->XK->Prop
abbrev jr:=List Env->Hp->Ar->XK->Aj->Ar->Prop
structure Env0(P:Bf)(w:Bx)(K:Ag)(mg:Str->Option Aj)(base:Heap)(A:Ce)(outer:List Env)(s:Ar)(H:Hp):Prop where
 frames:A.frames=ae outer
 mod:Mod K mg base
 bs:∀b o,base.get? b=ae o->s.heap.get? b=ae o/\H b=ah
 bsz:base.objs.size<=s.heap.objs.size
 funs:s.heap.FunFrames base outer
 frf:∀b∈iK outer,H b=ah
 hok:HOk P w H s.heap
 bare:AllBare s.gens
def CE(outer:List Env)(P:Bf)(w:Bx)(H:Hp)(s:Ar)(Q:VK)(u:Aj)(s':Ar):Prop:=
 ∃v H',s'.os=s.os/\AllBare s'.gens/\Un (iK outer) [] H H' s.heap s'.heap/\HOk P w H' s'.heap/\RelV v u/\Q v H'
def CR(CX:jr)(outer:List Env)(P:Bf)(w:Bx)(H:Hp)(s:Ar)(Q:VK)(E:XK)(r:Result)(s':Ar):Prop:=
 match r with
 |.ok (.ret u)=>CE outer P w H s Q u s'
 |.ok _=>False
 |.error e=>CX outer H s E e s'
structure FnOk(P:Bf)(w:Bx)(K:Ag)(mg:Str->Option Aj)(base:Heap)(CX:jr)(k:Nat)(f:Addr)(fd:Cm)(ps:List Str)(sp:Sp):Prop where
 len:∀vs H Q E,sp vs H Q E->vs.length=ps.length
 run:∀(A:Ce)(outer:List Env)(s:Ar)(H:Hp)(args:Args)(us:List Aj)(vs:List V)(Q:VK)(E:XK),Room k A->Env0 P w K mg base A outer s H->BindsTo s fd args (ps.zip us)->Vals vs us->sp vs H Q E->
  codeAny (Bd P w) A (.call (.ref f) args) (CR CX outer P w H s Q E) s
theorem FnOk.imp{P:Bf}{w:Bx}{K:Ag}{mg:Str->Option Aj}{base:Heap}{CX:jr}{k:Nat}{f:Addr}{fd:Cm}{ps:List Str}{sp sp':Sp}(F:FnOk P w K mg base CX k f fd ps sp)
  (h:∀vs H Q E,sp' vs H Q E->sp vs H Q E):FnOk P w K mg base CX k f fd ps sp':=
 ⟨λvs H Q E q=>F.len vs H Q E (h _ _ _ _ q),λA outer s H args us vs Q E hr he hb hv hs=>F.run A outer s H args us vs Q E hr he hb hv (h _ _ _ _ hs)⟩
section
variable{X:Cx}{pins:List (Addr×Obj)}{σ:St}{H:Hp}{s s':Ar}
theorem Inv.env0(I:Inv X pins σ H s):Env0 X.prog X.w X.K X.mg X.base X.A X.stack s H:=
 ⟨I.ok.frames,I.ok.mod,I.bs,A3 I.ok.bsz I.sz,I.stack,I.stkFree,I.hok,I.bare⟩
theorem Inv.after{Q:VK}{u:Aj}(I:Inv X pins σ H s)(h:CE X.stack X.prog X.w H s Q u s'):EP X pins σ Q u s':=by
 obtain⟨v,H',os,bare,un,hok,r,q⟩:=h;obtain⟨hh,g,d,t,os'⟩:=s';obtain rfl:os'=s.os:=os;exact⟨v,H',I.call (h':=hh) (g':=g) (d':=d) (t':=t) (ch:=[]) un hok bare (λb z=>absurd z (by simp)),r,q⟩
end
def jA(sp:Sp)(dvs:List V)(E:XK)(t:TA):TE:=λσ H Q=>t σ H λvs H1=>sp (vs++dvs) H1 Q E
def Binds(K:Ag)(fd:Cm)(ps:List Str)(ds:List Aj):Prop:=
 ∀(s:Ar)(us:List Aj),K.In s.heap->(us++ds).length=ps.length->BindsTo s fd ⟨us,[]⟩ (ps.zip (us++ds))
theorem Binds.all{K:Ag}{fd:Cm}{ps:List Str}(h:∀us:List Aj,us.length=ps.length->bindArgs fd ⟨us,[]⟩=pure (ps.zip us)):Binds K fd ps []:=λs us _ hl=>by
 rw[Bt]at hl ⊢;exact .of_eq (h us hl)
def xt(CX:jr)(X:Cx)(E:XK):Prop:=∀(pins:List (Addr×Obj))(σ:St)(H:Hp)(s:Ar)(e:Aj)(s':Ar),Inv X pins σ H s->CX X.stack H s E e s'->X.xe e s'
section
variable{X:Cx}{CX:jr}{k:Nat}{f C:Addr}{fd:Cm}{ps:List Str}{sp:Sp}{dvs:List V}{ds:List Aj}{E:XK}{x m:Str}{p pos apos:Pos}{e o:Expr}{es:List Expr}{ta:TE}{t:TA}
theorem OL{pins:List (Addr×Obj)}{σ:St}{H:Hp}{s:Ar}{Q:VK}{us:List Aj}{vs:List V}(F:FnOk X.prog X.w X.K X.mg X.base CX k f fd ps sp)(hr:Room k X.A)(hb:Binds X.K fd ps ds)(hd:Vals dvs ds)(hx:xt CX X E)
  (I:Inv X pins σ H s) (r:Vals vs us) (h:sp (vs++dvs) H Q E):A6 (Bd X.prog X.w) X.A (call (.ref f) us) (EP X pins σ Q) X.xe s:=by
 have r2:Vals (vs++dvs) (us++ds):=r.append hd;have hl:(us++ds).length=ps.length:=by rw[<-r2.length];exact F.len _ _ _ _ h
 refine wpAny_call (codeAny_mono (F.run X.A X.stack s H ⟨us,[]⟩ (us++ds) (vs++dvs) Q E hr I.env0 (hb s us I.kIn hl) r2 h) λr s' hq=>?_);cases r with
 |error e=>exact hx pins σ H s e s' I hq
 |ok fl=>
  cases fl with
  |ret u=>exact I.after hq
  |next=>exact False.elim hq
  |brk=>exact False.elim hq
  |cont=>exact False.elim hq
theorem uc(F:FnOk X.prog X.w X.K X.mg X.base CX k f fd ps sp)(hr:Room k X.A)(hg:Gl X x)(hm:X.mg x=ae (.ref f))(hk:Co X.K (.ref f)=ai)(hb:Binds X.K fd ps ds)(hd:Vals dvs ds)(hx:xt CX X E)
  (ha:PA X (e::es) t) (hdb:(x==("__debug__":Str))=aj:=by decide) (he:Aw (e::es) X.env=(aj,eval e X.env)::Aw es X.env:=by rfl) (hpl:(C5 pos (Aw es X.env)).any (·.1)=aj:=by rfl):
  PE X (.Call (.Name x p) (e::es) [] pos) (jA sp dvs E t):=by
 intro pins s σ H Q I h;refine wpAny_Call_Name_kw (Hy I hg hm ?_ hdb);refine PySem.W.callWith_K (h₀:=X.base) I.ok.mod.kin hk (aZ (ha pos pins s σ H _ I h) λus s1 ⟨vs,H1,I1,r,q⟩=>⟨I1.kIn,?_⟩) he hpl;exact OL F hr hb hd hx I1 r q
end
structure FnScope(N P:List Str)(sc:Ej):Prop where
 kind:sc.kind=.function
 co:sc.isCoroutine=aj
 gen:sc.isGenerator=aj
 nd:N.Nodup
 pre:N.take P.length=P
 par:∀x∈P,sc.names.lookup x=ae .local\/sc.names.lookup x=ae .cell
 nofree:∀y∈sc.names,y.2≠.free
theorem BV{kindOf:Str->Option NameKind}{x:Str}:∀{binds:List (Str×Aj)}{m:Str->Option Aj},(∀v,(x,v)∉binds)->bindL kindOf binds m x=m x
 |[],_,_=>rfl
 | (n,v)::r,m,h=>by
  unfold bindL;rw[BV λw hw=>h w (Am _ hw)]
  split
  ·have:x≠n:=by rintro rfl;exact h v As
   simp[this]
  ·rfl
theorem xS{kindOf:Str->Option NameKind}{x:Str}:∀{binds:List (Str×Aj)}{m:Str->Option Aj},(∀v,(x,v)∉binds)->bindC kindOf binds m x=m x
 |[],_,_=>rfl
 | (n,v)::r,m,h=>by
  unfold bindC;rw[xS λw hw=>h w (Am _ hw)]
  split
  ·rfl
  ·have:x≠n:=by rintro rfl;exact h v As
   simp[this]
theorem BF{kindOf:Str->Option NameKind}{x:Str}{v:Aj}:∀{P:List Str}{vs:List Aj}{i:Nat}{m:Str->Option Aj},P.Nodup->P[i]?=ae x->vs[i]?=ae v->kindOf x=ae .local->
  bindL kindOf (P.zip vs) m x=ae v
 |[],_,_,_,_,h,_,_=>by simp at h
 |_::_,[],_,_,_,_,h,_=>by simp at h
 |p::P,w::vs,0,m,nd,h1,h2,hk=>by
  simp at h1 h2;subst h1;subst h2;show bindL kindOf ((p,w)::P.zip vs) m p=_;unfold bindL;rw[BV λv hv=>(Dk.mp nd).1 (Ef hv).1,if_pos hk];simp
 |p::P,w::vs,i+1,m,nd,h1,h2,hk=>by
  show bindL kindOf ((p,w)::P.zip vs) m x=_;unfold bindL;exact BF (i:=i) (Dk.mp nd).2 (by simpa using h1) (by simpa using h2) hk
theorem CJ{kindOf:Str->Option NameKind}{x:Str}{v:Aj}:∀{P:List Str}{vs:List Aj}{i:Nat}{m:Str->Option Aj},P.Nodup->P[i]?=ae x->vs[i]?=ae v->kindOf x≠ae .local->
  bindC kindOf (P.zip vs) m x=ae v
 |[],_,_,_,_,h,_,_=>by simp at h
 |_::_,[],_,_,_,_,h,_=>by simp at h
 |p::P,w::vs,0,m,nd,h1,h2,hk=>by
  simp at h1 h2;subst h1;subst h2;show bindC kindOf ((p,w)::P.zip vs) m p=_;unfold bindC;rw[xS λv hv=>(Dk.mp nd).1 (Ef hv).1,if_neg hk];simp
 |p::P,w::vs,i+1,m,nd,h1,h2,hk=>by
  show bindC kindOf ((p,w)::P.zip vs) m x=_;unfold bindC;exact CJ (i:=i) (Dk.mp nd).2 (by simpa using h1) (by simpa using h2) hk
def start(N:List Str)(vs:List V):St:=vs.map ae++C4 (N.length-vs.length) ah
def eD(CX:jr)(P:Bf)(w:Bx)(K:Ag)(mg:Str->Option Aj)(base:Heap)(N:List Str)(qual:Str)(scope:Ej)(f:Addr)(cd:Aj)(A:Ce)(outer:List Env)(s:Ar)(H:Hp)(E:XK):Cx where
 prog:=P
 w:=w
 K:=K
 mg:=mg
 base:=base
 A:=A.deeper (envOfC qual scope s.heap.objs.size f cd)
 N:=N
 s₀:=s
 H₀:=H
 env:=envOfC qual scope s.heap.objs.size f cd
 outer:=outer
 stack:=envOfC qual scope s.heap.objs.size f cd::outer
 ex:=[]
 calm:=ai
 fn:=λ_=>ai
 pn:=[]
 xe:=λe s'=>A6 (Bd P w) (A.deeper (envOfC qual scope s.heap.objs.size f cd)) (leaving (envOfC qual scope s.heap.objs.size f cd) e) (λ_ s''=>CX outer H s E e s'') (λe' s''=>CX outer H s E e' s'') s'
theorem AO{sc:Ej}{n:Nat}{x:Str}(h:sc.names.lookup x=ae .cell):∃c,(cellsFrom n sc.names []).lookup x=ae c:=by
 have q:=PySem.W.cellsFrom_some sc.names n [] (.inl h);exact Dc.mp q
theorem IF{CX:jr}{P:Bf}{w:Bx}{K:Ag}{mg:Str->Option Aj}{base:Heap}{N ps:List Str}{qual:Str}{scope:Ej}{f:Addr}{cd:Aj}{A:Ce}{outer:List Env}{s s1:Ar}{H:Hp}{E:XK}{us:List Aj}{vs:List V}
  (S:FnScope N ps scope) (hd:A.handled=ah) (e0:Env0 P w K mg base A outer s H) (hl:vs.length=ps.length) (r:Vals vs us)
  (x:InCallC s s.heap.objs.size (bindL (envOfC qual scope s.heap.objs.size f cd).kindOf (ps.zip us) λ_=>ah) (cellsFrom (s.heap.objs.size+1) scope.names []) (bindC (envOfC qual scope s.heap.objs.size f cd).kindOf (ps.zip us) λ_=>ah) s1):
  Inv (eD CX P w K mg base N qual scope f cd A outer s H E) [] (start N vs) H s1:=by
 have hpl:ps.length<=N.length:=by have:=congrArg List.length S.pre;rw[Br]at this;omega
 obtain⟨h1,tk,rfl,hk⟩:=x.done;have noA:∀b:Addr,b∉(eD CX P w K mg base N qual scope f cd A outer s H E).ex:=λb z=>absurd (show b∈([]:List Addr)from z) (by simp);refine⟨⟨e0.mod,S.kind,rfl,rfl,Ao _,λy z c h1 h2=>?_,λy hy=>?_,λy c _ h=>?_,λ_=>hd,Around.frames_deeper e0.frames,.inr ⟨rfl,rfl⟩,λb z=>absurd z (noA b),e0.bs,e0.bsz,λb _ _=>noA b,λb z=>absurd z (noA b),e0.funs,e0.frf⟩,
  rfl,e0.bare,Un.kept hk,⟨_,x.toInCall.ns,λi y v h1 h2 h3=>?_⟩,λy c h=>⟨_,x.cell y c h⟩,e0.hok.fresh (Ao _),λy c h=>?_,λp hp=>absurd (show p∈([]:List (Addr×Obj))from hp) (by simp),e0.hok.kept hk,?_⟩
 ·exact name_of_addr x.apart (Ey h1) (Ey h2)
 ·have hy:scope.names.lookup y=ae .cell\/scope.names.lookup y=ae .free:=hy;rcases hy with hy|hy
  ·exact AO hy
  ·exact absurd rfl (S.nofree _ (Ey hy))
 ·exact Ft (x.above y c (Ey h))
 ·have hi:i < vs.length:=by
   unfold start at h2;by_cases hi:i < vs.length
   ·exact hi
   ·rw[B6 (by simpa using hi)]at h2;rw[D6]at h2
    split at h2<;>cases h2
  have ha:vs[i]?=ae v:=by
   unfold start at h2;rw[C8 (by simpa using hi),A1]at h2;cases e:vs[i]? with
   |none=>rw[e]at h2;cases h2
   |some a=>rw[e]at h2;cases h2;rfl
  obtain⟨u,hu,rv⟩:=r.get ha;have hp:ps[i]?=ae y:=by
   rw[<-S.pre,List.getElem?_take_of_lt (by omega)];exact h1
  have ndP:ps.Nodup:=by rw[<-S.pre];exact S.nd.sublist (List.take_sublist _ _)
  refine⟨u,rv,?_⟩;rcases S.par y (A5 hp)with k|k
  ·exact .inl ⟨k,BF ndP hp hu k⟩
  ·obtain⟨c,e⟩:=AO (n:=s.heap.objs.size+1) k;refine .inr ⟨.inl k,c,e,?_⟩;have q:=x.cell y c e;rw[CJ ndP hp hu (by show scope.names.lookup y≠_;rw[k];decide)]at q;exact q
 ·exact e0.hok.fresh (Ft (x.above y c (Ey h)))
 ·unfold start;show _=N.length;rw[Af,Ab,List.length_replicate];omega
theorem RP{CX:jr}{P:Bf}{w:Bx}{K:Ag}{mg:Str->Option Aj}{base:Heap}{k:Nat}{f:Addr}{name qual:Str}{params:Arguments}{body:List Stmt}{scope:Ej}{dV kV doc pm cdv ct oc:Aj}{an od:Option Addr}
  {osl:Array (Option Aj)} {N ps:List Str} {sp:Sp} (lk:K.lookup f=ae ⟨oc,od,.func (Ep name qual params body scope dV kV doc pm an cdv ct),osl⟩) (hcd:PySem.W.codeIn K cdv qual=ai) (S:FnScope N ps scope)
  (len:∀vs H Q E,sp vs H Q E->vs.length=ps.length)
  (hbody:∀(A:Ce)(outer:List Env)(s:Ar)(H:Hp)(vs:List V)(Q:VK)(E:XK),Room k (A.deeper (envOfC qual scope s.heap.objs.size f cdv))->sp vs H Q E->
   ∃t,PSs (eD CX P w K mg base N qual scope f cdv A outer s H E) body t/\t {nx:=λ_ H'=>Q .non H',rt:=Q} (start N vs) H):
  FnOk P w K mg base CX (k+1) f (Ep name qual params body scope dV kV doc pm an cdv ct) ps sp:=by
 refine⟨len,λA outer s H args us vs Q E hr e0 hb r hsp=>?_⟩;have hl:=len _ _ _ _ hsp;have KX:K.In s.heap:=e0.mod.kin.keeps λb o e=>(e0.bs b o e).1;have lim:s.heap.NoLimit:=e0.mod.nolimit.keeps λb o e=>(e0.bs b o e).1;have hkind:∀y∈ps.zip us,scope.names.lookup y.1=ae .local\/(scope.names.lookup y.1=ae .cell/\((cellsFrom (s.heap.objs.size+1) scope.names []).lookup y.1).isSome=ai):=λ⟨n,v⟩ hy=>by
  rcases S.par n (Ef hy).1 with q|q
  ·exact .inl q
  ·exact .inr ⟨q,PySem.W.cellsFrom_some _ _ _ (.inl q)⟩
 refine codeAny_call_function hr.depth (KX _ _ lk) rfl S.co S.gen rfl (PySem.W.codeRec_of KX hcd) (hb _ _ _ _ ?_);refine wpAny_newFunctionEnv_cells S.kind hkind λenv he s1 x=>?_;subst he;refine⟨lim.keeps x.toInCall.keep,codeAny_func ?_⟩;obtain⟨t,ht,hq⟩:=hbody A outer s H vs Q E (hr.deeper _) hsp;have I:Inv (eD CX P w K mg base N qual scope f cdv A outer s H E) [] (start N vs) H s1:=IF S hr.hd e0 hl r x;refine C7 (ht [] s1 (start N vs) H _ I hq) (λfl s' hs=>?_) λe s' hs=>hs;have fin:∀{σ':St}{H':Hp}{v:V}{u:Aj},Inv (eD CX P w K mg base N qual scope f cdv A outer s H E) [] σ' H' s'->RelV v u->Q v H'->CE outer P w H s Q u s':=
  λ{σ' H' v u} J rv q=>⟨v,H',J.os,J.bare,J.base,J.hok,rv,q⟩
 cases fl with
 |ret u=>
  obtain⟨v,σ',H',J,rv,q⟩:=hs;exact fin J rv q
 |next=>
  obtain⟨σ',H',J,q⟩:=hs;exact fin (v:=V.non) (u:=B3) J rfl q
 |brk=>
  obtain⟨_,_,_,q⟩:=hs;exact False.elim q
 |cont=>
  obtain⟨_,_,_,q⟩:=hs;exact False.elim q
section
variable{X:Cx}{x:Str}{p pos:Pos}{e:Expr}{es:List Expr}{t:TA}{id T:String}{r:List V->Hp->VK->Prop}
def gB(r:List V->Hp->VK->Prop)(t:TA):TE:=λσ H Q=>t σ H λvs H1=>r vs H1 Q
theorem ma(hc:CallR X (.builtin id) r)(hg:Gl X x)(hm:X.mg x=ah)(hv:By x=ae (.builtin id))(ha:PA X (e::es) t)(hn:x≠"__name__":=by decide)(hdb:(x==("__debug__":Str))=aj:=by decide)
  (he:Aw (e::es) X.env=(aj,eval e X.env)::Aw es X.env:=by rfl) (hpl:(C5 pos (Aw es X.env)).any (·.1)=aj:=by rfl):PE X (.Call (.Name x p) (e::es) [] pos) (gB r t):=by
 intro pins s σ H Q I h;refine wpAny_Call_Name_kw (mw I hg hm hv ?_ hn hdb);exact PyProof.Rows.callWith_builtin1 (aZ (ha pos pins s σ H _ I h) λus s1 ⟨vs,H1,I1,r1,q1⟩=>hc pins s1 σ H1 vs us Q I1 r1 q1) he hpl
theorem ml(hc:CallR X (.type T) r)(hg:Gl X x)(hm:X.mg x=ah)(hv:By x=ae (.type T))(ha:PA X (e::es) t)(hn:x≠"__name__":=by decide)(hdb:(x==("__debug__":Str))=aj:=by decide)
  (he:Aw (e::es) X.env=(aj,eval e X.env)::Aw es X.env:=by rfl) (hpl:(C5 pos (Aw es X.env)).any (·.1)=aj:=by rfl):PE X (.Call (.Name x p) (e::es) [] pos) (gB r t):=by
 intro pins s σ H Q I h;refine wpAny_Call_Name_kw (mw I hg hm hv ?_ hn hdb);exact D7 (aZ (ha pos pins s σ H _ I h) λus s1 ⟨vs,H1,I1,r1,q1⟩=>hc pins s1 σ H1 vs us Q I1 r1 q1) he hpl
end
end L2
namespace HT
open PySem PyProof.Rows
section
variable{prog:Bf}{w:Bx}{A:Ce}{E:Aj->Ar->Prop}{s:Ar}
theorem cat_tup{t b:Addr}{vs ws:List Aj}{Q:Aj->Ar->Prop}(ht:IsTup s.heap t vs.toArray)(hb:IsTup s.heap b ws.toArray)(hv:vs≠[])
  (h1:ws=[]->Q (.ref t) s) (h2:ws≠[]->Q (.ref s.heap.objs.size) {s with heap:=s.heap.push {cls:=.type "tuple",data:=.seq (vs++ws).toArray}})
  (hsz:vs.length+ws.length<=Ay):A6 (Bd prog w) A (Ed .Add (.ref t) (.ref b)) Q E s:=by
 obtain⟨⟨cls,dd,data,sl⟩,ho,hc,n,hd⟩:=id ht;obtain⟨⟨cls2,dd2,data2,sl2⟩,ho2,hc2,n2,hd2⟩:=id hb;simp only at hc hd hc2 hd2;subst hc hd hc2 hd2;have e:vs.toArray++ws.toArray=(vs++ws).toArray:=by simp
 by_cases hw:ws=[]
 ·exact concat_meets ⟨_,ho,rfl⟩ ⟨_,ho2,rfl⟩ noFill_tuple_add seq_tuple_add Fh E7 (Ez _ _)
   (tuple_addW1 t b vs.toArray ws.toArray n n2 dd dd2 sl sl2 (by simpa using hv) (by simp[hw])) ⟨ho,ho2,h1 hw⟩
 ·refine concat_meets ⟨_,ho,rfl⟩ ⟨_,ho2,rfl⟩ noFill_tuple_add seq_tuple_add Fh E7 (Ez _ _)
   (tuple_addW2 t b vs.toArray ws.toArray n n2 dd dd2 sl sl2 (by simpa using hv) (by simpa using hw) (by rw[A0,A0];exact hsz)) ⟨ho,ho2,?_⟩
  rw[e];exact h2 hw
def sIx(n d:Nat):Option Int->Nat
 |none=>d
 |some v=>if v < 0 then(v+(n:Int)).toNat else min v.toNat n
theorem sIx_none(n d:Nat):sIx n d ah=d:=rfl
theorem sIx_nat(n d k:Nat):sIx n d (ae (k:Int))=min k n:=by
 show(if (k:Int) < 0 then((k:Int)+(n:Int)).toNat else min (k:Int).toNat n)=min k n;rw[if_neg (by omega),Bv]
theorem SH(n d:Nat)(hd:d<=n)(o:Option Int):sIx n d o<=n:=by
 cases o with
 |none=>exact hd
 |some v=>
  show(if v < 0 then(v+(n:Int)).toNat else min v.toNat n)<=n;by_cases hv:v < 0
  ·rw[if_pos hv];omega
  ·rw[if_neg hv];exact Nat.min_le_right _ _
theorem AA(v:Int)(n d:Nat):(if v < 0 then max (v+(n:Int)) 0 else min v (n:Int))=((sIx n d (ae v):Nat):Int):=by
 show(if v < 0 then max (v+(n:Int)) 0 else min v (n:Int))=(((if v < 0 then(v+(n:Int)).toNat else min v.toNat n):Nat):Int);by_cases hv:v < 0
 ·simp only[if_pos hv];omega
 ·simp only[if_neg hv];omega
theorem Os(lo hi:Option Int)(n:Nat):C1 lo hi 1 (n:Int)=(((sIx n 0 lo:Nat):Int),((sIx n n hi:Nat):Int)):=by
 have h1:¬((1:Int) < 0):=by omega
 unfold C1;simp only[h1,if_false];refine Prod.ext ?_ ?_
 ·cases lo with
  |none=>rfl
  |some v=>exact AA v n 0
 ·cases hi with
  |none=>rfl
  |some v=>exact AA v n n
theorem SB(i j:Nat):Cc (i:Int) (j:Int) 1=j-i:=by
 unfold Cc;have h1:(1:Int) > 0:=by omega
 simp only[h1,if_true,Int.ediv_one]
 split<;>omega
theorem BK{v:Aj}{o:Option Int}{Q:Option Int->Ar->Prop}(p:IsPart v o)(h:Q o s):A6 (Bd prog w) A (Builtin.Slice.slicePartIndex v) Q E s:=by
 cases p with
 |none=>exact slicePart_none h
 |int i t=>exact slicePart_int h
theorem yx{sl:Addr}{vl vu:Aj}{lo hi:Option Int}{n:Nat}{Q:Int×Int×Nat->Ar->Prop}(hs:s.heap.IsSliceOf sl vl vu .none)(pl:IsPart vl lo)(pu:IsPart vu hi)
  (h:Q (((sIx n 0 lo:Nat):Int),1,sIx n n hi-sIx n 0 lo) s):A6 (Bd prog w) A (Eb (.ref sl) (pure (n:Int))) Q E s:=by
 obtain⟨os,hos,hcs,hds⟩:=id hs;unfold Eb Builtin.Slice.sliceFields;refine Ad (Ad (Cn hos hds (x:=vl) rfl (Ad (Cn hos hds (x:=vu) rfl (Ad (Cn hos hds (x:=.none) rfl (Ax ?_)))))));refine Ad (slicePart_none ?_);show A6 _ _ (if ((1:Int)==0)=ai then _ else _) _ _ s;rw[if_neg (by decide)];refine Ad (BK pl (Ad (BK pu (Ad (Ax ?_)))));show A6 _ _ (match C1 lo hi 1 (n:Int)with|(lo,hi)=>pure (lo,(1:Int),Cc lo hi 1)) _ _ s;rw[Os lo hi n];show A6 _ _ (pure (((sIx n 0 lo:Nat):Int),(1:Int),Cc ((sIx n 0 lo:Nat):Int) ((sIx n n hi:Nat):Int) 1)) _ _ s;rw[SB];exact Ax h
theorem Rc(xs:Array Aj)(i k:Nat):((Ba k).filterMap λ(m:Nat)=>xs[((i:Int)+(m:Int)*1).toNat]?).toArray=((xs.toList.drop i).take k).toArray:=by
 have e:(λ(m:Nat)=>xs[((i:Int)+(m:Int)*1).toNat]?)=λm=>xs[i+m]?:=by
  funext m
  have:((i:Int)+(m:Int)*1).toNat=i+m:=by omega
  rw[this]
 rw[e];have:=pick_run xs i k;rw[List.filterMap_map]at this;have e2:((λx=>xs[x]?) ∘ λx=>i+x)=λm=>xs[i+m]?:=rfl;rw[e2]at this;rw[this]
theorem getItem_tuple_cut{t sl:Addr}{items:Array Aj}{vl vu:Aj}{lo hi:Option Int}{Q:Aj->Ar->Prop}(ht:IsTup s.heap t items)(hs:s.heap.IsSliceOf sl vl vu .none)(pl:IsPart vl lo)(pu:IsPart vu hi)
  (hw:¬(sIx items.size 0 lo=0/\sIx items.size items.size hi=items.size))
  (h:Q (.ref s.heap.objs.size) {s with heap:=s.heap.push {cls:=.type "tuple",data:=.seq ((items.toList.drop (sIx items.size 0 lo)).take (sIx items.size items.size hi-sIx items.size 0 lo)).toArray}})
  (hsz:items.size<=Ay):A6 (Bd prog w) A (getItem (.ref t) (.ref sl)) Q E s:=by
 have htake:sizeOk (.seq ((items.toList.drop (sIx items.size 0 lo)).take (sIx items.size items.size hi-sIx items.size 0 lo)).toArray):=by
  show((items.toList.drop (sIx items.size 0 lo)).take (sIx items.size items.size hi-sIx items.size 0 lo)).toArray.size<=Ay;rw[A0,Br,Bw,D3];omega
 have hj:sIx items.size items.size hi<=items.size:=SH _ _ (Ao _) hi;obtain⟨os,hos,hcs,hds⟩:=id hs;have hTs:s.TypeIs (.ref sl) "slice":=⟨os,hos,hcs⟩;unfold getItem
 try with_reducible refine Dh ?_
 first|refine Ad (Ax ?_)|skip
 refine Ad (wpAny_sequenceKey ht.typeIs (by decide) ?_);refine Ad (C3 (name:=D0 "__getitem__") ht.typeIs Cj
  (Dr Cj ht.typeIs entry_tuple_getitem ?_ (args_tuple_getitem _ _)))
 show A6 _ _ (Fx (.ref t)>>=_) _ _ s;refine Ad (tupleItemsOf_ ht ?_);refine Ad (F0 hTs ?_);rw[if_pos (by decide)];refine Ad (yx hs pl pu ?_);have hno:¬((((sIx items.size 0 lo:Nat):Int)==0&&(1:Int)==1&&(sIx items.size items.size hi-sIx items.size 0 lo)==items.size)=ai):=by
  intro q;rw[A2,A2]at q;have q1:((sIx items.size 0 lo:Nat):Int)=0:=eq_of_beq q.1.1;have q2:sIx items.size items.size hi-sIx items.size 0 lo=items.size:=eq_of_beq q.2;exact hw ⟨by omega,by omega⟩
 show A6 _ _ (if (((sIx items.size 0 lo:Nat):Int)==0&&(1:Int)==1&&(sIx items.size items.size hi-sIx items.size 0 lo)==items.size)=ai then _ else _) _ _ s;rw[if_neg hno,Rc]
 first
  |exact Ad (m:=Cf _) (B7 (Ax ⟨_,rfl,Ax h⟩) htake)
  |exact Ad (m:=Cf _) (B7 (Ad (Ax (Ax ⟨_,rfl,Ax h⟩))) htake)
  |exact Ad (Ad (m:=Cf _) (B7 (Ax (Ax ⟨_,rfl,Ax h⟩)) htake))
  |exact Ad (Ad (m:=Cf _) (B7 (Ax ⟨_,rfl,Ax h⟩) htake))
end
end HT
namespace L2
open PySem PySem.Spec PyProof.Rows
abbrev TO:=St->Hp->(Option Int->Hp->Prop)->Prop
def PO(X:Cx)(e:Option Expr)(t:TO):Prop:=
 ∀(pins:List (Addr×Obj))(s:Ar)(σ:St)(H:Hp)(Q:Option Int->Hp->Prop),Inv X pins σ H s->t σ H Q->
  A6 (Bd X.prog X.w) X.A (evalPart e X.env) (λu s'=>∃o H',Inv X pins σ H' s'/\IsPart u o/\Q o H') X.xe s
def FU:TO:=λ_ H Q=>Q ah H
def G8(t:TE):TO:=λσ H Q=>t σ H λx H1=>∃i,x=.int i/\Q (ae i) H1
section
variable{X:Cx}{e:Expr}{te:TE}{lo hi:Option Expr}{tl th:TO}{pos p2:Pos}
theorem DU:PO X ah FU:=by
 intro pins s σ H Q I h;rw[evalPart_none];exact Ax ⟨ah,H,I,.none,h⟩
theorem yC(h:PE X e te):PO X (ae e) (G8 te):=by
 intro pins s σ H Q I hw;rw[evalPart_some];refine aZ (h pins s σ H _ I hw) λu s1 ⟨x,H1,I1,r1,q1⟩=>?_;obtain⟨i,rfl,q⟩:=q1;obtain⟨t,rfl⟩:=r1;exact⟨ae i,H1,I1,.int i t,q⟩
def SlR(X:Cx)(r:V->Option Int->Option Int->Hp->VK->Prop):Prop:=
 ∀(pins:List (Addr×Obj))(s:Ar)(σ:St)(H:Hp)(x:V)(v vl vu:Aj)(lo hi:Option Int)(sl:Addr)(Q:VK),Inv X pins σ H s->RelV x v->s.heap.IsSliceOf sl vl vu .none->IsPart vl lo->IsPart vu hi->r x lo hi H Q->
  ∃T id,typeLookup (.type T) "__getitem__"=pure (ae (.builtin id))/\s.TypeIs v T/\A6 (Bd X.prog X.w) X.A (getItem v (.ref sl)) (EP X pins σ Q) X.xe s
theorem SlR.or{r r':V->Option Int->Option Int->Hp->VK->Prop}(h:SlR X r)(h':SlR X r'):SlR X (λx lo hi H Q=>r x lo hi H Q\/r' x lo hi H Q):=by
 intro pins s σ H x v vl vu lo hi sl Q I rx hs pl pu q;rcases q with q|q
 ·exact h pins s σ H x v vl vu lo hi sl Q I rx hs pl pu q
 ·exact h' pins s σ H x v vl vu lo hi sl Q I rx hs pl pu q
def qH(r:V->Option Int->Option Int->Hp->VK->Prop)(te:TE)(tl th:TO):TE:=λσ H Q=>te σ H λx H1=>tl σ H1 λl H2=>th σ H2 λu H3=>r x l u H3 Q
theorem sr{r:V->Option Int->Option Int->Hp->VK->Prop}(hr:SlR X r)(he:PE X e te)(hl:PO X lo tl)(hu:PO X hi th):PE X (.Subscript e (.Slice lo hi ah p2) pos) (qH r te tl th):=by
 intro pins s σ H Q I h;refine Subscript_ (aZ (he pins s σ H _ I h) λv s1 ⟨x,H1,I1,r1,q1⟩=>?_);refine wpAny_Slice (aZ (hl pins s1 σ H1 _ I1 q1) λvl s2 ⟨l,H2,I2,pl,q2⟩=>aZ (hu pins s2 σ H2 _ I2 q2) λvu s3 ⟨u,H3,I3,pu,q3⟩=>?_);rw[evalPart_none];refine Ax ?_;have I4:Inv X pins σ H3 {s3 with heap:=s3.heap.push {cls:=.type "slice",data:=.fields #[vl,vu,.none]}}:=I3.kept (t':=s3.toks) λb ob q=>Ai _ q;obtain⟨T,id,hT,ht,hg⟩:=hr pins {s3 with heap:=s3.heap.push {cls:=.type "slice",data:=.fields #[vl,vu,.none]}} σ H3 x v vl vu l u s3.heap.objs.size Q I4 r1 (Heap.IsSliceOf.new ..) pl pu q3;show A6 (Bd X.prog X.w) X.A (subscriptTail e (.Slice lo hi ah p2) v (.ref s3.heap.objs.size)) (EP X pins σ Q) X.xe {s3 with heap:=s3.heap.push {cls:=.type "slice",data:=.fields #[vl,vu,.none]}};exact tail_any (ops:=[.ref s3.heap.objs.size,v]) ht hT hg (by with_unfolding_all rfl)
def fe(xs:List V)(lo hi:Option Int):List V:=(xs.drop (HT.sIx xs.length 0 lo)).take (HT.sIx xs.length xs.length hi-HT.sIx xs.length 0 lo)
theorem oS(xs:List V)(lo hi:Option Int):(fe xs lo hi).length<=xs.length:=by
 unfold fe;rw[Br,Bw];omega
def nS(K:Ag):V->Option Int->Option Int->Hp->VK->Prop:=λx lo hi H Q=>∃a xs,x=.ref a/\SqT K H a xs /\
 ¬(HT.sIx xs.length 0 lo=0/\HT.sIx xs.length xs.length hi=xs.length)/\∀p,H p=ah->Q (.ref p) (upd H p (.tup (fe xs lo hi)))
theorem sl_tup:SlR X (nS X.K):=by
 intro pins s σ H x v vl vu lo hi sl Q I rx hs pl pu h;obtain⟨a,xs,rfl,hx,hw,q⟩:=h;cases rx;obtain⟨its,r,ht,hz⟩:=I.tuple hx;have hlen:its.toArray.size=xs.length:=by rw[A0];exact r.length.symm
 refine⟨"tuple",_,PyProof.Rows.slot_tuple_getitem.lookup,ht.typeIs,?_⟩;refine HT.getItem_tuple_cut ht hs pl pu (by rw[hlen];exact hw) ?_ (by rw[hlen];exact hz);rw[hlen];refine⟨.ref s.heap.objs.size,_,I.laid (t':=s.toks) (o:=.tup (fe xs lo hi)) (λb ob q=>Ai _ q) (Ao _) ?_,rfl,q _ (I.hok.fresh (Ao _))⟩;exact⟨A3 (oS xs lo hi) hz,_,(r.drop (HT.sIx xs.length 0 lo)).take (HT.sIx xs.length xs.length hi-HT.sIx xs.length 0 lo),IsTupP.new _ _⟩
def HM(K:Ag):R2:=λx y H Q=>∃a b xs ys,x=.ref a/\y=.ref b/\SqT K H a xs/\SqT K H b ys/\xs≠[]/\xs.length+ys.length<=Ay /\
 (ys=[]->Q (.ref a) H)/\(ys≠[]->∀p,H p=ah->Q (.ref p) (upd H p (.tup (xs++ys))))
theorem Vals.nil_iff{xs:List V}{us:List Aj}(r:Vals xs us):us=[]↔xs=[]:=by
 cases r with
 |nil=>simp
 |cons _ _=>simp
theorem op_catT:OpR X (Ed .Add) (HM X.K):=by
 intro pins s σ H x y v u Q I rx ry h;obtain⟨a,b,xs,ys,rfl,rfl,ha,hb,hx,hz,q1,q2⟩:=h;cases rx;cases ry;obtain⟨its,r1,p1,_⟩:=I.tuple ha;obtain⟨its2,r2,p2,_⟩:=I.tuple hb;refine HT.cat_tup p1 p2 (λz=>hx (r1.nil_iff.mp z)) (λz=>⟨.ref a,H,I,rfl,q1 (r2.nil_iff.mp z)⟩) (λz=>?_) (by rw[<-r1.length,<-r2.length];exact hz);refine⟨.ref s.heap.objs.size,_,I.laid (t':=s.toks) (o:=.tup (xs++ys)) (λb ob q=>Ai _ q) (Ao _) ?_,rfl,q2 (λw=>z (r2.nil_iff.mpr w)) _ (I.hok.fresh (Ao _))⟩;exact⟨by rw[Af];exact hz,_,r1.append r2,IsTupP.new _ _⟩
end
def eY(n:Nat)(i:Int):Option Nat:=if 0<=i then(if i < n then ae i.toNat else ah)else if -(n:Int)<=i then ae (i+n).toNat else ah
def cS{α:Type}(xs:List α)(i:Int):Option α:=(eY xs.length i).bind λj=>xs[j]?
theorem wW{n:Nat}{i:Int}{j:Nat}(h:eY n i=ae j):seqIndex? i n=ae j/\j < n/\-(n:Int)<=i/\i < n:=by
 unfold eY at h;by_cases h0:0<=i
 ·rw[if_pos h0]at h;by_cases h1:i < n
  ·rw[if_pos h1]at h;have e:i.toNat=j:=A8 h;exact⟨by rw[seqIndex_of h0 h1,e],by omega,by omega,h1⟩
  ·rw[if_neg h1]at h;cases h
 ·rw[if_neg h0]at h;by_cases h1:-(n:Int)<=i
  ·rw[if_pos h1]at h;have e:(i+n).toNat=j:=A8 h;exact⟨by rw[seqIndex_neg (by omega) h1,e],by omega,h1,by omega⟩
  ·rw[if_neg h1]at h;cases h
theorem vb{α:Type}{xs:List α}{i:Int}{v:α}(h:cS xs i=ae v):∃j,seqIndex? i xs.length=ae j/\xs[j]?=ae v/\j < xs.length/\-(xs.length:Int)<=i/\i < xs.length:=by
 unfold cS at h;cases e:eY xs.length i with
 |none=>rw[e]at h;cases h
 |some j=>
  rw[e]at h;obtain⟨h1,h2,h3,h4⟩:=wW e;exact⟨j,h1,h,h2,h3,h4⟩
theorem fi{α:Type}{xs:List α}{j:Nat}{v:α}(h:xs[j]?=ae v):cS xs (j:Int)=ae v:=by
 have hj:j < xs.length:=(Au.mp h).1;have e:eY xs.length (j:Int)=ae j:=by
  unfold eY;rw[if_pos (by omega),if_pos (by omega)];simp
 unfold cS;rw[e];exact h
def nF(b:Expr):Prop:=∀o i,subscripted b aj o i=operate [o,i] (getItem o i)
def IxR(X:Cx)(r:R2):Prop:=
 ∀(value slice:Expr)(pins:List (Addr×Obj))(s:Ar)(σ:St)(H:Hp)(x y:V)(v u:Aj)(Q:VK),Inv X pins σ H s->RelV x v->RelV y u->r x y H Q->
  subscripted slice aj v u=operate [v,u] (getItem v u)->A6 (Bd X.prog X.w) X.A (subscriptTail value slice v u) (EP X pins σ Q) X.xe s
def wK(X:Cx)(id:String)(r:V->List V->Hp->VK->Prop):Prop:=
 ∀(pins:List (Addr×Obj))(s:Ar)(σ:St)(H:Hp)(x:V)(xs:List V)(v:Aj)(us:List Aj)(Q:VK),Inv X pins σ H s->RelV x v->Vals xs us->r x xs H Q->
  A6 (Bd X.prog X.w) X.A (call (.builtin id) (v::us)) (EP X pins σ Q) X.xe s
section
variable{X:Cx}{a b:Expr}{ta tb:TE}{pos:Pos}
theorem IxR.or{r r':R2}(h:IxR X r)(h':IxR X r'):IxR X (λx y H Q=>r x y H Q\/r' x y H Q):=by
 intro value slice pins s σ H x y v u Q I rx ry q hs;rcases q with q|q
 ·exact h value slice pins s σ H x y v u Q I rx ry q hs
 ·exact h' value slice pins s σ H x y v u Q I rx ry q hs
theorem hX{r:R2}(hr:IxR X r)(ha:PE X a ta)(hb:PE X b tb)(hs:nF b):PE X (.Subscript a b pos) (dR r ta tb):=by
 intro pins s σ H Q I h;exact Subscript_ (mh ha hb I h λv u s2 x y H2 I2 rx ry q=>hr a b pins s2 σ H2 x y v u Q I2 rx ry q (hs _ _))
def pq(K:Ag):R2:=λx y H Q=>∃p xs i v,x=.ref p/\y=.int i/\SqL K H p xs/\cS xs i=ae v/\Q v H
def pO(K:Ag):R2:=λx y H Q=>∃p xs i v,x=.ref p/\y=.int i/\SqT K H p xs/\cS xs i=ae v/\Q v H
def pH:R2:=λx y H Q=>∃z i c,x=.str z/\y=.int i/\z.length<=Ay/\cS z.cps.toList i=ae c/\Q (.str ⟨#[c]⟩) H
theorem ix_list:IxR X (pq X.K):=by
 intro value slice pins s σ H x y v u Q I rx ry h hs;obtain⟨p,xs,i,z,rfl,rfl,hq,he,q⟩:=h;cases rx;obtain⟨t,rfl⟩:=ry;obtain⟨its,r,pl,hz⟩:=I.list hq;obtain⟨j,h1,h2,h3,h4,h5⟩:=vb he;obtain⟨w,ew,rw'⟩:=r.get h2;have hl:=r.length;have hn:=mx;have fin:EP X pins σ Q w s:=⟨z,H,I,rw',q⟩;by_cases h0:0<=i
 ·have hj:i.toNat=j:=by
   rw[seqIndex_of h0 h5]at h1;exact A8 h1
  exact item_listR pl.isList h0 (by omega) (by rw[hj];simpa using ew) fin hs
 ·have hj:(i+(its.toArray.size:Int)).toNat=j:=by
   rw[seqIndex_neg (by omega) h4]at h1;rw[A0,<-hl];exact A8 h1
  exact subscriptTail_builtinR (x:=w) pl.isList.typeIs slot_list_getitem.lookup
   (wpAny_getItem_list_neg (Q:=λr s'=>r=w/\EP X pins σ Q r s') pl.isList (by omega) (by rw[A0]<;>omega) (by omega) (by rw[hj];simpa using ew) ⟨rfl,fin⟩) hs
theorem ix_tup:IxR X (pO X.K):=by
 intro value slice pins s σ H x y v u Q I rx ry h hs;obtain⟨p,xs,i,z,rfl,rfl,hq,he,q⟩:=h;cases rx;obtain⟨t,rfl⟩:=ry;obtain⟨its,r,pl,hz⟩:=I.tuple hq;obtain⟨j,h1,h2,h3,h4,h5⟩:=vb he;obtain⟨w,ew,rw'⟩:=r.get h2;have hl:=r.length;have hn:=mx;have fin:EP X pins σ Q w s:=⟨z,H,I,rw',q⟩;exact subscriptTail_builtinR (x:=w) pl.typeIs slot_tuple_getitem.lookup
  (getItem_tuple (j:=j) (Q:=λr s'=>r=w/\EP X pins σ Q r s') pl (by omega) (by omega) (by rw[A0,<-hl];exact h1) (by simpa using ew) ⟨rfl,fin⟩) hs
theorem Uo:IxR X pH:=by
 intro value slice pins s σ H x y v u Q I rx ry h hs;obtain⟨z,i,c,rfl,rfl,hz,he,q⟩:=h;obtain⟨t,rfl⟩:=rx;obtain⟨t',rfl⟩:=ry;obtain⟨j,h1,h2,h3,h4,h5⟩:=vb he;have hl:z.cps.toList.length=z.length:=by simp[Str.length]
 rw[hl]at h1 h4 h5;have hn:=mx;exact tail_any (typeIs_str s z t) slot_str_getitem.lookup (getItem_str (c:=c) (by
  have e1:decide (i < -(2 ^ 63:Int))=aj:=decide_eq_false (by omega);have e2:decide (i ≥ 2 ^ 63)=aj:=decide_eq_false (by omega);rw[e1,e2,Bool.or_false]) (by rw[h1];simpa using h2) ⟨.str ⟨#[c]⟩,H,I.tok _,⟨_,rfl⟩,q⟩) hs
def ko(K:Ag):R2:=λx y H Q=>pq K x y H Q\/pO K x y H Q\/pH x y H Q
theorem qM:IxR X (ko X.K):=ix_list.or (ix_tup.or Uo)
theorem P4(its:List Aj)(n j:Nat)(u:Aj):Cz (·.setIfInBounds j u) {cls:=.type "list",data:=.seq its.toArray n}={ cls:=.type "list",data:=.seq (its.set j u).toArray n}:=by
 simp[Cz]
theorem Inv.lst{pins:List (Addr×Obj)}{σ:St}{H:Hp}{s:Ar}{p:Addr}{xs:List V}(I:Inv X pins σ H s)(h:H p=ae (.lst xs)):
  ∃(its:List Aj)(n:Nat),Vals xs its/\s.heap.get? p=ae {cls:=.type "list",data:=.seq its.toArray n}/\xs.length<=Ay:=by
 obtain⟨z,its,n,r,e⟩:=I.hok p _ h;exact⟨its,n,r,e,z⟩
theorem Inv.lstUpd{pins:List (Addr×Obj)}{σ:St}{H:Hp}{s:Ar}{p:Addr}{xs ys:List V}{its its':List Aj}{n n':Nat}{f:Obj->Obj}(I:Inv X pins σ H s)(h:H p=ae (.lst xs))
  (ho:s.heap.get? p=ae {cls:=.type "list",data:=.seq its.toArray n}) (hf:f {cls:=.type "list",data:=.seq its.toArray n}={ cls:=.type "list",data:=.seq its'.toArray n'}) (r:Vals ys its') (hz:ys.length<=Ay) (t:Nat):
  Inv X pins σ (upd H p (.lst ys)) {s with heap:=s.heap.update p f,toks:=t}:=by
 have e:(s.heap.update p f).get? p=ae {cls:=.type "list",data:=.seq its'.toArray n'}:=by
  rw[Heap.get?_update_self f ho (by rw[hf]<;>rfl),hf]
 refine I.write (x:=p) (e:=p) (by rw[h];trivial) (.inl rfl) (λb u hb q=>(Heap.get?_update_other _ _ (Ne.symm hb)).trans q) ⟨_,e⟩ ?_;exact⟨hz,its',n',r,e⟩
def qK:V->V->V->Hp->(Hp->Prop)->Prop:=λo i v H Q=>∃p xs k j,o=.ref p/\i=.int k/\H p=ae (.lst xs)/\eY xs.length k=ae j/\Q (upd H p (.lst (xs.set j v)))
theorem nh:oZ X qK:=by
 intro pins s σ H o i v ov iv u Q I ro ri rv h;obtain⟨p,xs,k,j,rfl,rfl,hp,hj,q⟩:=h;cases ro;obtain⟨t,rfl⟩:=ri;obtain⟨its,n,r,ho,hz⟩:=I.lst hp;obtain⟨h1,h2,h3,h4⟩:=wW hj;have hl:=r.length;have hn:=mx;have I':Inv X pins σ (upd H p (.lst (xs.set j v))) {s with heap:=s.heap.update p (Cz (·.setIfInBounds j u))}:=
  I.lstUpd hp ho (P4 its n j u) (r.set rv j) (by rw[B4];exact hz) s.toks
 by_cases h0:0<=k
 ·have hk:k.toNat=j:=by
   rw[seqIndex_of h0 h4]at h1;exact A8 h1
  exact PySem.W.ki_setAt ho h0 (by omega) (by rw[A0,<-hl];exact h4) (by rw[hk];exact⟨_,I',q⟩)
 ·have hk:(k+(its.toArray.size:Int)).toNat=j:=by
   rw[seqIndex_neg (by omega) h3]at h1;rw[A0,<-hl];exact A8 h1
  exact PySem.W.ki_setBack ho (by omega) (by rw[A0,<-hl];exact h3) (by omega) (by rw[hk];exact⟨_,I',q⟩)
theorem O8(lo hi:Option Int)(n:Nat):(F9 lo hi ah n).1=((HT.sIx n 0 lo:Nat):Int)/\(F9 lo hi ah n).2.1=((HT.sIx n n hi:Nat):Int)/\(F9 lo hi ah n).2.2=1:=by
 refine⟨?_,?_,rfl⟩
 ·cases lo with
  |none=>simp[F9,HT.sIx]
  |some i=>
   simp only[F9,HT.sIx,Option.getD_none,show(1:Int) > 0 by decide,if_true];by_cases h:i < 0
   ·simp only[h,if_true]<;>omega
   ·simp only[h,if_false]<;>omega
 ·cases hi with
  |none=>simp[F9,HT.sIx]
  |some i=>
   simp only[F9,HT.sIx,Option.getD_none,show(1:Int) > 0 by decide,if_true];by_cases h:i < 0
   ·simp only[h,if_true]<;>omega
   ·simp only[h,if_false]<;>omega
theorem Ju(its:List Aj)(lo hi:Option Int):slicePick its.toArray lo hi ah=((its.drop (HT.sIx its.length 0 lo)).take (HT.sIx its.length its.length hi-HT.sIx its.length 0 lo)).toArray:=by
 obtain⟨h1,h2,h3⟩:=O8 lo hi its.toArray.size;unfold slicePick;rw[h1,h2,h3];simp only[sliceRange_one,pick_run,A0]<;>rfl
def lV(K:Ag):V->Option Int->Option Int->Hp->VK->Prop:=λx lo hi H Q=>∃a xs,x=.ref a/\SqL K H a xs/\∀p,H p=ah->Q (.ref p) (upd H p (.lst (fe xs lo hi)))
theorem v7:SlR X (lV X.K):=by
 intro pins s σ H x v vl vu lo hi sl Q I rx hs pl pu h;obtain⟨a,xs,rfl,hx,q⟩:=h;cases rx;obtain⟨its,r,ht,hz⟩:=I.list hx;have hlen:=r.length;refine⟨"list",_,slot_list_getitem.lookup,ht.isList.typeIs,?_⟩;refine wpAny_getItem_list_slice ht.isList hs pl pu .none (by simp) ?_ (by rw[A0]<;>omega);rw[Ju,<-hlen];refine⟨.ref s.heap.objs.size,_,I.laid (t':=s.toks) (o:=.lst (fe xs lo hi)) (λb ob q=>Ai _ q) (Ao _) ?_,rfl,q _ (I.hok.fresh (Ao _))⟩;exact⟨A3 (oS xs lo hi) hz,_,0,(r.drop (HT.sIx xs.length 0 lo)).take (HT.sIx xs.length xs.length hi-HT.sIx xs.length 0 lo),A7 _ rfl⟩
def iG:V->Bool
 |.non=>ai
 |.bl _=>ai
 |.int _=>ai
 |.str _=>ai
 |_=>aj
def ju:V->V->Bool
 |.non,.non=>ai
 |.bl a,.bl b=>a==b
 |.bl a,.int b=>(if a then 1 else 0)==b
 |.int a,.bl b=>a==(if b then 1 else 0)
 |.int a,.int b=>a==b
 |.str a,.str b=>a==b
 |_,_=>aj
theorem Ha{A:Ce}{s:Ar}{y x:V}{u v:Aj}(ry:RelV y u)(rx:RelV x v)(fy:iG y=ai)(fx:iG x=ai):SeqAt.EqAt A s u v (ju y x):=by
 cases y with
 |non=>
  cases ry;cases x with
  |non=>cases rx;exact SeqAt.EqAt.same _
  |bl b=>cases rx;exact SeqAt.EqAt.none_bool b
  |int b=>obtain⟨t,rfl⟩:=rx;exact SeqAt.EqAt.none_int b t
  |str b=>obtain⟨t,rfl⟩:=rx;exact SeqAt.EqAt.none_str b t
  |_=>exact absurd (show aj=ai from fx) Ae
 |bl a=>
  cases ry;cases x with
  |non=>cases rx;exact SeqAt.EqAt.bool_none a
  |bl b=>cases rx;exact SeqAt.EqAt.bool_bool a b
  |int b=>obtain⟨t,rfl⟩:=rx;exact SeqAt.EqAt.bool_int a b t
  |str b=>obtain⟨t,rfl⟩:=rx;exact SeqAt.EqAt.bool_str a b t
  |_=>exact absurd (show aj=ai from fx) Ae
 |int a=>
  obtain⟨t',rfl⟩:=ry;cases x with
  |non=>cases rx;exact SeqAt.EqAt.int_none a t'
  |bl b=>cases rx;exact SeqAt.EqAt.int_bool a t' b
  |int b=>obtain⟨t,rfl⟩:=rx;exact SeqAt.EqAt.int_int a t' b t
  |str b=>obtain⟨t,rfl⟩:=rx;exact SeqAt.EqAt.int_str a t' b t
  |_=>exact absurd (show aj=ai from fx) Ae
 |str a=>
  obtain⟨t',rfl⟩:=ry;cases x with
  |non=>cases rx;exact SeqAt.EqAt.str_none a t'
  |bl b=>cases rx;exact SeqAt.EqAt.str_bool a t' b
  |int b=>obtain⟨t,rfl⟩:=rx;exact SeqAt.EqAt.str_int a t' b t
  |str b=>obtain⟨t,rfl⟩:=rx;exact SeqAt.EqAt.str_str a t' b t
  |_=>exact absurd (show aj=ai from fx) Ae
 |_=>exact absurd (show aj=ai from fy) Ae
def gS(x:V)(u:Aj):Bool:=match u with
 |.none=>ju .non x
 |.bool b=>ju (.bl b) x
 |.int i _=>ju (.int i) x
 |.str z _=>ju (.str z) x
 |_=>aj
theorem GL{x y:V}{u:Aj}(r:RelV y u)(f:iG y=ai):gS x u=ju y x:=by
 cases y with
 |non=>cases r;rfl
 |bl b=>cases r;rfl
 |int i=>obtain⟨t,rfl⟩:=r;rfl
 |str z=>obtain⟨t,rfl⟩:=r;rfl
 |_=>exact absurd (show aj=ai from f) Ae
theorem nT{x:V}:∀{xs:List V}{us:List Aj},Vals xs us->xs.all iG=ai->us.any (gS x)=xs.any λy=>ju y x
 |_,_,.nil,_=>rfl
 |y::xs,u::us,.cons r t,f=>by
  rw[List.all_cons,A2]at f;rw[Cu,Cu,GL r f.1,nT t f.2]
theorem qg{A:Ce}{s:Ar}{x:V}{v:Aj}(rx:RelV x v)(fx:iG x=ai):∀{xs:List V}{us:List Aj},Vals xs us->xs.all iG=ai->∀u∈us,SeqAt.EqAt A s u v (gS x u)
 |_,_,.nil,_=>λu hu=>by cases hu
 |y::xs,u::us,.cons r t,f=>λu' hu=>by
  rw[List.all_cons,A2]at f;rcases Ap.mp hu with rfl|hu
  ·rw[GL r f.1];exact Ha r rx f.1 fx
  ·exact qg rx fx t f.2 u' hu
def sM(x:V)(xs:List V):Bool:=xs.any λy=>ju y x
def iJ(K:Ag)(neg:Bool):R2:=λx y H Q=>∃p xs,y=.ref p/\(SqL K H p xs\/SqT K H p xs)/\iG x=ai/\xs.all iG=ai/\Q (.bl (if neg then !sM x xs else sM x xs)) H
theorem Rq:OpR X (Bs .In) (iJ X.K aj):=by
 intro pins s σ H x y v u Q I rx ry h;obtain⟨p,xs,rfl,hq,fx,fs,q⟩:=h;cases ry;rcases hq with hq|hq
 ·obtain⟨its,r,pl,hz⟩:=I.list hq;refine SeqAt.in_listAt (gS x) pl.isList (λw hw=>qg rx fx r fs w (by simpa using hw)) ⟨.bl _,H,I,rfl,?_⟩;rw[show its.toArray.any (gS x)=its.any (gS x) by simp,nT r fs];exact q
 ·obtain⟨its,r,pl,hz⟩:=I.tuple hq;refine SeqAt.in_tupleAt (gS x) pl (λw hw=>qg rx fx r fs w (by simpa using hw)) ⟨.bl _,H,I,rfl,?_⟩;rw[show its.toArray.any (gS x)=its.any (gS x) by simp,nT r fs];exact q
theorem Jh:OpR X (Bs .NotIn) (iJ X.K ai):=by
 intro pins s σ H x y v u Q I rx ry h;obtain⟨p,xs,rfl,hq,fx,fs,q⟩:=h;cases ry;rcases hq with hq|hq
 ·obtain⟨its,r,pl,hz⟩:=I.list hq;refine SeqAt.notIn_listAt (gS x) pl.isList (λw hw=>qg rx fx r fs w (by simpa using hw)) ⟨.bl _,H,I,rfl,?_⟩;rw[show its.toArray.any (gS x)=its.any (gS x) by simp,nT r fs];exact q
 ·obtain⟨its,r,pl,hz⟩:=I.tuple hq;refine SeqAt.notIn_tupleAt (gS x) pl (λw hw=>qg rx fx r fs w (by simpa using hw)) ⟨.bl _,H,I,rfl,?_⟩;rw[show its.toArray.any (gS x)=its.any (gS x) by simp,nT r fs];exact q
theorem sS:CallR X (.builtin "len") (λxs H Q=>∃p ys,xs=[.ref p]/\(SqL X.K H p ys\/SqT X.K H p ys)/\Q (.int ys.length) H):=by
 intro pins s σ H xs us Q I r h;obtain⟨p,ys,rfl,hq,q⟩:=h;obtain⟨u,rfl,rx⟩:=iX r;cases rx;have hn:=mx;rcases hq with hq|hq
 ·obtain⟨its,r',pl,hz⟩:=I.list hq;have hlen:=r'.length;exact Calls.call_len_list pl.isList (by simp only[A0]<;>omega) ⟨.int ys.length,H,I.tok _,⟨s.toks+1,by rw[A0,hlen]⟩,q⟩
 ·obtain⟨its,r',pl,hz⟩:=I.tuple hq;have hlen:=r'.length;exact len_tuple pl (by simp only[A0]<;>omega) ⟨.int ys.length,H,I.tok _,⟨s.toks+1,by rw[A0,hlen]⟩,q⟩
theorem call_len_str:CallR X (.builtin "len") (λxs H Q=>∃z,xs=[.str z]/\z.length<=Ay/\Q (.int z.length) H):=by
 intro pins s σ H xs us Q I r h;obtain⟨z,rfl,hz,q⟩:=h;obtain⟨u,rfl,t,rfl⟩:=iX r;have hn:=mx;exact len_str (by omega) ⟨.int z.length,H,I.tok _,⟨_,rfl⟩,q⟩
theorem CallR.or{f:Aj}{r r':List V->Hp->VK->Prop}(h:CallR X f r)(h':CallR X f r'):CallR X f (λxs H Q=>r xs H Q\/r' xs H Q):=by
 intro pins s σ H xs us Q I rs q;rcases q with q|q
 ·exact h pins s σ H xs us Q I rs q
 ·exact h' pins s σ H xs us Q I rs q
theorem Lh:CallR X (.type "list") (λxs H Q=>∃p ys,xs=[.ref p]/\(SqL X.K H p ys\/SqT X.K H p ys)/\∀l,H l=ah->Q (.ref l) (upd H l (.lst ys))):=by
 intro pins s σ H xs us Q I r h;obtain⟨p,ys,rfl,hq,q⟩:=h;obtain⟨u,rfl,rx⟩:=iX r;cases rx;have fin:∀(its:List Aj),Vals ys its->ys.length<=Ay->∀(h':Heap)(c':Nat),(∀b o',s.heap.get? b=ae o'->h'.get? b=ae o')->
   h'.get? s.heap.objs.size=ae {cls:=.type "list",dict:=ah,data:=.seq its.toArray c',slots:=#[]}->EP X pins σ Q (.ref s.heap.objs.size) {s with heap:=h'}:=λits r' hz h' c' kp e=>
  ⟨.ref s.heap.objs.size,_,I.laid (t':=s.toks) kp (Ao _) (show ObjOk X.prog X.w _ h' _ (.lst ys)from⟨hz,its,c',r',e⟩),rfl,q _ (I.hok.fresh (Ao _))⟩
 rcases hq with hq|hq
 ·obtain⟨its,r',pl,hz⟩:=I.list hq;have hlen:=r'.length;obtain⟨o,ho,hc,n,hd⟩:=pl.isList;exact call_list_seq p (.inl rfl) ho hc hd (λh' c' kp e=>fin its r' hz h' c' kp e) (by simp only[A0]<;>omega)
 ·obtain⟨its,r',pl,hz⟩:=I.tuple hq;have hlen:=r'.length;obtain⟨o,ho,hc,n,hd⟩:=pl;exact call_list_seq p (.inr rfl) ho hc hd (λh' c' kp e=>fin its r' hz h' c' kp e) (by simp only[A0]<;>omega)
theorem Ji:CallR X (.type "tuple") (λxs H Q=>∃p ys,xs=[.ref p]/\((SqL X.K H p ys/\∀l,H l=ah->Q (.ref l) (upd H l (.tup ys)))\/(SqT X.K H p ys/\Q (.ref p) H))):=by
 intro pins s σ H xs us Q I r h;obtain⟨p,ys,rfl,h⟩:=h;obtain⟨u,rfl,rx⟩:=iX r;cases rx;rcases h with⟨hq,q⟩|⟨hq,q⟩
 ·obtain⟨its,r',pl,hz⟩:=I.list hq;have hlen:=r'.length;refine call_tuple_list pl.isList (λh' kp=>?_) (by simp only[A0]<;>omega);have I1:Inv X pins σ H {s with heap:=h'}:=I.kept (t':=s.toks) kp;have I2:Inv X pins σ (upd H h'.objs.size (.tup ys)) {s with heap:=h'.push {cls:=.type "tuple",data:=.seq its.toArray}}:=
   I1.laid (t':=s.toks) (λb o e=>Ai _ e) (Ao _) (show ObjOk X.prog X.w _ _ _ (.tup ys)from⟨hz,its,r',IsTupP.new _ _⟩)
  exact⟨.ref h'.objs.size,_,I2,rfl,q _ (I1.hok.fresh (Ao _))⟩
 ·obtain⟨its,r',pl,hz⟩:=I.tuple hq;exact call_tuple_same pl ⟨.ref p,H,I,rfl,q⟩
def uY(K:Ag)(T:String)(x:V)(H:Hp):Prop:=match x with
 |.str _=>T="str"
 |.int _=>T="int"
 |.ref p=>(T="list"/\∃xs,SqL K H p xs)\/(T="tuple"/\∃o,K.lookup p=ae o/\o.cls=.type "tuple"/\o.dict=ah) \/
   (T="dict"/\((∃kvs,H p=ae (.dK kvs))\/∃kvs,H p=ae (.dT kvs)))\/(T="set"/\∃S n,H p=ae (.set S n))
 |_=>False
theorem GV{pins:List (Addr×Obj)}{σ:St}{H:Hp}{s:Ar}{T:String}{x:V}{v:Aj}(I:Inv X pins σ H s)(r:RelV x v)(ty:uY X.K T x H):
  s.TypeIs v T/\∀a,v=.ref a->∃ob,s.heap.get? a=ae ob/\ob.dict=ah:=by
 cases x with
 |str z=>
  obtain⟨t,rfl⟩:=r;cases(show T="str" from ty);exact⟨typeIs_str s z t,λ_ e=>nomatch e⟩
 |int i=>
  obtain⟨t,rfl⟩:=r;cases(show T="int" from ty);exact⟨typeIs_int s i t,λ_ e=>nomatch e⟩
 |ref p=>
  cases r;rcases ty with⟨rfl,xs,hq⟩|⟨rfl,o,hk,hc,hd⟩|⟨rfl,hk⟩|⟨rfl,S,n,hk⟩
  ·obtain⟨its,_,pl,_⟩:=I.list hq;refine⟨pl.isList.typeIs,λa e=>?_⟩;cases e;obtain⟨o,n,e,c,hd,_⟩:=pl;exact⟨o,e,hd⟩
  ·refine⟨⟨o,I.kIn p o hk,hc⟩,λa e=>?_⟩;cases e;exact⟨o,I.kIn _ o hk,hd⟩
  ·have z:∃o,s.heap.get? p=ae o/\o.ExactDict:=by
    rcases hk with⟨kvs,hk⟩|⟨kvs,hk⟩
    ·obtain⟨_,_,_,_,o,_,_,e,ex,_⟩:=I.hok p _ hk;exact⟨o,e,ex⟩
    ·obtain⟨_,_,_,_,o,_,_,e,ex,_⟩:=I.hok p _ hk;exact⟨o,e,ex⟩
   obtain⟨o,e,ex⟩:=z;refine⟨⟨o,e,ex.1⟩,λa e2=>?_⟩;cases e2;exact⟨o,e,ex.2.1⟩
  ·obtain⟨o,_,_,_,e,ex,_⟩:=I.hok p _ hk;refine⟨⟨o,e,ex.1⟩,λa e2=>?_⟩;cases e2;exact⟨o,e,ex.2.1⟩
 |_=>exact False.elim ty
def oB(K:Ag)(T:String)(r:V->List V->Hp->VK->Prop)(to:TE):TE:=λσ H Q=>to σ H λx H1=>uY K T x H1/\r x [] H1 Q
def sF(K:Ag)(T:String)(r:V->List V->Hp->VK->Prop)(to:TE)(t:TA):TE:=λσ H Q=>to σ H λx H1=>uY K T x H1/\t σ H1 λxs H2=>r x xs H2 Q
variable{o e:Expr}{es:List Expr}{to:TE}{t:TA}{name:Str}{apos cpos:Pos}{T id:String}{r:V->List V->Hp->VK->Prop}
theorem Ja(pa:PlainAttrs T)(slot:Slot T name id)(hty:typeOf (.builtin id)=pure (.type "method_descriptor"))(hm:wK X id r)(ho:PE X o to)
  (hbase:F7 o name X.env (eval o X.env)=eval o X.env:=by rfl) (hline:(apos.endLine==cpos.line)=ai:=by rfl):PE X (.Call (.Attribute o name apos) [] [] cpos) (oB X.K T r to):=by
 intro pins s σ H Q I h;refine wpAny_Call_method0_late hbase hline (aZ (ho pins s σ H _ I h) λv s1 ⟨x,H1,I1,r1,ty,q1⟩=>?_);obtain⟨h1,h2⟩:=GV I1 r1 ty;exact⟨T,id,pa,slot,hty,h1,h2,Calls.callWith_builtin rfl (PySem.evalArgs_none (hm pins s1 σ H1 x [] v [] Q I1 r1 .nil q1))⟩
theorem vU(pa:PlainAttrs T)(slot:Slot T name id)(hty:typeOf (.builtin id)=pure (.type "method_descriptor"))(hm:wK X id r)(ho:PE X o to)(ha:PA X (e::es) t)
  (hbase:F7 o name X.env (eval o X.env)=eval o X.env:=by rfl)
  (hfew:((C5 cpos (Aw (e::es) X.env)).all (λx=>!x.1)&&(backToKw cpos (keywordEach [] X.env)).all (λx=>x.1.isSome)
   && decide ((e::es).length+([]:List Keyword).length+(if ([]:List Keyword).isEmpty then 0 else 1) < 30))=ai:=by rfl)
  (hline:(apos.endLine==cpos.line)=ai:=by rfl) (hs:Aw (e::es) X.env=(aj,eval e X.env)::Aw es X.env:=by rfl) (hplain:(C5 cpos (Aw es X.env)).any (·.1)=aj:=by rfl):
  PE X (.Call (.Attribute o name apos) (e::es) [] cpos) (sF X.K T r to t):=by
 intro pins s σ H Q I h;refine wpAny_Call_method_late hbase hfew hline rfl (aZ (ho pins s σ H _ I h) λv s1 ⟨x,H1,I1,r1,ty,q1⟩=>?_);obtain⟨h1,h2⟩:=GV I1 r1 ty;refine⟨T,id,pa,slot,hty,h1,h2,?_⟩;have hA:=ha cpos pins s1 σ H1 _ I1 q1;rw[hs]at hA ⊢;refine Calls.callWith_builtin (by show(aj || (C5 cpos (Aw es X.env)).any (·.1))=aj;rw[hplain]<;>rfl) (Calls.evalArgs_plain ?_);exact aZ hA λus s2 ⟨vs,H2,I2,r2,q2⟩=>hm pins s2 σ H2 x vs v us Q I2 r1 r2 q2
end
def tL(X:Cx)(id:String)(r:V->List V->Hp->VK->Prop):Prop:=
 ∀(pins:List (Addr×Obj))(s:Ar)(σ:St)(H:Hp)(x:V)(xs:List V)(v:Aj)(us:List Aj)(Q:VK),Inv X pins σ H s->RelV x v->Vals xs us->r x xs H Q->
  A6 (Bd X.prog X.w) X.A (call (.builtin id) (v::us)) (EP X pins σ Q) X.xe s
theorem Vals.one:∀{x:V}{us:List Aj},Vals [x] us->∃u,us=[u]/\RelV x u
 |_,_,.cons r .nil=>⟨_,rfl,r⟩
theorem Vals.zero:∀{us:List Aj},Vals [] us->us=[]
 |_,.nil=>rfl
theorem Vals.eraseIdx:∀{xs:List V}{us:List Aj}(i:Nat),Vals xs us->Vals (xs.eraseIdx i) (us.eraseIdx i)
 |_,_,_,.nil=>.nil
 |_,_,0,.cons _ t=>t
 |_,_,i+1,.cons r t=>.cons r (Vals.eraseIdx i t)
theorem Vals.reverse{xs:List V}{us:List Aj}(h:Vals xs us):Vals xs.reverse us.reverse:=by
 induction h with
 |nil=>exact .nil
 |cons r t ih=>rw[List.reverse_cons,List.reverse_cons];exact Vals.append ih (.cons r .nil)
theorem vj{α:Type}:∀(l:List α)(i:Nat),(l.eraseIdx i).length<=l.length
 |[],_=>Ao _
 |_::_,0=>F3 _
 |_::r,i+1=>Nat.succ_le_succ (vj r i)
section
variable{X:Cx}{pins:List (Addr×Obj)}{σ:St}{H:Hp}{s:Ar}{l b:Addr}{xs ys zs:List V}
theorem Inv.lset{its its':List Aj}{n:Nat}{f:Array Aj->Array Aj}{t':Nat}(I:Inv X pins σ H s)(hH:H l=ae (.lst xs))
  (e:s.heap.get? l=ae {cls:=.type "list",data:=.seq its.toArray n}) (hf:f its.toArray=its'.toArray) (hv:Vals ys its') (hz:ys.length<=Ay):
  Inv X pins σ (upd H l (.lst ys)) {s with heap:=s.heap.update l (Cz f),toks:=t'}:=by
 have q:=PySem.IsL.update e f;rw[hf]at q;refine I.write (x:=l) (e:=l) (by rw[hH];exact trivial) (.inl rfl) (λb' u hb hu=>(Heap.get?_update_other s.heap (Cz f) (Ne.symm hb)).trans hu) ⟨_,q⟩ ?_;exact⟨hz,its',_,hv,q⟩
theorem Inv.lnew{its:List Aj}{t':Nat}(I:Inv X pins σ H s)(hv:Vals ys its)(hz:ys.length<=Ay):
  Inv X pins σ (upd H s.heap.objs.size (.lst ys)) {s with heap:=s.heap.push {cls:=.type "list",data:=.seq its.toArray},toks:=t'}:=
 I.laid (λ_ _ q=>Ai _ q) (Ao _) ⟨hz,its,0,hv,A7 _ rfl⟩
theorem Inv.fresh(I:Inv X pins σ H s):H s.heap.objs.size=ah:=I.hok.fresh (Ao _)
theorem Inv.lstM(I:Inv X pins σ H s)(hH:H l=ae (.lst xs)):xs.length<=Ay/\∃(its:List Aj)(n:Nat),Vals xs its/\xs.length=its.length/\s.heap.get? l=ae {cls:=.type "list",data:=.seq its.toArray n}:=by
 obtain⟨z,its,n,r,e⟩:=I.hok l _ hH;exact⟨z,its,n,r,r.length,e⟩
theorem Mw{n:Nat}(h:n<=Ay):F4 n=aj:=by
 unfold F4;exact decide_eq_false (by omega)
end
section
variable{X:Cx}
def zM:V->List V->Hp->VK->Prop:=λx vs H Q=>∃l xs y,x=.ref l/\vs=[y]/\H l=ae (.lst xs)/\xs.length < Ay/\Q .non (upd H l (.lst (xs++[y])))
theorem uv:tL X "list.append" zM:=by
 intro pins s σ H x vs v us Q I rx rv h;obtain⟨l,xs,y,rfl,rfl,hH,hz,q⟩:=h;cases rx;obtain⟨u,rfl,ru⟩:=rv.one;obtain⟨z,its,n,r,hl,e⟩:=I.lstM hH;refine call_meets F.slot_list_append ⟨_,e,rfl⟩ F.entry_list_append (F.args_list_append_2 _ _) (PySem.list_append l its.toArray n u (by rw[A0];omega)) ⟨e,?_⟩;refine⟨.non,_,I.lset (its':=its++[u]) hH e (by simp) (r.append (.cons ru .nil)) ?_,rfl,q⟩;rw[Af,Av];omega
def SC:V->List V->Hp->VK->Prop:=λx vs H Q=>∃l b xs zs,x=.ref l/\vs=[.ref b]/\H l=ae (.lst xs)/\H b=ae (.lst zs)/\xs.length+zs.length<=Ay/\Q .non (upd H l (.lst (xs++zs)))
theorem UF:tL X "list.extend" SC:=by
 intro pins s σ H x vs v us Q I rx rv h;obtain⟨l,b,xs,zs,rfl,rfl,hH,hB,hz,q⟩:=h;cases rx;obtain⟨u,rfl,ru⟩:=rv.one;cases ru;obtain⟨z,its,n,r,hl,e⟩:=I.lstM hH;obtain⟨z2,its2,n2,r2,hl2,e2⟩:=I.lstM hB;have hsz:its.toArray.size+its2.toArray.size<=Ay:=by rw[A0,A0];omega
 have hlong:¬(!its.toArray.isEmpty&&F4 (its.toArray.size+its2.toArray.size))=ai:=by
  rw[Mw hsz,Bool.and_false];exact Ae
 refine call_meets F.slot_list_extend ⟨_,e,rfl⟩ F.entry_list_extend (F.args_list_extend_2 _ _)
  (AutoSeq1.list_extend_list_list_0 l its.toArray n b its2.toArray n2 hlong (by rw[A0];omega) (by omega)) ⟨e,e2,?_⟩
 refine⟨.non,_,I.lset (its':=its++its2) hH e (by simp) (r.append r2) ?_,rfl,q⟩;rw[Af];omega
def BQ:V->List V->Hp->VK->Prop:=λx vs H Q=>∃l xs i k y,x=.ref l/\vs=[.int i]/\H l=ae (.lst xs)/\-(2 ^ 63)<=i/\i < 2 ^ 63/\seqIndex? i xs.length=ae k/\xs[k]?=ae y/\Q y (upd H l (.lst (xs.eraseIdx k)))
theorem N1:tL X "list.pop" BQ:=by
 intro pins s σ H x vs v us Q I rx rv h;obtain⟨l,xs,i,k,y,rfl,rfl,hH,h1,h2,hk,hy,q⟩:=h;cases rx;obtain⟨u,rfl,ru⟩:=rv.one;obtain⟨t,rfl⟩:=ru;obtain⟨z,its,n,r,hl,e⟩:=I.lstM hH;obtain⟨w,hw,rw'⟩:=r.get hy;refine call_meets F.slot_list_pop ⟨_,e,rfl⟩ F.entry_list_pop (F.args_list_pop_2 _ _)
  (MeetsSeq.list_pop_at l its.toArray n i t k w (fitsIndex_both h1 h2) (by rw[A0,<-hl];exact hk) (by rw[<-Array.getElem?_toList];exact hw) (by rw[A0];omega)) ⟨e,?_⟩
 refine⟨y,_,I.lset (its':=its.eraseIdx k) hH e ?_ (r.eraseIdx k) ?_,rw',q⟩
 ·show its.toArray.eraseIdxIfInBounds k=(its.eraseIdx k).toArray;rw[List.eraseIdxIfInBounds_toArray]
 ·have:=vj xs k;omega
def iV:R2:=λx y H Q=>∃l b xs zs,x=.ref l/\y=.ref b/\H l=ae (.lst xs)/\H b=ae (.lst zs)/\xs.length+zs.length<=Ay/\∀p,H p=ah->Q (.ref p) (upd H p (.lst (xs++zs)))
theorem uQ:OpR X (Ed .Add) iV:=by
 intro pins s σ H x y v u Q I rx ry h;obtain⟨l,b,xs,zs,rfl,rfl,hH,hB,hz,q⟩:=h;cases rx;cases ry;obtain⟨z,its,n,r,hl,e⟩:=I.lstM hH;obtain⟨z2,its2,n2,r2,hl2,e2⟩:=I.lstM hB;refine PySem.P.add_list e e2 ?_ (by rw[A0,A0];omega);have ea:its.toArray++its2.toArray=(its++its2).toArray:=by simp
 rw[ea];exact⟨.ref _,_,I.lnew (t':=s.toks) (r.append r2) (by rw[Af];omega),rfl,q _ I.fresh⟩
end
section
variable{κ:Type}[DecidableEq κ]
def cJ(kvs:List (κ×V))(k:κ):Option V:=(kvs.find? λkv=>decide (kv.1=k)).map (·.2)
def cv(kvs:List (κ×V))(k:κ)(v:V):List (κ×V):=
 if (kvs.any λkv=>decide (kv.1=k))=ai then kvs.map (λkv=>if kv.1=k then(kv.1,v)else kv)else kvs++[(k,v)]
theorem vO{p:κ×V}{r:List (κ×V)}{k:κ}(e:p.1=k):cJ (p::r) k=ae p.2:=by simp[cJ,Bh,e]
theorem wY{p:κ×V}{r:List (κ×V)}{k:κ}(e:¬p.1=k):cJ (p::r) k=cJ r k:=by simp[cJ,Bh,e]
theorem EF(k:κ):∀kvs:List (κ×V),(kvs.any λkv=>decide (kv.1=k))=(cJ kvs k).isSome
 |[]=>rfl
 |p::r=>by
  rw[Cu];by_cases e:p.1=k
  ·simp only[vO e,decide_eq_true e,Bool.true_or,Option.isSome_some]
  ·rw[wY e,decide_eq_false e,Bool.false_or];exact EF k r
theorem r8(kvs:List (κ×V))(k:κ)(v:V):(cv kvs k v).length<=kvs.length+1:=by
 unfold cv
 split
 ·rw[Ab];omega
 ·rw[Af,An,List.length_nil];omega
theorem RelO.isSome_eq{o:Option V}{u:Option Aj}(r:RelO o u):o.isSome=u.isSome:=by
 cases o with
 |none=>cases u with
  |none=>rfl
  |some _=>exact(show False from r).elim
 |some _=>cases u with
  |none=>exact(show False from r).elim
  |some _=>rfl
theorem KV.val{kvs:List (κ×V)}{vs:List (κ×Aj)}(r:KV kvs vs)(k:κ):RelO (cJ kvs k) (valueAt vs k):=by
 unfold KV at r
 induction r with
 |nil=>exact Dj
 |@cons p q ps qs h t ih=>
  obtain⟨h1,h2⟩:=h;by_cases e:p.1=k
  ·have e':q.1=k:=h1.symm.trans e;have b:valueAt (q::qs) k=ae q.2:=by simp[valueAt,Bh,e']
   rw[vO e,b];exact h2
  ·have e':¬q.1=k:=λz=>e (h1.trans z);have b:valueAt (q::qs) k=valueAt qs k:=by simp[valueAt,Bh,e']
   rw[wY e,b];exact ih
theorem KV.any{kvs:List (κ×V)}{vs:List (κ×Aj)}(r:KV kvs vs)(k:κ):(kvs.any λkv=>decide (kv.1=k))=vs.any λkv=>decide (kv.1=k):=by
 unfold KV at r
 induction r with
 |nil=>rfl
 |cons h t ih=>rw[Cu,Cu,ih,h.1]
theorem KV.repl{kvs:List (κ×V)}{vs:List (κ×Aj)}(r:KV kvs vs)(k:κ){y:V}{u:Aj}(ry:RelV y u):
  KV (kvs.map λkv=>if kv.1=k then(kv.1,y)else kv) (vs.map λkv=>if kv.1=k then(kv.1,u)else kv):=by
 unfold KV at r ⊢
 induction r with
 |nil=>exact .nil
 |@cons p q ps qs h t ih=>
  rw[Bi,Bi];refine .cons ?_ ih;obtain⟨h1,h2⟩:=h;by_cases e:p.1=k
  ·rw[if_pos e,if_pos (h1.symm.trans e)];exact⟨h1,ry⟩
  ·rw[if_neg e,if_neg (λz=>e (h1.trans z))];exact⟨h1,h2⟩
theorem KV.put{kvs:List (κ×V)}{vs:List (κ×Aj)}(r:KV kvs vs)(k:κ){y:V}{u:Aj}(ry:RelV y u):KV (cv kvs k y) (stored vs k u):=by
 unfold cv stored;rw[r.any k];by_cases e:(vs.any λkv=>decide (kv.1=k))=ai
 ·rw[if_pos e,if_pos e];exact r.repl k ry
 ·rw[if_neg e,if_neg e];exact Paired.snoc r ⟨rfl,ry⟩
theorem KV.length{kvs:List (κ×V)}{vs:List (κ×Aj)}(r:KV kvs vs):kvs.length=vs.length:=Paired.length r
end
theorem mM{P:Bf}{w:Bx}{k:aN}{u:Aj}(r:RelV (kV k) u):(gw P w).is k u=ai:=by
 cases k with
 |inl i=>obtain⟨t,e⟩:=(show ∃t,u=Value.int i t from r);subst e;exact Lj P w i t
 |inr x=>obtain⟨t,e⟩:=(show ∃t,u=Fv x t from r);subst e;exact OC P w x t
theorem zP{P:Bf}{w:Bx}:∀{ks:List aN}{us:List Aj},Vals (ks.map kV) us->ItemsAre (gw P w) ks us
 |[],_,r=>by rw[List.map_nil]at r;cases r;exact .nil
 |k::ks,_,r=>by
  rw[Bi]at r;cases r with
  |cons h t=>exact .cons (mM h) (zP t)
abbrev KT(H:Hp):List (List aN×V)->List (List aN×Addr×Aj)->Prop:=Paired λp q=>p.1=q.1/\H q.2.1=ae (.tup (p.1.map kV))/\RelV p.2 q.2.2
theorem KT.val{H:Hp}{kvs:List (List aN×V)}{xs:List (List aN×Addr×Aj)}(r:KT H kvs xs)(k:List aN):RelO (cJ kvs k) ((atKey xs k).map (·.2)):=by
 induction r with
 |nil=>exact Dj
 |@cons p q ps qs h t ih=>
  obtain⟨h1,_,h2⟩:=h;by_cases e:p.1=k
  ·have e':q.1=k:=h1.symm.trans e;have b:atKey (q::qs) k=ae q.2:=by simp[atKey,Bh,e']
   rw[vO e,b];exact h2
  ·have e':¬q.1=k:=λz=>e (h1.trans z);have b:atKey (q::qs) k=atKey qs k:=by simp[atKey,Bh,e']
   rw[wY e,b];exact ih
theorem KT.repl{H:Hp}{kvs:List (List aN×V)}{xs:List (List aN×Addr×Aj)}(r:KT H kvs xs)(k:List aN){y:V}{u:Aj}(ry:RelV y u):
  KT H (kvs.map λkv=>if kv.1=k then(kv.1,y)else kv) (xs.map (putAt k u)):=by
 induction r with
 |nil=>exact .nil
 |@cons p q ps qs h t ih=>
  rw[Bi,Bi];refine .cons ?_ ih;obtain⟨h1,h2,h3⟩:=h;unfold putAt;by_cases e:p.1=k
  ·rw[if_pos e,if_pos (h1.symm.trans e)];exact⟨h1,h2,ry⟩
  ·rw[if_neg e,if_neg (λz=>e (h1.trans z))];exact⟨h1,h2,h3⟩
theorem KT.put{H:Hp}{kvs:List (List aN×V)}{xs:List (List aN×Addr×Aj)}(r:KT H kvs xs)(k:List aN){b:Addr}{y:V}{u:Aj}(hb:H b=ae (.tup (k.map kV)))(ry:RelV y u):
  KT H (cv kvs k y) (storedH xs k b u):=by
 have e:(kvs.any λkv=>decide (kv.1=k))=(atKey xs k).isSome:=by
  rw[EF,(r.val k).isSome_eq,Fk]
 unfold cv storedH;rw[e];by_cases q:(atKey xs k).isSome=ai
 ·rw[if_pos q,if_pos q];exact r.repl k ry
 ·rw[if_neg q,if_neg q];exact Paired.snoc r ⟨rfl,hb,ry⟩
theorem KT.keeps{H H':Hp}{kvs:List (List aN×V)}{xs:List (List aN×Addr×Aj)}(r:KT H kvs xs)(ht:∀b ys,H b=ae (.tup ys)->H' b=ae (.tup ys)):KT H' kvs xs:=
 Paired.mapP r λ_ _ z=>⟨z.1,ht _ _ z.2.1,z.2.2⟩
section
variable{P:Bf}{w:Bx}{H:Hp}{h:Heap}{a:Addr}
theorem ya{u:HO}(ok:HOk P w H h)(e:Rd H a u):ObjOk P w H h a u:=e.ok ok
theorem qc{kvs:List (aN×V)}(ok:HOk P w H h)(e:Rd H a (.dK kvs)):kvs.length<=Ay/\(a==El)=aj/\∃vs,KV kvs vs/\h.DictOf (gw P w) a vs:=
 show ObjOk P w H h a (.dK kvs)from ya ok e
theorem zO{kvs:List (aN×V)}(ok:HOk P w H h)(e:H a=ae (.dK kvs)):kvs.length<=Ay/\(a==El)=aj/\∃vs,KV kvs vs/\h.DictOf (gw P w) a vs:=qc ok (.inl e)
theorem oY{ks:List aN}(ok:HOk P w H h)(e:H a=ae (.tup (ks.map kV))):(tupleKind (gw P w)).is h ks a:=by
 obtain⟨_,its,r,o,h1,h2,⟨n,h3⟩,_⟩:=(show ObjOk P w H h a (.tup (ks.map kV))from ok a _ e);exact⟨o,its.toArray,n,h1,h2,h3,by simpa using zP r⟩
theorem oK{kvs:List (List aN×V)}(ok:HOk P w H h)(e:Rd H a (.dT kvs)):kvs.length<=Ay/\(a==El)=aj /\
  ∃xs,KT H kvs xs/\h.DictOfH (tupleKind (gw P w)) a xs:=by
 obtain⟨z,y,xs,r,o,es,ep,h1,h2,h3,h4,h5⟩:=(show ObjOk P w H h a (.dT kvs)from ya ok e);refine⟨z,y,xs,r,o,es,ep,h1,h2,h3,h4,λx hx=>?_,h5⟩;have all:∀{l:List (List aN×V)}{m:List (List aN×Addr×Aj)},KT H l m->∀x∈m,(tupleKind (gw P w)).is h x.1 x.2.1:=by
  intro l m q
  induction q with
  |nil=>intro x hx;exact nomatch hx
  |@cons p q ps qs hq t ih=>
   intro x hx;rcases Ap.mp hx with e|hx
   ·subst e;exact oY ok (by rw[<-hq.1];exact hq.2.1)
   ·exact ih x hx
 exact all r x hx
theorem QT{kvs:List (List aN×V)}(ok:HOk P w H h)(e:H a=ae (.dT kvs)):kvs.length<=Ay/\(a==El)=aj /\
  ∃xs,KT H kvs xs/\h.DictOfH (tupleKind (gw P w)) a xs:=oK ok (.inl e)
end
def DGet(H:Hp)(a:Addr)(y:V)(r:Option V):Prop:=
 (∃kvs k,Rd H a (.dK kvs)/\y=kV k/\r=cJ kvs k)\/∃kvs k b,Rd H a (.dT kvs)/\y=.ref b/\H b=ae (.tup (k.map kV))/\r=cJ kvs k
def DPut(H:Hp)(a:Addr)(y v:V)(H':Hp):Prop:=
 (∃kvs k,H a=ae (.dK kvs)/\y=kV k/\kvs.length < Ay/\H'=upd H a (.dK (cv kvs k v))) \/
 ∃kvs k b,H a=ae (.dT kvs)/\y=.ref b/\H b=ae (.tup (k.map kV))/\kvs.length < Ay/\H'=upd H a (.dT (cv kvs k v))
theorem DGet.t{H:Hp}{a b:Addr}{kvs:List (List aN×V)}{k:List aN}(e:H a=ae (.dT kvs))(eb:H b=ae (.tup (k.map kV))):DGet H a (.ref b) (cJ kvs k):=.inr ⟨kvs,k,b,.inl e,rfl,eb,rfl⟩
theorem DPut.k{H:Hp}{a:Addr}{kvs:List (aN×V)}{k:aN}{v:V}(e:H a=ae (.dK kvs))(hl:kvs.length < Ay):DPut H a (kV k) v (upd H a (.dK (cv kvs k v))):=.inl ⟨kvs,k,e,rfl,hl,rfl⟩
theorem DPut.t{H:Hp}{a b:Addr}{kvs:List (List aN×V)}{k:List aN}{v:V}(e:H a=ae (.dT kvs))(eb:H b=ae (.tup (k.map kV)))(hl:kvs.length < Ay):
  DPut H a (.ref b) v (upd H a (.dT (cv kvs k v))):=.inr ⟨kvs,k,b,e,rfl,eb,hl,rfl⟩
section
variable{X:Cx}{pins:List (Addr×Obj)}{σ:St}{H:Hp}{s:Ar}{a:Addr}{y v:V}{u r:Aj}{o:Option V}{A:Ce}{E:Aj->Ar->Prop}
theorem Inv.big(I:Inv X pins σ H s):El < s.heap.objs.size:=by
 have h:Da < s.heap.objs.size:=(I.mod.glob.keeps I.bk).lt;exact Nat.lt_trans (by decide) h
theorem Kf{Q:Aj->Ar->Prop}(hu:A.units+1 < Fb)(I:Inv X pins σ H s)(g:DGet H a y (ae v))(ry:RelV y u)(h:∀w' s',Inv X pins σ H s'->RelV v w'->Q w' s'):
  A6 (Bd X.prog X.w) A (getItem (.ref a) u) Q E s:=by
 rcases g with⟨kvs,k,e,ey,l⟩|⟨kvs,k,b,e,ey,eb,l⟩
 ·subst ey;obtain⟨z,hd,vs,rel,dd⟩:=qc I.hok e;obtain⟨w',hw,rw'⟩:=RelO.some_of (v:=v) (o:=valueAt vs k) (by rw[l];exact rel.val k);exact wpAny_getItem_of (mM ry) dd.mapOf hw (h w' _ (I.tok _) rw')
 ·subst ey;cases(show u=A4 b from ry);obtain⟨z,hd,xs,rel,dd⟩:=oK I.hok e;obtain⟨w',hw,rw'⟩:=RelO.some_of (v:=v) (o:=(atKey xs k).map (·.2)) (by rw[l];exact rel.val k);obtain⟨p,hp,hp2⟩:=Option.map_eq_some_iff.mp hw;refine wpAny_getItem_heap (Gh hu) (oY I.hok eb) dd hp ?_;rw[hp2];exact h w' _ (I.tok _) rw'
theorem t5{Q:Aj->Ar->Prop}(hu:A.units+1 < Fb)(I:Inv X pins σ H s)(g:DGet H a y o)(ry:RelV y u)(h:∀s',Inv X pins σ H s'->Q (.bool o.isSome) s'):
  A6 (Bd X.prog X.w) A (Bs .In u (.ref a)) Q E s:=by
 rcases g with⟨kvs,k,e,ey,l⟩|⟨kvs,k,b,e,ey,eb,l⟩
 ·subst ey;obtain⟨z,hd,vs,rel,dd⟩:=qc I.hok e;refine wpAny_in_of (mM ry) hd dd.mapOf ?_;rw[<-(rel.val k).isSome_eq,<-l];exact h _ (I.tok _)
 ·subst ey;cases(show u=A4 b from ry);obtain⟨z,hd,xs,rel,dd⟩:=oK I.hok e;refine wpAny_in_heap (Gh hu) (oY I.hok eb) hd dd ?_;have q:=(rel.val k).isSome_eq;rw[Fk]at q;rw[<-q,<-l];exact h _ (I.tok _)
theorem Ul{Q:Aj->Ar->Prop}(hu:A.units+1 < Fb)(I:Inv X pins σ H s)(g:DGet H a y o)(ry:RelV y u)(h:∀s',Inv X pins σ H s'->Q (.bool (!o.isSome)) s'):
  A6 (Bd X.prog X.w) A (Bs .NotIn u (.ref a)) Q E s:=by
 rcases g with⟨kvs,k,e,ey,l⟩|⟨kvs,k,b,e,ey,eb,l⟩
 ·subst ey;obtain⟨z,hd,vs,rel,dd⟩:=qc I.hok e;refine wpAny_notIn_of (mM ry) hd dd.mapOf ?_;rw[<-(rel.val k).isSome_eq,<-l];exact h _ (I.tok _)
 ·subst ey;cases(show u=A4 b from ry);obtain⟨z,hd,xs,rel,dd⟩:=oK I.hok e;refine wpAny_notIn_heap (Gh hu) (oY I.hok eb) hd dd ?_;have q:=(rel.val k).isSome_eq;rw[Fk]at q;rw[<-q,<-l];exact h _ (I.tok _)
theorem tW{h':Heap}{t':Nat}{ob:HO}(I:Inv X pins σ H s)(mu:pF (H a))(hs:Dz a s.heap h')(he:∃q,h'.get? a=ae q)(new:ObjOk X.prog X.w (upd H a ob) h' a ob):
  Inv X pins σ (upd H a ob) {s with heap:=h',toks:=t'}:=
 I.write (x:=a) (e:=a) mu (.inl rfl) (λb q hb z=>(hs.2 b hb).trans z) he new
theorem zH{P:Bf}{w:Bx}{H':Hp}{h':Heap}{kvs:List (aN×V)}{vs:List (aN×Aj)}(z:kvs.length<=Ay)(hd:(a==El)=aj)(rel:KV kvs vs)(dd:h'.DictOf (gw P w) a vs):
  ObjOk P w H' h' a (.dK kvs):=⟨z,hd,vs,rel,dd⟩
theorem L4{H':Hp}{Q:Unit->Ar->Prop}(hu:A.units+1 < Fb)(I:Inv X pins σ H s)(g:DPut H a y v H')(ry:RelV y u)(rv:RelV v r)(h:∀s',Inv X pins σ H' s'->Q () s'):
  A6 (Bd X.prog X.w) A (setItem (.ref a) u r) Q E s:=by
 rcases g with⟨kvs,k,e,ey,l,eH⟩|⟨kvs,k,b,e,ey,eb,l,eH⟩
 ·subst ey eH;obtain⟨z,hd,vs,rel,dd⟩:=zO I.hok e;have hz:vs.length<=Ay:=by rw[<-rel.length];exact z
  have hl:(cv kvs k v).length<=Ay:=by have:=r8 kvs k v;omega
  refine wpAny_setItem_pairs (hsz:=hz) (mM ry) dd λh' dd' hs=>h _ ?_;have he:∃q,h'.get? a=ae q:=let⟨q,_,_,hq,_⟩:=dd';⟨q,hq⟩;exact tW I (by rw[e];exact Dj) hs he (zH hl hd (rel.put k rv) dd')
 ·subst ey eH;cases(show u=A4 b from ry);obtain⟨z,hd,xs,rel,dd⟩:=QT I.hok e;have hz:xs.length<=Ay:=by rw[<-Paired.length rel];exact z
  have hl:(cv kvs k v).length<=Ay:=by have:=r8 kvs k v;omega
  refine wpAny_setItem_heap (hsz:=hz) (Gh hu) (oY I.hok eb) dd λh' dd' hs=>h _ ?_;obtain⟨q,es,ep,hq,h2,h3,h4,_,h5⟩:=dd';refine tW I (by rw[e];exact Dj) hs ⟨q,hq⟩ ⟨hl,hd,_,(rel.put k eb rv).keeps λc ys ec=>?_,q,es,ep,hq,h2,h3,h4,h5⟩;rw[a9 (Hk ec e (λz=>nomatch z))];exact ec
end
def me(i:Expr):Prop:=∀ov iv,subscripted i aj ov iv=operate [ov,iv] (getItem ov iv)
theorem LF{prog:Bf}{w:Bx}{A:Ce}{E:Aj->Ar->Prop}{s:Ar}{env:Env}{value slice:Expr}{pos:Pos}{T id:String}{Q:Aj->Ar->Prop}
  (hl:typeLookup (.type T) "__getitem__"=pure (ae (.builtin id))) (hs:me slice)
  (h:A6 (Bd prog w) A (eval value env) (λo s₁=>A6 (Bd prog w) A (eval slice env) (λi s₂=>s₂.TypeIs o T/\A6 (Bd prog w) A (getItem o i) Q E s₂) E s₁) E s):
  A6 (Bd prog w) A (eval (.Subscript value slice pos) env) Q E s:=by
 refine Subscript_ (C7 h (λo s₁ h₁=>C7 h₁ (λi s₂ h₂=>?_) λ_ _ x=>x) λ_ _ x=>x);obtain⟨hT,h₂⟩:=h₂;unfold subscriptTail;refine Ad ?_;rw[getitemInPython_of_ne hT.not_modules];refine Ad (wpAny_specialOf hT hl ?_);have fin:A6 (Bd prog w) A (subscripted slice aj o i) (λr s₃=>A6 (Bd prog w) A (letTemporaryGo value o r>>=λ_=>pure r) Q E s₃) E s₂:=by
  rw[hs o i];exact wpAny_operating (C7 h₂ (λr s₃ h₃=>Ad (wpAny_letTemporaryGo (Ax h₃))) λ_ _ x=>x)
 first
  |exact Ax (Ad fin)
  |exact Ad (Ax (Ad fin))
  |exact Ad fin
theorem Qz{X:Cx}{pins:List (Addr×Obj)}{σ:St}{H:Hp}{s:Ar}{a:Addr}{y:V}{o:Option V}(I:Inv X pins σ H s)(g:DGet H a y o):s.TypeIs (.ref a) "dict":=by
 rcases g with⟨kvs,k,e,_,_⟩|⟨kvs,k,b,e,_,_,_⟩
 ·obtain⟨_,_,vs,_,dd⟩:=qc I.hok e;exact dd.typeIs
 ·obtain⟨_,_,xs,_,dd⟩:=oK I.hok e;exact dd.typeIs
def AV(td ty:TE):TE:=λσ H Q=>td σ H λx H1=>ty σ H1 λy H2=>∃a v,x=.ref a/\DGet H2 a y (ae v)/\Q v H2
def lL(ty td:TE):TE:=λσ H Q=>ty σ H λy H1=>td σ H1 λx H2=>∃a o,x=.ref a/\DGet H2 a y o/\Q (.bl o.isSome) H2
def oV(ty td:TE):TE:=λσ H Q=>ty σ H λy H1=>td σ H1 λx H2=>∃a o,x=.ref a/\DGet H2 a y o/\Q (.bl (!o.isSome)) H2
def uK(td ty tv:TE):TS:=λD σ H=>tv σ H λv H1=>td σ H1 λx H2=>ty σ H2 λy H3=>∃a H4,x=.ref a/\DPut H3 a y v H4/\D.nx σ H4
section
variable{X:Cx}{o i e value:Expr}{pos pos' tpos:Pos}{td ty tv:TE}
theorem K8(hu:X.A.units+1 < Fb)(ho:PE X o td)(hi:PE X i ty)(hs:me i):PE X (.Subscript o i pos) (AV td ty):=by
 intro pins s σ H Q I h;refine LF PySem.F.slot_dict_getitem.lookup hs (aZ (ho pins s σ H _ I h) λu s1 ⟨x,H1,I1,rx,q1⟩=>aZ (hi pins s1 σ H1 _ I1 q1) λiv s2 ⟨y,H2,I2,ry,a,v,ex,g,q2⟩=>?_);subst ex;obtain rfl:u=A4 a:=rx;exact⟨Qz I2 g,Kf hu I2 g ry λw' s3 I3 rw'=>⟨v,H2,I3,rw',q2⟩⟩
theorem TR(hu:X.A.units+1 < Fb)(hi:PE X i ty)(ho:PE X o td):PC X .In i o (lL ty td):=by
 intro pins s σ H Q I h;refine aZ (hi pins s σ H _ I h) λiv s1 ⟨y,H1,I1,ry,q1⟩=>aZ (ho pins s1 σ H1 _ I1 q1) λu s2 ⟨x,H2,I2,rx,a,ov,ex,g,q2⟩=>?_;subst ex;obtain rfl:u=A4 a:=rx;exact t5 hu I2 g ry λs3 I3=>⟨.bl ov.isSome,H2,I3,rfl,q2⟩
theorem yT(hu:X.A.units+1 < Fb)(hi:PE X i ty)(ho:PE X o td):PC X .NotIn i o (oV ty td):=by
 intro pins s σ H Q I h;refine aZ (hi pins s σ H _ I h) λiv s1 ⟨y,H1,I1,ry,q1⟩=>aZ (ho pins s1 σ H1 _ I1 q1) λu s2 ⟨x,H2,I2,rx,a,ov,ex,g,q2⟩=>?_;subst ex;obtain rfl:u=A4 a:=rx;exact Ul hu I2 g ry λs3 I3=>⟨.bl (!ov.isSome),H2,I3,rfl,q2⟩
theorem zX(hu:X.A.units+1 < Fb)(ho:PE X o td)(hi:PE X i ty)(hv:PE X value tv)(hs:Dt value (ae (.Subscript o i pos')) pos.line X.env=pure aj):
  PS X (.Assign [.Subscript o i pos'] value pos) (uK td ty tv):=by
 intro pins s σ H D I h;refine wpAny_Assign_Subscript (aZ (hv pins s σ H _ I h) λr s1 ⟨v,H1,I1,rv,q1⟩=>aZ (ho pins s1 σ H1 _ I1 q1) λu s2 ⟨x,H2,I2,rx,q2⟩=>aZ (hi pins s2 σ H2 _ I2 q2) λiv s3 ⟨y,H3,I3,ry,a,H4,ex,g,q3⟩=>?_) hs;subst ex;obtain rfl:u=A4 a:=rx;exact L4 hu I3 g ry rv λs4 I4=>⟨σ,H4,I4,q3⟩
end
theorem CF{P:Bf}{w:Bx}{H:Hp}(h:Heap)(hb:El < h.objs.size):ObjOk P w H (h.push {cls:=.type "dict",data:=.dict #[]}) h.objs.size (.dK []):=
 ⟨Bk _,beq_eq_false_iff_ne.mpr (Ne.symm (Bj hb)),[],.nil,Heap.DictOf.new h⟩
theorem Sa{P:Bf}{w:Bx}{H:Hp}(h:Heap)(hb:El < h.objs.size):ObjOk P w H (h.push {cls:=.type "dict",data:=.dict #[]}) h.objs.size (.dT []):=
 ⟨Bk _,beq_eq_false_iff_ne.mpr (Ne.symm (Bj hb)),[],.nil,_,#[],0,A7 _ rfl,⟨rfl,rfl,rfl⟩,rfl,rfl,List.nodup_nil⟩
def BS:TE:=λ_ H Q=>∀p,H p=ah->Q (.ref p) (upd H p (.dK []))
def FF:TE:=λ_ H Q=>∀p,H p=ah->Q (.ref p) (upd H p (.dT []))
section
variable{X:Cx}{pos:Pos}
theorem Pi:PE X (.Dict [] [] pos) BS:=λpins s σ H Q I h=>
 wpAny_Dict_empty ⟨.ref s.heap.objs.size,_,I.laid (a:=s.heap.objs.size) (o:=.dK []) (t':=s.toks) (λ_ _ q=>Ai _ q) (Ao _) (CF s.heap I.big),rfl,h _ (I.hok.fresh (Ao _))⟩
theorem KG:PE X (.Dict [] [] pos) FF:=λpins s σ H Q I h=>
 wpAny_Dict_empty ⟨.ref s.heap.objs.size,_,I.laid (a:=s.heap.objs.size) (o:=.dT []) (t':=s.toks) (λ_ _ q=>Ai _ q) (Ao _) (Sa s.heap I.big),rfl,h _ (I.hok.fresh (Ao _))⟩
end
def l3(kvs more:List (aN×V)):List (aN×V):=more.foldl (λacc kv=>cv acc kv.1 kv.2) kvs
end L2
namespace Att
open PySem PySem.W PySem.Calls PyProof.Rows
theorem S2{P:Params}{h:Heap}:∀(ns:List Int)(vs:List Aj),WellAll P h vs (ns.map WData.int)->IntsAre vs ns:=by
 intro ns
 induction ns with
 |nil=>
  intro vs w;rw[List.map_nil]at w;cases w;exact .nil
 |cons n ns ih=>
  intro vs w;rw[Bi]at w;cases w with
  |cons a b=>
   cases a;exact .cons _ _ (ih _ b)
theorem Pa{l:OpenLaw}{n:Nat}(hn:l.most=ae n){P:Params}{h:Heap}{args:List WData}{vals:List Aj}
  (hpre:l.row.toRowW.claim.pre args=ai) (hwl:WellAll P h vals args):
  ∃a vs ns,vals=[A4 a]/\args=[WData.list (ns.map WData.int)]/\h.get? a=ae {cls:=.type "list",data:=.seq vs.toArray}/\IntsAre vs ns/\ns.length<=n:=by
 have hsh:WShape.hasAll [] args [.list .int]=ai:=(pre_splitW hpre).1;have hc:l.pre.holds [] {args:=args}=ai:=(pre_splitW hpre).2;obtain⟨d,r,rfl,h1,h2⟩:=hasAllW_cons hsh;obtain rfl:=hasAllW_nil h2;obtain⟨xs,rfl,h3⟩:=hasW_list h1;obtain⟨ns,rfl⟩:=items_int h3;have hlen:ns.length<=n:=by
  unfold OpenLaw.pre at hc;have h4:(WTm.not (.lt (.lit (.int (n:Int))) (.len (.arg 0)))).holds [] {args:=[.list (ns.map .int)]}=ai:=by
   have h4:=(holds_andW hc).1;rw[hn]at h4;exact h4
  have h5:=condW_of h4 (w_not (w_lt w_lit (w_len_list (w_arg rfl))));rw[Ab]at h5;refine Nat.le_of_not_lt λq=>?_;have q':(n:Int) < ((ns.length:Nat):Int):=by omega
  first
   | (rw[decide_eq_true q']at h5;exact absurd h5 (by decide))
   | (simp at h5;omega)
 cases hwl with
 |cons w1 w2=>
  cases w2;cases w1 with
  |list ho hall=>exact⟨_,_,ns,rfl,rfl,ho,S2 ns _ hall,hlen⟩
theorem SN(l:OpenLaw)(args:List WData):l.row.toRowW.claim.post args (.bool ai) args=ai:=
 postW_of (r:=l.row.toRowW) (X:=(ai==ai))
  (show WShape.has [] (.bool ai) .bool=ai by first|rfl|decide|simp[WShape.has,WShape.arms,WShape.armsAll])
  (show(WTm.eq .res (.lit (.bool ai))).value [] {args:=args,res:=ae (.bool ai),after:=args}=ae (.bool (ai==ai))from w_eq_bool (w_res rfl) w_lit) rfl
theorem attach_call{l:OpenLaw}{n:Nat}{q:Bf}{loose:List Str}{XP:(Str->Option Aj)->Heap->Prop}{YP:Bx->Heap->Prop}{d:DefRec}
  (hn:l.most=ae n) (hdf:d.params.defaults=[])
  (call:∀(w:Bx)(s₀ s₁:Ar)(mg mb:Str->Option Aj)(fa:Addr)(o:Obj)(pm cd doc:Aj)(a:Addr)(vs:List Aj)(ns:List Int),
   Ground q loose [] XP w s₀ mg mb s₁.heap->YP w s₁.heap->
   s₁.heap.get? fa=ae o->o.data=.func (docDef d.name d.params d.body d.scope pm cd doc)->s₁.heap.CodeRec cd d.name->mg d.name=ae (.ref fa)->
   s₁.heap.get? a=ae {cls:=.type "list",data:=.seq vs.toArray}->IntsAre vs ns->ns.length<=n->s₁.gens=#[]->
   codeAny (Bd l.prog w) callerA (.call (.ref fa) ⟨[.ref a],[]⟩) (λr s'=>r=.ok (.ret (.bool ai))/\OldK s₁.heap s'.heap/\s'.os=s₁.os/\AllBare s'.gens) s₁):
  WalkO q loose XP YP l.row.toRowW d [] (λf vs=>PySem.call f vs):=by
 intro w s₀ s₁ mg mb G Y fa o pm cd doc dV kV ho hd hcd hD hmg hg args vals as hpre hlay hrd hwl hlo;obtain rfl:dV=.none:=Dflts.none hD hdf;obtain rfl:kV=.none:=Dflts.noKw hD;obtain⟨a,vs,ns,rfl,rfl,hobj,hints,hlen⟩:=Pa hn hpre hwl;refine enter_call (codeAny_mono (call w s₀ s₁ mg mb fa o pm cd doc a vs ns G Y ho (fd_plain hd) hcd hmg hobj hints hlen hg) λr s' hq=>?_);obtain⟨rfl,h2,h3,h4⟩:=hq;exact⟨.inl ⟨.bool ai,.bool ai,[],rfl,λ_=>rfl,.bool ai,SN l _,λ_=>⟨List.Pairwise.nil,λ_ hm=>(nomatch hm)⟩⟩,h2,h3,h4⟩
end Att
namespace L2
open PySem PySem.Spec PyProof.Rows
theorem Ht:∀{vs:List Aj}{ns:List Int},IntsAre vs ns->Vals (ns.map V.int) vs
 |_,_,.nil=>.nil
 |_,_,.cons n t h=>.cons ⟨t,rfl⟩ (Ht h)
def lY(H:Hp):Prop:=∀b,H b=ah\/∃o xs,H b=ae (.frz o (.lst xs))
theorem KP{P:Bf}{w:Bx}{K:Ag}{mg mb:Str->Option Aj}{CX:jr}{k:Nat}{fa a:Addr}{fd:Cm}{x:Str}{sp:Sp}{s₁:Ar}{vs:List Aj}{ns:List Int}
  (KX:K.In s₁.heap) (hns:s₁.heap.Ns Da mg) (hb:s₁.heap.Ns builtinsNs mb) (hbb:∀x:Str,x≠"__name__"->mb x=By x) (hlim:s₁.heap.NoLimit) (hg:s₁.gens=#[])
  (ha:s₁.heap.get? a=ae {cls:=.type "list",data:=.seq vs.toArray}) (hi:IntsAre vs ns) (hl:ns.length<=Ay) (hr:Room k callerA)
  (F:∀base:Heap,K.In base->base.Ns Da mg->FnOk P w K mg base CX k fa fd [x] sp) (hbind:∀(s:Ar)(u:Aj),BindsTo s fd ⟨[u],[]⟩ [(x,u)])
  (hsp:∀H:Hp,lY H->SqL K H a (ns.map V.int)->sp [.ref a] H (λv _=>v=.bl ai) λ_ _ _=>False)
  (hCX:∀H e s',CX [] H s₁ (λ_ _ _=>False) e s'->False):
  codeAny (Bd P w) callerA (.call (.ref fa) ⟨[.ref a],[]⟩) (λr s'=>r=.ok (.ret (.bool ai))/\OldK s₁.heap s'.heap/\s'.os=s₁.os/\AllBare s'.gens) s₁:=by
 have rv:=Ht hi;have lenV:=hi.length
 have core:∀H:Hp,lY H->SqL K H a (ns.map V.int)->HOk P w H s₁.heap->(∀b,H b≠ah->b=a)->(H a≠ah->K.lookup a=ah)->
   codeAny (Bd P w) callerA (.call (.ref fa) ⟨[.ref a],[]⟩) (λr s'=>r=.ok (.ret (.bool ai))/\OldK s₁.heap s'.heap/\s'.os=s₁.os/\AllBare s'.gens) s₁:=by
  intro H hO hS hok hA hK;have base_of:∀{b:Addr}{o:Obj},s₁.heap.get? b=ae o->H b=ah->(fV s₁.heap H).get? b=ae o:=λe n=>Lu e n;have noA:∀{b:Addr}{o:Obj}{es:Array DictEntry}{ep:Nat},s₁.heap.get? b=ae o->o.data=.dict es ep->H b=ah:=λ{b o es ep} e d=>by
   cases q:H b with
   |none=>rfl
   |some u=>
    have e':b=a:=hA b (by rw[q];simp);subst e';rw[ha]at e;cases e;have d':Data.seq vs.toArray _=Data.dict es ep:=d;cases d'
  have nsK:∀{b:Addr}{m:Str->Option Aj},s₁.heap.Ns b m->(fV s₁.heap H).Ns b m:=λ{b m} ⟨o,es,ep,e,d,r⟩=>⟨o,es,ep,base_of e (noA e d),d,r⟩;have hKb:K.In (fV s₁.heap H):=λb o e=>base_of (KX b o e) (by
   cases q:H b with
   |none=>rfl
   |some u=>
    have e':b=a:=hA b (by rw[q];simp);subst e';rw[hK (by rw[q];simp)]at e;cases e)
  have hM:Mod K mg (fV s₁.heap H):=⟨hKb,nsK hns,⟨mb,nsK hb,hbb⟩,let⟨mc,h1,h2⟩:=hlim;⟨mc,nsK h1,h2⟩⟩;have e0:Env0 P w K mg (fV s₁.heap H) callerA [] s₁ H:=⟨rfl,hM,λb o e=>RV e,Nat.le_of_eq (KA _ _),trivial,λb hb=>absurd (show b∈([]:List Addr)from hb) (by simp),hok,.of_eq hg⟩;refine codeAny_mono ((F _ hKb (nsK hns)).run callerA [] s₁ H ⟨[.ref a],[]⟩ [.ref a] [.ref a] _ _ hr e0 (hbind s₁ (.ref a)) (.cons rfl .nil) (hsp H hO hS)) λr s' h=>?_;cases r with
  |error e=>exact(hCX H e s' h).elim
  |ok fl=>
   cases fl with
   |next=>exact False.elim h
   |brk=>exact False.elim h
   |cont=>exact False.elim h
   |ret u=>
    obtain⟨v,H',os,bare,un,hok',r',q⟩:=h;have q':v=.bl ai:=q;subst q';obtain rfl:u=Value.bool ai:=r';refine⟨rfl,OldK.of_keep λb o e=>?_,os,bare⟩;cases q:H b with
    |none=>exact un.keep b o e q (by intro z;exact absurd (show b∈([]:List Addr)from z) (by simp)) (by simp)
    |some u=>
     rcases hO b with z|⟨ob,xs,z⟩
     ·rw[q]at z;cases z
     ·have z2:=un.frzs b ob _ z;obtain⟨e1,_⟩:=hok b _ z;obtain⟨e2,_⟩:=hok' b _ z2;rw[e]at e1;cases e1;exact e2
 cases hk:K.lookup a with
 |some o=>
  have e:=KX a o hk;rw[ha]at e;cases e;refine core (λ_=>ah) (λ_=>.inl rfl) (.inr ⟨_,vs.toArray,_,hk,rfl,rfl,rfl,by rw[A0,lenV];exact hl,by simpa using rv⟩) (λb u z=>by have z':(ah:Option HO)=ae u:=z;cases z') (λb z=>absurd rfl z) λz=>absurd rfl z
 |none=>
  refine core (λb=>if b=a then ae (.frz {cls:=.type "list",data:=.seq vs.toArray} (.lst (ns.map V.int)))else ah) (λb=>?_) (.inl (.inr ⟨{cls:=.type "list",data:=.seq vs.toArray},if_pos rfl⟩)) (λb u z=>?_) (λb z=>?_) λ_=>hk
  ·by_cases hb:b=a
   ·exact .inr ⟨_,_,if_pos hb⟩
   ·exact .inl (if_neg hb)
  ·by_cases hb:b=a
   ·have z':=(if_pos hb).symm.trans z;cases z';subst hb;exact⟨ha,by rw[Ab];exact hl,vs,_,rv,ha⟩
   ·have z':=(if_neg hb).symm.trans z;cases z'
  ·by_cases hb:b=a
   ·exact hb
   ·exact absurd (if_neg hb) z
theorem walk_of{l:PySem.W.OpenLaw}{n k:Nat}{q:Bf}{loose:List Str}{XP:(Str->Option Aj)->Heap->Prop}{YP:Bx->Heap->Prop}{d:DefRec}{K:Params->Ag}{CX:Bx->jr}{sp:Bx->Sp}{x:Str}
  (hn:l.most=ae n) (hn2:n<=Ay) (hdf:d.params.defaults=[]) (hr:Room k callerA)
  (hY:∀(w:Bx)(h:Heap),YP w h->(K w.params).In h)
  (F:∀(w:Bx)(mg:Str->Option Aj)(fa:Addr)(h:Heap),(K w.params).In h->h.Ns Da mg->mg d.name=ae (.ref fa)->
   ∃fd:Cm,(∀(s:Ar)(u:Aj),BindsTo s fd ⟨[u],[]⟩ [(x,u)]) /\
    ∀base:Heap,(K w.params).In base->base.Ns Da mg->FnOk l.prog w (K w.params) mg base (CX w) k fa fd [x] (sp w))
  (hsp:∀(w:Bx)(H:Hp)(a:Addr)(ns:List Int),ns.length<=n->lY H->SqL (K w.params) H a (ns.map V.int)->sp w [.ref a] H (λv _=>v=.bl ai) λ_ _ _=>False)
  (hCX:∀(w:Bx)(H:Hp)(s:Ar)(e:Aj)(s':Ar),CX w [] H s (λ_ _ _=>False) e s'->False):
  PySem.W.WalkO q loose XP YP l.row.toRowW d [] (λf vs=>PySem.call f vs):=by
 refine Att.attach_call hn hdf λw s₀ s₁ mg mb fa o pm cd doc a vs ns G Y ho hd hcd hmg hobj hints hlen hg=>?_;have KX:=hY w _ Y;obtain⟨fd,hb,hF⟩:=F w mg fa _ KX G.T.g hmg;exact KP KX G.T.g G.T.b G.T.builtins G.T.nolimit hg hobj hints (A3 hlen hn2) hr hF hb (λH hO hS=>hsp w H a ns hlen hO hS) λH e s'=>hCX w H s₁ e s'
def lK(s:Stmt):Arguments:=match s with
 |.FunctionDef _ a _ _ _ _ _ _ _ _=>a
 |_=>{ posonlyargs:=[],args:=[],vararg:=ah,kwonlyargs:=[],kw_defaults:=[],kwarg:=ah,defaults:=[]}
def gM(s:Stmt):List Stmt:=match s with
 |.FunctionDef _ _ b _ _ _ _ _ _ _=>b
 |_=>[]
def dB(s:Stmt):Ej:=match s with
 |.FunctionDef _ _ _ _ _ _ sc _ _ _=>sc
 |_=>{ kind:=.function,names:=[],isGenerator:=aj,isCoroutine:=aj}
abbrev dO:jr:=λ_ _ _ _ _ _=>False
abbrev E0:XK:=λ_ _ _=>False
theorem uJ{X:Cx}:xt dO X E0:=λ_ _ _ _ _ _ _ h=>h.elim
structure Fun(K:Ag)(x qual:Str)(st:Stmt)(f:Addr)(fd:Cm):Prop where
 ex:∃(oc:Aj)(od:Option Addr)(kV doc pm:Aj)(an:Option Addr)(cdv ct:Aj)(osl:Array (Option Aj)),
  fd=Ep x qual (lK st) (gM st) (dB st) .none kV doc pm an cdv ct/\K.lookup f=ae ⟨oc,od,.func fd,osl⟩/\PySem.W.codeIn K cdv qual=ai
 kp:Co K (.ref f)=ai
section
variable{P:Bf}{w:Bx}{K:Ag}{mg:Str->Option Aj}{base:Heap}
theorem Fun.ok{x qual:Str}{st:Stmt}{f:Addr}{fd:Cm}{N ps:List Str}{k:Nat}{sp:Sp}(F:Fun K x qual st f fd)(S:FnScope N ps (dB st))(len:∀vs H Q E,sp vs H Q E->vs.length=ps.length)
  (hbody:∀(cdv:Aj)(A:Ce)(outer:List Env)(s:Ar)(H:Hp)(vs:List V)(Q:VK)(E:XK),Room k (A.deeper (envOfC qual (dB st) s.heap.objs.size f cdv))->sp vs H Q E->
   ∃t,PSs (eD dO P w K mg base N qual (dB st) f cdv A outer s H E).nox (gM st) t/\t {nx:=λ_ H'=>Q .non H',rt:=Q} (start N vs) H):FnOk P w K mg base dO (k+1) f fd ps sp:=by
 obtain⟨oc,od,kV,doc,pm,an,cdv,ct,osl,rfl,lk,hcd⟩:=F.ex;refine RP lk hcd S len λA outer s H vs Q E hr hsp=>?_;obtain⟨t,h,q⟩:=hbody cdv A outer s H vs Q E hr hsp;exact⟨t,h.nox,q⟩
theorem Fun.binds{x qual:Str}{st:Stmt}{f:Addr}{fd:Cm}{ps:List Str}(F:Fun K x qual st f fd)
  (h:∀(kV doc pm:Aj)(an:Option Addr)(cdv ct:Aj)(us:List Aj),us.length=ps.length->bindArgs (Ep x qual (lK st) (gM st) (dB st) .none kV doc pm an cdv ct) ⟨us,[]⟩=pure (ps.zip us)):Binds K fd ps []:=by
 obtain⟨oc,od,kV,doc,pm,an,cdv,ct,osl,rfl,lk,hcd⟩:=F.ex;exact .all (h kV doc pm an cdv ct)
theorem Px{x qual:Str}{st:Stmt}{f:Addr}{oc:Aj}{od an:Option Addr}{osl:Array (Option Aj)}{kV doc pm cdv ct:Aj}(l:K.lookup f=ae ⟨oc,od,.func (Ep x qual (lK st) (gM st) (dB st) .none kV doc pm an cdv ct),osl⟩)
  (c:PySem.W.codeIn K cdv qual=ai) (k:Co K (.ref f)=ai):Fun K x qual st f (Ep x qual (lK st) (gM st) (dB st) .none kV doc pm an cdv ct):=⟨⟨oc,od,kV,doc,pm,an,cdv,ct,osl,rfl,l,c⟩,k⟩
end
theorem zy{n:Nat}(h:n<=1000):n < Ay:=Nat.lt_of_le_of_lt h (by decide)
section
variable{X:Cx}
theorem pv(i:Nat){x:Str}{pos:Pos}(hN:X.N[i]?=ae x:=by rfl)(hv:gh X.env.scope x:=by first|exact Cp rfl|exact Bz (Cp rfl)|exact Bz (Bz rfl))(hd:(x==("__debug__":Str))=aj:=by decide)
  (hcd:(x==("__classdict__":Str))=aj:=by decide):PE X (.Name x pos) (cW i):=gT hN hv hd hcd
end
theorem uM{A B:Prop}(h:B):if aj=ai then A else B:=by
 rw[if_neg Ae];exact h
theorem jY{c A B:Prop}[Decidable c](h1:c->A)(h2:¬c->B):if c then A else B:=by
 by_cases h:c
 ·rw[if_pos h];exact h1 h
 ·rw[if_neg h];exact h2 h
def ja(H H':Hp):Prop:=∀b o,H b=ae o->H' b=ae o
end L2
set_option maxHeartbeats 4000000
set_option maxHeartbeats 4000000
namespace Nb
open PySem L2
def dJ(i:Nat):Stmt:=PySem.Challenge.pw_noteboard_k29_logs_let_by_or_not.main.body.getD i (.Pass ⟨0,0,0,0⟩)
abbrev IX:Stmt:=dJ 40
abbrev IZ:Stmt:=dJ 41
abbrev sZ:Stmt:=dJ 70
abbrev zi:Stmt:=IX
abbrev HY:Stmt:=IZ
abbrev oT(t:String)(d:Data):Obj:=⟨.type t,ah,d,#[]⟩
structure Ds where
 i:Nat
 x:Str
 t:Nat
 l:Nat
 n:Nat
 r:Nat
 b:Bool
 v:Nat
 m:Nat
abbrev Ds.c(d:Ds):Nat:=if d.b then d.r+5 else d.r+3
abbrev Ds.f(d:Ds):Nat:=if d.b then d.r+6 else d.r+4
abbrev RN(m:Nat):Aj:=[(.str "noteboard.kinds" 187),(.str "noteboard.values" 202),(.str "noteboard.patterns" 213),(.str "noteboard.stands" 265),(.str "noteboard.moving" 281),(.str "noteboard.logs" 391),(.str "law_noteboard_k29_logs_let_by_or_not" 482)].getD m .none
abbrev lG(d:Ds):Cm:=Ep d.x d.x (lK (dJ d.i)) (gM (dJ d.i)) (dB (dJ d.i)) .none .none .none (RN d.m) ah (.ref d.c) .none
abbrev oF(d:Ds):Obj:=oT "function" (.func (lG d))
abbrev oC(d:Ds):Obj:=oT "code" (.fields #[.str d.x d.t,.str d.x (d.t+1),.str "/claim/cut.py" (d.t+2),.int d.l 0,.int d.n 0,.int 0 0,.int 0 0,.int 3 0,.ref d.r,.bool ai,.int 181 0,.ref (d.r+1),.none,if d.b then .ref (d.r+2)else .none,if d.b then .ref (d.r+3)else .none,.ref (if d.b then d.r+4 else d.r+2),.int d.v 0,.int d.l 0,.str "/claim/cut.py" (d.v+1)])
abbrev eN(P:Params)(x:Str)(t:Nat)(v:Aj):DictEntry:=⟨PyData.keyHash P x,.str x t,v⟩
abbrev en(P:Params)(d:Ds):DictEntry:=eN P d.x (d.v+2) (.ref d.f)
def dL:List Ds:=[⟨1,"kind_of",189,2,1,15,ai,193,0⟩,⟨2,"are_alike",196,12,2,22,aj,199,0⟩,⟨5,"is_whole",206,22,1,27,ai,210,1⟩,⟨7,"field_fits",215,25,4,34,ai,223,2⟩,⟨8,"fits",226,38,3,41,ai,236,2⟩,⟨9,"next_value",239,50,1,48,ai,243,2⟩,⟨10,"field_value",246,54,2,55,ai,252,2⟩,⟨11,"filled",255,59,2,62,aj,258,2⟩,⟨14,"first_stand",267,64,1,68,aj,270,3⟩,⟨15,"is_within",273,66,2,73,ai,278,3⟩,⟨17,"next_act",283,69,3,80,ai,292,4⟩,⟨18,"gets",295,74,3,87,ai,306,4⟩,⟨19,"gone_on",309,86,2,94,ai,314,4⟩,⟨20,"gone_to",317,88,3,101,aj,320,4⟩,⟨21,"with_hand",323,91,3,106,ai,329,4⟩,⟨22,"got",332,93,4,113,ai,343,4⟩,⟨23,"is_same_value",346,105,2,120,ai,352,4⟩,⟨24,"hand_moved",355,108,3,127,ai,365,4⟩,⟨25,"aged",368,125,1,134,ai,372,4⟩,⟨26,"clock_moved",375,127,1,141,aj,378,4⟩,⟨27,"after",381,129,3,146,ai,388,4⟩,⟨30,"first_board",403,136,1,154,ai,408,5⟩,⟨31,"clock_row",411,139,1,161,aj,414,5⟩,⟨32,"hand_row",417,142,4,166,ai,426,5⟩,⟨33,"row_of",429,150,4,173,ai,436,5⟩,⟨34,"went_by",439,154,1,180,ai,443,5⟩,⟨35,"board_behind",446,158,3,187,aj,449,5⟩,⟨36,"logged",452,164,3,192,ai,460,5⟩,⟨37,"mover_told",463,170,2,199,ai,468,5⟩,⟨38,"lets_log",471,174,2,206,ai,479,5⟩,⟨40,"_law_tape",484,185,1,213,ai,488,6⟩,⟨41,"_law_draw",491,187,2,220,ai,500,6⟩,⟨42,"_law_value",503,202,1,227,ai,507,6⟩,⟨43,"_law_size",510,204,1,234,ai,514,6⟩,⟨44,"_law_age",517,206,1,241,ai,521,6⟩,⟨45,"_law_pattern",524,208,2,248,ai,535,6⟩,⟨46,"_law_template",538,225,2,255,ai,546,6⟩,⟨47,"_law_term",549,234,2,262,ai,554,6⟩,⟨48,"_law_act",557,238,3,269,ai,567,6⟩,⟨49,"_law_program",570,251,1,276,aj,573,6⟩,⟨50,"_law_notes",576,268,2,281,aj,579,6⟩,⟨51,"_law_plan",582,274,1,286,aj,585,6⟩,⟨52,"_law_fit",588,279,3,291,ai,600,6⟩,⟨53,"_law_next_act",603,299,3,298,ai,613,6⟩,⟨54,"_law_got",616,303,3,305,ai,625,6⟩,⟨55,"_law_can",628,312,3,312,ai,635,6⟩,⟨56,"_law_filled",638,317,2,319,ai,647,6⟩,⟨57,"_law_to_block",650,325,3,326,aj,653,6⟩,⟨58,"_law_of_term",656,328,2,331,ai,661,6⟩,⟨59,"_law_move",664,330,3,338,aj,667,6⟩,⟨60,"_law_movers",670,352,2,343,aj,673,6⟩,⟨61,"_law_walk",676,354,4,348,ai,687,6⟩,⟨62,"_law_first",690,364,1,355,aj,693,6⟩,⟨63,"_law_row",696,366,5,360,aj,699,6⟩,⟨64,"_law_log",702,381,2,365,ai,715,6⟩,⟨65,"_law_up_to",718,392,2,372,ai,723,6⟩,⟨66,"_law_lets",726,394,2,379,ai,739,6⟩,⟨67,"_law_bent_row",742,414,2,386,aj,745,6⟩,⟨68,"_law_bent_log",748,434,3,391,ai,757,6⟩,⟨69,"_law_let_right",760,453,2,398,ai,767,6⟩,⟨70,"law",770,457,1,405,aj,773,6⟩]
def KK(P:Params):Ag:=let e:=eN P
 (3,oT "dict" (.dict ([e "__name__" 165 (.str "law_noteboard_k29_logs_let_by_or_not" 482),e "__doc__" 166 .none,e "__package__" 167 .none,e "__loader__" 168 (.builtin "__main__.__loader__#opaque"),e "__spec__" 169 .none,e "__annotations__" 170 (.ref 6),e "__builtins__" 171 (.ref 4),e "__file__" 173 (.str "/claim/cut.py" 172),e "__cached__" 174 .none]++((dL.drop 0).take 2).map (en P)++[e "GREATEST_NUMBER" 205 (.int 99 204)]++((dL.drop 2).take 6).map (en P)++[e "GETTING" 264 (.ref 67)]++((dL.drop 8).take 13).map (en P)++[e "GOT" 402 (.ref 153)]++((dL.drop 21).take 40).map (en P)).toArray 73))::(dL.flatMap λd=>[(d.c,oC d),(d.f,oF d)])++[(67,oT "tuple" (.seq #[(.str "take" 261),(.str "read" 262),(.str "look" 263)] 0)),(153,oT "dict" (.dict #[(e "take" 393 (.str "takes" 394)),(e "read" 395 (.str "reads" 396)),(e "look" 397 (.str "looks" 398))] 3))]
def aS:List Addr:=3::(dL.flatMap λd=>[d.c,d.f])++[67,153]
abbrev pp:Bf:=PySem.Challenge.pw_noteboard_k29_logs_let_by_or_not
abbrev qq:Bf:=PySem.W.view pp [70]
def lO:List Str:=(["kind_of","are_alike","GREATEST_NUMBER","is_whole","field_fits","fits","next_value","field_value","filled","GETTING","first_stand","is_within","next_act","gets","gone_on","gone_to","with_hand","got","is_same_value","hand_moved","aged","clock_moved","after","GOT","first_board","clock_row","hand_row","row_of","went_by","board_behind","logged","mover_told","lets_log","_law_tape","_law_draw","_law_value","_law_size","_law_age","_law_pattern","_law_template","_law_term","_law_act","_law_program","_law_notes","_law_plan","_law_fit","_law_next_act","_law_got","_law_can","_law_filled","_law_to_block","_law_of_term","_law_move","_law_movers","_law_walk","_law_first","_law_row","_law_log","_law_up_to","_law_lets","_law_bent_row","_law_bent_log","_law_let_right"]:List String).map D0
abbrev xT:Ar->Bool:=λs=>PySem.W.xlAt qq [] s&&PySem.W.recOk (PySem.W.RowW.records PySem.Challenge.rw_noteboard_k29_logs_let_by_or_not.row.toRowW) s
theorem aK:∀P,aS=(KK P).map (·.1):=λP=>by kernel_rfl
abbrev hK:PySem.W.Hook:=PySem.W.kHook KK aS aK
theorem uS{α β:Type}{o:Option α}{f g:α->Option β}{a b:β}(h:o.bind f=ae a)(h':o.bind g=ae b):o.map (λs=>(f s,g s))=ae (ae a,ae b):=by
 cases o with
 |none=>cases h
 |some s=>exact congrArg ae (Prod.ext h h')
theorem Si(w:Bx):(PySem.W.fencedOpening PySem.treeTable pp w 3000).bind (λs₀=>(PySem.W.topFrom PySem.treeTable pp (w.withFollow "special-get-raises" aj) 3000 s₀).map λs=>(PySem.W.openSeen qq lO (importedModules pp.main.body) xT ai s,hK.obs s))=ae (PySem.W.openGood qq lO,hK.val (w.withFollow "special-get-raises" aj)):=by kernel_rfl
theorem J1(w:Bx):(PySem.W.fencedOpening PySem.treeTable pp w 3000).bind (λs₀=>(PySem.W.topFrom PySem.treeTable pp (w.withFollow "special-get-raises" ai) 3000 s₀).map λs=>(PySem.W.openSeen qq lO (importedModules pp.main.body) xT ai s,hK.obs s))=ae (PySem.W.openGood qq lO,hK.val (w.withFollow "special-get-raises" ai)):=by kernel_rfl
theorem left_:PySem.W.LeftO pp qq lO xT hK.obs hK.val 3000:=PySem.W.LeftO.of_split "special-get-raises" λw=>uS (Si w) (J1 w)
def SS(s:Stmt):Pos:=match s with
 |.FunctionDef _ _ _ _ _ _ _ _ _ p=>p
 |_=>⟨0,0,0,0⟩
def dW:DefRec:=⟨"law",lK sZ,gM sZ,dB sZ,SS sZ⟩
theorem said_:PySem.Challenge.rw_noteboard_k29_logs_let_by_or_not.wellSaid=ai:=by kernel_rfl
theorem Qr(P:Params):(dL.map λd=>(PySem.W.nsIn (KK P) Da d.x,(KK P).lookup d.f,PySem.W.codeIn (KK P) (.ref d.c) d.x))=dL.map λd=>(ae (ae (.ref d.f)),ae (oF d),ai):=by kernel_rfl
theorem FZ{α β:Type}{f g:α->β}{l:List α}(h:l.map f=l.map g){j:Nat}{a:α}(e:l[j]?=ae a):f a=g a:=by
 have:=congrArg (λl=>l[j]?) h;simp only[A1,e,F1]at this;exact A8 this
def pA:Bool:=ai
def qX:List V:=[.non,.non,.non,.int 1,.int 2,.int 3,.int 20]
def j4:List Aa:=[.none,.none,.none,.int 1,.int 2,.int 3,.int 20]
end Nb
namespace L2
open PySem PySem.Spec PyProof.Rows
section
variable{prog:Bf}{w:Bx}{A:Ce}{R:Result->Ar->Prop}{s:Ar}
theorem CA{elt target iter:Expr}{ifs:List Expr}{scope:Ej}{pos:Pos}{it acc:Aj}{env:Env}(I:Nat->Ar->Prop)
  (turn:∀n s,I n s->A6 (Bd prog w) A (pyNext it) (λr s₁=>match r with
   |none=>R (.ok .next) s₁
   |some v=>A6 (Bd prog w) A (letOwnedTupleGo target it v) (λ_ s₁'=>A6 (Bd prog w) A (Fq target env v) (λ_ s₂=>
     A6 (Bd prog w) A (forIn ifs ai λc r=>if r=ai then do let ok <-isTrue c env (eval c env);pure (ForInStep.yield ok)else pure (ForInStep.yield r)) (λok s₃=>
      if ok=ai then A6 (Bd prog w) A (eval elt env) (λx s₄=>
       A6 (Bd prog w) A (call (.builtin "list.append") [acc,x]) (λ_ s₅=>∃m,m < n/\I m s₅) (λ_ _=>False) s₄) (λ_ _=>False) s₃
      else ∃m,m < n/\I m s₃) (λ_ _=>False) s₂) (λ_ _=>False) s₁') (λ_ _=>False) s₁) (λ_ _=>False) s)
  (n:Nat) (h:I n s):codeAny (Bd prog w) A (.compLoop (.ListComp elt [⟨target,iter,ifs,0⟩] scope pos) 0 it acc env) R s:=by
 refine codeAny_loop rfl I (λn s hI=>?_) n h;show A6 _ A ((compTurn (.ListComp elt [⟨target,iter,ifs,0⟩] scope pos) 0 it acc env).onRaise (λx=>do noteFrame x env;theTreesLotGoes x)) _ _ s;refine wpAny_noted ?_;rw[compTurn_list];refine Ad (wpAny_standAt (Ad (C7 (turn n s hI) (λr s₁ h₁=>?_) λ_ _ f=>f.elim)));cases r with
 |none=>exact Ax h₁
 |some v=>
  refine Ad (C7 h₁ (λ_ s₁' h₁'=>?_) λ_ _ f=>f.elim);refine Ad (C7 h₁' (λ_ s₂ h₂=>Ad (C7 h₂ (λok s₃ h₃=>?_) λ_ _ f=>f.elim)) λ_ _ f=>f.elim);cases ok with
  |false=>exact Ax ⟨rfl,h₃⟩
  |true=>
   exact Ad (Ad (C7 h₃ (λx s₄ h₄=>Ad (C7 h₄ (λ_ s₅ h₅=>Ax (Ax ⟨rfl,h₅⟩)) λ_ _ f=>f.elim)) λ_ _ f=>f.elim))
end
def dj(X:Cx)(N:List Str)(scope:Ej)(cl:List (Str×Addr))(s:Ar)(H:Hp)(fp:List Addr):Cx:=
 { X with N:=N,s₀:=s,H₀:=H,env:=compEnvC scope cl s.heap.objs.size X.env,outer:=X.stack,ex:=fp,fn:=λ_=>aj,pn:=[],xe:=λ_ _=>False}
structure CompSc(X:Cx)(N:List Str)(scope:Ej)(cl:List (Str×Addr))(fr:List (Option Nat)):Prop where
 clos:closureFor scope X.env=pure cl
 kind:scope.kind=.function
 nocell:∀y∈scope.names,y.2≠.cell
 names:∀y∈scope.names,y.2=.local->scope.names.lookup y.1=ae .local
 sub:∀x c,cl.lookup x=ae c->X.env.cells.lookup x=ae c
 has:∀x,((relabel scope X.env).names.lookup x=ae .cell\/(relabel scope X.env).names.lookup x=ae .free)->∃c,cl.lookup x=ae c
 len:fr.length=N.length
 fre:∀(j i:Nat),fr[j]?=ae (ae i)->∃x,N[j]?=ae x/\X.N[i]?=ae x/\gh X.env.scope x/\(X.env.kindOf x=ae .cell\/X.env.kindOf x=ae .free) /\
  ((relabel scope X.env).names.lookup x=ae .cell\/(relabel scope X.env).names.lookup x=ae .free)/\cl.lookup x=X.env.cells.lookup x
theorem rK{κ:Type}:∀{l:List (Str×κ)}{x:Str}{k:κ},l.lookup x=ae k->(x,k)∈l
 |[],_,_,h=>nomatch h
 | (y,k')::r,x,k,h=>by
  rw[List.lookup_cons]at h;cases e:x==y with
  |true=>
   rw[e]at h;have e':x=y:=by simpa using e
   have h':k'=k:=A8 h;rw[e',h'];exact As
  |false=>
   rw[e]at h;exact Am _ (rK h)
theorem DJ{κ:Type}:∀{l:List (Str×κ)}{x:Str},x∈l.map (·.1)->∃k,l.lookup x=ae k
 |[],_,h=>absurd h (by simp)
 | (y,k')::r,x,h=>by
  rw[List.lookup_cons];cases e:x==y with
  |true=>exact⟨k',rfl⟩
  |false=>
   have ne:¬x=y:=λz=>by rw[z]at e;simp at e
   have h':x∈y::r.map (·.1):=h;rcases Ap.mp h' with z|z
   ·exact absurd z ne
   ·exact DJ z
theorem PZ{X:Cx}{scope:Ej}{cl:List (Str×Addr)}(nm:List (Str×NameKind))(ks:List Str)(hrel:(relabel scope X.env).names=nm)(hks:cl.map (·.1)=ks)(h3:∀y∈nm,(y.2=.cell\/y.2=.free)->y.1∈ks):
  ∀x,((relabel scope X.env).names.lookup x=ae .cell\/(relabel scope X.env).names.lookup x=ae .free)->∃c,cl.lookup x=ae c:=by
 intro x h;rw[hrel]at h;refine DJ ?_;rw[hks];rcases h with h|h
 ·exact h3 _ (rK h) (.inl rfl)
 ·exact h3 _ (rK h) (.inr rfl)
def d3(fr:List (Option Nat))(σ:St):St:=fr.map λo=>o.bind λi=>(σ[i]?).bind id
theorem OF{fr:List (Option Nat)}{σ:St}{j:Nat}{v:V}(h:(d3 fr σ)[j]?=ae (ae v)):∃i,fr[j]?=ae (ae i)/\σ[i]?=ae (ae v):=by
 unfold d3 at h;rw[A1]at h;cases e:fr[j]? with
 |none=>rw[e]at h;cases h
 |some o=>
  rw[e]at h;cases o with
  |none=>cases h
  |some i=>
   refine⟨i,rfl,?_⟩;have h':(σ[i]?).bind id=ae v:=A8 h;cases e2:σ[i]? with
   |none=>rw[e2]at h';cases h'
   |some o2=>
    rw[e2]at h';have h2:o2=ae v:=h';rw[h2]
def pY(X:Cx)(ifs:List Expr)(tt:TT):Prop:=
 ∀(pins:List (Addr×Obj))(s:Ar)(σ:St)(H:Hp)(Q:Bool->Hp->Prop),Inv X pins σ H s->tt σ H Q->
  A6 (Bd X.prog X.w) X.A (forIn ifs ai λc r=>if r=ai then do let ok <-isTrue c X.env (eval c X.env);pure (ForInStep.yield ok)else pure (ForInStep.yield r)) (TP X pins σ Q) X.xe s
def zd:TT:=λ_ H Q=>Q ai H
theorem LW{X:Cx}:pY X [] zd:=λ_ _ _ H _ I h=>wpAny_tests_nil ⟨H,I,h⟩
theorem Tx{X:Cx}{c:Expr}{tt:TT}(h:PT X c tt):pY X [c] tt:=λpins s σ H Q I q=>wpAny_tests_one (h pins s σ H Q I q)
def nX(fr:List (Option Nat))(wi:TI)(g:TG)(tt:TT)(te:TE):TE:=λσ H Q=>wi σ H λJ H1=>∀D,H1 D=ah->
 ∃W:Nat->Nat->List V->St->Hp->Prop,(∃m,W 0 m [] (d3 fr σ) (upd H1 D (.lst [])))/\∀i m ys τ H,W i m ys τ H->
  ((J.stop i H/\Q (.ref D) H)\/(J.go i H/\ys.length < Ay/\∀x H',J.yld i H x H'->g x τ H' λτ2 H2=>tt τ2 H2 λb H3=>
   if b=ai then te τ2 H3 (λy H4=>H4 D=ae (.lst ys)/\∃m',m' < m/\W (i+1) m' (ys++[y]) τ2 (upd H4 D (.lst (ys++[y]))))else ∃m',m' < m/\W (i+1) m' ys τ2 H3))
section
variable{X:Cx}{N:List Str}{scope:Ej}{cl:List (Str×Addr)}{fr:List (Option Nat)}{pins:List (Addr×Obj)}{σ:St}{H:Hp}{s:Ar}{fp:List Addr}
theorem Pk(S:CompSc X N scope cl fr)(I:Inv X pins σ H s)(hf:∀b∈fp,dA X pins H b)(hlt:∀b∈fp,b < s.heap.objs.size):(dj X N scope cl s H fp).Ok where
 mod:=I.ok.mod
 kind:=S.kind
 glob:=I.ok.glob
 blt:=I.ok.blt
 above:=Ao _
 inj:=λx y c a b=>I.ok.inj x y c (S.sub x c a) (S.sub y c b)
 has:=λx h=>S.has x h
 cab:=λx c h=>nomatch h
 hd:=I.ok.hd
 frames:=I.ok.frames
 stk:=.inl rfl
 exf:=λb hb=>⟨Bj (hlt b hb),λx c e=>(hf b hb).2.2.2.2.1 x c (S.sub x c e)⟩
 bs:=I.bs
 bsz:=A3 I.ok.bsz I.sz
 noex:=λb o e hb=>by
  rcases(hf b hb).2.2.2.1 with z|z
  ·exact I.ok.noex b o e z
  ·exact absurd (Bm (Az (I.ok.bs b o e).1) z) (Ek _)
 exfs:=λb hb z=>by
  rcases Ap.mp (I.stkSub b z)with e|e
  ·exact(hf b hb).2.1 e
  ·exact(hf b hb).2.2.1 e
 funs:=I.stack
 frf:=I.stkFree
theorem G9{h₁:Heap}{t':Nat}(S:CompSc X N scope cl fr)(I:Inv X pins σ H s)(hf:∀b∈fp,dA X pins H b)(hlt:∀b∈fp,b < s.heap.objs.size)
  {ob:Obj} (hsb:Dz s.heap.objs.size (s.heap.push ob) h₁) {m:Str->Option Aj} (hn:h₁.Ns s.heap.objs.size m):
  Inv (dj X N scope cl s H fp) [] (d3 fr σ) H {s with heap:=h₁,toks:=t'}:=by
 have old:∀b o,s.heap.get? b=ae o->h₁.get? b=ae o:=λb o e=>(hsb.2 b (Bj (Az e))).trans (Ai _ e);refine⟨Pk S I hf hlt,rfl,I.bare,Un.kept old,⟨m,hn,λj x v e1 e2 e3=>?_⟩,λx c e=>?_,I.fresh,λx c e=>I.freeC x c (S.sub x c e),λp hp=>?_,I.hok.kept old,?_⟩
 ·obtain⟨i,f1,f2⟩:=OF e2;obtain⟨y,g1,g2,g3,g4,g5,g6⟩:=S.fre j i f1;have e1':N[j]?=ae x:=e1;rw[g1]at e1';have exy:y=x:=A8 e1';subst exy;obtain⟨m0,hn0,hl⟩:=I.loc;obtain⟨u,r,l⟩:=hl i y v g2 f2 g3;refine⟨u,r,.inr ⟨g5,?_⟩⟩;rcases l with⟨k,_⟩|⟨k,c,e,z⟩
  ·rcases g4 with q|q
   ·rw[q]at k;cases k
   ·rw[q]at k;cases k
  ·exact⟨c,g6.trans e,z.keeps old⟩
 ·obtain⟨v,z⟩:=I.cell x c (S.sub x c e);exact⟨v,z.keeps old⟩
 ·exact absurd hp (by simp[dj])
 ·show(d3 fr σ).length=N.length;unfold d3;rw[Ab,S.len]
theorem G7{H':Hp}{τ:St}{s0 s':Ar}{h':Heap}(I:Inv X pins σ H s0)(hf:∀b∈fp,dA X pins H b)(I':Inv (dj X N scope cl s0 H fp) [] τ H' s')(hs:Dz s0.heap.objs.size s'.heap h'):
  Inv X pins σ H' {s' with heap:=h'}:=by
 have hC:H' s0.heap.objs.size=ah:=I'.free;have u:Un (iK X.stack) fp H H' s0.heap s'.heap:=I'.base;have ne:∀b o,s0.heap.get? b=ae o->b≠s0.heap.objs.size:=λb o e=>Bj (Az e);have hok':HOk X.prog X.w H' h':=λb o e=>by
  have q:ObjOk X.prog X.w H' s'.heap b o:=I'.hok b o e;refine q.stay (λc v hc z=>(hs.2 c ?_).trans z) (λ_ z=>z) λ_ _ z=>z
  rintro rfl
  rcases hc with z|z
  ·rw[<-z,hC]at e;cases e
  ·rw[hC]at z;cases z
 refine I.call' (s':={ s' with heap:=h'}) (ch:=fp) I'.os ?_ hok' I'.bare λb hb=>?_
 ·refine⟨λb o e n h1 h2=>(hs.2 b (ne b o e)).trans (u.keep b o e n h1 h2),λb o e n h1 h2=>?_,u.free,λb o e h2=>?_,u.tups,u.frzs,u.tbls⟩
  ·obtain⟨sl,z⟩:=u.slot b o e n h1 h2;exact⟨sl,(hs.2 b (ne b o e)).trans z⟩
  ·obtain⟨o',z⟩:=u.there b o e h2;exact⟨o',(hs.2 b (ne b o e)).trans z⟩
 ·obtain⟨_,f1,_,f3,f4,f5⟩:=hf b hb;exact⟨f3,f1,f4,f5⟩
end
theorem Ki{X:Cx}{elt tg iter:Expr}{ifs:List Expr}{scope:Ej}{cl:List (Str×Addr)}{pos:Pos}{N:List Str}{fr:List (Option Nat)}{wi:TI}{g:TG}{tt:TT}{te:TE}
  (hc:X.calm=ai) (S:CompSc X N scope cl fr) (hi:PI X tg iter wi) (hg:∀s H fp,PG (dj X N scope cl s H fp) tg g) (ht:∀s H fp,pY (dj X N scope cl s H fp) ifs tt)
  (he:∀s H fp,PE (dj X N scope cl s H fp) elt te) (hs:∀x,D5 iter X.env x=pure x:=by intro _;rfl):
  PE X (.ListComp elt [⟨tg,iter,ifs,0⟩] scope pos) (nX fr wi g tt te):=by
 intro pins s σ H Q I h;rw[eval_ListComp];refine wpAny_comprehension_free (use:=ah) (cl:=cl) rfl hs S.clos S.kind S.names (aZ (hi pins s σ H _ I h) λv s1 h1=>aZ h1 λitv s2 h2=>?_);obtain⟨it,fp,tn,J,H2,e,I2,T,st2,f2,q⟩:=h2;subst e;refine B7 (wpAny_newFunctionEnv S.nocell (by intro y hy;simp at hy) (λh₁ hn hsb=>?_) S.kind);dsimp only at hn hsb ⊢;obtain⟨W,⟨m0,w0⟩,turn⟩:=q s2.heap.objs.size I2.fresh
 have I3:Inv X pins σ (upd H2 s2.heap.objs.size (.lst [])) {s2 with heap:=s2.heap.push {cls:=.type "list",dict:=ah,data:=.seq ([]:List Aj).toArray}}:=I2.lnew (its:=[]) (t':=s2.toks) .nil (Bk _);have key:∀s3:Ar,s3={ s2 with heap:=s2.heap.push {cls:=.type "list",dict:=ah,data:=.seq ([]:List Aj).toArray}}->Inv X pins σ (upd H2 s2.heap.objs.size (.lst [])) s3->
   ∀(ob:Obj)(mm:Str->Option Aj),Dz s3.heap.objs.size (s3.heap.push ob) h₁->h₁.Ns s3.heap.objs.size mm->
   codeAny (Bd X.prog X.w) X.A (.compStart (.ListComp elt [⟨tg,iter,ifs,0⟩] scope pos) 0 (.ref it) (.ref s2.heap.objs.size) (compEnvC scope cl s3.heap.objs.size X.env))
    (compPost (Bd X.prog X.w) X.A X.xe ah (EP X pins σ Q) (.ref s2.heap.objs.size) s3.heap.objs.size) {s3 with heap:=h₁,toks:=s3.toks+([]:List (Str×Aj)).length}:=?key
 ·exact key _ rfl I3 _ _ hsb hn
 clear I3 hn hsb;intro s3 hs3 I3 ob mm hsb hn;have hfp:∀b∈fp,∃o,s2.heap.get? b=ae o:=λb hb=>let⟨o,e,_⟩:=T.obj _ _ st2 b hb;⟨o,e⟩;have up:∀b o,s2.heap.get? b=ae o->s3.heap.get? b=ae o:=λb o e=>by rw[hs3];exact Ai _ e
 have f3:∀b∈fp,dA X pins (upd H2 s2.heap.objs.size (.lst [])) b:=λb hb=>by
  obtain⟨o,e⟩:=hfp b hb;obtain⟨g0,gr⟩:=f2 b hb;exact⟨by rw[a9 (Bj (Az e))];exact g0,gr⟩
 have hlt:∀b∈fp,b < s3.heap.objs.size:=λb hb=>let⟨o,e⟩:=hfp b hb;Az (up b o e);generalize hH3:upd H2 s2.heap.objs.size (.lst [])=H3 at I3 f3 w0;have I4:=G9 (t':=s3.toks+([]:List (Str×Aj)).length) S I3 f3 hlt hsb hn;have st4:tn 0 h₁:=T.keep _ _ _ st2 λb hb o e=>(hsb.2 b (Bj (Az (up b o e)))).trans (Ai _ (up b o e));have stat:∀{H':Hp},(∀b∈fp,H' b=ah)->∀b∈fp,dA (dj X N scope cl s3 H3 fp) [] H' b:=λhn b hb=>by
  obtain⟨_,k1,k2,k3,k4,k5⟩:=f3 b hb;refine⟨hn b hb,Bj (hlt b hb),λz=>?_,.inl hb,λx c e=>k4 x c (S.sub x c e),λp hp=>absurd hp (by simp[dj])⟩;rcases Ap.mp (I3.stkSub b z)with e|e
  ·exact k1 e
  ·exact k2 e
 have loop:codeAny (Bd X.prog X.w) X.A (.compLoop (.ListComp elt [⟨tg,iter,ifs,0⟩] scope pos) 0 (.ref it) (.ref s2.heap.objs.size) (compEnvC scope cl s3.heap.objs.size X.env))
   (compPost (Bd X.prog X.w) X.A X.xe ah (EP X pins σ Q) (.ref s2.heap.objs.size) s3.heap.objs.size) {s3 with heap:=h₁,toks:=s3.toks+([]:List (Str×Aj)).length}:=by
  refine CA (λn s'=>∃i ys τ Hc,Inv (dj X N scope cl s3 H3 fp) [] τ Hc s'/\tn i s'.heap/\(∀b∈fp,Hc b=ah)/\W i n ys τ Hc) ?_ m0 ⟨0,[],d3 fr σ,H3,I4,st4,λb hb=>(f3 b hb).1,w0⟩
  rintro n s5 ⟨i,ys,τ,Hc,I5,st5,fr5,w5⟩
  rcases turn i n ys τ Hc w5 with⟨stop,qn⟩|⟨go,hz,step⟩
  ·refine aZ (T.done (dj X N scope cl s3 H3 fp) rfl rfl rfl hc i [] s5 τ Hc (λ_ _=>False) I5 (stat fr5) st5 stop) λr s6 ⟨hr,I6⟩=>?_;subst hr;obtain⟨mm,hm,_⟩:=I6.loc;exact⟨mm,hm,λh' hs'=>⟨.ref s2.heap.objs.size,Hc,G7 I3 f3 I6 hs',rfl,qn⟩⟩
  ·refine aZ (T.item (dj X N scope cl s3 H3 fp) rfl rfl rfl hc i [] s5 τ Hc (λ_ _=>False) I5 (stat fr5) st5 go) λr s6 ⟨u,hr,h6⟩=>?_;subst hr;refine aZ h6 λ_ s7 ⟨x,H7,I7,r7,y7,st7,fr7⟩=>?_;have I7':=I7.pinned (stat fr7) (T.obj _ _ st7);refine aZ (hg s3 H3 fp _ s7 τ H7 x u _ I7' r7 (step x H7 y7)) λ_ s8 ⟨τ8,H8,I8,q8⟩=>?_;refine aZ (ht s3 H3 fp _ s8 τ8 H8 _ I8 q8) λok s9 ⟨H9,I9,q9⟩=>?_;have keep:∀{st:Ar}{τ':St}{H':Hp},Inv (dj X N scope cl s3 H3 fp) ([]++mU fp s7.heap) τ' H' st->tn (i+1) st.heap/\∀b∈fp,H' b=ah:=λ{st τ' H'} Ix=>by
    refine⟨T.keep _ _ _ st7 λb hb o e=>(Ix.pin (b,o) (Bc _ (Bc _ (mL hb e)))).1,λb hb=>?_⟩;obtain⟨o,e,d⟩:=T.obj _ _ st7 b hb;exact(Ix.pin (b,o) (Bc _ (Bc _ (mL hb e)))).2.1
   cases ok with
   |false=>
    rw[if_neg Ae]at q9 ⊢;obtain⟨m',hm,w9⟩:=q9;obtain⟨k1,k2⟩:=keep I9;exact⟨m',hm,i+1,ys,τ8,H9,I9.unpinned,k1,k2,w9⟩
   |true=>
    rw[if_pos rfl]at q9 ⊢;refine aZ (he s3 H3 fp _ s9 τ8 H9 _ I9 q9) λxv s10 ⟨y,H10,I10,r10,hD,m',hm,w10⟩=>?_;refine aZ (uv _ s10 τ8 H10 (.ref s2.heap.objs.size) [y] (.ref s2.heap.objs.size) [xv] (λz H'=>∃m',m' < n/\W (i+1) m' (ys++[y]) τ8 H') I10 rfl (.cons r10 .nil) ⟨_,ys,y,rfl,rfl,hD,hz,m',hm,w10⟩) λz s11 ⟨z',H11,I11,_,m'',hm',w11⟩=>?_;obtain⟨k1,k2⟩:=keep I11;exact⟨m'',hm',i+1,ys++[y],τ8,H11,I11.unpinned,k1,k2,w11⟩
 exact codeAny_compStart_list loop (T.self _ 0 _ _ _ st4 loop)
mutual
inductive RdD(K:Ag)(H:Hp):V->Aa->Prop
 |non:RdD K H .non .none
 |bl (b:Bool):RdD K H (.bl b) (.bool b)
 |int (i:Int):RdD K H (.int i) (.int i)
 |str (x:Str):RdD K H (.str x) (.str x)
 |lst {a:Addr} {xs:List V} {ds:List Aa}:SqL K H a xs->RdAll K H xs ds->RdD K H (.ref a) (.list ds)
 |tup {a:Addr} {xs:List V} {ds:List Aa}:SqT K H a xs->RdAll K H xs ds->RdD K H (.ref a) (.tuple ds)
inductive RdAll(K:Ag)(H:Hp):List V->List Aa->Prop
 |nil:RdAll K H [] []
 |cons {x:V} {xs:List V} {d:Aa} {ds:List Aa}:RdD K H x d->RdAll K H xs ds->RdAll K H (x::xs) (d::ds)
end
section
variable{X:Cx}{pins:List (Addr×Obj)}{σ:St}{H:Hp}{s:Ar}
mutual
theorem RdD.reads(I:Inv X pins σ H s):∀{v:V}{d:Aa}{u:Aj},RdD X.K H v d->RelV v u->∃as,Reads s.heap u d as
 |_,_,u,.non,r=>by
  cases(show u=B3 from r);exact⟨_,.none⟩
 |_,_,u,.bl b,r=>by
  cases(show u=Value.bool b from r);exact⟨_,.bool b⟩
 |_,_,u,.int i,r=>by
  obtain⟨t,rfl⟩:=(show ∃t,u=Value.int i t from r);exact⟨_,.int i t⟩
 |_,_,u,.str x,r=>by
  obtain⟨t,rfl⟩:=(show ∃t,u=Fv x t from r);exact⟨_,.str x t⟩
 |_,_,u,.lst (a:=a) h1 h2,r=>by
  cases(show u=A4 a from r);obtain⟨its,rv,⟨o,n,e,c,_,d⟩,_⟩:=I.list h1;obtain⟨as,ha⟩:=RdAll.reads I h2 rv;exact⟨_,.list e c d (by simpa using ha)⟩
 |_,_,u,.tup (a:=a) h1 h2,r=>by
  cases(show u=A4 a from r);obtain⟨its,rv,⟨o,e,c,n,d⟩,_⟩:=I.tuple h1;obtain⟨as,ha⟩:=RdAll.reads I h2 rv;exact⟨_,.tuple e c d (by simpa using ha)⟩
theorem RdAll.reads(I:Inv X pins σ H s):∀{vs:List V}{ds:List Aa}{us:List Aj},RdAll X.K H vs ds->Vals vs us->∃as,ReadsAll s.heap us ds as
 |_,_,_,.nil,.nil=>⟨_,.nil⟩
 |_,_,_,.cons h1 h2,.cons r1 r2=>by
  obtain⟨as,ha⟩:=RdD.reads I h1 r1;obtain⟨bs,hb⟩:=RdAll.reads I h2 r2;exact⟨_,.cons ha hb⟩
end
end
def Small(d:Aa):Prop:=Bu d=ai/\Bn d<=20/\Ee d<=2 ^ 20/\Dm 13 d=ai/\Df d=ai
theorem Small.len{d:Aa}(h:Small d):d.shown.length<=Ay:=by
 have hl:PyData.layable0 d=ai:=by
  unfold PyData.layable0;rw[h.1,decide_eq_true (show Bn d<=64 by have:=h.2.1;omega),decide_eq_true h.2.2.1];rfl
 have:=shown_le13 hl h.2.2.2.1;rw[Ei];omega
def qQ(K:Ag):R2:=λx y H Q=>∃a b xs,x=.ref a/\y=.ref b/\SqL K H a xs/\SqL K H b []/\Q (.bl xs.isEmpty) H
theorem Oo{X:Cx}(hu:X.A.units < Fb):OpR X (Bs .Eq) (qQ X.K):=by
 intro pins s σ H x y v u Q I rx ry h;obtain⟨a,b,xs,rfl,rfl,ha,hb,q⟩:=h;cases(show v=A4 a from rx);cases(show u=A4 b from ry);obtain⟨its,r1,p1,_⟩:=I.list ha;obtain⟨its2,r2,p2,_⟩:=I.list hb;have e2:its2=[]:=Vals.zero r2;subst e2;cases r1 with
 |nil=>exact PySem.SeqAt.eq_listAt (e:=λ_=>ai) p1.isList p2.isList rfl hu (λj h1=>absurd h1 (by simp)) ⟨.bl ai,H,I,(by rfl),q⟩
 |cons r1 r3=>exact PySem.SeqAt.eq_list_lengthsAt p1.isList p2.isList (by simp) hu ⟨.bl aj,H,I,rfl,q⟩
def DB(K:Ag):R2:=λx y H Q=>∃a b xs ys,x=.ref a/\y=.ref b/\SqT K H a xs/\SqT K H b ys/\ys≠[]/\xs.length+ys.length<=Ay /\
 (xs=[]->Q (.ref b) H)/\(xs≠[]->∀p,H p=ah->Q (.ref p) (upd H p (.tup (xs++ys))))
theorem op_catA{X:Cx}:OpR X (Ed .Add) (DB X.K):=by
 intro pins s σ H x y v u Q I rx ry h;obtain⟨a,b,xs,ys,rfl,rfl,ha,hb,hy,hz,q0,q2⟩:=h;by_cases hx:xs=[]
 ·cases(show v=A4 a from rx);cases(show u=A4 b from ry);obtain⟨its,r1,p1,_⟩:=I.tuple ha;obtain⟨its2,r2,p2,_⟩:=I.tuple hb;obtain⟨⟨cls,dd,data,sl⟩,ho,hc,n,hd⟩:=id p1;obtain⟨⟨cls2,dd2,data2,sl2⟩,ho2,hc2,n2,hd2⟩:=id p2;simp only at hc hd hc2 hd2;subst hc hd hc2 hd2;have hi:its=[]:=r1.nil_iff.mpr hx;exact concat_meets ⟨_,ho,rfl⟩ ⟨_,ho2,rfl⟩ noFill_tuple_add seq_tuple_add Fh E7 (Ez _ _)
   (tuple_addW0 a b its.toArray its2.toArray n n2 dd dd2 sl sl2 (by simp[hi])) ⟨ho,ho2,⟨.ref b,H,I,rfl,q0 hx⟩⟩
 ·exact op_catT pins s σ H (.ref a) (.ref b) v u Q I rx ry ⟨a,b,xs,ys,rfl,rfl,ha,hb,hx,hz,λe=>absurd e hy,λ_=>q2 hx⟩
theorem JG{X:Cx}{T:String}:CallR X (.builtin "isinstance") (λxs H Q=>∃x t b,xs=[x,.ty T]/\TyOf X.K H x t/\PySem.W.kitOne X.K t (.type T)=ae b/\Q (.bl b) H):=by
 intro pins s σ H xs us Q I r h;obtain⟨x,t,b,rfl,ty,e,q⟩:=h;obtain⟨u,u',rfl,ru,ru'⟩:=oM r;cases(show u'=Value.type T from ru');exact Kc I ru ty e λtk=>⟨.bl b,H,I.tok tk,rfl,q⟩
section
variable{prog:Bf}{w:Bx}{A:Ce}{E:Aj->Ar->Prop}{s:Ar}
theorem CY:entryFor table "dict.update.loop"=ae Builtin.«dict.update.loop»:=entryFor_of_tree (by kernel_rfl)
theorem tT:plainId "dict.update.loop"=ai:=by decide +kernel
theorem Rb:typeLookup (.type "tuple") "keys"=pure ah:=by rw[typeLookup_type,builtinLookup_eq_fast];kernel_rfl
theorem TF{a:Addr}{its:List Aj}{Q:List Aj->Ar->Prop}(p:IsTup s.heap a its.toArray)(h:Q its s):A6 (Bd prog w) A (Builtin.Dict.pairItems (.ref a)) Q E s:=by
 obtain⟨o,ho,hc,n,hd⟩:=id p;unfold Builtin.Dict.pairItems;refine Ad (F0 (show s.TypeIs (.ref a) "tuple" from⟨o,ho,hc⟩) ?_);rw[if_pos (by decide)];refine Ad (Ec ho hd (Ax ?_));simpa using h
set_option maxRecDepth 8000 in
theorem Ln{a:Addr}{o:Obj}{xs:Array Aj}{k:Nat}{name:Str}{Q:Option Aj->Ar->Prop}
  (hx:s.heap.get? a=ae o) (hc:o.cls=.type "tuple") (hdat:o.data=.seq xs k) (hd:o.dict=ah) (hmiss:typeLookup (.type "tuple") name=pure ah) (hname:(["__module__","__name__","__qualname__","__doc__","__annotations__"]:List Str).contains name=aj) (hA:A.handled=ah)
  (h:∀h' tk e,Heap.NewExcOf s.heap h' e "AttributeError"->Q ah {s with heap:=h',toks:=tk}) (hsz:name.length+100<=Ay:=by size_fits):
  A6 (Bd prog w) A (getAttr? (.ref a) name) Q E s:=by
 obtain⟨c,dct,dat,sl⟩:=o;simp only at hc hdat hd;subst hc hdat hd;obtain⟨hp,g,d,tk,os⟩:=s;have hT:∀tk',(⟨hp,g,d,tk',os⟩:Ar).TypeIs (.ref a) "tuple":=λ_=>⟨_,hx,rfl⟩;have f1:=sub_AttributeError;have f3:=F.slot_tuple_getattribute.lookup;have f4:=F.slot_tuple_getattribute.bind (.ref a);have f5:=am_tuple_getattr_none;unfold getAttr? getAttrBy? getAttrBy
 repeat (any_goals (first|assumption|exact hT _|((with_reducible show A6 _ _ (call (Value.builtin "tuple.__getattribute__") _ _) _ _ _);refine call_meets F.slot_tuple_getattribute (hT _) am_entry_tuple_getattribute (F.args_tuple_getattribute_2 _ _) (meets_getattribute_miss_tuple a xs k sl name _ hmiss hname hsz) ⟨hx,hA,λh' tk' e hx'=>?_⟩)|wp_step))
 obtain⟨t',u',he⟩:=hx'.there;show A6 _ _ (getattributeRaised _ _ _ _ _ _ _) _ _ _;unfold getattributeRaised
 repeat (any_goals (first|assumption|wp_step))
 exact h _ _ _ hx'.of
end
section
variable{X:Cx}{pins:List (Addr×Obj)}{σ:St}{A:Ce}{R:Result->Ar->Prop}
theorem SqT.upd{K:Ag}{H:Hp}{a d:Addr}{xs:List V}{o:HO}(h:H a=ae (.tup xs))(hd:a≠d):(L2.upd H d o) a=ae (.tup xs):=by rw[a9 hd];exact h
theorem Kq(hA:A.handled=ah){src d it:Addr}(ps:List (Addr×aN×V)):∀(n i:Nat)(H:Hp)(s:Ar)(kvs:List (aN×V)),n+i=ps.length->Inv X pins σ H s->H d=ae (.dK kvs)->kvs.length+n<=Ay->
  H src=ae (.tup (ps.map λp=>.ref p.1))->(∀p∈ps,H p.1=ae (.tup [kV p.2.1,p.2.2]))->s.heap.IsTupleIter it src i->dA X pins H it->
  (∀H' s',Inv X pins σ H' s'->H'=L2.upd H d (.dK (l3 kvs ((ps.drop i).map (·.2))))->R (.ok (.ret .none)) s')->
  codeAny (Bd X.prog X.w) A (.builtin "dict.update.loop" ⟨[.ref d,.ref it,rawInt i,.none],[]⟩) R s:=by
 intro n
 induction n with
 |zero=>
  intro i H s kvs hn I hd hz hs hp st f hR;obtain⟨its,rv,p,_⟩:=I.tuple (SqT.of (K:=X.K) hs);obtain⟨f0,f1,f2,f3,f4,f5⟩:=f;refine Gd CY ?_;rw[En tT _];show A6 _ _ (pyNext (.ref it)>>=_) _ _ s;have hl:=rv.length;rw[Ab]at hl;refine Ad (wpAny_pyNext_tuple_end (A:=A.in1) hA st (show s.heap.IsTuple src its.toArray from p) (by simp;omega) λh' eb=>?_);show A6 _ _ (Builtin.Dict.addKeywords d []>>=_) _ _ _;refine Ad (Ax (Ax ?_));refine hR H _ (I.turned (t':=s.toks) (λb o hb e=>eb b o hb e) f0 f1 f3 f4 f5) ?_;have e1:ps.drop i=[]:=List.drop_eq_nil_of_le (by omega);rw[e1]
  funext b
  unfold L2.upd
  split
  ·rename_i hb;rw[hb,hd];rfl
  ·rfl
 |succ n ih=>
  intro i H s kvs hn I hd hz hs hp st f hR;obtain⟨its,rv,p,_⟩:=I.tuple (SqT.of (K:=X.K) hs);obtain⟨f0,f1,f2,f3,f4,f5⟩:=id f;have hi:i < ps.length:=by omega
  have hpi:(ps.map λp=>V.ref p.1)[i]?=ae (V.ref (ps[i]).1):=by simp[hi]
  obtain⟨u,hu,ru⟩:=rv.get hpi;cases(show u=A4 (ps[i]).1 from ru);have hmem:ps[i]∈ps:=Ci hi;have hq:=hp _ hmem;refine Gd CY ?_;rw[En tT _];show A6 _ _ (pyNext (.ref it)>>=_) _ _ s;refine Ad (wpAny_pyNext_tuple_item st (show s.heap.IsTuple src its.toArray from p) (x:=A4 (ps[i]).1) (by simpa using hu) λh1 st1 sb=>?_);have I1:Inv X pins σ H {s with heap:=h1}:=I.turned (t':=s.toks) (λb o hb e=>(sb.2 b hb).trans e) f0 f1 f3 f4 f5;obtain⟨its1,rv1,p1,_⟩:=I1.tuple (SqT.of (K:=X.K) hq);obtain⟨u1,u2,rfl,r1,r2⟩:=oM rv1;refine Ad (Dh ?_);refine Ad (wpAny_tryCatch (TF p1 ?_));obtain⟨z,hdS,vs,rel,dd⟩:=zO I1.hok hd;have hz1:vs.length<=Ay:=by rw[<-rel.length];exact z
  have hl1:=r8 kvs (ps[i]).2.1 (ps[i]).2.2;refine Dh (wpAny_dictSet_pairs (hsz:=hz1) (mM r1) dd λh2 dd2 hs2=>?_);have he2:∃q,h2.get? d=ae q:=let⟨q,_,_,hq,_⟩:=dd2;⟨q,hq⟩;have I2:=tW (t':=s.toks+1) I1 (by rw[hd];exact Dj) hs2 he2 (zH (by omega) hdS (rel.put (ps[i]).2.1 r2) dd2);have nd:∀b xs,H b=ae (.tup xs)->b≠d:=λb xs e z=>by rw[z,hd]at e;cases e
  have nit:it≠d:=λz=>by rw[z,hd]at f0;cases f0
  have hc:((i:Int)+1)=((i+1:Nat):Int):=by push_cast;rfl
  show A6 _ _ (pure (Fin.again (.builtin "dict.update.loop" ⟨[.ref d,.ref it,rawInt ((i:Int)+1),.none],[]⟩))) _ _ _;refine Ax ⟨plainId_quiet tT _,?_⟩;rw[hc];refine ih (i+1) _ _ (cv kvs (ps[i]).2.1 (ps[i]).2.2) (by omega) I2 bQ (by omega) (SqT.upd (K:=X.K) hs (nd _ _ hs)) (λq hq'=>SqT.upd (K:=X.K) (hp q hq') (nd _ _ (hp q hq'))) (by
   obtain⟨o,e,r⟩:=st1;exact⟨o,(hs2.2 it nit).trans e,r⟩) ⟨by rw[a9 nit];exact f0,f1,f2,f3,f4,f5⟩ λH' s' I' e=>?_
  refine hR H' s' I' ?_;rw[e,AZ,E2 hi];rfl
theorem fS{n:Nat}(h:n<=1000):n<=Ay:=Ft (zy h)
theorem K6(hh:X.A.handled=ah):CallR X (.type "dict") (λxs H Q=>∃(src:Addr)(ps:List (Addr×aN×V)),xs=[.ref src]/\H src=ae (.tup (ps.map λp=>V.ref p.1))/\(∀p∈ps,H p.1=ae (.tup [kV p.2.1,p.2.2]))/\ps.length<=1000 /\
  ∀l,H l=ah->Q (.ref l) (L2.upd H l (.dK (l3 [] (ps.map (·.2)))))):=by
 intro pins s σ H xs us Q I r h;obtain⟨src,ps,rfl,hs,hp,hlen,q⟩:=h;obtain⟨u,rfl,ru⟩:=iX r;cases(show u=A4 src from ru);have big:=I.big;refine callType_codes (Q₁:=λobj s₁=>obj=.ref s.heap.objs.size/\s₁={ s with heap:=s.heap.push {cls:=.type "dict",data:=.dict #[]}}) F.kt_called_dict (F.kt_typeCall_dict_1 _) F.entry_dict_init (kt_code_dict_new _ ⟨rfl,rfl⟩) ?_
 rintro obj s₁ ⟨rfl,rfl⟩
 have hfr:H s.heap.objs.size=ah:=I.fresh;have I1:Inv X pins σ (L2.upd H s.heap.objs.size (.dK [])) {s with heap:=s.heap.push {cls:=.type "dict",data:=.dict #[]}}:=I.laid (t':=s.toks) (λb o e=>Ai _ e) (Ao _) (CF s.heap big);have nd:∀b xs,H b=ae (.tup xs)->b≠s.heap.objs.size:=λb xs e z=>by rw[z,hfr]at e;cases e
 have hs1:=SqT.upd (K:=X.K) (o:=.dK []) hs (nd _ _ hs);obtain⟨zz,its,rv,o,ho,hc,⟨n,hdat⟩,hd⟩:=(show ObjOk X.prog X.w _ _ src (.tup _)from I1.hok src _ hs1);have hnew:(s.heap.push {cls:=.type "dict",data:=.dict #[]}).DictOf (gw X.prog X.w) s.heap.objs.size []:=Heap.DictOf.new s.heap;refine⟨hnew.typeIs,F.args_dict_init_2 _ _,?_⟩;unfold Builtin.«dict.__init__»;refine Ad ?_;unfold Builtin.Dict.selfAndRest;refine Ad (wpAny_notOrdered_dict hnew.typeIs ?_);show A6 _ _ (pure (s.heap.objs.size,[A4 src])) _ _ _;refine Ax ?_;show A6 _ _ (Builtin.Dict.updateFrom "dict.__init__" s.heap.objs.size (.ref src) [] .none) _ _ _;unfold Builtin.Dict.updateFrom;refine Ad (F0 (T:="tuple") ⟨o,ho,hc⟩ ?_);rw[if_pos (by decide)];refine Ad (Ln ho hc hdat hd Rb (by decide +kernel) hh (λh' tk e ne=>?_));have I2:=I1.kept (t':=tk) ne.keeps;have p2:IsTup h' src its.toArray:=IsTup.keeps ⟨o,ho,hc,n,hdat⟩ ne.keeps;show A6 _ _ (rule _>>=_) _ _ _;refine Ad (wpAny_rule ?_);refine Ad (Dy (show Heap.IsTuple h' src its.toArray from p2) ?_);refine Ax ⟨plainId_quiet tT _,?_⟩;have I3:=I2.kept (t':=tk) (λb o e=>Ai {cls:=.type "tuple_iterator",data:=.fields #[.ref src,.int 0 0]} e);refine Kq (A:=X.A.in1) hh ps ps.length 0 _ _ [] (by omega) I3 bQ (by simp only[List.length_nil];exact fS (by omega)) hs1 (λq hq=>SqT.upd (K:=X.K) (hp q hq) (nd _ _ (hp q hq))) ⟨_,A7 _ rfl,rfl,rfl⟩ (I2.fpOk (Ao _) I2.fresh) λH' s' I' e=>?_;refine⟨rfl,.ref s.heap.objs.size,H',I',rfl,?_⟩;rw[e,AZ];exact q _ hfr
end
theorem TM(bs:List Bool):((Ba bs.length).all λi=>(bs[i]?).getD ai)=bs.all id:=by
 rw[E9,C0,C0]
 constructor
 ·intro h b hb;obtain⟨i,hi,rfl⟩:=List.mem_iff_getElem.mp hb;have:=h i (B8.mpr hi);rw[Ak hi]at this;exact this
 ·intro h i hi;have hi':=B8.mp hi;rw[Ak hi'];exact h _ (Ci hi')
theorem SE{X:Cx}(hh:X.A.handled=ah):CallR X (.builtin "all") (λxs H Q=>∃(p:Addr)(bs:List Bool),xs=[.ref p]/\H p=ae (.lst (bs.map V.bl))/\Q (.bl (bs.all id)) H):=by
 intro pins s σ H xs us Q I r h;obtain⟨p,bs,rfl,hp,q⟩:=h;obtain⟨u,rfl,ru⟩:=iX r;cases(show u=A4 p from ru);obtain⟨its,rv,pl,_⟩:=I.list (SqL.of (K:=X.K) hp);have hl:s.heap.IsList p its.toArray:=pl.isList;have hlt:p < s.heap.objs.size:=by obtain⟨_,e,_⟩:=hl;exact Az e
 have hlen:bs.length=its.length:=by have:=rv.length;rwa [Ab]at this
 refine call_all_walk (wpAny_pyIter_list hl ?_);refine⟨s.heap.objs.size,[s.heap.objs.size,p],[s.heap.objs.size],its.toArray.size,_,_,λi=>(bs[i]?).getD ai,rfl,Walks.list (A:=X.A.in1) hh _ p (Bj hlt) its.toArray,
  ⟨⟨_,A7 _ rfl,rfl,rfl⟩,hl.push _⟩,λi v s' Q' E' hP hQ=>?_,λh' tk hk=>?_⟩
 ·have hi:its[i]?=ae v:=by simpa using hP
  have hib:i < bs.length:=by rw[hlen];exact(Au.mp hi).1
  have hx:(bs.map V.bl)[i]?=ae (V.bl bs[i]):=by simp[hib]
  obtain⟨u,hu,ru⟩:=rv.get hx;rw[hi]at hu;cases(A8 hu);cases(show v=Value.bool bs[i]from ru);dsimp only at hQ;rw[Ak hib,Fu]at hQ;exact Dl hQ
 ·have e:((Ba its.toArray.size).all λi=>(bs[i]?).getD ai)=bs.all id:=by
   rw[A0,<-hlen];exact TM bs
  rw[e];refine⟨.bl (bs.all id),H,I.kept λb x e=>hk b x (λhm=>?_) (Ai _ e),rfl,q⟩;rw[Bo.mp hm]at e;exact Ek _ (Az e)
theorem QB{X:Cx}:OpR X (Bs .LtE) (λx y H Q=>∃i j,x=.str i/\y=.str j/\Q (.bl (!decide (j.cps.toList < i.cps.toList))) H):=by
 intro pins s σ H x y v u Q I rx ry h;obtain⟨i,j,rfl,rfl,q⟩:=h;obtain⟨t,rfl⟩:=rx;obtain⟨t',rfl⟩:=ry;exact P.le_str (df I q rfl)
theorem NN{X:Cx}:OpR X (Bs .Gt) (λx y H Q=>∃i j,x=.str i/\y=.str j/\Q (.bl (decide (j.cps.toList < i.cps.toList))) H):=by
 intro pins s σ H x y v u Q I rx ry h;obtain⟨i,j,rfl,rfl,q⟩:=h;obtain⟨t,rfl⟩:=rx;obtain⟨t',rfl⟩:=ry;exact P.gt_str (df I q rfl)
def rp:Aa->String
 |.none=>"NoneType"
 |.bool _=>"bool"
 |.int _=>"int"
 |.str _=>"str"
 |.list _=>"list"
 |.tuple _=>"tuple"
 |.dict _=>"dict"
def cE(T:String)(d:Aa):Bool:=rp d==T || (T=="int"&&rp d=="bool")
def bO(h:Str):Aa->Bool
 |.str x=>decide (x=h)
 |_=>aj
theorem G3{X:Cx}{elt tg iter:Expr}{ifs:List Expr}{scope:Ej}{cl:List (Str×Addr)}{cpos pos pos':Pos}{N:List Str}{fr:List (Option Nat)}{wi:TI}{g:TG}{tt:TT}{te:TE}{i:Nat}{x:Str}
  (hN:X.N.Nodup) (hix:X.N[i]?=ae x) (hx:X.env.scope.names.lookup x=ae .local)
  (hc:X.calm=ai) (S:CompSc X N scope cl fr) (hi:PI X tg iter wi) (hg:∀s H fp,PG (dj X N scope cl s H fp) tg g) (ht:∀s H fp,pY (dj X N scope cl s H fp) ifs tt)
  (he:∀s H fp,PE (dj X N scope cl s H fp) elt te) (hs:∀x,D5 iter X.env x=pure x:=by intro _;rfl)
  (hsw:Dt (.ListComp elt [⟨tg,iter,ifs,0⟩] scope cpos) (ae (.Name x pos')) pos.line X.env=pure ai:=by rfl):
  PS X (.Assign [.Name x pos'] (.ListComp elt [⟨tg,iter,ifs,0⟩] scope cpos) pos) (dv (nX fr wi g tt te) (ib i)):=by
 intro pins s σ H D I h;rw[exec_Assign_Name_used _ _ _ _ hsw];refine Ad (wpAny_standAt (Ad ?_));show A6 _ _ (do let _ <-comprehension (.ListComp elt [⟨tg,iter,ifs,0⟩] scope cpos) scope X.env (firstIterPos [⟨tg,iter,ifs,0⟩] cpos) (newList []) (firstAsync [⟨tg,iter,ifs,0⟩]) (firstIter [⟨tg,iter,ifs,0⟩] X.env) (ae (Fq (.Name x pos') X.env))) _ _ s;refine Ad ?_;have fin:∀(u:Unit)(s':Ar),SP X pins D .next s'->A6 (Bd X.prog X.w) X.A (pure Flow.next) (SP X pins D) X.xe s':=λ_ s' z=>Ax z
 refine aZ (Q:=λ_ s'=>SP X pins D .next s') ?_ λ_ s' z=>Ax (Ax z);refine wpAny_comprehension_free (use:=ae (Fq (.Name x pos') X.env)) (cl:=cl) rfl hs S.clos S.kind S.names (aZ (hi pins s σ H _ I h) λv s1 h1=>aZ h1 λitv s2 h2=>?_);obtain⟨it,fp,tn,J,H2,e,I2,T,st2,f2,q⟩:=h2;subst e;refine B7 (wpAny_newFunctionEnv S.nocell (by intro y hy;simp at hy) (λh₁ hn hsb=>?_) S.kind);dsimp only at hn hsb ⊢;obtain⟨W,⟨m0,w0⟩,turn⟩:=q s2.heap.objs.size I2.fresh
 have I3:Inv X pins σ (upd H2 s2.heap.objs.size (.lst [])) {s2 with heap:=s2.heap.push {cls:=.type "list",dict:=ah,data:=.seq ([]:List Aj).toArray}}:=I2.lnew (its:=[]) (t':=s2.toks) .nil (Bk _);have key:∀s3:Ar,s3={ s2 with heap:=s2.heap.push {cls:=.type "list",dict:=ah,data:=.seq ([]:List Aj).toArray}}->Inv X pins σ (upd H2 s2.heap.objs.size (.lst [])) s3->
   ∀(ob:Obj)(mm:Str->Option Aj),Dz s3.heap.objs.size (s3.heap.push ob) h₁->h₁.Ns s3.heap.objs.size mm->
   codeAny (Bd X.prog X.w) X.A (.compStart (.ListComp elt [⟨tg,iter,ifs,0⟩] scope cpos) 0 (.ref it) (.ref s2.heap.objs.size) (compEnvC scope cl s3.heap.objs.size X.env))
    (compPost (Bd X.prog X.w) X.A X.xe (ae (Fq (.Name x pos') X.env)) (λ_ s'=>SP X pins D .next s') (.ref s2.heap.objs.size) s3.heap.objs.size) {s3 with heap:=h₁,toks:=s3.toks+([]:List (Str×Aj)).length}:=?key
 ·exact key _ rfl I3 _ _ hsb hn
 clear I3 hn hsb;intro s3 hs3 I3 ob mm hsb hn;have hfp:∀b∈fp,∃o,s2.heap.get? b=ae o:=λb hb=>let⟨o,e,_⟩:=T.obj _ _ st2 b hb;⟨o,e⟩;have up:∀b o,s2.heap.get? b=ae o->s3.heap.get? b=ae o:=λb o e=>by rw[hs3];exact Ai _ e
 have f3:∀b∈fp,dA X pins (upd H2 s2.heap.objs.size (.lst [])) b:=λb hb=>by
  obtain⟨o,e⟩:=hfp b hb;obtain⟨g0,gr⟩:=f2 b hb;exact⟨by rw[a9 (Bj (Az e))];exact g0,gr⟩
 have hlt:∀b∈fp,b < s3.heap.objs.size:=λb hb=>let⟨o,e⟩:=hfp b hb;Az (up b o e);generalize hH3:upd H2 s2.heap.objs.size (.lst [])=H3 at I3 f3 w0;have I4:=G9 (t':=s3.toks+([]:List (Str×Aj)).length) S I3 f3 hlt hsb hn;have st4:tn 0 h₁:=T.keep _ _ _ st2 λb hb o e=>(hsb.2 b (Bj (Az (up b o e)))).trans (Ai _ (up b o e));have stat:∀{H':Hp},(∀b∈fp,H' b=ah)->∀b∈fp,dA (dj X N scope cl s3 H3 fp) [] H' b:=λhn b hb=>by
  obtain⟨_,k1,k2,k3,k4,k5⟩:=f3 b hb;refine⟨hn b hb,Bj (hlt b hb),λz=>?_,.inl hb,λx c e=>k4 x c (S.sub x c e),λp hp=>absurd hp (by simp[dj])⟩;rcases Ap.mp (I3.stkSub b z)with e|e
  ·exact k1 e
  ·exact k2 e
 have loop:codeAny (Bd X.prog X.w) X.A (.compLoop (.ListComp elt [⟨tg,iter,ifs,0⟩] scope cpos) 0 (.ref it) (.ref s2.heap.objs.size) (compEnvC scope cl s3.heap.objs.size X.env))
   (compPost (Bd X.prog X.w) X.A X.xe (ae (Fq (.Name x pos') X.env)) (λ_ s'=>SP X pins D .next s') (.ref s2.heap.objs.size) s3.heap.objs.size) {s3 with heap:=h₁,toks:=s3.toks+([]:List (Str×Aj)).length}:=by
  refine CA (λn s'=>∃i ys τ Hc,Inv (dj X N scope cl s3 H3 fp) [] τ Hc s'/\tn i s'.heap/\(∀b∈fp,Hc b=ah)/\W i n ys τ Hc) ?_ m0 ⟨0,[],d3 fr σ,H3,I4,st4,λb hb=>(f3 b hb).1,w0⟩
  rintro n s5 ⟨i,ys,τ,Hc,I5,st5,fr5,w5⟩
  rcases turn i n ys τ Hc w5 with⟨stop,qn⟩|⟨go,hz,step⟩
  ·refine aZ (T.done (dj X N scope cl s3 H3 fp) rfl rfl rfl hc i [] s5 τ Hc (λ_ _=>False) I5 (stat fr5) st5 stop) λr s6 ⟨hr,I6⟩=>?_;subst hr;obtain⟨mm,hm,_⟩:=I6.loc;have I6x:Inv X pins σ Hc s6:=G7 I3 f3 I6 (Heap.SameBut.refl _ _);have hC:Hc s3.heap.objs.size=ah:=I6.free;obtain⟨_,c1,_,c3,c4,c5⟩:=I3.fpOk (H':=Hc) (Ao _) hC;show A6 (Bd X.prog X.w) X.A (Fq (.Name x pos') X.env (.ref s2.heap.objs.size)) _ X.xe s6;refine wpAny_assign_Name (FJ I6x hN hix (.inl hx) (show RelV (.ref s2.heap.objs.size) (A4 s2.heap.objs.size)from rfl) (λs7 I7 hsb=>?_) (.inr hx));obtain⟨ad,hsb,had⟩:=hsb;have hne:s3.heap.objs.size≠ad:=by
    rcases had with z|z
    ·rw[z];exact c1
    ·exact λq=>c4 x ad z q.symm
   obtain⟨oo,es,ep,ho,rr⟩:=hm;refine⟨mm,⟨oo,es,ep,(hsb.2 _ hne).trans ho,rr⟩,λh' hs'=>⟨_,Hc,?_,qn⟩⟩;have ne:∀b,b∉[s3.heap.objs.size]->b≠s3.heap.objs.size:=λb z q=>z (by rw[q];exact Bo.mpr rfl);have hok':HOk X.prog X.w Hc h':=λb o e=>by
    refine(I7.hok b o e).stay (λc v hc z=>(hs'.2 c ?_).trans z) (λ_ z=>z) λ_ _ z=>z
    rintro rfl
    rcases hc with z|z
    ·rw[<-z,hC]at e;cases e
    ·rw[hC]at z;cases z
   refine I7.call' (s':={ s7 with heap:=h'}) (ch:=[s3.heap.objs.size]) rfl ?_ hok' I7.bare λb hb=>?_
   ·exact⟨λb o e n h1 h2=>(hs'.2 b (ne b h2)).trans e,λb o e n h1 h2=>⟨o.slots,(hs'.2 b (ne b h2)).trans e⟩,λb o e n h2=>n,λb o e h2=>⟨o,(hs'.2 b (ne b h2)).trans e⟩,λ_ _ z=>z,λ_ _ _ z=>z,λb ps z=>⟨#[],by rw[Array.append_empty];exact z⟩⟩
   ·cases Bo.mp hb;exact⟨c3,c1,c4,c5⟩
  ·refine aZ (T.item (dj X N scope cl s3 H3 fp) rfl rfl rfl hc i [] s5 τ Hc (λ_ _=>False) I5 (stat fr5) st5 go) λr s6 ⟨u,hr,h6⟩=>?_;subst hr;refine aZ h6 λ_ s7 ⟨x,H7,I7,r7,y7,st7,fr7⟩=>?_;have I7':=I7.pinned (stat fr7) (T.obj _ _ st7);refine aZ (hg s3 H3 fp _ s7 τ H7 x u _ I7' r7 (step x H7 y7)) λ_ s8 ⟨τ8,H8,I8,q8⟩=>?_;refine aZ (ht s3 H3 fp _ s8 τ8 H8 _ I8 q8) λok s9 ⟨H9,I9,q9⟩=>?_;have keep:∀{st:Ar}{τ':St}{H':Hp},Inv (dj X N scope cl s3 H3 fp) ([]++mU fp s7.heap) τ' H' st->tn (i+1) st.heap/\∀b∈fp,H' b=ah:=λ{st τ' H'} Ix=>by
    refine⟨T.keep _ _ _ st7 λb hb o e=>(Ix.pin (b,o) (Bc _ (Bc _ (mL hb e)))).1,λb hb=>?_⟩;obtain⟨o,e,d⟩:=T.obj _ _ st7 b hb;exact(Ix.pin (b,o) (Bc _ (Bc _ (mL hb e)))).2.1
   cases ok with
   |false=>
    rw[if_neg Ae]at q9 ⊢;obtain⟨m',hm,w9⟩:=q9;obtain⟨k1,k2⟩:=keep I9;exact⟨m',hm,i+1,ys,τ8,H9,I9.unpinned,k1,k2,w9⟩
   |true=>
    rw[if_pos rfl]at q9 ⊢;refine aZ (he s3 H3 fp _ s9 τ8 H9 _ I9 q9) λxv s10 ⟨y,H10,I10,r10,hD,m',hm,w10⟩=>?_;refine aZ (uv _ s10 τ8 H10 (.ref s2.heap.objs.size) [y] (.ref s2.heap.objs.size) [xv] (λz H'=>∃m',m' < n/\W (i+1) m' (ys++[y]) τ8 H') I10 rfl (.cons r10 .nil) ⟨_,ys,y,rfl,rfl,hD,hz,m',hm,w10⟩) λz s11 ⟨z',H11,I11,_,m'',hm',w11⟩=>?_;obtain⟨k1,k2⟩:=keep I11;exact⟨m'',hm',i+1,ys++[y],τ8,H11,I11.unpinned,k1,k2,w11⟩
 exact codeAny_compStart_list loop (T.self _ 0 _ _ _ st4 loop)
end L2
set_option Elab.async false
set_option maxRecDepth 100000
namespace Nb
open PySem L2
def Kp(t:Addr)(H H':Hp):Prop:=∀b o,H b=ae o->b≠t->H' b=ae o
theorem Kp.refl(t:Addr)(H:Hp):Kp t H H:=λ_ _ h _=>h
theorem Kp.trans{t:Addr}{H H1 H2:Hp}(a:Kp t H H1)(b:Kp t H1 H2):Kp t H H2:=λc o h n=>b c o (a c o h n) n
theorem Kp.new{t p:Addr}{H:Hp}{o:HO}(h:H p=ah):Kp t H (upd H p o):=λc o' e _=>by
 rw[a9 (cP e h)];exact e
theorem Kp.tape{t:Addr}{H:Hp}{o:HO}:Kp t H (upd H t o):=λc o' e n=>by
 rw[a9 n];exact e
structure TL where
 s:Addr
 g:Addr
def j9(l:TL):List V:=if pA=ai then[.ref l.g]else[]
structure Tp(H:Hp)(t:Addr)(l:TL)(ns:List Int)(n:Int):Prop where
 ob:∃a b:Int,H t=ae (.lst (.ref l.s::.int a::.int b::j9 l))/\0<=a/\a<=n
 ls:H l.s=ae (.lst (ns.map V.int))
 len:ns.length<=63
 ag:pA=ai->H l.g=ae (.lst qX)
 gne:l.g≠t
theorem Tp.ne{H:Hp}{t:Addr}{l:TL}{ns:List Int}{n:Int}(T:Tp H t l ns n):t≠l.s:=by
 obtain⟨a,b,h,_⟩:=T.ob;refine Hk h T.ls λz=>?_;have z':(.ref l.s::.int a::.int b::j9 l:List V)=ns.map V.int:=HO.lst.inj z;cases ns with
 |nil=>cases z'
 |cons m r=>
  rw[Bi]at z';have:=(B1 z').1;cases this
theorem Tp.other{H:Hp}{t p:Addr}{l:TL}{ns:List Int}{n:Int}{o:HO}(T:Tp H t l ns n)(h1:t≠p)(h2:l.s≠p)(h3:pA=ai->l.g≠p):Tp (upd H p o) t l ns n:=by
 obtain⟨a,b,e,h⟩:=T.ob;exact⟨⟨a,b,by rw[a9 h1];exact e,h⟩,by rw[a9 h2];exact T.ls,T.len,λz=>by rw[a9 (h3 z)];exact T.ag z,T.gne⟩
theorem Tp.new{H:Hp}{t p:Addr}{l:TL}{ns:List Int}{n:Int}{o:HO}(T:Tp H t l ns n)(h:H p=ah):Tp (upd H p o) t l ns n:=by
 obtain⟨a,b,e,_⟩:=T.ob;exact T.other (cP e h) (cP T.ls h) λz=>cP (T.ag z) h
theorem Ox{xs:List V}{r:Int}(h0:0<=r)(h1:r < xs.length):∃v,cS xs r=ae v/\v∈xs:=by
 obtain⟨j,rfl⟩:=Gj h0;have hj:j < xs.length:=by omega
 exact⟨xs[j],fi (Ak hj),Ci hj⟩
theorem small{n:Nat}(h:n<=1000):n<=Ay:=Ft (zy h)
theorem uR:By "tuple"=ae (.type "tuple"):=by decide +kernel
theorem Tt:By "dict"=ae (.type "dict"):=by decide +kernel
theorem Jk:By "int"=ae (.type "int"):=by decide +kernel
theorem MU:By "str"=ae (.type "str"):=by decide +kernel
theorem QG:By "repr"=ae (.builtin "repr"):=by decide +kernel
theorem wF:By "isinstance"=ae (.builtin "isinstance"):=by decide +kernel
theorem QP:By "all"=ae (.builtin "all"):=by decide +kernel
theorem qz:By "list"=ae (.type "list"):=by decide +kernel
theorem Pz:By "bool"=ae (.type "bool"):=by decide +kernel
theorem Sy{xs:List V}(h:xs.length<=63):fe xs ah (ae 63)=xs:=by
 unfold fe;have e1:HT.sIx xs.length 0 ah=0:=rfl;have e2:HT.sIx xs.length xs.length (ae 63)=xs.length:=by
  have e:=HT.sIx_nat xs.length xs.length 63;rw[show((63:Nat):Int)=63 from rfl]at e;rw[e];omega
 rw[e1,e2,List.drop_zero,Nat.sub_zero,List.take_length]
def pb(K:Ag):Sp:=λvs H Q _=>∃(a:Addr)(ns:List Int),vs=[.ref a]/\SqL K H a (ns.map V.int)/\ns.length<=63 /\
 ∀(t:Addr)(l:TL)(H':Hp),Tp H' t l ns 0->(∀b o,H b=ae o->H' b=ae o)->Q (.ref t) H'
def zv:Sp:=λvs H Q _=>∃(t:Addr)(l:TL)(ns:List Int)(n many:Int),vs=[.ref t,.int many]/\Tp H t l ns n/\n < 2 ^ 40/\0 < many/\many < 1073741824 /\
 ∀(r:Int)(H':Hp),0<=r->r < many->Tp H' t l ns (n+1)->Kp t H H'->Q (.int r) H'
end Nb
namespace DL
open PySem L2 Nb
abbrev D:=Aa
mutual
inductive RdX(H:Hp)(B:Addr->Prop):V->Aa->Prop
 |non:RdX H B .non .none
 |bl (b:Bool):RdX H B (.bl b) (.bool b)
 |int (i:Int):RdX H B (.int i) (.int i)
 |str (x:Str) (h:x.length<=Ay):RdX H B (.str x) (.str x)
 |lst {a:Addr} {xs:List V} {ds:List Aa}:H a=ae (.lst xs)->¬B a->xs.length<=Ay->RdXs H B xs ds->RdX H B (.ref a) (.list ds)
 |tup {a:Addr} {xs:List V} {ds:List Aa}:H a=ae (.tup xs)->¬B a->xs.length<=Ay->RdXs H B xs ds->RdX H B (.ref a) (.tuple ds)
inductive RdXs(H:Hp)(B:Addr->Prop):List V->List Aa->Prop
 |nil:RdXs H B [] []
 |cons {x:V} {xs:List V} {d:Aa} {ds:List Aa}:RdX H B x d->RdXs H B xs ds->RdXs H B (x::xs) (d::ds)
end
mutual
theorem RdX.move{H H':Hp}{B B':Addr->Prop}(k:∀b o,H b=ae o->¬B b->H' b=ae o/\¬B' b):∀{v:V}{d:Aa},RdX H B v d->RdX H' B' v d
 |_,_,.non=>.non
 |_,_,.bl b=>.bl b
 |_,_,.int i=>.int i
 |_,_,.str x h=>.str x h
 |_,_,.lst h1 h2 h3 h4=>.lst (k _ _ h1 h2).1 (k _ _ h1 h2).2 h3 (RdXs.move k h4)
 |_,_,.tup h1 h2 h3 h4=>.tup (k _ _ h1 h2).1 (k _ _ h1 h2).2 h3 (RdXs.move k h4)
theorem RdXs.move{H H':Hp}{B B':Addr->Prop}(k:∀b o,H b=ae o->¬B b->H' b=ae o/\¬B' b):∀{vs:List V}{ds:List Aa},RdXs H B vs ds->RdXs H' B' vs ds
 |_,_,.nil=>.nil
 |_,_,.cons h1 h2=>.cons (RdX.move k h1) (RdXs.move k h2)
end
section
variable{H H':Hp}{B B':Addr->Prop}{v:V}{d:Aa}{vs ws:List V}{ds es:List Aa}{t:Addr}
theorem RdX.kp(k:Kp t H H')(ht:B t)(h:RdX H B v d):RdX H' B v d:=h.move λb o e n=>⟨k b o e λz=>n (z▸ht),n⟩
theorem RdXs.kp(k:Kp t H H')(ht:B t)(h:RdXs H B vs ds):RdXs H' B vs ds:=h.move λb o e n=>⟨k b o e λz=>n (z▸ht),n⟩
theorem RdX.less(k:∀b,B' b->B b)(h:RdX H B v d):RdX H B' v d:=h.move λb o e n=>⟨e,λz=>n (k b z)⟩
theorem RdXs.less(k:∀b,B' b->B b)(h:RdXs H B vs ds):RdXs H B' vs ds:=h.move λb o e n=>⟨e,λz=>n (k b z)⟩
theorem RdXs.keep(k:∀b o,H b=ae o->¬B b->H' b=ae o)(h:RdXs H B vs ds):RdXs H' B vs ds:=h.move λb o e n=>⟨k b o e n,n⟩
theorem RdXs.len:∀{vs:List V}{ds:List Aa},RdXs H B vs ds->vs.length=ds.length
 |_,_,.nil=>rfl
 |_,_,.cons _ t=>by rw[An,An,RdXs.len t]
theorem RdXs.get:∀{vs:List V}{ds:List Aa}{i:Nat}{v:V},RdXs H B vs ds->vs[i]?=ae v->∃d,ds[i]?=ae d/\RdX H B v d
 |_,_,_,_,.nil,e=>by simp at e
 |_,_,0,_,.cons h _,e=>by
  simp at e;subst e;exact⟨_,rfl,h⟩
 |_,_,i+1,v,.cons _ t,e=>by
  obtain⟨d,h1,h2⟩:=RdXs.get (i:=i) (v:=v) t (by simpa using e);exact⟨d,by simpa using h1,h2⟩
theorem RdXs.getD:∀{vs:List V}{ds:List Aa}{i:Nat}{d:Aa},RdXs H B vs ds->ds[i]?=ae d->∃v,vs[i]?=ae v/\RdX H B v d
 |_,_,_,_,.nil,e=>by simp at e
 |_,_,0,_,.cons h _,e=>by
  simp at e;subst e;exact⟨_,rfl,h⟩
 |_,_,i+1,d,.cons _ t,e=>by
  obtain⟨v,h1,h2⟩:=RdXs.getD (i:=i) (d:=d) t (by simpa using e);exact⟨v,by simpa using h1,h2⟩
theorem RdXs.append:∀{vs ws:List V}{ds es:List Aa},RdXs H B vs ds->RdXs H B ws es->RdXs H B (vs++ws) (ds++es)
 |_,_,_,_,.nil,h=>h
 |_,_,_,_,.cons h1 h2,h=>.cons h1 (RdXs.append h2 h)
theorem RdXs.set:∀{vs:List V}{ds:List Aa}(i:Nat){v:V}{d:Aa},RdXs H B vs ds->RdX H B v d->RdXs H B (vs.set i v) (ds.set i d)
 |_,_,_,_,_,.nil,_=>.nil
 |_,_,0,_,_,.cons _ t,h=>.cons h t
 |_,_,i+1,_,_,.cons q t,h=>.cons q (RdXs.set i t h)
theorem RdXs.take:∀{vs:List V}{ds:List Aa}(n:Nat),RdXs H B vs ds->RdXs H B (vs.take n) (ds.take n)
 |_,_,0,_=>.nil
 |_,_,_+1,.nil=>.nil
 |_,_,n+1,.cons r t=>.cons r (RdXs.take n t)
theorem RdXs.drop:∀{vs:List V}{ds:List Aa}(n:Nat),RdXs H B vs ds->RdXs H B (vs.drop n) (ds.drop n)
 |_,_,0,r=>r
 |_,_,_+1,.nil=>.nil
 |_,_,n+1,.cons _ t=>RdXs.drop n t
end
mutual
theorem RdX.rd{K:Ag}{H:Hp}{B:Addr->Prop}:∀{v:V}{d:Aa},RdX H B v d->RdD K H v d
 |_,_,.non=>.non
 |_,_,.bl b=>.bl b
 |_,_,.int i=>.int i
 |_,_,.str x h=>.str x
 |_,_,.lst h1 h2 h3 h4=>.lst (SqL.of h1) (RdXs.rd h4)
 |_,_,.tup h1 h2 h3 h4=>.tup (SqT.of h1) (RdXs.rd h4)
theorem RdXs.rd{K:Ag}{H:Hp}{B:Addr->Prop}:∀{vs:List V}{ds:List Aa},RdXs H B vs ds->RdAll K H vs ds
 |_,_,.nil=>.nil
 |_,_,.cons h1 h2=>.cons (RdX.rd h1) (RdXs.rd h2)
end
inductive Ob where
 |o|p (d:Aa)|k (m:List (aN×Aa))|q (d:Aa) (m:List (aN×Aa))
inductive Wv where
 |d (x:Aa)|tp|dk (kvs:List (aN×Aa))|ln (ds:List Aa)|ob (o:Ob)
def Wv.lent:Wv->Bool
 |.dk _=>ai
 |.ln _=>ai
 |_=>aj
inductive SV where
 |w (x:Wv)|own (ds:List Aa)|odk (kvs:List (aN×Aa))|odt (kvs:List (List aN×Aa))
abbrev Sl:=List (Option SV)
def RdK(H:Hp)(B:Addr->Prop):List (aN×V)->List (aN×Aa)->Prop:=Paired λp q=>p.1=q.1/\RdX H B p.2 q.2
theorem RdK.move{H H':Hp}{B B':Addr->Prop}(k:∀b o,H b=ae o->¬B b->H' b=ae o/\¬B' b){l:List (aN×V)}{m:List (aN×Aa)}(h:RdK H B l m):RdK H' B' l m:=
 Paired.mapP h λ_ _ z=>⟨z.1,z.2.move k⟩
def RdT(H:Hp)(B:Addr->Prop):List (List aN×V)->List (List aN×Aa)->Prop:=Paired λp q=>p.1=q.1/\RdX H B p.2 q.2
theorem RdT.move{H H':Hp}{B B':Addr->Prop}(k:∀b o,H b=ae o->¬B b->H' b=ae o/\¬B' b){l:List (List aN×V)}{m:List (List aN×Aa)}(h:RdT H B l m):RdT H' B' l m:=
 Paired.mapP h λ_ _ z=>⟨z.1,z.2.move k⟩
def ORel(H:Hp)(B:Addr->Prop)(v:V):Ob->Prop
 |.o=>∃a,v=.ref a
 |.p d=>∃a x y,v=.ref a/\H a=ae (.tup [x,y])/\¬B a/\RdX H B x d
 |.k m=>∃a l,v=.ref a/\H a=ae (.dK l)/\¬B a/\RdK H B l m
 |.q d m=>∃a x b l,v=.ref a/\H a=ae (.tup [x,.ref b])/\¬B a/\RdX H B x d/\H b=ae (.dK l)/\¬B b/\RdK H B l m
theorem ORel.move{H H':Hp}{B B':Addr->Prop}(k:∀b o,H b=ae o->¬B b->H' b=ae o/\¬B' b){v:V}{o:Ob}(h:ORel H B v o):ORel H' B' v o:=by
 cases o with
 |o=>exact h
 |p d=>
  obtain⟨a,x,y,e,h1,h2,h3⟩:=h;exact⟨a,x,y,e,(k _ _ h1 h2).1,(k _ _ h1 h2).2,h3.move k⟩
 |k m=>
  obtain⟨a,l,e,h1,h2,h3⟩:=h;exact⟨a,l,e,(k _ _ h1 h2).1,(k _ _ h1 h2).2,h3.move k⟩
 |q d m=>
  obtain⟨a,x,b,l,e,h1,h2,h3,h4,h5,h6⟩:=h;exact⟨a,x,b,l,e,(k _ _ h1 h2).1,(k _ _ h1 h2).2,h3.move k,(k _ _ h4 h5).1,(k _ _ h4 h5).2,h6.move k⟩
def WRel(H:Hp)(B:Addr->Prop)(t:Addr)(v:V):Wv->Prop
 |.d x=>RdX H B v x
 |.tp=>v=.ref t
 |.dk kvs=>∃a l,v=.ref a/\H a=ae (.dK l)/\a≠t/\RdK H B l kvs
 |.ln ds=>∃a xs,v=.ref a/\H a=ae (.lst xs)/\a≠t/\xs.length<=Ay/\RdXs H B xs ds
 |.ob o=>ORel H B v o
def SRel(H0:Hp)(H:Hp)(B:Addr->Prop)(t:Addr)(v:V):SV->Prop
 |.w x=>WRel H B t v x/\(x.lent=ai->∃a,v=.ref a/\H0 a≠ah)
 |.own ds=>∃a xs,v=.ref a/\H a=ae (.lst xs)/\B a/\H0 a=ah/\xs.length<=Ay/\RdXs H B xs ds
 |.odk kvs=>∃a l,v=.ref a/\H a=ae (.dK l)/\B a/\H0 a=ah/\l.length<=1000/\RdK H B l kvs
 |.odt kvs=>∃a l,v=.ref a/\H a=ae (.dT l)/\B a/\H0 a=ah/\l.length<=1000/\RdT H B l kvs
def SV.isOwn:SV->Bool
 |.w _=>aj
 |_=>ai
structure Ctx where
 t:Addr
 l:TL
 ns:List Int
 H0:Hp
 B0:Addr->Prop
 fz:Hp
structure Rel(C:Ctx)(H:Hp)(B:Addr->Prop)(σ:St)(δ:Sl)(n:Int):Prop where
 tp:Tp H C.t C.l C.ns n
 kp:Kp C.t C.H0 H
 t0:C.H0 C.t≠ah
 l0:C.H0 C.l.s≠ah
 g0:pA=ai->C.H0 C.l.g≠ah
 fz:∀b o,C.fz b=ae o->H b=ae o/\¬B b
 bt:B C.t
 b0:∀b,C.B0 b->B b
 ba:∀b,B b->H b≠ah
 a0:∀b,C.B0 b->C.H0 b≠ah
 sl:∀(i:Nat)(x:SV),δ[i]?=ae (ae x)->∃v,σ[i]?=ae (ae v)/\SRel C.H0 H B C.t v x
 ow:∀(i j:Nat)(x y:SV)(v:V),δ[i]?=ae (ae x)->δ[j]?=ae (ae y)->x.isOwn=ai->y.isOwn=ai->σ[i]?=ae (ae v)->σ[j]?=ae (ae v)->i=j
 len:σ.length=δ.length
theorem WRel.kp{H H':Hp}{B:Addr->Prop}{t:Addr}{v:V}{x:Wv}(k:Kp t H H')(ht:B t)(h:WRel H B t v x):WRel H' B t v x:=by
 cases x with
 |d x=>exact RdX.kp k ht h
 |tp=>exact h
 |dk kvs=>
  obtain⟨a,l,e,h1,h2,h3⟩:=h;exact⟨a,l,e,k _ _ h1 h2,h2,h3.move λb o e n=>⟨k b o e λz=>n (z▸ht),n⟩⟩
 |ln ds=>
  obtain⟨a,l,e,h1,h2,h3,h4⟩:=h;exact⟨a,l,e,k _ _ h1 h2,h2,h3,h4.kp k ht⟩
 |ob o=>exact ORel.move (λb o e n=>⟨k b o e λz=>n (z▸ht),n⟩) h
theorem WRel.less{H:Hp}{B B':Addr->Prop}{t:Addr}{v:V}{x:Wv}(k:∀b,B' b->B b)(h:WRel H B t v x):WRel H B' t v x:=by
 cases x with
 |d x=>exact RdX.less k h
 |tp=>exact h
 |dk kvs=>
  obtain⟨a,l,e,h1,h2,h3⟩:=h;exact⟨a,l,e,h1,h2,h3.move λb o e n=>⟨e,λz=>n (k b z)⟩⟩
 |ln ds=>
  obtain⟨a,l,e,h1,h2,h3,h4⟩:=h;exact⟨a,l,e,h1,h2,h3,h4.less k⟩
 |ob o=>exact ORel.move (λb o e n=>⟨e,λz=>n (k b z)⟩) h
theorem SRel.kp{H0 H H':Hp}{B:Addr->Prop}{t:Addr}{v:V}{x:SV}(k:Kp t H H')(ht:B t)(t0:H0 t≠ah)(h:SRel H0 H B t v x):SRel H0 H' B t v x:=by
 cases x with
 |w x=>exact⟨h.1.kp k ht,h.2⟩
 |own ds=>
  obtain⟨a,xs,e,h1,h2,h3,h4,h5⟩:=h;exact⟨a,xs,e,k _ _ h1 (λz=>t0 (z▸h3)),h2,h3,h4,h5.kp k ht⟩
 |odk kvs=>
  obtain⟨a,l,e,h1,h2,h3,h4,h5⟩:=h;exact⟨a,l,e,k _ _ h1 (λz=>t0 (z▸h3)),h2,h3,h4,h5.move λb o e n=>⟨k b o e λz=>n (z▸ht),n⟩⟩
 |odt kvs=>
  obtain⟨a,l,e,h1,h2,h3,h4,h5⟩:=h;exact⟨a,l,e,k _ _ h1 (λz=>t0 (z▸h3)),h2,h3,h4,h5.move λb o e n=>⟨k b o e λz=>n (z▸ht),n⟩⟩
theorem Rel.step{C:Ctx}{H H':Hp}{B:Addr->Prop}{σ:St}{δ:Sl}{n n':Int}(R:Rel C H B σ δ n)(T:Tp H' C.t C.l C.ns n')(k:Kp C.t H H'):Rel C H' B σ δ n' where
 tp:=T
 kp:=R.kp.trans k
 t0:=R.t0
 l0:=R.l0
 g0:=R.g0
 fz:=λb o e=>⟨k b o (R.fz b o e).1 λz=>(R.fz b o e).2 (z▸R.bt),(R.fz b o e).2⟩
 bt:=R.bt
 b0:=R.b0
 ba:=λb hb e=>by
  by_cases z:b=C.t
  ·subst z;obtain⟨x,y,h,_⟩:=T.ob;rw[h]at e;cases e
  ·cases q:H b with
   |none=>exact R.ba b hb q
   |some o=>rw[k b o q z]at e;cases e
 a0:=R.a0
 sl:=λi x e=>by
  obtain⟨v,h1,h2⟩:=R.sl i x e;exact⟨v,h1,h2.kp k R.bt R.t0⟩
 ow:=R.ow
 len:=R.len
theorem Rel.new{C:Ctx}{H:Hp}{B:Addr->Prop}{σ:St}{δ:Sl}{n:Int}{p:Addr}{o:HO}(R:Rel C H B σ δ n)(h:H p=ah):Rel C (upd H p o) B σ δ n:=R.step (R.tp.new h) (Kp.new h)
theorem Rel.nb{C:Ctx}{H:Hp}{B:Addr->Prop}{σ:St}{δ:Sl}{n:Int}{p:Addr}(R:Rel C H B σ δ n)(h:H p=ah):¬B p:=λz=>R.ba p z h
theorem gP{α:Type}{l:List (Option α)}{i j:Nat}{x y:α}(h:(l.set i (ae x))[j]?=ae (ae y)):(j=i/\y=x)\/(j≠i/\l[j]?=ae (ae y)):=by
 by_cases e:i=j
 ·subst e;rw[Fi]at h;cases q:l[i]? with
  |none=>rw[q]at h;cases h
  |some z=>
   rw[q]at h;exact .inl ⟨rfl,(A8 (A8 h)).symm⟩
 ·rw[Cq e]at h;exact .inr ⟨λz=>e z.symm,h⟩
theorem qZ{α:Type}{l:List (Option α)}{i:Nat}{x y:Option α}(h:(l.set i x)[i]?=ae y):i < l.length:=by
 have:=(Au.mp h).1;rwa [B4]at this
theorem sX{α:Type}{l:List (Option α)}{i:Nat}{x:α}(h:i < l.length):(l.set i (ae x))[i]?=ae (ae x):=by simp[h]
theorem kQ{α:Type}{l:List (Option α)}{i j:Nat}{x:α}(h:j≠i):(l.set i (ae x))[j]?=l[j]?:=Cq (λz=>h z.symm)
theorem Rel.set{C:Ctx}{H:Hp}{B:Addr->Prop}{σ:St}{δ:Sl}{n:Int}{i:Nat}{v:V}{x:Wv}(R:Rel C H B σ δ n)(h:WRel H B C.t v x)(hx:x.lent=aj):Rel C H B (σ.set i (ae v)) (δ.set i (ae (.w x))) n where
 tp:=R.tp
 kp:=R.kp
 t0:=R.t0
 l0:=R.l0
 g0:=R.g0
 fz:=R.fz
 bt:=R.bt
 b0:=R.b0
 ba:=R.ba
 a0:=R.a0
 sl:=λj y e=>by
  rcases gP e with⟨rfl,rfl⟩|⟨ne,e'⟩
  ·exact⟨v,sX (by rw[R.len];exact qZ e),h,λz=>by rw[hx]at z;cases z⟩
  ·obtain⟨u,h1,h2⟩:=R.sl j y e';exact⟨u,by rw[kQ ne];exact h1,h2⟩
 ow:=λj k y z u e1 e2 o1 o2 f1 f2=>by
  rcases gP e1 with⟨rfl,rfl⟩|⟨ne1,e1'⟩
  ·cases o1
  ·rcases gP e2 with⟨rfl,rfl⟩|⟨ne2,e2'⟩
   ·cases o2
   ·rw[kQ ne1]at f1;rw[kQ ne2]at f2;exact R.ow j k y z u e1' e2' o1 o2 f1 f2
 len:=by rw[B4,B4];exact R.len
theorem Rel.mut{C:Ctx}{H:Hp}{B:Addr->Prop}{σ:St}{δ:Sl}{n:Int}{a:Addr}{o:HO}(R:Rel C H B σ δ n)(hb:B a)(h0:C.H0 a=ah)
  (ho:∀(i:Nat)(x:SV),δ[i]?=ae (ae x)->x.isOwn=ai->σ[i]?≠ae (ae (.ref a))):Rel C (upd H a o) B σ δ n where
 tp:=R.tp.other (λz=>R.t0 (z▸h0)) (λz=>R.l0 (z▸h0)) (λe z=>R.g0 e (z▸h0))
 kp:=λb o' e ne=>by
  rw[a9 (cP e h0)];exact R.kp b o' e ne
 t0:=R.t0
 l0:=R.l0
 g0:=R.g0
 fz:=λb o' e=>⟨by rw[a9 λ(z:b=a)=>(R.fz b o' e).2 (z▸hb)];exact(R.fz b o' e).1,(R.fz b o' e).2⟩
 bt:=R.bt
 b0:=R.b0
 ba:=λb hb' e=>by
  by_cases z:b=a
  ·rw[z,bQ]at e;cases e
  ·rw[a9 z]at e;exact R.ba b hb' e
 a0:=R.a0
 sl:=λi x e=>by
  obtain⟨v,h1,h2⟩:=R.sl i x e;have mv:∀b o',H b=ae o'->¬B b->upd H a o b=ae o'/\¬B b:=λb o' e n=>⟨by rw[a9 λ(z:b=a)=>n (z▸hb)];exact e,n⟩;refine⟨v,h1,?_⟩;cases x with
  |w x=>
   refine⟨?_,h2.2⟩;cases x with
   |d x=>exact h2.1.move mv
   |tp=>exact h2.1
   |dk kvs=>
    obtain⟨a',l,e1,e2,e3,e4⟩:=h2.1;obtain⟨a'',f1,f2⟩:=h2.2 rfl;rw[e1]at f1;cases f1;exact⟨a',l,e1,by rw[a9 λ(z:a'=a)=>f2 (z▸h0)];exact e2,e3,e4.move mv⟩
   |ln ds=>
    obtain⟨a',l,e1,e2,e3,e4,e5⟩:=h2.1;obtain⟨a'',f1,f2⟩:=h2.2 rfl;rw[e1]at f1;cases f1;exact⟨a',l,e1,by rw[a9 λ(z:a'=a)=>f2 (z▸h0)];exact e2,e3,e4,e5.move mv⟩
   |ob o=>exact ORel.move mv h2.1
  |own ds=>
   obtain⟨a',xs,e1,e2,e3,e4,e5,e6⟩:=h2;have ne:a'≠a:=λz=>ho i _ e rfl (by rw[h1,e1,z]);exact⟨a',xs,e1,by rw[a9 ne];exact e2,e3,e4,e5,e6.move mv⟩
  |odk kvs=>
   obtain⟨a',xs,e1,e2,e3,e4,e5,e6⟩:=h2;have ne:a'≠a:=λz=>ho i _ e rfl (by rw[h1,e1,z]);exact⟨a',xs,e1,by rw[a9 ne];exact e2,e3,e4,e5,e6.move mv⟩
  |odt kvs=>
   obtain⟨a',xs,e1,e2,e3,e4,e5,e6⟩:=h2;have ne:a'≠a:=λz=>ho i _ e rfl (by rw[h1,e1,z]);exact⟨a',xs,e1,by rw[a9 ne];exact e2,e3,e4,e5,e6.move mv⟩
 ow:=R.ow
 len:=R.len
theorem Rel.mutOwn{C:Ctx}{H:Hp}{B:Addr->Prop}{σ:St}{δ:Sl}{n:Int}{i:Nat}{x x':SV}{a:Addr}{o:HO}(R:Rel C H B σ δ n)(hi:δ[i]?=ae (ae x))(hx:x.isOwn=ai)(hσ:σ[i]?=ae (ae (.ref a)))(hb:B a)(h0:C.H0 a=ah)
  (h:SRel C.H0 (upd H a o) B C.t (.ref a) x') (hx':x'.isOwn=ai):Rel C (upd H a o) B σ (δ.set i (ae x')) n:=by
 have R1:Rel C H B σ (δ.set i ah) n:={
  tp:=R.tp,kp:=R.kp,t0:=R.t0,l0:=R.l0,g0:=R.g0,fz:=R.fz,bt:=R.bt,b0:=R.b0,ba:=R.ba,a0:=R.a0
  sl:=λj y e=>by
   by_cases z:i=j
   ·subst z;rw[Fi]at e;rw[hi]at e;cases e
   ·rw[Cq z]at e;exact R.sl j y e
  ow:=λj k y z u e1 e2 o1 o2 f1 f2=>by
   have g:∀{m:Nat}{w:SV},(δ.set i ah)[m]?=ae (ae w)->δ[m]?=ae (ae w):=λ{m w} e=>by
    by_cases q:i=m
    ·subst q;rw[Fi,hi]at e;cases e
    ·rwa [Cq q]at e
   exact R.ow j k y z u (g e1) (g e2) o1 o2 f1 f2
  len:=by rw[B4];exact R.len}
 have R2:Rel C (upd H a o) B σ (δ.set i ah) n:=R1.mut hb h0 λj y e oy f=>by
  by_cases z:i=j
  ·subst z;rw[Fi,hi]at e;cases e
  ·rw[Cq z]at e;exact z (R.ow i j x y _ hi e hx oy hσ f)
 have hlt:i < δ.length:=(Au.mp hi).1;exact{
  tp:=R2.tp,kp:=R2.kp,t0:=R2.t0,l0:=R2.l0,g0:=R2.g0,fz:=R2.fz,bt:=R2.bt,b0:=R2.b0,ba:=R2.ba,a0:=R2.a0
  sl:=λj y e=>by
   rcases gP e with⟨rfl,rfl⟩|⟨ne,e'⟩
   ·exact⟨_,hσ,h⟩
   ·exact R2.sl j y (by rw[Cq λz=>ne z.symm];exact e')
  ow:=λj k y z u e1 e2 o1 o2 f1 f2=>by
   rcases gP e1 with⟨rfl,rfl⟩|⟨ne1,e1'⟩
   ·rcases gP e2 with⟨rfl,rfl⟩|⟨ne2,e2'⟩
    ·rfl
    ·exact R.ow _ _ x z u hi e2' hx o2 f1 f2
   ·rcases gP e2 with⟨rfl,rfl⟩|⟨ne2,e2'⟩
    ·exact R.ow _ _ y x u e1' hi o1 hx f1 f2
    ·exact R.ow j k y z u e1' e2' o1 o2 f1 f2
  len:=by rw[B4];exact R.len}
theorem Rel.own{C:Ctx}{H H':Hp}{B:Addr->Prop}{σ:St}{δ:Sl}{n n':Int}{i:Nat}{a:Addr}{x:SV}(R:Rel C H B σ δ n)(R':Rel C H' B σ δ n')(k:Kp C.t H H')(h0:H a=ah)(h1:H' a≠ah)(hx:x.isOwn=ai)
  (h:SRel C.H0 H' (λb=>B b\/b=a) C.t (.ref a) x):Rel C H' (λb=>B b\/b=a) (σ.set i (ae (.ref a))) (δ.set i (ae x)) n' where
 tp:=R'.tp
 kp:=R'.kp
 t0:=R'.t0
 l0:=R'.l0
 g0:=R'.g0
 fz:=λb o e=>⟨(R'.fz b o e).1,λz=>z.elim (R'.fz b o e).2 λq=>cP (R.fz b o e).1 h0 q⟩
 bt:=.inl R.bt
 b0:=λb z=>.inl (R.b0 b z)
 ba:=λb z=>z.elim (R'.ba b) λq=>q▸h1
 a0:=R.a0
 sl:=λj y e=>by
  have hta:C.t≠a:=λz=>by
   obtain⟨_,_,q,_⟩:=R.tp.ob;rw[z,h0]at q;cases q
  have mv:∀b o',H b=ae o'->¬B b->H' b=ae o'/\¬(B b\/b=a):=λb o' e n=>⟨k b o' e λz=>n (z▸R.bt),λz=>z.elim n λq=>cP e h0 q⟩;rcases gP e with⟨rfl,rfl⟩|⟨ne,e'⟩
  ·exact⟨_,sX (by rw[R.len];exact qZ e),h⟩
  ·obtain⟨v,f1,f2⟩:=R.sl j y e';refine⟨v,by rw[kQ ne];exact f1,?_⟩;cases y with
   |w y=>
    refine⟨?_,f2.2⟩;cases y with
    |d y=>exact f2.1.move mv
    |tp=>exact f2.1
    |dk kvs=>
     obtain⟨a',l,e1,e2,e3,e4⟩:=f2.1;exact⟨a',l,e1,k _ _ e2 e3,e3,e4.move mv⟩
    |ln ds=>
     obtain⟨a',l,e1,e2,e3,e4,e5⟩:=f2.1;exact⟨a',l,e1,k _ _ e2 e3,e3,e4,e5.move mv⟩
    |ob o=>exact ORel.move mv f2.1
   |own ds=>
    obtain⟨a',xs,e1,e2,e3,e4,e5,e6⟩:=f2;exact⟨a',xs,e1,k _ _ e2 (λz=>R.t0 (z▸e4)),.inl e3,e4,e5,e6.move mv⟩
   |odk kvs=>
    obtain⟨a',xs,e1,e2,e3,e4,e5,e6⟩:=f2;exact⟨a',xs,e1,k _ _ e2 (λz=>R.t0 (z▸e4)),.inl e3,e4,e5,e6.move mv⟩
   |odt kvs=>
    obtain⟨a',xs,e1,e2,e3,e4,e5,e6⟩:=f2;exact⟨a',xs,e1,k _ _ e2 (λz=>R.t0 (z▸e4)),.inl e3,e4,e5,e6.move mv⟩
 ow:=λj m y z u e1 e2 o1 o2 f1 f2=>by
  have out:∀{p:Nat}{w:SV},δ[p]?=ae (ae w)->w.isOwn=ai->σ[p]?=ae (ae (.ref a))->False:=λ{p w} e ow f=>by
   obtain⟨v,g1,g2⟩:=R.sl p w e;rw[f]at g1;cases g1;cases w with
   |w _=>cases ow
   |own ds=>
    obtain⟨a',xs,e1,e2,_⟩:=g2;cases e1;rw[h0]at e2;cases e2
   |odk ds=>
    obtain⟨a',xs,e1,e2,_⟩:=g2;cases e1;rw[h0]at e2;cases e2
   |odt ds=>
    obtain⟨a',xs,e1,e2,_⟩:=g2;cases e1;rw[h0]at e2;cases e2
  rcases gP e1 with⟨rfl,rfl⟩|⟨ne1,e1'⟩
  ·rcases gP e2 with⟨rfl,rfl⟩|⟨ne2,e2'⟩
   ·rfl
   ·rw[sX (by rw[R.len];exact qZ e1)]at f1;rw[kQ ne2]at f2;cases f1;exact(out e2' o2 f2).elim
  ·rcases gP e2 with⟨rfl,rfl⟩|⟨ne2,e2'⟩
   ·rw[sX (by rw[R.len];exact qZ e2)]at f2;rw[kQ ne1]at f1;cases f2;exact(out e1' o1 f1).elim
   ·rw[kQ ne1]at f1;rw[kQ ne2]at f2;exact R.ow j m y z u e1' e2' o1 o2 f1 f2
 len:=by rw[B4,B4];exact R.len
theorem Rel.give{C:Ctx}{H:Hp}{B:Addr->Prop}{σ:St}{δ:Sl}{n:Int}{i:Nat}{x:SV}{y:Wv}{a:Addr}(R:Rel C H B σ δ n)(hi:δ[i]?=ae (ae x))(ox:x.isOwn=ai)(hv:σ[i]?=ae (ae (.ref a)))(e4:C.H0 a=ah)(hy:WRel H (λb=>B b/\b≠a) C.t (.ref a) y)(hl:y.lent=aj):Rel C H (λb=>B b/\b≠a) σ (δ.set i (ae (.w y))) n:=by
 have less:∀b,(B b/\b≠a)->B b:=λb z=>z.1;exact{
  tp:=R.tp,kp:=R.kp,t0:=R.t0,l0:=R.l0,g0:=R.g0
  fz:=λb o e=>⟨(R.fz b o e).1,λz=>(R.fz b o e).2 z.1⟩
  bt:=⟨R.bt,λz=>R.t0 (z▸e4)⟩
  b0:=λb z=>⟨R.b0 b z,λq=>R.a0 b z (q▸e4)⟩
  ba:=λb z=>R.ba b z.1
  a0:=R.a0
  sl:=λj y' e=>by
   rcases gP e with⟨rfl,rfl⟩|⟨ne,e'⟩
   ·exact⟨_,hv,hy,λz=>by rw[hl]at z;cases z⟩
   ·obtain⟨u,f1,f2⟩:=R.sl j y' e';refine⟨u,f1,?_⟩;cases y' with
    |w y=>exact⟨f2.1.less less,f2.2⟩
    |own ds'=>
     obtain⟨a',xs',g1,g2,g3,g4,g5,g6⟩:=f2;refine⟨a',xs',g1,g2,⟨g3,λz=>?_⟩,g4,g5,g6.less less⟩;exact ne (R.ow j i _ _ _ e' hi rfl ox f1 (by rw[hv,g1,z]))
    |odk ds'=>
     obtain⟨a',xs',g1,g2,g3,g4,g5,g6⟩:=f2;refine⟨a',xs',g1,g2,⟨g3,λz=>?_⟩,g4,g5,g6.move λb o e n=>⟨e,λz=>n z.1⟩⟩;exact ne (R.ow j i _ _ _ e' hi rfl ox f1 (by rw[hv,g1,z]))
    |odt ds'=>
     obtain⟨a',xs',g1,g2,g3,g4,g5,g6⟩:=f2;refine⟨a',xs',g1,g2,⟨g3,λz=>?_⟩,g4,g5,g6.move λb o e n=>⟨e,λz=>n z.1⟩⟩;exact ne (R.ow j i _ _ _ e' hi rfl ox f1 (by rw[hv,g1,z]))
  ow:=λj k y z u e1 e2 o1 o2 f1 f2=>by
   rcases gP e1 with⟨rfl,rfl⟩|⟨ne1,e1'⟩
   ·cases o1
   ·rcases gP e2 with⟨rfl,rfl⟩|⟨ne2,e2'⟩
    ·cases o2
    ·exact R.ow j k y z u e1' e2' o1 o2 f1 f2
  len:=by rw[B4];exact R.len}
theorem Rel.frz{C:Ctx}{H:Hp}{B:Addr->Prop}{σ:St}{δ:Sl}{n:Int}{i:Nat}{ds:List Aa}(R:Rel C H B σ δ n)(hi:δ[i]?=ae (ae (.own ds))):∃B',Rel C H B' σ (δ.set i (ae (.w (.d (.list ds))))) n:=by
 obtain⟨v,hv,a,xs,rfl,e2,e3,e4,e5,e6⟩:=R.sl i _ hi;exact⟨_,R.give hi rfl hv e4 (show RdX H _ (.ref a) (.list ds)from .lst e2 (λz=>z.2 rfl) e5 (e6.less λb z=>z.1)) rfl⟩
theorem Rel.frzK{C:Ctx}{H:Hp}{B:Addr->Prop}{σ:St}{δ:Sl}{n:Int}{i:Nat}{m:List (aN×Aa)}(R:Rel C H B σ δ n)(hi:δ[i]?=ae (ae (.odk m))):∃B',Rel C H B' σ (δ.set i (ae (.w (.ob (.k m))))) n:=by
 obtain⟨v,hv,a,xs,rfl,e2,e3,e4,e5,e6⟩:=R.sl i _ hi;exact⟨_,R.give hi rfl hv e4 ⟨a,xs,rfl,e2,λz=>z.2 rfl,e6.move λb o e n=>⟨e,λz=>n z.1⟩⟩ rfl⟩
abbrev DQ:=Wv->Int->Prop
abbrev DT:=Sl->Int->DQ->Prop
abbrev c8:=Sl->Int->(Bool->Int->Prop)->Prop
abbrev fc:=Sl->Int->(List Wv->Int->Prop)->Prop
inductive ARel(H:Hp)(B:Addr->Prop)(t:Addr):List V->List Wv->Prop
 |nil:ARel H B t [] []
 |cons {v:V} {vs:List V} {x:Wv} {xs:List Wv}:WRel H B t v x->ARel H B t vs xs->ARel H B t (v::vs) (x::xs)
theorem ARel.kp{H H':Hp}{B:Addr->Prop}{t:Addr}(k:Kp t H H')(ht:B t):∀{vs:List V}{xs:List Wv},ARel H B t vs xs->ARel H' B t vs xs
 |_,_,.nil=>.nil
 |_,_,.cons a b=>.cons (a.kp k ht) (ARel.kp k ht b)
theorem ARel.len{H:Hp}{B:Addr->Prop}{t:Addr}:∀{vs:List V}{xs:List Wv},ARel H B t vs xs->vs.length=xs.length
 |_,_,.nil=>rfl
 |_,_,.cons _ b=>by rw[An,An,ARel.len b]
def eS(t:TE)(w:DT):Prop:=∀(C:Ctx)(H:Hp)(B:Addr->Prop)(σ:St)(δ:Sl)(n:Int)(Q:DQ)(Q':VK),Rel C H B σ δ n->w δ n Q->
 (∀v x H' n',Rel C H' B σ δ n'->Kp C.t H H'->WRel H' B C.t v x->Q x n'->Q' v H')->t σ H Q'
def ke(t:TT)(w:c8):Prop:=∀(C:Ctx)(H:Hp)(B:Addr->Prop)(σ:St)(δ:Sl)(n:Int)(Q:Bool->Int->Prop)(Q':Bool->Hp->Prop),Rel C H B σ δ n->w δ n Q->
 (∀b H' n',Rel C H' B σ δ n'->Kp C.t H H'->Q b n'->Q' b H')->t σ H Q'
def jU(t:TA)(w:fc):Prop:=∀(C:Ctx)(H:Hp)(B:Addr->Prop)(σ:St)(δ:Sl)(n:Int)(Q:List Wv->Int->Prop)(Q':List V->Hp->Prop),Rel C H B σ δ n->w δ n Q->
 (∀vs xs H' n',Rel C H' B σ δ n'->Kp C.t H H'->ARel H' B C.t vs xs->Q xs n'->Q' vs H')->t σ H Q'
abbrev fX:=Sl->Int->(List Aa->Int->Prop)->Prop
def jQ(t:TE)(w:fX):Prop:=∀(C:Ctx)(H:Hp)(B:Addr->Prop)(σ:St)(δ:Sl)(n:Int)(Q:List Aa->Int->Prop)(Q':VK),Rel C H B σ δ n->w δ n Q->
 (∀a xs ds H' n',Rel C H' B σ δ n'->Kp C.t H H'->H a=ah->H' a=ae (.lst xs)->xs.length<=Ay->RdXs H' (λb=>B b\/b=a) xs ds->Q ds n'->Q' (.ref a) H')->t σ H Q'
structure DE(X:Cx)(e:Expr)(t:TE)(w:DT):Prop where
 pe:PE X e t
 sd:eS t w
structure DC(X:Cx)(e:Expr)(t:TT)(w:c8):Prop where
 pt:PT X e t
 sd:ke t w
structure DCW(X:Cx)(e:Expr)(t:TT)(w:c8):Prop where
 pw:PW X e t
 sd:ke t w
structure DA(X:Cx)(es:List Expr)(t:TA)(w:fc):Prop where
 pa:PA X es t
 sd:jU t w
structure DF(X:Cx)(e:Expr)(t:TE)(w:fX):Prop where
 pe:PE X e t
 sd:jQ t w
variable{X:Cx}{a b c e:Expr}{ta tb tc te:TE}{wa wb wc we:DT}{pos:Pos}
def ak(i:Nat):DT:=λδ n Q=>match δ[i]? with
 |some (ae (.w x))=>Q x n
 |_=>False
theorem Oz(i:Nat){x:Str}{p:Pos}(hN:X.N[i]?=ae x:=by rfl)(hv:gh X.env.scope x:=by first|exact Cp rfl|exact Bz (Cp rfl)|exact Bz (Bz rfl))(hd:(x==("__debug__":Str))=aj:=by decide)
  (hcd:(x==("__classdict__":Str))=aj:=by decide):DE X (.Name x p) (cW i) (ak i):=⟨gT hN hv hd hcd,λC H B σ δ n Q Q' R h k=>by
 unfold ak at h
 split at h
 ·rename_i x e;obtain⟨v,h1,h2⟩:=R.sl i _ e;exact⟨v,h1,k v x H n R (Kp.refl _ _) h2.1 h⟩
 ·exact h.elim⟩
def wC(d:Aa):DT:=λ_ n Q=>Q (.d d) n
theorem n8{v:V}{d:Aa}(h:∀H B,RdX H B v d):eS (tC v) (wC d):=λC H B σ δ n Q Q' R q k=>k v (.d d) H n R (Kp.refl _ _) (h H B) q
theorem Md{i j p}:DE X (.Constant (.int i) j p) (tC (.int i)) (wC (.int i)):=⟨de,n8 λ_ _=>.int i⟩
theorem uk{i j p}:DE X (.Constant (.bool i) j p) (tC (.bl i)) (wC (.bool i)):=⟨Mu,n8 λ_ _=>.bl i⟩
theorem ML{j p}:DE X (.Constant .none j p) (tC .non) (wC .none):=⟨sE,n8 λ_ _=>.non⟩
theorem NT{x j p}(h:Str.length x<=Ay:=by decide +kernel):DE X (.Constant (.str x) j p) (tC (.str x)) (wC (.str x)):=⟨Nv,n8 λ_ _=>.str x h⟩
theorem Kg{x:Str}{i:Int}{tk:Tok}{p:Pos}(hg:Gl X x)(hm:X.mg x=ae (.int i tk))(hd:(x==("__debug__":Str))=aj:=by decide):DE X (.Name x p) (tC (.int i)) (wC (.int i)):=⟨pZ hg hm ⟨tk,rfl⟩ hd,n8 λ_ _=>.int i⟩
def w2(wa wb:DT)(g:Wv->Wv->Int->DQ->Prop):DT:=λδ n Q=>wa δ n λx n1=>wb δ n1 λy n2=>g x y n2 Q
def bH(r:R2)(g:Wv->Wv->Int->DQ->Prop):Prop:=∀(C:Ctx)(H:Hp)(B:Addr->Prop)(σ:St)(δ:Sl)(n:Int)(x y:V)(p q:Wv)(Q:DQ)(Q':VK),Rel C H B σ δ n->WRel H B C.t x p->WRel H B C.t y q->g p q n Q->
 (∀v x H' n',Rel C H' B σ δ n'->Kp C.t H H'->WRel H' B C.t v x->Q x n'->Q' v H')->r x y H Q'
theorem nL{r:R2}{g:Wv->Wv->Int->DQ->Prop}(hr:bH r g)(ha:eS ta wa)(hb:eS tb wb):eS (dR r ta tb) (w2 wa wb g):=λC H B σ δ n Q Q' R h k=>
 ha C H B σ δ n _ _ R h λv x H1 n1 R1 k1 r1 q1=>hb C H1 B σ δ n1 _ _ R1 q1 λu y H2 n2 R2 k2 r2 q2=>
  hr C H2 B σ δ n2 v u x y Q Q' R2 (r1.kp k2 R1.bt) r2 q2 λz p H3 n3 R3 k3 r3 q3=>k z p H3 n3 R3 ((k1.trans k2).trans k3) r3 q3
theorem ig{op:Operator}{r:R2}{g:Wv->Wv->Int->DQ->Prop}(ho:OpR X (Ed op) r)(hr:bH r g)(ha:DE X a ta wa)(hb:DE X b tb wb):DE X (.BinOp a op b pos) (dR r ta tb) (w2 wa wb g):=
 ⟨eV ho ha.pe hb.pe,nL hr ha.sd hb.sd⟩
theorem mr{op:CmpOp}{r:R2}{g:Wv->Wv->Int->DQ->Prop}(ho:OpR X (Bs op) r)(hr:bH r g)(ha:DE X a ta wa)(hb:DE X b tb wb)(hm:B9 op b=aj):DE X (.Compare a [op] [b] pos) (dR r ta tb) (w2 wa wb g):=
 ⟨Lx ho ha.pe hb.pe hm,nL hr ha.sd hb.sd⟩
def cT(w:DT):c8:=λδ n Q=>w δ n λx n'=>match x with
 |.d (.bool k)=>Q k n'
 |_=>False
theorem wd{H:Hp}{B:Addr->Prop}{t:Addr}{v:V}{d:Aa}(h:RdX H B v d):WRel H B t v (.d d):=h
theorem lZ{t:TE}{w:DT}(h:eS t w):ke (j1 t) (cT w):=λC H B σ δ n Q Q' R q k=>
 h C H B σ δ n _ _ R q λv x H' n' R' k' r' q'=>by
  split at q'
  ·rename_i b;cases(show RdX H' B v (.bool b)from r');exact⟨b,rfl,k b H' n' R' k' q'⟩
  ·exact q'.elim
theorem gR{op:CmpOp}{r:R2}{g:Wv->Wv->Int->DQ->Prop}(ho:OpR X (Bs op) r)(hr:bH r g)(ha:DE X a ta wa)(hb:DE X b tb wb)(hm:B9 op b=aj):DC X (.Compare a [op] [b] pos) (j1 (dR r ta tb)) (cT (w2 wa wb g)):=
 ⟨kd ho ha.pe hb.pe hm,lZ (nL hr ha.sd hb.sd)⟩
theorem NA{t:TE}{w:DT}(h:DE X e t w)(he:∀whole,isTrue e X.env whole=(do let v <-whole;standAt e.pos;Fl [v] (truthy v)):=by intro _;rfl):DC X e (j1 t) (cT w):=⟨IC h.pe he,lZ h.sd⟩
def iw(x:Wv)(A B:Prop):Prop:=match x with
 |.d (.bool ai)=>A
 |.d (.bool aj)=>B
 |_=>False
theorem yV(b:Bool)(A B:Prop):iw (.d (.bool b)) A B=if b=ai then A else B:=by cases b<;>simp[iw]
def lr(g g':Wv->Wv->Int->DQ->Prop)(wa wb wc:DT):DT:=λδ n Q=>wa δ n λx n1=>wb δ n1 λy n2=>g x y n2 λz n3=>iw z (wc δ n3 λu n4=>g' y u n4 Q) (Q (.d (.bool aj)) n3)
theorem Tr{r r':R2}{g g':Wv->Wv->Int->DQ->Prop}(hr:bH r g)(hr':bH r' g')(ha:eS ta wa)(hb:eS tb wb)(hc:eS tc wc):eS (vo r r' ta tb tc) (lr g g' wa wb wc):=λC H B σ δ n Q Q' R h k=>
 ha C H B σ δ n _ _ R h λv x H1 n1 R1 k1 r1 q1=>hb C H1 B σ δ n1 _ _ R1 q1 λu y H2 n2 R2 k2 r2 q2=>
  hr C H2 B σ δ n2 v u x y _ _ R2 (r1.kp k2 R1.bt) r2 q2 λz p H3 n3 R3 k3 r3 q3=>by
   have k13:=(k1.trans k2).trans k3;unfold iw at q3
   split at q3
   ·cases(show RdX H3 B z (.bool ai)from r3);refine⟨ai,rfl,?_⟩;rw[if_pos rfl];exact hc C H3 B σ δ n3 _ _ R3 q3 λw0 x0 H4 n4 R4 k4 r4 q4=>hr' C H4 B σ δ n4 u w0 y x0 Q Q' R4 ((r2.kp k3 R2.bt).kp k4 R3.bt) r4 q4 λz p H5 n5 R5 k5 r5 q5=>k z p H5 n5 R5 ((k13.trans k4).trans k5) r5 q5
   ·cases(show RdX H3 B z (.bool aj)from r3);refine⟨aj,rfl,?_⟩;rw[if_neg Ae];exact k _ _ H3 n3 R3 k13 (wd (.bl aj)) q3
   ·exact q3.elim
theorem SO{op op':CmpOp}{r r':R2}{g g':Wv->Wv->Int->DQ->Prop}(ho:OpR X (Bs op) r)(hr:bH r g)(ho':OpR X (Bs op') r')(hr':bH r' g')(ha:DE X a ta wa)(hb:DE X b tb wb)(hc:DE X c tc wc)
  (hm:lastMarks [op,op'] [b,c]=aj:=by with_unfolding_all rfl):DE X (.Compare a [op,op'] [b,c] pos) (vo r r' ta tb tc) (lr g g' wa wb wc):=⟨PU ho ho' ha.pe hb.pe hc.pe hm,Tr hr hr' ha.sd hb.sd hc.sd⟩
variable{tA tB':TT}{cA cB:c8}{aQ:List Expr}
def dz(u v:c8):c8:=λδ n Q=>u δ n λb n1=>if b=ai then v δ n1 Q else Q aj n1
def gg(u v:c8):c8:=λδ n Q=>u δ n λb n1=>if b=ai then Q ai n1 else v δ n1 Q
def bB(u:c8):c8:=λδ n Q=>u δ n λb n1=>Q (!b) n1
theorem cw_and1(h:DC X a tA cA):DCW X (.BoolOp .And [a] pos) tA cA:=⟨Gw h.pt,h.sd⟩
theorem cw_or1(h:DC X a tA cA):DCW X (.BoolOp .Or [a] pos) tA cA:=⟨IE h.pt,h.sd⟩
theorem cw_and(h:DC X a tA cA)(h2:DCW X (.BoolOp .And (b::aQ) pos) tB' cB):DCW X (.BoolOp .And (a::b::aQ) pos) (oN tA tB') (dz cA cB):=⟨yo h.pt h2.pw,λC H B σ δ n Q Q' R q k=>
 h.sd C H B σ δ n _ _ R q λb H1 n1 R1 k1 q1=>by
  cases b with
  |true=>
   rw[if_pos rfl]at q1 ⊢;exact h2.sd C H1 B σ δ n1 _ _ R1 q1 λb H2 n2 R2 k2 q2=>k b H2 n2 R2 (k1.trans k2) q2
  |false=>
   rw[if_neg Ae]at q1 ⊢;exact k aj H1 n1 R1 k1 q1⟩
theorem cw_or(h:DC X a tA cA)(h2:DCW X (.BoolOp .Or (b::aQ) pos) tB' cB):DCW X (.BoolOp .Or (a::b::aQ) pos) (HG tA tB') (gg cA cB):=⟨LH h.pt h2.pw,λC H B σ δ n Q Q' R q k=>
 h.sd C H B σ δ n _ _ R q λb H1 n1 R1 k1 q1=>by
  cases b with
  |true=>
   rw[if_pos rfl]at q1 ⊢;exact k ai H1 n1 R1 k1 q1
  |false=>
   rw[if_neg Ae]at q1 ⊢;exact h2.sd C H1 B σ δ n1 _ _ R1 q1 λb H2 n2 R2 k2 q2=>k b H2 n2 R2 (k1.trans k2) q2⟩
theorem DCW.cc(h:DCW X a tA cA):DC X a tA cA:=⟨h.pw.pt,h.sd⟩
theorem N8(h:DC X a tA cA):DC X (.UnaryOp .Not a pos) (om tA) (bB cA):=⟨Q5 h.pt,λC H B σ δ n Q Q' R q k=>h.sd C H B σ δ n _ _ R q λb H1 n1 R1 k1 q1=>k (!b) H1 n1 R1 k1 q1⟩
def eE(u v:DT):DT:=λδ n Q=>u δ n λx n1=>iw x (v δ n1 Q) (Q (.d (.bool aj)) n1)
def sA(u v:DT):DT:=λδ n Q=>u δ n λx n1=>iw x (Q (.d (.bool ai)) n1) (v δ n1 Q)
def l9(u:DT):DT:=λδ n Q=>u δ n λx n1=>match x with
 |.d (.bool b)=>Q (.d (.bool !b)) n1
 |_=>False
theorem Pu{op}(h:DE X a ta wa):DE X (.BoolOp op [a] pos) ta wa:=⟨KL h.pe,h.sd⟩
theorem LY(h:DE X a ta wa)(h2:DE X (.BoolOp .And (b::aQ) pos) tb wb):DE X (.BoolOp .And (a::b::aQ) pos) (CD ta tb) (eE wa wb):=⟨Me h.pe h2.pe,λC H B σ δ n Q Q' R q k=>
 h.sd C H B σ δ n _ _ R q λv x H1 n1 R1 k1 r1 q1=>by
  unfold iw at q1
  split at q1
  ·cases(show RdX H1 B v (.bool ai)from r1);refine⟨ai,rfl,?_⟩;rw[if_pos rfl];exact h2.sd C H1 B σ δ n1 _ _ R1 q1 λv x H2 n2 R2 k2 r2 q2=>k v x H2 n2 R2 (k1.trans k2) r2 q2
  ·cases(show RdX H1 B v (.bool aj)from r1);refine⟨aj,rfl,?_⟩;rw[if_neg Ae];exact k _ _ H1 n1 R1 k1 (wd (.bl aj)) q1
  ·exact q1.elim⟩
theorem uB(h:DE X a ta wa)(h2:DE X (.BoolOp .Or (b::aQ) pos) tb wb):DE X (.BoolOp .Or (a::b::aQ) pos) (oW ta tb) (sA wa wb):=⟨PF h.pe h2.pe,λC H B σ δ n Q Q' R q k=>
 h.sd C H B σ δ n _ _ R q λv x H1 n1 R1 k1 r1 q1=>by
  unfold iw at q1
  split at q1
  ·cases(show RdX H1 B v (.bool ai)from r1);refine⟨ai,rfl,?_⟩;rw[if_pos rfl];exact k _ _ H1 n1 R1 k1 (wd (.bl ai)) q1
  ·cases(show RdX H1 B v (.bool aj)from r1);refine⟨aj,rfl,?_⟩;rw[if_neg Ae];exact h2.sd C H1 B σ δ n1 _ _ R1 q1 λv x H2 n2 R2 k2 r2 q2=>k v x H2 n2 R2 (k1.trans k2) r2 q2
  ·exact q1.elim⟩
theorem Rt(h:DE X a ta wa):DE X (.UnaryOp .Not a pos) (GX ta) (l9 wa):=⟨RQ h.pe,λC H B σ δ n Q Q' R q k=>
 h.sd C H B σ δ n _ _ R q λv x H1 n1 R1 k1 r1 q1=>by
  split at q1
  ·rename_i b;cases(show RdX H1 B v (.bool b)from r1);exact⟨b,rfl,k _ _ H1 n1 R1 k1 (wd (.bl _)) q1⟩
  ·exact q1.elim⟩
def eO(u:c8)(v w:DT):DT:=λδ n Q=>u δ n λb n1=>if b=ai then v δ n1 Q else w δ n1 Q
theorem SY(h:DC X c tA cA)(h1:DE X a ta wa)(h2:DE X b tb wb):DE X (.IfExp c a b pos) (xU tA ta tb) (eO cA wa wb):=⟨OV h.pt h1.pe h2.pe,λC H B σ δ n Q Q' R q k=>
 h.sd C H B σ δ n _ _ R q λb H1 n1 R1 k1 q1=>by
  cases b with
  |true=>
   rw[if_pos rfl]at q1 ⊢;exact h1.sd C H1 B σ δ n1 _ _ R1 q1 λv x H2 n2 R2 k2 r2 q2=>k v x H2 n2 R2 (k1.trans k2) r2 q2
  |false=>
   rw[if_neg Ae]at q1 ⊢;exact h2.sd C H1 B σ δ n1 _ _ R1 q1 λv x H2 n2 R2 k2 r2 q2=>k v x H2 n2 R2 (k1.trans k2) r2 q2⟩
variable{es:List Expr}{tR:TA}{wR:fc}
def ao:fc:=λ_ n Q=>Q [] n
def aq(w:DT)(r:fc):fc:=λδ n Q=>w δ n λx n1=>r δ n1 λxs n2=>Q (x::xs) n2
theorem Sr:DA X [] cy ao:=⟨eR,λC H B σ δ n Q Q' R q k=>k [] [] H n R (Kp.refl _ _) .nil q⟩
theorem Nc(h:DE X e te we)(hr:DA X es tR wR)(hs:Aw (e::es) X.env=(aj,eval e X.env)::Aw es X.env:=by rfl):DA X (e::es) (dI te tR) (aq we wR):=⟨c6 h.pe hr.pa hs,λC H B σ δ n Q Q' R q k=>
 h.sd C H B σ δ n _ _ R q λv x H1 n1 R1 k1 r1 q1=>hr.sd C H1 B σ δ n1 _ _ R1 q1 λvs xs H2 n2 R2 k2 r2 q2=>k (v::vs) (x::xs) H2 n2 R2 (k1.trans k2) (.cons (r1.kp k2 R1.bt) r2) q2⟩
def ik:List Wv->Option (List Aa)
 |[]=>ae []
 |.d x::r=>(ik r).map (x::·)
 |_::_=>ah
theorem ARel.plain{H:Hp}{B:Addr->Prop}{t:Addr}:∀{vs:List V}{xs:List Wv}{ds:List Aa},ARel H B t vs xs->ik xs=ae ds->RdXs H B vs ds
 |_,_,_,.nil,h=>by
  cases h;exact .nil
 |_,_,ds,.cons (x:=x) (xs:=xs) a b,h=>by
  cases x with
  |d x=>
   have h':(ik xs).map (x::·)=ae ds:=h;cases e:ik xs with
   |none=>rw[e]at h';cases h'
   |some es=>
    rw[e]at h';cases h';exact .cons a (ARel.plain b e)
  |tp=>cases h
  |dk _=>cases h
  |ln _=>cases h
  |ob _=>cases h
theorem RdXs.fresh{H:Hp}{B:Addr->Prop}{vs:List V}{ds:List Aa}{p:Addr}{o:HO}(h:RdXs H B vs ds)(hp:H p=ah):RdXs (upd H p o) (λb=>B b\/b=p) vs ds:=
 h.move λb o' e n=>⟨by rw[a9 (cP e hp)];exact e,λz=>z.elim n λq=>cP e hp q⟩
def aw(w:fc):DT:=λδ n Q=>w δ n λxs n1=>match ik xs with
 |some ds=>ds.length<=1000/\Q (.d (.tuple ds)) n1
 |none=>False
theorem LC{x1}(h:DA X es tR wR):DE X (.Tuple es x1 pos) (j2 tR) (aw wR):=⟨uV h.pa,λC H B σ δ n Q Q' R q k=>
 h.sd C H B σ δ n _ _ R q λvs xs H1 n1 R1 k1 r1 q1=>by
  split at q1
  ·rename_i ds e;have r:=r1.plain e;have hl:vs.length<=Ay:=by rw[r.len];exact small q1.1
   refine⟨hl,λp hp=>k _ _ _ n1 (R1.new hp) (k1.trans (Kp.new hp)) (wd (show RdX _ B (.ref p) (.tuple ds)from ?_)) q1.2⟩;exact .tup bQ (R1.nb hp) hl ((r.fresh hp).less λb z=>.inl z)
  ·exact q1.elim⟩
def aH(w:fc):fX:=λδ n Q=>w δ n λxs n1=>match ik xs with
 |some ds=>ds.length<=1000/\Q ds n1
 |none=>False
theorem P3(h:DA X es tR wR):DF X (.List es pos) (p6 tR) (aH wR):=⟨v3 h.pa,λC H B σ δ n Q Q' R q k=>
 h.sd C H B σ δ n _ _ R q λvs xs H1 n1 R1 k1 r1 q1=>by
  split at q1
  ·rename_i ds e;have r:=r1.plain e;have hl:vs.length<=Ay:=by rw[r.len];exact small q1.1
   have hn:∀p,H1 p=ah->H p=ah:=λp hp=>by
    cases q:H p with
    |none=>rfl
    |some o=>
     by_cases z:p=C.t
     ·subst z;obtain⟨_,_,h,_⟩:=R1.tp.ob;rw[h]at hp;cases hp
     ·rw[k1 p o q z]at hp;cases hp
   exact⟨hl,λp hp=>k p vs ds _ n1 (R1.new hp) (k1.trans (Kp.new hp)) (hn p hp) bQ hl (r.fresh hp) q1.2⟩
  ·exact q1.elim⟩
def aW(w:fX):DT:=λδ n Q=>w δ n λds n1=>Q (.d (.list ds)) n1
theorem NB{t:TE}{w:fX}(h:jQ t w):eS t (aW w):=λC H B σ δ n Q Q' R q k=>
 h C H B σ δ n _ _ R q λa xs ds H' n' R' k' h0 h1 h2 h3 q'=>k _ _ H' n' R' k' (wd (show RdX H' B (.ref a) (.list ds)from .lst h1 (R.nb h0) h2 (h3.less λb z=>.inl z))) q'
theorem DF.d{w:fX}{t:TE}(h:DF X e t w):DE X e t (aW w):=⟨h.pe,NB h.sd⟩
theorem Rel.was{C:Ctx}{H H1:Hp}{B:Addr->Prop}{σ:St}{δ:Sl}{n1:Int}(R1:Rel C H1 B σ δ n1)(k1:Kp C.t H H1){p:Addr}(hp:H1 p=ah):H p=ah:=by
 cases q:H p with
 |none=>rfl
 |some o=>
  by_cases z:p=C.t
  ·subst z;obtain⟨_,_,h,_⟩:=R1.tp.ob;rw[h]at hp;cases hp
  ·rw[k1 p o q z]at hp;cases hp
abbrev bu:=List Wv->Int->DQ->Prop
def fR(S:bu):Sp:=λvs H Q _=>∃(t:Addr)(l:TL)(ns:List Int)(B:Addr->Prop)(ws:List Wv)(n:Int)(Q0:DQ),Tp H t l ns n/\B t/\(∀b,B b->H b≠ah)/\ARel H B t vs ws/\S ws n Q0 /\
 ∀w n',Q0 w n'->∀v H',Tp H' t l ns n'->Kp t H H'->WRel H' B t v w->Q v H'
section
variable{X:Cx}{e:Expr}{es:List Expr}{pos p:Pos}{tR:TA}{wR:fc}
def aF(S:bu)(w:fc):DT:=λδ n Q=>w δ n λxs n1=>S xs n1 Q
theorem J8{S:bu}{t:TA}{w:fc}(h:jU t w):eS (jA (fR S) [] E0 t) (aF S w):=λC H B σ δ n Q Q' R q k=>
 h C H B σ δ n _ _ R q λvs xs H1 n1 R1 k1 r1 q1=>by
  refine⟨C.t,C.l,C.ns,B,xs,n1,Q,R1.tp,R1.bt,R1.ba,by rw[Bt];exact r1,q1,λw n' q2 v H' T' k' r'=>?_⟩;exact k v w H' n' (R1.step T' k') (k1.trans k') r' q2
theorem NZ{k:Nat}{f:Addr}{fd:Cm}{ps:List Str}{S:bu}{x:Str}(F:FnOk X.prog X.w X.K X.mg X.base dO k f fd ps (fR S))(hr:Room k X.A)(hg:Gl X x)(hm:X.mg x=ae (.ref f))(hk:Co X.K (.ref f)=ai)(hb:Binds X.K fd ps [])
  (ha:DA X (e::es) tR wR) (hdb:(x==("__debug__":Str))=aj:=by decide) (he:Aw (e::es) X.env=(aj,eval e X.env)::Aw es X.env:=by rfl) (hpl:(C5 pos (Aw es X.env)).any (·.1)=aj:=by rfl):
  DE X (.Call (.Name x p) (e::es) [] pos) (jA (fR S) [] E0 tR) (aF S wR):=⟨uc F hr hg hm hk hb .nil uJ ha.pa hdb he hpl,J8 ha.sd⟩
def d7(r:List V->Hp->VK->Prop)(g:List Wv->Int->DQ->Prop):Prop:=∀(C:Ctx)(H:Hp)(B:Addr->Prop)(σ:St)(δ:Sl)(n:Int)(vs:List V)(xs:List Wv)(Q:DQ)(Q':VK),Rel C H B σ δ n->ARel H B C.t vs xs->g xs n Q->
 (∀v x H' n',Rel C H' B σ δ n'->Kp C.t H H'->WRel H' B C.t v x->Q x n'->Q' v H')->r vs H Q'
def wB(g:List Wv->Int->DQ->Prop)(w:fc):DT:=λδ n Q=>w δ n λxs n1=>g xs n1 Q
theorem CH{r:List V->Hp->VK->Prop}{g:List Wv->Int->DQ->Prop}{t:TA}{w:fc}(hr:d7 r g)(h:jU t w):eS (gB r t) (wB g w):=λC H B σ δ n Q Q' R q k=>
 h C H B σ δ n _ _ R q λvs xs H1 n1 R1 k1 r1 q1=>hr C H1 B σ δ n1 vs xs Q Q' R1 r1 q1 λv x H2 n2 R2 k2 r2 q2=>k v x H2 n2 R2 (k1.trans k2) r2 q2
theorem qV{id:String}{x:Str}{r:List V->Hp->VK->Prop}{g:List Wv->Int->DQ->Prop}(hc:CallR X (.builtin id) r)(hr:d7 r g)(hg:Gl X x)(hm:X.mg x=ah)(hv:By x=ae (.builtin id))(ha:DA X (e::es) tR wR)(hn:x≠"__name__":=by decide)(hdb:(x==("__debug__":Str))=aj:=by decide)
  (he:Aw (e::es) X.env=(aj,eval e X.env)::Aw es X.env:=by rfl) (hpl:(C5 pos (Aw es X.env)).any (·.1)=aj:=by rfl):DE X (.Call (.Name x p) (e::es) [] pos) (gB r tR) (wB g wR):=⟨ma hc hg hm hv ha.pa hn hdb he hpl,CH hr ha.sd⟩
theorem xJ{T:String}{x:Str}{r:List V->Hp->VK->Prop}{g:List Wv->Int->DQ->Prop}(hc:CallR X (.type T) r)(hr:d7 r g)(hg:Gl X x)(hm:X.mg x=ah)(hv:By x=ae (.type T))(ha:DA X (e::es) tR wR)(hn:x≠"__name__":=by decide)(hdb:(x==("__debug__":Str))=aj:=by decide)
  (he:Aw (e::es) X.env=(aj,eval e X.env)::Aw es X.env:=by rfl) (hpl:(C5 pos (Aw es X.env)).any (·.1)=aj:=by rfl):DE X (.Call (.Name x p) (e::es) [] pos) (gB r tR) (wB g wR):=⟨ml hc hg hm hv ha.pa hn hdb he hpl,CH hr ha.sd⟩
end
structure DEnds where
 nx:Sl->Int->Prop
 rt:DQ
 bk:Sl->Int->Prop:=λ_ _=>False
 ct:Sl->Int->Prop:=λ_ _=>False
 rn:List Aa->Int->Prop:=λ_ _=>False
abbrev aP:=Sl->Int->DEnds->Prop
structure EndsOk(C:Ctx)(K:DEnds)(D:Ends):Prop where
 nx:∀H B σ δ n,Rel C H B σ δ n->K.nx δ n->D.nx σ H
 rt:∀H B σ δ n v w,Rel C H B σ δ n->WRel H B C.t v w->K.rt w n->D.rt v H
 bk:∀H B σ δ n,Rel C H B σ δ n->K.bk δ n->D.bk σ H
 ct:∀H B σ δ n,Rel C H B σ δ n->K.ct δ n->D.ct σ H
 rn:∀H B σ δ n a xs ds,Rel C H B σ δ n->C.H0 a=ah->H a=ae (.lst xs)->xs.length<=Ay->RdXs H (λb=>B b\/b=a) xs ds->K.rn ds n->D.rt (.ref a) H
def j6(T:TS)(W:aP):Prop:=∀(C:Ctx)(H:Hp)(B:Addr->Prop)(σ:St)(δ:Sl)(n:Int)(K:DEnds)(D:Ends),Rel C H B σ δ n->W δ n K->EndsOk C K D->T D σ H
structure DS(X:Cx)(st:Stmt)(T:TS)(W:aP):Prop where
 ps:PS X st T
 sd:j6 T W
structure DSs(X:Cx)(st:List Stmt)(T:TS)(W:aP):Prop where
 ps:PSs X st T
 sd:j6 T W
section
variable{X:Cx}{st:Stmt}{aQ:List Stmt}{T U:TS}{W V':aP}{e:Expr}{te:TE}{we:DT}{pos:Pos}
def aM:aP:=λδ n K=>K.nx δ n
def av(W V:aP):aP:=λδ n K=>W δ n {K with nx:=λδ n=>V δ n K}
theorem IY:DSs X [] zj aM:=⟨sC,λC H B σ δ n K D R h E=>E.nx H B σ δ n R h⟩
theorem MB(h:DS X st T W)(h2:DSs X aQ U V'):DSs X (st::aQ) (oE T U) (av W V'):=⟨iO h.ps h2.ps,λC H B σ δ n K D R q E=>
 h.sd C H B σ δ n _ _ R q ⟨λH B σ δ n R q=>h2.sd C H B σ δ n K D R q E,E.rt,E.bk,E.ct,E.rn⟩⟩
theorem P7(h:DS X st T W):DSs X [st] T W:=⟨nz h.ps,h.sd⟩
def az(w:DT):aP:=λδ n K=>w δ n K.rt
theorem Nl(h:DE X e te we):DS X (.Return (ae e) pos) (lU te) (az we):=⟨m6 h.pe,λC H B σ δ n K D R q E=>
 h.sd C H B σ δ n _ _ R q λv x H' n' R' _ r' q'=>E.rt H' B σ δ n' v x R' r' q'⟩
def aL(c:c8)(W V:aP):aP:=λδ n K=>c δ n λb n1=>if b=ai then W δ n1 K else V δ n1 K
theorem uy{c:Expr}{a b:List Stmt}{tc:TT}{cc:c8}(hc:DC X c tc cc)(ha:DSs X a T W)(hb:DSs X b U V'):DS X (.If c a b pos) (ph tc T U) (aL cc W V'):=⟨qx hc.pt ha.ps hb.ps,λC H B σ δ n K D R q E=>
 hc.sd C H B σ δ n _ _ R q λb H1 n1 R1 _ q1=>by
  cases b with
  |true=>
   rw[if_pos rfl]at q1 ⊢;exact ha.sd C H1 B σ δ n1 K D R1 q1 E
  |false=>
   rw[if_neg Ae]at q1 ⊢;exact hb.sd C H1 B σ δ n1 K D R1 q1 E⟩
def aA(i:Nat)(w:DT):aP:=λδ n K=>w δ n λx n1=>match x with
 |.d d=>K.nx (δ.set i (ae (.w (.d d)))) n1
 |.tp=>K.nx (δ.set i (ae (.w .tp))) n1
 |.dk _=>False
 |.ln _=>False
 |.ob o=>K.nx (δ.set i (ae (.w (.ob o)))) n1
theorem Le{i:Nat}{x:Str}{pos':Pos}(hN:X.N.Nodup)(hi:X.N[i]?=ae x)(hx:jV X.env.scope x)(he:DE X e te we)(hs:Dt e (ae (.Name x pos')) pos.line X.env=pure aj:=by rfl)(hf:X.fn x=ai\/X.env.scope.names.lookup x=ae .local:=by first|exact .inl rfl|exact .inr rfl|assumption):
  DS X (.Assign [.Name x pos'] e pos) (dv te (ib i)) (aA i we):=⟨jz hN hi hx he.pe hs hf,λC H B σ δ n K D R q E=>
 he.sd C H B σ δ n _ _ R q λv x H1 n1 R1 _ r1 q1=>by
  cases x with
  |d d=>exact E.nx _ _ _ _ _ (R1.set r1 rfl) q1
  |tp=>exact E.nx _ _ _ _ _ (R1.set r1 rfl) q1
  |dk _=>exact q1.elim
  |ln _=>exact q1.elim
  |ob o=>exact E.nx _ _ _ _ _ (R1.set r1 rfl) q1⟩
def bz(i:Nat)(w:fX):aP:=λδ n K=>w δ n λds n1=>K.nx (δ.set i (ae (.own ds))) n1
theorem Rel.h0{C:Ctx}{H:Hp}{B:Addr->Prop}{σ:St}{δ:Sl}{n:Int}{a:Addr}(R:Rel C H B σ δ n)(h:H a=ah):C.H0 a=ah:=R.was R.kp h
theorem PJ{i:Nat}{x:Str}{pos':Pos}{w:fX}(hN:X.N.Nodup)(hi:X.N[i]?=ae x)(hx:jV X.env.scope x)(he:DF X e te w)(hs:Dt e (ae (.Name x pos')) pos.line X.env=pure aj:=by rfl)(hf:X.fn x=ai\/X.env.scope.names.lookup x=ae .local:=by first|exact .inl rfl|exact .inr rfl|assumption):
  DS X (.Assign [.Name x pos'] e pos) (dv te (ib i)) (bz i w):=⟨jz hN hi hx he.pe hs hf,λC H B σ δ n K D R q E=>
 he.sd C H B σ δ n _ _ R q λa xs ds H1 n1 R1 k1 h0 h1 h2 h3 q1=>by
  refine E.nx _ _ _ _ _ (R.own R1 k1 h0 (by rw[h1];exact λz=>nomatch z) rfl ?_) q1;exact⟨a,xs,rfl,h1,.inr rfl,R.h0 h0,h2,h3⟩⟩
def b9(i:Nat)(W:aP):aP:=λδ n K=>match δ[i]? with
 |some (ae (.own ds))=>W (δ.set i (ae (.w (.d (.list ds))))) n K
 |some (ae (.odk m))=>W (δ.set i (ae (.w (.ob (.k m))))) n K
 |_=>W δ n K
theorem IS(i:Nat){sts:List Stmt}(h:DSs X sts T W):DSs X sts T (b9 i W):=⟨h.ps,λC H B σ δ n K D R q E=>by
 unfold b9 at q
 split at q
 ·rename_i ds e;obtain⟨B',R'⟩:=R.frz e;exact h.sd C H B' σ _ n K D R' q E
 ·rename_i m e;obtain⟨B',R'⟩:=R.frzK e;exact h.sd C H B' σ _ n K D R' q E
 ·exact h.sd C H B σ δ n K D R q E⟩
def br(i:Nat)(w:DT):aP:=λδ n K=>match δ[i]? with
 |some (ae (.own ds))=>w δ n λx n1=>match x with
  |.d d=>ds.length < 1000000/\K.nx (δ.set i (ae (.own (ds++[d])))) n1
  |_=>False
 |_=>False
theorem Ia{n:Nat}(h:n < 1000000):n < Ay:=Nat.lt_trans h (by decide)
theorem K4{i:Nat}{x:Str}{xp ap cp:Pos}(hN:X.N[i]?=ae x)(he:DE X e te we)(hv:gh X.env.scope x:=by first|exact Cp rfl|exact Bz (Cp rfl)|exact Bz (Bz rfl))(hd:(x==("__debug__":Str))=aj:=by decide)
  (hcd:(x==("__classdict__":Str))=aj:=by decide)
  (hbase:F7 (.Name x xp) "append" X.env (eval (.Name x xp) X.env)=eval (.Name x xp) X.env:=by rfl)
  (hfew:((C5 cp (Aw [e] X.env)).all (λx=>!x.1)&&(backToKw cp (keywordEach [] X.env)).all (λx=>x.1.isSome)
   && decide ([e].length+([]:List Keyword).length+(if ([]:List Keyword).isEmpty then 0 else 1) < 30))=ai:=by rfl)
  (hline:(ap.endLine==cp.line)=ai:=by rfl) (hs:Aw [e] X.env=[(aj,eval e X.env)]:=by rfl) (hplain:(C5 cp (Aw [] X.env)).any (·.1)=aj:=by rfl)
  (hsw:Dt (.Call (.Attribute (.Name x xp) "append" ap) [e] [] cp) ah pos.line X.env=pure aj:=by rfl):
  DS X (.Expr (.Call (.Attribute (.Name x xp) "append" ap) [e] [] cp) pos) (qE (sF X.K "list" zM (cW i) (dI te cy))) (br i we):=
 ⟨t7 (vU Gf PySem.F.slot_list_append PySem.F.type_list_append uv (gT hN hv hd hcd) (c6 he.pe eR hs) hbase hfew hline hs hplain) hsw,λC H B σ δ n K D R q E=>by
  unfold br at q
  split at q
  ·rename_i ds ei;obtain⟨v,hv,a,xs,rfl,e2,e3,e4,e5,e6⟩:=R.sl i _ ei;refine⟨_,hv,.inl ⟨rfl,_,SqL.of e2⟩,he.sd C H B σ δ n _ _ R q λu y H1 n1 R1 k1 r1 q1=>?_⟩;cases y with
   |d d=>
    have hat:a≠C.t:=λz=>R.t0 (z▸e4);have e2':=k1 _ _ e2 hat;refine⟨a,xs,u,rfl,rfl,e2',Ia (by rw[e6.len];exact q1.1),?_⟩;refine E.nx _ _ _ _ _ (R1.mutOwn ei rfl hv e3 e4 ?_ rfl) q1.2;refine⟨a,xs++[u],rfl,bQ,e3,e4,?_,?_⟩
    ·rw[Af,e6.len];exact Ia q1.1
    ·refine RdXs.keep (λb o e n=>?_) ((e6.kp k1 R.bt).append (.cons r1 .nil));rw[a9 λ(z:b=a)=>n (z▸e3)];exact e
   |tp=>exact q1.elim
   |dk _=>exact q1.elim
   |ln _=>exact q1.elim
   |ob _=>exact q1.elim
  ·exact q.elim⟩
end
def bE(N:List Str)(ws:List Wv):Sl:=ws.map (λx=>ae (.w x))++C4 (N.length-ws.length) ah
theorem ARel.get{H:Hp}{B:Addr->Prop}{t:Addr}:∀{vs:List V}{xs:List Wv}{i:Nat}{x:Wv},ARel H B t vs xs->xs[i]?=ae x->∃v,vs[i]?=ae v/\WRel H B t v x
 |_,_,_,_,.nil,e=>by simp at e
 |_,_,0,_,.cons h _,e=>by
  simp at e;subst e;exact⟨_,rfl,h⟩
 |_,_,i+1,x,.cons _ r,e=>by
  obtain⟨v,h1,h2⟩:=ARel.get (i:=i) (x:=x) r (by simpa using e);exact⟨v,by simpa using h1,h2⟩
theorem FM{H:Hp}{t:Addr}{l:TL}{ns:List Int}{B:Addr->Prop}{vs:List V}{ws:List Wv}{n:Int}{N:List Str}(T:Tp H t l ns n)(bt:B t)(ba:∀b,B b->H b≠ah)(r:ARel H B t vs ws):Rel ⟨t,l,ns,H,B,λ_=>ah⟩ H B (L2.start N vs) (bE N ws) n where
 tp:=T
 kp:=Kp.refl _ _
 t0:=by
  obtain⟨_,_,h,_⟩:=T.ob;show H t≠ah;rw[h];exact λz=>nomatch z
 l0:=by
  show H l.s≠ah;rw[T.ls];exact λz=>nomatch z
 g0:=λe=>by
  show H l.g≠ah;rw[T.ag e];exact λz=>nomatch z
 fz:=λb o e=>nomatch e
 bt:=bt
 b0:=λ_ z=>z
 ba:=ba
 a0:=ba
 sl:=λi x e=>by
  have hl:=r.len;unfold bE at e;rw[List.getElem?_append]at e
  split at e
  ·rename_i hi;rw[Ab]at hi;rw[A1]at e;cases q:ws[i]? with
   |none=>rw[q]at e;cases e
   |some y=>
    rw[q]at e;cases e;obtain⟨v,h1,h2⟩:=r.get q;refine⟨v,?_,h2,λz=>?_⟩
    ·unfold L2.start;rw[C8 (by rw[Ab,hl];exact hi),A1,h1];rfl
    ·cases y with
     |d _=>cases z
     |tp=>cases z
     |dk _=>
      obtain⟨a,l',f1,f2,_⟩:=h2;exact⟨a,f1,by show H a≠ah;rw[f2];exact λz=>nomatch z⟩
     |ln _=>
      obtain⟨a,l',f1,f2,_⟩:=h2;exact⟨a,f1,by show H a≠ah;rw[f2];exact λz=>nomatch z⟩
     |ob _=>cases z
  ·rw[D6]at e
   split at e
   ·cases e
   ·cases e
 ow:=λi j x y v e1 e2 o1 o2 _ _=>by
  unfold bE at e1;rw[List.getElem?_append]at e1
  split at e1
  ·rw[A1]at e1;cases q:ws[i]? with
   |none=>rw[q]at e1;cases e1
   |some y=>
    rw[q]at e1;cases e1;cases o1
  ·rw[D6]at e1
   split at e1
   ·cases e1
   ·cases e1
 len:=by
  unfold L2.start bE;rw[Af,Af,Ab,Ab,List.length_replicate,List.length_replicate,r.len]
section
variable{P:Bf}{w:Bx}{K:Ag}{mg:Str->Option Aj}{base:Heap}
theorem Fun.okD{x qual:Str}{st:Stmt}{f:Addr}{fd:Cm}{N ps:List Str}{k:Nat}{S:bu}(F:Fun K x qual st f fd)(Sc:FnScope N ps (dB st))(len:∀ws n Q,S ws n Q->ws.length=ps.length)
  (hbody:∀(cdv:Aj)(A:Ce)(outer:List Env)(s:Ar)(H:Hp)(E:XK),Room k (A.deeper (Du qual (dB st) s.heap.objs.size f cdv))->
   ∃T W,DSs (eD dO P w K mg base N qual (dB st) f cdv A outer s H E).nox (gM st) T W/\∀ws n Q,S ws n Q->W (bE N ws) n {nx:=λ_ n=>Q (.d .none) n,rt:=Q}):FnOk P w K mg base dO (k+1) f fd ps (fR S):=by
 refine F.ok Sc (λvs H Q E h=>?_) (λcdv A outer s H vs Q E hr h=>?_)
 ·obtain⟨t,l,ns,B,ws,n,Q0,_,_,_,r,q,_⟩:=h;rw[r.len];exact len ws n Q0 q
 ·obtain⟨t,l,ns,B,ws,n,Q0,T,bt,ba,r,q,kk⟩:=h;obtain⟨T',W,d,hw⟩:=hbody cdv A outer s H E hr;refine⟨T',d.ps,d.sd ⟨t,l,ns,H,B,λ_=>ah⟩ H B _ _ n _ _ (FM T bt ba r) (hw ws n Q0 q) ⟨?_,?_,?_,?_,λ_ _ _ _ _ _ _ _ _ _ _ _ _ z=>z.elim⟩⟩
  ·exact λH' B' σ δ n' R' q'=>kk _ _ q' .non H' R'.tp R'.kp (show RdX H' B .non .none from .non)
  ·exact λH' B' σ δ n' v x R' r' q'=>kk _ _ q' v H' R'.tp R'.kp (r'.less R'.b0)
  ·exact λ_ _ _ _ _ _ z=>z.elim
  ·exact λ_ _ _ _ _ _ z=>z.elim
end
section
variable{X:Cx}{a b c e:Expr}{ta tb tc te:TE}{wa wb wc we:DT}{pos p:Pos}
def gI(Cd:Int->Int->Prop)(f:Int->Int->Aa):Wv->Wv->Int->DQ->Prop:=λx y n Q=>match x,y with
 |.d (.int i),.d (.int j)=>Cd i j/\Q (.d (f i j)) n
 |_,_=>False
theorem Pv{Cd:Int->Int->Prop}{g:Int->Int->V}{f:Int->Int->Aa}(h:∀i j H B,RdX H B (g i j) (f i j)):bH (rI Cd g) (gI Cd f):=λC H B σ δ n x y p q Q Q' R rx ry h1 k=>by
 unfold gI at h1
 split at h1
 ·rename_i i j;cases(show RdX H B x (.int i)from rx);cases(show RdX H B y (.int j)from ry);exact⟨i,j,rfl,rfl,h1.1,k _ _ H n R (Kp.refl _ _) (wd (h i j H B)) h1.2⟩
 ·exact h1.elim
def b7(f:Int->Int->Aa):Wv->Wv->Int->DQ->Prop:=λx y n Q=>match x,y with
 |.d (.int i),.d (.int j)=>Q (.d (f i j)) n
 |_,_=>False
theorem CB{g:Int->Int->V}{f:Int->Int->Aa}(h:∀i j H B,RdX H B (g i j) (f i j)):bH (gG g) (b7 f):=λC H B σ δ n x y p q Q Q' R rx ry h1 k=>by
 unfold b7 at h1
 split at h1
 ·rename_i i j;cases(show RdX H B x (.int i)from rx);cases(show RdX H B y (.int j)from ry);exact⟨i,j,rfl,rfl,k _ _ H n R (Kp.refl _ _) (wd (h i j H B)) h1⟩
 ·exact h1.elim
theorem MH(ha:DE X a ta wa)(hb:DE X b tb wb):DE X (.BinOp a .Sub b pos) (dR (gG λi j=>.int (i-j)) ta tb) (w2 wa wb (b7 λi j=>.int (i-j))):=ig R9 (CB λ_ _ _ _=>.int _) ha hb
theorem KC(ha:DE X a ta wa)(hb:DE X b tb wb):DE X (.BinOp a .Mod b pos) (dR (rI (λ_ j=>0 < j) λi j=>.int (i % j)) ta tb) (w2 wa wb (gI (λ_ j=>0 < j) λi j=>.int (i % j))):=ig kh (Pv λ_ _ _ _=>.int _) ha hb
def cj(w:DT):DT:=λδ n Q=>w δ n λx n1=>match x with
 |.d (.int i)=>Q (.d (.int (-i))) n1
 |_=>False
theorem OP(ha:DE X a ta wa):DE X (.UnaryOp .USub a pos) (xH (rU λi=>.int (-i)) ta) (cj wa):=⟨EA HA ha.pe,λC H B σ δ n Q Q' R q k=>ha.sd C H B σ δ n _ _ R q λv x H1 n1 R1 k1 r1 q1=>by
 split at q1
 ·rename_i i;cases(show RdX H1 B v (.int i)from r1);exact⟨i,rfl,k _ _ H1 n1 R1 k1 (wd (.int _)) q1⟩
 ·exact q1.elim⟩
def fk:Wv->Wv->Int->DQ->Prop:=λx y n Q=>match x,y with
 |.d (.int i),.d (.int j)=>Q (.d (.int (i+j))) n
 |.d (.str i),.d (.str j)=>i.length+j.length<=Ay/\Q (.d (.str (i++j))) n
 |.d (.tuple i),.d (.tuple j)=>(i≠[]\/j≠[])/\i.length+j.length<=Ay/\Q (.d (.tuple (i++j))) n
 |.d (.list i),.d (.list j)=>i.length+j.length<=Ay/\Q (.d (.list (i++j))) n
 |_,_=>False
def mz(K:Ag):R2:=λx y H Q=>(gG λi j=>.int (i+j)) x y H Q\/(∃i j,x=.str i/\y=.str j/\i.length+j.length<=Ay/\Q (.str (i++j)) H)\/DB K x y H Q\/HM K x y H Q\/iV x y H Q
theorem op_addA:OpR X (Ed .Add) (mz X.K):=
 op_add.or (op_add_str.or (op_catA.or (op_catT.or uQ)))
theorem S4(i j:Str):(i++j).length=i.length+j.length:=Array.size_append
theorem EJ{K:Ag}:bH (mz K) fk:=λC H B σ δ n x y p q Q Q' R rx ry h1 k=>by
 unfold fk at h1
 split at h1
 ·rename_i i j;cases(show RdX H B x (.int i)from rx);cases(show RdX H B y (.int j)from ry);exact .inl ⟨i,j,rfl,rfl,k _ _ H n R (Kp.refl _ _) (wd (.int _)) h1⟩
 ·rename_i i j;cases(show RdX H B x (.str i)from rx);cases(show RdX H B y (.str j)from ry);exact .inr (.inl ⟨i,j,rfl,rfl,h1.1,k _ _ H n R (Kp.refl _ _) (wd (show RdX H B _ (.str (i++j))from .str _ (by rw[S4];exact h1.1))) h1.2⟩)
 ·rename_i i j;cases(show RdX H B x (.tuple i)from rx)with
  |@tup ax xs _ e1 e2 e3 e4=>
   cases(show RdX H B y (.tuple j)from ry)with
   |@tup ay ys _ f1 f2 f3 f4=>
    obtain⟨ne,hl,q⟩:=h1;have hl':xs.length+ys.length<=Ay:=by rw[e4.len,f4.len];exact hl
    have new:∀pn,H pn=ah->Q' (.ref pn) (upd H pn (.tup (xs++ys))):=λpn hp=>by
     refine k _ _ _ n (R.new hp) (Kp.new hp) (wd (show RdX _ B _ (.tuple (i++j))from .tup bQ (R.nb hp) (by rw[Af];exact hl') ?_)) q;exact((e4.append f4).fresh hp).less λb z=>.inl z
    by_cases hy:ys=[]
    ·have hx:xs≠[]:=λz=>by
      subst hy z;cases e4;cases f4;exact ne.elim (λq=>q rfl) λq=>q rfl
     refine .inr (.inr (.inr (.inl ⟨ax,ay,xs,ys,rfl,rfl,SqT.of e1,SqT.of f1,hx,hl',λ_=>?_,λ_=>new⟩)));subst hy;cases f4;rw[Bt]at q;exact k _ _ H n R (Kp.refl _ _) (wd (show RdX H B _ (.tuple i)from .tup e1 e2 e3 e4)) q
    ·refine .inr (.inr (.inl ⟨ax,ay,xs,ys,rfl,rfl,SqT.of e1,SqT.of f1,hy,hl',λz=>?_,λ_=>new⟩));subst z;cases e4;exact k _ _ H n R (Kp.refl _ _) (wd (show RdX H B _ (.tuple j)from .tup f1 f2 f3 f4)) q
 ·rename_i i j;cases(show RdX H B x (.list i)from rx)with
  |@lst ax xs _ e1 e2 e3 e4=>
   cases(show RdX H B y (.list j)from ry)with
   |@lst ay ys _ f1 f2 f3 f4=>
    obtain⟨hl,q⟩:=h1;have hl':xs.length+ys.length<=Ay:=by rw[e4.len,f4.len];exact hl
    refine .inr (.inr (.inr (.inr ⟨ax,ay,xs,ys,rfl,rfl,e1,f1,hl',λpn hp=>?_⟩)));refine k _ _ _ n (R.new hp) (Kp.new hp) (wd (show RdX _ B _ (.list (i++j))from .lst bQ (R.nb hp) (by rw[Af];exact hl') ?_)) q;exact((e4.append f4).fresh hp).less λb z=>.inl z
 ·exact h1.elim
theorem OA(ha:DE X a ta wa)(hb:DE X b tb wb):DE X (.BinOp a .Add b pos) (dR (mz X.K) ta tb) (w2 wa wb fk):=ig op_addA EJ ha hb
def jv(f:Int->Int->Bool)(h:List Nat->List Nat->Bool):Wv->Wv->Int->DQ->Prop:=λx y n Q=>match x,y with
 |.d (.int i),.d (.int j)=>Q (.d (.bool (f i j))) n
 |.d (.str i),.d (.str j)=>Q (.d (.bool (h i.cps.toList j.cps.toList))) n
 |_,_=>False
theorem xx{f:Int->Int->Bool}{h:List Nat->List Nat->Bool}:bH (λx y H Q=>(gG λi j=>.bl (f i j)) x y H Q\/∃i j,x=.str i/\y=.str j/\Q (.bl (h i.cps.toList j.cps.toList)) H) (jv f h):=λC H B σ δ n x y p q Q Q' R rx ry h1 k=>by
 unfold jv at h1
 split at h1
 ·rename_i i j;cases(show RdX H B x (.int i)from rx);cases(show RdX H B y (.int j)from ry);exact .inl ⟨i,j,rfl,rfl,k _ _ H n R (Kp.refl _ _) (wd (.bl _)) h1⟩
 ·rename_i i j;cases(show RdX H B x (.str i)from rx);cases(show RdX H B y (.str j)from ry);exact .inr ⟨i,j,rfl,rfl,k _ _ H n R (Kp.refl _ _) (wd (.bl _)) h1⟩
 ·exact h1.elim
abbrev fY:=jv (λi j=>decide (i < j)) (λi j=>decide (i < j))
abbrev iz:=jv (λi j=>decide (i<=j)) (λi j=>!decide (j < i))
abbrev lA:=jv (λi j=>decide (j < i)) (λi j=>decide (j < i))
def pC:R2:=λx y H Q=>(gG λi j=>.bl (decide (i < j))) x y H Q\/∃i j,x=.str i/\y=.str j/\Q (.bl (decide (i.cps.toList < j.cps.toList))) H
theorem QO:OpR X (Bs .Lt) pC:=op_lt.or Q6
def pd:R2:=λx y H Q=>(gG λi j=>.bl (decide (i<=j))) x y H Q\/∃i j,x=.str i/\y=.str j/\Q (.bl (!decide (j.cps.toList < i.cps.toList))) H
theorem EH:OpR X (Bs .LtE) pd:=op_le.or QB
def p9:R2:=λx y H Q=>(gG λi j=>.bl (decide (j < i))) x y H Q\/∃i j,x=.str i/\y=.str j/\Q (.bl (decide (j.cps.toList < i.cps.toList))) H
theorem yU:OpR X (Bs .Gt) p9:=op_gt.or NN
theorem Qe:bH pC fY:=xx (f:=λi j=>decide (i < j)) (h:=λi j=>decide (i < j))
theorem AC:bH pd iz:=xx (f:=λi j=>decide (i<=j)) (h:=λi j=>!decide (j < i))
theorem yO:bH p9 lA:=xx (f:=λi j=>decide (j < i)) (h:=λi j=>decide (j < i))
def je:Aa->Aa->Option Bool
 |.none,.none=>ae ai
 |.none,.int _=>ae aj
 |.int _,.none=>ae aj
 |.none,.bool _=>ae aj
 |.bool _,.none=>ae aj
 |.none,.str _=>ae aj
 |.str _,.none=>ae aj
 |.int i,.int j=>ae (decide (i=j))
 |.bool i,.bool j=>ae (decide (i=j))
 |.str i,.str j=>ae (decide (i=j))
 |.int _,.str _=>ae aj
 |.str _,.int _=>ae aj
 |.bool _,.str _=>ae aj
 |.str _,.bool _=>ae aj
 |.list _,.str _=>ae aj
 |.tuple _,.str _=>ae aj
 |.dict _,.str _=>ae aj
 |.list xs,.list []=>ae xs.isEmpty
 |_,_=>ah
def rh:R2:=λx y H Q=>∃d h B,RdX H B x d/\y=.str h/\Q (.bl (bO h d)) H
theorem wQ(x y:Str):decide (V.str x=V.str y)=decide (x=y):=by
 by_cases z:x=y
 ·rw[z,decide_eq_true rfl,decide_eq_true rfl]
 ·rw[decide_eq_false z,decide_eq_false λw=>z (V.str.inj w)]
theorem HN(x y:Int):decide (V.int x=V.int y)=decide (x=y):=by
 by_cases z:x=y
 ·rw[z,decide_eq_true rfl,decide_eq_true rfl]
 ·rw[decide_eq_false z,decide_eq_false λw=>z (V.int.inj w)]
theorem yL(x y:Bool):decide (V.bl x=V.bl y)=decide (x=y):=by
 by_cases z:x=y
 ·rw[z,decide_eq_true rfl,decide_eq_true rfl]
 ·rw[decide_eq_false z,decide_eq_false λw=>z (V.bl.inj w)]
theorem NJ(hu:X.A.units < Fb):OpR X (Bs .Eq) rh:=by
 intro pins s σ H x y v u Q I rx ry h;obtain⟨d,hh,B,hd,rfl,q⟩:=h;cases hd with
 |non=>exact op_eq pins s σ H _ _ v u Q I rx ry ⟨rfl,q⟩
 |bl b=>exact op_eq pins s σ H _ _ v u Q I rx ry ⟨rfl,q⟩
 |int i=>exact op_eq pins s σ H _ _ v u Q I rx ry ⟨rfl,q⟩
 |str x hx=>
  refine op_eq pins s σ H _ _ v u Q I rx ry ⟨rfl,?_⟩;rw[wQ];exact q
 |@lst a xs ds h1 h2 h3 h4=>
  cases(show v=A4 a from rx);obtain⟨t,rfl⟩:=(show ∃t,u=Fv hh t from ry);obtain⟨its,_,p,_⟩:=I.list (SqL.of (K:=X.K) h1);exact PySem.SeqAt.RcAt.list_str hh t p.isList hu _ _ _ _ ⟨.bl aj,H,I,rfl,q⟩
 |@tup a xs ds h1 h2 h3 h4=>
  cases(show v=A4 a from rx);obtain⟨t,rfl⟩:=(show ∃t,u=Fv hh t from ry);obtain⟨its,_,p,_⟩:=I.tuple (SqT.of (K:=X.K) h1);exact PySem.SeqAt.RcAt.tuple_str hh t (show s.heap.IsTuple a its.toArray from p) hu _ _ _ _ ⟨.bl aj,H,I,rfl,q⟩
def aV:Wv->Wv->Int->DQ->Prop:=λx y n Q=>match x,y with
 |.d a,.d b=>match je a b with
  |some r=>Q (.d (.bool r)) n
  |none=>False
 |_,_=>False
theorem Q3(hu:X.A.units < Fb):OpR X (Bs .Eq) (λx y H Q=>qv x y H Q\/rh x y H Q\/qQ X.K x y H Q):=op_eq.or ((NJ hu).or (Oo hu))
theorem OG{K:Ag}:bH (λx y H Q=>qv x y H Q\/rh x y H Q\/qQ K x y H Q) aV:=λC H B σ δ n x y p q Q Q' R rx ry h1 k=>by
 unfold aV at h1
 split at h1
 ·rename_i da db;have rx:RdX H B x da:=rx;have ry:RdX H B y db:=ry;have fin:∀r:Bool,Q (.d (.bool r)) n->Q' (.bl r) H:=λr q=>k _ _ H n R (Kp.refl _ _) (wd (.bl r)) q
  split at h1
  ·rename_i r er;have h1:=fin r h1;cases rx with
   |non=>cases ry<;>first|(cases er;done)|(cases er;exact .inl ⟨rfl,h1⟩)
   |bl i=>cases ry<;>first|(cases er;done)|(cases er;exact .inl ⟨rfl,by first|exact h1|(rw[yL];exact h1)⟩)
   |int i=>cases ry<;>first|(cases er;done)|(cases er;exact .inl ⟨rfl,by first|exact h1|(rw[HN];exact h1)⟩)
   |str i hi=>cases ry<;>first|(cases er;done)|(cases er;exact .inl ⟨rfl,by first|exact h1|(rw[wQ];exact h1)⟩)
   |@lst ax xs ds e1 e2 e3 e4=>
    cases ry with
    |str j hj=>cases er;exact .inr (.inl ⟨_,j,B,.lst e1 e2 e3 e4,rfl,h1⟩)
    |@lst ay ys es f1 f2 f3 f4=>
     cases f4 with
     |nil=>
      have er:ae ds.isEmpty=ae r:=er;cases er;refine .inr (.inr ⟨ax,ay,xs,rfl,rfl,SqL.of e1,SqL.of f1,?_⟩);have:xs.isEmpty=ds.isEmpty:=by cases e4<;>rfl
      rw[this];exact h1
     |cons _ _=>cases er
    |_=>cases er
   |@tup ax xs ds e1 e2 e3 e4=>
    cases ry with
    |str j hj=>cases er;exact .inr (.inl ⟨_,j,B,.tup e1 e2 e3 e4,rfl,h1⟩)
    |_=>cases er
  ·exact h1.elim
 ·exact h1.elim
def J9(a b:Aa):Option Bool:=match a,b with
 |.list _,_=>ah
 |.tuple _,_=>ah
 |a,b=>(je a b).map not
def dZ:Wv->Wv->Int->DQ->Prop:=λx y n Q=>match x,y with
 |.d a,.d b=>match J9 a b with
  |some r=>Q (.d (.bool r)) n
  |none=>False
 |_,_=>False
theorem RB:bH yz dZ:=λC H B σ δ n x y p q Q Q' R rx ry h1 k=>by
 unfold dZ at h1
 split at h1
 ·rename_i da db;have rx:RdX H B x da:=rx;have ry:RdX H B y db:=ry;have fin:∀r:Bool,Q (.d (.bool r)) n->Q' (.bl r) H:=λr q=>k _ _ H n R (Kp.refl _ _) (wd (.bl r)) q
  split at h1
  ·rename_i r er;have h1:=fin r h1;cases rx with
   |non=>cases ry<;>first|(cases er;done)|(cases er;exact⟨rfl,h1⟩)
   |bl i=>cases ry<;>first|(cases er;done)|(cases er;exact⟨rfl,by first|exact h1|(rw[yL];exact h1)⟩)
   |int i=>cases ry<;>first|(cases er;done)|(cases er;exact⟨rfl,by first|exact h1|(rw[HN];exact h1)⟩)
   |str i hi=>cases ry<;>first|(cases er;done)|(cases er;exact⟨rfl,by first|exact h1|(rw[wQ];exact h1)⟩)
   |lst _ _ _ _=>cases er
   |tup _ _ _ _=>cases er
  ·exact h1.elim
 ·exact h1.elim
def gC:Aa->Bool
 |.none=>ai
 |_=>aj
def cL(neg:Bool):Wv->Wv->Int->DQ->Prop:=λx y n Q=>match x,y with
 |.d a,.d .none=>Q (.d (.bool (if neg then !gC a else gC a))) n
 |_,_=>False
theorem yu{H:Hp}{B:Addr->Prop}{v:V}{d:Aa}(h:RdX H B v d):decide (v=.non)=gC d:=by cases h<;>rfl
theorem zS:bH (λx y H Q=>y=.non/\Q (.bl (decide (x=.non))) H) (cL aj):=λC H B σ δ n x y p q Q Q' R rx ry h1 k=>by
 unfold cL at h1
 split at h1
 ·rename_i da;cases(show RdX H B y .none from ry);exact⟨rfl,k _ _ H n R (Kp.refl _ _) (wd (show RdX H B _ (.bool (gC da))from by rw[yu rx];exact .bl _)) h1⟩
 ·exact h1.elim
theorem Hq:bH (λx y H Q=>y=.non/\Q (.bl (!decide (x=.non))) H) (cL ai):=λC H B σ δ n x y p q Q Q' R rx ry h1 k=>by
 unfold cL at h1
 split at h1
 ·rename_i da;cases(show RdX H B y .none from ry);exact⟨rfl,k _ _ H n R (Kp.refl _ _) (wd (show RdX H B _ (.bool (!gC da))from by rw[yu rx];exact .bl _)) h1⟩
 ·exact h1.elim
def fg:Aa->Bool
 |.none=>ai
 |.bool _=>ai
 |.int _=>ai
 |.str _=>ai
 |_=>aj
def sO:Aa->Aa->Bool
 |.none,.none=>ai
 |.bool a,.bool b=>a==b
 |.bool a,.int b=>(if a then 1 else 0)==b
 |.int a,.bool b=>a==(if b then 1 else 0)
 |.int a,.int b=>a==b
 |.str a,.str b=>a==b
 |_,_=>aj
def bZ(x:Aa)(ds:List Aa):Bool:=ds.any λy=>sO y x
theorem lD{H:Hp}{B:Addr->Prop}{v:V}{d:Aa}(h:RdX H B v d)(f:fg d=ai):iG v=ai:=by cases h<;>first|rfl|cases f
theorem kW{H:Hp}{B:Addr->Prop}:∀{vs:List V}{ds:List Aa},RdXs H B vs ds->ds.all fg=ai->vs.all iG=ai
 |_,_,.nil,_=>rfl
 |_,_,.cons h r,f=>by
  rw[List.all_cons,A2]at f ⊢;exact⟨lD h f.1,kW r f.2⟩
theorem Lg{H:Hp}{B:Addr->Prop}{v u:V}{d e:Aa}(h:RdX H B v d)(h2:RdX H B u e):ju v u=sO d e:=by cases h<;>cases h2<;>rfl
theorem lR{H:Hp}{B:Addr->Prop}{v:V}{d:Aa}(h:RdX H B v d):∀{vs:List V}{ds:List Aa},RdXs H B vs ds->sM v vs=bZ d ds
 |_,_,.nil=>rfl
 |_,_,.cons h1 r=>by
  have:=lR h r;unfold sM bZ at this ⊢;rw[Cu,Cu,this,Lg h1 h]
def gD(neg:Bool):Wv->Wv->Int->DQ->Prop:=λx y n Q=>match x,y with
 |.d a,.d (.tuple ds)=>fg a=ai/\ds.all fg=ai/\Q (.d (.bool (if neg then !bZ a ds else bZ a ds))) n
 |.d a,.d (.list ds)=>fg a=ai/\ds.all fg=ai/\Q (.d (.bool (if neg then !bZ a ds else bZ a ds))) n
 |_,_=>False
theorem lJ{K:Ag}{neg:Bool}:bH (iJ K neg) (gD neg):=λC H B σ δ n x y p q Q Q' R rx ry h1 k=>by
 unfold gD at h1
 split at h1
 ·rename_i da ds;obtain⟨f1,f2,q⟩:=h1;have rx:RdX H B x da:=rx;cases(show RdX H B y (.tuple ds)from ry)with
  |@tup ay ys _ e1 e2 e3 e4=>
   refine⟨ay,ys,rfl,.inr (SqT.of e1),lD rx f1,kW e4 f2,?_⟩;rw[lR rx e4];exact k _ _ H n R (Kp.refl _ _) (wd (.bl _)) q
 ·rename_i da ds;obtain⟨f1,f2,q⟩:=h1;have rx:RdX H B x da:=rx;cases(show RdX H B y (.list ds)from ry)with
  |@lst ay ys _ e1 e2 e3 e4=>
   refine⟨ay,ys,rfl,.inl (SqL.of e1),lD rx f1,kW e4 f2,?_⟩;rw[lR rx e4];exact k _ _ H n R (Kp.refl _ _) (wd (.bl _)) q
 ·exact h1.elim
def aB:Wv->Wv->Int->DQ->Prop:=λx y n Q=>match x,y with
 |.d (.list ds),.d (.int i)=>match cS ds i with
  |some d=>Q (.d d) n
  |none=>False
 |.d (.tuple ds),.d (.int i)=>match cS ds i with
  |some d=>Q (.d d) n
  |none=>False
 |.d (.str z),.d (.int i)=>match cS z.cps.toList i with
  |some c=>Q (.d (.str ⟨#[c]⟩)) n
  |none=>False
 |_,_=>False
theorem wm{H:Hp}{B:Addr->Prop}{vs:List V}{ds:List Aa}{i:Int}{d:Aa}(r:RdXs H B vs ds)(h:cS ds i=ae d):∃v,cS vs i=ae v/\RdX H B v d:=by
 unfold cS at h ⊢;rw[r.len];cases e:eY ds.length i with
 |none=>rw[e]at h;cases h
 |some j=>
  rw[e]at h;exact r.getD h
theorem mR{K:Ag}:bH (ko K) aB:=λC H B σ δ n x y p q Q Q' R rx ry h1 k=>by
 unfold aB at h1
 split at h1
 ·rename_i ds i
  split at h1
  ·rename_i d e;cases(show RdX H B y (.int i)from ry);cases(show RdX H B x (.list ds)from rx)with
   |@lst ay ys _ e1 e2 e3 e4=>
    obtain⟨v,f1,f2⟩:=wm e4 e;exact .inl ⟨ay,ys,i,v,rfl,rfl,SqL.of e1,f1,k _ _ H n R (Kp.refl _ _) (wd f2) h1⟩
  ·exact h1.elim
 ·rename_i ds i
  split at h1
  ·rename_i d e;cases(show RdX H B y (.int i)from ry);cases(show RdX H B x (.tuple ds)from rx)with
   |@tup ay ys _ e1 e2 e3 e4=>
    obtain⟨v,f1,f2⟩:=wm e4 e;exact .inr (.inl ⟨ay,ys,i,v,rfl,rfl,SqT.of e1,f1,k _ _ H n R (Kp.refl _ _) (wd f2) h1⟩)
  ·exact h1.elim
 ·rename_i z i
  split at h1
  ·rename_i c e;cases(show RdX H B y (.int i)from ry);cases(show RdX H B x (.str z)from rx)with
   |str _ hz=>exact .inr (.inr ⟨z,i,c,rfl,rfl,hz,e,k _ _ H n R (Kp.refl _ _) (wd (show RdX H B _ (.str ⟨#[c]⟩)from .str _ (by show 1<=Ay;decide))) h1⟩)
  ·exact h1.elim
 ·exact h1.elim
theorem uU(ha:DE X a ta wa)(hb:DE X b tb wb)(hs:nF b:=by exact λ_ _=>rfl):DE X (.Subscript a b pos) (dR (ko X.K) ta tb) (w2 wa wb aB):=⟨hX qM ha.pe hb.pe hs,nL mR ha.sd hb.sd⟩
def aX:List Wv->Int->DQ->Prop:=λxs n Q=>match xs with
 |[.d (.str x)]=>Q (.d (.int x.length)) n
 |[.d (.list ds)]=>Q (.d (.int ds.length)) n
 |[.d (.tuple ds)]=>Q (.d (.int ds.length)) n
 |_=>False
theorem Sg:CallR X (.builtin "len") (λxs H Q=>(∃z,xs=[.str z]/\z.length<=Ay/\Q (.int z.length) H)\/∃p ys,xs=[.ref p]/\(SqL X.K H p ys\/SqT X.K H p ys)/\Q (.int ys.length) H):=call_len_str.or sS
theorem MA{K:Ag}:d7 (λxs H Q=>(∃z,xs=[.str z]/\z.length<=Ay/\Q (.int z.length) H)\/∃p ys,xs=[.ref p]/\(SqL K H p ys\/SqT K H p ys)/\Q (.int ys.length) H) aX:=λC H B σ δ n vs xs Q Q' R r h k=>by
 unfold aX at h
 split at h
 ·rename_i x;cases r with
  |cons r1 r2=>
   cases r2;cases(show RdX H B _ (.str x)from r1)with
   |str _ hz=>exact .inl ⟨x,rfl,hz,k _ _ H n R (Kp.refl _ _) (wd (.int _)) h⟩
 ·rename_i ds;cases r with
  |cons r1 r2=>
   cases r2;cases(show RdX H B _ (.list ds)from r1)with
   |@lst ay ys _ e1 e2 e3 e4=>
    refine .inr ⟨ay,ys,rfl,.inl (SqL.of e1),?_⟩;rw[e4.len];exact k _ _ H n R (Kp.refl _ _) (wd (.int _)) h
 ·rename_i ds;cases r with
  |cons r1 r2=>
   cases r2;cases(show RdX H B _ (.tuple ds)from r1)with
   |@tup ay ys _ e1 e2 e3 e4=>
    refine .inr ⟨ay,ys,rfl,.inr (SqT.of e1),?_⟩;rw[e4.len];exact k _ _ H n R (Kp.refl _ _) (wd (.int _)) h
 ·exact h.elim
theorem NW{K:Ag}{H:Hp}{B:Addr->Prop}{v:V}{d:Aa}(h:RdX H B v d):TyOf K H v (.type (rp d)):=by
 cases h with
 |non=>exact .non
 |bl b=>exact .bl b
 |int i=>exact .int i
 |str x h=>exact .str x
 |lst h1 h2 h3 h4=>exact .lst h1
 |tup h1 h2 h3 h4=>exact .tup h1
theorem Ra{K:Ag}{H:Hp}{B:Addr->Prop}{v:V}{d:Aa}(h:RdX H B v d){T:String}(hT:T="int"\/T="bool"\/T="str"\/T="tuple"\/T="list"):PySem.W.kitOne K (.type (rp d)) (.type T)=ae (cE T d):=by
 cases h<;>rcases hT with rfl|rfl|rfl|rfl|rfl<;>rfl
def bw(T:String)(w:DT):DT:=λδ n Q=>w δ n λx n1=>match x with
 |.d d=>Q (.d (.bool (cE T d))) n1
 |_=>False
theorem QJ{T:String}{x:Str}{p p2:Pos}(hT:T="int"\/T="bool"\/T="str"\/T="tuple"\/T="list")(hg:Gl X "isinstance")(hm:X.mg "isinstance"=ah)(hg2:Gl X x)(hm2:X.mg x=ah)(hv:By x=ae (.type T))(ha:DE X a ta wa)(hn:x≠"__name__":=by decide)(hdb:(x==("__debug__":Str))=aj:=by decide)
  (he:Aw [a,.Name x p2] X.env=(aj,eval a X.env)::Aw [.Name x p2] X.env:=by rfl) (he2:Aw [.Name x p2] X.env=(aj,eval (.Name x p2) X.env)::Aw [] X.env:=by rfl) (hpl:(C5 pos (Aw [.Name x p2] X.env)).any (·.1)=aj:=by rfl):
  DE X (.Call (.Name "isinstance" p) [a,.Name x p2] [] pos) (gB (λxs H Q=>∃x t b,xs=[x,.ty T]/\TyOf X.K H x t/\PySem.W.kitOne X.K t (.type T)=ae b/\Q (.bl b) H) (dI ta (dI (tC (.ty T)) cy))) (bw T wa):=
 ⟨ma (JG (T:=T)) hg hm wF (c6 ha.pe (c6 (vZ (v:=.ty T) hg2 hm2 hv rfl hn hdb) eR he2) he) (by decide) (by decide) he hpl,λC H B σ δ n Q Q' R q k=>ha.sd C H B σ δ n _ _ R q λv x H1 n1 R1 k1 r1 q1=>by
  cases x with
  |d d=>exact⟨v,_,_,rfl,NW r1,Ra (show RdX H1 B v d from r1) hT,k _ _ H1 n1 R1 k1 (wd (.bl _)) q1⟩
  |tp=>exact q1.elim
  |dk _=>exact q1.elim
  |ln _=>exact q1.elim
  |ob _=>exact q1.elim⟩
def UC:List Wv->Int->DQ->Prop:=λxs n Q=>match xs with
 |[.d (.list ds)]=>Small (.list ds)/\Q (.d (.str (Fj (.list ds)))) n
 |[.d (.tuple ds)]=>Small (.tuple ds)/\Q (.d (.str (Fj (.tuple ds)))) n
 |_=>False
def kI:List Aa->Option (List Bool)
 |[]=>ae []
 |.bool b::r=>(kI r).map (b::·)
 |_::_=>ah
theorem GI{H:Hp}{B:Addr->Prop}:∀{vs:List V}{ds:List Aa}{bs:List Bool},RdXs H B vs ds->kI ds=ae bs->vs=bs.map V.bl
 |_,_,bs,.nil,h=>by
  cases h;rfl
 |_,_,bs,.cons (d:=d) (ds:=ds) h1 h2,h=>by
  cases h1 with
  |bl b=>
   have h':(kI ds).map (b::·)=ae bs:=h;cases e:kI ds with
   |none=>rw[e]at h';cases h'
   |some cs=>
    rw[e]at h';cases h';rw[GI h2 e];rfl
  |_=>cases h
def lP:List Wv->Int->DQ->Prop:=λxs n Q=>match xs with
 |[.d (.list ds)]=>match kI ds with
  |some bs=>Q (.d (.bool (bs.all id))) n
  |none=>False
 |_=>False
theorem JH:d7 (λxs H Q=>∃(p:Addr)(bs:List Bool),xs=[.ref p]/\H p=ae (.lst (bs.map V.bl))/\Q (.bl (bs.all id)) H) lP:=λC H B σ δ n vs xs Q Q' R r h k=>by
 unfold lP at h
 split at h
 ·rename_i ds
  split at h
  ·rename_i bs e;cases r with
   |cons r1 r2=>
    cases r2;cases(show RdX H B _ (.list ds)from r1)with
    |@lst ay ys _ e1 e2 e3 e4=>
     exact⟨ay,bs,rfl,by rw[<-GI e4 e];exact e1,k _ _ H n R (Kp.refl _ _) (wd (.bl _)) h⟩
  ·exact h.elim
 ·exact h.elim
def d5:List Wv->Int->DQ->Prop:=λxs n Q=>match xs with
 |[.d (.list ds)]=>Q (.d (.tuple ds)) n
 |[.d (.tuple ds)]=>Q (.d (.tuple ds)) n
 |_=>False
theorem KB{K:Ag}:d7 (λxs H Q=>∃p ys,xs=[.ref p]/\((SqL K H p ys/\∀l,H l=ah->Q (.ref l) (upd H l (.tup ys)))\/(SqT K H p ys/\Q (.ref p) H))) d5:=λC H B σ δ n vs xs Q Q' R r h k=>by
 unfold d5 at h
 split at h
 ·rename_i ds;cases r with
  |cons r1 r2=>
   cases r2;cases(show RdX H B _ (.list ds)from r1)with
   |@lst ay ys _ e1 e2 e3 e4=>
    refine⟨ay,ys,rfl,.inl ⟨SqL.of e1,λl hl=>?_⟩⟩;exact k _ _ _ n (R.new hl) (Kp.new hl) (wd (show RdX _ B _ (.tuple ds)from .tup bQ (R.nb hl) e3 ((e4.fresh hl).less λb z=>.inl z))) h
 ·rename_i ds;cases r with
  |cons r1 r2=>
   cases r2;cases(show RdX H B _ (.tuple ds)from r1)with
   |@tup ay ys _ e1 e2 e3 e4=>exact⟨ay,ys,rfl,.inr ⟨SqT.of e1,k _ _ H n R (Kp.refl _ _) (wd (show RdX H B _ (.tuple ds)from .tup e1 e2 e3 e4)) h⟩⟩
 ·exact h.elim
def iH:List Wv->Int->DQ->Prop:=λxs n Q=>match xs with
 |[.d (.list ds)]=>Q (.d (.list ds)) n
 |[.d (.tuple ds)]=>Q (.d (.list ds)) n
 |_=>False
theorem NY{K:Ag}:d7 (λxs H Q=>∃p ys,xs=[.ref p]/\(SqL K H p ys\/SqT K H p ys)/\∀l,H l=ah->Q (.ref l) (upd H l (.lst ys))) iH:=λC H B σ δ n vs xs Q Q' R r h k=>by
 unfold iH at h
 split at h
 ·rename_i ds;cases r with
  |cons r1 r2=>
   cases r2;cases(show RdX H B _ (.list ds)from r1)with
   |@lst ay ys _ e1 e2 e3 e4=>
    refine⟨ay,ys,rfl,.inl (SqL.of e1),λl hl=>?_⟩;exact k _ _ _ n (R.new hl) (Kp.new hl) (wd (show RdX _ B _ (.list ds)from .lst bQ (R.nb hl) e3 ((e4.fresh hl).less λb z=>.inl z))) h
 ·rename_i ds;cases r with
  |cons r1 r2=>
   cases r2;cases(show RdX H B _ (.tuple ds)from r1)with
   |@tup ay ys _ e1 e2 e3 e4=>
    refine⟨ay,ys,rfl,.inr (SqT.of e1),λl hl=>?_⟩;exact k _ _ _ n (R.new hl) (Kp.new hl) (wd (show RdX _ B _ (.list ds)from .lst bQ (R.nb hl) e3 ((e4.fresh hl).less λb z=>.inl z))) h
 ·exact h.elim
end
structure ItOk(fz:Hp)(J:It)(ds:List Aa):Prop where
 le:ds.length<=Ay
 go:∀i H,(∀b o,fz b=ae o->H b=ae o)->i < ds.length->J.go i H
 stop:∀H,(∀b o,fz b=ae o->H b=ae o)->J.stop ds.length H
 yld:∀i H x H' d,(∀b o,fz b=ae o->H b=ae o)->ds[i]?=ae d->J.yld i H x H'->ja H H'/\∀B,(∀b o,fz b=ae o->¬B b)->(∀b,B b->H b≠ah)->RdX H' B x d
def pN(H:Hp)(B:Addr->Prop)(fz:Hp):Prop:=(∀b o,fz b=ae o->H b=ae o/\¬B b)/\∀b o,H b=ae o->¬B b->fz b=ae o
abbrev iq:=Sl->Int->(List Aa->Int->Prop)->Prop
def uo(wi:TI)(v:iq):Prop:=∀(C:Ctx)(H:Hp)(B:Addr->Prop)(σ:St)(δ:Sl)(n:Int)(Q:List Aa->Int->Prop)(Q':It->Hp->Prop),Rel C H B σ δ n->v δ n Q->
 (∀J ds H' n',Rel C H' B σ δ n'->Kp C.t H H'->(∀fz,pN H' B fz->ItOk fz J ds)->Q ds n'->Q' J H')->wi σ H Q'
structure DI(X:Cx)(tg iter:Expr)(wi:TI)(v:iq):Prop where
 pi:PI X tg iter wi
 sd:uo wi v
section
variable{X:Cx}{tg a b c e:Expr}{ta tb te:TE}{wa wb we:DT}{pos p:Pos}
def fA(w:DT):iq:=λδ n Q=>w δ n λx n1=>match x with
 |.d (.list ds)=>Q ds n1
 |_=>False
def ft(w:DT):iq:=λδ n Q=>w δ n λx n1=>match x with
 |.d (.tuple ds)=>Q ds n1
 |_=>False
theorem RD(ha:DE X a ta wa):DI X tg a (xO X.K ta) (fA wa):=⟨Mn ha.pe,λC H B σ δ n Q Q' R q k=>ha.sd C H B σ δ n _ _ R q λv x H1 n1 R1 k1 r1 q1=>by
 split at q1
 ·rename_i ds;cases(show RdX H1 B v (.list ds)from r1)with
  |@lst ay ys _ e1 e2 e3 e4=>
   refine⟨ay,rfl,⟨ys,SqL.of e1⟩,k _ ds H1 n1 R1 k1 (λfz th=>?_) q1⟩;have hfz:fz ay=ae (.lst ys):=th.2 _ _ e1 e2;refine⟨by rw[<-e4.len];exact e3,λi H hH hi=>?_,λH hH=>?_,λi H x H' d hH hd hy=>?_⟩
   ·rw[<-e4.len]at hi;exact⟨ys,ys[i],SqL.of (hH _ _ hfz),Ak hi⟩
   ·exact⟨ys,SqL.of (hH _ _ hfz),by rw[e4.len];exact Ao _⟩
   ·obtain⟨rfl,hy⟩:=hy;refine⟨λ_ _ z=>z,λB' hB hBa=>?_⟩;obtain⟨u,hu,ru⟩:=e4.getD hd;have:=hy _ (SqL.of (hH _ _ hfz));rw[hu]at this;cases this;exact ru.move λb o e ne=>⟨hH _ _ (th.2 _ _ e ne),hB _ _ (th.2 _ _ e ne)⟩
 ·exact q1.elim⟩
theorem Kw(ha:DE X a ta wa):DI X tg a (k7 X.K ta) (ft wa):=⟨Qy ha.pe,λC H B σ δ n Q Q' R q k=>ha.sd C H B σ δ n _ _ R q λv x H1 n1 R1 k1 r1 q1=>by
 split at q1
 ·rename_i ds;cases(show RdX H1 B v (.tuple ds)from r1)with
  |@tup ay ys _ e1 e2 e3 e4=>
   refine⟨ay,rfl,⟨ys,SqT.of e1⟩,k _ ds H1 n1 R1 k1 (λfz th=>?_) q1⟩;have hfz:fz ay=ae (.tup ys):=th.2 _ _ e1 e2;refine⟨by rw[<-e4.len];exact e3,λi H hH hi=>?_,λH hH=>?_,λi H x H' d hH hd hy=>?_⟩
   ·rw[<-e4.len]at hi;exact⟨ys,ys[i],SqT.of (hH _ _ hfz),Ak hi⟩
   ·exact⟨ys,SqT.of (hH _ _ hfz),by rw[e4.len];exact Ao _⟩
   ·obtain⟨rfl,hy⟩:=hy;refine⟨λ_ _ z=>z,λB' hB hBa=>?_⟩;obtain⟨u,hu,ru⟩:=e4.getD hd;have:=hy _ (SqT.of (hH _ _ hfz));rw[hu]at this;cases this;exact ru.move λb o e ne=>⟨hH _ _ (th.2 _ _ e ne),hB _ _ (th.2 _ _ e ne)⟩
 ·exact q1.elim⟩
def bY(lo:Int)(n:Nat):List Aa:=(Ba n).map λi=>.int (lo+(i:Nat))
def dN(w:DT):iq:=λδ n Q=>w δ n λx n1=>match x with
 |.d (.int j)=>(-(2 ^ 62)<=j/\j<=1000000)/\Q (bY 0 j.toNat) n1
 |_=>False
theorem T6(fz:Hp)(lo:Int)(n:Nat)(hn:n<=1000000):ItOk fz (rS lo n) (bY lo n):=by
 have hl:(bY lo n).length=n:=by unfold bY;simp
 refine⟨?_,λi H hH hi=>?_,λH hH=>?_,λi H y H' d hH hd hy=>?_⟩
 ·rw[hl];exact A3 hn (by decide)
 ·rw[hl]at hi;exact hi
 ·show n<=(bY lo n).length;rw[hl];exact Ao _
 ·obtain⟨rfl,rfl⟩:=hy;refine⟨λ_ _ z=>z,λB' hB hBa=>?_⟩;unfold bY at hd;rw[A1]at hd;cases e:(Ba n)[i]? with
  |none=>rw[e]at hd;cases hd
  |some j=>
   rw[e]at hd;have:j=i:=by
    obtain⟨h1,h2⟩:=Au.mp e;rw[List.getElem_range]at h2;exact h2.symm
   subst this;cases hd;exact .int _
theorem JL{p:Pos}(hg:Gl X "range")(hm:X.mg "range"=ah)(ha:DE X a ta wa)(hs:Aw [a] X.env=[(aj,eval a X.env)]:=by rfl):DI X tg (.Call (.Name "range" p) [a] [] pos) (EO (dI ta cy)) (dN wa):=⟨RG hg hm (c6 ha.pe eR hs) hs,λC H B σ δ n Q Q' R q k=>ha.sd C H B σ δ n _ _ R q λv x H1 n1 R1 k1 r1 q1=>by
 split at q1
 ·rename_i j;cases(show RdX H1 B v (.int j)from r1);refine⟨j,rfl,q1.1.1,by have:=q1.1.2;have:(2:Int)^62=4611686018427387904:=(by decide);omega,k _ (bY 0 j.toNat) H1 n1 R1 k1 (λfz _=>T6 fz 0 j.toNat (by have:=q1.1.2;omega)) q1.2⟩
 ·exact q1.elim⟩
end
abbrev eM:=Aa->Sl->(Sl->Prop)->Prop
def vN(g:TG)(v:eM):Prop:=∀(C:Ctx)(H:Hp)(B:Addr->Prop)(σ:St)(δ:Sl)(n:Int)(x:V)(d:Aa)(Q:Sl->Prop)(Q':St->Hp->Prop),Rel C H B σ δ n->RdX H B x d->v d δ Q->
 (∀σ' δ',Rel C H B σ' δ' n->Q δ'->Q' σ' H)->g x σ H Q'
structure DG(X:Cx)(tg:Expr)(g:TG)(v:eM):Prop where
 pg:PG X tg g
 sd:vN g v
section
variable{X:Cx}{pos:Pos}
def aJ(i:Nat):eM:=λd δ Q=>Q (δ.set i (ae (.w (.d d))))
theorem QD{i:Nat}{x:Str}(hN:X.N.Nodup)(hi:X.N[i]?=ae x)(hx:jV X.env.scope x)(hf:X.fn x=ai\/X.env.scope.names.lookup x=ae .local:=by first|exact .inl rfl|exact .inr rfl|assumption):DG X (.Name x pos) (ib i) (aJ i):=
 ⟨Rz hN hi hx hf,λC H B σ δ n x d Q Q' R r q k=>k _ _ (R.set (x:=.d d) r rfl) q⟩
end
def eW(g:eM)(W:aP)(K:DEnds):List Aa->Sl->Int->Prop
 |[],δ,n=>K.nx δ n
 |d::r,δ,n=>g d δ λδ'=>W δ' n {K with nx:=eW g W K r,ct:=eW g W K r,bk:=K.nx}
def bo(v:iq)(g:eM)(W:aP):aP:=λδ n K=>v δ n λds n1=>eW g W K ds δ n1
def eC(H:Hp)(B:Addr->Prop):Hp:=λb=>open Classical in if B b then ah else H b
theorem oQ(H:Hp)(B:Addr->Prop):pN H B (eC H B):=by
 refine⟨λb o e=>?_,λb o e n=>?_⟩
 ·unfold eC at e
  split at e
  ·cases e
  ·rename_i h;exact⟨e,h⟩
 ·unfold eC;rw[if_neg n];exact e
theorem Rel.refz{C:Ctx}{H:Hp}{B:Addr->Prop}{σ:St}{δ:Sl}{n:Int}(R:Rel C H B σ δ n):Rel {C with fz:=eC H B} H B σ δ n:=
 ⟨R.tp,R.kp,R.t0,R.l0,R.g0,(oQ H B).1,R.bt,R.b0,R.ba,R.a0,R.sl,R.ow,R.len⟩
theorem Rel.unfz{C:Ctx}{fz:Hp}{H:Hp}{B:Addr->Prop}{σ:St}{δ:Sl}{n:Int}(R:Rel {C with fz:=fz} H B σ δ n)(h:∀b o,C.fz b=ae o->fz b=ae o):Rel C H B σ δ n:=
 ⟨R.tp,R.kp,R.t0,R.l0,R.g0,λb o e=>R.fz b o (h b o e),R.bt,R.b0,R.ba,R.a0,R.sl,R.ow,R.len⟩
theorem Rel.same{C:Ctx}{H H':Hp}{B:Addr->Prop}{σ:St}{δ:Sl}{n:Int}(R:Rel C H B σ δ n)(k:ja H H'):Rel C H' B σ δ n:=by
 obtain⟨a,b,e,h⟩:=R.tp.ob;exact R.step ⟨⟨a,b,k _ _ e,h⟩,k _ _ R.tp.ls,R.tp.len,λz=>k _ _ (R.tp.ag z),R.tp.gne⟩ λb o e _=>k b o e
section
variable{X:Cx}{tg iter:Expr}{body:List Stmt}{wi:TI}{v:iq}{g:TG}{gd:eM}{T:TS}{W:aP}{pos:Pos}
theorem JD(hi:DI X tg iter wi v)(hg:DG X tg g gd)(hb:DSs X body T W)(hp:PassesOwn (Bd X.prog X.w) X.A X.env X.xe:=by exact PassesOwn.never)(hc:X.calm=ai:=by rfl)
  (hs:∀x,D5 iter X.env x=pure x:=by intro _;rfl):DS X (.For tg iter body [] pos) (nW wi g T) (bo v gd W):=⟨O4 hp hc hi.pi hg.pg hb.ps hs,λC H B σ δ n K D R q E=>
 hi.sd C H B σ δ n _ _ R q λJ ds H1 n1 R1 k1 hJ q1=>by
  have ok:=hJ (eC H1 B) (oQ H1 B);have R1':=R1.refz;have back:∀{H B' σ δ n},Rel {C with fz:=eC H1 B} H B' σ δ n->Rel C H B' σ δ n:=λR=>R.unfz λb o e=>(oQ H1 B).2 b o (R1.fz b o e).1 (R1.fz b o e).2;refine⟨λi m σ H=>m=ds.length-i/\i<=ds.length/\∃B' δ n,Rel {C with fz:=eC H1 B} H B' σ δ n/\eW gd W K (ds.drop i) δ n,⟨ds.length,by simp,Bk _,B,δ,n1,R1',by simpa using q1⟩,?_⟩
  rintro i m σ2 H2 ⟨rfl,hi,B2,δ2,n2,R2,q2⟩
  have hfz:∀b o,eC H1 B b=ae o->H2 b=ae o:=λb o e=>(R2.fz b o e).1;by_cases hlt:i < ds.length
  ·rw[E2 hlt]at q2;refine .inr ⟨ok.go i H2 hfz hlt,λσ3 H3=>∃B' δ n,Rel {C with fz:=eC H1 B} H3 B' σ3 δ n/\eW gd W K (ds.drop (i+1)) δ n,λσ' H' z=>⟨ds.length-(i+1),by omega,rfl,hlt,z⟩,λx H' hy=>?_⟩;obtain⟨sm,rd⟩:=ok.yld i H2 x H' ds[i] hfz (Ak hlt) hy;have R3:=R2.same sm;refine hg.sd _ H' B2 σ2 δ2 n2 x ds[i] _ _ R3 (rd B2 (λb o e=>(R2.fz b o e).2) R2.ba) q2 λσ' δ' R4 q4=>?_;refine hb.sd _ H' B2 σ' δ' n2 _ _ R4 q4 ⟨?_,?_,?_,?_,λH B σ δ n a xs ds R h0 h1 h2 h3 q=>E.rn H B σ δ n a xs ds (back R) h0 h1 h2 h3 q⟩
   ·exact λH B σ δ n R q=>⟨B,δ,n,R,q⟩
   ·exact λH B σ δ n v w R r q=>E.rt H B σ δ n v w (back R) r q
   ·exact λH B σ δ n R q=>E.nx H B σ δ n (back R) q
   ·exact λH B σ δ n R q=>⟨B,δ,n,R,q⟩
  ·have e:i=ds.length:=by omega
   subst e;rw[List.drop_length]at q2;exact .inl ⟨ok.stop H2 hfz,E.nx H2 B2 σ2 δ2 n2 (back R2) q2⟩⟩
end
def jD(fr:List (Option Nat))(δ:Sl):Sl:=fr.map λo=>o.bind λi=>match δ[i]? with
 |some (ae (.w x))=>ae (.w x)
 |some (ae (.odk kvs))=>ae (.w (.dk kvs))
 |some (ae (.own ds))=>ae (.w (.ln ds))
 |_=>ah
def c9(g:eM)(c:c8)(w:DT)(Q:List Aa->Int->Prop):List Aa->List Aa->Sl->Int->Prop
 |[],acc,_,n=>Q acc n
 |d::r,acc,δ,n=>g d δ λδ'=>c δ' n λb n1=>if b=ai then w δ' n1 λx n2=>match x with
   |.d y=>c9 g c w Q r (acc++[y]) δ' n2
   |_=>False
  else c9 g c w Q r acc δ' n1
def cQ(fr:List (Option Nat))(v:iq)(g:eM)(c:c8)(w:DT):fX:=λδ n Q=>v δ n λds n1=>c9 g c w Q ds [] (jD fr δ) n1
structure DIf(X:Cx)(ifs:List Expr)(t:TT)(c:c8):Prop where
 pf:pY X ifs t
 sd:ke t c
def cO:c8:=λ_ n Q=>Q ai n
theorem NF{X:Cx}:DIf X [] zd cO:=⟨LW,λC H B σ δ n Q Q' R q k=>k ai H n R (Kp.refl _ _) q⟩
theorem Jg{X:Cx}{c:Expr}{t:TT}{cc:c8}(h:DC X c t cc):DIf X [c] t cc:=⟨Tx h.pt,h.sd⟩
theorem NG(fr:List (Option Nat))(σ:St):(d3 fr σ).length=fr.length:=by unfold d3;rw[Ab]
theorem JK(fr:List (Option Nat))(δ:Sl):(jD fr δ).length=fr.length:=by unfold jD;rw[Ab]
theorem xa{fr:List (Option Nat)}{δ:Sl}{j:Nat}{x:SV}(h:(jD fr δ)[j]?=ae (ae x)):∃i y,fr[j]?=ae (ae i)/\δ[i]?=ae (ae y)/\((∃z,x=.w z/\y=.w z)\/(∃kvs,x=.w (.dk kvs)/\y=.odk kvs)\/∃ds,x=.w (.ln ds)/\y=.own ds):=by
 unfold jD at h;rw[A1]at h;cases e:fr[j]? with
 |none=>rw[e]at h;cases h
 |some o=>
  rw[e]at h;cases o with
  |none=>cases h
  |some i=>
   have h':=A8 h;dsimp only[Option.bind]at h'
   split at h'
   ·rename_i z ez;cases h';exact⟨i,_,rfl,ez,.inl ⟨z,rfl,rfl⟩⟩
   ·rename_i kvs ez;cases h';exact⟨i,_,rfl,ez,.inr (.inl ⟨kvs,rfl,rfl⟩)⟩
   ·rename_i ds ez;cases h';exact⟨i,_,rfl,ez,.inr (.inr ⟨ds,rfl,rfl⟩)⟩
   ·cases h'
theorem S8{fr:List (Option Nat)}{σ:St}{j i:Nat}{v:V}(h:fr[j]?=ae (ae i))(h2:σ[i]?=ae (ae v)):(d3 fr σ)[j]?=ae (ae v):=by
 unfold d3;rw[A1,h];show ae ((σ[i]?).bind id)=_;rw[h2];rfl
theorem Sn{C:Ctx}{H:Hp}{B:Addr->Prop}{σ:St}{δ:Sl}{n:Int}{L:Addr}{fr:List (Option Nat)}(R:Rel C H B σ δ n)(hL:H L=ah):
  Rel ⟨C.t,C.l,C.ns,H,B,eC H B⟩ (upd H L (.lst [])) (λb=>B b\/b=L) (d3 fr σ) (jD fr δ) n where
 tp:=R.tp.new hL
 kp:=Kp.new hL
 t0:=R.ba _ R.bt
 l0:=by
  show H C.l.s≠ah;rw[R.tp.ls];exact λz=>nomatch z
 g0:=λe=>by
  show H C.l.g≠ah;rw[R.tp.ag e];exact λz=>nomatch z
 fz:=λb o e=>by
  obtain⟨e1,e2⟩:=(oQ H B).1 b o e;exact⟨by rw[a9 (cP e1 hL)];exact e1,λz=>z.elim e2 λq=>cP e1 hL q⟩
 bt:=.inl R.bt
 b0:=λb z=>.inl z
 ba:=λb z e=>by
  by_cases q:b=L
  ·rw[q,bQ]at e;cases e
  ·rw[a9 q]at e;exact R.ba b (z.resolve_right q) e
 a0:=R.ba
 sl:=λj x e=>by
  have mv:∀b o',H b=ae o'->¬B b->upd H L (.lst []) b=ae o'/\¬(B b\/b=L):=λb o' e n=>⟨by rw[a9 (cP e hL)];exact e,λz=>z.elim n λq=>cP e hL q⟩;obtain⟨i,y,e1,e2,hy⟩:=xa e;obtain⟨v,f1,f2⟩:=R.sl i y e2;refine⟨v,S8 e1 f1,?_⟩;rcases hy with⟨z,rfl,rfl⟩|⟨kvs,rfl,rfl⟩|⟨ds,rfl,rfl⟩
  ·cases z with
   |d d=>exact⟨f2.1.move mv,λz=>by cases z⟩
   |tp=>exact⟨f2.1,λz=>by cases z⟩
   |ln ds=>
    obtain⟨a,l,g1,g2,g3,g4,g5⟩:=f2.1;exact⟨⟨a,l,g1,by rw[a9 (cP g2 hL)];exact g2,g3,g4,g5.move mv⟩,λ_=>⟨a,g1,by show H a≠ah;rw[g2];exact λz=>nomatch z⟩⟩
   |dk kvs=>
    obtain⟨a,l,g1,g2,g3,g4⟩:=f2.1;exact⟨⟨a,l,g1,by rw[a9 (cP g2 hL)];exact g2,g3,g4.move mv⟩,λ_=>⟨a,g1,by show H a≠ah;rw[g2];exact λz=>nomatch z⟩⟩
   |ob o=>
    refine⟨?_,λz=>by cases z⟩;exact ORel.move mv f2.1
  ·obtain⟨a,l,g1,g2,g3,g4,g5,g6⟩:=f2;exact⟨⟨a,l,g1,by rw[a9 (cP g2 hL)];exact g2,λz=>R.t0 (z▸g4),g6.move mv⟩,λ_=>⟨a,g1,by show H a≠ah;rw[g2];exact λz=>nomatch z⟩⟩
  ·obtain⟨a,l,g1,g2,g3,g4,g5,g6⟩:=f2;exact⟨⟨a,l,g1,by rw[a9 (cP g2 hL)];exact g2,λz=>R.t0 (z▸g4),g5,g6.move mv⟩,λ_=>⟨a,g1,by show H a≠ah;rw[g2];exact λz=>nomatch z⟩⟩
 ow:=λi j x y v e1 e2 o1 o2 _ _=>by
  obtain⟨_,_,_,_,hy⟩:=xa e1;rcases hy with⟨z,rfl,_⟩|⟨kvs,rfl,_⟩|⟨ds,rfl,_⟩
  ·cases o1
  ·cases o1
  ·cases o1
 len:=by rw[NG,JK]
section
variable{X:Cx}{elt tg iter:Expr}{ifs:List Expr}{scope:Ej}{cl:List (Str×Addr)}{pos:Pos}{N:List Str}{fr:List (Option Nat)}{wi:TI}{v:iq}{g:TG}{gd:eM}{tt:TT}{cc:c8}{te:TE}{we:DT}
def iI(δ:Sl):Prop:=∀(i:Nat)(x:SV),δ[i]?=ae (ae x)->x.isOwn=aj
theorem JM(fr:List (Option Nat))(δ:Sl):iI (jD fr δ):=λi x e=>by
 obtain⟨_,_,_,_,hy⟩:=xa e;rcases hy with⟨z,rfl,_⟩|⟨kvs,rfl,_⟩|⟨ds,rfl,_⟩<;>rfl
def l6(v:eM):Prop:=∀d δ Q,iI δ->v d δ Q->v d δ λδ'=>iI δ'/\Q δ'
theorem wz(i:Nat):l6 (aJ i):=λd δ Q h q=>⟨λj x e=>by
 rcases gP e with⟨_,rfl⟩|⟨_,e'⟩
 ·rfl
 ·exact h j x e',q⟩
theorem xy(hc:X.calm=ai)(S:CompSc X N scope cl fr)(hi:DI X tg iter wi v)(hg:∀s H fp,DG (dj X N scope cl s H fp) tg g gd)(ht:∀s H fp,DIf (dj X N scope cl s H fp) ifs tt cc)
  (he:∀s H fp,DE (dj X N scope cl s H fp) elt te we) (hno:l6 gd) (hs:∀x,D5 iter X.env x=pure x:=by intro _;rfl):
  DF X (.ListComp elt [⟨tg,iter,ifs,0⟩] scope pos) (nX fr wi g tt te) (cQ fr v gd cc we):=by
 refine⟨Ki hc S hi.pi (λs H fp=>(hg s H fp).pg) (λs H fp=>(ht s H fp).pf) (λs H fp=>(he s H fp).pe) hs,λC H B σ δ n Q Q' R q k=>hi.sd C H B σ δ n _ _ R q λJ ds H1 n1 R1 k1 hJ q1=>λL hL=>?_⟩;have sg:=(hg X.s₀ X.H₀ []).sd;have st:=(ht X.s₀ X.H₀ []).sd;have se:=(he X.s₀ X.H₀ []).sd;have ok:=hJ (eC H1 B) (oQ H1 B);have hLt:L≠C.t:=λz=>R1.ba _ R1.bt (z▸hL);refine⟨λi m ys τ H=>m=ds.length-i/\i<=ds.length/\ys.length<=i/\∃δ' n' acc,Rel ⟨C.t,C.l,C.ns,H1,B,eC H1 B⟩ H (λb=>B b\/b=L) τ δ' n'/\iI δ'/\H L=ae (.lst ys)/\RdXs H (λb=>B b\/b=L) ys acc/\c9 gd cc we Q (ds.drop i) acc δ' n',
  ⟨ds.length,by simp,Bk _,Bk _,jD fr δ,n1,[],Sn R1 hL,JM fr δ,bQ,.nil,by simpa using q1⟩,?_⟩
 rintro i m ys τ H2 ⟨rfl,hi,hys,δ2,n2,acc,R2,no2,hL2,rd2,q2⟩
 have hfz:∀b o,eC H1 B b=ae o->H2 b=ae o:=λb o e=>(R2.fz b o e).1;by_cases hlt:i < ds.length
 ·rw[E2 hlt]at q2;refine .inr ⟨ok.go i H2 hfz hlt,Bm (Nat.lt_of_le_of_lt hys hlt) ok.le,λx H' hy=>?_⟩;obtain⟨sm,rd⟩:=ok.yld i H2 x H' ds[i] hfz (Ak hlt) hy;have R3:=R2.same sm;refine sg _ H' _ τ δ2 n2 x ds[i] _ _ R3 (rd _ (λb o e=>(R2.fz b o e).2) R2.ba) (hno _ _ _ no2 q2) λτ3 δ3 R4 ⟨no3,q4⟩=>?_;refine st _ H' _ τ3 δ3 n2 _ _ R4 q4 λb H4 n4 R5 k5 q5=>?_;have hL4:H4 L=ae (.lst ys):=k5 _ _ (sm _ _ hL2) hLt;have rd4:RdXs H4 (λb=>B b\/b=L) ys acc:=(rd2.keep λb o e _=>sm b o e).kp k5 R4.bt;cases b with
  |false=>
   rw[if_neg Ae]at q5 ⊢;exact⟨ds.length-(i+1),by omega,rfl,hlt,by omega,δ3,n4,acc,R5,no3,hL4,rd4,q5⟩
  |true=>
   rw[if_pos rfl]at q5 ⊢;refine se _ H4 _ τ3 δ3 n4 _ _ R5 q5 λu y H5 n5 R6 k6 r6 q6=>?_;cases y with
   |d y=>
    have hL5:H5 L=ae (.lst ys):=k6 _ _ hL4 hLt;refine⟨hL5,ds.length-(i+1),by omega,rfl,hlt,by rw[Af,Av];omega,δ3,n5,acc++[y],R6.mut (.inr rfl) hL λj z e o=>absurd (no3 j z e) (by rw[o];exact λq=>nomatch q),no3,bQ,?_,q6⟩;refine RdXs.keep (λb o e n=>?_) ((rd4.kp k6 R5.bt).append (.cons r6 .nil));rw[a9 λ(z:b=L)=>n (.inr z)];exact e
   |tp=>exact q6.elim
   |dk _=>exact q6.elim
   |ln _=>exact q6.elim
   |ob _=>exact q6.elim
 ·have e:i=ds.length:=by omega
  subst e;rw[List.drop_length]at q2;refine .inl ⟨ok.stop H2 hfz,k L ys acc H2 n2 (R1.step R2.tp R2.kp) (k1.trans R2.kp) (R1.was k1 hL) hL2 (A3 hys ok.le) rd2 q2⟩
end
abbrev eT:=List Aa->Sl->(Sl->Prop)->Prop
def Rj(g:iM)(v:eT):Prop:=∀(C:Ctx)(H:Hp)(B:Addr->Prop)(σ:St)(δ:Sl)(n:Int)(xs:List V)(ds:List Aa)(Q:Sl->Prop)(Q':St->Hp->Prop),Rel C H B σ δ n->RdXs H B xs ds->v ds δ Q->
 (∀σ' δ',Rel C H B σ' δ' n->Q δ'->Q' σ' H)->g xs σ H Q'
structure DGs(X:Cx)(ts:List Expr)(g:iM)(v:eT):Prop where
 pg:pJ X ts g
 sd:Rj g v
def cn:eT:=λds δ Q=>match ds with
 |[]=>Q δ
 |_=>False
def bj(v:eM)(r:eT):eT:=λds δ Q=>match ds with
 |d::ds=>v d δ λδ'=>r ds δ' Q
 |[]=>False
def di(n:Nat)(r:eT):eM:=λd δ Q=>match d with
 |.tuple ds=>ds.length=n/\r ds δ Q
 |_=>False
theorem Jw:∀ds δ Q,iI δ->cn ds δ Q->cn ds δ λδ'=>iI δ'/\Q δ':=λds δ Q h q=>by
 cases ds with
 |nil=>exact⟨h,q⟩
 |cons _ _=>exact q
theorem zW{v:eM}{r:eT}(mono:∀d δ (Q Q':Sl->Prop),(∀δ',Q δ'->Q' δ')->v d δ Q->v d δ Q')(hv:l6 v)(hr:∀ds δ Q,iI δ->r ds δ Q->r ds δ λδ'=>iI δ'/\Q δ'):∀ds δ Q,iI δ->bj v r ds δ Q->bj v r ds δ λδ'=>iI δ'/\Q δ':=λds δ Q h q=>by
 cases ds with
 |nil=>exact q
 |cons d ds=>exact mono d δ _ _ (λδ' z=>hr ds δ' Q z.1 z.2) (hv d δ _ h q)
theorem OE{n:Nat}{r:eT}(hr:∀ds δ Q,iI δ->r ds δ Q->r ds δ λδ'=>iI δ'/\Q δ'):l6 (di n r):=λd δ Q h q=>by
 unfold di at q ⊢
 split at q
 ·exact⟨q.1,hr _ _ _ h q.2⟩
 ·exact q.elim
theorem Js(i j n:Nat):l6 (di n (bj (aJ i) (bj (aJ j) cn))):=
 OE (zW (λ_ _ _ _ h q=>h _ q) (wz i) (zW (λ_ _ _ _ h q=>h _ q) (wz j) Jw))
section
variable{X:Cx}{pos:Pos}
theorem Kn:DGs X [] lW cn:=⟨BN,λC H B σ δ n xs ds Q Q' R r q k=>by
 cases r with
 |nil=>exact⟨rfl,k σ δ R q⟩
 |cons _ _=>exact q.elim⟩
end
section
variable{X:Cx}{pos:Pos}
theorem Ly{e:Expr}{es:List Expr}{t:TG}{u:iM}{v:eM}{r:eT}(h1:DG X e t v)(h2:DGs X es u r)
  (hs:(C2 (e::es) X.env).map (·.2)=Fq e X.env::(C2 es X.env).map (·.2):=by rfl):DGs X (e::es) (rC t u) (bj v r):=⟨ug h1.pg h2.pg hs,λC H B σ δ n xs ds Q Q' R rr q k=>by
 cases rr with
 |nil=>exact q.elim
 |cons r1 r2=>exact⟨_,_,rfl,h1.sd C H B σ δ n _ _ _ _ R r1 q λσ' δ' R' q'=>h2.sd C H B σ' δ' n _ _ _ _ R' r2 q' k⟩⟩
theorem T5{es:List Expr}{k:Nat}{t:iM}{n:Nat}{r:eT}(h:DGs X es t r)(hc:X.calm=ai:=by rfl)
  (hn:(C2 es X.env).length=n:=by rfl) (hst:(C2 es X.env).findIdx? (·.1)=ah:=by rfl):DG X (.Tuple es k pos) (j3 X.K n t) (di n r):=⟨FK hc h.pg hn hst,λC H B σ δ n' x d Q Q' R rr q k=>by
 unfold di at q
 split at q
 ·rename_i ds;cases rr with
  |@tup ay ys _ e1 e2 e3 e4=>exact⟨ay,ys,rfl,SqT.of e1,by rw[e4.len];exact q.1,h.sd C H B σ δ n' _ _ _ _ R e4 q.2 k⟩
 ·exact q.elim⟩
def uh:List Aa->Option (List Str)
 |[]=>ae []
 |.str b::r=>(uh r).map (b::·)
 |_::_=>ah
def UD(w w':DT):DT:=λδ n Q=>w δ n λx n1=>match x with
 |.d (.str z)=>w' δ n1 λy n2=>match y with
  |.d (.list ds)=>match uh ds with
   |some ys=>(ys.map (·.length)).sum+ys.length*z.length<=16777216/\Q (.d (.str (Txt.join z ys))) n2
   |none=>False
  |.d (.tuple ds)=>match uh ds with
   |some ys=>(ys.map (·.length)).sum+ys.length*z.length<=16777216/\Q (.d (.str (Txt.join z ys))) n2
   |none=>False
  |_=>False
 |_=>False
def fQ(i:Nat)(wj w:DT):aP:=λδ n K=>match δ[i]? with
 |some (ae (.own ds))=>w δ n λx n1=>wj δ n1 λj n2=>match x,j with
  |.d d,.d (.int k)=>match eY ds.length k with
   |some m=>K.nx (δ.set i (ae (.own (ds.set m d)))) n2
   |none=>False
  |_,_=>False
 |_=>False
theorem Qj{i:Nat}{x:Str}{xp sp:Pos}{j e:Expr}{tj te:TE}{wj we:DT}(hN:X.N[i]?=ae x)(hj:DE X j tj wj)(he:DE X e te we)(hv:gh X.env.scope x:=by first|exact Cp rfl|exact Bz (Cp rfl)|exact Bz (Bz rfl))(hd:(x==("__debug__":Str))=aj:=by decide)
  (hcd:(x==("__classdict__":Str))=aj:=by decide)
  (ha:∀v,Fq (.Subscript (.Name x xp) j sp) X.env v=(do
   let ov <-Fl [v] (eval (.Name x xp) X.env)
   let iv <-Fl [v,ov] (eval j X.env)
   standAt sp
   Fl [v,ov,iv] (setItem ov iv v)
   release [v,ov,iv] []):=by intro _;rfl)
  (hs:swapsWithSole [.Subscript (.Name x xp) j sp] e pos.line X.env=pure aj:=by rfl) (hw:swappedStores [.Subscript (.Name x xp) j sp] e X.env=pure ah:=by rfl)
  (h1:(C2 [.Subscript (.Name x xp) j sp] X.env).map (·.2)=[Fq (.Subscript (.Name x xp) j sp) X.env]:=by rfl):
  DS X (.Assign [.Subscript (.Name x xp) j sp] e pos) (dv te (jW (cW i) tj qK)) (fQ i wj we):=
 ⟨nM he.pe (m9 (gT hN hv hd hcd) hj.pe nh ha) hs hw h1,λC H B σ δ n K D R q E=>by
  unfold fQ at q
  split at q
  ·rename_i ds ei;refine he.sd C H B σ δ n _ _ R q λu y H1 n1 R1 k1 r1 q1=>?_;obtain⟨v,hv,a,xs,rfl,e2,e3,e4,e5,e6⟩:=R1.sl i _ ei;refine⟨_,hv,hj.sd C H1 B σ δ n1 _ _ R1 q1 λw z H2 n2 R2 k2 r2 q2=>?_⟩
   split at q2
   ·rename_i d k
    split at q2
    ·rename_i m em;cases(show RdX H2 B w (.int k)from r2);have hat:a≠C.t:=λz=>R.t0 (z▸e4);have e2':=k2 _ _ e2 hat;have r1':RdX H2 B u d:=r1.kp k2 R1.bt;refine⟨a,xs,k,m,rfl,rfl,e2',by rw[e6.len];exact em,?_⟩;refine E.nx _ _ _ _ _ (R2.mutOwn ei rfl hv e3 e4 ?_ rfl) q2;refine⟨a,xs.set m u,rfl,bQ,e3,e4,by rw[B4];exact e5,?_⟩;refine RdXs.keep (λb o e n=>?_) (RdXs.set m (e6.kp k2 R1.bt) r1');rw[a9 λ(z:b=a)=>n (z▸e3)];exact e
    ·exact q2.elim
   ·exact q2.elim
  ·exact q.elim⟩
end
structure Has(P:Bf)(w:Bx)(K:Ag)(mg:Str->Option Aj)(base:Heap)(k:Nat)(x:Str)(ps:List Str)(S:bu):Prop where
 ex:∃(f:Addr)(fd:Cm),FnOk P w K mg base dO k f fd ps (fR S)/\Binds K fd ps []/\mg x=ae (.ref f)/\Co K (.ref f)=ai
section
variable{P:Bf}{w:Bx}{K:Ag}{mg:Str->Option Aj}{base:Heap}
theorem Has.mk'{k:Nat}{x qual:Str}{st:Stmt}{ps:List Str}{S:bu}{f:Addr}{fd:Cm}(F:Fun K x qual st f fd)(m:mg x=ae (.ref f))(b:Binds K fd ps [])(h:FnOk P w K mg base dO k f fd ps (fR S)):Has P w K mg base k x ps S:=⟨f,fd,h,b,m,F.kp⟩
end
theorem T3{X:Cx}{e:Expr}{es:List Expr}{pos p:Pos}{tR:TA}{wR:fc}{k:Nat}{ps:List Str}{S:bu}{x:Str}(h:Has X.prog X.w X.K X.mg X.base k x ps S)(hr:Room k X.A)(hg:Gl X x)
  (ha:DA X (e::es) tR wR) (hdb:(x==("__debug__":Str))=aj:=by decide) (he:Aw (e::es) X.env=(aj,eval e X.env)::Aw es X.env:=by rfl) (hpl:(C5 pos (Aw es X.env)).any (·.1)=aj:=by rfl):
  DE X (.Call (.Name x p) (e::es) [] pos) (jA (fR S) [] E0 tR) (aF S wR):=by
 obtain⟨f,fd,h1,h2,h3,h4⟩:=h.ex;exact NZ h1 hr hg h3 h4 h2 ha hdb he hpl
theorem Qq{cl cells:List (Str×Addr)}(h:∀y∈cl,cells.lookup y.1=ae y.2):∀x c,cl.lookup x=ae c->cells.lookup x=ae c:=λx c e=>h _ (rK e)
def cq:bu:=λws n Q=>match ws with
 |[.tp,.d (.int many)]=>(n < 2 ^ 40/\0 < many/\many < 1073741824)/\∀r:Int,0<=r->r < many->Q (.d (.int r)) (n+1)
 |_=>False
section
variable{P:Bf}{w:Bx}{K:Ag}{mg:Str->Option Aj}{base:Heap}
theorem P0{k:Nat}{f:Addr}{fd:Cm}{ps:List Str}(h:FnOk P w K mg base dO k f fd ps zv):FnOk P w K mg base dO k f fd ps (fR cq):=h.imp λvs H Q E hs=>by
 obtain⟨t,l,ns,B,ws,n,Q0,T,bt,ba,r,q,kk⟩:=hs;unfold cq at q
 split at q
 ·rename_i many;cases r with
  |cons r1 r2=>
   cases r2 with
   |cons r3 r4=>
    cases r4;cases(show _=V.ref t from r1);cases(show RdX H B _ (.int many)from r3);exact⟨t,l,ns,n,many,rfl,T,q.1.1,q.1.2.1,q.1.2.2,λr H' h0 h1 T' k'=>kk _ _ (q.2 r h0 h1) _ H' T' k' (.int r)⟩
 ·exact q.elim
def spLaw(K:Ag):Sp:=λvs H Q _=>∃(a:Addr)(ns:List Int),vs=[.ref a]/\SqL K H a (ns.map V.int)/\ns.length<=63/\∀H',Q (.bl ai) H'
def pK:DEnds:={ nx:=λ_ _=>False,rt:=λw _=>w=.d (.bool ai)}
theorem QW{H:Hp}{t:Addr}{l:TL}{ns:List Int}{a:V}{k:Nat}(T:Tp H t l ns 0):Rel ⟨t,l,ns,H,λb=>b=t,λ_=>ah⟩ H (λb=>b=t) (ae a::ae (.ref t)::C4 k ah) (ah::ae (.w .tp)::C4 k ah) 0 where
 tp:=T
 kp:=Kp.refl _ _
 t0:=by
  obtain⟨_,_,h,_⟩:=T.ob;show H t≠ah;rw[h];exact λz=>nomatch z
 l0:=by
  show H l.s≠ah;rw[T.ls];exact λz=>nomatch z
 g0:=λe=>by
  show H l.g≠ah;rw[T.ag e];exact λz=>nomatch z
 fz:=λb o e=>nomatch e
 bt:=rfl
 b0:=λ_ z=>z
 ba:=λb z=>by
  obtain⟨_,_,h,_⟩:=T.ob;rw[z,h];exact λz=>nomatch z
 a0:=λb z=>by
  obtain⟨_,_,h,_⟩:=T.ob;show H b≠ah;rw[show b=t from z,h];exact λz=>nomatch z
 sl:=λi x e=>by
  rcases i with _|_|i
  ·cases e
  ·cases e;exact⟨_,rfl,rfl,λz=>by cases z⟩
  ·have e':(C4 k (ah:Option SV))[i]?=ae (ae x):=e;rw[D6]at e'
   split at e'
   ·cases e'
   ·cases e'
 ow:=λi j x y v e1 e2 o1 o2 f1 f2=>by
  rcases i with _|_|i
  ·cases e1
  ·cases e1;cases o1
  ·have e':(C4 k (ah:Option SV))[i]?=ae (ae x):=e1;rw[D6]at e'
   split at e'
   ·cases e'
   ·cases e'
 len:=by simp
theorem OI{f fT:Addr}{fd fdT:Cm}{st:Stmt}{N:List Str}{k:Nat}{W:aP}(F:Fun K "law" "law" st f fd)(Sc:FnScope N ["_law_script"] (dB st))
  (GT:FnOk P w K mg base dO 1 fT fdT ["_law_script"] (pb K)) (bT:Binds K fdT ["_law_script"] []) (mT:mg "_law_tape"=ae (.ref fT)) (kT:Co K (.ref fT)=ai)
  (hN:∀v,start N [v]=ae v::ah::C4 (N.length-2) ah)
  (hW:W (ah::ae (.w .tp)::C4 (N.length-2) ah) 0 pK)
  (hbody:∀(cdv:Aj)(A:Ce)(outer:List Env)(s:Ar)(H:Hp)(E:XK),Room k (A.deeper (Du "law" (dB st) s.heap.objs.size f cdv))->
   ∃s0 aQ T,gM st=s0::aQ/\PS (eD dO P w K mg base N "law" (dB st) f cdv A outer s H E).nox s0 (dv (jA (pb K) [] E0 (dI (cW 0) cy)) (ib 1))/\DSs (eD dO P w K mg base N "law" (dB st) f cdv A outer s H E).nox aQ T W):
  FnOk P w K mg base dO (k+1) f fd ["_law_script"] (spLaw K):=by
 refine F.ok Sc (λvs H Q E h=>?_) (λcdv A outer s H vs Q E hr h=>?_)
 ·obtain⟨a,ns,rfl,_⟩:=h;rfl
 ·obtain⟨a,ns,rfl,hS,hl,kk⟩:=h;obtain⟨s0,aQ,T,e,p0,d⟩:=hbody cdv A outer s H E hr;rw[e];refine⟨_,iO p0 d.ps,?_⟩;rw[hN];refine⟨_,rfl,a,ns,rfl,hS,hl,λt l H1 T1 _=>?_⟩;refine d.sd ⟨t,l,ns,H1,λb=>b=t,λ_=>ah⟩ H1 (λb=>b=t) _ _ 0 pK _ (QW (a:=.ref a) (k:=N.length-2) T1) hW ⟨?_,?_,?_,?_,λ_ _ _ _ _ _ _ _ _ _ _ _ _ z=>z.elim⟩
  ·exact λ_ _ _ _ _ _ z=>z.elim
  ·intro H B σ δ n v w R r z;have z:w=.d (.bool ai):=z;subst z;cases(show RdX H B v (.bool ai)from r);exact kk H
  ·exact λ_ _ _ _ _ _ z=>z.elim
  ·exact λ_ _ _ _ _ _ z=>z.elim
end
section
variable{X:Cx}{elt tg iter:Expr}{ifs:List Expr}{scope:Ej}{cl:List (Str×Addr)}{cpos pos pos':Pos}{N:List Str}{fr:List (Option Nat)}{wi:TI}{v:iq}{g:TG}{gd:eM}{tt:TT}{cc:c8}{te:TE}{we:DT}{i:Nat}{x:Str}
theorem RJ{t:TE}{w:fX}(h:jQ t w):j6 (dv t (ib i)) (bz i w):=λC H B σ δ n K D R q E=>
 h C H B σ δ n _ _ R q λa xs ds H1 n1 R1 k1 h0 h1 h2 h3 q1=>by
  refine E.nx _ _ _ _ _ (R.own R1 k1 h0 (by rw[h1];exact λz=>nomatch z) rfl ?_) q1;exact⟨a,xs,rfl,h1,.inr rfl,R.h0 h0,h2,h3⟩
theorem Uc{t:TE}{w:DT}(h:eS t w):j6 (dv t (ib i)) (aA i w):=λC H B σ δ n K D R q E=>
 h C H B σ δ n _ _ R q λv x H1 n1 R1 _ r1 q1=>by
  cases x with
  |d d=>exact E.nx _ _ _ _ _ (R1.set r1 rfl) q1
  |tp=>exact E.nx _ _ _ _ _ (R1.set r1 rfl) q1
  |dk _=>exact q1.elim
  |ln _=>exact q1.elim
  |ob _=>exact E.nx _ _ _ _ _ (R1.set r1 rfl) q1
theorem So(hN:X.N.Nodup)(hix:X.N[i]?=ae x)(hx:X.env.scope.names.lookup x=ae .local)(hc:X.calm=ai)(S:CompSc X N scope cl fr)(hi:DI X tg iter wi v)(hg:∀s H fp,DG (dj X N scope cl s H fp) tg g gd)(ht:∀s H fp,DIf (dj X N scope cl s H fp) ifs tt cc)
  (he:∀s H fp,DE (dj X N scope cl s H fp) elt te we) (hno:l6 gd) (hs:∀x,D5 iter X.env x=pure x:=by intro _;rfl)
  (hsw:Dt (.ListComp elt [⟨tg,iter,ifs,0⟩] scope cpos) (ae (.Name x pos')) pos.line X.env=pure ai:=by rfl):
  DS X (.Assign [.Name x pos'] (.ListComp elt [⟨tg,iter,ifs,0⟩] scope cpos) pos) (dv (nX fr wi g tt te) (ib i)) (bz i (cQ fr v gd cc we)):=
 ⟨G3 hN hix hx hc S hi.pi (λs H fp=>(hg s H fp).pg) (λs H fp=>(ht s H fp).pf) (λs H fp=>(he s H fp).pe) hs hsw,RJ (xy (pos:=cpos) hc S hi hg ht he hno hs).sd⟩
theorem RO(hN:X.N.Nodup)(hix:X.N[i]?=ae x)(hx:X.env.scope.names.lookup x=ae .local)(hc:X.calm=ai)(S:CompSc X N scope cl fr)(hi:DI X tg iter wi v)(hg:∀s H fp,DG (dj X N scope cl s H fp) tg g gd)(ht:∀s H fp,DIf (dj X N scope cl s H fp) ifs tt cc)
  (he:∀s H fp,DE (dj X N scope cl s H fp) elt te we) (hno:l6 gd) (hs:∀x,D5 iter X.env x=pure x:=by intro _;rfl)
  (hsw:Dt (.ListComp elt [⟨tg,iter,ifs,0⟩] scope cpos) (ae (.Name x pos')) pos.line X.env=pure ai:=by rfl):
  DS X (.Assign [.Name x pos'] (.ListComp elt [⟨tg,iter,ifs,0⟩] scope cpos) pos) (dv (nX fr wi g tt te) (ib i)) (aA i (aW (cQ fr v gd cc we))):=
 ⟨G3 hN hix hx hc S hi.pi (λs H fp=>(hg s H fp).pg) (λs H fp=>(ht s H fp).pf) (λs H fp=>(he s H fp).pe) hs hsw,Uc (xy (pos:=cpos) hc S hi hg ht he hno hs).d.sd⟩
end
section
variable{X:Cx}{tg a b c e:Expr}{ta tb tc te:TE}{wa wb wc we:DT}{pos p:Pos}{K:Ag}
theorem RT(ha:DE X a ta wa)(hb:DE X b tb wb)(hK:X.K=K:=by rfl):DE X (.BinOp a .Add b pos) (dR (mz K) ta tb) (w2 wa wb fk):=by subst hK;exact OA ha hb
theorem LA(ha:DE X a ta wa)(hb:DE X b tb wb)(hK:X.K=K:=by rfl)(hs:nF b:=by exact λ_ _=>rfl):DE X (.Subscript a b pos) (dR (ko K) ta tb) (w2 wa wb aB):=by subst hK;exact uU ha hb hs
def v9(K:Ag)(T:String):List V->Hp->VK->Prop:=λxs H Q=>∃x t b,xs=[x,.ty T]/\TyOf K H x t/\PySem.W.kitOne K t (.type T)=ae b/\Q (.bl b) H
theorem Mv{T:String}{x:Str}{p p2:Pos}(hT:T="int"\/T="bool"\/T="str"\/T="tuple"\/T="list")(hg:Gl X "isinstance")(hm:X.mg "isinstance"=ah)(hg2:Gl X x)(hm2:X.mg x=ah)(hv:By x=ae (.type T))(ha:DE X a ta wa)(hK:X.K=K:=by rfl)(hn:x≠"__name__":=by decide)(hdb:(x==("__debug__":Str))=aj:=by decide)
  (he:Aw [a,.Name x p2] X.env=(aj,eval a X.env)::Aw [.Name x p2] X.env:=by rfl) (he2:Aw [.Name x p2] X.env=(aj,eval (.Name x p2) X.env)::Aw [] X.env:=by rfl) (hpl:(C5 pos (Aw [.Name x p2] X.env)).any (·.1)=aj:=by rfl):
  DE X (.Call (.Name "isinstance" p) [a,.Name x p2] [] pos) (gB (v9 K T) (dI ta (dI (tC (.ty T)) cy))) (bw T wa):=by subst hK;exact QJ hT hg hm hg2 hm2 hv ha hn hdb he he2 hpl
def md(K:Ag):R2:=λx y H Q=>qv x y H Q\/rh x y H Q\/qQ K x y H Q
theorem qF(hu:X.A.units < Fb)(hK:X.K=K:=by rfl):OpR X (Bs .Eq) (md K):=by subst hK;exact Q3 hu
theorem xI:bH (md K) aV:=OG
theorem xl(hK:X.K=K:=by rfl):OpR X (Bs .In) (iJ K aj):=by subst hK;exact Rq
theorem rA(hK:X.K=K:=by rfl):OpR X (Bs .NotIn) (iJ K ai):=by subst hK;exact Jh
def xu(K:Ag):List V->Hp->VK->Prop:=λxs H Q=>(∃z,xs=[.str z]/\z.length<=Ay/\Q (.int z.length) H)\/∃p ys,xs=[.ref p]/\(SqL K H p ys\/SqT K H p ys)/\Q (.int ys.length) H
theorem ED(hK:X.K=K:=by rfl):CallR X (.builtin "len") (xu K):=by subst hK;exact Sg
theorem CZ:d7 (xu K) aX:=MA
def uz(K:Ag):List V->Hp->VK->Prop:=λxs H Q=>∃p ys,xs=[.ref p]/\((SqL K H p ys/\∀l,H l=ah->Q (.ref l) (upd H l (.tup ys)))\/(SqT K H p ys/\Q (.ref p) H))
theorem Ig(hK:X.K=K:=by rfl):CallR X (.type "tuple") (uz K):=by subst hK;exact Ji
theorem HD:d7 (uz K) d5:=KB
def xF(K:Ag):List V->Hp->VK->Prop:=λxs H Q=>∃p ys,xs=[.ref p]/\(SqL K H p ys\/SqT K H p ys)/\∀l,H l=ah->Q (.ref l) (upd H l (.lst ys))
theorem yJ(hK:X.K=K:=by rfl):CallR X (.type "list") (xF K):=by subst hK;exact Lh
theorem Kx:d7 (xF K) iH:=NY
theorem T7(ha:DE X a ta wa)(hK:X.K=K:=by rfl):DI X tg a (xO K ta) (fA wa):=by subst hK;exact RD ha
theorem IB(ha:DE X a ta wa)(hK:X.K=K:=by rfl):DI X tg a (k7 K ta) (ft wa):=by subst hK;exact Kw ha
theorem OY{es:List Expr}{k:Nat}{t:iM}{n:Nat}{r:eT}(h:DGs X es t r)(hc:X.calm=ai:=by rfl)(hK:X.K=K:=by rfl)
  (hn:(C2 es X.env).length=n:=by rfl) (hst:(C2 es X.env).findIdx? (·.1)=ah:=by rfl):DG X (.Tuple es k pos) (j3 K n t) (di n r):=by subst hK;exact T5 h hc hn hst
end
end DL
namespace KS
open PySem PySem.W PyProof.Rows
def run{α:Type}(c:Nat->Nat->Bool):KasT α->α
 |.ret a=>a
 |.ask i j k=>run c (k (c i j))
theorem mO{α β:Type}(c:Nat->Nat->Bool)(f:α->KasT β):∀t:KasT α,run c (t.bind f)=run c (f (run c t))
 |.ret _=>rfl
 |.ask i j k=>mO c f (k (c i j))
def Wi{α:Type}(n:Nat)(P:α->Prop):KasT α->Prop
 |.ret a=>P a
 |.ask i j k=>i < n/\j < n/\∀b,Wi n P (k b)
theorem Wi.bind{α β:Type}{n:Nat}{P:α->Prop}{R:β->Prop}{f:α->KasT β}(hf:∀a,P a->Wi n R (f a)):∀{t:KasT α},Wi n P t->Wi n R (t.bind f)
 |.ret a,h=>hf a h
 |.ask i j k,h=>⟨h.1,h.2.1,λb=>Wi.bind hf (h.2.2 b)⟩
theorem Wi.out{α:Type}{n:Nat}{P:α->Prop}(c:Nat->Nat->Bool):∀{t:KasT α},Wi n P t->P (run c t)
 |.ret a,h=>h
 |.ask i j k,h=>Wi.out c (t:=k (c i j)) (h.2.2 (c i j))
theorem wp_run{α:Type}{n:Nat}{P:α->Prop}{cmp:Nat->Nat->(Bool->Ar->Prop)->Ar->Prop}{c:Nat->Nat->Bool}{St:Ar->Prop}{Q:α->Ar->Prop}
  (hc:∀i j C s,i < n->j < n->St s->(∀s',St s'->C (c i j) s')->cmp i j C s):∀(t:KasT α)(s:Ar),Wi n P t->St s->(∀s',St s'->Q (run c t) s')->t.kasWp cmp Q s
 |.ret a,s,_,hs,h=>h s hs
 |.ask i j k,s,w,hs,h=>hc i j _ s w.1 w.2.1 hs λs' hs'=>wp_run hc (k (c i j)) s' (w.2.2 _) hs' h
def Lo(n:Nat)(p:Array Nat):Prop:=∀i,p.getD i 0 < n
theorem kR(p:Array Nat)(i:Nat):p.getD i 0=(p[i]?).getD 0:=by simp
theorem Sv{n:Nat}{p:Array Nat}(hn:0 < n)(h:∀x∈p,x < n):Lo n p:=λi=>by
 rw[kR];cases e:p[i]? with
 |none=>exact hn
 |some x=>exact h x (Array.mem_of_getElem? e)
def Pm(n:Nat)(p:Array Nat):Prop:=p.Perm (Dd (Ba n))
theorem Pm.size{n:Nat}{p:Array Nat}(h:Pm n p):p.size=n:=by rw[Array.Perm.size_eq h];simp
theorem Pm.lo{n:Nat}{p:Array Nat}(hn:0 < n)(h:Pm n p):Lo n p:=Sv hn λx hx=>by
 have:x∈Dd (Ba n):=(Array.Perm.mem_iff h).mp hx;simpa using this
theorem Pm.rev{n:Nat}{p:Array Nat}(h:Pm n p)(i j:Nat):Pm n (D4 p i j):=(mirror_perm p i j _).trans h
theorem Pm.bub{n:Nat}{p:Array Nat}(h:Pm n p)(i j:Nat):Pm n (bubble p i j):=(bubble_perm p i j).trans h
section
variable{n:Nat}(hn:0 < n)
include hn
theorem vJ{p:Array Nat}(h:Lo n p):∀f m,Wi n (λ_=>True) (kas_asc p f m)
 |0,m=>trivial
 |f+1,m=>⟨h _,h _,λb=>by
  cases b with
  |true=>exact trivial
  |false=>exact vJ h f (m+1)⟩
theorem tK:∀f (p:Array Nat) m q,Pm n p->Wi n (λr=>Pm n r.1) (kas_desc f p m q)
 |0,p,m,q,h=>h
 |f+1,p,m,q,h=>⟨h.lo hn _,h.lo hn _,λb=>by
  cases b with
  |true=>
   show Wi n _ (if q > 0 then _ else _)
   split
   ·exact tK f _ _ _ (h.rev _ _)
   ·exact tK f _ _ _ h
  |false=>exact⟨h.lo hn _,h.lo hn _,λd=>by
    cases d with
    |true=>exact h
    |false=>exact tK f _ _ _ h⟩⟩
theorem BR(m nrem:Nat){p:Array Nat}(h:Pm n p):Wi n (λr=>Pm n r.2) (kas_tail3 m nrem p):=by
 unfold kas_tail3;refine Wi.bind (P:=λ_=>True) (λa _=>?_) (vJ hn ((h.rev 0 m).lo hn) _ _);show Pm n (D4 p 0 m);exact h.rev _ _
theorem GJ(m nrem:Nat){p:Array Nat}(h:Pm n p):Wi n (λr=>Pm n r.2) (kas_descPart m nrem p):=
 Wi.bind (λr hr=>by
  show Wi n _ (if r.2.2 > 0 then _ else _)
  split
  ·exact BR hn _ _ (Pm.rev hr _ _)
  ·exact BR hn _ _ hr) (tK hn _ p _ _ h)
theorem KY(nrem:Nat){p:Array Nat}(h:Pm n p):Wi n (λr=>Pm n r.2) (kas_count nrem p):=
 Wi.bind (λm _=>by
  show Wi n _ (if (m==nrem)=ai then _ else if m > 1 then _ else _)
  split
  ·exact h
  ·split
   ·exact⟨h.lo hn _,h.lo hn _,λb=>by
     cases b with
     |true=>exact h
     |false=>exact GJ hn _ _ (h.rev _ _)⟩
   ·exact GJ hn _ _ h) (vJ hn (h.lo hn) _ _)
theorem wO{p:Array Nat}(h:Lo n p)(k:Nat):∀f l r,Wi n (λ_=>True) (kas_place p k f l r)
 |0,l,r=>trivial
 |f+1,l,r=>by
  show Wi n _ (if l ≥ r then _ else _)
  split
  ·exact trivial
  ·exact⟨h _,h _,λb=>by
    cases b with
    |true=>exact wO h k f _ _
    |false=>exact wO h k f _ _⟩
theorem z0:∀f (p:Array Nat) k,Pm n p->Wi n (Pm n) (kas_bin f p k)
 |0,p,k,h=>h
 |f+1,p,k,h=>Wi.bind (λl _=>z0 f _ _ (h.bub _ _)) (wO hn (h.lo hn) k _ _ _)
theorem wi_sort:Wi n (Pm n) (kas_sort n):=
 Wi.bind (λr hr=>by
  show Wi n _ (if r.1 < n then _ else _)
  split
  ·exact z0 hn _ _ _ hr
  ·exact hr) (KY hn n (Array.Perm.refl _))
end
structure Ord(lt:Nat->Nat->Bool):Prop where
 asym:∀i j,lt i j=ai->lt j i=aj
 ltr:∀i j k,lt j i=aj->lt k j=aj->lt k i=aj
section
variable{lt:Nat->Nat->Bool}(O:Ord lt)
def g(p:Array Nat)(i:Nat):Nat:=p.getD i 0
def SP(lt:Nat->Nat->Bool)(p:Array Nat)(n:Nat):Prop:=∀i j,i < j->j < n->lt (g p j) (g p i)=aj
def DP(lt:Nat->Nat->Bool)(p:Array Nat)(n:Nat):Prop:=∀i j,i < j->j < n->lt (g p i) (g p j)=aj
def Sim(lt:Nat->Nat->Bool)(x y:Nat):Prop:=lt x y=aj/\lt y x=aj
include O
theorem jE(i:Nat):lt i i=aj:=by
 cases e:lt i i with
 |false=>rfl
 |true=>exact(O.asym i i e).symm.trans e |>.symm▸rfl
theorem Sim.eq{a b x y:Nat}(h1:Sim lt a x)(h2:Sim lt b y):lt a b=lt x y:=by
 cases e:lt x y with
 |false=>exact O.ltr _ _ _ h2.2 (O.ltr _ _ _ e h1.1)
 |true=>
  cases e2:lt a b with
  |true=>rfl
  |false=>
   have:lt x y=aj:=O.ltr _ _ _ h2.1 (O.ltr _ _ _ e2 h1.2);rw[this]at e;cases e
theorem SP.snoc{p:Array Nat}{n:Nat}(h:SP lt p n)(h1:1<=n)(e:lt (g p n) (g p (n-1))=aj):SP lt p (n+1):=λi j hij hj=>by
 by_cases q:j < n
 ·exact h i j hij q
 ·have:j=n:=by omega
  subst this;by_cases r:i=j-1
  ·subst r;exact e
  ·exact O.ltr _ _ _ (h i (j-1) (by omega) (by omega)) e
theorem w6{p:Array Nat}:∀f n,1<=n->SP lt p n->n<=run lt (kas_asc p f n)/\run lt (kas_asc p f n)<=n+f/\SP lt p (run lt (kas_asc p f n))/\(run lt (kas_asc p f n)=n+f\/lt (g p (run lt (kas_asc p f n))) (g p (run lt (kas_asc p f n)-1))=ai)
 |0,n,h1,h=>⟨Ao _,Ao _,h,.inl rfl⟩
 |f+1,n,h1,h=>by
  have e:run lt (kas_asc p (f+1) n)=run lt (if lt (g p n) (g p (n-1))=ai then .ret n else kas_asc p f (n+1)):=rfl;rw[e];cases q:lt (g p n) (g p (n-1))with
  |true=>exact⟨Ao _,Nat.le_add_right _ _,h,.inr q⟩
  |false=>
   rw[if_neg Ae];obtain⟨a1,a2,a3,a4⟩:=w6 f (n+1) (by omega) (SP.snoc O h h1 q);exact⟨by omega,by omega,a3,a4.imp (λz=>by omega) id⟩
omit O
theorem uw{p:Array Nat}{i j:Nat}(hj:j<=p.size)(k:Nat):g (D4 p i j) k=if i<=k/\k < j then g p (i+j-1-k)else g p k:=by
 unfold g D4;rw[kR,kR,kR,getElem?_mirror hj _ (by omega)];by_cases h:i<=k/\k < j
 ·rw[if_pos h];by_cases q:(i<=k/\k < i+(j-i) / 2)\/(j-(j-i) / 2<=k/\k < j)
  ·rw[if_pos q]
  ·rw[if_neg q];have:i+j-1-k=k:=by omega
   rw[this]
 ·rw[if_neg h,if_neg (by omega)]
include O
theorem uf{p:Array Nat}{i j:Nat}(hj:j<=p.size)(h:∀a b,i<=a->a < j->i<=b->b < j->Sim lt (g p a) (g p b))(k:Nat):Sim lt (g (D4 p i j) k) (g p k):=by
 rw[uw hj]
 split
 ·rename_i q;exact h _ _ (by omega) (by omega) q.1 q.2
 ·exact⟨jE O _,jE O _⟩
theorem DP.sim{p p':Array Nat}{n:Nat}(h:DP lt p n)(s:∀k,Sim lt (g p' k) (g p k)):DP lt p' n:=λi j hij hj=>(Sim.eq O (s i) (s j)).trans (h i j hij hj)
theorem DP.snoc{p:Array Nat}{n:Nat}(h:DP lt p n)(h1:1<=n)(e:lt (g p (n-1)) (g p n)=aj):DP lt p (n+1):=λi j hij hj=>by
 by_cases q:j < n
 ·exact h i j hij q
 ·have:j=n:=by omega
  subst this;by_cases r:i=j-1
  ·subst r;exact e
  ·exact O.ltr _ _ _ e (h i (j-1) (by omega) (by omega))
omit O
def xN(lt:Nat->Nat->Bool)(sz n f:Nat)(r:Array Nat×Nat×Nat):Prop:=
 r.1.size=sz/\n<=r.2.1/\r.2.1<=n+f/\r.2.2+1<=r.2.1/\DP lt r.1 r.2.1/\(∀a b,r.2.1-(r.2.2+1)<=a->a < r.2.1->r.2.1-(r.2.2+1)<=b->b < r.2.1->Sim lt (g r.1 a) (g r.1 b))
def jZ(lt:Nat->Nat->Bool)(sz nrem:Nat)(r:Nat×Array Nat):Prop:=r.2.size=sz/\1<=r.1/\r.1<=nrem/\SP lt r.2 r.1
def uL(lt:Nat->Nat->Bool)(p:Array Nat)(k m:Nat):Prop:=m<=k/\(∀i,i < m->lt (g p k) (g p i)=aj)/\(∀i,m<=i->i < k->lt (g p k) (g p i)=ai)
include O
theorem tV:∀f (p:Array Nat) n q,q+1<=n->n+f<=p.size->DP lt p n->(∀a b,n-(q+1)<=a->a < n->n-(q+1)<=b->b < n->Sim lt (g p a) (g p b))->
  xN lt p.size n f (run lt (kas_desc f p n q))
 |0,p,n,q,h1,h2,h3,h4=>⟨rfl,Ao _,Ao _,h1,h3,h4⟩
 |f+1,p,n,q,h1,h2,h3,h4=>by
  have one:∀(p':Array Nat)(m:Nat)(a b:Nat),m+1-(0+1)<=a->a < m+1->m+1-(0+1)<=b->b < m+1->Sim lt (g p' a) (g p' b):=λp' m a b ha ha' hb hb'=>by
   have e1:a=m:=by omega
   have e2:b=m:=by omega
   rw[e1,e2];exact⟨jE O _,jE O _⟩
  show xN lt p.size n (f+1) (run lt (if lt (g p n) (g p (n-1))=ai then(if q > 0 then kas_desc f (D4 p (n-(q+1)) n) (n+1) 0 else kas_desc f p (n+1) 0)else .ask (p.getD (n-1) 0) (p.getD n 0) λd=>if d=ai then .ret (p,n,q)else kas_desc f p (n+1) (q+1)));cases c1:lt (g p n) (g p (n-1))with
  |true=>
   rw[if_pos rfl];by_cases hq:q > 0
   ·rw[if_pos hq];have sim:=uf O (p:=p) (i:=n-(q+1)) (j:=n) (by omega) h4;have hd:DP lt (D4 p (n-(q+1)) n) (n+1):=DP.sim O (DP.snoc O h3 (by omega) (O.asym _ _ c1)) sim;have hs:(D4 p (n-(q+1)) n).size=p.size:=mirror_size _ _ _ _;obtain⟨a1,a2,a3,a4,a5,a6⟩:=tV f (D4 p (n-(q+1)) n) (n+1) 0 (by omega) (by rw[hs];omega) hd (one _ n);exact⟨a1.trans hs,by omega,by omega,a4,a5,a6⟩
   ·rw[if_neg hq];obtain⟨a1,a2,a3,a4,a5,a6⟩:=tV f p (n+1) 0 (by omega) (by omega) (DP.snoc O h3 (by omega) (O.asym _ _ c1)) (one _ n);exact⟨a1,by omega,by omega,a4,a5,a6⟩
  |false=>
   rw[if_neg Ae];show xN lt p.size n (f+1) (run lt (if lt (g p (n-1)) (g p n)=ai then .ret (p,n,q)else kas_desc f p (n+1) (q+1)));cases c2:lt (g p (n-1)) (g p n)with
   |true=>exact⟨rfl,Ao _,by show n<=n+(f+1);omega,h1,h3,h4⟩
   |false=>
    rw[if_neg Ae];have s1:Sim lt (g p n) (g p (n-1)):=⟨c1,c2⟩;have tr:∀{x y z:Nat},Sim lt x y->Sim lt y z->Sim lt x z:=λh h'=>⟨O.ltr _ _ _ h'.1 h.1,O.ltr _ _ _ h.2 h'.2⟩;obtain⟨a1,a2,a3,a4,a5,a6⟩:=tV f p (n+1) (q+1) (by omega) (by omega) (DP.snoc O h3 (by omega) c2) (λa b ha ha' hb hb'=>by
     have key:∀x,n+1-(q+1+1)<=x->x < n+1->Sim lt (g p x) (g p (n-1)):=λx hx hx'=>by
      by_cases e:x=n
      ·rw[e];exact s1
      ·exact h4 x (n-1) (by omega) (by omega) (by omega) (by omega)
     have kb:=key b hb hb';exact tr (key a ha ha') ⟨kb.2,kb.1⟩)
    exact⟨a1,by omega,by omega,a4,a5,a6⟩
theorem HC{p:Array Nat}{n nrem:Nat}(h1:1<=n)(hn:n<=nrem)(hz:nrem<=p.size)(h:DP lt p n):jZ lt p.size nrem (run lt (kas_tail3 n nrem p)):=by
 unfold kas_tail3;rw[mO];have hs:(D4 p 0 n).size=p.size:=mirror_size _ _ _ _;have sp:SP lt (D4 p 0 n) n:=λi j hij hj=>by
  rw[uw (by omega),uw (by omega),if_pos ⟨Bk _,hj⟩,if_pos ⟨Bk _,by omega⟩];exact h _ _ (by omega) (by omega)
 obtain⟨a1,a2,a3,_⟩:=w6 O (p:=D4 p 0 n) (nrem-n) n h1 sp;exact⟨hs,by show 1<=run lt (kas_asc (D4 p 0 n) (nrem-n) n);omega,by show run lt (kas_asc (D4 p 0 n) (nrem-n) n)<=nrem;omega,a3⟩
theorem FB{p:Array Nat}{n nrem:Nat}(h1:1<=n)(hn:n+1<=nrem)(hz:nrem<=p.size)(h:DP lt p (n+1)):jZ lt p.size nrem (run lt (kas_descPart n nrem p)):=by
 unfold kas_descPart;rw[mO];obtain⟨a1,a2,a3,a4,a5,a6⟩:=tV O (nrem-(n+1)) p (n+1) 0 (by omega) (by omega) h (λa b ha ha' hb hb'=>by
  have e1:a=n:=by omega
  have e2:b=n:=by omega
  rw[e1,e2];exact⟨jE O _,jE O _⟩)
 generalize run lt (kas_desc (nrem-(n+1)) p (n+1) 0)=r at a1 a2 a3 a4 a5 a6;by_cases hq:r.2.2 > 0
 ·rw[if_pos hq];have hs:(D4 r.1 (r.2.1-(r.2.2+1)) r.2.1).size=r.1.size:=mirror_size _ _ _ _;obtain⟨b1,b2⟩:=HC O (p:=D4 r.1 (r.2.1-(r.2.2+1)) r.2.1) (n:=r.2.1) (nrem:=nrem) (by omega) (by omega) (by rw[hs];omega) (DP.sim O a5 (uf O (by omega) a6));exact⟨b1.trans (hs.trans a1),b2⟩
 ·rw[if_neg hq];obtain⟨b1,b2⟩:=HC O (p:=r.1) (n:=r.2.1) (nrem:=nrem) (by omega) (by omega) (by omega) a5;exact⟨b1.trans a1,b2⟩
theorem Mm{p:Array Nat}{nrem:Nat}(h1:1<=nrem)(hz:nrem<=p.size):jZ lt p.size nrem (run lt (kas_count nrem p)):=by
 unfold kas_count;rw[mO];obtain⟨a1,a2,a3,a4⟩:=w6 O (p:=p) (nrem-1) 1 (Ao _) (λi j hij hj=>by omega);generalize run lt (kas_asc p (nrem-1) 1)=m at a1 a2 a3 a4;by_cases q:(m==nrem)=ai
 ·rw[if_pos q];exact⟨rfl,a1,by show m<=nrem;omega,a3⟩
 ·rw[if_neg q];have hm:m≠nrem:=λz=>q (by rw[z];exact beq_self_eq_true _);have a4:lt (g p m) (g p (m-1))=ai:=a4.resolve_left (by omega);by_cases hm1:m > 1
  ·rw[if_pos hm1];show jZ lt p.size nrem (run lt (if lt (g p 0) (g p (m-1))=ai then .ret (m,p)else kas_descPart m nrem (D4 p 0 m)));cases c:lt (g p 0) (g p (m-1))with
   |true=>exact⟨rfl,a1,by show m<=nrem;omega,a3⟩
   |false=>
    rw[if_neg Ae];have hs:(D4 p 0 m).size=p.size:=mirror_size _ _ _ _;have up:∀a b,a < m->b < m->lt (g p b) (g p a)=aj:=λa b ha hb=>by
     have le0:lt (g p a) (g p 0)=aj:=by
      by_cases z:a=0
      ·rw[z];exact jE O _
      ·exact a3 0 a (by omega) ha
     have leb:lt (g p (m-1)) (g p b)=aj:=by
      by_cases z:b=m-1
      ·rw[z];exact jE O _
      ·exact a3 b (m-1) (by omega) (by omega)
     have l1:lt (g p b) (g p 0)=aj:=by
      by_cases z:b=0
      ·rw[z];exact jE O _
      ·exact a3 0 b (by omega) hb
     have l2:lt (g p 0) (g p a)=aj:=O.ltr _ _ _ (by
      by_cases z:a=m-1
      ·rw[z];exact jE O _
      ·exact a3 a (m-1) (by omega) (by omega)) c
     exact O.ltr _ _ _ l2 l1
    have all:∀a b,0<=a->a < m->0<=b->b < m->Sim lt (g p a) (g p b):=λa b _ ha _ hb=>⟨up b a hb ha,up a b ha hb⟩;have sim:=uf O (p:=p) (i:=0) (j:=m) (by omega) all;have dp:DP lt p (m+1):=DP.snoc O (λi j hij hj=>up j i hj (by omega)) a1 (O.asym _ _ a4);obtain⟨b1,b2⟩:=FB O (p:=D4 p 0 m) (n:=m) (nrem:=nrem) a1 (by omega) (by rw[hs];omega) (DP.sim O dp sim);exact⟨b1.trans hs,b2⟩
  ·rw[if_neg hm1];have e:m=1:=by omega
   subst e;exact FB O (p:=p) (Ao _) (by omega) hz (DP.snoc O (λi j hij hj=>by omega) (Ao _) (O.asym _ _ a4))
theorem um{p:Array Nat}{k:Nat}(h:SP lt p k):∀f l r,l<=r->r<=k->r-l<=f->(∀i,i < l->lt (g p k) (g p i)=aj)->(∀i,r<=i->i < k->lt (g p k) (g p i)=ai)->
  uL lt p k (run lt (kas_place p k f l r))
 |0,l,r,hlr,hr,hf,h1,h2=>by
  have e:l=r:=by omega
  subst e;exact⟨hr,h1,h2⟩
 |f+1,l,r,hlr,hr,hf,h1,h2=>by
  show uL lt p k (run lt (if l ≥ r then .ret l else .ask (p.getD k 0) (p.getD ((l+r) / 2) 0) λc=>if c=ai then kas_place p k f l ((l+r) / 2)else kas_place p k f ((l+r) / 2+1) r));by_cases q:l ≥ r
  ·rw[if_pos q];have e:l=r:=by omega
   subst e;exact⟨hr,h1,h2⟩
  ·rw[if_neg q];show uL lt p k (run lt (if lt (g p k) (g p ((l+r) / 2))=ai then kas_place p k f l ((l+r) / 2)else kas_place p k f ((l+r) / 2+1) r));cases c:lt (g p k) (g p ((l+r) / 2))with
   |true=>
    rw[if_pos rfl];refine um h f l ((l+r) / 2) (by omega) (by omega) (by omega) h1 λi hi hik=>?_;by_cases e:i=(l+r) / 2
    ·rw[e];exact c
    ·cases z:lt (g p k) (g p i)with
     |true=>rfl
     |false=>
      have:=O.ltr _ _ _ (h ((l+r) / 2) i (by omega) hik) z;rw[this]at c;cases c
   |false=>
    rw[if_neg Ae];refine um h f ((l+r) / 2+1) r (by omega) hr (by omega) (λi hi=>?_) h2;by_cases e:i=(l+r) / 2
    ·rw[e];exact c
    ·exact O.ltr _ _ _ (h i ((l+r) / 2) (by omega) (by omega)) c
omit O
theorem yP{p:Array Nat}{k l:Nat}(hk:k < p.size)(hl:l<=k)(i:Nat):g (bubble p k (k-l)) i=if i=l then g p k else if l < i/\i<=k then g p (i-1)else g p i:=by
 unfold g;rw[kR,getElem?_bubble hk _ (by omega),kR,kR,kR];have e:k-(k-l)=l:=by omega
 rw[e];by_cases h1:i=l
 ·rw[if_pos h1,if_pos h1]
 ·rw[if_neg h1,if_neg h1];by_cases h2:l < i/\i<=k
  ·rw[if_pos h2,if_pos h2]
  ·rw[if_neg h2,if_neg h2]
include O
theorem zB:∀f (p:Array Nat) k,1<=k->k+f<=p.size->SP lt p k->SP lt (run lt (kas_bin f p k)) (k+f)
 |0,p,k,h1,hz,h=>h
 |f+1,p,k,h1,hz,h=>by
  show SP lt (run lt ((kas_place p k k 0 k).bind λl=>kas_bin f (bubble p k (k-l)) (k+1))) (k+(f+1));rw[mO];obtain⟨b1,b2,b3⟩:=um O h k 0 k (Bk _) (Ao _) (by omega) (λi hi=>by omega) (λi hi hi'=>by omega);generalize run lt (kas_place p k k 0 k)=l at b1 b2 b3;have sp:SP lt (bubble p k (k-l)) (k+1):=λi j hij hj=>by
   rw[yP (by omega) b1,yP (by omega) b1];by_cases e1:j=l
   ·rw[if_pos e1,if_neg (by omega),if_neg (by omega)];exact b2 i (by omega)
   ·rw[if_neg e1];by_cases e2:l < j/\j<=k
    ·rw[if_pos e2];by_cases e3:i=l
     ·rw[if_pos e3];exact O.asym _ _ (b3 (j-1) (by omega) (by omega))
     ·rw[if_neg e3];by_cases e4:l < i/\i<=k
      ·rw[if_pos e4];exact h (i-1) (j-1) (by omega) (by omega)
      ·rw[if_neg e4];exact h i (j-1) (by omega) (by omega)
    ·rw[if_neg e2,if_neg (by omega),if_neg (by omega)];exact h i j hij (by omega)
  have:=zB f (bubble p k (k-l)) (k+1) (by omega) (by rw[bubble_size];omega) sp;have e:k+1+f=k+(f+1):=by omega
  rwa [e]at this
theorem sort_ok{n:Nat}(h1:1<=n):SP lt (run lt (kas_sort n)) n:=by
 unfold kas_sort;rw[mO];obtain⟨a1,a2,a3,a4⟩:=Mm O (p:=Dd (Ba n)) (nrem:=n) h1 (by simp);generalize run lt (kas_count n (Dd (Ba n)))=r at a1 a2 a3 a4;have hs:r.2.size=n:=by rw[a1];simp
 by_cases q:r.1 < n
 ·rw[if_pos q];have e:max r.1 1=r.1:=by omega
  rw[e];have:=zB O (n-r.1) r.2 r.1 a2 (by omega) a4;have e2:r.1+(n-r.1)=n:=by omega
  rwa [e2]at this
 ·rw[if_neg q];have e:r.1=n:=by omega
  rw[e]at a4;exact a4
end
end KS
namespace KS
open PySem PySem.W PySem.Calls PyProof.Rows
section
variable{prog:Bf}{w:Bx}{A:Ce}{E:Aj->Ar->Prop}{s:Ar}{a:Addr}{vs:List Aj}
theorem ls_sort{n:Nat}{P:PySem.Fin->Ar->Prop}(ho:s.heap.get? a=ae (Cy "list" vs.toArray n))(h2:2<=vs.length)(h64:vs.length < 64)
  (h:∀e1 h',h'.get? a=ae (Cy "list" #[] e1)->(∀b o,b≠a->s.heap.get? b=ae o->h'.get? b=ae o)->
   A6 (Bd prog w) A (keyKind' vs.toArray) (λκ s'=>(kas_sort vs.length).kasWp (kas_ask prog w A κ vs)
    (λp s''=>s''.heap.get? a=ae (Cy "list" #[] e1)/\∀h3 c,Dz a s''.heap h3->h3.get? a=ae (Cy "list" (Dd (p.toList.map λi=>vs.getD i B3)) c)->P (.done (.ret .none)) {s'' with heap:=h3}) s') (λ_ _=>False) {s with heap:=h'}):
  A6 (Bd prog w) A (Builtin.«list.sort» ⟨[.ref a],[]⟩) P E s:=by
 have ha:a < s.heap.objs.size:=Az ho;have s1:=Dv s.heap a (Cz λ_=>(#[]:Array Aj));obtain⟨e1,ho1⟩:∃e1,(s.heap.update a (Cz λ_=>(#[]:Array Aj))).get? a=ae (Cy "list" #[] e1):=⟨_,get?_update_seq ho λ_=>#[]⟩;have ask:=h e1 (((s.heap.update a (Cz λ_=>(#[]:Array Aj))).push (Cy "tuple" vs.toArray 0)).push (Cy "list" #[] 0)) (Ai _ (Ai _ ho1))
  λb o hb e=>Ai _ (Ai _ ((s1.2 b hb).trans e))
 rw[list_sort_plain];refine Ad (listItems_at ho rfl ?_);refine Ad (listUpdate_at ho rfl ?_ (by rw[A0,Ei];omega) (Bk _));refine Ad (seqEpoch_at ho1 rfl ?_);refine Ad (wpAny_newTuple ?_ (by show vs.length<=_;rw[Ei];omega));refine Ad (wpAny_newList ?_ (Bk _));refine Dh ?_;show A6 (Bd prog w) A _ P E {s with heap:=((s.heap.update a (Cz λ_=>(#[]:Array Aj))).push (Cy "tuple" vs.toArray 0)).push (Cy "list" #[] 0)};dsimp only;have hn2:¬vs.toArray.size < 2:=by rw[A0];omega
 rw[if_neg hn2,if_neg hn2];refine Ad (C7 ask (λκ s0 hk=>?_) λ_ _ x=>x.elim);refine Ad (C7 (kat_run (Q:=λst' s'=>∃p:Array Nat,p.size=vs.length/\arrOf st'=p.map (kas_item (vs.toArray.zip vs.toArray))/\failedOf st'=ah/\s'.heap.get? a=ae (Cy "list" #[] e1)/\∀h3 c,Dz a s'.heap h3->h3.get? a=ae (Cy "list" (Dd (p.toList.map λi=>vs.getD i B3)) c)->P (.done (.ret .none)) {s' with heap:=h3})
  rfl h2 h64 (λp' st' s' a1 a2 a3 a4=>⟨p',a1,a2,a3,a4⟩) hk) ?_ λ_ _ e=>e)
 rintro⟨⟨⟩,st'⟩ s' ⟨p,hp,har,hf,na,k⟩
 dsimp only;have hout:=kat_snds rfl har;have hsz:(Dd (p.toList.map λi=>vs.getD i B3)).size=vs.length:=by rw[A0,Ab,D3,hp]
 rw[hout];have s2:=Dv s'.heap a (Cz λ_=>Dd (p.toList.map λi=>vs.getD i B3));obtain⟨c2,hc2⟩:∃c2,(s'.heap.update a (Cz λ_=>Dd (p.toList.map λi=>vs.getD i B3))).get? a=ae (Cy "list" (Dd (p.toList.map λi=>vs.getD i B3)) c2):=⟨_,get?_update_seq na λ_=>Dd (p.toList.map λi=>vs.getD i B3)⟩;refine Ad (seqEpoch_at na rfl ?_);refine Ad (listUpdate_at na rfl ?_ (Bk _) (A3 (Nat.le_of_eq hsz) (by rw[Ei];omega)));rw[hf];simp only[bne_self_eq_false,Fg,if_false];exact Ax (k _ c2 s2 hc2)
theorem ls_short{n:Nat}{P:PySem.Fin->Ar->Prop}(ho:s.heap.get? a=ae (Cy "list" vs.toArray n))(h2:vs.length < 2)
  (h:∀h' c,h'.get? a=ae (Cy "list" vs.toArray c)->(∀b o,b≠a->s.heap.get? b=ae o->h'.get? b=ae o)->P (.done (.ret .none)) {s with heap:=h'}):
  A6 (Bd prog w) A (Builtin.«list.sort» ⟨[.ref a],[]⟩) P E s:=by
 have ha:a < s.heap.objs.size:=Az ho;have s1:=Dv s.heap a (Cz λ_=>(#[]:Array Aj));obtain⟨e1,ho1⟩:∃e1,(s.heap.update a (Cz λ_=>(#[]:Array Aj))).get? a=ae (Cy "list" #[] e1):=⟨_,get?_update_seq ho λ_=>#[]⟩;have ho6:(((s.heap.update a (Cz λ_=>(#[]:Array Aj))).push (Cy "tuple" vs.toArray 0)).push (Cy "list" #[] 0)).get? a=ae (Cy "list" #[] e1):=Ai _ (Ai _ ho1);rw[list_sort_plain];refine Ad (listItems_at ho rfl ?_);refine Ad (listUpdate_at ho rfl ?_ (by rw[A0,Ei];omega) (Bk _));refine Ad (seqEpoch_at ho1 rfl ?_);refine Ad (wpAny_newTuple ?_ (by show vs.length<=_;rw[Ei];omega));refine Ad (wpAny_newList ?_ (Bk _));refine Dh ?_;show A6 (Bd prog w) A _ P E {s with heap:=((s.heap.update a (Cz λ_=>(#[]:Array Aj))).push (Cy "tuple" vs.toArray 0)).push (Cy "list" #[] 0)};dsimp only;have hn2:vs.toArray.size < 2:=by rw[A0];omega
 rw[if_pos hn2,if_pos hn2];refine Ad (Ax ?_);rw[StateT.run_pure];refine Ad (Ax ?_);dsimp only;refine Ad (seqEpoch_at ho6 rfl ?_);refine Ad (listUpdate_at ho6 rfl ?_ (hsz2:=by rw[Array.size_map];show(pairsOf vs).size<=_;rw[pairsOf_size,Ei];omega));simp only[bne_self_eq_false,Fg,if_false];have e:(arrOf (SortSt.mk' general' (vs.toArray.zip vs.toArray) #[] 7 ah)).map (·.2)=vs.toArray:=by
  show(vs.toArray.zip vs.toArray).map (·.2)=vs.toArray;apply Array.toList_inj.mp;simp only[Array.toList_map,Array.toList_zip];exact List.map_snd_zip (Ao _)
 have s2:=Dv (((s.heap.update a (Cz λ_=>(#[]:Array Aj))).push (Cy "tuple" vs.toArray 0)).push (Cy "list" #[] 0)) a (Cz λ_=>(arrOf (SortSt.mk' general' (vs.toArray.zip vs.toArray) #[] 7 ah)).map (·.2));refine Ax (h _ _ (by rw[e];exact get?_update_seq ho6 λ_=>vs.toArray) λb o hb q=>(s2.2 b hb).trans (Ai _ (Ai _ ((s1.2 b hb).trans q))))
theorem sorted_of{r:Aj}{Q:Aj->Ar->Prop}{R:List Aj->Ar->Prop}(hcol:A6 (Bd prog w) A.in1 (collect r) R E s)
  (h:∀vs s1,R vs s1->vs.length<=Ay/\A6 (Bd prog w) A.in1.in1 (Builtin.«list.sort» ⟨[.ref s1.heap.objs.size],[]⟩) (λf s2=>f=.done (.ret .none)/\Q (.ref s1.heap.objs.size) s2) E {s1 with heap:=s1.heap.push (Cy "list" vs.toArray 0)}):
  A6 (Bd prog w) A (call (.builtin "sorted") [r]) Q E s:=by
 refine Calls.call_function_entry kind_sorted plain_sorted entry_sorted (args_sorted1 _) ?_;unfold Builtin.«sorted»;refine Ad (m:=checkCount "sorted" 1 1 _) (Ax ?_);refine Ad (C7 hcol (λvs s1 hr=>?_) λ_ _ e=>e);obtain⟨hl,hs⟩:=h vs s1 hr;refine Ad (wpAny_newList ?_ hl);have hoL:(s1.heap.push (Cy "list" vs.toArray 0)).get? s1.heap.objs.size=ae (Cy "list" vs.toArray 0):=A7 _ rfl;refine Ad (Dh (Dr (s:={ s1 with heap:=s1.heap.push (Cy "list" vs.toArray 0)}) slot_list_sort ⟨_,hoL,rfl⟩ entry_list_sort ?body (args_list_sort _)))
 case body=>
  refine C7 hs (λf s2 hf=>?_) λ_ _ e=>e;obtain⟨rfl,hq⟩:=hf;exact⟨_,rfl,Ax ⟨_,rfl,hq⟩⟩
def ItsOk(h:Heap)(as:List Addr)(ks:List Str)(xs:List Aj):Prop:=
 as.length=ks.length/\as.length=xs.length/\∀(j:Nat)(a:Addr),as[j]?=ae a->∃k t x,ks[j]?=ae k/\xs[j]?=ae x/\h.get? a=ae {cls:=.type "tuple",data:=.seq #[.str k t,x]}
def ltK(ks:List Str)(i j:Nat):Bool:=decide ((ks.getD i ⟨#[]⟩).cps.toList < (ks.getD j ⟨#[]⟩).cps.toList)
theorem Iq(x y:List Nat)(h:x < y):¬y < x:=λz=>List.lt_irrefl x (List.lt_trans h z)
theorem ordK(ks:List Str):Ord (ltK ks) where
 asym:=λi j h=>by
  unfold ltK at h ⊢;exact decide_eq_false (Iq _ _ (of_decide_eq_true h))
 ltr:=λi j k h1 h2=>by
  unfold ltK at h1 h2 ⊢;have h1:=of_decide_eq_false h1;have h2:=of_decide_eq_false h2;refine decide_eq_false λz=>?_;have l1:=Ea.mp h1;have l2:=Ea.mp h2;exact absurd z (Ea.mpr (List.le_trans l1 l2))
theorem katTups{h:Heap}:∀{as:List Addr}{ks:List Str}{xs:List Aj},ItsOk h as ks xs->∃fs:List Aj,KatTups h (as.map A4) fs/\fs.length=as.length/\∀f∈fs,∃k t,f=.str k t
 |[],ks,xs,_=>⟨[],trivial,rfl,λf hf=>nomatch hf⟩
 |a::as,ks,xs,I=>by
  obtain⟨l1,l2,hp⟩:=I;obtain⟨k,t,x,e1,e2,e3⟩:=hp 0 a rfl;cases ks with
  |nil=>cases e1
  |cons k0 ks=>
   cases xs with
   |nil=>cases e2
   |cons x0 xs=>
    obtain⟨fs,f1,f2,f3⟩:=katTups (h:=h) (as:=as) (ks:=ks) (xs:=xs) ⟨by simpa using l1,by simpa using l2,λj b hb=>by
     obtain⟨k',t',x',g1,g2,g3⟩:=hp (j+1) b (by simpa using hb);exact⟨k',t',x',by simpa using g1,by simpa using g2,g3⟩⟩
    refine⟨.str k t::fs,.cons e3 rfl rfl rfl f1,by simp[f2],λf hf=>?_⟩;rcases Ap.mp hf with rfl|z
    ·exact⟨k,t,rfl⟩
    ·exact f3 f z
end
section
variable{prog:Bf}{w:Bx}{A:Ce}{E:Aj->Ar->Prop}{s:Ar}{a:Addr}{as:List Addr}{ks:List Str}{xs:List Aj}
theorem ask_items(hI:ItsOk s.heap as ks xs)(nd:ks.Nodup)(hx:∀x∈xs,∀(s:Ar),SeqAt.EqAt A s x x ai){i j:Nat}(hi:i < as.length)(hj:j < as.length){C:Bool->Ar->Prop}(h:C (ltK ks i j) s):
  kas_ask prog w A (tuples' ai) (as.map A4) i j C s:=by
 obtain⟨l1,l2,hp⟩:=hI;obtain⟨k1,t1,x1,e1,e2,e3⟩:=hp i as[i] (Ak hi);obtain⟨k2,t2,x2,f1,f2,f3⟩:=hp j as[j] (Ak hj);unfold kas_ask;have g1:(as.map A4).getD i B3=.ref as[i]:=by simp[hi]
 have g2:(as.map A4).getD j B3=.ref as[j]:=by simp[hj]
 rw[g1,g2];have c1:ks.getD i ⟨#[]⟩=k1:=by simp[e1]
 have c2:ks.getD j ⟨#[]⟩=k2:=by simp[f1]
 have hc:ltK ks i j=decide (k1.cps.toList < k2.cps.toList):=by unfold ltK;rw[c1,c2]
 rw[hc]at h;refine kat_lt e3 rfl f3 rfl ?_;refine kat_cons (wpAny_eqBool_str ?_);by_cases e:k1=k2
 ·rw[decide_eq_true e];have hij:i=j:=by
   have hi':i < ks.length:=by omega
   have hj':j < ks.length:=by omega
   have q1:ks[i]=k1:=by have:=Ak hi';rw[e1]at this;exact(A8 this).symm
   have q2:ks[j]=k2:=by have:=Ak hj';rw[f1]at this;exact(A8 this).symm
   exact(Eu nd).mp (q1.trans (e.trans q2.symm))
  subst hij;rw[e2]at f2;cases f2;refine kat_yes (kat_cons ?_);refine hx x1 (A5 e2) s _ _ _ _ ?_;refine kat_yes (kat_nil ?_);rw[e]at h;have:decide (k2.cps.toList < k2.cps.toList)=aj:=decide_eq_false (List.lt_irrefl _);rw[this]at h;exact h
 ·rw[decide_eq_false e];exact kat_no (oneLt_str h)
end
end KS
namespace L2
open PySem PySem.Spec PyProof.Rows PySem.W
def kU(d v:Addr):HO:=.ext λh=>h.get? v=ae {cls:=.type "dict_items",data:=.fields #[.ref d]}
theorem IA{X:Cx}:wK X "dict.items" (λx vs H Q=>∃d kvs,x=.ref d/\vs=[]/\H d=ae (.dK kvs)/\∀v,H v=ah->Q (.ref v) (upd H v (kU d v))):=by
 intro pins s σ H x xs v us Q I rx rv h;obtain⟨d,kvs,rfl,rfl,hd,q⟩:=h;cases rx;cases rv.zero;obtain⟨z,hsys,vs',rel,hD⟩:=I.hok d _ hd;refine call_meetsIn PySem.F.slot_dict_items hD.typeIs PySem.F.entry_dict_items (PySem.F.args_dict_items_1 _) (meets_dict_items (gw X.prog X.w) d hsys) ⟨⟨vs',hD⟩,?_⟩;have e:(s.heap.push ({cls:=.type "dict_items",data:=.fields #[.ref d]}:Obj)).get? s.heap.objs.size=ae {cls:=.type "dict_items",data:=.fields #[.ref d]}:=A7 _ rfl;exact⟨.ref s.heap.objs.size,_,I.laid (t':=s.toks) (o:=kU d s.heap.objs.size) (λb ob q=>Ai _ q) (Ao _) ⟨e,⟨_,e⟩,λh1 h2 q k=>k _ q⟩,rfl,q _ (I.hok.fresh (Ao _))⟩
def f7(as:List Addr)(ks:List Str)(xv:List V)(i:Nat):Addr×Str×V:=(as.getD i 0,ks.getD i ⟨#[]⟩,xv.getD i .non)
def gi(H:Hp)(D:Addr)(l:List V)(as:List Addr)(ks:List Str)(xv:List V):Hp:=λb=>if b=D then ae (.lst l)else match as.idxOf? b with
 |some j=>ae (.tup [.str (ks.getD j ⟨#[]⟩),xv.getD j .non])
 |none=>H b
theorem r9{as:List Addr}{b:Addr}{j:Nat}(h:as.idxOf? b=ae j):as[j]?=ae b:=by
 unfold List.idxOf? at h;obtain⟨h1,h2,_⟩:=Gk.mp h;rw[Ak h1];rw[beq_iff_eq]at h2;rw[h2]
theorem J5{as:List Addr}{b:Addr}(h:as.idxOf? b=ah):b∉as:=λhb=>by
 unfold List.idxOf? at h;rw[List.findIdx?_eq_none_iff]at h;have:=h b hb;simp at this
theorem JC{as:List Addr}(nd:as.Nodup){j:Nat}{a:Addr}(h:as[j]?=ae a):as.idxOf? a=ae j:=by
 obtain⟨h1,h2⟩:=Au.mp h;cases e:as.idxOf? a with
 |none=>exact absurd (A5 h) (J5 e)
 |some i=>
  have e':=r9 e;obtain⟨h3,h4⟩:=Au.mp e';rw[(Eu nd).mp (h4.trans h2.symm)]
section
variable{X:Cx}{pins:List (Addr×Obj)}{σ:St}{H:Hp}{s:Ar}
theorem yG{as:List Addr}{ks:List Str}{xv:List V}{xs:List Aj}{D:Addr}{idx:List Nat}{h3:Heap}{tk c:Nat}{Q:VK}(I:Inv X pins σ H s)(hk:∀b o,s.heap.get? b=ae o->h3.get? b=ae o)
  (hI:KS.ItsOk h3 as ks xs) (hx:Vals xv xs) (hup:∀a∈as,s.heap.objs.size<=a) (nd:as.Nodup) (hD:∀b o,s.heap.get? b=ae o->b≠D) (hDH:H D=ah) (hDa:D∉as) (hl:as.length < 64) (hidx:idx.Perm (Ba as.length))
  (hL:h3.get? D=ae (Cy "list" (Dd (idx.map λi=>(as.map A4).getD i B3)) c))
  (q:∀H',ja H H'->H D=ah->(∀a∈as,H a=ah)->H' D=ae (.lst (idx.map λi=>V.ref (f7 as ks xv i).1))->(∀i∈idx,H' (f7 as ks xv i).1=ae (.tup [.str (f7 as ks xv i).2.1,(f7 as ks xv i).2.2]))->Q (.ref D) H'):
  EP X pins σ Q (.ref D) {s with heap:=h3,toks:=tk}:=by
 obtain⟨l1,l2,hp⟩:=hI;have lx:=hx.length;have old:∀{b o},H b=ae o->b < s.heap.objs.size:=λe=>I.hok.lt e;have hidlt:∀i∈idx,i < as.length:=λi hi=>B8.mp (hidx.mem_iff.mp hi);have hlen:idx.length=as.length:=by rw[hidx.length_eq,Di]
 have hsame:ja H (gi H D (idx.map λi=>V.ref (f7 as ks xv i).1) as ks xv):=λb o e=>by
  unfold gi;rw[if_neg (λz=>by rw[z,hDH]at e;cases e)];cases q:as.idxOf? b with
  |none=>exact e
  |some j=>
   have:=hup b (A5 (r9 q));exact absurd (old e) (Nat.not_lt.mpr this)
 have hvals:Vals (idx.map λi=>V.ref (f7 as ks xv i).1) (idx.map λi=>(as.map A4).getD i B3):=by
  have:∀l:List Nat,(∀i∈l,i < as.length)->Vals (l.map λi=>V.ref (f7 as ks xv i).1) (l.map λi=>(as.map A4).getD i B3):=by
   intro l
   induction l with
   |nil=>intro _;exact .nil
   |cons i r ih=>
    intro hl;have hi:=hl i As;refine .cons ?_ (ih λj hj=>hl j (Am _ hj));show(as.map A4).getD i B3=A4 (as.getD i 0);simp[hi]
  exact this idx hidlt
 have hnew:HOk X.prog X.w (gi H D (idx.map λi=>V.ref (f7 as ks xv i).1) as ks xv) h3:=λb o e=>by
  by_cases hb:b=D
  ·subst hb;unfold gi at e;rw[if_pos rfl]at e;cases e;refine⟨?_,_,c,hvals,hL⟩;rw[Ab,hlen];exact fS (by omega)
  ·have e2:=e;unfold gi at e2;rw[if_neg hb]at e2;cases qi:as.idxOf? b with
   |none=>
    rw[qi]at e2;refine(I.hok b o e2).stay (λcc u _ z=>hk cc u z) (λcc z=>hsame _ _ z) λcc ys z=>hsame _ _ z
   |some j=>
    rw[qi]at e2;cases e2;obtain⟨k,t,x,g1,g2,g3⟩:=hp j b (r9 qi);have hjl:j < xv.length:=by
     have:=(Au.mp g2).1;omega
    have ev:RelV (xv.getD j .non) x:=by
     obtain⟨u,hu,ru⟩:=hx.get (Ak hjl);rw[g2]at hu;cases hu;have:xv.getD j .non=xv[j]:=by simp[hjl]
     rw[this];exact ru
    have ek:ks.getD j ⟨#[]⟩=k:=by simp[g1]
    refine⟨by show 2<=Ay;decide,[.str k t,x],.cons (by rw[ek];exact⟨t,rfl⟩) (.cons ev .nil),?_⟩;exact⟨_,g3,rfl,⟨_,rfl⟩,rfl⟩
 refine⟨.ref D,_,I.call' (s':={ s with heap:=h3,toks:=tk}) (ch:=[]) rfl ?_ hnew I.bare (λb hb=>nomatch hb),rfl,q _ hsame hDH (λa ha=>I.hok.fresh (hup a ha)) (by unfold gi;rw[if_pos rfl]) λi hi=>?_⟩
 ·refine⟨λb o e n _ _=>hk b o e,λb o e n _ _=>⟨o.slots,hk b o e⟩,λb o e n _=>?_,λb o e _=>⟨o,hk b o e⟩,λb ys z=>hsame _ _ z,λb o' u z=>hsame _ _ z,λb ps z=>⟨#[],by rw[Array.append_empty];exact hsame _ _ z⟩⟩;have hlt:=Az e;unfold gi;rw[if_neg (hD b o e)];cases qi:as.idxOf? b with
  |none=>exact n
  |some j=>exact absurd hlt (Nat.not_lt.mpr (hup b (A5 (r9 qi))))
 ·have hi':=hidlt i hi;have ea:(f7 as ks xv i).1=as[i]:=by show as.getD i 0=_;simp[hi']
  have eg:as[i]?=ae as[i]:=Ak hi';have ne:as[i]≠D:=λz=>hDa (z▸Ci hi');rw[ea];unfold gi;rw[if_neg ne,JC nd eg];rfl
end
def FH:List V->Hp->VK->Prop:=λxs H Q=>∃(v d:Addr)(ks:List Str)(xv:List V),xs=[.ref v]/\H v=ae (kU d v)/\ks.length=xv.length/\H d=ae (.dK ((ks.zip xv).map λp=>((C6 p.1:aN),p.2)))/\ks.length < 64/\ks.Nodup/\xv.all iG=ai /\
 ∀(D:Addr)(as:List Addr)(idx:List Nat)(H':Hp),as.length=ks.length->idx.Perm (Ba ks.length)->(idx.map λi=>ks.getD i ⟨#[]⟩).Pairwise (λa b=>¬b.cps.toList < a.cps.toList)->ja H H'->H D=ah->(∀a∈as,H a=ah)->
  H' D=ae (.lst (idx.map λi=>V.ref (f7 as ks xv i).1))->(∀i∈idx,H' (f7 as ks xv i).1=ae (.tup [.str (f7 as ks xv i).2.1,(f7 as ks xv i).2.2]))->Q (.ref D) H'
theorem zx{xs:List Aj}:∀{ks:List Str}{xv:List V}{vs:List (aN×Aj)},ks.length=xv.length->KV ((ks.zip xv).map λp=>((C6 p.1:aN),p.2)) vs->vs.length=ks.length/\Vals xv (vs.map (·.2))/\vs.map (·.1)=ks.map (C6:Str->aN)
 |[],[],_,_,.nil=>⟨rfl,.nil,rfl⟩
 |k::ks,x::xv,_,hl,.cons r rr=>by
  obtain⟨h1,h2,h3⟩:=zx (xs:=xs) (ks:=ks) (xv:=xv) (by simpa using hl) rr;refine⟨by simp[h1],.cons r.2 h2,?_⟩;rw[Bi,Bi,h3,<-r.1]
theorem PH{ks:List Str}{p:Array Nat}{n:Nat}(hz:p.size=n)(h:KS.SP (KS.ltK ks) p n):(p.toList.map λi=>ks.getD i ⟨#[]⟩).Pairwise (λa b=>¬b.cps.toList < a.cps.toList):=by
 rw[List.pairwise_iff_getElem];intro i j hi hj hij;rw[Ab,D3,hz]at hi hj;have:=h i j hij hj;unfold KS.ltK KS.g at this;have e1:p.getD i 0=p[i]:=by simp[hz,hi]
 have e2:p.getD j 0=p[j]:=by simp[hz,hj]
 rw[e1,e2]at this;simp only[List.getElem_map,Array.getElem_toList];exact of_decide_eq_false this
theorem J6{X:Cx}(hh:X.A.handled=ah):CallR X (.builtin "sorted") FH:=by
 intro pins s σ H xs us Q I r h;obtain⟨v,d,ks,xv,rfl,hv,hl,hd,h64,nd,fl,q⟩:=h;obtain⟨u,rfl,ru⟩:=iX r;cases(show u=A4 v from ru);have ov:s.heap.get? v=ae {cls:=.type "dict_items",data:=.fields #[.ref d]}:=(I.hok v _ hv).1;obtain⟨z,hsys,vs',rel,hDict⟩:=I.hok d _ hd;obtain⟨ep,hat⟩:=hDict.dictAt;obtain⟨lv,hvals,hkeys⟩:=zx (xs:=[]) hl rel;refine KS.sorted_of (R:=λvs s1=>∃(h':Heap)(tk:Nat)(as:List Addr),vs=as.map A4/\s1={ s with heap:=h',toks:=tk}/\(∀b o,s.heap.get? b=ae o->h'.get? b=ae o)/\as.length=vs'.length/\KdxG (gw X.prog X.w) vs' s.heap.objs.size h' as)
  (kdx_collect (knd:=gw X.prog X.w) (kvs:=vs') (ep:=ep) hh ⟨_,ov,rfl,rfl⟩ hat (by rw[lv];exact fS (by omega)) λh' tk as hk hl hG=>⟨h',tk,as,rfl,rfl,hk,hl,hG⟩) ?_
 rintro vs s1 ⟨h',tk,as,rfl,rfl,hk,hla,hG⟩
 have hlen:as.length=ks.length:=hla.trans lv;have its:KS.ItsOk h' as ks (vs'.map (·.2)):=⟨hlen,by rw[Ab,hla],λj a ha=>by
  obtain⟨key,k,x,e1,e2,e3⟩:=hG.pairs j a ha;have hk1:(vs'.map (·.1))[j]?=ae k:=by rw[A1,e1];rfl
  rw[hkeys,A1]at hk1;cases eq:ks[j]? with
  |none=>rw[eq]at hk1;cases hk1
  |some k0=>
   rw[eq]at hk1;have hk2:(C6 k0:aN)=k:=A8 hk1;subst hk2;rcases jH (k:=C6 k0) (v:=key) (show lj (C6 k0) key=ai from e2)with⟨i,t,z,_⟩|⟨y,t,z,rfl⟩
   ·cases z
   ·cases z;exact⟨k0,t,x,rfl,by rw[A1,e1];rfl,e3⟩⟩
 have hup:∀a∈as,s.heap.objs.size<=a:=λa ha=>Ft (hG.above a ha);have ndA:as.Nodup:=hG.rise.imp λh=>Bj h;have hDa:h'.objs.size∉as:=λhm=>Ek _ (hG.there hm);have hs':∀b o,s.heap.get? b=ae o->b≠h'.objs.size:=λb o e=>Bj (Az (hk b o e));have hsH:H h'.objs.size=ah:=(I.hok.kept hk).fresh (Ao _);refine⟨by rw[Ab,hlen];exact fS (by omega),?_⟩;have hoL:(h'.push (Cy "list" (as.map A4).toArray 0)).get? h'.objs.size=ae (Cy "list" (as.map A4).toArray 0):=A7 _ rfl;have its2:∀h4:Heap,(∀b o,b≠h'.objs.size->(h'.push (Cy "list" (as.map A4).toArray 0)).get? b=ae o->h4.get? b=ae o)->KS.ItsOk h4 as ks (vs'.map (·.2)):=λh4 k4=>⟨its.1,its.2.1,λj a ha=>by
  obtain⟨k,t,x,e1,e2,e3⟩:=its.2.2 j a ha;exact⟨k,t,x,e1,e2,k4 a _ (λz=>hDa (z▸A5 ha)) (Ai _ e3)⟩⟩
 have keep4:∀h4:Heap,(∀b o,b≠h'.objs.size->(h'.push (Cy "list" (as.map A4).toArray 0)).get? b=ae o->h4.get? b=ae o)->∀b o,s.heap.get? b=ae o->h4.get? b=ae o:=λh4 k4 b o e=>
  k4 b o (hs' b o e) (Ai _ (hk b o e))
 by_cases h2:2<=(as.map A4).length
 ·refine KS.ls_sort (s:={ s with heap:=h'.push (Cy "list" (as.map A4).toArray 0),toks:=tk}) hoL h2 (by rw[Ab];omega) λe1 h4 ha4 k4=>?_;have its4:=its2 h4 k4;obtain⟨fs,f1,f2,f3⟩:=KS.katTups its4;rw[Ab]at h2;refine kat_kind (s:={ s with heap:=h4,toks:=tk}) (T:=Value.type "str") f1 (by omega) (λf hf=>?_) rfl ?_
  ·obtain⟨k,t,rfl⟩:=f3 f hf;exact .now
  ·rw[Ab];have hn:0 < as.length:=by omega
   have hwi:=KS.wi_sort hn;refine KS.wp_run (n:=as.length) (P:=KS.Pm as.length) (c:=KS.ltK ks) (St:=λs'=>s'={ s with heap:=h4,toks:=tk}) (λi j C s' hi hj hs hC=>?_) _ _ hwi rfl λs' hs'=>?_
   ·subst hs;refine KS.ask_items its4 nd (λx hx s''=>?_) hi hj (hC _ rfl);obtain⟨j,hj⟩:=Ca.mp hx;have hjl:j < xv.length:=by
     have:=(Au.mp hj).1;rw[Ab]at this;omega
    obtain⟨u,hu,ru⟩:=hvals.get (Ak hjl);rw[hj]at hu;cases hu;have fx:iG xv[j]=ai:=C0.mp fl _ (Ci hjl);have:=Ha (A:=X.A.in1.in1) (s:=s'') ru ru fx fx;have e1:ju xv[j] xv[j]=ai:=by
     cases ex:xv[j]<;>simp[ju]<;>(rw[ex]at fx;cases fx)
    rw[e1]at this;exact this
   ·subst hs';refine⟨ha4,λh3 c sb hL3=>⟨rfl,?_⟩⟩;have hpm:KS.Pm as.length (KS.run (KS.ltK ks) (kas_sort as.length)):=KS.Wi.out _ hwi;have hsp:=KS.sort_ok (KS.ordK ks) (n:=as.length) hn;have hsz:=hpm.size;have hidx:(KS.run (KS.ltK ks) (kas_sort as.length)).toList.Perm (Ba as.length):=by
     have:=Array.perm_iff_toList_perm.mp hpm;simpa using this
    have k3:∀b o,b≠h'.objs.size->(h'.push (Cy "list" (as.map A4).toArray 0)).get? b=ae o->h3.get? b=ae o:=λb o hb e=>(sb.2 b hb).trans (k4 b o hb e);exact yG (s:=s) (tk:=tk) (xv:=xv) I (keep4 h3 k3) (its2 h3 k3) hvals hup ndA hs' hsH hDa (by omega) hidx hL3 λH' a1 a2 a3 a4 a5=>q _ as _ H' hlen (by rw[<-hlen];exact hidx) (PH hsz hsp) a1 a2 a3 a4 a5
 ·refine KS.ls_short (s:={ s with heap:=h'.push (Cy "list" (as.map A4).toArray 0),toks:=tk}) hoL (by omega) λh4 c ha4 k4=>⟨rfl,?_⟩;rw[Ab]at h2;have el:as.map A4=(Ba as.length).map λi=>(as.map A4).getD i B3:=by
   apply Fz (by simp);intro i h1 h2;simp at h1;simp[h1]
  rw[el]at ha4;refine yG (s:=s) (tk:=tk) (xv:=xv) (idx:=Ba as.length) I (keep4 h4 k4) (its2 h4 k4) hvals hup ndA hs' hsH hDa (by omega) (List.Perm.refl _) ha4 λH' a1 a2 a3 a4 a5=>q _ as _ H' hlen (by rw[<-hlen]) ?_ a1 a2 a3 a4 a5;have:(Ba as.length).length<=1:=by simp;omega
  match hr:Ba as.length,this with
  |[],_=>exact .nil
  |[i],_=>exact List.pairwise_singleton _ _
end L2
namespace L2
open PySem PySem.Spec PyProof.Rows
section
variable{prog:Bf}{w:Bx}{A:Ce}{E:Aj->Ar->Prop}{s:Ar}
theorem xA{it t:Addr}{i:Nat}{items:Array Aj}{x:Aj}{Q:Aj->Ar->Prop}(hit:s.heap.IsTupleIter it t i)(ht:s.heap.IsTuple t items)(hx:items[i]?=ae x)
  (hQ:∀h',h'.IsTupleIter it t (i+1)->Dz it s.heap h'->Q x {s with heap:=h'}):A6 (Bd prog w) A (Ck (.ref it)) Q E s:=by
 obtain⟨o,ho,hc,hd⟩:=id hit;obtain⟨ol,hol,_,nl,hdl⟩:=ht;unfold Ck;refine Ad (C3 (name:=D0 "__next__") hit.typeIs E3
  (Dr E3 hit.typeIs F.entry_tuple_iterator_next ?_ (F.args_tuple_iterator_next_1 _)))
 show A6 _ _ (field (.ref it) 0>>=_) _ _ s;refine Ad (Cn ho hd (x:=.ref t) rfl ?_);show A6 _ _ (if (A4 t==B3)=ai then _ else _) _ _ s;rw[if_neg (show ¬((A4 t==B3)=ai)from Ae)];show A6 _ _ (field (.ref it) 1>>=_) _ _ s;refine Ad (Cn ho hd (x:=.int i 0) rfl ?_);show A6 _ _ (seqItems? (.ref t)>>=_) _ _ s;refine Ad (Ec hol hdl ?_);simp only[Bv,hx];refine Ad (wpAny_setField ho hd (by simp) (Ax ⟨x,rfl,Ax (hQ _ ?_ (Dv ..))⟩));exact⟨_,Heap.get?_update_self _ ho (Obj.isFreed_of_fields (Obj.data_mapFields hd _)),(Obj.cls_mapFields ..).trans hc,by
  rw[Obj.data_mapFields hd];simp[rawInt]⟩
theorem zr{it t:Addr}{i:Nat}{items:Array Aj}{Q:Aj->Ar->Prop}(hh:A.handled=ah)(hit:s.heap.IsTupleIter it t i)(ht:s.heap.IsTuple t items)(hx:items[i]?=ah)
  (hE:∀h' e,Heap.ExtBut it s.heap h'->(∃o,h'.get? e=ae o/\o.cls=.type "StopIteration")->E (.ref e) {s with heap:=h'}):
  A6 (Bd prog w) A (Ck (.ref it)) Q E s:=by
 obtain⟨o,ho,hc,hd⟩:=id hit;obtain⟨ol,hol,_,nl,hdl⟩:=ht;unfold Ck;refine Ad (C3 (name:=D0 "__next__") hit.typeIs E3
  (Dr E3 hit.typeIs F.entry_tuple_iterator_next ?_ (F.args_tuple_iterator_next_1 _)))
 show A6 _ _ (field (.ref it) 0>>=_) _ _ s;refine Ad (Cn ho hd (x:=.ref t) rfl ?_);show A6 _ _ (if (A4 t==B3)=ai then _ else _) _ _ s;rw[if_neg (show ¬((A4 t==B3)=ai)from Ae)];show A6 _ _ (field (.ref it) 1>>=_) _ _ s;refine Ad (Cn ho hd (x:=.int i 0) rfl ?_);show A6 _ _ (seqItems? (.ref t)>>=_) _ _ s;refine Ad (Ec hol hdl ?_);simp only[Bv,hx];refine Ad (wpAny_rule (Ad (wpAny_setField ho hd (by simp) ?_)));show A6 _ _ (newExc (.type "StopIteration") []>>=_) _ _ _;refine Ad ?_;simp only[newExc,newTuple];refine Ad (B7 ?_ (by size_fits));refine Ad (m:=firstArgMember _ _) (wpAny_of_eq (a:=B3) (by first|rfl|(simp only[firstArgMember];rfl)) ?_);refine B7 ?_ (by size_fits);simp only[raiseNew];refine Ad (wpAny_handled ?_)
 first|rw[show A.in1.handled=ah from hh]|rw[hh]
 refine Ad (Ax (wpAny_throw ?_));exact hE _ _ (((Dv ..).extBut.push _).push _) ⟨_,A7 _ rfl,rfl⟩
theorem Rf{z TI TO i1 i2 l1 l2:Addr}{k:Nat}{xs ys:Array Aj}{x y a b:Aj}{Q:Aj->Ar->Prop}(D:ZipApart z TI TO i1 i2 l1 l2)
  (hz:IsZip s.heap z TI TO .none) (hTI:E6 s.heap TI (.ref i1) (.ref i2)) (hTO:E6 s.heap TO a b)
  (h1:s.heap.IsTupleIter i1 l1 k) (h2:s.heap.IsTupleIter i2 l2 k) (hl1:s.heap.IsTuple l1 xs) (hl2:s.heap.IsTuple l2 ys) (hx:xs[k]?=ae x) (hy:ys[k]?=ae y)
  (hQ:∀h',IsZip h' z TI TO (rawInt s.heap.objs.size)->E6 h' TO x y->h'.IsTupleIter i1 l1 (k+1)->h'.IsTupleIter i2 l2 (k+1)->E6 h' s.heap.objs.size x y->h'.objs.size=s.heap.objs.size+1->
   (∀c o,c≠z->c≠TO->c≠i1->c≠i2->s.heap.get? c=ae o->h'.get? c=ae o)->Q (.ref s.heap.objs.size) {s with heap:=h'}):
  A6 (Bd prog w) A (Builtin.«zip.__next__» ⟨[.ref z],[]⟩) (λfin s'=>∃v,fin=.done (.ret v)/\Q v s') E s:=by
 show A6 _ _ (field (.ref z) 2>>=_) _ _ _;refine Ad (Cn hz rfl (x:=.bool aj) rfl ?_);show A6 _ _ (field (.ref z) 3>>=_) _ _ _;refine Ad (Cn hz rfl (x:=.ref TI) rfl ?_);refine Ad (Ec hTI rfl ?_);show A6 _ _ (C9 (.ref z)>>=_) _ _ _;refine Ad ?_;unfold C9;refine Ad (Cn hz rfl (x:=.none) rfl (Ax ?_));simp only[if_true];refine Ad (wpAny_rule ?_);refine Ad (Cn hz rfl (x:=.ref TO) rfl ?_);refine Ad (Fp hz (by simp) λg1 hz1 s1=>?_)
 replace hz1:IsZip g1 z TI TO .ellipsis:=hz1
 refine Ad ?_;simp only[List.zipIdx_cons,List.zipIdx_nil,List.forIn_cons,List.forIn_nil];refine Ad (Ad (wpAny_onRaise ?_));show A6 _ _ (Ck (.ref i1)>>=_) _ _ _;refine Ad (xA (h1.extBut s1.extBut D.i1z) (hl1.extBut s1.extBut D.l1z) hx λg2 t2 s2=>Ax ?_);have p2:E6 g2 TO a b:=s2.extBut _ _ D.TOi1 (s1.extBut _ _ D.TOz hTO);refine Ad (Ec p2 rfl ?_);refine Ad (wpAny_updateSeq_pair p2 λg3 p3 s3=>?_)
 replace p3:E6 g3 TO x b:=p3
 refine Ad (wpAny_letGo (Ax ?_));refine Ad (Ad (wpAny_onRaise ?_));show A6 _ _ (Ck (.ref i2)>>=_) _ _ _;refine Ad (xA (((h2.extBut s1.extBut D.i2z).extBut s2.extBut D.i12.symm).extBut s3.extBut D.TOi2.symm)
  (((hl2.extBut s1.extBut D.l2z).extBut s2.extBut D.l2i1).extBut s3.extBut D.l2TO) hy λg4 t4 s4=>Ax ?_)
 have p4:E6 g4 TO x b:=s4.extBut _ _ D.TOi2 p3;refine Ad (Ec p4 rfl ?_);refine Ad (wpAny_updateSeq_pair p4 λg5 p5 s5=>?_)
 replace p5:E6 g5 TO x y:=p5
 refine Ad (wpAny_letGo (Ax (Ax ?_)));refine Ad (Ec p5 rfl ?_);refine Ad (wpAny_newTuple ?_);have sz:g5.objs.size=s.heap.objs.size:=by rw[s5.1,s4.1,s3.1,s2.1,s1.1]
 have z5:IsZip g5 z TI TO .ellipsis:=s5.extBut _ _ D.TOz.symm (s4.extBut _ _ D.i2z.symm (s3.extBut _ _ D.TOz.symm (s2.extBut _ _ D.i1z.symm hz1)));have k5:∀c o,c≠z->c≠TO->c≠i1->c≠i2->s.heap.get? c=ae o->g5.get? c=ae o:=λc o c1 c2 c3 c4 e=>
  s5.extBut _ _ c2 (s4.extBut _ _ c4 (s3.extBut _ _ c2 (s2.extBut _ _ c3 (s1.extBut _ _ c1 e))))
 have u1:g5.IsTupleIter i1 l1 (k+1):=((t2.extBut s3.extBut D.TOi1.symm).extBut s4.extBut D.i12).extBut s5.extBut D.TOi1.symm;have u2:g5.IsTupleIter i2 l2 (k+1):=t4.extBut s5.extBut D.TOi2.symm;have zlt:z < g5.objs.size:=Az z5;show A6 _ _ (Gb (.ref z) (.ref g5.objs.size)>>=_) _ _ _;refine Ad ?_;unfold Gb;have z6:IsZip (g5.push {cls:=.type "tuple",data:=.seq #[x,y]}) z TI TO .ellipsis:=Ai _ z5;refine Ad (Fp z6 (by simp) λg7 z7 s7=>?_)
 replace z7:IsZip g7 z TI TO (rawInt g5.objs.size):=z7
 refine Fp z7 (by simp) λg8 z8 s8=>?_
 replace z8:IsZip g8 z TI TO (rawInt g5.objs.size):=z8
 have up:∀c o,c≠z->g5.get? c=ae o->g8.get? c=ae o:=λc o c1 e=>s8.extBut _ _ c1 (s7.extBut _ _ c1 (Ai _ e));have T8:E6 g8 g5.objs.size x y:=s8.extBut _ _ (E1 zlt) (s7.extBut _ _ (E1 zlt) (A7 _ rfl));have e8:g8.objs.size=g5.objs.size+1:=by rw[s8.1,s7.1,Fn]
 rw[sz]at z8 T8 e8;refine Ax ⟨_,rfl,?_⟩;show Q (.ref g5.objs.size) _;rw[sz];exact hQ g8 z8 (up _ _ D.TOz p5) (u1.at λo e=>up _ o D.i1z e) (u2.at λo e=>up _ o D.i2z e) T8 e8 λc o c1 c2 c3 c4 e=>up c o c1 (k5 c o c1 c2 c3 c4 e)
theorem K3{z TI TO i1 i2 l1 l2:Addr}{k:Nat}{xs:Array Aj}{Q:Fin->Ar->Prop}(hh:A.handled=ah)(D:ZipApart z TI TO i1 i2 l1 l2)
  (hz:IsZip s.heap z TI TO .none) (hTI:E6 s.heap TI (.ref i1) (.ref i2)) (h1:s.heap.IsTupleIter i1 l1 k) (hl1:s.heap.IsTuple l1 xs) (hx:xs[k]?=ah)
  (hE:∀h' e,(∀c o,c≠z->c≠i1->s.heap.get? c=ae o->h'.get? c=ae o)->(∃o,h'.get? e=ae o/\o.cls=.type "StopIteration")->E (.ref e) {s with heap:=h'}):
  A6 (Bd prog w) A (Builtin.«zip.__next__» ⟨[.ref z],[]⟩) Q E s:=by
 show A6 _ _ (field (.ref z) 2>>=_) _ _ _;refine Ad (Cn hz rfl (x:=.bool aj) rfl ?_);show A6 _ _ (field (.ref z) 3>>=_) _ _ _;refine Ad (Cn hz rfl (x:=.ref TI) rfl ?_);refine Ad (Ec hTI rfl ?_);show A6 _ _ (C9 (.ref z)>>=_) _ _ _;refine Ad ?_;unfold C9;refine Ad (Cn hz rfl (x:=.none) rfl (Ax ?_));simp only[if_true];refine Ad (wpAny_rule ?_);refine Ad (Cn hz rfl (x:=.ref TO) rfl ?_);refine Ad (Fp hz (by simp) λg1 hz1 s1=>?_)
 replace hz1:IsZip g1 z TI TO .ellipsis:=hz1
 refine Ad ?_;simp only[List.zipIdx_cons,List.zipIdx_nil,List.forIn_cons,List.forIn_nil];refine Ad (Ad (wpAny_onRaise ?_));show A6 _ _ (Ck (.ref i1)>>=_) _ _ _;refine Ad (zr hh (h1.extBut s1.extBut D.i1z) (hl1.extBut s1.extBut D.l1z) hx λg2 e s2 he=>?_);obtain⟨oe,hoe,hce⟩:=he;have z2:IsZip g2 z TI TO .ellipsis:=s2 _ _ D.i1z.symm hz1;have hez:e≠z:=λx=>by subst x;rw[z2]at hoe;cases hoe;simp at hce
 refine Fp z2 (by simp) λg3 _ s3=>hE g3 e (λc o c1 c3 x=>s3.extBut _ _ c1 (s2 _ _ c3 (s1.extBut _ _ c1 x))) ⟨oe,s3.extBut _ _ hez hoe,hce⟩
theorem Ro{z TI TO i1 i2 l1 l2:Addr}{k:Nat}{xs ys:Array Aj}{x y a b:Aj}{Q:Option Aj->Ar->Prop}(D:ZipApart z TI TO i1 i2 l1 l2)
  (hz:IsZip s.heap z TI TO .none) (hTI:E6 s.heap TI (.ref i1) (.ref i2)) (hTO:E6 s.heap TO a b)
  (h1:s.heap.IsTupleIter i1 l1 k) (h2:s.heap.IsTupleIter i2 l2 k) (hl1:s.heap.IsTuple l1 xs) (hl2:s.heap.IsTuple l2 ys) (hx:xs[k]?=ae x) (hy:ys[k]?=ae y)
  (hQ:∀h',IsZip h' z TI TO (rawInt s.heap.objs.size)->E6 h' TO x y->h'.IsTupleIter i1 l1 (k+1)->h'.IsTupleIter i2 l2 (k+1)->E6 h' s.heap.objs.size x y->h'.objs.size=s.heap.objs.size+1->
   (∀c o,c≠z->c≠TO->c≠i1->c≠i2->s.heap.get? c=ae o->h'.get? c=ae o)->Q (ae (.ref s.heap.objs.size)) {s with heap:=h'}):
  A6 (Bd prog w) A (pyNext (.ref z)) Q E s:=by
 have hT:s.TypeIs (.ref z) "zip":=⟨_,hz,rfl⟩;unfold pyNext;exact Ad (wpAny_attempt (C3 (name:=D0 "__next__") hT F.slot_zip_next
  (Dr F.slot_zip_next hT F.entry_zip_next
   (Rf D hz hTI hTO h1 h2 hl1 hl2 hx hy λh' a1 a2 a3 a4 a5 a6 a7=>Ax (hQ h' a1 a2 a3 a4 a5 a6 a7)) (F.args_zip_next_1 _))))
theorem NP{z TI TO i1 i2 l1 l2:Addr}{k:Nat}{xs:Array Aj}{Q:Option Aj->Ar->Prop}(hh:A.handled=ah)(D:ZipApart z TI TO i1 i2 l1 l2)
  (hz:IsZip s.heap z TI TO .none) (hTI:E6 s.heap TI (.ref i1) (.ref i2)) (h1:s.heap.IsTupleIter i1 l1 k) (hl1:s.heap.IsTuple l1 xs) (hx:xs[k]?=ah)
  (hQ:∀h',(∀c o,c≠z->c≠i1->s.heap.get? c=ae o->h'.get? c=ae o)->Q ah {s with heap:=h'}):A6 (Bd prog w) A (pyNext (.ref z)) Q E s:=by
 have hT:s.TypeIs (.ref z) "zip":=⟨_,hz,rfl⟩;unfold pyNext;refine Ad (wpAny_attempt (C3 (name:=D0 "__next__") hT F.slot_zip_next
  (Dr F.slot_zip_next hT F.entry_zip_next (K3 hh D hz hTI h1 hl1 hx λh' e hk he=>?_) (F.args_zip_next_1 _))))
 obtain⟨o,ho,hc⟩:=he;refine Ad (wpAny_isInstance (T:="StopIteration") (b:=ai) ⟨o,ho,hc⟩ isSubtype_stop ?_);exact Ax (hQ _ hk)
end
abbrev sY(h:Heap)(l1:Addr):Heap:=h.push {cls:=.type "tuple_iterator",data:=.fields #[.ref l1,.int 0 0]}
abbrev tu(h:Heap)(l1 l2:Addr):Heap:=(sY h l1).push {cls:=.type "tuple_iterator",data:=.fields #[.ref l2,.int 0 0]}
abbrev sk(h:Heap)(l1 l2:Addr):Heap:=(tu h l1 l2).push {cls:=.type "tuple",data:=.seq #[.ref h.objs.size,.ref (sY h l1).objs.size]}
abbrev sH(h:Heap)(l1 l2:Addr):Heap:=(sk h l1 l2).push {cls:=.type "tuple",data:=.seq #[.none,.none]}
abbrev nv(h:Heap)(l1 l2:Addr):Heap:=(sH h l1 l2).push {cls:=.type "zip",data:=.fields #[.none,.bool aj,.bool aj,.ref (tu h l1 l2).objs.size,.ref (sk h l1 l2).objs.size]}
theorem LM(l1 l2:Addr)(xs ys:Array Aj):
  Meets (Builtin.«zip.__new__» ⟨[.type "zip",.ref l1,.ref l2],[]⟩) (λ_ R s=>s.heap.IsTuple l1 xs/\s.heap.IsTuple l2 ys /\
   R (.ok (.ret (.ref (sH s.heap l1 l2).objs.size))) {s with heap:=nv s.heap l1 l2}):=
 .of_wp λprog w A R s h=>by
  obtain⟨hp,g,d,tk,os⟩:=s;obtain⟨hl1,hl2,h⟩:=h;have hsub:=sub_zip;have hL1:Heap.IsTuple (Shared.heap ⟨hp,g,d,tk,os⟩) l1 xs:=hl1;have hL2:Heap.IsTuple (Shared.heap ⟨hp.push {cls:=.type "tuple_iterator",data:=.fields #[.ref l1,.int 0 0]},g,d,tk,os⟩) l2 ys:=Heap.IsTuple.push hl2 _
  wp_walk using Dy hL1,Dy hL2
  exact⟨_,rfl,h⟩
section
variable{prog:Bf}{w:Bx}{A:Ce}{E:Aj->Ar->Prop}{s:Ar}
theorem MP{l1 l2:Addr}{xs ys:Array Aj}{Q:Aj->Ar->Prop}(hl1:s.heap.IsTuple l1 xs)(hl2:s.heap.IsTuple l2 ys)
  (h:∀h',IsZip h' (s.heap.objs.size+4) (s.heap.objs.size+2) (s.heap.objs.size+3) .none->E6 h' (s.heap.objs.size+2) (.ref s.heap.objs.size) (.ref (s.heap.objs.size+1))->
   E6 h' (s.heap.objs.size+3) .none .none->h'.IsTupleIter s.heap.objs.size l1 0->h'.IsTupleIter (s.heap.objs.size+1) l2 0->
   (∀c o,s.heap.get? c=ae o->h'.get? c=ae o)->Q (.ref (s.heap.objs.size+4)) {s with heap:=h'}):
  A6 (Bd prog w) A (call (.type "zip") [.ref l1,.ref l2]) Q E s:=by
 refine callType_new F.called_zip (by decide) (F.typeCall_zip_2 _ _) (F.newCall_zip_2 _ _) (λobj=>F.args_object_init_3 obj _ _) F.entry_zip_new
  (LM l1 l2 xs ys) ⟨hl1,hl2,?_⟩
 have z1:(sY s.heap l1).objs.size=s.heap.objs.size+1:=Fn ..;have z2:(tu s.heap l1 l2).objs.size=s.heap.objs.size+2:=by rw[Fn,z1]
 have z3:(sk s.heap l1 l2).objs.size=s.heap.objs.size+3:=by rw[Fn,z2]
 have z4:(sH s.heap l1 l2).objs.size=s.heap.objs.size+4:=by rw[Fn,z3]
 have g5:(nv s.heap l1 l2).get? (sH s.heap l1 l2).objs.size=ae _:=A7 _ rfl;have g4:(nv s.heap l1 l2).get? (sk s.heap l1 l2).objs.size=ae _:=Ai _ (A7 _ rfl);have g3:(nv s.heap l1 l2).get? (tu s.heap l1 l2).objs.size=ae _:=Ai _ (Ai _ (A7 _ rfl));have g2:(nv s.heap l1 l2).get? (sY s.heap l1).objs.size=ae _:=Ai _ (Ai _ (Ai _ (A7 _ rfl)));have g1:(nv s.heap l1 l2).get? s.heap.objs.size=ae _:=Ai _ (Ai _ (Ai _ (Ai _ (A7 _ rfl))));show _/\_;rw[z2,z3,z4]at g5;rw[z1,z2]at g3;rw[z3]at g4;rw[z1]at g2;rw[z4];exact⟨⟨_,g5,rfl⟩,h _ g5 g3 g4 ⟨_,g1,rfl,rfl⟩ ⟨_,g2,rfl,rfl⟩ λc o x=>
  Ai _ (Ai _ (Ai _ (Ai _ (Ai _ x))))⟩
end
def BM(K:Ag)(a b:Addr):It:=
 ⟨λi H=>∃xs ys x y,SqT K H a xs/\SqT K H b ys/\xs[i]?=ae x/\ys[i]?=ae y,
  λi H v H'=>∃T x y,v=.ref T/\H T=ah/\H'=upd H T (.tup [x,y])/\(∀xs,SqT K H a xs->xs[i]?=ae x)/\∀ys,SqT K H b ys->ys[i]?=ae y,
  λi H=>∃xs,SqT K H a xs/\xs.length<=i⟩
theorem Inv.many{X:Cx}{pins:List (Addr×Obj)}{σ:St}{H:Hp}{s:Ar}{h':Heap}{t':Nat}{fp:List Addr}{a:Addr}{o:HO}(I:Inv X pins σ H s)(hf:∀b∈fp,dA X pins H b)(k:∀b u,b∉fp->s.heap.get? b=ae u->h'.get? b=ae u)
  (ha:s.heap.objs.size<=a) (new:ObjOk X.prog X.w (upd H a o) h' a o):Inv X pins σ (upd H a o) {s with heap:=h',toks:=t'}:=by
 have hn:H a=ah:=I.hok.fresh ha;have nf:∀b u,H b=ae u->b∉fp:=λb u e z=>by rw[(hf b z).1]at e;cases e
 refine I.call' (s':={ s with heap:=h',toks:=t'}) (ch:=fp) rfl ⟨λb u q _ _ z=>k b u z q,λb u q _ _ z=>⟨u.slots,k b u z q⟩,λb u q n _=>?_,λb u q z=>⟨u,k b u z q⟩,λb xs q=>?_,λb u xs q=>?_,λb ps q=>⟨#[],?_⟩⟩ (λb u e=>?_) I.bare (λb hb=>?_)
 ·rw[a9 (Bj (Bm (Az q) ha))];exact n
 ·rw[a9 (cP q hn)];exact q
 ·rw[a9 (cP q hn)];exact q
 ·rw[a9 (cP q hn),q];simp
 ·by_cases z:b=a
  ·subst z;rw[bQ]at e;cases e;exact new
  ·rw[a9 z]at e;refine(I.hok b u e).stay (λc v hc q=>k c v ?_ q) (λc q=>?_) λc ys q=>?_
   ·rcases hc with z|z
    ·rw[z];exact nf b u e
    ·exact nf c _ z
   ·rw[a9 (cP q hn)];exact q
   ·rw[a9 (cP q hn)];exact q
 ·obtain⟨f0,f1,f2,f3,f4,f5⟩:=hf b hb;exact⟨f3,f1,f4,f5⟩
theorem Inv.many0{X:Cx}{pins:List (Addr×Obj)}{σ:St}{H:Hp}{s:Ar}{h':Heap}{t':Nat}{fp:List Addr}(I:Inv X pins σ H s)(hf:∀b∈fp,dA X pins H b)(k:∀b u,b∉fp->s.heap.get? b=ae u->h'.get? b=ae u):Inv X pins σ H {s with heap:=h',toks:=t'}:=by
 have nf:∀b u,H b=ae u->b∉fp:=λb u e z=>by rw[(hf b z).1]at e;cases e
 refine I.call' (s':={ s with heap:=h',toks:=t'}) (ch:=fp) rfl ⟨λb u q _ _ z=>k b u z q,λb u q _ _ z=>⟨u.slots,k b u z q⟩,λb u q n _=>n,λb u q z=>⟨u,k b u z q⟩,λb xs q=>q,λb u xs q=>q,λb ps q=>⟨#[],by rw[q];simp⟩⟩ (λb u e=>?_) I.bare (λb hb=>?_)
 ·refine(I.hok b u e).stay (λc v hc q=>k c v ?_ q) (λc q=>q) λc ys q=>q;rcases hc with z|z
  ·rw[z];exact nf b u e
  ·exact nf c _ z
 ·obtain⟨f0,f1,f2,f3,f4,f5⟩:=hf b hb;exact⟨f3,f1,f4,f5⟩
theorem Rr{P:Bf}{w:Bx}{K:Ag}{elts:List Expr}{kk:Nat}{pos:Pos}{a b z TI TO i1 i2:Addr}(D:ZipApart z TI TO i1 i2 a b):Turn P w K (.Tuple elts kk pos) (BM K a b) [z,TI,TO,i1,i2] z
  (λi h=>IsZip h z TI TO .none/\E6 h TI (.ref i1) (.ref i2)/\(∃x y,E6 h TO x y)/\h.IsTupleIter i1 a i/\h.IsTupleIter i2 b i) where
 mem:=by simp
 obj:=λi h st c hc=>by
  obtain⟨hz,hI,⟨x,y,hO⟩,⟨o1,e1,c1,d1⟩,⟨o2,e2,c2,d2⟩⟩:=st;simp only[Ap,Aq,or_false]at hc;rcases hc with rfl|rfl|rfl|rfl|rfl
  ·exact⟨_,hz,λv q=>by have q':Data.fields _=Data.cell v:=q;cases q'⟩
  ·exact⟨_,hI,λv q=>by have q':Data.seq _ _=Data.cell v:=q;cases q'⟩
  ·exact⟨_,hO,λv q=>by have q':Data.seq _ _=Data.cell v:=q;cases q'⟩
  ·exact⟨o1,e1,λv q=>by rw[d1]at q;cases q⟩
  ·exact⟨o2,e2,λv q=>by rw[d2]at q;cases q⟩
 keep:=λi h h' st k=>by
  obtain⟨hz,hI,⟨x,y,hO⟩,h1,h2⟩:=st;exact⟨k z (by simp) _ hz,k TI (by simp) _ hI,⟨x,y,k TO (by simp) _ hO⟩,h1.at λo e=>k i1 (by simp) o e,h2.at λo e=>k i2 (by simp) o e⟩
 item:=by
  intro X hP hw hK hc i pins s σ H E I hf st hg;subst hP hw hK;obtain⟨hz,hI,⟨x0,y0,hO⟩,h1,h2⟩:=st;obtain⟨xs,ys,x,y,qa,qb,ex,ey⟩:=hg;obtain⟨its,rv,p,_⟩:=I.tuple qa;obtain⟨jts,rw',p',_⟩:=I.tuple qb;obtain⟨u,hu,ru⟩:=rv.get ex;obtain⟨u',hu',ru'⟩:=rw'.get ey;refine Ro D hz hI hO h1 h2 (show s.heap.IsTuple a its.toArray from p) (show s.heap.IsTuple b jts.toArray from p') (x:=u) (y:=u') (by simpa using hu) (by simpa using hu') λh' a1 a2 a3 a4 a5 a6 a7=>⟨_,rfl,?_⟩;refine wpAny_letOwnedTupleGo_zip (s:={ s with heap:=h'}) a1 λh'' b1 b2=>?_;have T:h''.get? s.heap.objs.size=ae {cls:=.type "tuple",data:=.seq #[u,u']}:=b2.extBut _ _ (E1 (Az hz)) a5;have Tn:H s.heap.objs.size=ah:=I.hok.fresh (Ao _);have kp:∀c o,c∉[z,TI,TO,i1,i2]->s.heap.get? c=ae o->h''.get? c=ae o:=λc o hc e=>by
   simp only[Ap,Aq,or_false,not_or]at hc;exact b2.extBut _ _ hc.1 (a7 c o hc.1 hc.2.2.1 hc.2.2.2.1 hc.2.2.2.2 e)
  refine⟨.ref s.heap.objs.size,upd H s.heap.objs.size (.tup [x,y]),I.many (t':=s.toks) hf kp (Ao _) ⟨by show 2<=Ay;decide,[u,u'],.cons ru (.cons ru' .nil),_,T,rfl,⟨_,rfl⟩,rfl⟩,rfl,⟨_,x,y,rfl,Tn,rfl,λzs q=>by rw[I.tuple_inj q qa];exact ex,λzs q=>by rw[I.tuple_inj q qb];exact ey⟩,
   ⟨b1,b2.extBut _ _ D.TIz (a7 _ _ D.TIz D.TITO D.TIi1 D.TIi2 hI),⟨_,_,b2.extBut _ _ D.TOz a2⟩,a3.extBut b2.extBut D.i1z,a4.extBut b2.extBut D.i2z⟩,λc hc=>?_⟩
  have hlt:c < s.heap.objs.size:=by
   simp only[Ap,Aq,or_false]at hc;rcases hc with rfl|rfl|rfl|rfl|rfl
   ·exact Az hz
   ·exact Az hI
   ·exact Az hO
   ·obtain⟨_,e,_⟩:=h1;exact Az e
   ·obtain⟨_,e,_⟩:=h2;exact Az e
  rw[a9 (Bj hlt)];exact(hf c hc).1
 done:=by
  intro X hP hw hK hc i pins s σ H E I hf st hg;subst hP hw hK;obtain⟨hz,hI,_,h1,h2⟩:=st;obtain⟨xs,hq,hx⟩:=hg;obtain⟨its,rv,p,_⟩:=I.tuple hq;have hl:=rv.length;refine NP (I.ok.hd hc) D hz hI h1 (show s.heap.IsTuple a its.toArray from p) (by simp;omega) λh' k=>⟨rfl,I.many0 (t':=s.toks) hf λc o hc e=>?_⟩;simp only[Ap,Aq,or_false,not_or]at hc;exact k c o hc.1 hc.2.2.2.1 e
 self:=λ_ _ _ _ _ st h=>wpAny_pyIter_zip st.1 h
def oO(K:Ag)(ta:TA):TI:=λσ H R=>ta σ H λvs H1=>∃a b,vs=[.ref a,.ref b]/\(∃xs,SqT K H1 a xs)/\(∃ys,SqT K H1 b ys)/\R (BM K a b) H1
theorem Ue:By "zip"=ae (.type "zip"):=by decide +kernel
theorem Nf{X:Cx}{elts:List Expr}{kk:Nat}{tpos:Pos}{e1 e2:Expr}{ta:TA}{p pos:Pos}(hg:Gl X "zip")(hm:X.mg "zip"=ah)(ha:PA X [e1,e2] ta)(hs:Aw [e1,e2] X.env=[(aj,eval e1 X.env),(aj,eval e2 X.env)]:=by rfl)(hs2:Aw [e2] X.env=[(aj,eval e2 X.env)]:=by rfl):
  PI X (.Tuple elts kk tpos) (.Call (.Name "zip" p) [e1,e2] [] pos) (oO X.K ta):=by
 intro pins s σ H R I h;refine Call_ (mw I hg hm Ue (D7 (aZ (ha pos pins s σ H _ I h) λus s1 ⟨vs,H1,I1,r1,q1⟩=>?_) (by rw[hs,hs2]) (by rw[hs2];rfl)));obtain⟨a,b,e,⟨xs,qa⟩,⟨ys,qb⟩,q⟩:=q1;subst e;cases r1 with
 |cons r rr=>
  cases rr with
  |cons r' rr=>
   cases rr;cases r;cases r';obtain⟨its,rv,pp,_⟩:=I1.tuple qa;obtain⟨jts,rw',pp',_⟩:=I1.tuple qb;have la:a < s1.heap.objs.size:=by obtain⟨_,e,_⟩:=id pp;exact Az e
   have lb:b < s1.heap.objs.size:=by obtain⟨_,e,_⟩:=id pp';exact Az e
   refine MP (show s1.heap.IsTuple a its.toArray from pp) (show s1.heap.IsTuple b jts.toArray from pp') λh' a1 a2 a3 a4 a5 a6=>wpAny_pyIter_zip (s:={ s1 with heap:=h'}) a1 ?_;refine⟨_,_,_,_,H1,rfl,I1.kept (t':=s1.toks) a6,Rr (zipApart_new la lb),⟨a1,a2,⟨_,_,a3⟩,a4,a5⟩,λc hc=>?_,q⟩;have hlt:s1.heap.objs.size<=c:=by
    simp only[Ap,Aq,or_false]at hc;rcases hc with rfl|rfl|rfl|rfl|rfl<;>omega
   exact I1.fpOk hlt (I1.hok.fresh hlt)
theorem HP{P:Bf}{w:Bx}{A:Ce}(hh:A.handled=ah)(it t:Addr)(hne:t≠it)(xs:Array Aj):Draws P w A it [it,t] xs.size (λi v=>xs[i]?=ae v) (λi h=>h.IsTupleIter it t i/\h.IsTuple t xs) where
 live:=λ_ _ z=>by obtain⟨⟨o,q,_⟩,_⟩:=z;exact⟨o,q⟩
 frame:=λ_ _ _ z k=>⟨z.1.at λo e=>k it (.head _) o e,z.2.at λo e=>k t (.tail _ (.head _)) o e⟩
 item:=λi s Q E hi z k=>xA z.1 z.2 (x:=xs[i]) (Dw hi) λh' a b=>k _ h' s.toks (Dw hi) ⟨a,z.2.extBut b.extBut hne⟩ b
 done:=λs Q E z k=>zr hh z.1 z.2 (by simp) k
abbrev tN(h:Heap)(l:Addr):Heap:=h.push {cls:=.type "tuple_iterator",data:=.fields #[.ref l,.int 0 0]}
abbrev vw(h:Heap)(l:Addr):Heap:=(tN h l).push {cls:=.type "enumerate",data:=.fields #[.none,.bool aj,.ref h.objs.size,rawInt 0,.none,.none]}
theorem Rn(l:Addr)(xs:Array Aj)(n:Nat)(dc:Option Addr)(sl:Array (Option Aj)):
  Meets (Builtin.«enumerate.__new__» ⟨[.type "enumerate",.ref l],[]⟩) (λ_ R s=>s.heap.get? l=ae {cls:=.type "tuple",dict:=dc,data:=.seq xs n,slots:=sl} /\
   R (.ok (.ret (.ref (tN s.heap l).objs.size))) {s with heap:=vw s.heap l}):=
 .of_wp λP w A R s h=>by
  obtain⟨hp,g,d,tk,os⟩:=s;obtain⟨hl,h⟩:=h;have hsub:=sub_enumerate;have hT:Heap.IsTuple (Shared.heap ⟨hp,g,d,tk,os⟩) l xs:=⟨_,hl,rfl,n,rfl⟩
  wp_walk using Ex hl
  refine wpAny_stack_any λst=>Ax ?_
  split
  ·rename_i c _ _ _ _ _;cases(c==Value.type "enumerate")
   ·wp_walk using Ex hl,Dy hT
    exact⟨_,rfl,h⟩
   ·wp_walk using Ex hl,Dy hT
    exact⟨_,rfl,h⟩
  ·wp_walk using Ex hl,Dy hT
   exact⟨_,rfl,h⟩
section
variable{prog:Bf}{w:Bx}{A:Ce}{E:Aj->Ar->Prop}{s:Ar}
theorem Kb{l:Addr}{xs:Array Aj}{Q:Aj->Ar->Prop}(hl:s.heap.IsTuple l xs)
  (h:∀h',IsEnum h' (s.heap.objs.size+1) s.heap.objs.size 0 .none->h'.IsTupleIter s.heap.objs.size l 0->(∀c o,s.heap.get? c=ae o->h'.get? c=ae o)->Q (.ref (s.heap.objs.size+1)) {s with heap:=h'}):
  A6 (Bd prog w) A (call (.type "enumerate") [.ref l]) Q E s:=by
 obtain⟨⟨c,dc,dt,sl⟩,hl,hc,n,hd⟩:=hl;obtain rfl:c=.type "tuple":=hc;obtain rfl:dt=.seq xs n:=hd;refine callType_new F.called_enumerate (by decide) (F.typeCall_enumerate_1 _) (F.newCall_enumerate_1 _) (λo=>F.args_object_init_2 o _) F.entry_enumerate_new (Rn l xs n dc sl) ⟨hl,?_⟩;have z1:(tN s.heap l).objs.size=s.heap.objs.size+1:=Fn ..;have g2:(vw s.heap l).get? (tN s.heap l).objs.size=ae _:=A7 _ rfl;have g1:(vw s.heap l).get? s.heap.objs.size=ae _:=Ai _ (A7 _ rfl);show _/\_;rw[z1]at g2 ⊢;exact⟨⟨_,g2,rfl⟩,h _ g2 ⟨_,g1,rfl,rfl⟩ λc o x=>Ai _ (Ai _ x)⟩
end
def Gm(K:Ag)(a:Addr):It:=
 ⟨λi H=>∃xs x,SqT K H a xs/\xs[i]?=ae x,
  λi H v H'=>∃T x,v=.ref T/\H T=ah/\H'=upd H T (.tup [.int i,x])/\∀xs,SqT K H a xs->xs[i]?=ae x,
  λi H=>∃xs,SqT K H a xs/\xs.length=i⟩
theorem L7{P:Bf}{w:Bx}{K:Ag}{elts:List Expr}{kk:Nat}{pos:Pos}{a e it:Addr}(h1:e≠it)(h2:a≠it)(h3:e≠a):Turn P w K (.Tuple elts kk pos) (Gm K a) [e,it] e
  (λi h=>(∃old,IsEnum h e it i old)/\h.IsTupleIter it a i) where
 mem:=by simp
 obj:=λi h st c hc=>by
  obtain⟨⟨x,he⟩,⟨o1,e1,c1,d1⟩⟩:=st;simp only[Ap,Aq,or_false]at hc;rcases hc with rfl|rfl
  ·exact⟨_,he,λv q=>by have q':Data.fields _=Data.cell v:=q;cases q'⟩
  ·exact⟨o1,e1,λv q=>by rw[d1]at q;cases q⟩
 keep:=λi h h' st k=>⟨st.1.imp λ_ q=>k e (by simp) _ q,st.2.at λo q=>k it (by simp) o q⟩
 item:=by
  intro X hP hw hK hc i pins s σ H E I hf st hg;subst hP hw hK;obtain⟨⟨old,he⟩,hi⟩:=st;obtain⟨xs,x,qa,ex⟩:=hg;obtain⟨its,rv,p,_⟩:=I.tuple qa;obtain⟨u,hu,ru⟩:=rv.get ex;have hlt:i < its.toArray.size:=by simpa using(Au.mp hu).1
  have hef:e∉[it,a]:=λz=>by
   simp only[Ap,Aq,or_false]at z;exact z.elim h1 h3
  refine wpAny_pyNext_enum_itemD (HP (A:=X.A.in1) (I.ok.hd hc) it a h2 its.toArray) he ⟨hi,show s.heap.IsTuple a its.toArray from p⟩ hlt h1 hef λy h' tk a1 a2 a3 a4 a5 a6=>⟨_,rfl,?_⟩;obtain rfl:u=y:=by
   rw[List.getElem?_toArray,hu]at a1;cases a1;rfl
  refine wpAny_letOwnedTupleGo_enum (s:={ s with heap:=h',toks:=tk+1}) a2 λh'' b1 b2=>?_;have T:h''.get? s.heap.objs.size=ae {cls:=.type "tuple",data:=.seq #[.int i tk,u]}:=b2.extBut _ _ (E1 (Az he)) a4;have Tn:H s.heap.objs.size=ah:=I.hok.fresh (Ao _);have kp:∀c o,c∉[e,it]->s.heap.get? c=ae o->h''.get? c=ae o:=λc o hc e=>by
   simp only[Ap,Aq,or_false,not_or]at hc;exact b2.extBut _ _ hc.1 (a6 c o hc.1 hc.2 e)
  refine⟨.ref s.heap.objs.size,upd H s.heap.objs.size (.tup [.int i,x]),I.many (t':=tk+1) hf kp (Ao _) ⟨by show 2<=Ay;decide,[.int i tk,u],.cons ⟨tk,rfl⟩ (.cons ru .nil),_,T,rfl,⟨_,rfl⟩,rfl⟩,rfl,⟨_,x,rfl,Tn,rfl,λzs q=>by rw[I.tuple_inj q qa];exact ex⟩,
   ⟨⟨u,by rw[show((i+1:Nat):Int)=(i:Int)+1 from rfl];exact b1⟩,a3.1.extBut b2.extBut h1.symm⟩,λc hc=>?_⟩
  have hlt:c < s.heap.objs.size:=by
   simp only[Ap,Aq,or_false]at hc;rcases hc with rfl|rfl
   ·exact Az he
   ·obtain⟨_,e,_⟩:=hi;exact Az e
  rw[a9 (Bj hlt)];exact(hf c hc).1
 done:=by
  intro X hP hw hK hc i pins s σ H E I hf st hg;subst hP hw hK;obtain⟨⟨old,he⟩,hi⟩:=st;obtain⟨xs,hq,hx⟩:=hg;obtain⟨its,rv,p,_⟩:=I.tuple hq;have hl:=rv.length;have hs:its.toArray.size=i:=by simp;omega
  refine wpAny_pyNext_enum_endD (HP (A:=X.A.in1) (I.ok.hd hc) it a h2 its.toArray) he (by rw[hs];exact⟨hi,p⟩) λh' k=>⟨rfl,I.many0 (t':=s.toks) hf λc o hc e=>?_⟩;simp only[Ap,Aq,or_false,not_or]at hc;exact k c o hc.2 e
 self:=λ_ _ _ _ _ st h=>wpAny_pyIter_enum st.1.choose_spec h
end L2
namespace DL
open PySem L2 Nb
def cK(kvs:List (aN×Aa))(k:aN):Option Aa:=(kvs.find? λkv=>decide (kv.1=k)).map (·.2)
def fH(kvs:List (aN×Aa))(k:aN)(v:Aa):List (aN×Aa):=
 if (kvs.any λkv=>decide (kv.1=k))=ai then kvs.map (λkv=>if kv.1=k then(kv.1,v)else kv)else kvs++[(k,v)]
def mP(kvs more:List (aN×Aa)):List (aN×Aa):=more.foldl (λacc kv=>fH acc kv.1 kv.2) kvs
section
variable{H H':Hp}{B B':Addr->Prop}{l:List (aN×V)}{m:List (aN×Aa)}{v:V}{d:Aa}{t:Addr}
theorem RdK.len(h:RdK H B l m):l.length=m.length:=by
 unfold RdK at h
 induction h with
 |nil=>rfl
 |cons _ _ ih=>rw[An,An,ih]
theorem RdK.val(h:RdK H B l m)(k:aN):(cJ l k=ah/\cK m k=ah)\/∃v d,cJ l k=ae v/\cK m k=ae d/\RdX H B v d:=by
 unfold RdK at h
 induction h with
 |nil=>exact .inl ⟨rfl,rfl⟩
 |@cons p q ps qs r _ ih=>
  by_cases e:p.1=k
  ·have e':q.1=k:=r.1▸e;exact .inr ⟨p.2,q.2,by simp[cJ,Bh,e],by simp[cK,Bh,e'],r.2⟩
  ·have e':¬q.1=k:=r.1▸e;have a1:cJ (p::ps) k=cJ ps k:=by simp[cJ,Bh,e]
   have a2:cK (q::qs) k=cK qs k:=by simp[cK,Bh,e']
   rw[a1,a2];exact ih
theorem RdK.any(h:RdK H B l m)(k:aN):(l.any λkv=>decide (kv.1=k))=(m.any λkv=>decide (kv.1=k)):=by
 unfold RdK at h
 induction h with
 |nil=>rfl
 |cons r _ ih=>rw[Cu,Cu,ih,r.1]
theorem RdK.map(h:RdK H B l m)(r:RdX H B v d)(k:aN):RdK H B (l.map λkv=>if kv.1=k then(kv.1,v)else kv) (m.map λkv=>if kv.1=k then(kv.1,d)else kv):=by
 unfold RdK at h ⊢
 induction h with
 |nil=>exact .nil
 |@cons p q ps qs r' _ ih=>
  rw[Bi,Bi];refine .cons ?_ ih;by_cases e:p.1=k
  ·rw[if_pos e,if_pos (r'.1▸e:q.1=k)];exact⟨r'.1,r⟩
  ·rw[if_neg e,if_neg (r'.1▸e:¬q.1=k)];exact r'
theorem RdK.append{l2:List (aN×V)}{m2:List (aN×Aa)}(h:RdK H B l m)(h2:RdK H B l2 m2):RdK H B (l++l2) (m++m2):=by
 unfold RdK at h ⊢
 induction h with
 |nil=>exact h2
 |cons r' _ ih=>exact .cons r' ih
theorem RdK.put(h:RdK H B l m)(r:RdX H B v d)(k:aN):RdK H B (cv l k v) (fH m k d):=by
 unfold cv fH;rw[h.any k]
 split
 ·exact h.map r k
 ·exact h.append (.cons ⟨rfl,r⟩ .nil)
theorem RdK.merge{l2:List (aN×V)}{m2:List (aN×Aa)}(h2:RdK H B l2 m2):∀{l:List (aN×V)}{m:List (aN×Aa)},RdK H B l m->RdK H B (l3 l l2) (mP m m2):=by
 unfold RdK at h2
 induction h2 with
 |nil=>intro l m h;exact h
 |@cons p q ps qs r _ ih=>
  intro l m h;show RdK H B (l3 (cv l p.1 p.2) ps) (mP (fH m q.1 q.2) qs);rw[r.1];exact ih (h.put r.2 _)
theorem EK(l:List (aN×V))(k:aN)(v:V):(cv l k v).length<=l.length+1:=by
 unfold cv
 split
 ·rw[Ab];omega
 ·rw[Af];exact Ao _
theorem Qx(l2:List (aN×V)):∀l:List (aN×V),(l3 l l2).length<=l.length+l2.length:=by
 induction l2 with
 |nil=>intro l;exact Ao _
 |cons p r ih=>
  intro l;show(l3 (cv l p.1 p.2) r).length<=_;have:=ih (cv l p.1 p.2);have:=EK l p.1 p.2;rw[An];omega
end
section
variable{X:Cx}{a b c e o i f:Expr}{ta tb te td ty tx:TE}{wa wb we wd' wy wx:DT}{pos p:Pos}{K:Ag}
def dM(i:Nat):DT:=λδ n Q=>match δ[i]? with
 |some (ae (.odk kvs))=>Q (.dk kvs) n
 |some (ae (.w x))=>Q x n
 |_=>False
theorem M1(i:Nat){x:Str}{p:Pos}(hN:X.N[i]?=ae x:=by rfl)(hv:gh X.env.scope x:=by first|exact Cp rfl|exact Bz (Cp rfl)|exact Bz (Bz rfl))(hd:(x==("__debug__":Str))=aj:=by decide)
  (hcd:(x==("__classdict__":Str))=aj:=by decide):DE X (.Name x p) (cW i) (dM i):=⟨gT hN hv hd hcd,λC H B σ δ n Q Q' R h k=>by
 unfold dM at h
 split at h
 ·rename_i kvs e;obtain⟨v,h1,a,l,rfl,g2,g3,g4,g5,g6⟩:=R.sl i _ e;exact⟨_,h1,k _ (.dk kvs) H n R (Kp.refl _ _) ⟨a,l,rfl,g2,λz=>R.t0 (z▸g4),g6⟩ h⟩
 ·rename_i x e;obtain⟨v,h1,h2⟩:=R.sl i _ e;exact⟨v,h1,k v x H n R (Kp.refl _ _) h2.1 h⟩
 ·exact h.elim⟩
def gL:Wv->Wv->Int->DQ->Prop:=λx y n Q=>match x,y with
 |.dk kvs,.d (.str k)=>match cK kvs (.inr k)with
  |some d=>Q (.d d) n
  |none=>False
 |_,_=>False
theorem Po(hu:X.A.units+64 < Fb)(ho:DE X o td wd')(hi:DE X i ty wy)(hs:me i:=by exact λ_ _=>rfl):DE X (.Subscript o i pos) (AV td ty) (w2 wd' wy gL):=⟨K8 (by omega) ho.pe hi.pe hs,λC H B σ δ n Q Q' R h k=>
 ho.sd C H B σ δ n _ _ R h λv x H1 n1 R1 k1 r1 q1=>hi.sd C H1 B σ δ n1 _ _ R1 q1 λu y H2 n2 R2 k2 r2 q2=>by
  have r1':=r1.kp k2 R1.bt;unfold gL at q2
  split at q2
  ·rename_i kvs key;obtain⟨a,l,rfl,g1,g2,g3⟩:=r1';cases(show RdX H2 B u (.str key)from r2);rcases g3.val (.inr key)with⟨e1,e2⟩|⟨v,d,e1,e2,e3⟩
   ·rw[e2]at q2;exact q2.elim
   ·rw[e2]at q2;exact⟨a,v,rfl,.inl ⟨l,.inr key,.inl g1,rfl,e1.symm⟩,k v (.d d) H2 n2 R2 (k1.trans k2) e3 q2⟩
  ·exact q2.elim⟩
def fG(neg:Bool):Wv->Wv->Int->DQ->Prop:=λx y n Q=>match x,y with
 |.d (.str k),.dk kvs=>Q (.d (.bool (if neg then !(cK kvs (.inr k)).isSome else(cK kvs (.inr k)).isSome))) n
 |_,_=>False
theorem Oy(hi:DE X i ty wy)(ho:DE X o td wd'):eS (lL ty td) (w2 wy wd' (fG aj)):=λC H B σ δ n Q Q' R h k=>
 hi.sd C H B σ δ n _ _ R h λv x H1 n1 R1 k1 r1 q1=>ho.sd C H1 B σ δ n1 _ _ R1 q1 λu y H2 n2 R2 k2 r2 q2=>by
  have r1':=r1.kp k2 R1.bt;unfold fG at q2
  split at q2
  ·rename_i key kvs;obtain⟨a,l,rfl,g1,g2,g3⟩:=r2;cases(show RdX H2 B v (.str key)from r1');refine⟨a,cJ l (.inr key),rfl,.inl ⟨l,.inr key,.inl g1,rfl,rfl⟩,k _ _ H2 n2 R2 (k1.trans k2) (wd (.bl _)) ?_⟩;rcases g3.val (.inr key)with⟨e1,e2⟩|⟨v,d,e1,e2,e3⟩
   ·rw[e1];rw[e2]at q2;exact q2
   ·rw[e1];rw[e2]at q2;exact q2
  ·exact q2.elim
theorem RU(hi:DE X i ty wy)(ho:DE X o td wd'):eS (oV ty td) (w2 wy wd' (fG ai)):=λC H B σ δ n Q Q' R h k=>
 hi.sd C H B σ δ n _ _ R h λv x H1 n1 R1 k1 r1 q1=>ho.sd C H1 B σ δ n1 _ _ R1 q1 λu y H2 n2 R2 k2 r2 q2=>by
  have r1':=r1.kp k2 R1.bt;unfold fG at q2
  split at q2
  ·rename_i key kvs;obtain⟨a,l,rfl,g1,g2,g3⟩:=r2;cases(show RdX H2 B v (.str key)from r1');refine⟨a,cJ l (.inr key),rfl,.inl ⟨l,.inr key,.inl g1,rfl,rfl⟩,k _ _ H2 n2 R2 (k1.trans k2) (wd (.bl _)) ?_⟩;rcases g3.val (.inr key)with⟨e1,e2⟩|⟨v,d,e1,e2,e3⟩
   ·rw[e1];rw[e2]at q2;exact q2
   ·rw[e1];rw[e2]at q2;exact q2
  ·exact q2.elim
theorem Re(hu:X.A.units+64 < Fb)(hi:DE X i ty wy)(ho:DE X o td wd')(hm:B9 .In o=aj:=by with_unfolding_all rfl):DE X (.Compare i [.In] [o] pos) (lL ty td) (w2 wy wd' (fG aj)):=⟨FV (TR (by omega) hi.pe ho.pe) hm,Oy hi ho⟩
theorem TJ(hu:X.A.units+64 < Fb)(hi:DE X i ty wy)(ho:DE X o td wd')(hm:B9 .NotIn o=aj:=by with_unfolding_all rfl):DE X (.Compare i [.NotIn] [o] pos) (oV ty td) (w2 wy wd' (fG ai)):=⟨FV (yT (by omega) hi.pe ho.pe) hm,RU hi ho⟩
abbrev kG:=Sl->Int->(List (aN×Aa)->Int->Prop)->Prop
def w8(t:TE)(w:kG):Prop:=∀(C:Ctx)(H:Hp)(B:Addr->Prop)(σ:St)(δ:Sl)(n:Int)(Q:List (aN×Aa)->Int->Prop)(Q':VK),Rel C H B σ δ n->w δ n Q->
 (∀a l kvs H' n',Rel C H' B σ δ n'->Kp C.t H H'->H a=ah->H' a=ae (.dK l)->l.length<=1000->RdK H' (λb=>B b\/b=a) l kvs->Q kvs n'->Q' (.ref a) H')->t σ H Q'
structure DN(X:Cx)(e:Expr)(t:TE)(w:kG):Prop where
 pe:PE X e t
 sd:w8 t w
def l8:kG:=λ_ n Q=>Q [] n
theorem Mi:DN X (.Dict [] [] pos) BS l8:=⟨Pi,λC H B σ δ n Q Q' R q k=>λa ha=>k a [] [] _ n (R.new ha) (Kp.new ha) ha bQ (Bk _) .nil q⟩
def mn:List Aa->Option (List (aN×Aa))
 |[]=>ae []
 |.tuple [.str k,d]::r=>(mn r).map ((.inr k,d)::·)
 |_=>ah
theorem G6{H:Hp}{B:Addr->Prop}:∀{xs:List V}{ds:List Aa}{ps:List (aN×Aa)},RdXs H B xs ds->mn ds=ae ps->∃qs:List (Addr×aN×V),xs=qs.map (λp=>V.ref p.1)/\(∀p∈qs,H p.1=ae (.tup [kV p.2.1,p.2.2]))/\RdK H B (qs.map (·.2)) ps
 |_,_,ps,.nil,h=>by
  cases h;exact⟨[],rfl,λp (hp:p∈[])=>absurd hp Aq,Paired.nil⟩
 |_,_,ps,.cons (d:=d) (ds:=ds) h1 h2,h=>by
  unfold mn at h
  split at h
  ·rename_i e;cases e
  ·rename_i k d' r e;cases e;cases e2:mn ds with
   |none=>rw[e2]at h;cases h
   |some ps'=>
    rw[e2]at h;cases h;obtain⟨qs,f1,f2,f3⟩:=G6 h2 e2;cases h1 with
    |@tup a ys _ g1 g2 g3 g4=>
     cases g4 with
     |cons c1 c2=>
      cases c2 with
      |cons c3 c4=>
       cases c4;cases c1;refine⟨(a,.inr k,_)::qs,by rw[f1];rfl,λp hp=>?_,.cons ⟨rfl,c3⟩ f3⟩;rcases Ap.mp hp with rfl|z
       ·exact g1
       ·exact f2 p z
  ·cases h
def CT:List V->Hp->VK->Prop:=λxs H Q=>∃(src:Addr)(ps:List (Addr×aN×V)),xs=[.ref src]/\H src=ae (.tup (ps.map λp=>V.ref p.1))/\(∀p∈ps,H p.1=ae (.tup [kV p.2.1,p.2.2]))/\ps.length<=1000 /\
  ∀l,H l=ah->Q (.ref l) (L2.upd H l (.dK (l3 [] (ps.map (·.2)))))
def iS(w:DT):kG:=λδ n Q=>w δ n λx n1=>match x with
 |.d (.tuple ds)=>match mn ds with
  |some ps=>ds.length<=1000/\Q (mP [] ps) n1
  |none=>False
 |_=>False
theorem Io(hh:X.A.handled=ah)(hg:Gl X "dict")(hm:X.mg "dict"=ah)(he:DE X e te we)(hv:By "dict"=ae (.type "dict"):=by decide +kernel)
  (he':Aw [e] X.env=(aj,eval e X.env)::Aw [] X.env:=by rfl) (hpl:(C5 pos (Aw [] X.env)).any (·.1)=aj:=by rfl):DN X (.Call (.Name "dict" p) [e] [] pos) (gB CT (dI te cy)) (iS we):=
 ⟨ml (K6 hh) hg hm hv (c6 he.pe eR he') (by decide) (by decide) he' hpl,λC H B σ δ n Q Q' R q k=>
  he.sd C H B σ δ n _ _ R q λv x H1 n1 R1 k1 r1 q1=>by
   split at q1
   ·rename_i ds
    split at q1
    ·rename_i ps ep;cases(show RdX H1 B v (.tuple ds)from r1)with
     |@tup a ys _ g1 g2 g3 g4=>
      obtain⟨qs,f1,f2,f3⟩:=G6 g4 ep;subst f1;have hl:qs.length<=1000:=by have:=g4.len;rw[Ab]at this;rw[this];exact q1.1
      refine⟨a,qs,rfl,g1,f2,hl,λl hl0=>?_⟩;refine k l _ (mP [] ps) _ n1 (R1.new hl0) (k1.trans (Kp.new hl0)) (R1.was k1 hl0) bQ ?_ ?_ q1.2
      ·have:=Qx (qs.map (·.2)) [];rw[Ab]at this;have z:([]:List (aN×V)).length=0:=rfl;omega
      ·refine RdK.merge ?_ .nil;exact f3.move λb o e n=>⟨by rw[a9 (cP e hl0)];exact e,λz=>z.elim n λq=>cP e hl0 q⟩
    ·exact q1.elim
   ·exact q1.elim⟩
def jF(i:Nat)(w:kG):aP:=λδ n K=>w δ n λkvs n1=>K.nx (δ.set i (ae (.odk kvs))) n1
theorem Mg{i:Nat}{x:Str}{pos':Pos}{w:kG}(hN:X.N.Nodup)(hi:X.N[i]?=ae x)(hx:jV X.env.scope x)(he:DN X e te w)(hs:Dt e (ae (.Name x pos')) pos.line X.env=pure aj:=by rfl)(hf:X.fn x=ai\/X.env.scope.names.lookup x=ae .local:=by first|exact .inl rfl|exact .inr rfl|assumption):
  DS X (.Assign [.Name x pos'] e pos) (dv te (ib i)) (jF i w):=⟨jz hN hi hx he.pe hs hf,λC H B σ δ n K D R q E=>
 he.sd C H B σ δ n _ _ R q λa l kvs H1 n1 R1 k1 h0 h1 h2 h3 q1=>by
  refine E.nx _ _ _ _ _ (R.own R1 k1 h0 (by rw[h1];exact λz=>nomatch z) rfl ?_) q1;exact⟨a,l,rfl,h1,.inr rfl,R.h0 h0,h2,h3⟩⟩
def nI(i:Nat)(wy wv:DT):aP:=λδ n K=>match δ[i]? with
 |some (ae (.odk kvs))=>wv δ n λv n1=>wy δ n1 λy n2=>match v,y with
  |.d d,.d (.str k)=>kvs.length < 1000/\K.nx (δ.set i (ae (.odk (fH kvs (.inr k) d)))) n2
  |_,_=>False
 |_=>False
theorem MX{i:Nat}{x:Str}{xp sp:Pos}{j e:Expr}{tj te:TE}{wj we:DT}(hu:X.A.units+64 < Fb)(hN:X.N[i]?=ae x)(hj:DE X j tj wj)(he:DE X e te we)(hv:gh X.env.scope x:=by first|exact Cp rfl|exact Bz (Cp rfl)|exact Bz (Bz rfl))(hd:(x==("__debug__":Str))=aj:=by decide)
  (hcd:(x==("__classdict__":Str))=aj:=by decide) (hs:Dt e (ae (.Subscript (.Name x xp) j sp)) pos.line X.env=pure aj:=by rfl):
  DS X (.Assign [.Subscript (.Name x xp) j sp] e pos) (uK (cW i) tj te) (nI i wj we):=
 ⟨zX (by omega) (gT hN hv hd hcd) hj.pe he.pe hs,λC H B σ δ n K D R q E=>by
  unfold nI at q
  split at q
  ·rename_i kvs ei;refine he.sd C H B σ δ n _ _ R q λu y H1 n1 R1 k1 r1 q1=>?_;obtain⟨v,hv,a,l,rfl,e2,e3,e4,e5,e6⟩:=R1.sl i _ ei;refine⟨_,hv,hj.sd C H1 B σ δ n1 _ _ R1 q1 λw z H2 n2 R2 k2 r2 q2=>?_⟩
   split at q2
   ·rename_i d key;cases(show RdX H2 B w (.str key)from r2);have hat:a≠C.t:=λz=>R.t0 (z▸e4);have e2':=k2 _ _ e2 hat;have r1':RdX H2 B u d:=r1.kp k2 R1.bt;have e6':RdK H2 B l kvs:=e6.move λb o e n=>⟨k2 b o e λz=>n (z▸R1.bt),n⟩;have hl:l.length < 1000:=by rw[e6'.len];exact q2.1
    refine⟨a,_,rfl,DPut.k (k:=.inr key) e2' (Bm hl (fS (Ao _))),?_⟩;refine E.nx _ _ _ _ _ (R2.mutOwn ei rfl hv e3 e4 ?_ rfl) q2.2;refine⟨a,_,rfl,bQ,e3,e4,?_,?_⟩
    ·have:=EK l (.inr key) u;omega
    ·exact(e6'.put r1' _).move λb o e n=>⟨by rw[a9 λ(z:b=a)=>n (z▸e3)];exact e,n⟩
   ·exact q2.elim
  ·exact q.elim⟩
def UB(i:Nat):DT:=λδ n Q=>match δ[i]? with
 |some (ae (.own ds))=>Q (.d (.int ds.length)) n
 |_=>False
def mK(i:Nat)(w:DT):DT:=λδ n Q=>w δ n λx n1=>match x,δ[i]? with
 |.d a,ae (ae (.own ds))=>fg a=ai/\ds.all fg=ai/\Q (.d (.bool (bZ a ds))) n1
 |_,_=>False
theorem OO{i:Nat}(h:eS ta wa):eS (dR (iJ K aj) ta (cW i)) (mK i wa):=λC H B σ δ n Q Q' R q k=>
 h C H B σ δ n _ _ R q λv x H1 n1 R1 k1 r1 q1=>by
  split at q1
  ·rename_i da ds e;have r1:RdX H1 B v da:=r1;obtain⟨u,h1,a,xs,rfl,g2,g3,g4,g5,g6⟩:=R1.sl i _ e;refine⟨_,h1,a,xs,rfl,.inl (SqL.of g2),lD r1 q1.1,kW g6 q1.2.1,k _ _ H1 n1 R1 k1 (wd (.bl _)) ?_⟩;rw[lR r1 g6];exact q1.2.2
  ·exact q1.elim
theorem PM(i:Nat){x:Str}{xp:Pos}(ha:DE X a ta wa)(hK:X.K=K:=by rfl)(hN:X.N[i]?=ae x:=by rfl)(hv:gh X.env.scope x:=by first|exact Cp rfl|exact Bz (Cp rfl)|exact Bz (Bz rfl))(hd:(x==("__debug__":Str))=aj:=by decide)
  (hcd:(x==("__classdict__":Str))=aj:=by decide) (hm:B9 .In (Expr.Name x xp)=aj:=by with_unfolding_all rfl):DC X (.Compare a [.In] [.Name x xp] pos) (j1 (dR (iJ K aj) ta (cW i))) (cT (mK i wa)):=
 ⟨kd (xl hK) ha.pe (gT hN hv hd hcd) hm,lZ (OO ha.sd)⟩
end
section
variable{X:Cx}{a b c e o i f:Expr}{ta tb te td ty tx:TE}{wa wb we wd' wy wx:DT}{pos p:Pos}{K:Ag}
def bx(ps:List (Str×Aa)):List (aN×Aa):=ps.map λp=>(C6 p.1,p.2)
def kg(ps:List (Str×Aa)):Prop:=ps.Pairwise λa b=>¬b.1.cps.toList < a.1.cps.toList
def qm(w:DT):fX:=λδ n Q=>w δ n λx n1=>match x with
 |.dk kvs=>∃ps:List (Str×Aa),kvs=bx ps/\ps.length < 64/\(ps.map (·.1)).Nodup/\(∀p∈ps,p.1.length<=1000/\fg p.2=ai)/\∀ps':List (Str×Aa),ps'.Perm ps->kg ps'->Q (ps'.map λp=>.tuple [.str p.1,p.2]) n1
 |_=>False
theorem AY{H:Hp}{B:Addr->Prop}:∀{l:List (aN×V)}{ps:List (Str×Aa)},RdK H B l (bx ps)->∃xv:List V,xv.length=ps.length/\l=(((ps.map (·.1)).zip xv).map λp=>((C6 p.1:aN),p.2))/\RdXs H B xv (ps.map (·.2))
 |[],[],_=>⟨[],rfl,rfl,.nil⟩
 |[],_::_,h=>nomatch h
 |_::_,[],h=>nomatch h
 |q::l,p::ps,.cons r h=>by
  obtain⟨xv,e1,e2,e3⟩:=AY (l:=l) (ps:=ps) h;refine⟨q.2::xv,by simp[e1],?_,.cons r.2 e3⟩;rw[e2];have r1:q.1=(C6 p.1:aN):=r.1;have:q=((C6 p.1:aN),q.2):=by rw[<-r1]
  rw[this];rfl
def S7:V->List V->Hp->VK->Prop:=λx vs H Q=>∃d kvs,x=.ref d/\vs=[]/\H d=ae (.dK kvs)/\∀v,H v=ah->Q (.ref v) (upd H v (kU d v))
theorem yb{α β:Type}{f:α->β}{l:List α}{i:Nat}{x:α}{y:β}(h:i < l.length):(l.map f).getD i y=f (l.getD i x):=by simp[h]
theorem ME{ap ip:Pos}(hh:X.A.handled=ah)(hg:Gl X "sorted")(hm:X.mg "sorted"=ah)(ho:DE X o td wd')(hv:By "sorted"=ae (.builtin "sorted"):=by decide +kernel)(hK:X.K=K:=by rfl)
  (hbase:F7 o "items" X.env (eval o X.env)=eval o X.env:=by rfl) (hline:(ap.endLine==ip.line)=ai:=by rfl)
  (he':Aw [Expr.Call (.Attribute o "items" ap) [] [] ip] X.env=(aj,eval (Expr.Call (.Attribute o "items" ap) [] [] ip) X.env)::Aw [] X.env:=by rfl) (hpl:(C5 pos (Aw [] X.env)).any (·.1)=aj:=by rfl):
  DF X (.Call (.Name "sorted" p) [.Call (.Attribute o "items" ap) [] [] ip] [] pos) (gB FH (dI (oB K "dict" S7 td) cy)) (qm wd'):=by
 subst hK;refine⟨ma (J6 hh) hg hm hv (c6 (Ja PySem.F.plainAttrs_dict PySem.F.slot_dict_items PySem.F.type_dict_items IA ho.pe hbase hline) eR he') (by decide) (by decide) he' hpl,λC H B σ δ n Q Q' R q k=>
  ho.sd C H B σ δ n _ _ R q λv x H1 n1 R1 k1 r1 q1=>?_⟩
 cases x with
 |d _=>exact q1.elim
 |tp=>exact q1.elim
 |ln _=>exact q1.elim
 |ob _=>exact q1.elim
 |dk kvs=>
  obtain⟨a,l,rfl,g1,g2,g3⟩:=r1;obtain⟨ps,rfl,h64,nd,hps,kq⟩:=q1;obtain⟨xv,ex1,ex2,ex3⟩:=AY g3;refine⟨.inr (.inr (.inl ⟨rfl,.inl ⟨l,g1⟩⟩)),a,l,rfl,rfl,g1,λv hv=>?_⟩;have R2:=R1.new (o:=kU a v) hv;have kp2:Kp C.t H1 (upd H1 v (kU a v)):=Kp.new hv;have hne:a≠v:=cP g1 hv;refine⟨v,a,ps.map (·.1),xv,rfl,bQ,by rw[Ab,ex1],by rw[a9 hne,g1,ex2],by rw[Ab];exact h64,nd,kW ex3 ?_,λD as idx H' hla hidx hpw sm hD has hD' hit=>?_⟩
  ·rw[C0];intro d hd;obtain⟨p,hp,rfl⟩:=Bg.mp hd;exact(hps p hp).2
  ·rw[Ab]at hla hidx;have R3:=R2.same sm;have k3:Kp C.t H H':=(k1.trans kp2).trans λb o e _=>sm b o e;have hDn:H D=ah:=R1.was k1 (by
    cases q:H1 D with
    |none=>rfl
    |some o=>
     have:upd H1 v (kU a v) D=ae o:=by rw[a9 (cP q hv)];exact q
     rw[hD]at this;cases this)
   have hlt:∀i∈idx,i < ps.length:=λi hi=>B8.mp (hidx.mem_iff.mp hi);have lidx:idx.length=ps.length:=by rw[hidx.length_eq,Di]
   refine k D _ _ H' n1 R3 k3 hDn hD' (by rw[Ab,lidx];exact fS (by omega)) ?_ (kq (idx.map λi=>ps.getD i (⟨#[]⟩,.none)) ?_ ?_)
   ·rw[Cw];have key:∀m:List Nat,(∀i∈m,i∈idx)->RdXs H' (λb=>B b\/b=D) (m.map λi=>V.ref (f7 as (ps.map (·.1)) xv i).1) (m.map ((λp=>PyData.tuple [.str p.1,p.2]) ∘ λi=>ps.getD i (⟨#[]⟩,.none))):=by
     intro m
     induction m with
     |nil=>intro _;exact .nil
     |cons i r ih=>
      intro hm;have hi:=hm i As;have hil:=hlt i hi;refine .cons ?_ (ih λj hj=>hm j (Am _ hj));have ht:=hit i hi;have hia:i < as.length:=by rw[hla];exact hil
      have eA:(f7 as (ps.map (·.1)) xv i).1=as[i]:=by show as.getD i 0=_;simp[hia]
      have eK:(f7 as (ps.map (·.1)) xv i).2.1=ps[i].1:=by show(ps.map (·.1)).getD i ⟨#[]⟩=_;simp[hil]
      have hix:i < xv.length:=by rw[ex1];exact hil
      have eX:(f7 as (ps.map (·.1)) xv i).2.2=xv[i]:=by show xv.getD i .non=_;simp[hix]
      rw[eA,eK,eX]at ht;show RdX H' _ (.ref (f7 as (ps.map (·.1)) xv i).1) _;rw[eA];have eP:ps.getD i (⟨#[]⟩,.none)=ps[i]:=by simp[hil]
      show RdX H' _ (.ref as[i]) (.tuple [.str (ps.getD i (⟨#[]⟩,.none)).1,(ps.getD i (⟨#[]⟩,.none)).2]);rw[eP];have hAn:=has as[i] (Ci hia);have nB:¬B as[i]:=R2.nb hAn;have nD:as[i]≠D:=λz=>by rw[z,hD']at ht;cases ht
      refine .tup ht (λz=>z.elim nB nD) (by show 2<=Ay;decide) (.cons (.str _ (fS (hps ps[i] (Ci hil)).1)) (.cons ?_ .nil));obtain⟨d,f1,f2⟩:=ex3.get (Ak hix);rw[A1,Ak hil]at f1;cases f1;exact f2.move λb o e n=>⟨sm b o (by rw[a9 (cP e hv)];exact e),λz=>z.elim n λq=>by
       have e2:upd H1 v (kU a v) b=ae o:=by rw[a9 (cP e hv)];exact e
       rw[q,hD]at e2;cases e2⟩
    exact key idx λ_ h=>h
   ·have h1:=hidx.map λi=>ps.getD i ((⟨#[]⟩:Str),PyData.none);have h2:(Ba ps.length).map (λi=>ps.getD i ((⟨#[]⟩:Str),PyData.none))=ps:=by
     apply Fz (by simp);intro i h1 h2;simp[h2]
    rw[h2]at h1;exact h1
   ·unfold kg;rw[List.pairwise_map];rw[List.pairwise_map]at hpw;refine List.Pairwise.imp_of_mem (λ{x y} hx hy h=>?_) hpw;rw[yb (x:=((⟨#[]⟩:Str),PyData.none)) (hlt x hx),yb (x:=((⟨#[]⟩:Str),PyData.none)) (hlt y hy)]at h;exact h
theorem wX{H:Hp}{B:Addr->Prop}:∀{ys:List Str},(∀y∈ys,y.length<=1000)->RdXs H B (ys.map V.str) (ys.map .str)
 |[],_=>.nil
 |y::r,h=>.cons (.str _ (fS (h y As))) (wX λz hz=>h z (Am _ hz))
def Rp:List Wv->Int->DQ->Prop:=λxs n Q=>match xs with
 |[.d (.int i)]=>Q (.d (.int i)) n
 |[.d (.bool b)]=>Q (.d (.int (if b then 1 else 0))) n
 |_=>False
def dr(xs ys:List Aa):List Aa:=List.zipWith (λx y=>.tuple [x,y]) xs ys
def j0(w w':DT):iq:=λδ n Q=>w δ n λx n1=>w' δ n1 λy n2=>match x,y with
 |.d (.tuple xs),.d (.tuple ys)=>xs.length=ys.length/\Q (dr xs ys) n2
 |_,_=>False
theorem Ux{elts:List Expr}{kk:Nat}{tpos:Pos}(hg:Gl X "zip")(hm:X.mg "zip"=ah)(ha:DE X a ta wa)(hb:DE X b tb wb)(hK:X.K=K:=by rfl)(hs:Aw [a,b] X.env=[(aj,eval a X.env),(aj,eval b X.env)]:=by rfl)(hs2:Aw [b] X.env=[(aj,eval b X.env)]:=by rfl)
  (he1:Aw [a,b] X.env=(aj,eval a X.env)::Aw [b] X.env:=by rfl) (he2:Aw [b] X.env=(aj,eval b X.env)::Aw [] X.env:=by rfl):
  DI X (.Tuple elts kk tpos) (.Call (.Name "zip" p) [a,b] [] pos) (oO K (dI ta (dI tb cy))) (j0 wa wb):=by
 subst hK;refine⟨Nf hg hm (c6 ha.pe (c6 hb.pe eR he2) he1) hs hs2,λC H B σ δ n Q Q' R q k=>ha.sd C H B σ δ n _ _ R q λv x H1 n1 R1 k1 r1 q1=>hb.sd C H1 B σ δ n1 _ _ R1 q1 λu y H2 n2 R2 k2 r2 q2=>?_⟩;have r1':=r1.kp k2 R1.bt
 split at q2
 ·rename_i xs ys;cases(show RdX H2 B v (.tuple xs)from r1')with
  |@tup aa vs _ e1 e2 e3 e4=>
   cases(show RdX H2 B u (.tuple ys)from r2)with
   |@tup ab ws _ f1 f2 f3 f4=>
    refine⟨aa,ab,rfl,⟨vs,SqT.of e1⟩,⟨ws,SqT.of f1⟩,k _ (dr xs ys) H2 n2 R2 (k1.trans k2) (λfz th=>?_) q2.2⟩;have za:fz aa=ae (.tup vs):=th.2 _ _ e1 e2;have zb:fz ab=ae (.tup ws):=th.2 _ _ f1 f2;have lz:(dr xs ys).length=xs.length:=by unfold dr;rw[List.length_zipWith,q2.1,Nat.min_self]
    refine⟨by rw[lz,<-e4.len];exact e3,λi H hH hi=>?_,λH hH=>?_,λi H x H' d hH hd hy=>?_⟩
    ·rw[lz]at hi;have h1:i < vs.length:=by rw[e4.len];exact hi
     have h2:i < ws.length:=by rw[f4.len,<-q2.1];exact hi
     exact⟨vs,ws,vs[i],ws[i],SqT.of (hH _ _ za),SqT.of (hH _ _ zb),Ak h1,Ak h2⟩
    ·exact⟨vs,SqT.of (hH _ _ za),by rw[lz,e4.len];exact Ao _⟩
    ·obtain⟨T,x1,y1,rfl,hT,rfl,hx,hy⟩:=hy;refine⟨λb o e=>by rw[a9 (cP e hT)];exact e,λB' hB hBa=>?_⟩;have hi:i < xs.length:=by rw[<-lz];exact(Au.mp hd).1
     have hi2:i < ys.length:=by rw[<-q2.1];exact hi
     have ed:d=.tuple [xs[i],ys[i]]:=by
      unfold dr at hd;rw[List.getElem?_zipWith,Ak hi,Ak hi2]at hd;exact(A8 hd).symm
     subst ed;obtain⟨u1,hu1,ru1⟩:=e4.getD (Ak hi);obtain⟨u2,hu2,ru2⟩:=f4.getD (Ak hi2);have t1:=hx _ (SqT.of (hH _ _ za));have t2:=hy _ (SqT.of (hH _ _ zb));rw[hu1]at t1;rw[hu2]at t2;cases t1;cases t2;have mv:∀b o,H2 b=ae o->¬B b->upd H T (.tup [x1,y1]) b=ae o/\¬B' b:=λb o e ne=>by
      have:=hH _ _ (th.2 _ _ e ne);exact⟨by rw[a9 (cP this hT)];exact this,hB _ _ (th.2 _ _ e ne)⟩
     exact .tup bQ (λz=>hBa T z hT) (by show 2<=Ay;decide) (.cons (ru1.move mv) (.cons (ru2.move mv) .nil))
 ·exact q2.elim
end
end DL
namespace L2
open PySem PySem.Spec PyProof.Rows PySem.SeqAt
end L2
namespace DL
open PySem L2 Nb
section
variable{X:Cx}{K:Ag}
def xg(K:Ag)(f:Aa->Aa->Option Bool):R2:=λx y H Q=>∃d e b,RdD K H x d/\RdD K H y e/\d.canLay0=ai/\e.canLay0=ai/\d.depth<=20/\e.depth<=20/\f d e=ae b/\Q (.bl b) H
theorem Ib(hu:X.A.units+64 < Fb)(hK:X.K=K:=by rfl):OpR X (Bs .Eq) (xg K λd e=>ae (B5 d e)):=by
 subst hK;intro pins s σ H x y v u Q I rx ry h;obtain⟨d,e,b,h1,h2,h3,h4,h5,h6,h7,q⟩:=h;cases h7;obtain⟨as,r1⟩:=RdD.reads I h1 rx;obtain⟨bs,r2⟩:=RdD.reads I h2 ry;exact SeqAt.compareEq_reads r1 r2 h3 h4 (by omega) ⟨.bl _,H,I,rfl,q⟩
theorem Tv(hu:X.A.units+64 < Fb)(hK:X.K=K:=by rfl):OpR X (Bs .NotEq) (xg K λd e=>ae (!B5 d e)):=by
 subst hK;intro pins s σ H x y v u Q I rx ry h;obtain⟨d,e,b,h1,h2,h3,h4,h5,h6,h7,q⟩:=h;cases h7;obtain⟨as,r1⟩:=RdD.reads I h1 rx;obtain⟨bs,r2⟩:=RdD.reads I h2 ry;exact SeqAt.compareNe_reads r1 r2 h3 h4 (by omega) ⟨.bl _,H,I,rfl,q⟩
def iA(f:Aa->Aa->Option Bool):Wv->Wv->Int->DQ->Prop:=λx y n Q=>match x,y with
 |.d d,.d e=>d.canLay0=ai/\e.canLay0=ai/\d.depth<=20/\e.depth<=20/\∃b,f d e=ae b/\Q (.d (.bool b)) n
 |_,_=>False
theorem uN{f:Aa->Aa->Option Bool}:bH (xg K f) (iA f):=λC H B σ δ n x y p q Q Q' R rx ry h1 k=>by
 unfold iA at h1
 split at h1
 ·rename_i d e;obtain⟨a1,a2,a3,a4,b,a5,a6⟩:=h1;exact⟨d,e,b,RdX.rd rx,RdX.rd ry,a1,a2,a3,a4,a5,k _ _ H n R (Kp.refl _ _) (wd (.bl b)) a6⟩
 ·exact h1.elim
end
end DL
namespace L2
open PySem PySem.Spec PyProof.Rows PySem.W
end L2
namespace DL
open PySem L2 Nb
section
variable{X:Cx}{o:Expr}{td:TE}{wd':DT}{pos p p2 ip:Pos}{W:Bx}
def lp(ys:List Str):Prop:=ys.Pairwise λa b=>¬b.cps.toList < a.cps.toList
variable{a:Expr}{ta:TE}{wa:DT}{K:Ag}
end
section
variable{X:Cx}{a b c e o i f:Expr}{ta tb te td ty tx:TE}{wa wb we wd' wy wx:DT}{pos p:Pos}{K:Ag}
def dC(i:Nat):DT:=λδ n Q=>match δ[i]? with
 |some (ae (.own ds))=>Q (.ln ds) n
 |some (ae (.w x))=>Q x n
 |_=>False
theorem SA(i:Nat){x:Str}{p:Pos}(hN:X.N[i]?=ae x:=by rfl)(hv:gh X.env.scope x:=by first|exact Cp rfl|exact Bz (Cp rfl)|exact Bz (Bz rfl))(hd:(x==("__debug__":Str))=aj:=by decide)
  (hcd:(x==("__classdict__":Str))=aj:=by decide):DE X (.Name x p) (cW i) (dC i):=⟨gT hN hv hd hcd,λC H B σ δ n Q Q' R h k=>by
 unfold dC at h
 split at h
 ·rename_i ds e;obtain⟨v,h1,a,xs,rfl,g2,g3,g4,g5,g6⟩:=R.sl i _ e;exact⟨_,h1,k _ (.ln ds) H n R (Kp.refl _ _) ⟨a,xs,rfl,g2,λz=>R.t0 (z▸g4),g5,g6⟩ h⟩
 ·rename_i x e;obtain⟨v,h1,h2⟩:=R.sl i _ e;exact⟨v,h1,k v x H n R (Kp.refl _ _) h2.1 h⟩
 ·exact h.elim⟩
def aU:Wv->Wv->Int->DQ->Prop:=λx y n Q=>match x with
 |.ln ds=>match y with
  |.d (.int i)=>match cS ds i with
   |some d=>Q (.d d) n
   |none=>False
  |_=>False
 |x=>aB x y n Q
theorem Up:bH (ko K) aU:=λC H B σ δ n x y p q Q Q' R rx ry h1 k=>by
 cases p with
 |ln ds=>
  unfold aU at h1;dsimp only at h1
  split at h1
  ·rename_i i
   split at h1
   ·rename_i d e;cases(show RdX H B y (.int i)from ry);obtain⟨ay,ys,rfl,e1,e2,e3,e4⟩:=rx;obtain⟨v,f1,f2⟩:=wm e4 e;exact .inl ⟨ay,ys,i,v,rfl,rfl,SqL.of e1,f1,k _ _ H n R (Kp.refl _ _) (wd f2) h1⟩
   ·exact h1.elim
  ·exact h1.elim
 |d _=>exact mR C H B σ δ n x y _ q Q Q' R rx ry h1 k
 |tp=>exact mR C H B σ δ n x y _ q Q Q' R rx ry h1 k
 |dk _=>exact mR C H B σ δ n x y _ q Q Q' R rx ry h1 k
 |ob _=>exact mR C H B σ δ n x y _ q Q Q' R rx ry h1 k
theorem Ng(ha:DE X a ta wa)(hb:DE X b tb wb)(hK:X.K=K:=by rfl)(hs:nF b:=by exact λ_ _=>rfl):DE X (.Subscript a b pos) (dR (ko K) ta tb) (w2 wa wb aU):=by
 subst hK;exact⟨hX qM ha.pe hb.pe hs,nL Up ha.sd hb.sd⟩
def fD(neg:Bool):Wv->Wv->Int->DQ->Prop:=λx y n Q=>match y with
 |.ln ds=>match x with
  |.d a=>fg a=ai/\ds.all fg=ai/\Q (.d (.bool (if neg then !bZ a ds else bZ a ds))) n
  |_=>False
 |y=>gD neg x y n Q
theorem Kh{neg:Bool}:bH (iJ K neg) (fD neg):=λC H B σ δ n x y p q Q Q' R rx ry h1 k=>by
 cases q with
 |ln ds=>
  unfold fD at h1;dsimp only at h1
  split at h1
  ·rename_i da;obtain⟨f1,f2,q⟩:=h1;have rx:RdX H B x da:=rx;obtain⟨ay,ys,rfl,e1,e2,e3,e4⟩:=ry;refine⟨ay,ys,rfl,.inl (SqL.of e1),lD rx f1,kW e4 f2,?_⟩;rw[lR rx e4];exact k _ _ H n R (Kp.refl _ _) (wd (.bl _)) q
  ·exact h1.elim
 |d _=>exact lJ C H B σ δ n x y p _ Q Q' R rx ry h1 k
 |tp=>exact lJ C H B σ δ n x y p _ Q Q' R rx ry h1 k
 |dk _=>exact lJ C H B σ δ n x y p _ Q Q' R rx ry h1 k
 |ob _=>exact lJ C H B σ δ n x y p _ Q Q' R rx ry h1 k
def gc:List Wv->Int->DQ->Prop:=λxs n Q=>match xs with
 |[.ln ds]=>Q (.d (.int ds.length)) n
 |xs=>aX xs n Q
theorem K2:d7 (xu K) gc:=λC H B σ δ n vs xs Q Q' R r h k=>by
 unfold gc at h
 split at h
 ·rename_i ds;cases r with
  |cons r1 r2=>
   cases r2;obtain⟨ay,ys,rfl,e1,e2,e3,e4⟩:=r1;refine .inr ⟨ay,ys,rfl,.inl (SqL.of e1),?_⟩;rw[e4.len];exact k _ _ H n R (Kp.refl _ _) (wd (.int _)) h
 ·exact CZ C H B σ δ n vs xs Q Q' R r h k
def bX:Wv->Wv->Int->DQ->Prop:=λx y n Q=>match x,y with
 |.ln ds,.d (.list [])=>Q (.d (.bool ds.isEmpty)) n
 |x,y=>aV x y n Q
theorem yg:bH (md K) bX:=λC H B σ δ n x y p q Q Q' R rx ry h1 k=>by
 unfold bX at h1
 split at h1
 ·rename_i ds;obtain⟨ax,xs,rfl,e1,e2,e3,e4⟩:=rx;cases(show RdX H B y (.list [])from ry)with
  |@lst ay ys _ f1 f2 f3 f4=>
   cases f4;refine .inr (.inr ⟨ax,ay,xs,rfl,rfl,SqL.of e1,SqL.of f1,?_⟩);have:xs.isEmpty=ds.isEmpty:=by cases e4<;>rfl
   rw[this];exact k _ _ H n R (Kp.refl _ _) (wd (.bl _)) h1
 ·exact xI C H B σ δ n x y p q Q Q' R rx ry h1 k
def fq:Wv->Option (List Aa)
 |.ln ds=>ae ds
 |.d (.list ds)=>ae ds
 |_=>ah
def dq:Wv->Wv->Int->DQ->Prop:=λx y n Q=>match fq x,fq y with
 |some i,ae j=>i.length+j.length<=Ay/\Q (.d (.list (i++j))) n
 |_,_=>False
theorem oG{H:Hp}{B:Addr->Prop}{t:Addr}{v:V}{x:Wv}{ds:List Aa}(h:WRel H B t v x)(e:fq x=ae ds):∃a xs,v=.ref a/\H a=ae (.lst xs)/\xs.length<=Ay/\RdXs H B xs ds:=by
 cases x with
 |ln es=>
  cases e;obtain⟨a,xs,h1,h2,h3,h4,h5⟩:=h;exact⟨a,xs,h1,h2,h4,h5⟩
 |d y=>
  cases y with
  |list es=>
   cases e;cases(show RdX H B v (.list ds)from h)with
   |@lst a xs _ e1 e2 e3 e4=>exact⟨a,xs,rfl,e1,e3,e4⟩
  |_=>cases e
 |tp=>cases e
 |dk _=>cases e
 |ob _=>cases e
theorem P8:bH iV dq:=λC H B σ δ n x y p q Q Q' R rx ry h1 k=>by
 unfold dq at h1
 split at h1
 ·rename_i i j ei ej;obtain⟨ax,xs,rfl,e1,e3,e4⟩:=oG rx ei;obtain⟨ay,ys,rfl,f1,f3,f4⟩:=oG ry ej;obtain⟨hl,q⟩:=h1;have hl':xs.length+ys.length<=Ay:=by rw[e4.len,f4.len];exact hl
  refine⟨ax,ay,xs,ys,rfl,rfl,e1,f1,hl',λpn hp=>?_⟩;refine k _ _ _ n (R.new hp) (Kp.new hp) (wd (show RdX _ B _ (.list (i++j))from .lst bQ (R.nb hp) (by rw[Af];exact hl') ?_)) q;exact((e4.append f4).fresh hp).less λb z=>.inl z
 ·exact h1.elim
theorem Pe(ha:DE X a ta wa)(hb:DE X b tb wb):DE X (.BinOp a .Add b pos) (dR iV ta tb) (w2 wa wb dq):=ig uQ P8 ha hb
end
section
variable{X:Cx}{a b c e o i f:Expr}{ta tb te td ty tx:TE}{wa wb we wd' wy wx:DT}{pos p:Pos}{K:Ag}
def b8(w:DT)(g:eM):aP:=λδ n K=>w δ n λx n1=>match x with
 |.d d=>g d δ λδ'=>K.nx δ' n1
 |_=>False
theorem Ks{tg:Expr}{g:TG}{gd:eM}(he:DE X e te we)(hg:DG X tg g gd)(hs:swapsWithSole [tg] e pos.line X.env=pure aj:=by rfl)(hw:swappedStores [tg] e X.env=pure ah:=by rfl)
  (h1:(C2 [tg] X.env).map (·.2)=[Fq tg X.env]:=by rfl):DS X (.Assign [tg] e pos) (dv te g) (b8 we gd):=⟨nM he.pe hg.pg hs hw h1,λC H B σ δ n K D R q E=>
 he.sd C H B σ δ n _ _ R q λv x H1 n1 R1 k1 r1 q1=>by
  cases x with
  |d d=>exact hg.sd C H1 B σ δ n1 v d _ _ R1 r1 q1 λσ' δ' R' q'=>E.nx _ _ _ _ _ R' q'
  |tp=>exact q1.elim
  |dk _=>exact q1.elim
  |ln _=>exact q1.elim
  |ob _=>exact q1.elim⟩
def pj:Wv->Option (List Aa)
 |.ln ds=>ae ds
 |.d (.list ds)=>ae ds
 |.d (.tuple ds)=>ae ds
 |_=>ah
theorem Rw{H:Hp}{B:Addr->Prop}{t:Addr}{v:V}{x:Wv}{ds:List Aa}(h:WRel H B t v x)(e:pj x=ae ds):∃a xs,v=.ref a/\(SqL K H a xs\/SqT K H a xs)/\xs.length<=Ay/\RdXs H B xs ds:=by
 cases x with
 |ln es=>
  cases e;obtain⟨a,xs,h1,h2,h3,h4,h5⟩:=h;exact⟨a,xs,h1,.inl (SqL.of h2),h4,h5⟩
 |d y=>
  cases y with
  |list es=>
   cases e;cases(show RdX H B v (.list ds)from h)with
   |@lst a xs _ e1 e2 e3 e4=>exact⟨a,xs,rfl,.inl (SqL.of e1),e3,e4⟩
  |tuple es=>
   cases e;cases(show RdX H B v (.tuple ds)from h)with
   |@tup a xs _ e1 e2 e3 e4=>exact⟨a,xs,rfl,.inr (SqT.of e1),e3,e4⟩
  |_=>cases e
 |tp=>cases e
 |dk _=>cases e
 |ob _=>cases e
def kM(w:DT):fX:=λδ n Q=>w δ n λx n1=>match pj x with
 |some ds=>Q ds n1
 |none=>False
theorem PR(hg:Gl X "list")(hm:X.mg "list"=ah)(ho:DE X o td wd')(hK:X.K=K:=by rfl)(he:Aw [o] X.env=(aj,eval o X.env)::Aw [] X.env:=by rfl)(hpl:(C5 pos (Aw [] X.env)).any (·.1)=aj:=by rfl):
  DF X (.Call (.Name "list" p) [o] [] pos) (gB (xF K) (dI td cy)) (kM wd'):=
 ⟨ml (yJ hK) hg hm qz (c6 ho.pe eR he) (by decide) (by decide) he hpl,λC H B σ δ n Q Q' R q k=>ho.sd C H B σ δ n _ _ R q λv x H1 n1 R1 k1 r1 q1=>by
  split at q1
  ·rename_i ds ex;obtain⟨a,xs,rfl,h1,h2,h3⟩:=Rw (K:=K) r1 ex;refine⟨a,xs,rfl,h1,λl hl=>?_⟩;exact k l xs ds _ n1 (R1.new hl) (k1.trans (Kp.new hl)) (R1.was k1 hl) bQ h2 (h3.fresh hl) q1
  ·exact q1.elim⟩
def ir:List Wv->Int->DQ->Prop:=λxs n Q=>match xs with
 |[.ln ds]=>Q (.d (.tuple ds)) n
 |xs=>d5 xs n Q
theorem Uu:d7 (uz K) ir:=λC H B σ δ n vs xs Q Q' R r h k=>by
 unfold ir at h
 split at h
 ·rename_i ds;cases r with
  |cons r1 r2=>
   cases r2;obtain⟨ay,ys,rfl,e1,e2,e3,e4⟩:=r1;refine⟨ay,ys,rfl,.inl ⟨SqL.of e1,λl hl=>?_⟩⟩;refine k _ _ _ n (R.new hl) (Kp.new hl) (wd (show RdX _ B _ (.tuple ds)from .tup bQ (R.nb hl) e3 ?_)) h;exact(e4.fresh hl).less λb z=>.inl z
 ·exact HD C H B σ δ n vs xs Q Q' R r h k
def Ml(i:Nat)(w:DT):aP:=λδ n K=>match δ[i]? with
 |some (ae (.own ds))=>w δ n λx n1=>match x with
  |.d (.list es)=>(ds.length < 1000000/\es.length < 1000000)/\K.nx (δ.set i (ae (.own (ds++es)))) n1
  |_=>False
 |_=>False
theorem Oh{n m:Nat}(h:n < 1000000)(h':m < 1000000):n+m<=Ay:=by
 have:2000000<=Ay:=by decide
 omega
theorem Jc(H:Hp)(B:Addr->Prop):RdXs H B qX j4:=.cons .non (.cons .non (.cons .non (.cons (.int _) (.cons (.int _) (.cons (.int _) (.cons (.int _) .nil))))))
def gz(i:Nat):DT:=λδ n Q=>match δ[i]? with
 |some (ae (.w .tp))=>Q (.ln j4) n
 |_=>False
theorem T4(i:Nat){x:Str}{ix:Int}{p p2:Pos}{jj}(hK:X.K=K:=by rfl)(hN:X.N[i]?=ae x:=by rfl)(hv:gh X.env.scope x:=by first|exact Cp rfl|exact Bz (Cp rfl)|exact Bz (Bz rfl))(hd:(x==("__debug__":Str))=aj:=by decide)
  (hcd:(x==("__classdict__":Str))=aj:=by decide):DE X (.Subscript (.Name x p) (.Constant (.int 3) jj p2) pos) (dR (ko K) (cW i) (tC (.int 3))) (gz i):=by
 subst hK;refine⟨hX qM (gT hN hv hd hcd) de (λ_ _=>rfl),λC H B σ δ n Q Q' R h k=>?_⟩;unfold gz at h
 split at h
 ·rename_i e;obtain⟨v,h1,h2⟩:=R.sl i _ e;cases(show v=.ref C.t from h2.1);obtain⟨a,b,ho,_⟩:=R.tp.ob;refine⟨_,h1,.inl ⟨C.t,_,3,.ref C.l.g,rfl,rfl,SqL.of ho,fi (j:=3) rfl,k _ (.ln j4) H n R (Kp.refl _ _) ⟨C.l.g,qX,rfl,R.tp.ag rfl,R.tp.gne,by decide,Jc _ _⟩ h⟩⟩
 ·exact h.elim
end
end DL
namespace L2
open PySem PySem.Spec PyProof.Rows
end L2
namespace DL
open PySem L2 Nb
end DL
namespace HT
open PySem PyProof.Rows
open PySem.SeqAt
open PySem.AutoSeq1 (wpAny_loadPart')
open PySem.MeetsSeq PySem.MeetsSeq2 PySem.MeetsSeq3
section
variable{prog:Bf}{w:Bx}{A:Ce}{E:Aj->Ar->Prop}{s:Ar}
theorem getItem_tuple_whole{t sl:Addr}{items:Array Aj}{vl vu:Aj}{lo hi:Option Int}{Q:Aj->Ar->Prop}(ht:IsTup s.heap t items)(hs:s.heap.IsSliceOf sl vl vu .none)(pl:IsPart vl lo)(pu:IsPart vu hi)
  (h0:sIx items.size 0 lo=0) (h1:sIx items.size items.size hi=items.size) (h:Q (.ref t) s):A6 (Bd prog w) A (getItem (.ref t) (.ref sl)) Q E s:=by
 obtain⟨os,hos,hcs,hds⟩:=id hs;have hTs:s.TypeIs (.ref sl) "slice":=⟨os,hos,hcs⟩;unfold getItem
 try with_reducible refine Dh ?_
 first|refine Ad (Ax ?_)|skip
 refine Ad (wpAny_sequenceKey ht.typeIs (by decide) ?_);refine Ad (C3 (name:=D0 "__getitem__") ht.typeIs Cj
  (Dr Cj ht.typeIs entry_tuple_getitem ?_ (args_tuple_getitem _ _)))
 show A6 _ _ (Fx (.ref t)>>=_) _ _ s;refine Ad (tupleItemsOf_ ht ?_);refine Ad (F0 hTs ?_);rw[if_pos (by decide)];refine Ad (yx hs pl pu ?_);have hyes:(((sIx items.size 0 lo:Nat):Int)==0&&(1:Int)==1&&(sIx items.size items.size hi-sIx items.size 0 lo)==items.size)=ai:=by
  rw[h0,h1];simp
 show A6 _ _ (if (((sIx items.size 0 lo:Nat):Int)==0&&(1:Int)==1&&(sIx items.size items.size hi-sIx items.size 0 lo)==items.size)=ai then _ else _) _ _ s;rw[if_pos hyes];unfold Builtin.Tuple.tupleIsExact;refine Ad (Ad (F0 ht.typeIs (Ax ?_)));rw[if_pos (by decide)];exact Ad (wpAny_rule (Ax ⟨_,rfl,Ax h⟩))
end
end HT
namespace L2
open PySem PySem.Spec PyProof.Rows
def ql(K:Ag):V->Option Int->Option Int->Hp->VK->Prop:=λx lo hi H Q=>∃a xs,x=.ref a/\SqT K H a xs/\HT.sIx xs.length 0 lo=0/\HT.sIx xs.length xs.length hi=xs.length/\Q (.ref a) H
theorem Th{X:Cx}:SlR X (ql X.K):=by
 intro pins s σ H x v vl vu lo hi sl Q I rx hs pl pu h;obtain⟨a,xs,rfl,hx,h0,h1,q⟩:=h;cases rx;obtain⟨its,r,ht,hz⟩:=I.tuple hx;have hlen:its.toArray.size=xs.length:=by rw[A0];exact r.length.symm
 refine⟨"tuple",_,PyProof.Rows.slot_tuple_getitem.lookup,ht.typeIs,?_⟩;exact HT.getItem_tuple_whole ht hs pl pu (by rw[hlen];exact h0) (by rw[hlen];exact h1) ⟨.ref a,H,I,rfl,q⟩
end L2
namespace DL
open PySem L2 Nb
section
variable{X:Cx}{e:Expr}{te:TE}{we:DT}{pos p2:Pos}{K:Ag}{lo hi:Option Expr}
abbrev jJ:=Sl->Int->(Option Int->Int->Prop)->Prop
def cf:jJ:=λ_ n Q=>Q ah n
def cb(w:DT):jJ:=λδ n Q=>w δ n λx n1=>match x with
 |.d (.int i)=>Q (ae i) n1
 |_=>False
def Jb(t:TO)(w:jJ):Prop:=∀(C:Ctx)(H:Hp)(B:Addr->Prop)(σ:St)(δ:Sl)(n:Int)(Q:Option Int->Int->Prop)(Q':Option Int->Hp->Prop),Rel C H B σ δ n->w δ n Q->
 (∀o H' n',Rel C H' B σ δ n'->Kp C.t H H'->Q o n'->Q' o H')->t σ H Q'
structure DOp(X:Cx)(o:Option Expr)(t:TO)(w:jJ):Prop where
 po:PO X o t
 sd:Jb t w
theorem Tz:DOp X ah FU cf:=⟨DU,λC H B σ δ n Q Q' R q k=>k ah H n R (Kp.refl _ _) q⟩
theorem Uh(h:DE X e te we):DOp X (ae e) (G8 te) (cb we):=⟨yC h.pe,λC H B σ δ n Q Q' R q k=>h.sd C H B σ δ n _ _ R q λv x H1 n1 R1 k1 r1 q1=>by
 split at q1
 ·rename_i i;cases(show RdX H1 B v (.int i)from r1);exact⟨i,rfl,k (ae i) H1 n1 R1 k1 q1⟩
 ·exact q1.elim⟩
def bI(xs:List Aa)(lo hi:Option Int):List Aa:=(xs.drop (HT.sIx xs.length 0 lo)).take (HT.sIx xs.length xs.length hi-HT.sIx xs.length 0 lo)
def cC(w:DT)(l u:jJ):DT:=λδ n Q=>w δ n λx n1=>l δ n1 λa n2=>u δ n2 λb n3=>match x with
 |.d (.tuple ds)=>Q (.d (.tuple (bI ds a b))) n3
 |_=>False
def wJ(K:Ag):V->Option Int->Option Int->Hp->VK->Prop:=λx lo hi H Q=>nS K x lo hi H Q\/ql K x lo hi H Q
theorem Lp{tl th:TO}{wl wh:jJ}(he:DE X e te we)(hl:DOp X lo tl wl)(hh:DOp X hi th wh)(hK:X.K=K:=by rfl):DE X (.Subscript e (.Slice lo hi ah p2) pos) (qH (wJ K) te tl th) (cC we wl wh):=by
 subst hK;refine⟨sr (sl_tup.or Th) he.pe hl.po hh.po,λC H B σ δ n Q Q' R q k=>he.sd C H B σ δ n _ _ R q λv x H1 n1 R1 k1 r1 q1=>
  hl.sd C H1 B σ δ n1 _ _ R1 q1 λa H2 n2 R2 k2 q2=>hh.sd C H2 B σ δ n2 _ _ R2 q2 λb H3 n3 R3 k3 q3=>?_⟩
 split at q3
 ·rename_i ds;have r3:RdX H3 B v (.tuple ds):=(r1.kp k2 R1.bt).kp k3 R2.bt;cases r3 with
  |@tup aa xs _ e1 e2 e3 e4=>
   have kk:=(k1.trans k2).trans k3;by_cases hw:HT.sIx xs.length 0 a=0/\HT.sIx xs.length xs.length b=xs.length
   ·refine .inr ⟨aa,xs,rfl,SqT.of e1,hw.1,hw.2,k _ _ H3 n3 R3 kk (wd (show RdX H3 B _ (.tuple ds)from .tup e1 e2 e3 e4)) ?_⟩;have:bI ds a b=ds:=by
     unfold bI;rw[<-e4.len,hw.1,hw.2,List.drop_zero,Nat.sub_zero,e4.len,List.take_length]
    rw[this]at q3;exact q3
   ·refine .inl ⟨aa,xs,rfl,SqT.of e1,hw,λp hp=>?_⟩;refine k _ _ _ n3 (R3.new hp) (kk.trans (Kp.new hp)) (wd (show RdX _ B _ (.tuple (bI ds a b))from .tup bQ (R3.nb hp) (A3 (oS xs a b) e3) ?_)) q3;unfold bI fe;rw[<-e4.len];exact(((e4.drop _).take _).fresh hp).less λb z=>.inl z
 ·exact q3.elim
end
end DL
namespace Nb
open PySem L2
end Nb
namespace DL
open PySem L2 Nb
section
variable{X:Cx}{tg a b c e o i f:Expr}{ta tb te td ty tx:TE}{wa wb we wd' wy wx:DT}{pos p:Pos}{K:Ag}
def UE(i:Nat)(w:DT):aP:=λδ n K=>match δ[i]? with
 |some (ae (.own ds))=>w δ n λx n1=>match x with
  |.d (.tuple es)=>(ds.length < 1000000/\es.length < 1000000)/\K.nx (δ.set i (ae (.own (ds++es)))) n1
  |_=>False
 |_=>False
def jb(hs:List Str)(w:DT):DT:=λδ n Q=>w δ n λx n1=>match x with
 |.d a=>fg a=ai/\Q (.d (.bool (bZ a (hs.map .str)))) n1
 |_=>False
theorem LS{q:Addr}{hs:List Str}(hl:∀h∈hs,h.length<=1000)(hq:∀H,SqT K H q (hs.map V.str))(h:eS ta wa):eS (dR (iJ K aj) ta (tC (.ref q))) (jb hs wa):=λC H B σ δ n Q Q' R z k=>
 h C H B σ δ n _ _ R z λv x H1 n1 R1 k1 r1 q1=>by
  split at q1
  ·rename_i da;have r1:RdX H1 B v da:=r1;have rs:RdXs H1 B (hs.map V.str) (hs.map .str):=wX hl;refine⟨q,_,rfl,.inr (hq H1),lD r1 q1.1,kW rs ?_,k _ _ H1 n1 R1 k1 (wd (.bl _)) ?_⟩
   ·rw[List.all_map];exact C0.mpr λ_ _=>rfl
   ·rw[lR r1 rs];exact q1.2
  ·exact q1.elim
theorem LO{q:Addr}{hs:List Str}{x:Str}{xp:Pos}(ha:DE X a ta wa)(hg:Gl X x)(hm:X.mg x=ae (.ref q))(hq:∀H,SqT K H q (hs.map V.str))(hl:∀h∈hs,h.length<=1000:=by decide +kernel)(hK:X.K=K:=by rfl)(hd:(x==("__debug__":Str))=aj:=by decide)
  (hmk:B9 .In (Expr.Name x xp)=aj:=by with_unfolding_all rfl):DC X (.Compare a [.In] [.Name x xp] pos) (j1 (dR (iJ K aj) ta (tC (.ref q)))) (cT (jb hs wa)):=
 ⟨kd (xl hK) ha.pe (pZ hg hm rfl hd) hmk,lZ (LS hl hq ha.sd)⟩
end
abbrev eZ:=List Wv->Int->(List Aa->Int->Prop)->Prop
def nt(S:eZ):Sp:=λvs H Q _=>∃(t:Addr)(l:TL)(ns:List Int)(B:Addr->Prop)(ws:List Wv)(n:Int)(Q0:List Aa->Int->Prop),Tp H t l ns n/\B t/\(∀b,B b->H b≠ah)/\ARel H B t vs ws/\S ws n Q0 /\
 ∀ds n',Q0 ds n'->∀a xs H',Tp H' t l ns n'->Kp t H H'->H a=ah->H' a=ae (.lst xs)->xs.length<=Ay->RdXs H' (λb=>B b\/b=a) xs ds->Q (.ref a) H'
section
variable{X:Cx}{e:Expr}{es:List Expr}{pos p:Pos}{tR:TA}{wR:fc}{te:TE}{we:DT}
def oA(S:eZ)(w:fc):fX:=λδ n Q=>w δ n λxs n1=>S xs n1 Q
theorem T9{S:eZ}{t:TA}{w:fc}(h:jU t w):jQ (jA (nt S) [] E0 t) (oA S w):=λC H B σ δ n Q Q' R q k=>
 h C H B σ δ n _ _ R q λvs xs H1 n1 R1 k1 r1 q1=>by
  refine⟨C.t,C.l,C.ns,B,xs,n1,Q,R1.tp,R1.bt,R1.ba,by rw[Bt];exact r1,q1,λds n' q2 a ys H' T' k' h0 h1 h2 h3=>?_⟩;exact k a ys ds H' n' (R1.step T' k') (k1.trans k') (R1.was k1 h0) h1 h2 h3 q2
structure HasN(P:Bf)(w:Bx)(K:Ag)(mg:Str->Option Aj)(base:Heap)(k:Nat)(x:Str)(ps:List Str)(S:eZ):Prop where
 ex:∃(f:Addr)(fd:Cm),FnOk P w K mg base dO k f fd ps (nt S)/\Binds K fd ps []/\mg x=ae (.ref f)/\Co K (.ref f)=ai
theorem HasN.mk'{P:Bf}{w:Bx}{K:Ag}{mg:Str->Option Aj}{base:Heap}{k:Nat}{x qual:Str}{st:Stmt}{ps:List Str}{S:eZ}{f:Addr}{fd:Cm}(F:Fun K x qual st f fd)(m:mg x=ae (.ref f))(b:Binds K fd ps [])(h:FnOk P w K mg base dO k f fd ps (nt S)):HasN P w K mg base k x ps S:=⟨f,fd,h,b,m,F.kp⟩
theorem KJ{k:Nat}{ps:List Str}{S:eZ}{x:Str}(h:HasN X.prog X.w X.K X.mg X.base k x ps S)(hr:Room k X.A)(hg:Gl X x)
  (ha:DA X (e::es) tR wR) (hdb:(x==("__debug__":Str))=aj:=by decide) (he:Aw (e::es) X.env=(aj,eval e X.env)::Aw es X.env:=by rfl) (hpl:(C5 pos (Aw es X.env)).any (·.1)=aj:=by rfl):
  DF X (.Call (.Name x p) (e::es) [] pos) (jA (nt S) [] E0 tR) (oA S wR):=by
 obtain⟨f,fd,h1,h2,h3,h4⟩:=h.ex;exact⟨uc h1 hr hg h3 h4 h2 .nil uJ ha.pa hdb he hpl,T9 ha.sd⟩
def rZ(w:fX):aP:=λδ n K=>w δ n K.rn
theorem Tf{w:fX}(h:DF X e te w):DS X (.Return (ae e) pos) (lU te) (rZ w):=⟨m6 h.pe,λC H B σ δ n K D R q E=>
 h.sd C H B σ δ n _ _ R q λa xs ds H' n' R' k' h0 h1 h2 h3 q'=>E.rn H' B σ δ n' a xs ds R' (R.h0 h0) h1 h2 h3 q'⟩
theorem RdXs.rev{H:Hp}{B:Addr->Prop}:∀{vs:List V}{ds:List Aa},RdXs H B vs ds->RdXs H B vs.reverse ds.reverse
 |_,_,.nil=>.nil
 |_,_,.cons h r=>by
  rw[List.reverse_cons,List.reverse_cons];exact(RdXs.rev r).append (.cons h .nil)
end
section
variable{P:Bf}{w:Bx}{K:Ag}{mg:Str->Option Aj}{base:Heap}
theorem Fun.okN{x qual:Str}{st:Stmt}{f:Addr}{fd:Cm}{N ps:List Str}{k:Nat}{S:eZ}(F:Fun K x qual st f fd)(Sc:FnScope N ps (dB st))(len:∀ws n Q,S ws n Q->ws.length=ps.length)
  (hbody:∀(cdv:Aj)(A:Ce)(outer:List Env)(s:Ar)(H:Hp)(E:XK),Room k (A.deeper (Du qual (dB st) s.heap.objs.size f cdv))->
   ∃T W,DSs (eD dO P w K mg base N qual (dB st) f cdv A outer s H E).nox (gM st) T W/\∀ws n Q,S ws n Q->W (bE N ws) n {nx:=λ_ _=>False,rt:=λ_ _=>False,rn:=Q}):FnOk P w K mg base dO (k+1) f fd ps (nt S):=by
 refine F.ok Sc (λvs H Q E h=>?_) (λcdv A outer s H vs Q E hr h=>?_)
 ·obtain⟨t,l,ns,B,ws,n,Q0,_,_,_,r,q,_⟩:=h;rw[r.len];exact len ws n Q0 q
 ·obtain⟨t,l,ns,B,ws,n,Q0,T,bt,ba,r,q,kk⟩:=h;obtain⟨T',W,d,hw⟩:=hbody cdv A outer s H E hr;refine⟨T',d.ps,d.sd ⟨t,l,ns,H,B,λ_=>ah⟩ H B _ _ n _ _ (FM T bt ba r) (hw ws n Q0 q) ⟨?_,?_,?_,?_,?_⟩⟩
  ·exact λ_ _ _ _ _ _ z=>z.elim
  ·exact λ_ _ _ _ _ _ _ _ _ z=>z.elim
  ·exact λ_ _ _ _ _ _ z=>z.elim
  ·exact λ_ _ _ _ _ _ z=>z.elim
  ·exact λH' B' σ δ n' a xs ds R' h0 h1 h2 h3 q'=>kk _ _ q' a xs H' R'.tp R'.kp h0 h1 h2 (h3.less λb z=>z.elim (λz=>.inl (R'.b0 b z)) .inr)
end
end DL
namespace Nb
open PySem L2
def gN(K:Ag)(q:Addr)(D:List (Str×Str)):Prop:=(q==El)=aj/\∃(o:Obj)(es:Array DictEntry)(ep:Nat),K.lookup q=ae o/\o.ExactDict/\o.data=.dict es ep/\PyProof.Rows.KTD.Rows (λ(d:Str) v=>∃t,v=.str d t) es.toList D
def gY(D:List (Str×Str)):List (Str×PyProof.Rows.KTD.Dat):=D.map λp=>(p.1,.flat (.str p.2))
theorem yB(k:Str):∀D:List (Str×Str),A9 k (gY D)=(A9 k D).map λs=>.flat (.str s)
 |[]=>rfl
 | (x,s)::D=>by
  show(if decide (k=x)=ai then ae _ else A9 k (gY D))=Option.map _ (if decide (k=x)=ai then ae s else A9 k D);rw[yB k D]
  split<;>rfl
theorem Hg(k:Str)(D:List (Str×Str)):PyProof.Rows.KTD.inKeys k (gY D)=(A9 k D).isSome:=by
 rw[<-PyProof.Rows.KTD.isSome_datumAt,yB,Fk]
theorem yF{h:Heap}{k:Str}{P:Aj->Prop}:∀D:List (Str×Str),(∀s,A9 k D=ae s->∀t,P (.str s t))->PyProof.Rows.KTD.EachL h k P (gY D)
 |[],_=>trivial
 | (x,s)::D,hp=>by
  by_cases hx:k=x
  ·refine PyProof.Rows.KTD.eachL_hit hx (PyProof.Rows.KTD.opened_str λt=>hp s ?_ t);show(if decide (k=x)=ai then ae s else A9 k D)=ae s;rw[if_pos (decide_eq_true hx)]
  ·refine PyProof.Rows.KTD.eachL_miss hx (yF D λs' hs' t=>hp s' ?_ t);show(if decide (k=x)=ai then ae s else A9 k D)=ae s';rw[if_neg (by simp[hx])];exact hs'
theorem CL:∀D:List (Str×Str),((gY D).all λp=>PyProof.Rows.KTD.plain p.2)=ai
 |[]=>rfl
 |_::D=>by
  show(ai&&(gY D).all λp=>PyProof.Rows.KTD.plain p.2)=ai;rw[CL D];rfl
section
variable{X:Cx}{pins:List (Addr×Obj)}{σ:St}{H:Hp}{s:Ar}{q:Addr}{D:List (Str×Str)}
theorem yY(I:Inv X pins σ H s)(h:gN X.K q D):PyProof.Rows.KTD.Here s.heap s.heap q (gY D):=by
 obtain⟨h1,o,es,ep,hk,h2,h3,h4⟩:=h;exact⟨⟨h1,o,es,ep,I.kIn q o hk,h2,h3,PyProof.Rows.KTD.Rows.mono (f:=λd:Str=>PyProof.Rows.KTD.Dat.flat (.str d)) (R':=PyProof.Rows.KTD.Dat.At s.heap) (λd v ⟨t,e⟩=>by subst e;exact PyProof.V.Flat.str _ _) h4⟩,λ_ _ e=>e⟩
def lF(K:Ag):R2:=λx y H Q=>∃k q D d,x=.ref q/\y=.str k/\gN K q D/\A9 k D=ae d/\Q (.str d) H
theorem Kd:IxR X (lF X.K):=by
 intro value slice pins s σ H x y v u Q I rx ry h hs;obtain⟨k,q,D,d,rfl,rfl,hT,hd,hq⟩:=h;obtain⟨t,rfl⟩:=ry;cases rx;refine PyProof.Rows.KTD.item_textA (yY I hT) (CL D) (by rw[Hg,hd];rfl) (yF D λd' hd' t'=>?_) hs;rw[hd]at hd';cases hd';exact⟨.str d,H,I.kept (t':=s.toks+1) λ_ _ e=>e,⟨t',rfl⟩,hq⟩
end
end Nb
namespace DL
open PySem L2 Nb
section
variable{X:Cx}{a b c e o i f:Expr}{ta tb te ty:TE}{wa wb we wy:DT}{pos p xp:Pos}{K:Ag}{D:List (Str×Str)}{q:Addr}{x:Str}
def Je(D:List (Str×Str))(w:DT):DT:=λδ n Q=>w δ n λx n1=>match x with
 |.d (.str k)=>Q (.d (.bool (A9 k D).isSome)) n1
 |_=>False
def jw(D:List (Str×Str))(w:DT):DT:=λδ n Q=>w δ n λx n1=>match x with
 |.d (.str k)=>match A9 k D with
  |some s=>s.length<=1000/\Q (.d (.str s)) n1
  |none=>False
 |_=>False
theorem Mj{n:Nat}(h:n<=1000):n<=Ay:=A3 h (by decide)
theorem K9(hK:X.K=K:=by rfl):IxR X (lF K):=by subst hK;exact Kd
theorem QC(hi:DE X i ty wy)(hg:Gl X x)(hm:X.mg x=ae (.ref q))(hq:gN K q D)(hs:nF i:=by exact λ_ _=>rfl)(hK:X.K=K:=by rfl)(hd:(x==("__debug__":Str))=aj:=by decide):
  DE X (.Subscript (.Name x xp) i pos) (dR (lF K) (tC (.ref q)) ty) (jw D wy):=⟨hX (K9 hK) (pZ hg hm rfl hd) hi.pe hs,λC H B σ δ n Q Q' R z k=>
 hi.sd C H B σ δ n _ _ R z λv x H1 n1 R1 k1 r1 q1=>by
  split at q1
  ·rename_i key
   split at q1
   ·rename_i s es;cases(show RdX H1 B v (.str key)from r1);exact⟨key,q,D,s,rfl,rfl,hq,es,k _ _ H1 n1 R1 k1 (wd (.str _ (Mj q1.1))) q1.2⟩
   ·exact q1.elim
  ·exact q1.elim⟩
def gJ(wa wb:DT):fX:=λδ n Q=>wa δ n λx n1=>wb δ n1 λy n2=>match fq x,fq y with
 |some i,ae j=>i.length+j.length<=Ay/\Q (i++j) n2
 |_,_=>False
theorem OQ(ha:DE X a ta wa)(hb:DE X b tb wb):DF X (.BinOp a .Add b pos) (dR iV ta tb) (gJ wa wb):=⟨eV uQ ha.pe hb.pe,λC H B σ δ n Q Q' R z k=>
 ha.sd C H B σ δ n _ _ R z λv x H1 n1 R1 k1 r1 q1=>hb.sd C H1 B σ δ n1 _ _ R1 q1 λu y H2 n2 R2 k2 r2 q2=>by
  have r1':=r1.kp k2 R1.bt
  split at q2
  ·rename_i i j ei ej;obtain⟨ax,xs,rfl,e1,e3,e4⟩:=oG r1' ei;obtain⟨ay,ys,rfl,f1,f3,f4⟩:=oG r2 ej;obtain⟨hl,q⟩:=q2;have hl':xs.length+ys.length<=Ay:=by rw[e4.len,f4.len];exact hl
   refine⟨ax,ay,xs,ys,rfl,rfl,e1,f1,hl',λpn hp=>?_⟩;refine k pn (xs++ys) (i++j) _ n2 (R2.new hp) ((k1.trans k2).trans (Kp.new hp)) (R2.was (k1.trans k2) hp) bQ (by rw[Af];exact hl') ((e4.append f4).fresh hp) q
  ·exact q2.elim⟩
end
end DL
namespace L2
open PySem PySem.Spec PyProof.Rows PySem.SeqAt PySem.W
end L2
namespace L2
open PySem PySem.Spec PyProof.Rows
end L2
namespace L2
open PySem PySem.Spec PyProof.Rows PySem.W
end L2
namespace L2
open PySem PySem.Spec PyProof.Rows
end L2
namespace L2
open PySem PySem.Spec PyProof.Rows PySem.SeqAt PySem.W
section
variable{X:Cx}
theorem II{i:Int}(h0:0<=i)(h1:i<=1000):Builtin.List.listFitsIndex i=ai:=fitsIndex_both (by omega) (by omega)
def zQ:V->List V->Hp->VK->Prop:=λx vs H Q=>∃l xs i y,x=.ref l/\vs=[.int i,y]/\H l=ae (.lst xs)/\0<=i/\i<=xs.length/\xs.length < 1000/\Q .non (upd H l (.lst (xs.take i.toNat++y::xs.drop i.toNat)))
theorem Hs{xs:List V}{vs:List Aj}(h:Vals xs vs):∀k:Nat,Vals (xs.take k) (vs.take k)/\Vals (xs.drop k) (vs.drop k):=by
 induction h with
 |nil=>intro k;rw[List.take_nil,List.take_nil,List.drop_nil,List.drop_nil];exact⟨.nil,.nil⟩
 |cons r hr ih=>
  intro k;cases k with
  |zero=>exact⟨.nil,.cons r hr⟩
  |succ k=>exact⟨.cons r (ih k).1,(ih k).2⟩
theorem QE:tL X "list.insert" zQ:=by
 intro pins s σ H x vs v us Q I rx rv h;obtain⟨l,xs,i,y,rfl,rfl,hH,h0,h1,h2,q⟩:=h;cases rx;obtain⟨u1,u,rfl,⟨t,rfl⟩,ru⟩:=oM rv;obtain⟨z,its,n,r,hl,e⟩:=I.lstM hH;refine call_meets F.slot_list_insert ⟨_,e,rfl⟩ F.entry_list_insert (F.args_list_insert_3 _ _ _) (AutoSeq1.list_insert_list_int_val_1 l its.toArray n i t u (by rw[II h0 (by omega)];simp) (by rw[A0];omega)) ⟨e,?_⟩;refine⟨.non,_,I.lset (its':=its.take i.toNat++u::its.drop i.toNat) hH e ?_ ((Hs r _).1.append (.cons ru (Hs r _).2)) ?_,rfl,q⟩
 ·have e1:(if i < 0 then(i+((its.toArray.size:Nat):Int)).toNat else min i.toNat its.toArray.size)=i.toNat:=by
   rw[if_neg (by omega),A0];omega
  show(its.toArray.extract 0 (if i < 0 then(i+((its.toArray.size:Nat):Int)).toNat else min i.toNat its.toArray.size)).push u++its.toArray.extract (if i < 0 then(i+((its.toArray.size:Nat):Int)).toNat else min i.toNat its.toArray.size) its.toArray.size=_;rw[e1];apply Array.toList_inj.mp;simp;exact List.take_of_length_le (by rw[Bw];exact Ao _)
 ·rw[Af,An,Br,Bw,Ei];omega
def oj(neg:Bool):R2:=λx y H Q=>∃a b,x=.bl a/\y=.bl b/\Q (.bl (if neg then a != b else a==b)) H
theorem Jz:OpR X (Bs .IsNot) (oj ai):=by
 intro pins s σ H x y v u Q I rx ry h;obtain⟨a,b,rfl,rfl,q⟩:=h;cases rx;cases ry;exact isnot_bool (df I q rfl)
end
end L2
namespace DL
open PySem L2 Nb
section
variable{X:Cx}{a b c e o i f:Expr}{ta tb te td ty tx:TE}{wa wb we wd' wy wx:DT}{pos p:Pos}{K:Ag}
def ji(i:Nat)(wa wb:DT):aP:=λδ n K=>match δ[i]? with
 |some (ae (.own ds))=>wa δ n λx n1=>wb δ n1 λy n2=>match x,y with
  |.d (.int k),.d d=>(0<=k/\k<=ds.length/\ds.length < 1000)/\K.nx (δ.set i (ae (.own (ds.take k.toNat++d::ds.drop k.toNat)))) n2
  |_,_=>False
 |_=>False
theorem RdXs.takes{H:Hp}{B:Addr->Prop}:∀{vs:List V}{ds:List Aa},RdXs H B vs ds->∀k:Nat,RdXs H B (vs.take k) (ds.take k)/\RdXs H B (vs.drop k) (ds.drop k)
 |_,_,.nil,k=>by rw[List.take_nil,List.take_nil,List.drop_nil,List.drop_nil];exact⟨.nil,.nil⟩
 |_,_,.cons h r,0=>⟨.nil,.cons h r⟩
 |_,_,.cons h r,k+1=>⟨.cons h (RdXs.takes r k).1,(RdXs.takes r k).2⟩
theorem Sw{i:Nat}{x:Str}{xp ap cp:Pos}(hN:X.N[i]?=ae x)(ha:DE X a ta wa)(hb:DE X b tb wb)(hv:gh X.env.scope x:=by first|exact Cp rfl|exact Bz (Cp rfl)|exact Bz (Bz rfl))(hd:(x==("__debug__":Str))=aj:=by decide)
  (hcd:(x==("__classdict__":Str))=aj:=by decide)
  (hbase:F7 (.Name x xp) "insert" X.env (eval (.Name x xp) X.env)=eval (.Name x xp) X.env:=by rfl)
  (hfew:((C5 cp (Aw [a,b] X.env)).all (λx=>!x.1)&&(backToKw cp (keywordEach [] X.env)).all (λx=>x.1.isSome)
   && decide ([a,b].length+([]:List Keyword).length+(if ([]:List Keyword).isEmpty then 0 else 1) < 30))=ai:=by rfl)
  (hline:(ap.endLine==cp.line)=ai:=by rfl) (hs:Aw [a,b] X.env=(aj,eval a X.env)::Aw [b] X.env:=by rfl) (hs2:Aw [b] X.env=(aj,eval b X.env)::Aw [] X.env:=by rfl) (hplain:(C5 cp (Aw [b] X.env)).any (·.1)=aj:=by rfl)
  (hsw:Dt (.Call (.Attribute (.Name x xp) "insert" ap) [a,b] [] cp) ah pos.line X.env=pure aj:=by rfl):
  DS X (.Expr (.Call (.Attribute (.Name x xp) "insert" ap) [a,b] [] cp) pos) (qE (sF X.K "list" zQ (cW i) (dI ta (dI tb cy)))) (ji i wa wb):=
 ⟨t7 (vU Gf PySem.F.slot_list_insert PySem.F.type_list_insert QE (gT hN hv hd hcd) (c6 ha.pe (c6 hb.pe eR hs2) hs) hbase hfew hline hs hplain) hsw,λC H B σ δ n K D R q E=>by
  unfold ji at q
  split at q
  ·rename_i ds ei;obtain⟨v,hv,aa,xs,rfl,e2,e3,e4,e5,e6⟩:=R.sl i _ ei;refine⟨_,hv,.inl ⟨rfl,_,SqL.of e2⟩,ha.sd C H B σ δ n _ _ R q λu x H1 n1 R1 k1 r1 q1=>hb.sd C H1 B σ δ n1 _ _ R1 q1 λu2 y H2 n2 R2 k2 r2 q2=>?_⟩
   split at q2
   ·rename_i kk d;obtain⟨⟨q3,q4,q5⟩,q6⟩:=q2;cases(show RdX H1 B u (.int kk)from r1);have hat:aa≠C.t:=λz=>R.t0 (z▸e4);have e2':=k2 _ _ (k1 _ _ e2 hat) hat;have hle:=e6.len;have r3:RdXs H2 B xs ds:=(e6.kp k1 R.bt).kp k2 R.bt;refine⟨aa,xs,kk,u2,rfl,rfl,e2',q3,by omega,by omega,?_⟩;refine E.nx _ _ _ _ _ (R2.mutOwn ei rfl hv e3 e4 ?_ rfl) q6;refine⟨aa,xs.take kk.toNat++u2::xs.drop kk.toNat,rfl,bQ,e3,e4,?_,?_⟩
    ·rw[Af,An,Br,Bw];exact fS (by omega)
    ·refine RdXs.keep (λb o e n=>?_) ((r3.takes _).1.append (.cons r2 (r3.takes _).2));rw[a9 λ(z:b=aa)=>n (z▸e3)];exact e
   ·exact q2.elim
  ·exact q.elim⟩
def km(neg:Bool):Wv->Wv->Int->DQ->Prop:=λx y n Q=>match x,y with
 |.d (.bool a),.d (.bool b)=>Q (.d (.bool (if neg then a != b else a==b))) n
 |_,_=>False
theorem MZ{neg:Bool}:bH (oj neg) (km neg):=λC H B σ δ n x y p q Q Q' R rx ry h1 k=>by
 unfold km at h1
 split at h1
 ·rename_i u v;cases(show RdX H B x (.bool u)from rx);cases(show RdX H B y (.bool v)from ry);exact⟨u,v,rfl,rfl,k _ _ H n R (Kp.refl _ _) (wd (.bl _)) h1⟩
 ·exact h1.elim
end
end DL
namespace L2
open PySem PySem.Spec PyProof.Rows PySem.SeqAt PySem.W
section
variable{X:Cx}
theorem mB:∀{ds:List Aa},Eg ds=ai->∀d∈ds,Bu d=ai/\Bn d<=E5 ds
 |e::r,c,d,hd=>by
  rw[Eg,A2]at c;rw[E5];rcases Ap.mp hd with rfl|z
  ·exact⟨c.1,by omega⟩
  ·have:=mB c.2 d z;exact⟨this.1,by omega⟩
end
end L2
namespace DL
open PySem L2 Nb
section
variable{X:Cx}{a b c e o i f:Expr}{ta tb te td ty tx:TE}{wa wb we wd' wy wx:DT}{pos p:Pos}{K:Ag}
theorem RdXs.erase{H:Hp}{B:Addr->Prop}:∀{vs:List V}{ds:List Aa},RdXs H B vs ds->∀k:Nat,RdXs H B (vs.eraseIdx k) (ds.eraseIdx k)
 |_,_,.nil,_=>.nil
 |_,_,.cons h r,0=>r
 |_,_,.cons h r,k+1=>.cons h (RdXs.erase r k)
end
section
variable{X:Cx}{o:Expr}{td:TE}{wd':DT}{pos p p2:Pos}{K:Ag}
def vD:aN->Aa
 |.inl i=>.int i
 |.inr x=>.str x
def o4(k:List aN):Aa:=.tuple (k.map vD)
theorem DX{H:Hp}{B:Addr->Prop}{k:List aN}:∀{vs:List V},RdXs H B vs (k.map vD)->vs=k.map kV:=by
 induction k with
 |nil=>intro vs h;cases h;rfl
 |cons x k ih=>
  intro vs h;cases h with
  |cons h t=>
   rw[ih t];cases x with
   |inl i=>cases(show RdX H B _ (.int i)from h);rfl
   |inr x=>cases(show RdX H B _ (.str x)from h);rfl
end
end DL
namespace HT
open PySem PyProof.Rows
section
variable{prog:Bf}{w:Bx}{A:Ce}{E:Aj->Ar->Prop}{s:Ar}
theorem Uz(n:Nat):C1 ah ah (-1) (n:Int)=((n:Int)-1,-1):=by
 unfold C1;simp
theorem Oq(n:Nat):Cc ((n:Int)-1) (-1) (-1)=n:=by
 unfold Cc;simp only[show ¬((-1:Int) > 0) by decide,if_false];by_cases h:n=0
 ·subst h;rfl
 ·have h1:(-1:Int) < (n:Int)-1:=by omega
  have h2:((n:Int)-1 - -1-1) / - -1+1=(n:Int):=by simp;try omega
  have h3:((n:Int)-1 > -1):=by omega
  simp only[h3,if_true];rw[h2];exact Bv n
theorem Pc{sl:Addr}{t:Tok}{n:Nat}{Q:Int×Int×Nat->Ar->Prop}(hs:s.heap.IsSliceOf sl .none .none (.int (-1) t))(h:Q ((n:Int)-1,-1,n) s):
  A6 (Bd prog w) A (Eb (.ref sl) (pure (n:Int))) Q E s:=by
 obtain⟨os,hos,hcs,hds⟩:=id hs;unfold Eb Builtin.Slice.sliceFields;refine Ad (Ad (Cn hos hds (x:=.none) rfl (Ad (Cn hos hds (x:=.none) rfl (Ad (Cn hos hds (x:=.int (-1) t) rfl (Ax ?_)))))));refine Ad (slicePart_int ?_);show A6 _ _ (if ((-1:Int)==0)=ai then _ else _) _ _ s;rw[if_neg (by decide)];refine Ad (slicePart_none (Ad (slicePart_none (Ad (Ax ?_)))));show A6 _ _ (match C1 ah ah (-1) (n:Int)with|(lo,hi)=>pure (lo,(-1:Int),Cc lo hi (-1))) _ _ s;rw[Uz n];show A6 _ _ (pure ((n:Int)-1,(-1:Int),Cc ((n:Int)-1) (-1) (-1))) _ _ s;rw[Oq];exact Ax h
theorem MS(xs:Array Aj):((Ba xs.size).filterMap λ(m:Nat)=>xs[((xs.size:Int)-1+(m:Int)*(-1)).toNat]?).toArray=xs.toList.reverse.toArray:=by
 congr 1
 have e:∀m∈Ba xs.size,xs[((xs.size:Int)-1+(m:Int)*(-1)).toNat]?=ae (xs.getD (xs.size-1-m) B3):=λm hm=>by
  have hm:=B8.mp hm;have e1:((xs.size:Int)-1+(m:Int)*(-1)).toNat=xs.size-1-m:=by omega
  have e2:xs.size-1-m < xs.size:=by omega
  rw[e1,Dw e2];simp[e2]
 have fm:∀l:List Nat,(∀m∈l,m∈Ba xs.size)->(l.filterMap λ(m:Nat)=>xs[((xs.size:Int)-1+(m:Int)*(-1)).toNat]?)=l.map λm=>xs.getD (xs.size-1-m) B3:=by
  intro l
  induction l with
  |nil=>intro _;rfl
  |cons m r ih=>
   intro hm;rw[F6,e m (hm m As),Bi,ih λk hk=>hm k (Am _ hk)]
 rw[fm _ λm hm=>hm];apply Fz
 ·simp
 ·intro i h1 h2;simp at h1;have:xs.size-1-i < xs.size:=by omega
  simp[List.getElem_reverse,this]
theorem getItem_tuple_rev{t sl:Addr}{items:Array Aj}{tk:Tok}{Q:Aj->Ar->Prop}(ht:IsTup s.heap t items)(hs:s.heap.IsSliceOf sl .none .none (.int (-1) tk))
  (h:Q (.ref s.heap.objs.size) {s with heap:=s.heap.push {cls:=.type "tuple",data:=.seq items.toList.reverse.toArray}}) (hsz:items.size<=Ay):A6 (Bd prog w) A (getItem (.ref t) (.ref sl)) Q E s:=by
 have htake:sizeOk (.seq items.toList.reverse.toArray):=by
  show items.toList.reverse.toArray.size<=Ay;rw[A0,F5,D3];exact hsz
 obtain⟨os,hos,hcs,hds⟩:=id hs;have hTs:s.TypeIs (.ref sl) "slice":=⟨os,hos,hcs⟩;unfold getItem
 try with_reducible refine Dh ?_
 first|refine Ad (Ax ?_)|skip
 refine Ad (wpAny_sequenceKey ht.typeIs (by decide) ?_);refine Ad (C3 (name:=D0 "__getitem__") ht.typeIs Cj
  (Dr Cj ht.typeIs entry_tuple_getitem ?_ (args_tuple_getitem _ _)))
 show A6 _ _ (Fx (.ref t)>>=_) _ _ s;refine Ad (tupleItemsOf_ ht ?_);refine Ad (F0 hTs ?_);rw[if_pos (by decide)];refine Ad (Pc hs ?_);have hno:¬(((items.size:Int)-1==0&&(-1:Int)==1&&items.size==items.size)=ai):=by
  intro q;rw[A2,A2]at q;exact absurd q.1.2 (by decide)
 show A6 _ _ (if ((items.size:Int)-1==0&&(-1:Int)==1&&items.size==items.size)=ai then _ else _) _ _ s;rw[if_neg hno,MS]
 first
  |exact Ad (m:=Cf _) (B7 (Ax ⟨_,rfl,Ax h⟩) htake)
  |exact Ad (m:=Cf _) (B7 (Ad (Ax (Ax ⟨_,rfl,Ax h⟩))) htake)
  |exact Ad (Ad (m:=Cf _) (B7 (Ax (Ax ⟨_,rfl,Ax h⟩)) htake))
  |exact Ad (Ad (m:=Cf _) (B7 (Ax ⟨_,rfl,Ax h⟩) htake))
end
end HT
namespace L2
open PySem PySem.Spec PyProof.Rows
section
variable{X:Cx}{e st:Expr}{te ts:TE}{pos p2:Pos}
def Hd(K:Ag)(te ts:TE):TE:=λσ H Q=>te σ H λx H1=>ts σ H1 λy H2=>∃a xs,x=.ref a/\y=.int (-1)/\SqT K H2 a xs/\∀p,H2 p=ah->Q (.ref p) (upd H2 p (.tup xs.reverse))
theorem IL(he:PE X e te)(hs:PE X st ts)(hev:evalPart (ae st) X.env=eval st X.env:=by rfl):PE X (.Subscript e (.Slice ah ah (ae st) p2) pos) (Hd X.K te ts):=by
 intro pins s σ H Q I h;refine Subscript_ (aZ (he pins s σ H _ I h) λv s1 ⟨x,H1,I1,r1,q1⟩=>?_);refine wpAny_Slice ?_;rw[evalPart_none];refine Ax (Ax ?_);rw[hev];refine aZ (hs pins s1 σ H1 _ I1 q1) λvs s3 ⟨y,H3,I3,ry,a,xs,ex,ey,hx,q⟩=>?_;subst ex;subst ey;cases r1;obtain⟨tk,rfl⟩:=ry;have I4:Inv X pins σ H3 {s3 with heap:=s3.heap.push {cls:=.type "slice",data:=.fields #[.none,.none,.int (-1) tk]}}:=I3.kept (t':=s3.toks) λb ob q=>Ai _ q;obtain⟨its,r,ht,hz⟩:=I4.tuple hx;have hlen:its.toArray.size=xs.length:=by rw[A0];exact r.length.symm
 show A6 (Bd X.prog X.w) X.A (subscriptTail e (.Slice ah ah (ae st) p2) (.ref a) (.ref s3.heap.objs.size)) (EP X pins σ Q) X.xe {s3 with heap:=s3.heap.push {cls:=.type "slice",data:=.fields #[.none,.none,.int (-1) tk]}};refine tail_any (ops:=[.ref a,.ref s3.heap.objs.size]) ht.typeIs PyProof.Rows.slot_tuple_getitem.lookup (HT.getItem_tuple_rev ht (Heap.IsSliceOf.new ..) ?_ (by rw[hlen];exact hz)) (by with_unfolding_all rfl);refine⟨.ref _,_,I4.laid (t':=s3.toks) (o:=.tup xs.reverse) (λb ob q=>Ai _ q) (Ao _) ?_,rfl,q _ (I4.hok.fresh (Ao _))⟩;exact⟨by rw[F5];exact hz,its.reverse,r.reverse,IsTupP.new _ _⟩
end
end L2
namespace DL
open PySem L2 Nb
section
variable{X:Cx}{a b c e o i f:Expr}{ta tb te td ty tx:TE}{wa wb we wd' wy wx:DT}{pos p p2 p3 p4:Pos}{K:Ag}
def kj(w:DT):DT:=λδ n Q=>w δ n λx n1=>match x with
 |.d (.tuple ds)=>Q (.d (.tuple ds.reverse)) n1
 |_=>False
theorem Ke{jj}(he:DE X e te we)(hK:X.K=K:=by rfl):DE X (.Subscript e (.Slice ah ah (ae (.UnaryOp .USub (.Constant (.int 1) jj p3) p4)) p2) pos) (Hd K te (xH (rU λi=>.int (-i)) (tC (.int 1)))) (kj we):=by
 subst hK;refine⟨IL he.pe (EA HA de),λC H B σ δ n Q Q' R q k=>he.sd C H B σ δ n _ _ R q λv x H1 n1 R1 k1 r1 q1=>?_⟩
 split at q1
 ·rename_i ds;cases(show RdX H1 B v (.tuple ds)from r1)with
  |@tup ay ys _ e1 e2 e3 e4=>
   refine⟨1,rfl,ay,ys,rfl,rfl,SqT.of e1,λp hp=>k _ _ _ n1 (R1.new hp) (k1.trans (Kp.new hp)) (wd (show RdX _ B _ (.tuple ds.reverse)from .tup bQ (R1.nb hp) (by rw[F5];exact e3) ?_)) q1⟩;exact((RdXs.rev e4).fresh hp).less λb z=>.inl z
 ·exact q1.elim
end
end DL
namespace L2
open PySem PySem.Spec PyProof.Rows PySem.SeqAt
end L2
namespace DL
open PySem L2 Nb
end DL
namespace L2
open PySem PySem.Spec PyProof.Rows
end L2
namespace DL
open PySem L2 Nb
end DL
namespace L2
open PySem PySem.Spec PyProof.Rows
def vi(K:Ag):R2:=λx y H Q=>∃a b ys,x=.ref a/\y=.ref b/\SqT K H a []/\SqT K H b ys/\Q (.ref b) H
theorem JY{X:Cx}:OpR X (Ed .Add) (vi X.K):=by
 intro pins s σ H x y v u Q I rx ry h;obtain⟨a,b,ys,rfl,rfl,ha,hb,q0⟩:=h;cases(show v=A4 a from rx);cases(show u=A4 b from ry);obtain⟨its,r1,p1,_⟩:=I.tuple ha;obtain⟨its2,r2,p2,_⟩:=I.tuple hb;obtain⟨⟨cls,dd,data,sl⟩,ho,hc,n,hd⟩:=id p1;obtain⟨⟨cls2,dd2,data2,sl2⟩,ho2,hc2,n2,hd2⟩:=id p2;simp only at hc hd hc2 hd2;subst hc hd hc2 hd2;have hi:its=[]:=r1.nil_iff.mpr rfl;exact concat_meets ⟨_,ho,rfl⟩ ⟨_,ho2,rfl⟩ noFill_tuple_add seq_tuple_add Fh E7 (Ez _ _)
  (tuple_addW0 a b its.toArray its2.toArray n n2 dd dd2 sl sl2 (by simp[hi])) ⟨ho,ho2,⟨.ref b,H,I,rfl,q0⟩⟩
end L2
namespace DL
open PySem L2 Nb
section
variable{X:Cx}{a b:Expr}{ta tb:TE}{wa wb:DT}{pos p:Pos}{K:Ag}
def cU:Wv->Wv->Int->DQ->Prop:=λx y n Q=>match x,y with
 |.d (.tuple []),.d (.tuple j)=>Q (.d (.tuple j)) n
 |x,y=>fk x y n Q
theorem J2:bH (λx y H Q=>mz K x y H Q\/vi K x y H Q) cU:=λC H B σ δ n x y p q Q Q' R rx ry h1 k=>by
 unfold cU at h1
 split at h1
 ·rename_i j;cases(show RdX H B x (.tuple [])from rx)with
  |@tup ax xs _ e1 e2 e3 e4=>
   cases(show RdX H B y (.tuple j)from ry)with
   |@tup ay ys _ f1 f2 f3 f4=>
    cases e4;exact .inr ⟨ax,ay,ys,rfl,rfl,SqT.of e1,SqT.of f1,k _ _ H n R (Kp.refl _ _) (wd (show RdX H B _ (.tuple j)from .tup f1 f2 f3 f4)) h1⟩
 ·exact .inl (EJ C H B σ δ n x y _ _ Q Q' R rx ry h1 k)
theorem PB(ha:DE X a ta wa)(hb:DE X b tb wb)(hK:X.K=K:=by rfl):DE X (.BinOp a .Add b pos) (dR (λx y H Q=>mz K x y H Q\/vi K x y H Q) ta tb) (w2 wa wb cU):=by
 subst hK;exact ig (op_addA.or JY) J2 ha hb
end
end DL
namespace L2
open PySem PySem.Spec PyProof.Rows
end L2
namespace DL
open PySem L2 Nb
end DL
namespace L2
open PySem PySem.Spec PyProof.Rows
end L2
namespace DL
open PySem L2 Nb
end DL
namespace L2
open PySem PySem.Spec PyProof.Rows
end L2
namespace DL
open PySem L2 Nb
end DL
namespace L2
open PySem PySem.Spec PyProof.Rows
end L2
namespace DL
open PySem L2 Nb
theorem TH{X:Cx}{a b:Expr}{ta tb:TE}{wa wb:DT}{pos:Pos}(ha:DE X a ta wa)(hb:DE X b tb wb):DE X (.BinOp a .Add b pos) (dR (gG λi j=>.int (i+j)) ta tb) (w2 wa wb (b7 λi j=>.int (i+j))):=ig op_add (CB λ_ _ _ _=>.int _) ha hb
section
variable{X:Cx}{a b e o i f:Expr}{ta tb te td ty:TE}{wa wb we wd' wy:DT}{pos p p2:Pos}{K:Ag}
def dP(neg:Bool):Wv->Wv->Int->DQ->Prop:=λx y n Q=>(∃o,x=.ob o/\y=.d .none/\Q (.d (.bool neg)) n)\/cL neg x y n Q
theorem AL{H:Hp}{B:Addr->Prop}{t:Addr}{v:V}{o:Ob}(h:WRel H B t v (.ob o)):∃a,v=.ref a:=by
 cases o with
 |o=>exact h
 |p d=>obtain⟨a,_,_,e,_⟩:=h;exact⟨a,e⟩
 |k m=>obtain⟨a,_,e,_⟩:=h;exact⟨a,e⟩
 |q d m=>obtain⟨a,_,_,_,e,_⟩:=h;exact⟨a,e⟩
theorem T2:bH (λx y H Q=>y=.non/\Q (.bl (decide (x=.non))) H) (dP aj):=λC H B σ δ n x y p q Q Q' R rx ry h1 k=>by
 rcases h1 with⟨o,rfl,rfl,h⟩|h
 ·obtain⟨a,rfl⟩:=AL rx;cases(show RdX H B y .none from ry);exact⟨rfl,k _ _ H n R (Kp.refl _ _) (wd (.bl _)) h⟩
 ·exact zS C H B σ δ n x y p q Q Q' R rx ry h k
theorem AX:bH (λx y H Q=>y=.non/\Q (.bl (!decide (x=.non))) H) (dP ai):=λC H B σ δ n x y p q Q Q' R rx ry h1 k=>by
 rcases h1 with⟨o,rfl,rfl,h⟩|h
 ·obtain⟨a,rfl⟩:=AL rx;cases(show RdX H B y .none from ry);exact⟨rfl,k _ _ H n R (Kp.refl _ _) (wd (.bl _)) h⟩
 ·exact Hq C H B σ δ n x y p q Q Q' R rx ry h k
def u9(w w':DT):DT:=λδ n Q=>w δ n λx n1=>w' δ n1 λy n2=>∃d m,x=.d d/\y=.ob (.k m)/\Q (.ob (.q d m)) n2
theorem NU{x1}(ha:DE X a ta wa)(hb:DE X b tb wb)(he:Aw [a,b] X.env=(aj,eval a X.env)::Aw [b] X.env:=by rfl)(he':Aw [b] X.env=(aj,eval b X.env)::Aw [] X.env:=by rfl):DE X (.Tuple [a,b] x1 pos) (j2 (dI ta (dI tb cy))) (u9 wa wb):=
 ⟨uV (c6 ha.pe (c6 hb.pe eR he') he),λC H B σ δ n Q Q' R q k=>
  ha.sd C H B σ δ n _ _ R q λv x H1 n1 R1 k1 r1 q1=>hb.sd C H1 B σ δ n1 _ _ R1 q1 λu y H2 n2 R2 k2 r2 q2=>by
   obtain⟨d,m,rfl,rfl,q3⟩:=q2;have r1':RdX H2 B v d:=r1.kp k2 R1.bt;obtain⟨b,l,rfl,g1,g2,g3⟩:=r2;refine⟨small (show 2<=1000 by decide),λp hp=>k _ (.ob (.q d m)) _ n2 (R2.new hp) ((k1.trans k2).trans (Kp.new hp)) ⟨p,v,b,l,rfl,bQ,R2.nb hp,?_,?_,g2,?_⟩ q3⟩
   ·exact r1'.kp (Kp.new (t:=C.t) hp) R2.bt
   ·exact Kp.new (t:=C.t) hp _ _ g1 λz=>g2 (z▸R2.bt)
   ·exact g3.move λb o e n=>⟨Kp.new (t:=C.t) hp b o e λz=>n (z▸R2.bt),n⟩⟩
def aO:Wv->Wv->Int->DQ->Prop:=λx y n Q=>(∃d m,x=.ob (.q d m)/\((y=.d (.int 0)/\Q (.d d) n)\/(y=.d (.int 1)/\Q (.dk m) n)))\/aB x y n Q
theorem Lc:bH (ko K) aO:=λC H B σ δ n x y p q Q Q' R rx ry h1 k=>by
 rcases h1 with⟨d,m,rfl,h⟩|h
 ·obtain⟨a,v,b,l,rfl,e2,e3,e4,e5,e6,e7⟩:=rx;rcases h with⟨rfl,h⟩|⟨rfl,h⟩
  ·cases(show RdX H B y (.int 0)from ry);exact .inr (.inl ⟨a,[v,.ref b],0,v,rfl,rfl,SqT.of e2,rfl,k _ _ H n R (Kp.refl _ _) (wd e4) h⟩)
  ·cases(show RdX H B y (.int 1)from ry);exact .inr (.inl ⟨a,[v,.ref b],1,.ref b,rfl,rfl,SqT.of e2,rfl,k _ (.dk m) H n R (Kp.refl _ _) ⟨b,l,rfl,e5,λz=>e6 (z▸R.bt),e7⟩ h⟩)
 ·exact mR C H B σ δ n x y p q Q Q' R rx ry h k
theorem TU(ha:DE X a ta wa)(hb:DE X b tb wb)(hK:X.K=K:=by rfl)(hs:nF b:=by exact λ_ _=>rfl):DE X (.Subscript a b pos) (dR (ko K) ta tb) (w2 wa wb aO):=by
 subst hK;exact⟨hX qM ha.pe hb.pe hs,nL Lc ha.sd hb.sd⟩
end
section
variable{X:Cx}{a b e o:Expr}{ta tb te td ty:TE}{wa wb we wd' wy:DT}{pos p p2:Pos}{K:Ag}{H:Hp}{B:Addr->Prop}{l:List (List aN×V)}{m:List (List aN×Aa)}
def ic(m:List (List aN×Aa))(k:List aN):Bool:=m.any λkv=>decide (kv.1=k)
def gU(m:List (List aN×Aa))(k:List aN)(d:Aa):List (List aN×Aa):=if ic m k=ai then m.map (λkv=>if kv.1=k then(kv.1,d)else kv)else m++[(k,d)]
theorem RdT.any(h:RdT H B l m)(k:List aN):(l.any λkv=>decide (kv.1=k))=ic m k:=by
 unfold RdT at h;unfold ic
 induction h with
 |nil=>rfl
 |cons r _ ih=>rw[Cu,Cu,ih,r.1]
theorem RdT.isSome(h:RdT H B l m)(k:List aN):(cJ l k).isSome=ic m k:=by
 rw[<-h.any k];unfold cJ;rw[Fk,List.isSome_find?]
theorem RdT.len(h:RdT H B l m):l.length=m.length:=by
 unfold RdT at h
 induction h with
 |nil=>rfl
 |cons _ _ ih=>rw[An,An,ih]
theorem RdT.map{v:V}{d:Aa}(h:RdT H B l m)(r:RdX H B v d)(k:List aN):RdT H B (l.map λkv=>if kv.1=k then(kv.1,v)else kv) (m.map λkv=>if kv.1=k then(kv.1,d)else kv):=by
 unfold RdT at h ⊢
 induction h with
 |nil=>exact .nil
 |@cons p q ps qs z _ ih=>
  rw[Bi,Bi];refine .cons ?_ ih;by_cases e:p.1=k
  ·have e':q.1=k:=z.1▸e;rw[if_pos e,if_pos e'];exact⟨z.1,r⟩
  ·have e':¬q.1=k:=z.1▸e;rw[if_neg e,if_neg e'];exact z
theorem RdT.snoc{v:V}{d:Aa}(h:RdT H B l m)(r:RdX H B v d)(k:List aN):RdT H B (l++[(k,v)]) (m++[(k,d)]):=by
 unfold RdT at h ⊢
 induction h with
 |nil=>exact .cons ⟨rfl,r⟩ .nil
 |cons z _ ih=>exact .cons z ih
theorem RdT.put{v:V}{d:Aa}(h:RdT H B l m)(r:RdX H B v d)(k:List aN):RdT H B (cv l k v) (gU m k d):=by
 unfold cv gU;rw[h.any k]
 split
 ·exact h.map r k
 ·exact h.snoc r k
def sJ(i:Nat):aP:=λδ n K=>K.nx (δ.set i (ae (.odt []))) n
theorem Nr{i:Nat}{x:Str}{pos':Pos}(hN:X.N.Nodup)(hi:X.N[i]?=ae x)(hx:jV X.env.scope x)(hs:Dt (.Dict [] [] p) (ae (.Name x pos')) pos.line X.env=pure aj:=by rfl)(hf:X.fn x=ai\/X.env.scope.names.lookup x=ae .local:=by first|exact .inl rfl|exact .inr rfl|assumption):
  DS X (.Assign [.Name x pos'] (.Dict [] [] p) pos) (dv FF (ib i)) (sJ i):=⟨jz hN hi hx KG hs hf,λC H B σ δ n K D R q E=>λa ha=>by
  refine E.nx _ _ _ _ _ (R.own (R.new ha) (Kp.new ha) ha (by rw[bQ];exact λz=>nomatch z) rfl ?_) q;exact⟨a,[],rfl,bQ,.inr rfl,R.h0 ha,Bk _,.nil⟩⟩
def rB(i:Nat)(w:DT):DT:=λδ n Q=>w δ n λx n1=>∃k kvs,x=.d (o4 k)/\δ[i]?=ae (ae (.odt kvs))/\Q (.d (.bool !ic kvs k)) n1
theorem QR{i:Nat}(hi:DE X a ta wa):eS (oV ta (cW i)) (rB i wa):=λC H B σ δ n Q Q' R h k=>
 hi.sd C H B σ δ n _ _ R h λv x H1 n1 R1 k1 r1 q1=>by
  obtain⟨key,kvs,rfl,e,q⟩:=q1;obtain⟨w,h1,b,l,rfl,g2,g3,g4,g5,g6⟩:=R1.sl i _ e;refine⟨_,h1,?_⟩;cases(show RdX H1 B v (.tuple (key.map vD))from r1)with
  |@tup c zs _ i1 i2 i3 i4=>
   have ez:=DX i4;subst ez;refine⟨b,cJ l key,rfl,DGet.t g2 i1,k _ _ H1 n1 R1 k1 (wd (.bl _)) ?_⟩;rw[g6.isSome key];exact q
theorem QI{i:Nat}{x:Str}{xp:Pos}(hu:X.A.units+64 < Fb)(hN:X.N[i]?=ae x)(hi:DE X a ta wa)(hv:gh X.env.scope x:=by first|exact Cp rfl|exact Bz (Cp rfl)|exact Bz (Bz rfl))(hd:(x==("__debug__":Str))=aj:=by decide)
  (hcd:(x==("__classdict__":Str))=aj:=by decide) (hm:B9 .NotIn (.Name x xp)=aj:=by with_unfolding_all rfl):DC X (.Compare a [.NotIn] [.Name x xp] pos) (j1 (oV ta (cW i))) (cT (rB i wa)):=⟨QN (yT (by omega) hi.pe (gT hN hv hd hcd)) hm,lZ (QR hi)⟩
def CI(i:Nat)(wy wv:DT):aP:=λδ n K=>wv δ n λv n1=>∃kvs,δ[i]?=ae (ae (.odt kvs))/\wy δ n1 λy n2=>∃k d,v=.d d/\y=.d (o4 k)/\kvs.length < 1000/\K.nx (δ.set i (ae (.odt (gU kvs k d)))) n2
theorem RY{i:Nat}{x:Str}{xp sp:Pos}{j e:Expr}{tj te:TE}{wj we:DT}(hu:X.A.units+64 < Fb)(hN:X.N[i]?=ae x)(hj:DE X j tj wj)(he:DE X e te we)(hv:gh X.env.scope x:=by first|exact Cp rfl|exact Bz (Cp rfl)|exact Bz (Bz rfl))(hd:(x==("__debug__":Str))=aj:=by decide)
  (hcd:(x==("__classdict__":Str))=aj:=by decide) (hs:Dt e (ae (.Subscript (.Name x xp) j sp)) pos.line X.env=pure aj:=by rfl):
  DS X (.Assign [.Subscript (.Name x xp) j sp] e pos) (uK (cW i) tj te) (CI i wj we):=
 ⟨zX (by omega) (gT hN hv hd hcd) hj.pe he.pe hs,λC H B σ δ n K D R q E=>
  he.sd C H B σ δ n _ _ R q λu y H1 n1 R1 k1 r1 q1=>by
   obtain⟨kvs,ei,q1⟩:=q1;obtain⟨v,hv,a,l,rfl,e2,e3,e4,e5,e6⟩:=R1.sl i _ ei;refine⟨_,hv,hj.sd C H1 B σ δ n1 _ _ R1 q1 λw z H2 n2 R2 k2 r2 q2=>?_⟩;obtain⟨key,d,rfl,rfl,hl0,q2⟩:=q2;have hat:a≠C.t:=λz=>R.t0 (z▸e4);have e2':=k2 _ _ e2 hat;have r1':RdX H2 B u d:=RdX.kp k2 R1.bt r1;have e6':RdT H2 B l kvs:=e6.move λb o e n=>⟨k2 b o e λz=>n (z▸R1.bt),n⟩;have hl:l.length < 1000:=by rw[e6'.len];exact hl0
   cases(show RdX H2 B w (.tuple (key.map vD))from r2)with
   |@tup c zs _ i1 i2 i3 i4=>
    have ez:=DX i4;subst ez;refine⟨a,_,rfl,DPut.t e2' i1 (Bm hl (fS (Ao _))),?_⟩;refine E.nx _ _ _ _ _ (R2.mutOwn ei rfl hv e3 e4 ?_ rfl) q2;refine⟨a,_,rfl,bQ,e3,e4,?_,?_⟩
    ·have:=r8 l key u;omega
    ·exact(e6'.put r1' _).move λb o e n=>⟨by rw[a9 λ(z:b=a)=>n (z▸e3)];exact e,n⟩⟩
end
section
variable{X:Cx}{a b e o i f:Expr}{ta tb te td ty:TE}{wa wb we wd' wy:DT}{pos p p2:Pos}{K:Ag}
def i0(k:Int)(xs:List Aa):List Aa:=xs.zipIdx.map λq=>.tuple [.int (k+q.2),q.1]
theorem mS{k:Int}{xs:List Aa}:(i0 k xs).length=xs.length:=by unfold i0;rw[Ab,List.length_zipIdx]
theorem HQ{k:Int}{xs:List Aa}{i:Nat}{d:Aa}(h:(i0 k xs)[i]?=ae d):∃x,xs[i]?=ae x/\d=.tuple [.int (k+i),x]:=by
 unfold i0 at h;rw[A1,List.getElem?_zipIdx]at h;cases e:xs[i]? with
 |none=>rw[e]at h;cases h
 |some x=>
  rw[e]at h;refine⟨x,rfl,?_⟩;have:=A8 h;rw[<-this,Nat.zero_add]
theorem EV{k:Int}{x:Aa}{xs:List Aa}:i0 k (x::xs)=.tuple [.int k,x]::i0 (k+1) xs:=by
 refine List.ext_getElem? λi=>?_;unfold i0;cases i with
 |zero=>rw[List.zipIdx_cons,Bi,List.getElem?_cons_zero,List.getElem?_cons_zero,Int.natCast_zero,Int.add_zero]
 |succ i=>
  rw[Gi,A1,A1,List.getElem?_zipIdx,List.getElem?_zipIdx,Gi];cases xs[i]? with
  |none=>rfl
  |some y=>
   show ae (PyData.tuple [.int (k+(0+(i+1):Nat)),y])=ae (.tuple [.int (k+1+(0+i:Nat)),y]);have:k+(0+(i+1):Nat)=k+1+(0+i:Nat):=by omega
   rw[this]
def nV(hs:List Str)(w:DT):DT:=λδ n Q=>w δ n λx n1=>∃a,x=.d a/\fg a=ai/\Q (.d (.bool !bZ a (hs.map .str))) n1
theorem Ql{q:Addr}{hs:List Str}(hl:∀h∈hs,h.length<=1000)(hq:∀H,SqT K H q (hs.map V.str))(h:eS ta wa):eS (dR (iJ K ai) ta (tC (.ref q))) (nV hs wa):=λC H B σ δ n Q Q' R z k=>
 h C H B σ δ n _ _ R z λv x H1 n1 R1 k1 r1 q1=>by
  obtain⟨da,rfl,q1⟩:=q1;have r1:RdX H1 B v da:=r1;have rs:RdXs H1 B (hs.map V.str) (hs.map .str):=wX hl;refine⟨q,_,rfl,.inr (hq H1),lD r1 q1.1,kW rs ?_,k _ _ H1 n1 R1 k1 (wd (.bl _)) ?_⟩
  ·rw[List.all_map];exact C0.mpr λ_ _=>rfl
  ·rw[lR r1 rs];exact q1.2
theorem JU{q:Addr}{hs:List Str}{x:Str}{xp:Pos}(ha:DE X a ta wa)(hg:Gl X x)(hm:X.mg x=ae (.ref q))(hq:∀H,SqT K H q (hs.map V.str))(hl:∀h∈hs,h.length<=1000:=by decide +kernel)(hK:X.K=K:=by rfl)(hd:(x==("__debug__":Str))=aj:=by decide)
  (hmk:B9 .NotIn (Expr.Name x xp)=aj:=by with_unfolding_all rfl):DC X (.Compare a [.NotIn] [.Name x xp] pos) (j1 (dR (iJ K ai) ta (tC (.ref q)))) (cT (nV hs wa)):=
 ⟨kd (rA hK) ha.pe (pZ hg hm rfl hd) hmk,lZ (Ql hl hq ha.sd)⟩
end
section
variable{X:Cx}{e:Expr}{te:TE}{we:DT}{pos p:Pos}
def ka(w:kG):DT:=λδ n Q=>w δ n λkvs n1=>Q (.dk kvs) n1
theorem DN.d{w:kG}(h:DN X e te w):DE X e te (ka w):=⟨h.pe,λC H B σ δ n Q Q' R q k=>
 h.sd C H B σ δ n _ _ R q λa l kvs H' n' R' k' h0 h1 h2 h3 q1=>by
  refine k _ (.dk kvs) H' n' R' k' ⟨a,l,rfl,h1,λz=>?_,h3.move λb o e n=>⟨e,λz=>n (.inl z)⟩⟩ q1;obtain⟨_,_,q,_⟩:=R.tp.ob;rw[<-z,h0]at q;cases q⟩
abbrev kA(w:DT):DT:=ka (iS w)
theorem Nz(hh:X.A.handled=ah)(hg:Gl X "dict")(hm:X.mg "dict"=ah)(he:DE X e te we)(he':Aw [e] X.env=(aj,eval e X.env)::Aw [] X.env:=by rfl)(hpl:(C5 pos (Aw [] X.env)).any (·.1)=aj:=by rfl):DE X (.Call (.Name "dict" p) [e] [] pos) (gB CT (dI te cy)) (kA we):=
 (Io hh hg hm he (by decide +kernel) he' hpl).d
end
section
variable{X:Cx}{e:Expr}{te:TE}{we:DT}{pos p2:Pos}{K:Ag}
def UI(w:DT):c8:=λδ n Q=>w δ n λx n1=>match x with
 |.d (.list ds)=>Q (!ds.isEmpty) n1
 |_=>False
def w4(w:DT)(l u:jJ):DT:=λδ n Q=>w δ n λx n1=>l δ n1 λa n2=>u δ n2 λb n3=>match x with
 |.d (.list ds)=>Q (.d (.list (bI ds a b))) n3
 |_=>False
theorem S1{lo hi:Option Expr}{tl th:TO}{wl wh:jJ}(he:DE X e te we)(hl:DOp X lo tl wl)(hh:DOp X hi th wh)(hK:X.K=K:=by rfl):DE X (.Subscript e (.Slice lo hi ah p2) pos) (qH (lV K) te tl th) (w4 we wl wh):=by
 subst hK;refine⟨sr v7 he.pe hl.po hh.po,λC H B σ δ n Q Q' R q k=>he.sd C H B σ δ n _ _ R q λv x H1 n1 R1 k1 r1 q1=>
  hl.sd C H1 B σ δ n1 _ _ R1 q1 λa H2 n2 R2 k2 q2=>hh.sd C H2 B σ δ n2 _ _ R2 q2 λb H3 n3 R3 k3 q3=>?_⟩
 split at q3
 ·rename_i ds;have r3:RdX H3 B v (.list ds):=(r1.kp k2 R1.bt).kp k3 R2.bt;cases r3 with
  |@lst aa xs _ e1 e2 e3 e4=>
   have kk:=(k1.trans k2).trans k3;refine⟨aa,xs,rfl,SqL.of e1,λp hp=>?_⟩;refine k _ _ _ n3 (R3.new hp) (kk.trans (Kp.new hp)) (wd (show RdX _ B _ (.list (bI ds a b))from .lst bQ (R3.nb hp) (A3 (oS xs a b) e3) ?_)) q3;unfold bI fe;rw[<-e4.len];exact(((e4.drop _).take _).fresh hp).less λb z=>.inl z
 ·exact q3.elim
end
end DL
namespace L2
open PySem PySem.Spec PyProof.Rows
def nP(K:Ag)(a:Addr):It:=
 ⟨λi H=>∃xs x,SqL K H a xs/\xs[i]?=ae x,
  λi H v H'=>∃T x,v=.ref T/\H T=ah/\H'=upd H T (.tup [.int i,x])/\∀xs,SqL K H a xs->xs[i]?=ae x,
  λi H=>∃xs,SqL K H a xs/\xs.length=i⟩
theorem JX{P:Bf}{w:Bx}{K:Ag}{elts:List Expr}{kk:Nat}{pos:Pos}{a e it:Addr}(h1:e≠it)(h2:a≠it)(h3:e≠a):Turn P w K (.Tuple elts kk pos) (nP K a) [e,it] e
  (λi h=>(∃old,IsEnum h e it i old)/\h.IsListIter it a i) where
 mem:=by simp
 obj:=λi h st c hc=>by
  obtain⟨⟨x,he⟩,⟨o1,e1,c1,d1⟩⟩:=st;simp only[Ap,Aq,or_false]at hc;rcases hc with rfl|rfl
  ·exact⟨_,he,λv q=>by have q':Data.fields _=Data.cell v:=q;cases q'⟩
  ·exact⟨o1,e1,λv q=>by rw[d1]at q;cases q⟩
 keep:=λi h h' st k=>⟨st.1.imp λ_ q=>k e (by simp) _ q,st.2.at λo q=>k it (by simp) o q⟩
 item:=by
  intro X hP hw hK hc i pins s σ H E I hf st hg;subst hP hw hK;obtain⟨⟨old,he⟩,hi⟩:=st;obtain⟨xs,x,qa,ex⟩:=hg;obtain⟨its,rv,p,_⟩:=I.list qa;obtain⟨u,hu,ru⟩:=rv.get ex;have hlt:i < its.toArray.size:=by simpa using(Au.mp hu).1
  have hef:e∉[it,a]:=λz=>by
   simp only[Ap,Aq,or_false]at z;exact z.elim h1 h3
  refine wpAny_pyNext_enum_itemD (Draws.list (A:=X.A.in1) (I.ok.hd hc) it a h2 its.toArray) he ⟨hi,p.isList⟩ hlt h1 hef λy h' tk a1 a2 a3 a4 a5 a6=>⟨_,rfl,?_⟩;obtain rfl:u=y:=by
   rw[List.getElem?_toArray,hu]at a1;cases a1;rfl
  refine wpAny_letOwnedTupleGo_enum (s:={ s with heap:=h',toks:=tk+1}) a2 λh'' b1 b2=>?_;have T:h''.get? s.heap.objs.size=ae {cls:=.type "tuple",data:=.seq #[.int i tk,u]}:=b2.extBut _ _ (E1 (Az he)) a4;have Tn:H s.heap.objs.size=ah:=I.hok.fresh (Ao _);have kp:∀c o,c∉[e,it]->s.heap.get? c=ae o->h''.get? c=ae o:=λc o hc e=>by
   simp only[Ap,Aq,or_false,not_or]at hc;exact b2.extBut _ _ hc.1 (a6 c o hc.1 hc.2 e)
  refine⟨.ref s.heap.objs.size,upd H s.heap.objs.size (.tup [.int i,x]),I.many (t':=tk+1) hf kp (Ao _) ⟨by show 2<=Ay;decide,[.int i tk,u],.cons ⟨tk,rfl⟩ (.cons ru .nil),_,T,rfl,⟨_,rfl⟩,rfl⟩,rfl,⟨_,x,rfl,Tn,rfl,λzs q=>by rw[I.list_inj q qa];exact ex⟩,
   ⟨⟨u,by rw[show((i+1:Nat):Int)=(i:Int)+1 from rfl];exact b1⟩,a3.1.extBut b2.extBut h1.symm⟩,λc hc=>?_⟩
  have hlt:c < s.heap.objs.size:=by
   simp only[Ap,Aq,or_false]at hc;rcases hc with rfl|rfl
   ·exact Az he
   ·obtain⟨_,e,_⟩:=hi;exact Az e
  rw[a9 (Bj hlt)];exact(hf c hc).1
 done:=by
  intro X hP hw hK hc i pins s σ H E I hf st hg;subst hP hw hK;obtain⟨⟨old,he⟩,hi⟩:=st;obtain⟨xs,hq,hx⟩:=hg;obtain⟨its,rv,p,_⟩:=I.list hq;have hl:=rv.length;have hs:its.toArray.size=i:=by simp;omega
  refine wpAny_pyNext_enum_endD (Draws.list (A:=X.A.in1) (I.ok.hd hc) it a h2 its.toArray) he (by rw[hs];exact⟨hi,p.isList⟩) λh' k=>⟨rfl,I.many0 (t':=s.toks) hf λc o hc e=>?_⟩;simp only[Ap,Aq,or_false,not_or]at hc;exact k c o hc.2 e
 self:=λ_ _ _ _ _ st h=>wpAny_pyIter_enum st.1.choose_spec h
def EE(K:Ag)(ta:TA):TI:=λσ H R=>ta σ H λvs H1=>∃a,vs=[.ref a]/\((∃xs,SqT K H1 a xs)/\R (Gm K a) H1\/(∃xs,SqL K H1 a xs)/\R (nP K a) H1)
theorem Oc{X:Cx}{elts:List Expr}{kk:Nat}{tpos:Pos}{e1:Expr}{ta:TA}{p pos:Pos}(hg:Gl X "enumerate")(hm:X.mg "enumerate"=ah)(ha:PA X [e1] ta)(hs:Aw [e1] X.env=[(aj,eval e1 X.env)]:=by rfl):
  PI X (.Tuple elts kk tpos) (.Call (.Name "enumerate" p) [e1] [] pos) (EE X.K ta):=by
 intro pins s σ H R I h;refine Call_ (mw I hg hm boot_enumerate (D7 (aZ (ha pos pins s σ H _ I h) λus s1 ⟨vs,H1,I1,r1,q1⟩=>?_) (by rw[hs];rfl) rfl));obtain⟨a,e,q⟩:=q1;subst e;cases r1 with
 |cons r rr=>
  cases rr;cases r;have fp:∀c∈[s1.heap.objs.size+1,s1.heap.objs.size],s1.heap.objs.size<=c:=λc hc=>by
   simp only[Ap,Aq,or_false]at hc;rcases hc with rfl|rfl<;>omega
  rcases q with⟨⟨xs,qa⟩,q⟩|⟨⟨xs,qa⟩,q⟩
  ·obtain⟨its,rv,pp,_⟩:=I1.tuple qa;have la:a < s1.heap.objs.size:=by obtain⟨_,e,_⟩:=id pp;exact Az e
   refine Kb (show s1.heap.IsTuple a its.toArray from pp) λh' a1 a2 a3=>wpAny_pyIter_enum (s:={ s1 with heap:=h'}) a1 ?_;exact⟨_,_,_,_,H1,rfl,I1.kept (t':=s1.toks) a3,L7 (Nat.succ_ne_self _) (Bj la) (E1 (Nat.lt_succ_of_lt la)),⟨⟨_,a1⟩,a2⟩,λc hc=>I1.fpOk (fp c hc) (I1.hok.fresh (fp c hc)),q⟩
  ·obtain⟨its,rv,pp,_⟩:=I1.list qa;have la:a < s1.heap.objs.size:=by obtain⟨_,e,_⟩:=pp.isList;exact Az e
   refine call_enumerate_list pp.isList λh' a1 a2 _ a3=>wpAny_pyIter_enum (s:={ s1 with heap:=h'}) a1 ?_;exact⟨_,_,_,_,H1,rfl,I1.kept (t':=s1.toks) a3,JX (Nat.succ_ne_self _) (Bj la) (E1 (Nat.lt_succ_of_lt la)),⟨⟨_,a1⟩,a2⟩,λc hc=>I1.fpOk (fp c hc) (I1.hok.fresh (fp c hc)),q⟩
end L2
namespace DL
open PySem L2 Nb
section
variable{X:Cx}{a:Expr}{ta:TE}{wa:DT}{pos p:Pos}{K:Ag}
def vK(w:DT):iq:=λδ n Q=>w δ n λx n1=>∃xs,(x=.d (.tuple xs)\/x=.d (.list xs))/\Q (i0 0 xs) n1
theorem QS{elts:List Expr}{kk:Nat}{tpos:Pos}(hg:Gl X "enumerate")(hm:X.mg "enumerate"=ah)(ha:DE X a ta wa)(hK:X.K=K:=by rfl)(hs:Aw [a] X.env=[(aj,eval a X.env)]:=by rfl)(he1:Aw [a] X.env=(aj,eval a X.env)::Aw [] X.env:=by rfl):
  DI X (.Tuple elts kk tpos) (.Call (.Name "enumerate" p) [a] [] pos) (EE K (dI ta cy)) (vK wa):=by
 subst hK;refine⟨Oc hg hm (c6 ha.pe eR he1) hs,λC H B σ δ n Q Q' R q k=>ha.sd C H B σ δ n _ _ R q λv x H1 n1 R1 k1 r1 q1=>?_⟩;obtain⟨xs,rfl|rfl,q2⟩:=q1
 ·cases(show RdX H1 B v (.tuple xs)from r1)with
  |@tup aa vs _ e1 e2 e3 e4=>
   refine⟨aa,rfl,.inl ⟨⟨vs,SqT.of e1⟩,k _ (i0 0 xs) H1 n1 R1 k1 (λfz th=>?_) q2⟩⟩;have za:fz aa=ae (.tup vs):=th.2 _ _ e1 e2;refine⟨by rw[mS,<-e4.len];exact e3,λi H hH hi=>?_,λH hH=>?_,λi H x H' d hH hd hy=>?_⟩
   ·rw[mS]at hi;have h1:i < vs.length:=by rw[e4.len];exact hi
    exact⟨vs,vs[i],SqT.of (hH _ _ za),Ak h1⟩
   ·exact⟨vs,SqT.of (hH _ _ za),by rw[mS,e4.len]⟩
   ·obtain⟨T,x1,rfl,hT,rfl,hx⟩:=hy;refine⟨λb o e=>by rw[a9 (cP e hT)];exact e,λB' hB hBa=>?_⟩;obtain⟨y,hy,rfl⟩:=HQ hd;obtain⟨u1,hu1,ru1⟩:=e4.getD hy;have t1:=hx _ (SqT.of (hH _ _ za));rw[hu1]at t1;cases t1;have mv:∀b o,H1 b=ae o->¬B b->upd H T (.tup [.int i,x1]) b=ae o/\¬B' b:=λb o e ne=>by
     have:=hH _ _ (th.2 _ _ e ne);exact⟨by rw[a9 (cP this hT)];exact this,hB _ _ (th.2 _ _ e ne)⟩
    rw[Int.zero_add];exact .tup bQ (λz=>hBa T z hT) (by show 2<=Ay;decide) (.cons (.int _) (.cons (ru1.move mv) .nil))
 ·cases(show RdX H1 B v (.list xs)from r1)with
  |@lst aa vs _ e1 e2 e3 e4=>
   refine⟨aa,rfl,.inr ⟨⟨vs,SqL.of e1⟩,k _ (i0 0 xs) H1 n1 R1 k1 (λfz th=>?_) q2⟩⟩;have za:fz aa=ae (.lst vs):=th.2 _ _ e1 e2;refine⟨by rw[mS,<-e4.len];exact e3,λi H hH hi=>?_,λH hH=>?_,λi H x H' d hH hd hy=>?_⟩
   ·rw[mS]at hi;have h1:i < vs.length:=by rw[e4.len];exact hi
    exact⟨vs,vs[i],SqL.of (hH _ _ za),Ak h1⟩
   ·exact⟨vs,SqL.of (hH _ _ za),by rw[mS,e4.len]⟩
   ·obtain⟨T,x1,rfl,hT,rfl,hx⟩:=hy;refine⟨λb o e=>by rw[a9 (cP e hT)];exact e,λB' hB hBa=>?_⟩;obtain⟨y,hy,rfl⟩:=HQ hd;obtain⟨u1,hu1,ru1⟩:=e4.getD hy;have t1:=hx _ (SqL.of (hH _ _ za));rw[hu1]at t1;cases t1;have mv:∀b o,H1 b=ae o->¬B b->upd H T (.tup [.int i,x1]) b=ae o/\¬B' b:=λb o e ne=>by
     have:=hH _ _ (th.2 _ _ e ne);exact⟨by rw[a9 (cP this hT)];exact this,hB _ _ (th.2 _ _ e ne)⟩
    rw[Int.zero_add];exact .tup bQ (λz=>hBa T z hT) (by show 2<=Ay;decide) (.cons (.int _) (.cons (ru1.move mv) .nil))
end
end DL
namespace L2
open PySem PySem.Spec PyProof.Rows
def fU(n:Nat):List V:=(Ba n).map λi=>V.int ((i:Nat):Int)
theorem wg{f:Nat->V}{g:Nat->Aj}:∀{l:List Nat},(∀i∈l,RelV (f i) (g i))->Vals (l.map f) (l.map g)
 |[],_=>.nil
 |i::r,h=>.cons (h i As) (wg λj hj=>h j (Am _ hj))
theorem L9{prog:Bf}{w:Bx}{A:Ce}{s:Ar}{R:Result->Ar->Prop}{r S:Addr}{a b c:Int}{t u v:Tok}{n:Nat}(hh:A.handled=ah)(hr:IsRange s.heap r a b c t u v)(hs:Builtin.Range.small a b c=ai)(hn:Et a b c=(n:Int))(hl:n<=2 ^ 24)(hS:s.heap.get? S=ae {cls:=.type "list",data:=.seq #[]})
  (h:∀(h':Heap)(tk:Nat)(acc:Array Aj)(c':Nat),(∀(b:Addr)(o:Obj),b≠S->s.heap.get? b=ae o->h'.get? b=ae o)->h'.get? S=ae {cls:=.type "list",data:=.seq acc c'}->ItemsOf (λi v=>∃t,v=.int (a+(i:Int)*c) t) acc n->R (.ok (.ret (.ref S))) {s with heap:=h',toks:=tk}):codeAny (Bd prog w) A (Code.builtin "list.__iadd__" ⟨[.ref S,.ref r],[]⟩) R s:=by
 refine Gd F.entry_list_iadd ?_;rw[En F.plain_list_iadd];exact wpAny_extend_range hh hr hs hn hl S (.ref S) 0 hS h
theorem LN{prog:Bf}{w:Bx}{A:Ce}{E:Aj->Ar->Prop}{s:Ar}{r:Addr}{a b c:Int}{t u v:Tok}{n:Nat}{Q:List Aj->Ar->Prop}(hh:A.handled=ah)(hr:IsRange s.heap r a b c t u v)(hs:Builtin.Range.small a b c=ai)(hn:Et a b c=(n:Int))(hl:n<=2 ^ 24)
  (h:∀(h':Heap)(tk:Nat)(acc:Array Aj),(∀(b:Addr)(o:Obj),s.heap.get? b=ae o->h'.get? b=ae o)->ItemsOf (λi v=>∃t,v=.int (a+(i:Int)*c) t) acc n->Q acc.toList {s with heap:=h',toks:=tk}):A6 (Bd prog w) A (collect (.ref r)) Q E s:=by
 unfold collect;refine Ad (wpAny_runValue (Gd F.entry_proto_collect ?_));rw[En F.plain_proto_collect];refine Ad (B7 (Ax ⟨plainId_quiet F.plain_list_iadd _,L9 hh (Ai _ hr) hs hn hl (A7 s.heap rfl) λh' tk acc c' hk hS hI=>?_⟩));refine Ad (wpAny_load hS ?_);exact Ax (h h' tk acc (λb o e=>hk b o (Bj (Az e)) (Ai _ e)) hI)
theorem Lv{prog:Bf}{w:Bx}{A:Ce}{E:Aj->Ar->Prop}{s:Ar}{r:Addr}{a b c:Int}{t u v:Tok}{n:Nat}{Q:Aj->Ar->Prop}(hh:A.handled=ah)(hr:IsRange s.heap r a b c t u v)(hs:Builtin.Range.small a b c=ai)(hn:Et a b c=(n:Int))(hl:n<=1000)
  (h:∀(h':Heap)(tk:Nat)(acc:Array Aj),(∀(b:Addr)(o:Obj),s.heap.get? b=ae o->h'.get? b=ae o)->ItemsOf (λi v=>∃t,v=.int (a+(i:Int)*c) t) acc n->Q (.ref h'.objs.size) {s with heap:=h'.push {cls:=.type "tuple",data:=.seq acc},toks:=tk}):A6 (Bd prog w) A (call (.type "tuple") [.ref r]) Q E s:=by
 refine callType_codes (Q₁:=λv s₁=>s₁.TypeIs v "tuple"/\Q v s₁) F.called_tuple (F.typeCall_tuple_1 (.ref r)) F.entry_object_init ?_ λobj s₁ h₁=>⟨h₁.1,F.args_object_init_2 obj (.ref r),object_init_meets F.called_tuple.init.lookup F.called_tuple.made (by decide) prog w A.in1 _ s₁ ⟨h₁.1,rfl,h₁.2⟩⟩;refine codeAny_of_tree ?_;refine Ad (wpAny_of_eq (F.newCall_tuple_1 (.ref r)) (Ax ⟨plainId_quiet F.plain_tuple_new _,Gd F.entry_tuple_new ?_⟩));rw[En F.plain_tuple_new];unfold Builtin.«tuple.__new__»;refine Ad (Ax ?_);refine Eo (by rfl) ?_;refine Ad (wpAny_of_eq sub_tuple_self ?_);refine Eo (by rfl) ?_;refine Eo (by rfl) ?_;refine Ad (wpAny_of_eq madeHere_tuple ?_);refine Ad (wpAny_of_eq init_tuple_lookup ?_);refine wpAny_ite_true (by rfl) ?_;refine Ad ?_;refine wpAny_ite_true (by rfl) ?_;refine Ax (Ad ?_);unfold checkCount;refine Eo (by rfl) ?_;refine Eo (by rfl) ?_;refine Eo (by rfl) ?_;refine Ax ?_;refine wpAny_ite_true (by rfl) ?_;refine Ad ?_;refine Ad (F0 (T:="range") ⟨_,hr,rfl⟩ (Ax ?_));refine Eo (by rfl) ?_;refine Ad (LN hh hr hs hn (by omega) λh' tk acc hk hI=>?_);refine Ad (Ax ?_);refine Ad ?_;refine B7 ?_ ?_
 ·exact Ax ⟨⟨_,A7 _ rfl,rfl⟩,h h' tk acc hk hI⟩
 show acc.size<=Ay;rw[hI.1,Ei];omega
def vp:List V->Hp->VK->Prop:=λxs H Q=>∃j:Int,xs=[.int j]/\∀D,H D=ah->Q (.ref D) (upd H D (.rng 0 j))
theorem FT{X:Cx}:CallR X (.type "range") vp:=by
 intro pins s σ H xs us Q I r h;obtain⟨j,rfl,q⟩:=h;obtain⟨u,rfl,ru⟩:=iX r;obtain⟨t,rfl⟩:=ru;refine call_range_1 ⟨.ref s.heap.objs.size,_,I.laid (t':=s.toks+1+1) (o:=.rng 0 j) (λb o e=>Ai _ e) (Ao _) ⟨_,_,_,A7 _ rfl⟩,rfl,q _ I.fresh⟩
def DW:List V->Hp->VK->Prop:=λxs H Q=>∃(a:Addr)(j:Nat),xs=[.ref a]/\H a=ae (.rng 0 j)/\j<=1000/\∀D,H D=ah->Q (.ref D) (upd H D (.lst (fU j)))
theorem RA{X:Cx}(hh:X.A.handled=ah):CallR X (.type "list") DW:=by
 intro pins s σ H xs us Q I r h;obtain⟨a,j,rfl,ha,hj,q⟩:=h;obtain⟨u,rfl,ru⟩:=iX r;cases(show u=A4 a from ru);obtain⟨t,u,v,e⟩:=I.hok a _ ha;have p62:(2:Int)^62=4611686018427387904:=by decide
 have p24:(2:Nat)^24=16777216:=by decide
 refine call_list_range (n:=j) hh e (small_one (by omega) (by omega) (by omega) (by omega)) (by rw[rangeSize_one];split<;>omega) (by omega) λh' tk acc c k hL hI=>?_;refine⟨.ref s.heap.objs.size,_,I.laid (t':=tk) (h':=h') (o:=.lst (fU j)) k (Ao _) ⟨?_,acc.toList,c,?_,by simpa using hL⟩,rfl,q _ I.fresh⟩
 ·unfold fU;rw[Ab,Di];exact fS (by omega)
 ·have:acc.toList=(Ba j).map λi=>acc.toList.getD i .none:=by
   apply Fz (by simp[hI.1]);intro i h1 h2;simp at h1;simp[h1]
  rw[this];refine wg λi hi=>?_;have hi:=B8.mp hi;have hi2:i < acc.size:=by rw[hI.1];exact hi
  obtain⟨t,e⟩:=hI.2 i acc[i] (Dw hi2);refine⟨t,?_⟩;simp[hi2,e]
def DD:List V->Hp->VK->Prop:=λxs H Q=>∃(a:Addr)(j:Nat),xs=[.ref a]/\H a=ae (.rng 0 j)/\j<=1000/\∀D,H D=ah->Q (.ref D) (upd H D (.tup (fU j)))
theorem SU{X:Cx}(hh:X.A.handled=ah):CallR X (.type "tuple") DD:=by
 intro pins s σ H xs us Q I r h;obtain⟨a,j,rfl,ha,hj,q⟩:=h;obtain⟨u,rfl,ru⟩:=iX r;cases(show u=A4 a from ru);obtain⟨t,u,v,e⟩:=I.hok a _ ha;have p62:(2:Int)^62=4611686018427387904:=by decide
 refine Lv (n:=j) hh e (small_one (by omega) (by omega) (by omega) (by omega)) (by rw[rangeSize_one];split<;>omega) hj λh' tk acc k hI=>?_;have I1:Inv X pins σ H {s with heap:=h',toks:=tk}:=I.kept (t':=tk) k;have I2:Inv X pins σ (upd H h'.objs.size (.tup (fU j))) {s with heap:=h'.push {cls:=.type "tuple",data:=.seq acc},toks:=tk}:=
  I1.laid (t':=tk) (λb o e=>Ai _ e) (Ao _) (show ObjOk X.prog X.w _ _ _ (.tup (fU j))from⟨?_,acc.toList,?_,IsTupP.new _ _⟩)
 ·exact⟨.ref h'.objs.size,_,I2,rfl,q _ (I1.hok.fresh (Ao _))⟩
 ·unfold fU;rw[Ab,Di];exact fS (by omega)
 ·have:acc.toList=(Ba j).map λi=>acc.toList.getD i .none:=by
   apply Fz (by simp[hI.1]);intro i h1 h2;simp at h1;simp[h1]
  rw[this];refine wg λi hi=>?_;have hi:=B8.mp hi;have hi2:i < acc.size:=by rw[hI.1];exact hi
  obtain⟨t,e⟩:=hI.2 i acc[i] (Dw hi2);refine⟨t,?_⟩;simp[hi2,e]
end L2
namespace DL
open PySem L2 Nb
section
variable{X:Cx}{a o:Expr}{ta td:TE}{wa wd':DT}{pos p p2 p3 xp:Pos}{K:Ag}{x:Str}{q:Addr}{D:List (Str×Str)}
def uq(n:Nat):List Aa:=(Ba n).map λi=>.int ((i:Nat):Int)
theorem vf{H:Hp}{B:Addr->Prop}{g:Nat->Int}:∀{l:List Nat},RdXs H B (l.map λi=>V.int (g i)) (l.map λi=>.int (g i))
 |[]=>.nil
 |_::_=>.cons (.int _) vf
theorem AR{j:Nat}(h:j<=1000):(fU j).length<=Ay:=by
 unfold fU;rw[Ab,Di];exact fS h
def qd(w:DT):fX:=λδ n Q=>w δ n λx n1=>∃j:Nat,x=.d (.int j)/\j<=1000/\Q (uq j) n1
theorem OJ(hh:X.A.handled=ah)(hg:Gl X "list")(hm:X.mg "list"=ah)(hg2:Gl X "range")(hm2:X.mg "range"=ah)(ho:DE X o td wd')
  (he':Aw [o] X.env=(aj,eval o X.env)::Aw [] X.env:=by rfl) (hpl:(C5 p3 (Aw [] X.env)).any (·.1)=aj:=by rfl)
  (he2:Aw [.Call (.Name "range" p2) [o] [] p3] X.env=(aj,eval (.Call (.Name "range" p2) [o] [] p3) X.env)::Aw [] X.env:=by rfl) (hpl2:(C5 pos (Aw [] X.env)).any (·.1)=aj:=by rfl):
  DF X (.Call (.Name "list" p) [.Call (.Name "range" p2) [o] [] p3] [] pos) (gB DW (dI (gB vp (dI td cy)) cy)) (qd wd'):=by
 refine⟨ml (RA hh) hg hm qz (c6 (ml FT hg2 hm2 F8 (c6 ho.pe eR he') (by decide) (by decide) he' hpl) eR he2) (by decide) (by decide) he2 hpl2,λC H B σ δ n Q Q' R q k=>
  ho.sd C H B σ δ n _ _ R q λv x H1 n1 R1 k1 r1 q1=>?_⟩
 obtain⟨j,rfl,hj,kq⟩:=q1;cases(show RdX H1 B v (.int j)from r1);refine⟨j,rfl,λD hD=>⟨D,j,rfl,bQ,hj,λD2 hD2=>?_⟩⟩;have k2:=k1.trans (Kp.new (o:=.rng 0 (j:Int)) hD);have R2:=R1.new (o:=.rng 0 (j:Int)) hD;exact k D2 _ _ _ n1 (R2.new hD2) (k2.trans (Kp.new hD2)) (R2.was k2 hD2) bQ (AR hj) vf kq
def vx(w:DT):DT:=λδ n Q=>w δ n λx n1=>∃j:Nat,x=.d (.int j)/\j<=1000/\Q (.d (.tuple (uq j))) n1
theorem LZ(hh:X.A.handled=ah)(hg:Gl X "tuple")(hm:X.mg "tuple"=ah)(hg2:Gl X "range")(hm2:X.mg "range"=ah)(ho:DE X o td wd')
  (he':Aw [o] X.env=(aj,eval o X.env)::Aw [] X.env:=by rfl) (hpl:(C5 p3 (Aw [] X.env)).any (·.1)=aj:=by rfl)
  (he2:Aw [.Call (.Name "range" p2) [o] [] p3] X.env=(aj,eval (.Call (.Name "range" p2) [o] [] p3) X.env)::Aw [] X.env:=by rfl) (hpl2:(C5 pos (Aw [] X.env)).any (·.1)=aj:=by rfl):
  DE X (.Call (.Name "tuple" p) [.Call (.Name "range" p2) [o] [] p3] [] pos) (gB DD (dI (gB vp (dI td cy)) cy)) (vx wd'):=by
 refine⟨ml (SU hh) hg hm uR (c6 (ml FT hg2 hm2 F8 (c6 ho.pe eR he') (by decide) (by decide) he' hpl) eR he2) (by decide) (by decide) he2 hpl2,λC H B σ δ n Q Q' R q k=>
  ho.sd C H B σ δ n _ _ R q λv x H1 n1 R1 k1 r1 q1=>?_⟩
 obtain⟨j,rfl,hj,kq⟩:=q1;cases(show RdX H1 B v (.int j)from r1);refine⟨j,rfl,λD hD=>⟨D,j,rfl,bQ,hj,λD2 hD2=>?_⟩⟩;have k2:=k1.trans (Kp.new (o:=.rng 0 (j:Int)) hD);have R2:=R1.new (o:=.rng 0 (j:Int)) hD;exact k _ _ _ n1 (R2.new hD2) (k2.trans (Kp.new hD2)) (wd (show RdX _ B _ (.tuple (uq j))from .tup bQ (R2.nb hD2) (AR hj) vf)) kq
def pT(D:List (Str×Str))(w:DT):DT:=λδ n Q=>w δ n λx n1=>match x with
 |.d (.str k)=>Q (.d (.bool !(A9 k D).isSome)) n1
 |_=>False
def DO(K:Ag):R2:=λx y H Q=>∃k q D,x=.str k/\y=.ref q/\gN K q D/\Q (.bl !(A9 k D).isSome) H
theorem Iv:OpR X (Bs .NotIn) (DO X.K):=by
 intro pins s σ H x y v u Q I rx ry h;obtain⟨k,q,D,rfl,rfl,hT,hq⟩:=h;obtain⟨t,rfl⟩:=rx;cases ry;refine PyProof.Rows.KTD.notin_text (yY I hT) ?_;rw[Hg];exact⟨.bl _,H,I.kept (t':=s.toks+1) λ_ _ e=>e,rfl,hq⟩
theorem Jq(ha:DE X a ta wa)(hg:Gl X x)(hm:X.mg x=ae (.ref q))(hq:gN K q D)(hK:X.K=K:=by rfl)(hd:(x==("__debug__":Str))=aj:=by decide)
  (hmk:B9 .NotIn (Expr.Name x xp)=aj:=by with_unfolding_all rfl):DC X (.Compare a [.NotIn] [.Name x xp] pos) (j1 (dR (DO K) ta (tC (.ref q)))) (cT (pT D wa)):=by
 subst hK;refine⟨kd Iv ha.pe (pZ hg hm rfl hd) hmk,lZ λC H B σ δ n Q Q' R z k=>ha.sd C H B σ δ n _ _ R z λv x H1 n1 R1 k1 r1 q1=>?_⟩
 split at q1
 ·rename_i key;cases(show RdX H1 B v (.str key)from r1);exact⟨key,q,D,rfl,rfl,hq,k _ _ H1 n1 R1 k1 (wd (.bl _)) q1⟩
 ·exact q1.elim
end
def lB:Aa->Bool
 |.list _=>ai
 |.tuple _=>ai
 |_=>aj
section
variable{X:Cx}{a:Expr}{ta:TE}{wa:DT}{pos p:Pos}{K:Ag}
def Ih(K:Ag):List V->Hp->VK->Prop:=λxs H Q=>∃x d q,xs=[x,.ref q]/\H q=ae (.tup [.ty "tuple",.ty "list"])/\RdD K H x d/\Q (.bl (lB d)) H
theorem Jf(hK:X.K=K:=by rfl):CallR X (.builtin "isinstance") (Ih K):=by
 subst hK;intro pins s σ H xs us Q I r h;obtain⟨x,d,q,rfl,hq,hd,k⟩:=h;obtain⟨u,u',rfl,ru,ru'⟩:=oM r;cases(show u'=A4 q from ru');obtain⟨_,vs,rv,pp⟩:=(show ObjOk X.prog X.w H s.heap q (.tup [.ty "tuple",.ty "list"])from I.hok q _ hq);obtain⟨⟨cls,dd,dt,sl⟩,h1,h2,⟨n,h3⟩,_⟩:=pp;obtain⟨v1,v2,rfl,r1,r2⟩:=oM rv;cases(show v1=Value.type "tuple" from r1);cases(show v2=Value.type "list" from r2);cases(show cls=Value.type "tuple" from h2);cases(show dt=.seq _ n from h3);cases hd with
 |non=>cases(show u=B3 from ru);exact E4 PySem.W.kitx_none I.kIn Dj h1 rfl (λz=>nomatch z) λtk=>⟨.bl aj,H,I.tok tk,rfl,k⟩
 |bl y=>cases(show u=Value.bool y from ru);exact E4 PySem.W.kitx_bool I.kIn Dj h1 rfl (λz=>nomatch z) λtk=>⟨.bl aj,H,I.tok tk,rfl,k⟩
 |int i=>obtain⟨t,z⟩:=(show ∃t,u=Value.int i t from ru);cases z;exact E4 PySem.W.kitx_int I.kIn Dj h1 rfl (λz=>nomatch z) λtk=>⟨.bl aj,H,I.tok tk,rfl,k⟩
 |str y=>obtain⟨t,z⟩:=(show ∃t,u=Fv y t from ru);cases z;exact E4 PySem.W.kitx_str I.kIn Dj h1 rfl (λz=>nomatch z) λtk=>⟨.bl aj,H,I.tok tk,rfl,k⟩
 |@lst a xs ds ea eb=>
  cases(show u=A4 a from ru);obtain⟨its,_,pl,_⟩:=I.list ea;obtain⟨o,e1,e2,_⟩:=pl.isList;exact E4 PySem.W.kitx_list I.kIn ⟨o,e1,e2⟩ h1 rfl (λz=>nomatch z) λtk=>⟨.bl ai,H,I.tok tk,rfl,k⟩
 |@tup a xs ds ea eb=>
  cases(show u=A4 a from ru);obtain⟨its,_,pl,_⟩:=I.tuple ea;obtain⟨o,e1,e2,_⟩:=pl;exact E4 PySem.W.kitx_tuple I.kIn ⟨o,e1,e2⟩ h1 rfl (λz=>nomatch z) λtk=>⟨.bl ai,H,I.tok tk,rfl,k⟩
def t8(w:DT):DT:=λδ n Q=>w δ n λx n1=>match x with
 |.d d=>Q (.d (.bool (lB d))) n1
 |_=>False
theorem O5{p1 p2 tp:Pos}{kt:Nat}(hg:Gl X "isinstance")(hm:X.mg "isinstance"=ah)(hg1:Gl X "tuple")(hm1:X.mg "tuple"=ah)(hg2:Gl X "list")(hm2:X.mg "list"=ah)(ha:DE X a ta wa)(hK:X.K=K:=by rfl)
  (he:Aw [a,.Tuple [.Name "tuple" p1,.Name "list" p2] kt tp] X.env=(aj,eval a X.env)::Aw [.Tuple [.Name "tuple" p1,.Name "list" p2] kt tp] X.env:=by rfl) (he2:Aw [.Tuple [.Name "tuple" p1,.Name "list" p2] kt tp] X.env=(aj,eval (.Tuple [.Name "tuple" p1,.Name "list" p2] kt tp) X.env)::Aw [] X.env:=by rfl)
  (he3:Aw [.Name "tuple" p1,.Name "list" p2] X.env=(aj,eval (.Name "tuple" p1) X.env)::Aw [.Name "list" p2] X.env:=by rfl) (he4:Aw [.Name "list" p2] X.env=(aj,eval (.Name "list" p2) X.env)::Aw [] X.env:=by rfl)
  (hpl:(C5 pos (Aw [.Tuple [.Name "tuple" p1,.Name "list" p2] kt tp] X.env)).any (·.1)=aj:=by rfl):
  DE X (.Call (.Name "isinstance" p) [a,.Tuple [.Name "tuple" p1,.Name "list" p2] kt tp] [] pos) (gB (Ih K) (dI ta (dI (j2 (dI (tC (.ty "tuple")) (dI (tC (.ty "list")) cy))) cy))) (t8 wa):=by
 refine⟨ma (Jf hK) hg hm wF (c6 ha.pe (c6 (uV (c6 (vZ (v:=.ty "tuple") hg1 hm1 uR rfl) (c6 (vZ (v:=.ty "list") hg2 hm2 qz rfl) eR he4) he3)) eR he2) he) (by decide) (by decide) he hpl,λC H B σ δ n Q Q' R q k=>ha.sd C H B σ δ n _ _ R q λv x H1 n1 R1 k1 r1 q1=>?_⟩;cases x with
 |d d=>
  refine⟨by show 2<=Ay;decide,λt ht=>?_⟩;refine⟨v,d,t,rfl,bQ,?_,k _ _ _ n1 (R1.new ht) (k1.trans (Kp.new ht)) (wd (.bl _)) q1⟩;have r1:RdX H1 B v d:=r1;exact(r1.move λb o e nb=>⟨by rw[a9 (cP e ht)];exact e,nb⟩).rd
 |tp=>exact q1.elim
 |dk _=>exact q1.elim
 |ln _=>exact q1.elim
 |ob _=>exact q1.elim
def oR(i:Nat)(wa:DT):aP:=λδ n K=>match δ[i]? with
 |some (ae (.own ds))=>wa δ n λx n1=>∃m:Nat,x=.d (.int m)/\m < ds.length/\K.nx (δ.set i (ae (.own (ds.eraseIdx m)))) n1
 |_=>False
theorem Ls{i:Nat}{x:Str}{xp ap cp:Pos}(hN:X.N[i]?=ae x)(ha:DE X a ta wa)(hv:gh X.env.scope x:=by first|exact Cp rfl|exact Bz (Cp rfl)|exact Bz (Bz rfl))(hd:(x==("__debug__":Str))=aj:=by decide)
  (hcd:(x==("__classdict__":Str))=aj:=by decide)
  (hbase:F7 (.Name x xp) "pop" X.env (eval (.Name x xp) X.env)=eval (.Name x xp) X.env:=by rfl)
  (hfew:((C5 cp (Aw [a] X.env)).all (λx=>!x.1)&&(backToKw cp (keywordEach [] X.env)).all (λx=>x.1.isSome)
   && decide ([a].length+([]:List Keyword).length+(if ([]:List Keyword).isEmpty then 0 else 1) < 30))=ai:=by rfl)
  (hline:(ap.endLine==cp.line)=ai:=by rfl) (hs:Aw [a] X.env=[(aj,eval a X.env)]:=by rfl) (hplain:(C5 cp (Aw [] X.env)).any (·.1)=aj:=by rfl)
  (hsw:Dt (.Call (.Attribute (.Name x xp) "pop" ap) [a] [] cp) ah pos.line X.env=pure aj:=by rfl):
  DS X (.Expr (.Call (.Attribute (.Name x xp) "pop" ap) [a] [] cp) pos) (qE (sF X.K "list" BQ (cW i) (dI ta cy))) (oR i wa):=
 ⟨t7 (vU Gf PySem.F.slot_list_pop PySem.F.type_list_pop N1 (gT hN hv hd hcd) (c6 ha.pe eR hs) hbase hfew hline hs hplain) hsw,λC H B σ δ n K D R q E=>by
  unfold oR at q
  split at q
  ·rename_i ds ei;obtain⟨v,hv,aa,xs,rfl,e2,e3,e4,e5,e6⟩:=R.sl i _ ei;refine⟨_,hv,.inl ⟨rfl,_,SqL.of e2⟩,ha.sd C H B σ δ n _ _ R q λu y H1 n1 R1 k1 r1 q1=>?_⟩;obtain⟨m,rfl,hm,q1⟩:=q1;cases(show RdX H1 B u (.int m)from r1);have hat:aa≠C.t:=λz=>R.t0 (z▸e4);have e2':=k1 _ _ e2 hat;have hle:=e6.len;have g6:=e6.kp k1 R.bt;obtain⟨w,hw,rw'⟩:=g6.getD (Ak hm);have hsz:xs.length<=Ay:=e5;have h2:Ay=16777216:=by decide
   refine⟨aa,xs,(m:Nat),m,w,rfl,rfl,e2',by omega,by omega,?_,hw,?_⟩
   ·exact(wW (show eY xs.length (m:Nat)=ae m from by unfold eY;rw[if_pos (by omega),if_pos (by omega)];rfl)).1
   ·refine E.nx _ _ _ _ _ (R1.mutOwn ei rfl hv e3 e4 ?_ rfl) q1;refine⟨aa,xs.eraseIdx m,rfl,bQ,e3,e4,?_,RdXs.keep (λb o e n=>?_) (g6.erase m)⟩
    ·have:=vj xs m;omega
    ·rw[a9 λ(z:b=aa)=>n (z▸e3)];exact e
  ·exact q.elim⟩
def uE(i:Nat)(we wj wk:DT):aP:=λδ n K=>we δ n λv n1=>∃ds d1 d2,δ[i]?=ae (ae (.own ds))/\v=.d (.tuple [d1,d2])/\wj δ n1 λy n2=>∃(k1:Int)(m1:Nat),y=.d (.int k1)/\eY ds.length k1=ae m1 /\
 wk (δ.set i (ae (.own (ds.set m1 d1)))) n2 λz n3=>∃(k2:Int)(m2:Nat),z=.d (.int k2)/\eY ds.length k2=ae m2/\K.nx (δ.set i (ae (.own ((ds.set m1 d1).set m2 d2)))) n3
theorem Lb{i:Nat}{x:Str}{xp sp xp2 sp2 tp:Pos}{kt:Nat}{j k e:Expr}{tj tk te:TE}{wj wk we:DT}(hN:X.N[i]?=ae x)(he:DE X e te we)(hj:DE X j tj wj)(hk:DE X k tk wk)(hc:X.calm=ai:=by rfl)(hv:gh X.env.scope x:=by first|exact Cp rfl|exact Bz (Cp rfl)|exact Bz (Bz rfl))(hd:(x==("__debug__":Str))=aj:=by decide)
  (hcd:(x==("__classdict__":Str))=aj:=by decide)
  (ha:∀v,Fq (.Subscript (.Name x xp) j sp) X.env v=(do
   let ov <-Fl [v] (eval (.Name x xp) X.env)
   let iv <-Fl [v,ov] (eval j X.env)
   standAt sp
   Fl [v,ov,iv] (setItem ov iv v)
   release [v,ov,iv] []):=by intro _;rfl)
  (hb:∀v,Fq (.Subscript (.Name x xp2) k sp2) X.env v=(do
   let ov <-Fl [v] (eval (.Name x xp2) X.env)
   let iv <-Fl [v,ov] (eval k X.env)
   standAt sp2
   Fl [v,ov,iv] (setItem ov iv v)
   release [v,ov,iv] []):=by intro _;rfl)
  (hn:(C2 [.Subscript (.Name x xp) j sp,.Subscript (.Name x xp2) k sp2] X.env).length=2:=by rfl) (hst:(C2 [.Subscript (.Name x xp) j sp,.Subscript (.Name x xp2) k sp2] X.env).findIdx? (·.1)=ah:=by rfl)
  (hs:swapsWithSole [.Tuple [.Subscript (.Name x xp) j sp,.Subscript (.Name x xp2) k sp2] kt tp] e pos.line X.env=pure aj:=by rfl) (hw:swappedStores [.Tuple [.Subscript (.Name x xp) j sp,.Subscript (.Name x xp2) k sp2] kt tp] e X.env=pure ah:=by rfl)
  (h1:(C2 [.Tuple [.Subscript (.Name x xp) j sp,.Subscript (.Name x xp2) k sp2] kt tp] X.env).map (·.2)=[Fq (.Tuple [.Subscript (.Name x xp) j sp,.Subscript (.Name x xp2) k sp2] kt tp) X.env]:=by rfl):
  DS X (.Assign [.Tuple [.Subscript (.Name x xp) j sp,.Subscript (.Name x xp2) k sp2] kt tp] e pos) (dv te (j3 X.K 2 (rC (jW (cW i) tj qK) (rC (jW (cW i) tk qK) lW)))) (uE i we wj wk):=
 ⟨nM he.pe (FK hc (ug (m9 (gT hN hv hd hcd) hj.pe nh ha) (ug (m9 (gT hN hv hd hcd) hk.pe nh hb) BN)) hn hst) hs hw h1,λC H B σ δ n K D R q E=>he.sd C H B σ δ n _ _ R q λu y H1 n1 R1 k1 r1 q1=>by
  obtain⟨ds,d1,d2,ei,rfl,q1⟩:=q1;cases(show RdX H1 B u (.tuple [d1,d2])from r1)with
  |@tup t ys _ f1 f2 f3 f4=>
   cases f4 with
   |@cons v1 _ _ _ g1 f5=>
    cases f5 with
    |@cons v2 _ _ _ g2 f6=>
     cases f6;obtain⟨v,hv,a,xs,rfl,e2,e3,e4,e5,e6⟩:=R1.sl i _ ei;refine⟨t,[v1,v2],rfl,SqT.of f1,rfl,v1,[v2],rfl,_,hv,hj.sd C H1 B σ δ n1 _ _ R1 q1 λw z H2 n2 R2 k2 r2 q2=>?_⟩;obtain⟨i1,m1,rfl,em,q2⟩:=q2;cases(show RdX H2 B w (.int i1)from r2);have hat:a≠C.t:=λz=>R.t0 (z▸e4);have e2':=k2 _ _ e2 hat;refine⟨a,xs,i1,m1,rfl,rfl,e2',by rw[e6.len];exact em,?_⟩;have keep:∀b o,H2 b=ae o->¬B b->upd H2 a (.lst (xs.set m1 v1)) b=ae o:=λb o e n=>by rw[a9 λ(z:b=a)=>n (z▸e3)];exact e
     have g1':RdX H2 B v1 d1:=g1.kp k2 R1.bt;have g2':RdX (upd H2 a (.lst (xs.set m1 v1))) B v2 d2:=(g2.kp k2 R1.bt).move λb o e n=>⟨keep b o e n,n⟩;have R3:Rel C (upd H2 a (.lst (xs.set m1 v1))) B σ (δ.set i (ae (.own (ds.set m1 d1)))) n2:=
      R2.mutOwn ei rfl hv e3 e4 ⟨a,xs.set m1 v1,rfl,bQ,e3,e4,by rw[B4];exact e5,RdXs.keep keep (RdXs.set m1 (e6.kp k2 R1.bt) g1')⟩ rfl
     refine⟨v2,[],rfl,_,hv,hk.sd C _ B σ _ n2 _ _ R3 q2 λw2 z2 H4 n4 R4 k4 r4 q4=>?_⟩;obtain⟨i2,m2,rfl,em2,q4⟩:=q4;cases(show RdX H4 B w2 (.int i2)from r4);have hil:i < δ.length:=by
      have:=Au.mp ei;exact this.1
     have ei4:(δ.set i (ae (SV.own (ds.set m1 d1))))[i]?=ae (ae (.own (ds.set m1 d1))):=by rw[Fm hil]
     obtain⟨v',hv',a',xs',rfl,b2,b3,b4,b5,b6⟩:=R4.sl i _ ei4;have ea:a'=a:=by
      rw[hv]at hv';exact(V.ref.inj (A8 (A8 hv'))).symm
     subst ea;refine⟨a',xs',i2,m2,rfl,rfl,b2,by rw[b6.len,B4];exact em2,rfl,?_⟩;have:=R4.mutOwn ei4 rfl hv' b3 b4 (x':=.own ((ds.set m1 d1).set m2 d2)) (o:=.lst (xs'.set m2 v2)) ⟨a',xs'.set m2 v2,rfl,bQ,b3,b4,by rw[B4];exact b5,RdXs.keep (λb o e n=>by rw[a9 λ(z:b=a')=>n (z▸b3)];exact e) (RdXs.set m2 b6 (g2'.kp k4 R3.bt))⟩ rfl;rw[List.set_set]at this;exact E.nx _ _ _ _ _ this q4⟩
end
section
variable{X:Cx}{K:Ag}
structure SmlA(d:Aa):Prop where
 lay:Bu d=ai
 dep:Bn d<=20
 shw:Df d=ai
 len:d.shown.length<=Ay
def Gn(K:Ag):List V->Hp->VK->Prop:=λxs H Q=>∃x d,xs=[x]/\RdD K H x d/\SmlA d/\Q (.str d.shown) H
theorem Uy(hg:X.A.guards=ae [])(hu:X.A.units+64 < Fb)(hK:X.K=K:=by rfl):CallR X (.builtin "repr") (Gn K):=by
 subst hK;intro pins s σ H xs us Q I r h;obtain⟨x,d,rfl,hd,hs,q⟩:=h;obtain⟨u,rfl,ru⟩:=iX r;have hsh:=hs.shw;have hln:=hs.len;cases hd with
 |non=>
  cases(show u=B3 from ru);exact P.repr_of_none ⟨.str _,H,I.tok _,⟨_,rfl⟩,q⟩
 |bl b=>
  cases(show u=Value.bool b from ru);exact P.repr_of_bool ⟨.str _,H,I.tok _,⟨_,rfl⟩,by cases b<;>exact q⟩
 |int i=>
  obtain⟨t,rfl⟩:=(show ∃t,u=Value.int i t from ru);exact P.repr_of_int (of_decide_eq_true hsh) ⟨.str _,H,I.tok _,⟨_,rfl⟩,q⟩
 |str y=>
  obtain⟨t,rfl⟩:=(show ∃t,u=Fv y t from ru);exact P.repr_of_str ⟨.str _,H,I.tok _,⟨_,rfl⟩,q⟩ hln
 |@lst a _ _ h1 h2=>
  cases(show u=A4 a from ru);obtain⟨as,hr⟩:=RdD.reads I (RdD.lst h1 h2) (show RelV (.ref a) (A4 a)from rfl);have hdp:=hs.dep;refine repr_of_reads' hr hsh (PyData.noDict_hsm (PyData.hasDict_of_canLay _ hs.lay)) hg (by omega) (λ_ _ e=>e) (λh' u tk hk=>?_) hln;exact⟨.str _,H,I.kept hk,⟨u,rfl⟩,q⟩
 |@tup a _ _ h1 h2=>
  cases(show u=A4 a from ru);obtain⟨as,hr⟩:=RdD.reads I (RdD.tup h1 h2) (show RelV (.ref a) (A4 a)from rfl);have hdp:=hs.dep;refine repr_of_reads' hr hsh (PyData.noDict_hsm (PyData.hasDict_of_canLay _ hs.lay)) hg (by omega) (λ_ _ e=>e) (λh' u tk hk=>?_) hln;exact⟨.str _,H,I.kept hk,⟨u,rfl⟩,q⟩
def iE:List Wv->Int->DQ->Prop:=λxs n Q=>match xs with
 |[.d d]=>SmlA d/\Q (.d (.str d.shown)) n
 |_=>False
theorem Sq:d7 (Gn K) iE:=λC H B σ δ n vs xs Q Q' R r h k=>by
 unfold iE at h
 split at h
 ·rename_i d;cases r with
  |cons r1 r2=>
   cases r2;have r1:RdX H B _ d:=r1;exact⟨_,d,rfl,r1.rd,h.1,k _ _ H n R (Kp.refl _ _) (wd (show RdX H B _ (.str _)from .str _ h.1.len)) h.2⟩
 ·exact h.elim
end
section
variable{X:Cx}{e:Expr}{te:TE}{we:DT}{pos p2:Pos}{K:Ag}
def kP(w:DT)(l u:jJ):DT:=λδ n Q=>w δ n λx n1=>l δ n1 λa n2=>u δ n2 λb n3=>match fq x with
 |some ds=>Q (.d (.list (bI ds a b))) n3
 |none=>False
theorem OW{lo hi:Option Expr}{tl th:TO}{wl wh:jJ}(he:DE X e te we)(hl:DOp X lo tl wl)(hh:DOp X hi th wh)(hK:X.K=K:=by rfl):DE X (.Subscript e (.Slice lo hi ah p2) pos) (qH (lV K) te tl th) (kP we wl wh):=by
 subst hK;refine⟨sr v7 he.pe hl.po hh.po,λC H B σ δ n Q Q' R q k=>he.sd C H B σ δ n _ _ R q λv x H1 n1 R1 k1 r1 q1=>
  hl.sd C H1 B σ δ n1 _ _ R1 q1 λa H2 n2 R2 k2 q2=>hh.sd C H2 B σ δ n2 _ _ R2 q2 λb H3 n3 R3 k3 q3=>?_⟩
 split at q3
 ·rename_i ds ex;have r3:=(r1.kp k2 R1.bt).kp k3 R2.bt;obtain⟨aa,xs,rfl,e1,e3,e4⟩:=oG r3 ex;have kk:=(k1.trans k2).trans k3;refine⟨aa,xs,rfl,SqL.of e1,λp hp=>?_⟩;refine k _ _ _ n3 (R3.new hp) (kk.trans (Kp.new hp)) (wd (show RdX _ B _ (.list (bI ds a b))from .lst bQ (R3.nb hp) (A3 (oS xs a b) e3) ?_)) q3;unfold bI fe;rw[<-e4.len];exact(((e4.drop _).take _).fresh hp).less λb z=>.inl z
 ·exact q3.elim
end
end DL
namespace Nb
open PySem L2
abbrev tx(d:Aa):List Nat:=(Fj d).cps.toList
def iC(x:Str):Bool:=x.cps.toList.all λc=>decide (97<=c)&&decide (c<=122)
mutual
def bA:Aa->Bool
 |.none=>ai
 |.bool _=>ai
 |.int i=>decide (-2<=i)&&decide (i<=300)
 |.str x=>iC x
 |.list xs=>gp xs
 |.tuple xs=>gp xs
 |.dict _=>aj
def gp:List Aa->Bool
 |[]=>ai
 |x::xs=>bA x&&gp xs
end
theorem qP:∀{xs:List Aa},gp xs=ai->∀x∈xs,bA x=ai
 |[],_,x,hx=>nomatch hx
 |y::xs,h,x,hx=>by
  rw[gp,A2]at h;rcases Ap.mp hx with rfl|hx
  ·exact h.1
  ·exact qP h.2 x hx
theorem vQ:∀{xs:List Aa},(∀x∈xs,bA x=ai)->gp xs=ai
 |[],_=>by rw[gp]
 |y::xs,h=>by rw[gp,h y As,vQ λx hx=>h x (Am _ hx)];rfl
theorem mC:∀{xs:List Aa}{n:Nat},E5 xs<=n->∀x∈xs,Bn x<=n
 |[],_,_,x,hx=>nomatch hx
 |y::xs,n,h,x,hx=>by
  rw[E5]at h;rcases Ap.mp hx with rfl|hx
  ·omega
  ·exact mC (by omega) x hx
theorem Sz(c:Nat)(h1:97<=c)(h2:c<=122):Builtin.Str.reprChar 39 c=[c]:=by
 have key:∀k:Fin 26,Builtin.Str.reprChar 39 (97+k.val)=[97+k.val]:=by decide +kernel
 have:=key ⟨c-97,by omega⟩;rw[show 97+(c-97)=c by omega]at this;exact this
theorem Gx:∀(l:List Nat)(acc:Array Nat),(∀c∈l,97<=c/\c<=122)->(l.foldl (λout c=>out++(Builtin.Str.reprChar 39 c).toArray) acc).toList=acc.toList++l
 |[],acc,_=>by rw[List.foldl_nil,Bt]
 |c::l,acc,h=>by
  obtain⟨h1,h2⟩:=h c As;rw[List.foldl_cons,Gx l _ λx hx=>h x (Am _ hx),Sz c h1 h2];simp
theorem xE{x:Str}(h:iC x=ai):∀c∈x.cps.toList,97<=c/\c<=122:=λc hc=>by
 have:=C0.mp h c hc;rw[A2]at this;exact⟨of_decide_eq_true this.1,of_decide_eq_true this.2⟩
theorem u6{x:Str}(h:iC x=ai):tx (.str x)=39::x.cps.toList++[39]:=by
 have ha:=xE h;have hq:reprQuote x=39:=by
  unfold reprQuote;have:x.cps.contains 39=aj:=by
   rw[Array.contains_eq_mem];exact decide_eq_false λz=>absurd (ha 39 (Array.mem_toList_iff.mpr z)).1 (by decide)
  rw[this];rfl
 unfold tx;rw[PyData.shown_str];unfold reprText;rw[hq];show((x.cps.foldl _ #[39]).push 39).toList=_;rw[Array.toList_push,<-Array.foldl_toList,Gx _ _ ha];rfl
def ou(l:List Nat):Int:=l.foldl (λ(a:Int)(c:Nat)=>10*a+((c:Int)-48)) 0
def yw:List Nat->Int
 |45::t=>- ou t
 |t=>ou t
theorem zJ{i:Int}(h1:-2<=i)(h2:i<=300):yw (tx (.int i))=i:=by
 have key:∀k:Fin 303,yw (D0 (toString ((k.val:Int)-2))).cps.toList=(k.val:Int)-2:=by decide +kernel
 have:=key ⟨(i+2).toNat,by omega⟩;rw[show(((i+2).toNat:Nat):Int)-2=i by omega]at this;unfold tx;rw[PyData.shown_int];exact this
def fB(c:Nat):Bool:=decide (c=45) || (decide (48<=c)&&decide (c<=57))
theorem tY(i:Int):∀c∈tx (.int i),fB c=ai:=λc hc=>by
 cases e:fB c with
 |true=>rfl
 |false=>
  unfold fB at e;rw[Bool.or_eq_false_iff,Bool.and_eq_false_iff]at e;refine absurd hc (PyProof.Rows.shown_int_free' ⟨of_decide_eq_false e.1,?_⟩ i);rcases e.2 with z|z
  ·exact .inl (by have:=of_decide_eq_false z;omega)
  ·exact .inr (by have:=of_decide_eq_false z;omega)
theorem Nu(i:Int)(h1:-2<=i)(h2:i<=300):∃c t,tx (.int i)=c::t/\fB c=ai:=by
 cases e:tx (.int i)with
 |nil=>
  have key:∀k:Fin 303,(D0 (toString ((k.val:Int)-2))).cps.toList≠[]:=by decide +kernel
  have:=key ⟨(i+2).toNat,by omega⟩;rw[show(((i+2).toNat:Nat):Int)-2=i by omega]at this;unfold tx at e;rw[PyData.shown_int]at e;exact absurd e this
 |cons c t=>exact⟨c,t,rfl,tY i c (by rw[e];exact As)⟩
def oH(r:List Nat):Prop:=r=[]\/∃c t,r=c::t/\(c=44\/c=41\/c=93)
theorem wV(p:Nat->Bool):∀{a b r r':List Nat},(∀c∈a,p c=ai)->(∀c∈b,p c=ai)->(∀c t,r=c::t->p c=aj)->(∀c t,r'=c::t->p c=aj)->a++r=b++r'->a=b/\r=r'
 |[],[],r,r',_,_,_,_,h=>⟨rfl,h⟩
 |[],c::b,r,r',_,hb,hr,_,h=>by
  rw[Bq,Ew]at h;have:=hr c _ h;rw[hb c As]at this;cases this
 |c::a,[],r,r',ha,_,_,hr',h=>by
  rw[Bq,Ew]at h;have:=hr' c _ h.symm;rw[ha c As]at this;cases this
 |c::a,d::b,r,r',ha,hb,hr,hr',h=>by
  rw[Ew,Ew]at h;obtain⟨rfl,h2⟩:=B1 h;obtain⟨rfl,e⟩:=wV p (λx hx=>ha x (Am _ hx)) (λx hx=>hb x (Am _ hx)) hr hr' h2;exact⟨rfl,e⟩
theorem AD{r:List Nat}(h:oH r):∀c t,r=c::t->fB c=aj:=λc t e=>by
 rcases h with rfl|⟨c',t',rfl,h⟩
 ·cases e
 ·cases e;rcases h with rfl|rfl|rfl<;>decide
def fh(xs:List Aa):List Nat:=xs.flatMap λy=>44::32::tx y
theorem wq:∀(x:Aa)(xs:List Aa),(Str.join ", " (PyData.shownAll (x::xs))).cps.toList=tx x++fh xs
 |x,[]=>by
  rw[Fy,PyData.shownAll_nil];show tx x=_;unfold fh;rw[List.flatMap_nil,Bt]
 |x,y::ys=>by
  rw[Fy,Fy];have:=wq y ys;rw[Fy]at this;show((Fj x++", ")++Str.join ", " (Fj y::PyData.shownAll ys)).cps.toList=_;rw[Fs,Fs,D1,D1,this];unfold fh;rw[Em];simp[tx];rfl
theorem xh:tx (.list [])=[91,93]:=by
 unfold tx;rw[PyData.shown_list,PyData.shownAll_nil]
 decide +kernel
theorem nO(x:Aa)(xs:List Aa):tx (.list (x::xs))=91::(tx x++(fh xs++[93])):=by
 unfold tx;rw[PyData.shown_list,Fs,Fs,D1,D1,wq];show[91]++(tx x++fh xs)++[93]=_;simp
theorem xC:tx (.tuple [])=[40,41]:=by
 unfold tx;rw[PyData.shown_tuple,PyData.shownAll_nil]
 decide +kernel
def gO(xs:List Aa):List Nat:=if xs=[]then[44,41]else[41]
theorem pS(x:Aa)(xs:List Aa):tx (.tuple (x::xs))=40::(tx x++(fh xs++gO xs)):=by
 unfold tx;rw[PyData.shown_tuple,Fs,Fs,D1,D1,wq];cases xs with
 |nil=>
  show[40]++(tx x++fh [])++[44,41]=_;simp[gO]
 |cons y ys=>
  have:((y::ys).length+1==1)=aj:=by simp
  rw[An,this];show[40]++(tx x++fh (y::ys))++[41]=_;simp[gO]
def tG:Aa->Nat->Bool
 |.none,c=>decide (c=78)
 |.bool ai,c=>decide (c=84)
 |.bool aj,c=>decide (c=70)
 |.int _,c=>fB c
 |.str _,c=>decide (c=39)
 |.list _,c=>decide (c=91)
 |.tuple _,c=>decide (c=40)
 |.dict _,_=>aj
theorem NV:tx .none=[78,111,110,101]:=by unfold tx;rw[PyData.shown_none];decide +kernel
theorem Nx:tx (.bool ai)=[84,114,117,101]:=by unfold tx;rw[PyData.shown_bool];decide +kernel
theorem NI:tx (.bool aj)=[70,97,108,115,101]:=by unfold tx;rw[PyData.shown_bool];decide +kernel
theorem l7{d:Aa}(h:bA d=ai):∃c t,tx d=c::t/\tG d c=ai:=by
 cases d with
 |none=>exact⟨_,_,NV,rfl⟩
 |bool b=>cases b;exact⟨_,_,NI,rfl⟩;exact⟨_,_,Nx,rfl⟩
 |int i=>
  rw[bA,A2]at h;exact Nu i (of_decide_eq_true h.1) (of_decide_eq_true h.2)
 |str x=>rw[bA]at h;exact⟨_,_,u6 h,rfl⟩
 |list xs=>
  cases xs with
  |nil=>exact⟨_,_,xh,rfl⟩
  |cons x xs=>exact⟨_,_,nO x xs,rfl⟩
 |tuple xs=>
  cases xs with
  |nil=>exact⟨_,_,xC,rfl⟩
  |cons x xs=>exact⟨_,_,pS x xs,rfl⟩
 |dict _=>rw[bA]at h;cases h
theorem qR{d:Aa}(h:bA d=ai){c:Nat}{t:List Nat}(e:tx d=c::t):c≠41/\c≠93/\c≠44:=by
 obtain⟨c',t',e',k⟩:=l7 h;rw[e]at e';cases e';refine⟨λz=>?_,λz=>?_,λz=>?_⟩<;>(subst z;cases d with
  |none=>cases k
  |bool b=>cases b<;>cases k
  |int i=>cases(show fB _=ai from k)
  |str x=>cases k
  |list xs=>cases k
  |tuple xs=>cases k
  |dict _=>cases k)
theorem Tj{d e:Aa}(hd:bA d=ai)(he:bA e=ai){r r':List Nat}(h:tx d++r=tx e++r'):∃c,tG d c=ai/\tG e c=ai:=by
 obtain⟨c,t,e1,k1⟩:=l7 hd;obtain⟨c',t',e2,k2⟩:=l7 he;rw[e1,e2,Ew,Ew]at h;have:=(B1 h).1;subst this;exact⟨c,k1,k2⟩
def iy(e:List Nat):Prop:=∃r,e=93::r\/e=41::r\/e=44::41::r
theorem LV{e:List Nat}(h:iy e):oH e:=by
 obtain⟨r,rfl|rfl|rfl⟩:=h
 ·exact .inr ⟨_,_,rfl,.inr (.inr rfl)⟩
 ·exact .inr ⟨_,_,rfl,.inr (.inl rfl)⟩
 ·exact .inr ⟨_,_,rfl,.inl rfl⟩
theorem my{e:List Nat}(h:iy e):∀xs,oH (fh xs++e)
 |[]=>LV h
 |_::_=>.inr ⟨44,_,rfl,.inl rfl⟩
theorem DK{e t:List Nat}(h:iy e)(z:e=44::32::t):False:=by
 obtain⟨r,rfl|rfl|rfl⟩:=h
 ·cases z
 ·cases z
 ·cases z
def jN(d:Aa):Prop:=∀(e:Aa)(r r':List Nat),bA d=ai->bA e=ai->oH r->oH r'->tx d++r=tx e++r'->d=e/\r=r'
theorem ux:∀{xs ys:List Aa}{e e':List Nat},(∀x∈xs,jN x)->gp xs=ai->gp ys=ai->iy e->iy e'->fh xs++e=fh ys++e'->xs=ys/\e=e'
 |[],[],_,_,_,_,_,_,_,h=>⟨rfl,h⟩
 |[],y::ys,e,e',_,_,_,h1,_,h=>(DK h1 (show e=44::32::(tx y++fh ys++e') by
   have h:e=_:=h;rw[h];unfold fh;rw[Em];simp)).elim
 |x::xs,[],e,e',_,_,_,_,h2,h=>(DK h2 (show e'=44::32::(tx x++fh xs++e) by
   have h:_=e':=h;rw[<-h];unfold fh;rw[Em];simp)).elim
 |x::xs,y::ys,e,e',hI,sx,sy,h1,h2,h=>by
  rw[gp,A2]at sx sy;have h:tx x++(fh xs++e)=tx y++(fh ys++e'):=by
   unfold fh at h ⊢;rw[Em,Em]at h;simpa using h
  obtain⟨rfl,q⟩:=hI x As y _ _ sx.1 sy.1 (my h1 xs) (my h2 ys) h;obtain⟨rfl,q2⟩:=ux (λz hz=>hI z (Am _ hz)) sx.2 sy.2 h1 h2 q;exact⟨rfl,q2⟩
theorem rR(xs:List Aa)(r:List Nat):iy (gO xs++r):=by
 unfold gO
 split
 ·exact⟨r,.inr (.inr rfl)⟩
 ·exact⟨r,.inr (.inl rfl)⟩
theorem Jt{x y:Str}(h:x.cps.toList=y.cps.toList):x=y:=by
 cases x;cases y
 congr
 exact Array.toList_inj.mp h
def knd:Aa->Nat
 |.none=>0
 |.bool ai=>1
 |.bool aj=>2
 |.int _=>3
 |.str _=>4
 |.list _=>5
 |.tuple _=>6
 |.dict _=>7
def kc(c:Nat):Nat:=if c=78 then 0 else if c=84 then 1 else if c=70 then 2 else if c=39 then 4 else if c=91 then 5 else if c=40 then 6 else 3
theorem CN{d:Aa}{c:Nat}(h:tG d c=ai):knd d=kc c:=by
 cases d with
 |none=>rw[of_decide_eq_true (show decide (c=78)=ai from h)];rfl
 |bool b=>cases b;rw[of_decide_eq_true (show decide (c=70)=ai from h)];rfl;rw[of_decide_eq_true (show decide (c=84)=ai from h)];rfl
 |int i=>
  have h:fB c=ai:=h;unfold fB at h;rw[Bool.or_eq_true,A2,decide_eq_true_eq,decide_eq_true_eq,decide_eq_true_eq]at h;unfold kc;rw[if_neg (by omega),if_neg (by omega),if_neg (by omega),if_neg (by omega),if_neg (by omega),if_neg (by omega)];rfl
 |str x=>rw[of_decide_eq_true (show decide (c=39)=ai from h)];rfl
 |list x=>rw[of_decide_eq_true (show decide (c=91)=ai from h)];rfl
 |tuple x=>rw[of_decide_eq_true (show decide (c=40)=ai from h)];rfl
 |dict _=>cases h
theorem qh{a r r':List Nat}(h:a++r=a++r'):r=r':=List.append_cancel_left h
theorem HH(d:Aa)(hI:∀xs,d=.list xs\/d=.tuple xs->∀x∈xs,jN x):jN d:=by
 intro e r r' sd se hr hr' h;obtain⟨c,k1,k2⟩:=Tj sd se h;have hk:knd d=knd e:=(CN k1).trans (CN k2).symm;clear k1 k2;cases d with
 |none=>
  cases e with
  |none=>exact⟨rfl,qh h⟩
  |bool b=>cases b<;>cases hk
  |_=>cases hk
 |bool b=>
  cases e with
  |bool b'=>
   cases b<;>cases b'<;>first|exact⟨rfl,qh h⟩|cases hk
  |_=>cases b<;>cases hk
 |int i=>
  cases e with
  |int j=>
   rw[bA,A2]at sd se;obtain⟨q,q2⟩:=wV fB (tY i) (tY j) (AD hr) (AD hr') h;have a:=zJ (of_decide_eq_true sd.1) (of_decide_eq_true sd.2);have b:=zJ (of_decide_eq_true se.1) (of_decide_eq_true se.2);rw[q,b]at a;exact⟨by rw[a],q2⟩
  |bool b=>cases b<;>cases hk
  |_=>cases hk
 |str x=>
  cases e with
  |str y=>
   rw[bA]at sd se;rw[u6 sd,u6 se]at h;have h:x.cps.toList++(39::r)=y.cps.toList++(39::r'):=by simpa using h
   obtain⟨q,q2⟩:=wV (λc=>decide (c≠39)) (λc hc=>decide_eq_true (by have:=(xE sd c hc).1;omega)) (λc hc=>decide_eq_true (by have:=(xE se c hc).1;omega)) (λc t z=>by cases z;rfl) (λc t z=>by cases z;rfl) h;exact⟨by rw[Jt q],(B1 q2).2⟩
  |bool b=>cases b<;>cases hk
  |_=>cases hk
 |list xs=>
  cases e with
  |list ys=>
   rw[bA]at sd se;have hI:=hI xs (.inl rfl);cases xs with
   |nil=>
    cases ys with
    |nil=>exact⟨rfl,qh h⟩
    |cons y ys=>
     rw[xh,nO]at h;rw[gp,A2]at se;obtain⟨c,t,e1,_⟩:=l7 se.1;rw[e1]at h;have:=(B1 (B1 h).2).1;exact absurd this.symm (qR se.1 e1).2.1
   |cons x xs=>
    rw[gp,A2]at sd;cases ys with
    |nil=>
     rw[xh,nO]at h;obtain⟨c,t,e1,_⟩:=l7 sd.1;rw[e1]at h;have:=(B1 (B1 h).2).1;exact absurd this (qR sd.1 e1).2.1
    |cons y ys=>
     rw[gp,A2]at se;rw[nO,nO]at h;have h:tx x++(fh xs++(93::r))=tx y++(fh ys++(93::r')):=by simpa using h
     obtain⟨rfl,q⟩:=hI x As y _ _ sd.1 se.1 (my ⟨r,.inl rfl⟩ xs) (my ⟨r',.inl rfl⟩ ys) h;obtain⟨rfl,q2⟩:=ux (λz hz=>hI z (Am _ hz)) sd.2 se.2 ⟨r,.inl rfl⟩ ⟨r',.inl rfl⟩ q;exact⟨rfl,(B1 q2).2⟩
  |bool b=>cases b<;>cases hk
  |_=>cases hk
 |tuple xs=>
  cases e with
  |tuple ys=>
   rw[bA]at sd se;have hI:=hI xs (.inr rfl);cases xs with
   |nil=>
    cases ys with
    |nil=>exact⟨rfl,qh h⟩
    |cons y ys=>
     rw[xC,pS]at h;rw[gp,A2]at se;obtain⟨c,t,e1,_⟩:=l7 se.1;rw[e1]at h;have:=(B1 (B1 h).2).1;exact absurd this.symm (qR se.1 e1).1
   |cons x xs=>
    rw[gp,A2]at sd;cases ys with
    |nil=>
     rw[xC,pS]at h;obtain⟨c,t,e1,_⟩:=l7 sd.1;rw[e1]at h;have:=(B1 (B1 h).2).1;exact absurd this (qR sd.1 e1).1
    |cons y ys=>
     rw[gp,A2]at se;rw[pS,pS]at h;have h:tx x++(fh xs++(gO xs++r))=tx y++(fh ys++(gO ys++r')):=by simpa using h
     obtain⟨rfl,q⟩:=hI x As y _ _ sd.1 se.1 (my (rR xs r) xs) (my (rR ys r') ys) h;obtain⟨rfl,q2⟩:=ux (λz hz=>hI z (Am _ hz)) sd.2 se.2 (rR xs r) (rR ys r') q;exact⟨rfl,qh q2⟩
  |bool b=>cases b<;>cases hk
  |_=>cases hk
 |dict _=>rw[bA]at sd;cases sd
theorem Ru:∀(n:Nat)(d:Aa),Bn d<=n->jN d:=by
 intro n
 induction n with
 |zero=>
  intro d hd;refine HH d λxs hx=>?_;rcases hx with rfl|rfl
  ·rw[Bn]at hd;omega
  ·rw[Bn]at hd;omega
 |succ n ih=>
  intro d hd;refine HH d λxs hx x hm=>ih x ?_;rcases hx with rfl|rfl
  ·rw[Bn]at hd;exact mC (by omega) x hm
  ·rw[Bn]at hd;exact mC (by omega) x hm
theorem J3{d e:Aa}(hd:bA d=ai)(he:bA e=ai):Fj d=Fj e↔d=e:=by
 refine⟨λh=>?_,λh=>by rw[h]⟩;exact(Ru _ d (Ao _) e [] [] hd he (.inl rfl) (.inl rfl) (by rw[show tx d=tx e from congrArg (λx:Str=>x.cps.toList) h])).1
end Nb
namespace Nb
open PySem L2 DL
theorem yQ{w:DT}{Q:List Aa->Int->Prop}{aQ:Sl}(P:Aa->Prop)(f:Aa->Aa)(h:∀d n Q',P d->Q' (.d (f d)) n->w (ae (.w (.d d))::aQ) n Q'):∀(items acc:List Aa)(x:Option SV)(n:Int),(∀d∈items,P d)->Q (acc++items.map f) n->c9 (aJ 0) cO w Q items acc (x::aQ) n
 |[],acc,x,n,hP,q=>by
  rw[List.map_nil,Bt]at q;exact q
 |d::r,acc,x,n,hP,q=>by
  simp only[c9,aJ,cO,if_true,Ff];refine h d n _ (hP d As) ?_;refine yQ P f h r (acc++[f d]) _ n (λe he=>hP e (Am _ he)) ?_;rw[Bp];exact q
theorem qf{c:c8}{w:DT}{Q:List Aa->Int->Prop}{aQ:Sl}(P:Aa->Prop)(p:Aa->Bool)(f:Aa->Aa)(hp:∀d n Q',P d->Q' (p d) n->c (ae (.w (.d d))::aQ) n Q')(h:∀d n Q',P d->Q' (.d (f d)) n->w (ae (.w (.d d))::aQ) n Q'):
  ∀(items acc:List Aa)(x:Option SV)(n:Int),(∀d∈items,P d)->Q (acc++(items.filter p).map f) n->c9 (aJ 0) c w Q items acc (x::aQ) n
 |[],acc,x,n,hP,q=>by
  rw[List.filter_nil,List.map_nil,Bt]at q;exact q
 |d::r,acc,x,n,hP,q=>by
  simp only[c9,aJ,Ff];refine hp d n _ (hP d As) ?_;cases e:p d with
  |true=>
   rw[if_pos rfl];refine h d n _ (hP d As) ?_;refine qf P p f hp h r (acc++[f d]) _ n (λe he=>hP e (Am _ he)) ?_;rw[List.filter_cons_of_pos e]at q;rw[Bp];exact q
  |false=>
   rw[if_neg Ae];refine qf P p f hp h r acc _ n (λe he=>hP e (Am _ he)) ?_;rw[List.filter_cons_of_neg (by rw[e];exact Ae)]at q;exact q
def okD:Aa->Bool
 |.str y=>!decide (y.cps.toList < ("a":Str).cps.toList)&&!decide (("z":Str).cps.toList < y.cps.toList)
 |_=>aj
theorem zR{α:Type}(f:α->Bool):∀l:List α,kI (l.map λa=>.bool (f a))=ae (l.map f)
 |[]=>rfl
 |a::r=>by
  show(kI (r.map λa=>.bool (f a))).map _=_;rw[zR f r];rfl
theorem yM{α:Type}{xs:List α}{r:Int}(h0:0<=r)(h1:r < xs.length):∃v,cS xs r=ae v/\v∈xs:=by
 obtain⟨j,rfl⟩:=Gj h0;have hj:j < xs.length:=by omega
 exact⟨xs[j],fi (Ak hj),Ci hj⟩
theorem mW(d:Aa):cE "str" d=match d with|.str _=>ai|_=>aj:=by cases d<;>rfl
theorem jd{b:Bool}{A B:Prop}(h1:b=ai->A)(h2:b=aj->B):if b=ai then A else B:=by
 cases b with
 |true=>rw[if_pos rfl];exact h1 rfl
 |false=>rw[if_neg Ae];exact h2 rfl
theorem MC{n many:Int}{Q:DQ}(h:n < 2 ^ 40)(h0:0 < many)(h1:many < 1073741824)(k:∀r:Int,0<=r->r < many->Q (.d (.int r)) (n+1)):cq [.tp,.d (.int many)] n Q:=⟨⟨h,h0,h1⟩,k⟩
theorem iY{ds:List Aa}{r:Int}{n:Int}{Q:DQ}(h0:0<=r)(h1:r < (ds.length:Int))(k:∀d∈ds,Q (.d d) n):aB (.d (.list ds)) (.d (.int r)) n Q:=by
 obtain⟨v,hv,hm⟩:=yM h0 h1;show match cS ds r with|some d=>Q (.d d) n|none=>False
 simp only[hv];exact k v hm
theorem Mh{w:DT}{Q:List Aa->Int->Prop}{aQ:Sl}(c:Nat)(h:∀d n Q',n+(c:Int) < 2 ^ 39->(∀y n',n'<=n+(c:Int)->Q' (.d y) n')->w (ae (.w (.d d))::aQ) n Q'):
  ∀(items acc:List Aa)(x:Option SV)(n:Int),n+(c:Int)*(items.length:Int) < 2 ^ 39->(∀ds n',n'<=n+(c:Int)*(items.length:Int)->Q ds n')->c9 (aJ 0) cO w Q items acc (x::aQ) n
 |[],acc,x,n,hn,q=>q acc n (by simp)
 |d::r,acc,x,n,hn,q=>by
  simp only[c9,aJ,cO,if_true,Ff];rw[An]at hn q;have e:(c:Int)*((r.length+1:Nat):Int)=(c:Int)*(r.length:Int)+c:=by rw[Int.natCast_add,Int.mul_add];simp
  rw[e]at hn q;have hc:0<=(c:Int)*(r.length:Int):=Int.mul_nonneg (Ge _) (Ge _);refine h d n _ (by omega) λy n' hn'=>?_;exact Mh c h r (acc++[y]) _ n' (by omega) λds n'' h''=>q ds n'' (by omega)
theorem eU(n:Nat):(bY 0 n).length=n:=by unfold bY;simp
theorem uO{w:DT}{Q:List Aa->Int->Prop}{aQ:Sl}(P:Aa->Prop)(c:Nat)(h:∀d n Q',n+(c:Int) < 2 ^ 39->(∀y n',P y->n'<=n+(c:Int)->Q' (.d y) n')->w (ae (.w (.d d))::aQ) n Q'):
  ∀(items acc:List Aa)(x:Option SV)(n:Int),n+(c:Int)*(items.length:Int) < 2 ^ 39->(∀ds n',ds.length=items.length->(∀d∈ds,P d)->n'<=n+(c:Int)*(items.length:Int)->Q (acc++ds) n')->c9 (aJ 0) cO w Q items acc (x::aQ) n
 |[],acc,x,n,hn,q=>by
  have:=q [] n rfl (by simp) (by simp);rwa [Bt]at this
 |d::r,acc,x,n,hn,q=>by
  simp only[c9,aJ,cO,if_true,Ff];rw[An]at hn q;have e:(c:Int)*((r.length+1:Nat):Int)=(c:Int)*(r.length:Int)+c:=by rw[Int.natCast_add,Int.mul_add];simp
  rw[e]at hn q;have hc:0<=(c:Int)*(r.length:Int):=Int.mul_nonneg (Ge _) (Ge _);refine h d n _ (by omega) λy n' hy hn'=>?_;refine uO P c h r (acc++[y]) _ n' (by omega) λds n'' hl hds h''=>?_;rw[Bp];refine q (y::ds) n'' (by rw[An,hl]) (λd hd=>?_) (by omega);rcases Ap.mp hd with rfl|z
  ·exact hy
  ·exact hds d z
theorem eq_str(a:Aa)(h:Str):je a (.str h)=ae (bO h a):=by cases a<;>rfl
theorem eq_int(i j:Int):je (.int i) (.int j)=ae (decide (i=j)):=rfl
theorem S5{α:Type}(a:α)(r:List α):cS (a::r) 0=ae a:=fi (j:=0) rfl
theorem Ur{α:Type}(a b:α)(r:List α):cS (a::b::r) 1=ae b:=fi (j:=1) rfl
section
variable{δ:Sl}{n:Int}{Q:DQ}{K:DEnds}{W V:aP}{i j:Nat}{a b d:Aa}{r ds:List Aa}{h:Str}
theorem aD(h:W δ n {K with nx:=λδ n=>V δ n K}):av W V δ n K:=h
theorem au{x:Wv}(e:δ[i]?=ae (ae (.w x)))(k:Q x n):ak i δ n Q:=by unfold ak;rw[e];exact k
theorem qk{m:Nat}(e:δ[i]?=ae (ae (.w (.d (.tuple ds)))))(e2:ds[m]?=ae a)(k:Q (.d a) n):w2 (ak i) (wC (.int (m:Int))) aB δ n Q:=by
 unfold w2;refine au e ?_;unfold wC aB;simp only[fi e2];exact k
theorem eB(e:δ[i]?=ae (ae (.w (.d (.tuple (a::r))))))(k:Q (.d a) n):w2 (ak i) (wC (.int 0)) aB δ n Q:=qk (m:=0) e rfl k
theorem dY(e:δ[i]?=ae (ae (.w (.d (.tuple (a::b::r))))))(k:Q (.d b) n):w2 (ak i) (wC (.int 1)) aB δ n Q:=qk (m:=1) e rfl k
theorem g9{d:Aa}(e:δ[i]?=ae (ae (.w (.d d))))(k:Q (.d (.bool (bO h d))) n):w2 (ak i) (wC (.str h)) aV δ n Q:=by
 unfold w2;refine au e ?_;unfold wC aV;simp only[eq_str];exact k
theorem mj(e:δ[i]?=ae (ae (.w (.d (.tuple (a::r))))))(k:Q (.d (.bool (bO h a))) n):w2 (w2 (ak i) (wC (.int 0)) aB) (wC (.str h)) aV δ n Q:=by
 show w2 (ak i) (wC (.int 0)) aB δ n λx n1=>wC (.str h) δ n1 λy n2=>aV x y n2 Q;refine eB e ?_;unfold wC aV;simp only[eq_str];exact k
theorem dh{c:c8}(k:c δ n λb n1=>if b=ai then W δ n1 K else V δ n1 K):aL c W V δ n K:=k
theorem Hl{d:Aa}(e:δ[i]?=ae (ae (.w (.d d))))(hT:bO h d=ai->W δ n K)(hF:bO h d=aj->V δ n K):aL (cT (w2 (ak i) (wC (.str h)) aV)) W V δ n K:=by
 unfold aL cT;exact g9 e (jd hT hF)
theorem vT(e:δ[i]?=ae (ae (.w (.d (.tuple (a::r))))))(hT:bO h a=ai->W δ n K)(hF:bO h a=aj->V δ n K):aL (cT (w2 (w2 (ak i) (wC (.int 0)) aB) (wC (.str h)) aV)) W V δ n K:=by
 unfold aL cT;exact mj e (jd hT hF)
theorem nj{d:Aa}(e:δ[i]?=ae (ae (.w (.d d))))(z:bO h d=aj)(hF:V δ n K):aL (cT (w2 (ak i) (wC (.str h)) aV)) W V δ n K:=Hl e (λq=>by rw[z]at q;cases q) λ_=>hF
theorem EN{d:Aa}(e:δ[i]?=ae (ae (.w (.d d))))(z:bO h d=ai)(hT:W δ n K):aL (cT (w2 (ak i) (wC (.str h)) aV)) W V δ n K:=Hl e (λ_=>hT) λq=>by rw[z]at q;cases q
theorem j5(e:δ[i]?=ae (ae (.w (.d (.tuple (a::r))))))(z:bO h a=aj)(hF:V δ n K):aL (cT (w2 (w2 (ak i) (wC (.int 0)) aB) (wC (.str h)) aV)) W V δ n K:=vT e (λq=>by rw[z]at q;cases q) λ_=>hF
theorem oX(e:δ[i]?=ae (ae (.w (.d (.tuple (a::r))))))(z:bO h a=ai)(hT:W δ n K):aL (cT (w2 (w2 (ak i) (wC (.int 0)) aB) (wC (.str h)) aV)) W V δ n K:=vT e (λ_=>hT) λq=>by rw[z]at q;cases q
end
theorem tZ:bO "is" (.str "is")=ai:=by decide +kernel
theorem IK:bO "is" (.str "any")=aj:=by decide +kernel
theorem M8:bO "is" (.str "word")=aj:=by decide +kernel
theorem SW:bO "is" (.str "number")=aj:=by decide +kernel
theorem QV:bO "is" (.str "bind")=aj:=by decide +kernel
theorem u5:bO "is" (.str "as")=aj:=by decide +kernel
theorem N6:bO "word" (.str "word")=ai:=by decide +kernel
theorem QX:bO "word" (.str "number")=aj:=by decide +kernel
theorem PV:bO "as" (.str "bind")=aj:=by decide +kernel
theorem JS:bO "as" (.str "as")=ai:=by decide +kernel
theorem uA:bO "bind" (.str "bind")=ai:=by decide +kernel
section
variable{δ:Sl}{n:Int}{Q:DQ}{K:DEnds}{W V:aP}{i j:Nat}{a b d:Aa}{r ds:List Aa}
theorem ar{wa wb:DT}{g:Wv->Wv->Int->DQ->Prop}(k:wa δ n λx n1=>wb δ n1 λy n2=>g x y n2 Q):w2 wa wb g δ n Q:=k
theorem bC{w:DT}{x:Aa}(h:∀Q:DQ,Q (.d x) n->w δ n Q)(k:K.nx (δ.set i (ae (.w (.d x)))) n):aA i w δ n K:=h _ k
theorem jl(k:K.nx (δ.set i (ae (.own []))) n):bz i (aH ao) δ n K:=⟨Bk _,k⟩
theorem bV(k:Q (.d a) n):aB (.d (.tuple (a::r))) (.d (.int 0)) n Q:=by
 show(match cS (a::r) 0 with|some d=>Q (.d d) n|none=>False);rw[S5];exact k
theorem eh(k:Q (.d b) n):aB (.d (.tuple (a::b::r))) (.d (.int 1)) n Q:=by
 show(match cS (a::b::r) 1 with|some d=>Q (.d d) n|none=>False);rw[Ur];exact k
theorem dG{c:Aa}(k:Q (.d c) n):aB (.d (.tuple (a::b::c::r))) (.d (.int 2)) n Q:=by
 show(match cS (a::b::c::r) 2 with|some d=>Q (.d d) n|none=>False);rw[show cS (a::b::c::r) 2=ae c from fi (j:=2) rfl];exact k
theorem aC{c:Aa}(k:Q (.d c) n):wC c δ n Q:=k
theorem aT{w:DT}{g:List Wv->Int->DQ->Prop}(k:w δ n λx n1=>g [x] n1 Q):wB g (aq w ao) δ n Q:=k
theorem cu{w:DT}{S:bu}(k:w δ n λx n1=>S [x] n1 Q):aF S (aq w ao) δ n Q:=k
theorem bJ{w w':DT}{S:bu}(k:w δ n λx n1=>w' δ n1 λy n2=>S [x,y] n2 Q):aF S (aq w (aq w' ao)) δ n Q:=k
theorem bW{w w' w'':DT}{S:bu}(k:w δ n λx n1=>w' δ n1 λy n2=>w'' δ n2 λz n3=>S [x,y,z] n3 Q):aF S (aq w (aq w' (aq w'' ao))) δ n Q:=k
theorem bf{w:fX}(k:w δ n λds n1=>Q (.d (.list ds)) n1):aW w δ n Q:=k
theorem jx{fr:List (Option Nat)}{w e:DT}{g:eM}{c:c8}{Q:List Aa->Int->Prop}(hw:∀Q:DQ,Q (.d (.tuple ds)) n->w δ n Q)(k:c9 g c e Q ds [] (jD fr δ) n):cQ fr (ft w) g c e δ n Q:=by
 unfold cQ ft;exact hw _ k
theorem Im(e:δ[i]?=ae (ae (.w (.d (.tuple ds)))))(k:Q (.d (.int ds.length)) n):wB aX (aq (ak i) ao) δ n Q:=aT (au e k)
theorem M5(e:δ[j]?=ae (ae (.w (.d (.tuple ds)))))(k:K.nx (δ.set i (ae (.own ds))) n):bz i (kM (ak j)) δ n K:=by
 unfold bz kM;exact au e k
theorem bb{w:DT}(k:w δ n K.rt):az w δ n K:=k
theorem KI{wa wb wc:DT}{x y z:Int}(ha:∀Q:DQ,Q (.d (.int x)) n->wa δ n Q)(hb:∀Q:DQ,Q (.d (.int y)) n->wb δ n Q)(hc:∀Q:DQ,Q (.d (.int z)) n->wc δ n Q)(h:x<=y)(k:Q (.d (.bool (decide (y<=z)))) n):lr iz iz wa wb wc δ n Q:=by
 refine ha _ (hb _ ?_);show iw (.d (.bool (decide (x<=y)))) (wc δ n λu n4=>iz (.d (.int y)) u n4 Q) (Q (.d (.bool aj)) n);rw[decide_eq_true h];exact hc _ k
theorem gK(e:δ[i]?=ae (ae (.own ds)))(k:W (δ.set i (ae (.w (.d (.list ds))))) n K):b9 i W δ n K:=by
 unfold b9;rw[e];exact k
theorem uH{u v:DT}(hu:∀Q:DQ,Q (.d (.bool ai)) n->u δ n Q)(hv:v δ n Q):eE u v δ n Q:=hu _ hv
theorem aE{w:DT}{k:Bool}{Q:Bool->Int->Prop}(hw:∀Q':DQ,Q' (.d (.bool k)) n->w δ n Q')(q:Q k n):cT w δ n Q:=hw _ q
theorem a8{C:c8}(hc:∀Q:Bool->Int->Prop,Q aj n->C δ n Q)(hF:V δ n K):aL C W V δ n K:=hc _ (by show if aj=ai then _ else _;rw[if_neg Ae];exact hF)
theorem bF{C:c8}(hc:∀Q:Bool->Int->Prop,Q ai n->C δ n Q)(hT:W δ n K):aL C W V δ n K:=hc _ (by show if ai=ai then _ else _;rw[if_pos rfl];exact hT)
theorem fw{A B:c8}{Q:Bool->Int->Prop}(ha:∀Q:Bool->Int->Prop,Q aj n->A δ n Q)(hb:B δ n Q):gg A B δ n Q:=ha _ (by show if aj=ai then _ else _;rw[if_neg Ae];exact hb)
theorem i7{A B:c8}{Q:Bool->Int->Prop}(ha:∀Q:Bool->Int->Prop,Q ai n->A δ n Q)(k:Q ai n):gg A B δ n Q:=ha _ (by show if ai=ai then _ else _;rw[if_pos rfl];exact k)
theorem kK{A B:c8}{Q:Bool->Int->Prop}(ha:∀Q:Bool->Int->Prop,Q ai n->A δ n Q)(hb:B δ n Q):dz A B δ n Q:=ha _ (by show if ai=ai then _ else _;rw[if_pos rfl];exact hb)
theorem gQ{A:c8}{k:Bool}{Q:Bool->Int->Prop}(ha:∀Q:Bool->Int->Prop,Q k n->A δ n Q)(q:Q (!k) n):bB A δ n Q:=ha _ q
end
theorem fW{g:eM}{W:aP}{K:DEnds}(I:List Aa->Sl->Int->Prop)(h0:∀δ n,I [] δ n->K.nx δ n)
  (h1:∀d r δ n (N:Sl->Int->Prop),I (d::r) δ n->(∀δ n,I r δ n->N δ n)->g d δ λδ'=>W δ' n {K with nx:=N,ct:=N,bk:=K.nx}):∀ds δ n,I ds δ n->eW g W K ds δ n
 |[],δ,n,h=>h0 δ n h
 |d::r,δ,n,h=>h1 d r δ n (eW g W K r) h (fW I h0 h1 r)
section
variable{δ:Sl}{n m:Int}{Q:DQ}{K:DEnds}{W V:aP}{i j:Nat}{ds:List Aa}
theorem iQ{w:DT}(e0:δ[0]?=ae (ae (.w .tp)))(hw:∀Q:DQ,Q (.d (.int m)) n->w δ n Q)(h:n < 2 ^ 40)(h0:0 < m)(h1:m < 1073741824)(k:∀r:Int,0<=r->r < m->Q (.d (.int r)) (n+1)):aF cq (aq (ak 0) (aq w ao)) δ n Q:=
 bJ (au e0 (hw _ (MC h h0 h1 k)))
theorem gx(e0:δ[0]?=ae (ae (.w .tp)))(h:n < 2 ^ 40)(h0:0 < m)(h1:m < 1073741824)(k:∀r:Int,0<=r->r < m->Q (.d (.int r)) (n+1)):aF cq (aq (ak 0) (aq (wC (.int m)) ao)) δ n Q:=iQ e0 (λQ q=>aC q) h h0 h1 k
theorem px(e0:δ[0]?=ae (ae (.w .tp)))(h:n < 2 ^ 40)(h0:0 < m)(h1:m < 1073741824)(k:∀r:Int,0<=r->r < m->K.nx (δ.set i (ae (.w (.d (.int r))))) (n+1)):aA i (aF cq (aq (ak 0) (aq (wC (.int m)) ao))) δ n K:=gx e0 h h0 h1 k
theorem pU{r:Int}(h0:0<=r)(h1:r < (ds.length:Int))(k:∀d∈ds,Q (.d d) n):aU (.ln ds) (.d (.int r)) n Q:=by
 obtain⟨v,hv,hm⟩:=yM h0 h1;show(match cS ds r with|some d=>Q (.d d) n|none=>False);rw[hv];exact k v hm
theorem iT{r:Int}(h0:0<=r)(h1:r < (ds.length:Int))(k:∀d∈ds,Q (.d d) n):aU (.d (.list ds)) (.d (.int r)) n Q:=iY h0 h1 k
theorem gf(e:δ[i]?=ae (ae (.own ds)))(k:Q (.ln ds) n):dC i δ n Q:=by
 unfold dC;rw[e];exact k
theorem kZ{w:DT}{x:Aa}{es:List Aa}(e:δ[i]?=ae (ae (.own es)))(hw:∀Q:DQ,Q (.d x) m->w δ n Q)(hl:es.length < 1000000)(k:K.nx (δ.set i (ae (.own (es++[x])))) m):br i w δ n K:=by
 unfold br;rw[e];exact hw _ (Ah hl k)
theorem jc{w:DT}{es:List Aa}(e:δ[i]?=ae (ae (.own es)))(k:w δ n λx n1=>match x with
  |.d d=>es.length < 1000000/\K.nx (δ.set i (ae (.own (es++[d])))) n1
  |_=>False):br i w δ n K:=by
 unfold br;rw[e];exact k
theorem cX{w w':DT}(k:w δ n λx n1=>w' δ n1 λy n2=>match ik [x,y]with
  |some ds=>ds.length<=1000/\Q (.d (.tuple ds)) n2
  |none=>False):aw (aq w (aq w' ao)) δ n Q:=k
theorem fZ{w w' w'':DT}(k:w δ n λx n1=>w' δ n1 λy n2=>w'' δ n2 λz n3=>match ik [x,y,z]with
  |some ds=>ds.length<=1000/\Q (.d (.tuple ds)) n3
  |none=>False):aw (aq w (aq w' (aq w'' ao))) δ n Q:=k
theorem ky(k:Q (.d (.tuple ds)) n):ir [.d (.list ds)] n Q:=k
theorem u7{a b:Int}(k:Q (.d (.bool (decide (a < b)))) n):fY (.d (.int a)) (.d (.int b)) n Q:=k
theorem lM{a b:Int}(e:δ[i]?=ae (ae (.w (.d (.int a)))))(hT:a < b->W δ n K)(hF:¬a < b->V δ n K):aL (cT (w2 (ak i) (wC (.int b)) fY)) W V δ n K:=by
 refine dh (ar (au e (aC ?_)));show if decide (a < b)=ai then _ else _
 by_cases h:a < b
 ·rw[if_pos (decide_eq_true h)];exact hT h
 ·rw[if_neg (by simpa using h)];exact hF h
end
section
variable{δ:Sl}{n m:Int}{Q:DQ}{K:DEnds}{W V:aP}{i j:Nat}{ds:List Aa}
theorem ve{w w' w'' v:DT}(k:w δ n λx n1=>w' δ n1 λy n2=>w'' δ n2 λz n3=>v δ n3 λu n4=>match ik [x,y,z,u]with
  |some ds=>ds.length<=1000/\Q (.d (.tuple ds)) n4
  |none=>False):aw (aq w (aq w' (aq w'' (aq v ao)))) δ n Q:=k
theorem jC(k:Q (.d (.list [])) n):aW (aH ao) δ n Q:=Ah (Bk _) k
theorem jm(k:Q (.d (.bool ds.isEmpty)) n):bX (.ln ds) (.d (.list [])) n Q:=k
theorem lH{a b:Int}(k:Q (.d (.bool (decide (a=b)))) n):bX (.d (.int a)) (.d (.int b)) n Q:=k
theorem qe{a b:Int}(e:δ[i]?=ae (ae (.w (.d (.int a)))))(hT:a=b->W δ n K)(hF:¬a=b->V δ n K):aL (cT (w2 (ak i) (wC (.int b)) bX)) W V δ n K:=by
 refine dh (ar (au e (aC ?_)));show if decide (a=b)=ai then _ else _
 by_cases h:a=b
 ·rw[if_pos (decide_eq_true h)];exact hT h
 ·rw[if_neg (by simpa using h)];exact hF h
theorem tX{a b:Int}(e:δ[i]?=ae (ae (.w (.d (.int a)))))(hT:b < a->W δ n K)(hF:¬b < a->V δ n K):aL (cT (w2 (ak i) (wC (.int b)) lA)) W V δ n K:=by
 refine dh (ar (au e (aC ?_)));show if decide (b < a)=ai then _ else _
 by_cases h:b < a
 ·rw[if_pos (decide_eq_true h)];exact hT h
 ·rw[if_neg (by simpa using h)];exact hF h
end
theorem tH(hs:List Str):(hs.map Cg).all fg=ai:=by
 rw[C0];intro d hd;obtain⟨x,_,rfl⟩:=Bg.mp hd;rfl
theorem xY{δ:Sl}{n m:Int}{K:DEnds}{W:aP}{g:eM}{L:List Aa}{wl:DT}{M:Nat}(e:δ[0]?=ae (ae (.w .tp)))(hl:∀Q:DQ,Q (.d (.list L)) n->wl δ n Q)(hn:n < 2 ^ 40)(hm:m=L.length)(h0:0 < m)(h1:m < 1000)(hL:∀d∈L,∃j:Nat,j<=M/\d=.int j)(hM:M<=1000)(k:∀j:Nat,j<=M->eW g W K (bY 0 j) δ (n+1)):
  bo (dN (w2 wl (aF cq (aq (ak 0) (aq (wC (.int m)) ao))) aU)) g W δ n K:=by
 unfold bo dN;refine ar (hl _ (gx e hn h0 (by omega) λr r0 r1=>iT r0 (by omega) λd hd=>?_));obtain⟨j,hj,rfl⟩:=hL d hd;refine Ah ⟨by omega,by omega⟩ ?_;rw[Bv];exact k j hj
theorem BZ{ds:List Aa}{n:Int}{Q:DQ}(k:Q (.d (.int ds.length)) n):gc [.ln ds] n Q:=k
theorem bU{n:Int}{Q:DQ}{i:Nat}{x:Aa}{xs:List Aa}(h:xs[i]?=ae x)(k:Q (.d x) n):aB (.d (.tuple xs)) (.d (.int (i:Nat))) n Q:=by
 show(match cS xs ((i:Nat):Int)with|some d=>Q (.d d) n|none=>False);rw[fi h];exact k
theorem Mp(xs:List Aa){p:Nat}(hp:p<=xs.length):bI xs ah (ae (p:Int))=xs.take p:=by
 unfold bI;rw[HT.sIx_nat];show(xs.drop 0).take (min p xs.length-0)=_;rw[List.drop_zero,Nat.sub_zero,Nat.min_eq_left hp]
abbrev Nm:=List (Str×Aa)
inductive Fd where
 |is (v:Aa)|any|word|number|bind (x:Str)|as (x:Str)
def Fd.d:Fd->Aa
 |.is v=>.tuple [.str "is",v]
 |.any=>.tuple [.str "any"]
 |.word=>.tuple [.str "word"]
 |.number=>.tuple [.str "number"]
 |.bind x=>.tuple [.str "bind",.str x]
 |.as x=>.tuple [.str "as",.str x]
abbrev pM(x:Str):Prop:=x.length<=4/\D8 x=ai
def cD:Aa->Bool
 |.str x=>decide (x.length<=8)&&(D8 x&&decide (x="a"\/x="ab"\/x="go"))
 |.int i=>decide (0<=i)&&(decide (i<=99)&&(decide (Ee (.int i)<=20)&&(Dm 13 (.int i)&&Df (.int i))))
 |_=>aj
def Fd.ok:Fd->Prop
 |.is v=>cD v=ai
 |.bind x=>pM x
 |.as x=>pM x
 |_=>True
def fj(a b:Aa):Bool:=(je a b).getD aj
theorem m4{a b:Aa}(ha:cD a=ai)(hb:cD b=ai):je a b=ae (fj a b):=by
 cases a<;>first|cases ha|(cases b<;>first|cases hb|rfl)
theorem PK{a b:Aa}(ha:cD a=ai)(hb:cD b=ai)(h:fj a b=ai):a=b:=by
 cases a<;>first|cases ha|(cases b<;>first|cases hb|cases h|(rw[show _=_ from of_decide_eq_true h]))
theorem yI{a:Aa}(ha:cD a=ai):fg a=ai:=by cases a<;>first|cases ha|rfl
def jg:Aa->Bool
 |.str _=>ai
 |_=>aj
def jf:Aa->Bool
 |.int _=>ai
 |_=>aj
def look(ps:Nm)(x:Str):Option Aa:=(ps.find? λp=>decide (p.1=x)).map (·.2)
def put(ps:Nm)(x:Str)(v:Aa):Nm:=if (ps.any λp=>decide (p.1=x))=ai then ps.map (λp=>if p.1=x then(p.1,v)else p)else ps++[(x,v)]
theorem KZ(a b:Str):decide ((C6 a:aN)=C6 b)=decide (a=b):=by
 by_cases z:a=b
 ·rw[z,decide_eq_true rfl,decide_eq_true rfl]
 ·rw[decide_eq_false z,decide_eq_false λw=>z (Sum.inr.inj w)]
theorem jO(ps:Nm)(x:Str):cK (bx ps) (.inr x)=look ps x:=by
 induction ps with
 |nil=>rfl
 |cons p r ih=>
  by_cases e:p.1=x
  ·have a1:cK (bx (p::r)) (.inr x)=ae p.2:=by simp[cK,bx,Bh,e]
   have a2:look (p::r) x=ae p.2:=by simp[look,Bh,e]
   rw[a1,a2]
  ·have a1:cK (bx (p::r)) (.inr x)=cK (bx r) (.inr x):=by simp[cK,bx,Bh,e]
   have a2:look (p::r) x=look r x:=by simp[look,Bh,e]
   rw[a1,a2,ih]
theorem PD(ps:Nm)(x:Str):((bx ps).any λkv=>decide (kv.1=(C6 x:aN)))=(ps.any λp=>decide (p.1=x)):=by
 unfold bx;rw[List.any_map]
 congr 1
 funext p
 exact KZ _ _
theorem sG(ps:Nm)(x:Str)(v:Aa):fH (bx ps) (.inr x) v=bx (put ps x v):=by
 unfold fH put;rw[PD]
 split
 ·unfold bx;rw[Cw,Cw];apply Cs;intro p _;show(if (C6 p.1:aN)=C6 x then _ else _)=_;by_cases e:p.1=x
  ·rw[if_pos (congrArg C6 e)];show _=(C6 (if p.1=x then(p.1,v)else p).1,(if p.1=x then(p.1,v)else p).2);rw[if_pos e]
  ·rw[if_neg λz=>e (Sum.inr.inj z)];show _=(C6 (if p.1=x then(p.1,v)else p).1,(if p.1=x then(p.1,v)else p).2);rw[if_neg e]
 ·unfold bx;rw[Be];rfl
theorem lS{ps:Nm}{x:Str}{v:Aa}(h:look ps x=ae v):(x,v)∈ps:=by
 unfold look at h;cases e:ps.find? λp=>decide (p.1=x)with
 |none=>rw[e]at h;cases h
 |some p=>
  rw[e]at h;have h1:=List.find?_some e;have h2:p.1=x:=of_decide_eq_true h1;have h3:p.2=v:=A8 h;have:=List.mem_of_find?_eq_some e;rw[<-h2,<-h3];exact this
theorem tF(ps:Nm)(x:Str):(ps.any λp=>decide (p.1=x))=(look ps x).isSome:=by
 induction ps with
 |nil=>rfl
 |cons p r ih=>
  by_cases e:p.1=x
  ·have a2:look (p::r) x=ae p.2:=by simp[look,Bh,e]
   rw[a2,Cu,decide_eq_true e];rfl
  ·have a2:look (p::r) x=look r x:=by simp[look,Bh,e]
   rw[a2,Cu,decide_eq_false e,Bool.false_or,ih]
theorem CP(ps:Nm)(x:Str)(v:Aa):(put ps x v).map (·.1)=if (ps.any λp=>decide (p.1=x))=ai then ps.map (·.1)else ps.map (·.1)++[x]:=by
 unfold put
 split
 ·rw[Cw];apply Cs;intro p _;show(if p.1=x then(p.1,v)else p).1=p.1
  split<;>rfl
 ·rw[Be];rfl
theorem wH{ps:Nm}{x:Str}{v:Aa}(h:(ps.map (·.1)).Nodup):((put ps x v).map (·.1)).Nodup:=by
 rw[CP]
 split
 ·exact h
 ·rename_i e;rw[List.nodup_append];refine⟨h,by simp,λa ha b hb z=>?_⟩;have hb:b=x:=by simpa using hb
  obtain⟨p,hp,rfl⟩:=Bg.mp ha;exact e (Dp.mpr ⟨p,hp,decide_eq_true (z.trans hb)⟩)
theorem sT(ps:Nm)(x:Str)(v:Aa):(put ps x v).length<=ps.length+1:=by
 unfold put
 split
 ·rw[Ab];omega
 ·rw[Af];exact Ao _
def gF(p:Str×Aa):Prop:=pM p.1/\cD p.2=ai
theorem pW{ps:Nm}{x:Str}{v:Aa}(h:∀p∈ps,gF p)(hx:pM x)(hv:cD v=ai):∀p∈put ps x v,gF p:=by
 intro p hp;unfold put at hp
 split at hp
 ·obtain⟨q,hq,rfl⟩:=Bg.mp hp
  split
  ·exact⟨(h q hq).1,hv⟩
  ·exact h q hq
 ·rcases Bb.mp hp with hp|hp
  ·exact h p hp
  ·have:p=(x,v):=by simpa using hp
   subst this;exact⟨hx,hv⟩
theorem SG{ps:Nm}{x:Str}{v:Aa}(nd:(ps.map (·.1)).Nodup)(h:look ps x=ae v):put ps x v=ps:=by
 unfold put;rw[tF,h,if_pos (show(ae v).isSome=ai from rfl)];have hm:=lS h;have:ps.map (λp=>if p.1=x then(p.1,v)else p)=ps.map id:=by
  apply Cs;intro p hp
  split
  ·rename_i e;have:p=(x,v):=by
    obtain⟨i,hi⟩:=Ca.mp hp;obtain⟨j,hj⟩:=Ca.mp hm;have a1:(ps.map (·.1))[i]?=ae x:=by rw[A1,hi];exact congrArg ae e
    have a2:(ps.map (·.1))[j]?=ae x:=by rw[A1,hj];rfl
    obtain⟨b1,b2⟩:=Au.mp a1;obtain⟨c1,c2⟩:=Au.mp a2;have:=(Eu nd).mp (b2.trans c2.symm);rw[this,hj]at hi;exact(A8 hi).symm
   rw[this];rfl
  ·rfl
 rw[this,List.map_id]
theorem CU(ps:Nm)(x:Str)(v:Aa):look (put ps x v) x=ae v:=by
 unfold put;rw[tF]
 split
 ·rename_i e
  induction ps with
  |nil=>cases e
  |cons p r ih=>
   by_cases z:p.1=x
   ·simp[look,Bh,z]
   ·have a2:look (p::r) x=look r x:=by simp[look,Bh,z]
    rw[a2]at e;rw[Bi,if_neg z];have a3:look (p::r.map λp=>if p.1=x then(p.1,v)else p) x=look (r.map λp=>if p.1=x then(p.1,v)else p) x:=by simp[look,Bh,z]
    rw[a3];exact ih e
 ·rename_i e;have:look ps x=ah:=by cases q:look ps x with|none=>rfl|some _=>rw[q]at e;exact absurd rfl e
  unfold look at this ⊢;rw[List.find?_append];cases q:ps.find? λp=>decide (p.1=x)with
  |some p=>rw[q]at this;cases this
  |none=>simp
theorem GN{ps:Nm}{x y:Str}{v:Aa}(h:y≠x):look (put ps x v) y=look ps y:=by
 unfold put
 split
 ·induction ps with
  |nil=>rfl
  |cons p r ih=>
   rw[Bi];have key:look (r.map λp=>if p.1=x then(p.1,v)else p) y=look r y:=by
    rename_i e;by_cases q:(r.any λp=>decide (p.1=x))=ai
    ·exact ih q
    ·have:r.map (λp=>if p.1=x then(p.1,v)else p)=r.map id:=by
      apply Cs;intro p hp;rw[if_neg λz=>q (Dp.mpr ⟨p,hp,decide_eq_true z⟩)];rfl
     rw[this,List.map_id]
   by_cases z:p.1=x
   ·rw[if_pos z];have n1:¬p.1=y:=λw=>h (w.symm.trans z);have a1:look ((p.1,v)::r.map λp=>if p.1=x then(p.1,v)else p) y=look (r.map λp=>if p.1=x then(p.1,v)else p) y:=by simp[look,Bh,n1]
    have a2:look (p::r) y=look r y:=by simp[look,Bh,n1]
    rw[a1,a2,key]
   ·rw[if_neg z];by_cases w:p.1=y
    ·simp[look,Bh,w]
    ·have a1:look (p::r.map λp=>if p.1=x then(p.1,v)else p) y=look (r.map λp=>if p.1=x then(p.1,v)else p) y:=by simp[look,Bh,w]
     have a2:look (p::r) y=look r y:=by simp[look,Bh,w]
     rw[a1,a2,key]
 ·unfold look;rw[List.find?_append];have:[(x,v)].find? (λp=>decide (p.1=y))=ah:=by simp[λz=>h (Eq.symm z),Ne.symm h]
  rw[this,Option.or_none]
def ie(f:Fd)(v:Aa)(h bs:Nm):Bool:=match f with
 |.is w=>fj w v
 |.any=>ai
 |.word=>jg v
 |.number=>jf v
 |.as x=>match look h x with
  |some w=>fj w v
  |none=>aj
 |.bind x=>match look bs x with
  |some w=>fj w v
  |none=>ai
def wk:List (Fd×Aa)->Nm->List Str->Option Nm
 |[],h,_=>ae h
 | (.is w,v)::r,h,hs=>if fj w v=ai then wk r h hs else ah
 | (.any,_)::r,h,hs=>wk r h hs
 | (.word,v)::r,h,hs=>if jg v=ai then wk r h hs else ah
 | (.number,v)::r,h,hs=>if jf v=ai then wk r h hs else ah
 | (.as x,v)::r,h,hs=>match look h x with
  |some w=>if fj w v=ai then wk r h hs else ah
  |none=>ah
 | (.bind x,v)::r,h,hs=>if x∈hs then(match look h x with
   |some w=>if fj w v=ai then wk r h hs else ah
   |none=>ah)else wk r (put h x v) (hs++[x])
def jR(p:Str×Aa):Aa:=.tuple [.str p.1,p.2]
def cG(ps:Nm):Aa:=.tuple (ps.map jR)
def dw(fs:List Fd):Aa:=.tuple (fs.map Fd.d)
def okN(ps:Nm):Prop:=ps.length<=40/\(ps.map (·.1)).Nodup/\∀p∈ps,gF p
def nY(fs:List Fd):Prop:=1<=fs.length/\fs.length<=4/\∀f∈fs,f.ok
def su(row:List Aa):Prop:=(row.length<=4/\1<=row.length)/\∀d∈row,cD d=ai
theorem BA(x y:Str)(h1:¬x.cps.toList < y.cps.toList)(h2:¬y.cps.toList < x.cps.toList):x=y:=by
 have:x.cps.toList=y.cps.toList:=List.le_antisymm (Ea.mp h2) (Ea.mp h1);have e:=Array.toList_inj.mp this;cases x;cases y;simp only at e;rw[e]
theorem TZ{h a b:Nm}(nd:(h.map (·.1)).Nodup)(ha:a.Perm h)(hb:b.Perm h)(ra:kg a)(rb:kg b):a=b:=by
 refine List.Perm.eq_of_pairwise (λx y hx hy l1 l2=>?_) ra rb (ha.trans hb.symm);have e:x.1=y.1:=BA _ _ l2 l1;have hx':=ha.mem_iff.mp hx;have hy':=hb.mem_iff.mp hy;obtain⟨i,hi⟩:=Ca.mp hx';obtain⟨j,hj⟩:=Ca.mp hy';have a1:(h.map (·.1))[i]?=ae x.1:=by rw[A1,hi];rfl
 have a2:(h.map (·.1))[j]?=ae x.1:=by rw[A1,hj,e];rfl
 obtain⟨b1,b2⟩:=Au.mp a1;obtain⟨c1,c2⟩:=Au.mp a2;have:=(Eu nd).mp (b2.trans c2.symm);rw[this,hj]at hi;exact(A8 hi).symm
theorem kz:∀(l:List (Fd×Aa))(h:Nm)(hs:List Str)(k:Nm),(h.map (·.1)).Nodup->wk l h hs=ae k->(k.map (·.1)).Nodup
 |[],h,hs,k,nd,e=>by cases e;exact nd
 | (.is w,v)::r,h,hs,k,nd,e=>by unfold wk at e;split at e;exact kz r h hs k nd e;cases e
 | (.any,v)::r,h,hs,k,nd,e=>by unfold wk at e;exact kz r h hs k nd e
 | (.word,v)::r,h,hs,k,nd,e=>by unfold wk at e;split at e;exact kz r h hs k nd e;cases e
 | (.number,v)::r,h,hs,k,nd,e=>by unfold wk at e;split at e;exact kz r h hs k nd e;cases e
 | (.as x,v)::r,h,hs,k,nd,e=>by
  unfold wk at e
  split at e
  ·split at e
   ·exact kz r h hs k nd e
   ·cases e
  ·cases e
 | (.bind x,v)::r,h,hs,k,nd,e=>by
  unfold wk at e
  split at e
  ·split at e
   ·split at e
    ·exact kz r h hs k nd e
    ·cases e
   ·cases e
  ·exact kz r _ _ k (wH nd) e
def vY(a b:Str×Aa):Bool:=decide (¬b.1.cps.toList < a.1.cps.toList)
def c7(h:Nm):Nm:=h.mergeSort vY
theorem AK(h:Nm):(c7 h).Perm h:=List.mergeSort_perm h vY
theorem DV(h:Nm):kg (c7 h):=by
 have:=List.pairwise_mergeSort (le:=vY) (λa b c x y=>decide_eq_true (Ea.mpr (List.le_trans (Ea.mp (of_decide_eq_true x)) (Ea.mp (of_decide_eq_true y))))) (λa b=>?_) h
 ·exact List.Pairwise.imp (λx=>of_decide_eq_true x) this
 ·rw[Bool.or_eq_true];rcases List.le_total a.1.cps.toList b.1.cps.toList with z|z
  ·exact .inl (decide_eq_true (Ea.mpr z))
  ·exact .inr (decide_eq_true (Ea.mpr z))
theorem zf{h h':Nm}(nd:(h.map (·.1)).Nodup)(p:h'.Perm h)(r:kg h'):h'=c7 h:=TZ nd p (AK h) r (DV h)
def dD(fs:List Fd)(row:List Aa)(nm:Nm):Nm:=(wk (fs.zip row) nm []).getD []
def cY(fs:List Fd)(row:List Aa)(nm:Nm):Bool:=decide (fs.length=row.length)&&(wk (fs.zip row) nm []).isSome
def gy(fs:List Fd)(row:List Aa)(nm:Nm):Aa:=if cY fs row nm=ai then cG (c7 (dD fs row nm))else .none
def pB(fs:List Fd)(row:List Aa)(ps:Nm)(r:Aa):Prop:=
 if fs.length=row.length then match wk (fs.zip row) ps []with
  |none=>r=.none
  |some h=>r=cG (c7 h)
 else r=.none
theorem MM{fs:List Fd}{row:List Aa}{ps:Nm}{r:Aa}(h:pB fs row ps r):r=gy fs row ps:=by
 unfold pB at h;unfold gy cY dD;by_cases e:fs.length=row.length
 ·rw[if_pos e]at h;rw[decide_eq_true e,E8];cases q:wk (fs.zip row) ps []with
  |none=>rw[q]at h;rw[if_neg (by rw[Option.isSome_none];exact Ae)];exact h
  |some x=>rw[q]at h;rw[if_pos (show(ae x).isSome=ai from rfl)];exact h
 ·rw[if_neg e]at h;rw[decide_eq_false e,if_neg (by rw[Fo];exact Ae)];exact h
def jt:bu:=λws n Q=>∃(f:Fd)(v:Aa)(hp bp:Nm),ws=[.d f.d,.d v,.dk (bx hp),.dk (bx bp)]/\f.ok/\cD v=ai/\(∀p∈hp,gF p)/\(∀p∈bp,gF p)/\Q (.d (.bool (ie f v hp bp))) n
def n9:bu:=λws n Q=>∃(fs:List Fd)(row:List Aa)(nm:Nm),ws=[.d (dw fs),.d (.tuple row),.d (cG nm)]/\nY fs/\su row/\okN nm/\Q (.d (gy fs row nm)) n
def dX(ys:List Str):Aa:=.tuple (ys.map .str)
def tI:List Aa:=[.str "a",.int 0,.int 1,.str "ab",.str "go",.int 99]
inductive Fe where
 |any|word|num|isv (d:Aa)|bind (k:Str)|as (k:Str)|nx (k:Str)
def Fe.hd:Fe->Str
 |.any=>"any"
 |.word=>"word"
 |.num=>"number"
 |.isv _=>"is"
 |.bind _=>"bind"
 |.as _=>"as"
 |.nx _=>"next"
def Fe.tl:Fe->List Aa
 |.any=>[]
 |.word=>[]
 |.num=>[]
 |.isv d=>[d]
 |.bind k=>[.str k]
 |.as k=>[.str k]
 |.nx k=>[.str k]
def Fe.d(f:Fe):Aa:=.tuple (.str f.hd::f.tl)
abbrev ia(k:Str):Prop:=pM k
def Fe.ok:Fe->Prop
 |.isv d=>cD d=ai
 |.bind k=>ia k
 |.as k=>ia k
 |.nx k=>ia k
 |_=>True
def Fe.bd:Fe->Option Str
 |.bind k=>ae k
 |_=>ah
def Fe.us:Fe->Option Str
 |.as k=>ae k
 |.nx k=>ae k
 |_=>ah
def bL(fs:List Fe):List Str:=fs.filterMap Fe.bd
def Fe.pt:Fe->Bool
 |.nx _=>aj
 |_=>ai
def Fe.tm:Fe->Bool
 |.isv _=>ai
 |.as _=>ai
 |.nx _=>ai
 |_=>aj
def Fe.te:Fe->Bool
 |.isv _=>ai
 |.as _=>ai
 |_=>aj
def fF(fs:List Fe):Prop:=fs.length<=4/\∀f∈fs,f.ok
def rF:List Str->List Fe->Prop
 |_,[]=>True
 |ks,f::r=>(∀k,f.us=ae k->k∈ks)/\rF (ks++f.bd.toList) r
inductive Ac where
 |lay (fs:List Fe) (age:Aa)|take (fs:List Fe)|read (fs:List Fe)|look (fs:List Fe) (b:Nat)|same (f g:Fe) (b:Nat)|go (b:Nat)
def eG(fs:List Fe):Aa:=.tuple (fs.map Fe.d)
def Ac.d:Ac->Aa
 |.lay fs age=>.tuple [.str "lay",eG fs,age]
 |.take fs=>.tuple [.str "take",eG fs]
 |.read fs=>.tuple [.str "read",eG fs]
 |.look fs b=>.tuple [.str "look",eG fs,.int b]
 |.same f g b=>.tuple [.str "same",f.d,g.d,.int b]
 |.go b=>.tuple [.str "go",.int b]
def Ac.bs:Ac->List Str
 |.take fs=>bL fs
 |.read fs=>bL fs
 |.look fs _=>bL fs
 |_=>[]
def Ac.fs:Ac->List Fe
 |.lay fs _=>fs
 |.take fs=>fs
 |.read fs=>fs
 |.look fs _=>fs
 |.same f g _=>[f,g]
 |.go _=>[]
def Ac.to:Ac->Option Nat
 |.look _ b=>ae b
 |.same _ _ b=>ae b
 |.go b=>ae b
 |_=>ah
def Ac.right(wants:List (List Str))(ks:List Str)(a:Ac):Prop:=rF ks a.fs/\∀b,a.to=ae b->∃w,wants[b]?=ae w/\∀k∈w,k∈ks
def f9(d:Aa):Prop:=d=.none\/∃i:Int,d=.int i/\1<=i/\i<=20
def gW(fs:List Fe):Prop:=1<=fs.length/\∀f∈fs,f.pt=ai
def Ac.pat:Ac->Prop
 |.take fs=>gW fs
 |.read fs=>gW fs
 |.look fs _=>gW fs
 |.lay fs age=>(∀f∈fs,f.tm=ai)/\f9 age/\1<=fs.length
 |.same f g _=>f.te=ai/\g.te=ai
 |.go _=>True
def lT(a:Ac):Prop:=fF a.fs/\a.pat
abbrev Bl:=List Str×List Ac
def kE(b:Bl):Aa:=.tuple [dX b.1,.tuple (b.2.map Ac.d)]
def eI(bs:List Bl):Aa:=.tuple (bs.map kE)
def kn(w:List Str)(as:List Ac)(p:Nat):List Str:=w++(as.take p).flatMap Ac.bs
def m5(b:Bl):Prop:=b.1.length<=4/\(∀k∈b.1,ia k)/\b.2.length<=8/\(∀a∈b.2,lT a)/\b.1.Nodup/\lp b.1
def mq(wants:List (List Str))(b:Bl):Prop:=∀(p:Nat)(a:Ac),b.2[p]?=ae a->a.right wants (kn b.1 b.2 p)
def jT:bu:=λws n Q=>ws=[.tp]/\n < 2 ^ 39/\∀v∈tI,Q (.d v) (n+1)
def ll:bu:=λws n Q=>ws=[.tp]/\n < 2 ^ 39/\∀m:Nat,1<=m->m<=4->Q (.d (.int m)) (n+1)
def rX:bu:=λws n Q=>∃ks:List Str,ws=[.tp,.ln (ks.map .str)]/\ks.length<=1000/\(∀k∈ks,ia k)/\n+9 < 2 ^ 39/\∀(fs:List Fe)(n':Int),1<=fs.length->fF fs->(∀f∈fs,f.tm=ai)->rF ks fs->n'<=n+9->Q (.d (eG fs)) n'
def nZ:bu:=λws n Q=>∃ks:List Str,ws=[.tp,.ln (ks.map .str)]/\ks.length<=1000/\(∀k∈ks,ia k)/\n+2 < 2 ^ 39/\∀(f:Fe)(n':Int),f.ok->f.te=ai->(∀k,f.us=ae k->k∈ks)->n'<=n+2->Q (.d f.d) n'
def mI:bu:=λws n Q=>∃(ks:List Str)(os:List Nat)(wants:List (List Str)),ws=[.tp,.ln (ks.map .str),.d (.list (os.map λb=>.int (b:Nat)))]/\ks.length<=1000/\(∀k∈ks,ia k)/\0 < os.length/\os.length<=1000 /\
 (∀b∈os,∃w,wants[b]?=ae w/\∀k∈w,k∈ks)/\n+11 < 2 ^ 39/\∀(a:Ac)(n':Int),lT a->a.right wants ks->n'<=n+11->Q (.d (.tuple [a.d,.list (a.bs.map .str)])) n'
def rD(bs:List Bl):Prop:=1<=bs.length/\bs.length<=6/\∀b∈bs,m5 b/\mq (bs.map (·.1)) b
def rE:bu:=λws n Q=>∃(ks:List Str)(v:Wv),ws=[.tp,v]/\fq v=ae (ks.map .str)/\ks.length<=1000/\(∀k∈ks,ia k)/\n+9 < 2 ^ 39/\∀(fs:List Fe)(n':Int),1<=fs.length->fF fs->(∀f∈fs,f.pt=ai)->rF ks fs->n'<=n+9->Q (.d (.tuple [eG fs,.list ((bL fs).map .str)])) n'
def js(bs:List Bl):Prop:=∃w,bs.map (·.1)=[]::w
def tQ:bu:=λws n Q=>ws=[.tp]/\n+600 < 2 ^ 39/\∀(bs:List Bl)(n':Int),rD bs->js bs->n'<=n+600->Q (.d (eI bs)) n'
abbrev Hn:=Nat×Nat×Nm
def bP(h:Hn):Aa:=.tuple [.int h.1,.int h.2.1,cG h.2.2]
abbrev Nt:=List Aa×Aa
def cR(q:Nt):Aa:=.tuple [.tuple q.1,q.2]
def bN(ns:List Nt):Aa:=.tuple (ns.map cR)
def bM(hs:List Hn)(ns:List Nt):Aa:=.tuple [.tuple (hs.map bP),bN ns]
abbrev Pg:=List (List Bl)
def aY(ps:Pg):Aa:=.tuple (ps.map eI)
def cz(ps:Pg):Prop:=ps.length<=5/\∀P∈ps,rD P
def kD(q:Nt):Prop:=su q.1/\f9 q.2
def dF(m:Nat)(ns:List Nt):Prop:=ns.length<=m/\∀q∈ns,kD q
structure okHn(b:Bl)(h:Hn):Prop where
 pl:h.2.1<=b.2.length
 nd:(h.2.2.map (·.1)).Nodup
 ok:∀p∈h.2.2,gF p
 up:kg h.2.2
 mem:∀k,k∈h.2.2.map (·.1)↔k∈kn b.1 b.2 h.2.1
 ln:h.2.2.length<=40
theorem okHn.n{b:Bl}{h:Hn}(H:okHn b h):okN h.2.2:=⟨H.ln,H.nd,H.ok⟩
def okHs(ps:Pg)(hs:List Hn):Prop:=hs.length=ps.length/\∀(i:Nat)(P:List Bl),ps[i]?=ae P->∃(h:Hn)(b:Bl),hs[i]?=ae h/\P[h.1]?=ae b/\okHn b h
def bK(ps:Pg)(hs:List Hn)(h:Nat):Option Ac:=ps[h]?.bind λP=>hs[h]?.bind λx=>P[x.1]?.bind λb=>b.2[x.2.1]?
def vm:Option Ac->Aa
 |none=>.none
 |some a=>a.d
def Fe.fd:Fe->Fd
 |.any=>.any
 |.word=>.word
 |.num=>.number
 |.isv d=>.is d
 |.bind k=>.bind k
 |.as k=>.as k
 |.nx _=>.any
def Ac.pf:Ac->Option (List Fd)
 |.take fs=>ae (fs.map Fe.fd)
 |.read fs=>ae (fs.map Fe.fd)
 |.look fs _=>ae (fs.map Fe.fd)
 |_=>ah
def Ac.wt:Ac->Bool
 |.take _=>ai
 |.read _=>ai
 |_=>aj
def bh(fs:List Fd)(nm:Nm)(ns:List Nt):Option Nat:=ns.findIdx? λq=>cY fs q.1 nm
def iu(hs:List Hn)(h:Nat):Nm:=(hs[h]?.map (·.2.2)).getD []
def bc(ps:Pg)(hs:List Hn)(ns:List Nt)(h:Nat):Option Nat:=(bK ps hs h).bind λa=>a.pf.bind λfs=>bh fs (iu hs h) ns
def d9(ps:Pg)(hs:List Hn)(ns:List Nt)(h:Nat):Bool:=((bK ps hs h).map λa=>!a.wt || (bc ps hs ns h).isSome).getD aj
def fP:Option Nat->Aa
 |none=>.none
 |some i=>.int i
def ck(ns:List Nt)(i:Nat):List Aa:=(ns[i]?.map (·.1)).getD []
def du(ps:Pg)(hs:List Hn)(ns:List Nt)(h:Nat):Option (Nat×Nm):=(bK ps hs h).bind λa=>a.pf.bind λfs=>(bh fs (iu hs h) ns).map λi=>(i,dD fs (ck ns i) (iu hs h))
def gj:Option (Nat×Nm)->Wv
 |none=>.d .none
 |some (i,h)=>.ob (.q (.int i) (bx h))
def eF(fs:List Fd)(row:List Aa)(nm:Nm):Wv:=if cY fs row nm=ai then .ob (.k (bx (dD fs row nm)))else .d .none
def d4(ps:Pg)(hs:List Hn)(ns:List Nt):Prop:=cz ps/\okHs ps hs/\dF 100 ns
def kY:Aa->Aa
 |.int i=>if i=99 then .int 0 else .int (i+1)
 |d=>d
def gE(nm:Nm)(k:Str):Aa:=(look nm k).getD .none
def d8(nm:Nm):Fe->Aa
 |.isv d=>d
 |.as k=>gE nm k
 |.nx k=>kY (gE nm k)
 |_=>.none
def cw(fs:List Fe)(nm:Nm):List Aa:=fs.map (d8 nm)
def lN(P:List Bl)(b:Nat):List Str:=(P[b]?.map (·.1)).getD []
def bR(P:List Bl)(b:Nat)(nm:Nm):Hn:=(b,0,nm.filter λp=>decide (p.1∈lN P b))
def cM(x:Hn)(nm:Nm):Hn:=(x.1,x.2.1+1,nm)
def bq(hs:List Hn)(h:Nat)(x:Hn):List Hn:=hs.take h++x::hs.drop (h+1)
def jo:Aa->Aa
 |.int i=>.int (i-1)
 |d=>d
def cV:Aa->Bool
 |.int i=>decide (i=1)
 |_=>aj
def dQ(ns:List Nt):List Nt:=(ns.filter λq=>!cV q.2).map λq=>(q.1,jo q.2)
def cZ(ns:List Nt)(i:Nat):List Nt:=ns.take i++ns.drop (i+1)
def bS(fs:List Fe)(x:Hn)(ns:List Nt):Option (Nat×Hn):=(bh (fs.map Fe.fd) x.2.2 ns).map λi=>(i,cM x (c7 (dD (fs.map Fe.fd) (ck ns i) x.2.2)))
def nU(P:List Bl)(x:Hn)(ns:List Nt):Ac->Option (Hn×List Nt)
 |.lay fs age=>ae (cM x x.2.2,ns++[(cw fs x.2.2,age)])
 |.go b=>ae (bR P b x.2.2,ns)
 |.same f g b=>ae (if fj (d8 x.2.2 f) (d8 x.2.2 g)=ai then cM x x.2.2 else bR P b x.2.2,ns)
 |.take fs=>(bS fs x ns).map λq=>(q.2,cZ ns q.1)
 |.read fs=>(bS fs x ns).map λq=>(q.2,ns)
 |.look fs b=>match bS fs x ns with
  |some q=>ae (q.2,ns)
  |none=>ae (bR P b x.2.2,ns)
def fJ(ps:Pg)(hs:List Hn)(ns:List Nt)(h:Nat):Option (List Hn×List Nt):=ps[h]?.bind λP=>hs[h]?.bind λx=>(bK ps hs h).bind λa=>(nU P x ns a).map λr=>(bq hs h r.1,r.2)
def cx(ps:Pg)(hs:List Hn)(ns:List Nt)(m:Nat):Option (List Hn×List Nt):=if m=ps.length then ae (hs,dQ ns)else fJ ps hs ns m
def iL:Option (List Hn×List Nt)->Aa
 |none=>.none
 |some r=>bM r.1 r.2
def e9(nm:Nm)(f:Fe):Prop:=f.ok/\f.tm=ai/\∀k,f.us=ae k->∃v,look nm k=ae v/\cD v=ai
def wA:Aa->Bool
 |.int _=>ai
 |_=>aj
def mD(b:Aa)(m:Int):Bool:=match b with
 |.int i=>decide (0<=i)&&decide (i<=m)
 |_=>aj
def jB(ps:Pg)(b:Aa):Option Nat:=match b with
 |.int i=>if 0<=i/\i<=(ps.length:Int)then ae i.toNat else ah
 |_=>ah
def hU(ps:Pg)(hs:List Hn)(ns:List Nt)(b:Aa):Option (List Hn×List Nt):=(jB ps b).bind (cx ps hs ns)
def qC:bu:=λws n Q=>∃b,ws=[.d b]/\Q (.d (.bool (wA b))) n
def qW:bu:=λws n Q=>∃(b:Aa)(m:Int),ws=[.d b,.d (.int m)]/\Q (.d (.bool (mD b m))) n
def sI:bu:=λws n Q=>∃v,ws=[.d v]/\cD v=ai/\Q (.d (kY v)) n
def nq:bu:=λws n Q=>∃(f:Fe)(nm:Nm),ws=[.d f.d,.dk (bx nm)]/\e9 nm f/\Q (.d (d8 nm f)) n
def rY:bu:=λws n Q=>∃(fs:List Fe)(nm:Nm),ws=[.d (eG fs),.d (cG nm)]/\fs.length<=4/\(∀f∈fs,e9 nm f)/\okN nm/\Q (.d (.tuple (cw fs nm))) n
def ot:bu:=λws n Q=>∃(fs:List Fe)(nm:Nm),ws=[.d (eG fs),.dk (bx nm)]/\fs.length<=4/\(∀f∈fs,e9 nm f)/\Q (.d (.tuple (cw fs nm))) n
def n6:bu:=λws n Q=>∃(f:Fe)(nm:Nm),ws=[.d f.d,.d (cG nm)]/\e9 nm f/\f.te=ai/\okN nm/\Q (.d (d8 nm f)) n
def sD:bu:=λws n Q=>∃(f g:Fe)(b:Nat)(nm:Nm),ws=[.d (Ac.same f g b).d,.d (cG nm)]/\e9 nm f/\e9 nm g/\f.te=ai/\g.te=ai/\okN nm/\Q (.d (.bool (fj (d8 nm f) (d8 nm g)))) n
def lE:bu:=λws n Q=>∃(x:Hn)(nm:Nm),ws=[.d (bP x),.d (cG nm)]/\Q (.d (bP (cM x nm))) n
def m8:bu:=λws n Q=>∃(P:List Bl)(b:Nat)(nm:Nm)(w:Bl),ws=[.d (eI P),.d (.int b),.d (cG nm)]/\P[b]?=ae w/\w.1.length<=4/\Q (.d (bP (bR P b nm))) n
def kJ:bu:=λws n Q=>∃(P:List Bl)(b:Nat)(nm:Nm)(w:Bl),ws=[.d (eI P),.d (cG nm),.d (.int b)]/\P[b]?=ae w/\w.1.length<=4/\okN nm/\kg nm/\w.1.Nodup/\lp w.1/\(∀k∈w.1,k∈nm.map (·.1))/\Q (.d (bP (bR P b nm))) n
def jI:bu:=λws n Q=>∃(hs:List Hn)(h:Nat)(x:Hn),ws=[.d (.tuple (hs.map bP)),.d (.int h),.d (bP x)]/\h < hs.length/\hs.length<=5/\Q (.d (.tuple ((bq hs h x).map bP))) n
def ni:bu:=λws n Q=>∃(ps:Pg)(hs:List Hn)(ns:List Nt)(h:Nat)(a:Ac),ws=[.d (aY ps),.d (bM hs ns),.d (.int h),.d a.d]/\d4 ps hs ns/\h < ps.length/\bK ps hs h=ae a/\a.pf.isSome=ai/\Q (.d (iL (fJ ps hs ns h))) n
def qr:bu:=λws n Q=>∃(ps:Pg)(hs:List Hn)(ns:List Nt)(h:Nat),ws=[.d (aY ps),.d (bM hs ns),.d (.int h)]/\d4 ps hs ns/\h < ps.length/\Q (.d (iL (fJ ps hs ns h))) n
def sq:bu:=λws n Q=>∃q:Nt,ws=[.d (cR q)]/\f9 q.2/\Q (.d (cR (q.1,jo q.2))) n
def rg:bu:=λws n Q=>∃(hs:List Hn)(ns:List Nt),ws=[.d (bM hs ns)]/\(∀q∈ns,f9 q.2)/\Q (.d (bM hs (dQ ns))) n
def qo:bu:=λws n Q=>∃(ps:Pg)(hs:List Hn)(ns:List Nt)(b:Aa),ws=[.d (aY ps),.d (bM hs ns),.d b]/\d4 ps hs ns/\Q (.d (iL (hU ps hs ns b))) n
def CO:bu:=λws n Q=>∃(ps:Pg)(hs:List Hn)(ns:List Nt)(m:Nat)(r:List Hn×List Nt),ws=[.d (aY ps),.d (bM hs ns),.d (.int m)]/\d4 ps hs ns/\m<=ps.length/\cx ps hs ns m=ae r/\Q (.d (bM r.1 r.2)) n
def jS:bu:=CO
def h9:bu:=λws n Q=>∃(ps:Pg)(hs:List Hn)(ns:List Nt)(h:Nat),ws=[.d (aY ps),.d (bM hs ns),.d (.int h)]/\okHs ps hs/\h < ps.length/\Q (.d (vm (bK ps hs h))) n
def lQ:bu:=λws n Q=>∃(ps:Pg)(hs:List Hn)(ns:List Nt)(h:Nat),ws=[.d (aY ps),.d (bM hs ns),.d (.int h)]/\d4 ps hs ns/\h < ps.length/\Q (.d (fP (bc ps hs ns h))) n
def lX:bu:=λws n Q=>∃(ps:Pg)(hs:List Hn)(ns:List Nt)(h:Nat),ws=[.d (aY ps),.d (bM hs ns),.d (.int h)]/\d4 ps hs ns/\h < ps.length/\Q (gj (du ps hs ns h)) n
def ki:bu:=λws n Q=>∃(ps:Pg)(hs:List Hn)(ns:List Nt)(h:Nat),ws=[.d (aY ps),.d (bM hs ns),.d (.int h)]/\d4 ps hs ns/\h < ps.length/\Q (.d (.bool (d9 ps hs ns h))) n
def qU:bu:=λws n Q=>∃(fs:List Fd)(row:List Aa)(nm:Nm),ws=[.d (dw fs),.d (.tuple row),.d (cG nm)]/\nY fs/\su row/\okN nm/\Q (eF fs row nm) n
def mZ:bu:=λws n Q=>ws=[.tp]/\n < 2 ^ 39/\∀v∈j4,Q (.d v) (n+1)
def pL:bu:=λws n Q=>∃m:Nat,ws=[.tp,.d (.int m)]/\m<=12/\n+100 < 2 ^ 39/\∀(ns:List Nt)(n':Int),dF m ns->n'<=n+100->Q (.d (bN ns)) n'
def pG:bu:=λws n Q=>ws=[.tp]/\n+4200 < 2 ^ 39/\∀(ps:Pg)(ns:List Nt)(n':Int),cz ps->(∀P∈ps,js P)->dF 12 ns->n'<=n+4200->Q (.d (.tuple [aY ps,bN ns])) n'
def gn(ps:Pg)(hs:List Hn)(ns:List Nt):List Aa:=((Ba ps.length).filter (d9 ps hs ns)).map λh=>.int (h:Nat)
abbrev Sd:=List Hn×List Nt
def cI(s:Sd):Aa:=bM s.1 s.2
inductive Wov(ps:Pg):Sd->List Nat->Sd->Prop
 |nil {s:Sd}:Wov ps s [] s
 |cons {s t u:Sd} {m:Nat} {L:List Nat}:m<=ps.length->cx ps s.1 s.2 m=ae t->Wov ps t L u->Wov ps s (m::L) u
def aG(L:List Nat):List Aa:=L.map λi=>.int (i:Nat)
def rf:eZ:=λws n Q=>∃(ps:Pg)(hs:List Hn)(ns:List Nt),ws=[.d (aY ps),.d (bM hs ns)]/\d4 ps hs ns/\Q (gn ps hs ns++[.int ps.length]) n
structure Wlk(ps:Pg)(s0:Sd)(L:List Nat)(S:List Sd):Prop where
 len:S.length=L.length+1
 fst:S[0]?=ae s0
 ok:∀i s,S[i]?=ae s->okHs ps s.1/\dF (12+i) s.2
 st:∀i m,L[i]?=ae m->m<=ps.length/\∃s t,S[i]?=ae s/\S[i+1]?=ae t/\cx ps s.1 s.2 m=ae t
def nc:bu:=λws n Q=>∃(ps:Pg)(s:Sd)(mo:Nat),ws=[.tp,.d (aY ps),.d (cI s),.d (.int mo)]/\mo<=16/\cz ps/\okHs ps s.1/\dF 12 s.2/\n+62 < 2 ^ 39/\∀(L:List Nat)(S:List Sd)(n':Int),Wlk ps s L S->L.length<=16->n'<=n+62->Q (.d (.tuple [.list (aG L),.list (S.map cI)])) n'
def eL(ps:Pg):List Hn:=ps.map λ_=>(0,0,[])
def kl:bu:=λws n Q=>∃(ps:Pg)(ns:List Nt),ws=[.d (.tuple [aY ps,bN ns])]/\ps.length<=5/\Q (.d (bM (eL ps) ns)) n
def eQ(nu:List Nat)(ns:List Nt):List Nat:=((nu.zip ns).filter λp=>cV p.2.2).map (·.1)
def fI(nu:List Nat)(g:Option Nat):Option Nat:=g.bind (nu[·]?)
def dg(nu:List Nat)(g:Option Nat):Aa:=fP (fI nu g)
def jL(ps:Pg)(s:Sd)(nu:List Nat)(fr m:Nat):Ac->Aa×List Nat×Nat
 |.lay fs age=>(.tuple [.str "lays",.int m,.int fr,cR (cw fs (iu s.1 m),age)],nu++[fr],fr+1)
 |.take _=>(.tuple [.str "takes",.int m,dg nu (bc ps s.1 s.2 m)],nu.filter (λx=>!decide (ae x=fI nu (bc ps s.1 s.2 m))),fr)
 |.read _=>(.tuple [.str "reads",.int m,dg nu (bc ps s.1 s.2 m)],nu,fr)
 |.look _ _=>(.tuple [.str "looks",.int m,dg nu (bc ps s.1 s.2 m)],nu,fr)
 |.same _ _ _=>(.tuple [.str "goes",.int m],nu,fr)
 |.go _=>(.tuple [.str "goes",.int m],nu,fr)
def aI(ps:Pg)(s:Sd)(nu:List Nat)(fr m:Nat):Aa×List Nat×Nat:=
 if m=ps.length then(.tuple [.str "clock",.tuple (aG (eQ nu s.2))],nu.filter (λx=>!decide (x∈eQ nu s.2)),fr)
 else match bK ps s.1 m with
  |some a=>jL ps s nu fr m a
  |none=>(.none,nu,fr)
structure okNu(s:Sd)(nu:List Nat)(fr:Nat):Prop where
 nd:nu.Nodup
 len:nu.length=s.2.length
 lt:∀x∈nu,x < fr
inductive Lgs(ps:Pg):Sd->List Nat->Nat->List Nat->List Aa->Prop
 |nil {s:Sd} {nu:List Nat} {fr:Nat}:Lgs ps s nu fr [] []
 |cons {s t:Sd} {nu:List Nat} {fr m:Nat} {L:List Nat} {R:List Aa}:m<=ps.length->cx ps s.1 s.2 m=ae t->Lgs ps t (aI ps s nu fr m).2.1 (aI ps s nu fr m).2.2 L R->Lgs ps s nu fr (m::L) ((aI ps s nu fr m).1::R)
def dS(s:Sd)(nu:List Nat)(fr:Nat):Aa:=.tuple [cI s,.tuple (aG nu),.int fr]
def qw:bu:=kl
def rQ:bu:=λws n Q=>∃(ps:Pg)(ns:List Nt),ws=[.d (.tuple [aY ps,bN ns])]/\ps.length<=5/\ns.length<=12/\Q (.d (dS (eL ps,ns) (Ba ns.length) ns.length)) n
def sW:bu:=λws n Q=>∃(s:Sd)(nu:List Nat)(fr:Nat),ws=[.d (dS s nu fr)]/\nu.length=s.2.length/\(∀q∈s.2,f9 q.2)/\Q (.d (.tuple [.str "clock",.tuple (aG (eQ nu s.2))])) n
structure okBd(ps:Pg)(s t:Sd)(nu:List Nat)(fr m:Nat):Prop where
 st:d4 ps s.1 s.2
 nu:okNu s nu fr
 le:m<=ps.length
 af:cx ps s.1 s.2 m=ae t
def qI:bu:=λws n Q=>∃(ps:Pg)(s t:Sd)(nu:List Nat)(fr m:Nat),ws=[.d (aY ps),.d (dS s nu fr),.d (.int m),.d (cI t)]/\okBd ps s t nu fr m/\m < ps.length/\Q (.d (aI ps s nu fr m).1) n
def rk:bu:=λws n Q=>∃(ps:Pg)(s t:Sd)(nu:List Nat)(fr m:Nat),ws=[.d (aY ps),.d (dS s nu fr),.d (.int m),.d (cI t)]/\okBd ps s t nu fr m/\Q (.d (aI ps s nu fr m).1) n
def il:Aa->List Aa
 |.tuple (.str h::r)=>if h="clock" then(match r with|.tuple l::_=>l|_=>[])else if h="takes" then(r.drop 1).take 1 else[]
 |_=>[]
def oz:Aa->Prop
 |.tuple (.str h::r)=>(h="clock"/\∃l,r=[.tuple l])\/(h="takes"/\∃a b,r=[a,b])\/(h≠"clock"/\h≠"takes")
 |_=>False
def rN:bu:=λws n Q=>∃row,ws=[.d row]/\oz row/\Q (.d (.tuple (il row))) n
def tM:bu:=λws n Q=>∃(ps:Pg)(s t:Sd)(nu:List Nat)(fr m:Nat),ws=[.d (dS s nu fr),.d (aI ps s nu fr m).1,.d (cI t)]/\okBd ps s t nu fr m/\nu.length<=200/\Q (.d (dS t (aI ps s nu fr m).2.1 (aI ps s nu fr m).2.2)) n
def fK(ps:Pg)(b:Aa):Nat:=(jB ps b).getD 0
def lC(ps:Pg)(s:Sd)(nu:List Nat)(fr:Nat)(b:Aa):Aa:=match hU ps s.1 s.2 b with
 |none=>.none
 |some t=>.tuple [(aI ps s nu fr (fK ps b)).1,dS t (aI ps s nu fr (fK ps b)).2.1 (aI ps s nu fr (fK ps b)).2.2]
def rG:bu:=λws n Q=>∃(ps:Pg)(s:Sd)(nu:List Nat)(fr:Nat)(b:Aa),ws=[.d (aY ps),.d (dS s nu fr),.d b]/\d4 ps s.1 s.2/\okNu s nu fr/\Q (.d (lC ps s nu fr b)) n
def mi(ps:Pg)(ns:List Nt)(L:List Nat)(R:List Aa):Prop:=cz ps/\okHs ps (eL ps)/\dF 12 ns/\L.length<=16/\Lgs ps (eL ps,ns) (Ba ns.length) ns.length L R
def lq:bu:=λws n Q=>∃(ps:Pg)(s t:Sd)(nu:List Nat)(fr m:Nat),ws=[.d (aY ps),.d (cI s),.d (.list (aG nu)),.d (.int fr),.d (.int m)]/\okBd ps s t nu fr m/\Q (.d (.tuple [(aI ps s nu fr m).1,.list (aG (aI ps s nu fr m).2.1),.int (aI ps s nu fr m).2.2])) n
def pQ:bu:=λws n Q=>∃(ps:Pg)(ns:List Nt)(L:List Nat)(R:List Aa),ws=[.d (.tuple [aY ps,bN ns]),.d (.list (aG L))]/\mi ps ns L R/\Q (.d (.list R)) n
def fO:Aa->Bool
 |.str x=>decide (x="clock")
 |_=>aj
def dU(ps:Pg):Aa->Aa
 |.tuple (a::b::_)=>if fO a=ai then .int ps.length else b
 |_=>.none
open Classical in
def fN(x d:Aa):Bool:=decide (x=d)
open Classical in
theorem jK{x d:Aa}(h:x=d):fN x d=ai:=by unfold fN;exact decide_eq_true h
open Classical in
theorem jq{x d:Aa}(h:x≠d):fN x d=aj:=by unfold fN;exact decide_eq_false h
def fC(ps:Pg):Sd->List Nat->Nat->List Aa->Bool
 |_,_,_,[]=>ai
 |s,nu,fr,d::r=>match hU ps s.1 s.2 (dU ps d)with
  |none=>aj
  |some t=>fN (aI ps s nu fr (fK ps (dU ps d))).1 d&&fC ps t (aI ps s nu fr (fK ps (dU ps d))).2.1 (aI ps s nu fr (fK ps (dU ps d))).2.2 r
def gm(ps:Pg)(ns:List Nt):Aa->Bool
 |.list rs=>fC ps (eL ps,ns) (Ba ns.length) ns.length rs
 |_=>aj
def FN(k w:Nat)(d:Aa):Prop:=Bu d=ai/\Bn d<=k/\Ee d<=w/\Dm 13 d=ai/\Df d=ai
def okY(d:Aa):Prop:=bA d=ai/\FN 6 20000 d
def okTh(d:Aa):Prop:=(bA d=ai/\FN 8 900000 d)/\∀rs,d=.list rs->rs.length<=40/\∀r∈rs,okY r
def gV(ps:Pg)(ns:List Nt):Prop:=cz ps/\okHs ps (eL ps)/\dF 12 ns
def jk(d:Aa):Prop:=(∃(m k:Nat)(q:Nt),d=.tuple [.str "lays",.int m,.int k,cR q]/\m<=90/\k<=90/\kD q)\/(∃(h:Str)(m:Nat)(g:Option Nat),d=.tuple [.str h,.int m,fP g]/\(h="takes"\/h="reads"\/h="looks")/\m<=90/\∀i,g=ae i->i<=90) \/
 (∃m:Nat,d=.tuple [.str "goes",.int m]/\m<=90)\/∃l:List Nat,d=.tuple [.str "clock",.tuple (aG l)]/\l.length<=60/\∀i∈l,i<=90
mutual
def fM:Aa->Bool
 |.list _=>aj
 |.dict _=>aj
 |.tuple xs=>l4 xs
 |_=>ai
def l4:List Aa->Bool
 |[]=>ai
 |x::xs=>fM x&&l4 xs
end
def iF:Aa->Str
 |.none=>"none"
 |.bool _=>"truth"
 |.int _=>"number"
 |.str _=>"text"
 |.tuple _=>"tuple"
 |_=>"list"
def lI:bu:=λws n Q=>∃d,ws=[.d d]/\bA d=ai/\Q (.d (.str (iF d))) n
def ku:Nat->bu
 |0=>λ_ _ _=>False
 |k+1=>λws n Q=>∃x y,ws=[.d x,.d y]/\fM x=ai/\bA x=ai/\bA y=ai/\Bn x<=k/\Bu x=ai/\Bu y=ai/\Bn y<=20/\Q (.d (.bool (fN x y))) n
def sR:bu:=λws n Q=>∃ps d,ws=[.d (aY ps),.d d]/\okY d/\Q (.d (dU ps d)) n
def m3:bu:=λws n Q=>∃ps ns d,ws=[.d (.tuple [aY ps,bN ns]),.d d]/\gV ps ns/\okTh d/\Q (.d (.bool (gm ps ns d))) n
def qA:bu:=m3
def mF:bu:=λws n Q=>∃(b:Aa)(m:Int),ws=[.d b,.d (.int m)]/\Q (.d (.bool (mD b m))) n
def tq:bu:=λws n Q=>∃row,ws=[.tp,.d row]/\jk row/\n+3 < 2 ^ 39/\∀(d:Aa)(n':Int),okY d->n'<=n+3->Q (.d d) n'
def tO:bu:=λws n Q=>∃l m:List Aa,ws=[.tp,.d (.list l),.d (.list m)]/\l.length<=16/\m.length<=16/\(∀r∈l,jk r)/\(∀r∈m,jk r)/\n+5 < 2 ^ 39/\∀(d:Aa)(n':Int),okTh d->n'<=n+5->Q (.d d) n'
def sP:bu:=λws n Q=>∃ps ns d,ws=[.d (.tuple [aY ps,bN ns]),.d d]/\gV ps ns/\okTh d/\Q (.d (.bool ai)) n
abbrev Ie:aP:=(av (aL (cT (w2 (ak 0) (wC .none) (cL aj))) (az (wC (.str "none"))) aM) (av (aL (cT (bw "bool" (ak 0))) (az (wC (.str "truth"))) aM) (av (aL (cT (bw "int" (ak 0))) (az (wC (.str "number"))) aM) (av (aL (cT (bw "str" (ak 0))) (az (wC (.str "text"))) aM) (az (eO (cT (bw "tuple" (ak 0))) (wC (.str "tuple")) (wC (.str "list"))))))))
abbrev zq(Sf:bu):aP:=(av (aL (cT (w2 (aF lI (aq (ak 0) ao)) (aF lI (aq (ak 1) ao)) dZ)) (az (wC (.bool aj))) aM) (av (aL (bB (cT (t8 (ak 0)))) (az (w2 (ak 0) (ak 1) (iA λd e=>ae (B5 d e)))) aM) (av (aL (cT (w2 (wB aX (aq (ak 0) ao)) (wB aX (aq (ak 1) ao)) dZ)) (az (wC (.bool aj))) aM) (az (wB lP (aq (aW (cQ [ah,ah] (j0 (ak 0) (ak 1)) (di 2 (bj (aJ 0) (bj (aJ 1) cn))) cO (aF Sf (aq (ak 0) (aq (ak 1) ao))))) ao))))))
abbrev QY:aP:=(az (eE (bw "int" (ak 0)) (l9 (bw "bool" (ak 0)))))
abbrev FE:aP:=(av (aA 4 (w2 (ak 0) (wC (.int (0))) aB)) (av (aL (cT (w2 (ak 4) (wC (.str "is")) aV)) (az (w2 (w2 (ak 0) (wC (.int (1))) aB) (ak 1) aV)) aM) (av (aL (cT (w2 (ak 4) (wC (.str "word")) aV)) (az (bw "str" (ak 1))) aM) (av (aL (cT (w2 (ak 4) (wC (.str "number")) aV)) (az (bw "int" (ak 1))) aM) (av (aL (cT (w2 (ak 4) (wC (.str "as")) aV)) (az (eE (w2 (w2 (ak 0) (wC (.int (1))) aB) (dM 2) (fG aj)) (w2 (w2 (dM 2) (w2 (ak 0) (wC (.int (1))) aB) gL) (ak 1) aV))) aM) (av (aL (cT (w2 (ak 4) (wC (.str "bind")) aV)) (az (sA (w2 (w2 (ak 0) (wC (.int (1))) aB) (dM 3) (fG ai)) (w2 (w2 (dM 3) (w2 (ak 0) (wC (.int (1))) aB) gL) (ak 1) aV))) aM) (az (wC (.bool ai)))))))))
abbrev ur:aP:=(av (aL (cT (w2 (wB aX (aq (ak 0) ao)) (wB aX (aq (ak 1) ao)) dZ)) (az (wC .none)) aM) (av (jF 3 (iS (ak 2))) (av (jF 4 l8) (av (bo (j0 (ak 0) (ak 1)) (di 2 (bj (aJ 5) (bj (aJ 6) cn))) (av (aL (bB (cT (aF jt (aq (ak 5) (aq (ak 6) (aq (dM 3) (aq (dM 4) ao))))))) (az (wC .none)) aM) (aL (cT (w2 (w2 (ak 5) (wC (.int (0))) aB) (wC (.str "bind")) aV)) (av (nI 4 (w2 (ak 5) (wC (.int (1))) aB) (ak 6)) (nI 3 (w2 (ak 5) (wC (.int (1))) aB) (ak 6))) aM))) (az (wB d5 (aq (aW (qm (dM 3))) ao)))))))
abbrev GW:aP:=(av (aL (cT (bw "str" (ak 0))) (az (ak 0)) aM) (az (eO (cT (w2 (ak 0) (wC (.int (99))) aV)) (wC (.int (0))) (w2 (ak 0) (wC (.int (1))) (b7 λi j=>.int (i+j))))))
abbrev zw:aP:=(av (aL (cT (w2 (w2 (ak 0) (wC (.int (0))) aB) (wC (.str "is")) aV)) (az (w2 (ak 0) (wC (.int (1))) aB)) aM) (av (aA 2 (w2 (dM 1) (w2 (ak 0) (wC (.int (1))) aB) gL)) (az (eO (cT (w2 (w2 (ak 0) (wC (.int (0))) aB) (wC (.str "next")) aV)) (aF sI (aq (ak 2) ao)) (ak 2)))))
abbrev BP:aP:=(av (jF 2 (iS (ak 1))) (az (wB d5 (aq (aW (cQ [ah,ae 2] (ft (ak 0)) (aJ 0) cO (aF nq (aq (ak 0) (aq (dM 1) ao))))) ao))))
abbrev yW:aP:=(az (aw (aq (wB d5 (aq (aW (cQ [ah] (ft (w2 (ak 0) (wC (.int (0))) aB)) (aJ 0) cO (aw (aq (wC (.int (0))) (aq (wC (.int (0))) (aq (aw ao) ao)))))) ao)) (aq (wB d5 (aq (w2 (ak 0) (wC (.int (1))) aB) ao)) ao))))
abbrev EW:aP:=(az (eE (aF qC (aq (ak 0) ao)) (lr iz iz (wC (.int (0))) (ak 0) (ak 1))))
abbrev Gp:aP:=(av (aA 3 (w2 (w2 (w2 (ak 1) (wC (.int (0))) aB) (ak 2) aB) (wC (.int (0))) aB)) (av (aA 4 (w2 (w2 (w2 (ak 1) (wC (.int (0))) aB) (ak 2) aB) (wC (.int (1))) aB)) (av (aA 5 (w2 (w2 (w2 (ak 0) (ak 2) aB) (ak 3) aB) (wC (.int (1))) aB)) (az (eO (cT (w2 (ak 4) (wB aX (aq (ak 5) ao)) fY)) (w2 (ak 5) (ak 4) aB) (wC .none))))))
abbrev Ze:List Str:=["take","read","look"]
abbrev Il:aP:=(av (aA 3 (aF h9 (aq (ak 0) (aq (ak 1) (aq (ak 2) ao))))) (av (aL (gg (cT (w2 (ak 3) (wC .none) (cL aj))) (cT (nV Ze (w2 (ak 3) (wC (.int (0))) aB)))) (az (wC .none)) aM) (av (aA 4 (w2 (w2 (w2 (ak 1) (wC (.int (0))) aB) (ak 2) aB) (wC (.int (2))) aB)) (av (sJ 5) (av (bo (vK (w2 (ak 1) (wC (.int (1))) aB)) (di 2 (bj (aJ 6) (bj (aJ 7) cn))) (aL (cT (rB 5 (w2 (ak 7) (wC (.int (0))) aB))) (av (aL (cT (w2 (aF n9 (aq (w2 (ak 3) (wC (.int (1))) aB) (aq (w2 (ak 7) (wC (.int (0))) aB) (aq (ak 4) ao)))) (wC .none) (cL ai))) (az (ak 6)) aM) (CI 5 (w2 (ak 7) (wC (.int (0))) aB) (wC (.bool ai)))) aM)) (az (wC .none)))))))
abbrev G5:aP:=(az (aw (aq (w2 (ak 0) (wC (.int (0))) aB) (aq (w2 (w2 (ak 0) (wC (.int (1))) aB) (wC (.int (1))) (b7 λi j=>.int (i+j))) (aq (ak 1) ao)))))
abbrev ET:aP:=(av (aA 3 (w2 (w2 (ak 0) (ak 1) aB) (wC (.int (0))) aB)) (az (aw (aq (ak 1) (aq (wC (.int (0))) (aq (wB d5 (aq (aW (cQ [ah,ae 3] (ft (ak 2)) (aJ 0) (cT (w2 (w2 (ak 0) (wC (.int (0))) aB) (ak 1) (gD aj))) (ak 0))) ao)) ao))))))
abbrev AN:aP:=(az (w2 (w2 (cC (ak 0) cf (cb (ak 1))) (aw (aq (ak 2) ao)) cU) (cC (ak 0) (cb (w2 (ak 1) (wC (.int (1))) (b7 λi j=>.int (i+j)))) cf) cU))
abbrev xq:aP:=(av (aA 4 (w2 (w2 (ak 1) (wC (.int (0))) aB) (ak 2) aB)) (av (aA 5 (w2 (ak 1) (wC (.int (1))) aB)) (av (aA 6 (aF lQ (aq (ak 0) (aq (ak 1) (aq (ak 2) ao))))) (av (aL (cT (w2 (ak 6) (wC .none) (cL aj))) (av (aL (cT (w2 (w2 (ak 3) (wC (.int (0))) aB) (wC (.str "look")) dZ)) (az (wC .none)) aM) (az (aw (aq (aF jI (aq (w2 (ak 1) (wC (.int (0))) aB) (aq (ak 2) (aq (aF m8 (aq (w2 (ak 0) (ak 2) aB) (aq (w2 (ak 3) (wC (.int (2))) aB) (aq (w2 (ak 4) (wC (.int (2))) aB) ao)))) ao)))) (aq (ak 5) ao))))) aM) (av (aA 7 (aF n9 (aq (w2 (ak 3) (wC (.int (1))) aB) (aq (w2 (w2 (ak 5) (ak 6) aB) (wC (.int (0))) aB) (aq (w2 (ak 4) (wC (.int (2))) aB) ao))))) (av (aL (cT (w2 (w2 (ak 3) (wC (.int (0))) aB) (wC (.str "take")) aV)) (aA 5 (w2 (cC (ak 5) cf (cb (ak 6))) (cC (ak 5) (cb (w2 (ak 6) (wC (.int (1))) (b7 λi j=>.int (i+j)))) cf) cU)) aM) (az (aw (aq (aF jI (aq (w2 (ak 1) (wC (.int (0))) aB) (aq (ak 2) (aq (aF lE (aq (ak 4) (aq (ak 7) ao))) ao)))) (aq (ak 5) ao))))))))))
abbrev zk:aP:=(av (jF 2 (iS (ak 1))) (az (w2 (aF nq (aq (w2 (ak 0) (wC (.int (1))) aB) (aq (dM 2) ao))) (aF nq (aq (w2 (ak 0) (wC (.int (2))) aB) (aq (dM 2) ao))) aV)))
abbrev FI:aP:=(av (aA 3 (aF h9 (aq (ak 0) (aq (ak 1) (aq (ak 2) ao))))) (av (aL (cT (w2 (ak 3) (wC .none) (cL aj))) (az (wC .none)) aM) (av (aL (cT (jb Ze (w2 (ak 3) (wC (.int (0))) aB))) (az (aF ni (aq (ak 0) (aq (ak 1) (aq (ak 2) (aq (ak 3) ao)))))) aM) (av (aA 4 (w2 (w2 (ak 1) (wC (.int (0))) aB) (ak 2) aB)) (av (aA 5 (w2 (ak 1) (wC (.int (1))) aB)) (av (aA 6 (w2 (ak 4) (wC (.int (2))) aB)) (av (aL (cT (w2 (w2 (ak 3) (wC (.int (0))) aB) (wC (.str "lay")) aV)) (av (aA 5 (w2 (ak 5) (aw (aq (aw (aq (aF rY (aq (w2 (ak 3) (wC (.int (1))) aB) (aq (ak 6) ao))) (aq (w2 (ak 3) (wC (.int (2))) aB) ao))) ao)) cU)) (aA 4 (aF lE (aq (ak 4) (aq (ak 6) ao))))) (aL (dz (cT (w2 (w2 (ak 3) (wC (.int (0))) aB) (wC (.str "same")) aV)) (cT (aF sD (aq (ak 3) (aq (ak 6) ao))))) (aA 4 (aF lE (aq (ak 4) (aq (ak 6) ao)))) (aA 4 (aF m8 (aq (w2 (ak 0) (ak 2) aB) (aq (w2 (ak 3) (cj (wC (.int (1)))) aB) (aq (ak 6) ao))))))) (az (aw (aq (aF jI (aq (w2 (ak 1) (wC (.int (0))) aB) (aq (ak 2) (aq (ak 4) ao)))) (aq (ak 5) ao)))))))))))
abbrev Gs:aP:=(az (eO (cT (w2 (w2 (ak 0) (wC (.int (1))) aB) (wC .none) (cL aj))) (ak 0) (aw (aq (w2 (ak 0) (wC (.int (0))) aB) (aq (w2 (w2 (ak 0) (wC (.int (1))) aB) (wC (.int (1))) (b7 λi j=>.int (i-j))) ao)))))
abbrev FL:aP:=(az (aw (aq (w2 (ak 0) (wC (.int (0))) aB) (aq (wB d5 (aq (aW (cQ [ah] (ft (w2 (ak 0) (wC (.int (1))) aB)) (aJ 0) (cT (w2 (w2 (ak 0) (wC (.int (1))) aB) (wC (.int (1))) dZ)) (aF sq (aq (ak 0) ao)))) ao)) ao))))
abbrev CS:aP:=(av (aA 3 (wB aX (aq (ak 0) ao))) (av (aL (bB (cT (aF qW (aq (ak 2) (aq (ak 3) ao))))) (az (wC .none)) aM) (az (eO (cT (w2 (ak 2) (ak 3) aV)) (aF rg (aq (ak 1) ao)) (aF qr (aq (ak 0) (aq (ak 1) (aq (ak 2) ao))))))))
abbrev Hv:aP:=(av (aA 1 (wB aX (aq (w2 (ak 0) (wC (.int (1))) aB) ao))) (az (aw (aq (aF qw (aq (ak 0) ao)) (aq (vx (ak 1)) (aq (ak 1) ao))))))
abbrev G2:aP:=(av (aA 1 (aW (cQ [ah,ah] (j0 (w2 (w2 (ak 0) (wC (.int (0))) aB) (wC (.int (1))) aB) (w2 (ak 0) (wC (.int (1))) aB)) (di 2 (bj (aJ 0) (bj (aJ 1) cn))) (cT (w2 (w2 (ak 0) (wC (.int (1))) aB) (wC (.int (1))) aV)) (ak 1)))) (az (aw (aq (wC (.str "clock")) (aq (wB d5 (aq (ak 1) ao)) ao)))))
abbrev BW:aP:=(av (aA 4 (aF h9 (aq (ak 0) (aq (w2 (ak 1) (wC (.int (0))) aB) (aq (ak 2) ao))))) (av (aL (cT (w2 (w2 (ak 4) (wC (.int (0))) aB) (wC (.str "lay")) aV)) (az (aw (aq (wC (.str "lays")) (aq (ak 2) (aq (w2 (ak 1) (wC (.int (2))) aB) (aq (w2 (w2 (ak 3) (wC (.int (1))) aB) (cj (wC (.int (1)))) aB) ao)))))) aM) (av (aL (cT (pT [("take","takes"),("read","reads"),("look","looks")] (w2 (ak 4) (wC (.int (0))) aB))) (az (aw (aq (wC (.str "goes")) (aq (ak 2) ao)))) aM) (av (aA 5 (aF lQ (aq (ak 0) (aq (w2 (ak 1) (wC (.int (0))) aB) (aq (ak 2) ao))))) (az (aw (aq (jw [("take","takes"),("read","reads"),("look","looks")] (w2 (ak 4) (wC (.int (0))) aB)) (aq (ak 2) (aq (eO (cT (w2 (ak 5) (wC .none) (cL aj))) (wC .none) (w2 (w2 (ak 1) (wC (.int (1))) aB) (ak 5) aB)) ao)))))))))
abbrev HW:aP:=(av (aL (cT (w2 (ak 2) (wB aX (aq (ak 0) ao)) aV)) (az (aF sW (aq (ak 1) ao))) aM) (az (aF qI (aq (ak 0) (aq (ak 1) (aq (ak 2) (aq (ak 3) ao)))))))
abbrev EL:aP:=(av (aL (cT (w2 (w2 (ak 0) (wC (.int (0))) aB) (wC (.str "clock")) aV)) (az (w2 (ak 0) (wC (.int (1))) aB)) aM) (az (eO (cT (w2 (w2 (ak 0) (wC (.int (0))) aB) (wC (.str "takes")) aV)) (aw (aq (w2 (ak 0) (wC (.int (2))) aB) ao)) (aw ao))))
abbrev rL:aP:=(av (aA 3 (aF rN (aq (ak 1) ao))) (av (aA 4 (wB d5 (aq (aW (cQ [ah,ae 3] (ft (w2 (ak 0) (wC (.int (1))) aB)) (aJ 0) (cT (w2 (ak 0) (ak 1) (gD ai))) (ak 0))) ao))) (av (aL (cT (w2 (w2 (ak 1) (wC (.int (0))) aB) (wC (.str "lays")) aV)) (az (aw (aq (ak 2) (aq (w2 (ak 4) (aw (aq (w2 (ak 1) (wC (.int (2))) aB) ao)) cU) (aq (w2 (w2 (ak 0) (wC (.int (2))) aB) (wC (.int (1))) (b7 λi j=>.int (i+j))) ao))))) aM) (az (aw (aq (ak 2) (aq (ak 4) (aq (w2 (ak 0) (wC (.int (2))) aB) ao))))))))
abbrev Hj:aP:=(av (aA 3 (aF qo (aq (ak 0) (aq (w2 (ak 1) (wC (.int (0))) aB) (aq (ak 2) ao))))) (av (aL (cT (w2 (ak 3) (wC .none) (cL aj))) (az (wC .none)) aM) (av (aA 4 (aF rk (aq (ak 0) (aq (ak 1) (aq (ak 2) (aq (ak 3) ao)))))) (az (aw (aq (ak 4) (aq (aF tM (aq (ak 1) (aq (ak 4) (aq (ak 3) ao)))) ao)))))))
abbrev zc:aP:=(av (aL (gg (bB (cT (bw "tuple" (ak 1)))) (cT (w2 (wB aX (aq (ak 1) ao)) (wC (.int (2))) fY))) (az (wC .none)) aM) (az (eO (cT (w2 (w2 (ak 1) (wC (.int (0))) aB) (wC (.str "clock")) (iA λd e=>ae (B5 d e)))) (wB aX (aq (ak 0) ao)) (w2 (ak 1) (wC (.int (1))) aB))))
abbrev G1:aP:=(av (aL (bB (cT (bw "list" (ak 1)))) (az (wC (.bool aj))) aM) (av (aA 2 (aF rQ (aq (ak 0) ao))) (av (bo (fA (ak 1)) (aJ 3) (av (aA 4 (aF rG (aq (w2 (ak 0) (wC (.int (0))) aB) (aq (ak 2) (aq (aF sR (aq (w2 (ak 0) (wC (.int (0))) aB) (aq (ak 3) ao))) ao))))) (av (aL (gg (cT (w2 (ak 4) (wC .none) (cL aj))) (bB (cT (aF (ku 6) (aq (w2 (ak 4) (wC (.int (0))) aB) (aq (ak 3) ao)))))) (az (wC (.bool aj))) aM) (aA 2 (w2 (ak 4) (wC (.int (1))) aB))))) (az (wC (.bool ai))))))
abbrev GF:aP:=(az (w2 (aW (aH (aq (wC (.str "a")) (aq (wC (.int (0))) (aq (wC (.str "a")) (aq (wC (.int (1))) (aq (wC (.str "ab")) (aq (wC (.str "go")) (aq (wC (.int (99))) (aq (wC (.int (0))) ao)))))))))) (aF cq (aq (ak 0) (aq (wC (.int (8))) ao))) aB))
abbrev HK:aP:=(az (w2 (aW (aH (aq (wC (.int (1))) (aq (wC (.int (2))) (aq (wC (.int (2))) (aq (wC (.int (2))) (aq (wC (.int (1))) (aq (wC (.int (3))) (aq (wC (.int (4))) ao))))))))) (aF cq (aq (ak 0) (aq (wC (.int (7))) ao))) aB))
abbrev z9:aP:=(az (w2 (gz 0) (aF cq (aq (ak 0) (aq (wB gc (aq (gz 0) ao)) ao))) aU))
abbrev CG:aP:=(av (bz 2 (aH ao)) (av (bz 3 (aH ao)) (av (bo (dN (aF ll (aq (ak 0) ao))) (aJ 4) (av (aA 5 (aF cq (aq (ak 0) (aq (wC (.int (9))) ao)))) (av (aA 6 (w2 (ak 1) (dC 3) dq)) (aL (cT (w2 (ak 5) (wC (.int (3))) fY)) (br 2 (aw (aq (wC (.str "is")) (aq (aF jT (aq (ak 0) ao)) ao)))) (aL (cT (w2 (ak 5) (wC (.int (6))) fY)) (br 2 (w2 (aW (aH (aq (aw (aq (wC (.str "any")) ao)) (aq (aw (aq (wC (.str "word")) ao)) (aq (aw (aq (wC (.str "number")) ao)) ao))))) (w2 (ak 5) (wC (.int (3))) (b7 λi j=>.int (i-j))) aU)) (aL (gg (cT (w2 (ak 5) (wC (.int (8))) fY)) (cT (w2 (ak 6) (aW (aH ao)) bX))) (av (aA 7 (w2 (aW (aH (aq (wC (.str "n")) (aq (wC (.str "nm")) (aq (wC (.str "go")) (aq (wC (.str "m")) ao)))))) (aF cq (aq (ak 0) (aq (wC (.int (4))) ao))) aU)) (av (br 3 (ak 7)) (br 2 (aw (aq (wC (.str "bind")) (aq (ak 7) ao)))))) (br 2 (aw (aq (wC (.str "as")) (aq (w2 (ak 6) (aF cq (aq (ak 0) (aq (wB gc (aq (ak 6) ao)) ao))) aU) ao)))))))))) (b9 2 (b9 3 (az (aw (aq (wB ir (aq (ak 2) ao)) (aq (ak 3) ao)))))))))
abbrev EM:aP:=(av (bz 2 (aH ao)) (av (bo (dN (aF ll (aq (ak 0) ao))) (aJ 3) (av (aA 4 (aF cq (aq (ak 0) (aq (wC (.int (6))) ao)))) (aL (gg (cT (w2 (ak 4) (wC (.int (3))) fY)) (cT (w2 (ak 1) (aW (aH ao)) bX))) (br 2 (aw (aq (wC (.str "is")) (aq (aF jT (aq (ak 0) ao)) ao)))) (br 2 (aw (aq (w2 (aW (aH (aq (wC (.str "as")) (aq (wC (.str "as")) (aq (wC (.str "next")) ao))))) (w2 (ak 4) (wC (.int (3))) (b7 λi j=>.int (i-j))) aU) (aq (w2 (ak 1) (aF cq (aq (ak 0) (aq (wB gc (aq (ak 1) ao)) ao))) aU) ao))))))) (b9 2 (az (wB ir (aq (ak 2) ao))))))
abbrev HZ:aP:=(av (aL (gg (cT (w2 (ak 1) (aW (aH ao)) bX)) (cT (w2 (aF cq (aq (ak 0) (aq (wC (.int (2))) ao))) (wC (.int (0))) bX))) (az (aw (aq (wC (.str "is")) (aq (aF jT (aq (ak 0) ao)) ao)))) aM) (az (aw (aq (wC (.str "as")) (aq (w2 (ak 1) (aF cq (aq (ak 0) (aq (wB gc (aq (ak 1) ao)) ao))) aU) ao)))))
abbrev zY:aP:=(av (aA 3 (aF cq (aq (ak 0) (aq (wC (.int (12))) ao)))) (av (aL (cT (w2 (ak 3) (wC (.int (4))) fY)) (az (aw (aq (aw (aq (wC (.str "lay")) (aq (aF rX (aq (ak 0) (aq (ak 1) ao))) (aq (aF mZ (aq (ak 0) ao)) ao)))) (aq (aW (aH ao)) ao)))) aM) (av (aA 4 (w2 (ak 2) (aF cq (aq (ak 0) (aq (wB gc (aq (ak 2) ao)) ao))) aU)) (av (aL (cT (w2 (ak 3) (wC (.int (10))) bX)) (az (aw (aq (aw (aq (wC (.str "same")) (aq (aF nZ (aq (ak 0) (aq (ak 1) ao))) (aq (aF nZ (aq (ak 0) (aq (ak 1) ao))) (aq (ak 4) ao))))) (aq (aW (aH ao)) ao)))) aM) (av (aL (cT (w2 (ak 3) (wC (.int (11))) bX)) (az (aw (aq (aw (aq (wC (.str "go")) (aq (ak 4) ao))) (aq (aW (aH ao)) ao)))) aM) (av (b8 (aF rE (aq (ak 0) (aq (ak 1) ao))) (di 2 (bj (aJ 5) (bj (aJ 6) cn)))) (av (aL (cT (w2 (ak 3) (wC (.int (7))) lA)) (az (aw (aq (aw (aq (wC (.str "look")) (aq (ak 5) (aq (ak 4) ao)))) (aq (ak 6) ao)))) aM) (az (aw (aq (aw (aq (w2 (aW (aH (aq (wC (.str "take")) (aq (wC (.str "take")) (aq (wC (.str "take")) (aq (wC (.str "read")) ao)))))) (w2 (ak 3) (wC (.int (4))) (b7 λi j=>.int (i-j))) aU) (aq (ak 5) ao))) (aq (ak 6) ao)))))))))))
abbrev Ii:aP:=(av (bz 1 (aH (aq (aw ao) ao))) (av (bo (dN (w2 (aW (aH (aq (wC (.int (0))) (aq (wC (.int (1))) (aq (wC (.int (2))) (aq (wC (.int (1))) (aq (wC (.int (0))) (aq (wC (.int (2))) (aq (wC (.int (5))) ao))))))))) (aF cq (aq (ak 0) (aq (wC (.int (7))) ao))) aU)) (aJ 2) (br 1 (w2 (aW (aH (aq (aw ao) (aq (aw (aq (wC (.str "n")) ao)) (aq (aw (aq (wC (.str "go")) (aq (wC (.str "n")) ao))) (aq (aw (aq (wC (.str "nm")) ao)) (aq (aw ao) ao))))))) (aF cq (aq (ak 0) (aq (wC (.int (5))) ao))) aU))) (av (bz 3 (aH ao)) (b9 1 (av (bo (fA (ak 1)) (aJ 4) (av (bz 5 (kM (ak 4))) (av (bz 6 (aH ao)) (av (bo (dN (w2 (aW (aH (aq (wC (.int (2))) (aq (wC (.int (3))) (aq (wC (.int (1))) (aq (wC (.int (4))) (aq (wC (.int (2))) (aq (wC (.int (0))) (aq (wC (.int (3))) (aq (wC (.int (8))) ao)))))))))) (aF cq (aq (ak 0) (aq (wC (.int (8))) ao))) aU)) (aJ 2) (av (aA 8 (aW (cQ [ah,ae 5,ae 1] (dN (wB gc (aq (ak 1) ao))) (aJ 0) (cT (w2 (aW (cQ [ah,ae 1] (ft (w2 (ak 2) (ak 0) aU)) (aJ 0) (cT (w2 (ak 0) (ak 1) (fD ai))) (ak 0))) (aW (aH ao)) bX)) (ak 0)))) (av (b8 (aF mI (aq (ak 0) (aq (dC 5) (aq (ak 8) ao)))) (di 2 (bj (aJ 9) (bj (aJ 10) cn)))) (av (br 6 (ak 9)) (bo (fA (ak 10)) (aJ 7) (aL (cT (w2 (ak 7) (dC 5) (fD ai))) (br 5 (ak 7)) aM)))))) (b9 6 (br 3 (aw (aq (ak 4) (aq (wB ir (aq (ak 6) ao)) ao))))))))) (b9 3 (az (wB ir (aq (ak 3) ao)))))))))
abbrev GZ:aP:=(av (bz 2 (aH ao)) (av (bo (dN (aF cq (aq (ak 0) (aq (w2 (ak 1) (wC (.int (1))) (b7 λi j=>.int (i+j))) ao)))) (aJ 3) (av (aA 4 (wB ir (aq (aW (cQ [ah,ae 0] (dN (aF ll (aq (ak 0) ao))) (aJ 0) cO (aF jT (aq (ak 1) ao)))) ao))) (br 2 (aw (aq (ak 4) (aq (aF mZ (aq (ak 0) ao)) ao)))))) (b9 2 (az (wB ir (aq (ak 2) ao))))))
abbrev CQ:aP:=(av (bz 1 (cQ [ah,ae 0] (dN (w2 (aW (aH (aq (wC (.int (2))) (aq (wC (.int (1))) (aq (wC (.int (2))) (aq (wC (.int (3))) (aq (wC (.int (2))) (aq (wC (.int (1))) (aq (wC (.int (0))) (aq (wC (.int (5))) ao)))))))))) (aF cq (aq (ak 0) (aq (wC (.int (8))) ao))) aU)) (aJ 0) cO (aF tQ (aq (ak 1) ao)))) (av (aL (dz (cT (w2 (wB gc (aq (dC 1) ao)) (wC (.int (2))) bX)) (cT (w2 (aF cq (aq (ak 0) (aq (wC (.int (4))) ao))) (wC (.int (0))) bX))) (fQ 1 (wC (.int (1))) (w2 (dC 1) (wC (.int (0))) aU)) aM) (b9 1 (az (aw (aq (wB ir (aq (ak 1) ao)) (aq (aF pL (aq (ak 0) (aq (w2 (aW (aH (aq (wC (.int (4))) (aq (wC (.int (3))) (aq (wC (.int (6))) (aq (wC (.int (12))) ao)))))) (aF cq (aq (ak 0) (aq (wC (.int (4))) ao))) aU) ao))) ao)))))))
abbrev vI:aP:=(av (aL (cT (w2 (wB aX (aq (ak 0) ao)) (wB aX (aq (ak 1) ao)) dZ)) (az (wC .none)) aM) (av (jF 3 (iS (ak 2))) (av (bz 4 (aH ao)) (av (bo (j0 (ak 0) (ak 1)) (di 2 (bj (aJ 5) (bj (aJ 6) cn))) (av (aA 7 (w2 (ak 5) (wC (.int (0))) aB)) (av (aA 8 (wC (.bool ai))) (av (aL (cT (w2 (ak 7) (wC (.str "is")) aV)) (aA 8 (w2 (w2 (ak 5) (wC (.int (1))) aB) (ak 6) aV)) (aL (cT (w2 (ak 7) (aw (aq (wC (.str "word")) (aq (wC (.str "number")) ao))) (gD aj))) (aA 8 (w2 (bw "str" (ak 6)) (w2 (ak 7) (wC (.str "word")) aV) aV)) (aL (gg (cT (w2 (ak 7) (wC (.str "as")) aV)) (dz (cT (w2 (ak 7) (wC (.str "bind")) aV)) (cT (mK 4 (w2 (ak 5) (wC (.int (1))) aB))))) (aA 8 (eE (w2 (w2 (ak 5) (wC (.int (1))) aB) (dM 3) (fG aj)) (w2 (w2 (dM 3) (w2 (ak 5) (wC (.int (1))) aB) gL) (ak 6) aV))) (aL (cT (w2 (ak 7) (wC (.str "bind")) aV)) (av (nI 3 (w2 (ak 5) (wC (.int (1))) aB) (ak 6)) (br 4 (w2 (ak 5) (wC (.int (1))) aB))) aM)))) (aL (bB (cT (ak 8))) (az (wC .none)) aM))))) (b9 3 (az (ak 3)))))))
abbrev BO:aP:=(av (b8 (w2 (w2 (ak 1) (wC (.int (0))) aB) (ak 2) aB) (di 3 (bj (aJ 3) (bj (aJ 4) (bj (aJ 5) cn))))) (av (aA 6 (w2 (w2 (w2 (ak 0) (ak 2) aB) (ak 3) aB) (wC (.int (1))) aB)) (az (eO (cT (w2 (ak 4) (wB aX (aq (ak 6) ao)) fY)) (w2 (ak 6) (ak 4) aB) (wC .none)))))
abbrev GC:aP:=(av (aA 3 (aF h9 (aq (ak 0) (aq (ak 1) (aq (ak 2) ao))))) (av (aL (gg (cT (w2 (ak 3) (wC .none) (dP aj))) (cT (w2 (w2 (ak 3) (wC (.int (0))) aB) (aw (aq (wC (.str "take")) (aq (wC (.str "read")) (aq (wC (.str "look")) ao)))) (gD ai)))) (az (wC .none)) aM) (av (bo (dN (wB aX (aq (w2 (ak 1) (wC (.int (1))) aB) ao))) (aJ 4) (av (aA 5 (aF qU (aq (w2 (ak 3) (wC (.int (1))) aB) (aq (w2 (w2 (w2 (ak 1) (wC (.int (1))) aB) (ak 4) aB) (wC (.int (0))) aB) (aq (w2 (w2 (w2 (ak 1) (wC (.int (0))) aB) (ak 2) aB) (wC (.int (2))) aB) ao))))) (aL (cT (w2 (ak 5) (wC .none) (dP ai))) (az (u9 (ak 4) (ak 5))) aM))) (az (wC .none)))))
abbrev Ho:aP:=(av (aA 3 (aF h9 (aq (ak 0) (aq (ak 1) (aq (ak 2) ao))))) (av (aL (cT (w2 (ak 3) (wC .none) (dP aj))) (az (wC (.bool aj))) aM) (az (sA (w2 (w2 (ak 3) (wC (.int (0))) aB) (aw (aq (wC (.str "take")) (aq (wC (.str "read")) ao))) (gD ai)) (w2 (aF lX (aq (ak 0) (aq (ak 1) (aq (ak 2) ao)))) (wC .none) (dP ai))))))
abbrev zG:aP:=(av (bz 2 (aH ao)) (av (bo (ft (ak 0)) (di 2 (bj (aJ 3) (bj (aJ 4) cn))) (av (aA 5 (eO (cT (w2 (ak 3) (wC (.str "is")) aV)) (ak 4) (w2 (dM 1) (ak 4) gL))) (av (aL (dz (cT (w2 (ak 3) (wC (.str "next")) aV)) (bB (cT (bw "str" (ak 5))))) (aA 5 (w2 (w2 (ak 5) (wC (.int (1))) (b7 λi j=>.int (i+j))) (wC (.int (100))) (gI (λ_ j=>0 < j) λi j=>.int (i % j)))) aM) (br 2 (ak 5))))) (b9 2 (az (wB d5 (aq (ak 2) ao))))))
abbrev GU:aP:=(av (jF 3 (iS (ak 1))) (az (aw (aq (ak 2) (aq (wC (.int (0))) (aq (wB d5 (aq (aW (cQ [ah,ae 3] (ft (w2 (w2 (ak 0) (ak 2) aB) (wC (.int (0))) aB)) (aJ 0) cO (aw (aq (ak 0) (aq (w2 (dM 1) (ak 0) gL) ao))))) ao)) ao))))))
abbrev GK:aP:=(az (eO (cT (w2 (w2 (ak 0) (wC (.int (0))) aB) (wC (.str "is")) aV)) (w2 (ak 0) (wC (.int (1))) aB) (w2 (kA (ak 1)) (w2 (ak 0) (wC (.int (1))) aB) gL)))
abbrev yK:aP:=(av (b8 (ak 1) (di 2 (bj (aJ 3) (bj (aJ 4) cn)))) (av (aL (cT (w2 (ak 2) (wB aX (aq (ak 0) ao)) aV)) (az (aw (aq (ak 3) (aq (wB d5 (aq (aW (cQ [ah,ah] (ft (ak 4)) (di 2 (bj (aJ 0) (bj (aJ 1) cn))) (cT (w2 (ak 1) (wC (.int (1))) dZ)) (aw (aq (ak 0) (aq (eO (cT (w2 (ak 1) (wC .none) (dP aj))) (wC .none) (w2 (ak 1) (wC (.int (1))) (b7 λi j=>.int (i-j)))) ao))))) ao)) ao)))) aM) (av (aA 5 (aF h9 (aq (ak 0) (aq (ak 1) (aq (ak 2) ao))))) (av (b8 (w2 (ak 3) (ak 2) aO) (di 3 (bj (aJ 6) (bj (aJ 7) (bj (aJ 8) cn))))) (av (aA 9 (aF lX (aq (ak 0) (aq (ak 1) (aq (ak 2) ao))))) (av (aA 10 (aw (aq (ak 6) (aq (w2 (ak 7) (wC (.int (1))) (b7 λi j=>.int (i+j))) (aq (ak 8) ao))))) (av (aL (cT (w2 (w2 (ak 5) (wC (.int (0))) aO) (wC (.str "lay")) aV)) (aA 4 (w2 (ak 4) (aw (aq (aw (aq (aF ot (aq (w2 (ak 5) (wC (.int (1))) aO) (aq (kA (ak 8)) ao))) (aq (w2 (ak 5) (wC (.int (2))) aO) ao))) ao)) cU)) (aL (cT (w2 (w2 (ak 5) (wC (.int (0))) aO) (wC (.str "go")) aV)) (aA 10 (aF kJ (aq (w2 (ak 0) (ak 2) aO) (aq (ak 8) (aq (w2 (ak 5) (wC (.int (1))) aO) ao))))) (aL (cT (w2 (w2 (ak 5) (wC (.int (0))) aO) (wC (.str "same")) aV)) (aL (cT (w2 (aF n6 (aq (w2 (ak 5) (wC (.int (1))) aO) (aq (ak 8) ao))) (aF n6 (aq (w2 (ak 5) (wC (.int (2))) aO) (aq (ak 8) ao))) dZ)) (aA 10 (aF kJ (aq (w2 (ak 0) (ak 2) aO) (aq (ak 8) (aq (w2 (ak 5) (wC (.int (3))) aO) ao))))) aM) (aL (cT (w2 (ak 9) (wC .none) (dP aj))) (aA 10 (aF kJ (aq (w2 (ak 0) (ak 2) aO) (aq (ak 8) (aq (w2 (ak 5) (wC (.int (2))) aO) ao))))) (av (aA 10 (aw (aq (ak 6) (aq (w2 (ak 7) (wC (.int (1))) (b7 λi j=>.int (i+j))) (aq (wB d5 (aq (aW (qm (w2 (ak 9) (wC (.int (1))) aO))) ao)) ao))))) (aL (cT (w2 (w2 (ak 5) (wC (.int (0))) aO) (wC (.str "take")) aV)) (aA 4 (w2 (cC (ak 4) cf (cb (w2 (ak 9) (wC (.int (0))) aO))) (cC (ak 4) (cb (w2 (w2 (ak 9) (wC (.int (0))) aO) (wC (.int (1))) (b7 λi j=>.int (i+j)))) cf) cU)) aM)))))) (az (aw (aq (w2 (w2 (cC (ak 3) cf (cb (ak 2))) (aw (aq (ak 10) ao)) cU) (cC (ak 3) (cb (w2 (ak 2) (wC (.int (1))) (b7 λi j=>.int (i+j)))) cf) cU) (aq (ak 4) ao)))))))))))
abbrev yn:aP:=(rZ (gJ (aW (cQ [ah,ae 0,ae 1] (dN (wB aX (aq (ak 0) ao))) (aJ 0) (cT (aF ki (aq (ak 1) (aq (ak 2) (aq (ak 0) ao))))) (ak 0))) (aW (aH (aq (wB aX (aq (ak 0) ao)) ao)))))
abbrev yk:aP:=(av (bz 4 (aH ao)) (av (bz 5 (aH (aq (ak 2) ao))) (av (bo (dN (aF cq (aq (ak 0) (aq (w2 (ak 3) (wC (.int (1))) (b7 λi j=>.int (i+j))) ao)))) (aJ 6) (av (aA 7 (aW (oA rf (aq (ak 1) (aq (w2 (dC 5) (cj (wC (.int (1)))) aU) ao))))) (av (aL (dz (cT (w2 (wB gc (aq (ak 7) ao)) (wC (.int (1))) lA)) (cT (w2 (aF cq (aq (ak 0) (aq (wC (.int (5))) ao))) (wC (.int (0))) lA))) (aA 7 (w4 (ak 7) cf (cb (cj (wC (.int (1))))))) aM) (av (br 4 (w2 (ak 7) (aF cq (aq (ak 0) (aq (wB gc (aq (ak 7) ao)) ao))) aU)) (br 5 (aF jS (aq (ak 1) (aq (w2 (dC 5) (cj (wC (.int (1)))) aU) (aq (w2 (dC 4) (cj (wC (.int (1)))) aU) ao))))))))) (b9 5 (b9 4 (az (aw (aq (ak 4) (aq (ak 5) ao)))))))))
abbrev FS:aP:=(az (aw (aq (wB d5 (aq (aW (cQ [ah] (ft (w2 (ak 0) (wC (.int (0))) aB)) (aJ 0) cO (aw (aq (wC (.int (0))) (aq (wC (.int (0))) (aq (aw ao) ao)))))) ao)) (aq (w2 (ak 0) (wC (.int (1))) aB) ao))))
abbrev yS:aP:=(av (aL (cT (w2 (ak 4) (wB aX (aq (ak 0) ao)) aV)) (av (aA 5 (aW (cQ [ah,ae 2,ae 1] (dN (wB aX (aq (ak 2) ao))) (aJ 0) (cT (w2 (w2 (w2 (w2 (ak 2) (wC (.int (1))) aO) (ak 0) aO) (wC (.int (1))) aO) (wC (.int (1))) aV)) (w2 (ak 1) (ak 0) aO)))) (az (aw (aq (aw (aq (wC (.str "clock")) (aq (wB d5 (aq (ak 5) ao)) ao))) (aq (aW (cQ [ah,ae 5] (fA (ak 2)) (aJ 0) (cT (w2 (ak 0) (ak 1) (gD ai))) (ak 0))) (aq (ak 3) ao)))))) aM) (av (aA 7 (aF h9 (aq (ak 0) (aq (ak 1) (aq (ak 4) ao))))) (av (aL (cT (w2 (w2 (ak 7) (wC (.int (0))) aO) (wC (.str "lay")) aV)) (av (aA 8 (aw (aq (aF ot (aq (w2 (ak 7) (wC (.int (1))) aO) (aq (kA (w2 (w2 (w2 (ak 1) (wC (.int (0))) aO) (ak 4) aO) (wC (.int (2))) aO)) ao))) (aq (w2 (ak 7) (wC (.int (2))) aO) ao)))) (az (aw (aq (aw (aq (wC (.str "lays")) (aq (ak 4) (aq (ak 3) (aq (ak 8) ao))))) (aq (w2 (ak 2) (aW (aH (aq (ak 3) ao))) dq) (aq (w2 (ak 3) (wC (.int (1))) (b7 λi j=>.int (i+j))) ao)))))) aM) (av (aL (cT (w2 (w2 (ak 7) (wC (.int (0))) aO) (aw (aq (wC (.str "same")) (aq (wC (.str "go")) ao))) (gD aj))) (az (aw (aq (aw (aq (wC (.str "goes")) (aq (ak 4) ao))) (aq (ak 2) (aq (ak 3) ao))))) aM) (av (aA 9 (aF lX (aq (ak 0) (aq (ak 1) (aq (ak 4) ao))))) (av (aA 6 (eO (cT (w2 (ak 9) (wC .none) (dP aj))) (wC .none) (w2 (ak 2) (w2 (ak 9) (wC (.int (0))) aO) aO))) (av (aL (cT (w2 (w2 (ak 7) (wC (.int (0))) aO) (wC (.str "take")) aV)) (aA 2 (aW (cQ [ah,ae 6] (fA (ak 2)) (aJ 0) (cT (w2 (ak 0) (ak 1) dZ)) (ak 0)))) aM) (az (aw (aq (aw (aq (w2 (w2 (ak 7) (wC (.int (0))) aO) (wC (.str "s")) fk) (aq (ak 4) (aq (ak 6) ao)))) (aq (ak 2) (aq (ak 3) ao))))))))))))
abbrev BB:aP:=(av (b8 (ak 0) (di 2 (bj (aJ 2) (bj (aJ 3) cn)))) (av (aA 4 (aF kl (aq (ak 0) ao))) (av (aA 5 (aW (qd (wB aX (aq (ak 3) ao))))) (av (aA 6 (wB aX (aq (ak 3) ao))) (av (bz 7 (aH ao)) (av (bo (fA (ak 1)) (aJ 8) (av (b8 (aF lq (aq (ak 2) (aq (ak 4) (aq (ak 5) (aq (ak 6) (aq (ak 8) ao)))))) (di 3 (bj (aJ 9) (bj (aJ 5) (bj (aJ 6) cn))))) (av (br 7 (ak 9)) (aA 4 (aF jS (aq (ak 2) (aq (ak 4) (aq (ak 8) ao)))))))) (b9 7 (az (ak 7)))))))))
abbrev y3:aP:=(az (eE (bw "int" (ak 0)) (eE (l9 (bw "bool" (ak 0))) (lr iz iz (wC (.int (0))) (ak 0) (ak 1)))))
abbrev GB:aP:=(av (aL (bB (cT (bw "list" (ak 1)))) (az (wC (.bool aj))) aM) (av (b8 (ak 0) (di 2 (bj (aJ 2) (bj (aJ 3) cn)))) (av (aA 4 (aF kl (aq (ak 0) ao))) (av (aA 5 (aW (qd (wB aX (aq (ak 3) ao))))) (av (aA 6 (wB aX (aq (ak 3) ao))) (av (bo (fA (ak 1)) (aJ 7) (av (aL (gg (bB (cT (bw "tuple" (ak 7)))) (gg (cT (w2 (wB aX (aq (ak 7) ao)) (wC (.int (2))) fY)) (bB (cT (bw "str" (w2 (ak 7) (wC (.int (0))) aB)))))) (az (wC (.bool aj))) aM) (av (aA 8 (eO (cT (w2 (w2 (ak 7) (wC (.int (0))) aB) (wC (.str "clock")) (iA λd e=>ae (B5 d e)))) (wB aX (aq (ak 2) ao)) (w2 (ak 7) (wC (.int (1))) aB))) (av (aL (dz (cT (w2 (w2 (ak 7) (wC (.int (0))) aB) (wC (.str "clock")) (iA λd e=>ae (!B5 d e)))) (bB (cT (aF mF (aq (ak 8) (aq (w2 (wB aX (aq (ak 2) ao)) (wC (.int (1))) (b7 λi j=>.int (i-j))) ao)))))) (az (wC (.bool aj))) aM) (av (aL (dz (cT (w2 (w2 (ak 7) (wC (.int (0))) aB) (wC (.str "clock")) (iA λd e=>ae (!B5 d e)))) (bB (cT (aF ki (aq (ak 2) (aq (ak 4) (aq (ak 8) ao))))))) (az (wC (.bool aj))) aM) (av (b8 (aF lq (aq (ak 2) (aq (ak 4) (aq (ak 5) (aq (ak 6) (aq (ak 8) ao)))))) (di 3 (bj (aJ 9) (bj (aJ 5) (bj (aJ 6) cn))))) (av (aL (cT (w2 (wB iE (aq (ak 9) ao)) (wB iE (aq (ak 7) ao)) dZ)) (az (wC (.bool aj))) aM) (aA 4 (aF jS (aq (ak 2) (aq (ak 4) (aq (ak 8) ao)))))))))))) (az (wC (.bool ai)))))))))
abbrev BJ:aP:=(av (aA 2 (aF cq (aq (ak 0) (aq (wC (.int (6))) ao)))) (av (aL (cT (w2 (ak 2) (wC (.int (0))) aV)) (az (w2 (aw (aq (w2 (aW (aH (aq (wC (.str "lays")) (aq (wC (.str "takes")) (aq (wC (.str "reads")) (aq (wC (.str "looks")) (aq (wC (.str "goes")) (aq (wC (.str "clock")) ao)))))))) (aF cq (aq (ak 0) (aq (wC (.int (6))) ao))) aB) ao)) (cC (ak 1) (cb (wC (.int (1)))) cf) cU)) aM) (av (aL (cT (w2 (ak 2) (wC (.int (1))) aV)) (az (w2 (aW (aH (aq (w2 (ak 1) (aw (aq (wC (.int (0))) ao)) cU) (aq (cC (ak 1) cf (cb (cj (wC (.int (1)))))) (aq (wB iH (aq (ak 1) ao)) (aq (cC (ak 1) cf (cb (wC (.int (1))))) ao)))))) (aF cq (aq (ak 0) (aq (wC (.int (4))) ao))) aB)) aM) (av (aA 3 (w2 (wC (.int (1))) (aF cq (aq (ak 0) (aq (w2 (wB aX (aq (ak 1) ao)) (wC (.int (1))) (b7 λi j=>.int (i-j))) ao))) (b7 λi j=>.int (i+j)))) (av (aA 4 (w2 (ak 1) (ak 3) aB)) (av (aL (cT (w2 (ak 4) (wC .none) (cL aj))) (az (w2 (w2 (cC (ak 1) cf (cb (ak 3))) (aw (aq (w2 (aW (aH (aq (wC (.int (0))) (aq (wC (.bool aj)) (aq (wC (.int (1))) ao))))) (aF cq (aq (ak 0) (aq (wC (.int (3))) ao))) aB) ao)) cU) (cC (ak 1) (cb (w2 (ak 3) (wC (.int (1))) (b7 λi j=>.int (i+j)))) cf) cU)) aM) (av (aL (cT (bw "int" (ak 4))) (aA 4 (w2 (aW (aH (aq (w2 (ak 4) (wC (.int (1))) (b7 λi j=>.int (i+j))) (aq (w2 (ak 4) (wC (.int (1))) (b7 λi j=>.int (i-j))) (aq (w2 (ak 4) (wC (.int (0))) lA) (aq (wC .none) (aq (wC (.int (0))) ao))))))) (aF cq (aq (ak 0) (aq (wC (.int (5))) ao))) aB)) (aL (cT (w2 (w2 (ak 1) (wC (.int (0))) aB) (wC (.str "lays")) aV)) (av (aA 5 (aW (aH (aq (aw (aq (w2 (ak 4) (wC (.int (0))) aB) (aq (wC (.int (1))) ao))) (aq (aw (aq (w2 (ak 4) (wC (.int (0))) aB) (aq (wC .none) ao))) (aq (aw (aq (w2 (w2 (ak 4) (wC (.int (0))) aB) (aw (aq (wC (.str "a")) ao)) cU) (aq (w2 (ak 4) (wC (.int (1))) aB) ao))) (aq (aw (aq (wB iH (aq (w2 (ak 4) (wC (.int (0))) aB) ao)) (aq (w2 (ak 4) (wC (.int (1))) aB) ao))) (aq (wB iH (aq (ak 4) ao)) ao)))))))) (av (aA 5 (w2 (ak 5) (aW (aH (aq (aw (aq (w2 (cC (w2 (ak 4) (wC (.int (0))) aB) cf (cb (cj (wC (.int (1)))))) (aw (aq (w2 (w2 (w2 (ak 4) (wC (.int (0))) aB) (cj (wC (.int (1)))) aB) (wC (.int (1))) aV) ao)) cU) (aq (w2 (ak 4) (wC (.int (1))) aB) ao))) (aq (aw (aq (w2 (ak 4) (wC (.int (0))) aB) (aq (w2 (w2 (ak 4) (wC (.int (1))) aB) (wC (.int (1))) aV) ao))) ao)))) dq)) (aA 4 (w2 (ak 5) (aF cq (aq (ak 0) (aq (wC (.int (7))) ao))) aB)))) (av (aA 5 (aW (aH (aq (w2 (ak 4) (aw (aq (wC (.int (0))) ao)) cU) (aq (cC (ak 4) (cb (wC (.int (1)))) cf) (aq (wB iH (aq (ak 4) ao)) (aq (kj (ak 4)) (aq (w2 (ak 4) (cC (ak 4) cf (cb (wC (.int (1))))) cU) ao)))))))) (aA 4 (w2 (w2 (ak 5) (aW (aH (aq (wB d5 (aq (aW (cQ [ah] (ft (ak 4)) (aJ 0) cO (w2 (ak 0) (wC (.int (1))) aV))) ao)) ao))) dq) (aF cq (aq (ak 0) (aq (wC (.int (6))) ao))) aB))))) (az (w2 (w2 (cC (ak 1) cf (cb (ak 3))) (aw (aq (ak 4) ao)) cU) (cC (ak 1) (cb (w2 (ak 3) (wC (.int (1))) (b7 λi j=>.int (i+j)))) cf) cU)))))))))
abbrev EY:aP:=(av (bz 3 (kM (ak 1))) (av (aA 4 (aF cq (aq (ak 0) (aq (wC (.int (10))) ao)))) (av (aL (cT (w2 (dC 3) (aW (aH ao)) bX)) (az (w2 (aW (aH (aq (aW (aH (aq (aw (aq (wC (.str "clock")) (aq (aw ao) ao))) ao))) (aq (aW (aH (aq (aw (aq (wC (.str "goes")) (aq (wC (.int (0))) ao))) ao))) (aq (aw ao) (aq (wC .none) (aq (aW (aH (aq (aw ao) ao))) ao))))))) (w2 (ak 4) (wC (.int (5))) (gI (λ_ j=>0 < j) λi j=>.int (i % j))) aU)) aM) (av (aA 5 (aF cq (aq (ak 0) (aq (wB gc (aq (dC 3) ao)) ao)))) (av (aL (cT (w2 (ak 4) (wC (.int (0))) bX)) (oR 3 (ak 5)) (aL (cT (w2 (ak 4) (wC (.int (1))) bX)) (ji 3 (ak 5) (w2 (dC 3) (ak 5) aU)) (aL (cT (w2 (ak 4) (wC (.int (2))) bX)) (bz 3 (gJ (kP (dC 3) cf (cb (ak 5))) (kP (ak 2) (cb (ak 5)) cf))) (aL (cT (w2 (ak 4) (wC (.int (3))) bX)) (uE 3 (aw (aq (w2 (dC 3) (w2 (ak 5) (wC (.int (1))) (b7 λi j=>.int (i-j))) aU) (aq (w2 (dC 3) (ak 5) aU) ao))) (ak 5) (w2 (ak 5) (wC (.int (1))) (b7 λi j=>.int (i-j)))) (aL (cT (w2 (ak 4) (wC (.int (4))) bX)) (b9 3 (az (w2 (aW (aH (aq (wB ir (aq (ak 3) ao)) (aq (w2 (ak 3) (aW (aH (aq (aw ao) ao))) dq) (aq (w2 (ak 3) (aW (aH (aq (wC .none) ao))) dq) (aq (kP (ak 3) cf (cb (ak 5))) ao)))))) (aF cq (aq (ak 0) (aq (wC (.int (4))) ao))) aU))) (fQ 3 (ak 5) (aF tq (aq (ak 0) (aq (w2 (dC 3) (ak 5) aU) ao))))))))) (b9 3 (az (ak 3))))))))
abbrev yt:aP:=(av (aA 2 (wB iE (aq (ak 1) ao))) (av (aA 3 (aF m3 (aq (ak 0) (aq (ak 1) ao)))) (az (eE (bw "bool" (ak 3)) (eE (w2 (ak 3) (aF qA (aq (ak 0) (aq (ak 1) ao))) aV) (w2 (wB iE (aq (ak 1) ao)) (ak 2) aV))))))
abbrev Gz:aP:=(av (aA 2 (aF pG (aq (ak 1) ao))) (av (aA 3 (aF pG (aq (ak 1) ao))) (av (bz 4 (aH ao)) (av (bo (dN (wC (.int (2)))) (aJ 5) (av (b8 (aF nc (aq (ak 1) (aq (w2 (ak 2) (wC (.int (0))) aU) (aq (aF kl (aq (ak 2) ao)) (aq (wC (.int (16))) ao))))) (di 2 (bj (aJ 6) (bj (aJ 7) cn)))) (av (br 4 (aF pQ (aq (ak 2) (aq (ak 6) ao)))) (aL (cT (w2 (aF m3 (aq (ak 2) (aq (w2 (dC 4) (ak 5) aU) ao))) (wC (.bool ai)) (km ai))) (az (wC (.bool aj))) aM)))) (av (bz 8 (aH (aq (wC .none) (aq (wC (.bool ai)) (aq (wC (.int (0))) (aq (wC (.str "")) (aq (aw ao) (aq (wC (.str "goes")) (aq (aW (aH (aq (aW (aH ao)) ao))) (aq (aW (aH (aq (wC .none) ao))) (aq (aW (aH (aq (aw (aq (wC (.str "clock")) ao)) ao))) (aq (aW (aH (aq (aw (aq (wC (.str "clock")) (aq (aW (aH ao)) ao))) ao))) (aq (aW (aH (aq (aw (aq (aW (aH (aq (wC (.str "clock")) ao))) (aq (aw ao) ao))) ao))) ao))))))))))))) (av (bo (dN (wC (.int (6)))) (aJ 5) (br 8 (aF tO (aq (ak 1) (aq (w2 (dC 4) (w2 (ak 5) (wC (.int (2))) (gI (λ_ j=>0 < j) λi j=>.int (i % j))) aU) (aq (w2 (dC 4) (w2 (wC (.int (1))) (w2 (ak 5) (wC (.int (2))) (gI (λ_ j=>0 < j) λi j=>.int (i % j))) (b7 λi j=>.int (i-j))) aU) ao)))))) (av (b8 (aF nc (aq (ak 1) (aq (w2 (ak 3) (wC (.int (0))) aU) (aq (aF kl (aq (ak 3) ao)) (aq (wC (.int (8))) ao))))) (di 2 (bj (aJ 6) (bj (aJ 7) cn)))) (av (bz 8 (gJ (w2 (dC 8) (dC 4) dq) (aW (aH (aq (aF pQ (aq (ak 3) (aq (ak 6) ao))) (aq (aW (aH (aq (aw (aq (wC (.str "clock")) (aq (aw ao) ao))) ao))) ao)))))) (b9 8 (az (w2 (aW (cQ [ah,ae 2] (fA (ak 8)) (aJ 0) (bB (cT (aF sP (aq (ak 1) (aq (ak 0) ao))))) (ak 0))) (aW (aH ao)) bX)))))))))))
theorem Pr:∀ws n Q,jt ws n Q->ws.length=4:=λws n Q h=>by
 obtain⟨_,_,_,_,rfl,_⟩:=h;rfl
theorem Ud:∀ws n Q,jt ws n Q->FE (bE ["field","value","having","bound","head"] ws) n {nx:=λ_ n=>Q (.d .none) n,rt:=Q}:=λws n Q h=>by
 obtain⟨f,v,hp,bp,rfl,fok,hv,hh,hb,k⟩:=h;show FE [ae (.w (.d f.d)),ae (.w (.d v)),ae (.w (.dk (bx hp))),ae (.w (.dk (bx bp))),ah] n {nx:=λ_ n=>Q (.d .none) n,rt:=Q};cases f with
 |is w=>
  show(match je w v with|some r=>Q (.d (.bool r)) n|none=>False);rw[m4 (show cD w=ai from fok) hv];exact k
 |any=>exact k
 |word=>
  show Q (.d (.bool (cE "str" v))) n;cases v<;>exact k
 |number=>
  show Q (.d (.bool (cE "int" v))) n;cases v<;>first|cases hv|exact k
 |as x=>
  show iw (.d (.bool (cK (bx hp) (.inr x)).isSome)) (match cK (bx hp) (.inr x)with|some d=>(match je d v with|some r=>Q (.d (.bool r)) n|none=>False)|none=>False) (Q (.d (.bool aj)) n);rw[jO];unfold ie at k;cases e:look hp x with
  |none=>
   simp only[e]at k;exact k
  |some w=>
   simp only[e]at k;show(match je w v with|some r=>Q (.d (.bool r)) n|none=>False);rw[m4 (hh _ (lS e)).2 hv];exact k
 |bind x=>
  show iw (.d (.bool (!(cK (bx bp) (.inr x)).isSome))) (Q (.d (.bool ai)) n) (match cK (bx bp) (.inr x)with|some d=>(match je d v with|some r=>Q (.d (.bool r)) n|none=>False)|none=>False);rw[jO];unfold ie at k;cases e:look bp x with
  |none=>
   simp only[e]at k;exact k
  |some w=>
   simp only[e]at k;show(match je w v with|some r=>Q (.d (.bool r)) n|none=>False);rw[m4 (hb _ (lS e)).2 hv];exact k
theorem Do{p:Prop}[Decidable p]{A B:Prop}(h1:p->A)(h2:¬p->B):if decide p=ai then A else B:=by
 by_cases z:p
 ·rw[if_pos (decide_eq_true z)];exact h1 z
 ·rw[if_neg (by rw[decide_eq_false z];exact Ae)];exact h2 z
theorem si:∀ps:Nm,mn (ps.map jR)=ae (bx ps)
 |[]=>rfl
 |p::r=>by
  show(mn (r.map jR)).map _=_;rw[si r];rfl
theorem Ku{l:Nm}{x:Str}{v:Aa}(h:x∉l.map (·.1)):put l x v=l++[(x,v)]:=by
 unfold put;rw[if_neg λz=>by
  obtain⟨p,hp,e⟩:=Dp.mp z;exact h (Bg.mpr ⟨p,hp,of_decide_eq_true e⟩)]
theorem qT:∀(r l:Nm),((l++r).map (·.1)).Nodup->mP (bx l) (bx r)=bx (l++r)
 |[],l,_=>by rw[Bt];rfl
 |p::r,l,nd=>by
  have e:l++p::r=(l++[p])++r:=by simp
  show mP (fH (bx l) (.inr p.1) p.2) (bx r)=_;rw[sG,Ku,e]
  ·exact qT r (l++[p]) (by rw[<-e];exact nd)
  ·intro z;rw[Be,Bi,List.nodup_append]at nd;exact nd.2.2 _ z _ As rfl
theorem oD{δ:Sl}{n:Int}{K:DEnds}{i j:Nat}{ps:Nm}(e:δ[j]?=ae (ae (.w (.d (cG ps)))))(ok:okN ps)(k:K.nx (δ.set i (ae (.odk (bx ps)))) n):jF i (iS (ak j)) δ n K:=by
 unfold jF iS;refine au e ?_;unfold cG;simp only[si];refine⟨by rw[Ab];have:=ok.1;omega,?_⟩;have:=qT ps [] (by rw[Bq];exact ok.2.1);rw[Bq]at this;rw[show([]:List (aN×Aa))=bx []from rfl,this];exact k
section
variable{δ:Sl}{n:Int}{K:DEnds}{W V:aP}{Q:DQ}
theorem TQ{i j n:Int}{Q:DQ}(k:Q (.d (.bool (!decide (i=j)))) n):dZ (.d (.int i)) (.d (.int j)) n Q:=k
theorem EU{xs ys:List Aa}(e0:δ[0]?=ae (ae (.w (.d (.tuple xs)))))(e1:δ[1]?=ae (ae (.w (.d (.tuple ys)))))(hT:xs.length≠ys.length->W δ n K)(hF:xs.length=ys.length->V δ n K):
  aL (cT (w2 (wB aX (aq (ak 0) ao)) (wB aX (aq (ak 1) ao)) dZ)) W V δ n K:=by
 unfold aL cT w2 wB aq ao;refine au e0 ?_;show ak 1 δ n _;refine au e1 ?_;dsimp only[aX];refine TQ ?_;refine jd (λh=>hT λz=>?_) λh=>hF ?_
 ·rw[z,decide_eq_true rfl]at h;cases h
 ·by_cases z:(xs.length:Int)=(ys.length:Int)
  ·exact Int.ofNat.inj z
  ·rw[decide_eq_false z]at h;cases h
theorem Tw{g:Fd}{v:Aa}{hp bp:Nm}(e5:δ[5]?=ae (ae (.w (.d g.d))))(e6:δ[6]?=ae (ae (.w (.d v))))(e3:δ[3]?=ae (ae (.odk (bx hp))))(e4:δ[4]?=ae (ae (.odk (bx bp))))(gok:g.ok)(hv:cD v=ai)(hh:∀p∈hp,gF p)(hb:∀p∈bp,gF p)
  (hT:ie g v hp bp=aj->W δ n K) (hF:ie g v hp bp=ai->V δ n K):aL (bB (cT (aF jt (aq (ak 5) (aq (ak 6) (aq (dM 3) (aq (dM 4) ao))))))) W V δ n K:=by
 unfold aL bB cT aF aq ao;refine au e5 ?_;refine au e6 ?_;unfold dM;simp only[e3,e4];refine⟨g,v,hp,bp,rfl,gok,hv,hh,hb,?_⟩;refine jd (λh=>hT ?_) λh=>hF ?_
 ·cases q:ie g v hp bp with|false=>rfl|true=>rw[q]at h;cases h
 ·cases q:ie g v hp bp with|true=>rfl|false=>rw[q]at h;cases h
variable{xs:List Aa}{j:Nat}{a b v:Aa}{r:List Aa}
end
def pz(gs:List Fd)(vs:List Aa)(hp:Nm)(hs:List Str)(r:Aa):Prop:=match wk (gs.zip vs) hp hs with
 |none=>r=.none
 |some h=>r=cG (c7 h)
theorem SZ{g:Fd}{v:Aa}{gs:List Fd}{vs:List Aa}{hp bp:Nm}{hs:List Str}(h1:∀x,x∈hs↔(look bp x).isSome=ai)(h2:∀x w,look bp x=ae w->look hp x=ae w)(h:ie g v hp bp=aj):pz (g::gs) (v::vs) hp hs .none:=by
 have key:wk ((g,v)::gs.zip vs) hp hs=ah:=by
  cases g with
  |is w=>unfold wk;rw[if_neg (by rw[show fj w v=aj from h];exact Ae)]
  |any=>cases h
  |word=>unfold wk;rw[if_neg (by rw[show jg v=aj from h];exact Ae)]
  |number=>unfold wk;rw[if_neg (by rw[show jf v=aj from h];exact Ae)]
  |as x=>
   unfold wk;unfold ie at h;cases q:look hp x with
   |none=>rfl
   |some w=>
    simp only[q]at h;simp only[h,Fg,if_false]
  |bind x=>
   unfold wk;unfold ie at h;cases q:look bp x with
   |none=>simp only[q]at h;cases h
   |some w=>
    simp only[q]at h;rw[if_pos ((h1 x).mpr (by rw[q];rfl)),h2 x w q];simp only[h,Fg,if_false]
 unfold pz;rw[Fc,key]
theorem MV{g:Fd}{v:Aa}{l:List (Fd×Aa)}{hp bp:Nm}{hs:List Str}(ng:∀x,g≠.bind x)(h:ie g v hp bp=ai):wk ((g,v)::l) hp hs=wk l hp hs:=by
 cases g with
 |is w=>rw[wk,if_pos (show fj w v=ai from h)]
 |any=>rw[wk]
 |word=>rw[wk,if_pos (show jg v=ai from h)]
 |number=>rw[wk,if_pos (show jf v=ai from h)]
 |as x=>
  rw[wk];unfold ie at h;cases q:look hp x with
  |none=>simp only[q]at h;cases h
  |some w=>
   simp only[q]at h;simp only[h,if_true]
 |bind x=>exact absurd rfl (ng x)
def Fd.hd:Fd->Str
 |.is _=>"is"
 |.any=>"any"
 |.word=>"word"
 |.number=>"number"
 |.bind _=>"bind"
 |.as _=>"as"
def Fd.tl:Fd->List Aa
 |.is v=>[v]
 |.bind x=>[.str x]
 |.as x=>[.str x]
 |_=>[]
theorem Fd.parts(g:Fd):g.d=.tuple (.str g.hd::g.tl):=by cases g<;>rfl
theorem mH(x:Str):∀hs:List Str,bZ (.str x) (hs.map .str)=decide (x∈hs)
 |[]=>by simp[bZ]
 |y::r=>by
  show(sO (.str y) (.str x) || bZ (.str x) (r.map .str))=_;rw[mH x r];have e:sO (.str y) (.str x)=decide (x=y):=by
   show(y==x)=_;by_cases z:x=y
   ·subst z;rw[decide_eq_true rfl];exact beq_self_eq_true _
   ·rw[decide_eq_false z];exact beq_eq_false_iff_ne.mpr λw=>z w.symm
  rw[e];by_cases z:x=y
  ·subst z;simp
  ·rw[decide_eq_false z,Bool.false_or];by_cases q:x∈r
   ·rw[decide_eq_true q,decide_eq_true (Am _ q)]
   ·rw[decide_eq_false q,decide_eq_false (by simp[z,q])]
theorem Ma{hp:Nm}(nd:(hp.map (·.1)).Nodup){p:Str×Aa}(h:p∈hp):look hp p.1=ae p.2:=by
 cases q:look hp p.1 with
 |none=>
  have a:=tF hp p.1;rw[q]at a;have b:(hp.any λq=>decide (q.1=p.1))=ai:=Dp.mpr ⟨p,h,decide_eq_true rfl⟩;rw[b]at a;cases a
 |some v=>
  have hm:=lS q;obtain⟨i,hi⟩:=Ca.mp h;obtain⟨j,hj⟩:=Ca.mp hm;have a1:(hp.map (·.1))[i]?=ae p.1:=by rw[A1,hi];rfl
  have a2:(hp.map (·.1))[j]?=ae p.1:=by rw[A1,hj];rfl
  obtain⟨b1,b2⟩:=Au.mp a1;obtain⟨c1,c2⟩:=Au.mp a2;have:=(Eu nd).mp (b2.trans c2.symm);rw[this,hj]at hi;have:=A8 hi;rw[<-this]
theorem M3{δ:Sl}{n:Int}{K:DEnds}{i:Nat}(k:K.nx (δ.set i (ae (.odk (bx [])))) n):jF i l8 δ n K:=k
theorem DM{δ:Sl}{n:Int}{K:DEnds}{g:eM}{W:aP}{xs ys:List Aa}(e0:δ[0]?=ae (ae (.w (.d (.tuple xs)))))(e1:δ[1]?=ae (ae (.w (.d (.tuple ys)))))(hl:xs.length=ys.length)(k:eW g W K (dr xs ys) δ n):bo (j0 (ak 0) (ak 1)) g W δ n K:=by
 unfold bo j0;exact au e0 (au e1 ⟨hl,k⟩)
theorem IG:∀ws n Q,n9 ws n Q->ws.length=3:=λws n Q h=>by
 obtain⟨_,_,_,rfl,_⟩:=h;rfl
theorem Qf:∀ws n Q,n9 ws n Q->ur (bE ["pattern","row","names","having","bound","field","value"] ws) n {nx:=λ_ n=>Q (.d .none) n,rt:=Q}:=λws n Q h=>by
 obtain⟨fs,row,nm,rfl,okp,okr,okn,k0⟩:=h;have k:∀r,pB fs row nm r->Q (.d r) n:=λr hr=>by rw[MM hr];exact k0
 show ur [ae (.w (.d (dw fs))),ae (.w (.d (.tuple row))),ae (.w (.d (cG nm))),ah,ah,ah,ah] n {nx:=λ_ n=>Q (.d .none) n,rt:=Q};unfold ur;refine aD (EU (xs:=fs.map Fd.d) (ys:=row) rfl rfl (λne=>?_) λel=>?_)
 ·show Q (.d .none) n;refine k .none ?_;unfold pB;rw[Ab]at ne;rw[if_neg ne]
 ·rw[Ab]at el;dsimp only[aM];refine aD (oD rfl okn ?_);dsimp only[Al];refine aD (M3 ?_);dsimp only[Al];refine aD (DM (xs:=fs.map Fd.d) (ys:=row) rfl rfl (by rw[Ab];exact el) ?_);refine fW (λds δ m=>m=n/\∃(gs:List Fd)(vs:List Aa)(hp bp:Nm)(hs:List Str)(y z:Option SV),ds=dr (gs.map Fd.d) vs/\gs.length=vs.length/\δ=[ae (.w (.d (dw fs))),ae (.w (.d (.tuple row))),ae (.w (.d (cG nm))),ae (.odk (bx hp)),ae (.odk (bx bp)),y,z] /\
   (∀g∈gs,g.ok)/\(∀d∈vs,cD d=ai)/\(hp.map (·.1)).Nodup/\(∀p∈hp,gF p)/\(∀p∈bp,gF p)/\hp.length+gs.length<=48/\bp.length+gs.length<=48/\(∀x,x∈hs↔(look bp x).isSome=ai)/\(∀x w,look bp x=ae w->look hp x=ae w)/\∀r,pz gs vs hp hs r->Q (.d r) n) ?_ ?_ _ _ _ ?_
  ·rintro δ m ⟨rfl,gs,vs,hp,bp,hs,y,z,e,hl,rfl,gok,vok,nd,hok,bok,l1,l2,i1,i2,kq⟩
   have:gs=[]:=by
    cases gs with
    |nil=>rfl
    |cons g gs=>cases vs with|nil=>cases hl|cons v vs=>cases e
   subst this;rw[List.length_nil]at l1;show ∃ps':Nm,bx hp=bx ps'/\_;refine⟨hp,rfl,by omega,nd,λp hp'=>⟨A3 (hok p hp').1.1 (by decide),yI (hok p hp').2⟩,λps' p1 r1=>?_⟩;exact kq (.tuple (ps'.map jR)) (by show PyData.tuple (ps'.map jR)=cG (c7 hp);rw[zf nd p1 r1];rfl)
  ·rintro d r δ m N ⟨rfl,gs,vs,hp,bp,hs,y,z,e,hl,rfl,gok,vok,nd,hok,bok,l1,l2,i1,i2,kq⟩ hN
   cases gs with
   |nil=>cases e
   |cons g gs=>
    cases vs with
    |nil=>cases hl
    |cons v vs=>
     have e1:d=.tuple [g.d,v]:=by have:=congrArg (λl=>l.head?) e;simpa[dr]using this
     have e2:r=dr (gs.map Fd.d) vs:=by have:=congrArg List.tail e;simpa[dr]using this
     subst e1 e2;rw[An]at l1 l2;rw[An,An]at hl;have gk:=gok g As;have vk:=vok v As;refine⟨rfl,?_⟩;dsimp only[bj,aJ,cn,Al];refine aD (Tw rfl rfl rfl rfl gk vk hok bok (λff=>?_) λff=>?_)
     ·exact kq .none (SZ i1 i2 ff)
     ·dsimp only[aM];have go:(∀x,g≠.bind x)->N [ae (.w (.d (dw fs))),ae (.w (.d (.tuple row))),ae (.w (.d (cG nm))),ae (.odk (bx hp)),ae (.odk (bx bp)),ae (.w (.d g.d)),ae (.w (.d v))] m:=λng=>by
       refine hN _ _ ⟨rfl,gs,vs,hp,bp,hs,_,_,rfl,by omega,rfl,λg hg=>gok g (Am _ hg),λd hd=>vok d (Am _ hd),nd,hok,bok,by omega,by omega,i1,i2,λr hr=>kq r ?_⟩;unfold pz at hr ⊢;rw[Fc,MV ng ff];exact hr
      cases g with
      |is w=>exact go λx z=>nomatch z
      |any=>exact go λx z=>nomatch z
      |word=>exact go λx z=>nomatch z
      |number=>exact go λx z=>nomatch z
      |as x=>exact go λx z=>nomatch z
      |bind x=>
       refine oX (a:=.str "bind") (r:=[.str x]) rfl uA ?_;show(bx bp).length < 1000/\(bx hp).length < 1000/\N [ae (.w (.d (dw fs))),ae (.w (.d (.tuple row))),ae (.w (.d (cG nm))),ae (.odk (fH (bx hp) (.inr x) v)),ae (.odk (fH (bx bp) (.inr x) v)),ae (.w (.d (Fd.d (.bind x)))),ae (.w (.d v))] m;rw[sG,sG];refine⟨by unfold bx;rw[Ab];omega,by unfold bx;rw[Ab];omega,?_⟩;have p1:=sT hp x v;have p2:=sT bp x v;refine hN _ _ ⟨rfl,gs,vs,put hp x v,put bp x v,if x∈hs then hs else hs++[x],_,_,rfl,by omega,rfl,λg hg=>gok g (Am _ hg),λd hd=>vok d (Am _ hd),wH nd,pW hok gk vk,pW bok gk vk,by omega,by omega,λy=>?_,λy w hw=>?_,λr hr=>kq r ?_⟩
       ·by_cases q:y=x
        ·subst q;rw[CU];refine⟨λ_=>rfl,λ_=>?_⟩
         split
         ·assumption
         ·exact Bc _ (Bo.mpr rfl)
        ·rw[GN q,<-i1]
         split
         ·exact Iff.rfl
         ·simp[q]
       ·by_cases q:y=x
        ·subst q;rw[CU]at hw ⊢;exact hw
        ·rw[GN q]at hw ⊢;exact i2 y w hw
       ·unfold pz at hr ⊢;rw[Fc,wk];by_cases q:x∈hs
        ·rw[if_pos q]at hr ⊢;cases lb:look bp x with
         |none=>rw[i1,lb]at q;cases q
         |some w=>
          have lh:=i2 x w lb;unfold ie at ff;simp only[lb]at ff;have wv:w=v:=PK (bok _ (lS lb)).2 vk ff;subst wv;rw[SG nd lh]at hr;simp only[lh,ff,if_true];exact hr
        ·rw[if_neg q]at hr ⊢;exact hr
  ·refine⟨rfl,fs,row,nm,[],[],ah,ah,rfl,el,rfl,okp.2.2,okr.2,okn.2.1,okn.2.2,λ_ z=>absurd z Aq,by have:=okp.2.1;have:=okn.1;omega,by have:=okp.2.1;simp;omega,λx=>⟨λz=>absurd z Aq,λz=>by cases z⟩,λx w z=>(nomatch z),λr hr=>k r ?_⟩;unfold pB;rw[if_pos el];exact hr
theorem Lq:∀ws n Q,jT ws n Q->ws.length=1:=λws n Q h=>by obtain⟨rfl,_⟩:=h;rfl
abbrev Zc:List Str:=["_law_tape_here"]
theorem LK:∀ws n Q,jT ws n Q->GF (bE Zc ws) n {nx:=λ_ n=>Q (.d .none) n,rt:=Q}:=λws n Q h=>by
 obtain⟨rfl,hn,k⟩:=h;show GF [ae (.w .tp)] n _;refine bb (ar (bf (Ah (by decide) ?_)));dsimp only;refine gx (m:=8) rfl (by omega) (by decide) (by decide) λr h0 h1=>iY (ds:=[.str "a",.int 0,.str "a",.int 1,.str "ab",.str "go",.int 99,.int 0]) h0 h1 λd hd=>k d ?_;simp only[Ap,Aq,or_false]at hd;rcases hd with rfl|rfl|rfl|rfl|rfl|rfl|rfl|rfl<;>simp[tI]
theorem Qp:∀ws n Q,ll ws n Q->ws.length=1:=λws n Q h=>by obtain⟨rfl,_⟩:=h;rfl
theorem Lk:∀ws n Q,ll ws n Q->HK (bE Zc ws) n {nx:=λ_ n=>Q (.d .none) n,rt:=Q}:=λws n Q h=>by
 obtain⟨rfl,hn,k⟩:=h;show HK [ae (.w .tp)] n _;refine bb (ar (bf (Ah (by decide) ?_)));dsimp only;refine gx (m:=7) rfl (by omega) (by decide) (by decide) λr h0 h1=>iY (ds:=[.int 1,.int 2,.int 2,.int 2,.int 1,.int 3,.int 4]) h0 h1 λd hd=>?_;simp only[Ap,Aq,or_false]at hd;rcases hd with rfl|rfl|rfl|rfl|rfl|rfl|rfl
 ·exact k 1 (by decide) (by decide)
 ·exact k 2 (by decide) (by decide)
 ·exact k 2 (by decide) (by decide)
 ·exact k 2 (by decide) (by decide)
 ·exact k 1 (by decide) (by decide)
 ·exact k 3 (by decide) (by decide)
 ·exact k 4 (by decide) (by decide)
theorem Hr{δ:Sl}{n:Int}{K:DEnds}{W:aP}{g:eM}(e:δ[0]?=ae (ae (.w .tp)))(hn:n < 2 ^ 39)(k:∀m:Nat,1<=m->m<=4->eW g W K (bY 0 m) δ (n+1)):bo (dN (aF ll (aq (ak 0) ao))) g W δ n K:=by
 unfold bo dN;refine cu (au e (Ah rfl ⟨hn,λm h1 h4=>?_⟩));refine Ah ⟨by omega,by omega⟩ ?_;rw[Bv];exact k m h1 h4
theorem qG{fs:List Fe}(h:fF fs):∀k∈bL fs,ia k:=λk hk=>by
 obtain⟨f,hf,e⟩:=Ga.mp hk;have:=h.2 f hf;cases f<;>cases e;exact this
theorem t6{fs:List Fe}(h:fF fs):(bL fs).length<=4:=A3 (List.length_filterMap_le _ _) h.1
theorem BY{δ:Sl}{n:Int}{hs:List Str}{w:DT}{s:Str}{b:Bool}{Q:Bool->Int->Prop}(hw:∀Q:DQ,Q (.d (.str s)) n->w δ n Q)(e:bZ (.str s) (hs.map .str)=b)(q:Q b n):cT (jb hs w) δ n Q:=hw _ (Ah rfl (by show Q (bZ (.str s) (hs.map .str)) n;rw[e];exact q))
theorem Hx{a:Ac}(h:fF a.fs):(∀k∈a.bs,ia k)/\a.bs.length<=4:=by
 cases a with
 |take fs=>exact⟨qG h,t6 h⟩
 |read fs=>exact⟨qG h,t6 h⟩
 |look fs b=>exact⟨qG h,t6 h⟩
 |lay fs b=>exact⟨λk hk=>by simp[Ac.bs]at hk,by simp[Ac.bs]⟩
 |same f g b=>exact⟨λk hk=>by simp[Ac.bs]at hk,by simp[Ac.bs]⟩
 |go b=>exact⟨λk hk=>by simp[Ac.bs]at hk,by simp[Ac.bs]⟩
theorem BC:∀{ys ks:List Str},ys.Nodup->(∀k∈ys,k∈ks)->ys.length<=ks.length
 |[],_,_,_=>Bk _
 |y::ys,ks,h,hs=>by
  obtain⟨h1,h2⟩:=Dk.mp h;have hm:=hs y As;have:=BC (ks:=ks.erase y) h2 λk hk=>(List.mem_erase_of_ne (λ(e:k=y)=>h1 (e▸hk))).mpr (hs k (Am _ hk));rw[List.length_erase_of_mem hm]at this;have:=List.length_pos_of_mem hm;rw[An];omega
theorem rH{v:Aa}(h:v∈tI):cD v=ai:=by
 simp only[tI,Ap,Aq,or_false]at h;rcases h with rfl|rfl|rfl|rfl|rfl|rfl<;>decide +kernel
theorem LG{v:Wv}{a b:List Aa}{n:Int}{Q:DQ}(hv:fq v=ae a)(hl:a.length+b.length<=Ay)(q:Q (.d (.list (a++b))) n):dq v (.ln b) n Q:=by
 unfold dq;rw[hv];exact⟨hl,q⟩
theorem KU{δ:Sl}{n:Int}{Q:DQ}(e0:δ[0]?=ae (ae (.w .tp)))(h:n < 2 ^ 39)(k:∀v∈j4,Q (.d v) (n+1)):w2 (gz 0) (aF cq (aq (ak 0) (aq (wB gc (aq (gz 0) ao)) ao))) aU δ n Q:=by
 have ht:∀(n:Int)(Q:DQ),Q (.ln j4) n->gz 0 δ n Q:=λn Q q=>by unfold gz;rw[e0];exact q
 exact ar (ht _ _ (iQ (m:=7) e0 (λQ q=>aT (ht _ _ q)) (by omega) (by decide) (by decide) λr h0 h1=>pU h0 h1 k))
theorem IM(f:Fe)(r:List Fe):bL (f::r)=f.bd.toList++bL r:=by cases f<;>rfl
theorem TV(fs:List Fe)(f:Fe):bL (fs++[f])=bL fs++f.bd.toList:=by
 unfold bL;rw[List.filterMap_append];cases f<;>rfl
theorem uu:∀{fs:List Fe}{ks:List Str}{f:Fe},rF ks fs->(∀k,f.us=ae k->k∈ks++bL fs)->rF ks (fs++[f])
 |[],ks,f,_,h=>⟨λk hk=>by simpa[bL]using h k hk,trivial⟩
 |g::r,ks,f,h1,h2=>⟨h1.1,uu h1.2 λk hk=>by
  have:=h2 k hk;rw[IM,<-Bp]at this;exact this⟩
theorem v5{f:Aa}{ks:List Str}(h:f∈ks.map .str):∃s∈ks,f=.str s:=by
 obtain⟨s,hs,rfl⟩:=Bg.mp h;exact⟨s,hs,rfl⟩
def uT(kv:Wv)(ks:List Str)(n0:Int)(ds:List Aa)(δ:Sl)(n:Int):Prop:=∃(fs:List Fe)(x y z u:Option SV),δ=[ae (.w .tp),ae (.w kv),ae (.own (fs.map Fe.d)),ae (.own ((bL fs).map .str)),x,y,z,u]/\1<=fs.length+ds.length/\fs.length+ds.length<=4/\(∀f∈fs,f.ok/\f.pt=ai)/\rF ks fs/\n+2*(ds.length:Int)<=n0+9
theorem Ld:∀ws n Q,rE ws n Q->ws.length=2:=λws n Q h=>by obtain⟨_,_,rfl,_⟩:=h;rfl
theorem MT:∀ws n Q,rE ws n Q->CG (bE ["_law_tape_here","_law_known","_law_fields","_law_bound","_law_k","_law_way","_law_some","_law_name"] ws) n {nx:=λ_ n=>Q (.d .none) n,rt:=Q}:=λws n0 Q h=>by
 obtain⟨ks,kv,rfl,hkv,hks,hok,hn0,k⟩:=h;show CG [ae (.w .tp),ae (.w kv),ah,ah,ah,ah,ah,ah] n0 _;refine aD (jl ?_);dsimp only[Al];refine aD (jl ?_);dsimp only[Al];refine aD (Hr rfl (by omega) λm h1 h4=>?_);refine fW (uT kv ks n0) (λδ n I=>?_) (λd r δ n N I kN=>?_) _ _ _ ⟨[],ah,ah,ah,ah,rfl,by rw[eU];simpa using h1,by rw[eU];simpa using h4,λf hf=>(by simp at hf),trivial,by rw[eU];omega⟩
 ·obtain⟨fs,x,y,z,u,rfl,hf1,hf,hfo,hr,hn⟩:=I;dsimp only;refine gK rfl ?_;dsimp only[Al];refine gK rfl ?_;dsimp only[Al];exact bb (cX (aT (au rfl (ky (au rfl (Ah (show 2<=1000 by decide) (k fs n (by simpa using hf1) ⟨by simpa using hf,λf z=>(hfo f z).1⟩ (λf z=>(hfo f z).2) hr (by simpa using hn))))))))
 ·obtain⟨fs,x,y,z,u,rfl,hf1,hf,hfo,hr,hn⟩:=I;rw[An]at hf1 hf hn;dsimp only[aJ,Al];have hfl:(fs.map Fe.d).length < 1000000:=by rw[Ab];omega
  have hbl:(bL fs).length<=4:=A3 (List.length_filterMap_le _ _) (by omega);have hbo:∀s∈ks++bL fs,ia s:=λs hs=>(Bb.mp hs).elim (hok s) λz=>qG (fs:=fs) ⟨by omega,λf z=>(hfo f z).1⟩ s z;have nxt:∀(f:Fe)(n':Int)(y z u:Option SV)(B:List Aa),f.ok/\f.pt=ai->(∀k,f.us=ae k->k∈ks++bL fs)->n'<=n+2->B=(bL fs).map .str++f.bd.toList.map .str->N [ae (.w .tp),ae (.w kv),ae (.own (fs.map Fe.d++[f.d])),ae (.own B),ae (.w (.d d)),y,z,u] n':=λf n' y z u B fo fu hn' hB=>
   kN _ _ ⟨fs++[f],ae (.w (.d d)),y,z,u,by rw[hB,Be,TV,Be];rfl,by rw[Af,Av];omega,by rw[Af,Av];omega,λg hg=>(Bb.mp hg).elim (hfo g) λz=>by rw[Bo]at z;subst z;exact fo,uu hr fu,by omega⟩
  have nxtN:∀(f:Fe)(n':Int)(y z u:Option SV),f.bd=ah->f.ok/\f.pt=ai->(∀k,f.us=ae k->k∈ks++bL fs)->n'<=n+2->N [ae (.w .tp),ae (.w kv),ae (.own (fs.map Fe.d++[f.d])),ae (.own ((bL fs).map .str)),ae (.w (.d d)),y,z,u] n':=λf n' y z u fb fo fu hn'=>
   nxt f n' y z u _ fo fu hn' (by rw[fb];exact(Bt _).symm)
  refine aD (px (m:=9) rfl (by omega) (by decide) (by decide) λw w0 w1=>?_);dsimp only[Al];refine aD (bC (x:=.list (ks.map .str++(bL fs).map .str)) (λQ q=>ar (au rfl (gf rfl (LG hkv (Oh (by rw[Ab];omega) (by rw[Ab];omega)) q)))) ?_);dsimp only[Al];refine lM rfl (λhw=>?_) (λhw=>?_)
  ·refine jc rfl (cX (aC (cu (au rfl (Ah rfl ⟨by omega,λv hv=>?_⟩)))));exact Ah (show 2<=1000 by decide) (Ah hfl (nxtN (.isv v) _ _ _ _ rfl ⟨rH hv,rfl⟩ (λk hk=>by cases hk) (by omega)))
  ·refine lM rfl (λhw6=>?_) (λhw6=>?_)
   ·refine jc rfl (ar (bf (Ah (by decide) (Ah (by decide) (Ah (by decide) (Ah (by decide) ?_))))));dsimp only;refine ar (au rfl (aC ?_));dsimp only[b7];refine iT (ds:=[.tuple [.str "any"],.tuple [.str "word"],.tuple [.str "number"]]) (r:=w-3) (by omega) (show w-3 < 3 by omega) λf hf'=>?_;simp only[Ap,Aq,or_false]at hf';rcases hf' with rfl|rfl|rfl
    ·exact Ah hfl (nxtN .any _ _ _ _ rfl ⟨trivial,rfl⟩ (λk hk=>by cases hk) (by omega))
    ·exact Ah hfl (nxtN .word _ _ _ _ rfl ⟨trivial,rfl⟩ (λk hk=>by cases hk) (by omega))
    ·exact Ah hfl (nxtN .num _ _ _ _ rfl ⟨trivial,rfl⟩ (λk hk=>by cases hk) (by omega))
   ·have bind:∀(K:DEnds)(L:List Aa),(∀δ n,N δ n->K.nx δ n)->av (aA 7 (w2 (aW (aH (aq (wC (.str "n")) (aq (wC (.str "nm")) (aq (wC (.str "go")) (aq (wC (.str "m")) ao)))))) (aF cq (aq (ak 0) (aq (wC (.int (4))) ao))) aU)) (av (br 3 (ak 7)) (br 2 (aw (aq (wC (.str "bind")) (aq (ak 7) ao)))))
      [ae (.w .tp),ae (.w kv),ae (.own (fs.map Fe.d)),ae (.own ((bL fs).map .str)),ae (.w (.d d)),ae (.w (.d (.int w))),ae (.w (.d (.list L))),u] (n+1) K:=λK L hK=>by
     refine aD (show w2 _ _ _ _ _ _ from ar (bf (Ah (by decide) ?_)));dsimp only;refine gx (m:=4) rfl (by omega) (by decide) (by decide) λr r0 r1=>iT (ds:=[.str "n",.str "nm",.str "go",.str "m"]) r0 r1 λf hf'=>?_;have:∃s:Str,f=.str s/\ia s:=by
      simp only[Ap,Aq,or_false]at hf';rcases hf' with rfl|rfl|rfl|rfl<;>exact⟨_,rfl,by decide +kernel,by decide +kernel⟩
     obtain⟨s,rfl,so⟩:=this;dsimp only[Al];refine aD (kZ rfl (λQ q=>au rfl q) (by rw[Ab];omega) ?_);dsimp only[Al];refine kZ (x:=.tuple [.str "bind",.str s]) rfl (λQ q=>cX (aC (au rfl (Ah (show 2<=1000 by decide) q)))) hfl (hK _ _ ?_);exact nxt (.bind s) (n+1+1) _ _ _ _ ⟨so,rfl⟩ (λk hk=>by cases hk) (by omega) rfl
    by_cases hw8:w < 8
    ·refine bF (λQ q=>i7 (λQ q=>aE (k:=ai) (λQ q=>ar (au rfl (aC ?_))) q) q) (bind _ _ λ_ _ z=>z);show Q (.d (.bool (decide (w < 8)))) _;rw[decide_eq_true hw8];exact q
    ·have hmem:∀f∈ks.map Cg++(bL fs).map Cg,∃s∈ks++bL fs,f=.str s:=λf hf=>v5 (by rw[Be];exact hf);have hlen:(ks.map Cg++(bL fs).map Cg).length<=2000:=by rw[Af,Ab,Ab];omega
     generalize(ks.map Cg++(bL fs).map Cg)=L at hmem hlen;cases L with
     |nil=>
      refine bF (λQ q=>fw (λQ q=>aE (k:=aj) (λQ q=>ar (au rfl (aC ?_))) q) (aE (k:=ai) (λQ q=>ar (au rfl (bf (Ah (Bk _) q)))) q)) (bind _ _ λ_ _ z=>z);show Q (.d (.bool (decide (w < 8)))) _;rw[decide_eq_false hw8];exact q
     |cons a l=>
      refine a8 (λQ q=>fw (λQ q=>aE (k:=aj) (λQ q=>ar (au rfl (aC ?_))) q) (aE (k:=aj) (λQ q=>ar (au rfl (bf (Ah (Bk _) q)))) q)) ?_
      ·show Q (.d (.bool (decide (w < 8)))) _;rw[decide_eq_false hw8];exact q
      ·refine jc rfl (cX (aC (ar (au rfl ?_))));refine iQ (m:=(a::l).length) rfl (λQ q=>aT (au rfl q)) (by omega) (by rw[An];omega) (by omega) λr r0 r1=>iT r0 r1 λf hf'=>?_;obtain⟨s,hs,rfl⟩:=hmem f hf';exact Ah (show 2<=1000 by decide) (Ah hfl (nxtN (.as s) _ _ _ _ rfl ⟨hbo s hs,rfl⟩ (λk hk=>by cases hk;exact hs) (by omega)))
theorem FC{v:Aa}(h:v∈j4):f9 v:=by
 simp only[j4,Ap,Aq,or_false]at h;rcases h with rfl|rfl|rfl|rfl|rfl|rfl|rfl<;>first|exact .inl rfl|exact .inr ⟨_,rfl,by decide,by decide⟩
theorem Qb:∀ws n Q,mZ ws n Q->ws.length=1:=λws n Q h=>by obtain⟨rfl,_⟩:=h;rfl
theorem JA:∀ws n Q,mZ ws n Q->z9 (bE Zc ws) n {nx:=λ_ n=>Q (.d .none) n,rt:=Q}:=λws n Q h=>by
 obtain⟨rfl,hn,k⟩:=h;show z9 [ae (.w .tp)] n _;exact bb (KU rfl hn k)
theorem yq{δ:Sl}{n:Int}{Q:DQ}(e0:δ[0]?=ae (ae (.w .tp)))(h:n < 2 ^ 39)(k:∀v∈j4,Q (.d v) (n+1)):aF mZ (aq (ak 0) ao) δ n Q:=cu (au e0 ⟨rfl,h,k⟩)
def wN(ks:List Str)(n0:Int)(ds:List Aa)(δ:Sl)(n:Int):Prop:=∃(fs:List Fe)(x y:Option SV),δ=[ae (.w .tp),ae (.w (.ln (ks.map .str))),ae (.own (fs.map Fe.d)),x,y]/\fs.length+ds.length<=4/\1<=fs.length+ds.length/\(∀f∈fs,f.ok/\f.tm=ai)/\rF ks fs/\n+2*(ds.length:Int)<=n0+9
theorem L6:∀ws n Q,rX ws n Q->ws.length=2:=λws n Q h=>by obtain⟨_,rfl,_⟩:=h;rfl
theorem JO:∀ws n Q,rX ws n Q->EM (bE ["_law_tape_here","_law_known","_law_fields","_law_k","_law_way"] ws) n {nx:=λ_ n=>Q (.d .none) n,rt:=Q}:=λws n0 Q h=>by
 obtain⟨ks,rfl,hks,hok,hn0,k⟩:=h;show EM [ae (.w .tp),ae (.w (.ln (ks.map .str))),ah,ah,ah] n0 _;refine aD (jl ?_);dsimp only[Al];refine aD (Hr rfl (by omega) λm h1 h4=>?_);refine fW (wN ks n0) (λδ n I=>?_) (λd r δ n N I kN=>?_) _ _ _ ⟨[],ah,ah,rfl,by rw[eU];simpa using h4,by rw[eU];simpa using h1,λf hf=>(by simp at hf),trivial,by rw[eU];omega⟩
 ·obtain⟨fs,x,y,rfl,hf,hf1,hfo,hr,hn⟩:=I;dsimp only;refine gK rfl ?_;dsimp only[Al];exact bb (aT (au rfl (ky (k fs n (by simpa using hf1) ⟨by simpa using hf,λf z=>(hfo f z).1⟩ (λf z=>(hfo f z).2) hr (by simpa using hn)))))
 ·obtain⟨fs,x,y,rfl,hf,hf1,hfo,hr,hn⟩:=I;rw[An]at hf hf1 hn;dsimp only[aJ,Al];have hfl:(fs.map Fe.d).length < 1000000:=by rw[Ab];omega
  have nxt:∀(f:Fe)(n':Int)(y:Option SV),f.ok/\f.tm=ai->(∀k,f.us=ae k->k∈ks)->n'<=n+2->N [ae (.w .tp),ae (.w (.ln (ks.map .str))),ae (.own (fs.map Fe.d++[f.d])),ae (.w (.d d)),y] n':=λf n' y fo fu hn'=>
   kN _ _ ⟨fs++[f],ae (.w (.d d)),y,by rw[Be];rfl,by rw[Af,Av];omega,by rw[Af,Av];omega,λg hg=>(Bb.mp hg).elim (hfo g) λz=>by rw[Bo]at z;subst z;exact fo,uu hr λk hk=>Es _ (fu k hk),by omega⟩
  refine aD (px (m:=6) rfl (by omega) (by decide) (by decide) λw w0 w1=>?_);dsimp only[Al];have isv:∀K:DEnds,(∀δ n,N δ n->K.nx δ n)->br 2 (aw (aq (wC (.str "is")) (aq (aF jT (aq (ak 0) ao)) ao))) [ae (.w .tp),ae (.w (.ln (ks.map .str))),ae (.own (fs.map Fe.d)),ae (.w (.d d)),ae (.w (.d (.int w)))] (n+1) K:=λK hK=>
   jc rfl (cX (aC (cu (au rfl (Ah rfl ⟨by omega,λv hv=>Ah (show 2<=1000 by decide) (Ah hfl (hK _ _ (nxt (.isv v) _ _ ⟨rH hv,rfl⟩ (λk hk=>by cases hk) (by omega))))⟩)))))
  by_cases hw3:w < 3
  ·refine bF (λQ q=>i7 (λQ q=>aE (k:=ai) (λQ q=>ar (au rfl (aC ?_))) q) q) (isv _ λ_ _ z=>z);show Q (.d (.bool (decide (w < 3)))) _;rw[decide_eq_true hw3];exact q
  ·have ct3:∀Q:DQ,Q (.d (.bool aj)) (n+1)->w2 (ak 4) (wC (.int 3)) fY [ae (.w .tp),ae (.w (.ln (ks.map .str))),ae (.own (fs.map Fe.d)),ae (.w (.d d)),ae (.w (.d (.int w)))] (n+1) Q:=λQ q=>ar (au rfl (aC (by
    show Q (.d (.bool (decide (w < 3)))) _;rw[decide_eq_false hw3];exact q)))
   cases ks with
   |nil=>exact bF (λQ q=>fw (λQ q=>aE (k:=aj) ct3 q) (aE (k:=ai) (λQ q=>ar (au rfl (jC (jm q)))) q)) (isv _ λ_ _ z=>z)
   |cons a l=>
    refine a8 (λQ q=>fw (λQ q=>aE (k:=aj) ct3 q) (aE (k:=aj) (λQ q=>ar (au rfl (jC (jm q)))) q)) ?_;refine jc rfl (cX (ar (bf (Ah (by decide) ?_))));dsimp only;refine ar (au rfl (aC ?_));dsimp only[b7];refine iT (ds:=[.str "as",.str "as",.str "next"]) (r:=w-3) (by omega) (show w-3 < 3 by omega) λf hf'=>?_;refine ar (au rfl ?_);have hl:((a::l).map Cg).length<=1000:=by rw[Ab];exact hks
    refine iQ (m:=((a::l).map Cg).length) rfl (λQ q=>aT (au rfl q)) (by omega) (by rw[Ab,An];omega) (by omega) λr r0 r1=>pU r0 r1 λf' hf''=>?_;obtain⟨s,hs,rfl⟩:=v5 hf'';simp only[Ap,Aq,or_false]at hf';rcases hf' with rfl|rfl|rfl
    ·exact Ah (show 2<=1000 by decide) (Ah hfl (nxt (.as s) _ _ ⟨hok s hs,rfl⟩ (λk hk=>by cases hk;exact hs) (by omega)))
    ·exact Ah (show 2<=1000 by decide) (Ah hfl (nxt (.as s) _ _ ⟨hok s hs,rfl⟩ (λk hk=>by cases hk;exact hs) (by omega)))
    ·exact Ah (show 2<=1000 by decide) (Ah hfl (nxt (.nx s) _ _ ⟨hok s hs,rfl⟩ (λk hk=>by cases hk;exact hs) (by omega)))
theorem Oa:∀ws n Q,nZ ws n Q->ws.length=2:=λws n Q h=>by obtain⟨_,rfl,_⟩:=h;rfl
abbrev Zd:List Str:=["_law_tape_here","_law_known"]
theorem TC:∀ws n Q,nZ ws n Q->HZ (bE Zd ws) n {nx:=λ_ n=>Q (.d .none) n,rt:=Q}:=λws n Q h=>by
 obtain⟨ks,rfl,hks,hok,hn0,k⟩:=h;show HZ [ae (.w .tp),ae (.w (.ln (ks.map .str)))] n _;have isv:∀n',n'<=n+1->az (aw (aq (wC (.str "is")) (aq (aF jT (aq (ak 0) ao)) ao))) [ae (.w .tp),ae (.w (.ln (ks.map .str)))] n' {nx:=λ_ n=>Q (.d .none) n,rt:=Q}:=λn' hn'=>
  bb (cX (aC (cu (au rfl (Ah rfl ⟨by omega,λv hv=>Ah (show 2<=1000 by decide) (k (.isv v) _ (rH hv) rfl (λk hk=>by cases hk) (by omega))⟩)))))
 cases ks with
 |nil=>exact aD (bF (λQ q=>i7 (λQ q=>aE (k:=ai) (λQ q=>ar (au rfl (jC (jm q)))) q) q) (isv n (by omega)))
 |cons a l=>
  refine aD (dh (fw (λQ q=>aE (k:=aj) (λQ q=>ar (au rfl (jC (jm q)))) q) ?_));refine ar (gx (m:=2) rfl (by omega) (by decide) (by decide) λr r0 r1=>aC (lH ?_));show if decide (r=0)=ai then _ else _
  by_cases h:r=0
  ·rw[if_pos (decide_eq_true h)];exact isv (n+1) (by omega)
  ·rw[if_neg (by simpa using h)];dsimp only[aM];refine bb (cX (aC (ar (au rfl ?_))));have hl:((a::l).map Cg).length<=1000:=by rw[Ab];exact hks
   refine iQ (m:=((a::l).map Cg).length) rfl (λQ q=>aT (au rfl q)) (by omega) (by rw[Ab,An];omega) (by omega) λr r0 r1=>pU r0 r1 λf' hf''=>?_;obtain⟨s,hs,rfl⟩:=v5 hf'';exact Ah (show 2<=1000 by decide) (k (.as s) _ (hok s hs) rfl (λk hk=>by cases hk;exact hs) (by omega))
theorem Nh:∀ws n Q,mI ws n Q->ws.length=3:=λws n Q h=>by obtain⟨_,_,_,rfl,_⟩:=h;rfl
theorem KO:∀ws n Q,mI ws n Q->zY (bE ["_law_tape_here","_law_known","_law_open_ones","_law_way","_law_block","_law_pattern_here","_law_bound"] ws) n {nx:=λ_ n=>Q (.d .none) n,rt:=Q}:=λws n Q h=>by
 obtain⟨ks,os,wants,rfl,hks,hok,ho,ho',hop,hn0,k⟩:=h;show zY [ae (.w .tp),ae (.w (.ln (ks.map .str))),ae (.w (.d (.list (os.map λb=>.int (b:Nat))))),ah,ah,ah,ah] n _;refine aD (px (m:=12) rfl (by omega) (by decide) (by decide) λw w0 w1=>?_);dsimp only[Al];refine aD (lM rfl (λhw=>?_) (λhw=>?_))
 ·refine bb (cX (fZ (aC (bJ (au rfl (au rfl (D9 ks ⟨rfl,hks,hok,by omega,λfs n' hf1 hfs htm hrf hn'=>?_⟩)))))));refine yq rfl (by omega) λv hv=>?_;exact Ah (show 3<=1000 by decide) (jC (Ah (show 2<=1000 by decide) (k (.lay fs v) _ ⟨hfs,htm,FC hv,hf1⟩ ⟨hrf,λb hb=>by cases hb⟩ (by omega))))
 dsimp only[aM];refine aD (show aA 4 _ _ _ _ from ar (au rfl ?_));refine iQ (m:=(os.map λb:Nat=>Dg (b:Nat)).length) rfl (λQ q=>aT (au rfl q)) (by omega) (by rw[Ab];omega) (by rw[Ab];omega) λr r0 r1=>iT r0 r1 λb hb=>?_;obtain⟨b,hbo,rfl⟩:=Bg.mp hb;have hto:=hop b hbo;dsimp only[Al];refine aD (qe rfl (λh10=>?_) (λh10=>?_))
 ·refine bb (cX (ve (aC (bJ (au rfl (au rfl (D9 ks ⟨rfl,hks,hok,by omega,λf n' fo fb fu hn'=>?_⟩)))))));refine bJ (au rfl (au rfl (D9 ks ⟨rfl,hks,hok,by omega,λg n'' go gb gu hn''=>?_⟩)));refine au rfl (Ah (show 4<=1000 by decide) (jC (Ah (show 2<=1000 by decide) (k (.same f g b) _ ⟨⟨show 2<=4 by decide,λe he=>?_⟩,fb,gb⟩ ⟨⟨fu,λk hk=>Es _ (gu k hk),trivial⟩,λb' hb'=>by cases hb';exact hto⟩ (by omega)))));simp only[Ac.fs,Ap,Aq,or_false]at he;rcases he with rfl|rfl
  ·exact fo
  ·exact go
 dsimp only[aM];refine aD (qe rfl (λh11=>?_) (λh11=>?_))
 ·exact bb (cX (cX (aC (au rfl (Ah (show 2<=1000 by decide) (jC (Ah (show 2<=1000 by decide) (k (.go b) _ ⟨⟨show 0<=4 by decide,λe he=>by simp[Ac.fs]at he⟩,trivial⟩ ⟨trivial,λb' hb'=>by cases hb';exact hto⟩ (by omega)))))))))
 dsimp only[aM];refine aD ?_;unfold b8;refine bJ (au rfl (au rfl (D9 ks ⟨.ln (ks.map .str),rfl,rfl,hks,hok,by omega,λfs n' hf1 hfs hpt hrf hn'=>?_⟩)));refine Ah rfl ?_;dsimp only[bj,cn,aJ,Al];refine aD (tX rfl (λh7=>?_) (λh7=>?_))
 ·exact bb (cX (fZ (aC (au rfl (au rfl (Ah (show 3<=1000 by decide) (au rfl (Ah (show 2<=1000 by decide) (k (.look fs b) _ ⟨hfs,hf1,hpt⟩ ⟨hrf,λb' hb'=>by cases hb';exact hto⟩ (by omega))))))))))
 dsimp only[aM];refine bb (cX (cX (ar (bf (Ah (by decide) ?_)))));dsimp only;refine ar (au rfl (aC ?_));dsimp only[b7];refine iT (ds:=[.str "take",.str "take",.str "take",.str "read"]) (r:=w-4) (by omega) (show w-4 < 4 by omega) λf hf'=>?_;simp only[Ap,Aq,or_false]at hf';rcases hf' with rfl|rfl|rfl|rfl
 ·exact au rfl (Ah (show 2<=1000 by decide) (au rfl (Ah (show 2<=1000 by decide) (k (.take fs) _ ⟨hfs,hf1,hpt⟩ ⟨hrf,λb' hb'=>by cases hb'⟩ (by omega)))))
 ·exact au rfl (Ah (show 2<=1000 by decide) (au rfl (Ah (show 2<=1000 by decide) (k (.take fs) _ ⟨hfs,hf1,hpt⟩ ⟨hrf,λb' hb'=>by cases hb'⟩ (by omega)))))
 ·exact au rfl (Ah (show 2<=1000 by decide) (au rfl (Ah (show 2<=1000 by decide) (k (.take fs) _ ⟨hfs,hf1,hpt⟩ ⟨hrf,λb' hb'=>by cases hb'⟩ (by omega)))))
 ·exact au rfl (Ah (show 2<=1000 by decide) (au rfl (Ah (show 2<=1000 by decide) (k (.read fs) _ ⟨hfs,hf1,hpt⟩ ⟨hrf,λb' hb'=>by cases hb'⟩ (by omega)))))
def iP:List (List Str):=[[],["n"],["go","n"],["nm"]]
theorem S0{w:List Str}(h:w∈iP):w.length<=4/\(∀k∈w,ia k)/\w.Nodup/\lp w:=by
 have key:∀w∈iP,w.length<=4/\(∀k∈w,k.length<=4/\D8 k=ai)/\w.Nodup/\w.Pairwise λa b=>¬b.cps.toList < a.cps.toList:=by decide +kernel
 exact key w h
theorem TB{Q:List Aa->Int->Prop}{n:Int}(ss ks:List Str)(k:Q ((ss.map Cg).filter λx=>!bZ x (ks.map .str)) n):
  c9 (aJ 0) (cT (w2 (ak 0) (ak 1) (fD ai))) (ak 0) Q (ss.map .str) [] [ah,ae (.w (.ln (ks.map .str)))] n:=by
 refine qf (λd=>∃s:Str,d=.str s) (λx=>!bZ x (ks.map .str)) id (λd n Q' hd q=>?_) (λd n Q' hd q=>au rfl q) _ [] ah n (λd hd=>?_) ?_
 ·obtain⟨s,rfl⟩:=hd;exact aE (k:=!bZ (.str s) (ks.map .str)) (λQ q=>ar (au rfl (au rfl (Ah rfl ⟨tH ks,q⟩)))) q
 ·obtain⟨s,_,rfl⟩:=Bg.mp hd;exact⟨s,rfl⟩
 ·rw[Bq,List.map_id];exact k
theorem Ir(ss ks:List Str):((ss.map Cg).filter λx=>!bZ x (ks.map .str)).isEmpty=decide (∀k∈ss,k∈ks):=by
 rw[E9,List.isEmpty_iff,List.filter_eq_nil_iff,decide_eq_true_iff]
 constructor
 ·intro h k hk;have:=h (.str k) (Bg.mpr ⟨k,hk,rfl⟩);rw[mH]at this;simpa using this
 ·intro h d hd;obtain⟨k,hk,rfl⟩:=Bg.mp hd;rw[mH,decide_eq_true (h k hk)];simp
def rW(ws:List (List Str))(ks:List Str):Aa->Bool
 |.int j=>decide (∀k∈ws.getD j.toNat [],k∈ks)
 |_=>aj
def kB(ws:List (List Str))(ks:List Str):List Nat:=(Ba ws.length).filter λb=>decide (∀k∈ws.getD b [],k∈ks)
theorem Jo(ws:List (List Str))(ks:List Str):(bY 0 ws.length).filter (rW ws ks)=(kB ws ks).map λb=>.int (b:Nat):=by
 unfold bY kB;rw[List.filter_map];have e:(λi:Nat=>Dg (0+(i:Int)))=λb=>.int (b:Nat):=funext λi=>by rw[Int.zero_add]
 rw[e];rfl
theorem J0{Q:List Aa->Int->Prop}{n:Int}(ws:List (List Str))(ks:List Str)(k:Q ((kB ws ks).map λb=>.int (b:Nat)) n):
  c9 (aJ 0) (cT (w2 (aW (cQ [ah,ae 1] (ft (w2 (ak 2) (ak 0) aU)) (aJ 0) (cT (w2 (ak 0) (ak 1) (fD ai))) (ak 0))) (aW (aH ao)) bX)) (ak 0) Q (bY 0 ws.length) [] [ah,ae (.w (.ln (ks.map .str))),ae (.w (.d (.list (ws.map dX))))] n:=by
 refine qf (λd=>∃j:Nat,j < ws.length/\d=.int j) (rW ws ks) id (λd n Q' hd q=>?_) (λd n Q' hd q=>au rfl q) _ [] ah n (λd hd=>?_) ?_
 ·obtain⟨j,hj,rfl⟩:=hd;have hg:(ws.map dX)[j]?=ae (.tuple (ws[j].map .str)):=by rw[A1,Ak hj];rfl
  refine aE (k:=rW ws ks (.int j)) (λQ q=>ar (bf (jx (ds:=ws[j].map .str) (λQ q=>ar (au rfl (au rfl ?_))) (TB ws[j] ks (jC ?_))))) q
  ·show(match cS (ws.map dX) (j:Int)with|some d=>Q (.d d) n|none=>False);rw[fi hg];exact q
  ·have eo:rW ws ks (.int j)=((ws[j].map Cg).filter λx=>!bZ x (ks.map .str)).isEmpty:=by
    rw[Ir];show decide (∀k∈ws.getD (j:Int).toNat [],k∈ks)=_;rw[Bv,List.getD_eq_getElem?_getD,Ak hj,Fu]
   rw[eo]at q;exact q
 ·unfold bY at hd;obtain⟨j,hj,rfl⟩:=Bg.mp hd;exact⟨j,B8.mp hj,by rw[Int.zero_add]⟩
 ·rw[Bq,List.map_id,Jo];exact k
theorem Pd{ws w0:List (List Str)}{ks:List Str}(h:ws=[]::w0):0 < (kB ws ks).length:=
 List.length_pos_of_mem (a:=0) (Cr.mpr ⟨B8.mpr (by rw[h];simp),by subst h;simp⟩)
theorem RI{ws:List (List Str)}{ks:List Str}{b:Nat}(h:b∈kB ws ks):∃w,ws[b]?=ae w/\∀k∈w,k∈ks:=by
 obtain⟨h1,h2⟩:=Cr.mp h;have hj:=B8.mp h1;refine⟨ws[b],Ak hj,?_⟩;have:=of_decide_eq_true h2;rw[List.getD_eq_getElem?_getD,Ak hj,Fu]at this;exact this
theorem AW:∀{fs:List Fe}{ks ks':List Str},(∀k∈ks,k∈ks')->rF ks fs->rF ks' fs
 |[],_,_,_,_=>trivial
 |f::r,ks,ks',h,z=>⟨λk hk=>h k (z.1 k hk),AW (λk hk=>(Bb.mp hk).elim (λq=>Es _ (h k q)) λq=>Bc _ q) z.2⟩
theorem Ac.right_mono{ws:List (List Str)}{ks ks':List Str}{a:Ac}(h:∀k∈ks,k∈ks')(z:a.right ws ks):a.right ws ks':=
 ⟨AW h z.1,λb hb=>by obtain⟨w,h1,h2⟩:=z.2 b hb;exact⟨w,h1,λk hk=>h k (h2 k hk)⟩⟩
theorem PX{ws:List (List Str)}{w ks:List Str}{as:List Ac}{a:Ac}(h:mq ws (w,as))(hk:∀k∈ks,k∈w++as.flatMap Ac.bs)(ha:a.right ws ks):mq ws (w,as++[a]):=λp b hb=>by
 dsimp only at hb ⊢;by_cases hp:p < as.length
 ·rw[C8 hp]at hb;have:=h p b hb;unfold kn at this ⊢;rw[List.take_append_of_le_length (Ft hp)];exact this
 ·rw[B6 (by omega)]at hb;have e0:p-as.length=0:=by
   by_cases e:p-as.length=0
   ·exact e
   ·rw[List.getElem?_eq_none (by rw[Av];omega)]at hb;cases hb
  rw[e0]at hb;cases hb;have ep:p=as.length:=by omega
  subst ep;refine Ac.right_mono (λk z=>?_) ha;unfold kn;rw[List.take_append_of_le_length (Ao _),List.take_length];exact hk k z
structure ActO(ws:List (List Str))(want ks:List Str)(acts:List Ac):Prop where
 mem:∀k,k∈ks↔k∈want++acts.flatMap Ac.bs
 ok:∀k∈ks,ia k
 fs:∀a∈acts,lT a
 ri:mq ws (want,acts)
def oi(ws:List (List Str))(bl:List Aa)(want:List Str)(nb:Int)(ds:List Aa)(δ:Sl)(n:Int):Prop:=∃(ks:List Str)(acts:List Ac)(x2 x7 x8 x9 x10:Option SV),
 δ=[ae (.w .tp),ae (.w (.d (.list (ws.map dX)))),x2,ae (.own bl),ae (.w (.d (dX want))),ae (.own (ks.map .str)),ae (.own (acts.map Ac.d)),x7,x8,x9,x10]/\ActO ws want ks acts/\ks.length+4*ds.length<=40/\acts.length+ds.length<=8/\n+11*(ds.length:Int)<=nb+89
theorem KQ{ws w0:List (List Str)}{bl r:List Aa}{want:List Str}{d:Aa}{ks:List Str}{acts:List Ac}{nb n:Int}{x7 x8 x9 x10:Option SV}{K:DEnds}(hw0:ws=[]::w0)(hwl:ws.length<=6)(hnb:nb+89 < 2 ^ 39)(O:ActO ws want ks acts)(hk:ks.length+4*(r.length+1)<=40)(ha:acts.length+(r.length+1)<=8)(hn:n+11*((r.length:Int)+1)<=nb+89)
  (kN:∀δ n,oi ws bl want nb r δ n->K.nx δ n):
  av (aA 8 (aW (cQ [ah,ae 5,ae 1] (dN (wB gc (aq (ak 1) ao))) (aJ 0) (cT (w2 (aW (cQ [ah,ae 1] (ft (w2 (ak 2) (ak 0) aU)) (aJ 0) (cT (w2 (ak 0) (ak 1) (fD ai))) (ak 0))) (aW (aH ao)) bX)) (ak 0)))) (av (b8 (aF mI (aq (ak 0) (aq (dC 5) (aq (ak 8) ao)))) (di 2 (bj (aJ 9) (bj (aJ 10) cn)))) (av (br 6 (ak 9)) (bo (fA (ak 10)) (aJ 7) (aL (cT (w2 (ak 7) (dC 5) (fD ai))) (br 5 (ak 7)) aM))))
   [ae (.w .tp),ae (.w (.d (.list (ws.map dX)))),ae (.w (.d d)),ae (.own bl),ae (.w (.d (dX want))),ae (.own (ks.map .str)),ae (.own (acts.map Ac.d)),x7,x8,x9,x10] n K:=by
 refine aD (show aA 8 _ _ _ _ from bf ?_);unfold cQ dN;refine aT (au rfl ?_);refine Ah ⟨by omega,by rw[Ab];omega⟩ ?_;rw[Bv,Ab];refine J0 ws ks ?_;dsimp only[Al];refine aD ?_;unfold b8;have ol:(kB ws ks).length<=6:=A3 (Fw _ _) (by rw[Di];exact hwl);refine bW (au rfl (gf rfl (au rfl ?_)));refine D9 ks (D9 (kB ws ks) (D9 ws ⟨rfl,by omega,O.ok,Pd hw0,by omega,λb hb=>RI hb,by omega,λact n' hfs hri hn'=>?_⟩));refine Ah rfl ?_;dsimp only[bj,cn,aJ,Al];refine aD (kZ rfl (λQ q=>au rfl q) (by rw[Ab];omega) ?_);dsimp only[Al];unfold bo fA;refine au rfl ?_;dsimp only;have hbs:=Hx hfs.1;refine fW (λds δ n''=>∃(ks' dn bs':List Str)(x7:Option SV),ds=bs'.map .str/\dn++bs'=act.bs/\(∀k,k∈ks'↔k∈ks++dn)/\n''=n'/\δ=[ae (.w .tp),ae (.w (.d (.list (ws.map dX)))),ae (.w (.d d)),ae (.own bl),ae (.w (.d (dX want))),ae (.own (ks'.map .str)),ae (.own (acts.map Ac.d++[act.d])),x7,ae (.w (.d (.list ((kB ws ks).map λb=>.int (b:Nat))))),ae (.w (.d act.d)),ae (.w (.d (.list (act.bs.map .str))))]/\ks'.length+bs'.length<=ks.length+4)
  (λδ n'' I=>?_) (λe r' δ n'' N I kN'=>?_) _ _ _ ⟨ks,[],act.bs,x7,rfl,rfl,λk=>by simp,rfl,rfl,by have:=hbs.2;omega⟩
 ·obtain⟨ks',dn,bs',x7,e,hdn,hm,rfl,rfl,hk'⟩:=I;cases List.map_eq_nil_iff.mp e.symm;rw[Bt]at hdn;subst hdn;have hm':∀k,k∈ks'↔k∈want++(acts++[act]).flatMap Ac.bs:=λk=>by
   rw[hm k,Bb,O.mem k,List.flatMap_append,<-Bp,Bb (s:=want++acts.flatMap Ac.bs)];simp
  refine kN _ _ ⟨ks',acts++[act],_,_,_,_,_,by rw[Be];rfl,⟨hm',λk z=>?_,λa z=>?_,PX O.ri (λk z=>(O.mem k).mp z) hri⟩,by omega,by rw[Af,Av];omega,by omega⟩
  ·exact(Bb.mp ((hm k).mp z)).elim (O.ok k) (hbs.1 k)
  ·rcases Bb.mp z with z|z
   ·exact O.fs a z
   ·rw[Bo]at z;subst z;exact hfs
 ·obtain⟨ks',dn,bs',x7,e',hdn,hm,rfl,rfl,hk'⟩:=I;obtain⟨s,bs'',rfl,rfl,rfl⟩:=F2.mp e'.symm;rw[An]at hk';dsimp only[aJ,Al];have hdn':(dn++[s])++bs''=act.bs:=by rw[Bp];exact hdn
  refine dh (ar (au rfl (gf rfl (Ah rfl ⟨tH ks',?_⟩))));refine jd (λz=>?_) (λz=>?_)
  ·refine kZ rfl (λQ q=>au rfl q) (by rw[Ab];omega) (kN' _ _ ⟨ks'++[s],dn++[s],bs'',ae (.w (.d (.str s))),rfl,hdn',λk=>?_,rfl,?_,by rw[Af,Av];omega⟩)
   ·rw[Bb,hm k,<-Bp,Bb (s:=ks++dn)]
   ·rw[Be];rfl
  ·have hs:s∈ks':=by
    have z':(!bZ (.str s) (ks'.map .str))=aj:=z;rw[mH]at z';simpa using z'
   refine kN' _ _ ⟨ks',dn++[s],bs'',ae (.w (.d (.str s))),rfl,hdn',λk=>?_,rfl,rfl,by omega⟩;rw[<-Bp,Bb (s:=ks++dn),Bo,<-hm k];exact⟨.inl,λq=>q.elim id λe=>e▸hs⟩
def xP(n0:Int)(ds:List Aa)(δ:Sl)(n:Int):Prop:=∃(more:List (List Str))(x2:Option SV),δ=[ae (.w .tp),ae (.own (([]::more).map dX)),x2,ah,ah,ah,ah,ah,ah,ah,ah]/\more.length+ds.length<=5/\(∀w∈more,w∈iP)/\n+(ds.length:Int)<=n0+6
def oh(ws:List (List Str))(n0:Int)(ds:List Aa)(δ:Sl)(n:Int):Prop:=∃(bl:List Bl)(re:List (List Str))(x2 x4 x5 x6 x7 x8 x9 x10:Option SV),
 δ=[ae (.w .tp),ae (.w (.d (.list (ws.map dX)))),x2,ae (.own (bl.map kE)),x4,x5,x6,x7,x8,x9,x10]/\ds=re.map dX/\bl.map (·.1)++re=ws/\(∀b∈bl,m5 b/\mq ws b)/\n+90*(ds.length:Int)<=n0+600
theorem Oi:∀ws n Q,tQ ws n Q->ws.length=1:=λws n Q h=>by obtain⟨rfl,_⟩:=h;rfl
theorem QZ{ws w0 re:List (List Str)}{bl:List Bl}{want:List Str}{n0 n:Int}{x2 x5 x6 x7 x8 x9 x10:Option SV}{K:DEnds}(hw:∀w∈ws,w∈iP)(hw0:ws=[]::w0)(hwl:ws.length<=6)(hn0:n0+600 < 2 ^ 39)(hb:bl.map (·.1)++want::re=ws)(hbo:∀b∈bl,m5 b/\mq ws b)(hn:n+90*((re.length:Int)+1)<=n0+600)
  (kN:∀δ n,oh ws n0 (re.map dX) δ n->K.nx δ n):
  av (bz 5 (kM (ak 4))) (av (bz 6 (aH ao)) (av (bo (dN (w2 (aW (aH (aq (wC (.int (2))) (aq (wC (.int (3))) (aq (wC (.int (1))) (aq (wC (.int (4))) (aq (wC (.int (2))) (aq (wC (.int (0))) (aq (wC (.int (3))) (aq (wC (.int (8))) ao)))))))))) (aF cq (aq (ak 0) (aq (wC (.int (8))) ao))) aU)) (aJ 2) (av (aA 8 (aW (cQ [ah,ae 5,ae 1] (dN (wB gc (aq (ak 1) ao))) (aJ 0) (cT (w2 (aW (cQ [ah,ae 1] (ft (w2 (ak 2) (ak 0) aU)) (aJ 0) (cT (w2 (ak 0) (ak 1) (fD ai))) (ak 0))) (aW (aH ao)) bX)) (ak 0)))) (av (b8 (aF mI (aq (ak 0) (aq (dC 5) (aq (ak 8) ao)))) (di 2 (bj (aJ 9) (bj (aJ 10) cn)))) (av (br 6 (ak 9)) (bo (fA (ak 10)) (aJ 7) (aL (cT (w2 (ak 7) (dC 5) (fD ai))) (br 5 (ak 7)) aM)))))) (b9 6 (br 3 (aw (aq (ak 4) (aq (wB ir (aq (ak 6) ao)) ao)))))))
   [ae (.w .tp),ae (.w (.d (.list (ws.map dX)))),x2,ae (.own (bl.map kE)),ae (.w (.d (dX want))),x5,x6,x7,x8,x9,x10] n K:=by
 obtain⟨hss,hso,hnd,hup⟩:=S0 (hw want (by rw[<-hb];exact Bc _ As));have hbl:bl.length+(re.length+1)<=6:=by rw[<-hb,Af,Ab,An]at hwl;exact hwl
 refine aD (M5 (ds:=want.map .str) rfl ?_);dsimp only[Al];refine aD (jl ?_);dsimp only[Al];refine aD (xY (L:=[.int 2,.int 3,.int 1,.int 4,.int 2,.int 0,.int 3,.int 8]) (M:=8) rfl (λQ q=>bf (Ah (by decide) q)) (by omega) rfl (by decide) (by decide) (λd hd=>?_) (by decide) λj hj=>?_)
 ·simp only[Ap,Aq,or_false]at hd;rcases hd with rfl|rfl|rfl|rfl|rfl|rfl|rfl|rfl
  ·exact⟨2,by decide,rfl⟩
  ·exact⟨3,by decide,rfl⟩
  ·exact⟨1,by decide,rfl⟩
  ·exact⟨4,by decide,rfl⟩
  ·exact⟨2,by decide,rfl⟩
  ·exact⟨0,by decide,rfl⟩
  ·exact⟨3,by decide,rfl⟩
  ·exact⟨8,by decide,rfl⟩
 refine fW (oi ws (bl.map kE) want n) (λδ n' I=>?_) (λd r' δ n' N I kN'=>?_) _ _ _ ⟨want,[],_,_,_,_,_,rfl,⟨λk=>by simp,hso,λa ha=>by simp at ha,λp a ha=>by simp at ha⟩,by rw[eU];omega,by rw[eU];simpa using hj,by rw[eU];omega⟩
 ·obtain⟨ks,acts,y2,y7,y8,y9,y10,rfl,O,_,ha,hn'⟩:=I;dsimp only;refine gK rfl ?_;dsimp only[Al];refine jc rfl (cX (au rfl (aT (au rfl (ky ?_)))));have ha':acts.length<=8:=by simpa using ha
  refine Ah (show 2<=1000 by decide) (Ah (by rw[Ab];omega) (kN _ _ ⟨bl++[(want,acts)],re,_,_,_,_,_,_,_,_,by rw[Be];rfl,rfl,by rw[Be,Bp];exact hb,λb z=>?_,?_⟩))
  ·rcases Bb.mp z with z|z
   ·exact hbo b z
   ·rw[Bo]at z;subst z;exact⟨⟨hss,hso,ha',O.fs,hnd,hup⟩,O.ri⟩
  ·have h0:n'<=n+89:=by simpa using hn'
   rw[Ab];omega
 ·obtain⟨ks,acts,y2,y7,y8,y9,y10,rfl,O,hk,ha,hn'⟩:=I;rw[An]at hk ha hn';dsimp only[aJ,Al];exact KQ hw0 hwl (by omega) O hk ha (by omega) kN'
theorem Lm:∀ws n Q,tQ ws n Q->Ii (bE ["_law_tape_here","_law_wants","_law_k","_law_blocks","_law_want","_law_known","_law_acts","_law_name","_law_open_ones","_law_act_here","_law_bound"] ws) n {nx:=λ_ n=>Q (.d .none) n,rt:=Q}:=λws n0 Q h=>by
 obtain⟨rfl,hn0,k⟩:=h;show Ii [ae (.w .tp),ah,ah,ah,ah,ah,ah,ah,ah,ah,ah] n0 _;refine aD (show bz 1 _ _ _ _ from Ah (Bk _) (Ah (by decide) ?_));dsimp only[Al];refine aD (xY (L:=[.int 0,.int 1,.int 2,.int 1,.int 0,.int 2,.int 5]) (M:=5) rfl (λQ q=>bf (Ah (by decide) q)) (by omega) rfl (by decide) (by decide) (λd hd=>?_) (by decide) λj hj=>?_)
 ·simp only[Ap,Aq,or_false]at hd;rcases hd with rfl|rfl|rfl|rfl|rfl|rfl|rfl
  ·exact⟨0,by decide,rfl⟩
  ·exact⟨1,by decide,rfl⟩
  ·exact⟨2,by decide,rfl⟩
  ·exact⟨1,by decide,rfl⟩
  ·exact⟨0,by decide,rfl⟩
  ·exact⟨2,by decide,rfl⟩
  ·exact⟨5,by decide,rfl⟩
 refine fW (xP n0) (λδ n I=>?_) (λd r δ n N I kN=>?_) _ _ _ ⟨[],ah,rfl,by rw[eU];simpa using hj,λd hd=>by simp at hd,by rw[eU];omega⟩
 ·obtain⟨more,x2,rfl,hl,hm,hn⟩:=I;dsimp only;refine aD (jl ?_);dsimp only[Al];refine gK rfl ?_;dsimp only[Al];refine aD ?_;unfold bo fA;refine au rfl ?_;dsimp only;have hw:∀w∈([]:List Str)::more,w∈iP:=λd hd=>by
   rcases Ap.mp hd with rfl|z
   ·simp[iP]
   ·exact hm d z
  have hwl:(([]:List Str)::more).length<=6:=by rw[An];simp at hl;omega
  refine fW (oh ([]::more) n0) (λδ n' I=>?_) (λd r δ n' N I kN=>?_) _ _ _ ⟨[],[]::more,_,_,_,_,_,_,_,_,rfl,rfl,rfl,λb hb=>by simp at hb,?_⟩
  ·obtain⟨bl,re,y2,y4,y5,y6,y7,y8,y9,y10,rfl,er,hb,hbo,hn'⟩:=I;cases List.map_eq_nil_iff.mp er.symm;rw[Bt]at hb;dsimp only;refine gK rfl ?_;dsimp only[Al];refine bb (aT (au rfl (ky (k bl n' ⟨by have:=congrArg List.length hb;simp at this;omega,?_,λb z=>⟨(hbo b z).1,by rw[hb];exact(hbo b z).2⟩⟩ ⟨more,hb⟩ (by simpa using hn')))));rw[<-hb,Ab]at hwl;exact hwl
  ·obtain⟨bl,re,y2,y4,y5,y6,y7,y8,y9,y10,rfl,er,hb,hbo,hn'⟩:=I;obtain⟨want,re,rfl,rfl,rfl⟩:=F2.mp er.symm;rw[An,Ab]at hn';dsimp only[aJ,Al];exact QZ hw rfl hwl hn0 hb hbo (by omega) kN
  ·have h1:n<=n0+6:=by simpa using hn
   have h2:(((([]:List Str)::more).map dX).length:Int)<=6:=by rw[Ab];omega
   omega
 ·obtain⟨more,x2,rfl,hl,hm,hn⟩:=I;rw[An]at hl hn;dsimp only[aJ,Al];refine jc rfl (ar (bf (Ah (by decide) (Ah (by decide) (Ah (by decide) (Ah (by decide) (Ah (by decide) (Ah (by decide) ?_))))))));dsimp only;refine gx (m:=5) rfl (by omega) (by decide) (by decide) λq q0 q1=>iT (ds:=[dX [],dX ["n"],dX ["go","n"],dX ["nm"],dX []]) q0 q1 λw hw=>?_;have:∃v∈iP,w=dX v:=by
   simp only[Ap,Aq,or_false]at hw;rcases hw with rfl|rfl|rfl|rfl|rfl
   ·exact⟨[],by simp[iP],rfl⟩
   ·exact⟨["n"],by simp[iP],rfl⟩
   ·exact⟨["go","n"],by simp[iP],rfl⟩
   ·exact⟨["nm"],by simp[iP],rfl⟩
   ·exact⟨[],by simp[iP],rfl⟩
  obtain⟨v,hv,rfl⟩:=this;refine Ah (by rw[Ab,An];omega) (kN _ _ ⟨more++[v],ae (.w (.d d)),?_,by rw[Af,Av];omega,λe he=>?_,by omega⟩)
  ·rw[show([]::(more++[v]):List (List Str))=([]::more)++[v]from rfl,Be];rfl
  rcases Bb.mp he with z|z
  ·exact hm e z
  ·rw[Bo]at z;subst z;exact hv
section
variable{δ:Sl}{n:Int}{K:DEnds}{i:Nat}{s a b c:Str}{r:List Aa}{k:Bool}{Q:Bool->Int->Prop}
theorem mQ{A B:c8}(ha:∀Q:Bool->Int->Prop,Q aj n->A δ n Q)(q:Q aj n):dz A B δ n Q:=ha _ (by show if aj=ai then _ else _;rw[if_neg Ae];exact q)
end
theorem HX{α:Type}{f:α->Aa}{P:α->Prop}:∀{ds:List Aa},(∀d∈ds,∃x,P x/\d=f x)->∃xs:List α,ds=xs.map f/\∀x∈xs,P x
 |[],_=>⟨[],rfl,λx hx=>by simp at hx⟩
 |d::r,h=>by
  obtain⟨x,hx,rfl⟩:=h d As;obtain⟨xs,rfl,hxs⟩:=HX λe he=>h e (Am _ he);exact⟨x::xs,rfl,λy hy=>(Ap.mp hy).elim (λe=>e▸hx) (hxs y)⟩
theorem MF:∀ws n Q,pL ws n Q->ws.length=2:=λws n Q h=>by obtain⟨_,rfl,_⟩:=h;rfl
def vB(m:Nat)(n0:Int)(ds:List Aa)(δ:Sl)(n:Int):Prop:=∃(ns:List Nt)(x y:Option SV),δ=[ae (.w .tp),ae (.w (.d (.int m))),ae (.own (ns.map cR)),x,y]/\ns.length+ds.length<=m/\(∀q∈ns,kD q)/\n+6*(ds.length:Int)<=n0+100
theorem Ui:∀ws n Q,pL ws n Q->GZ (bE ["_law_tape_here","_law_most","_law_found","_law_k","_law_row_here"] ws) n {nx:=λ_ n=>Q (.d .none) n,rt:=Q}:=λws n0 Q h=>by
 obtain⟨m,rfl,hm,hn0,k⟩:=h;show GZ [ae (.w .tp),ae (.w (.d (.int m))),ah,ah,ah] n0 _;refine aD (jl ?_);dsimp only[Al];refine aD ?_;unfold bo dN;refine iQ (m:=(m:Int)+1) rfl (λQ q=>ar (au rfl (aC q))) (by omega) (by omega) (by omega) λr r0 r1=>?_;refine Ah ⟨by omega,by omega⟩ ?_;have hr:r.toNat<=m:=by omega
 refine fW (vB m n0) (λδ n I=>?_) (λd r' δ n N I kN=>?_) _ _ _ ⟨[],ah,ah,rfl,by rw[eU];simpa using hr,λd hd=>by simp at hd,by rw[eU];omega⟩
 ·obtain⟨ns,x,y,rfl,hl,hns,hn⟩:=I;dsimp only;refine gK rfl ?_;dsimp only[Al];exact bb (aT (au rfl (ky (k ns n ⟨by simpa using hl,hns⟩ (by simpa using hn)))))
 ·obtain⟨ns,x,y,rfl,hl,hns,hn⟩:=I;rw[An]at hl hn;dsimp only[aJ,Al];refine aD (show aA 4 _ _ _ _ from aT (bf ?_));unfold cQ;dsimp only;refine cu (au rfl (Ah rfl ⟨by omega,λs s1 s4=>?_⟩));refine Ah ⟨by omega,by omega⟩ ?_;rw[Bv];refine uO (λv=>cD v=ai) 1 (λd n Q' hn q=>cu (au rfl (Ah rfl ⟨by omega,λv hv=>q v _ (rH hv) (by omega)⟩))) _ [] ah _ (by rw[eU];omega) λrow n' hrl hrow hn'=>?_;rw[eU]at hrl hn';rw[Bq];refine ky ?_;dsimp only[Al];refine jc rfl (cX (au rfl (yq rfl (by omega) λv hv=>?_)));refine Ah (show 2<=1000 by decide) (Ah (by rw[Ab];omega) (kN _ _ ⟨ns++[(row,v)],_,_,by rw[Be];rfl,by rw[Af,Av];omega,λe he=>?_,by omega⟩));rcases Bb.mp he with z|z
  ·exact hns e z
  ·rw[Bo]at z;subst z;exact⟨⟨⟨by show row.length<=4;omega,by show 1<=row.length;omega⟩,hrow⟩,FC hv⟩
theorem JE:∀ws n Q,pG ws n Q->ws.length=1:=λws n Q h=>by obtain⟨rfl,_⟩:=h;rfl
theorem QH:∀ws n Q,pG ws n Q->CQ (bE ["_law_tape_here","_law_programs"] ws) n {nx:=λ_ n=>Q (.d .none) n,rt:=Q}:=λws n0 Q h=>by
 obtain⟨rfl,hn0,k⟩:=h;show CQ [ae (.w .tp),ah] n0 _;refine aD (show bz 1 _ _ _ _ from ?_);unfold bz cQ dN;refine ar (bf (Ah (by decide) ?_));dsimp only;refine gx (m:=8) rfl (by omega) (by decide) (by decide) λq q0 q1=>iT (ds:=[.int 2,.int 1,.int 2,.int 3,.int 2,.int 1,.int 0,.int 5]) q0 q1 λd hd=>?_;have hj:∃j:Nat,j<=5/\d=.int j:=by
  simp only[Ap,Aq,or_false]at hd;rcases hd with rfl|rfl|rfl|rfl|rfl|rfl|rfl|rfl
  ·exact⟨2,by decide,rfl⟩
  ·exact⟨1,by decide,rfl⟩
  ·exact⟨2,by decide,rfl⟩
  ·exact⟨3,by decide,rfl⟩
  ·exact⟨2,by decide,rfl⟩
  ·exact⟨1,by decide,rfl⟩
  ·exact⟨0,by decide,rfl⟩
  ·exact⟨5,by decide,rfl⟩
 obtain⟨j,hj,rfl⟩:=hj;refine Ah ⟨by omega,by omega⟩ ?_;rw[Bv];refine uO (λd=>∃P,(rD P/\js P)/\d=eI P) 600 (λd n Q' hn q=>cu (au rfl (Ah rfl ⟨by omega,λP n' hP hP' hn'=>q (eI P) n' ⟨P,⟨hP,hP'⟩,rfl⟩ (by omega)⟩))) _ [] ah _ (by rw[eU];omega) λds n1 hpl hps0 hn1=>?_;rw[eU]at hpl hn1;rw[Bq];obtain⟨ps,rfl,hps⟩:=HX hps0;clear hps0;rw[Ab]at hpl;dsimp only[Al];have aQ:∀(ps':Pg)(n2:Int),ps'.length<=5->(∀P∈ps',rD P/\js P)->n2<=n1+1->b9 1 (az (aw (aq (wB ir (aq (ak 1) ao)) (aq (aF pL (aq (ak 0) (aq (w2 (aW (aH (aq (wC (.int (4))) (aq (wC (.int (3))) (aq (wC (.int (6))) (aq (wC (.int (12))) ao)))))) (aF cq (aq (ak 0) (aq (wC (.int (4))) ao))) aU) ao))) ao)))) [ae (.w .tp),ae (.own (ps'.map eI))] n2 {nx:=λ_ n=>Q (.d .none) n,rt:=Q}:=λps' n2 hl' hp' hn2=>by
  refine gK rfl ?_;dsimp only[Al];refine bb (cX (aT (au rfl (ky (bJ (au rfl (ar (bf (Ah (by decide) ?_)))))))));dsimp only;refine gx (m:=4) rfl (by omega) (by decide) (by decide) λr r0 r1=>iT (ds:=[.int 4,.int 3,.int 6,.int 12]) r0 r1 λd hd=>?_;have hm:∃m:Nat,m<=12/\d=.int m:=by
   simp only[Ap,Aq,or_false]at hd;rcases hd with rfl|rfl|rfl|rfl
   ·exact⟨4,by decide,rfl⟩
   ·exact⟨3,by decide,rfl⟩
   ·exact⟨6,by decide,rfl⟩
   ·exact⟨12,by decide,rfl⟩
  obtain⟨m,hm,rfl⟩:=hm;exact D9 m ⟨rfl,hm,by omega,λns n' hns hn'=>Ah (show 2<=1000 by decide) (k ps' _ n' ⟨hl',λP hP=>(hp' P hP).1⟩ (λP hP=>(hp' P hP).2) ⟨A3 hns.1 hm,hns.2⟩ (by omega))⟩
 refine aD (dh ?_);refine(show cT _ _ _ _ from ar (aT (gf rfl (BZ (aC (lH ?_))))));rw[Ab];show if decide ((ps.length:Int)=2)=ai then _ else _
 by_cases h2:(ps.length:Int)=2
 ·rw[if_pos (decide_eq_true h2)];refine ar (gx (m:=4) rfl (by omega) (by decide) (by decide) λq q0 q1=>aC (lH ?_));show if decide (q=0)=ai then _ else _
  by_cases hq:q=0
  ·rw[if_pos (decide_eq_true hq)];have hl2:ps.length=2:=by omega
   obtain⟨P,P',rfl⟩:∃P P',ps=[P,P']:=by
    match ps,hl2 with
    |[P,P'],_=>exact⟨P,P',rfl⟩
   refine(show fQ 1 _ _ _ _ _ from ar (gf rfl (aC ?_)));refine(show aU (.ln [eI P,eI P']) (.d (.int 0)) _ _ from ?_);refine aQ [P,P] _ (show 2<=5 by decide) (λR hR=>?_) (by omega);simp only[Ap,Aq,or_false,or_self]at hR;subst hR;exact hps _ As
  ·rw[if_neg (by simpa using hq)];exact aQ ps _ (by omega) hps (by omega)
 ·rw[if_neg (by simpa using h2)];exact aQ ps _ (by omega) hps (by omega)
theorem dH{i j n:Int}{Q:DQ}(k:Q (.d (.int (i+j))) n):b7 (λi j=>.int (i+j)) (.d (.int i)) (.d (.int j)) n Q:=k
theorem Q1(as:List Ac)(h:∀a∈as,lT a):(as.flatMap Ac.bs).length<=4*as.length:=by
 induction as with
 |nil=>exact Bk _
 |cons a r ih=>
  rw[Em,Af,An];have:=(Hx (h a As).1).2;have:=ih λb hb=>h b (Am _ hb);omega
theorem NR{b:Bl}(ob:m5 b)(p:Nat):(kn b.1 b.2 p).length<=36:=by
 unfold kn;rw[Af];have:=Q1 (b.2.take p) λa ha=>ob.2.2.2.1 a (De ha);have:=List.length_take_le p b.2;have:=ob.1;have:=ob.2.2.1;have:=List.length_take_le' p b.2;omega
theorem fL{δ:Sl}{n:Int}{Q:DQ}{u:c8}{v w:DT}{b:Bool}(hu:∀Q:Bool->Int->Prop,Q b n->u δ n Q)(k:if b=ai then v δ n Q else w δ n Q):eO u v w δ n Q:=hu _ k
theorem jy{α:Type}{c:c8}{w:DT}{Q:List Aa->Int->Prop}{aQ:Sl}(f g:α->Aa)(p:α->Bool):∀(xs:List α)(acc:List Aa)(x:Option SV)(n:Int),(∀a∈xs,∀(n:Int)(Q':Bool->Int->Prop),Q' (p a) n->c (ae (.w (.d (f a)))::aQ) n Q')->(∀a∈xs,∀(n:Int)(Q':DQ),Q' (.d (g a)) n->w (ae (.w (.d (f a)))::aQ) n Q')->Q (acc++(xs.filter p).map g) n->c9 (aJ 0) c w Q (xs.map f) acc (x::aQ) n
 |[],acc,x,n,_,_,q=>by rw[List.filter_nil,List.map_nil,Bt]at q;exact q
 |a::r,acc,x,n,hp,h,q=>by
  simp only[Bi,c9,aJ,Ff];refine hp a As n _ ?_;cases e:p a with
  |true=>
   simp only[if_true];refine h a As n _ (jy f g p r (acc++[g a]) _ n (λb hb=>hp b (Am _ hb)) (λb hb=>h b (Am _ hb)) ?_);rw[Dn,if_pos e,Bi]at q;rw[Bp];exact q
  |false=>
   simp only[Fg,if_false];refine jy f g p r acc _ n (λb hb=>hp b (Am _ hb)) (λb hb=>h b (Am _ hb)) ?_;rw[Dn,if_neg (by rw[e];exact Ae)]at q;exact q
structure HandAt(ps:Pg)(hs:List Hn)(h:Nat)(P:List Bl)(xb xp:Nat)(nm:Nm)(w:List Str)(as:List Ac):Prop where
 prog:ps[h]?=ae P
 hand:hs[h]?=ae (xb,xp,nm)
 blk:P[xb]?=ae (w,as)
 hn:okHn (w,as) (xb,xp,nm)
theorem iZ{ps:Pg}{hs:List Hn}(ok:okHs ps hs){h:Nat}(hh:h < ps.length):∃P xb xp nm w as,HandAt ps hs h P xb xp nm w as:=by
 have hP:ps[h]?=ae ps[h]:=Ak hh;obtain⟨⟨xb,xp,xn⟩,⟨w,as⟩,e1,e2,e3⟩:=ok.2 h _ hP;exact⟨_,xb,xp,xn,w,as,hP,e1,e2,e3⟩
section
variable{ps:Pg}{hs:List Hn}{h:Nat}{P:List Bl}{xb xp:Nat}{nm:Nm}{w:List Str}{as:List Ac}
theorem HandAt.act(H:HandAt ps hs h P xb xp nm w as):bK ps hs h=as[xp]?:=by
 unfold bK;rw[H.prog,H.hand];show(P[xb]?.bind λb=>b.2[xp]?)=_;rw[H.blk];rfl
theorem HandAt.nms(H:HandAt ps hs h P xb xp nm w as):okN nm:=H.hn.n
theorem HandAt.nmq(H:HandAt ps hs h P xb xp nm w as):iu hs h=nm:=by unfold iu;rw[H.hand];rfl
theorem HandAt.ok(H:HandAt ps hs h P xb xp nm w as)(ok:cz ps){a:Ac}(e:bK ps hs h=ae a):lT a:=by
 rw[H.act]at e;have hP:=(ok.2 P (A5 H.prog)).2.2 (w,as) (A5 H.blk);exact hP.1.2.2.2.1 a (A5 e)
theorem HandAt.hD(H:HandAt ps hs h P xb xp nm w as):(hs.map bP)[h]?=ae (.tuple [.int xb,.int xp,cG nm]):=by rw[A1,H.hand];rfl
theorem HandAt.pD(H:HandAt ps hs h P xb xp nm w as):(ps.map eI)[h]?=ae (.tuple (P.map kE)):=by rw[A1,H.prog];rfl
theorem HandAt.bD(H:HandAt ps hs h P xb xp nm w as):(P.map kE)[xb]?=ae (.tuple [dX w,.tuple (as.map Ac.d)]):=by rw[A1,H.blk];rfl
end
theorem yX{δ:Sl}{n:Int}{Q:DQ}{i j xp:Nat}{as:List Ac}(e4:δ[j]?=ae (ae (.w (.d (.int xp)))))(e5:δ[i]?=ae (ae (.w (.d (.tuple (as.map Ac.d))))))(k:Q (.d (vm as[xp]?)) n):eO (cT (w2 (ak j) (wB aX (aq (ak i) ao)) fY)) (w2 (ak i) (ak j) aB) (wC .none) δ n Q:=by
 refine fL (b:=decide ((xp:Int) < ((as.map Ac.d).length:Nat))) (λQ q=>aE (λQ q=>ar (au e4 (aT (au e5 (u7 q))))) q) ?_;rw[Ab];by_cases z:(xp:Int) < (as.length:Nat)
 ·rw[if_pos (decide_eq_true z)];have zl:xp < as.length:=by omega
  have ha:(as.map Ac.d)[xp]?=ae (Ac.d as[xp]):=by rw[A1,Ak zl];rfl
  rw[Ak zl]at k;exact ar (au e5 (au e4 (bU ha k)))
 ·rw[if_neg (by simpa using z)];rw[List.getElem?_eq_none (by omega)]at k;exact aC k
theorem GE:∀ws n Q,h9 ws n Q->ws.length=3:=λws n Q h=>by obtain⟨_,_,_,_,rfl,_⟩:=h;rfl
theorem JN:∀ws n Q,h9 ws n Q->ws.length=3:=GE
theorem LL:∀ws n Q,h9 ws n Q->Gp (bE ["programs","stand","hand","block","place","acts"] ws) n {nx:=λ_ n=>Q (.d .none) n,rt:=Q}:=λws n Q h=>by
 obtain⟨ps,hs,ns,h,rfl,hok,hh,k⟩:=h;obtain⟨P,xb,xp,nm,w,as,H⟩:=iZ hok hh;rw[H.act]at k;show Gp [ae (.w (.d (aY ps))),ae (.w (.d (bM hs ns))),ae (.w (.d (.int h))),ah,ah,ah] n _;refine aD (bC (x:=.int xb) (λQ q=>ar (ar (ar (au rfl (aC (bV (au rfl (bU H.hD (aC (bV q)))))))))) ?_);dsimp only[Al];refine aD (bC (x:=.int xp) (λQ q=>ar (ar (ar (au rfl (aC (bV (au rfl (bU H.hD (aC (eh q)))))))))) ?_);dsimp only[Al];refine aD (bC (x:=.tuple (as.map Ac.d)) (λQ q=>ar (ar (ar (au rfl (au rfl (bU H.pD (au rfl (bU H.bD (aC (eh q)))))))))) ?_);dsimp only[Al];exact bb (yX rfl rfl k)
theorem Mz:∀ws n Q,h9 ws n Q->BO (bE ["_law_programs","_law_stand","_law_hand","_law_block","_law_place","_law_names","_law_acts"] ws) n {nx:=λ_ n=>Q (.d .none) n,rt:=Q}:=λws n Q h=>by
 obtain⟨ps,hs,ns,h,rfl,hok,hh,k⟩:=h;obtain⟨P,xb,xp,nm,w,as,H⟩:=iZ hok hh;rw[H.act]at k;show BO [ae (.w (.d (aY ps))),ae (.w (.d (bM hs ns))),ae (.w (.d (.int h))),ah,ah,ah,ah] n _;refine aD ?_;unfold b8;refine ar (ar (au rfl (aC (bV (au rfl (bU H.hD ?_))))));refine Ah rfl ?_;dsimp only[bj,cn,aJ,Al];refine aD (bC (x:=.tuple (as.map Ac.d)) (λQ q=>ar (ar (ar (au rfl (au rfl (bU H.pD (au rfl (bU H.bD (aC (eh q)))))))))) ?_);dsimp only[Al];exact bb (yX rfl rfl k)
section
variable{δ:Sl}{n:Int}{K:DEnds}{a v:Aa}{r:List Aa}{x:Str}{hp:Nm}{hs:List Str}{W V:aP}
theorem ES{b:Bool}(e:δ[8]?=ae (ae (.w (.d (.bool b)))))(kT:b=ai->K.nx δ n)(kF:b=aj->K.rt (.d .none) n):aL (bB (cT (ak 8))) (az (wC .none)) aM δ n K:=by
 refine dh (gQ (k:=b) (λQ q=>aE (λQ q=>au e q) q) ?_);cases b with
 |true=>exact kT rfl
 |false=>exact kF rfl
def rz(hp:Nm)(x:Str)(v:Aa):Bool:=((look hp x).map λw=>fj w v).getD aj
theorem FG(e5:δ[5]?=ae (ae (.w (.d (.tuple (a::.str x::r))))))(e3:δ[3]?=ae (ae (.odk (bx hp))))(e6:δ[6]?=ae (ae (.w (.d v))))(hv:cD v=ai)(hok:∀p∈hp,gF p)(k:K.nx (δ.set 8 (ae (.w (.d (.bool (rz hp x v)))))) n):
  aA 8 (eE (w2 (w2 (ak 5) (wC (.int 1)) aB) (dM 3) (fG aj)) (w2 (w2 (dM 3) (w2 (ak 5) (wC (.int 1)) aB) gL) (ak 6) aV)) δ n K:=by
 unfold aA eE;refine ar (dY e5 ?_);have pk:∀(n:Int)(Q:DQ),Q (.dk (bx hp)) n->dM 3 δ n Q:=λn Q q=>by unfold dM;rw[e3];exact q
 refine pk _ _ ?_;show iw (.d (.bool (cK (bx hp) (.inr x)).isSome)) _ _;rw[jO];unfold rz at k;cases q:look hp x with
 |none=>rw[q]at k;exact k
 |some w=>
  rw[q]at k;rw[Option.isSome_some,yV,if_pos rfl];refine ar (ar (pk _ _ (dY e5 ?_)));unfold gL;simp only[jO,q];refine au e6 ?_;unfold aV;simp only[m4 (hok _ (lS q)).2 hv];exact k
theorem zF{l:List (Fd×Aa)}{g:Fd}(hg:g=.as x\/g=.bind x/\x∈hs):wk ((g,v)::l) hp hs=if rz hp x v=ai then wk l hp hs else ah:=by
 unfold rz;rcases hg with rfl|⟨rfl,hx⟩
 ·rw[wk];cases q:look hp x with
  |none=>rw[Option.map_none,Option.getD_none,if_neg Ae]
  |some w=>rw[F1,Fu]
 ·rw[wk,if_pos hx];cases q:look hp x with
  |none=>rw[Option.map_none,Option.getD_none,if_neg Ae]
  |some w=>rw[F1,Fu]
theorem iW{s a b:Str}{k:Bool}{Q:Bool->Int->Prop}{i:Nat}(e:δ[i]?=ae (ae (.w (.d (.str s)))))(h:bZ (.str s) [.str a,.str b]=k)(q:Q k n):cT (w2 (ak i) (aw (aq (wC (.str a)) (aq (wC (.str b)) ao))) (gD aj)) δ n Q:=by
 refine ar (au e ?_);show 2<=1000/\fg (.str s)=ai/\_/\Q (bZ (.str s) [.str a,.str b]) n;exact⟨by decide,rfl,rfl,by rw[h];exact q⟩
theorem Qk(s:Str)(e7:δ[7]?=ae (ae (.w (.d (.str s)))))(h1:bO "as" (.str s)=aj)(h2:bO "bind" (.str s)=aj)(hF:V δ n K):
  aL (gg (cT (w2 (ak 7) (wC (.str "as")) aV)) (dz (cT (w2 (ak 7) (wC (.str "bind")) aV)) (cT (mK 4 (w2 (ak 5) (wC (.int 1)) aB))))) W V δ n K:=by
 refine a8 (λQ q=>fw (λQ q=>g9 e7 ?_) (mQ (λQ q=>g9 e7 ?_) q)) hF
 ·show Q (bO "as" (.str s)) n;rw[h1];exact q
 ·show Q (bO "bind" (.str s)) n;rw[h2];exact q
theorem TN(e7:δ[7]?=ae (ae (.w (.d (.str "bind")))))(e5:δ[5]?=ae (ae (.w (.d (.tuple [.str "bind",.str x])))))(e4:δ[4]?=ae (ae (.own (hs.map .str))))(hT:x∈hs->W δ n K)(hF:x∉hs->V δ n K):
  aL (gg (cT (w2 (ak 7) (wC (.str "as")) aV)) (dz (cT (w2 (ak 7) (wC (.str "bind")) aV)) (cT (mK 4 (w2 (ak 5) (wC (.int 1)) aB))))) W V δ n K:=by
 refine dh (fw (λQ q=>g9 e7 ?_) (kK (λQ q=>g9 e7 ?_) ?_))
 ·show Q (bO "as" (.str "bind")) n;rw[PV];exact q
 ·show Q (bO "bind" (.str "bind")) n;rw[uA];exact q
 ·unfold cT mK;refine dY e5 ?_;rw[e4];refine⟨rfl,tH hs,?_⟩;show if bZ (.str x) (hs.map .str)=ai then _ else _
  rw[mH];exact Do hT hF
end
theorem Kv{δ:Sl}{n:Int}{K:DEnds}{W:aP}{i:Nat}{kvs:List (aN×Aa)}(e:δ[i]?=ae (ae (.odk kvs)))(k:W (δ.set i (ae (.w (.ob (.k kvs))))) n K):b9 i W δ n K:=by
 unfold b9;rw[e];exact k
def o5:Option Nm->Wv
 |none=>.d .none
 |some h=>.ob (.k (bx h))
theorem Q9{fs:List Fd}{row:List Aa}{nm:Nm}(h:¬fs.length=row.length):eF fs row nm=.d .none:=by
 unfold eF cY;rw[decide_eq_false h,if_neg (by rw[Fo];exact Ae)]
theorem SJ{fs:List Fd}{row:List Aa}{nm:Nm}(h:fs.length=row.length):eF fs row nm=o5 (wk (fs.zip row) nm []):=by
 unfold eF cY dD;rw[decide_eq_true h,E8];cases wk (fs.zip row) nm []with
 |none=>rw[if_neg (by rw[Option.isSome_none];exact Ae)];rfl
 |some x=>rw[if_pos (show(ae x).isSome=ai from rfl)];rfl
theorem Qi:∀ws n Q,qU ws n Q->ws.length=3:=λws n Q h=>by obtain⟨_,_,_,rfl,_⟩:=h;rfl
theorem SM:∀ws n Q,qU ws n Q->vI (bE ["_law_pattern_here","_law_row_here","_law_names","_law_has","_law_mine","_law_field","_law_value_here","_law_word","_law_good"] ws) n {nx:=λ_ n=>Q (.d .none) n,rt:=Q}:=λws n Q h=>by
 obtain⟨fs,row,nm,rfl,okp,okr,okn,k⟩:=h;show vI [ae (.w (.d (dw fs))),ae (.w (.d (.tuple row))),ae (.w (.d (cG nm))),ah,ah,ah,ah,ah,ah] n {nx:=λ_ n=>Q (.d .none) n,rt:=Q};unfold vI;refine aD (EU (xs:=fs.map Fd.d) (ys:=row) rfl rfl (λne=>?_) λel=>?_)
 ·show Q (.d .none) n;rw[Ab]at ne;rw[Q9 ne]at k;exact k
 ·rw[Ab]at el;rw[SJ el]at k;dsimp only[aM];refine aD (oD rfl okn ?_);dsimp only[Al];refine aD (jl ?_);dsimp only[Al];refine aD (DM (xs:=fs.map Fd.d) (ys:=row) rfl rfl (by rw[Ab];exact el) ?_);refine fW (λds δ m=>m=n/\∃(gs:List Fd)(vs:List Aa)(hp:Nm)(hs:List Str)(y z u t:Option SV),ds=dr (gs.map Fd.d) vs/\gs.length=vs.length/\δ=[ae (.w (.d (dw fs))),ae (.w (.d (.tuple row))),ae (.w (.d (cG nm))),ae (.odk (bx hp)),ae (.own (hs.map .str)),y,z,u,t] /\
   (∀g∈gs,g.ok)/\(∀d∈vs,cD d=ai)/\(hp.map (·.1)).Nodup/\(∀p∈hp,gF p)/\hp.length+gs.length<=48/\hs.length+gs.length<=48/\Q (o5 (wk (gs.zip vs) hp hs)) n) ?_ ?_ _ _ _ ?_
  ·rintro δ m ⟨rfl,gs,vs,hp,hs,y,z,u,t,e,hl,rfl,gok,vok,nd,hok,l1,l2,kq⟩
   have:gs=[]:=by
    cases gs with
    |nil=>rfl
    |cons g gs=>cases vs with|nil=>cases hl|cons v vs=>cases e
   subst this;dsimp only;refine Kv rfl ?_;dsimp only[Al];exact bb (au rfl (show Q (.ob (.k (bx hp))) m from kq))
  ·rintro d r δ m N ⟨rfl,gs,vs,hp,hs,y,z,u,t,e,hl,rfl,gok,vok,nd,hok,l1,l2,kq⟩ hN
   cases gs with
   |nil=>cases e
   |cons g gs=>
    cases vs with
    |nil=>cases hl
    |cons v vs=>
     have e1:d=.tuple [g.d,v]:=by have:=congrArg (λl=>l.head?) e;simpa[dr]using this
     have e2:r=dr (gs.map Fd.d) vs:=by have:=congrArg List.tail e;simpa[dr]using this
     subst e1 e2;rw[An]at l1 l2;rw[An,An]at hl;have gk:=gok g As;have vk:=vok v As;rw[Fc]at kq;have no:(wk ((g,v)::gs.zip vs) hp hs=ah)->Q (.d .none) m:=λw=>by rw[w]at kq;exact kq
     have go:∀(hp':Nm)(hs':List Str)(y z u t:Option SV),wk ((g,v)::gs.zip vs) hp hs=wk (gs.zip vs) hp' hs'->(hp'.map (·.1)).Nodup->(∀p∈hp',gF p)->hp'.length<=hp.length+1->hs'.length<=hs.length+1->
       N [ae (.w (.d (dw fs))),ae (.w (.d (.tuple row))),ae (.w (.d (cG nm))),ae (.odk (bx hp')),ae (.own (hs'.map .str)),y,z,u,t] m:=λhp' hs' y z u t hw a1 a2 a3 a4=>
      hN _ _ ⟨rfl,gs,vs,hp',hs',y,z,u,t,rfl,by omega,rfl,λg hg=>gok g (Am _ hg),λd hd=>vok d (Am _ hd),a1,a2,by omega,by omega,by rw[<-hw];exact kq⟩
     have fin:∀(b:Bool)(y z u:Option SV)(hw:wk ((g,v)::gs.zip vs) hp hs=if b=ai then wk (gs.zip vs) hp hs else ah),aL (bB (cT (ak 8))) (az (wC .none)) aM [ae (.w (.d (dw fs))),ae (.w (.d (.tuple row))),ae (.w (.d (cG nm))),ae (.odk (bx hp)),ae (.own (hs.map .str)),y,z,u,ae (.w (.d (.bool b)))] m {nx:=N,ct:=N,bk:=λδ n_1=>b9 3 (az (ak 3)) δ n_1 {nx:=λ_ n=>Q (.d .none) n,rt:=Q},rt:=Q}:=λb y z u hw=>
      ES rfl (λz'=>go hp hs _ _ _ _ (by rw[hw,if_pos z']) nd hok (by omega) (by omega)) (λz'=>no (by rw[hw,if_neg (by rw[z'];exact Ae)]))
     refine⟨rfl,?_⟩;dsimp only[bj,aJ,cn,Al];refine aD (bC (x:=.str g.hd) (λQ q=>eB (r:=g.tl) (by rw[Fd.parts];rfl) q) ?_);dsimp only[Al];refine aD (bC (x:=.bool ai) (λQ q=>aC q) ?_);dsimp only[Al];cases g with
     |any=>
      refine aD (nj (d:=.str "any") rfl IK (a8 (λQ q=>iW (s:="any") rfl (by decide +kernel) q) (Qk "any" rfl (by decide +kernel) (by decide +kernel) (nj (d:=.str "any") rfl (by decide +kernel) ?_))));dsimp only[aM];exact fin ai _ _ _ (by rw[wk,if_pos rfl])
     |is w=>
      refine aD (EN (d:=.str "is") rfl tZ (bC (x:=.bool (fj w v)) (λQ q=>ar (dY (a:=.str "is") (b:=w) (r:=[]) rfl (au rfl ?_))) ?_))
      ·unfold aV;simp only[m4 (show cD w=ai from gk) vk];exact q
      dsimp only[Al];exact fin _ _ _ _ (by rw[wk])
     |word=>
      refine aD (nj (d:=.str "word") rfl M8 (bF (λQ q=>iW (s:="word") rfl (by decide +kernel) q) (bC (x:=.bool (jg v)) (λQ q=>ar ?_) ?_)))
      ·unfold bw;refine au rfl (g9 (d:=.str "word") rfl ?_);rw[N6];cases v with
       |str s=>rw[mW];exact q
       |int i=>rw[mW];exact q
       |_=>cases vk
      dsimp only[Al];exact fin _ _ _ _ (by rw[wk])
     |number=>
      refine aD (nj (d:=.str "number") rfl SW (bF (λQ q=>iW (s:="number") rfl (by decide +kernel) q) (bC (x:=.bool (jf v)) (λQ q=>ar ?_) ?_)))
      ·unfold bw;refine au rfl (g9 (d:=.str "number") rfl ?_);rw[QX];cases v with
       |str s=>rw[mW];exact q
       |int i=>rw[mW];exact q
       |_=>cases vk
      dsimp only[Al];exact fin _ _ _ _ (by rw[wk])
     |as x=>
      refine aD (nj (d:=.str "as") rfl u5 (a8 (λQ q=>iW (s:="as") rfl (by decide +kernel) q) (bF (λQ q=>i7 (λQ q=>g9 (d:=.str "as") rfl ?_) q) (FG (a:=.str "as") (x:=x) (r:=[]) rfl rfl rfl vk hok ?_))))
      ·show Q (bO "as" (.str "as")) m;rw[JS];exact q
      dsimp only[Al];exact fin _ _ _ _ (zF (.inl rfl))
     |bind x=>
      refine aD (nj (d:=.str "bind") rfl QV (a8 (λQ q=>iW (s:="bind") rfl (by decide +kernel) q) (TN (hs:=hs) rfl rfl rfl (λhx=>FG (a:=.str "bind") (x:=x) (r:=[]) rfl rfl rfl vk hok ?_) λhx=>EN (d:=.str "bind") rfl uA ?_)))
      ·dsimp only[Al];exact fin _ _ _ _ (zF (.inr ⟨rfl,hx⟩))
      ·refine aD ?_;unfold nI;refine(show(match ae (ae (SV.odk (bx hp)))with|some (ae (.odk kvs))=>_|_=>False)from ?_);refine au rfl (dY (a:=.str "bind") (b:=.str x) (r:=[]) rfl ⟨by unfold bx;rw[Ab];omega,?_⟩);rw[sG];dsimp only[Al];refine kZ (x:=.str x) (es:=hs.map .str) rfl (λQ q=>dY (a:=.str "bind") (b:=.str x) (r:=[]) rfl q) (by rw[Ab];omega) ?_;dsimp only[Al];have:=go (put hp x v) (hs++[x]) (ae (.w (.d (.tuple [.str "bind",.str x])))) (ae (.w (.d v))) (ae (.w (.d (.str "bind")))) (ae (.w (.d (.bool ai)))) (by rw[wk,if_neg hx]) (wH nd) (pW hok gk vk) (sT _ _ _) (by rw[Af];exact Ao _);rw[Be]at this;exact ES (b:=ai) rfl (λ_=>this) (λz=>by cases z)
  ·exact⟨rfl,fs,row,nm,[],ah,ah,ah,ah,rfl,el,rfl,okp.2.2,okr.2,okn.2.1,okn.2.2,by have:=okp.2.1;have:=okn.1;omega,by have:=okp.2.1;simpa using A3 this (by decide),k⟩
theorem yN:∀{row:List Aa},(∀d∈row,cD d=ai)->∃k:List aN,row=k.map DL.vD
 |[],_=>⟨[],rfl⟩
 |d::r,h=>by
  obtain⟨k,rfl⟩:=yN λe he=>h e (Am _ he);have hd:=h d As;cases d with
  |int i=>exact⟨.inl i::k,rfl⟩
  |str x=>exact⟨.inr x::k,rfl⟩
  |_=>cases hd
theorem ER(k:Int)(m:Nat):bY k (m+1)=.int k::bY (k+1) m:=by
 unfold bY;rw[List.range_succ_eq_map,Bi,Cw]
 congr 1
 ·rw[show((0:Nat):Int)=0 from rfl,Int.add_zero]
 ·refine Cs λi _=>?_;show Dg (k+((i+1:Nat):Int))=.int (k+1+(i:Int));have:k+((i+1:Nat):Int)=k+1+(i:Int):=by omega
  rw[this]
theorem xo{f:Fe}(h:f.pt=ai):(Fe.fd f).d=f.d:=by cases f<;>first|rfl|cases h
theorem nJ{fs:List Fe}(ok:fF fs)(h:gW fs):eG fs=dw (fs.map Fe.fd)/\nY (fs.map Fe.fd):=by
 refine⟨?_,by rw[Ab];exact h.1,by rw[Ab];exact ok.1,λg hg=>?_⟩
 ·unfold eG dw;rw[Cw]
  congr 1
  exact Cs λf hf=>(xo (h.2 f hf)).symm
 ·obtain⟨f,hf,rfl⟩:=Bg.mp hg;have:=ok.2 f hf;cases f<;>first|exact this|trivial
theorem xB{a:Ac}(h:a.pf=ah):a.wt=aj/\∃s r,a.d=.tuple (.str s::r)/\bZ (.str s) [.str "take",.str "read",.str "look"]=aj/\bZ (.str s) [.str "take",.str "read"]=aj:=by
 cases a with
 |lay fs age=>exact⟨rfl,"lay",_,rfl,by decide +kernel,by decide +kernel⟩
 |same f g b=>exact⟨rfl,"same",_,rfl,by decide +kernel,by decide +kernel⟩
 |go b=>exact⟨rfl,"go",_,rfl,by decide +kernel,by decide +kernel⟩
 |take fs=>cases h
 |read fs=>cases h
 |look fs b=>cases h
theorem sQ{a:Ac}{fs:List Fd}(h:a.pf=ae fs)(ok:lT a):nY fs/\∃s r,a.d=.tuple (.str s::dw fs::r)/\bZ (.str s) [.str "take",.str "read",.str "look"]=ai/\bZ (.str s) [.str "take",.str "read"]=a.wt:=by
 cases a with
 |lay fs age=>cases h
 |same f g b=>cases h
 |go b=>cases h
 |take gs=>
  cases h;obtain⟨e,o⟩:=nJ (fs:=gs) ok.1 ok.2;exact⟨o,"take",[],by rw[<-e];rfl,by decide +kernel,show bZ (.str "take") [.str "take",.str "read"]=ai by decide +kernel⟩
 |read gs=>
  cases h;obtain⟨e,o⟩:=nJ (fs:=gs) ok.1 ok.2;exact⟨o,"read",[],by rw[<-e];rfl,by decide +kernel,show bZ (.str "read") [.str "take",.str "read"]=ai by decide +kernel⟩
 |look gs b=>
  cases h;obtain⟨e,o⟩:=nJ (fs:=gs) ok.1 ok.2;exact⟨o,"look",[.int b],by rw[<-e];rfl,by decide +kernel,show bZ (.str "look") [.str "take",.str "read"]=aj by decide +kernel⟩
theorem Qc(fs:List Fd)(row:List Aa)(nm:Nm):gC (gy fs row nm)=!cY fs row nm:=by
 unfold gy;cases cY fs row nm<;>rfl
theorem rV{fs:List Fd}{nm:Nm}{q:Nt}{r:List Nt}:bh fs nm (q::r)=if cY fs q.1 nm=ai then ae 0 else(bh fs nm r).map (·+1):=by
 unfold bh;rw[List.findIdx?_cons]
theorem LI{m:List (List aN×Aa)}{k k':List aN}{d:Aa}(h:ic (gU m k d) k'=ai):k'=k\/ic m k'=ai:=by
 unfold gU at h
 split at h
 ·unfold ic at h ⊢;rw[List.any_map,Dp]at h;obtain⟨p,hp,e⟩:=h;refine .inr (Dp.mpr ⟨p,hp,?_⟩);have e':=of_decide_eq_true e;dsimp only at e';by_cases z:p.1=k
  ·rw[if_pos z]at e';exact decide_eq_true e'
  ·rw[if_neg z]at e';exact decide_eq_true e'
 ·unfold ic at h ⊢;rw[List.any_append,Bool.or_eq_true]at h;rcases h with h|h
  ·exact .inr h
  ·simp at h;exact .inl h.symm
theorem Sx{m:List (List aN×Aa)}{k:List aN}{d:Aa}:(gU m k d).length<=m.length+1:=by
 unfold gU
 split
 ·rw[Ab];omega
 ·rw[Af];exact Ao _
section
variable{δ:Sl}{n:Int}{Q:DQ}{K:DEnds}{W V:aP}{i:Nat}
theorem hZ{neg:Bool}{a:Aa}(k:Q (.d (.bool (if neg then !gC a else gC a))) n):cL neg (.d a) (.d .none) n Q:=k
theorem iR{neg:Bool}{a:Aa}(k:Q (.d (.bool (if neg then !gC a else gC a))) n):dP neg (.d a) (.d .none) n Q:=.inr k
theorem sL{neg:Bool}{o:Ob}(k:Q (.d (.bool neg)) n):dP neg (.ob o) (.d .none) n Q:=.inl ⟨o,rfl,rfl,k⟩
theorem zm{s a b c:Str}{r:List Aa}{k:Bool}{Q:Bool->Int->Prop}(e:δ[i]?=ae (ae (.w (.d (.tuple (.str s::r))))))(h:bZ (.str s) [.str a,.str b,.str c]=k)(q:Q (!k) n):cT (w2 (w2 (ak i) (wC (.int 0)) aB) (aw (aq (wC (.str a)) (aq (wC (.str b)) (aq (wC (.str c)) ao)))) (gD ai)) δ n Q:=by
 refine ar (eB e ?_);show 3<=1000/\fg (.str s)=ai/\_/\Q (!bZ (.str s) [.str a,.str b,.str c]) n;exact⟨by decide,rfl,rfl,by rw[h];exact q⟩
theorem Jr{s a b:Str}{r:List Aa}{k:Bool}(e:δ[i]?=ae (ae (.w (.d (.tuple (.str s::r))))))(h:bZ (.str s) [.str a,.str b]=k)(q:Q (.d (.bool !k)) n):w2 (w2 (ak i) (wC (.int 0)) aB) (aw (aq (wC (.str a)) (aq (wC (.str b)) ao))) (gD ai) δ n Q:=by
 refine ar (eB e ?_);show 2<=1000/\fg (.str s)=ai/\_/\Q (.d (.bool !bZ (.str s) [.str a,.str b])) n;exact⟨by decide,rfl,rfl,by rw[h];exact q⟩
theorem zg{s:Str}{hs:List Str}{r:List Aa}{k:Bool}{Q:Bool->Int->Prop}(e:δ[i]?=ae (ae (.w (.d (.tuple (.str s::r))))))(h:bZ (.str s) (hs.map .str)=k)(q:Q (!k) n):cT (nV hs (w2 (ak i) (wC (.int 0)) aB)) δ n Q:=by
 unfold cT nV;exact eB e ⟨_,rfl,rfl,by rw[h];exact q⟩
theorem ny{ps:Pg}{hs:List Hn}{ns:List Nt}{h i j l:Nat}(e0:δ[i]?=ae (ae (.w (.d (aY ps)))))(e1:δ[j]?=ae (ae (.w (.d (bM hs ns)))))(e2:δ[l]?=ae (ae (.w (.d (.int h)))))(ok:okHs ps hs)(hh:h < ps.length)(k:Q (.d (vm (bK ps hs h))) n):aF h9 (aq (ak i) (aq (ak j) (aq (ak l) ao))) δ n Q:=
 bW (au e0 (au e1 (au e2 ⟨ps,hs,ns,h,rfl,ok,hh,k⟩)))
end
theorem QF:∀ws n Q,lQ ws n Q->ws.length=3:=λws n Q h=>by obtain⟨_,_,_,_,rfl,_⟩:=h;rfl
theorem JI:∀ws n Q,lQ ws n Q->Il (bE ["programs","stand","hand","act","names","tried","place","note"] ws) n {nx:=λ_ n=>Q (.d .none) n,rt:=Q}:=λws n Q h=>by
 obtain⟨ps,hs,ns,h,rfl,⟨okp,okh,okn⟩,hh,k⟩:=h;obtain⟨P,xb,xp,nm,w,as,H⟩:=iZ okh hh;unfold bc at k;rw[H.nmq]at k;show Il [ae (.w (.d (aY ps))),ae (.w (.d (bM hs ns))),ae (.w (.d (.int h))),ah,ah,ah,ah,ah] n _;refine aD (bC (λQ q=>ny rfl rfl rfl okh hh q) ?_);dsimp only[Al];cases ea:bK ps hs h with
 |none=>
  rw[ea]at k;exact aD (bF (λQ q=>i7 (λQ q=>aE (k:=ai) (λQ q=>ar (au rfl (aC (hZ q)))) q) q) (bb (aC k)))
 |some a=>
  rw[ea]at k;have k:Q (.d (fP (a.pf.bind λfs=>bh fs nm ns))) n:=k;have oa:=H.ok okp ea;show av _ _ [ae (.w (.d (aY ps))),ae (.w (.d (bM hs ns))),ae (.w (.d (.int h))),ae (.w (.d a.d)),ah,ah,ah,ah] n _;have g1:∀(s:Str)(r:List Aa),gC (PyData.tuple (.str s::r))=aj:=λ_ _=>rfl;cases ef:a.pf with
  |none=>
   rw[ef]at k;obtain⟨_,s,r,e,h1,_⟩:=xB ef;rw[e];exact aD (bF (λQ q=>fw (λQ q=>aE (k:=aj) (λQ q=>ar (au rfl (aC (hZ q)))) q) (zg rfl h1 q)) (bb (aC k)))
  |some fs=>
   rw[ef]at k;have k:Q (.d (fP (bh fs nm ns))) n:=k;obtain⟨of,s,r,e,h1,_⟩:=sQ ef oa;rw[e];refine aD (a8 (λQ q=>fw (λQ q=>aE (k:=aj) (λQ q=>ar (au rfl (aC (hZ q)))) q) (zg rfl h1 q)) ?_);dsimp only[aM];refine aD (bC (x:=cG nm) (λQ q=>ar (ar (ar (au rfl (aC (bV (au rfl (bU H.hD (aC (dG q)))))))))) ?_);dsimp only[Al];refine aD (show sJ 5 _ _ _ from ?_);unfold sJ;dsimp only[Al];refine aD ?_;unfold bo vK;refine ar (au rfl (aC (eh ⟨ns.map cR,.inl rfl,?_⟩)));refine fW (λds δ m=>m=n/\∃(re:List Nt)(j:Nat)(kvs:List (List aN×Aa))(x6 x7:Option SV),ds=i0 j (re.map cR)/\δ=[ae (.w (.d (aY ps))),ae (.w (.d (bM hs ns))),ae (.w (.d (.int h))),ae (.w (.d (.tuple (.str s::dw fs::r)))),ae (.w (.d (cG nm))),ae (.odt kvs),x6,x7] /\
    (∀q∈re,kD q)/\kvs.length+re.length<=100/\(∀key,ic kvs key=ai->cY fs (key.map DL.vD) nm=aj)/\Q (.d (fP ((bh fs nm re).map (·+j)))) n) (λδ m I=>?_) (λd r' δ m N I kN=>?_) _ _ _ ⟨rfl,ns,0,[],ah,ah,rfl,rfl,okn.2,by have:=okn.1;simpa using this,λkey z=>(by cases z),?_⟩
   ·obtain⟨rfl,re,j,kvs,x6,x7,ed,rfl,_,_,_,kq⟩:=I;have:re=[]:=by
     cases re with
     |nil=>rfl
     |cons q re=>rw[Bi,EV]at ed;cases ed
    subst this;exact(show Q (.d .none) m from kq)
   ·obtain⟨rfl,re,j,kvs,x6,x7,ed,rfl,hre,hl,ht,kq⟩:=I;cases re with
    |nil=>cases ed
    |cons q re=>
     rw[Bi,EV]at ed;obtain⟨rfl,rfl⟩:=B1 ed;rw[An]at hl;have oq:=hre q As;obtain⟨key,ek⟩:=yN oq.1.2;have nxt:∀kvs',kvs'.length<=kvs.length+1->(∀key,ic kvs' key=ai->cY fs (key.map DL.vD) nm=aj)->cY fs q.1 nm=aj->N [ae (.w (.d (aY ps))),ae (.w (.d (bM hs ns))),ae (.w (.d (.int h))),ae (.w (.d (.tuple (.str s::dw fs::r)))),ae (.w (.d (cG nm))),ae (.odt kvs'),ae (.w (.d (.int j))),ae (.w (.d (cR q)))] m:=λkvs' a1 a2 a3=>by
      refine kN _ _ ⟨rfl,re,j+1,kvs',_,_,by rw[show((j+1:Nat):Int)=(j:Int)+1 from rfl],rfl,λx hx=>hre x (Am _ hx),by omega,a2,?_⟩;rw[rV,if_neg (by rw[a3];exact Ae),Option.map_map]at kq;have:((λx=>x+j) ∘ λx=>x+1)=λx=>x+(j+1):=funext λx=>by show x+1+j=x+(j+1);omega
      rw[this]at kq;exact kq
     refine⟨rfl,?_⟩;dsimp only[bj,cn,aJ,Al];refine dh (show rB 5 _ _ _ _ from eB rfl ⟨key,kvs,by rw[ek];rfl,rfl,?_⟩);show if (!ic kvs key)=ai then _ else _
     cases et:ic kvs key with
     |true=>
      rw[if_neg (by rw[Bool.not_true];exact Ae)];exact nxt kvs (by omega) ht (by rw[ek];exact ht key et)
     |false=>
      rw[if_pos (show(!aj)=ai from rfl)];refine aD (dh (ar (bW (dY rfl (eB rfl (au rfl ⟨fs,q.1,nm,rfl,of,oq.1,H.nms,?_⟩))))));refine aC (hZ ?_);show if (!gC (gy fs q.1 nm))=ai then _ else _
      rw[Qc,Bool.not_not];cases eb:cY fs q.1 nm with
      |true=>
       rw[if_pos rfl];rw[rV,if_pos eb,F1,Nat.zero_add]at kq;exact bb (au rfl kq)
      |false=>
       rw[if_neg Ae];dsimp only[aM];refine aC ⟨kvs,rfl,eB rfl ⟨key,.bool ai,rfl,by rw[ek];rfl,by omega,?_⟩⟩;dsimp only[Al];refine nxt _ Sx (λkey' z=>?_) eb;rcases LI z with rfl|z
       ·rw[<-ek];exact eb
       ·exact ht key' z
   ·have:(λx:Nat=>x+0)=id:=rfl;rw[this,Option.map_id];exact k
theorem uD{δ:Sl}{n:Int}{K:DEnds}{i:Nat}{w:DT}{fs:List Fd}{row:List Aa}{nm:Nm}(h:∀Q:DQ,Q (eF fs row nm) n->w δ n Q)(k:K.nx (δ.set i (ae (.w (eF fs row nm)))) n):aA i w δ n K:=by
 refine h _ ?_
 revert k
 unfold eF
 split<;>exact id
theorem oJ{δ:Sl}{n:Int}{K:DEnds}{i:Nat}{w:DT}{o:Option (Nat×Nm)}(h:∀Q:DQ,Q (gj o) n->w δ n Q)(k:K.nx (δ.set i (ae (.w (gj o)))) n):aA i w δ n K:=by
 refine h _ ?_;cases o<;>exact k
theorem Uk(ps:Pg)(hs:List Hn)(ns:List Nt)(h:Nat):(du ps hs ns h).map (·.1)=bc ps hs ns h:=by
 unfold du bc;cases bK ps hs h with
 |none=>rfl
 |some a=>
  show((a.pf.bind _).map _)=a.pf.bind _;cases a.pf with
  |none=>rfl
  |some fs=>
   show((bh fs (iu hs h) ns).map _).map _=bh fs (iu hs h) ns;rw[Option.map_map];exact Option.map_id'
theorem Se:∀ws n Q,lX ws n Q->ws.length=3:=λws n Q h=>by obtain⟨_,_,_,_,rfl,_⟩:=h;rfl
theorem Mc:∀ws n Q,lX ws n Q->GC (bE ["_law_programs","_law_stand","_law_hand","_law_act_here","_law_place","_law_has"] ws) n {nx:=λ_ n=>Q (.d .none) n,rt:=Q}:=λws n Q h=>by
 obtain⟨ps,hs,ns,h,rfl,⟨okp,okh,okn⟩,hh,k⟩:=h;obtain⟨P,xb,xp,nm,w,as,H⟩:=iZ okh hh;unfold du at k;rw[H.nmq]at k;show GC [ae (.w (.d (aY ps))),ae (.w (.d (bM hs ns))),ae (.w (.d (.int h))),ah,ah,ah] n _;refine aD (bC (λQ q=>ny rfl rfl rfl okh hh q) ?_);dsimp only[Al];cases ea:bK ps hs h with
 |none=>
  rw[ea]at k;exact aD (bF (λQ q=>i7 (λQ q=>aE (k:=ai) (λQ q=>ar (au rfl (aC (iR q)))) q) q) (bb (aC k)))
 |some a=>
  rw[ea]at k;have k:Q (gj (a.pf.bind λfs=>(bh fs nm ns).map λi=>(i,dD fs (ck ns i) nm))) n:=k;have oa:=H.ok okp ea;show av _ _ [ae (.w (.d (aY ps))),ae (.w (.d (bM hs ns))),ae (.w (.d (.int h))),ae (.w (.d a.d)),ah,ah] n _;cases ef:a.pf with
  |none=>
   rw[ef]at k;obtain⟨_,s,r,e,h1,_⟩:=xB ef;rw[e];exact aD (bF (λQ q=>fw (λQ q=>aE (k:=aj) (λQ q=>ar (au rfl (aC (iR q)))) q) (zm rfl h1 q)) (bb (aC k)))
  |some fs=>
   rw[ef]at k;have k:Q (gj ((bh fs nm ns).map λi=>(i,dD fs (ck ns i) nm))) n:=k;obtain⟨of,s,r,e,h1,_⟩:=sQ ef oa;rw[e];refine aD (a8 (λQ q=>fw (λQ q=>aE (k:=aj) (λQ q=>ar (au rfl (aC (iR q)))) q) (zm rfl h1 q)) ?_);dsimp only[aM];refine aD ?_;unfold bo dN;refine aT (ar (au rfl (aC (eh ?_))));refine Ah ⟨by omega,by rw[Ab];have:=okn.1;omega⟩ ?_;rw[Bv,Ab];refine fW (λds δ m=>m=n/\∃(dn re:List Nt)(x6 x7:Option SV),ds=bY (dn.length:Nat) re.length/\dn++re=ns/\δ=[ae (.w (.d (aY ps))),ae (.w (.d (bM hs ns))),ae (.w (.d (.int h))),ae (.w (.d (.tuple (.str s::dw fs::r)))),x6,x7] /\
    Q (gj ((bh fs nm re).map λi=>(i+dn.length,dD fs (ck ns (i+dn.length)) nm))) n) (λδ m I=>?_) (λd r' δ m N I kN=>?_) _ _ _ ⟨rfl,[],ns,ah,ah,rfl,rfl,rfl,?_⟩
   ·obtain⟨rfl,dn,re,x6,x7,ed,en,rfl,kq⟩:=I;have:re=[]:=by
     cases re with
     |nil=>rfl
     |cons q re=>rw[An,ER]at ed;cases ed
    subst this;exact(show Q (.d .none) m from kq)
   ·obtain⟨rfl,dn,re,x6,x7,ed,en,rfl,kq⟩:=I;cases re with
    |nil=>cases ed
    |cons q re=>
     rw[An,ER]at ed;obtain⟨rfl,rfl⟩:=B1 ed;have hq:ns[dn.length]?=ae q:=by rw[<-en];simp
     have oq:=okn.2 q (A5 hq);have hq':(ns.map cR)[dn.length]?=ae (.tuple [.tuple q.1,q.2]):=by rw[A1,hq];rfl
     dsimp only[aJ,Al];refine aD (uD (fs:=fs) (row:=q.1) (nm:=nm) (λQ q'=>?_) ?_)
     ·refine bW (dY rfl ?_);refine ar (ar (ar (au rfl (aC (eh (au rfl (bU hq' (aC (bV ?_)))))))));refine ar (ar (ar (au rfl (aC (bV (au rfl (bU H.hD (aC (dG ?_)))))))));exact⟨fs,q.1,nm,rfl,of,oq.1,H.nms,q'⟩
     dsimp only[Al];cases eb:cY fs q.1 nm with
     |true=>
      rw[rV,if_pos eb,F1,Nat.zero_add,show ck ns dn.length=q.1 by unfold ck;rw[hq];rfl]at kq;rw[show eF fs q.1 nm=.ob (.k (bx (dD fs q.1 nm))) by unfold eF;rw[if_pos eb]];refine bF (λQ q=>aE (k:=ai) (λQ q=>ar (au rfl (aC (sL q)))) q) (bb (show u9 _ _ _ _ _ from au rfl (au rfl ⟨_,_,rfl,rfl,kq⟩)))
     |false=>
      rw[show eF fs q.1 nm=.d .none by unfold eF;rw[if_neg (by rw[eb];exact Ae)]];refine a8 (λQ q=>aE (k:=aj) (λQ q=>ar (au rfl (aC (iR q)))) q) (kN _ _ ⟨rfl,dn++[q],re,_,_,?_,by rw[Bp];exact en,rfl,?_⟩)
      ·rw[Af,Av];rw[show((dn.length+1:Nat):Int)=(dn.length:Int)+1 from rfl]
      ·rw[rV,if_neg (by rw[eb];exact Ae),Option.map_map]at kq;have:((λi=>(i+dn.length,dD fs (ck ns (i+dn.length)) nm)) ∘ λx=>x+1)=λi=>(i+(dn++[q]).length,dD fs (ck ns (i+(dn++[q]).length)) nm):=funext λx=>by
        show(x+1+dn.length,dD fs (ck ns (x+1+dn.length)) nm)=_;have e:x+1+dn.length=x+(dn++[q]).length:=by rw[Af,Av];omega
        rw[e]
       rw[this]at kq;exact kq
   ·exact k
theorem vc{ps:Pg}{hs:List Hn}{ns:List Nt}{h:Nat}{a:Ac}(e:bK ps hs h=ae a):d9 ps hs ns h=(!a.wt || (bc ps hs ns h).isSome):=by unfold d9;rw[e];rfl
theorem Ip:∀ws n Q,ki ws n Q->ws.length=3:=λws n Q h=>by obtain⟨_,_,_,_,rfl,_⟩:=h;rfl
theorem RE:∀ws n Q,ki ws n Q->ws.length=3:=Ip
theorem NK{a:Ac}(oa:lT a):∃s r,a.d=.tuple (.str s::r)/\bZ (.str s) [.str "take",.str "read"]=a.wt:=by
 cases ef:a.pf with
 |none=>
  obtain⟨hw,s,r,e,_,h2⟩:=xB ef;exact⟨s,r,e,by rw[h2,hw]⟩
 |some fs=>
  obtain⟨_,s,r,e,_,h2⟩:=sQ ef oa;exact⟨s,_,e,h2⟩
theorem QM:∀ws n Q,ki ws n Q->Ho (bE ["_law_programs","_law_stand","_law_hand","_law_act_here"] ws) n {nx:=λ_ n=>Q (.d .none) n,rt:=Q}:=λws n Q h=>by
 obtain⟨ps,hs,ns,h,rfl,ok,hh,k⟩:=h;obtain⟨P,xb,xp,nm,w,as,H⟩:=iZ ok.2.1 hh;show Ho [ae (.w (.d (aY ps))),ae (.w (.d (bM hs ns))),ae (.w (.d (.int h))),ah] n _;refine aD (bC (λQ q=>ny rfl rfl rfl ok.2.1 hh q) ?_);dsimp only[Al];cases ea:bK ps hs h with
 |none=>
  unfold d9 at k;rw[ea]at k;exact aD (bF (λQ q=>aE (k:=ai) (λQ q=>ar (au rfl (aC (iR q)))) q) (bb (aC k)))
 |some a=>
  rw[vc ea]at k;obtain⟨s,r,e,h2⟩:=NK (H.ok ok.1 ea);show av _ _ [ae (.w (.d (aY ps))),ae (.w (.d (bM hs ns))),ae (.w (.d (.int h))),ae (.w (.d a.d))] n _;rw[e];refine aD (a8 (λQ q=>aE (k:=aj) (λQ q=>ar (au rfl (aC (iR q)))) q) ?_);dsimp only[aM];refine bb (show sA _ _ _ _ _ from Jr rfl h2 ?_);rw[yV];cases hw:a.wt with
  |false=>rw[hw]at k;exact k
  |true=>
   rw[hw]at k;rw[if_neg (by decide)];refine ar (bW (au rfl (au rfl (au rfl ⟨ps,hs,ns,h,rfl,ok,hh,aC ?_⟩))));rw[<-Uk]at k;cases eg:du ps hs ns h with
   |none=>rw[eg]at k;exact iR k
   |some i=>rw[eg]at k;exact sL k
theorem KD{Q:List Aa->Int->Prop}{ps:Pg}{hs:List Hn}{ns:List Nt}{n:Int}(ok:d4 ps hs ns)(k:Q (gn ps hs ns) n):c9 (aJ 0) (cT (aF ki (aq (ak 1) (aq (ak 2) (aq (ak 0) ao))))) (ak 0) Q (bY 0 ps.length) [] [ah,ae (.w (.d (aY ps))),ae (.w (.d (bM hs ns)))] n:=by
 have e:bY 0 ps.length=(Ba ps.length).map λh=>.int (h:Nat):=by
  unfold bY;exact Cs λi _=>by rw[Int.zero_add]
 rw[e];refine jy (λh:Nat=>Dg (h:Nat)) (λh:Nat=>Dg (h:Nat)) (d9 ps hs ns) _ [] ah n (λh hh n Q' q=>?_) (λh hh n Q' q=>au rfl q) (by rw[Bq];exact k);exact bW (au rfl (au rfl (au rfl ⟨ps,hs,ns,h,rfl,ok,B8.mp hh,q⟩)))
section
variable{δ:Sl}{n:Int}{Q:DQ}{w u:DT}{ds i j:List Aa}
theorem N7(xs:List Aa){p:Nat}(hp:p<=xs.length):bI xs (ae (p:Int)) ah=xs.drop p:=by
 unfold bI;rw[HT.sIx_nat,HT.sIx_none,Nat.min_eq_left hp];exact List.take_of_length_le (by rw[Bw];exact Ao _)
theorem kx(k:w δ n λx n1=>match ik [x]with
  |some ds=>ds.length<=1000/\Q (.d (.tuple ds)) n1
  |none=>False):aw (aq w ao) δ n Q:=k
theorem nK{p:Nat}(hw:∀Q:DQ,Q (.d (.tuple ds)) n->w δ n Q)(hu:∀Q:DQ,Q (.d (.int p)) n->u δ n Q)(hp:p<=ds.length)(k:Q (.d (.tuple (ds.take p))) n):cC w cf (cb u) δ n Q:=by
 unfold cC;refine hw _ ?_;dsimp only[cf,cb];refine hu _ ?_;dsimp only;rw[Mp _ hp];exact k
theorem mN{p:Nat}(hw:∀Q:DQ,Q (.d (.tuple ds)) n->w δ n Q)(hu:∀Q:DQ,Q (.d (.int p)) n->u δ n Q)(hp:p<=ds.length)(k:Q (.d (.tuple (ds.drop p))) n):cC w (cb u) cf δ n Q:=by
 unfold cC;refine hw _ ?_;dsimp only[cf,cb];refine hu _ ?_;dsimp only;rw[N7 _ hp];exact k
theorem gH(h:i.length+j.length<=1000000)(k:Q (.d (.tuple (i++j))) n):cU (.d (.tuple i)) (.d (.tuple j)) n Q:=by
 cases i with
 |nil=>exact k
 |cons a r=>exact⟨.inl (λz=>nomatch z),A3 h (by decide),k⟩
end
theorem KF:∀ws n Q,qC ws n Q->ws.length=1:=λws n Q h=>by obtain⟨_,rfl,_⟩:=h;rfl
theorem Tg:∀ws n Q,qC ws n Q->QY (bE ["thing"] ws) n {nx:=λ_ n=>Q (.d .none) n,rt:=Q}:=λws n Q h=>by
 obtain⟨b,rfl,k⟩:=h;cases b<;>exact k
theorem Hh{a b:Int}{δ:Sl}{n:Int}{Q:DQ}{u v w:DT}{x:Int}(h1:∀Q:DQ,Q (.d (.int a)) n->u δ n Q)(h2:∀Q:DQ,Q (.d (.int x)) n->v δ n Q)(h3:∀Q:DQ,Q (.d (.int b)) n->w δ n Q)(k:Q (.d (.bool (decide (a<=x)&&decide (x<=b)))) n):lr iz iz u v w δ n Q:=by
 by_cases e:a<=x
 ·refine KI h1 h2 h3 e ?_;rw[decide_eq_true e,E8]at k;exact k
 ·rw[decide_eq_false e,Fo]at k;refine h1 _ (h2 _ ?_);show iw (.d (.bool (decide (a<=x)))) (w δ n λu n4=>iz (.d (.int x)) u n4 Q) (Q (.d (.bool aj)) n);rw[decide_eq_false e];exact k
theorem Lf:∀ws n Q,qW ws n Q->ws.length=2:=λws n Q h=>by obtain⟨_,_,rfl,_⟩:=h;rfl
theorem Rm:∀ws n Q,qW ws n Q->EW (bE ["thing","most"] ws) n {nx:=λ_ n=>Q (.d .none) n,rt:=Q}:=λws n Q h=>by
 obtain⟨b,m,rfl,k⟩:=h;show EW [ae (.w (.d b)),ae (.w (.d (.int m)))] n _;cases b with
 |int i=>exact bb (uH (λQ q=>cu (au rfl ⟨_,rfl,q⟩)) (Hh (λQ q=>aC q) (λQ q=>au rfl q) (λQ q=>au rfl q) k))
 |_=>exact bb (cu (au rfl ⟨_,rfl,k⟩))
theorem RL:∀ws n Q,sI ws n Q->ws.length=1:=λws n Q h=>by obtain⟨_,rfl,_⟩:=h;rfl
theorem R7:∀ws n Q,sI ws n Q->GW (bE ["value"] ws) n {nx:=λ_ n=>Q (.d .none) n,rt:=Q}:=λws n Q h=>by
 obtain⟨v,rfl,hv,k⟩:=h;show GW [ae (.w (.d v))] n {nx:=λ_ n=>Q (.d .none) n,rt:=Q};cases v with
 |str x=>exact k
 |int i=>
  have k:Q (.d (if i=99 then Dg 0 else Dg (i+1))) n:=k;show if decide (i=99)=ai then Q (.d (.int 0)) n else Q (.d (.int (i+1))) n
  refine Do (λe=>?_) λe=>?_
  ·rw[if_pos e]at k;exact k
  ·rw[if_neg e]at k;exact k
 |_=>cases hv
theorem Kl:∀ws n Q,nq ws n Q->ws.length=2:=λws n Q h=>by obtain⟨_,_,rfl,_⟩:=h;rfl
theorem Ko:∀ws n Q,nq ws n Q->zw (bE ["field","having","value"] ws) n {nx:=λ_ n=>Q (.d .none) n,rt:=Q}:=λws n Q h=>by
 obtain⟨f,nm,rfl,⟨_,tm,us⟩,k⟩:=h;show zw [ae (.w (.d f.d)),ae (.w (.dk (bx nm))),ah] n {nx:=λ_ n=>Q (.d .none) n,rt:=Q};cases f with
 |isv d=>exact k
 |as x=>
  obtain⟨v,e,hv⟩:=us x rfl;have k:Q (.d ((look nm x).getD .none)) n:=k;rw[e]at k;refine aD (j5 (h:="is") (a:=.str "as") rfl (by decide +kernel) ?_);dsimp only[aM];refine aD ?_;show(match cK (bx nm) (.inr x)with|some d=>_|none=>False);rw[jO,e];exact k
 |nx x=>
  obtain⟨v,e,hv⟩:=us x rfl;have k:Q (.d (kY ((look nm x).getD .none))) n:=k;rw[e]at k;refine aD (j5 (h:="is") (a:=.str "next") rfl (by decide +kernel) ?_);dsimp only[aM];refine aD ?_;show(match cK (bx nm) (.inr x)with|some d=>_|none=>False);rw[jO,e];exact⟨v,rfl,hv,k⟩
 |_=>cases tm
theorem Sk{δ:Sl}{n:Int}{Q:Bool->Int->Prop}(q:Q ai n):cO δ n Q:=q
theorem qO{α:Type}{w:DT}{Q:List Aa->Int->Prop}{aQ:Sl}(f g:α->Aa)(xs:List α)(x:Option SV)(n:Int)(h:∀a∈xs,∀(n:Int) (Q':DQ),Q' (.d (g a)) n->w (ae (.w (.d (f a)))::aQ) n Q')(q:Q (xs.map g) n):c9 (aJ 0) cO w Q (xs.map f) [] (x::aQ) n:=by
 refine jy f g (λ_=>ai) xs [] x n (λa _ n Q' q=>Sk q) h ?_;rw[Bq,List.filter_eq_self.mpr λ_ _=>rfl];exact q
theorem nR{ds:List Aa}{n:Int}{Q:DQ}(k:Q (.d (.tuple ds)) n):d5 [.d (.list ds)] n Q:=k
theorem IT:∀ws n Q,rY ws n Q->ws.length=2:=λws n Q h=>by obtain⟨_,_,rfl,_⟩:=h;rfl
theorem NX:∀ws n Q,rY ws n Q->BP (bE ["template","names","having"] ws) n {nx:=λ_ n=>Q (.d .none) n,rt:=Q}:=λws n Q h=>by
 obtain⟨fs,nm,rfl,hl,ok,okn,k⟩:=h;show BP [ae (.w (.d (eG fs))),ae (.w (.d (cG nm))),ah] n {nx:=λ_ n=>Q (.d .none) n,rt:=Q};refine aD (oD rfl okn ?_);dsimp only[Al];refine bb (aT (bf (jx (ds:=fs.map Fe.d) (λQ q=>au rfl q) ?_)));show c9 _ _ _ _ _ _ [ah,ae (.w (.dk (bx nm)))] n;exact qO Fe.d (d8 nm) fs ah n (λf hf n Q' q=>bJ (au rfl (show dM 1 _ _ _ from⟨f,nm,rfl,ok f hf,q⟩))) (nR k)
theorem OM:∀ws n Q,lE ws n Q->ws.length=2:=λws n Q h=>by obtain⟨_,_,rfl,_⟩:=h;rfl
theorem Tq:∀ws n Q,lE ws n Q->G5 (bE ["place","names"] ws) n {nx:=λ_ n=>Q (.d .none) n,rt:=Q}:=λws n Q h=>by
 obtain⟨x,nm,rfl,k⟩:=h;show G5 [ae (.w (.d (bP x))),ae (.w (.d (cG nm)))] n _;exact bb (fZ (eB rfl (ar (dY rfl (aC (dH (au rfl (Ah (show 3<=1000 by decide) k))))))))
theorem Jm:∀ws n Q,m8 ws n Q->ws.length=3:=λws n Q h=>by obtain⟨_,_,_,_,rfl,_⟩:=h;rfl
theorem TK:∀ws n Q,m8 ws n Q->ET (bE ["program","block","names","wanted"] ws) n {nx:=λ_ n=>Q (.d .none) n,rt:=Q}:=λws n Q h=>by
 obtain⟨P,b,nm,⟨w,as⟩,rfl,hb,hw,k⟩:=h;have hbD:(P.map kE)[b]?=ae (.tuple [dX w,.tuple (as.map Ac.d)]):=by rw[A1,hb];rfl
 have ew:lN P b=w:=by unfold lN;rw[hb];rfl
 unfold bR at k;rw[ew]at k;show ET [ae (.w (.d (eI P))),ae (.w (.d (.int b))),ae (.w (.d (cG nm))),ah] n _;refine aD (bC (x:=dX w) (λQ q=>ar (ar (au rfl (au rfl (bU hbD (aC (bV q))))))) ?_);dsimp only[Al];refine bb (fZ (au rfl (aC (aT (bf (jx (ds:=nm.map jR) (λQ q=>au rfl q) ?_))))));show c9 _ _ _ _ _ _ [ah,ae (.w (.d (dX w)))] n;refine jy jR jR (λp=>decide (p.1∈w)) nm [] ah n (λp _ n Q' q=>aE (k:=decide (p.1∈w)) (λQ q=>ar (eB rfl (au rfl ⟨rfl,tH w,?_⟩))) q) (λp _ n Q' q=>au rfl q) ?_
 ·show Q (.d (.bool (bZ (.str p.1) (w.map .str)))) n;rw[mH];exact q
 ·exact Ah (show 3<=1000 by decide) k
theorem NS:∀ws n Q,jI ws n Q->ws.length=3:=λws n Q h=>by obtain⟨_,_,_,rfl,_⟩:=h;rfl
theorem IR:∀ws n Q,jI ws n Q->AN (bE ["hands","hand","place"] ws) n {nx:=λ_ n=>Q (.d .none) n,rt:=Q}:=λws n Q h=>by
 obtain⟨hs,h,x,rfl,hh,hl,k⟩:=h;show AN [ae (.w (.d (.tuple (hs.map bP)))),ae (.w (.d (.int h))),ae (.w (.d (bP x)))] n _;have hd:(bq hs h x).map bP=((hs.map bP).take h++[bP x])++(hs.map bP).drop (h+1):=by
  unfold bq;rw[Be,Bi,List.map_take,List.map_drop,Bp];rfl
 rw[hd]at k;have l1:((hs.map bP).take h).length<=5:=A3 (List.length_take_le' _ _) (by rw[Ab];exact hl);have l2:((hs.map bP).drop (h+1)).length<=5:=by rw[Bw,Ab];omega
 refine bb (ar (ar (nK (p:=h) (λQ q=>au rfl q) (λQ q=>au rfl q) (by rw[Ab];omega) (kx (au rfl (Ah (show 1<=1000 by decide) (gH (by rw[Av];omega) ?_)))))));exact mN (p:=h+1) (λQ q=>au rfl q) (λQ q=>ar (au rfl (aC (dH q)))) (by rw[Ab];omega) (gH (by rw[Af,Av];omega) k)
theorem Nd:∀ws n Q,sq ws n Q->ws.length=1:=λws n Q h=>by obtain⟨_,rfl,_⟩:=h;rfl
theorem My:∀ws n Q,sq ws n Q->Gs (bE ["note"] ws) n {nx:=λ_ n=>Q (.d .none) n,rt:=Q}:=λws n Q h=>by
 obtain⟨⟨row,a⟩,rfl,ha,k⟩:=h;show Gs [ae (.w (.d (cR (row,a))))] n _;rcases ha with rfl|⟨i,rfl,_⟩
 ·exact bb (fL (b:=ai) (λQ q=>aE (k:=ai) (λQ q=>ar (dY rfl (aC (hZ q)))) q) (by rw[if_pos rfl];exact au rfl k))
 ·exact bb (fL (b:=aj) (λQ q=>aE (k:=aj) (λQ q=>ar (dY rfl (aC (hZ q)))) q) (by rw[if_neg Ae];exact cX (eB rfl (ar (dY rfl (aC (Ah (show 2<=1000 by decide) k)))))))
theorem AE{a:Aa}{n:Int}{Q:DQ}(ha:f9 a)(k:Q (.d (.bool (!cV a))) n):dZ (.d a) (.d (.int 1)) n Q:=by
 rcases ha with rfl|⟨i,rfl,_⟩<;>exact k
theorem Kt:∀ws n Q,rg ws n Q->ws.length=1:=λws n Q h=>by obtain⟨_,_,rfl,_⟩:=h;rfl
theorem Ou:∀ws n Q,rg ws n Q->FL (bE ["stand"] ws) n {nx:=λ_ n=>Q (.d .none) n,rt:=Q}:=λws n Q h=>by
 obtain⟨hs,ns,rfl,ha,k⟩:=h;show FL [ae (.w (.d (bM hs ns)))] n _;refine bb (cX (eB rfl (aT (bf (jx (ds:=ns.map cR) (λQ q=>dY rfl q) ?_)))));show c9 _ _ _ _ _ _ [ah] n;refine jy cR (λq=>cR (q.1,jo q.2)) (λq=>!cV q.2) ns [] ah n (λq hq n Q' k'=>aE (λQ q'=>ar (dY rfl (aC (AE (ha q hq) q')))) k') (λq hq n Q' k'=>cu (au rfl ⟨q,rfl,ha q hq,k'⟩)) ?_;refine Ah (show 2<=1000 by decide) ?_;unfold bM bN dQ at k;rw[Cw]at k;exact k
theorem Mk:∀j:Fin 100,cD (.int ((j.val:Nat):Int))=ai:=by decide +kernel
theorem jn{i:Int}(h0:0<=i)(h1:i<=99):cD (.int i)=ai:=by
 have:=Mk ⟨i.toNat,by omega⟩;rw[show((i.toNat:Nat):Int)=i by omega]at this;exact this
theorem AG{i:Int}(h:cD (.int i)=ai):0<=i/\i<=99:=by
 simp only[cD,A2,decide_eq_true_eq]at h;exact⟨h.1,h.2.1⟩
theorem vt{v:Aa}(h:cD v=ai):cD (kY v)=ai:=by
 cases v with
 |str x=>exact h
 |int i=>
  obtain⟨h0,h1⟩:=AG h;show cD (if i=99 then .int 0 else .int (i+1))=ai
  split
  ·exact jn (by decide) (by decide)
  ·exact jn (by omega) (by omega)
 |_=>cases h
theorem iB{nm:Nm}{f:Fe}(h:e9 nm f):cD (d8 nm f)=ai:=by
 obtain⟨ok,tm,us⟩:=h;cases f with
 |isv d=>exact ok
 |as k=>obtain⟨v,e,hv⟩:=us k rfl;show cD ((look nm k).getD .none)=ai;rw[e];exact hv
 |nx k=>obtain⟨v,e,hv⟩:=us k rfl;show cD (kY ((look nm k).getD .none))=ai;rw[e];exact vt hv
 |_=>cases tm
theorem QK{a b:Aa}{n:Int}{Q:DQ}(ha:cD a=ai)(hb:cD b=ai)(k:Q (.d (.bool (fj a b))) n):aV (.d a) (.d b) n Q:=by
 unfold aV;simp only[m4 ha hb];exact k
theorem Pp:∀ws n Q,sD ws n Q->ws.length=2:=λws n Q h=>by obtain⟨_,_,_,_,rfl,_⟩:=h;rfl
theorem Ug:∀ws n Q,sD ws n Q->zk (bE ["act","names","having"] ws) n {nx:=λ_ n=>Q (.d .none) n,rt:=Q}:=λws n Q h=>by
 obtain⟨f,g,b,nm,rfl,hf,hg,_,_,okn,k⟩:=h;show zk [ae (.w (.d (.tuple [.str "same",f.d,g.d,.int b]))),ae (.w (.d (cG nm))),ah] n _;refine aD (oD rfl okn ?_);dsimp only[Al];exact bb (ar (bJ (dY rfl (show dM 2 _ _ _ from⟨f,nm,rfl,hf,bJ (ar (au rfl (aC (dG (show dM 2 _ _ _ from⟨g,nm,rfl,hg,QK (iB hf) (iB hg) k⟩)))))⟩))))
theorem rq{fs:List Fd}{nm:Nm}{ns:List Nt}{i:Nat}(h:bh fs nm ns=ae i):∃q,ns[i]?=ae q/\cY fs q.1 nm=ai:=by
 unfold bh at h;rw[Gk]at h;obtain⟨hl,h1,_⟩:=h;exact⟨ns[i],Ak hl,h1⟩
theorem Rk{fs:List Fd}{row:List Aa}{nm:Nm}(h:cY fs row nm=ai):gy fs row nm=cG (c7 (dD fs row nm)):=by unfold gy;rw[if_pos h]
theorem mE{ps:Pg}{hs:List Hn}{ns:List Nt}{h:Nat}{P:List Bl}{xb xp:Nat}{nm:Nm}{w:List Str}{as:List Ac}(H:HandAt ps hs h P xb xp nm w as){a:Ac}(e:bK ps hs h=ae a):fJ ps hs ns h=(nU P (xb,xp,nm) ns a).map λr=>(bq hs h r.1,r.2):=by
 unfold fJ;rw[H.prog,H.hand,e];rfl
theorem iN{fs:List Fe}{x:Hn}{ns:List Nt}(e:bh (fs.map Fe.fd) x.2.2 ns=ah):bS fs x ns=ah:=by unfold bS;rw[e];rfl
theorem ij{fs:List Fe}{x:Hn}{ns:List Nt}{i:Nat}(e:bh (fs.map Fe.fd) x.2.2 ns=ae i):bS fs x ns=ae (i,cM x (c7 (dD (fs.map Fe.fd) (ck ns i) x.2.2))):=by unfold bS;rw[e];rfl
theorem vV{s h:Str}{n:Int}{Q:DQ}(k:Q (.d (.bool (!bO h (.str s)))) n):dZ (.d (.str s)) (.d (.str h)) n Q:=k
theorem AQ(ns:List Nt)(i:Nat):(cZ ns i).map cR=(ns.map cR).take i++(ns.map cR).drop (i+1):=by unfold cZ;rw[Be,List.map_take,List.map_drop]
section
variable{ps:Pg}{hs:List Hn}{ns:List Nt}{h:Nat}{P:List Bl}{xb xp:Nat}{nm:Nm}{w:List Str}{as:List Ac}{n:Int}{Q:DQ}
theorem xG{δ:Sl}{w2':DT}{x:Hn}{i1 i2 i5:Nat}{ns':List Nt}(e1:δ[i1]?=ae (ae (.w (.d (bM hs ns)))))(e2:δ[i2]?=ae (ae (.w (.d (.int h)))))(e5:δ[i5]?=ae (ae (.w (.d (bN ns')))))(hx:∀Q:DQ,Q (.d (bP x)) n->w2' δ n Q)(hh:h < hs.length)(hl:hs.length<=5)(k:Q (.d (bM (bq hs h x) ns')) n):
  aw (aq (aF jI (aq (w2 (ak i1) (wC (.int (0))) aB) (aq (ak i2) (aq w2' ao)))) (aq (ak i5) ao)) δ n Q:=
 cX (bW (eB e1 (au e2 (hx _ ⟨hs,h,x,rfl,hh,hl,au e5 (Ah (show 2<=1000 by decide) k)⟩))))
theorem vn{a:Ac}{s:Str}{gs:List Fe}{r:List Aa}(H:HandAt ps hs h P xb xp nm w as)(okp:cz ps)(okh:okHs ps hs)(okn:dF 100 ns)(hh:h < ps.length)(ea:bK ps hs h=ae a)(ed:a.d=.tuple (.str s::eG gs::r))(hpf:a.pf=ae (gs.map Fe.fd))(hof:fF gs)(hpat:gW gs)
  (kN:bh (gs.map Fe.fd) nm ns=ah->av (aL (cT (w2 (w2 (ak 3) (wC (.int (0))) aB) (wC (.str "look")) dZ)) (az (wC .none)) aM) (az (aw (aq (aF jI (aq (w2 (ak 1) (wC (.int (0))) aB) (aq (ak 2) (aq (aF m8 (aq (w2 (ak 0) (ak 2) aB) (aq (w2 (ak 3) (wC (.int (2))) aB) (aq (w2 (ak 4) (wC (.int (2))) aB) ao)))) ao)))) (aq (ak 5) ao))))
   [ae (.w (.d (aY ps))),ae (.w (.d (bM hs ns))),ae (.w (.d (.int h))),ae (.w (.d (.tuple (.str s::eG gs::r)))),ae (.w (.d (bP (xb,xp,nm)))),ae (.w (.d (bN ns))),ae (.w (.d .none)),ah] n {nx:=λ_ _=>True,rt:=Q})
  (kS:∀i ns',bh (gs.map Fe.fd) nm ns=ae i->ns'=(if bO "take" (.str s)=ai then cZ ns i else ns)->Q (.d (bM (bq hs h (cM (xb,xp,nm) (c7 (dD (gs.map Fe.fd) (ck ns i) nm)))) ns')) n):
  xq [ae (.w (.d (aY ps))),ae (.w (.d (bM hs ns))),ae (.w (.d (.int h))),ae (.w (.d a.d)),ah,ah,ah,ah] n {nx:=λ_ n=>Q (.d .none) n,rt:=Q}:=by
 rw[ed];obtain⟨ep,op⟩:=nJ hof hpat;have hlt:h < hs.length:=by rw[okh.1];exact hh
 have hl5:hs.length<=5:=by rw[okh.1];exact okp.1
 refine aD (bC (x:=bP (xb,xp,nm)) (λQ q=>ar (ar (au rfl (aC (bV (au rfl (bU H.hD q))))))) ?_);dsimp only[Al];refine aD (bC (x:=bN ns) (λQ q=>dY rfl q) ?_);dsimp only[Al];have eg:bc ps hs ns h=bh (gs.map Fe.fd) nm ns:=by
  unfold bc;rw[ea,H.nmq];show(a.pf.bind _)=_;rw[hpf];rfl
 refine aD (bC (x:=fP (bh (gs.map Fe.fd) nm ns)) (λQ q=>bW (au rfl (au rfl (au rfl ⟨ps,hs,ns,h,rfl,⟨okp,okh,okn⟩,hh,by rw[eg];exact q⟩)))) ?_);dsimp only[Al];cases eq:bh (gs.map Fe.fd) nm ns with
 |none=>exact aD (bF (λQ q=>aE (k:=ai) (λQ q=>ar (au rfl (aC (hZ q)))) q) (kN eq))
 |some i=>
  obtain⟨⟨row,age⟩,hq,hf⟩:=rq eq;have hi:i < ns.length:=(Au.mp hq).1;have hq':(ns.map cR)[i]?=ae (.tuple [.tuple row,age]):=by rw[A1,hq];rfl
  have er:ck ns i=row:=by unfold ck;rw[hq];rfl
  have oq:=okn.2 _ (A5 hq);refine aD (a8 (λQ q=>aE (k:=aj) (λQ q=>ar (au rfl (aC (hZ q)))) q) ?_);dsimp only[aM];refine aD (bC (x:=cG (c7 (dD (gs.map Fe.fd) (ck ns i) nm))) (λQ q=>?_) ?_)
  ·refine bW (dY rfl (ar (ar (au rfl (au rfl (bU hq' (aC (bV ?_))))))));refine ar (au rfl (aC (dG ⟨gs.map Fe.fd,row,nm,by rw[ep],op,oq.1,H.nms,?_⟩)));rw[Rk hf];rw[er]at q;exact q
  dsimp only[Al];have fin:∀ns',ns'=(if bO "take" (.str s)=ai then cZ ns i else ns)->az (aw (aq (aF jI (aq (w2 (ak 1) (wC (.int (0))) aB) (aq (ak 2) (aq (aF lE (aq (ak 4) (aq (ak 7) ao))) ao)))) (aq (ak 5) ao)))
    [ae (.w (.d (aY ps))),ae (.w (.d (bM hs ns))),ae (.w (.d (.int h))),ae (.w (.d (.tuple (.str s::eG gs::r)))),ae (.w (.d (bP (xb,xp,nm)))),ae (.w (.d (bN ns'))),ae (.w (.d (.int i))),ae (.w (.d (cG (c7 (dD (gs.map Fe.fd) (ck ns i) nm)))))] n {nx:=λ_ n=>Q (.d .none) n,rt:=Q}:=λns' e'=>
   bb (xG (x:=cM (xb,xp,nm) (c7 (dD (gs.map Fe.fd) (ck ns i) nm))) rfl rfl rfl (λQ q=>bJ (au rfl (au rfl ⟨(xb,xp,nm),_,rfl,q⟩))) hlt hl5 (kS i ns' eq e'))
  refine aD (vT rfl (λz=>?_) λz=>?_)
  ·refine bC (x:=bN (cZ ns i)) (λQ q=>ar (nK (p:=i) (λQ q=>au rfl q) (λQ q=>au rfl q) (by rw[Ab];omega) (mN (p:=i+1) (λQ q=>au rfl q) (λQ q=>ar (au rfl (aC (dH q)))) (by rw[Ab];omega) (gH ?_ ?_)))) ?_
   ·have:=okn.1;rw[Br,Bw,Ab];omega
   ·unfold bN at q;rw[AQ]at q;exact q
   ·dsimp only[Al];exact fin (cZ ns i) (by rw[if_pos z])
  ·dsimp only[aM];exact fin ns (by rw[if_neg (by rw[z];exact Ae)])
end
theorem SI:∀ws n Q,ni ws n Q->ws.length=4:=λws n Q h=>by obtain⟨_,_,_,_,_,rfl,_⟩:=h;rfl
theorem KW:∀ws n Q,ni ws n Q->xq (bE ["programs","stand","hand","act","place","notes","number","names"] ws) n {nx:=λ_ n=>Q (.d .none) n,rt:=Q}:=λws n Q h=>by
 obtain⟨ps,hs,ns,h,a,rfl,⟨okp,okh,okn⟩,hh,ea,hp,k⟩:=h;obtain⟨P,xb,xp,nm,w,as,H⟩:=iZ okh hh;have oa:=H.ok okp ea;rw[mE H ea]at k;have hlt:h < hs.length:=by rw[okh.1];exact hh
 have hl5:hs.length<=5:=by rw[okh.1];exact okp.1
 show xq [ae (.w (.d (aY ps))),ae (.w (.d (bM hs ns))),ae (.w (.d (.int h))),ae (.w (.d a.d)),ah,ah,ah,ah] n _;cases a with
 |lay fs age=>cases hp
 |same f g b=>cases hp
 |go b=>cases hp
 |take gs=>
  refine vn (s:="take") (gs:=gs) (r:=[]) H okp okh okn hh ea rfl rfl oa.1 oa.2 (λe=>?_) λi ns' e e'=>?_
  ·have k:Q (.d (iL (((bS gs (xb,xp,nm) ns).map λq=>(q.2,cZ ns q.1)).map λr=>(bq hs h r.1,r.2)))) n:=k;rw[iN e]at k;exact aD (bF (λQ q=>aE (k:=ai) (λQ q=>ar (eB rfl (aC (vV (by rw[show bO "look" (.str "take")=aj by decide +kernel];exact q))))) q) (bb (aC k)))
  ·rw[if_pos (by decide +kernel)]at e';rw[e'];have k:Q (.d (iL (((bS gs (xb,xp,nm) ns).map λq=>(q.2,cZ ns q.1)).map λr=>(bq hs h r.1,r.2)))) n:=k;rw[ij e]at k;exact k
 |read gs=>
  refine vn (s:="read") (gs:=gs) (r:=[]) H okp okh okn hh ea rfl rfl oa.1 oa.2 (λe=>?_) λi ns' e e'=>?_
  ·have k:Q (.d (iL (((bS gs (xb,xp,nm) ns).map λq=>(q.2,ns)).map λr=>(bq hs h r.1,r.2)))) n:=k;rw[iN e]at k;exact aD (bF (λQ q=>aE (k:=ai) (λQ q=>ar (eB rfl (aC (vV (by rw[show bO "look" (.str "read")=aj by decide +kernel];exact q))))) q) (bb (aC k)))
  ·rw[if_neg (by decide +kernel)]at e';rw[e'];have k:Q (.d (iL (((bS gs (xb,xp,nm) ns).map λq=>(q.2,ns)).map λr=>(bq hs h r.1,r.2)))) n:=k;rw[ij e]at k;exact k
 |look gs b=>
  refine vn (s:="look") (gs:=gs) (r:=[.int b]) H okp okh okn hh ea rfl rfl oa.1 oa.2 (λe=>?_) λi ns' e e'=>?_
  ·have k:Q (.d (iL ((match bS gs (xb,xp,nm) ns with|some q=>ae (q.2,ns)|none=>ae (bR P b nm,ns):Option (Hn×List Nt)).map λr=>(bq hs h r.1,r.2)))) n:=k;rw[iN e]at k;have hr:=(okp.2 P (A5 H.prog)).2.2 (w,as) (A5 H.blk);rw[H.act]at ea;obtain⟨wb,hwb,_⟩:=(hr.2 xp _ ea).2 b rfl;rw[A1]at hwb;obtain⟨bl,hbl,_⟩:=Option.map_eq_some_iff.mp hwb;have obl:=((okp.2 P (A5 H.prog)).2.2 bl (A5 hbl)).1;refine aD (a8 (λQ q=>aE (k:=aj) (λQ q=>ar (eB rfl (aC (vV (by rw[show bO "look" (.str "look")=ai by decide +kernel];exact q))))) q) ?_);dsimp only[aM];refine bb (xG (x:=bR P b nm) rfl rfl rfl (λQ q=>?_) hlt hl5 k);refine bW (ar (au rfl (au rfl (bU H.pD ?_))));refine ar (au rfl (aC (dG ?_)));exact ar (au rfl (aC (dG ⟨P,b,nm,bl,rfl,hbl,obl.1,q⟩)))
  ·rw[if_neg (by decide +kernel)]at e';rw[e'];have k:Q (.d (iL ((match bS gs (xb,xp,nm) ns with|some q=>ae (q.2,ns)|none=>ae (bR P b nm,ns):Option (Hn×List Nt)).map λr=>(bq hs h r.1,r.2)))) n:=k;rw[ij e]at k;exact k
theorem j7{δ:Sl}{n:Int}{Q:DQ}{w w' w'' v:DT}{S:bu}(k:w δ n λx n1=>w' δ n1 λy n2=>w'' δ n2 λz n3=>v δ n3 λu n4=>S [x,y,z,u] n4 Q):aF S (aq w (aq w' (aq w'' (aq v ao)))) δ n Q:=k
theorem yE{nm:Nm}{k:Str}(h:k∈nm.map (·.1)):∃v,look nm k=ae v:=by
 obtain⟨p,hp,e⟩:=Bg.mp h;have:(nm.any λp=>decide (p.1=k))=ai:=Dp.mpr ⟨p,hp,decide_eq_true e⟩;rw[tF]at this;exact Dc.mp this
theorem RW{f:Fe}(h:f.tm=ai):f.bd=ah:=by cases f<;>first|rfl|cases h
theorem sh{f:Fe}(h:f.te=ai):f.tm=ai:=by cases f<;>first|rfl|cases h
theorem xf:∀{fs:List Fe}{ks:List Str},rF ks fs->(∀f∈fs,f.tm=ai)->∀f∈fs,∀k,f.us=ae k->k∈ks
 |[],_,_,_,f,hf,_,_=>by simp at hf
 |g::r,ks,h,ht,f,hf,k,hk=>by
  rcases Ap.mp hf with rfl|hf
  ·exact h.1 k hk
  ·have h2:=h.2;rw[RW (ht g As)]at h2;have:=xf h2 (λx hx=>ht x (Am _ hx)) f hf k hk;simpa using this
section
variable{ps:Pg}{hs:List Hn}{ns:List Nt}{h:Nat}{P:List Bl}{xb xp:Nat}{nm:Nm}{w:List Str}{as:List Ac}{n:Int}{Q:DQ}
theorem HandAt.okb(H:HandAt ps hs h P xb xp nm w as)(okp:cz ps):m5 (w,as)/\mq (P.map (·.1)) (w,as):=(okp.2 P (A5 H.prog)).2.2 (w,as) (A5 H.blk)
theorem HandAt.right(H:HandAt ps hs h P xb xp nm w as)(okp:cz ps){a:Ac}(e:bK ps hs h=ae a):a.right (P.map (·.1)) (kn w as xp):=by
 rw[H.act]at e;exact(H.okb okp).2 xp a e
theorem HandAt.fv(H:HandAt ps hs h P xb xp nm w as){f:Fe}(ok:f.ok)(tm:f.tm=ai)(us:∀k,f.us=ae k->k∈kn w as xp):e9 nm f:=⟨ok,tm,λk hk=>by
 obtain⟨v,e⟩:=yE ((H.hn.mem k).mpr (us k hk));exact⟨v,e,(H.hn.ok _ (lS e)).2⟩⟩
theorem HandAt.lay(H:HandAt ps hs h P xb xp nm w as)(okp:cz ps){fs:List Fe}{age:Aa}(e:bK ps hs h=ae (.lay fs age)):fs.length<=4/\∀f∈fs,e9 nm f:=by
 have oa:=H.ok okp e;have r:=(H.right okp e).1;exact⟨oa.1.1,λf hf=>H.fv (oa.1.2 f hf) (oa.2.1 f hf) (xf r oa.2.1 f hf)⟩
theorem HandAt.same(H:HandAt ps hs h P xb xp nm w as)(okp:cz ps){f g:Fe}{b:Nat}(e:bK ps hs h=ae (.same f g b)):e9 nm f/\e9 nm g/\f.te=ai/\g.te=ai:=by
 have oa:=H.ok okp e;have r:=xf (H.right okp e).1 (λx hx=>by
  simp only[Ac.fs,Ap,Aq,or_false]at hx;rcases hx with rfl|rfl
  ·exact sh oa.2.1
  ·exact sh oa.2.2)
 exact⟨H.fv (oa.1.2 f (by simp[Ac.fs])) (sh oa.2.1) (r f (by simp[Ac.fs])),H.fv (oa.1.2 g (by simp[Ac.fs])) (sh oa.2.2) (r g (by simp[Ac.fs])),oa.2.1,oa.2.2⟩
theorem HandAt.to(H:HandAt ps hs h P xb xp nm w as)(okp:cz ps){a:Ac}{b:Nat}(e:bK ps hs h=ae a)(hb:a.to=ae b):∃bl:Bl,P[b]?=ae bl/\m5 bl/\∀k∈bl.1,k∈nm.map (·.1):=by
 obtain⟨wb,hwb,hk⟩:=(H.right okp e).2 b hb;rw[A1]at hwb;obtain⟨bl,hbl,rfl⟩:=Option.map_eq_some_iff.mp hwb;exact⟨bl,hbl,((okp.2 P (A5 H.prog)).2.2 bl (A5 hbl)).1,λk z=>(H.hn.mem k).mpr (hk k z)⟩
end
theorem O1{a b:Aa}{n:Int}{Q:DQ}{δ:Sl}{i:Nat}(e:δ[i]?=ae (ae (.w (.d (.tuple [a,b])))))(k:Q (.d b) n):w2 (ak i) (cj (wC (.int 1))) aB δ n Q:=ar (au e k)
theorem ON{a b c d:Aa}{n:Int}{Q:DQ}{δ:Sl}{i:Nat}(e:δ[i]?=ae (ae (.w (.d (.tuple [a,b,c,d])))))(k:Q (.d d) n):w2 (ak i) (cj (wC (.int 1))) aB δ n Q:=ar (au e k)
theorem Pq:∀ws n Q,qr ws n Q->ws.length=3:=λws n Q h=>by obtain⟨_,_,_,_,rfl,_⟩:=h;rfl
theorem Kz:∀ws n Q,qr ws n Q->FI (bE ["programs","stand","hand","act","place","notes","names"] ws) n {nx:=λ_ n=>Q (.d .none) n,rt:=Q}:=λws n Q h=>by
 obtain⟨ps,hs,ns,h,rfl,⟨okp,okh,okn⟩,hh,k⟩:=h;obtain⟨P,xb,xp,nm,w,as,H⟩:=iZ okh hh;have hlt:h < hs.length:=by rw[okh.1];exact hh
 have hl5:hs.length<=5:=by rw[okh.1];exact okp.1
 show FI [ae (.w (.d (aY ps))),ae (.w (.d (bM hs ns))),ae (.w (.d (.int h))),ah,ah,ah,ah] n _;refine aD (bC (λQ q=>ny rfl rfl rfl okh hh q) ?_);dsimp only[Al];cases ea:bK ps hs h with
 |none=>
  unfold fJ at k;rw[H.prog,H.hand,ea]at k;exact aD (bF (λQ q=>aE (k:=ai) (λQ q=>ar (au rfl (aC (hZ q)))) q) (bb (aC k)))
 |some a=>
  have oa:=H.ok okp ea;show av _ _ [ae (.w (.d (aY ps))),ae (.w (.d (bM hs ns))),ae (.w (.d (.int h))),ae (.w (.d a.d)),ah,ah,ah] n _;cases ef:a.pf with
  |some fs=>
   obtain⟨of,s,r,e,h1,_⟩:=sQ ef oa;have ha:Q (.d (iL (fJ ps hs ns h))) n->aF ni (aq (ak 0) (aq (ak 1) (aq (ak 2) (aq (ak 3) ao)))) [ae (.w (.d (aY ps))),ae (.w (.d (bM hs ns))),ae (.w (.d (.int h))),ae (.w (.d a.d)),ah,ah,ah] n Q:=λk=>
    j7 (au rfl (au rfl (au rfl (au rfl ⟨ps,hs,ns,h,a,rfl,⟨okp,okh,okn⟩,hh,ea,by rw[ef];rfl,k⟩))))
   rw[e]at ha ⊢;refine aD (a8 (λQ q=>aE (k:=aj) (λQ q=>ar (au rfl (aC (hZ q)))) q) ?_);dsimp only[aM];exact aD (bF (λQ q=>BY (λQ q=>eB rfl q) h1 q) (bb (ha k)))
  |none=>
   rw[mE H ea]at k;have pre:∀(V:aP)(s:Str)(r:List Aa),a.d=.tuple (.str s::r)->bZ (.str s) [.str "take",.str "read",.str "look"]=aj->
     V [ae (.w (.d (aY ps))),ae (.w (.d (bM hs ns))),ae (.w (.d (.int h))),ae (.w (.d a.d)),ae (.w (.d (bP (xb,xp,nm)))),ae (.w (.d (bN ns))),ae (.w (.d (cG nm)))] n {nx:=λ_ n=>Q (.d .none) n,rt:=Q}->
     av (aL (cT (w2 (ak 3) (wC .none) (cL aj))) (az (wC .none)) aM) (av (aL (cT (jb Ze (w2 (ak 3) (wC (.int (0))) aB))) (az (aF ni (aq (ak 0) (aq (ak 1) (aq (ak 2) (aq (ak 3) ao)))))) aM) (av (aA 4 (w2 (w2 (ak 1) (wC (.int (0))) aB) (ak 2) aB)) (av (aA 5 (w2 (ak 1) (wC (.int (1))) aB)) (av (aA 6 (w2 (ak 4) (wC (.int (2))) aB)) V))))
      [ae (.w (.d (aY ps))),ae (.w (.d (bM hs ns))),ae (.w (.d (.int h))),ae (.w (.d a.d)),ah,ah,ah] n {nx:=λ_ n=>Q (.d .none) n,rt:=Q}:=λV s r e h1 kk=>by
    rw[e]at kk ⊢;refine aD (a8 (λQ q=>aE (k:=aj) (λQ q=>ar (au rfl (aC (hZ q)))) q) ?_);dsimp only[aM];refine aD (a8 (λQ q=>BY (λQ q=>eB rfl q) h1 q) ?_);dsimp only[aM];refine aD (bC (x:=bP (xb,xp,nm)) (λQ q=>ar (ar (au rfl (aC (bV (au rfl (bU H.hD q))))))) ?_);dsimp only[Al];refine aD (bC (x:=bN ns) (λQ q=>dY rfl q) ?_);dsimp only[Al];refine aD (bC (x:=cG nm) (λQ q=>ar (au rfl (aC (dG q)))) ?_);dsimp only[Al];exact kk
   have fin:∀(x:Hn)(ns':List Nt)(d:Aa),Q (.d (bM (bq hs h x) ns')) n->az (aw (aq (aF jI (aq (w2 (ak 1) (wC (.int (0))) aB) (aq (ak 2) (aq (ak 4) ao)))) (aq (ak 5) ao))) [ae (.w (.d (aY ps))),ae (.w (.d (bM hs ns))),ae (.w (.d (.int h))),ae (.w (.d d)),ae (.w (.d (bP x))),ae (.w (.d (bN ns'))),ae (.w (.d (cG nm)))] n {nx:=λ_ n=>Q (.d .none) n,rt:=Q}:=λx ns' d q=>
    bb (xG (x:=x) rfl rfl rfl (λQ q=>au rfl q) hlt hl5 q)
   cases a with
   |take fs=>cases ef
   |read fs=>cases ef
   |look fs b=>cases ef
   |lay fs age=>
    obtain⟨hl4,hfv⟩:=H.lay okp ea;refine pre _ "lay" [eG fs,age] rfl (by decide +kernel) ?_;refine aD (oX (a:=.str "lay") rfl (by decide +kernel) (aD ?_));refine bC (x:=bN (ns++[(cw fs nm,age)])) (λQ q=>?_) ?_
    ·refine ar (au rfl (kx (cX (bJ (dY rfl (au rfl ⟨fs,nm,rfl,hl4,hfv,H.nms,?_⟩))))));refine ar (au rfl (aC (dG (Ah (show 2<=1000 by decide) (Ah (show 1<=1000 by decide) (gH (by rw[Ab,Av];have:=okn.1;omega) ?_))))));unfold bN at q;rw[Be]at q;exact q
    ·dsimp only[Al];refine bC (x:=bP (cM (xb,xp,nm) nm)) (λQ q=>bJ (au rfl (au rfl ⟨(xb,xp,nm),nm,rfl,q⟩))) ?_;dsimp only[Al];exact fin _ _ _ k
   |same f g b=>
    obtain⟨hf,hg,tf,tg⟩:=H.same okp ea;obtain⟨bl,hbl,obl,_⟩:=H.to okp ea (b:=b) rfl;refine pre _ "same" [f.d,g.d,.int b] rfl (by decide +kernel) ?_;refine aD (j5 (a:=.str "same") rfl (by decide +kernel) (dh (kK (λQ q=>mj (a:=.str "same") rfl ?_) ?_)))
    ·rw[show bO "same" (.str "same")=ai by decide +kernel];exact q
    refine(show cT _ _ _ _ from bJ (au rfl (au rfl ⟨f,g,b,nm,rfl,hf,hg,tf,tg,H.nms,?_⟩)));have k:Q (.d (bM (bq hs h (if fj (d8 nm f) (d8 nm g)=ai then cM (xb,xp,nm) nm else bR P b nm)) ns)) n:=k;refine jd (λz=>?_) λz=>?_
    ·rw[if_pos z]at k;refine bC (x:=bP (cM (xb,xp,nm) nm)) (λQ q=>bJ (au rfl (au rfl ⟨(xb,xp,nm),nm,rfl,q⟩))) ?_;dsimp only[Al];exact fin _ _ _ k
    ·rw[if_neg (by rw[z];exact Ae)]at k;refine bC (x:=bP (bR P b nm)) (λQ q=>bW (ar (au rfl (au rfl (bU H.pD (ON rfl (au rfl ⟨P,b,nm,bl,rfl,hbl,obl.1,q⟩))))))) ?_;dsimp only[Al];exact fin _ _ _ k
   |go b=>
    obtain⟨bl,hbl,obl,_⟩:=H.to okp ea (b:=b) rfl;refine pre _ "go" [.int b] rfl (by decide +kernel) ?_;refine aD (j5 (a:=.str "go") rfl (by decide +kernel) (a8 (λQ q=>mQ (λQ q=>mj (a:=.str "go") rfl ?_) q) ?_))
    ·rw[show bO "same" (.str "go")=aj by decide +kernel];exact q
    refine bC (x:=bP (bR P b nm)) (λQ q=>bW (ar (au rfl (au rfl (bU H.pD (O1 rfl (au rfl ⟨P,b,nm,bl,rfl,hbl,obl.1,q⟩))))))) ?_;dsimp only[Al];exact fin _ _ _ k
theorem Mb:∀ws n Q,qo ws n Q->ws.length=3:=λws n Q h=>by obtain⟨_,_,_,_,rfl,_⟩:=h;rfl
theorem tE{a b n:Int}{Q:DQ}(k:Q (.d (.bool (decide (a=b)))) n):aV (.d (.int a)) (.d (.int b)) n Q:=k
theorem pX(ps:Pg)(i:Int):jB ps (.int i)=if 0<=i/\i<=(ps.length:Int)then ae i.toNat else ah:=rfl
theorem nH{ps:Pg}{b:Aa}{m:Nat}(em:jB ps b=ae m):b=.int m/\m<=ps.length:=by
 cases b with
 |int i=>
  rw[pX]at em;by_cases z:0<=i/\i<=(ps.length:Int)
  ·rw[if_pos z]at em;cases em;exact⟨by congr 1;omega,by omega⟩
  ·rw[if_neg z]at em;cases em
 |_=>cases em
theorem Rx{ps:Pg}{b:Aa}(em:jB ps b=ah):mD b ps.length=aj:=by
 cases b with
 |int i=>
  rw[pX]at em;by_cases z:0<=i/\i<=(ps.length:Int)
  ·rw[if_pos z]at em;cases em
  ·show(decide (0<=i)&&decide (i<=(ps.length:Int)))=aj;rw[Bool.and_eq_false_iff,decide_eq_false_iff_not,decide_eq_false_iff_not];omega
 |_=>rfl
theorem Qm:∀ws n Q,qo ws n Q->CS (bE ["programs","stand","mover","clock"] ws) n {nx:=λ_ n=>Q (.d .none) n,rt:=Q}:=λws n Q h=>by
 obtain⟨ps,hs,ns,b,rfl,ok,k⟩:=h;show CS [ae (.w (.d (aY ps))),ae (.w (.d (bM hs ns))),ae (.w (.d b)),ah] n _;refine aD (bC (x:=.int ps.length) (λQ q=>aT (au rfl (show Q (.d (.int ((ps.map eI).length:Nat))) n by rw[Ab];exact q))) ?_);dsimp only[Al];unfold hU at k;cases em:jB ps b with
 |none=>
  rw[em]at k;have ew:=Rx em;exact aD (bF (λQ q=>gQ (k:=aj) (λQ q=>aE (k:=aj) (λQ q=>bJ (au rfl (au rfl ⟨_,_,rfl,by rw[ew];exact q⟩))) q) q) (bb (aC k)))
 |some m=>
  rw[em]at k;have k:Q (.d (iL (cx ps hs ns m))) n:=k;obtain⟨rfl,hm⟩:=nH em;have ew:mD (.int m) ps.length=ai:=by
   show(decide (0<=(m:Int))&&decide ((m:Int)<=(ps.length:Int)))=ai;rw[decide_eq_true (by omega),decide_eq_true (by omega)];rfl
  refine aD (a8 (λQ q=>gQ (k:=ai) (λQ q=>aE (k:=ai) (λQ q=>bJ (au rfl (au rfl ⟨_,_,rfl,by rw[ew];exact q⟩))) q) q) ?_);dsimp only[aM];unfold cx at k;refine bb (fL (b:=decide ((m:Int)=ps.length)) (λQ q=>aE (λQ q=>ar (au rfl (au rfl (tE q)))) q) ?_);by_cases e:m=ps.length
  ·rw[if_pos e]at k;rw[if_pos (decide_eq_true (by omega))];exact cu (au rfl ⟨hs,ns,rfl,λq hq=>(ok.2.2.2 q hq).2,k⟩)
  ·rw[if_neg e]at k;rw[if_neg (by rw[decide_eq_false (by omega)];exact Ae)];exact bW (au rfl (au rfl (au rfl ⟨ps,hs,ns,m,rfl,ok,by omega,k⟩)))
theorem S3:∀ws n Q,CO ws n Q->ws.length=3:=λws n Q h=>by obtain⟨_,_,_,_,_,rfl,_⟩:=h;rfl
theorem CM{δ:Sl}{n:Int}{Q:DQ}{i:Nat}{x:Wv}(e:δ[i]?=ae (ae (.w x)))(k:Q x n):dM i δ n Q:=by unfold dM;rw[e];exact k
theorem Ij{δ:Sl}{n:Int}{Q:DQ}{j:Nat}{ps:Nm}(e:δ[j]?=ae (ae (.w (.d (cG ps)))))(ok:okN ps)(k:Q (.dk (bx ps)) n):kA (ak j) δ n Q:=by
 unfold kA ka iS;refine au e ?_;unfold cG;simp only[si];refine⟨by rw[Ab];have:=ok.1;omega,?_⟩;have:=qT ps [] (by rw[Bq];exact ok.2.1);rw[Bq]at this;rw[show([]:List (aN×Aa))=bx []from rfl,this];exact k
theorem Iw{i:Int}(h:cD (.int i)=ai):kY (.int i)=.int ((i+1) % 100):=by
 obtain⟨h0,h1⟩:=AG h;show(if i=99 then Dg 0 else Dg (i+1))=_
 split
 ·rename_i e;subst e;rfl
 ·rw[Int.emod_eq_of_lt (by omega) (by omega)]
theorem Qg:∀ws n Q,ot ws n Q->ws.length=2:=λws n Q h=>by obtain⟨_,_,rfl,_⟩:=h;rfl
theorem OU:∀ws n Q,ot ws n Q->zG (bE ["_law_template_here","_law_has","_law_row_here","_law_word","_law_thing","_law_value_here"] ws) n {nx:=λ_ n=>Q (.d .none) n,rt:=Q}:=λws n Q h=>by
 obtain⟨fs,nm,rfl,hl,ok,k⟩:=h;show zG [ae (.w (.d (eG fs))),ae (.w (.dk (bx nm))),ah,ah,ah,ah] n _;refine aD (jl ?_);dsimp only[Al];refine aD ?_;unfold bo ft;refine au rfl ?_;dsimp only[eG];refine fW (λds δ m=>m=n/\∃(dn re:List Fe)(x y z:Option SV),ds=re.map Fe.d/\dn++re=fs/\δ=[ae (.w (.d (eG fs))),ae (.w (.dk (bx nm))),ae (.own (dn.map (d8 nm))),x,y,z]) (λδ m I=>?_) (λd r δ m N I kN=>?_) _ _ _ ⟨rfl,[],fs,ah,ah,ah,rfl,rfl,rfl⟩
 ·obtain⟨rfl,dn,re,x,y,z,ed,en,rfl⟩:=I;cases List.map_eq_nil_iff.mp ed.symm;rw[Bt]at en;subst en;dsimp only;refine gK rfl ?_;dsimp only[Al];exact bb (aT (au rfl (nR k)))
 ·obtain⟨rfl,dn,re,x,y,z,ed,en,rfl⟩:=I;obtain⟨f,re,rfl,rfl,rfl⟩:=F2.mp ed.symm;have hf:=ok f (by rw[<-en];exact Bc _ As);have hdn:dn.length < 1000000:=by
   have:=congrArg List.length en;rw[Af]at this;omega
  have nxt:∀(x y z:Option SV),N [ae (.w (.d (eG fs))),ae (.w (.dk (bx nm))),ae (.own (dn.map (d8 nm)++[d8 nm f])),x,y,z] m:=λx y z=>
   kN _ _ ⟨rfl,dn++[f],re,x,y,z,rfl,by rw[Bp];exact en,by rw[Be];rfl⟩
  obtain⟨fo,tm,us⟩:=hf;have app:∀(K:DEnds)(x y:Option SV)(v:Aa),v=d8 nm f->(∀δ n,N δ n->K.nx δ n)->br 2 (ak 5) [ae (.w (.d (eG fs))),ae (.w (.dk (bx nm))),ae (.own (dn.map (d8 nm))),x,y,ae (.w (.d v))] m K:=λK x y v e hK=>
   kZ rfl (λQ q=>au rfl q) (by rw[Ab];exact hdn) (by subst e;exact hK _ _ (nxt _ _ _))
  have named:∀(K:DEnds)(s x:Str)(v:Aa),look nm x=ae v->bO "is" (.str s)=aj->(∀δ n,N δ n->K.nx δ n)->(av (aL (dz (cT (w2 (ak 3) (wC (.str "next")) aV)) (bB (cT (bw "str" (ak 5))))) (aA 5 (w2 (w2 (ak 5) (wC (.int (1))) (b7 λi j=>.int (i+j))) (wC (.int (100))) (gI (λ_ j=>0 < j) λi j=>.int (i % j)))) aM) (br 2 (ak 5))) [ae (.w (.d (eG fs))),ae (.w (.dk (bx nm))),ae (.own (dn.map (d8 nm))),ae (.w (.d (.str s))),ae (.w (.d (.str x))),ae (.w (.d v))] m K->
    av (aA 5 (eO (cT (w2 (ak 3) (wC (.str "is")) aV)) (ak 4) (w2 (dM 1) (ak 4) gL))) (av (aL (dz (cT (w2 (ak 3) (wC (.str "next")) aV)) (bB (cT (bw "str" (ak 5))))) (aA 5 (w2 (w2 (ak 5) (wC (.int (1))) (b7 λi j=>.int (i+j))) (wC (.int (100))) (gI (λ_ j=>0 < j) λi j=>.int (i % j)))) aM) (br 2 (ak 5))) [ae (.w (.d (eG fs))),ae (.w (.dk (bx nm))),ae (.own (dn.map (d8 nm))),ae (.w (.d (.str s))),ae (.w (.d (.str x))),z] m K:=λK s x v e hs hK kk=>by
   refine aD (bC (x:=v) (λQ q=>fL (b:=aj) (λQ q=>aE (λQ q=>g9 (d:=.str s) rfl (by rw[hs];exact q)) q) ?_) ?_)
   ·rw[if_neg Ae];refine ar (CM rfl (au rfl ?_));unfold gL;simp only[jO,e];exact q
   ·dsimp only[Al];exact kk
  refine⟨(by cases f<;>first|rfl|cases tm),?_⟩;cases f with
  |isv d=>
   dsimp only[Fe.hd,Fe.tl,bj,cn,aJ,Al];refine aD (bC (x:=d) (λQ q=>fL (b:=ai) (λQ q=>aE (λQ q=>g9 (d:=.str "is") rfl (by rw[tZ];exact q)) q) (by rw[if_pos rfl];exact au rfl q)) ?_);dsimp only[Al];refine aD (a8 (λQ q=>mQ (λQ q=>g9 (d:=.str "is") rfl (by rw[show bO "next" (.str "is")=aj by decide +kernel];exact q)) q) ?_);dsimp only[aM];exact app _ _ _ _ rfl λ_ _ z=>z
  |as x=>
   obtain⟨v,e,hv⟩:=us x rfl;dsimp only[Fe.hd,Fe.tl,bj,cn,aJ,Al];refine named _ "as" x v e u5 (λ_ _ z=>z) ?_;refine aD (a8 (λQ q=>mQ (λQ q=>g9 (d:=.str "as") rfl (by rw[show bO "next" (.str "as")=aj by decide +kernel];exact q)) q) ?_);dsimp only[aM];exact app _ _ _ _ (by show v=gE nm x;unfold gE;rw[e];rfl) λ_ _ z=>z
  |nx x=>
   obtain⟨v,e,hv⟩:=us x rfl;have ev:d8 nm (.nx x)=kY v:=by show kY (gE nm x)=_;unfold gE;rw[e];rfl
   dsimp only[Fe.hd,Fe.tl,bj,cn,aJ,Al];refine named _ "next" x v e (by decide +kernel) (λ_ _ z=>z) ?_;cases v with
   |str t=>
    refine aD (a8 (λQ q=>kK (λQ q=>g9 (d:=.str "next") rfl (by rw[show bO "next" (.str "next")=ai by decide +kernel];exact q)) (gQ (k:=ai) (λQ q=>aE (k:=ai) (λQ q=>show bw _ _ _ _ _ from au rfl (show Q (.d (.bool (cE "str" (.str t)))) m by rw[mW];exact q)) q) q)) ?_);dsimp only[aM];exact app _ _ _ _ (by rw[ev];rfl) λ_ _ z=>z
   |int i=>
    refine aD (bF (λQ q=>kK (λQ q=>g9 (d:=.str "next") rfl (by rw[show bO "next" (.str "next")=ai by decide +kernel];exact q)) (gQ (k:=aj) (λQ q=>aE (k:=aj) (λQ q=>show bw _ _ _ _ _ from au rfl (show Q (.d (.bool (cE "str" (.int i)))) m by rw[mW];exact q)) q) q)) ?_);refine bC (x:=.int ((i+1) % 100)) (λQ q=>ar (ar (au rfl (aC (dH (aC ⟨show(0:Int) < 100 by decide,q⟩)))))) ?_;dsimp only[Al];exact app _ _ _ _ (by rw[ev,Iw hv]) λ_ _ z=>z
   |_=>cases hv
  |_=>cases tm
theorem N9:∀ws n Q,n6 ws n Q->ws.length=2:=λws n Q h=>by obtain⟨_,_,rfl,_⟩:=h;rfl
theorem Jy:∀ws n Q,n6 ws n Q->GK (bE ["_law_term_here","_law_names"] ws) n {nx:=λ_ n=>Q (.d .none) n,rt:=Q}:=λws n Q h=>by
 obtain⟨f,nm,rfl,⟨fo,tm,us⟩,te,okn,k⟩:=h;show GK [ae (.w (.d f.d)),ae (.w (.d (cG nm)))] n _;cases f with
 |isv d=>exact bb (fL (b:=ai) (λQ q=>aE (λQ q=>mj (a:=.str "is") rfl (by rw[tZ];exact q)) q) (by rw[if_pos rfl];exact dY rfl k))
 |as x=>
  obtain⟨v,e,hv⟩:=us x rfl;have k:Q (.d (gE nm x)) n:=k;unfold gE at k;rw[e]at k;refine bb (fL (b:=aj) (λQ q=>aE (λQ q=>mj (a:=.str "as") rfl (by rw[u5];exact q)) q) ?_);rw[if_neg Ae];refine ar (Ij rfl okn (dY (a:=.str "as") (b:=.str x) (r:=[]) rfl ?_));unfold gL;simp only[jO,e];exact k
 |_=>cases te
theorem GO:∀{xs ys:List Str},xs.Nodup->ys.Nodup->(∀k,k∈xs↔k∈ys)->lp xs->lp ys->xs=ys
 |[],[],_,_,_,_,_=>rfl
 |[],y::ys,_,_,h,_,_=>by have:=(h y).mpr As;simp at this
 |x::xs,[],_,_,h,_,_=>by have:=(h x).mp As;simp at this
 |x::xs,y::ys,n1,n2,h,u1,u2=>by
  obtain⟨a1,b1⟩:=Dk.mp n1;obtain⟨a2,b2⟩:=Dk.mp n2;obtain⟨c1,d1⟩:=List.pairwise_cons.mp u1;obtain⟨c2,d2⟩:=List.pairwise_cons.mp u2;have e:x=y:=by
   rcases Ap.mp ((h x).mp As)with e|hx
   ·exact e
   ·rcases Ap.mp ((h y).mpr As)with e|hy
    ·exact e.symm
    ·exact BA _ _ (c2 x hx) (c1 y hy)
  subst e;rw[GO b1 b2 (λk=>⟨λhk=>?_,λhk=>?_⟩) d1 d2]
  ·rcases Ap.mp ((h k).mp (Am _ hk))with e|q
   ·exact absurd (e▸hk) a1
   ·exact q
  ·rcases Ap.mp ((h k).mpr (Am _ hk))with e|q
   ·exact absurd (e▸hk) a2
   ·exact q
theorem HB{nm:Nm}{w:List Str}(nd:(nm.map (·.1)).Nodup)(up:kg nm)(wn:w.Nodup)(wu:lp w)(sub:∀k∈w,k∈nm.map (·.1)):nm.filter (λp=>decide (p.1∈w))=w.map λk=>(k,gE nm k):=by
 have ek:(nm.filter λp=>decide (p.1∈w)).map (·.1)=w:=by
  refine GO ?_ wn (λk=>⟨λhk=>?_,λhk=>?_⟩) ?_ wu
  ·exact List.Nodup.sublist (List.Sublist.map _ List.filter_sublist) nd
  ·obtain⟨p,hp,rfl⟩:=Bg.mp hk;exact of_decide_eq_true (Cr.mp hp).2
  ·obtain⟨p,hp,rfl⟩:=Bg.mp (sub k hk);exact Bg.mpr ⟨p,Cr.mpr ⟨hp,decide_eq_true hk⟩,rfl⟩
  ·unfold lp;rw[List.pairwise_map];exact List.Pairwise.sublist List.filter_sublist up
 have e2:(nm.filter λp=>decide (p.1∈w))=(nm.filter λp=>decide (p.1∈w)).map λp=>(p.1,gE nm p.1):=by
  have:(nm.filter λp=>decide (p.1∈w)).map id=(nm.filter λp=>decide (p.1∈w)).map λp=>(p.1,gE nm p.1):=by
   refine Cs λp hp=>?_;have:=Ma nd (Cr.mp hp).1;show p=(p.1,gE nm p.1);unfold gE;rw[this];rfl
  rw[List.map_id]at this;exact this
 rw[e2]
 conv=>rhs;rw[<-ek]
 rw[Cw];rfl
theorem MN:∀ws n Q,kJ ws n Q->ws.length=3:=λws n Q h=>by obtain⟨_,_,_,_,rfl,_⟩:=h;rfl
theorem Sh:∀ws n Q,kJ ws n Q->GU (bE ["_law_program_here","_law_names","_law_block","_law_has"] ws) n {nx:=λ_ n=>Q (.d .none) n,rt:=Q}:=λws n Q h=>by
 obtain⟨P,b,nm,⟨w,as⟩,rfl,hb,hw,okn,up,wn,wu,sub,k⟩:=h;have hbD:(P.map kE)[b]?=ae (.tuple [dX w,.tuple (as.map Ac.d)]):=by rw[A1,hb];rfl
 have ew:lN P b=w:=by unfold lN;rw[hb];rfl
 unfold bR at k;rw[ew,HB okn.2.1 up wn wu sub]at k;show GU [ae (.w (.d (eI P))),ae (.w (.d (cG nm))),ae (.w (.d (.int b))),ah] n _;refine aD (oD rfl okn ?_);dsimp only[Al];refine bb (fZ (au rfl (aC (aT (bf (jx (ds:=w.map .str) (λQ q=>ar (ar (au rfl (au rfl (bU hbD (aC (bV q)))))) ) ?_))))));show c9 _ _ _ _ _ _ [ah,ae (.w (.dk (bx nm)))] n;refine qO .str (λx=>jR (x,gE nm x)) w ah n (λx hx n Q' q=>?_) ?_
 ·obtain⟨v,e⟩:=yE (sub x hx);refine cX (au rfl (ar (CM rfl (au rfl ?_))));unfold gL;simp only[jO,e];unfold gE at q;rw[e]at q;exact Ah (show 2<=1000 by decide) q
 ·refine Ah (show 3<=1000 by decide) ?_;unfold bP cG at k;rw[Cw]at k;exact k
theorem EI{Q:List Aa->Int->Prop}:∀(ns:List Nt)(acc:List Aa)(x y:Option SV)(n:Int),(∀q∈ns,f9 q.2)->Q (acc++(dQ ns).map cR) n->
  c9 (di 2 (bj (aJ 0) (bj (aJ 1) cn))) (cT (w2 (ak 1) (wC (.int (1))) dZ)) (aw (aq (ak 0) (aq (eO (cT (w2 (ak 1) (wC .none) (dP aj))) (wC .none) (w2 (ak 1) (wC (.int (1))) (b7 λi j=>.int (i-j)))) ao))) Q (ns.map cR) acc [x,y] n
 |[],acc,x,y,n,_,q=>by
  have:dQ []=[]:=rfl;rw[this,List.map_nil,Bt]at q;exact q
 | (row,a)::r,acc,x,y,n,h,q=>by
  have ha:f9 a:=h (row,a) As;have ih:=λacc x y n q=>EI (Q:=Q) r acc x y n (λq hq=>h q (Am _ hq)) q;rw[Bi];refine(show di 2 _ (cR (row,a)) [x,y] _ from⟨rfl,?_⟩);dsimp only[bj,cn,aJ,Al];refine aE (k:=!cV a) (λQ q=>ar (au rfl (aC (AE ha q)))) ?_;show if (!cV a)=ai then _ else _
  have e0:dQ ((row,a)::r)=(if (!cV a)=ai then[(row,jo a)]else[])++dQ r:=by
   unfold dQ;rw[Dn];dsimp only
   split<;>rfl
  rw[e0]at q;cases hi:cV a with
  |true=>
   rw[hi,if_neg (by decide),Bq]at q;rw[if_neg (by decide)];exact ih _ _ _ _ q
  |false=>
   rw[hi,if_pos (by decide),Be,<-Bp]at q;rw[if_pos (by decide)];rcases ha with rfl|⟨i,rfl,_⟩
   ·exact cX (au rfl (fL (b:=ai) (λQ q=>aE (k:=ai) (λQ q=>ar (au rfl (aC (iR q)))) q) (by rw[if_pos rfl];exact aC (Ah (show 2<=1000 by decide) (ih _ _ _ _ q)))))
   ·exact cX (au rfl (fL (b:=aj) (λQ q=>aE (k:=aj) (λQ q=>ar (au rfl (aC (iR q)))) q) (by rw[if_neg Ae];exact ar (au rfl (aC (Ah (show 2<=1000 by decide) (ih _ _ _ _ q)))))))
section
variable{δ:Sl}{n:Int}{Q:DQ}{K:DEnds}{W V:aP}{i:Nat}{s h:Str}{r:List Aa}{b c d e:Aa}
theorem gX{x y:Wv}(k:aB x y n Q):aO x y n Q:=.inr k
theorem Mq(k:Q (.d (.bool (bO h (.str s)))) n):aV (.d (.str s)) (.d (.str h)) n Q:=k
theorem rJ(e:δ[i]?=ae (ae (.w (.d (.tuple (.str s::r))))))(k:if bO h (.str s)=ai then W δ n K else V δ n K):aL (cT (w2 (w2 (ak i) (wC (.int 0)) aO) (wC (.str h)) aV)) W V δ n K:=
 dh (show cT _ _ _ _ from ar (ar (au e (aC (gX (bV (aC (Mq k))))))))
theorem tU(e:δ[i]?=ae (ae (.w (.d (.tuple (.str s::r))))))(z:bO h (.str s)=ai)(k:W δ n K):aL (cT (w2 (w2 (ak i) (wC (.int 0)) aO) (wC (.str h)) aV)) W V δ n K:=rJ e (by rw[if_pos z];exact k)
theorem gZ(e:δ[i]?=ae (ae (.w (.d (.tuple (.str s::r))))))(z:bO h (.str s)=aj)(k:V δ n K):aL (cT (w2 (w2 (ak i) (wC (.int 0)) aO) (wC (.str h)) aV)) W V δ n K:=rJ e (by rw[if_neg (by rw[z];exact Ae)];exact k)
theorem i9(e:δ[i]?=ae (ae (.w (.d (.tuple (b::c::r))))))(k:Q (.d c) n):w2 (ak i) (wC (.int 1)) aO δ n Q:=ar (au e (aC (gX (eh k))))
theorem j8(e:δ[i]?=ae (ae (.w (.d (.tuple (b::c::d::r))))))(k:Q (.d d) n):w2 (ak i) (wC (.int 2)) aO δ n Q:=ar (au e (aC (gX (dG k))))
theorem ua(e':δ[i]?=ae (ae (.w (.d (.tuple [b,c,d,e])))))(k:Q (.d e) n):w2 (ak i) (wC (.int 3)) aO δ n Q:=ar (au e' (aC (gX k)))
theorem vh{m:List (aN×Aa)}(e':δ[i]?=ae (ae (.w (.ob (.q d m)))))(k:Q (.d d) n):w2 (ak i) (wC (.int 0)) aO δ n Q:=ar (au e' (aC (.inl ⟨d,m,rfl,.inl ⟨rfl,k⟩⟩)))
theorem Of{m:List (aN×Aa)}(e':δ[i]?=ae (ae (.w (.ob (.q d m)))))(k:Q (.dk m) n):w2 (ak i) (wC (.int 1)) aO δ n Q:=ar (au e' (aC (.inl ⟨d,m,rfl,.inr ⟨rfl,k⟩⟩)))
theorem QQ{a b:Aa}(ha:cD a=ai)(hb:cD b=ai)(k:Q (.d (.bool (!fj a b))) n):dZ (.d a) (.d b) n Q:=by
 cases a with
 |str x=>cases b with
  |str y=>exact k
  |int j=>exact k
  |_=>cases hb
 |int i=>cases b with
  |str y=>exact k
  |int j=>exact k
  |_=>cases hb
 |_=>cases ha
end
theorem HI{fs:List Fd}{row:List Aa}{nm:Nm}(nd:(nm.map (·.1)).Nodup)(h:cY fs row nm=ai):((dD fs row nm).map (·.1)).Nodup/\(wk (fs.zip row) nm []=ae (dD fs row nm)):=by
 unfold cY at h;rw[A2]at h;unfold dD;obtain⟨x,hx⟩:=Dc.mp h.2;rw[hx];exact⟨kz _ _ _ _ nd hx,rfl⟩
theorem o3:∀(l:List (Fd×Aa))(h:Nm)(hs:List Str)(k:Nm),(∀p∈l,p.1.ok/\cD p.2=ai)->(∀p∈h,gF p)->wk l h hs=ae k->(∀p∈k,gF p)/\k.length<=h.length+l.length
 |[],h,hs,k,_,ho,e=>by cases e;exact⟨ho,Ao _⟩
 | (f,v)::r,h,hs,k,hl,ho,e=>by
  have hr:∀p∈r,p.1.ok/\cD p.2=ai:=λp hp=>hl p (Am _ hp);have same:wk r h hs=ae k->(∀p∈k,gF p)/\k.length<=h.length+((f,v)::r).length:=λe=>by
   have:=o3 r h hs k hr ho e;exact⟨this.1,by rw[An];omega⟩
  cases f with
  |is w=>unfold wk at e;split at e;exact same e;cases e
  |any=>unfold wk at e;exact same e
  |word=>unfold wk at e;split at e;exact same e;cases e
  |number=>unfold wk at e;split at e;exact same e;cases e
  |as x=>
   unfold wk at e
   split at e
   ·split at e
    ·exact same e
    ·cases e
   ·cases e
  |bind x=>
   unfold wk at e
   split at e
   ·split at e
    ·split at e
     ·exact same e
     ·cases e
    ·cases e
   ·have hb:=hl _ As;have:=o3 r (put h x v) (hs++[x]) k hr (pW ho hb.1 hb.2) e;have:=sT h x v;exact⟨by have:=o3 r (put h x v) (hs++[x]) k hr (pW ho hb.1 hb.2) e;exact this.1,by rw[An];omega⟩
theorem AU{fs:List Fd}{row:List Aa}(of:nY fs)(or:su row):∀p∈fs.zip row,p.1.ok/\cD p.2=ai:=λp hp=>by
 obtain⟨p1,p2⟩:=p;exact⟨of.2.2 _ (Ef hp).1,or.2 _ (Ef hp).2⟩
theorem JP:∀ws n Q,jS ws n Q->ws.length=3:=S3
theorem P1:∀ws n Q,jS ws n Q->yK (bE ["_law_programs","_law_stand","_law_mover","_law_hands","_law_notes_here","_law_act_here","_law_block","_law_place","_law_names","_law_found","_law_hand"] ws) n {nx:=λ_ n=>Q (.d .none) n,rt:=Q}:=λws n Q h=>by
 obtain⟨ps,hs,ns,m,r,rfl,⟨okp,okh,okn⟩,hm,e,k⟩:=h;show yK [ae (.w (.d (aY ps))),ae (.w (.d (bM hs ns))),ae (.w (.d (.int m))),ah,ah,ah,ah,ah,ah,ah,ah] n _;refine aD ?_;unfold b8;refine au rfl (Ah rfl ?_);dsimp only[bj,cn,aJ,Al];unfold cx at e;refine aD (dh (aE (k:=decide ((m:Int)=(ps.length:Nat))) (λQ q=>ar (au rfl (aT (au rfl ?_)))) ?_))
 ·show Q (.d (.bool (decide ((m:Int)=((ps.map eI).length:Nat))))) n;rw[Ab];exact q
 by_cases em:m=ps.length
 ·rw[if_pos em]at e;cases e;show if decide ((m:Int)=(ps.length:Nat))=ai then _ else _
  rw[if_pos (decide_eq_true (by omega))];refine bb (cX (au rfl (aT (bf (jx (ds:=ns.map cR) (λQ q=>au rfl q) ?_)))));show c9 _ _ _ _ _ _ [ah,ah] n;exact EI ns [] ah ah n (λq hq=>(okn.2 q hq).2) (Ah (show 2<=1000 by decide) k)
 rw[if_neg em]at e;show if decide ((m:Int)=(ps.length:Nat))=ai then _ else _
 rw[if_neg (by rw[decide_eq_false (by omega)];exact Ae)];dsimp only[aM];have hh:m < ps.length:=by omega
 obtain⟨P,xb,xp,nm,w,as,H⟩:=iZ okh hh;have hlt:m < hs.length:=by rw[okh.1];exact hh
 have hl5:hs.length<=5:=by rw[okh.1];exact okp.1
 refine aD (bC (λQ q=>ny rfl rfl rfl okh hh q) ?_);dsimp only[Al];cases ea:bK ps hs m with
 |none=>
  unfold fJ at e;rw[H.prog,H.hand,ea]at e;cases e
 |some a=>
 rw[mE H ea]at e;have oa:=H.ok okp ea;refine aD ?_;refine ar (au rfl (au rfl (gX (bU H.hD ?_))));refine Ah rfl ?_;dsimp only[bj,cn,aJ,Al];refine aD (oJ (o:=du ps hs ns m) (λQ q=>bW (au rfl (au rfl (au rfl ⟨ps,hs,ns,m,rfl,⟨okp,okh,okn⟩,hh,q⟩)))) ?_);dsimp only[Al];refine aD (bC (x:=bP (cM (xb,xp,nm) nm)) (λQ q=>fZ (au rfl (ar (au rfl (aC (dH (au rfl (Ah (show 3<=1000 by decide) q)))))))) ?_);dsimp only[Al];have fin:∀(x:Hn)(ns':List Nt)(x5 x6 x7 x8 x9:Option SV),Q (.d (bM (bq hs m x) ns')) n->az (aw (aq (w2 (w2 (cC (ak 3) cf (cb (ak 2))) (aw (aq (ak 10) ao)) cU) (cC (ak 3) (cb (w2 (ak 2) (wC (.int (1))) (b7 λi j=>.int (i+j)))) cf) cU) (aq (ak 4) ao)))
   [ae (.w (.d (aY ps))),ae (.w (.d (bM hs ns))),ae (.w (.d (.int m))),ae (.w (.d (.tuple (hs.map bP)))),ae (.w (.d (bN ns'))),x5,x6,x7,x8,x9,ae (.w (.d (bP x)))] n {nx:=λ_ n=>Q (.d .none) n,rt:=Q}:=λx ns' x5 x6 x7 x8 x9 q=>by
  have hd:(bq hs m x).map bP=((hs.map bP).take m++[bP x])++(hs.map bP).drop (m+1):=by
   unfold bq;rw[Be,Bi,List.map_take,List.map_drop,Bp];rfl
  unfold bM at q;rw[hd]at q;have l1:((hs.map bP).take m).length<=5:=A3 (List.length_take_le' _ _) (by rw[Ab];exact hl5);have l2:((hs.map bP).drop (m+1)).length<=5:=by rw[Bw,Ab];omega
  refine bb (cX (ar (ar (nK (p:=m) (λQ q=>au rfl q) (λQ q=>au rfl q) (by rw[Ab];omega) (kx (au rfl (Ah (show 1<=1000 by decide) (gH (by rw[Av];omega) ?_))))))));exact mN (p:=m+1) (λQ q=>au rfl q) (λQ q=>ar (au rfl (aC (dH q)))) (by rw[Ab];omega) (gH (by rw[Af,Av];omega) (au rfl (Ah (show 2<=1000 by decide) q)))
 have toB:∀(b:Nat),a.to=ae b->∀(x5 x9:Option SV)(i5:DT),(∀Q:DQ,Q (.d (.int b)) n->i5 [ae (.w (.d (aY ps))),ae (.w (.d (bM hs ns))),ae (.w (.d (.int m))),ae (.w (.d (.tuple (hs.map bP)))),ae (.w (.d (bN ns))),x5,ae (.w (.d (.int xb))),ae (.w (.d (.int xp))),ae (.w (.d (cG nm))),x9,ae (.w (.d (bP (cM (xb,xp,nm) nm))))] n Q)->∀K:DEnds,
   (∀δ n,az (aw (aq (w2 (w2 (cC (ak 3) cf (cb (ak 2))) (aw (aq (ak 10) ao)) cU) (cC (ak 3) (cb (w2 (ak 2) (wC (.int (1))) (b7 λi j=>.int (i+j)))) cf) cU) (aq (ak 4) ao))) δ n {nx:=λ_ n=>Q (.d .none) n,rt:=Q}->K.nx δ n)->Q (.d (bM (bq hs m (bR P b nm)) ns)) n->
   aA 10 (aF kJ (aq (w2 (ak 0) (ak 2) aO) (aq (ak 8) (aq i5 ao)))) [ae (.w (.d (aY ps))),ae (.w (.d (bM hs ns))),ae (.w (.d (.int m))),ae (.w (.d (.tuple (hs.map bP)))),ae (.w (.d (bN ns))),x5,ae (.w (.d (.int xb))),ae (.w (.d (.int xp))),ae (.w (.d (cG nm))),x9,ae (.w (.d (bP (cM (xb,xp,nm) nm))))] n K:=λb hb x5 x9 i5 h5 K hK q=>by
  obtain⟨bl,hbl,obl,sub⟩:=H.to okp ea hb;refine bC (x:=bP (bR P b nm)) (λQ q=>bW (ar (au rfl (au rfl (gX (bU H.pD (au rfl (h5 _ ⟨P,b,nm,bl,rfl,hbl,obl.1,H.nms,H.hn.up,obl.2.2.2.2.1,obl.2.2.2.2.2,sub,q⟩))))))) ) ?_;dsimp only[Al];exact hK _ _ (fin _ _ _ _ _ _ _ q)
 have getY:∀(s:Str)(gs:List Fe)(r5:List Aa)(i:Nat),a.pf=ae (gs.map Fe.fd)->fF gs->gW gs->bh (gs.map Fe.fd) nm ns=ae i->∀K:DEnds,
   (∀δ n,az (aw (aq (w2 (w2 (cC (ak 3) cf (cb (ak 2))) (aw (aq (ak 10) ao)) cU) (cC (ak 3) (cb (w2 (ak 2) (wC (.int (1))) (b7 λi j=>.int (i+j)))) cf) cU) (aq (ak 4) ao))) δ n {nx:=λ_ n=>Q (.d .none) n,rt:=Q}->K.nx δ n)->
   Q (.d (bM (bq hs m (cM (xb,xp,nm) (c7 (dD (gs.map Fe.fd) (ck ns i) nm)))) (if bO "take" (.str s)=ai then cZ ns i else ns))) n->
   aL (cT (w2 (ak 9) (wC .none) (dP aj))) (aA 10 (aF kJ (aq (w2 (ak 0) (ak 2) aO) (aq (ak 8) (aq (w2 (ak 5) (wC (.int (2))) aO) ao))))) (av (aA 10 (aw (aq (ak 6) (aq (w2 (ak 7) (wC (.int (1))) (b7 λi j=>.int (i+j))) (aq (wB d5 (aq (aW (qm (w2 (ak 9) (wC (.int (1))) aO))) ao)) ao))))) (aL (cT (w2 (w2 (ak 5) (wC (.int (0))) aO) (wC (.str "take")) aV)) (aA 4 (w2 (cC (ak 4) cf (cb (w2 (ak 9) (wC (.int (0))) aO))) (cC (ak 4) (cb (w2 (w2 (ak 9) (wC (.int (0))) aO) (wC (.int (1))) (b7 λi j=>.int (i+j)))) cf) cU)) aM))
    [ae (.w (.d (aY ps))),ae (.w (.d (bM hs ns))),ae (.w (.d (.int m))),ae (.w (.d (.tuple (hs.map bP)))),ae (.w (.d (bN ns))),ae (.w (.d (.tuple (.str s::r5)))),ae (.w (.d (.int xb))),ae (.w (.d (.int xp))),ae (.w (.d (cG nm))),ae (.w (gj (du ps hs ns m))),ae (.w (.d (bP (cM (xb,xp,nm) nm))))] n K:=λs gs r5 i hpf hof hpat ei K hK q=>by
  have eg:du ps hs ns m=ae (i,dD (gs.map Fe.fd) (ck ns i) nm):=by
   unfold du;rw[ea,H.nmq];show(a.pf.bind _)=_;rw[hpf];show(bh _ _ _).map _=_;rw[ei];rfl
  obtain⟨⟨row,age⟩,hq,hf⟩:=rq ei;have hi:i < ns.length:=(Au.mp hq).1;have er:ck ns i=row:=by unfold ck;rw[hq];rfl
  have oq:=okn.2 _ (A5 hq);obtain⟨ep,op⟩:=nJ hof hpat;rw[er]at q eg;obtain⟨nd,ew⟩:=HI H.hn.nd hf;obtain⟨wo,wl⟩:=o3 _ _ _ _ (AU op oq.1) H.hn.ok ew;have wl':(dD (gs.map Fe.fd) row nm).length < 64:=by
   have h1:=H.hn.ln;have h2:((gs.map Fe.fd).zip row).length<=4:=by rw[List.length_zip];have:=op.2.1;omega
   have h3:nm.length<=40:=h1;have h4:(dD (gs.map Fe.fd) row nm).length<=nm.length+((gs.map Fe.fd).zip row).length:=wl;omega
  rw[eg];refine a8 (λQ q=>aE (k:=aj) (λQ q=>ar (au rfl (aC (sL q)))) q) (aD ?_);refine bC (x:=bP (cM (xb,xp,nm) (c7 (dD (gs.map Fe.fd) row nm)))) (λQ q=>?_) ?_
  ·refine fZ (au rfl (ar (au rfl (aC (dH ?_)))));refine aT (bf ?_);refine(show qm _ _ _ _ from Of rfl ?_);refine⟨_,rfl,wl',nd,λp hp=>⟨A3 (wo p hp).1.1 (by decide),yI (wo p hp).2⟩,λps' p1 r1=>?_⟩;refine Ah (show 3<=1000 by decide) ?_;rw[zf nd p1 r1];exact q
  dsimp only[Al];refine rJ rfl ?_;refine jd (λz=>?_) λz=>?_
  ·rw[if_pos z]at q;refine bC (x:=bN (cZ ns i)) (λQ q=>ar (nK (p:=i) (λQ q=>au rfl q) (λQ q=>vh rfl q) (by rw[Ab];omega) (mN (p:=i+1) (λQ q=>au rfl q) (λQ q=>ar (vh rfl (aC (dH q)))) (by rw[Ab];omega) (gH ?_ ?_)))) ?_
   ·have:=okn.1;rw[Br,Bw,Ab];omega
   ·unfold bN at q;rw[AQ]at q;exact q
   ·dsimp only[Al];exact hK _ _ (fin _ _ _ _ _ _ _ q)
  ·rw[if_neg (by rw[z];exact Ae)]at q;exact hK _ _ (fin _ _ _ _ _ _ _ q)
 cases a with
 |lay fs age=>
  obtain⟨hl4,hfv⟩:=H.lay okp ea;cases e;refine aD (tU (s:="lay") rfl (by decide +kernel) ?_);refine bC (x:=bN (ns++[(cw fs nm,age)])) (λQ q=>?_) ?_
  ·refine ar (au rfl (kx (cX (bJ (i9 rfl (Ij rfl H.nms ⟨fs,nm,rfl,hl4,hfv,?_⟩))))));refine j8 rfl (Ah (show 2<=1000 by decide) (Ah (show 1<=1000 by decide) (gH (by rw[Ab,Av];have:=okn.1;omega) ?_)));unfold bN at q;rw[Be]at q;exact q
  ·dsimp only[Al];exact fin _ _ _ _ _ _ _ k
 |go b=>
  cases e;refine aD (gZ (s:="go") rfl (by decide +kernel) (tU (s:="go") rfl (by decide +kernel) ?_));exact toB b rfl _ _ _ (λQ q=>i9 rfl q) _ (λ_ _ z=>z) k
 |same f g b=>
  obtain⟨hf,hg,tf,tg⟩:=H.same okp ea;cases e;refine aD (gZ (s:="same") rfl (by decide +kernel) (gZ (s:="same") rfl (by decide +kernel) (tU (s:="same") rfl (by decide +kernel) ?_)));refine dh (show cT _ _ _ _ from ar (bJ (i9 rfl (au rfl ⟨f,nm,rfl,hf,tf,H.nms,bJ (j8 rfl (au rfl ⟨g,nm,rfl,hg,tg,H.nms,QQ (iB hf) (iB hg) ?_⟩))⟩))));have k:Q (.d (bM (bq hs m (if fj (d8 nm f) (d8 nm g)=ai then cM (xb,xp,nm) nm else bR P b nm)) ns)) n:=k;show if (!fj (d8 nm f) (d8 nm g))=ai then _ else _
  cases z:fj (d8 nm f) (d8 nm g)with
  |true=>
   rw[z,if_pos rfl]at k;rw[if_neg (by decide)];exact fin _ _ _ _ _ _ _ k
  |false=>
   rw[z,if_neg Ae]at k;rw[if_pos (by decide)];exact toB b rfl _ _ _ (λQ q=>ua rfl q) _ (λ_ _ z=>z) k
 |take gs=>
  have e:(((bS gs (xb,xp,nm) ns).map λq=>(q.2,cZ ns q.1)).map λr=>(bq hs m r.1,r.2))=ae r:=e;refine aD (gZ (s:="take") rfl (by decide +kernel) (gZ (s:="take") rfl (by decide +kernel) (gZ (s:="take") rfl (by decide +kernel) ?_)));cases ei:bh (gs.map Fe.fd) nm ns with
  |none=>rw[iN ei]at e;cases e
  |some i=>
   rw[ij ei]at e;cases e;exact getY "take" gs [eG gs] i rfl oa.1 oa.2 ei _ (λ_ _ z=>z) (by rw[if_pos (by decide +kernel)];exact k)
 |read gs=>
  have e:(((bS gs (xb,xp,nm) ns).map λq=>(q.2,ns)).map λr=>(bq hs m r.1,r.2))=ae r:=e;refine aD (gZ (s:="read") rfl (by decide +kernel) (gZ (s:="read") rfl (by decide +kernel) (gZ (s:="read") rfl (by decide +kernel) ?_)));cases ei:bh (gs.map Fe.fd) nm ns with
  |none=>rw[iN ei]at e;cases e
  |some i=>
   rw[ij ei]at e;cases e;exact getY "read" gs [eG gs] i rfl oa.1 oa.2 ei _ (λ_ _ z=>z) (by rw[if_neg (by decide +kernel)];exact k)
 |look gs b=>
  have e:((match bS gs (xb,xp,nm) ns with|some q=>ae (q.2,ns)|none=>ae (bR P b nm,ns):Option (Hn×List Nt)).map λr=>(bq hs m r.1,r.2))=ae r:=e;refine aD (gZ (s:="look") rfl (by decide +kernel) (gZ (s:="look") rfl (by decide +kernel) (gZ (s:="look") rfl (by decide +kernel) ?_)));cases ei:bh (gs.map Fe.fd) nm ns with
  |none=>
   rw[iN ei]at e;cases e;have eg:du ps hs ns m=ah:=by
    unfold du;rw[ea,H.nmq];show(bh _ _ _).map _=_;rw[ei];rfl
   rw[eg];refine bF (λQ q=>aE (k:=ai) (λQ q=>ar (au rfl (aC (iR q)))) q) ?_;exact toB b rfl _ _ _ (λQ q=>j8 rfl q) _ (λ_ _ z=>z) k
  |some i=>
   rw[ij ei]at e;cases e;exact getY "look" gs [eG gs,.int b] i rfl oa.1 oa.2 ei _ (λ_ _ z=>z) (by rw[if_neg (by decide +kernel)];exact k)
def Sm(k w:Nat)(d:Aa):Prop:=Bu d=ai/\Bn d<=k/\Ee d<=w/\Dm 13 d=ai/\Df d=ai
theorem Sm.small{k w:Nat}{d:Aa}(h:Sm k w d)(hk:k<=20)(hw:w<=2 ^ 20):Small d:=⟨h.1,by have:=h.2.1;omega,by have:=h.2.2.1;omega,h.2.2.2⟩
theorem wL{k w:Nat}:∀ds:List Aa,(∀d∈ds,Sm k w d)->Eg ds=ai/\E5 ds<=k/\PyData.weightAll ds<=(w+1)*ds.length/\PyData.intsShortAll 13 ds=ai/\PyData.showableAll ds=ai
 |[],_=>⟨rfl,Bk _,Bk _,rfl,rfl⟩
 |d::r,h=>by
  obtain⟨a1,a2,a3,a4,a5⟩:=wL r λx hx=>h x (Am _ hx);obtain⟨b1,b2,b3,b4,b5⟩:=h d As;refine⟨?_,?_,?_,?_,?_⟩
  ·rw[Eg,a1,b1];rfl
  ·rw[E5];omega
  ·rw[PyData.weightAll,An,Nat.mul_succ];omega
  ·rw[PyData.intsShortAll,a4,b4];rfl
  ·rw[PyData.showableAll,a5,b5];rfl
theorem kH{k w m:Nat}{ds:List Aa}(h:∀d∈ds,Sm k w d)(hl:ds.length<=m):Sm (k+1) ((w+1)*m) (.tuple ds):=by
 obtain⟨a1,a2,a3,a4,a5⟩:=wL ds h;have:=Nat.mul_le_mul_left (w+1) hl;refine⟨by rw[Bu];exact a1,by rw[Bn];omega,by rw[Ee];omega,by rw[Dm];exact a4,by rw[Df];exact a5⟩
theorem tS{k w m:Nat}{ds:List Aa}(h:∀d∈ds,Sm k w d)(hl:ds.length<=m):Sm (k+1) ((w+1)*m) (.list ds):=by
 obtain⟨a1,a2,a3,a4,a5⟩:=wL ds h;have:=Nat.mul_le_mul_left (w+1) hl;refine⟨by rw[Bu];exact a1,by rw[Bn];omega,by rw[Ee];omega,by rw[Dm];exact a4,by rw[Df];exact a5⟩
theorem Sm.up{k w k' w':Nat}{d:Aa}(h:Sm k w d)(hk:k<=k')(hw:w<=w'):Sm k' w' d:=⟨h.1,A3 h.2.1 hk,A3 h.2.2.1 hw,h.2.2.2⟩
theorem p8{d:Aa}(h:cD d=ai):Sm 0 20 d:=by
 cases d with
 |str x=>
  have h:(decide (x.length<=8)&&(D8 x&&decide (x="a"\/x="ab"\/x="go")))=ai:=h;rw[A2,A2]at h;have h1:x.cps.size<=8:=of_decide_eq_true h.1;refine⟨?_,by rw[Bn];exact Ao _,?_,by rw[Dm],by rw[Df]⟩
  ·rw[Bu];exact h.2.1
  ·rw[Ee];omega
 |int i=>
  simp only[cD,A2,decide_eq_true_eq]at h;exact⟨by rw[Bu],by rw[Bn];exact Ao _,h.2.2.1,h.2.2.2.1,h.2.2.2.2⟩
 |_=>cases h
theorem KM{a b:Aa}{k w:Nat}(ha:Sm k w a)(hb:Sm k w b):Sm (k+1) ((w+1)*2) (.tuple [a,b]):=kH (λd hd=>by
 simp only[Ap,Aq,or_false]at hd;rcases hd with rfl|rfl
 ·exact ha
 ·exact hb) (Ao _)
theorem GH{d:Aa}(h:f9 d):Sm 0 20 d:=by
 rcases h with rfl|⟨i,rfl,h0,h1⟩
 ·exact⟨rfl,Ao _,by decide,rfl,rfl⟩
 ·exact p8 (jn (by omega) (by omega))
theorem MQ{q:Nt}(h:kD q):Sm 2 170 (cR q):=KM ((kH (k:=0) (w:=20) (m:=4) (λd hd=>p8 (h.1.2 d hd)) h.1.1.1)) ((GH h.2).up (by decide) (by decide))
theorem Qo{hs:List Hn}{h:Nat}{x:Hn}(hh:h < hs.length):bq hs h x=hs.set h x:=by
 rw[List.set_eq_take_append_cons_drop,if_pos hh];rfl
theorem okHs.put{ps:Pg}{hs:List Hn}{h:Nat}{x:Hn}{P:List Bl}{b:Bl}(ok:okHs ps hs)(hP:ps[h]?=ae P)(hb:P[x.1]?=ae b)(hx:okHn b x):okHs ps (bq hs h x):=by
 have hh:h < hs.length:=by rw[ok.1];exact(Au.mp hP).1
 rw[Qo hh];refine⟨by rw[B4];exact ok.1,λi P' hi=>?_⟩;by_cases e:h=i
 ·subst e;rw[hP]at hi;cases hi;exact⟨x,b,Fm hh,hb,hx⟩
 ·obtain⟨h',b',e1,e2,e3⟩:=ok.2 i P' hi;exact⟨h',b',by rw[Cq e];exact e1,e2,e3⟩
theorem AI{w:List Str}{as:List Ac}{p:Nat}{a:Ac}(h:as[p]?=ae a):kn w as (p+1)=kn w as p++a.bs:=by
 unfold kn;rw[List.take_add_one,h,List.flatMap_append,Bp];simp
theorem xw:∀(l:List (Fd×Aa))(h:Nm)(hs:List Str)(k:Nm),(∀x∈hs,x∈h.map (·.1))->wk l h hs=ae k->∀x,x∈k.map (·.1)↔x∈h.map (·.1)\/∃p∈l,p.1=.bind x
 |[],h,hs,k,_,e,x=>by cases e;simp
 | (f,v)::r,h,hs,k,hh,e,x=>by
  have same:wk r h hs=ae k->(∀y,f=.bind y->y∈h.map (·.1))->(x∈k.map (·.1)↔x∈h.map (·.1)\/∃p∈(f,v)::r,p.1=.bind x):=λe nb=>by
   rw[xw r h hs k hh e x]
   constructor
   ·rintro(q|⟨p,hp,q⟩)
    ·exact .inl q
    ·exact .inr ⟨p,Am _ hp,q⟩
   ·rintro(q|⟨p,hp,q⟩)
    ·exact .inl q
    ·rcases Ap.mp hp with rfl|hp
     ·exact .inl (nb x q)
     ·exact .inr ⟨p,hp,q⟩
  cases f with
  |is w=>unfold wk at e;split at e;exact same e (λy z=>by cases z);cases e
  |any=>unfold wk at e;exact same e (λy z=>by cases z)
  |word=>unfold wk at e;split at e;exact same e (λy z=>by cases z);cases e
  |number=>unfold wk at e;split at e;exact same e (λy z=>by cases z);cases e
  |as y=>
   unfold wk at e
   split at e
   ·split at e
    ·exact same e (λy z=>by cases z)
    ·cases e
   ·cases e
  |bind y=>
   unfold wk at e
   split at e
   ·rename_i hy
    split at e
    ·split at e
     ·exact same e (λz q=>by cases q;exact hh y hy)
     ·cases e
    ·cases e
   ·have pk:∀z,z∈(put h y v).map (·.1)↔z∈h.map (·.1)\/z=y:=λz=>by
     rw[CP]
     split
     ·rename_i q;obtain⟨p,hp,q⟩:=Dp.mp q;have hy:y∈h.map (·.1):=Bg.mpr ⟨p,hp,of_decide_eq_true q⟩;exact⟨.inl,λq=>q.elim id λq=>q▸hy⟩
     ·rw[Bb,Bo]
    rw[xw r (put h y v) (hs++[y]) k (λz hz=>(pk z).mpr ((Bb.mp hz).elim (λq=>.inl (hh z q)) λq=>.inr (Bo.mp q))) e x,pk x]
    constructor
    ·rintro((q|rfl)|⟨p,hp,q⟩)
     ·exact .inl q
     ·exact .inr ⟨_,As,rfl⟩
     ·exact .inr ⟨p,Am _ hp,q⟩
    ·rintro(q|⟨p,hp,q⟩)
     ·exact .inl (.inl q)
     ·rcases Ap.mp hp with rfl|hp
      ·cases q;exact .inl (.inr rfl)
      ·exact .inr ⟨p,hp,q⟩
theorem Ti{gs:List Fe}{row:List Aa}(hp:∀f∈gs,f.pt=ai)(hl:(gs.map Fe.fd).length=row.length)(x:Str):(∃p∈(gs.map Fe.fd).zip row,p.1=.bind x)↔x∈bL gs:=by
 unfold bL;rw[Ga]
 constructor
 ·rintro⟨⟨a,b⟩,hp',e⟩
  obtain⟨f,hf,e'⟩:=Bg.mp (Ef hp').1;refine⟨f,hf,?_⟩;have e:a=.bind x:=e;rw[e]at e';cases f<;>first|(cases e';rfl)|cases e'
 ·rintro⟨f,hf,e⟩
  have ef:f=.bind x:=by cases f<;>first|(cases e;rfl)|cases e
  subst ef;obtain⟨i,hi⟩:=Ca.mp hf;have hil:=(Au.mp hi).1;rw[Ab]at hl;refine⟨(.bind x,row[i]'(by omega)),Ca.mpr ⟨i,?_⟩,rfl⟩;rw[List.getElem?_zip_eq_some];exact⟨by rw[A1,hi];rfl,Ak (by omega)⟩
theorem Oj{d:Aa}(h:f9 d)(h1:cV d=aj):f9 (jo d):=by
 rcases h with rfl|⟨i,rfl,h0,h2⟩
 ·exact .inl rfl
 ·have:¬i=1:=by simpa[cV]using h1
  exact .inr ⟨i-1,rfl,by omega,by omega⟩
theorem J7{m:Nat}{ns:List Nt}(h:dF m ns):dF m (dQ ns):=by
 unfold dQ;refine⟨by rw[Ab];exact A3 (Fw _ _) h.1,λq hq=>?_⟩;obtain⟨p,hp,rfl⟩:=Bg.mp hq;obtain⟨h1,h2⟩:=Cr.mp hp;exact⟨(h.2 p h1).1,Oj (h.2 p h1).2 (by simpa using h2)⟩
theorem wD{ps:Pg}{hs:List Hn}{ns:List Nt}{m M:Nat}{r:List Hn×List Nt}(okp:cz ps)(okh:okHs ps hs)(okn:dF M ns)(hm:m<=ps.length)(e:cx ps hs ns m=ae r):okHs ps r.1/\dF (M+1) r.2:=by
 unfold cx at e;by_cases em:m=ps.length
 ·rw[if_pos em]at e;cases e;have:=J7 okn;exact⟨okh,Nat.le_succ_of_le this.1,this.2⟩
 rw[if_neg em]at e;have hh:m < ps.length:=by omega
 obtain⟨P,xb,xp,nm,w,as,H⟩:=iZ okh hh;cases ea:bK ps hs m with
 |none=>
  unfold fJ at e;rw[H.prog,H.hand,ea]at e;cases e
 |some a=>
 rw[mE H ea]at e;have oa:=H.ok okp ea;have ea':=ea;rw[H.act]at ea';have hxp:xp < as.length:=(Au.mp ea').1;have okn':dF (M+1) ns:=⟨Nat.le_succ_of_le okn.1,okn.2⟩;have on:a.bs=[]->okHs ps (bq hs m (cM (xb,xp,nm) nm)):=λhb=>okh.put H.prog (x:=cM (xb,xp,nm) nm) H.blk ⟨hxp,H.hn.nd,H.hn.ok,H.hn.up,λk=>by
  show k∈nm.map (·.1)↔k∈kn w as (xp+1);rw[AI ea',hb,Bt];exact H.hn.mem k,H.hn.ln⟩
 have to:∀b,a.to=ae b->okHs ps (bq hs m (bR P b nm)):=λb hb=>by
  obtain⟨bl,hbl,obl,sub⟩:=H.to okp ea hb;have ew:lN P b=bl.1:=by unfold lN;rw[hbl];rfl
  refine okh.put H.prog (x:=bR P b nm) hbl ?_;have en:(bR P b nm).2.2=bl.1.map λk=>(k,gE nm k):=by
   unfold bR;rw[ew];exact HB H.hn.nd H.hn.up obl.2.2.2.2.1 obl.2.2.2.2.2 sub
  have ek:(bR P b nm).2.2.map (·.1)=bl.1:=by rw[en,Cw];exact List.map_id' _
  have sl:(bR P b nm).2.2.Sublist nm:=List.filter_sublist;refine⟨Bk _,by rw[ek];exact obl.2.2.2.2.1,λp hp=>H.hn.ok p (sl.subset hp),List.Pairwise.sublist sl H.hn.up,λk=>by rw[ek];unfold kn;show _↔k∈bl.1++(bl.2.take 0).flatMap Ac.bs;simp,A3 sl.length_le H.hn.ln⟩
 have get:∀(gs:List Fe)(i:Nat),a.pf=ae (gs.map Fe.fd)->a.bs=bL gs->fF gs->gW gs->bh (gs.map Fe.fd) nm ns=ae i->okHs ps (bq hs m (cM (xb,xp,nm) (c7 (dD (gs.map Fe.fd) (ck ns i) nm)))):=λgs i hpf hbs hof hpat ei=>by
  obtain⟨⟨row,age⟩,hq,hf⟩:=rq ei;have er:ck ns i=row:=by unfold ck;rw[hq];rfl
  rw[er];have oq:=okn.2 _ (A5 hq);obtain⟨ep,op⟩:=nJ hof hpat;obtain⟨nd,ew⟩:=HI H.hn.nd hf;obtain⟨wo,_⟩:=o3 _ _ _ _ (AU op oq.1) H.hn.ok ew;have hlen:(gs.map Fe.fd).length=row.length:=by
   unfold cY at hf;rw[A2]at hf;exact of_decide_eq_true hf.1
  have pm:=AK (dD (gs.map Fe.fd) row nm);have pk:((c7 (dD (gs.map Fe.fd) row nm)).map (·.1)).Perm ((dD (gs.map Fe.fd) row nm).map (·.1)):=pm.map _;have hmem:∀k,k∈(c7 (dD (gs.map Fe.fd) row nm)).map (·.1)↔k∈kn w as (xp+1):=λk=>by
   rw[pk.mem_iff,xw _ _ _ _ (λx hx=>by simp at hx) ew k,Ti hpat.2 hlen,AI ea',Bb,hbs];exact or_congr (H.hn.mem k) Iff.rfl
  have nd':=pk.nodup_iff.mpr nd;refine okh.put H.prog (x:=cM (xb,xp,nm) _) H.blk ⟨hxp,nd',λp hp=>wo p (pm.mem_iff.mp hp),DV _,hmem,?_⟩;have:=BC nd' (ks:=kn w as (xp+1)) λk hk=>(hmem k).mp hk;rw[Ab]at this;have h36:=NR (H.okb okp).1 (xp+1);exact A3 this (A3 h36 (by decide))
 cases a with
 |lay fs age=>
  cases e;obtain⟨hl4,hfv⟩:=H.lay okp ea;refine⟨on rfl,by rw[Af,Av];have:=okn.1;omega,λq hq=>?_⟩;rcases Bb.mp hq with hq|hq
  ·exact okn.2 q hq
  ·rw[Bo.mp hq];exact⟨⟨⟨by show(cw fs nm).length<=4;unfold cw;rw[Ab];exact hl4,by show 1<=(cw fs nm).length;unfold cw;rw[Ab];exact oa.2.2.2⟩,λd hd=>by
    obtain⟨f,hf,rfl⟩:=Bg.mp hd;exact iB (hfv f hf)⟩,oa.2.2.1⟩
 |go b=>cases e;exact⟨to b rfl,okn'⟩
 |same f g b=>
  cases e;refine⟨?_,okn'⟩;show okHs ps (bq hs m (if fj (d8 nm f) (d8 nm g)=ai then cM (xb,xp,nm) nm else bR P b nm))
  split
  ·exact on rfl
  ·exact to b rfl
 |take gs=>
  have e:(((bS gs (xb,xp,nm) ns).map λq=>(q.2,cZ ns q.1)).map λr=>(bq hs m r.1,r.2))=ae r:=e;cases ei:bh (gs.map Fe.fd) nm ns with
  |none=>rw[iN ei]at e;cases e
  |some i=>
   rw[ij ei]at e;cases e;refine⟨get gs i rfl rfl oa.1 oa.2 ei,?_,λq hq=>?_⟩
   ·show(cZ ns i).length<=_;unfold cZ;rw[Af,Br,Bw];have:=okn.1;omega
   ·rcases Bb.mp hq with hq|hq
    ·exact okn.2 q (De hq)
    ·exact okn.2 q (Er hq)
 |read gs=>
  have e:(((bS gs (xb,xp,nm) ns).map λq=>(q.2,ns)).map λr=>(bq hs m r.1,r.2))=ae r:=e;cases ei:bh (gs.map Fe.fd) nm ns with
  |none=>rw[iN ei]at e;cases e
  |some i=>
   rw[ij ei]at e;cases e;exact⟨get gs i rfl rfl oa.1 oa.2 ei,okn'⟩
 |look gs b=>
  have e:((match bS gs (xb,xp,nm) ns with|some q=>ae (q.2,ns)|none=>ae (bR P b nm,ns):Option (Hn×List Nt)).map λr=>(bq hs m r.1,r.2))=ae r:=e;cases ei:bh (gs.map Fe.fd) nm ns with
  |none=>
   rw[iN ei]at e;cases e;exact⟨to b rfl,okn'⟩
  |some i=>
   rw[ij ei]at e;cases e;exact⟨get gs i rfl rfl oa.1 oa.2 ei,okn'⟩
theorem GR{ps:Pg}{hs:List Hn}{ns:List Nt}{m:Nat}(okh:okHs ps hs)(hh:m < ps.length)(h:d9 ps hs ns m=ai):∃r,cx ps hs ns m=ae r:=by
 obtain⟨P,xb,xp,nm,w,as,H⟩:=iZ okh hh;unfold cx;rw[if_neg (by omega)];cases ea:bK ps hs m with
 |none=>unfold d9 at h;rw[ea]at h;cases h
 |some a=>
 rw[vc ea]at h;rw[mE H ea];have eg:∀gs:List Fe,a.pf=ae (gs.map Fe.fd)->bc ps hs ns m=bh (gs.map Fe.fd) nm ns:=λgs hpf=>by
  unfold bc;rw[ea,H.nmq];show(a.pf.bind _)=_;rw[hpf];rfl
 have gt:∀gs:List Fe,(bc ps hs ns m).isSome=ai->a.pf=ae (gs.map Fe.fd)->∃q,bS gs (xb,xp,nm) ns=ae q:=λgs h1 h2=>by
  rw[eg gs h2]at h1;obtain⟨i,hi⟩:=Dc.mp h1;exact⟨_,ij hi⟩
 cases a with
 |lay fs age=>exact⟨_,rfl⟩
 |go b=>exact⟨_,rfl⟩
 |same f g b=>exact⟨_,rfl⟩
 |take gs=>
  obtain⟨q,hq⟩:=gt gs h rfl;show ∃r,(((bS gs (xb,xp,nm) ns).map λq=>(q.2,cZ ns q.1)).map λr=>(bq hs m r.1,r.2))=ae r;rw[hq];exact⟨_,rfl⟩
 |read gs=>
  obtain⟨q,hq⟩:=gt gs h rfl;show ∃r,(((bS gs (xb,xp,nm) ns).map λq=>(q.2,ns)).map λr=>(bq hs m r.1,r.2))=ae r;rw[hq];exact⟨_,rfl⟩
 |look gs b=>
  show ∃r,((match bS gs (xb,xp,nm) ns with|some q=>ae (q.2,ns)|none=>ae (bR P b nm,ns):Option (Hn×List Nt)).map λr=>(bq hs m r.1,r.2))=ae r;cases bS gs (xb,xp,nm) ns with
  |none=>exact⟨_,rfl⟩
  |some q=>exact⟨_,rfl⟩
theorem RZ{δ:Sl}{n:Int}{S:eZ}{w w':DT}{Q:List Aa->Int->Prop}(k:w δ n λx n1=>w' δ n1 λy n2=>S [x,y] n2 Q):oA S (aq w (aq w' ao)) δ n Q:=k
theorem Sj(m:Nat):bY 0 m=(Ba m).map λj=>Dg (j:Nat):=by
 unfold bY;exact Cs λi _=>by rw[Int.zero_add]
theorem yp{δ:Sl}{n:Int}{K:DEnds}{W:aP}{g:eM}{j:Int}(m:Nat)(ej:j=m)(hm:m<=1000)(k:eW g W K (bY 0 m) δ n):bo (dN (wC (.int j))) g W δ n K:=by
 subst ej;exact⟨⟨by omega,by omega⟩,by rw[Bv];exact k⟩
theorem vS(L:List Nat)(m:Nat):aG (L++[m])=aG L++[.int m]:=Be
theorem nr(L:List Nat):(aG L).length=L.length:=Ab _
theorem HF{ps:Pg}{hs:List Hn}{ns:List Nt}{m:Nat}(okh:okHs ps hs)(hm:m<=ps.length)(c:m=ps.length\/d9 ps hs ns m=ai):∃q,cx ps hs ns m=ae q:=by
 by_cases e:m=ps.length
 ·exact⟨_,by unfold cx;rw[if_pos e]⟩
 ·exact GR okh (by omega) (c.resolve_left e)
theorem Hf:∀ws n Q,kl ws n Q->ws.length=1:=λws n Q h=>by obtain⟨_,_,rfl,_⟩:=h;rfl
theorem K0:∀ws n Q,kl ws n Q->FS (bE ["_law_plan_here"] ws) n {nx:=λ_ n=>Q (.d .none) n,rt:=Q}:=λws n Q h=>by
 obtain⟨ps,ns,rfl,hp,k⟩:=h;show FS [ae (.w (.d (.tuple [aY ps,bN ns])))] n _;refine bb (cX (aT (bf (jx (ds:=ps.map eI) (λQ q=>ar (au rfl (aC (bV q)))) ?_))));show c9 _ _ _ _ _ _ [ah] n;refine qO eI (λ_=>bP (0,0,[])) ps ah n (λP hP n Q' q=>fZ (aC (aC (show aw ao _ _ _ from Ah (by decide) (Ah (show 3<=1000 by decide) q))))) ?_;refine(show d5 _ _ _ from ar (au rfl (aC (bU (i:=1) rfl (Ah (show 2<=1000 by decide) ?_)))));have e:(eL ps).map bP=ps.map λ_=>bP (0,0,[]):=by unfold eL;rw[Cw];rfl
 unfold bM at k;rw[e]at k;exact k
theorem DH{ps:Pg}(hp:cz ps)(hf:∀P∈ps,js P):okHs ps (eL ps):=by
 refine⟨Ab _,λi P hi=>?_⟩;obtain⟨w,hw⟩:=hf P (A5 hi);obtain⟨b,r,rfl,hb,_⟩:=F2.mp hw;refine⟨(0,0,[]),b,?_,rfl,Bk _,List.nodup_nil,λp hp=>(by simp at hp),List.Pairwise.nil,λk=>?_,Bk _⟩
 ·unfold eL;rw[A1,hi];rfl
 ·show k∈([]:List Str)↔k∈kn b.1 b.2 0;unfold kn;rw[hb];simp
theorem yH{ps:Pg}{s0:Sd}{L:List Nat}{S:List Sd}(W:Wlk ps s0 L S):∀(k i:Nat){s t:Sd},i+k<=L.length->S[i]?=ae s->S[i+k]?=ae t->Wov ps s ((L.drop i).take k) t
 |0,i,s,t,h,e,e'=>by
  rw[Nat.add_zero,e]at e';cases e';rw[List.take_zero];exact .nil
 |k+1,i,s,t,h,e,e'=>by
  have hi:i < L.length:=by omega
  obtain⟨hm,s1,t1,e1,e2,ea⟩:=W.st i _ (Ak hi);rw[e]at e1;cases e1;rw[E2 hi,List.take_succ_cons];exact .cons hm ea (yH W k (i+1) (by omega) e2 (by rw[show i+1+k=i+(k+1) by omega];exact e'))
theorem v8{δ:Sl}{n:Int}{w:DT}{Q:List Aa->Int->Prop}(k:w δ n λx n1=>match ik [x]with
  |some ds=>ds.length<=1000/\Q ds n1
  |none=>False):aH (aq w ao) δ n Q:=k
theorem LX:∀ws n Q,rf ws n Q->ws.length=2:=λws n Q h=>by obtain⟨_,_,_,rfl,_⟩:=h;rfl
theorem FQ{ps:Pg}{hs:List Hn}{ns:List Nt}:(gn ps hs ns).length<=ps.length:=by
 unfold gn;rw[Ab];exact A3 (Fw _ _) (by rw[Di];exact Ao _)
theorem IP:∀ws n Q,rf ws n Q->yn (bE ["_law_programs","_law_stand"] ws) n {nx:=λ_ _=>False,rt:=λ_ _=>False,rn:=Q}:=λws n Q h=>by
 obtain⟨ps,hs,ns,rfl,ok,k⟩:=h;show yn [ae (.w (.d (aY ps))),ae (.w (.d (bM hs ns)))] n _;refine(show rZ _ _ _ _ from ?_);unfold rZ gJ;refine bf ?_;unfold cQ dN;refine Im (ds:=ps.map eI) rfl (Ah ⟨by omega,by rw[Ab];have:=ok.1.1;omega⟩ ?_);rw[Bv,Ab];refine KD ok ?_;refine bf (v8 (Im (ds:=ps.map eI) rfl (Ah (show 1<=1000 by decide) ?_)));rw[Ab];refine Ah ?_ k;have h1:=FQ (ps:=ps) (hs:=hs) (ns:=ns);have:=ok.1.1;show(gn ps hs ns).length+1<=_;exact fS (by omega)
theorem yv{α:Type}(l:List α)(x:α):cS (l++[x]) (-1)=ae x:=by
 have e:eY (l++[x]).length (-1)=ae l.length:=by
  unfold eY;rw[Af,Av,if_neg (by omega),if_pos (by omega)]
  congr 1
  omega
 unfold cS;rw[e];show(l++[x])[l.length]?=ae x;rw[B6 (Ao _),Nat.sub_self];rfl
theorem O2(xs:List Aa):bI xs ah (ae (-1))=xs.take (xs.length-1):=by
 have e:HT.sIx xs.length xs.length (ae (-1))=xs.length-1:=by
  show(if (-1:Int) < 0 then((-1:Int)+(xs.length:Int)).toNat else min (-1:Int).toNat xs.length)=_;rw[if_pos (by decide)];omega
 unfold bI;rw[HT.sIx_none,List.drop_zero,Nat.sub_zero,e]
section
variable{δ:Sl}{n:Int}{Q:DQ}{i:Nat}
theorem uZ{xs:List Aa}{x:Aa}(e:δ[i]?=ae (ae (.own (xs++[x]))))(k:Q (.d x) n):w2 (dC i) (cj (wC (.int (1)))) aU δ n Q:=by
 refine ar (gf e ?_);show(match cS (xs++[x]) (-1)with|some d=>Q (.d d) n|none=>False);rw[yv];exact k
theorem xZ{a b:Int}(k:Q (.d (.bool (decide (b < a)))) n):lA (.d (.int a)) (.d (.int b)) n Q:=k
theorem zV{ds:List Aa}(e:δ[i]?=ae (ae (.w (.d (.list ds)))))(k:Q (.d (.int ds.length)) n):wB gc (aq (ak i) ao) δ n Q:=aT (au e k)
end
theorem Wlk.snoc{ps:Pg}{s z r:Sd}{L:List Nat}{S:List Sd}{m:Nat}(W:Wlk ps s L (S++[z]))(okp:cz ps)(hm:m<=ps.length)(e:cx ps z.1 z.2 m=ae r):Wlk ps s (L++[m]) (S++[z]++[r]):=by
 have hS:S.length=L.length:=by have:=W.len;rw[Af,Av]at this;omega
 have hz:(S++[z])[S.length]?=ae z:=by rw[B6 (Ao _),Nat.sub_self];rfl
 have hr:(S++[z]++[r])[S.length+1]?=ae r:=by rw[B6 (by rw[Af,Av];exact Ao _),Af,Av,Nat.sub_self];rfl
 have up:∀i x,(S++[z])[i]?=ae x->(S++[z]++[r])[i]?=ae x:=λi x h=>by rw[C8 (Au.mp h).1];exact h
 refine⟨?_,up _ _ W.fst,λi x h=>?_,λi k h=>?_⟩
 ·rw[Af,W.len,Av,Af,Av]
 ·by_cases hi:i < (S++[z]).length
  ·rw[C8 hi]at h;exact W.ok i x h
  ·have hl:=(Au.mp h).1;rw[Af,Af,Av,Av]at hl;rw[Af,Av]at hi;obtain rfl:i=S.length+1:=by omega
   rw[hr]at h;cases h;obtain⟨h1,h2⟩:=W.ok _ _ hz;exact wD okp h1 h2 hm e
 ·by_cases hi:i < L.length
  ·rw[C8 hi]at h;obtain⟨h1,a,b,h2,h3,h4⟩:=W.st i k h;exact⟨h1,a,b,up _ _ h2,up _ _ h3,h4⟩
  ·have hl:=(Au.mp h).1;rw[Af,Av]at hl;obtain rfl:i=S.length:=by omega
   rw[B6 (by omega),show S.length-L.length=0 by omega]at h;cases h;exact⟨hm,z,r,up _ _ hz,hr,e⟩
def qp(ps:Pg)(z:Sd)(ds:List Aa):Prop:=0 < ds.length/\ds.length<=6/\∀d∈ds,∃m:Nat,d=.int m/\m<=ps.length/\(m=ps.length\/d9 ps z.1 z.2 m=ai)
def nQ(ps:Pg)(s:Sd)(mo:Nat)(n0:Int)(l:Nat)(δ:Sl)(n:Int):Prop:=∃(L:List Nat)(S:List Sd)(z:Sd)(x6 x7:Option SV),δ=[ae (.w .tp),ae (.w (.d (aY ps))),ae (.w (.d (cI s))),ae (.w (.d (.int mo))),ae (.own (aG L)),ae (.own (S.map cI++[cI z])),x6,x7]/\Wlk ps s L (S++[z])/\L.length+l<=16/\n+2*(l:Int)<=n0+62
theorem vz{ps:Pg}{s z:Sd}{L:List Nat}{S:List Sd}{ds:List Aa}{mo:Nat}{n n0:Int}{l:Nat}{x6:Option SV}{K:DEnds}(okp:cz ps)(W:Wlk ps s L (S++[z]))(hd:qp ps z ds)(hL:L.length+(l+1)<=16)(hn:n+1+2*(l:Int)<=n0+62)(hn0:n0+62 < 2 ^ 39)(kN:∀δ n,nQ ps s mo n0 l δ n->K.nx δ n):
  av (br 4 (w2 (ak 7) (aF cq (aq (ak 0) (aq (wB gc (aq (ak 7) ao)) ao))) aU)) (br 5 (aF jS (aq (ak 1) (aq (w2 (dC 5) (cj (wC (.int (1)))) aU) (aq (w2 (dC 4) (cj (wC (.int (1)))) aU) ao)))))
   [ae (.w .tp),ae (.w (.d (aY ps))),ae (.w (.d (cI s))),ae (.w (.d (.int mo))),ae (.own (aG L)),ae (.own (S.map cI++[cI z])),x6,ae (.w (.d (.list ds)))] n K:=by
 obtain⟨d0,d6,dm⟩:=hd;have hS:S.length=L.length:=by have:=W.len;rw[Af,Av]at this;omega
 have hz:(S++[z])[S.length]?=ae z:=by rw[B6 (Ao _),Nat.sub_self];rfl
 obtain⟨ok1,ok2⟩:=W.ok _ _ hz;have ok:d4 ps z.1 z.2:=⟨okp,ok1,A3 ok2.1 (by omega),ok2.2⟩;refine aD (jc rfl (ar (au rfl (iQ (m:=(ds.length:Nat)) rfl (λQ q=>zV rfl q) (by omega) (by omega) (by omega) λr r0 r1=>iT r0 r1 λd hd=>?_))));obtain⟨m,rfl,hm,hc⟩:=dm d hd;obtain⟨r,er⟩:=HF ok1 hm hc;refine Ah (by rw[nr];omega) ?_;dsimp only[Al];refine jc rfl (bW (au rfl (uZ rfl (uZ rfl ⟨ps,z.1,z.2,m,r,rfl,ok,hm,er,?_⟩))));refine Ah (by rw[Af,Ab,Av];omega) (kN _ _ ⟨L++[m],S++[z],r,x6,ae (.w (.d (.list ds))),?_,W.snoc okp hm er,by rw[Af,Av];omega,by omega⟩);rw[vS,Be];rfl
theorem N3{ps:Pg}{z:Sd}(hp:ps.length<=5):qp ps z (gn ps z.1 z.2++[.int ps.length]):=by
 have h1:=FQ (ps:=ps) (hs:=z.1) (ns:=z.2);refine⟨by rw[Af,Av];omega,by rw[Af,Av];omega,λd hd=>?_⟩;rcases Bb.mp hd with q|q
 ·unfold gn at q;obtain⟨m,hm,rfl⟩:=Bg.mp q;obtain⟨h2,h3⟩:=Cr.mp hm;have:=B8.mp h2;exact⟨m,rfl,by omega,.inr h3⟩
 ·rw[Bo]at q;exact⟨ps.length,q,Ao _,.inl rfl⟩
theorem OK:∀ws n Q,nc ws n Q->ws.length=4:=λws n Q h=>by obtain⟨_,_,_,rfl,_⟩:=h;rfl
theorem IU:∀ws n Q,nc ws n Q->yk (bE ["_law_tape_here","_law_programs","_law_stand","_law_most","_law_movers_here","_law_stands","_law_k","_law_some"] ws) n {nx:=λ_ n=>Q (.d .none) n,rt:=Q}:=λws n0 Q h=>by
 obtain⟨ps,s,mo,rfl,hmo,okp,okh,okn,hn0,k⟩:=h;show yk [ae (.w .tp),ae (.w (.d (aY ps))),ae (.w (.d (cI s))),ae (.w (.d (.int mo))),ah,ah,ah,ah] n0 _;refine aD (jl ?_);dsimp only[Al];refine aD (show bz 5 _ _ _ _ from v8 (au rfl (Ah (show 1<=1000 by decide) ?_)));dsimp only[Al];refine aD ?_;unfold bo dN;refine iQ (m:=(mo:Int)+1) rfl (λQ q=>ar (au rfl (aC (dH q)))) (by omega) (by omega) (by omega) λr r0 r1=>?_;refine Ah ⟨by omega,by omega⟩ ?_;have W0:Wlk ps s [] ([]++[s]):=⟨rfl,rfl,λi x h=>by
  cases i with
  |zero=>cases h;exact⟨okh,okn⟩
  |succ i=>simp at h,λi m h=>by simp at h⟩
 refine fW (λds δ n=>nQ ps s mo n0 ds.length δ n) (λδ n I=>?_) (λd t δ n N I kN=>?_) _ _ _ ⟨[],[],s,ah,ah,rfl,W0,by rw[eU];show 0+_<=16;omega,by rw[eU];omega⟩
 ·obtain⟨L,S,z,x6,x7,rfl,W,hL,hn⟩:=I;dsimp only;refine gK rfl ?_;dsimp only[Al];refine gK rfl ?_;dsimp only[Al];refine bb (cX (au rfl (au rfl (Ah (show 2<=1000 by decide) ?_))));have:=k L (S++[z]) n W (by simpa using hL) (by simpa using hn);rw[Be]at this;exact this
 ·obtain⟨L,S,z,x6,x7,rfl,W,hL,hn⟩:=I;rw[An]at hL hn;dsimp only[aJ,Al];have hz:(S++[z])[S.length]?=ae z:=by rw[B6 (Ao _),Nat.sub_self];rfl
  have hS:S.length=L.length:=by have:=W.len;rw[Af,Av]at this;omega
  obtain⟨ok1,ok2⟩:=W.ok _ _ hz;refine aD (show aA 7 _ _ _ _ from bf (RZ (au rfl (uZ rfl ⟨ps,z.1,z.2,rfl,⟨okp,ok1,A3 ok2.1 (by omega),ok2.2⟩,?_⟩))));dsimp only[Al];have M:=N3 (z:=z) okp.1;generalize gn ps z.1 z.2++[.int ps.length]=ds at M;refine aD (dh ?_);refine(show cT _ _ _ _ from ar (zV rfl (aC (xZ ?_))));refine jd (λz1=>?_) λ_=>?_
  ·have h1:1 < ds.length:=by have:=of_decide_eq_true z1;omega
   refine ar (iQ (m:=5) rfl (λQ q=>aC q) (by omega) (by omega) (by omega) λr r0 r1=>aC (xZ ?_));refine jd (λ_=>?_) λ_=>?_
   ·refine(show aA 7 _ _ _ _ from ?_);unfold aA w4 cf cb;refine au rfl ?_;show(_:Prop);dsimp only[cj,wC];rw[O2];dsimp only[Al];refine vz okp W ⟨by rw[Br];omega,A3 (List.length_take_le _ _) (by have:=M.2.1;omega),λd hd=>M.2.2 d (De hd)⟩ (by omega) (by omega) hn0 kN
   ·dsimp only[aM];exact vz okp W M (by omega) (by omega) hn0 kN
  ·dsimp only[aM];exact vz okp W M (by omega) (by omega) hn0 kN
theorem uF(x:Nat)(nu:List Nat)(q:Nt)(ns:List Nt):eQ (x::nu) (q::ns)=if cV q.2=ai then x::eQ nu ns else eQ nu ns:=by
 unfold eQ;rw[Fc,Dn];dsimp only
 split<;>rfl
theorem HU{nu:List Nat}{ns:List Nt}{x:Nat}(h:x∈eQ nu ns):x∈nu:=by
 obtain⟨⟨a,b⟩,hp,rfl⟩:=Bg.mp h;exact(Ef (Cr.mp hp).1).1
theorem EX:∀(nu:List Nat)(ns:List Nt),nu.Nodup->nu.length=ns.length->(nu.filter λx=>!decide (x∈eQ nu ns)).length=(dQ ns).length
 |[],[],_,_=>rfl
 |[],_::_,_,h=>nomatch h
 |_::_,[],_,h=>nomatch h
 |x::nu,q::ns,nd,hl=>by
  obtain⟨a,b⟩:=Dk.mp nd;have ih:=EX nu ns b (Nat.succ.inj hl);have hx:x∉eQ nu ns:=λz=>a (HU z);have ec:(dQ (q::ns)).length=(if cV q.2=ai then 0 else 1)+(dQ ns).length:=by
   unfold dQ;rw[Dn];cases cV q.2
   ·exact Nat.add_comm _ _
   ·exact(Nat.zero_add _).symm
  rw[uF,ec,<-ih];cases e:cV q.2 with
  |true=>
   rw[if_pos rfl,if_pos rfl,Dn,if_neg (by simp),Nat.zero_add]
   congr 1
   refine List.filter_congr λy hy=>?_;have:y≠x:=λz=>a (z▸hy);simp[this]
  |false=>
   rw[if_neg Ae,if_neg Ae,Dn,if_pos (by simp[hx]),An,Nat.add_comm]
theorem qt{nu:List Nat}{i:Nat}(h:i < nu.length):fI nu (ae i)=ae nu[i]:=Ak h
theorem rO{nu:List Nat}{i:Nat}(h:i < nu.length):dg nu (ae i)=.int (nu[i]:Nat):=by
 unfold dg;rw[qt h];rfl
theorem Ni{nu:List Nat}{i:Nat}(nd:nu.Nodup)(h:i < nu.length):(nu.filter λx=>!decide (ae x=fI nu (ae i))).length=nu.length-1:=by
 rw[qt h];have:(nu.filter λx=>!decide (ae x=ae nu[i]))=nu.erase nu[i]:=by
  rw[nd.erase_eq_filter];refine List.filter_congr λy _=>?_;by_cases z:y=nu[i]
  ·rw[<-z];simp
  ·simp[z]
 rw[this,List.length_erase_of_mem (Ci h)]
def Ow(ps:Pg)(s t:Sd)(m:Nat)(nm:Nm):Ac->Prop
 |.lay fs age=>t.2=s.2++[(cw fs nm,age)]
 |.take _=>∃i,bc ps s.1 s.2 m=ae i/\i < s.2.length/\t.2=cZ s.2 i
 |.read _=>t.2=s.2/\∃i,bc ps s.1 s.2 m=ae i/\i < s.2.length
 |.look _ _=>t.2=s.2/\∀i,bc ps s.1 s.2 m=ae i->i < s.2.length
 |_=>t.2=s.2
theorem kO{ps:Pg}{s t:Sd}{m:Nat}(okh:okHs ps s.1)(hm:m < ps.length)(af:cx ps s.1 s.2 m=ae t):∃P xb xp nm w as a,HandAt ps s.1 m P xb xp nm w as/\bK ps s.1 m=ae a/\Ow ps s t m nm a:=by
 obtain⟨P,xb,xp,nm,w,as,H⟩:=iZ okh hm;unfold cx at af;rw[if_neg (by omega)]at af;cases ea:bK ps s.1 m with
 |none=>
  unfold fJ at af;rw[H.prog,H.hand,ea]at af;cases af
 |some a=>
 refine⟨P,xb,xp,nm,w,as,a,H,rfl,?_⟩;rw[mE H ea]at af;have eg:∀gs:List Fe,a.pf=ae (gs.map Fe.fd)->bc ps s.1 s.2 m=bh (gs.map Fe.fd) nm s.2:=λgs hpf=>by
  unfold bc;rw[ea,H.nmq];show(a.pf.bind _)=_;rw[hpf];rfl
 have lt:∀{gs:List Fe}{i:Nat},bh (gs.map Fe.fd) nm s.2=ae i->i < s.2.length:=λh=>by
  obtain⟨q,hq,_⟩:=rq h;exact(Au.mp hq).1
 cases a with
 |lay fs age=>cases af;rfl
 |go b=>cases af;rfl
 |same f g b=>cases af;rfl
 |take gs=>
  have af:(((bS gs (xb,xp,nm) s.2).map λq=>(q.2,cZ s.2 q.1)).map λr=>(bq s.1 m r.1,r.2))=ae t:=af;cases ei:bh (gs.map Fe.fd) nm s.2 with
  |none=>rw[iN ei]at af;cases af
  |some i=>rw[ij ei]at af;cases af;exact⟨i,by rw[eg gs rfl,ei],lt ei,rfl⟩
 |read gs=>
  have af:(((bS gs (xb,xp,nm) s.2).map λq=>(q.2,s.2)).map λr=>(bq s.1 m r.1,r.2))=ae t:=af;cases ei:bh (gs.map Fe.fd) nm s.2 with
  |none=>rw[iN ei]at af;cases af
  |some i=>rw[ij ei]at af;cases af;exact⟨rfl,i,by rw[eg gs rfl,ei],lt ei⟩
 |look gs b=>
  have af:((match bS gs (xb,xp,nm) s.2 with|some q=>ae (q.2,s.2)|none=>ae (bR P b nm,s.2):Option (Hn×List Nt)).map λr=>(bq s.1 m r.1,r.2))=ae t:=af;refine⟨?_,λi h=>lt (by rw[<-eg gs rfl];exact h)⟩;cases ei:bh (gs.map Fe.fd) nm s.2 with
  |none=>rw[iN ei]at af;cases af;rfl
  |some i=>rw[ij ei]at af;cases af;rfl
theorem k9{ps:Pg}{s:Sd}{nu:List Nat}{fr:Nat}:aI ps s nu fr ps.length=(.tuple [.str "clock",.tuple (aG (eQ nu s.2))],nu.filter (λx=>!decide (x∈eQ nu s.2)),fr):=by unfold aI;rw[if_pos rfl]
theorem lu{ps:Pg}{s:Sd}{nu:List Nat}{fr m:Nat}{a:Ac}(hm:m < ps.length)(ea:bK ps s.1 m=ae a):aI ps s nu fr m=jL ps s nu fr m a:=by
 unfold aI;rw[if_neg (by omega),ea]
theorem GA{ps:Pg}{s t:Sd}{nu:List Nat}{fr m:Nat}(B:okBd ps s t nu fr m):okNu t (aI ps s nu fr m).2.1 (aI ps s nu fr m).2.2/\(aI ps s nu fr m).2.2<=fr+1:=by
 obtain⟨st,⟨nd,len,lt⟩,le,af⟩:=B;by_cases em:m=ps.length
 ·subst em;unfold cx at af;rw[if_pos rfl]at af;cases af;rw[k9];exact⟨⟨nd.filter _,EX nu s.2 nd len,λx hx=>lt x (Cr.mp hx).1⟩,F3 _⟩
 ·have hm:m < ps.length:=by omega
  obtain⟨P,xb,xp,nm,w,as,a,H,ea,T⟩:=kO st.2.1 hm af;rw[lu hm ea];cases a with
  |lay fs age=>
   have T:t.2=s.2++[(cw fs nm,age)]:=T;refine⟨⟨?_,?_,λx hx=>?_⟩,Ao _⟩
   ·exact List.nodup_append.mpr ⟨nd,Dk.mpr ⟨Aq,List.nodup_nil⟩,λx hx y hy e=>by rw[Bo.mp hy]at e;have:=lt x hx;omega⟩
   ·show(nu++[fr]).length=t.2.length;rw[T,Af,Af,len];rfl
   ·rcases Bb.mp hx with hx|hx
    ·exact Nat.lt_succ_of_lt (lt x hx)
    ·rw[Bo.mp hx];exact Nat.lt_succ_self _
  |take gs=>
   obtain⟨i,eg,hi,T⟩:=T;refine⟨⟨nd.filter _,?_,λx hx=>lt x (Cr.mp hx).1⟩,F3 _⟩;show(nu.filter λx=>!decide (ae x=fI nu (bc ps s.1 s.2 m))).length=_;rw[eg,Ni nd (by omega),T];unfold cZ;rw[Af,Br,Bw];omega
  |read gs=>exact⟨⟨nd,by rw[T.1];exact len,lt⟩,F3 _⟩
  |look gs b=>exact⟨⟨nd,by rw[T.1];exact len,lt⟩,F3 _⟩
  |go b=>exact⟨⟨nd,by rw[show t.2=s.2 from T];exact len,lt⟩,F3 _⟩
  |same f g b=>exact⟨⟨nd,by rw[show t.2=s.2 from T];exact len,lt⟩,F3 _⟩
theorem Hi{ps:Pg}{s:Sd}{nu:List Nat}{fr:Nat}{L:List Nat}{R:List Aa}(h:Lgs ps s nu fr L R):R.length=L.length:=by
 induction h with
 |nil=>rfl
 |cons _ _ _ ih=>rw[An,An,ih]
theorem N5{ps:Pg}{s t:Sd}{L:List Nat}(h:Wov ps s L t):∀nu fr,∃R,Lgs ps s nu fr L R:=by
 induction h with
 |nil=>exact λ_ _=>⟨[],.nil⟩
 |cons a b _ ih=>
  intro nu fr;obtain⟨R,h⟩:=ih (aI ps _ nu fr _).2.1 (aI ps _ nu fr _).2.2;exact⟨_,.cons a b h⟩
theorem FR{i:Nat}(h:i<=99):Sm 0 20 (.int i):=p8 (jn (by omega) (by omega))
theorem sm_none:Sm 0 20 .none:=⟨rfl,Ao _,by decide,rfl,rfl⟩
theorem Hz{x:Str}(h:(decide (x.length<=8)&&D8 x)=ai):Sm 0 20 (.str x):=by
 rw[A2]at h;have h1:x.cps.size<=8:=of_decide_eq_true h.1;refine⟨?_,by rw[Bn];exact Ao _,?_,by rw[Dm],by rw[Df]⟩
 ·rw[Bu];exact h.2
 ·rw[Ee];omega
theorem zZ(s:Sd):okNu s (Ba s.2.length) s.2.length:=⟨List.nodup_range,Di,λ_ hx=>B8.mp hx⟩
theorem CC{a:Aa}{n:Int}{Q:DQ}(ha:f9 a)(k:Q (.d (.bool (cV a))) n):aV (.d a) (.d (.int 1)) n Q:=by
 rcases ha with rfl|⟨i,rfl,_⟩
 ·exact k
 ·exact k
theorem Ss:∀ws n Q,qw ws n Q->ws.length=1:=Hf
theorem R8:∀ws n Q,qw ws n Q->yW (bE ["plan"] ws) n {nx:=λ_ n=>Q (.d .none) n,rt:=Q}:=λws n Q h=>by
 obtain⟨ps,ns,rfl,hp,k⟩:=h;show yW [ae (.w (.d (.tuple [aY ps,bN ns])))] n _;refine bb (cX (aT (bf (jx (ds:=ps.map eI) (λQ q=>ar (au rfl (aC (bV q)))) ?_))));show c9 _ _ _ _ _ _ [ah] n;refine qO eI (λ_=>bP (0,0,[])) ps ah n (λP hP n Q' q=>fZ (aC (aC (show aw ao _ _ _ from Ah (by decide) (Ah (show 3<=1000 by decide) q))))) ?_;refine(show d5 _ _ _ from aT (ar (au rfl (aC (bU (i:=1) rfl (show d5 [.d (.tuple (ns.map cR))] _ _ from Ah (show 2<=1000 by decide) ?_))))));have e:(eL ps).map bP=ps.map λ_=>bP (0,0,[]):=by unfold eL;rw[Cw];rfl
 unfold bM at k;rw[e]at k;exact k
theorem J4:∀ws n Q,rQ ws n Q->ws.length=1:=λws n Q h=>by obtain⟨_,_,rfl,_⟩:=h;rfl
theorem Ms:∀ws n Q,rQ ws n Q->Hv (bE ["plan","many"] ws) n {nx:=λ_ n=>Q (.d .none) n,rt:=Q}:=λws n Q h=>by
 obtain⟨ps,ns,rfl,hp,hn,k⟩:=h;show Hv [ae (.w (.d (.tuple [aY ps,bN ns]))),ah] n _;refine aD (bC (x:=.int ns.length) (λQ q=>aT (dY rfl (show Q (.d (.int ((ns.map cR).length:Nat))) n by rw[Ab];exact q))) ?_);dsimp only[Al];exact bb (fZ (cu (au rfl ⟨ps,ns,rfl,hp,(show vx _ _ _ _ from au rfl ⟨ns.length,rfl,by omega,au rfl (Ah (show 3<=1000 by decide) k)⟩)⟩)))
theorem BL{Q:List Aa->Int->Prop}:∀(ns:List Nt)(nu:List Nat)(acc:List Aa)(x y:Option SV)(n:Int),nu.length=ns.length->(∀q∈ns,f9 q.2)->Q (acc++aG (eQ nu ns)) n->
  c9 (di 2 (bj (aJ 0) (bj (aJ 1) cn))) (cT (w2 (w2 (ak 0) (wC (.int (1))) aB) (wC (.int (1))) aV)) (ak 1) Q (dr (ns.map cR) (aG nu)) acc [x,y] n
 |[],[],acc,x,y,n,_,_,q=>by
  rw[show aG (eQ [] [])=[]from rfl,Bt]at q;exact q
 |[],_::_,_,_,_,_,h,_,_=>nomatch h
 |_::_,[],_,_,_,_,h,_,_=>nomatch h
 |q::ns,i::nu,acc,x,y,n,hl,h,k=>by
  have ih:=λacc x y k=>BL (Q:=Q) ns nu acc x y n (Nat.succ.inj hl) (λq hq=>h q (Am _ hq)) k;refine(show di 2 _ (.tuple [cR q,.int i]) [x,y] _ from⟨rfl,?_⟩);dsimp only[bj,cn,aJ,Al];refine aE (k:=cV q.2) (λQ q'=>ar (dY (a:=.tuple q.1) (b:=q.2) (r:=[]) rfl (aC (CC (h q As) q')))) ?_;rw[uF]at k;refine jd (λz=>?_) λz=>?_
  ·rw[if_pos z]at k;exact au rfl (ih _ _ _ (by rw[Bp];exact k))
  ·rw[if_neg (by rw[z];exact Ae)]at k;exact ih _ _ _ k
theorem OH:∀ws n Q,sW ws n Q->ws.length=1:=λws n Q h=>by obtain⟨_,_,_,rfl,_⟩:=h;rfl
theorem To:∀ws n Q,sW ws n Q->G2 (bE ["board","gone"] ws) n {nx:=λ_ n=>Q (.d .none) n,rt:=Q}:=λws n Q h=>by
 obtain⟨s,nu,fr,rfl,hl,ha,k⟩:=h;show G2 [ae (.w (.d (dS s nu fr))),ah] n _;refine aD (show aA 1 _ _ _ _ from bf ?_);unfold cQ j0;refine ar (eB (a:=cI s) rfl (aC (eh (a:=.tuple (s.1.map bP)) (b:=bN s.2) (r:=[]) (dY (b:=.tuple (aG nu)) rfl (Ah ?_ ?_)))))
 ·rw[Ab,nr,hl]
 show c9 _ _ _ _ _ _ [ah,ah] n;refine BL s.2 nu [] ah ah n hl ha ?_;dsimp only[Al,Bq];exact bb (cX (aC (aT (au rfl (nR (Ah (show 2<=1000 by decide) k))))))
abbrev o9:List (Str×Str):=[("take","takes"),("read","reads"),("look","looks")]
theorem GS{δ:Sl}{n:Int}{D:List (Str×Str)}{w:DT}{s:Str}{b:Bool}{Q:Bool->Int->Prop}(hw:∀Q:DQ,Q (.d (.str s)) n->w δ n Q)(e:(!(A9 s D).isSome)=b)(q:Q b n):cT (pT D w) δ n Q:=by
 refine hw _ ?_;show Q (!(A9 s D).isSome) n;rw[e];exact q
theorem P2{δ:Sl}{n:Int}{D:List (Str×Str)}{w:DT}{s r:Str}{Q:DQ}(hw:∀Q:DQ,Q (.d (.str s)) n->w δ n Q)(e:A9 s D=ae r)(hl:r.length<=1000)(q:Q (.d (.str r)) n):jw D w δ n Q:=by
 refine hw _ ?_;dsimp only;rw[e];exact⟨hl,q⟩
theorem I0{n:Int}{Q:DQ}{xs:List Aa}{x:Aa}(k:Q (.d x) n):aB (.d (.tuple (xs++[x]))) (.d (.int (-1))) n Q:=by
 show(match cS (xs++[x]) (-1)with|some d=>Q (.d d) n|none=>False);rw[yv];exact k
theorem Pf{δ:Sl}{n:Int}{Q:DQ}{xs:List Aa}{x:Aa}(k:Q (.d x) n):cj (wC (.int 1)) δ n (λy n2=>aB (.d (.tuple (xs++[x]))) y n2 Q):=I0 k
theorem wZ{h:Str}{r:List Aa}(h1:h≠"clock")(h2:h≠"takes"):il (.tuple (.str h::r))=[]:=by simp only[il,if_neg h1,if_neg h2]
theorem JJ{nu:List Nat}{i:Nat}{n:Int}{Q:DQ}(hi:i < nu.length)(k:Q (.d (dg nu (ae i))) n):aB (.d (.tuple (aG nu))) (.d (.int i)) n Q:=by
 rw[rO hi]at k;exact bU (by unfold aG;rw[A1,Ak hi];rfl) k
theorem Tc:∀ws n Q,qI ws n Q->ws.length=4:=λws n Q h=>by obtain⟨_,_,_,_,_,_,rfl,_⟩:=h;rfl
theorem Ot:∀ws n Q,qI ws n Q->BW (bE ["programs","board","hand","behind","act","place"] ws) n {nx:=λ_ n=>Q (.d .none) n,rt:=Q}:=λws n Q h=>by
 obtain⟨ps,s,t,nu,fr,m,rfl,B,hm,k⟩:=h;obtain⟨P,xb,xp,nm,w,as,a,H,ea,T⟩:=kO B.st.2.1 hm B.af;rw[lu hm ea]at k;show BW [ae (.w (.d (aY ps))),ae (.w (.d (dS s nu fr))),ae (.w (.d (.int m))),ae (.w (.d (cI t))),ah,ah] n _;refine aD (bC (x:=a.d) (λQ q=>bW (au rfl (eB (a:=cI s) rfl (au rfl ⟨ps,s.1,s.2,m,rfl,B.st.2.1,hm,by rw[ea];exact q⟩)))) ?_);dsimp only[Al];have go:∀(x:Str)(r:List Aa),bO "lay" (.str x)=aj->(!(A9 x o9).isSome)=ai->a.d=.tuple (.str x::r)->Q (.d (.tuple [.str "goes",.int m])) n->
   (av (aL (cT (w2 (w2 (ak 4) (wC (.int (0))) aB) (wC (.str "lay")) aV)) (az (aw (aq (wC (.str "lays")) (aq (ak 2) (aq (w2 (ak 1) (wC (.int (2))) aB) (aq (w2 (w2 (ak 3) (wC (.int (1))) aB) (cj (wC (.int (1)))) aB) ao)))))) aM) (av (aL (cT (pT [("take","takes"),("read","reads"),("look","looks")] (w2 (ak 4) (wC (.int (0))) aB))) (az (aw (aq (wC (.str "goes")) (aq (ak 2) ao)))) aM) (av (aA 5 (aF lQ (aq (ak 0) (aq (w2 (ak 1) (wC (.int (0))) aB) (aq (ak 2) ao))))) (az (aw (aq (jw [("take","takes"),("read","reads"),("look","looks")] (w2 (ak 4) (wC (.int (0))) aB)) (aq (ak 2) (aq (eO (cT (w2 (ak 5) (wC .none) (cL aj))) (wC .none) (w2 (w2 (ak 1) (wC (.int (1))) aB) (ak 5) aB)) ao))))))))
    [ae (.w (.d (aY ps))),ae (.w (.d (dS s nu fr))),ae (.w (.d (.int m))),ae (.w (.d (cI t))),ae (.w (.d a.d)),ah] n {nx:=λ_ n=>Q (.d .none) n,rt:=Q}:=λx r h1 h2 e q=>by
  rw[e];refine aD (j5 (a:=.str x) rfl h1 ?_);dsimp only[aM];exact aD (bF (λQ q=>GS (λQ q=>eB rfl q) h2 q) (bb (cX (aC (au rfl (Ah (show 2<=1000 by decide) q))))))
 have get:∀(x y:Str)(r:List Aa),bO "lay" (.str x)=aj->A9 x o9=ae y->y.length<=1000->(∀i,bc ps s.1 s.2 m=ae i->i < s.2.length)->a.d=.tuple (.str x::r)->Q (.d (.tuple [.str y,.int m,dg nu (bc ps s.1 s.2 m)])) n->
   (av (aL (cT (w2 (w2 (ak 4) (wC (.int (0))) aB) (wC (.str "lay")) aV)) (az (aw (aq (wC (.str "lays")) (aq (ak 2) (aq (w2 (ak 1) (wC (.int (2))) aB) (aq (w2 (w2 (ak 3) (wC (.int (1))) aB) (cj (wC (.int (1)))) aB) ao)))))) aM) (av (aL (cT (pT [("take","takes"),("read","reads"),("look","looks")] (w2 (ak 4) (wC (.int (0))) aB))) (az (aw (aq (wC (.str "goes")) (aq (ak 2) ao)))) aM) (av (aA 5 (aF lQ (aq (ak 0) (aq (w2 (ak 1) (wC (.int (0))) aB) (aq (ak 2) ao))))) (az (aw (aq (jw [("take","takes"),("read","reads"),("look","looks")] (w2 (ak 4) (wC (.int (0))) aB)) (aq (ak 2) (aq (eO (cT (w2 (ak 5) (wC .none) (cL aj))) (wC .none) (w2 (w2 (ak 1) (wC (.int (1))) aB) (ak 5) aB)) ao))))))))
    [ae (.w (.d (aY ps))),ae (.w (.d (dS s nu fr))),ae (.w (.d (.int m))),ae (.w (.d (cI t))),ae (.w (.d a.d)),ah] n {nx:=λ_ n=>Q (.d .none) n,rt:=Q}:=λx y r h1 h2 h3 lt e q=>by
  rw[e];refine aD (j5 (a:=.str x) rfl h1 ?_);dsimp only[aM];refine aD (a8 (λQ q=>GS (λQ q=>eB rfl q) (by rw[h2];rfl) q) ?_);dsimp only[aM];refine aD (bC (x:=fP (bc ps s.1 s.2 m)) (λQ q=>bW (au rfl (eB (a:=cI s) rfl (au rfl ⟨ps,s.1,s.2,m,rfl,B.st,hm,q⟩)))) ?_);dsimp only[Al];refine bb (fZ (P2 (λQ q=>eB rfl q) h2 h3 (au rfl ?_)));cases eg:bc ps s.1 s.2 m with
  |none=>
   rw[eg]at q;exact fL (b:=ai) (λQ q=>aE (k:=ai) (λQ q=>ar (au rfl (aC (hZ q)))) q) (by rw[if_pos rfl];exact aC (Ah (show 3<=1000 by decide) q))
  |some i=>
   rw[eg]at q;have hi:i < nu.length:=by rw[B.nu.len];exact lt i eg
   exact fL (b:=aj) (λQ q=>aE (k:=aj) (λQ q=>ar (au rfl (aC (hZ q)))) q) (by rw[if_neg Ae];exact ar (dY (b:=.tuple (aG nu)) rfl (au rfl (JJ hi (Ah (show 3<=1000 by decide) q)))))
 cases a with
 |lay fs age=>
  have T:t.2=s.2++[(cw fs nm,age)]:=T;have k:Q (.d (.tuple [.str "lays",.int m,.int fr,cR (cw fs (iu s.1 m),age)])) n:=k;rw[H.nmq]at k;refine aD (oX (a:=.str "lay") rfl (by decide +kernel) ?_);refine bb (ve (aC (au rfl (ar (au rfl (aC (dG (ar (dY (a:=.tuple (t.1.map bP)) (b:=bN t.2) (r:=[]) rfl ?_)))))))));unfold bN;rw[T,Be];exact Pf (xs:=s.2.map cR) (x:=cR (cw fs nm,age)) (Ah (show 4<=1000 by decide) k)
 |take gs=>obtain⟨i,eg,hi,_⟩:=T;exact get "take" "takes" _ (by decide +kernel) (by decide +kernel) (by decide +kernel) (λj h=>by rw[eg]at h;cases h;exact hi) rfl k
 |read gs=>obtain⟨_,i,eg,hi⟩:=T;exact get "read" "reads" _ (by decide +kernel) (by decide +kernel) (by decide +kernel) (λj h=>by rw[eg]at h;cases h;exact hi) rfl k
 |look gs b=>exact get "look" "looks" _ (by decide +kernel) (by decide +kernel) (by decide +kernel) T.2 rfl k
 |same f g b=>exact go "same" _ (by decide +kernel) (by decide +kernel) rfl k
 |go b=>exact go "go" _ (by decide +kernel) (by decide +kernel) rfl k
theorem Td:∀ws n Q,rk ws n Q->ws.length=4:=λws n Q h=>by obtain⟨_,_,_,_,_,_,rfl,_⟩:=h;rfl
theorem PQ:∀ws n Q,rk ws n Q->HW (bE ["programs","board","mover","behind"] ws) n {nx:=λ_ n=>Q (.d .none) n,rt:=Q}:=λws n Q h=>by
 obtain⟨ps,s,t,nu,fr,m,rfl,B,k⟩:=h;show HW [ae (.w (.d (aY ps))),ae (.w (.d (dS s nu fr))),ae (.w (.d (.int m))),ae (.w (.d (cI t)))] n _;refine aD (dh (aE (k:=decide ((m:Int)=(ps.length:Nat))) (λQ q=>ar (au rfl (aT (au rfl ?_)))) ?_))
 ·show Q (.d (.bool (decide ((m:Int)=((ps.map eI).length:Nat))))) n;rw[Ab];exact q
 by_cases em:m=ps.length
 ·subst em;rw[k9]at k;show if decide _=ai then _ else _
  rw[if_pos (decide_eq_true rfl)];exact bb (cu (au rfl ⟨s,nu,fr,rfl,B.nu.len,λq hq=>(B.st.2.2.2 q hq).2,k⟩))
 ·show if decide _=ai then _ else _
  rw[if_neg (by rw[decide_eq_false (by omega)];exact Ae)];dsimp only[aM];exact bb (j7 (au rfl (au rfl (au rfl (au rfl ⟨ps,s,t,nu,fr,m,rfl,B,by have:=B.le;omega,k⟩)))))
theorem DR{h x:Str}(z:x≠h):bO h (.str x)=aj:=decide_eq_false z
theorem Nj:∀ws n Q,rN ws n Q->ws.length=1:=λws n Q h=>by obtain⟨_,rfl,_⟩:=h;rfl
theorem SX:∀ws n Q,rN ws n Q->EL (bE ["row"] ws) n {nx:=λ_ n=>Q (.d .none) n,rt:=Q}:=λws n Q h=>by
 obtain⟨row,rfl,ok,k⟩:=h;show EL [ae (.w (.d row))] n _;cases row with
 |tuple l=>cases l with
  |nil=>exact ok.elim
  |cons d r=>cases d with
   |str h=>
    rcases ok with⟨rfl,l,rfl⟩|⟨rfl,a,b,rfl⟩|⟨h1,h2⟩
    ·have k:Q (.d (.tuple l)) n:=k;exact aD (oX (a:=.str "clock") rfl (by decide +kernel) (bb (dY rfl k)))
    ·have k:Q (.d (.tuple [b])) n:=k;refine aD (j5 (a:=.str "takes") rfl (by decide +kernel) ?_);dsimp only[aM];exact bb (fL (b:=ai) (λQ q=>aE (λQ q=>mj (a:=.str "takes") rfl (by rw[show bO "takes" (.str "takes")=ai by decide +kernel];exact q)) q) (by rw[if_pos rfl];exact kx (ar (au rfl (aC (dG (Ah (show 1<=1000 by decide) k)))))))
    ·rw[wZ h1 h2]at k;refine aD (j5 (a:=.str h) rfl (DR h1) ?_);dsimp only[aM];exact bb (fL (b:=aj) (λQ q=>aE (λQ q=>mj (a:=.str h) rfl (by rw[DR h2];exact q)) q) (by rw[if_neg Ae];exact(show aw ao _ _ _ from Ah (by decide) k)))
   |_=>exact ok.elim
 |_=>exact ok.elim
theorem EB(l:List Nat):(aG l).all fg=ai:=by
 rw[C0];intro d hd;obtain⟨i,_,rfl⟩:=Bg.mp hd;rfl
theorem ui(x:Nat):∀l:List Nat,bZ (.int x) (aG l)=decide (x∈l)
 |[]=>rfl
 |y::l=>by
  show(((y:Int)==(x:Int)) || bZ (.int x) (aG l))=_;rw[ui x l];by_cases e:x=y
  ·subst e;simp
  ·have:((y:Int)==(x:Int))=aj:=by simp;omega
   simp[this,e]
theorem KR(x i:Nat):bZ (.int x) [.int i]=decide (ae x=ae i):=by
 show(((i:Int)==(x:Int)) || false)=_;by_cases e:x=i
 ·subst e;simp
 ·have h1:((i:Int)==(x:Int))=aj:=by simp;omega
  rw[h1,decide_eq_false λz=>e (A8 z)];rfl
theorem P9{Q:List Aa->Int->Prop}{wl:List Aa}{n:Int}(nu:List Nat)(hf:wl.all fg=ai)(q:Q (aG (nu.filter λx=>!bZ (.int x) wl)) n):
  c9 (aJ 0) (cT (w2 (ak 0) (ak 1) (gD ai))) (ak 0) Q (aG nu) [] [ah,ae (.w (.d (.tuple wl)))] n:=
 jy (λi:Nat=>.int i) (λi:Nat=>.int i) (λx=>!bZ (.int x) wl) nu [] ah n (λa _ n Q' q=>aE (k:=!bZ (.int a) wl) (λQ q=>ar (au rfl (au rfl (Ah rfl (Ah hf q))))) q) (λa _ n Q' q=>au rfl q) (by rw[Bq];exact q)
theorem qY{s t:Sd}{nu:List Nat}{fr:Nat}{n:Int}{K:DEnds}{row:Aa}(hr:oz row)(hf:(il row).all fg=ai)
  (k:(av (aL (cT (w2 (w2 (ak 1) (wC (.int (0))) aB) (wC (.str "lays")) aV)) (az (aw (aq (ak 2) (aq (w2 (ak 4) (aw (aq (w2 (ak 1) (wC (.int (2))) aB) ao)) cU) (aq (w2 (w2 (ak 0) (wC (.int (2))) aB) (wC (.int (1))) (b7 λi j=>.int (i+j))) ao))))) aM) (az (aw (aq (ak 2) (aq (ak 4) (aq (w2 (ak 0) (wC (.int (2))) aB) ao))))))
   [ae (.w (.d (dS s nu fr))),ae (.w (.d row)),ae (.w (.d (cI t))),ae (.w (.d (.tuple (il row)))),ae (.w (.d (.tuple (aG (nu.filter λx=>!bZ (.int x) (il row))))))] n K):
  rL [ae (.w (.d (dS s nu fr))),ae (.w (.d row)),ae (.w (.d (cI t))),ah,ah] n K:=by
 refine aD (bC (x:=.tuple (il row)) (λQ q=>cu (au rfl ⟨row,rfl,hr,q⟩)) ?_);dsimp only[Al];refine aD (bC (x:=.tuple (aG (nu.filter λx=>!bZ (.int x) (il row)))) (λQ q=>aT (bf (jx (ds:=aG nu) (λQ q=>dY rfl q) ?_))) k);show c9 _ _ _ _ _ _ [ah,ae (.w (.d (.tuple (il row))))] n;exact P9 nu hf (nR q)
theorem FY(nu:List Nat):(nu.filter λx:Nat=>!bZ (.int (x:Int)) [])=nu:=List.filter_eq_self.mpr λ_ _=>rfl
theorem L1:∀ws n Q,tM ws n Q->ws.length=3:=λws n Q h=>by obtain⟨_,_,_,_,_,_,rfl,_⟩:=h;rfl
theorem OB:∀ws n Q,tM ws n Q->rL (bE ["board","row","behind","went","numbers"] ws) n {nx:=λ_ n=>Q (.d .none) n,rt:=Q}:=λws n Q h=>by
 obtain⟨ps,s,t,nu,fr,m,rfl,B,hl,k⟩:=h;show rL [ae (.w (.d (dS s nu fr))),ae (.w (.d (aI ps s nu fr m).1)),ae (.w (.d (cI t))),ah,ah] n _;have tail:∀(x:Str)(r:List Aa)(nu':List Nat),bO "lays" (.str x)=aj->Q (.d (dS t nu' fr)) n->∀wl,(av (aL (cT (w2 (w2 (ak 1) (wC (.int (0))) aB) (wC (.str "lays")) aV)) (az (aw (aq (ak 2) (aq (w2 (ak 4) (aw (aq (w2 (ak 1) (wC (.int (2))) aB) ao)) cU) (aq (w2 (w2 (ak 0) (wC (.int (2))) aB) (wC (.int (1))) (b7 λi j=>.int (i+j))) ao))))) aM) (az (aw (aq (ak 2) (aq (ak 4) (aq (w2 (ak 0) (wC (.int (2))) aB) ao))))))
   [ae (.w (.d (dS s nu fr))),ae (.w (.d (.tuple (.str x::r)))),ae (.w (.d (cI t))),ae (.w (.d wl)),ae (.w (.d (.tuple (aG nu'))))] n {nx:=λ_ n=>Q (.d .none) n,rt:=Q}:=λx r nu' h1 q wl=>by
  refine aD (j5 (a:=.str x) rfl h1 ?_);dsimp only[aM];exact bb (fZ (au rfl (au rfl (ar (au rfl (aC (dG (Ah (show 3<=1000 by decide) q))))))))
 by_cases em:m=ps.length
 ·subst em;rw[k9]at k ⊢;refine qY (.inl ⟨rfl,_,rfl⟩) (EB _) ?_;refine tail "clock" _ _ (by decide +kernel) ?_ _;rw[show(λx:Nat=>!bZ (.int x) (il (.tuple [.str "clock",.tuple (aG (eQ nu s.2))])))=λx=>!decide (x∈eQ nu s.2)from funext λx=>by rw[<-ui];rfl];exact k
 ·have hm:m < ps.length:=by have:=B.le;omega
  obtain⟨P,xb,xp,nm,w,as,a,H,ea,T⟩:=kO B.st.2.1 hm B.af;rw[lu hm ea]at k ⊢;have oth:∀(x:Str)(r:List Aa),x≠"clock"->x≠"takes"->bO "lays" (.str x)=aj->Q (.d (dS t nu fr)) n->rL [ae (.w (.d (dS s nu fr))),ae (.w (.d (.tuple (.str x::r)))),ae (.w (.d (cI t))),ah,ah] n {nx:=λ_ n=>Q (.d .none) n,rt:=Q}:=λx r h1 h2 h3 q=>by
   have e:il (.tuple (.str x::r))=[]:=wZ h1 h2;refine qY (.inr (.inr ⟨h1,h2⟩)) (by rw[e];rfl) ?_;rw[e,FY];exact tail x r _ h3 q _
  cases a with
  |lay fs age=>
   dsimp only[jL]at k ⊢;have e:il (.tuple [.str "lays",.int m,.int fr,cR (cw fs (iu s.1 m),age)])=[]:=wZ (by decide) (by decide);refine qY (.inr (.inr ⟨by decide,by decide⟩)) (by rw[e];rfl) ?_;rw[e,FY];refine aD (oX (a:=.str "lays") rfl (by decide +kernel) ?_);refine bb (fZ (au rfl (ar (au rfl (kx (ar (au rfl (aC (dG (Ah (show 1<=1000 by decide) (gH (by rw[nr,Av];omega) ?_)))))))))));refine ar (ar (au rfl (aC (dG (aC (dH (Ah (show 3<=1000 by decide) ?_)))))));have k:Q (.d (.tuple [cI t,.tuple (aG (nu++[fr])),.int ((fr+1:Nat):Int)])) n:=k;rw[vS]at k;exact k
  |take gs=>
   obtain⟨i,eg,hi,_⟩:=T;dsimp only[jL]at k ⊢;have hi':i < nu.length:=by rw[B.nu.len];exact hi
   have ed:dg nu (bc ps s.1 s.2 m)=.int (nu[i]:Nat):=by rw[eg];exact rO hi'
   refine qY (.inr (.inl ⟨rfl,_,_,rfl⟩)) (show[dg nu (bc ps s.1 s.2 m)].all fg=ai by rw[ed];rfl) ?_;refine tail "takes" _ _ (by decide +kernel) ?_ _;have en:fI nu (bc ps s.1 s.2 m)=ae nu[i]:=by rw[eg];exact qt hi'
   rw[show(λx:Nat=>!bZ (.int x) (il (.tuple [.str "takes",.int m,dg nu (bc ps s.1 s.2 m)])))=λx:Nat=>!decide (ae x=fI nu (bc ps s.1 s.2 m))from funext λx=>by rw[en,<-KR,ed];rfl];exact k
  |read gs=>exact oth "reads" _ (by decide) (by decide) (by decide +kernel) k
  |look gs b=>exact oth "looks" _ (by decide) (by decide) (by decide +kernel) k
  |same f g b=>exact oth "goes" _ (by decide) (by decide) (by decide +kernel) k
  |go b=>exact oth "goes" _ (by decide) (by decide) (by decide +kernel) k
theorem Us:∀ws n Q,rG ws n Q->ws.length=3:=λws n Q h=>by obtain⟨_,_,_,_,_,rfl,_⟩:=h;rfl
theorem O7:∀ws n Q,rG ws n Q->Hj (bE ["programs","board","mover","behind","row"] ws) n {nx:=λ_ n=>Q (.d .none) n,rt:=Q}:=λws n Q h=>by
 obtain⟨ps,s,nu,fr,b,rfl,ok,okn,k⟩:=h;show Hj [ae (.w (.d (aY ps))),ae (.w (.d (dS s nu fr))),ae (.w (.d b)),ah,ah] n _;unfold lC at k;have call:∀Q:DQ,Q (.d (iL (hU ps s.1 s.2 b))) n->aF qo (aq (ak 0) (aq (w2 (ak 1) (wC (.int (0))) aB) (aq (ak 2) ao))) [ae (.w (.d (aY ps))),ae (.w (.d (dS s nu fr))),ae (.w (.d b)),ah,ah] n Q:=λQ q=>bW (au rfl (eB (a:=cI s) rfl (au rfl ⟨ps,s.1,s.2,b,rfl,ok,q⟩)));cases ea:hU ps s.1 s.2 b with
 |none=>
  rw[ea]at k call;refine aD (bC (x:=.none) call ?_);dsimp only[Al];exact aD (bF (λQ q=>aE (k:=ai) (λQ q=>ar (au rfl (aC q))) q) (bb (aC k)))
 |some t=>
  rw[ea]at k call;obtain⟨m,em,af⟩:=Gg.mp ea;obtain⟨rfl,hm⟩:=nH em;have en:fK ps (.int m)=m:=by unfold fK;rw[em];rfl
  rw[en]at k;have B:okBd ps s t nu fr m:=⟨ok,okn,hm,af⟩;refine aD (bC (x:=cI t) call ?_);dsimp only[Al];refine aD (a8 (λQ q=>aE (k:=aj) (λQ q=>ar (au rfl (aC (hZ q)))) q) ?_);dsimp only[aM];refine aD (bC (x:=(aI ps s nu fr m).1) (λQ q=>j7 (au rfl (au rfl (au rfl (au rfl ⟨ps,s,t,nu,fr,m,rfl,B,q⟩))))) ?_);dsimp only[Al];exact bb (cX (au rfl (bW (au rfl (au rfl (au rfl ⟨ps,s,t,nu,fr,m,rfl,B,by rw[B.nu.len];have:=B.st.2.2.1;omega,Ah (show 2<=1000 by decide) k⟩))))))
structure LgI(ps:Pg)(R:List Aa)(s:Sd)(nu:List Nat)(fr:Nat)(M:List Nat)(R0 R1:List Aa):Prop where
 okh:okHs ps s.1
 okn:dF (100-M.length) s.2
 hl:M.length<=40
 nk:okNu s nu fr
 lg:Lgs ps s nu fr M R1
 eq:R0++R1=R
theorem LgI.step{ps:Pg}{R:List Aa}{s:Sd}{nu:List Nat}{fr m:Nat}{M:List Nat}{R0 R1:List Aa}(okp:cz ps)(I:LgI ps R s nu fr (m::M) R0 R1):∃t R2,okBd ps s t nu fr m/\LgI ps R t (aI ps s nu fr m).2.1 (aI ps s nu fr m).2.2 M (R0++[(aI ps s nu fr m).1]) R2:=by
 obtain⟨okh,okn,hl,hn,lg,eq⟩:=I;rw[An]at okn hl;cases lg with
 |@cons _ t _ _ _ _ R2 hm af lg=>
  have B:okBd ps s t nu fr m:=⟨⟨okp,okh,A3 okn.1 (by omega),okn.2⟩,hn,hm,af⟩;obtain⟨k1,k2⟩:=wD okp okh okn hm af;exact⟨t,R2,B,k1,⟨A3 k2.1 (by omega),k2.2⟩,by omega,(GA B).1,lg,by rw[Bp];exact eq⟩
theorem LgI.lt{ps:Pg}{R:List Aa}{s:Sd}{nu:List Nat}{fr:Nat}{M:List Nat}{R0 R1:List Aa}(I:LgI ps R s nu fr M R0 R1)(h:R.length<=1000):R0.length < 1000000:=by
 have:=congrArg List.length I.eq;rw[Af]at this;omega
theorem vM{ps:Pg}{ns:List Nt}{L:List Nat}{R:List Aa}(h:mi ps ns L R):LgI ps R (eL ps,ns) (Ba ns.length) ns.length L [] R:=by
 obtain⟨okp,okh,okn,hl,hL⟩:=h;have:=okn.1;exact⟨okh,⟨by show ns.length<=_;omega,okn.2⟩,by omega,zZ (eL ps,ns),hL,rfl⟩
theorem xk{δ:Sl}{n:Int}{ds:List Aa}{fr:List (Option Nat)}{w e:DT}{g:eM}{c:c8}{Q:List Aa->Int->Prop}(hw:∀Q:DQ,Q (.d (.list ds)) n->w δ n Q)(k:c9 g c e Q ds [] (jD fr δ) n):cQ fr (fA w) g c e δ n Q:=by
 unfold cQ fA;exact hw _ k
def mV(ns:List Nt)(k:Nat):Bool:=((ns[k]?).map λq=>cV q.2).getD aj
def nG(nu:List Nat)(k:Nat):Aa:=.int ((nu[k]?).getD 0:Nat)
theorem Ic:∀(nu:List Nat)(ns:List Nt),nu.length=ns.length->((Ba nu.length).filter (mV ns)).map (nG nu)=aG (eQ nu ns)
 |[],[],_=>rfl
 |[],_::_,h=>nomatch h
 |_::_,[],h=>nomatch h
 |x::nu,q::ns,h=>by
  have ih:=Ic nu ns (Nat.succ.inj h);have e:((List.map Nat.succ (Ba nu.length)).filter (mV (q::ns))).map (nG (x::nu))=((Ba nu.length).filter (mV ns)).map (nG nu):=by
   rw[List.filter_map,Cw];rfl
  rw[An,List.range_succ_eq_map,Dn,uF];show(if cV q.2=ai then _ else _:List Nat).map (nG (x::nu))=_
  split
  ·rw[Bi,e,ih];rfl
  ·rw[e,ih]
theorem CK{n:Int}{Q:DQ}{i:Nat}{x:Aa}{xs:List Aa}(h:xs[i]?=ae x)(k:Q (.d x) n):aO (.d (.list xs)) (.d (.int (i:Nat))) n Q:=gX (by
 show(match cS xs ((i:Nat):Int)with|some d=>Q (.d d) n|none=>False);rw[fi h];exact k)
theorem Hm{nu:List Nat}{i:Nat}(h:i < nu.length):(aG nu)[i]?=ae (.int (nu[i]:Nat)):=by unfold aG;rw[A1,Ak h];rfl
theorem JF{δ:Sl}{n:Int}{Q:DQ}{i:Nat}{ds:List Aa}(e:δ[i]?=ae (ae (.w (.d (.list ds)))))(k:Q (.d (.int ds.length)) n):wB aX (aq (ak i) ao) δ n Q:=aT (au e k)
theorem NL{x y:Str}{n:Int}{Q:DQ}(h:x.length+y.length<=Ay)(k:Q (.d (.str (x++y))) n):fk (.d (.str x)) (.d (.str y)) n Q:=⟨h,k⟩
theorem Ny{Q:List Aa->Int->Prop}{y:Nat}{n:Int}(nu:List Nat)(q:Q (aG (nu.filter λx=>!decide (ae x=ae y))) n):
  c9 (aJ 0) (cT (w2 (ak 0) (ak 1) dZ)) (ak 0) Q (aG nu) [] [ah,ae (.w (.d (.int y)))] n:=
 jy (λi:Nat=>.int i) (λi:Nat=>.int i) (λx=>!decide (ae x=ae y)) nu [] ah n (λa _ n Q' q=>aE (k:=!decide (ae a=ae y)) (λQ q=>ar (au rfl (au rfl (show Q (.d (.bool (!decide ((a:Int)=(y:Int))))) n by
  rw[show decide ((a:Int)=(y:Int))=decide (ae a=ae y)from decide_eq_decide.mpr ⟨λe=>by rw[Int.ofNat.inj e],λe=>by rw[A8 e]⟩];exact q)))) q) (λa _ n Q' q=>au rfl q) (by rw[Bq];exact q)
theorem P6:∀ws n Q,lq ws n Q->ws.length=5:=λws n Q h=>by obtain⟨_,_,_,_,_,_,rfl,_⟩:=h;rfl
theorem JQ:∀ws n Q,lq ws n Q->yS (bE ["_law_programs","_law_stand","_law_numbers","_law_fresh","_law_mover","_law_gone","_law_number","_law_act_here","_law_note","_law_found"] ws) n {nx:=λ_ n=>Q (.d .none) n,rt:=Q}:=λws n Q h=>by
 obtain⟨ps,s,t,nu,fr,m,rfl,B,k⟩:=h;have hnl:nu.length<=100:=by rw[B.nu.len];exact B.st.2.2.1
 show yS [ae (.w (.d (aY ps))),ae (.w (.d (cI s))),ae (.w (.d (.list (aG nu)))),ae (.w (.d (.int fr))),ae (.w (.d (.int m))),ah,ah,ah,ah,ah] n _;refine aD (dh (aE (k:=decide ((m:Int)=(ps.length:Nat))) (λQ q=>ar (au rfl (aT (au rfl ?_)))) ?_))
 ·show Q (.d (.bool (decide ((m:Int)=((ps.map eI).length:Nat))))) n;rw[Ab];exact q
 by_cases em:m=ps.length
 ·subst em;rw[k9]at k;show if decide _=ai then _ else _
  rw[if_pos (decide_eq_true rfl)];refine aD (show aA 5 _ _ _ _ from bf ?_);unfold cQ dN;refine JF rfl (Ah ⟨by omega,by rw[nr];omega⟩ ?_);rw[Bv,nr,Sj];show c9 _ _ _ _ _ _ [ah,ae (.w (.d (.list (aG nu)))),ae (.w (.d (cI s)))] n;refine jy (λj:Nat=>.int j) (nG nu) (mV s.2) (Ba nu.length) [] ah n (λj hj n Q' q=>?_) (λj hj n Q' q=>?_) ?_
  ·have hj:=B8.mp hj;have hj':j < s.2.length:=by rw[<-B.nu.len];exact hj
   have hq:(s.2.map cR)[j]?=ae (.tuple [.tuple s.2[j].1,s.2[j].2]):=by rw[A1,Ak hj'];rfl
   have ep:mV s.2 j=cV s.2[j].2:=by unfold mV;rw[Ak hj'];rfl
   rw[ep]at q;exact aE (k:=cV s.2[j].2) (λQ q=>ar (ar (ar (i9 (b:=.tuple (s.1.map bP)) (c:=bN s.2) (r:=[]) rfl (au rfl (gX (bU hq (aC (gX (eh (aC (CC (B.st.2.2.2 _ (Ci hj')).2 q)))))))))))) q
  ·have hj:=B8.mp hj;refine ar (au rfl (au rfl (CK (Hm hj) ?_)));unfold nG at q;rw[Ak hj]at q;exact q
  ·rw[Bq,Ic nu s.2 B.nu.len];dsimp only[Al];refine bb (fZ (cX (aC (aT (au rfl (nR (Ah (show 2<=1000 by decide) (bf (xk (ds:=aG nu) (λQ q=>au rfl q) ?_)))))))));show c9 _ _ _ _ _ _ [ah,ae (.w (.d (.list (aG (eQ nu s.2)))))] n;refine jy (λi:Nat=>.int i) (λi:Nat=>.int i) (λx=>!decide (x∈eQ nu s.2)) nu [] ah n (λa _ n Q' q=>aE (k:=!decide (a∈eQ nu s.2)) (λQ q=>ar (au rfl (au rfl (Ah rfl (Ah (EB _) ?_))))) q) (λa _ n Q' q=>au rfl q) ?_
   ·rw[ui];exact q
   ·rw[Bq];exact au rfl (Ah (show 3<=1000 by decide) k)
 ·have hm:m < ps.length:=by have:=B.le;omega
  show if decide _=ai then _ else _
  rw[if_neg (by rw[decide_eq_false (by omega)];exact Ae)];dsimp only[aM];obtain⟨P,xb,xp,nm,w,as,a,H,ea,T⟩:=kO B.st.2.1 hm B.af;rw[lu hm ea]at k;refine aD (bC (x:=a.d) (λQ q=>ny (hs:=s.1) (ns:=s.2) rfl rfl rfl B.st.2.1 hm (by rw[ea];exact q)) ?_);dsimp only[Al];have go:∀(x:Str)(r:List Aa),bO "lay" (.str x)=aj->bZ (.str x) [.str "same",.str "go"]=ai->a.d=.tuple (.str x::r)->Q (.d (.tuple [.tuple [.str "goes",.int m],.list (aG nu),.int fr])) n->∀(V W:aP),
    (av (aL (cT (w2 (w2 (ak 7) (wC (.int (0))) aO) (wC (.str "lay")) aV)) W aM) (av (aL (cT (w2 (w2 (ak 7) (wC (.int (0))) aO) (aw (aq (wC (.str "same")) (aq (wC (.str "go")) ao))) (gD aj))) (az (aw (aq (aw (aq (wC (.str "goes")) (aq (ak 4) ao))) (aq (ak 2) (aq (ak 3) ao))))) aM) V))
     [ae (.w (.d (aY ps))),ae (.w (.d (cI s))),ae (.w (.d (.list (aG nu)))),ae (.w (.d (.int fr))),ae (.w (.d (.int m))),ah,ah,ae (.w (.d a.d)),ah,ah] n {nx:=λ_ n=>Q (.d .none) n,rt:=Q}:=λx r h1 h2 e q V W=>by
   rw[e];refine aD (gZ (s:=x) rfl h1 ?_);dsimp only[aM];refine aD (bF (λQ q=>aE (k:=ai) (λQ q=>ar (ar (au rfl (aC (gX (bV (cX (aC (aC (Ah (show 2<=1000 by decide) (Ah rfl (Ah rfl ?_)))))))))))) q) ?_)
   ·rw[if_neg Ae,h2];exact q
   ·exact bb (fZ (cX (aC (au rfl (Ah (show 2<=1000 by decide) (au rfl (au rfl (Ah (show 3<=1000 by decide) q))))))))
  have get:∀(x:Str)(r:List Aa)(nu':List Nat),bO "lay" (.str x)=aj->bZ (.str x) [.str "same",.str "go"]=aj->x.length<=100->(∀i,bc ps s.1 s.2 m=ae i->i < s.2.length)->a.pf.isSome=ai->a.d=.tuple (.str x::r)->
    (if bO "take" (.str x)=ai then(∃i,bc ps s.1 s.2 m=ae i)/\nu'=nu.filter (λy=>!decide (ae y=fI nu (bc ps s.1 s.2 m)))else nu'=nu)->Q (.d (.tuple [.tuple [.str (x++"s"),.int m,dg nu (bc ps s.1 s.2 m)],.list (aG nu'),.int fr])) n->∀(W:aP),
    (av (aL (cT (w2 (w2 (ak 7) (wC (.int (0))) aO) (wC (.str "lay")) aV)) W aM) (av (aL (cT (w2 (w2 (ak 7) (wC (.int (0))) aO) (aw (aq (wC (.str "same")) (aq (wC (.str "go")) ao))) (gD aj))) (az (aw (aq (aw (aq (wC (.str "goes")) (aq (ak 4) ao))) (aq (ak 2) (aq (ak 3) ao))))) aM) (av (aA 9 (aF lX (aq (ak 0) (aq (ak 1) (aq (ak 4) ao))))) (av (aA 6 (eO (cT (w2 (ak 9) (wC .none) (dP aj))) (wC .none) (w2 (ak 2) (w2 (ak 9) (wC (.int (0))) aO) aO))) (av (aL (cT (w2 (w2 (ak 7) (wC (.int (0))) aO) (wC (.str "take")) aV)) (aA 2 (aW (cQ [ah,ae 6] (fA (ak 2)) (aJ 0) (cT (w2 (ak 0) (ak 1) dZ)) (ak 0)))) aM) (az (aw (aq (aw (aq (w2 (w2 (ak 7) (wC (.int (0))) aO) (wC (.str "s")) fk) (aq (ak 4) (aq (ak 6) ao)))) (aq (ak 2) (aq (ak 3) ao))))))))))
     [ae (.w (.d (aY ps))),ae (.w (.d (cI s))),ae (.w (.d (.list (aG nu)))),ae (.w (.d (.int fr))),ae (.w (.d (.int m))),ah,ah,ae (.w (.d a.d)),ah,ah] n {nx:=λ_ n=>Q (.d .none) n,rt:=Q}:=λx r nu' h1 h2 hx lt hp e hn q W=>by
   rw[e];refine aD (gZ (s:=x) rfl h1 ?_);dsimp only[aM];refine aD (a8 (λQ q=>aE (k:=aj) (λQ q=>ar (ar (au rfl (aC (gX (bV (cX (aC (aC (Ah (show 2<=1000 by decide) (Ah rfl (Ah rfl ?_)))))))))))) q) ?_)
   ·rw[if_neg Ae,h2];exact q
   dsimp only[aM];refine aD (oJ (o:=du ps s.1 s.2 m) (λQ q=>bW (au rfl (au rfl (au rfl ⟨ps,s.1,s.2,m,rfl,B.st,hm,q⟩)))) ?_);dsimp only[Al];have fin:∀(x9:Option SV),Q (.d (.tuple [.tuple [.str (x++"s"),.int m,dg nu (bc ps s.1 s.2 m)],.list (aG nu'),.int fr])) n->az (aw (aq (aw (aq (w2 (w2 (ak 7) (wC (.int (0))) aO) (wC (.str "s")) fk) (aq (ak 4) (aq (ak 6) ao)))) (aq (ak 2) (aq (ak 3) ao))))
     [ae (.w (.d (aY ps))),ae (.w (.d (cI s))),ae (.w (.d (.list (aG nu')))),ae (.w (.d (.int fr))),ae (.w (.d (.int m))),ah,ae (.w (.d (dg nu (bc ps s.1 s.2 m)))),ae (.w (.d (.tuple (.str x::r)))),ah,x9] n {nx:=λ_ n=>Q (.d .none) n,rt:=Q}:=λx9 q=>by
    refine bb (fZ (fZ (ar (ar (au rfl (aC (gX (bV (aC (NL ?_ ?_))))))))))
    ·exact A3 (show x.length+1<=1000 by omega) (fS (Ao 1000))
    ·exact au rfl (au rfl (Ah (show 3<=1000 by decide) (au rfl (au rfl (Ah (show 3<=1000 by decide) q)))))
   have eo:bc ps s.1 s.2 m=(du ps s.1 s.2 m).map (·.1):=by
    unfold bc du;rw[ea];show(a.pf.bind _)=((a.pf.bind _).map _);obtain⟨fs,hfs⟩:=Dc.mp hp;rw[hfs];show bh _ _ _=((bh _ _ _).map _).map _;rw[Option.map_map];cases bh fs (iu s.1 m) s.2<;>rfl
   have tl:av (aL (cT (w2 (w2 (ak 7) (wC (.int (0))) aO) (wC (.str "take")) aV)) (aA 2 (aW (cQ [ah,ae 6] (fA (ak 2)) (aJ 0) (cT (w2 (ak 0) (ak 1) dZ)) (ak 0)))) aM) (az (aw (aq (aw (aq (w2 (w2 (ak 7) (wC (.int (0))) aO) (wC (.str "s")) fk) (aq (ak 4) (aq (ak 6) ao)))) (aq (ak 2) (aq (ak 3) ao)))))
     [ae (.w (.d (aY ps))),ae (.w (.d (cI s))),ae (.w (.d (.list (aG nu)))),ae (.w (.d (.int fr))),ae (.w (.d (.int m))),ah,ae (.w (.d (dg nu (bc ps s.1 s.2 m)))),ae (.w (.d (.tuple (.str x::r)))),ah,ae (.w (gj (du ps s.1 s.2 m)))] n {nx:=λ_ n=>Q (.d .none) n,rt:=Q}:=by
    refine aD (rJ (s:=x) rfl (jd (λz=>?_) λz=>?_))
    ·rw[if_pos z]at hn;obtain⟨⟨i,ei⟩,hn⟩:=hn;have hi:i < nu.length:=by rw[B.nu.len];exact lt i ei
     have ed:dg nu (bc ps s.1 s.2 m)=.int (nu[i]:Nat):=by rw[ei];exact rO hi
     have en:fI nu (bc ps s.1 s.2 m)=ae nu[i]:=by rw[ei];exact qt hi
     refine bC (x:=.list (aG nu')) (λQ q=>bf (xk (ds:=aG nu) (λQ q=>au rfl q) ?_)) ?_
     ·rw[hn,en]at q;rw[ed];show c9 _ _ _ _ _ _ [ah,ae (.w (.d (.int (nu[i]:Nat))))] n;exact Ny nu q
     ·dsimp only[Al];exact fin _ q
    ·rw[if_neg (by rw[z];exact Ae)]at hn;subst hn;dsimp only[aM];exact fin _ q
   refine aD (bC (x:=dg nu (bc ps s.1 s.2 m)) (λQ q=>?_) tl);cases eg:du ps s.1 s.2 m with
   |none=>
    rw[eo,eg]at q;exact fL (b:=ai) (λQ q=>aE (k:=ai) (λQ q=>ar (au rfl (aC (iR q)))) q) (by rw[if_pos rfl];exact aC q)
   |some p=>
    rw[eo,eg]at q;have hi:p.1 < nu.length:=by rw[B.nu.len];exact lt p.1 (by rw[eo,eg];rfl)
    have q:Q (.d (dg nu (ae p.1))) n:=q;rw[rO hi]at q;exact fL (b:=aj) (λQ q=>aE (k:=aj) (λQ q=>ar (au rfl (aC (sL q)))) q) (by rw[if_neg Ae];exact ar (au rfl (vh (d:=.int p.1) rfl (CK (Hm hi) q))))
  cases a with
  |lay fs age=>
   obtain⟨hl4,hfv⟩:=H.lay B.st.1 ea;have k:Q (.d (.tuple [.tuple [.str "lays",.int m,.int fr,cR (cw fs (iu s.1 m),age)],.list (aG (nu++[fr])),.int ((fr+1:Nat):Int)])) n:=k;rw[H.nmq,vS]at k;refine aD (tU (s:="lay") rfl (by decide +kernel) (aD ?_));refine bC (x:=cR (cw fs nm,age)) (λQ q=>?_) ?_
   ·refine cX (bJ (i9 rfl ?_));have hd:∀Q:DQ,Q (.dk (bx nm)) n->kA (w2 (w2 (w2 (ak 1) (wC (.int (0))) aO) (ak 4) aO) (wC (.int (2))) aO) [ae (.w (.d (aY ps))),ae (.w (.d (cI s))),ae (.w (.d (.list (aG nu)))),ae (.w (.d (.int fr))),ae (.w (.d (.int m))),ah,ah,ae (.w (.d (Ac.lay fs age).d)),ah,ah] n Q:=λQ q=>by
     unfold kA ka iS;refine ar (ar (ar (au rfl (aC (gX (bV (a:=.tuple (s.1.map bP)) (au rfl (gX (bU H.hD (aC (gX (dG ?_))))))))))));unfold cG;simp only[si];refine⟨by rw[Ab];have:=H.nms.1;omega,?_⟩;have:=qT nm [] (by rw[Bq];exact H.nms.2.1);rw[Bq]at this;rw[show([]:List (aN×Aa))=bx []from rfl,this];exact q
    exact hd _ ⟨fs,nm,rfl,hl4,hfv,j8 rfl (Ah (show 2<=1000 by decide) q)⟩
   ·dsimp only[Al];refine bb (fZ (ve (aC (au rfl (au rfl (au rfl (Ah (show 4<=1000 by decide) ?_)))))));refine ar (au rfl (bf (v8 (au rfl (Ah (show 1<=1000 by decide) (Ah ?_ ?_))))))
    ·show(aG nu).length+1<=Ay;exact A3 (by rw[nr];omega) (fS (Ao 1000))
    ·exact ar (au rfl (aC (dH (Ah (show 3<=1000 by decide) k))))
  |take gs=>obtain⟨i,eg,hi,_⟩:=T;exact get "take" _ _ (by decide +kernel) (by decide +kernel) (by decide +kernel) (λj h=>by rw[eg]at h;cases h;exact hi) rfl rfl (by rw[if_pos (by decide +kernel)];exact⟨⟨i,eg⟩,rfl⟩) k _
  |read gs=>obtain⟨_,i,eg,hi⟩:=T;exact get "read" _ nu (by decide +kernel) (by decide +kernel) (by decide +kernel) (λj h=>by rw[eg]at h;cases h;exact hi) rfl rfl (by rw[if_neg (by decide +kernel)]) k _
  |look gs b=>exact get "look" _ nu (by decide +kernel) (by decide +kernel) (by decide +kernel) T.2 rfl rfl (by rw[if_neg (by decide +kernel)]) k _
  |same f g b=>exact go "same" _ (by decide +kernel) (by decide +kernel) rfl k _ _
  |go b=>exact go "go" _ (by decide +kernel) (by decide +kernel) rfl k _ _
theorem oP{δ:Sl}{n:Int}{Q:DQ}{w w' w'' v u:DT}{S:bu}(k:w δ n λx n1=>w' δ n1 λy n2=>w'' δ n2 λz n3=>v δ n3 λa n4=>u δ n4 λb n5=>S [x,y,z,a,b] n5 Q):aF S (aq w (aq w' (aq w'' (aq v (aq u ao))))) δ n Q:=k
theorem QL:∀ws n Q,pQ ws n Q->ws.length=2:=λws n Q h=>by obtain⟨_,_,_,_,rfl,_⟩:=h;rfl
theorem Jl:∀ws n Q,pQ ws n Q->BB (bE ["_law_plan_here","_law_movers_here","_law_programs","_law_notes_here","_law_stand","_law_numbers","_law_fresh","_law_rows","_law_mover","_law_row_here"] ws) n {nx:=λ_ n=>Q (.d .none) n,rt:=Q}:=λws n Q h=>by
 obtain⟨ps,ns,L,R,rfl,ok,k⟩:=h;have hR:R.length<=1000:=by rw[Hi ok.2.2.2.2];have:=ok.2.2.2.1;omega
 have okp:=ok.1;have hns:=ok.2.2.1.1;show BB [ae (.w (.d (.tuple [aY ps,bN ns]))),ae (.w (.d (.list (aG L)))),ah,ah,ah,ah,ah,ah,ah,ah] n _;refine aD (show b8 _ _ _ _ _ from au rfl ⟨rfl,?_⟩);dsimp only[bj,cn,aJ,Al];refine aD (bC (x:=cI (eL ps,ns)) (λQ q=>cu (au rfl ⟨ps,ns,rfl,okp.1,q⟩)) ?_);dsimp only[Al];have hlen:∀(δ:Sl)(Q:DQ),δ[3]?=ae (ae (.w (.d (bN ns))))->Q (.d (.int ns.length)) n->wB aX (aq (ak 3) ao) δ n Q:=λδ Q e q=>aT (au e (show Q (.d (.int ((ns.map cR).length:Nat))) n by rw[Ab];exact q));refine aD (bC (x:=.list (aG (Ba ns.length))) (λQ q=>bf (show qd _ _ _ _ from hlen _ _ rfl ⟨ns.length,rfl,by omega,q⟩)) ?_);dsimp only[Al];refine aD (bC (x:=.int ns.length) (λQ q=>hlen _ _ rfl q) ?_);dsimp only[Al];refine aD (jl ?_);dsimp only[Al];refine aD ?_;unfold bo fA;refine au rfl ?_;refine fW (λds δ m=>m=n/\∃(M:List Nat)(s:Sd)(nu:List Nat)(fr:Nat)(R0 R1:List Aa)(x8 x9:Option SV),ds=aG M/\δ=[ae (.w (.d (.tuple [aY ps,bN ns]))),ae (.w (.d (.list (aG L)))),ae (.w (.d (aY ps))),ae (.w (.d (bN ns))),ae (.w (.d (cI s))),ae (.w (.d (.list (aG nu)))),ae (.w (.d (.int fr))),ae (.own R0),x8,x9]/\LgI ps R s nu fr M R0 R1) (λδ m I=>?_) (λd r δ m N I kN=>?_) _ _ _ ⟨rfl,L,_,_,_,[],R,ah,ah,rfl,rfl,vM ok⟩
 ·obtain⟨rfl,M,s,nu,fr,R0,R1,x8,x9,ed,rfl,I⟩:=I;cases M with
  |nil=>
   cases I.lg;have e:=I.eq;rw[Bt]at e;dsimp only;refine gK rfl ?_;dsimp only[Al];rw[e];exact bb (au rfl k)
  |cons a M=>cases ed
 ·obtain⟨rfl,M,s,nu,fr,R0,R1,x8,x9,ed,rfl,I⟩:=I;cases M with
  |nil=>cases ed
  |cons a M=>
   obtain⟨rfl,rfl⟩:=B1 ed;obtain⟨t,R2,B,J⟩:=I.step okp;dsimp only[aJ,Al];refine aD (show b8 _ _ _ _ _ from oP (au rfl (au rfl (au rfl (au rfl (au rfl ⟨ps,s,t,nu,fr,a,rfl,B,⟨rfl,?_⟩⟩))))));dsimp only[bj,cn,aJ,Al];refine aD (kZ rfl (λQ q=>au rfl q) (I.lt hR) ?_);dsimp only[Al];refine bC (x:=cI t) (λQ q=>bW (au rfl (au rfl (au rfl ⟨ps,s.1,s.2,a,t,rfl,B.st,B.le,B.af,q⟩)))) ?_;dsimp only[Al];exact kN _ _ ⟨rfl,M,t,_,_,_,R2,_,_,rfl,rfl,J⟩
theorem bG{C:c8}{W V:aP}{δ:Sl}{n:Int}{K:DEnds}(hc:∀Q:Bool->Int->Prop,Q aj n->C δ n Q)(k:V δ n K):av (aL C W aM) V δ n K:=aD (a8 hc k)
theorem cg{C:c8}{w:DT}{U V:aP}{δ:Sl}{n:Int}{K:DEnds}(hc:∀Q:Bool->Int->Prop,Q ai n->C δ n Q)(k:w δ n K.rt):av (aL C (az w) U) V δ n K:=aD (bF hc (bb k))
theorem Ll:∀ws n Q,lI ws n Q->ws.length=1:=λws n Q h=>by obtain⟨_,rfl,_⟩:=h;rfl
theorem QA:∀ws n Q,lI ws n Q->Ie (bE ["thing"] ws) n {nx:=λ_ n=>Q (.d .none) n,rt:=Q}:=λws n Q h=>by
 obtain⟨d,rfl,sd,k⟩:=h;show Ie [ae (.w (.d d))] n _;have isn:∀b,gC d=b->∀Q:Bool->Int->Prop,Q b n->cT (w2 (ak 0) (wC .none) (cL aj)) [ae (.w (.d d))] n Q:=λb e Q q=>aE (k:=b) (λQ q=>ar (au rfl (aC (show Q (.d (.bool (gC d))) n by rw[e];exact q)))) q;have isi:∀(T:String) b,cE T d=b->∀Q:Bool->Int->Prop,Q b n->cT (bw T (ak 0)) [ae (.w (.d d))] n Q:=λT b e Q q=>aE (k:=b) (λQ q=>au rfl (show Q (.d (.bool (cE T d))) n by rw[e];exact q)) q;cases d with
 |none=>exact cg (isn ai rfl) (aC k)
 |bool b=>exact bG (isn aj rfl) (cg (isi "bool" ai rfl) (aC k))
 |int i=>exact bG (isn aj rfl) (bG (isi "bool" aj rfl) (cg (isi "int" ai rfl) (aC k)))
 |str x=>exact bG (isn aj rfl) (bG (isi "bool" aj rfl) (bG (isi "int" aj rfl) (cg (isi "str" ai rfl) (aC k))))
 |tuple xs=>exact bG (isn aj rfl) (bG (isi "bool" aj rfl) (bG (isi "int" aj rfl) (bG (isi "str" aj rfl) (bb (fL (b:=ai) (isi "tuple" ai rfl) (by rw[if_pos rfl];exact aC k))))))
 |list xs=>exact bG (isn aj rfl) (bG (isi "bool" aj rfl) (bG (isi "int" aj rfl) (bG (isi "str" aj rfl) (bb (fL (b:=aj) (isi "tuple" aj rfl) (by rw[if_neg Ae];exact aC k))))))
 |dict _=>rw[bA]at sd;cases sd
theorem zo{x y:Str}{n:Int}{Q:DQ}(k:Q (.d (.bool (!decide (x=y)))) n):dZ (.d (.str x)) (.d (.str y)) n Q:=k
theorem MD{x y:Aa}(hk:iF x=iF y)(nx:fM x=ai)(sx:bA x=ai)(sy:bA y=ai)(tx:lB x=aj):B5 x y=fN x y:=by
 cases x with
 |none=>
  cases y with
  |none=>rw[jK rfl];simp[B5]
  |dict _=>rw[bA]at sy;cases sy
  |_=>simp only[iF]at hk;exact absurd hk (by decide +kernel)
 |bool b=>
  cases y with
  |bool c=>
   by_cases e:b=c
   ·subst e;rw[jK rfl];simp[B5]
   ·rw[jq λz=>e (PyData.bool.inj z)];simp[B5,e]
  |dict _=>rw[bA]at sy;cases sy
  |_=>simp only[iF]at hk;exact absurd hk (by decide +kernel)
 |int i=>
  cases y with
  |int j=>
   by_cases e:i=j
   ·subst e;rw[jK rfl];simp[B5]
   ·rw[jq λz=>e (PyData.int.inj z)];simp[B5,e]
  |dict _=>rw[bA]at sy;cases sy
  |_=>simp only[iF]at hk;exact absurd hk (by decide +kernel)
 |str i=>
  cases y with
  |str j=>
   by_cases e:i=j
   ·subst e;rw[jK rfl];simp[B5]
   ·rw[jq λz=>e (PyData.str.inj z)];simp[B5,e]
  |dict _=>rw[bA]at sy;cases sy
  |_=>simp only[iF]at hk;exact absurd hk (by decide +kernel)
 |tuple xs=>cases tx
 |list xs=>cases tx
 |dict _=>rw[bA]at sx;cases sx
theorem JV{x:Aa}(sx:bA x=ai)(tx:lB x=aj):Bn x<=20:=by
 cases x with
 |tuple xs=>cases tx
 |list xs=>cases tx
 |dict _=>rw[bA]at sx;cases sx
 |_=>rw[Bn];exact Bk _
theorem G0:∀{xs:List Aa},l4 xs=ai->∀x∈xs,fM x=ai
 |[],_,x,hx=>nomatch hx
 |y::xs,h,x,hx=>by
  rw[l4,A2]at h;rcases Ap.mp hx with rfl|hx
  ·exact h.1
  ·exact G0 h.2 x hx
theorem mB:∀{xs:List Aa},Eg xs=ai->∀x∈xs,Bu x=ai
 |[],_,x,hx=>nomatch hx
 |y::xs,h,x,hx=>by
  rw[Eg,A2]at h;rcases Ap.mp hx with rfl|hx
  ·exact h.1
  ·exact mB h.2 x hx
def nN(xs ys:List Aa):List Bool:=List.zipWith fN xs ys
theorem yy:∀{xs ys:List Aa},xs.length=ys.length->(nN xs ys).all id=fN (.tuple xs) (.tuple ys)
 |[],[],_=>by rw[jK rfl];rfl
 |x::xs,y::ys,h=>by
  have ih:=yy (xs:=xs) (ys:=ys) (Nat.succ.inj h);show(fN x y&&(nN xs ys).all id)=_;rw[ih];by_cases e:x=y
  ·rw[jK e,E8];by_cases e2:xs=ys
   ·rw[jK (by rw[e2]),jK (by rw[e,e2])]
   ·rw[jq λz=>e2 (Dx z),jq λz=>e2 (B1 (Dx z)).2]
  ·rw[jq e,Fo,jq λz=>e (B1 (Dx z)).1]
theorem Gu{d:Nat}{Q:List Aa->Int->Prop}:∀(xs ys:List Aa)(acc:List Aa)(u v:Option SV)(n:Int),xs.length=ys.length->
  (∀x∈xs,fM x=ai/\bA x=ai/\Bn x<=d/\Bu x=ai)->(∀y∈ys,bA y=ai/\Bn y<=20/\Bu y=ai)->Q (acc++(nN xs ys).map .bool) n->
  c9 (di 2 (bj (aJ 0) (bj (aJ 1) cn))) cO (aF (ku (d+1)) (aq (ak 0) (aq (ak 1) ao))) Q (dr xs ys) acc [u,v] n
 |[],[],acc,u,v,n,_,_,_,q=>by
  rw[show(nN [] []).map PyData.bool=[]from rfl,Bt]at q;exact q
 |x::xs,y::ys,acc,u,v,n,hl,hx,hy,q=>by
  refine(show di 2 _ (.tuple [x,y]) [u,v] _ from⟨rfl,?_⟩);dsimp only[bj,cn,aJ,Al,cO];rw[if_pos rfl];obtain⟨a1,a2,a3,a4⟩:=hx x As;obtain⟨b1,b2,b3⟩:=hy y As;refine bJ (au rfl (au rfl ⟨x,y,rfl,a1,a2,b1,a3,a4,b3,b2,?_⟩));refine Gu xs ys _ _ _ n (Nat.succ.inj hl) (λz hz=>hx z (Am _ hz)) (λz hz=>hy z (Am _ hz)) ?_;rw[Bp];exact q
theorem Li:∀d ws n Q,ku d ws n Q->ws.length=2:=λd ws n Q h=>by
 cases d with
 |zero=>exact h.elim
 |succ d=>obtain⟨_,_,rfl,_⟩:=h;rfl
theorem P5:∀d ws n Q,ku (d+1) ws n Q->zq (ku d) (bE ["one","other"] ws) n {nx:=λ_ n=>Q (.d .none) n,rt:=Q}:=λd ws n Q h=>by
 obtain⟨x,y,rfl,nx,sx,sy,dx,lx,ly,dy,k⟩:=h;show zq (ku d) [ae (.w (.d x)),ae (.w (.d y))] n _;have kn:∀b,(!decide (iF x=iF y))=b->∀Q:Bool->Int->Prop,Q b n->cT (w2 (aF lI (aq (ak 0) ao)) (aF lI (aq (ak 1) ao)) dZ) [ae (.w (.d x)),ae (.w (.d y))] n Q:=λb e Q q=>
  aE (k:=b) (λQ q=>ar (cu (au rfl ⟨x,rfl,sx,cu (au rfl ⟨y,rfl,sy,zo (by rw[e];exact q)⟩)⟩))) q
 have tl:∀b,lB x=b->∀Q:Bool->Int->Prop,Q (!b) n->bB (cT (t8 (ak 0))) [ae (.w (.d x)),ae (.w (.d y))] n Q:=λb e Q q=>
  gQ (k:=b) (λQ q=>aE (k:=b) (λQ q=>au rfl (show Q (.d (.bool (lB x))) n by rw[e];exact q)) q) q
 by_cases hk:iF x=iF y
 ·refine bG (kn aj (by rw[decide_eq_true hk];rfl)) ?_;cases ht:lB x with
  |false=>exact cg (tl aj ht) (ar (au rfl (au rfl ⟨lx,ly,JV sx ht,dy,_,rfl,by rw[MD hk nx sx sy ht];exact k⟩)))
  |true=>
   refine bG (tl ai ht) ?_;cases x with
   |tuple xs=>
    cases y with
    |tuple ys=>
     rw[bA]at sx sy;rw[fM]at nx;rw[Bn]at dx dy;rw[Bu]at lx ly;cases d with
     |zero=>omega
     |succ d=>
      have ln:∀b,(!decide ((xs.length:Int)=ys.length))=b->∀Q:Bool->Int->Prop,Q b n->cT (w2 (wB aX (aq (ak 0) ao)) (wB aX (aq (ak 1) ao)) dZ) [ae (.w (.d (.tuple xs))),ae (.w (.d (.tuple ys)))] n Q:=λb e Q q=>
       aE (k:=b) (λQ q=>ar (aT (au rfl (aT (au rfl (show Q (.d (.bool (!decide ((xs.length:Int)=ys.length)))) n by rw[e];exact q)))))) q
      by_cases hl:xs.length=ys.length
      ·refine bG (ln aj (by rw[decide_eq_true (by omega)];rfl)) (bb (aT (bf ?_)));unfold cQ j0;refine au rfl (au rfl ⟨hl,?_⟩);refine Gu xs ys [] ah ah n hl (λz hz=>⟨G0 nx z hz,qP sx z hz,mC (by omega) z hz,mB lx z hz⟩) (λz hz=>⟨qP sy z hz,A3 (mC (Ao _) z hz) (by omega),mB ly z hz⟩) ?_;rw[Bq];show(match kI ((nN xs ys).map λb=>.bool (id b))with|some bs=>Q (.d (.bool (bs.all id))) n|none=>False);rw[zR id];show Q (.d (.bool (((nN xs ys).map id).all id))) n;rw[List.map_id,yy hl];exact k
      ·refine cg (ln ai (by rw[decide_eq_false (by omega)];rfl)) (aC ?_);rw[jq λz=>hl (congrArg List.length (Dx z))]at k;exact k
    |dict _=>rw[bA]at sy;cases sy
    |_=>simp only[iF]at hk;exact absurd hk (by decide +kernel)
   |list xs=>rw[fM]at nx;cases nx
   |_=>cases ht
 ·refine cg (kn ai (by rw[decide_eq_false hk];rfl)) (aC ?_);rw[jq λz=>hk (by rw[z])]at k;exact k
theorem zN{a:Aa}(sa:bA a=ai):B5 a (.str "clock")=fO a:=by
 cases a with
 |str x=>
  show B5 (.str x) (.str "clock")=decide (x="clock");by_cases e:x="clock"
  ·subst e;rw[decide_eq_true rfl];simp[B5]
  ·rw[decide_eq_false e];simp[B5,e]
 |dict _=>rw[bA]at sa;cases sa
 |_=>simp[B5,fO]
theorem okY.part{xs:List Aa}(h:okY (.tuple xs)):∀x∈xs,bA x=ai/\Bu x=ai/\Bn x<=20:=λx hx=>by
 obtain⟨h1,h2,h3,_⟩:=h;rw[bA]at h1;rw[Bu]at h2;rw[Bn]at h3;exact⟨qP h1 x hx,mB h2 x hx,A3 (mC (Ao _) x hx) (by omega)⟩
theorem CW{a:Aa}(sa:bA a=ai)(la:Bu a=ai)(da:Bn a<=20){n:Int}{Q:DQ}(k:Q (.d (.bool (fO a))) n):iA (λd e=>ae (B5 d e)) (.d a) (.d (.str "clock")) n Q:=
 ⟨la,by decide +kernel,da,by decide +kernel,_,rfl,by rw[zN sa];exact k⟩
theorem Tu{a:Aa}(sa:bA a=ai)(la:Bu a=ai)(da:Bn a<=20){n:Int}{Q:DQ}(k:Q (.d (.bool (!fO a))) n):iA (λd e=>ae (!B5 d e)) (.d a) (.d (.str "clock")) n Q:=
 ⟨la,by decide +kernel,da,by decide +kernel,_,rfl,by rw[zN sa];exact k⟩
theorem FO{a b:Int}{n:Int}{Q:DQ}(k:Q (.d (.bool (decide (a < b)))) n):fY (.d (.int a)) (.d (.int b)) n Q:=k
theorem vP{xs:List Aa}{n:Int}{Q:DQ}(k:Q (.d (.int xs.length)) n):aX [.d (.tuple xs)] n Q:=k
theorem OZ:∀ws n Q,sR ws n Q->ws.length=2:=λws n Q h=>by obtain⟨_,_,rfl,_⟩:=h;rfl
theorem IJ:∀ws n Q,sR ws n Q->zc (bE ["programs","row"] ws) n {nx:=λ_ n=>Q (.d .none) n,rt:=Q}:=λws n Q h=>by
 obtain⟨ps,d,rfl,hd,k⟩:=h;show zc [ae (.w (.d (aY ps))),ae (.w (.d d))] n _;have isi:∀b,cE "tuple" d=b->∀Q:Bool->Int->Prop,Q (!b) n->bB (cT (bw "tuple" (ak 1))) [ae (.w (.d (aY ps))),ae (.w (.d d))] n Q:=λb e Q q=>gQ (k:=b) (λQ q=>aE (k:=b) (λQ q=>au rfl (show Q (.d (.bool (cE "tuple" d))) n by rw[e];exact q)) q) q;cases d with
 |tuple xs=>
  have hp:=hd.part;have ln:∀b,decide ((xs.length:Int) < 2)=b->∀Q:Bool->Int->Prop,Q b n->cT (w2 (wB aX (aq (ak 1) ao)) (wC (.int (2))) fY) [ae (.w (.d (aY ps))),ae (.w (.d (.tuple xs)))] n Q:=λb e Q q=>
   aE (k:=b) (λQ q=>ar (aT (au rfl (vP (aC (FO (by rw[e];exact q))))))) q
  match xs,hp,ln,k with
  |[],hp,ln,k=>exact cg (λQ q=>fw (isi ai rfl) (ln ai rfl Q q)) (aC k)
  |[_],hp,ln,k=>exact cg (λQ q=>fw (isi ai rfl) (ln ai rfl Q q)) (aC k)
  |a::b::r,hp,ln,k=>
   refine bG (λQ q=>fw (isi ai rfl) (ln aj (decide_eq_false (by rw[An,An];omega)) Q q)) ?_;obtain⟨sa,la,da⟩:=hp a As;refine bb (fL (b:=fO a) (λQ q=>aE (k:=fO a) (λQ q=>ar (ar (au rfl (aC (bV (aC (CW sa la da q))))))) q) ?_);have k:Q (.d (if fO a=ai then .int ps.length else b)) n:=k;cases e:fO a with
   |true=>
    rw[e,if_pos rfl]at k;rw[if_pos rfl];exact aT (au rfl (show Q (.d (.int ((ps.map eI).length:Nat))) n by rw[Ab];exact k))
   |false=>
    rw[e,if_neg Ae]at k;rw[if_neg Ae];exact ar (au rfl (aC (eh k)))
 |dict kvs=>
  have:=hd.1;rw[bA]at this;cases this
 |_=>exact cg (λQ q=>i7 (isi aj rfl) q) (aC k)
theorem Qs{ps:Pg}{s t:Sd}{nu:List Nat}{fr m:Nat}(B:okBd ps s t nu fr m)(hf:fr<=80)(hnu:nu.length<=60):jk (aI ps s nu fr m).1:=by
 obtain⟨st,⟨nd,len,lt⟩,le,af⟩:=B;have h5:=st.1.1;have nm:∀g:Option Nat,∀i,fI nu g=ae i->i<=90:=λg i e=>by
  cases g with
  |none=>cases e
  |some j=>have:=lt i (A5 e);omega
 by_cases em:m=ps.length
 ·subst em;rw[k9];refine .inr (.inr (.inr ⟨eQ nu s.2,rfl,?_,λi hi=>by have:=lt i (HU hi);omega⟩));have h1:(eQ nu s.2).length<=nu.length:=by
   unfold eQ;rw[Ab];exact A3 (Fw _ _) (by rw[List.length_zip];omega)
  omega
 ·have hm:m < ps.length:=by omega
  obtain⟨P,xb,xp,nm',w,as,a,H,ea,T⟩:=kO st.2.1 hm af;rw[lu hm ea];cases a with
  |lay fs age=>
   obtain⟨hl4,hfv⟩:=H.lay st.1 ea;have oa:=H.ok st.1 ea;refine .inl ⟨m,fr,(cw fs (iu s.1 m),age),rfl,by omega,by omega,?_⟩;rw[H.nmq];exact⟨⟨⟨by show(cw fs nm').length<=4;unfold cw;rw[Ab];exact hl4,by show 1<=(cw fs nm').length;unfold cw;rw[Ab];exact oa.2.2.2⟩,λd hd=>by
    obtain⟨f,hf,rfl⟩:=Bg.mp hd;exact iB (hfv f hf)⟩,oa.2.2.1⟩
  |take gs=>exact .inr (.inl ⟨"takes",m,_,rfl,.inl rfl,by omega,nm _⟩)
  |read gs=>exact .inr (.inl ⟨"reads",m,_,rfl,.inr (.inl rfl),by omega,nm _⟩)
  |look gs b=>exact .inr (.inl ⟨"looks",m,_,rfl,.inr (.inr rfl),by omega,nm _⟩)
  |go b=>exact .inr (.inr (.inl ⟨m,rfl,by omega⟩))
  |same f g b=>exact .inr (.inr (.inl ⟨m,rfl,by omega⟩))
theorem JR{i:Nat}(h:i<=90):bA (.int i)=ai:=by
 rw[bA,A2];exact⟨decide_eq_true (by omega),decide_eq_true (by omega)⟩
theorem zT{d:Aa}(h:cD d=ai):bA d=ai:=by
 cases d with
 |str x=>
  have h:(decide (x.length<=8)&&(D8 x&&decide (x="a"\/x="ab"\/x="go")))=ai:=h;rw[A2,A2]at h;rw[bA];rcases of_decide_eq_true h.2.2 with rfl|rfl|rfl<;>decide +kernel
 |int i=>
  simp only[cD,A2,decide_eq_true_eq]at h;rw[bA,A2];exact⟨decide_eq_true (by omega),decide_eq_true (by omega)⟩
 |_=>cases h
theorem xX{d:Aa}(h:f9 d):bA d=ai:=by
 rcases h with rfl|⟨i,rfl,h0,h1⟩
 ·rw[bA]
 ·rw[bA,A2];exact⟨decide_eq_true (by omega),decide_eq_true (by omega)⟩
theorem kL{xs:List Aa}(h:∀x∈xs,bA x=ai):bA (.tuple xs)=ai:=by rw[bA];exact vQ h
theorem tP{xs:List Aa}(h:∀x∈xs,bA x=ai):bA (.list xs)=ai:=by rw[bA];exact vQ h
theorem yc:∀{xs:List Aa},(∀x∈xs,fM x=ai)->l4 xs=ai
 |[],_=>by rw[l4]
 |y::xs,h=>by rw[l4,h y As,yc λx hx=>h x (Am _ hx)];rfl
theorem PL{d:Aa}(h:cD d=ai):fM d=ai:=by
 cases d with
 |str x=>simp[fM]
 |int i=>simp[fM]
 |_=>cases h
structure Pn(d:Aa):Prop where
 sf:bA d=ai
 nl:fM d=ai
 sm:Sm 2 2000 d
theorem kX{i:Nat}(h:i<=90):Pn (.int i):=⟨JR h,by simp[fM],(FR (by omega)).up (by decide) (by decide)⟩
theorem HV:Pn .none:=⟨by rw[bA],by simp[fM],sm_none.up (by decide) (by decide)⟩
theorem m7{x:Str}(h:iC x=ai)(h2:(decide (x.length<=8)&&D8 x)=ai):Pn (.str x):=⟨by rw[bA];exact h,by simp[fM],(Hz h2).up (by decide) (by decide)⟩
theorem Qn{d:Aa}(h:f9 d):Pn d:=by
 rcases h with rfl|⟨i,rfl,h0,h1⟩
 ·exact HV
 ·obtain⟨j,rfl⟩:=Gj (show 0<=i by omega);exact kX (by omega)
theorem kr{xs:List Aa}(h:∀x∈xs,fM x=ai):fM (.tuple xs)=ai:=by rw[fM];exact yc h
theorem Nq{q:Nt}(h:kD q):Pn (cR q):=by
 refine⟨kL λx hx=>?_,kr λx hx=>?_,(MQ h).up (by decide) (by decide)⟩
 ·simp only[Ap,Aq,or_false]at hx;rcases hx with rfl|rfl
  ·exact kL λy hy=>zT (h.1.2 y hy)
  ·exact xX h.2
 ·simp only[Ap,Aq,or_false]at hx;rcases hx with rfl|rfl
  ·exact kr λy hy=>PL (h.1.2 y hy)
  ·exact(Qn h.2).nl
theorem Jp{l:List Nat}(hl:l.length<=60)(h:∀i∈l,i<=90):Pn (.tuple (aG l)):=by
 have key:∀x∈aG l,∃i:Nat,i<=90/\x=.int i:=λx hx=>by
  obtain⟨i,hi,rfl⟩:=Bg.mp hx;exact⟨i,h i hi,rfl⟩
 refine⟨kL λx hx=>?_,kr λx hx=>?_,(kH (k:=0) (w:=20) (m:=60) (λx hx=>?_) (by unfold aG;rw[Ab];exact hl)).up (by decide) (by decide)⟩
 ·obtain⟨i,hi,rfl⟩:=key x hx;exact(kX hi).sf
 ·obtain⟨i,hi,rfl⟩:=key x hx;exact(kX hi).nl
 ·obtain⟨i,hi,rfl⟩:=key x hx;exact FR (by omega)
theorem K1{g:Option Nat}(h:∀i,g=ae i->i<=90):Pn (fP g):=by
 cases g with
 |none=>exact HV
 |some i=>exact kX (h i rfl)
theorem FD{d:Aa}(h:jk d):∃(x:Str)(b:Aa)(r:List Aa),d=.tuple (.str x::b::r)/\r.length<=2/\∀y∈(Cg x::b::r),Pn y:=by
 rcases h with⟨m,k,q,rfl,hm,hk,hq⟩|⟨x,m,g,rfl,hx,hm,hg⟩|⟨m,rfl,hm⟩|⟨l,rfl,hl,hi⟩
 ·refine⟨_,_,_,rfl,Ao _,λy hy=>?_⟩;simp only[Ap,Aq,or_false]at hy;rcases hy with rfl|rfl|rfl|rfl
  ·exact m7 (by decide +kernel) (by decide +kernel)
  ·exact kX hm
  ·exact kX hk
  ·exact Nq hq
 ·refine⟨_,_,_,rfl,by simp,λy hy=>?_⟩;simp only[Ap,Aq,or_false]at hy;rcases hy with rfl|rfl|rfl
  ·rcases hx with rfl|rfl|rfl<;>exact m7 (by decide +kernel) (by decide +kernel)
  ·exact kX hm
  ·exact K1 hg
 ·refine⟨_,_,_,rfl,by simp,λy hy=>?_⟩;simp only[Ap,Aq,or_false]at hy;rcases hy with rfl|rfl
  ·exact m7 (by decide +kernel) (by decide +kernel)
  ·exact kX hm
 ·refine⟨_,_,_,rfl,by simp,λy hy=>?_⟩;simp only[Ap,Aq,or_false]at hy;rcases hy with rfl|rfl
  ·exact m7 (by decide +kernel) (by decide +kernel)
  ·exact Jp hl hi
theorem wM{d:Aa}(h:jk d):bA d=ai/\fM d=ai/\Sm 3 8100 d:=by
 obtain⟨x,b,r,rfl,hr,hp⟩:=FD h;exact⟨kL λy hy=>(hp y hy).sf,kr λy hy=>(hp y hy).nl,(kH (k:=2) (w:=2000) (m:=4) (λy hy=>(hp y hy).sm) (by rw[An,An];omega)).up (Ao _) (by decide)⟩
theorem qy{d:Aa}(h:jk d):okY d:=⟨(wM h).1,(wM h).2.2.up (by decide) (by decide)⟩
structure LtI(ps:Pg)(s:Sd)(nu:List Nat)(fr l:Nat):Prop where
 okh:okHs ps s.1
 okn:dF (60-l) s.2
 nk:okNu s nu fr
 fr:fr+l<=60
 hl:l<=40
theorem LtI.st{ps:Pg}{s:Sd}{nu:List Nat}{fr l:Nat}(okp:cz ps)(I:LtI ps s nu fr l):d4 ps s.1 s.2:=⟨okp,I.okh,A3 I.okn.1 (by omega),I.okn.2⟩
theorem LtI.step{ps:Pg}{s t:Sd}{nu:List Nat}{fr l m:Nat}(okp:cz ps)(I:LtI ps s nu fr (l+1))(hm:m<=ps.length)(af:cx ps s.1 s.2 m=ae t):okBd ps s t nu fr m/\LtI ps t (aI ps s nu fr m).2.1 (aI ps s nu fr m).2.2 l:=by
 have B:okBd ps s t nu fr m:=⟨I.st okp,I.nk,hm,af⟩;obtain⟨k1,k2⟩:=wD okp I.okh I.okn hm af;obtain⟨n1,n2⟩:=GA B;have h1:=I.hl;have h2:=I.fr;exact⟨B,k1,⟨A3 k2.1 (by omega),k2.2⟩,n1,by omega,by omega⟩
theorem mf{ps:Pg}{ns:List Nt}(h:gV ps ns){l:Nat}(hl:l<=40):LtI ps (eL ps,ns) (Ba ns.length) ns.length l:=by
 have:=h.2.2.1;exact⟨h.2.1,⟨by show ns.length<=_;omega,h.2.2.2⟩,zZ (eL ps,ns),by omega,hl⟩
theorem LtI.rw{ps:Pg}{s t:Sd}{nu:List Nat}{fr l m:Nat}(I:LtI ps s nu fr (l+1))(B:okBd ps s t nu fr m):jk (aI ps s nu fr m).1:=by
 have h1:=I.nk.len;have h2:=I.okn.1;have h3:=I.fr;exact Qs B (by omega) (by omega)
theorem okY.lay{d:Aa}(h:okY d):Bu d=ai:=h.2.1
theorem okY.dep{d:Aa}(h:okY d):Bn d<=20:=A3 h.2.2.1 (by decide)
def xi(ps:Pg)(ns:List Nt)(rs:List Aa)(n0:Int)(ds:List Aa)(δ:Sl)(n:Int):Prop:=∃(s:Sd)(nu:List Nat)(fr:Nat)(x y:Option SV),δ=[ae (.w (.d (.tuple [aY ps,bN ns]))),ae (.w (.d (.list rs))),ae (.w (.d (dS s nu fr))),x,y]/\LtI ps s nu fr ds.length/\(∀r∈ds,okY r)/\fC ps s nu fr ds=gm ps ns (.list rs)/\n=n0
theorem oU(ps:Pg)(s:Sd)(nu:List Nat)(fr:Nat)(d:Aa)(r:List Aa):fC ps s nu fr (d::r)=(match hU ps s.1 s.2 (dU ps d)with
  |none=>aj
  |some t=>fN (aI ps s nu fr (fK ps (dU ps d))).1 d&&fC ps t (aI ps s nu fr (fK ps (dU ps d))).2.1 (aI ps s nu fr (fK ps (dU ps d))).2.2 r):=by rw[fC]<;>rfl
theorem IQ:∀ws n Q,m3 ws n Q->ws.length=2:=λws n Q h=>by obtain⟨_,_,_,rfl,_⟩:=h;rfl
theorem K5:∀ws n Q,m3 ws n Q->G1 (bE ["plan","thing","board","row","step"] ws) n {nx:=λ_ n=>Q (.d .none) n,rt:=Q}:=λws n0 Q h=>by
 obtain⟨ps,ns,d,rfl,pl,th,k⟩:=h;show G1 [ae (.w (.d (.tuple [aY ps,bN ns]))),ae (.w (.d d)),ah,ah,ah] n0 _;have okp:=pl.1;have isi:∀b,cE "list" d=b->∀Q:Bool->Int->Prop,Q (!b) n0->bB (cT (bw "list" (ak 1))) [ae (.w (.d (.tuple [aY ps,bN ns]))),ae (.w (.d d)),ah,ah,ah] n0 Q:=λb e Q q=>gQ (k:=b) (λQ q=>aE (k:=b) (λQ q=>au rfl (show Q (.d (.bool (cE "list" d))) n0 by rw[e];exact q)) q) q;cases d with
 |list rs=>
  obtain⟨hl,hr⟩:=th.2 rs rfl;refine bG (isi ai rfl) ?_;refine aD (bC (x:=dS (eL ps,ns) (Ba ns.length) ns.length) (λQ q=>cu (au rfl ⟨ps,ns,rfl,okp.1,pl.2.2.1,q⟩)) ?_);dsimp only[Al];refine aD ?_;unfold bo fA;refine au rfl ?_;dsimp only;refine fW (xi ps ns rs n0) (λδ n I=>?_) (λe r δ n N I kN=>?_) _ _ _ ⟨(eL ps,ns),Ba ns.length,ns.length,ah,ah,rfl,mf pl hl,hr,rfl,rfl⟩
  ·obtain⟨s,nu,fr,x,y,rfl,_,_,hf,rfl⟩:=I;dsimp only;refine bb (aC ?_);rw[<-hf]at k;exact k
  ·obtain⟨s,nu,fr,x,y,rfl,I,hok,hf,rfl⟩:=I;rw[An]at I;dsimp only[aJ,Al];have oe:=hok e As;rw[oU]at hf;refine aD (bC (x:=lC ps s nu fr (dU ps e)) (λQ q=>bW (eB (a:=aY ps) rfl (au rfl (bJ (eB (a:=aY ps) rfl (au rfl ⟨ps,e,rfl,oe,⟨ps,s,nu,fr,_,rfl,I.st okp,I.nk,q⟩⟩)))))) ?_);dsimp only[Al];cases ea:hU ps s.1 s.2 (dU ps e)with
   |none=>
    rw[ea]at hf;have el:lC ps s nu fr (dU ps e)=.none:=by unfold lC;rw[ea]
    rw[el];refine cg (λQ q=>i7 (λQ q=>aE (k:=ai) (λQ q=>ar (au rfl (aC q))) q) q) (aC ?_);rw[<-hf]at k;exact k
   |some t=>
    rw[ea]at hf;obtain⟨m,em,af⟩:=Gg.mp ea;obtain⟨eb,hm⟩:=nH em;have en:fK ps (dU ps e)=m:=by unfold fK;rw[em];rfl
    rw[en]at hf;obtain⟨B,I2⟩:=I.step okp hm af;have el:lC ps s nu fr (dU ps e)=.tuple [(aI ps s nu fr m).1,dS t (aI ps s nu fr m).2.1 (aI ps s nu fr m).2.2]:=by unfold lC;rw[ea,en]
    rw[el];obtain⟨q1,q2,q3⟩:=wM (I.rw B);have al:∀b,fN (aI ps s nu fr m).1 e=b->∀Q:Bool->Int->Prop,Q (!b) n->gg (cT (w2 (ak 4) (wC .none) (cL aj))) (bB (cT (aF (ku 6) (aq (w2 (ak 4) (wC (.int (0))) aB) (aq (ak 3) ao))))) [ae (.w (.d (.tuple [aY ps,bN ns]))),ae (.w (.d (.list rs))),ae (.w (.d (dS s nu fr))),ae (.w (.d e)),ae (.w (.d (.tuple [(aI ps s nu fr m).1,dS t (aI ps s nu fr m).2.1 (aI ps s nu fr m).2.2])))] n Q:=λb eb Q q=>
     fw (λQ q=>aE (k:=aj) (λQ q=>ar (au rfl (aC q))) q) (gQ (k:=b) (λQ q=>aE (k:=b) (λQ q=>bJ (ar (au rfl (aC (bV (au rfl ⟨_,e,rfl,q2,q1,oe.1,A3 q3.2.1 (by decide),q3.1,oe.lay,oe.dep,by rw[eb];exact q⟩)))))) q) q)
    have hf:(fN (aI ps s nu fr m).1 e&&fC ps t (aI ps s nu fr m).2.1 (aI ps s nu fr m).2.2 r)=gm ps ns (.list rs):=hf;cases ee:fN (aI ps s nu fr m).1 e with
    |false=>
     rw[ee]at hf;refine cg (al aj ee) (aC ?_);rw[<-hf]at k;exact k
    |true=>
     rw[ee,E8]at hf;refine bG (al ai ee) ?_;refine bC (x:=dS t (aI ps s nu fr m).2.1 (aI ps s nu fr m).2.2) (λQ q=>ar (au rfl (aC (eh q)))) (kN _ _ ?_);exact⟨t,_,_,_,_,rfl,I2,λz hz=>hok z (Am _ hz),hf,rfl⟩
 |dict kvs=>
  have:=th.1.1;rw[bA]at this;cases this
 |_=>exact cg (isi aj rfl) (aC k)
theorem RS:∀ws n Q,mF ws n Q->ws.length=2:=λws n Q h=>by obtain⟨_,_,rfl,_⟩:=h;rfl
theorem NC:∀ws n Q,mF ws n Q->y3 (bE ["_law_thing","_law_most"] ws) n {nx:=λ_ n=>Q (.d .none) n,rt:=Q}:=λws n Q h=>by
 obtain⟨b,m,rfl,k⟩:=h;show y3 [ae (.w (.d b)),ae (.w (.d (.int m)))] n _;cases b with
 |int i=>
  show lr iz iz (wC (.int 0)) (ak 0) (ak 1) [ae (.w (.d (.int i))),ae (.w (.d (.int m)))] n Q;exact Hh (λQ q=>aC q) (λQ q=>au rfl q) (λQ q=>au rfl q) k
 |_=>exact k
theorem yD{ps:Pg}{s t:Sd}{nu:List Nat}{fr m:Nat}(B:okBd ps s t nu fr m):∃(x:Str)(r:List Aa),(aI ps s nu fr m).1=.tuple (.str x::r)/\(x="clock"↔m=ps.length):=by
 by_cases em:m=ps.length
 ·subst em;rw[k9];exact⟨_,_,rfl,λ_=>rfl,λ_=>rfl⟩
 ·have hm:m < ps.length:=by have:=B.le;omega
  obtain⟨P,xb,xp,nm',w,as,a,H,ea,T⟩:=kO B.st.2.1 hm B.af;rw[lu hm ea];cases a with
  |lay fs age=>exact⟨_,_,rfl,λz=>absurd z (by decide +kernel),λz=>absurd z em⟩
  |take gs=>exact⟨_,_,rfl,λz=>absurd z (by decide +kernel),λz=>absurd z em⟩
  |read gs=>exact⟨_,_,rfl,λz=>absurd z (by decide +kernel),λz=>absurd z em⟩
  |look gs b=>exact⟨_,_,rfl,λz=>absurd z (by decide +kernel),λz=>absurd z em⟩
  |go b=>exact⟨_,_,rfl,λz=>absurd z (by decide +kernel),λz=>absurd z em⟩
  |same f g b=>exact⟨_,_,rfl,λz=>absurd z (by decide +kernel),λz=>absurd z em⟩
theorem vg{ps:Pg}{s:Sd}{nu:List Nat}{fr l:Nat}(okp:cz ps)(I:LtI ps s nu fr (l+1)){d:Aa}{r:List Aa}
  (h:∀m t,jB ps (dU ps d)=ae m->cx ps s.1 s.2 m=ae t->okBd ps s t nu fr m->(aI ps s nu fr m).1≠d):fC ps s nu fr (d::r)=aj:=by
 rw[oU];cases ea:hU ps s.1 s.2 (dU ps d)with
 |none=>rfl
 |some t=>
  obtain⟨m,em,af⟩:=Gg.mp ea;obtain⟨eb,hm⟩:=nH em;have en:fK ps (dU ps d)=m:=by unfold fK;rw[em];rfl
  show(fN (aI ps s nu fr (fK ps (dU ps d))).1 d&&_)=aj;rw[en,jq (h m t em af ⟨I.st okp,I.nk,hm,af⟩),Fo]
def vF(ps:Pg)(ns:List Nt)(rs:List Aa)(n0:Int)(ds:List Aa)(δ:Sl)(n:Int):Prop:=∃(s:Sd)(nu:List Nat)(fr:Nat)(x y z:Option SV),δ=[ae (.w (.d (.tuple [aY ps,bN ns]))),ae (.w (.d (.list rs))),ae (.w (.d (aY ps))),ae (.w (.d (bN ns))),ae (.w (.d (cI s))),ae (.w (.d (.list (aG nu)))),ae (.w (.d (.int fr))),x,y,z]/\LtI ps s nu fr ds.length/\(∀r∈ds,okY r)/\fC ps s nu fr ds=gm ps ns (.list rs)/\n=n0
theorem okY.sml{d:Aa}(h:okY d):SmlA d:=by
 have h2:Small d:=Sm.small (show Sm 6 20000 d from h.2) (by decide) (by decide);exact⟨h2.1,h2.2.1,h2.2.2.2.2,h2.len⟩
theorem Rl{ps:Pg}{s t:Sd}{m:Nat}(okh:okHs ps s.1)(hm:m < ps.length)(af:cx ps s.1 s.2 m=ae t):d9 ps s.1 s.2 m=ai:=by
 obtain⟨P,xb,xp,nm,w,as,a,H,ea,T⟩:=kO okh hm af;rw[vc ea];cases a with
 |take gs=>obtain⟨i,hi,_⟩:=T;rw[hi];rfl
 |read gs=>obtain⟨_,i,hi,_⟩:=T;rw[hi];rfl
 |_=>rfl
abbrev jG(ps:Pg)(ns:List Nt)(rs:List Aa)(s:Sd)(nu:List Nat)(fr:Nat)(x y z:Option SV):Sl:=[ae (.w (.d (.tuple [aY ps,bN ns]))),ae (.w (.d (.list rs))),ae (.w (.d (aY ps))),ae (.w (.d (bN ns))),ae (.w (.d (cI s))),ae (.w (.d (.list (aG nu)))),ae (.w (.d (.int fr))),x,y,z]
abbrev Uv:aP:=av (aL (gg (bB (cT (bw "tuple" (ak 7)))) (gg (cT (w2 (wB aX (aq (ak 7) ao)) (wC (.int (2))) fY)) (bB (cT (bw "str" (w2 (ak 7) (wC (.int (0))) aB)))))) (az (wC (.bool aj))) aM) (av (aA 8 (eO (cT (w2 (w2 (ak 7) (wC (.int (0))) aB) (wC (.str "clock")) (iA λd e=>ae (B5 d e)))) (wB aX (aq (ak 2) ao)) (w2 (ak 7) (wC (.int (1))) aB))) (av (aL (dz (cT (w2 (w2 (ak 7) (wC (.int (0))) aB) (wC (.str "clock")) (iA λd e=>ae (!B5 d e)))) (bB (cT (aF mF (aq (ak 8) (aq (w2 (wB aX (aq (ak 2) ao)) (wC (.int (1))) (b7 λi j=>.int (i-j))) ao)))))) (az (wC (.bool aj))) aM) (av (aL (dz (cT (w2 (w2 (ak 7) (wC (.int (0))) aB) (wC (.str "clock")) (iA λd e=>ae (!B5 d e)))) (bB (cT (aF ki (aq (ak 2) (aq (ak 4) (aq (ak 8) ao))))))) (az (wC (.bool aj))) aM) (av (b8 (aF lq (aq (ak 2) (aq (ak 4) (aq (ak 5) (aq (ak 6) (aq (ak 8) ao)))))) (di 3 (bj (aJ 9) (bj (aJ 5) (bj (aJ 6) cn))))) (av (aL (cT (w2 (wB iE (aq (ak 9) ao)) (wB iE (aq (ak 7) ao)) dZ)) (az (wC (.bool aj))) aM) (aA 4 (aF jS (aq (ak 2) (aq (ak 4) (aq (ak 8) ao))))))))))
abbrev OT:aP:=av (b8 (aF lq (aq (ak 2) (aq (ak 4) (aq (ak 5) (aq (ak 6) (aq (ak 8) ao)))))) (di 3 (bj (aJ 9) (bj (aJ 5) (bj (aJ 6) cn))))) (av (aL (cT (w2 (wB iE (aq (ak 9) ao)) (wB iE (aq (ak 7) ao)) dZ)) (az (wC (.bool aj))) aM) (aA 4 (aF jS (aq (ak 2) (aq (ak 4) (aq (ak 8) ao))))))
theorem qB{d:Aa}{n:Int}{Q:DQ}(h:SmlA d)(k:Q (.d (.str d.shown)) n):iE [.d d] n Q:=⟨h,k⟩
theorem zI{ps:Pg}{ns:List Nt}{rs r:List Aa}{s t:Sd}{nu:List Nat}{fr l m:Nat}{e:Aa}{z:Option SV}{n:Int}{K:DEnds}{Q:DQ}(okp:cz ps)(I:LtI ps s nu fr (l+1))(oe:okY e)(em:jB ps (dU ps e)=ae m)(af:cx ps s.1 s.2 m=ae t)
  (hK:K.rt=Q) (bad:fC ps s nu fr (e::r)=aj->Q (.d (.bool aj)) n) (kN:∀(t:Sd)(m:Nat)(x y z:Option SV),okBd ps s t nu fr m->LtI ps t (aI ps s nu fr m).2.1 (aI ps s nu fr m).2.2 l->fC ps t (aI ps s nu fr m).2.1 (aI ps s nu fr m).2.2 r=fC ps s nu fr (e::r)->K.nx (jG ps ns rs t (aI ps s nu fr m).2.1 (aI ps s nu fr m).2.2 x y z) n):
  OT (jG ps ns rs s nu fr (ae (.w (.d e))) (ae (.w (.d (.int m)))) z) n K:=by
 obtain⟨_,hm⟩:=nH em;obtain⟨B,I2⟩:=I.step okp hm af;have en:fK ps (dU ps e)=m:=by unfold fK;rw[em];rfl
 have ea:hU ps s.1 s.2 (dU ps e)=ae t:=by unfold hU;rw[em];exact af
 have hf:fC ps s nu fr (e::r)=(fN (aI ps s nu fr m).1 e&&fC ps t (aI ps s nu fr m).2.1 (aI ps s nu fr m).2.2 r):=by
  rw[oU,ea,<-en]
 have oy:=qy (I.rw B);refine aD ?_;unfold b8;refine oP (au rfl (au rfl (au rfl (au rfl (au rfl ⟨ps,s,t,nu,fr,m,rfl,B,Ah rfl ?_⟩)))));dsimp only[bj,cn,aJ,Al];have cm:∀b,fN (aI ps s nu fr m).1 e=b->∀Q:Bool->Int->Prop,Q (!b) n->cT (w2 (wB iE (aq (ak 9) ao)) (wB iE (aq (ak 7) ao)) dZ) [ae (.w (.d (.tuple [aY ps,bN ns]))),ae (.w (.d (.list rs))),ae (.w (.d (aY ps))),ae (.w (.d (bN ns))),ae (.w (.d (cI s))),ae (.w (.d (.list (aG (aI ps s nu fr m).2.1)))),ae (.w (.d (.int (aI ps s nu fr m).2.2))),ae (.w (.d e)),ae (.w (.d (.int m))),ae (.w (.d (aI ps s nu fr m).1))] n Q:=λb eb Q q=>by
  refine aE (k:=!b) (λQ q=>ar (aT (au rfl (qB oy.sml (aT (au rfl (qB oe.sml (zo ?_))))))) ) q;have:decide ((aI ps s nu fr m).1.shown=e.shown)=b:=by
   by_cases ee:(aI ps s nu fr m).1=e
   ·rw[<-eb,jK ee];exact decide_eq_true (by rw[ee])
   ·rw[<-eb,jq ee];exact decide_eq_false λz=>ee ((J3 oy.1 oe.1).mp z)
  rw[this];exact q
 cases ee:fN (aI ps s nu fr m).1 e with
 |false=>
  refine cg (cm aj ee) (aC ?_);rw[hK];exact bad (by rw[hf,ee];rfl)
 |true=>
  refine bG (cm ai ee) ?_;refine bC (x:=cI t) (λQ q=>bW (au rfl (au rfl (au rfl ⟨ps,s.1,s.2,m,t,rfl,I.st okp,hm,af,q⟩)))) ?_;dsimp only[Al];exact kN t m _ _ _ B I2 (by rw[hf,ee,E8])
theorem Iu{ps:Pg}{ns:List Nt}{rs r:List Aa}{s:Sd}{nu:List Nat}{fr l:Nat}{e:Aa}{y z:Option SV}{n:Int}{K:DEnds}{Q:DQ}(okp:cz ps)(I:LtI ps s nu fr (l+1))(oe:okY e)(_:∀z∈r,okY z)
  (hK:K.rt=Q) (bad:fC ps s nu fr (e::r)=aj->Q (.d (.bool aj)) n) (kN:∀(t:Sd)(m:Nat)(x y z:Option SV),okBd ps s t nu fr m->LtI ps t (aI ps s nu fr m).2.1 (aI ps s nu fr m).2.2 l->fC ps t (aI ps s nu fr m).2.1 (aI ps s nu fr m).2.2 r=fC ps s nu fr (e::r)->K.nx (jG ps ns rs t (aI ps s nu fr m).2.1 (aI ps s nu fr m).2.2 x y z) n):
  Uv (jG ps ns rs s nu fr (ae (.w (.d e))) y z) n K:=by
 have none_bad:dU ps e=.none->fC ps s nu fr (e::r)=aj:=λh=>by
  rw[oU];have:hU ps s.1 s.2 (dU ps e)=ah:=by rw[h];rfl
  rw[this]
 have isi:∀b,cE "tuple" e=b->∀Q:Bool->Int->Prop,Q (!b) n->bB (cT (bw "tuple" (ak 7))) (jG ps ns rs s nu fr (ae (.w (.d e))) y z) n Q:=λb eb Q q=>gQ (k:=b) (λQ q=>aE (k:=b) (λQ q=>au rfl (show Q (.d (.bool (cE "tuple" e))) n by rw[eb];exact q)) q) q;cases e with
 |tuple xs=>
  have hp:=oe.part;have ln:∀b,decide ((xs.length:Int) < 2)=b->∀Q:Bool->Int->Prop,Q b n->cT (w2 (wB aX (aq (ak 7) ao)) (wC (.int (2))) fY) (jG ps ns rs s nu fr (ae (.w (.d (.tuple xs)))) y z) n Q:=λb eb Q q=>
   aE (k:=b) (λQ q=>ar (aT (au rfl (vP (aC (FO (by rw[eb];exact q))))))) q
  match xs,hp,ln,isi,oe,none_bad,bad,kN with
  |[],hp,ln,isi,oe,nb,bad,kN=>exact cg (λQ q=>fw (isi ai rfl) (i7 (ln ai rfl) q)) (aC (by rw[hK];exact bad (nb rfl)))
  |[_],hp,ln,isi,oe,nb,bad,kN=>exact cg (λQ q=>fw (isi ai rfl) (i7 (ln ai rfl) q)) (aC (by rw[hK];exact bad (nb rfl)))
  |a::b::w,hp,ln,isi,oe,nb,bad,kN=>
   have ln2:=ln aj (decide_eq_false (by rw[An,An];omega));obtain⟨sa,la,da⟩:=hp a As;have iss:∀k,cE "str" a=k->∀Q:Bool->Int->Prop,Q (!k) n->bB (cT (bw "str" (w2 (ak 7) (wC (.int (0))) aB))) (jG ps ns rs s nu fr (ae (.w (.d (.tuple (a::b::w))))) y z) n Q:=λk ek Q q=>gQ (k:=k) (λQ q=>aE (k:=k) (λQ q=>ar (au rfl (aC (bV (show Q (.d (.bool (cE "str" a))) n by rw[ek];exact q))))) q) q;cases es:cE "str" a with
   |false=>
    refine cg (λQ q=>fw (isi ai rfl) (fw ln2 (iss aj es Q q))) (aC ?_);rw[hK];refine bad (vg okp I λm t em af B z=>?_);obtain⟨x,r',e1,_⟩:=yD B;rw[e1]at z;have:=(B1 (Dx z)).1;rw[<-this]at es;cases es
   |true=>
    refine bG (λQ q=>fw (isi ai rfl) (fw ln2 (iss ai es Q q))) ?_;obtain⟨x,rfl⟩:∃x,a=.str x:=by cases a<;>first|exact⟨_,rfl⟩|cases es
    have plen:∀(δ:Sl)(Q:DQ),δ[2]?=ae (ae (.w (.d (aY ps))))->Q (.d (.int ps.length)) n->wB aX (aq (ak 2) ao) δ n Q:=λδ Q e q=>aT (au e (show Q (.d (.int ((ps.map eI).length:Nat))) n by rw[Ab];exact q));have emt:dU ps (.tuple (.str x::b::w))=if fO (.str x)=ai then .int ps.length else b:=rfl
    have nclk:∀(v:Option SV) k,(!fO (.str x))=k->∀Q:Bool->Int->Prop,Q k n->cT (w2 (w2 (ak 7) (wC (.int (0))) aB) (wC (.str "clock")) (iA λd e=>ae (!B5 d e))) (jG ps ns rs s nu fr (ae (.w (.d (.tuple (.str x::b::w))))) v z) n Q:=λv k ek Q q=>aE (k:=k) (λQ q=>ar (ar (au rfl (aC (bV (aC (Tu sa la da (by rw[ek];exact q)))))))) q;refine aD (bC (x:=dU ps (.tuple (.str x::b::w))) (λQ q=>fL (b:=fO (.str x)) (λQ q=>aE (k:=fO (.str x)) (λQ q=>ar (ar (au rfl (aC (bV (aC (CW sa la da q))))))) q) ?_) ?_)
    ·rw[emt]at q;cases ec:fO (.str x)with
     |true=>rw[ec,if_pos rfl]at q;rw[if_pos rfl];exact plen _ _ rfl q
     |false=>rw[ec,if_neg Ae]at q;rw[if_neg Ae];exact ar (au rfl (aC (eh q)))
    dsimp only[Al];cases ec:fO (.str x)with
    |true=>
     rw[ec,if_pos rfl]at emt;rw[emt];refine bG (λQ q=>mQ (nclk _ aj (by rw[ec];rfl)) q) ?_;refine bG (λQ q=>mQ (nclk _ aj (by rw[ec];rfl)) q) ?_;obtain⟨t,af⟩:=HF (ns:=s.2) I.okh (Ao ps.length) (.inl rfl);exact zI okp I oe (by rw[emt,pX,if_pos ⟨by omega,Int.le_refl _⟩];rfl) af hK bad kN
    |false=>
     rw[ec,if_neg Ae]at emt;rw[emt];have xc:x≠"clock":=of_decide_eq_false ec;have up:∀k,mD b ((ps.length:Int)-1)=k->∀Q:Bool->Int->Prop,Q (!k) n->bB (cT (aF mF (aq (ak 8) (aq (w2 (wB aX (aq (ak 2) ao)) (wC (.int (1))) (b7 λi j=>.int (i-j))) ao)))) (jG ps ns rs s nu fr (ae (.w (.d (.tuple (.str x::b::w))))) (ae (.w (.d b))) z) n Q:=λk ek Q q=>
      gQ (k:=k) (λQ q=>aE (k:=k) (λQ q=>bJ (au rfl (ar (plen _ _ rfl (aC ⟨b,_,rfl,by rw[ek];exact q⟩))))) q) q
     cases eu:mD b ((ps.length:Int)-1)with
     |false=>
      refine cg (λQ q=>kK (nclk _ ai (by rw[ec];rfl)) (up aj eu Q q)) (aC ?_);rw[hK];refine bad (vg okp I λm t em af B z=>?_);rw[emt]at em;obtain⟨rfl,hm⟩:=nH em;obtain⟨x',r',e1,e2⟩:=yD B;rw[e1]at z;have:=PyData.str.inj (B1 (Dx z)).1;have nm:m≠ps.length:=λh=>xc (this▸e2.mpr h);have eu:(decide (0<=(m:Int))&&decide ((m:Int)<=(ps.length:Int)-1))=aj:=eu;rw[decide_eq_true (by omega),decide_eq_true (by omega)]at eu;cases eu
     |true=>
      refine bG (λQ q=>kK (nclk _ ai (by rw[ec];rfl)) (up ai eu Q q)) ?_;obtain⟨m,rfl,hm⟩:∃m:Nat,b=.int m/\m < ps.length:=by
       cases b with
       |int i=>
        have eu:(decide (0<=i)&&decide (i<=(ps.length:Int)-1))=ai:=eu;rw[A2,decide_eq_true_eq,decide_eq_true_eq]at eu;exact⟨i.toNat,by congr 1;omega,by omega⟩
       |_=>cases eu
      have em:jB ps (dU ps (.tuple (.str x::.int m::w)))=ae m:=by rw[emt,pX,if_pos ⟨by omega,by omega⟩];rfl
      have rd:∀k,d9 ps s.1 s.2 m=k->∀Q:Bool->Int->Prop,Q (!k) n->bB (cT (aF ki (aq (ak 2) (aq (ak 4) (aq (ak 8) ao))))) (jG ps ns rs s nu fr (ae (.w (.d (.tuple (.str x::.int m::w))))) (ae (.w (.d (.int m)))) z) n Q:=λk ek Q q=>
       gQ (k:=k) (λQ q=>aE (k:=k) (λQ q=>bW (au rfl (au rfl (au rfl ⟨ps,s.1,s.2,m,rfl,I.st okp,hm,by rw[ek];exact q⟩)))) q) q
      cases er:d9 ps s.1 s.2 m with
      |false=>
       refine cg (λQ q=>kK (nclk _ ai (by rw[ec];rfl)) (rd aj er Q q)) (aC ?_);rw[hK];refine bad (vg okp I λm' t em' af B z=>?_);rw[em]at em';cases em';rw[Rl I.okh hm af]at er;cases er
      |true=>
       refine bG (λQ q=>kK (nclk _ ai (by rw[ec];rfl)) (rd ai er Q q)) ?_;obtain⟨t,af⟩:=GR I.okh hm er;exact zI okp I oe em af hK bad kN
 |dict kvs=>
  have:=oe.1;rw[bA]at this;cases this
 |_=>exact cg (λQ q=>i7 (isi aj rfl) q) (aC (by rw[hK];exact bad (none_bad rfl)))
theorem Ka:∀ws n Q,qA ws n Q->ws.length=2:=λws n Q h=>by obtain⟨_,_,_,rfl,_⟩:=h;rfl
theorem Kj:∀ws n Q,qA ws n Q->GB (bE ["_law_plan_here","_law_thing","_law_programs","_law_notes_here","_law_stand","_law_numbers","_law_fresh","_law_told","_law_mover","_law_row_here"] ws) n {nx:=λ_ n=>Q (.d .none) n,rt:=Q}:=λws n0 Q h=>by
 obtain⟨ps,ns,d,rfl,pl,th,k⟩:=h;show GB [ae (.w (.d (.tuple [aY ps,bN ns]))),ae (.w (.d d)),ah,ah,ah,ah,ah,ah,ah,ah] n0 _;have okp:=pl.1;have isi:∀b,cE "list" d=b->∀Q:Bool->Int->Prop,Q (!b) n0->bB (cT (bw "list" (ak 1))) [ae (.w (.d (.tuple [aY ps,bN ns]))),ae (.w (.d d)),ah,ah,ah,ah,ah,ah,ah,ah] n0 Q:=λb e Q q=>gQ (k:=b) (λQ q=>aE (k:=b) (λQ q=>au rfl (show Q (.d (.bool (cE "list" d))) n0 by rw[e];exact q)) q) q;cases d with
 |list rs=>
  obtain⟨hl,hr⟩:=th.2 rs rfl;refine bG (isi ai rfl) ?_;refine aD ?_;unfold b8;refine au rfl (Ah rfl ?_);dsimp only[bj,cn,aJ,Al];refine aD (bC (x:=cI (eL ps,ns)) (λQ q=>cu (au rfl ⟨ps,ns,rfl,okp.1,q⟩)) ?_);dsimp only[Al];have h12:=pl.2.2.1;have hlen:∀(δ:Sl)(Q:DQ),δ[3]?=ae (ae (.w (.d (bN ns))))->Q (.d (.int ns.length)) n0->wB aX (aq (ak 3) ao) δ n0 Q:=λδ Q e q=>aT (au e (show Q (.d (.int ((ns.map cR).length:Nat))) n0 by rw[Ab];exact q));refine aD (bC (x:=.list (aG (Ba ns.length))) (λQ q=>bf (show qd _ _ _ _ from hlen _ _ rfl ⟨ns.length,rfl,by omega,q⟩)) ?_);dsimp only[Al];refine aD (bC (x:=.int ns.length) (λQ q=>hlen _ _ rfl q) ?_);dsimp only[Al];refine aD ?_;unfold bo fA;refine au rfl ?_;dsimp only;refine fW (vF ps ns rs n0) (λδ n I=>?_) (λe r δ n N I kN=>?_) _ _ _ ⟨(eL ps,ns),Ba ns.length,ns.length,ah,ah,ah,rfl,mf pl hl,hr,rfl,rfl⟩
  ·obtain⟨s,nu,fr,x,y,z,rfl,_,_,hf,rfl⟩:=I;dsimp only;refine bb (aC ?_);rw[<-hf]at k;exact k
  ·obtain⟨s,nu,fr,x,y,z,rfl,I,hok,hf,rfl⟩:=I;rw[An]at I;dsimp only[aJ,Al];have oe:=hok e As;have bad:fC ps s nu fr (e::r)=aj->Q (.d (.bool aj)) n:=λz=>by rw[<-hf,z]at k;exact k
   exact Iu okp I oe (λz hz=>hok z (Am _ hz)) (Q:=Q) (by rfl) bad λt m x y z B I2 ee=>kN _ _ ⟨t,_,_,x,y,z,rfl,I2,λz hz=>hok z (Am _ hz),by rw[<-hf];exact ee,rfl⟩
 |dict kvs=>
  have:=th.1.1;rw[bA]at this;cases this
 |_=>exact cg (isi aj rfl) (aC k)
theorem K7:∀ws n Q,sP ws n Q->ws.length=2:=λws n Q h=>by obtain⟨_,_,_,rfl,_⟩:=h;rfl
theorem okTh.sml{d:Aa}(h:okTh d):SmlA d:=by
 have h2:Small d:=Sm.small (show Sm 8 900000 d from h.1.2) (by decide) (by decide);exact⟨h2.1,h2.2.1,h2.2.2.2.2,h2.len⟩
theorem M7{b:Bool}{n:Int}{Q:DQ}(k:Q (.d (.bool ai)) n):aV (.d (.bool b)) (.d (.bool b)) n Q:=by
 show Q (.d (.bool (decide (b=b)))) n;rw[decide_eq_true rfl];exact k
theorem Mt{x:Str}{n:Int}{Q:DQ}(k:Q (.d (.bool ai)) n):aV (.d (.str x)) (.d (.str x)) n Q:=by
 show Q (.d (.bool (decide (x=x)))) n;rw[decide_eq_true rfl];exact k
theorem Od:∀ws n Q,sP ws n Q->yt (bE ["_law_plan_here","_law_thing","_law_kept","_law_found"] ws) n {nx:=λ_ n=>Q (.d .none) n,rt:=Q}:=λws n Q h=>by
 obtain⟨ps,ns,d,rfl,pl,th,k⟩:=h;show yt [ae (.w (.d (.tuple [aY ps,bN ns]))),ae (.w (.d d)),ah,ah] n _;refine aD (bC (x:=.str d.shown) (λQ q=>aT (au rfl (qB th.sml q))) ?_);dsimp only[Al];refine aD (bC (x:=.bool (gm ps ns d)) (λQ q=>bJ (au rfl (au rfl ⟨ps,ns,d,rfl,pl,th,q⟩))) ?_);dsimp only[Al];exact bb (uH (λQ q=>show Q (.d (.bool (cE "bool" (.bool _)))) n from q) (uH (λQ q=>ar (au rfl (bJ (au rfl (au rfl ⟨ps,ns,d,rfl,pl,th,M7 q⟩))))) (ar (aT (au rfl (qB th.sml (au rfl (Mt k))))))))
def V0(d:Aa):Prop:=bA d=ai/\Sm 0 20 d
def V1(d:Aa):Prop:=bA d=ai/\Sm 1 1302 d
def Ye(d:Aa):Prop:=bA d=ai/\Sm 4 3000 d
theorem V0.ye{d:Aa}(h:V0 d):Ye d:=⟨h.1,h.2.up (by decide) (by decide)⟩
theorem V1.ye{d:Aa}(h:V1 d):Ye d:=⟨h.1,h.2.up (by decide) (by decide)⟩
theorem Pn.ye{d:Aa}(h:Pn d):Ye d:=⟨h.sf,h.sm.up (by decide) (by decide)⟩
theorem i6{i:Int}(h0:-2<=i)(h1:i<=99):V0 (.int i):=by
 refine⟨by rw[bA,A2];exact⟨decide_eq_true h0,decide_eq_true (by omega)⟩,?_⟩;by_cases h:0<=i
 ·exact p8 (jn h h1)
 ·have:i=-1\/i=-2:=by omega
  rcases this with rfl|rfl
  ·exact⟨by decide,by decide,by decide,by decide,by decide⟩
  ·exact⟨by decide,by decide,by decide,by decide,by decide⟩
theorem mX(b:Bool):V0 (.bool b):=⟨by rw[bA],by cases b<;>exact⟨by decide,by decide,by decide,by decide,by decide⟩⟩
theorem v0_none:V0 .none:=⟨by rw[bA],sm_none⟩
theorem ze{d:Aa}(h:cD d=ai):V0 d:=⟨zT h,p8 h⟩
theorem MJ{d:Aa}(h:f9 d):V0 d:=⟨xX h,GH h⟩
theorem jX{xs:List Aa}(h:∀x∈xs,V0 x)(hl:xs.length<=62):V1 (.tuple xs):=⟨kL λx hx=>(h x hx).1,kH (k:=0) (w:=20) (m:=62) (λx hx=>(h x hx).2) hl⟩
theorem qu{xs:List Aa}(h:∀x∈xs,V0 x)(hl:xs.length<=62):V1 (.list xs):=⟨tP λx hx=>(h x hx).1,tS (k:=0) (w:=20) (m:=62) (λx hx=>(h x hx).2) hl⟩
theorem l5{a b x:Aa}{P:Aa->Prop}(ha:P a)(hb:P b)(hx:x∈[a,b]):P x:=by
 simp only[Ap,Aq,or_false]at hx;rcases hx with rfl|rfl
 ·exact ha
 ·exact hb
theorem mJ{a b:Aa}(ha:V1 a)(hb:V0 b):Ye (.tuple [a,b]):=by
 have hb':V1 b:=⟨hb.1,hb.2.up (by decide) (by decide)⟩;exact⟨kL λx hx=>(l5 (P:=V1) ha hb' hx).1,(kH (k:=1) (w:=1302) (m:=2) (λx hx=>(l5 (P:=V1) ha hb' hx).2) (Ao _)).up (by decide) (by decide)⟩
theorem RR{a b:Aa}(ha:V1 a)(hb:V0 b):Ye (.list [a,b]):=by
 have hb':V1 b:=⟨hb.1,hb.2.up (by decide) (by decide)⟩;exact⟨tP λx hx=>(l5 (P:=V1) ha hb' hx).1,(tS (k:=1) (w:=1302) (m:=2) (λx hx=>(l5 (P:=V1) ha hb' hx).2) (Ao _)).up (by decide) (by decide)⟩
theorem i8{xs:List Aa}(h:∀x∈xs,Ye x)(hl:xs.length<=6):okY (.tuple xs):=⟨kL λx hx=>(h x hx).1,(kH (k:=4) (w:=3000) (m:=6) (λx hx=>(h x hx).2) hl).up (by decide) (by decide)⟩
theorem Qt{xs:List Aa}(h:∀x∈xs,Ye x)(hl:xs.length<=6):okY (.list xs):=⟨tP λx hx=>(h x hx).1,(tS (k:=4) (w:=3000) (m:=6) (λx hx=>(h x hx).2) hl).up (by decide) (by decide)⟩
def Tk(h:Str)(d:Aa):Prop:=d=.none\/(∃i:Nat,d=.int i/\i<=90)\/(h="lays"/\∃q,kD q/\d=cR q)\/(h≠"lays"/\∃l:List Nat,d=.tuple (aG l)/\l.length<=60/\∀i∈l,i<=90)
theorem Ol{d:Aa}(h:jk d):∃(x:Str)(r:List Aa),d=.tuple (.str x::r)/\1<=r.length/\r.length<=3/\(∀y∈r,Tk x y)/\∀y∈(Cg x::r),Ye y:=by
 obtain⟨x0,b0,r0,e0,hr0,hp0⟩:=FD h;have key:∃(x:Str)(r:List Aa),d=.tuple (.str x::r)/\1<=r.length/\r.length<=3/\∀y∈r,Tk x y:=by
  rcases h with⟨m,k,q,rfl,hm,hk,hq⟩|⟨x,m,g,rfl,hx,hm,hg⟩|⟨m,rfl,hm⟩|⟨l,rfl,hl,hi⟩
  ·refine⟨_,_,rfl,by simp,by simp,λy hy=>?_⟩;simp only[Ap,Aq,or_false]at hy;rcases hy with rfl|rfl|rfl
   ·exact .inr (.inl ⟨m,rfl,hm⟩)
   ·exact .inr (.inl ⟨k,rfl,hk⟩)
   ·exact .inr (.inr (.inl ⟨rfl,q,hq,rfl⟩))
  ·refine⟨_,_,rfl,by simp,by simp,λy hy=>?_⟩;simp only[Ap,Aq,or_false]at hy;rcases hy with rfl|rfl
   ·exact .inr (.inl ⟨m,rfl,hm⟩)
   ·cases g with
    |none=>exact .inl rfl
    |some i=>exact .inr (.inl ⟨i,rfl,hg i rfl⟩)
  ·refine⟨_,_,rfl,by simp,by simp,λy hy=>?_⟩;simp only[Ap,Aq,or_false]at hy;subst hy;exact .inr (.inl ⟨m,rfl,hm⟩)
  ·refine⟨_,_,rfl,by simp,by simp,λy hy=>?_⟩;simp only[Ap,Aq,or_false]at hy;subst hy;exact .inr (.inr (.inr ⟨by decide +kernel,l,rfl,hl,hi⟩))
 obtain⟨x,r,e,h1,h2,h3⟩:=key;refine⟨x,r,e,h1,h2,h3,λy hy=>?_⟩;rw[e0]at e;have:=Dx e;rw[<-this]at hy;exact(hp0 y hy).ye
theorem jP{xs:List Aa}{a b:Option Int}:∀x∈bI xs a b,x∈xs:=λx hx=>Er (De hx)
theorem iD(xs:List Aa)(a b:Option Int):(bI xs a b).length<=xs.length:=by
 unfold bI;rw[Br,Bw];omega
section
variable{δ:Sl}{n:Int}{Q:DQ}{w:DT}{ds:List Aa}
theorem x3(hw:∀Q:DQ,Q (.d (.tuple ds)) n->w δ n Q)(k:Q (.d (.tuple (bI ds (ae 1) ah))) n):cC w (cb (wC (.int 1))) cf δ n Q:=by
 unfold cC;refine hw _ ?_;exact k
theorem Lz(hw:∀Q:DQ,Q (.d (.tuple ds)) n->w δ n Q)(k:Q (.d (.tuple (bI ds ah (ae (-1))))) n):cC w cf (cb (cj (wC (.int 1)))) δ n Q:=by
 unfold cC;refine hw _ ?_;exact k
theorem LP(hw:∀Q:DQ,Q (.d (.tuple ds)) n->w δ n Q)(k:Q (.d (.tuple (bI ds ah (ae 1)))) n):cC w cf (cb (wC (.int 1))) δ n Q:=by
 unfold cC;refine hw _ ?_;exact k
theorem xr{xs:List Aa}(k:Q (.d (.list xs)) n):iH [.d (.tuple xs)] n Q:=k
theorem Qu{a b:List Aa}(hl:a.length+b.length<=1000)(k:Q (.d (.list (a++b))) n):dq (.d (.list a)) (.d (.list b)) n Q:=⟨fS hl,k⟩
end
theorem gA{P:Aa->Prop}{a b:List Aa}(ha:∀x∈a,P x)(hb:∀x∈b,P x):∀x∈a++b,P x:=λx hx=>(Bb.mp hx).elim (ha x) (hb x)
theorem gq{P:Aa->Prop}{a:Aa}(ha:P a):∀x∈[a],P x:=λx hx=>by rw[Bo.mp hx];exact ha
theorem Qa:∀ws n Q,tq ws n Q->ws.length=2:=λws n Q h=>by obtain⟨_,rfl,_⟩:=h;rfl
theorem nE{x:Str}(h:iC x=ai)(h2:(decide (x.length<=8)&&D8 x)=ai):Ye (.str x):=(m7 h h2).ye
theorem uX:V0 (.str "a"):=ze (by decide +kernel)
def Ev(w:DT)(δ:Sl)(n:Int)(x:Aa):Prop:=∀Q:DQ,Q (.d x) n->w δ n Q
def mY(w:fc)(δ:Sl)(n:Int)(xs:List Aa):Prop:=∀Q:List Wv->Int->Prop,Q (xs.map .d) n->w δ n Q
theorem tJ:∀xs:List Aa,ik (xs.map Wv.d)=ae xs
 |[]=>rfl
 |x::r=>by rw[Bi,ik,tJ r];rfl
section
variable{δ:Sl}{n:Int}{w w':DT}{ws:fc}{x y:Aa}{xs ys:List Aa}
theorem cF:mY ao δ n []:=λQ q=>q
theorem bg(h:Ev w δ n x)(hr:mY ws δ n xs):mY (aq w ws) δ n (x::xs):=λQ q=>h _ (hr _ q)
theorem fE(h:mY ws δ n xs)(hl:xs.length<=1000:=by exact Cb rfl):Ev (aW (aH ws)) δ n (.list xs):=λQ q=>by
 refine bf (h _ ?_);rw[tJ];exact⟨hl,q⟩
theorem eJ(h:mY ws δ n xs)(hl:xs.length<=1000:=by exact Cb rfl):Ev (aw ws) δ n (.tuple xs):=λQ q=>by
 refine h _ ?_;rw[tJ];exact⟨hl,q⟩
theorem dE{i:Nat}(e:δ[i]?=ae (ae (.w (.d x))):=by rfl):Ev (ak i) δ n x:=λQ q=>au e q
theorem cH:Ev (wC x) δ n x:=λQ q=>q
theorem o6(h:Ev w δ n (.tuple xs))(h':Ev w' δ n (.tuple ys))(hl:xs.length+ys.length<=1000000):Ev (w2 w w' cU) δ n (.tuple (xs++ys)):=λQ q=>h _ (h' _ (gH hl q))
theorem uI(h:Ev w δ n (.tuple (x::xs))):Ev (w2 w (wC (.int (0))) aB) δ n x:=λQ q=>h _ (bV q)
theorem vE(h:Ev w δ n (.tuple (x::y::xs))):Ev (w2 w (wC (.int (1))) aB) δ n y:=λQ q=>h _ (eh q)
theorem Q7(h:Ev w δ n (.tuple xs))(e:cS xs (-1)=ae x):Ev (w2 w (cj (wC (.int (1)))) aB) δ n x:=λQ q=>h _ (show(match cS xs (-1)with|some d=>Q (.d d) n|none=>False) by rw[e];exact q)
theorem rT(h:Ev w δ n (.tuple xs)):Ev (wB iH (aq w ao)) δ n (.list xs):=λQ q=>aT (h _ (xr q))
theorem Rv(h:Ev w δ n (.tuple xs)):Ev (cC w (cb (wC (.int (1)))) cf) δ n (.tuple (bI xs (ae 1) ah)):=λQ q=>x3 h q
theorem AB(h:Ev w δ n (.tuple xs)):Ev (cC w cf (cb (cj (wC (.int (1)))))) δ n (.tuple (bI xs ah (ae (-1)))):=λQ q=>Lz h q
theorem BG(h:Ev w δ n (.tuple xs)):Ev (cC w cf (cb (wC (.int (1))))) δ n (.tuple (bI xs ah (ae 1))):=λQ q=>LP h q
theorem SL(h:Ev w δ n (.tuple xs)):Ev (kj w) δ n (.tuple xs.reverse):=λQ q=>h _ q
theorem sU(h:Ev w δ n (.list xs))(h':Ev w' δ n (.list ys))(hl:xs.length+ys.length<=1000):Ev (w2 w w' dq) δ n (.list (xs++ys)):=λQ q=>h _ (h' _ (Qu hl q))
end
theorem LJ{xs:List Aa}(h:xs≠[]):∃x∈xs,cS xs (-1)=ae x:=by
 have hl:0 < xs.length:=List.length_pos_iff.mpr h;refine⟨xs[xs.length-1],Ci _,?_⟩;have e:eY xs.length (-1)=ae (xs.length-1):=by
  unfold eY;rw[if_neg (by omega),if_pos (by omega)]
  congr 1
  omega
 unfold cS;rw[e];exact Ak _
def sj(d:Aa):Prop:=d=.none\/(∃i,d=.int i)\/∃x,d=.str x
open Classical in
def qJ(d:Aa):Bool:=decide (d=.int 1)
open Classical in
theorem xm{δ:Sl}{n:Int}{w:DT}{v:Aa}(h:Ev w δ n v)(hv:sj v):Ev (w2 w (wC (.int (1))) aV) δ n (.bool (qJ v)):=λQ q=>h _ (by
 unfold qJ at q;rcases hv with rfl|⟨i,rfl⟩|⟨x,rfl⟩
 ·rw[decide_eq_false (λz=>nomatch z)]at q;exact q
 ·refine show aV (.d (.int i)) (.d (.int 1)) n Q from tE ?_
  rw[show decide (i=1)=decide (Dg i=.int 1)from decide_eq_decide.mpr ⟨λz=>by rw[z],λz=>PyData.int.inj z⟩];exact q
 ·rw[decide_eq_false (λz=>nomatch z)]at q;exact q)
theorem Nw{v:Aa}(h:cD v=ai):sj v:=by
 cases v with
 |int i=>exact .inr (.inl ⟨i,rfl⟩)
 |str x=>exact .inr (.inr ⟨x,rfl⟩)
 |_=>cases h
theorem Jj{v:Aa}(h:f9 v):sj v:=by
 rcases h with rfl|⟨i,rfl,_⟩
 ·exact .inl rfl
 ·exact .inr (.inl ⟨i,rfl⟩)
abbrev iU(ds:List Aa)(w x y z:Option SV):Sl:=[ae (.w .tp),ae (.w (.d (.tuple ds))),w,x,y,z]
theorem Ta{ds:List Aa}{a:Nat}{t:Aa}{w z:Option SV}{n n0:Int}{Q:DQ}(hd:∀x∈ds,Ye x)(hl:ds.length<=4)(ha:a < ds.length)(ht:Ye t)(k:∀(d:Aa) (n':Int),okY d->n'<=n0->Q (.d d) n')(hn:n<=n0):
  w2 (w2 (cC (ak 1) cf (cb (ak 3))) (aw (aq (ak 4) ao)) cU) (cC (ak 1) (cb (w2 (ak 3) (wC (.int (1))) (b7 λi j=>.int (i+j)))) cf) cU (iU ds w (ae (.w (.d (.int a)))) (ae (.w (.d t))) z) n Q:=by
 refine ar (ar (nK (p:=a) (ds:=ds) (λQ q=>au rfl q) (λQ q=>au rfl q) (by omega) (kx (au rfl (Ah (show 1<=1000 by decide) (gH (by rw[Br];show _+1<=_;omega) (mN (p:=a+1) (ds:=ds) (λQ q=>au rfl q) (λQ q=>ar (au rfl (aC (dH (by rw[show((a:Int)+1)=((a+1:Nat):Int) by omega];exact q))))) (by omega) (gH ?_ (k _ _ (i8 ?_ ?_) hn))))))) ))
 ·rw[Af,Br,Bw];show _+1+_<=_;omega
 ·exact gA (gA (λx hx=>hd x (De hx)) (gq ht)) λx hx=>hd x (Er hx)
 ·rw[Af,Af,Br,Bw];show _+1+_<=_;omega
abbrev RC:aP:=(av (aA 5 (aW (aH (aq (aw (aq (w2 (ak 4) (wC (.int (0))) aB) (aq (wC (.int (1))) ao))) (aq (aw (aq (w2 (ak 4) (wC (.int (0))) aB) (aq (wC .none) ao))) (aq (aw (aq (w2 (w2 (ak 4) (wC (.int (0))) aB) (aw (aq (wC (.str "a")) ao)) cU) (aq (w2 (ak 4) (wC (.int (1))) aB) ao))) (aq (aw (aq (wB iH (aq (w2 (ak 4) (wC (.int (0))) aB) ao)) (aq (w2 (ak 4) (wC (.int (1))) aB) ao))) (aq (wB iH (aq (ak 4) ao)) ao)))))))) (av (aA 5 (w2 (ak 5) (aW (aH (aq (aw (aq (w2 (cC (w2 (ak 4) (wC (.int (0))) aB) cf (cb (cj (wC (.int (1)))))) (aw (aq (w2 (w2 (w2 (ak 4) (wC (.int (0))) aB) (cj (wC (.int (1)))) aB) (wC (.int (1))) aV) ao)) cU) (aq (w2 (ak 4) (wC (.int (1))) aB) ao))) (aq (aw (aq (w2 (ak 4) (wC (.int (0))) aB) (aq (w2 (w2 (ak 4) (wC (.int (1))) aB) (wC (.int (1))) aV) ao))) ao)))) dq)) (aA 4 (w2 (ak 5) (aF cq (aq (ak 0) (aq (wC (.int (7))) ao))) aB))))
abbrev vq:aP:=(av (aA 5 (aW (aH (aq (w2 (ak 4) (aw (aq (wC (.int (0))) ao)) cU) (aq (cC (ak 4) (cb (wC (.int (1)))) cf) (aq (wB iH (aq (ak 4) ao)) (aq (kj (ak 4)) (aq (w2 (ak 4) (cC (ak 4) cf (cb (wC (.int (1))))) cU) ao)))))))) (aA 4 (w2 (w2 (ak 5) (aW (aH (aq (wB d5 (aq (aW (cQ [ah] (ft (ak 4)) (aJ 0) cO (w2 (ak 0) (wC (.int (1))) aV))) ao)) ao))) dq) (aF cq (aq (ak 0) (aq (wC (.int (6))) ao))) aB)))
theorem JT{ds:List Aa}{w a:Option SV}{q:Nt}{n:Int}{K:DEnds}(h:kD q)(hn:n < 2 ^ 40)(k:∀(t z:Aa),Ye t->K.nx (iU ds w a (ae (.w (.d t))) (ae (.w (.d z)))) (n+1)):RC (iU ds w a (ae (.w (.d (cR q)))) ah) n K:=by
 obtain⟨⟨⟨h4,h1⟩,hv⟩,hg⟩:=h;have hv0:∀x∈q.1,V0 x:=λx hx=>ze (hv x hx);have hg0:V0 q.2:=MJ hg;have ne:q.1≠[]:=λz=>by rw[z]at h1;exact absurd h1 (by decide)
 obtain⟨l,hl,el⟩:=LJ ne;have r0:∀{δ:Sl}{n:Int},δ[4]?=ae (ae (.w (.d (cR q))))->Ev (w2 (ak 4) (wC (.int (0))) aB) δ n (.tuple q.1):=λe=>uI (dE e);have r1:∀{δ:Sl}{n:Int},δ[4]?=ae (ae (.w (.d (cR q))))->Ev (w2 (ak 4) (wC (.int (1))) aB) δ n q.2:=λe=>vE (dE e);have y0:V1 (.tuple q.1):=jX hv0 (by omega);refine aD (bC (fE (bg (eJ (bg (r0 rfl) (bg cH cF))) (bg (eJ (bg (r0 rfl) (bg cH cF))) (bg (eJ (bg (o6 (r0 rfl) (eJ (bg cH cF)) (by show _+1<=_;omega)) (bg (r1 rfl) cF))) (bg (eJ (bg (rT (r0 rfl)) (bg (r1 rfl) cF))) (bg (rT (dE (x:=cR q))) cF)))))) ?_);dsimp only[Al];refine aD (bC (sU dE (fE (bg (eJ (bg (o6 (AB (r0 rfl)) (eJ (bg (xm (Q7 (r0 rfl) el) (Nw (hv l hl))) cF)) ?_) (bg (r1 rfl) cF))) (bg (eJ (bg (r0 rfl) (bg (xm (r1 rfl) (Jj hg)) cF))) cF))) (Cb rfl)) ?_)
 ·have:=iD q.1 ah (ae (-1));show _+1<=_;omega
 dsimp only[Al];refine ar (au rfl (gx (m:=7) rfl hn (by decide) (by decide) λp p0 p1=>iY p0 p1 λd hd=>?_));refine k d _ ?_;simp only[Bb,Ap,Aq,or_false]at hd;rcases hd with(rfl|rfl|rfl|rfl|rfl)|rfl|rfl
 ·exact mJ y0 (i6 (by decide) (by decide))
 ·exact mJ y0 v0_none
 ·exact mJ (jX (gA hv0 (gq uX)) (by rw[Af];show _+1<=_;omega)) hg0
 ·exact mJ (qu hv0 (by omega)) hg0
 ·exact RR y0 hg0
 ·exact mJ (jX (gA (λx hx=>hv0 x (jP x hx)) (gq (mX _))) (by have:=iD q.1 ah (ae (-1));rw[Af];show _+1<=_;omega)) hg0
 ·exact mJ y0 (mX _)
theorem IH(xs:List Aa):(bI xs ah (ae 1)).length<=1:=by
 unfold bI;rw[Br];have:HT.sIx xs.length xs.length (ae 1)<=1:=by
  rw[show(1:Int)=((1:Nat):Int)from rfl,HT.sIx_nat];omega
 omega
theorem Na{ds:List Aa}{w a:Option SV}{l:List Nat}{n:Int}{K:DEnds}(hl:l.length<=60)(hi:∀i∈l,i<=90)(hn:n < 2 ^ 40)(k:∀(t z:Aa),Ye t->K.nx (iU ds w a (ae (.w (.d t))) (ae (.w (.d z)))) (n+1)):vq (iU ds w a (ae (.w (.d (.tuple (aG l))))) ah) n K:=by
 have hv0:∀x∈aG l,V0 x:=λx hx=>by
  obtain⟨i,hi',rfl⟩:=Bg.mp hx;have:=hi i hi';exact i6 (by omega) (by omega)
 have hlen:(aG l).length<=60:=by unfold aG;rw[Ab];exact hl
 refine aD (bC (fE (bg (o6 (dE (x:=.tuple (aG l))) (eJ (bg cH cF)) (by show _+1<=_;omega)) (bg (Rv (dE (x:=.tuple (aG l)))) (bg (rT (dE (x:=.tuple (aG l)))) (bg (SL (dE (x:=.tuple (aG l)))) (bg (o6 (dE (x:=.tuple (aG l))) (BG (dE (x:=.tuple (aG l)))) (by have:=iD (aG l) ah (ae 1);omega)) cF)))))) ?_);dsimp only[Al];have hc:∀{δ:Sl}{n:Int},δ[4]?=ae (ae (.w (.d (.tuple (aG l)))))->Ev (wB d5 (aq (aW (cQ [ah] (ft (ak 4)) (aJ 0) cO (w2 (ak 0) (wC (.int (1))) aV))) ao)) δ n (.tuple ((aG l).map λd=>.bool (qJ d))):=λ{δ n} e Q q=>by
  refine aT (bf (jx (λQ q=>au e q) ?_));refine yQ sj (λd=>.bool (qJ d)) (λd n Q' hd q=>xm (dE rfl) hd Q' q) _ [] _ n (λd hd=>?_) (show d5 [.d (.list _)] n Q from q);obtain⟨i,_,rfl⟩:=Bg.mp hd;exact .inr (.inl ⟨_,rfl⟩)
 refine ar (sU dE (fE (bg (hc rfl) cF)) (Cb rfl) _ ?_);refine gx (m:=6) rfl hn (by decide) (by decide) λp p0 p1=>iY p0 p1 λd hd=>?_;refine k d _ ?_;simp only[Bb,Ap,Aq,or_false]at hd;rcases hd with(rfl|rfl|rfl|rfl|rfl)|rfl
 ·exact(jX (gA hv0 (gq (i6 (by decide) (by decide)))) (by rw[Af];show _+1<=_;omega)).ye
 ·exact(jX (λx hx=>hv0 x (jP x hx)) (by have:=iD (aG l) (ae 1) ah;omega)).ye
 ·exact(qu hv0 (by omega)).ye
 ·exact(jX (λx hx=>hv0 x (List.mem_reverse.mp hx)) (by rw[F5];omega)).ye
 ·exact(jX (gA hv0 λx hx=>hv0 x (jP x hx)) (by rw[Af];have:=IH (aG l);omega)).ye
 ·exact(jX (λx hx=>by obtain⟨y,_,rfl⟩:=Bg.mp hx;exact mX _) (by rw[Ab];omega)).ye
theorem Km:∀ws n Q,tq ws n Q->BJ (bE ["_law_tape_here","_law_row_here","_law_way","_law_at","_law_thing","_law_some"] ws) n {nx:=λ_ n=>Q (.d .none) n,rt:=Q}:=λws n Q h=>by
 obtain⟨row,rfl,rs,hn,k⟩:=h;obtain⟨x,r,rfl,hr1,hr3,htk,hye⟩:=Ol rs;show BJ (iU (.str x::r) ah ah ah ah) n _;have hl4:(Cg x::r).length<=4:=by rw[An];omega
 have hl2:2<=(Cg x::r).length:=by rw[An];omega
 refine aD (px (m:=6) rfl (by omega) (by decide) (by decide) λw w0 w1=>?_);dsimp only[Al];have eqw:∀(j:Int) b,decide (w=j)=b->∀Q:Bool->Int->Prop,Q b (n+1)->cT (w2 (ak 2) (wC (.int j)) aV) (iU (.str x::r) (ae (.w (.d (.int w)))) ah ah ah) (n+1) Q:=λj b e Q q=>aE (k:=b) (λQ q=>ar (au rfl (aC (tE (by rw[e];exact q))))) q;by_cases e0:w=0
 ·refine cg (eqw 0 ai (decide_eq_true e0)) ?_;refine ar (kx (ar (bf (Ah (by decide) ?_))));dsimp only;refine gx (m:=6) rfl (by omega) (by decide) (by decide) λq q0 q1=>iY (ds:=[.str "lays",.str "takes",.str "reads",.str "looks",.str "goes",.str "clock"]) q0 q1 λd hd=>?_;have hy:Ye d:=by
   simp only[Ap,Aq,or_false]at hd;rcases hd with rfl|rfl|rfl|rfl|rfl|rfl<;>exact nE (by decide +kernel) (by decide +kernel)
  refine Ah (show 1<=1000 by decide) (x3 (ds:=.str x::r) (λQ q=>au rfl q) (gH ?_ (k _ _ (i8 (gA (gq hy) λy hy=>hye y (jP y hy)) ?_) (by omega))))
  ·have:=iD (.str x::r) (ae 1) ah;show 1+_<=_;omega
  ·have:=iD (.str x::r) (ae 1) ah;rw[Af];show 1+_<=_;omega
 refine bG (eqw 0 aj (decide_eq_false e0)) ?_;by_cases e1:w=1
 ·refine cg (eqw 1 ai (decide_eq_true e1)) ?_;have hx:∀{δ:Sl}{n:Int},δ[1]?=ae (ae (.w (.d (.tuple (.str x::r)))))->Ev (ak 1) δ n (.tuple (.str x::r)):=λe=>dE e;refine ar (fE (bg (o6 (hx rfl) (eJ (bg cH cF)) (by show _+1<=_;omega)) (bg (AB (hx rfl)) (bg (rT (hx rfl)) (bg (BG (hx rfl)) cF)))) (by simp) _ ?_);refine gx (m:=4) rfl (by omega) (by decide) (by decide) λq q0 q1=>iY q0 q1 λd hd=>k d _ ?_ (by omega);simp only[Ap,Aq,or_false]at hd;rcases hd with rfl|rfl|rfl|rfl
  ·exact i8 (gA hye (gq (i6 (by decide) (by decide)).ye)) (by rw[Af];show _+1<=_;omega)
  ·exact i8 (λy hy=>hye y (jP y hy)) (by have:=iD (.str x::r) ah (ae (-1));omega)
  ·exact Qt hye (by omega)
  ·exact i8 (λy hy=>hye y (jP y hy)) (by have:=iD (.str x::r) ah (ae 1);omega)
 refine bG (eqw 1 aj (decide_eq_false e1)) ?_;refine aD (show aA 3 _ _ _ _ from ar (aC (iQ (m:=((Cg x::r).length:Int)-1) rfl (λQ q=>ar (aT (au rfl (vP (aC q))))) (by omega) (by omega) (by omega) λp p0 p1=>?_)));obtain⟨a,ea⟩:∃a:Nat,(1:Int)+p=a:=⟨(1+p).toNat,by omega⟩;refine dH ?_;rw[ea];dsimp only[Al];have ha1:1<=a:=by omega
 have ha:a < (Cg x::r).length:=by omega
 obtain⟨t,et⟩:∃t,(Cg x::r)[a]?=ae t:=⟨_,Ak ha⟩;have htr:t∈r:=by
  obtain⟨b,rfl⟩:∃b,a=b+1:=⟨a-1,by omega⟩;rw[Gi]at et;exact A5 et
 refine aD (bC (x:=t) (λQ q=>ar (au rfl (au rfl (bU et q)))) ?_);dsimp only[Al];have isn:∀b,gC t=b->∀Q:Bool->Int->Prop,Q b (n+1+1)->cT (w2 (ak 4) (wC .none) (cL aj)) (iU (.str x::r) (ae (.w (.d (.int w)))) (ae (.w (.d (.int a)))) (ae (.w (.d t))) ah) (n+1+1) Q:=λb e Q q=>aE (k:=b) (λQ q=>ar (au rfl (aC (show Q (.d (.bool (gC t))) _ by rw[e];exact q)))) q;have isi:∀b,cE "int" t=b->∀Q:Bool->Int->Prop,Q b (n+1+1)->cT (bw "int" (ak 4)) (iU (.str x::r) (ae (.w (.d (.int w)))) (ae (.w (.d (.int a)))) (ae (.w (.d t))) ah) (n+1+1) Q:=λb e Q q=>aE (k:=b) (λQ q=>au rfl (show Q (.d (.bool (cE "int" t))) _ by rw[e];exact q)) q;have lay:∀b,decide (x="lays")=b->∀Q:Bool->Int->Prop,Q b (n+1+1)->cT (w2 (w2 (ak 1) (wC (.int (0))) aB) (wC (.str "lays")) aV) (iU (.str x::r) (ae (.w (.d (.int w)))) (ae (.w (.d (.int a)))) (ae (.w (.d t))) ah) (n+1+1) Q:=λb e Q q=>aE (k:=b) (λQ q=>ar (ar (au rfl (aC (bV (aC (show aV (.d (.str x)) (.d (.str "lays")) _ Q from(show Q (.d (.bool (decide (x="lays")))) _ by rw[e];exact q)))))))) q;have fin:∀(t':Aa)(z:Option SV),Ye t'->w2 (w2 (cC (ak 1) cf (cb (ak 3))) (aw (aq (ak 4) ao)) cU) (cC (ak 1) (cb (w2 (ak 3) (wC (.int (1))) (b7 λi j=>.int (i+j)))) cf) cU (iU (.str x::r) (ae (.w (.d (.int w)))) (ae (.w (.d (.int a)))) (ae (.w (.d t'))) z) (n+1+1+1) Q:=λt' z ht=>Ta hye hl4 ha ht k (by omega);rcases htk t htr with rfl|⟨i,rfl,hi⟩|⟨rfl,q,hq,rfl⟩|⟨nl,l,rfl,hl,hi⟩
 ·-- None
  refine cg (isn ai rfl) ?_;refine ar (ar (nK (p:=a) (ds:=.str x::r) (λQ q=>au rfl q) (λQ q=>au rfl q) (by omega) (kx (ar (bf (Ah (by decide) ?_))))));dsimp only;refine gx (m:=3) rfl (by omega) (by decide) (by decide) λq q0 q1=>iY (ds:=[.int 0,.bool aj,.int 1]) q0 q1 λd hd=>?_;have hy:Ye d:=by
   simp only[Ap,Aq,or_false]at hd;rcases hd with rfl|rfl|rfl
   ·exact(i6 (by decide) (by decide)).ye
   ·exact(mX _).ye
   ·exact(i6 (by decide) (by decide)).ye
  refine Ah (show 1<=1000 by decide) (gH (by rw[Br];show _+1<=_;omega) (mN (p:=a+1) (ds:=.str x::r) (λQ q=>au rfl q) (λQ q=>ar (au rfl (aC (dH (by rw[show((a:Int)+1)=((a+1:Nat):Int) by omega];exact q))))) (by omega) (gH ?_ (k _ _ (i8 ?_ ?_) (by omega)))))
  ·rw[Af,Br,Bw];show _+1+_<=_;omega
  ·exact gA (gA (λx hx=>hye x (De hx)) (gq hy)) λx hx=>hye x (Er hx)
  ·rw[Af,Af,Br,Bw];show _+1+_<=_;omega
 ·-- a number
  refine bG (isn aj rfl) ?_;refine aD (bF (isi ai rfl) ?_);refine(show aA 4 _ _ _ _ from ar (fE (bg (x:=.int (i+1)) (λQ q=>ar (au rfl (aC (dH q)))) (bg (x:=.int (i-1)) (λQ q=>ar (au rfl (aC (show b7 (λi j=>.int (i-j)) (.d (.int i)) (.d (.int 1)) _ Q from q)))) (bg (x:=.bool (decide ((i:Int) > 0))) (λQ q=>ar (au rfl (aC q))) (bg cH (bg cH cF))))) (Cb rfl) _ (gx (m:=5) rfl (by omega) (by decide) (by decide) λq q0 q1=>iY q0 q1 λd hd=>?_)));dsimp only[Al];refine bb (fin d _ ?_);simp only[Ap,Aq,or_false]at hd;rcases hd with rfl|rfl|rfl|rfl|rfl
  ·exact(i6 (by omega) (by omega)).ye
  ·exact(i6 (by omega) (by omega)).ye
  ·exact(mX _).ye
  ·exact v0_none.ye
  ·exact(i6 (by decide) (by decide)).ye
 ·-- a note
  refine bG (isn aj rfl) ?_;refine aD (a8 (isi aj rfl) (bF (lay ai (decide_eq_true rfl)) (JT hq (by omega) λt z ht=>?_)));dsimp only;refine bb ?_;exact fin t _ ht
 ·-- what the clock took
  refine bG (isn aj rfl) ?_;refine aD (a8 (isi aj rfl) (a8 (lay aj (decide_eq_false nl)) (Na hl hi (by omega) λt z ht=>?_)));dsimp only;refine bb ?_;exact fin t _ ht
theorem RK:∀ws n Q,tO ws n Q->ws.length=3:=λws n Q h=>by obtain⟨_,_,rfl,_⟩:=h;rfl
theorem jM{rs:List Aa}(h:∀r∈rs,okY r)(hl:rs.length<=40):okTh (.list rs):=
 ⟨⟨tP λx hx=>(h x hx).1,(tS (k:=6) (w:=20000) (m:=40) (λx hx=>(h x hx).2) hl).up (by decide) (by decide)⟩,λrs' e=>by rw[<-PyData.list.inj e];exact⟨hl,h⟩⟩
theorem Te{rs:List Aa}(h:∀r∈rs,okY r)(hl:rs.length<=40):okTh (.tuple rs):=
 ⟨⟨kL λx hx=>(h x hx).1,(kH (k:=6) (w:=20000) (m:=40) (λx hx=>(h x hx).2) hl).up (by decide) (by decide)⟩,λrs' e=>nomatch e⟩
theorem Ye.y{d:Aa}(h:Ye d):okY d:=⟨h.1,h.2.up (by decide) (by decide)⟩
theorem gv{d:Aa}(h:okY d)(hn:∀rs,d≠.list rs):okTh d:=⟨⟨h.1,(show Sm 6 20000 d from h.2).up (by decide) (by decide)⟩,λrs e=>absurd e (hn rs)⟩
theorem v1_e:V1 (.tuple []):=jX (λx hx=>absurd hx Aq) (Bk _)
theorem tw:okY (.tuple []):=v1_e.ye.y
theorem Ik:okY (.tuple [.str "clock",.tuple []]):=i8 (λx hx=>by
 simp only[Ap,Aq,or_false]at hx;rcases hx with rfl|rfl
 ·exact nE (by decide +kernel) (by decide +kernel)
 ·exact v1_e.ye) (by decide)
theorem Jd:okY (.tuple [.str "goes",.int 0]):=i8 (λx hx=>by
 simp only[Ap,Aq,or_false]at hx;rcases hx with rfl|rfl
 ·exact nE (by decide +kernel) (by decide +kernel)
 ·exact(i6 (by decide) (by decide)).ye) (by decide)
theorem Ua{n:Nat}{j:Int}(h0:-(n:Int)<=j)(h1:j < n):∃m:Nat,m < n/\eY n j=ae m:=by
 unfold eY;by_cases h:0<=j
 ·exact⟨j.toNat,by omega,by rw[if_pos h,if_pos h1]⟩
 ·exact⟨(j+n).toNat,by omega,by rw[if_neg h,if_pos h0]⟩
theorem ub{n a:Nat}(h:a < n):eY n (a:Int)=ae a:=by
 unfold eY;rw[if_pos (by omega),if_pos (by omega),Bv]
theorem vW{P:Aa->Prop}{l:List Aa}{i:Nat}{x:Aa}(h:∀y∈l,P y)(hx:P x):∀y∈l.set i x,P y:=λy hy=>by
 rcases List.mem_or_eq_of_mem_set hy with h1|rfl
 ·exact h y h1
 ·exact hx
section
variable{δ:Sl}{n:Int}{K:DEnds}{i j:Nat}{ds:List Aa}
theorem Pt(e:δ[j]?=ae (ae (.w (.d (.list ds)))))(k:K.nx (δ.set i (ae (.own ds))) n):bz i (kM (ak j)) δ n K:=by
 unfold bz kM ak;rw[e];exact k
theorem PN{w:DT}{m:Nat}(e:δ[i]?=ae (ae (.own ds)))(ha:∀Q:DQ,Q (.d (.int m)) n->w δ n Q)(hm:m < ds.length)(k:K.nx (δ.set i (ae (.own (ds.eraseIdx m)))) n):oR i w δ n K:=by
 unfold oR;rw[e];exact ha _ ⟨m,rfl,hm,k⟩
theorem Pj{wa wb:DT}{a:Nat}{d:Aa}(e:δ[i]?=ae (ae (.own ds)))(ha:∀Q:DQ,Q (.d (.int a)) n->wa δ n Q)(hb:∀Q:DQ,Q (.d d) n->wb δ n Q)(h:a<=ds.length/\ds.length < 1000)(k:K.nx (δ.set i (ae (.own (ds.take a++d::ds.drop a)))) n):ji i wa wb δ n K:=by
 unfold ji;rw[e];refine ha _ (hb _ ⟨⟨by omega,by omega,h.2⟩,?_⟩);rw[Bv];exact k
theorem UG{wj w:DT}{a:Nat}(e:δ[i]?=ae (ae (.own ds)))(ha:a < ds.length)(k:w δ n λx n1=>∃d,x=.d d/\(∀Q:DQ,Q (.d (.int a)) n1->wj δ n1 Q)/\K.nx (δ.set i (ae (.own (ds.set a d)))) n1)(mono:∀P P':DQ,(∀x n,P x n->P' x n)->w δ n P->w δ n P'):fQ i wj w δ n K:=by
 unfold fQ;rw[e];refine mono _ _ (λx n1 h=>?_) k;obtain⟨d,rfl,hj,k⟩:=h;refine hj _ ?_;show match eY ds.length (a:Int)with|some m=>K.nx (δ.set i (ae (.own (ds.set m d)))) n1|none=>False
 rw[ub ha];exact k
theorem Ph{r:Int}{Q:DQ}(h0:0<=r)(h1:r < (ds.length:Int))(k:∀d∈ds,Q (.d d) n):aU (.d (.list ds)) (.d (.int r)) n Q:=iY h0 h1 k
theorem zC{w u:DT}{x:Wv}{a:Int}{Q:DQ}(hw:∀Q:DQ,Q x n->w δ n Q)(hx:fq x=ae ds)(hu:∀Q:DQ,Q (.d (.int a)) n->u δ n Q)(k:Q (.d (.list (bI ds ah (ae a)))) n):kP w cf (cb u) δ n Q:=by
 unfold kP;refine hw _ ?_;dsimp only[cf,cb];refine hu _ ?_;dsimp only;rw[hx];exact k
theorem Nk{w u:DT}{x:Wv}{a:Int}{Q:DQ}(hw:∀Q:DQ,Q x n->w δ n Q)(hx:fq x=ae ds)(hu:∀Q:DQ,Q (.d (.int a)) n->u δ n Q)(k:Q (.d (.list (bI ds (ae a) ah))) n):kP w (cb u) cf δ n Q:=by
 unfold kP;refine hw _ ?_;dsimp only[cf,cb];refine hu _ ?_;dsimp only;rw[hx];exact k
theorem DY{wa wb:DT}{xs ys:List Aa}(ha:∀Q:DQ,Q (.d (.list xs)) n->wa δ n Q)(hb:∀Q:DQ,Q (.d (.list ys)) n->wb δ n Q)(hl:xs.length+ys.length<=1000)(k:K.nx (δ.set i (ae (.own (xs++ys)))) n):bz i (gJ wa wb) δ n K:=by
 unfold bz gJ;exact ha _ (hb _ ⟨fS hl,k⟩)
end
abbrev sN(l m:List Aa)(o w a:Option SV):Sl:=[ae (.w .tp),ae (.w (.d (.list l))),ae (.w (.d (.list m))),o,w,a]
theorem RX:∀ws n Q,tO ws n Q->EY (bE ["_law_tape_here","_law_log_here","_law_other","_law_rows","_law_way","_law_at"] ws) n {nx:=λ_ n=>Q (.d .none) n,rt:=Q}:=λws n Q h=>by
 obtain⟨l,m,rfl,hl,hm,rl,rm,hn,k⟩:=h;show EY (sN l m ah ah ah) n _;have yl:∀r∈l,okY r:=λr hr=>qy (rl r hr);have ym:∀r∈m,okY r:=λr hr=>qy (rm r hr);refine aD (Pt rfl ?_);dsimp only[Al];refine aD (px (m:=10) rfl (by omega) (by decide) (by decide) λw w0 w1=>?_);dsimp only[Al];have emp:∀b,l.isEmpty=b->∀Q:Bool->Int->Prop,Q b (n+1)->cT (w2 (dC 3) (aW (aH ao)) bX) (sN l m (ae (.own l)) (ae (.w (.d (.int w)))) ah) (n+1) Q:=λb e Q q=>aE (k:=b) (λQ q=>ar (gf rfl (bf (Ah (Bk _) (jm (by rw[e];exact q)))))) q;by_cases e:l=[]
 ·subst e;refine cg (emp ai rfl) ?_;refine ar (fE (bg (fE (bg (eJ (bg cH (bg (eJ cF) cF))) cF)) (bg (fE (bg (eJ (bg cH (bg cH cF))) cF)) (bg (eJ cF) (bg cH (bg (fE (bg (eJ cF) cF)) cF))))) (Cb rfl) _ ?_);refine ar (au rfl (aC (Ah (show(0:Int) < 5 by decide) ?_)));refine(show aB _ _ _ _ from iY (Eh _ (by decide)) (Dq _ (by decide)) λd hd=>k d _ ?_ (by omega));simp only[Ap,Aq,or_false]at hd;rcases hd with rfl|rfl|rfl|rfl|rfl
  ·exact jM (gq Ik) (by decide)
  ·exact jM (gq Jd) (by decide)
  ·exact gv tw λrs z=>nomatch z
  ·exact gv v0_none.ye.y λrs z=>nomatch z
  ·exact jM (gq tw) (by decide)
 have hpos:0 < l.length:=List.length_pos_iff.mpr e;refine bG (emp aj (by cases l with|nil=>exact absurd rfl e|cons _ _=>rfl)) ?_;refine aD (show aA 5 _ _ _ _ from iQ (m:=(l.length:Int)) rfl (λQ q=>aT (gf rfl (BZ q))) (by omega) (by omega) (by omega) λp p0 p1=>?_);obtain⟨a,rfl⟩:∃a:Nat,p=a:=⟨p.toNat,by omega⟩;dsimp only[Al];have ha:a < l.length:=by omega
 obtain⟨t,et⟩:∃t,l[a]?=ae t:=⟨_,Ak ha⟩;have ht:t∈l:=A5 et;have eqw:∀(j:Int) b,decide (w=j)=b->∀Q:Bool->Int->Prop,Q b (n+1+1)->cT (w2 (ak 4) (wC (.int j)) bX) (sN l m (ae (.own l)) (ae (.w (.d (.int w)))) (ae (.w (.d (.int a))))) (n+1+1) Q:=λj b e Q q=>aE (k:=b) (λQ q=>ar (au rfl (aC (show aV (.d (.int w)) (.d (.int j)) _ Q from tE (by rw[e];exact q))))) q;have fin:∀(rows:List Aa)(n':Int),(∀r∈rows,okY r)->rows.length<=40->n'<=n+5->b9 3 (az (ak 3)) (sN l m (ae (.own rows)) (ae (.w (.d (.int w)))) (ae (.w (.d (.int a))))) n' {nx:=λ_ n=>Q (.d .none) n,rt:=Q}:=λrows n' h1 h2 h3=>gK rfl (bb (au rfl (k _ _ (jM h1 h2) h3)));have atl:∀(j:Int)(x:Aa),cS l j=ae x->∀Q:DQ,Q (.d x) (n+1+1)->aU (.ln l) (.d (.int j)) (n+1+1) Q:=λj x e Q q=>show(match cS l j with|some d=>Q (.d d) _|none=>False) by rw[e];exact q
 by_cases e0:w=0
 ·refine aD (bF (eqw 0 ai (decide_eq_true e0)) (PN (m:=a) rfl (λQ q=>au rfl q) ha ?_));exact fin _ _ (λr hr=>yl r (List.mem_of_mem_eraseIdx hr)) (by rw[List.length_eraseIdx];split<;>omega) (by omega)
 by_cases e1:w=1
 ·refine aD (a8 (eqw 0 aj (decide_eq_false e0)) (bF (eqw 1 ai (decide_eq_true e1)) (Pj (a:=a) (d:=t) rfl (λQ q=>au rfl q) (λQ q=>ar (gf rfl (au rfl (atl _ t (fi et) Q q)))) ⟨by omega,by omega⟩ ?_)));refine fin _ _ ?_ (by rw[Af,An,Br,Bw];omega) (by omega);intro r hr;rcases Bb.mp hr with h|h
  ·exact yl r (De h)
  ·rcases Ap.mp h with rfl|h
   ·exact yl _ ht
   ·exact yl r (Er h)
 by_cases e2:w=2
 ·refine aD (a8 (eqw 0 aj (decide_eq_false e0)) (a8 (eqw 1 aj (decide_eq_false e1)) (bF (eqw 2 ai (decide_eq_true e2)) ?_)));refine DY (λQ q=>zC (λQ q=>gf rfl q) rfl (λQ q=>au rfl q) q) (λQ q=>Nk (λQ q=>au rfl q) rfl (λQ q=>au rfl q) q) ?_ ?_
  ·have:=iD l ah (ae (a:Int));have:=iD m (ae (a:Int)) ah;omega
  ·exact fin _ _ (gA (λr hr=>yl r (jP r hr)) λr hr=>ym r (jP r hr)) (by rw[Af];have:=iD l ah (ae (a:Int));have:=iD m (ae (a:Int)) ah;omega) (by omega)
 by_cases e3:w=3
 ·refine aD (a8 (eqw 0 aj (decide_eq_false e0)) (a8 (eqw 1 aj (decide_eq_false e1)) (a8 (eqw 2 aj (decide_eq_false e2)) (bF (eqw 3 ai (decide_eq_true e3)) ?_))));obtain⟨b,hb,eb⟩:=Ua (n:=l.length) (j:=(a:Int)-1) (by omega) (by omega);have exb:cS l ((a:Int)-1)=ae l[b]:=by unfold cS;rw[eb];exact Ak hb
  have sub1:∀{δ:Sl}{n:Int},δ[5]?=ae (ae (.w (.d (.int a))))->∀Q:DQ,Q (.d (.int ((a:Int)-1))) n->w2 (ak 5) (wC (.int (1))) (b7 λi j=>.int (i-j)) δ n Q:=λe Q q=>ar (au e (aC q));refine(show uE 3 _ _ _ _ _ _ from eJ (bg (x:=l[b]) (λQ q=>ar (gf rfl (sub1 rfl _ (atl _ _ exb _ q)))) (bg (x:=t) (λQ q=>ar (gf rfl (au rfl (atl _ t (fi et) _ q)))) cF)) (Cb rfl) _ ?_);refine⟨l,l[b],t,rfl,rfl,au rfl ⟨a,a,rfl,ub ha,sub1 rfl _ ⟨(a:Int)-1,b,rfl,eb,?_⟩⟩⟩;exact fin _ _ (vW (vW yl (yl _ (Ci _))) (yl _ ht)) (by rw[B4,B4];omega) (by omega)
 by_cases e4:w=4
 ·refine aD (a8 (eqw 0 aj (decide_eq_false e0)) (a8 (eqw 1 aj (decide_eq_false e1)) (a8 (eqw 2 aj (decide_eq_false e2)) (a8 (eqw 3 aj (decide_eq_false e3)) (bF (eqw 4 ai (decide_eq_true e4)) ?_)))));refine gK rfl (bb ?_);dsimp only[Al];refine ar (fE (bg (x:=.tuple l) (λQ q=>aT (au rfl (ky q))) (bg (sU dE (fE (bg (eJ cF) cF)) (by show _+1<=_;omega)) (bg (sU dE (fE (bg cH cF)) (by show _+1<=_;omega)) (bg (x:=.list (bI l ah (ae (a:Int)))) (λQ q=>zC (λQ q=>au rfl q) rfl (λQ q=>au rfl q) q) cF)))) (Cb rfl) _ ?_);refine gx (m:=4) rfl (by omega) (by decide) (by decide) λq q0 q1=>Ph q0 q1 λd hd=>k d _ ?_ (by omega);simp only[Ap,Aq,or_false]at hd;rcases hd with rfl|rfl|rfl|rfl
  ·exact Te yl (by omega)
  ·exact jM (gA yl (gq tw)) (by rw[Af];show _+1<=_;omega)
  ·exact jM (gA yl (gq v0_none.ye.y)) (by rw[Af];show _+1<=_;omega)
  ·exact jM (λr hr=>yl r (jP r hr)) (by have:=iD l ah (ae (a:Int));omega)
 ·refine aD (a8 (eqw 0 aj (decide_eq_false e0)) (a8 (eqw 1 aj (decide_eq_false e1)) (a8 (eqw 2 aj (decide_eq_false e2)) (a8 (eqw 3 aj (decide_eq_false e3)) (a8 (eqw 4 aj (decide_eq_false e4)) ?_)))));show fQ 3 _ _ _ _ _;unfold fQ;refine bJ (au rfl (ar (gf rfl (au rfl (atl _ t (fi et) _ ⟨t,rfl,rl t ht,by omega,λd n' hd hn'=>?_⟩)))));refine au rfl ?_;show match eY l.length (a:Int)with|some m=>_|none=>False
  rw[ub ha];exact fin _ _ (vW yl hd) (by rw[B4];omega) (by omega)
theorem LR{ps:Pg}{s t:Sd}{nu:List Nat}{fr m:Nat}(B:okBd ps s t nu fr m):dU ps (aI ps s nu fr m).1=.int m:=by
 have key:∀(x:Str)(b:Aa)(r:List Aa),x≠"clock"->dU ps (.tuple (.str x::b::r))=b:=λx b r h=>by
  show(if fO (.str x)=ai then Dg ps.length else b)=b;rw[if_neg (show ¬fO (.str x)=ai from λz=>h (of_decide_eq_true z))]
 by_cases em:m=ps.length
 ·subst em;rw[k9];show(if fO (.str "clock")=ai then Dg ps.length else PyData.tuple (aG (eQ nu s.2)))=_;rw[if_pos (show fO (.str "clock")=ai from decide_eq_true (show("clock":Str)="clock" from rfl))]
 ·have hm:m < ps.length:=by have:=B.le;omega
  obtain⟨P,xb,xp,nm',w,as,a,H,ea,T⟩:=kO B.st.2.1 hm B.af;rw[lu hm ea];cases a with
  |lay fs age=>exact key _ _ _ (by decide +kernel)
  |take gs=>exact key _ _ _ (by decide +kernel)
  |read gs=>exact key _ _ _ (by decide +kernel)
  |look gs b=>exact key _ _ _ (by decide +kernel)
  |go b=>exact key _ _ _ (by decide +kernel)
  |same f g b=>exact key _ _ _ (by decide +kernel)
theorem IV{ps:Pg}(okp:cz ps){s:Sd}{nu:List Nat}{fr:Nat}{L:List Nat}{R:List Aa}(h:Lgs ps s nu fr L R):LtI ps s nu fr L.length->fC ps s nu fr R=ai/\∀r∈R,jk r:=by
 induction h with
 |nil=>exact λ_=>⟨by rw[fC],λr hr=>absurd hr Aq⟩
 |@cons s t nu fr m L R hm af hL ih=>
  intro I;obtain⟨B,I2⟩:=I.step okp hm af;obtain⟨h1,h2⟩:=ih I2;have em:jB ps (.int m)=ae m:=by rw[pX,if_pos ⟨by omega,by omega⟩,Bv]
  have ea:hU ps s.1 s.2 (.int m)=ae t:=by unfold hU;rw[em];exact af
  have en:fK ps (.int m)=m:=by unfold fK;rw[em];rfl
  refine⟨?_,λr hr=>?_⟩
  ·rw[oU,LR B,ea];show(fN _ _&&_)=ai;rw[en,jK rfl,E8];exact h1
  ·rcases Ap.mp hr with rfl|hr
   ·exact I.rw B
   ·exact h2 r hr
def Lgg(d:Aa):Prop:=∃R:List Aa,d=.list R/\R.length<=16/\∀r∈R,jk r
theorem Lgg.th{d:Aa}(h:Lgg d):okTh d:=by
 obtain⟨R,rfl,hl,hr⟩:=h;exact jM (λr z=>qy (hr r z)) (by omega)
theorem GG{ps:Pg}{ns:List Nt}{L:List Nat}{S:List Sd}(pl:gV ps ns)(hl:L.length<=16)(W:Wlk ps (eL ps,ns) L S):∃R,mi ps ns L R/\Lgg (.list R)/\gm ps ns (.list R)=ai:=by
 have hlt:L.length < S.length:=by rw[W.len];exact Nat.lt_succ_self _
 have:=yH W L.length 0 (by omega) W.fst (by rw[Nat.zero_add];exact Ak hlt);rw[List.drop_zero,List.take_of_length_le (Ao _)]at this;obtain⟨R,h⟩:=N5 this (Ba ns.length) ns.length;obtain⟨h1,h2⟩:=IV pl.1 h (mf pl (by omega));exact⟨R,⟨pl.1,pl.2.1,pl.2.2,hl,h⟩,⟨R,rfl,by rw[Hi h];exact hl,h2⟩,h1⟩
theorem vC{n:Int}{Q:DQ}{a:Aa}{r:List Aa}(k:Q (.d a) n):aU (.d (.tuple (a::r))) (.d (.int 0)) n Q:=bV (r:=r) k
theorem pE{δ:Sl}{n:Int}{i:Nat}{ps:Pg}{ns:List Nt}{Q:DQ}{mo:Nat}{j:Int}(ej:j=mo)(h1:δ[1]?=ae (ae (.w .tp)))(hi:δ[i]?=ae (ae (.w (.d (.tuple [aY ps,bN ns])))))(pl:gV ps ns)(hm:mo<=16)(hn:n+62 < 2 ^ 39)
  (k:∀(L:List Nat)(S:List Sd)(n':Int),Wlk ps (eL ps,ns) L S->L.length<=16->n'<=n+62->Q (.d (.tuple [.list (aG L),.list (S.map cI)])) n'):
  aF nc (aq (ak 1) (aq (w2 (ak i) (wC (.int (0))) aU) (aq (aF kl (aq (ak i) ao)) (aq (wC (.int j)) ao)))) δ n Q:=by
 subst ej;exact j7 (au h1 (ar (au hi (aC (vC (cu (au hi ⟨ps,ns,rfl,pl.1.1,aC ⟨ps,(eL ps,ns),mo,rfl,hm,pl.1,pl.2.1,pl.2.2,hn,k⟩⟩)))))))
abbrev HR(a b:Aa)(g:List Aa)(x5 x6 x7 x8:Option SV):Sl:=[ah,ae (.w .tp),ae (.w (.d a)),ae (.w (.d b)),ae (.own g),x5,x6,x7,x8]
theorem og{δ:Sl}{n:Int}:Ev (aW (aH ao)) δ n (.list []):=λQ q=>jC q
theorem nA{d:Aa}(h:okY d):okTh (.list [d]):=jM (gq h) (Cb rfl)
theorem GM:Ye (.str "clock"):=nE (by decide +kernel) (by decide +kernel)
theorem v1_le:V1 (.list []):=qu (λx hx=>absurd hx Aq) (Bk _)
theorem L3{x:Str}(h:iC x=ai)(h2:(decide (x.length<=8)&&D8 x)=ai):V0 (.str x):=⟨(m7 h h2).sf,Hz h2⟩
theorem Np:Ye (.list [.str "clock"]):=(qu (gq (L3 (by decide +kernel) (by decide +kernel))) (by decide)).ye
theorem Lw{δ:Sl}{n:Int}{K:DEnds}{i:Nat}{ws:fc}{xs:List Aa}(h:mY ws δ n xs)(k:K.nx (δ.set i (ae (.own xs))) n)(hl:xs.length<=1000:=by exact Cb rfl):bz i (aH ws) δ n K:=by
 refine h _ ?_;rw[tJ];exact⟨hl,k⟩
abbrev xK:List Aa:=[.none,.bool ai,.int 0,.str "",.tuple [],.str "goes",.list [.list []],.list [.none],.list [.tuple [.str "clock"]],.list [.tuple [.str "clock",.list []]],.list [.tuple [.list [.str "clock"],.tuple []]]]
theorem vL{a b n:Int}{Q:DQ}(k:Q (.d (.int (a-b))) n):b7 (λi j=>.int (i-j)) (.d (.int a)) (.d (.int b)) n Q:=k
theorem Uq:∀d∈xK,okTh d:=λd hd=>by
 simp only[Ap,Aq,or_false]at hd;rcases hd with rfl|rfl|rfl|rfl|rfl|rfl|rfl|rfl|rfl|rfl|rfl
 ·exact gv v0_none.ye.y λrs z=>nomatch z
 ·exact gv (mX _).ye.y λrs z=>nomatch z
 ·exact gv (i6 (by decide) (by decide)).ye.y λrs z=>nomatch z
 ·exact gv (nE (by decide +kernel) (by decide +kernel)).y λrs z=>nomatch z
 ·exact gv tw λrs z=>nomatch z
 ·exact gv (nE (by decide +kernel) (by decide +kernel)).y λrs z=>nomatch z
 ·exact nA v1_le.ye.y
 ·exact nA v0_none.ye.y
 ·exact nA (i8 (gq GM) (by decide))
 ·exact nA (i8 (λx hx=>l5 (P:=Ye) GM v1_le.ye hx) (by decide))
 ·exact nA (i8 (λx hx=>l5 (P:=Ye) Np v1_e.ye hx) (by decide))
abbrev Za:List Str:=["_law_script","_law_tape_here","_law_plan_here","_law_other_plan","_law_logs","_law_k","_law_movers_here","_law_stands","_law_things"]
theorem IW:Gz (ah::ae (.w .tp)::C4 (List.length Za-2) ah) 0 pK:=by
 show Gz [ah,ae (.w .tp),ah,ah,ah,ah,ah,ah,ah] 0 pK;refine aD (show aA 2 _ _ _ _ from cu (au rfl (Ah rfl ⟨by decide,λps ns n1 hp hf okn hn1=>?_⟩)));dsimp only[Al];refine aD (show aA 3 _ _ _ _ from cu (au rfl (Ah rfl ⟨by omega,λps' ns' n2 hp' hf' okn' hn2=>?_⟩)));dsimp only[Al];have pl:gV ps ns:=⟨hp,DH hp hf,okn⟩;have pl':gV ps' ns':=⟨hp',DH hp' hf',okn'⟩;refine aD (jl ?_);dsimp only[Al];refine aD (yp 2 rfl (by decide) ?_);refine fW (λds δ n=>∃(g:List Aa)(x5 x6 x7:Option SV),δ=HR (.tuple [aY ps,bN ns]) (.tuple [aY ps',bN ns']) g x5 x6 x7 ah/\(∀d∈g,Lgg d)/\g.length+ds.length=2/\(∀(i:Nat)(d:Aa),ds[i]?=ae d->d=.int ((g.length+i:Nat):Int))/\n+70*(ds.length:Int)<=9000) (λδ n I=>?_) (λd' t δ n N I kN=>?_) _ _ _ ⟨[],_,_,_,rfl,λd hd=>absurd hd Aq,by rw[eU];rfl,λi d e=>?_,by rw[eU];omega⟩
 ·obtain⟨g,x5,x6,x7,rfl,hg,hgl,_,hn⟩:=I;have hg2:g.length=2:=by simpa using hgl
  have hn':n<=9000:=by simpa using hn
  dsimp only;refine aD (Lw (bg cH (bg cH (bg cH (bg cH (bg (eJ cF) (bg cH (bg (fE (bg og cF)) (bg (fE (bg cH cF)) (bg (fE (bg (eJ (bg cH cF)) cF)) (bg (fE (bg (eJ (bg cH (bg og cF))) cF)) (bg (fE (bg (eJ (bg (fE (bg cH cF)) (bg (eJ cF) cF))) cF)) cF))))))))))) ?_);dsimp only[Al];refine aD (yp 6 rfl (by decide) ?_);refine fW (λds δ n=>∃(th:List Aa)(x5 x6 x7:Option SV),δ=HR (.tuple [aY ps,bN ns]) (.tuple [aY ps',bN ns']) g x5 x6 x7 (ae (.own th))/\(∀d∈th,okTh d)/\th.length+ds.length=17/\(∀d∈ds,∃j:Int,d=.int j)/\n+5*(ds.length:Int)<=9030) (λδ n I=>?_) (λd' t δ n N I kN=>?_) _ _ _ ⟨_,_,_,_,rfl,Uq,by rw[eU];rfl,λd hd=>?_,by rw[eU];omega⟩
  ·obtain⟨th,y5,y6,y7,rfl,hth,htl,_,hn⟩:=I;have htl:th.length=17:=by simpa using htl
   have hn:n<=9030:=by simpa using hn
   dsimp only;refine aD (show b8 _ _ _ _ _ from pE (mo:=8) rfl rfl rfl pl' (by decide) (by omega) λL S n3 W hL hn3=>⟨rfl,?_⟩);dsimp only[bj,cn,aJ,Al];obtain⟨R,ok,lg,_⟩:=GG pl' hL W;refine aD (DY (xs:=th++g) (ys:=[.list R,.list [.tuple [.str "clock",.tuple []]]]) (λQ q=>ar (gf rfl (gf rfl ⟨fS (by omega),q⟩))) (fE (bg (λQ q=>bJ (au rfl (au rfl ⟨ps',ns',L,R,rfl,ok,q⟩))) (bg (fE (bg (eJ (bg cH (bg (eJ cF) cF))) cF)) cF))) ?_ ?_)
   ·rw[Af];show _+_+2<=_;omega
   dsimp only[Al];have all:∀d∈th++g++[PyData.list R,.list [.tuple [.str "clock",.tuple []]]],okTh d:=gA (gA hth λd hd=>(hg d hd).th) λd hd=>l5 (P:=okTh) lg.th (nA Ik) hd;refine gK rfl (bb (ar (bf (xk (λQ q=>au rfl q) ?_))));refine qf okTh (λ_=>aj) id (λd n Q' hd q=>gQ (k:=ai) (λQ q=>aE (k:=ai) (λQ q=>bJ (au rfl (au rfl ⟨ps,ns,d,rfl,pl,hd,q⟩))) q) q) (λd n Q' hd q=>au rfl q) _ [] ah _ all ?_;have fn:∀l:List Aa,l.filter (λ_=>aj)=[]:=λl=>List.filter_eq_nil_iff.mpr λ_ _ h=>absurd h Ae;rw[fn];exact jC rfl
  ·obtain⟨th,y5,y6,y7,rfl,hth,htl,hj,hn⟩:=I;obtain⟨j,rfl⟩:=hj _ As;rw[An]at hn htl;dsimp only[aJ,Al];refine jc rfl (bW (au rfl (ar (gf rfl (ar (au rfl (aC (Ah (show(0:Int) < 2 by decide) ?_))))))));refine pU (Eh _ (by decide)) (by rw[hg2];exact Dq _ (by decide)) λa ha=>?_;refine ar (gf rfl (ar (aC (ar (au rfl (aC (Ah (show(0:Int) < 2 by decide) ?_)))))));have m0:=Eh j (show(2:Int)≠0 by decide);have m1:=Dq j (show(0:Int) < 2 by decide);refine vL ?_;refine pU (by omega) (by rw[hg2];omega) λb hb=>?_;obtain⟨R1,rfl,l1,r1⟩:=hg a ha;obtain⟨R2,rfl,l2,r2⟩:=hg b hb;refine⟨R1,R2,rfl,l1,l2,r1,r2,by omega,λd n' hd hn'=>⟨by omega,?_⟩⟩;dsimp only[Al];exact kN _ _ ⟨th++[d],_,_,_,rfl,gA hth (gq hd),by rw[Af];show _+1+_=_;omega,λx hx=>hj x (Am _ hx),by omega⟩
  ·obtain⟨i,_,rfl⟩:=Bg.mp hd;exact⟨_,rfl⟩
 ·obtain⟨g,x5,x6,x7,rfl,hg,hgl,hix,hn⟩:=I;rw[An]at hn hgl;have ed:=hix 0 d' rfl;subst ed;dsimp only[aJ,Al];refine aD (show b8 _ _ _ _ _ from pE (mo:=16) rfl rfl rfl pl (by decide) (by omega) λL S n3 W hL hn3=>⟨rfl,?_⟩);dsimp only[bj,cn,aJ,Al];obtain⟨R,ok,lg,lt⟩:=GG pl hL W;refine aD (kZ (x:=.list R) rfl (λQ q=>bJ (au rfl (au rfl ⟨ps,ns,L,R,rfl,ok,q⟩))) (by omega) ?_);dsimp only[Al];have ea:cS (g++[PyData.list R]) ((g.length+0:Nat):Int)=ae (.list R):=fi (by rw[Nat.add_zero,B6 (Ao _),Nat.sub_self];rfl);have at_i:∀Q:DQ,Q (.d (.list R)) n3->aU (.ln (g++[.list R])) (.d (.int ((g.length+0:Nat):Int))) n3 Q:=λQ q=>show(match cS (g++[PyData.list R]) ((g.length+0:Nat):Int)with|some d=>Q (.d d) n3|none=>False) by rw[ea];exact q
  have is_t:∀Q:DQ,Q (.d (.bool aj)) n3->km ai (.d (.bool (gm ps ns (.list R)))) (.d (.bool ai)) n3 Q:=λQ q=>show Q (.d (.bool (gm ps ns (.list R) != ai))) n3 by rw[lt];exact q
  refine a8 (λQ q=>aE (k:=aj) (λQ q=>ar (bJ (au rfl (ar (gf rfl (au rfl (at_i _ ⟨ps,ns,.list R,rfl,pl,lg.th,aC (is_t Q q)⟩))))))) q) ?_;dsimp only[aM];refine kN _ _ ⟨g++[.list R],_,_,_,rfl,gA hg (gq lg),by rw[Af];show _+1+_=_;omega,λi d e=>?_,by omega⟩;rw[hix (i+1) d e,Af];show Dg ((g.length+(i+1):Nat):Int)=.int ((g.length+1+i:Nat):Int)
  congr 2
  omega
 ·have:bY 0 2=[.int 0,.int 1]:=rfl;rw[this]at e
  match i with
  |0=>cases e;rfl
  |1=>cases e;rfl
  |i+2=>cases e
end Nb
namespace Nb
open PySem L2
section
variable{P:Bf}{w:Bx}{K:Ag}{mg:Str->Option Aj}{base:Heap}
abbrev Zb:List Str:=["_law_script"]
theorem LB:FnScope Zb Zb (dB zi):=⟨rfl,rfl,rfl,by decide +kernel,rfl,by decide +kernel,by decide +kernel⟩
theorem JZ{f:Addr}{fd:Cm}(F:Fun K "_law_tape" "_law_tape" zi f fd):FnOk P w K mg base dO 1 f fd Zb (pb K):=by
 refine F.ok LB (λvs H Q E h=>?_) (λcdv A outer s H vs Q E hr h=>?_)
 ·obtain⟨a,ns,rfl,_⟩:=h;rfl
 ·obtain⟨a,ns,rfl,hS,hl,k⟩:=h;refine⟨_,nz (m6 (v3 (c6 (sr v7 (pv 0) DU (yC de)) (c6 de (c6 de (c6 (v3 (c6 sE (c6 sE (c6 sE (c6 de (c6 de (c6 de (c6 de eR)))))))) eR)))))),?_⟩;refine⟨_,rfl,_,rfl,a,_,rfl,hS,λp hp=>⟨small (by simp),λg hg=>⟨small (by simp),λq hq=>?_⟩⟩⟩;rw[Sy (by rw[Ab];exact hl)]at hg hq ⊢;have hgp:g≠p:=λz=>by rw[z,bQ]at hg;cases hg
  have hg0:H g=ah:=by rw[a9 hgp]at hg;exact hg
  have hqg:q≠g:=λz=>by rw[z,bQ]at hq;cases hq
  rw[a9 hqg]at hq;have hqp:q≠p:=λz=>by rw[z,bQ]at hq;cases hq
  have hq0:H q=ah:=by rw[a9 hqp]at hq;exact hq
  refine k q ⟨p,g⟩ _ ⟨⟨0,0,bQ,Int.le_refl _,Int.le_refl _⟩,by rw[a9 hqp.symm,a9 hgp.symm,bQ],hl,(λz=>by rw[a9 hqg.symm,bQ];rfl),hqg.symm⟩ λb o e=>?_;rw[a9 (cP e hq0),a9 (cP e hg0),a9 (cP e hp)];exact e
abbrev Zg:List Str:=["_law_tape_here","_law_many"]
theorem scDraw:FnScope ["_law_tape_here","_law_many","_law_found","_law_spot","_law_cell","_law_mixed"] Zg (dB HY):=⟨rfl,rfl,rfl,by decide +kernel,rfl,by decide +kernel,by decide +kernel⟩
theorem MK{R:Prop}{G:Int->Prop}(use:(∀c,G c)->R)(fin:∀c,G c):R:=use fin
theorem MR{R G:Prop}(use:G->R)(fin:G):R:=use fin
theorem OX{f:Addr}{fd:Cm}(F:Fun K "_law_draw" "_law_draw" HY f fd)(zl:mg "len"=ah):FnOk P w K mg base dO 1 f fd Zg zv:=by
 refine F.ok scDraw (λvs H Q E h=>?_) (λcdv A outer s H vs Q E hr h=>?_)
 ·obtain⟨t,l,ns,n,many,rfl,_⟩:=h;rfl
 ·obtain⟨t,l,ns,n,many,rfl,T,hn,hm0,hm1,k⟩:=h;obtain⟨a,b,ht,ha0,ha1⟩:=T.ob;have ntl:=T.ne;have hl:=T.ls;have hlen:=T.len;refine⟨_,iO (qx (kd op_gt (hX ix_list (pv 0) de (λ_ _=>rfl)) de (pV _))
    (iO (jz (i:=2) scDraw.nd rfl (Cp rfl) (eV kh (hX ix_list (pv 0) de (λ_ _=>rfl)) (pv 1)))
     (iO (nM (eV FP (hX ix_list (pv 0) de (λ_ _=>rfl)) (pv 1)) (m9 (pv 0) de nh))
     (nz (m6 (pv 2))))) sC)
   (iO (jz (i:=3) scDraw.nd rfl (Cp rfl) (hX ix_list (pv 0) de (λ_ _=>rfl)))
   (iO (nM (eV op_add (pv 3) de) (m9 (pv 0) de nh))
   (iO (jz (i:=4) scDraw.nd rfl (Cp rfl) de)
   (iO (qx (kd op_gt (ma sS (by rfl) zl PySem.boot_len (c6 (hX ix_list (pv 0) de (λ_ _=>rfl)) eR)) de (pV _))
    (nz (jz (i:=4) scDraw.nd rfl (Cp rfl) (hX ix_list (hX ix_list (pv 0) de (λ_ _=>rfl))
     (eV kh (pv 3) (ma sS (by rfl) zl PySem.boot_len (c6 (hX ix_list (pv 0) de (λ_ _=>rfl)) eR))) (λ_ _=>rfl)))) sC)
   (iO (qx (PW.pt (yo (kd Iz (pv 4) (eV OS de de) (pV _))
     (Gw (kd op_lt (pv 3) (ma sS (by rfl) zl PySem.boot_len (c6 (hX ix_list (pv 0) de (λ_ _=>rfl)) eR)) (pV _)))))
    (iO (nM (eV FP (pv 4) (pv 1)) (m9 (pv 0) de nh)) (nz (m6 (eV kh (pv 4) (pv 1))))) sC)
   (iO (jz (i:=5) scDraw.nd rfl (Cp rfl) (eV kh (eV mG (eV op_add (eV op_add (eV kh (pv 4) de) (eV mG (eV mG de (pv 3)) (pv 3))) de) de) de))
   (nz (m6 (eV kh (eV kh (eV mG (eV kh (eV op_add (eV mG (pv 5) de) (eV mG (pv 3) de)) de) de) de) (pv 1)))))))))),?_⟩
  refine⟨_,rfl,t,_,2,_,rfl,rfl,SqL.of ht,fi (j:=2) rfl,_,_,rfl,rfl,_,rfl,?_⟩;refine jY (λ_=>?_) (λ_=>?_)
  ·-- found=tape[2] % many;tape[2]=tape[2] // many;return found
   refine⟨_,rfl,t,_,2,_,rfl,rfl,SqL.of ht,fi (j:=2) rfl,_,rfl,_,_,rfl,rfl,hm0,?_⟩;refine⟨_,rfl,t,_,2,_,rfl,rfl,SqL.of ht,fi (j:=2) rfl,_,rfl,_,_,rfl,rfl,⟨hm0,hm1⟩,?_⟩;refine⟨_,rfl,t,_,2,2,rfl,rfl,ht,rfl,?_⟩;refine⟨_,rfl,?_⟩;refine k _ _ (Eh _ (by omega)) (Dq _ hm0) ⟨⟨a,b / many,bQ,ha0,by omega⟩,by rw[a9 ntl.symm];exact hl,hlen,(λz=>by rw[a9 T.gne];exact T.ag z),T.gne⟩ Kp.tape
  ·-- spot=tape[1];tape[1]=spot+1;cell=0
   refine⟨_,rfl,t,_,1,_,rfl,rfl,SqL.of ht,fi (j:=1) rfl,?_⟩;refine⟨_,rfl,_,_,rfl,rfl,_,rfl,t,_,1,1,rfl,rfl,ht,rfl,?_⟩;have ht1:∀o,upd H t o t=ae o:=λo=>bQ;have hl1:∀o,upd H t o l.s=ae (.lst (ns.map V.int)):=λo=>by rw[a9 ntl.symm];exact hl
   generalize hH1:upd H t (.lst (((.ref l.s::.int a::.int b::j9 l:List V)).set 1 (.int (a+1))))=H1;have g1:H1 t=ae (.lst (.ref l.s::.int (a+1)::.int b::j9 l)):=by rw[<-hH1];exact bQ
   have g2:H1 l.s=ae (.lst (ns.map V.int)):=by rw[<-hH1];exact hl1 _
   have g3:Kp t H H1:=by rw[<-hH1];exact Kp.tape
   have g4:pA=ai->H1 l.g=ae (.lst qX):=λz=>by rw[<-hH1,a9 T.gne];exact T.ag z
   refine⟨_,rfl,t,_,0,_,rfl,rfl,SqL.of g1,fi (j:=0) rfl,l.s,_,rfl,.inl (SqL.of g2),_,_,rfl,rfl,_,rfl,?_⟩;apply MK
   case use=>
    intro fin;refine jY (λhp=>?_) (λ_=>?_)
    ·have hpos:(0:Int) < ((ns.map V.int).length:Int):=of_decide_eq_true hp;obtain⟨v,hv,hm⟩:=Ox (xs:=ns.map V.int) (r:=a % ((ns.map V.int).length:Int)) (Eh _ (by omega)) (Dq _ hpos);obtain⟨c,_,rfl⟩:=Bg.mp hm;refine⟨_,rfl,t,_,0,_,rfl,rfl,SqL.of g1,fi (j:=0) rfl,_,rfl,_,rfl,t,_,0,_,rfl,rfl,SqL.of g1,fi (j:=0) rfl,l.s,_,rfl,.inl (SqL.of g2),_,_,rfl,rfl,hpos,l.s,_,_,.int c,rfl,rfl,SqL.of g2,hv,?_⟩;exact fin c
    ·exact fin 0
   case fin=>
    intro c;refine⟨_,rfl,_,_,rfl,rfl,⟨by decide,by decide,by decide⟩,_,_,rfl,rfl,_,rfl,?_⟩;apply MR
    case use=>
     intro fin;refine jY (λ_=>?_) (λ_=>?_)
     ·refine⟨_,rfl,_,rfl,t,_,0,_,rfl,rfl,SqL.of g1,fi (j:=0) rfl,l.s,_,rfl,.inl (SqL.of g2),_,_,rfl,rfl,_,rfl,?_⟩;refine jY (λ_=>?_) (λ_=>fin);refine⟨_,rfl,_,rfl,_,_,rfl,rfl,⟨hm0,hm1⟩,_,rfl,t,_,2,2,rfl,rfl,g1,rfl,_,rfl,_,rfl,_,_,rfl,rfl,hm0,?_⟩;exact k _ _ (Eh _ (by omega)) (Dq _ hm0) ⟨⟨a+1,_,bQ,by omega,by omega⟩,by rw[a9 ntl.symm];exact g2,hlen,(λz=>by rw[a9 T.gne];exact g4 z),T.gne⟩ (g3.trans Kp.tape)
     ·exact uM fin
    case fin=>
     refine⟨_,rfl,_,_,rfl,rfl,(by show(0:Int) < 999331;decide),_,rfl,_,_,rfl,rfl,.inl ⟨by decide,by decide⟩,_,rfl,_,_,rfl,rfl,.inl ⟨by omega,by omega⟩,_,_,rfl,rfl,_,_,rfl,rfl,_,_,rfl,rfl,.inr ⟨by decide,by decide⟩,_,_,rfl,rfl,(by show(0:Int) < 999961;decide),?_⟩;refine⟨_,rfl,_,_,rfl,rfl,.inr ⟨by decide,by decide⟩,_,rfl,_,_,rfl,rfl,.inr ⟨by decide,by decide⟩,_,_,rfl,rfl,_,_,rfl,rfl,(by show(0:Int) < 999953;decide),_,_,rfl,rfl,.inr ⟨by decide,by decide⟩,_,_,rfl,rfl,(by show(0:Int) < 524287;decide),_,rfl,_,_,rfl,rfl,hm0,?_⟩;exact k _ _ (Eh _ (by omega)) (Dq _ hm0) ⟨⟨a+1,b,g1,by omega,by omega⟩,g2,hlen,g4,T.gne⟩ g3
end
end Nb
namespace Nb
open PySem L2 DL
theorem Mr{α:Type}{us:List α}(h:us.length=1):∃a,us=[a]:=match us,h with|[a],_=>⟨a,rfl⟩
theorem Jn{α:Type}{us:List α}(h:us.length=2):∃a b,us=[a,b]:=match us,h with|[a,b],_=>⟨a,b,rfl⟩
theorem MG{α:Type}{us:List α}(h:us.length=3):∃a b c,us=[a,b,c]:=match us,h with|[a,b,c],_=>⟨a,b,c,rfl⟩
theorem Nn{α:Type}{us:List α}(h:us.length=4):∃a b c d,us=[a,b,c,d]:=match us,h with|[a,b,c,d],_=>⟨a,b,c,d,rfl⟩
theorem Kr{α:Type}{us:List α}(h:us.length=5):∃a b c d e,us=[a,b,c,d,e]:=match us,h with|[a,b,c,d,e],_=>⟨a,b,c,d,e,rfl⟩
theorem rP{N ps:List Str}{S:Ej}(h1:S.kind=.function:=by rfl)(h2:S.isCoroutine=aj:=by rfl)(h3:S.isGenerator=aj:=by rfl)(h4:N.Nodup:=by decide +kernel)(h5:N.take ps.length=ps:=by rfl)(h6:∀x∈ps,S.names.lookup x=ae .local\/S.names.lookup x=ae .cell:=by decide +kernel)(h7:∀y∈S.names,y.2≠.free:=by decide +kernel):FnScope N ps S:=⟨h1,h2,h3,h4,h5,h6,h7⟩
theorem uj{X:Cx}{e:Expr}{es:List Expr}{pos p:Pos}{tR:TA}{wR:fc}{k k':Nat}{ps:List Str}{S:bu}{x:Str}(h:Has X.prog X.w X.K X.mg X.base k x ps S)(hr:Room k' X.A)(ha:DA X (e::es) tR wR)(hk:k<=k')(hg:Gl X x)(hdb:(x==("__debug__":Str))=aj)(he:Aw (e::es) X.env=(aj,eval e X.env)::Aw es X.env)(hpl:(C5 pos (Aw es X.env)).any (·.1)=aj):DE X (.Call (.Name x p) (e::es) [] pos) (jA (fR S) [] E0 tR) (aF S wR):=T3 h (hr.mono hk) hg ha hdb he hpl
theorem wI{X:Cx}{e:Expr}{es:List Expr}{pos p:Pos}{tR:TA}{wR:fc}{k k':Nat}{ps:List Str}{S:eZ}{x:Str}(h:HasN X.prog X.w X.K X.mg X.base k x ps S)(hr:Room k' X.A)(ha:DA X (e::es) tR wR)(hk:k<=k')(hg:Gl X x)(hdb:(x==("__debug__":Str))=aj)(he:Aw (e::es) X.env=(aj,eval e X.env)::Aw es X.env)(hpl:(C5 pos (Aw es X.env)).any (·.1)=aj):DF X (.Call (.Name x p) (e::es) [] pos) (jA (nt S) [] E0 tR) (oA S wR):=KJ h (hr.mono hk) hg ha hdb he hpl
def O6:NameKind->Bool
 |.local=>ai
 |_=>aj
def zt:NameKind->Bool
 |.free=>ai
 |_=>aj
def qj(sc:Ej):List Str:=(sc.names.filter λy=>zt y.2).map (·.1)
def cN(sc:Ej):List Str:=((sc.names.drop 1).filter λy=>O6 y.2).map (·.1)++qj sc
def o7(sc:Ej)(cells:List (Str×Addr)):List (Str×Addr):=(qj sc).reverse.map λx=>(x,(cells.lookup x).getD 0)
def qN(sc:Ej):List (Str×NameKind):=sc.names.map λy=>(y.1,bif zt y.2 then .cell else y.2)
inductive Frs(X:Cx)(sc:Ej):List (Option Nat)->List Str->Prop
 |nil:Frs X sc [] []
 |own {f:List (Option Nat)} {x:Str} {N:List Str} (h:Frs X sc f N):Frs X sc (ah::f) (x::N)
 |free {f:List (Option Nat)} {x:Str} {N:List Str} {i:Nat} (h1:X.N[i]?=ae x) (h2:gh X.env.scope x) (h3:X.env.kindOf x=ae .cell\/X.env.kindOf x=ae .free) (h4:(qN sc).lookup x=ae .cell\/(qN sc).lookup x=ae .free) (h5:(o7 sc X.env.cells).lookup x=X.env.cells.lookup x) (h:Frs X sc f N):Frs X sc (ae i::f) (x::N)
theorem Frs.len{X:Cx}{sc:Ej}{f:List (Option Nat)}{N:List Str}(h:Frs X sc f N):f.length=N.length:=by
 induction h with
 |nil=>rfl
 |own _ ih=>rw[An,An,ih]
 |free _ _ _ _ _ _ ih=>rw[An,An,ih]
theorem Qv{X:Cx}{sc:Ej}{f:List (Option Nat)}(h1:closureFor sc X.env=pure (o7 sc X.env.cells))(h2:sc.kind=.function)(h3:∀y∈sc.names,y.2≠.cell)(h4:∀y∈sc.names,y.2=.local->sc.names.lookup y.1=ae .local)(h5:((qj sc).all λx=>(X.env.cells.lookup x).isSome)=ai)(h6:(relabel sc X.env).names=qN sc)(h7:∀y∈qN sc,(y.2=.cell\/y.2=.free)->y.1∈(qj sc).reverse)(h8:Frs X sc f (cN sc)):CompSc X (cN sc) sc (o7 sc X.env.cells) f:=by
 refine⟨h1,h2,h3,h4,Qq λy hy=>?_,PZ _ _ h6 (show(o7 sc X.env.cells).map (·.1)=(qj sc).reverse by unfold o7;rw[Cw];exact List.map_id' _) h7,h8.len,?_⟩
 ·obtain⟨x,hx,rfl⟩:=Bg.mp hy;obtain⟨c,hc⟩:=Dc.mp (C0.mp h5 x (List.mem_reverse.mp hx));show X.env.cells.lookup x=ae ((X.env.cells.lookup x).getD 0);rw[hc];rfl
 ·intro j i h;rw[h6];clear h1 h2 h3 h4 h5 h6 h7;generalize cN sc=N at h8 ⊢
  induction h8 generalizing j with
  |nil=>cases h
  |own _ ih=>cases j with
   |zero=>cases h
   |succ j=>exact ih j h
  |free a b c d e _ ih=>cases j with
   |zero=>cases h;exact⟨_,rfl,a,b,c,d,e⟩
   |succ j=>exact ih j h
theorem Jv{X:Cx}{sc:Ej}{f:List (Option Nat)}{N:List Str}(h:Frs X sc f N):Frs X sc f N:=h
theorem kC{X:Cx}{N:List Str}{sc:Ej}{cl:List (Str×Addr)}{s:Ar}{H:Hp}{fp:List Addr}{K:Ag}(h:X.K=K):(dj X N sc cl s H fp).K=K:=h
theorem nC{X:Cx}{N:List Str}{sc:Ej}{cl:List (Str×Addr)}{s:Ar}{H:Hp}{fp:List Addr}(h:N.Nodup):(dj X N sc cl s H fp).N.Nodup:=h
def zL:List Str:=["all","bool","dict","enumerate","int","isinstance","len","list","range","repr","sorted","str","tuple","zip"]
theorem zU{mg:Str->Option Aj}{x:Str}(z:∀x∈zL,mg x=ah)(h:x∈zL):mg x=ah:=z x h
theorem M4:By "sorted"=ae (.builtin "sorted"):=by decide +kernel
section
variable{P:Bf}{w:Bx}{K:Ag}{mg:Str->Option Aj}{base:Heap}{fa:Addr}{fd:Cm}
theorem RM{X:Cx}{e:Expr}{t:TE}{w:DT}(h:DE X e t w):DE X e t w:=h
theorem Mo{X:Cx}{e:List Expr}{t:TA}{w:fc}(h:DA X e t w):DA X e t w:=h
theorem Qw{X:Cx}{e:Stmt}{t:TS}{w:aP}(h:DS X e t w):DS X e t w:=h
theorem uW{X:Cx}{e:List Stmt}{t:TS}{w:aP}(h:DSs X e t w):DSs X e t w:=h
theorem SR{X:Cx}{e:Expr}{t:TT}{w:c8}(h:DC X e t w):DC X e t w:=h
theorem OD{X:Cx}{e:Expr}{t:TE}{w:fX}(h:DF X e t w):DF X e t w:=h
theorem Uw{X:Cx}{g e:Expr}{t:TI}{w:iq}(h:DI X g e t w):DI X g e t w:=h
theorem Pl{X:Cx}{b aQ:List Stmt}{st:Stmt}{T:TS}{W:aP}(e:b=st::aQ)(h:DSs X (st::aQ) T W):DSs X b T W:=e▸h
theorem pI{x:Str}{st:Stmt}{ps:List Str}(F:Fun K x x st fa fd)(h:∀(kV doc pm:Aj) (an:Option Addr) (cdv ct:Aj) (us:List Aj),us.length=ps.length->bindArgs (Ep x x (lK st) (gM st) (dB st) .none kV doc pm an cdv ct) ⟨us,[]⟩=pure (ps.zip us):=by
 intro _ _ _ _ _ _ us hl
 first
  |obtain⟨_,rfl⟩:=Mr hl;rfl
  |obtain⟨_,_,rfl⟩:=Jn hl;rfl
  |obtain⟨_,_,_,rfl⟩:=MG hl;rfl
  |obtain⟨_,_,_,_,rfl⟩:=Nn hl;rfl
  |obtain⟨_,_,_,_,_,rfl⟩:=Kr hl;rfl):Binds K fd ps []:=F.binds h
def wG(x:Str)(st:Stmt)(ps:List Str):Prop:=∀{K:Ag}{fa:Addr}{fd:Cm},Fun K x x st fa fd->Binds K fd ps []
def jh(P:Bf)(w:Bx)(K:Ag)(mg:Str->Option Aj)(base:Heap)(k:Nat)(x:Str)(i:Nat)(fa:Addr)(N:List Str)(b:List Stmt)(W:aP):Prop:=N.Nodup->∀(cdv:Aj)(A:Ce)(outer:List Env)(s:Ar)(H:Hp)(E:XK),Room k (A.deeper (Du x (dB (dJ i)) s.heap.objs.size fa cdv))->∃T,DSs (eD dO P w K mg base N x (dB (dJ i)) fa cdv A outer s H E).nox b T W
theorem rj{k:Nat}{x:Str}{i:Nat}{N:List Str}{b:List Stmt}{W:aP}(h:N.Nodup->∀(cdv:Aj) (A:Ce) (outer:List Env) (s:Ar) (H:Hp) (E:XK),Room k (A.deeper (Du x (dB (dJ i)) s.heap.objs.size fa cdv))->∃T,DSs (eD dO P w K mg base N x (dB (dJ i)) fa cdv A outer s H E).nox b T W:=by
 intro nd cdv A outer s H E hr;apply D9;apply Pl (by exact rfl)
 repeat' first
  |with_reducible first|exact QP|exact Pz|exact Tt|exact Jk|exact wF|exact PySem.boot_len|exact qz|exact F8|exact QG|exact M4|exact MU|exact uR
  |with_reducible first|apply Room.units|apply Room.units0|apply Room.hd|apply Room.gd
  |exact rfl
  |exact Cp rfl
  |exact Bz (Cp rfl)
  |exact Bz (Bz rfl)
  |exact Bz rfl
  | (with_reducible apply RM;with_reducible first|apply Oz|apply Md|apply LA|apply uj|apply LC|apply NT|apply ML|apply TU|apply Ng|apply qV (ED ?_) CZ ?_ ?_ ?_ ?_ ?_ ?_ ?_ ?_|apply Mv|apply SA|apply uk|apply PB|apply Lp|apply TH|apply SY|apply M1|apply xJ (Ig ?_) HD ?_ ?_ ?_ ?_ ?_ ?_ ?_ ?_|apply mr (qF ?_ ?_) xI|apply MH|apply qV (ED ?_) K2 ?_ ?_ ?_ ?_ ?_ ?_ ?_ ?_|apply OP|apply LY|apply xJ (Ig ?_) Uu ?_ ?_ ?_ ?_ ?_ ?_ ?_ ?_|apply Po|apply Pe|apply KC|apply qV (Uy ?_ ?_ ?_) Sq ?_ ?_ ?_ ?_ ?_ ?_ ?_ ?_|apply xJ (yJ ?_) Kx ?_ ?_ ?_ ?_ ?_ ?_ ?_ ?_|apply Nz|apply OW|apply Rt|apply Re|apply uB|apply T4|apply SO EH AC EH AC ?_ ?_ ?_ ?_|apply O5|apply TJ|apply Kg|apply LZ|apply QC|apply NU|apply S1|apply RT|apply Ke|apply mr (Ib ?_ ?_) uN|apply mr (rA ?_) lJ|apply mr uP AX|apply mr yU yO|apply mr (qF ?_ ?_) yg|apply qV (SE ?_) JH ?_ ?_ ?_ ?_ ?_ ?_ ?_ ?_|apply Pu|apply DF.d)
  | (with_reducible apply Mo;with_reducible first|apply Nc|apply Sr)
  | ((with_reducible apply Qw);first|((with_reducible apply RO);case hx=>exact rfl)|((with_reducible apply So);case hx=>exact rfl)|with_reducible first|apply Nl|apply Le|apply uy|apply K4|apply JD|apply PJ|apply Ks|apply Mg|apply MX|apply Qj|apply Nr|apply RY|apply Tf|apply Ls|apply Sw|apply Lb)
  | (with_reducible apply uW;with_reducible first|apply IS|apply MB|apply IY|apply P7)
  | ((with_reducible apply SR);first|(with_reducible apply DCW.cc;with_reducible first|apply cw_and|apply cw_or)|with_reducible first|apply gR (qF ?_ ?_) xI|apply gR (qF ?_ ?_) yg|apply N8|apply gR Q4 RB|apply gR yh zS|apply gR QO Qe|apply gR yh T2|apply gR (xl ?_) lJ|apply gR (rA ?_) lJ|apply gR yU yO|apply gR (Ib ?_ ?_) uN|apply gR (rA ?_) Kh|apply gR (Tv ?_ ?_) uN|apply JU|apply QI|apply LO|apply Jq|apply PM|apply gR uP Hq|apply gR uP AX|apply gR Jz MZ|apply NA)
  | (with_reducible apply OD;with_reducible first|apply P3|apply xy|apply OQ|apply ME|apply PR|apply OJ|apply wI)
  | (with_reducible apply Uw;with_reducible first|apply JL|apply Ux|apply QS|apply IB|apply T7)
  |with_reducible first|apply QD|apply Ly|apply Tz|apply Uh|apply OY|apply Kn|apply wz|apply Jg|apply cw_or|apply cw_or1|apply NF|apply cw_and|apply cw_and1|apply Io|apply Js|apply Mi|apply Qv
  |assumption
  |with_reducible first|apply kC|apply nC
  | ((with_reducible apply Jv);first|apply Frs.nil|apply Frs.own|apply Frs.free)
  |exact pV _
  |exact λ_ _=>rfl
  |exact λ_=>rfl
  |exact zU (by assumption) (by decide +kernel)
  |exact PassesOwn.never
  |exact⟨rfl,rfl,rfl,rfl⟩
  |with_unfolding_all rfl
  |decide
  |decide +kernel
  |omega
  |exact Bz (Bz (Cp rfl))
  |exact Bz (Bz (Bz (Cp rfl)))
  |exact Bz (Bz (Bz (Bz rfl)))
  |intro(_:Ar) _ _
  |exact(0:Int)):jh P w K mg base k x i fa N b W:=h
theorem aR{i p:Nat}{N:List Str}{S:bu}{W:aP}(k:Nat)(x:Str)(F:Fun K x x (dJ i) fa fd/\mg x=ae (.ref fa))(len:∀ws n Q,S ws n Q->ws.length=p)(body:∀ws n Q,S ws n Q->W (bE N ws) n {nx:=λ_ n=>Q (.d .none) n,rt:=Q})(hp:(N.take p).length=p:=by rfl)(Sc:FnScope N (N.take p) (dB (dJ i)):=by exact rP)(b:wG x (dJ i) (N.take p):=by intro _ _ _ F;exact pI F)
  (h:jh P w K mg base k x i fa N (gM (dJ i)) W:=by exact rj):Has P w K mg base (k+1) x (N.take p) S:=
 Has.mk' F.1 F.2 (b F.1) (Fun.okD F.1 Sc (λws n Q q=>by rw[hp];exact len ws n Q q) λcdv A outer s H E hr=>(h Sc.nd cdv A outer s H E hr).elim λT d=>⟨T,W,d,body⟩)
theorem vd{i p:Nat}{N:List Str}{S:eZ}{W:aP}(k:Nat)(x:Str)(F:Fun K x x (dJ i) fa fd/\mg x=ae (.ref fa))(len:∀ws n Q,S ws n Q->ws.length=p)(body:∀ws n Q,S ws n Q->W (bE N ws) n {nx:=λ_ _=>False,rt:=λ_ _=>False,rn:=Q})(hp:(N.take p).length=p:=by rfl)(Sc:FnScope N (N.take p) (dB (dJ i)):=by exact rP)(b:wG x (dJ i) (N.take p):=by intro _ _ _ F;exact pI F)
  (h:jh P w K mg base k x i fa N (gM (dJ i)) W:=by exact rj):HasN P w K mg base (k+1) x (N.take p) S:=
 HasN.mk' F.1 F.2 (b F.1) (Fun.okN F.1 Sc (λws n Q q=>by rw[hp];exact len ws n Q q) λcdv A outer s H E hr=>(h Sc.nd cdv A outer s H E hr).elim λT d=>⟨T,W,d,body⟩)
theorem vG{i p:Nat}{N:List Str}{S:Nat->bu}{W:bu->aP}(c0:Nat)(x:Str)(F:Fun K x x (dJ i) fa fd/\mg x=ae (.ref fa))(len:∀d ws n Q,S d ws n Q->ws.length=p)(z:∀ws n Q,¬S 0 ws n Q)(body:∀d ws n Q,S (d+1) ws n Q->W (S d) (bE N ws) n {nx:=λ_ n=>Q (.d .none) n,rt:=Q})(D:Nat)(hp:(N.take p).length=p:=by rfl)(Sc:FnScope N (N.take p) (dB (dJ i)):=by exact rP)(b:wG x (dJ i) (N.take p):=by intro _ _ _ F;exact pI F)
  (h:∀k d:Nat,c0<=k->Has P w K mg base k x (N.take p) (S d)->jh P w K mg base k x i fa N (gM (dJ i)) (W (S d)):=by intro k d hk hS;exact rj):Has P w K mg base (c0+D) x (N.take p) (S D):=by
 induction D with
 |zero=>exact Has.mk' F.1 F.2 (b F.1) ⟨λvs H Q E h=>(by obtain⟨_,_,_,_,_,_,_,_,_,_,_,q,_⟩:=h;exact absurd q (z _ _ _)),λA outer s H args us vs Q E hr he hb hv h=>(by obtain⟨_,_,_,_,_,_,_,_,_,_,_,q,_⟩:=h;exact absurd q (z _ _ _))⟩
 |succ d ih=>exact Has.mk' F.1 F.2 (b F.1) (Fun.okD F.1 Sc (λws n Q q=>by rw[hp];exact len (d+1) ws n Q q) λcdv A outer s H E hr=>(h (c0+d) d (Nat.le_add_right _ _) ih Sc.nd cdv A outer s H E hr).elim λT e=>⟨T,W (S d),e,body d⟩)
theorem O9{fT:Addr}{fdT:Cm}{i:Nat}{N:List Str}{W:aP}{s0:Stmt}{aQ:List Stmt}(k:Nat)(F:Fun K "law" "law" (dJ i) fa fd)(GT:FnOk P w K mg base dO 1 fT fdT Zb (pb K))(bT:Binds K fdT Zb [])(mT:mg "_law_tape"=ae (.ref fT))(kT:Co K (.ref fT)=ai)(hW:W (ah::ae (.w .tp)::C4 (N.length-2) ah) 0 pK)(e:gM (dJ i)=s0::aQ)(h0:N.Nodup->∀(cdv:Aj) (A:Ce) (outer:List Env) (s:Ar) (H:Hp) (E:XK),Room k (A.deeper (Du "law" (dB (dJ i)) s.heap.objs.size fa cdv))->PS (eD dO P w K mg base N "law" (dB (dJ i)) fa cdv A outer s H E).nox s0 (dv (jA (pb K) [] E0 (dI (cW 0) cy)) (ib 1)))(hN:∀v,start N [v]=ae v::ah::C4 (N.length-2) ah:=by intro _;rfl)(Sc:FnScope N Zb (dB (dJ i)):=by exact rP)
  (h:jh P w K mg base k "law" i fa N aQ W:=by exact rj):FnOk P w K mg base dO (k+1) fa fd Zb (DL.spLaw K):=
 OI F Sc GT bT mT kT hN hW λcdv A outer s H E hr=>(h Sc.nd cdv A outer s H E hr).elim λT d=>⟨s0,aQ,T,e,h0 Sc.nd cdv A outer s H E hr,d⟩
end
theorem zE(P:Params):(zL.map λx=>PySem.W.nsIn (KK P) Da x)=zL.map λ_=>ae ah:=by kernel_rfl
section
variable{P:Params}{h:Heap}{mg:Str->Option Aj}(X:(KK P).In h)(G:h.Ns Da mg)
include X G
theorem AF(j:Nat)(d:Ds)(e:dL[j]?=ae d):(Fun (KK P) d.x d.x (dJ d.i) d.f (lG d)/\mg d.x=ae (.ref d.f))/\Co (KK P) (.ref d.f)=ai:=by
 have q:=FZ (Qr P) e;obtain⟨q1,q2⟩:=Prod.mk.inj q;obtain⟨q2,q3⟩:=Prod.mk.inj q2;have k:Co (KK P) (.ref d.f)=ai:=by
  unfold Co;simp only[q2]
 exact⟨⟨Px q2 q3 k,PySem.W.mg_of X G q1⟩,k⟩
theorem zK(x:Str)(h:x∈zL):mg x=ah:=by
 obtain⟨j,e⟩:=Ca.mp h;exact PySem.W.mg_none_of X G (FZ (zE P) e)
end
abbrev pR:Bf:=PySem.W.OpenLaw.prog PySem.Challenge.rw_noteboard_k29_logs_let_by_or_not
structure Cv where
 P:Bf
 w:Bx
 K:Ag
 mg:Str->Option Aj
 base:Heap
abbrev hV(c:Cv):Prop:=Has c.P c.w c.K c.mg c.base 1 "_law_draw" Zg cq
abbrev Hb(c:Cv):Prop:=Has c.P c.w c.K c.mg c.base 1 "kind_of" ["thing"] lI
abbrev FW(c:Cv):Prop:=Has c.P c.w c.K c.mg c.base 8 "are_alike" ["one","other"] (ku 6)
abbrev Gr(c:Cv):Prop:=Has c.P c.w c.K c.mg c.base 1 "is_whole" ["thing"] qC
abbrev GP(c:Cv):Prop:=Has c.P c.w c.K c.mg c.base 1 "field_fits" ["field","value","having","bound"] jt
abbrev xD(c:Cv):Prop:=Has c.P c.w c.K c.mg c.base 2 "fits" ["pattern","row","names"] n9
abbrev BX(c:Cv):Prop:=Has c.P c.w c.K c.mg c.base 1 "next_value" ["value"] sI
abbrev xM(c:Cv):Prop:=Has c.P c.w c.K c.mg c.base 2 "field_value" ["field","having"] nq
abbrev FA(c:Cv):Prop:=Has c.P c.w c.K c.mg c.base 3 "filled" ["template","names"] rY
abbrev yi(c:Cv):Prop:=Has c.P c.w c.K c.mg c.base 1 "first_stand" ["plan"] qw
abbrev yf(c:Cv):Prop:=Has c.P c.w c.K c.mg c.base 2 "is_within" ["thing","most"] qW
abbrev rM(c:Cv):Prop:=Has c.P c.w c.K c.mg c.base 1 "next_act" ["programs","stand","hand"] h9
abbrev uG(c:Cv):Prop:=Has c.P c.w c.K c.mg c.base 3 "gets" ["programs","stand","hand"] lQ
abbrev va(c:Cv):Prop:=Has c.P c.w c.K c.mg c.base 1 "gone_on" ["place","names"] lE
abbrev vR(c:Cv):Prop:=Has c.P c.w c.K c.mg c.base 1 "gone_to" ["program","block","names"] m8
abbrev t9(c:Cv):Prop:=Has c.P c.w c.K c.mg c.base 1 "with_hand" ["hands","hand","place"] jI
abbrev yZ(c:Cv):Prop:=Has c.P c.w c.K c.mg c.base 4 "got" ["programs","stand","hand","act"] ni
abbrev BD(c:Cv):Prop:=Has c.P c.w c.K c.mg c.base 3 "is_same_value" ["act","names"] sD
abbrev zp(c:Cv):Prop:=Has c.P c.w c.K c.mg c.base 5 "hand_moved" ["programs","stand","hand"] qr
abbrev zA(c:Cv):Prop:=Has c.P c.w c.K c.mg c.base 1 "aged" ["note"] sq
abbrev Gv(c:Cv):Prop:=Has c.P c.w c.K c.mg c.base 2 "clock_moved" ["stand"] rg
abbrev GQ(c:Cv):Prop:=Has c.P c.w c.K c.mg c.base 6 "after" ["programs","stand","mover"] qo
abbrev Hu(c:Cv):Prop:=Has c.P c.w c.K c.mg c.base 2 "first_board" ["plan"] rQ
abbrev HJ(c:Cv):Prop:=Has c.P c.w c.K c.mg c.base 1 "clock_row" ["board"] sW
abbrev HS(c:Cv):Prop:=Has c.P c.w c.K c.mg c.base 4 "hand_row" ["programs","board","hand","behind"] qI
abbrev zD(c:Cv):Prop:=Has c.P c.w c.K c.mg c.base 5 "row_of" ["programs","board","mover","behind"] rk
abbrev yR(c:Cv):Prop:=Has c.P c.w c.K c.mg c.base 1 "went_by" ["row"] rN
abbrev EZ(c:Cv):Prop:=Has c.P c.w c.K c.mg c.base 2 "board_behind" ["board","row","behind"] tM
abbrev AM(c:Cv):Prop:=Has c.P c.w c.K c.mg c.base 7 "logged" ["programs","board","mover"] rG
abbrev FX(c:Cv):Prop:=Has c.P c.w c.K c.mg c.base 1 "mover_told" ["programs","row"] sR
abbrev vX(c:Cv):Prop:=Has c.P c.w c.K c.mg c.base 9 "lets_log" ["plan","thing"] m3
abbrev oI(c:Cv):Prop:=Has c.P c.w c.K c.mg c.base 2 "_law_value" Zc jT
abbrev qS(c:Cv):Prop:=Has c.P c.w c.K c.mg c.base 2 "_law_size" Zc ll
abbrev wU(c:Cv):Prop:=Has c.P c.w c.K c.mg c.base 2 "_law_age" Zc mZ
abbrev GY(c:Cv):Prop:=Has c.P c.w c.K c.mg c.base 3 "_law_pattern" Zd rE
abbrev Gq(c:Cv):Prop:=Has c.P c.w c.K c.mg c.base 3 "_law_template" Zd rX
abbrev HL(c:Cv):Prop:=Has c.P c.w c.K c.mg c.base 3 "_law_term" Zd nZ
abbrev BH(c:Cv):Prop:=Has c.P c.w c.K c.mg c.base 4 "_law_act" ["_law_tape_here","_law_known","_law_open_ones"] mI
abbrev HE(c:Cv):Prop:=Has c.P c.w c.K c.mg c.base 5 "_law_program" Zc tQ
abbrev EG(c:Cv):Prop:=Has c.P c.w c.K c.mg c.base 3 "_law_notes" ["_law_tape_here","_law_most"] pL
abbrev CV(c:Cv):Prop:=Has c.P c.w c.K c.mg c.base 6 "_law_plan" Zc pG
abbrev BE(c:Cv):Prop:=Has c.P c.w c.K c.mg c.base 1 "_law_fit" ["_law_pattern_here","_law_row_here","_law_names"] qU
abbrev Zf:List Str:=["_law_programs","_law_stand","_law_hand"]
abbrev o8(c:Cv):Prop:=Has c.P c.w c.K c.mg c.base 1 "_law_next_act" Zf h9
abbrev tD(c:Cv):Prop:=Has c.P c.w c.K c.mg c.base 2 "_law_got" Zf lX
abbrev ud(c:Cv):Prop:=Has c.P c.w c.K c.mg c.base 3 "_law_can" Zf ki
abbrev ue(c:Cv):Prop:=Has c.P c.w c.K c.mg c.base 1 "_law_filled" ["_law_template_here","_law_has"] ot
abbrev yj(c:Cv):Prop:=Has c.P c.w c.K c.mg c.base 1 "_law_to_block" ["_law_program_here","_law_names","_law_block"] kJ
abbrev BU(c:Cv):Prop:=Has c.P c.w c.K c.mg c.base 1 "_law_of_term" ["_law_term_here","_law_names"] n6
abbrev sv(c:Cv):Prop:=Has c.P c.w c.K c.mg c.base 3 "_law_move" ["_law_programs","_law_stand","_law_mover"] jS
abbrev xV(c:Cv):Prop:=HasN c.P c.w c.K c.mg c.base 4 "_law_movers" ["_law_programs","_law_stand"] rf
abbrev EC(c:Cv):Prop:=Has c.P c.w c.K c.mg c.base 5 "_law_walk" ["_law_tape_here","_law_programs","_law_stand","_law_most"] nc
abbrev qL(c:Cv):Prop:=Has c.P c.w c.K c.mg c.base 1 "_law_first" ["_law_plan_here"] kl
abbrev vH(c:Cv):Prop:=Has c.P c.w c.K c.mg c.base 3 "_law_row" ["_law_programs","_law_stand","_law_numbers","_law_fresh","_law_mover"] lq
abbrev AJ(c:Cv):Prop:=Has c.P c.w c.K c.mg c.base 4 "_law_log" ["_law_plan_here","_law_movers_here"] pQ
abbrev xW(c:Cv):Prop:=Has c.P c.w c.K c.mg c.base 1 "_law_up_to" ["_law_thing","_law_most"] mF
abbrev DZ(c:Cv):Prop:=Has c.P c.w c.K c.mg c.base 4 "_law_lets" ["_law_plan_here","_law_thing"] qA
abbrev He(c:Cv):Prop:=Has c.P c.w c.K c.mg c.base 2 "_law_bent_row" ["_law_tape_here","_law_row_here"] tq
abbrev GD(c:Cv):Prop:=Has c.P c.w c.K c.mg c.base 3 "_law_bent_log" ["_law_tape_here","_law_log_here","_law_other"] tO
abbrev zu(c:Cv):Prop:=Has c.P c.w c.K c.mg c.base 10 "_law_let_right" ["_law_plan_here","_law_thing"] sP
section
variable{c:Cv}(F:∀(j:Nat) (d:Ds),dL[j]?=ae d->(Fun c.K d.x d.x (dJ d.i) d.f (lG d)/\c.mg d.x=ae (.ref d.f))/\Co c.K (.ref d.f)=ai)(z:∀x∈zL,c.mg x=ah)(u0:c.mg "GREATEST_NUMBER"=ae (.int 99 204))(u1:c.mg "GETTING"=ae (.ref 67))(u2:∀H,SqT c.K H 67 ((Ze:List Str).map V.str))(u3:c.mg "GOT"=ae (.ref 153))(u4:gN c.K 153 [("take","takes"),("read","reads"),("look","looks")])
include F z u0 u1 u2 u3 u4
theorem Su:hV c:=Has.mk' (F 31 _ rfl).1.1 (F 31 _ rfl).1.2 (pI (F 31 _ rfl).1.1) (P0 (OX (F 31 _ rfl).1.1 (zU z (by decide +kernel))))
theorem LQ:Hb c:=aR (i:=1) 0 "kind_of" (F 0 _ rfl).1 Ll QA
theorem S9(h0:Hb c):FW c:=vG (S:=ku) (i:=2) 2 "are_alike" (F 1 _ rfl).1 Li (λ_ _ _ h=>h) P5 6
theorem RH:Gr c:=aR (i:=5) 0 "is_whole" (F 2 _ rfl).1 KF Tg
theorem OR:GP c:=aR (i:=7) 0 "field_fits" (F 3 _ rfl).1 Pr Ud
theorem PY(h0:GP c):xD c:=aR (i:=8) 1 "fits" (F 4 _ rfl).1 IG Qf
theorem MI:BX c:=aR (i:=9) 0 "next_value" (F 5 _ rfl).1 RL R7
theorem RF(h0:BX c):xM c:=aR (i:=10) 1 "field_value" (F 6 _ rfl).1 Kl Ko
theorem N0(h0:xM c):FA c:=aR (i:=11) 2 "filled" (F 7 _ rfl).1 IT NX
theorem KE:yi c:=aR (i:=14) 0 "first_stand" (F 8 _ rfl).1 Ss R8
theorem M6(h0:Gr c):yf c:=aR (i:=15) 1 "is_within" (F 9 _ rfl).1 Lf Rm
theorem ID:rM c:=aR (i:=17) 0 "next_act" (F 10 _ rfl).1 GE LL
theorem NQ(h0:xD c)(h1:rM c):uG c:=aR (i:=18) 2 "gets" (F 11 _ rfl).1 QF JI
theorem Mx:va c:=aR (i:=19) 0 "gone_on" (F 12 _ rfl).1 OM Tq
theorem ND:vR c:=aR (i:=20) 0 "gone_to" (F 13 _ rfl).1 Jm TK
theorem NM:t9 c:=aR (i:=21) 0 "with_hand" (F 14 _ rfl).1 NS IR
theorem Ut(h0:xD c)(h1:uG c)(h2:va c)(h3:vR c)(h4:t9 c):yZ c:=aR (i:=22) 3 "got" (F 15 _ rfl).1 SI KW
theorem MY(h0:xM c):BD c:=aR (i:=23) 2 "is_same_value" (F 16 _ rfl).1 Pp Ug
theorem Mf(h0:FA c)(h1:va c)(h2:vR c)(h3:yZ c)(h4:BD c)(h5:rM c)(h6:t9 c):zp c:=aR (i:=24) 4 "hand_moved" (F 17 _ rfl).1 Pq Kz
theorem Um:zA c:=aR (i:=25) 0 "aged" (F 18 _ rfl).1 Nd My
theorem Q8(h0:zA c):Gv c:=aR (i:=26) 1 "clock_moved" (F 19 _ rfl).1 Kt Ou
theorem NH(h0:Gv c)(h1:zp c)(h2:yf c):GQ c:=aR (i:=27) 5 "after" (F 20 _ rfl).1 Mb Qm
theorem Lr(h0:yi c):Hu c:=aR (i:=30) 1 "first_board" (F 21 _ rfl).1 J4 Ms
theorem JB:HJ c:=aR (i:=31) 0 "clock_row" (F 22 _ rfl).1 OH To
theorem SF(h0:uG c)(h1:rM c):HS c:=aR (i:=32) 3 "hand_row" (F 23 _ rfl).1 Tc Ot
theorem Ts(h0:HJ c)(h1:HS c):zD c:=aR (i:=33) 4 "row_of" (F 24 _ rfl).1 Td PQ
theorem Qh:yR c:=aR (i:=34) 0 "went_by" (F 25 _ rfl).1 Nj SX
theorem O0(h0:yR c):EZ c:=aR (i:=35) 1 "board_behind" (F 26 _ rfl).1 L1 OB
theorem Sb(h0:GQ c)(h1:EZ c)(h2:zD c):AM c:=aR (i:=36) 6 "logged" (F 27 _ rfl).1 Us O7
theorem Kk:FX c:=aR (i:=37) 0 "mover_told" (F 28 _ rfl).1 OZ IJ
theorem MO(h0:FW c)(h1:Hu c)(h2:AM c)(h3:FX c):vX c:=aR (i:=38) 8 "lets_log" (F 29 _ rfl).1 IQ K5
theorem La(h0:hV c):oI c:=aR (i:=42) 1 "_law_value" (F 32 _ rfl).1 Lq LK
theorem Pb(h0:hV c):qS c:=aR (i:=43) 1 "_law_size" (F 33 _ rfl).1 Qp Lk
theorem M9(h0:hV c):wU c:=aR (i:=44) 1 "_law_age" (F 34 _ rfl).1 Qb JA
theorem SK(h0:hV c)(h1:qS c)(h2:oI c):GY c:=aR (i:=45) 2 "_law_pattern" (F 35 _ rfl).1 Ld MT
theorem TY(h0:hV c)(h1:qS c)(h2:oI c):Gq c:=aR (i:=46) 2 "_law_template" (F 36 _ rfl).1 L6 JO
theorem KH(h0:hV c)(h1:oI c):HL c:=aR (i:=47) 2 "_law_term" (F 37 _ rfl).1 Oa TC
theorem MW(h0:wU c)(h1:hV c)(h2:GY c)(h3:Gq c)(h4:HL c):BH c:=aR (i:=48) 3 "_law_act" (F 38 _ rfl).1 Nh KO
theorem Qd(h0:BH c)(h1:hV c):HE c:=aR (i:=49) 4 "_law_program" (F 39 _ rfl).1 Oi Lm
theorem Om(h0:wU c)(h1:hV c)(h2:qS c)(h3:oI c):EG c:=aR (i:=50) 2 "_law_notes" (F 40 _ rfl).1 MF Ui
theorem N2(h0:hV c)(h1:EG c)(h2:HE c):CV c:=aR (i:=51) 5 "_law_plan" (F 41 _ rfl).1 JE QH
theorem KN:BE c:=aR (i:=52) 0 "_law_fit" (F 42 _ rfl).1 Qi SM
theorem Og:o8 c:=aR (i:=53) 0 "_law_next_act" (F 43 _ rfl).1 JN Mz
theorem Rh(h0:BE c)(h1:o8 c):tD c:=aR (i:=54) 1 "_law_got" (F 44 _ rfl).1 Se Mc
theorem Ky(h0:tD c)(h1:o8 c):ud c:=aR (i:=55) 2 "_law_can" (F 45 _ rfl).1 RE QM
theorem L8:ue c:=aR (i:=56) 0 "_law_filled" (F 46 _ rfl).1 Qg OU
theorem SQ:yj c:=aR (i:=57) 0 "_law_to_block" (F 47 _ rfl).1 MN Sh
theorem Ry:BU c:=aR (i:=58) 0 "_law_of_term" (F 48 _ rfl).1 N9 Jy
theorem SD(h0:ue c)(h1:tD c)(h2:o8 c)(h3:BU c)(h4:yj c):sv c:=aR (i:=59) 2 "_law_move" (F 49 _ rfl).1 JP P1
theorem Uj(h0:ud c):xV c:=vd (i:=60) 3 "_law_movers" (F 50 _ rfl).1 LX IP
theorem O3(h0:hV c)(h1:sv c)(h2:xV c):EC c:=aR (i:=61) 4 "_law_walk" (F 51 _ rfl).1 OK IU
theorem UA:qL c:=aR (i:=62) 0 "_law_first" (F 52 _ rfl).1 Hf K0
theorem L0(h0:ue c)(h1:tD c)(h2:o8 c):vH c:=aR (i:=63) 2 "_law_row" (F 53 _ rfl).1 P6 JQ
theorem Ub(h0:qL c)(h1:sv c)(h2:vH c):AJ c:=aR (i:=64) 3 "_law_log" (F 54 _ rfl).1 QL Jl
theorem Ri:xW c:=aR (i:=65) 0 "_law_up_to" (F 55 _ rfl).1 RS NC
theorem Ov(h0:ud c)(h1:qL c)(h2:sv c)(h3:vH c)(h4:xW c):DZ c:=aR (i:=66) 3 "_law_lets" (F 56 _ rfl).1 Ka Kj
theorem Rg(h0:hV c):He c:=aR (i:=67) 1 "_law_bent_row" (F 57 _ rfl).1 Qa Km
theorem L5(h0:He c)(h1:hV c):GD c:=aR (i:=68) 2 "_law_bent_log" (F 58 _ rfl).1 RK RX
theorem LD(h0:DZ c)(h1:vX c):zu c:=aR (i:=69) 9 "_law_let_right" (F 59 _ rfl).1 K7 Od
theorem Jx(h0:GD c)(h1:qL c)(h2:zu c)(h3:AJ c)(h4:CV c)(h5:EC c)(h6:vX c):FnOk c.P c.w c.K c.mg c.base dO 11 (Ds.f ⟨70,"law",770,457,1,405,aj,773,6⟩) (lG ⟨70,"law",770,457,1,405,aj,773,6⟩) Zb (DL.spLaw c.K):=by
 have bT:=pI (ps:=Zb) (F 30 _ rfl).1.1;have GT:=JZ (P:=c.P) (w:=c.w) (mg:=c.mg) (base:=c.base) (F 30 _ rfl).1.1;exact O9 (i:=70) (N:=Za) 10 (F 60 _ rfl).1.1 GT bT (F 30 _ rfl).1.2 (F 30 _ rfl).2 IW rfl λnd cdv A outer s H E hr=>jz (i:=1) nd rfl (Cp rfl) (uc GT (hr.mono (by decide)) rfl (F 30 _ rfl).1.2 (F 30 _ rfl).2 bT .nil uJ (c6 (pv 0) eR))
end
theorem S6(c:Cv)(F:∀(j:Nat) (d:Ds),dL[j]?=ae d->(Fun c.K d.x d.x (dJ d.i) d.f (lG d)/\c.mg d.x=ae (.ref d.f))/\Co c.K (.ref d.f)=ai)(z:∀x∈zL,c.mg x=ah)(u0:c.mg "GREATEST_NUMBER"=ae (.int 99 204))(u1:c.mg "GETTING"=ae (.ref 67))(u2:∀H,SqT c.K H 67 ((Ze:List Str).map V.str))(u3:c.mg "GOT"=ae (.ref 153))(u4:gN c.K 153 [("take","takes"),("read","reads"),("look","looks")]):FnOk c.P c.w c.K c.mg c.base dO 11 (Ds.f ⟨70,"law",770,457,1,405,aj,773,6⟩) (lG ⟨70,"law",770,457,1,405,aj,773,6⟩) Zb (DL.spLaw c.K):=by
 have a__law_draw:=Su F z u0 u1 u2 u3 u4;have a_kind_of:=LQ F z u0 u1 u2 u3 u4;have a_are_alike:=S9 F z u0 u1 u2 u3 u4 a_kind_of;have a_is_whole:=RH F z u0 u1 u2 u3 u4;have a_field_fits:=OR F z u0 u1 u2 u3 u4;have a_fits:=PY F z u0 u1 u2 u3 u4 a_field_fits;have a_next_value:=MI F z u0 u1 u2 u3 u4;have a_field_value:=RF F z u0 u1 u2 u3 u4 a_next_value;have a_filled:=N0 F z u0 u1 u2 u3 u4 a_field_value;have a_first_stand:=KE F z u0 u1 u2 u3 u4;have a_is_within:=M6 F z u0 u1 u2 u3 u4 a_is_whole;have a_next_act:=ID F z u0 u1 u2 u3 u4;have a_gets:=NQ F z u0 u1 u2 u3 u4 a_fits a_next_act;have a_gone_on:=Mx F z u0 u1 u2 u3 u4;have a_gone_to:=ND F z u0 u1 u2 u3 u4;have a_with_hand:=NM F z u0 u1 u2 u3 u4;have a_got:=Ut F z u0 u1 u2 u3 u4 a_fits a_gets a_gone_on a_gone_to a_with_hand;have a_is_same_value:=MY F z u0 u1 u2 u3 u4 a_field_value;have a_hand_moved:=Mf F z u0 u1 u2 u3 u4 a_filled a_gone_on a_gone_to a_got a_is_same_value a_next_act a_with_hand;have a_aged:=Um F z u0 u1 u2 u3 u4;have a_clock_moved:=Q8 F z u0 u1 u2 u3 u4 a_aged;have a_after:=NH F z u0 u1 u2 u3 u4 a_clock_moved a_hand_moved a_is_within;have a_first_board:=Lr F z u0 u1 u2 u3 u4 a_first_stand;have a_clock_row:=JB F z u0 u1 u2 u3 u4;have a_hand_row:=SF F z u0 u1 u2 u3 u4 a_gets a_next_act;have a_row_of:=Ts F z u0 u1 u2 u3 u4 a_clock_row a_hand_row;have a_went_by:=Qh F z u0 u1 u2 u3 u4;have a_board_behind:=O0 F z u0 u1 u2 u3 u4 a_went_by;have a_logged:=Sb F z u0 u1 u2 u3 u4 a_after a_board_behind a_row_of;have a_mover_told:=Kk F z u0 u1 u2 u3 u4;have a_lets_log:=MO F z u0 u1 u2 u3 u4 a_are_alike a_first_board a_logged a_mover_told;have a__law_value:=La F z u0 u1 u2 u3 u4 a__law_draw;have a__law_size:=Pb F z u0 u1 u2 u3 u4 a__law_draw;have a__law_age:=M9 F z u0 u1 u2 u3 u4 a__law_draw;have a__law_pattern:=SK F z u0 u1 u2 u3 u4 a__law_draw a__law_size a__law_value;have a__law_template:=TY F z u0 u1 u2 u3 u4 a__law_draw a__law_size a__law_value;have a__law_term:=KH F z u0 u1 u2 u3 u4 a__law_draw a__law_value;have a__law_act:=MW F z u0 u1 u2 u3 u4 a__law_age a__law_draw a__law_pattern a__law_template a__law_term;have a__law_program:=Qd F z u0 u1 u2 u3 u4 a__law_act a__law_draw;have a__law_notes:=Om F z u0 u1 u2 u3 u4 a__law_age a__law_draw a__law_size a__law_value;have a__law_plan:=N2 F z u0 u1 u2 u3 u4 a__law_draw a__law_notes a__law_program;have a__law_fit:=KN F z u0 u1 u2 u3 u4;have a__law_next_act:=Og F z u0 u1 u2 u3 u4;have a__law_got:=Rh F z u0 u1 u2 u3 u4 a__law_fit a__law_next_act;have a__law_can:=Ky F z u0 u1 u2 u3 u4 a__law_got a__law_next_act;have a__law_filled:=L8 F z u0 u1 u2 u3 u4;have a__law_to_block:=SQ F z u0 u1 u2 u3 u4;have a__law_of_term:=Ry F z u0 u1 u2 u3 u4;have a__law_move:=SD F z u0 u1 u2 u3 u4 a__law_filled a__law_got a__law_next_act a__law_of_term a__law_to_block;have a__law_movers:=Uj F z u0 u1 u2 u3 u4 a__law_can;have a__law_walk:=O3 F z u0 u1 u2 u3 u4 a__law_draw a__law_move a__law_movers;have a__law_first:=UA F z u0 u1 u2 u3 u4;have a__law_row:=L0 F z u0 u1 u2 u3 u4 a__law_filled a__law_got a__law_next_act;have a__law_log:=Ub F z u0 u1 u2 u3 u4 a__law_first a__law_move a__law_row;have a__law_up_to:=Ri F z u0 u1 u2 u3 u4;have a__law_lets:=Ov F z u0 u1 u2 u3 u4 a__law_can a__law_first a__law_move a__law_row a__law_up_to;have a__law_bent_row:=Rg F z u0 u1 u2 u3 u4 a__law_draw;have a__law_bent_log:=L5 F z u0 u1 u2 u3 u4 a__law_bent_row a__law_draw;have a__law_let_right:=LD F z u0 u1 u2 u3 u4 a__law_lets a_lets_log;exact Jx F z u0 u1 u2 u3 u4 a__law_bent_log a__law_first a__law_let_right a__law_log a__law_plan a__law_walk a_lets_log
theorem all_K(w:Bx)(mg:Str->Option Aj)(fa:Addr)(h:Heap)(X:(KK w.params).In h)(G:h.Ns Da mg)(hfa:mg "law"=ae (.ref fa)):
  ∃fd:Cm,(∀(s:Ar)(u:Aj),BindsTo s fd ⟨[u],[]⟩ [("_law_script",u)])/\∀base:Heap,(KK w.params).In base->base.Ns Da mg->FnOk pR w (KK w.params) mg base dO 11 fa fd Zb (DL.spLaw (KK w.params)):=by
 have e:=hfa.symm.trans (AF X G 60 ⟨70,"law",770,457,1,405,aj,773,6⟩ rfl).1.2;cases e;exact⟨lG ⟨70,"law",770,457,1,405,aj,773,6⟩,λs v=>.of_eq rfl,λbase _ _=>S6 ⟨pR,w,KK w.params,mg,base⟩ (λj d e=>AF X G j d e) (zK X G) (PySem.W.mg_of X G (by kernel_rfl)) (PySem.W.mg_of X G (by kernel_rfl)) (λH=>.inr ⟨_,_,_,(show(KK w.params).lookup 67=ae (oT "tuple" (.seq #[(.str "take" 261),(.str "read" 262),(.str "look" 263)] 0)) by kernel_rfl),rfl,rfl,show 3<=Ay by decide,(.cons ⟨_,rfl⟩ (.cons ⟨_,rfl⟩ (.cons ⟨_,rfl⟩ .nil)))⟩) (PySem.W.mg_of X G (by kernel_rfl)) ⟨by decide,_,_,_,(show(KK w.params).lookup 153=ae (oT "dict" (.dict #[(eN w.params "take" 393 (.str "takes" 394)),(eN w.params "read" 395 (.str "reads" 396)),(eN w.params "look" 397 (.str "looks" 398))] 3)) by kernel_rfl),⟨rfl,rfl,rfl⟩,rfl,(.cons rfl ⟨_,rfl⟩ (.cons rfl ⟨_,rfl⟩ (.cons rfl ⟨_,rfl⟩ .nil)))⟩⟩
theorem walk{l:PySem.W.OpenLaw}{q:Bf}{loose:List Str}{XP:(Str->Option Aj)->Heap->Prop}{YP:Bx->Heap->Prop}{d:DefRec}{K:Params->Ag}(hn:l.most=ae 63)(hdf:d.params.defaults=[])
  (hY:∀(w:Bx)(h:Heap),YP w h->(K w.params).In h)
  (F:∀(w:Bx)(mg:Str->Option Aj)(fa:Addr)(h:Heap),(K w.params).In h->h.Ns Da mg->mg d.name=ae (.ref fa)->
   ∃fd:Cm,(∀(s:Ar)(u:Aj),BindsTo s fd ⟨[u],[]⟩ [("_law_script",u)])/\∀base:Heap,(K w.params).In base->base.Ns Da mg->FnOk l.prog w (K w.params) mg base dO 11 fa fd Zb (DL.spLaw (K w.params))):
  PySem.W.WalkO q loose XP YP l.row.toRowW d [] (λf vs=>PySem.call f vs):=
 L2.walk_of (n:=63) (k:=11) (x:="_law_script") (CX:=λ_=>dO) (sp:=λw=>DL.spLaw (K w.params)) hn (by decide) hdf ⟨rfl,by decide,by decide,rfl⟩ hY F (λ_ _ a ns hl _ hS=>⟨a,ns,rfl,hS,hl,λ_=>rfl⟩) λ_ _ _ _ _ z=>z
end Nb
open PySem PySem.W PyProof.Rows
set_option maxRecDepth 100000 in
set_option maxHeartbeats 0 in
theorem PySem.Challenge.cw_noteboard_k29_logs_let_by_or_not_holds : PySem.Challenge.rw_noteboard_k29_logs_let_by_or_not.Holds := by
 refine holds_law Nb.said_ λsaid=>?_;refine holds_open (q:=Nb.qq) (loose:=Nb.lO) (Xt:=Nb.xT) (XP:=XL Nb.qq []) (Yf:=Hook.obs Nb.hK) (Ya:=Hook.val Nb.hK) (YP:=Hook.says Nb.hK) (d:=Nb.dW) (kwd:=[]) (N:=3000) Nb.left_ (Hook.of Nb.hK) (Hook.keeps Nb.hK) (λs e=>xl_of s (Bool.and_eq_true_iff.mp e).1) XL.keeps (by kernel_rfl) (by kernel_rfl) (by kernel_rfl) (λs e=>recFacts_of (Bool.and_eq_true_iff.mp e).2) (by kernel_rfl) said (by decide +kernel) ⟨rfl,rfl,rfl,rfl,rfl,by decide +kernel⟩ ?hw ?hc
 (case hw=>w_witness2)
 exact Nb.walk (l:=PySem.Challenge.rw_noteboard_k29_logs_let_by_or_not) (by kernel_rfl) (by kernel_rfl) (λw h Y=>kIn_of Y) Nb.all_K
